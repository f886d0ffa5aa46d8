import PyProof.Rows.All
import Wide.All
import OpenK.AllK
import Wide.FinOn
import Lean
import PyProof.EqAt
import PyProof.EqKinds
import PyProof.TupleCall
import PyProof.NeData
import PyProof.EqLayable
import PyProof.ConsumeWalk
import PyProof.StrWalks
import PyProof.FString5
import PyProof.CallStr
import KE.KDictList
import KE.KDictSum
import PyProof.Rows.SortWalk
import PyProof.ListRange
import PyProof.EnumFor
import PyProof.EnumMake
import PyProof.EnumStmt
import PyProof.DictWalks
import PyProof.DictItems
import KE.KEqDict
import PyProof.Claim2Refuses
import KE.KDictLaws
import PyProof.WalkInts
import KE.KSortTup
import KE.KNest
import KE.KLam
import KE.KNestM
import PyProof.DictUpdate
import KE.KMinKey
import PyProof.MeetsStr
import PyProof.ZipIter
import PyProof.Rows.ZipGen
import PyProof.TupleIter
import PyProof.WalksMore
import PyProof.StrLawsIn
import PyProof.StrBlockH
import PyProof.Rows.StrSplitMax
import PyProof.Rows.StrNews2
import KE.KIntText
import KE.KTabLook
import KE.KDictOf
import PyProof.AttrMissHeap
import PyProof.StationsW
import PyProof.ExcClass2
import PyProof.ExcInit
import PyProof.Rows.FStr
import PyProof.FString
import PyProof.ExcBaseAll.ValueError
import OpenK.KOwn
import PyProof.RulesAs
import PyProof.NsDelKeeps
import KE.KIsAll
import PyProof.ExcArgs
import OpenK.KCls
import PyProof.InstStoreFacts
import OpenK.KMake
import PySem.Challenge.RW_roadnet_k81_nets_written_and_read
set_option Elab.async false
set_option linter.all false
set_option maxRecDepth 100000
namespace L2
open PySem PySem.Spec PyProof.Rows
abbrev Key := Sum Int Str
def keyIs : Key → Value → Bool
  | .inl k, v => Value.isInt k v
  | .inr x, v => Value.isStrOf x v
def keyH (w : World) : Key → Int
  | .inl k => hashInt k
  | .inr x => hashStr w x
theorem keyIs_shape : ∀ {k : Key} {v : Value}, keyIs k v = true → (∃ i t, k = Sum.inl i ∧ v = Value.int i t) ∨ (∃ x t, k = Sum.inr x ∧ v = Value.str x t)
  | .inl i, v, h => by
    obtain ⟨t, e⟩ := Value.isInt_shape (k := i) (v := v) h
    exact .inl ⟨i, t, rfl, e⟩
  | .inr x, v, h => by
    obtain ⟨t, e⟩ := Value.isStrOf_shape (x := x) (v := v) h
    exact .inr ⟨x, t, rfl, e⟩
theorem keyIs_int (i : Int) (t : Tok) : keyIs (.inl i) (.int i t) = true := by simp [keyIs, Value.isInt]
theorem keyIs_str (x : Str) (t : Tok) : keyIs (.inr x) (.str x t) = true := by simp [keyIs, Value.isStrOf]
theorem key_ll (a b : Int) : decide ((Sum.inl a : Key) = Sum.inl b) = (a == b) := by
  by_cases e : a = b
  · subst e; simp
  · have h : ¬ (Sum.inl a : Key) = Sum.inl b := fun q => e (Sum.inl.inj q)
    rw [decide_eq_false h]
    exact (beq_eq_false_iff_ne.mpr e).symm
theorem key_rr (a b : Str) : decide ((Sum.inr a : Key) = Sum.inr b) = decide (a = b) := by
  by_cases e : a = b
  · subst e; simp
  · have h : ¬ (Sum.inr a : Key) = Sum.inr b := fun q => e (Sum.inr.inj q)
    rw [decide_eq_false h, decide_eq_false e]
theorem key_lr (a : Int) (b : Str) : decide ((Sum.inl a : Key) = Sum.inr b) = false := decide_eq_false (fun q => nomatch q)
theorem key_rl (a : Str) (b : Int) : decide ((Sum.inr a : Key) = Sum.inl b) = false := decide_eq_false (fun q => nomatch q)
def mixKind (prog : Program) (w : World) : PySem.KeyKind prog w Key where
  is := keyIs
  hash := keyH w
  inj := fun v a b ha hb => by
    rcases keyIs_shape ha with ⟨i, t, rfl, rfl⟩ | ⟨x, t, rfl, rfl⟩
    · rcases keyIs_shape hb with ⟨j, u, rfl, e⟩ | ⟨y, u, rfl, e⟩
      · injection e with e1 _; rw [e1]
      · exact nomatch e
    · rcases keyIs_shape hb with ⟨j, u, rfl, e⟩ | ⟨y, u, rfl, e⟩
      · exact nomatch e
      · injection e with e1 _; rw [e1]
  byValue := fun k v h => by
    rcases keyIs_shape h with ⟨i, t, rfl, rfl⟩ | ⟨x, t, rfl, rfl⟩ <;> rfl
  pyHash := fun hv h => by
    rcases keyIs_shape hv with ⟨i, t, rfl, rfl⟩ | ⟨x, t, rfl, rfl⟩
    · exact wpAny_pyHash_int h
    · exact wpAny_pyHash_str h
  eqBool := fun hu hv h => by
    rcases keyIs_shape hu with ⟨i, t, rfl, rfl⟩ | ⟨x, t, rfl, rfl⟩
    · rcases keyIs_shape hv with ⟨j, u, rfl, rfl⟩ | ⟨y, u, rfl, rfl⟩
      · rw [key_ll] at h; exact wpAny_eqBool_int h
      · rw [key_lr] at h; exact SeqAt.EqAt.int_str i t y u _ _ _ _ h
    · rcases keyIs_shape hv with ⟨j, u, rfl, rfl⟩ | ⟨y, u, rfl, rfl⟩
      · rw [key_rl] at h; exact SeqAt.EqAt.str_int x t j u _ _ _ _ h
      · rw [key_rr] at h; exact wpAny_eqBool_str h
  «strs» := fun k x t v h => by
    rcases keyIs_shape h with ⟨i, u, rfl, e⟩ | ⟨y, u, rfl, e⟩
    · exact nomatch e
    · injection e with e1 _
      subst e1
      cases v <;> rfl
theorem mixKind_int (prog : Program) (w : World) (i : Int) (t : Tok) : (mixKind prog w).is (.inl i) (.int i t) = true := keyIs_int i t
theorem mixKind_str (prog : Program) (w : World) (x : Str) (t : Tok) : (mixKind prog w).is (.inr x) (.str x t) = true := keyIs_str x t
end L2
namespace L2
open PySem PySem.Spec PyProof.Rows
inductive V where
  | non | bl (b : Bool) | int (i : Int) | str (x : Str) | byt (b : Array UInt8) | flt (b : UInt64) | ref (a : Addr) | ty (n : String)
  deriving DecidableEq
def RelV : V → Value → Prop
  | .non, u => u = Value.none
  | .bl b, u => u = Value.bool b
  | .int i, u => ∃ t, u = Value.int i t
  | .str x, u => ∃ t, u = Value.str x t
  | .byt b, u => ∃ t, u = Value.bytes b t
  | .flt b, u => ∃ t, u = Value.float b t
  | .ref a, u => u = Value.ref a
  | .ty n, u => u = Value.type n
abbrev Vals : List V → List Value → Prop := Paired RelV
theorem Vals.length {xs : List V} {us : List Value} (r : Vals xs us) : xs.length = us.length := Paired.length r
theorem Vals.get : ∀ {xs : List V} {us : List Value} {i : Nat} {x : V}, Vals xs us → xs[i]? = some x → ∃ u, us[i]? = some u ∧ RelV x u
  | _, _, _, _, .nil, e => by simp at e
  | _, _, 0, _, .cons r _, e => by simp at e; subst e; exact ⟨_, rfl, r⟩
  | _, _, i + 1, x, .cons _ t, e => by
    obtain ⟨u, h1, h2⟩ := Vals.get (i := i) (x := x) t (by simpa using e)
    exact ⟨u, by simpa using h1, h2⟩
theorem Vals.set {x : V} {u : Value} (r : RelV x u) : ∀ {xs : List V} {us : List Value} (i : Nat), Vals xs us → Vals (xs.set i x) (us.set i u)
  | _, _, _, .nil => .nil
  | _, _, 0, .cons _ t => .cons r t
  | _, _, i + 1, .cons q t => .cons q (Vals.set r i t)
theorem Vals.append : ∀ {xs ys : List V} {us ws : List Value}, Vals xs us → Vals ys ws → Vals (xs ++ ys) (us ++ ws)
  | _, _, _, _, .nil, s => s
  | _, _, _, _, .cons r t, s => .cons r (Vals.append t s)
theorem Vals.take : ∀ {xs : List V} {us : List Value} (n : Nat), Vals xs us → Vals (xs.take n) (us.take n)
  | _, _, 0, _ => .nil
  | _, _, _ + 1, .nil => .nil
  | _, _, n + 1, .cons r t => .cons r (Vals.take n t)
theorem Vals.drop : ∀ {xs : List V} {us : List Value} (n : Nat), Vals xs us → Vals (xs.drop n) (us.drop n)
  | _, _, 0, r => r
  | _, _, _ + 1, .nil => .nil
  | _, _, n + 1, .cons _ t => Vals.drop n t
def RelO : Option V → Option Value → Prop
  | some v, some u => RelV v u
  | none, none => True
  | _, _ => False
def KV {κ : Type} : List (κ × V) → List (κ × Value) → Prop := Paired fun (p : κ × V) (q : κ × Value) => p.1 = q.1 ∧ RelV p.2 q.2
def kV : Key → V
  | .inl i => .int i
  | .inr x => .str x
inductive HO where
  | lst (xs : List V)
  | tup (xs : List V)
  | dK (kvs : List (Key × V)) | dT (kvs : List (List Key × V))
  | set (S : Int → Bool) (n : Nat)
  | ins (C dx : Addr) (fs : List (Str × V))
  | own (x : Addr)
  | xd (fs : List (Str × V))
  | met (f x : Addr)
  | rng (lo hi : Int)
  | frz (o : Obj) (u : HO)
  | tbl (ps : Array Value)
  | ext (φ : Heap → Prop)
abbrev Hp := Addr → Option HO
def upd (H : Hp) (a : Addr) (o : HO) : Hp := fun b => if b = a then some o else H b
theorem upd_same {H : Hp} {a : Addr} {o : HO} : upd H a o a = some o := by unfold upd; rw [if_pos rfl]
theorem upd_ne {H : Hp} {a b : Addr} {o : HO} (h : b ≠ a) : upd H a o b = H b := by unfold upd; rw [if_neg h]
theorem upd_upd {H : Hp} {a : Addr} {o u : HO} : upd (upd H a o) a u = upd H a u := by
  funext b; unfold upd; split <;> rfl
theorem ne_of {H : Hp} {a b : Addr} {o u : HO} (h : H a = some o) (h' : H b = some u) (d : o ≠ u) : a ≠ b := by
  intro e; subst e; rw [h] at h'; exact d (Option.some.inj h')
theorem ne_of_none {H : Hp} {a b : Addr} {o : HO} (h : H a = some o) (h' : H b = none) : a ≠ b := by
  intro e; subst e; rw [h] at h'; cases h'
section
variable (P : Program) (w : World)
def ObjOk (H : Hp) (h : Heap) (a : Addr) : HO → Prop
  | .lst xs => xs.length ≤ sizeLine ∧ ∃ (its : List Value) (n : Nat), Vals xs its ∧ h.get? a = some { cls := .type "list", data := .seq its.toArray n }
  | .tup xs => xs.length ≤ sizeLine ∧ ∃ its : List Value, Vals xs its ∧ IsTup h a its.toArray
  | .dK kvs => kvs.length ≤ sizeLine ∧ (a == sysModules) = false ∧ ∃ vs, KV kvs vs ∧ h.DictOf (mixKind P w) a vs
  | .dT kvs => kvs.length ≤ sizeLine ∧ (a == sysModules) = false ∧ ∃ xs : List (List Key × Addr × Value),
      Paired (fun (p : List Key × V) (q : List Key × Addr × Value) => p.1 = q.1 ∧ H q.2.1 = some (.tup (p.1.map kV)) ∧ RelV p.2 q.2.2) kvs xs ∧
      ∃ o es ep, h.get? a = some o ∧ o.ExactDict ∧ o.data = .dict es ep ∧ es.toList = xs.map (entryOfKey (tupleKind (mixKind P w))) ∧ (xs.map (·.1)).Nodup
  | .set S n => h.SetOf (intKind P w) a S n
  | .ins C dx fs => H dx = some (.own a) ∧ fs.length ≤ 1000 ∧ dx ≠ a ∧ h.get? a = some (PySem.W.instObj C dx) ∧
      ∃ mA, h.Ns1 dx mA ∧ (∀ f, RelO (fs.lookup f) (mA f)) ∧ PySem.Within mA (fs.map (·.1))
  | .own _ => ∃ o, h.get? a = some o
  | .xd fs => ∃ mA, h.Ns1 a mA ∧ ∀ f, RelO (fs.lookup f) (mA f)
  | .rng lo hi => ∃ t u v, h.get? a = some { cls := .type "range", data := .fields #[.int lo t, .int hi u, .int 1 v] }
  | .frz o u => h.get? a = some o ∧ ObjOk H h a u
  | .tbl ps => h.get? a = some { cls := .none, data := .fields ps }
  | .met f x => h.get? a = some (PySem.W.methodObj (.ref f) (.ref x))
  | .ext φ => φ h ∧ (∃ o, h.get? a = some o) ∧ ∀ h1 h2 : Heap, φ h1 → (∀ o, h1.get? a = some o → h2.get? a = some o) → φ h2
def HOk (H : Hp) (h : Heap) : Prop := ∀ a o, H a = some o → ObjOk P w H h a o
end
section
variable {P : Program} {w : World} {H H' : Hp} {h h' : Heap} {a : Addr} {o : HO}
theorem ObjOk.lt (x : ObjOk P w H h a o) : a < h.objs.size := by
  cases o with
  | lst xs => obtain ⟨_, _, _, _, e⟩ := x; exact Heap.lt_size e
  | tup xs => obtain ⟨_, _, _, p⟩ := x; exact p.lt
  | dK kvs => obtain ⟨_, _, _, _, o, _, _, e, _⟩ := x; exact Heap.lt_size e
  | dT kvs => obtain ⟨_, _, _, _, o, _, _, e, _⟩ := x; exact Heap.lt_size e
  | set S n => obtain ⟨o, _, _, _, e, _⟩ := x; exact Heap.lt_size e
  | ins C dx fs => obtain ⟨_, _, _, e, _⟩ := x; exact Heap.lt_size e
  | own y => obtain ⟨_, e⟩ := x; exact Heap.lt_size e
  | xd fs => obtain ⟨_, ⟨_, _, _, e, _⟩, _⟩ := x; exact Heap.lt_size e
  | rng lo hi => obtain ⟨_, _, _, e⟩ := x; exact Heap.lt_size e
  | frz ob u => obtain ⟨e, _⟩ := x; exact Heap.lt_size e
  | tbl ps => exact Heap.lt_size (show h.get? a = some _ from x)
  | met f y => exact Heap.lt_size (show h.get? a = some _ from x)
  | ext φ => obtain ⟨_, ⟨_, e⟩, _⟩ := x; exact Heap.lt_size e
theorem Paired.mapP {α β : Type} {F G : α → β → Prop} : ∀ {l₁ : List α} {l₂ : List β}, Paired F l₁ l₂ → (∀ a b, F a b → G a b) → Paired G l₁ l₂
  | _, _, .nil, _ => .nil
  | _, _, .cons r t, f => .cons (f _ _ r) (Paired.mapP t f)
theorem ObjOk.stay (x : ObjOk P w H h a o) (k : ∀ b u, (b = a ∨ H b = some (.own a)) → h.get? b = some u → h'.get? b = some u)
    (ho : ∀ b, H b = some (.own a) → H' b = some (.own a)) (ht : ∀ b xs, H b = some (.tup xs) → H' b = some (.tup xs)) : ObjOk P w H' h' a o := by
  induction o with
  | lst xs => obtain ⟨z, its, n, r, e⟩ := x; exact ⟨z, its, n, r, k _ _ (.inl rfl) e⟩
  | tup xs => obtain ⟨z, its, r, ob, e, c⟩ := x; exact ⟨z, its, r, ob, k _ _ (.inl rfl) e, c⟩
  | dK kvs => obtain ⟨z, y, vs, r, ob, es, ep, e, c⟩ := x; exact ⟨z, y, vs, r, ob, es, ep, k _ _ (.inl rfl) e, c⟩
  | dT kvs =>
    obtain ⟨z, y, xs, r, ob, es, ep, e, c⟩ := x
    exact ⟨z, y, xs, Paired.mapP r fun p q z => ⟨z.1, ht _ _ z.2.1, z.2.2⟩, ob, es, ep, k _ _ (.inl rfl) e, c⟩
  | set S n => obtain ⟨ob, es, ep, t, e, c⟩ := x; exact ⟨ob, es, ep, t, k _ _ (.inl rfl) e, c⟩
  | ins C dx fs =>
    obtain ⟨d, z, ne, e, mA, ⟨od, es, ep, e2, c⟩, r⟩ := x
    exact ⟨ho _ d, z, ne, k _ _ (.inl rfl) e, mA, ⟨od, es, ep, k _ _ (.inr d) e2, c⟩, r⟩
  | own y => obtain ⟨ob, e⟩ := x; exact ⟨ob, k _ _ (.inl rfl) e⟩
  | xd fs => obtain ⟨mA, ⟨od, es, ep, e, c⟩, r⟩ := x; exact ⟨mA, ⟨od, es, ep, k _ _ (.inl rfl) e, c⟩, r⟩
  | rng lo hi => obtain ⟨t, u, v, e⟩ := x; exact ⟨t, u, v, k _ _ (.inl rfl) e⟩
  | frz ob u ih => obtain ⟨e, q⟩ := x; exact ⟨k _ _ (.inl rfl) e, ih q⟩
  | tbl ps =>
    have e : h.get? a = some { cls := .none, data := .fields ps } := x
    show h'.get? a = some { cls := .none, data := .fields ps }
    exact k a _ (.inl rfl) e
  | met f y =>
    have e : h.get? a = some (PySem.W.methodObj (.ref f) (.ref y)) := x
    show h'.get? a = some (PySem.W.methodObj (.ref f) (.ref y))
    exact k a _ (.inl rfl) e
  | ext φ => obtain ⟨p, ⟨o, e⟩, st⟩ := x; exact ⟨st _ _ p fun o q => k _ _ (.inl rfl) q, ⟨o, k _ _ (.inl rfl) e⟩, st⟩
theorem HOk.lt (x : HOk P w H h) (e : H a = some o) : a < h.objs.size := (x a o e).lt
theorem HOk.fresh (x : HOk P w H h) (e : h.objs.size ≤ a) : H a = none := by
  cases q : H a with
  | none => rfl
  | some u => exact absurd (Nat.lt_of_lt_of_le (x.lt q) e) (Nat.lt_irrefl _)
theorem HOk.kept (x : HOk P w H h) (k : ∀ b u, h.get? b = some u → h'.get? b = some u) : HOk P w H h' := fun a o e =>
  (x a o e).stay (fun b u _ q => k b u q) (fun _ q => q) fun _ _ q => q
theorem HOk.laid (x : HOk P w H h) (k : ∀ b u, h.get? b = some u → h'.get? b = some u) (hp : h.objs.size ≤ a) (new : ObjOk P w (upd H a o) h' a o) : HOk P w (upd H a o) h' := fun b u e => by
  have hn := x.fresh hp
  by_cases hb : b = a
  · subst hb; rw [upd_same] at e; cases e; exact new
  · rw [upd_ne hb] at e
    exact (x b u e).stay (fun c v _ q => k c v q) (fun c q => by rw [upd_ne (ne_of_none q hn)]; exact q) fun c xs q => by rw [upd_ne (ne_of_none q hn)]; exact q
end
def Rd (H : Hp) (a : Addr) (u : HO) : Prop := H a = some u ∨ ∃ o, H a = some (.frz o u)
theorem Rd.ok {P : Program} {w : World} {H : Hp} {h : Heap} {a : Addr} {u : HO} (r : Rd H a u) (x : HOk P w H h) : ObjOk P w H h a u := by
  rcases r with r | ⟨o, r⟩
  · exact x a u r
  · obtain ⟨_, q⟩ := x a _ r
    exact q
def Mut : Option HO → Prop
  | some (.lst _) => True
  | some (.dK _) => True
  | some (.dT _) => True
  | some (.set _ _) => True
  | some (.ins _ _ _) => True
  | some (.ext _) => True
  | _ => False
section
variable {P : Program} {w : World} {H : Hp} {h h' : Heap} {x e : Addr} {o' : HO}
theorem HOk.write (ok : HOk P w H h) (mu : Mut (H x)) (he : e = x ∨ H e = some (.own x)) (k : ∀ b u, b ≠ e → h.get? b = some u → h'.get? b = some u) (heo : ∃ u, h'.get? e = some u)
    (new : ObjOk P w (upd H x o') h' x o') : HOk P w (upd H x o') h' := fun b u q => by
  have nown : ∀ c y, H c = some (.own y) → c ≠ x := fun c y r z => by subst z; rw [r] at mu; exact mu
  have ntup : ∀ c xs, H c = some (.tup xs) → c ≠ x := fun c xs r z => by subst z; rw [r] at mu; exact mu
  by_cases hb : b = x
  · subst hb; rw [upd_same] at q; cases q; exact new
  · rw [upd_ne hb] at q
    by_cases hbe : b = e
    · have q' : H b = some (.own x) := by
        rcases he with z | z
        · exact absurd (hbe.trans z) hb
        · rw [hbe]; exact z
      rw [q] at q'; cases q'
      obtain ⟨v, hv⟩ := heo
      exact ⟨v, by rw [hbe]; exact hv⟩
    · refine (ok b u q).stay (fun c v hc r => k c v ?_ r) (fun c r => by rw [upd_ne (nown c b r)]; exact r) fun c xs r => by rw [upd_ne (ntup c xs r)]; exact r
      rcases hc with rfl | hc
      · exact hbe
      · rintro rfl
        rcases he with z | z
        · exact nown c b hc z
        · rw [hc] at z; cases z; exact hb rfl
end
structure Un (fs ex : List Addr) (H H' : Hp) (h h' : Heap) : Prop where
  keep : ∀ b o, h.get? b = some o → H b = none → b ∉ fs → b ∉ ex → h'.get? b = some o
  slot : ∀ b o, h.get? b = some o → H b = none → b ∈ fs → b ∉ ex → ∃ sl, h'.get? b = some { o with slots := sl }
  free : ∀ b o, h.get? b = some o → H b = none → b ∉ ex → H' b = none
  there : ∀ b o, h.get? b = some o → b ∉ ex → ∃ o', h'.get? b = some o'
  tups : ∀ b xs, H b = some (.tup xs) → H' b = some (.tup xs)
  frzs : ∀ b o u, H b = some (.frz o u) → H' b = some (.frz o u)
  tbls : ∀ b ps, H b = some (.tbl ps) → ∃ more, H' b = some (.tbl (ps ++ more))
section
variable {fs fs' ex ex' : List Addr} {H H1 H2 : Hp} {h h1 h2 h' : Heap} {a x e : Addr} {o : HO}
theorem Un.any (u : Un fs ex H H1 h h1) {b : Addr} {ob : Obj} (q : h.get? b = some ob) (n : H b = none) (hx : b ∉ ex) : ∃ sl, h1.get? b = some { ob with slots := sl } := by
  by_cases hb : b ∈ fs
  · exact u.slot b ob q n hb hx
  · exact ⟨ob.slots, u.keep b ob q n hb hx⟩
theorem Un.kept (k : ∀ b u, h.get? b = some u → h'.get? b = some u) : Un fs ex H H h h' :=
  ⟨fun b ob q _ _ _ => k b ob q, fun b ob q _ _ _ => ⟨ob.slots, k b ob q⟩, fun _ _ _ n _ => n, fun b ob q _ => ⟨ob, k b ob q⟩, fun _ _ q => q, fun _ _ _ q => q, fun _ ps q => ⟨#[], by rw [q]; simp⟩⟩
theorem Un.refl : Un fs ex H H h h := Un.kept fun _ _ q => q
theorem Un.laid (k : ∀ b u, h.get? b = some u → h'.get? b = some u) (hp : h.objs.size ≤ a) (hn : H a = none) : Un fs ex H (upd H a o) h h' where
  keep := fun b u q _ _ _ => k b u q
  slot := fun b u q _ _ _ => ⟨u.slots, k b u q⟩
  free := fun b u q n _ => by rw [upd_ne (Nat.ne_of_lt (Nat.lt_of_lt_of_le (Heap.lt_size q) hp))]; exact n
  there := fun b u q _ => ⟨u, k b u q⟩
  tups := fun b xs q => by rw [upd_ne (ne_of_none q hn)]; exact q
  frzs := fun b u xs q => by rw [upd_ne (ne_of_none q hn)]; exact q
  tbls := fun b ps q => ⟨#[], by rw [upd_ne (ne_of_none q hn), q]; simp⟩
theorem Un.write (mu : Mut (H x)) (he : e = x ∨ H e = some (.own x)) (k : ∀ b u, b ≠ e → h.get? b = some u → h'.get? b = some u) (heo : ∃ u, h'.get? e = some u) : Un fs ex H (upd H x o) h h' := by
  have hx : ∀ b, H b = none → b ≠ x := fun b n z => by subst z; rw [n] at mu; exact mu
  have hb : ∀ b, H b = none → b ≠ e := fun b n z => by
    subst z
    rcases he with r | r
    · exact hx b n r
    · rw [n] at r; cases r
  have hm : ∀ b u, H b = some u → ¬ Mut (some u) → b ≠ x := fun b u q nm z => by subst z; rw [q] at mu; exact nm mu
  refine ⟨fun b u q n _ _ => k b u (hb b n) q, fun b u q n _ _ => ⟨u.slots, k b u (hb b n) q⟩, fun b u q n _ => by rw [upd_ne (hx b n)]; exact n, fun b u q _ => ?_,
    fun b xs q => by rw [upd_ne (hm b _ q fun z => z)]; exact q, fun b u xs q => by rw [upd_ne (hm b _ q fun z => z)]; exact q, fun b ps q => ⟨#[], by rw [upd_ne (hm b _ q fun z => z), q]; simp⟩⟩
  by_cases hbe : b = e
  · subst hbe; exact heo
  · exact ⟨u, k b u hbe q⟩
end
def trk (h : Heap) (H : Hp) : List Addr := (List.range h.objs.size).filter fun a => (H a).isSome
def hidT (h : Heap) (H : Hp) : Heap := PySem.W.hideAll h (trk h H)
theorem hidT_size (h : Heap) (H : Hp) : (hidT h H).objs.size = h.objs.size := PySem.W.hideAll_size _ _
theorem hidT_get {h : Heap} {H : Hp} {b : Addr} {o : Obj} (e : h.get? b = some o) (n : H b = none) : (hidT h H).get? b = some o :=
  PySem.W.hideAll_get _ e fun hm => by
    have q : (H b).isSome = true := (List.mem_filter.mp hm).2
    rw [n] at q; simp at q
theorem of_hidT {h : Heap} {H : Hp} {b : Addr} {o : Obj} (e : (hidT h H).get? b = some o) : h.get? b = some o ∧ H b = none := by
  have e' : h.get? b = some o := PySem.W.of_hideAll (trk h H) e
  refine ⟨e', ?_⟩
  cases q : H b with
  | none => rfl
  | some x =>
    have hm : b ∈ trk h H := List.mem_filter.mpr ⟨List.mem_range.mpr (Heap.lt_size e'), by simp [q]⟩
    have z : (hidT h H).get? b = none := PySem.W.hideAll_none (trk h H) hm
    rw [z] at e; cases e
def allNews (g h : Heap) (L : Addr) : List (Addr × Obj) := (List.range h.objs.size).filterMap fun a => if a = L ∨ (g.get? a).isSome = true then none else (h.get? a).map fun o => (a, o)
def rest (g h : Heap) (L d : Addr) : List (Addr × Obj) := (allNews g h L).filter fun p => decide (p.1 ≠ d)
end L2
namespace L2
open PySem PySem.Spec PyProof.Rows
structure Mod (K : PySem.W.Frag) (mg : Str → Option Value) (base : Heap) : Prop where
  kin : K.In base
  glob : base.Ns mainGlobals mg
  blt : ∃ mb, base.Ns builtinsNs mb ∧ ∀ x : Str, x ≠ "__name__" → mb x = bootBuiltins x
  nolimit : base.NoLimit
structure Cx where
  prog : Program
  w : World
  K : PySem.W.Frag
  mg : Str → Option Value
  base : Heap
  A : Around
  N : List Str
  s₀ : Shared
  H₀ : Hp
  env : Env
  outer : List Env
  stack : List Env
  ex : List Addr
  fn : Str → Bool
  calm : Bool
  pn : List (Addr × Obj)
  xe : Value → Shared → Prop
def frs (l : List Env) : List Addr := l.filterMap (·.frame)
abbrev Cx.fs (X : Cx) : List Addr := frs X.outer
def Vis (sc : Scope) (x : Str) : Prop := sc.names.lookup x = some .local ∨ sc.names.lookup x = some .cell ∨ sc.names.lookup x = some .free
def Loc (sc : Scope) (x : Str) : Prop := sc.names.lookup x = some .local ∨ sc.names.lookup x = some .cell
def Look (env : Env) (h : Heap) (m : Str → Option Value) (x : Str) (u : Value) : Prop :=
  (env.kindOf x = some .local ∧ m x = some u) ∨ ((env.kindOf x = some .cell ∨ env.kindOf x = some .free) ∧ ∃ c, env.cells.lookup x = some c ∧ h.IsCell c (some u))
structure Cx.Ok (X : Cx) : Prop where
  mod : Mod X.K X.mg X.base
  kind : X.env.scope.kind = .function
  glob : X.env.globals = mainGlobals
  blt : X.env.builtins = builtinsNs
  above : X.s₀.heap.objs.size ≤ X.env.locals
  inj : ∀ x y c, X.env.cells.lookup x = some c → X.env.cells.lookup y = some c → x = y
  has : ∀ x, (X.env.kindOf x = some .cell ∨ X.env.kindOf x = some .free) → ∃ c, X.env.cells.lookup x = some c
  cab : ∀ x c, X.fn x = true → X.env.cells.lookup x = some c → X.s₀.heap.objs.size ≤ c
  hd : X.calm = true → X.A.handled = none
  frames : X.A.frames = some X.stack
  stk : X.stack = X.outer ∨ (X.stack = X.env :: X.outer ∧ X.env.frame = some X.env.locals)
  exf : ∀ b ∈ X.ex, b ≠ X.env.locals ∧ ∀ x c, X.env.cells.lookup x = some c → c ≠ b
  bs : ∀ b o, X.base.get? b = some o → X.s₀.heap.get? b = some o ∧ X.H₀ b = none
  bsz : X.base.objs.size ≤ X.s₀.heap.objs.size
  noex : ∀ b o, X.base.get? b = some o → b ∉ X.ex
  exfs : ∀ b ∈ X.ex, b ∉ X.fs
  funs : X.s₀.heap.FunFrames X.base X.outer
  frf : ∀ b ∈ X.fs, X.H₀ b = none
structure Inv (X : Cx) (pins : List (Addr × Obj)) (σ : List (Option V)) (H : Hp) (s : Shared) : Prop where
  ok : X.Ok
  os : s.os = X.s₀.os
  bare : AllBare s.gens
  base : Un X.fs X.ex X.H₀ H X.s₀.heap s.heap
  loc : ∃ m, s.heap.Ns X.env.locals m ∧ ∀ (i : Nat) (x : Str) (v : V), X.N[i]? = some x → σ[i]? = some (some v) → Vis X.env.scope x → ∃ u, RelV v u ∧ Look X.env s.heap m x u
  cell : ∀ x c, X.env.cells.lookup x = some c → ∃ v, s.heap.IsCell c v
  free : H X.env.locals = none
  freeC : ∀ x c, X.env.cells.lookup x = some c → H c = none
  pin : ∀ p ∈ X.pn ++ pins, s.heap.get? p.1 = some p.2 ∧ H p.1 = none ∧ p.1 ≠ X.env.locals ∧ p.1 ∉ X.fs ∧ ∀ v, p.2.data ≠ .cell v
  hok : HOk X.prog X.w H s.heap
  len : σ.length = X.N.length
section
variable {X : Cx} {pins : List (Addr × Obj)} {σ : List (Option V)} {H H' : Hp} {s : Shared} {h' : Heap}
theorem Cx.Ok.nofr (ok : X.Ok) {b : Addr} {o : Obj} (e : X.base.get? b = some o) : b ∉ X.fs := fun hb => by
  have := (ok.funs.mem hb).1
  rw [e] at this; cases this
theorem Inv.bs (I : Inv X pins σ H s) : ∀ b o, X.base.get? b = some o → s.heap.get? b = some o ∧ H b = none := fun b o e =>
  ⟨I.base.keep b o (I.ok.bs b o e).1 (I.ok.bs b o e).2 (I.ok.nofr e) (I.ok.noex b o e), I.base.free b o (I.ok.bs b o e).1 (I.ok.bs b o e).2 (I.ok.noex b o e)⟩
theorem Inv.bk (I : Inv X pins σ H s) : ∀ b o, X.base.get? b = some o → s.heap.get? b = some o := fun b o e => (I.bs b o e).1
theorem Inv.mod (I : Inv X pins σ H s) : Mod X.K X.mg X.base := I.ok.mod
theorem Inv.kIn (I : Inv X pins σ H s) : X.K.In s.heap := I.ok.mod.kin.keeps I.bk
theorem Inv.lt (I : Inv X pins σ H s) : X.env.locals < s.heap.objs.size := let ⟨_, hn, _⟩ := I.loc; hn.lt
theorem Inv.sz (I : Inv X pins σ H s) : X.s₀.heap.objs.size ≤ s.heap.objs.size := Nat.le_trans I.ok.above (Nat.le_of_lt I.lt)
theorem Inv.nofs (I : Inv X pins σ H s) {a : Addr} (h : s.heap.objs.size ≤ a) : a ∉ X.fs := fun hb => by
  obtain ⟨_, o, ho, _⟩ := I.ok.funs.mem hb
  exact absurd (Nat.lt_of_lt_of_le (Heap.lt_size ho) (Nat.le_trans I.sz h)) (Nat.lt_irrefl _)
theorem Inv.cne (I : Inv X pins σ H s) : ∀ x c, X.env.cells.lookup x = some c → c ≠ X.env.locals := fun x c e z => by
  obtain ⟨v, o, ho, hd⟩ := I.cell x c e
  obtain ⟨m, ⟨o', es, ep, ho', hd', _⟩, _⟩ := I.loc
  rw [z, ho'] at ho; cases ho; rw [hd'] at hd; cases hd
theorem Inv.funs (I : Inv X pins σ H s) : s.heap.FunFrames X.base X.outer := by
  have all : ∀ (l : List Env), (∀ b ∈ frs l, b ∈ X.fs) → X.s₀.heap.FunFrames X.base l → s.heap.FunFrames X.base l := by
    intro l
    induction l with
    | nil => intro _ _; trivial
    | cons env r ih =>
      intro hs hl
      obtain ⟨hk, ⟨L, o, hf, hn, ho, hd⟩, hr⟩ := hl
      have hL : L ∈ X.fs := hs L (by unfold frs; rw [List.filterMap_cons, hf]; exact List.mem_cons_self)
      obtain ⟨sl, e⟩ := I.base.slot L o ho (I.ok.frf L hL) hL fun z => I.ok.exfs L z hL
      exact ⟨hk, ⟨L, _, hf, hn, e, hd⟩, ih (fun b hb => hs b (by unfold frs; rw [List.filterMap_cons, hf]; exact List.mem_cons_of_mem _ hb)) hr⟩
  exact all X.outer (fun _ hb => hb) I.ok.funs
theorem Inv.stack (I : Inv X pins σ H s) : s.heap.FunFrames X.base X.stack := by
  rcases I.ok.stk with e | ⟨e, hf⟩
  · rw [e]; exact I.funs
  · rw [e]
    obtain ⟨m, hn, _⟩ := I.loc
    refine .cons (by rw [I.ok.kind]; decide) hf hn ?_ I.funs
    exact Heap.get?_none_of_le (Nat.le_trans I.ok.bsz I.ok.above)
theorem Inv.stkSub (I : Inv X pins σ H s) : ∀ b ∈ frs X.stack, b ∈ X.env.locals :: X.fs := fun b hb => by
  rcases I.ok.stk with e | ⟨e, hf⟩
  · rw [e] at hb; exact List.mem_cons_of_mem _ hb
  · rw [e] at hb
    unfold frs at hb
    rw [List.filterMap_cons, hf] at hb
    exact hb
theorem Inv.stkFree (I : Inv X pins σ H s) : ∀ b ∈ frs X.stack, H b = none := fun b hb => by
  rcases List.mem_cons.mp (I.stkSub b hb) with e | hb
  · rw [e]; exact I.free
  · obtain ⟨_, o, ho, _⟩ := I.ok.funs.mem hb
    exact I.base.free b o ho (I.ok.frf b hb) fun z => I.ok.exfs b z hb
theorem Inv.step {g' : Array GenState} {t' : Nat} {d' : Drawn} {ch : List Addr} (I : Inv X pins σ H s)
    (hch : ∀ b ∈ ch, (b ∈ X.ex ∨ X.s₀.heap.objs.size ≤ b) ∧ b ≠ X.env.locals ∧ (∀ x c, X.env.cells.lookup x = some c → c ≠ b) ∧ ∀ p ∈ X.pn ++ pins, p.1 ≠ b)
    (keep : ∀ b o, b ≠ X.env.locals → b ∉ X.fs → b ∉ ch → s.heap.get? b = some o → H b = none → h'.get? b = some o)
    (slot : ∀ b o, b ≠ X.env.locals → b ∈ X.fs → b ∉ ch → s.heap.get? b = some o → H b = none → ∃ sl, h'.get? b = some { o with slots := sl }) (free : ∀ b o, b ∉ ch → s.heap.get? b = some o → H b = none → H' b = none)
    (there : ∀ b o, b ∉ ch → s.heap.get? b = some o → ∃ o', h'.get? b = some o')
    (tups : ∀ b xs, H b = some (.tup xs) → H' b = some (.tup xs)) (frzs : ∀ b o u, H b = some (.frz o u) → H' b = some (.frz o u)) (tbls : ∀ b ps, H b = some (.tbl ps) → ∃ more, H' b = some (.tbl (ps ++ more)))
    (ns : ∀ m, s.heap.Ns X.env.locals m → h'.Ns X.env.locals m) (hok : HOk X.prog X.w H' h') (hg : AllBare g') :
    Inv X pins σ H' { s with heap := h', gens := g', drawn := d', toks := t' } := by
  have neL : ∀ b o, X.s₀.heap.get? b = some o → b ≠ X.env.locals := fun b o e => Nat.ne_of_lt (Nat.lt_of_lt_of_le (Heap.lt_size e) I.ok.above)
  have neC : ∀ b o, X.s₀.heap.get? b = some o → b ∉ X.ex → b ∉ ch := fun b o e hx hb => by
    rcases (hch b hb).1 with z | z
    · exact hx z
    · exact absurd (Nat.lt_of_lt_of_le (Heap.lt_size e) z) (Nat.lt_irrefl _)
  have cellK : ∀ x c, X.env.cells.lookup x = some c → ∀ v, s.heap.IsCell c v → h'.IsCell c v := fun x c e v ⟨o, ho, hd⟩ => by
    have nch : c ∉ ch := fun z => (hch c z).2.2.1 x c e rfl
    by_cases hc : c ∈ X.fs
    · obtain ⟨sl, q⟩ := slot c o (I.cne x c e) hc nch ho (I.freeC x c e)
      exact ⟨_, q, hd⟩
    · exact ⟨o, keep c o (I.cne x c e) hc nch ho (I.freeC x c e), hd⟩
  refine ⟨I.ok, I.os, hg, ⟨fun b o e n hb hx => ?_, fun b o e n hb hx => ?_, fun b o e n hx => ?_, fun b o e hx => ?_, fun b xs e => tups b xs (I.base.tups b xs e), fun b o xs e => frzs b o xs (I.base.frzs b o xs e), fun b ps e => ?_⟩, ?_, fun x c e => ?_, ?_, fun x c e => ?_, fun p hp => ?_, hok, I.len⟩
  · exact keep b o (neL b o e) hb (neC b o e hx) (I.base.keep b o e n hb hx) (I.base.free b o e n hx)
  · obtain ⟨sl, e1⟩ := I.base.slot b o e n hb hx
    obtain ⟨sl', e2⟩ := slot b _ (neL b o e) hb (neC b o e hx) e1 (I.base.free b o e n hx)
    exact ⟨sl', e2⟩
  · obtain ⟨o', e1⟩ := I.base.there b o e hx
    exact free b o' (neC b o e hx) e1 (I.base.free b o e n hx)
  · obtain ⟨o', e1⟩ := I.base.there b o e hx
    exact there b o' (neC b o e hx) e1
  · obtain ⟨m1, e1⟩ := I.base.tbls b ps e
    obtain ⟨m2, e2⟩ := tbls b _ e1
    exact ⟨m1 ++ m2, by rw [e2, Array.append_assoc]⟩
  · obtain ⟨m, hn, hl⟩ := I.loc
    refine ⟨m, ns m hn, fun i x v e1 e2 e3 => ?_⟩
    obtain ⟨u, r, l⟩ := hl i x v e1 e2 e3
    refine ⟨u, r, ?_⟩
    rcases l with l | ⟨k, c, e, z⟩
    · exact .inl l
    · exact .inr ⟨k, c, e, cellK x c e _ z⟩
  · obtain ⟨v, z⟩ := I.cell x c e
    exact ⟨v, cellK x c e v z⟩
  · obtain ⟨m, ⟨o, _, _, ho, _⟩, _⟩ := I.loc
    exact free _ o (fun z => (hch _ z).2.1 rfl) ho I.free
  · obtain ⟨v, o, ho, hd⟩ := I.cell x c e
    exact free c o (fun z => (hch c z).2.2.1 x c e rfl) ho (I.freeC x c e)
  · obtain ⟨e, n, ne, nf, d⟩ := I.pin p hp
    have nch : p.1 ∉ ch := fun z => (hch p.1 z).2.2.2 p hp rfl
    exact ⟨keep p.1 p.2 ne nf nch e n, free p.1 p.2 nch e n, ne, nf, d⟩
theorem Inv.un {t' : Nat} (I : Inv X pins σ H s) (u : Un X.fs [] H H' s.heap h') (hok : HOk X.prog X.w H' h') : Inv X pins σ H' { s with heap := h', toks := t' } := by
  obtain ⟨m, ⟨o, es, ep, ho, r⟩, _⟩ := id I.loc
  obtain ⟨sl, hL⟩ := u.any ho I.free (by simp)
  exact I.step (g' := s.gens) (d' := s.drawn) (ch := []) (fun _ z => nomatch z) (fun b o _ hb _ e n => u.keep b o e n hb (by simp)) (fun b o _ hb _ e n => u.slot b o e n hb (by simp)) (fun b o _ e n => u.free b o e n (by simp)) (fun b o _ e => u.there b o e (by simp)) u.tups u.frzs u.tbls (fun m' hm => by
    obtain ⟨o', es', ep', ho', r'⟩ := hm
    rw [ho] at ho'; cases ho'
    exact ⟨_, es', ep', hL, r'⟩) hok I.bare
theorem Inv.call {g' : Array GenState} {t' : Nat} {d' : Drawn} {ch : List Addr} (I : Inv X pins σ H s) (u : Un (frs X.stack) ch H H' s.heap h') (hok : HOk X.prog X.w H' h') (hg : AllBare g')
    (hch : ∀ b ∈ ch, (b ∈ X.ex ∨ X.s₀.heap.objs.size ≤ b) ∧ b ≠ X.env.locals ∧ (∀ x c, X.env.cells.lookup x = some c → c ≠ b) ∧ ∀ p ∈ X.pn ++ pins, p.1 ≠ b) :
    Inv X pins σ H' { s with heap := h', gens := g', drawn := d', toks := t' } := by
  obtain ⟨m, ⟨o, es, ep, ho, r⟩, _⟩ := id I.loc
  obtain ⟨sl, hL⟩ := u.any ho I.free fun z => (hch _ z).2.1 rfl
  exact I.step (ch := ch) hch (fun b o hL hb hc e n => u.keep b o e n (fun z => (List.mem_cons.mp (I.stkSub b z)).elim hL hb) hc) (fun b o _ _ hc e n => u.any e n hc) (fun b o hc e n => u.free b o e n hc) (fun b o hc e => u.there b o e hc) u.tups u.frzs u.tbls (fun m' hm => by
    obtain ⟨o', es', ep', ho', r'⟩ := hm
    rw [ho] at ho'; cases ho'
    exact ⟨_, es', ep', hL, r'⟩) hok hg
theorem Inv.turned {t' : Nat} {it : Addr} (I : Inv X pins σ H s) (k : ∀ b o, b ≠ it → s.heap.get? b = some o → h'.get? b = some o) (hn : H it = none) (hL : it ≠ X.env.locals)
    (h1 : it ∈ X.ex ∨ X.s₀.heap.objs.size ≤ it) (h2 : ∀ x c, X.env.cells.lookup x = some c → c ≠ it) (h3 : ∀ p ∈ X.pn ++ pins, p.1 ≠ it) : Inv X pins σ H { s with heap := h', toks := t' } := by
  have nit : ∀ b u, H b = some u → b ≠ it := fun b u e z => by rw [z, hn] at e; cases e
  refine I.step (g' := s.gens) (d' := s.drawn) (ch := [it]) (fun b hb => ?_) (fun b o _ _ hc e _ => k b o (fun z => hc (by simp [z])) e) (fun b o _ _ hc e _ => ⟨o.slots, k b o (fun z => hc (by simp [z])) e⟩) (fun _ _ _ _ n => n)
    (fun b o hc e => ⟨o, k b o (fun z => hc (by simp [z])) e⟩) (fun _ _ e => e) (fun _ _ _ e => e) (fun b ps e => ⟨#[], by rw [e]; simp⟩) (fun m hm => ?_) (fun b u e => ?_) I.bare
  · have e : b = it := by simpa using hb
    subst e
    exact ⟨h1, hL, h2, h3⟩
  · obtain ⟨o, es, ep, ho, r⟩ := hm
    exact ⟨o, es, ep, k _ o (Ne.symm hL) ho, r⟩
  · refine (I.hok b u e).stay (fun c v hc q => k c v ?_ q) (fun _ q => q) fun _ _ q => q
    rcases hc with z | z
    · rw [z]; exact nit b u e
    · exact nit c _ z
theorem Inv.tok (I : Inv X pins σ H s) (t : Nat) : Inv X pins σ H { s with toks := t } := I.un (h' := s.heap) (t' := t) Un.refl I.hok
theorem Inv.kept {t' : Nat} (I : Inv X pins σ H s) (k : ∀ b u, s.heap.get? b = some u → h'.get? b = some u) : Inv X pins σ H { s with heap := h', toks := t' } := I.un (Un.kept k) (I.hok.kept k)
theorem Inv.laid {a : Addr} {o : HO} {t' : Nat} (I : Inv X pins σ H s) (k : ∀ b u, s.heap.get? b = some u → h'.get? b = some u) (hp : s.heap.objs.size ≤ a) (new : ObjOk X.prog X.w (upd H a o) h' a o) :
    Inv X pins σ (upd H a o) { s with heap := h', toks := t' } := I.un (Un.laid k hp (I.hok.fresh hp)) (I.hok.laid k hp new)
theorem Inv.write {x e : Addr} {o : HO} {t' : Nat} (I : Inv X pins σ H s) (mu : Mut (H x)) (he : e = x ∨ H e = some (.own x)) (k : ∀ b u, b ≠ e → s.heap.get? b = some u → h'.get? b = some u) (heo : ∃ u, h'.get? e = some u)
    (new : ObjOk X.prog X.w (upd H x o) h' x o) : Inv X pins σ (upd H x o) { s with heap := h', toks := t' } := I.un (Un.write mu he k heo) (I.hok.write mu he k heo new)
theorem Inv.weak {σ' : List (Option V)} (I : Inv X pins σ H s) (hl : σ'.length = σ.length) (w : ∀ (i : Nat) v, σ'[i]? = some (some v) → σ[i]? = some (some v)) : Inv X pins σ' H s :=
  ⟨I.ok, I.os, I.bare, I.base, let ⟨m, hn, hl'⟩ := I.loc; ⟨m, hn, fun i x v e1 e2 e3 => hl' i x v e1 (w i v e2) e3⟩, I.cell, I.free, I.freeC, I.pin, I.hok, hl.trans I.len⟩
theorem Inv.pins_of {pins' : List (Addr × Obj)} (I : Inv X pins σ H s) (h : ∀ p ∈ pins', s.heap.get? p.1 = some p.2 ∧ H p.1 = none ∧ p.1 ≠ X.env.locals ∧ p.1 ∉ X.fs ∧ ∀ v, p.2.data ≠ .cell v) : Inv X pins' σ H s :=
  ⟨I.ok, I.os, I.bare, I.base, I.loc, I.cell, I.free, I.freeC, fun p hp => (List.mem_append.mp hp).elim (fun z => I.pin p (List.mem_append_left _ z)) (h p), I.hok, I.len⟩
theorem nodup_ix {N : List Str} (hN : N.Nodup) {i j : Nat} {x : Str} (a : N[i]? = some x) (b : N[j]? = some x) : i = j := by
  obtain ⟨h1, e1⟩ := List.getElem?_eq_some_iff.mp a
  obtain ⟨h2, e2⟩ := List.getElem?_eq_some_iff.mp b
  exact (List.getElem_inj hN).mp (e1.trans e2.symm)
theorem store_ok2 {M : Model} {A : Around} {E : Value → Shared → Prop} {i : Nat} {x : Str} {v : V} {u : Value} {Q : Unit → Shared → Prop} (I : Inv X pins σ H s) (hN : X.N.Nodup) (hi : X.N[i]? = some x) (hx : Loc X.env.scope x) (r : RelV v u)
    (h : ∀ s', Inv X pins (σ.set i (some v)) H s' → (∃ a, Heap.SameBut a s.heap s'.heap ∧ (a = X.env.locals ∨ X.env.cells.lookup x = some a)) → Q () s') (hf : X.fn x = true ∨ X.env.scope.names.lookup x = some .local := by first | exact .inl rfl | exact .inr rfl | assumption) : wpAny M A (storeName X.env x u) Q E s := by
  obtain ⟨m, hn, hl⟩ := id I.loc
  have hcls : (X.env.scope.kind == .class || (X.env.scope.kind == .module && X.env.locals != X.env.globals)) = false := by rw [I.ok.kind]; rfl
  have hiσ : i < σ.length := by rw [I.len]; exact (List.getElem?_eq_some_iff.mp hi).1
  have cne := I.cne
  have tracked : ∀ {a : Addr} {h' : Heap}, (∃ o, s.heap.get? a = some o ∧ H a = none) → Heap.SameBut a s.heap h' → HOk X.prog X.w H h' := fun {a h'} ha hs b ob e => by
    obtain ⟨_, _, hfree⟩ := ha
    refine (I.hok b ob e).stay (fun c w' hc q => (hs.2 c ?_).trans q) (fun _ q => q) fun _ _ q => q
    rintro rfl
    rcases hc with rfl | hc
    · rw [hfree] at e; cases e
    · rw [hfree] at hc; cases hc
  rcases hx with hk | hk
  · refine wpAny_storeName_local hk hn (fun h' hn' hs => ?_) hcls
    obtain ⟨oL, _, _, hoL, _⟩ := id hn
    refine h _ ⟨I.ok, I.os, I.bare, ⟨fun b o e n hb hx => ?_, fun b o e n hb hx => ?_, I.base.free, fun b o e hx => ?_, I.base.tups, I.base.frzs, I.base.tbls⟩, ⟨_, hn', fun j y v' e1 e2 e3 => ?_⟩, fun y c e => ?_, I.free, I.freeC, fun p hp => ?_, tracked ⟨oL, hoL, I.free⟩ hs, by simpa using I.len⟩ ⟨_, hs, .inl rfl⟩
    · exact (hs.2 b (Nat.ne_of_lt (Nat.lt_of_lt_of_le (Heap.lt_size e) I.ok.above))).trans (I.base.keep b o e n hb hx)
    · obtain ⟨sl, e1⟩ := I.base.slot b o e n hb hx
      exact ⟨sl, (hs.2 b (Nat.ne_of_lt (Nat.lt_of_lt_of_le (Heap.lt_size e) I.ok.above))).trans e1⟩
    · obtain ⟨o', e1⟩ := I.base.there b o e hx
      exact ⟨o', (hs.2 b (Nat.ne_of_lt (Nat.lt_of_lt_of_le (Heap.lt_size e) I.ok.above))).trans e1⟩
    · by_cases hj : j = i
      · subst hj
        rw [hi] at e1; cases e1
        rw [List.getElem?_set_self hiσ] at e2
        cases e2
        exact ⟨u, r, .inl ⟨hk, by simp⟩⟩
      · rw [List.getElem?_set_ne (Ne.symm hj)] at e2
        obtain ⟨u', r', q⟩ := hl j y v' e1 e2 e3
        refine ⟨u', r', ?_⟩
        rcases q with ⟨k, e⟩ | ⟨k, c, e, z⟩
        · refine .inl ⟨k, ?_⟩
          have : y ≠ x := fun e => hj (nodup_ix hN e1 (e ▸ hi))
          simp [this, e]
        · exact .inr ⟨k, c, e, z.sameBut hs (cne y c e)⟩
    · obtain ⟨w', z⟩ := I.cell y c e
      exact ⟨w', z.sameBut hs (cne y c e)⟩
    · obtain ⟨e, n, ne, nf, d⟩ := I.pin p hp
      exact ⟨(hs.2 p.1 ne).trans e, n, ne, nf, d⟩
  · have hfn : X.fn x = true := by
      rcases hf with z | z
      · exact z
      · rw [z] at hk; cases hk
    obtain ⟨c, hc⟩ := I.ok.has x (.inl hk)
    obtain ⟨w', z⟩ := I.cell x c hc
    refine wpAny_storeName_cell I.ok.kind hk hc z (fun h' hc' hs => ?_)
    obtain ⟨oc, hoc, hocd⟩ := id z
    refine h { s with heap := h' } ⟨I.ok, I.os, I.bare, ⟨fun b o e n hb hx => ?_, fun b o e n hb hx => ?_, I.base.free, fun b o e hx => ?_, I.base.tups, I.base.frzs, I.base.tbls⟩, ⟨m, hn.sameBut hs (Ne.symm (cne x c hc)), fun j y v' e1 e2 e3 => ?_⟩, fun y c' e => ?_, I.free, I.freeC, fun p hp => ?_, tracked ⟨oc, hoc, I.freeC x c hc⟩ hs, by simpa using I.len⟩ ⟨c, hs, .inr hc⟩
    · exact (hs.2 b (Nat.ne_of_lt (Nat.lt_of_lt_of_le (Heap.lt_size e) (I.ok.cab x c hfn hc)))).trans (I.base.keep b o e n hb hx)
    · obtain ⟨sl, e1⟩ := I.base.slot b o e n hb hx
      exact ⟨sl, (hs.2 b (Nat.ne_of_lt (Nat.lt_of_lt_of_le (Heap.lt_size e) (I.ok.cab x c hfn hc)))).trans e1⟩
    · obtain ⟨o', e1⟩ := I.base.there b o e hx
      exact ⟨o', (hs.2 b (Nat.ne_of_lt (Nat.lt_of_lt_of_le (Heap.lt_size e) (I.ok.cab x c hfn hc)))).trans e1⟩
    · by_cases hj : j = i
      · subst hj
        rw [hi] at e1; cases e1
        rw [List.getElem?_set_self hiσ] at e2
        cases e2
        exact ⟨u, r, .inr ⟨.inl hk, c, hc, hc'⟩⟩
      · rw [List.getElem?_set_ne (Ne.symm hj)] at e2
        obtain ⟨u', r', q⟩ := hl j y v' e1 e2 e3
        refine ⟨u', r', ?_⟩
        rcases q with q | ⟨k, c', e, z'⟩
        · exact .inl q
        · refine .inr ⟨k, c', e, z'.sameBut hs ?_⟩
          rintro rfl
          exact hj (nodup_ix hN e1 (I.ok.inj _ _ _ e hc ▸ hi))
    · by_cases hcc : c' = c
      · subst hcc; exact ⟨_, hc'⟩
      · obtain ⟨w2, z2⟩ := I.cell y c' e
        exact ⟨w2, z2.sameBut hs hcc⟩
    · obtain ⟨e, n, ne, nf, d⟩ := I.pin p hp
      refine ⟨(hs.2 p.1 ?_).trans e, n, ne, nf, d⟩
      intro q
      rw [q, hoc] at e
      have q' : oc = p.2 := Option.some.inj e
      exact d w' (by rw [← q']; exact hocd)
theorem store_ok {M : Model} {A : Around} {E : Value → Shared → Prop} {i : Nat} {x : Str} {v : V} {u : Value} {Q : Unit → Shared → Prop} (I : Inv X pins σ H s) (hN : X.N.Nodup) (hi : X.N[i]? = some x) (hx : Loc X.env.scope x) (r : RelV v u)
    (h : ∀ s', Inv X pins (σ.set i (some v)) H s' → Q () s') (hf : X.fn x = true ∨ X.env.scope.names.lookup x = some .local := by first | exact .inl rfl | exact .inr rfl | assumption) : wpAny M A (storeName X.env x u) Q E s :=
  store_ok2 I hN hi hx r (fun s' I' _ => h s' I') hf
theorem Inv.call' {s' : Shared} {ch : List Addr} (I : Inv X pins σ H s) (ho : s'.os = s.os) (u : Un (frs X.stack) ch H H' s.heap s'.heap) (hok : HOk X.prog X.w H' s'.heap) (hg : AllBare s'.gens)
    (hch : ∀ b ∈ ch, (b ∈ X.ex ∨ X.s₀.heap.objs.size ≤ b) ∧ b ≠ X.env.locals ∧ (∀ x c, X.env.cells.lookup x = some c → c ≠ b) ∧ ∀ p ∈ X.pn ++ pins, p.1 ≠ b) : Inv X pins σ H' s' := by
  obtain ⟨h', g', d', t', o'⟩ := s'
  have e : o' = s.os := ho
  subst e
  exact I.call (g' := g') (t' := t') (d' := d') u hok hg hch
end
abbrev XK := Value → Option Addr → Hp → Prop
abbrev St := List (Option V)
abbrev VK := V → Hp → Prop
abbrev TE := St → Hp → VK → Prop
abbrev TT := St → Hp → (Bool → Hp → Prop) → Prop
abbrev TA := St → Hp → (List V → Hp → Prop) → Prop
structure Ends where
  nx : St → Hp → Prop
  rt : VK
  bk : St → Hp → Prop := fun _ _ => False
  ct : St → Hp → Prop := fun _ _ => False
abbrev TS := Ends → St → Hp → Prop
def EP (X : Cx) (pins : List (Addr × Obj)) (σ : St) (Q : VK) (u : Value) (s' : Shared) : Prop := ∃ v H', Inv X pins σ H' s' ∧ RelV v u ∧ Q v H'
def TP (X : Cx) (pins : List (Addr × Obj)) (σ : St) (Q : Bool → Hp → Prop) (b : Bool) (s' : Shared) : Prop := ∃ H', Inv X pins σ H' s' ∧ Q b H'
def AP (X : Cx) (pins : List (Addr × Obj)) (σ : St) (Q : List V → Hp → Prop) (us : List Value) (s' : Shared) : Prop := ∃ vs H', Inv X pins σ H' s' ∧ Vals vs us ∧ Q vs H'
def SP (X : Cx) (pins : List (Addr × Obj)) (D : Ends) (f : Flow) (s' : Shared) : Prop :=
  match f with
  | .next => ∃ σ' H', Inv X pins σ' H' s' ∧ D.nx σ' H'
  | .brk => ∃ σ' H', Inv X pins σ' H' s' ∧ D.bk σ' H'
  | .cont => ∃ σ' H', Inv X pins σ' H' s' ∧ D.ct σ' H'
  | .ret u => ∃ v σ' H', Inv X pins σ' H' s' ∧ RelV v u ∧ D.rt v H'
def PE (X : Cx) (e : Expr) (t : TE) : Prop :=
  ∀ (pins : List (Addr × Obj)) (s : Shared) (σ : St) (H : Hp) (Q : VK), Inv X pins σ H s → t σ H Q → wpAny (model X.prog X.w) X.A (eval e X.env) (EP X pins σ Q) X.xe s
def PT (X : Cx) (e : Expr) (t : TT) : Prop :=
  ∀ (pins : List (Addr × Obj)) (s : Shared) (σ : St) (H : Hp) (Q : Bool → Hp → Prop), Inv X pins σ H s → t σ H Q → wpAny (model X.prog X.w) X.A (isTrue e X.env (eval e X.env)) (TP X pins σ Q) X.xe s
def PW (X : Cx) (e : Expr) (t : TT) : Prop :=
  ∀ (whole : Sem Value) (pins : List (Addr × Obj)) (s : Shared) (σ : St) (H : Hp) (Q : Bool → Hp → Prop), Inv X pins σ H s → t σ H Q → wpAny (model X.prog X.w) X.A (isTrue e X.env whole) (TP X pins σ Q) X.xe s
theorem PW.pt {X : Cx} {e : Expr} {t : TT} (h : PW X e t) : PT X e t := h _
def PA (X : Cx) (es : List Expr) (t : TA) : Prop :=
  ∀ (pos : Pos) (pins : List (Addr × Obj)) (s : Shared) (σ : St) (H : Hp) (Q : List V → Hp → Prop), Inv X pins σ H s → t σ H Q → wpAny (model X.prog X.w) X.A (spliced (backTo pos (starEach es X.env))) (AP X pins σ Q) X.xe s
def PS (X : Cx) (st : Stmt) (t : TS) : Prop :=
  ∀ (pins : List (Addr × Obj)) (s : Shared) (σ : St) (H : Hp) (D : Ends), Inv X pins σ H s → t D σ H → wpAny (model X.prog X.w) X.A (exec st X.env) (SP X pins D) X.xe s
def PSs (X : Cx) (st : List Stmt) (t : TS) : Prop :=
  ∀ (pins : List (Addr × Obj)) (s : Shared) (σ : St) (H : Hp) (D : Ends), Inv X pins σ H s → t D σ H → wpAny (model X.prog X.w) X.A (execs st X.env) (SP X pins D) X.xe s
theorem thn {α : Type} {t : Sem α} {Q Q' : α → Shared → Prop} {M : Model} {A : Around} {E : Value → Shared → Prop} {s : Shared} (h : wpAny M A t Q E s) (hQ : ∀ a s, Q a s → Q' a s) : wpAny M A t Q' E s := wpAny_mono h hQ fun _ _ x => x
end L2
namespace L2
open PySem PySem.Spec PyProof.Rows
section
variable {X : Cx}
def tVar (i : Nat) : TE := fun σ H Q => ∃ v, σ[i]? = some (some v) ∧ Q v H
def tC (v : V) : TE := fun _ H Q => Q v H
theorem pe_var {i : Nat} {x : Str} {pos : Pos} (hN : X.N[i]? = some x) (hv : Vis X.env.scope x) (hd : (x == ("__debug__" : Str)) = false := by decide) (hcd : (x == ("__classdict__" : Str)) = false := by decide) : PE X (.Name x pos) (tVar i) := by
  intro pins s σ H Q I h
  obtain ⟨v, e, h⟩ := h
  obtain ⟨m, hn, hl⟩ := I.loc
  obtain ⟨u, r, l⟩ := hl i x v hN e hv
  have fin : EP X pins σ Q u s := ⟨v, H, I, r, h⟩
  rcases l with ⟨hk, hm⟩ | ⟨hk, c, hc, hcell⟩
  · exact wpAny_Name (wpAny_loadName_local I.ok.kind hk hn hm fin) hd
  · rcases hk with hk | hk
    · exact wpAny_Name (wpAny_loadName_cell I.ok.kind hk hc hcell fin) hd
    · exact wpAny_Name (wpAny_loadName_free I.ok.kind hk hc hcell fin hcd) hd
theorem pe_int {i j pos} : PE X (.Constant (.int i) j pos) (tC (.int i)) := fun _ _ _ H _ I h => wpAny_Constant_int ⟨.int i, H, I.tok _, ⟨_, rfl⟩, h⟩
theorem pe_bl {b j pos} : PE X (.Constant (.bool b) j pos) (tC (.bl b)) := fun _ _ _ H _ I h => Constant_bool ⟨.bl b, H, I, rfl, h⟩
theorem pe_non {j pos} : PE X (.Constant .none j pos) (tC .non) := fun _ _ _ H _ I h => Constant_none ⟨.non, H, I, rfl, h⟩
theorem pe_str {x j pos} : PE X (.Constant (.str x) j pos) (tC (.str x)) := fun _ _ _ H _ I h => Calls.Constant_str ⟨.str x, H, I.tok _, ⟨_, rfl⟩, h⟩
def Gl (X : Cx) (x : Str) : Prop := X.env.kindOf x = some .globalImplicit
theorem ld_glob {E : Value → Shared → Prop} {pins : List (Addr × Obj)} {s : Shared} {σ : St} {H : Hp} {x : Str} {u : Value} {pos : Pos} {Q : Value → Shared → Prop} (I : Inv X pins σ H s) (hg : Gl X x) (hm : X.mg x = some u) (h : Q u s)
    (hd : (x == ("__debug__" : Str)) = false := by decide) : wpAny (model X.prog X.w) X.A (eval (.Name x pos) X.env) Q E s :=
  Calls.Name_function_global I.ok.kind hg (Calls.loadGlobal_global (by rw [I.ok.glob]; exact I.mod.glob.keeps I.bk) hm h) hd
theorem ld_blt {E : Value → Shared → Prop} {pins : List (Addr × Obj)} {s : Shared} {σ : St} {H : Hp} {x : Str} {u : Value} {pos : Pos} {Q : Value → Shared → Prop} (I : Inv X pins σ H s) (hg : Gl X x) (hm : X.mg x = none) (hv : bootBuiltins x = some u) (h : Q u s)
    (hn : x ≠ "__name__" := by decide) (hd : (x == ("__debug__" : Str)) = false := by decide) : wpAny (model X.prog X.w) X.A (eval (.Name x pos) X.env) Q E s := by
  obtain ⟨mb, h1, h2⟩ := I.mod.blt
  exact Calls.Name_function_global I.ok.kind hg (Calls.loadGlobal_builtin (by rw [I.ok.glob]; exact I.mod.glob.keeps I.bk) hm (by rw [I.ok.blt]; exact h1.keeps I.bk) ((h2 x hn).trans hv) h) hd
theorem pe_glob {x : Str} {v : V} {u : Value} {pos : Pos} (hg : Gl X x) (hm : X.mg x = some u) (r : RelV v u) (hd : (x == ("__debug__" : Str)) = false := by decide) : PE X (.Name x pos) (tC v) :=
  fun _ _ _ H _ I h => ld_glob I hg hm ⟨v, H, I, r, h⟩ hd
theorem pe_bltn {x : Str} {v : V} {u : Value} {pos : Pos} (hg : Gl X x) (hm : X.mg x = none) (hv : bootBuiltins x = some u) (r : RelV v u) (hn : x ≠ "__name__" := by decide) (hd : (x == ("__debug__" : Str)) = false := by decide) : PE X (.Name x pos) (tC v) :=
  fun _ _ _ H _ I h => ld_blt I hg hm hv ⟨v, H, I, r, h⟩ hn hd
variable {a b : Expr} {ta tb : TE} {pos : Pos}
variable {tA tB' : TT} {rest : List Expr}
def tOr (t u : TT) : TT := fun σ H Q => t σ H fun c H1 => if c = true then Q true H1 else u σ H1 Q
def tNot (t : TT) : TT := fun σ H Q => t σ H fun c H1 => Q (!c) H1
theorem pw_or1 (ha : PT X a tA) : PW X (.BoolOp .Or [a] pos) tA := by
  intro wh pins s σ H Q I h
  refine isTrue_or (thn (ha pins s σ H Q I h) fun c s1 e => ?_)
  cases c with
  | false => exact isTrue_or_nil e
  | true => exact e
theorem pw_or (ha : PT X a tA) (hb : PW X (.BoolOp .Or (b :: rest) pos) tB') : PW X (.BoolOp .Or (a :: b :: rest) pos) (tOr tA tB') := by
  intro wh pins s σ H Q I h
  refine isTrue_or (thn (ha pins s σ H _ I h) fun c s1 ⟨H1, I1, q1⟩ => ?_)
  cases c with
  | true => exact ⟨H1, I1, q1⟩
  | false => exact hb wh pins s1 σ H1 Q I1 q1
theorem pt_not (ha : PT X a tA) : PT X (.UnaryOp .Not a pos) (tNot tA) := by
  intro pins s σ H Q I h
  exact isTrue_not (ha pins s σ H (fun c H1 => Q (!c) H1) I h)
def tAndV (ta tb : TE) : TE := fun σ H Q => ta σ H fun x H1 => ∃ c, x = .bl c ∧ if c = true then tb σ H1 Q else Q (.bl false) H1
def tOrV (ta tb : TE) : TE := fun σ H Q => ta σ H fun x H1 => ∃ c, x = .bl c ∧ if c = true then Q (.bl true) H1 else tb σ H1 Q
def tNotV (ta : TE) : TE := fun σ H Q => ta σ H fun x H1 => ∃ c, x = .bl c ∧ Q (.bl (!c)) H1
theorem pe_one {op} {t : TE} (h : PE X a t) : PE X (.BoolOp op [a] pos) t := fun pins s σ H Q I hw => BoolOp_one (h pins s σ H Q I hw)
theorem pe_and (ha : PE X a ta) (hb : PE X (.BoolOp .And (b :: rest) pos) tb) : PE X (.BoolOp .And (a :: b :: rest) pos) (tAndV ta tb) := by
  intro pins s σ H Q I h
  refine BoolOp_and (thn (ha pins s σ H _ I h) fun v s1 ⟨x, H1, I1, r1, q1⟩ => ?_)
  obtain ⟨c, rfl, q1⟩ := q1
  cases r1
  refine wpAny_truthy_bool ?_
  cases c with
  | true => exact hb pins s1 σ H1 Q I1 q1
  | false => exact ⟨.bl false, H1, I1, rfl, q1⟩
theorem pe_or (ha : PE X a ta) (hb : PE X (.BoolOp .Or (b :: rest) pos) tb) : PE X (.BoolOp .Or (a :: b :: rest) pos) (tOrV ta tb) := by
  intro pins s σ H Q I h
  refine BoolOp_or (thn (ha pins s σ H _ I h) fun v s1 ⟨x, H1, I1, r1, q1⟩ => ?_)
  obtain ⟨c, rfl, q1⟩ := q1
  cases r1
  refine wpAny_truthy_bool ?_
  cases c with
  | false => exact hb pins s1 σ H1 Q I1 q1
  | true => exact ⟨.bl true, H1, I1, rfl, q1⟩
theorem pe_not (ha : PE X a ta) : PE X (.UnaryOp .Not a pos) (tNotV ta) := by
  intro pins s σ H Q I h
  refine UnaryOp_ (thn (ha pins s σ H _ I h) fun v s1 ⟨x, H1, I1, r1, q1⟩ => ?_)
  obtain ⟨c, rfl, q1⟩ := q1
  cases r1
  exact not_of (wpAny_truthy_bool ⟨.bl (!c), H1, I1, rfl, q1⟩)
def tIf (t : TT) (ta tb : TE) : TE := fun σ H Q => t σ H fun c H1 => if c = true then ta σ H1 Q else tb σ H1 Q
theorem pe_ifExp {c : Expr} (hc : PT X c tA) (ha : PE X a ta) (hb : PE X b tb) : PE X (.IfExp c a b pos) (tIf tA ta tb) := by
  intro pins s σ H Q I h
  refine wpAny_IfExp (thn (hc pins s σ H _ I h) fun d s1 ⟨H1, I1, q1⟩ => ?_)
  cases d with
  | true => exact ha pins s1 σ H1 Q I1 q1
  | false => exact hb pins s1 σ H1 Q I1 q1
end
end L2
namespace L2
open PySem PySem.Spec PyProof.Rows
def SqL (K : PySem.W.Frag) (H : Hp) (a : Addr) (xs : List V) : Prop :=
  Rd H a (.lst xs) ∨
    ∃ (o : Obj) (its : Array Value) (n : Nat), K.lookup a = some o ∧ o.cls = .type "list" ∧ o.dict = none ∧ o.data = .seq its n ∧ its.size ≤ sizeLine ∧ Vals xs its.toList
def SqT (K : PySem.W.Frag) (H : Hp) (a : Addr) (xs : List V) : Prop :=
  Rd H a (.tup xs) ∨
    ∃ (o : Obj) (its : Array Value) (n : Nat), K.lookup a = some o ∧ o.cls = .type "tuple" ∧ o.data = .seq its n ∧ its.size ≤ sizeLine ∧ Vals xs its.toList
def absV : Value → Option V
  | .none => some .non
  | .bool b => some (.bl b)
  | .int i _ => some (.int i)
  | .str x _ => some (.str x)
  | .bytes b _ => some (.byt b)
  | .float b _ => some (.flt b)
  | .ref a => some (.ref a)
  | .type n => some (.ty n)
  | _ => none
theorem RelV.abs {x : V} {u : Value} (r : RelV x u) : absV u = some x := by
  cases x with
  | non => cases r; rfl
  | bl _ => cases r; rfl
  | int _ => obtain ⟨t, rfl⟩ := r; rfl
  | str _ => obtain ⟨t, rfl⟩ := r; rfl
  | byt _ => obtain ⟨t, rfl⟩ := r; rfl
  | flt _ => obtain ⟨t, rfl⟩ := r; rfl
  | ref _ => cases r; rfl
  | ty _ => cases r; rfl
theorem RelV.inj {x y : V} {u : Value} (r : RelV x u) (q : RelV y u) : x = y := Option.some.inj (r.abs.symm.trans q.abs)
theorem Vals.inj : ∀ {xs ys : List V} {us : List Value}, Vals xs us → Vals ys us → xs = ys
  | _, _, _, .nil, .nil => rfl
  | _, _, _, .cons r t, .cons r' t' => by rw [r.inj r', Vals.inj t t']
section
variable {X : Cx} {pins : List (Addr × Obj)} {σ : St} {H : Hp} {s : Shared} {a : Addr} {xs ys : List V}
theorem SqL.of {K : PySem.W.Frag} (h : H a = some (.lst xs)) : SqL K H a xs := .inl (.inl h)
theorem SqT.of {K : PySem.W.Frag} (h : H a = some (.tup xs)) : SqT K H a xs := .inl (.inl h)
theorem Inv.list (I : Inv X pins σ H s) (h : SqL X.K H a xs) : ∃ its : List Value, Vals xs its ∧ PlainL s.heap a its.toArray ∧ xs.length ≤ sizeLine := by
  rcases h with h | ⟨o, its, n, hk, hc, hd, hs, hz, r⟩
  · obtain ⟨z, its, n, r, e⟩ := h.ok I.hok
    exact ⟨its, r, ⟨_, n, e, rfl, rfl, rfl⟩, z⟩
  · refine ⟨its.toList, r, ⟨o, n, I.kIn a o hk, hc, hd, by simpa using hs⟩, ?_⟩
    have e := r.length
    simp only [Array.length_toList] at e
    omega
theorem Inv.tuple (I : Inv X pins σ H s) (h : SqT X.K H a xs) : ∃ its : List Value, Vals xs its ∧ IsTup s.heap a its.toArray ∧ xs.length ≤ sizeLine := by
  rcases h with h | ⟨o, its, n, hk, hc, hs, hz, r⟩
  · obtain ⟨z, its, r, p⟩ := h.ok I.hok
    exact ⟨its, r, p, z⟩
  · refine ⟨its.toList, r, ⟨o, I.kIn a o hk, hc, n, by simpa using hs⟩, ?_⟩
    have e := r.length
    simp only [Array.length_toList] at e
    omega
theorem Inv.list_inj (I : Inv X pins σ H s) (h : SqL X.K H a xs) (h' : SqL X.K H a ys) : xs = ys := by
  obtain ⟨its, r, ⟨o, n, e, _, _, d⟩, _⟩ := I.list h
  obtain ⟨its', r', ⟨o', n', e', _, _, d'⟩, _⟩ := I.list h'
  rw [e] at e'; cases e'
  rw [d] at d'
  injection d' with d1 _
  have : its = its' := by simpa using congrArg Array.toList d1
  subst this
  exact r.inj r'
theorem Inv.tuple_inj (I : Inv X pins σ H s) (h : SqT X.K H a xs) (h' : SqT X.K H a ys) : xs = ys := by
  obtain ⟨its, r, ⟨o, e, _, n, d⟩, _⟩ := I.tuple h
  obtain ⟨its', r', ⟨o', e', _, n', d'⟩, _⟩ := I.tuple h'
  rw [e] at e'; cases e'
  rw [d] at d'
  injection d' with d1 _
  have : its = its' := by simpa using congrArg Array.toList d1
  subst this
  exact r.inj r'
end
abbrev Cx.wish (X : Cx) (E : Value → Shared → Prop) : Cx := { X with xe := E }
abbrev Cx.nox (X : Cx) : Cx := X.wish fun _ _ => False
theorem Cx.Ok.wish {X : Cx} (ok : X.Ok) (E : Value → Shared → Prop) : (X.wish E).Ok :=
  ⟨ok.mod, ok.kind, ok.glob, ok.blt, ok.above, ok.inj, ok.has, ok.cab, ok.hd, ok.frames, ok.stk, ok.exf, ok.bs, ok.bsz, ok.noex, ok.exfs, ok.funs, ok.frf⟩
theorem Cx.Ok.unwish {X : Cx} {E : Value → Shared → Prop} (ok : (X.wish E).Ok) : X.Ok :=
  ⟨ok.mod, ok.kind, ok.glob, ok.blt, ok.above, ok.inj, ok.has, ok.cab, ok.hd, ok.frames, ok.stk, ok.exf, ok.bs, ok.bsz, ok.noex, ok.exfs, ok.funs, ok.frf⟩
section
variable {X : Cx} {pins : List (Addr × Obj)} {σ : St} {H : Hp} {s : Shared} {E : Value → Shared → Prop}
theorem Inv.wish (I : Inv X pins σ H s) (E : Value → Shared → Prop) : Inv (X.wish E) pins σ H s := ⟨I.ok.wish E, I.os, I.bare, I.base, I.loc, I.cell, I.free, I.freeC, I.pin, I.hok, I.len⟩
theorem Inv.unwish (I : Inv (X.wish E) pins σ H s) : Inv X pins σ H s := ⟨I.ok.unwish, I.os, I.bare, I.base, I.loc, I.cell, I.free, I.freeC, I.pin, I.hok, I.len⟩
theorem SP.unwish {D : Ends} {f : Flow} {s' : Shared} (h : SP (X.wish E) pins D f s') : SP X pins D f s' := by
  cases f with
  | next => obtain ⟨σ', H', I, q⟩ := h; exact ⟨σ', H', I.unwish, q⟩
  | brk => obtain ⟨σ', H', I, q⟩ := h; exact ⟨σ', H', I.unwish, q⟩
  | cont => obtain ⟨σ', H', I, q⟩ := h; exact ⟨σ', H', I.unwish, q⟩
  | ret u => obtain ⟨v, σ', H', I, r, q⟩ := h; exact ⟨v, σ', H', I.unwish, r, q⟩
theorem PSs.nox {st : List Stmt} {t : TS} (h : PSs X.nox st t) : PSs X st t := fun pins s σ H D I hw =>
  wpAny_mono (h pins s σ H D (I.wish _) hw) (fun _ _ q => q.unwish) fun _ _ z => False.elim z
end
section
variable {X : Cx} {st : Stmt} {rest : List Stmt} {t u : TS} {e : Expr} {te : TE} {pos : Pos}
def tNext : TS := fun D σ H => D.nx σ H
def tSeq (t u : TS) : TS := fun D σ H => t { D with nx := u D } σ H
theorem pss_nil : PSs X [] tNext := fun _ _ σ H _ I h => wpAny_execs_nil ⟨σ, H, I, h⟩
theorem pss_cons (h1 : PS X st t) (h2 : PSs X rest u) : PSs X (st :: rest) (tSeq t u) := by
  intro pins s σ H D I h
  refine wpAny_execs_cons (thn (h1 pins s σ H { D with nx := u D } I h) fun f s1 q => ?_)
  cases f with
  | next =>
    obtain ⟨σ', H', I', q⟩ := q
    exact h2 pins s1 σ' H' D I' q
  | ret v => exact q
  | brk => exact q
  | cont => exact q
theorem pss_one (h1 : PS X st t) : PSs X [st] t := by
  intro pins s σ H D I h
  refine wpAny_execs_cons (thn (h1 pins s σ H D I h) fun f s1 q => ?_)
  cases f with
  | next => exact wpAny_execs_nil q
  | ret v => exact q
  | brk => exact q
  | cont => exact q
theorem Inv.quiet {pins : List (Addr × Obj)} {σ : St} {H : Hp} {s : Shared} (I : Inv X pins σ H s) : interactive X.env = false := by simp [interactive, I.ok.kind]
def tDrop (te : TE) : TS := fun D σ H => te σ H fun _ H1 => D.nx σ H1
theorem ps_expr (he : PE X e te) (hs : swapsWith e none pos.line X.env = pure false := by rfl) : PS X (.Expr e pos) (tDrop te) := by
  intro pins s σ H D I h
  exact wpAny_Expr_any (thn (he pins s σ H _ I h) fun v s1 ⟨x, H1, I1, r1, q1⟩ => ⟨σ, H1, I1, q1⟩) I.quiet hs
def tRet (te : TE) : TS := fun D σ H => te σ H D.rt
theorem ps_ret (he : PE X e te) : PS X (.Return (some e) pos) (tRet te) := by
  intro pins s σ H D I h
  exact wpAny_Return_some (thn (he pins s σ H _ I h) fun v s1 ⟨x, H1, I1, r1, q1⟩ => ⟨x, σ, H1, I1, r1, q1⟩)
def tIfS (c : TT) (t u : TS) : TS := fun D σ H => c σ H fun b H1 => if b = true then t D σ H1 else u D σ H1
theorem ps_if {c : Expr} {a b : List Stmt} {tc : TT} (hc : PT X c tc) (ha : PSs X a t) (hb : PSs X b u) : PS X (.If c a b pos) (tIfS tc t u) := by
  intro pins s σ H D I h
  refine wpAny_If (thn (hc pins s σ H _ I h) fun d s1 ⟨H1, I1, q1⟩ => ?_)
  cases d with
  | true => exact ha pins s1 σ H1 D I1 q1
  | false => exact hb pins s1 σ H1 D I1 q1
def tNever : TS := fun _ _ _ => False
theorem ps_never : PS X st tNever := fun _ _ _ _ _ _ h => h.elim
end
abbrev TG := V → St → Hp → (St → Hp → Prop) → Prop
abbrev TGs := List V → St → Hp → (St → Hp → Prop) → Prop
def PG (X : Cx) (target : Expr) (t : TG) : Prop :=
  ∀ (pins : List (Addr × Obj)) (s : Shared) (σ : St) (H : Hp) (v : V) (u : Value) (Q : St → Hp → Prop), Inv X pins σ H s → RelV v u → t v σ H Q →
    wpAny (model X.prog X.w) X.A (assign target X.env u) (fun _ s' => ∃ σ' H', Inv X pins σ' H' s' ∧ Q σ' H') X.xe s
def PGs (X : Cx) (ts : List Expr) (t : TGs) : Prop :=
  ∀ (pins : List (Addr × Obj)) (s : Shared) (σ : St) (H : Hp) (vs : List V) (us : List Value) (Q : St → Hp → Prop), Inv X pins σ H s → Vals vs us → t vs σ H Q →
    wpAny (model X.prog X.w) X.A (assignInOrder ((assignEach ts X.env).map (·.2)) us) (fun _ s' => ∃ σ' H', Inv X pins σ' H' s' ∧ Q σ' H') X.xe s
abbrev TSet := V → V → V → Hp → (Hp → Prop) → Prop
def PSet (X : Cx) (t : TSet) : Prop :=
  ∀ (pins : List (Addr × Obj)) (s : Shared) (σ : St) (H : Hp) (o i v : V) (ov iv u : Value) (Q : Hp → Prop), Inv X pins σ H s → RelV o ov → RelV i iv → RelV v u → t o i v H Q →
    wpAny (model X.prog X.w) X.A (setItem ov iv u) (fun _ s' => ∃ H', Inv X pins σ H' s' ∧ Q H') X.xe s
section
variable {X : Cx} {pos : Pos}
def gName (i : Nat) : TG := fun v σ H Q => Q (σ.set i (some v)) H
theorem pg_name {i : Nat} {x : Str} (hN : X.N.Nodup) (hi : X.N[i]? = some x) (hx : Loc X.env.scope x) (hf : X.fn x = true ∨ X.env.scope.names.lookup x = some .local := by first | exact .inl rfl | exact .inr rfl | assumption) : PG X (.Name x pos) (gName i) := by
  intro pins s σ H v u Q I r h
  exact wpAny_assign_Name (store_ok I hN hi hx r (fun s' I' => ⟨_, H, I', h⟩) hf)
def gNil : TGs := fun vs σ H Q => vs = [] ∧ Q σ H
def gCons (t : TG) (u : TGs) : TGs := fun vs σ H Q => ∃ v r, vs = v :: r ∧ t v σ H fun σ' H' => u r σ' H' Q
theorem pgs_nil : PGs X [] gNil := by
  intro pins s σ H vs us Q I r h
  obtain ⟨e, h⟩ := h
  subst e
  cases r
  exact assignInOrder_nil ⟨σ, H, I, h⟩
theorem pgs_cons {e : Expr} {es : List Expr} {t : TG} {u : TGs} (h1 : PG X e t) (h2 : PGs X es u)
    (hs : (assignEach (e :: es) X.env).map (·.2) = assign e X.env :: (assignEach es X.env).map (·.2) := by rfl) : PGs X (e :: es) (gCons t u) := by
  intro pins s σ H vs us Q I r h
  obtain ⟨v, vr, e1, h⟩ := h
  subst e1
  cases r with
  | cons r rr =>
    rw [hs]
    refine assignInOrder_cons (thn (h1 pins s σ H _ _ _ I r h) fun _ s1 ⟨σ1, H1, I1, q1⟩ => ?_)
    exact h2 pins s1 σ1 H1 _ _ Q I1 rr q1
def gTup (K : PySem.W.Frag) (n : Nat) (t : TGs) : TG := fun v σ H Q => ∃ a xs, v = .ref a ∧ SqT K H a xs ∧ xs.length = n ∧ t xs σ H Q
theorem pg_tup {es : List Expr} {k : Nat} {t : TGs} {n : Nat} (hc : X.calm = true) (h : PGs X es t)
    (hn : (assignEach es X.env).length = n := by rfl) (hst : (assignEach es X.env).findIdx? (·.1) = none := by rfl) : PG X (.Tuple es k pos) (gTup X.K n t) := by
  intro pins s σ H v u Q I r hw
  obtain ⟨a, xs, e1, hq, hl, hw⟩ := hw
  subst e1
  cases r
  obtain ⟨its, rv, ht, hz⟩ := I.tuple hq
  refine assign_Tuple_tuple (I.ok.hd hc) ht (by simp [hn, ← hl, rv.length]) hst fun h' hx => ?_
  have I1 : Inv X pins σ H { s with heap := h' } := I.kept (t' := s.toks) fun b o e => hx b o (Nat.ne_of_lt (Heap.lt_size e)) e
  exact h pins _ σ H xs _ Q I1 (by simpa using rv) hw
def gSub (to ti : TE) (t : TSet) : TG := fun v σ H Q => to σ H fun o H1 => ti σ H1 fun i H2 => t o i v H2 fun H3 => Q σ H3
theorem pg_sub {o i : Expr} {to ti : TE} {t : TSet} (ho : PE X o to) (hi : PE X i ti) (hs : PSet X t)
    (ha : ∀ v, assign (.Subscript o i pos) X.env v = (do
      let ov ← holding [v] (eval o X.env)
      let iv ← holding [v, ov] (eval i X.env)
      standAt pos
      holding [v, ov, iv] (setItem ov iv v)
      release [v, ov, iv] []) := by intro _; rfl) : PG X (.Subscript o i pos) (gSub to ti t) := by
  intro pins s σ H v u Q I r h
  rw [ha]
  refine wpAny_bind (wpAny_holding (thn (ho pins s σ H _ I h) fun ov s1 ⟨x, H1, I1, r1, q1⟩ => ?_))
  refine wpAny_bind (wpAny_holding (thn (hi pins s1 σ H1 _ I1 q1) fun iv s2 ⟨y, H2, I2, r2, q2⟩ => ?_))
  refine wpAny_bind (wpAny_standAt (wpAny_bind (wpAny_holding (thn (hs pins s2 σ H2 x y v ov iv u _ I2 r1 r2 r q2) fun _ s3 ⟨H3, I3, q3⟩ => ?_))))
  exact wpAny_release ⟨σ, H3, I3, q3⟩
def tAsg (te : TE) (g : TG) : TS := fun D σ H => te σ H fun x H1 => g x σ H1 D.nx
theorem ps_asg {tg e : Expr} {te : TE} {g : TG} (he : PE X e te) (hg : PG X tg g) (hs : swapsWithSole [tg] e pos.line X.env = pure false := by rfl) (hw : swappedStores [tg] e X.env = pure none := by rfl)
    (h1 : (assignEach [tg] X.env).map (·.2) = [assign tg X.env] := by rfl) : PS X (.Assign [tg] e pos) (tAsg te g) := by
  intro pins s σ H D I h
  refine wpAny_Assign_stores (thn (he pins s σ H _ I h) fun v s1 ⟨x, H1, I1, r1, q1⟩ => ?_) hs hw
  rw [h1]
  exact thn (hg pins s1 σ H1 x v _ I1 r1 q1) fun _ s2 q => q
theorem ps_set {i : Nat} {x : Str} {e : Expr} {te : TE} {pos' : Pos} (hN : X.N.Nodup) (hi : X.N[i]? = some x) (hx : Loc X.env.scope x) (he : PE X e te) (hs : swapsWith e (some (.Name x pos')) pos.line X.env = pure false := by rfl) (hf : X.fn x = true ∨ X.env.scope.names.lookup x = some .local := by first | exact .inl rfl | exact .inr rfl | assumption) :
    PS X (.Assign [.Name x pos'] e pos) (tAsg te (gName i)) := by
  intro pins s σ H D I h
  refine wpAny_Assign_Name (thn (he pins s σ H _ I h) fun v s1 ⟨y, H1, I1, r1, q1⟩ => ?_) hs
  exact store_ok I1 hN hi hx r1 (fun s2 I2 => ⟨_, H1, I2, q1⟩) hf
end
section
variable {X : Cx} {pos : Pos}
def tWhile (c : TT) (tb : TS) : TS := fun D σ H => ∃ W : Nat → St → Hp → Prop, (∃ m, W m σ H) ∧ ∀ m σ H, W m σ H →
  c σ H fun b H1 => if b = true then ∃ N : St → Hp → Prop, (∀ σ' H', N σ' H' → ∃ m', m' < m ∧ W m' σ' H') ∧ tb { D with nx := N, ct := N, bk := D.nx } σ H1 else D.nx σ H1
end
structure It where
  go : Nat → Hp → Prop
  yld : Nat → Hp → V → Hp → Prop
  stop : Nat → Hp → Prop
def FpOk (X : Cx) (pins : List (Addr × Obj)) (H : Hp) (b : Addr) : Prop :=
  H b = none ∧ b ≠ X.env.locals ∧ b ∉ X.fs ∧ (b ∈ X.ex ∨ X.s₀.heap.objs.size ≤ b) ∧ (∀ x c, X.env.cells.lookup x = some c → c ≠ b) ∧ ∀ p ∈ X.pn ++ pins, p.1 ≠ b
theorem Inv.fpOk {X : Cx} {pins : List (Addr × Obj)} {σ : St} {H H' : Hp} {s : Shared} {b : Addr} (I : Inv X pins σ H s) (hb : s.heap.objs.size ≤ b) (hn : H' b = none) : FpOk X pins H' b := by
  refine ⟨hn, Nat.ne_of_gt (Nat.lt_of_lt_of_le I.lt hb), I.nofs hb, .inr (Nat.le_trans I.sz hb), fun x c e z => ?_, fun p hp z => ?_⟩
  · obtain ⟨v, q⟩ := I.cell x c e
    exact absurd (Nat.lt_of_lt_of_le q.lt (by rw [z]; exact hb)) (Nat.lt_irrefl _)
  · exact absurd (Nat.lt_of_lt_of_le (Heap.lt_size (I.pin p hp).1) (by rw [z]; exact hb)) (Nat.lt_irrefl _)
structure Turn (P : Program) (w : World) (K : PySem.W.Frag) (tg : Expr) (J : It) (fp : List Addr) (it : Addr) (tn : Nat → Heap → Prop) : Prop where
  mem : it ∈ fp
  obj : ∀ i h, tn i h → ∀ b ∈ fp, ∃ o, h.get? b = some o ∧ ∀ v, o.data ≠ .cell v
  keep : ∀ i h h', tn i h → (∀ b ∈ fp, ∀ o, h.get? b = some o → h'.get? b = some o) → tn i h'
  item : ∀ (X : Cx), X.prog = P → X.w = w → X.K = K → X.calm = true → ∀ (i : Nat) (pins : List (Addr × Obj)) (s : Shared) (σ : St) (H : Hp) (E : Value → Shared → Prop), Inv X pins σ H s → (∀ b ∈ fp, FpOk X pins H b) → tn i s.heap → J.go i H →
    wpAny (model P w) X.A (pyNext (.ref it)) (fun r s1 => ∃ u, r = some u ∧
      wpAny (model P w) X.A (letOwnedTupleGo tg (.ref it) u) (fun _ s2 => ∃ x H', Inv X pins σ H' s2 ∧ RelV x u ∧ J.yld i H x H' ∧ tn (i + 1) s2.heap ∧ ∀ b ∈ fp, H' b = none) E s1) E s
  done : ∀ (X : Cx), X.prog = P → X.w = w → X.K = K → X.calm = true → ∀ (i : Nat) (pins : List (Addr × Obj)) (s : Shared) (σ : St) (H : Hp) (E : Value → Shared → Prop), Inv X pins σ H s → (∀ b ∈ fp, FpOk X pins H b) → tn i s.heap → J.stop i H →
    wpAny (model P w) X.A (pyNext (.ref it)) (fun r s1 => r = none ∧ Inv X pins σ H s1) E s
  self : ∀ (A : Around) (i : Nat) (s : Shared) (Q : Value → Shared → Prop) (E : Value → Shared → Prop), tn i s.heap → Q (.ref it) s → wpAny (model P w) A (pyIter (.ref it)) Q E s
abbrev TI := St → Hp → (It → Hp → Prop) → Prop
def PIE (X : Cx) (pins : List (Addr × Obj)) (σ : St) (tg : Expr) (R : It → Hp → Prop) (itv : Value) (s2 : Shared) : Prop :=
  ∃ (it : Addr) (fp : List Addr) (tn : Nat → Heap → Prop) (J : It) (H' : Hp), itv = .ref it ∧ Inv X pins σ H' s2 ∧ Turn X.prog X.w X.K tg J fp it tn ∧ tn 0 s2.heap ∧ (∀ b ∈ fp, FpOk X pins H' b) ∧ R J H'
def PI (X : Cx) (tg iter : Expr) (wi : TI) : Prop :=
  ∀ (pins : List (Addr × Obj)) (s : Shared) (σ : St) (H : Hp) (R : It → Hp → Prop), Inv X pins σ H s → wi σ H R →
    wpAny (model X.prog X.w) X.A (eval iter X.env) (fun v s1 => wpAny (model X.prog X.w) X.A (pyIter v) (PIE X pins σ tg R) X.xe s1) X.xe s
theorem go_of {M : Model} {A : Around} {E : Value → Shared → Prop} {s : Shared} {tg : Expr} {it : Addr} {u : Value} {o : Obj} {n : String} {vs : Array Value} {Q : Unit → Shared → Prop} (ho : s.heap.get? it = some o) (hc : o.cls = .type n) (hd : o.data = .fields vs)
    (hn : ["enumerate", "zip", "dict_itemiterator", "dict_reverseitemiterator", "odict_iterator", "itertools.zip_longest", "itertools.pairwise"].contains n = false) (hQ : Q () s) : wpAny M A (letOwnedTupleGo tg (.ref it) u) Q E s := by
  unfold letOwnedTupleGo
  cases tg <;> first
    | exact wpAny_pure hQ
    | (cases u <;> first
        | exact wpAny_pure hQ
        | (refine wpAny_bind (wpAny_load ho ?_)
           rw [hc, hd]
           show wpAny M A (if (["enumerate", "zip", "dict_itemiterator", "dict_reverseitemiterator", "odict_iterator", "itertools.zip_longest", "itertools.pairwise"].contains n && vs[0]? == some (rawInt _)) = true then _ else _) Q E s
           rw [if_neg (by intro h; rw [hn, Bool.false_and] at h; cases h)]
           exact wpAny_pure hQ))
def Itl (K : PySem.W.Frag) (a : Addr) : It :=
  ⟨fun i H => ∃ xs x, SqL K H a xs ∧ xs[i]? = some x, fun i H x H' => H' = H ∧ ∀ xs, SqL K H a xs → xs[i]? = some x, fun i H => ∃ xs, SqL K H a xs ∧ xs.length ≤ i⟩
def Itt (K : PySem.W.Frag) (a : Addr) : It :=
  ⟨fun i H => ∃ xs x, SqT K H a xs ∧ xs[i]? = some x, fun i H x H' => H' = H ∧ ∀ xs, SqT K H a xs → xs[i]? = some x, fun i H => ∃ xs, SqT K H a xs ∧ xs.length ≤ i⟩
def Itr (lo : Int) (n : Nat) : It := ⟨fun i _ => i < n, fun i H x H' => H' = H ∧ x = .int (lo + i), fun i _ => n ≤ i⟩
theorem turn_list {P : Program} {w : World} {K : PySem.W.Frag} {tg : Expr} (a it : Addr) : Turn P w K tg (Itl K a) [it] it (fun i h => h.IsListIter it a i) where
  mem := by simp
  obj := fun i h st b hb => by
    have e : b = it := by simpa using hb
    subst e
    obtain ⟨o, e, c, d⟩ := st
    exact ⟨o, e, fun v z => by rw [d] at z; cases z⟩
  keep := fun i h h' st k => st.at fun o e => k it (by simp) o e
  item := by
    intro X hP hw hK hc i pins s σ H E I hf st hg
    subst hP hw hK
    obtain ⟨xs, x, hq, hx⟩ := hg
    obtain ⟨its, rv, p, hz⟩ := I.list hq
    obtain ⟨u, hu, ru⟩ := rv.get hx
    obtain ⟨f0, f1, f2, f3, f4, f5⟩ := hf it (by simp)
    refine wpAny_pyNext_list_item st p.isList (x := u) (by simpa using hu) fun h' st' sb => ?_
    have I1 : Inv X pins σ H { s with heap := h' } := I.turned (t' := s.toks) (fun b o hb e => (sb.2 b hb).trans e) f0 f1 f3 f4 f5
    obtain ⟨o, e, c, d⟩ := id st'
    exact ⟨u, rfl, go_of (s := { s with heap := h' }) e c d (by decide) ⟨x, H, I1, ru, ⟨rfl, fun ys hy => by rw [I.list_inj hy hq]; exact hx⟩, st', fun b hb => (hf b hb).1⟩⟩
  done := by
    intro X hP hw hK hc i pins s σ H E I hf st hg
    subst hP hw hK
    obtain ⟨xs, hq, hx⟩ := hg
    obtain ⟨its, rv, p, hz⟩ := I.list hq
    obtain ⟨f0, f1, f2, f3, f4, f5⟩ := hf it (by simp)
    have hl := rv.length
    exact wpAny_pyNext_list_end (I.ok.hd hc) st p.isList (by simp; omega) fun h' eb => ⟨rfl, I.turned (t' := s.toks) (fun b o hb e => eb b o hb e) f0 f1 f3 f4 f5⟩
  self := fun _ _ _ _ _ st h => wpAny_pyIter_listiter st h
theorem turn_tuple {P : Program} {w : World} {K : PySem.W.Frag} {tg : Expr} (a it : Addr) : Turn P w K tg (Itt K a) [it] it (fun i h => h.IsTupleIter it a i) where
  mem := by simp
  obj := fun i h st b hb => by
    have e : b = it := by simpa using hb
    subst e
    obtain ⟨o, e, c, d⟩ := st
    exact ⟨o, e, fun v z => by rw [d] at z; cases z⟩
  keep := fun i h h' st k => st.at fun o e => k it (by simp) o e
  item := by
    intro X hP hw hK hc i pins s σ H E I hf st hg
    subst hP hw hK
    obtain ⟨xs, x, hq, hx⟩ := hg
    obtain ⟨its, rv, p, hz⟩ := I.tuple hq
    obtain ⟨u, hu, ru⟩ := rv.get hx
    obtain ⟨f0, f1, f2, f3, f4, f5⟩ := hf it (by simp)
    refine wpAny_pyNext_tuple_item st (show s.heap.IsTuple a its.toArray from p) (x := u) (by simpa using hu) fun h' st' sb => ?_
    have I1 : Inv X pins σ H { s with heap := h' } := I.turned (t' := s.toks) (fun b o hb e => (sb.2 b hb).trans e) f0 f1 f3 f4 f5
    obtain ⟨o, e, c, d⟩ := id st'
    exact ⟨u, rfl, go_of (s := { s with heap := h' }) e c d (by decide) ⟨x, H, I1, ru, ⟨rfl, fun ys hy => by rw [I.tuple_inj hy hq]; exact hx⟩, st', fun b hb => (hf b hb).1⟩⟩
  done := by
    intro X hP hw hK hc i pins s σ H E I hf st hg
    subst hP hw hK
    obtain ⟨xs, hq, hx⟩ := hg
    obtain ⟨its, rv, p, hz⟩ := I.tuple hq
    obtain ⟨f0, f1, f2, f3, f4, f5⟩ := hf it (by simp)
    have hl := rv.length
    exact wpAny_pyNext_tuple_end (I.ok.hd hc) st (show s.heap.IsTuple a its.toArray from p) (by simp; omega) fun h' eb => ⟨rfl, I.turned (t' := s.toks) (fun b o hb e => eb b o hb e) f0 f1 f3 f4 f5⟩
  self := fun _ _ _ _ _ st h => wpAny_pyIter_tupleiter st h
theorem turn_range {P : Program} {w : World} {K : PySem.W.Frag} {tg : Expr} (it : Addr) (lo : Int) (n : Nat) : Turn P w K tg (Itr lo n) [it] it (fun i h => IsRangeIter h it (lo + (i : Nat) * 1) ((n : Int) - (i : Nat)) 1) where
  mem := by simp
  obj := fun i h st b hb => by
    have e : b = it := by simpa using hb
    subst e
    exact ⟨_, st, fun v z => by
      have z' : Data.fields _ = Data.cell v := z
      cases z'⟩
  keep := fun i h h' st k => k it (by simp) _ st
  item := by
    intro X hP hw hK hc i pins s σ H E I hf st hg
    subst hP hw hK
    obtain ⟨f0, f1, f2, f3, f4, f5⟩ := hf it (by simp)
    have W := Walks.range (prog := X.prog) (w := X.w) (I.ok.hd hc) it lo 1 n
    refine W.item i s _ _ hg st fun v h' tk hv st' kk => ?_
    obtain ⟨t, rfl⟩ := hv
    have I1 : Inv X pins σ H { s with heap := h', toks := tk } := I.turned (fun b o hb e => kk b o (by simpa using hb) e) f0 f1 f3 f4 f5
    refine ⟨_, rfl, go_of (s := { s with heap := h', toks := tk }) (n := "range_iterator") st' rfl rfl (by decide) ⟨.int (lo + i), H, I1, ⟨t, ?_⟩, ⟨rfl, rfl⟩, st', fun b hb => (hf b hb).1⟩⟩
    rw [Int.mul_one]
  done := by
    intro X hP hw hK hc i pins s σ H E I hf st hg
    subst hP hw hK
    obtain ⟨f0, f1, f2, f3, f4, f5⟩ := hf it (by simp)
    exact wpAny_pyNext_range_end (I.ok.hd hc) st (by have : n ≤ i := hg; omega) fun h' eb => ⟨rfl, I.turned (t' := s.toks) (fun b o hb e => eb b o hb e) f0 f1 f3 f4 f5⟩
  self := fun _ _ _ _ _ st h => wpAny_pyIter_rangeiter st h
end L2
namespace L2
open PySem PySem.Spec PyProof.Rows
section
variable {X : Cx} {tg : Expr}
def iList (K : PySem.W.Frag) (tl : TE) : TI := fun σ H R => tl σ H fun x H1 => ∃ a, x = .ref a ∧ (∃ xs, SqL K H1 a xs) ∧ R (Itl K a) H1
def iTup (K : PySem.W.Frag) (tl : TE) : TI := fun σ H R => tl σ H fun x H1 => ∃ a, x = .ref a ∧ (∃ xs, SqT K H1 a xs) ∧ R (Itt K a) H1
theorem pi_list {l : Expr} {tl : TE} (hl : PE X l tl) : PI X tg l (iList X.K tl) := by
  intro pins s σ H R I h
  refine thn (hl pins s σ H _ I h) fun v s1 ⟨x, H1, I1, r1, q1⟩ => ?_
  obtain ⟨a, e, ⟨xs, hq⟩, q⟩ := q1
  subst e
  cases r1
  obtain ⟨its, rv, p, hz⟩ := I1.list hq
  refine wpAny_pyIter_list p.isList ?_
  refine ⟨s1.heap.objs.size, [s1.heap.objs.size], _, _, H1, rfl, I1.kept (t' := s1.toks) fun b o e => Heap.get?_push_of_some _ e, turn_list a _, ⟨_, Heap.get?_push_size _ rfl, rfl, rfl⟩, fun b hb => ?_, q⟩
  have e : b = s1.heap.objs.size := by simpa using hb
  subst e
  exact I1.fpOk (Nat.le_refl _) (I1.hok.fresh (Nat.le_refl _))
theorem pi_tup {l : Expr} {tl : TE} (hl : PE X l tl) : PI X tg l (iTup X.K tl) := by
  intro pins s σ H R I h
  refine thn (hl pins s σ H _ I h) fun v s1 ⟨x, H1, I1, r1, q1⟩ => ?_
  obtain ⟨a, e, ⟨xs, hq⟩, q⟩ := q1
  subst e
  cases r1
  obtain ⟨its, rv, p, hz⟩ := I1.tuple hq
  refine wpAny_pyIter_tuple (show s1.heap.IsTuple a its.toArray from p) ?_
  refine ⟨s1.heap.objs.size, [s1.heap.objs.size], _, _, H1, rfl, I1.kept (t' := s1.toks) fun b o e => Heap.get?_push_of_some _ e, turn_tuple a _, ⟨_, Heap.get?_push_size _ rfl, rfl, rfl⟩, fun b hb => ?_, q⟩
  have e : b = s1.heap.objs.size := by simpa using hb
  subst e
  exact I1.fpOk (Nat.le_refl _) (I1.hok.fresh (Nat.le_refl _))
theorem range_it {pins : List (Addr × Obj)} {σ : St} {H : Hp} {s : Shared} {R : It → Hp → Prop} {E : Value → Shared → Prop} {lo hi : Int} {t u v : Tok} {tk : Nat} (I : Inv X pins σ H s) (h1 : -(2 ^ 62) ≤ lo) (h2 : lo < 2 ^ 62) (h3 : -(2 ^ 62) ≤ hi) (h4 : hi < 2 ^ 62)
    (q : R (Itr lo (hi - lo).toNat) H) : wpAny (model X.prog X.w) X.A (pyIter (.ref s.heap.objs.size)) (PIE X pins σ tg R) E { s with heap := s.heap.push { cls := .type "range", data := .fields #[.int lo t, .int hi u, .int 1 v] }, toks := tk } := by
  refine wpAny_pyIter_range (IsRange.new ..) (small_one h1 h2 h3 h4) ?_
  have I1 : Inv X pins σ H { s with heap := s.heap.push { cls := .type "range", data := .fields #[.int lo t, .int hi u, .int 1 v] }, toks := tk } := I.kept fun b o e => Heap.get?_push_of_some _ e
  refine ⟨(s.heap.push { cls := .type "range", data := .fields #[.int lo t, .int hi u, .int 1 v] }).objs.size, [(s.heap.push { cls := .type "range", data := .fields #[.int lo t, .int hi u, .int 1 v] }).objs.size], _, _, H, rfl,
    I1.kept (t' := tk) fun b o e => Heap.get?_push_of_some _ e, turn_range _ lo (hi - lo).toNat, ?_, fun b hb => ?_, q⟩
  · have e1 : lo + ((0 : Nat) : Int) * 1 = lo := by simp
    have e2 : (((hi - lo).toNat : Nat) : Int) - ((0 : Nat) : Int) = Builtin.Range.rangeSize lo hi 1 := by rw [rangeSize_one]; split <;> omega
    show IsRangeIter _ _ (lo + ((0 : Nat) : Int) * 1) ((((hi - lo).toNat : Nat) : Int) - ((0 : Nat) : Int)) 1
    rw [e1, e2]
    exact Heap.get?_push_size _ rfl
  · have e : b = (s.heap.push { cls := .type "range", data := .fields #[.int lo t, .int hi u, .int 1 v] }).objs.size := by simpa using hb
    subst e
    exact I1.fpOk (Nat.le_refl _) (I1.hok.fresh (Nat.le_refl _))
def iRng1 (ta : TA) : TI := fun σ H R => ta σ H fun vs H1 => ∃ j : Int, vs = [.int j] ∧ -(2 ^ 62) ≤ j ∧ j < 2 ^ 62 ∧ R (Itr 0 j.toNat) H1
theorem pi_range1 {a : Expr} {ta : TA} {p pos : Pos} (hg : Gl X "range") (hm : X.mg "range" = none) (ha : PA X [a] ta) (hs : starEach [a] X.env = [(false, eval a X.env)] := by rfl) : PI X tg (.Call (.Name "range" p) [a] [] pos) (iRng1 ta) := by
  intro pins s σ H R I h
  refine Call_ (ld_blt I hg hm boot_range (PyProof.Rows.callWith_type1 (thn (ha pos pins s σ H _ I h) fun us s1 ⟨vs, H1, I1, r1, q1⟩ => ?_) hs rfl))
  obtain ⟨j, e, q1, q2, q⟩ := q1
  subst e
  cases r1 with
  | cons r rr =>
    cases rr
    obtain ⟨t, rfl⟩ := r
    exact call_range_1 (range_it I1 (by omega) (by omega) q1 q2 (by simpa using q))
def tFor (wi : TI) (g : TG) (tb : TS) : TS := fun D σ H => wi σ H fun J H1 => ∃ W : Nat → Nat → St → Hp → Prop, (∃ m, W 0 m σ H1) ∧ ∀ i m σ H, W i m σ H →
  (J.stop i H ∧ D.nx σ H) ∨ (J.go i H ∧ ∃ N : St → Hp → Prop, (∀ σ' H', N σ' H' → ∃ m', m' < m ∧ W (i + 1) m' σ' H') ∧ ∀ x H', J.yld i H x H' → g x σ H' fun σ2 H2 => tb { D with nx := N, ct := N, bk := D.nx } σ2 H2)
def pinsAt (fp : List Addr) (h : Heap) : List (Addr × Obj) := fp.filterMap fun b => (h.get? b).map fun o => (b, o)
theorem mem_pinsAt {fp : List Addr} {h : Heap} {b : Addr} {o : Obj} (hb : b ∈ fp) (e : h.get? b = some o) : (b, o) ∈ pinsAt fp h := List.mem_filterMap.mpr ⟨b, hb, by rw [e]; rfl⟩
theorem of_pinsAt {fp : List Addr} {h : Heap} {p : Addr × Obj} (hp : p ∈ pinsAt fp h) : p.1 ∈ fp ∧ h.get? p.1 = some p.2 := by
  obtain ⟨b, hb, e⟩ := List.mem_filterMap.mp hp
  cases q : h.get? b with
  | none => rw [q] at e; cases e
  | some o =>
    rw [q] at e
    have e' : (b, o) = p := Option.some.inj e
    subst e'
    exact ⟨hb, q⟩
theorem Inv.pinned {pins : List (Addr × Obj)} {σ : St} {H : Hp} {s : Shared} {fp : List Addr} (I : Inv X pins σ H s) (hf : ∀ b ∈ fp, FpOk X pins H b) (ho : ∀ b ∈ fp, ∃ o, s.heap.get? b = some o ∧ ∀ v, o.data ≠ .cell v) : Inv X (pins ++ pinsAt fp s.heap) σ H s :=
  I.pins_of fun p hp => (List.mem_append.mp hp).elim (fun z => I.pin p (List.mem_append_right _ z)) fun z => by
    obtain ⟨hb, e⟩ := of_pinsAt z
    obtain ⟨f0, f1, f2, _⟩ := hf p.1 hb
    obtain ⟨o, e', d⟩ := ho p.1 hb
    rw [e] at e'; cases e'
    exact ⟨e, f0, f1, f2, d⟩
theorem Inv.unpinned {pins pl : List (Addr × Obj)} {σ : St} {H : Hp} {s : Shared} (I : Inv X (pins ++ pl) σ H s) : Inv X pins σ H s := I.pins_of fun p hp => I.pin p (List.mem_append_right _ (List.mem_append_left _ hp))
theorem ps_for {iter : Expr} {body : List Stmt} {wi : TI} {g : TG} {tb : TS} {pos : Pos} (hp : PassesOwn (model X.prog X.w) X.A X.env X.xe) (hc : X.calm = true) (hi : PI X tg iter wi) (hg : PG X tg g) (hb : PSs X body tb)
    (hs : ∀ x, foldedSetIterable iter X.env x = pure x := by intro _; rfl) : PS X (.For tg iter body [] pos) (tFor wi g tb) := by
  intro pins s σ H D I h
  refine wpAny_For (thn (hi pins s σ H _ I h) fun v s1 h1 => thn h1 fun itv s2 h2 => ?_) hs
  obtain ⟨it, fp, tn, J, H2, e, I2, T, st2, f2, W, ⟨m0, w0⟩, turn⟩ := h2
  subst e
  have stat : ∀ {H' : Hp}, (∀ b ∈ fp, H' b = none) → ∀ b ∈ fp, FpOk X pins H' b := fun hn b hb => ⟨hn b hb, (f2 b hb).2⟩
  refine codeAny_forLoop_any (fun n s' => ∃ i σ' H', Inv X pins σ' H' s' ∧ tn i s'.heap ∧ (∀ b ∈ fp, H' b = none) ∧ W i n σ' H') ?_ m0 ⟨0, σ, H2, I2, st2, fun b hb => (f2 b hb).1, w0⟩
  rintro n s3 ⟨i, σ3, H3, I3, st3, fr3, w3⟩
  rcases turn i n σ3 H3 w3 with ⟨stop, qn⟩ | ⟨go, N, hN, step⟩
  · refine wpAny_passesOwn hp (thn (T.done X rfl rfl rfl hc i pins s3 σ3 H3 X.xe I3 (stat fr3) st3 stop) fun r s4 ⟨hr, I4⟩ => ?_)
    subst hr
    exact wpAny_execs_nil ⟨σ3, H3, I4, qn⟩
  · refine wpAny_passesOwn hp (thn (T.item X rfl rfl rfl hc i pins s3 σ3 H3 X.xe I3 (stat fr3) st3 go) fun r s4 ⟨u, hr, h4⟩ => ?_)
    subst hr
    refine wpAny_passesOwn hp (thn h4 fun _ s5 ⟨x, H5, I5, r5, y5, st5, fr5⟩ => ?_)
    have I5' := I5.pinned (stat fr5) (T.obj _ _ st5)
    refine wpAny_passesOwn hp (thn (hg _ s5 σ3 H5 x u _ I5' r5 (step x H5 y5)) fun _ s6 ⟨σ6, H6, I6, q6⟩ => ?_)
    refine wpAny_passesOwn hp (thn (hb _ s6 σ6 H6 _ I6 q6) fun f s7 q7 => ?_)
    have again : ∀ {σ7 : St} {H7 : Hp}, Inv X (pins ++ pinsAt fp s5.heap) σ7 H7 s7 → N σ7 H7 → ∃ m, m < n ∧ ∃ i σ' H', Inv X pins σ' H' s7 ∧ tn i s7.heap ∧ (∀ b ∈ fp, H' b = none) ∧ W i m σ' H' := fun {σ7 H7} I7 n7 => by
      obtain ⟨m', hm, w7⟩ := hN σ7 H7 n7
      refine ⟨m', hm, i + 1, σ7, H7, I7.unpinned, T.keep _ _ _ st5 fun b hb o e => (I7.pin (b, o) (List.mem_append_right _ (List.mem_append_right _ (mem_pinsAt hb e)))).1, fun b hb => ?_, w7⟩
      obtain ⟨o, e, d⟩ := T.obj _ _ st5 b hb
      exact (I7.pin (b, o) (List.mem_append_right _ (List.mem_append_right _ (mem_pinsAt hb e)))).2.1
    cases f with
    | next => obtain ⟨σ7, H7, I7, n7⟩ := q7; exact again I7 n7
    | cont => obtain ⟨σ7, H7, I7, n7⟩ := q7; exact again I7 n7
    | brk => obtain ⟨σ7, H7, I7, q7⟩ := q7; exact ⟨σ7, H7, I7.unpinned, q7⟩
    | ret v => obtain ⟨x7, σ7, H7, I7, r7, q7⟩ := q7; exact ⟨x7, σ7, H7, I7.unpinned, r7, q7⟩
end
theorem for_list {K : PySem.W.Frag} {a : Addr} {xs : List V} {g : TG} {tb : TS} {D : Ends} {σ : St} {H : Hp} (Pv : Nat → St → Hp → Prop) (h0 : Pv 0 σ H) (hl : ∀ i σ H, i ≤ xs.length → Pv i σ H → SqL K H a xs)
    (hs : ∀ i x σ H, xs[i]? = some x → Pv i σ H → g x σ H fun σ2 H2 => tb { D with nx := Pv (i + 1), ct := Pv (i + 1), bk := D.nx } σ2 H2) (hd : ∀ σ H, Pv xs.length σ H → D.nx σ H) :
    ∃ W : Nat → Nat → St → Hp → Prop, (∃ m, W 0 m σ H) ∧ ∀ i m σ H, W i m σ H →
      ((Itl K a).stop i H ∧ D.nx σ H) ∨ ((Itl K a).go i H ∧ ∃ N : St → Hp → Prop, (∀ σ' H', N σ' H' → ∃ m', m' < m ∧ W (i + 1) m' σ' H') ∧ ∀ x H', (Itl K a).yld i H x H' → g x σ H' fun σ2 H2 => tb { D with nx := N, ct := N, bk := D.nx } σ2 H2) := by
  refine ⟨fun i m σ H => m = xs.length - i ∧ i ≤ xs.length ∧ Pv i σ H, ⟨xs.length, by simp, Nat.zero_le _, h0⟩, ?_⟩
  rintro i m σ H ⟨rfl, hi, p⟩
  have q := hl i σ H hi p
  by_cases hlt : i < xs.length
  · refine .inr ⟨⟨xs, xs[i], q, by simp [hlt]⟩, Pv (i + 1), fun σ' H' p' => ⟨xs.length - (i + 1), by omega, rfl, hlt, p'⟩, fun x H' y => ?_⟩
    obtain ⟨e, y⟩ := y
    subst e
    exact hs i x σ _ (y xs q) p
  · have e : i = xs.length := by omega
    subst e
    exact .inl ⟨⟨xs, q, Nat.le_refl _⟩, hd σ H p⟩
theorem for_tup {K : PySem.W.Frag} {a : Addr} {xs : List V} {g : TG} {tb : TS} {D : Ends} {σ : St} {H : Hp} (Pv : Nat → St → Hp → Prop) (h0 : Pv 0 σ H) (hl : ∀ i σ H, i ≤ xs.length → Pv i σ H → SqT K H a xs)
    (hs : ∀ i x σ H, xs[i]? = some x → Pv i σ H → g x σ H fun σ2 H2 => tb { D with nx := Pv (i + 1), ct := Pv (i + 1), bk := D.nx } σ2 H2) (hd : ∀ σ H, Pv xs.length σ H → D.nx σ H) :
    ∃ W : Nat → Nat → St → Hp → Prop, (∃ m, W 0 m σ H) ∧ ∀ i m σ H, W i m σ H →
      ((Itt K a).stop i H ∧ D.nx σ H) ∨ ((Itt K a).go i H ∧ ∃ N : St → Hp → Prop, (∀ σ' H', N σ' H' → ∃ m', m' < m ∧ W (i + 1) m' σ' H') ∧ ∀ x H', (Itt K a).yld i H x H' → g x σ H' fun σ2 H2 => tb { D with nx := N, ct := N, bk := D.nx } σ2 H2) := by
  refine ⟨fun i m σ H => m = xs.length - i ∧ i ≤ xs.length ∧ Pv i σ H, ⟨xs.length, by simp, Nat.zero_le _, h0⟩, ?_⟩
  rintro i m σ H ⟨rfl, hi, p⟩
  have q := hl i σ H hi p
  by_cases hlt : i < xs.length
  · refine .inr ⟨⟨xs, xs[i], q, by simp [hlt]⟩, Pv (i + 1), fun σ' H' p' => ⟨xs.length - (i + 1), by omega, rfl, hlt, p'⟩, fun x H' y => ?_⟩
    obtain ⟨e, y⟩ := y
    subst e
    exact hs i x σ _ (y xs q) p
  · have e : i = xs.length := by omega
    subst e
    exact .inl ⟨⟨xs, q, Nat.le_refl _⟩, hd σ H p⟩
theorem for_range {lo : Int} {n : Nat} {g : TG} {tb : TS} {D : Ends} {σ : St} {H : Hp} (Pv : Nat → St → Hp → Prop) (h0 : Pv 0 σ H)
    (hs : ∀ i σ H, i < n → Pv i σ H → g (.int (lo + i)) σ H fun σ2 H2 => tb { D with nx := Pv (i + 1), ct := Pv (i + 1), bk := D.nx } σ2 H2) (hd : ∀ σ H, Pv n σ H → D.nx σ H) :
    ∃ W : Nat → Nat → St → Hp → Prop, (∃ m, W 0 m σ H) ∧ ∀ i m σ H, W i m σ H →
      ((Itr lo n).stop i H ∧ D.nx σ H) ∨ ((Itr lo n).go i H ∧ ∃ N : St → Hp → Prop, (∀ σ' H', N σ' H' → ∃ m', m' < m ∧ W (i + 1) m' σ' H') ∧ ∀ x H', (Itr lo n).yld i H x H' → g x σ H' fun σ2 H2 => tb { D with nx := N, ct := N, bk := D.nx } σ2 H2) := by
  refine ⟨fun i m σ H => m = n - i ∧ i ≤ n ∧ Pv i σ H, ⟨n, by simp, Nat.zero_le _, h0⟩, ?_⟩
  rintro i m σ H ⟨rfl, hi, p⟩
  by_cases hlt : i < n
  · refine .inr ⟨hlt, Pv (i + 1), fun σ' H' p' => ⟨n - (i + 1), by omega, rfl, hlt, p'⟩, fun x H' y => ?_⟩
    obtain ⟨e, y⟩ := y
    subst e y
    exact hs i σ _ hlt p
  · have e : i = n := by omega
    subst e
    exact .inl ⟨Nat.le_refl _, hd σ H p⟩
theorem while_by {c : TT} {tb : TS} {D : Ends} {σ : St} {H : Hp} (Pv : St → Hp → Prop) (μ : St → Hp → Nat) (h0 : Pv σ H)
    (hs : ∀ σ H, Pv σ H → c σ H fun b H1 => if b = true then tb { D with nx := fun σ' H' => Pv σ' H' ∧ μ σ' H' < μ σ H, ct := fun σ' H' => Pv σ' H' ∧ μ σ' H' < μ σ H, bk := D.nx } σ H1 else D.nx σ H1)
    (mono : ∀ σ H Q Q', (∀ b H1, Q b H1 → Q' b H1) → c σ H Q → c σ H Q') : tWhile c tb D σ H := by
  refine ⟨fun m σ H => m = μ σ H ∧ Pv σ H, ⟨_, rfl, h0⟩, ?_⟩
  rintro m σ H ⟨rfl, p⟩
  refine mono σ H _ _ (fun b H1 q => ?_) (hs σ H p)
  cases b with
  | true => exact ⟨_, fun σ' H' ⟨p', l⟩ => ⟨_, l, rfl, p'⟩, q⟩
  | false => exact q
end L2
namespace L2
open PySem PySem.Spec PyProof.Rows
abbrev R2 := V → V → Hp → VK → Prop
def OpR (X : Cx) (f : Value → Value → Sem Value) (r : R2) : Prop :=
  ∀ (pins : List (Addr × Obj)) (s : Shared) (σ : St) (H : Hp) (x y : V) (v u : Value) (Q : VK), Inv X pins σ H s → RelV x v → RelV y u → r x y H Q →
    wpAny (model X.prog X.w) X.A (f v u) (EP X pins σ Q) X.xe s
def CallR (X : Cx) (f : Value) (r : List V → Hp → VK → Prop) : Prop :=
  ∀ (pins : List (Addr × Obj)) (s : Shared) (σ : St) (H : Hp) (xs : List V) (us : List Value) (Q : VK), Inv X pins σ H s → Vals xs us → r xs H Q →
    wpAny (model X.prog X.w) X.A (call f us) (EP X pins σ Q) X.xe s
def TruR (X : Cx) (r : V → Hp → (Bool → Hp → Prop) → Prop) : Prop :=
  ∀ (pins : List (Addr × Obj)) (s : Shared) (σ : St) (H : Hp) (x : V) (v : Value) (Q : Bool → Hp → Prop), Inv X pins σ H s → RelV x v → r x H Q →
    wpAny (model X.prog X.w) X.A (truthy v) (TP X pins σ Q) X.xe s
def tOp (r : R2) (ta tb : TE) : TE := fun σ H Q => ta σ H fun x H1 => tb σ H1 fun y H2 => r x y H2 Q
def rI (C : Int → Int → Prop) (g : Int → Int → V) : R2 := fun x y H Q => ∃ i j, x = .int i ∧ y = .int j ∧ C i j ∧ Q (g i j) H
def rI0 (g : Int → Int → V) : R2 := fun x y H Q => ∃ i j, x = .int i ∧ y = .int j ∧ Q (g i j) H
section
variable {X : Cx} {a b c : Expr} {ta tb tc : TE} {pos : Pos}
theorem binT (ha : PE X a ta) (hb : PE X b tb) {pins : List (Addr × Obj)} {s : Shared} {σ : St} {H : Hp} {R : V → V → Hp → Prop} (I : Inv X pins σ H s)
    (h : ta σ H fun x H1 => tb σ H1 fun y H2 => R x y H2) {Q : Value → Shared → Prop} {f : Value → Value → Sem Value}
    (hf : ∀ v u s2 x y H2, Inv X pins σ H2 s2 → RelV x v → RelV y u → R x y H2 → wpAny (model X.prog X.w) X.A (f v u) Q X.xe s2) :
    wpAny (model X.prog X.w) X.A (eval a X.env) (fun v s₁ => wpAny (model X.prog X.w) X.A (eval b X.env) (fun u s₂ => wpAny (model X.prog X.w) X.A (f v u) Q X.xe s₂) X.xe s₁) X.xe s := by
  refine thn (ha pins s σ H _ I h) fun v s1 ⟨x, H1, I1, r1, q1⟩ => ?_
  refine thn (hb pins s1 σ H1 _ I1 q1) fun u s2 ⟨y, H2, I2, r2, q2⟩ => ?_
  exact hf v u s2 x y H2 I2 r1 r2 q2
theorem pe_op {op : Operator} {r : R2} (ho : OpR X (binaryOp op) r) (ha : PE X a ta) (hb : PE X b tb) : PE X (.BinOp a op b pos) (tOp r ta tb) := by
  intro pins s σ H Q I h
  exact wpAny_BinOp (binT ha hb I h fun v u s2 x y H2 I2 rx ry q => ho pins s2 σ H2 x y v u Q I2 rx ry q)
theorem opI {f : Value → Value → Sem Value} {C : Int → Int → Prop} {g : Int → Int → Int}
    (rule : ∀ (i j : Int) (t u : Tok) (s : Shared) (Q : Value → Shared → Prop) (E : Value → Shared → Prop), C i j → Q (.int (g i j) s.toks) { s with toks := s.toks + 1 } → wpAny (model X.prog X.w) X.A (f (.int i t) (.int j u)) Q E s) :
    OpR X f (rI C fun i j => .int (g i j)) := by
  intro pins s σ H x y v u Q I rx ry h
  obtain ⟨i, j, rfl, rfl, hc, q⟩ := h
  obtain ⟨t, rfl⟩ := rx
  obtain ⟨t', rfl⟩ := ry
  exact rule i j t t' s _ _ hc ⟨.int (g i j), H, I.tok _, ⟨_, rfl⟩, q⟩
theorem opI0 {f : Value → Value → Sem Value} {g : Int → Int → Int}
    (rule : ∀ (i j : Int) (t u : Tok) (s : Shared) (Q : Value → Shared → Prop) (E : Value → Shared → Prop), Q (.int (g i j) s.toks) { s with toks := s.toks + 1 } → wpAny (model X.prog X.w) X.A (f (.int i t) (.int j u)) Q E s) :
    OpR X f (rI0 fun i j => .int (g i j)) := by
  intro pins s σ H x y v u Q I rx ry h
  obtain ⟨i, j, rfl, rfl, q⟩ := h
  obtain ⟨t, rfl⟩ := rx
  obtain ⟨t', rfl⟩ := ry
  exact rule i j t t' s _ _ ⟨.int (g i j), H, I.tok _, ⟨_, rfl⟩, q⟩
theorem opB0 {f : Value → Value → Sem Value} {g : Int → Int → Bool}
    (rule : ∀ (i j : Int) (t u : Tok) (s : Shared) (Q : Value → Shared → Prop) (E : Value → Shared → Prop), Q (.bool (g i j)) s → wpAny (model X.prog X.w) X.A (f (.int i t) (.int j u)) Q E s) :
    OpR X f (rI0 fun i j => .bl (g i j)) := by
  intro pins s σ H x y v u Q I rx ry h
  obtain ⟨i, j, rfl, rfl, q⟩ := h
  obtain ⟨t, rfl⟩ := rx
  obtain ⟨t', rfl⟩ := ry
  exact rule i j t t' s _ _ ⟨.bl (g i j), H, I, rfl, q⟩
def CDiv (i j : Int) : Prop := 0 < j ∧ j < 1073741824
def CMul (i j : Int) : Prop := (-(2 ^ 64) < i ∧ i < 2 ^ 64) ∨ (-(2 ^ 64) < j ∧ j < 2 ^ 64)
theorem CMul.ok {i j : Int} (h : CMul i j) : IntMulOk i j := by
  rcases h with ⟨h1, h2⟩ | ⟨h1, h2⟩
  · exact .of_left (intBits_le_64 h1 h2)
  · exact .of_right (intBits_le_64 h1 h2)
theorem op_add : OpR X (binaryOp .Add) (rI0 fun i j => .int (i + j)) := opI0 fun _ _ _ _ _ _ _ q => add_int q
theorem op_sub : OpR X (binaryOp .Sub) (rI0 fun i j => .int (i - j)) := opI0 fun _ _ _ _ _ _ _ q => sub_int q
theorem op_mul : OpR X (binaryOp .Mult) (rI CMul fun i j => .int (i * j)) := opI fun _ _ _ _ _ _ _ hc q => mul_int q hc.ok
theorem op_fdiv : OpR X (binaryOp .FloorDiv) (rI CDiv fun i j => .int (i / j)) := opI fun i j _ _ _ _ _ hc q => by
  have h1 : (0 : Int) < j := hc.1
  have h2 : j < 1073741824 := hc.2
  exact floordiv_int (by omega) (by rw [Int.fdiv_eq_ediv_of_nonneg i (by omega)]; exact q) (.inl (PyProof.noPylong_small (by omega)))
theorem op_mod : OpR X (binaryOp .Mod) (rI (fun _ j => 0 < j) fun i j => .int (i % j)) := opI fun i j _ _ _ _ _ hc q => by
  have h1 : (0 : Int) < j := hc
  exact mod_int' (by omega) (by rw [Int.fmod_eq_emod_of_nonneg i (by omega)]; exact q)
end
def scal : V → V → Bool
  | .non, .non => true | .non, .int _ => true | .int _, .non => true | .non, .bl _ => true | .bl _, .non => true | .non, .str _ => true | .str _, .non => true
  | .int _, .int _ => true | .bl _, .bl _ => true | .str _, .str _ => true | .byt _, .byt _ => true
  | .int _, .str _ => true | .str _, .int _ => true | .bl _, .str _ => true | .str _, .bl _ => true
  | _, _ => false
def rEq : R2 := fun x y H Q => scal x y = true ∧ Q (.bl (decide (x = y))) H
def rNe : R2 := fun x y H Q => scal x y = true ∧ Q (.bl (!decide (x = y))) H
theorem dec_int {i j : Int} : decide (V.int i = V.int j) = (i == j) := by
  rw [Bool.eq_iff_iff]
  simp
theorem dec_bl {i j : Bool} : decide (V.bl i = V.bl j) = (i == j) := by
  rw [Bool.eq_iff_iff]
  simp
theorem dec_str {i j : Str} : decide (V.str i = V.str j) = (i == j) := by
  rw [Bool.eq_iff_iff]
  simp
theorem dec_byt {i j : Array UInt8} : decide (V.byt i = V.byt j) = (i.toList == j.toList) := by
  rw [Bool.eq_iff_iff]
  cases i
  cases j
  simp
section
variable {X : Cx} {a b c : Expr} {ta tb tc : TE} {pos : Pos}
theorem fin_bl {pins : List (Addr × Obj)} {σ : St} {H : Hp} {s : Shared} {Q : VK} {k k' : Bool} (I : Inv X pins σ H s) (q : Q (.bl k) H) (e : k = k') : EP X pins σ Q (.bool k') s := by
  subst e
  exact ⟨.bl k, H, I, rfl, q⟩
theorem op_eq : OpR X (compareOp .Eq) rEq := by
  intro pins s σ H x y v u Q I rx ry h
  obtain ⟨hs, q⟩ := h
  cases x with
  | non =>
    cases rx
    cases y with
    | non => cases ry; exact PySem.EqNone.eq_none_none (fin_bl I q (by simp))
    | bl j => cases ry; exact PySem.EqNone.eq_none_bool (fin_bl I q (by simp))
    | int j => obtain ⟨t', rfl⟩ := ry; exact PySem.EqNone.eq_none_int (fin_bl I q (by simp))
    | str j => obtain ⟨t', rfl⟩ := ry; exact PySem.EqNone.eq_none_str (fin_bl I q (by simp))
    | _ => exact absurd (show false = true from hs) Bool.false_ne_true
  | bl i =>
    cases rx
    cases y with
    | non => cases ry; exact PySem.EqNone.eq_bool_none (fin_bl I q (by simp))
    | bl j => cases ry; exact eq_bool (fin_bl I q dec_bl)
    | str j => obtain ⟨t', rfl⟩ := ry; exact PySem.EqMixed.eq_bool_str (fin_bl I q (by simp))
    | _ => exact absurd (show false = true from hs) Bool.false_ne_true
  | int i =>
    obtain ⟨t, rfl⟩ := rx
    cases y with
    | non => cases ry; exact PySem.EqNone.eq_int_none (fin_bl I q (by simp))
    | int j => obtain ⟨t', rfl⟩ := ry; exact eq_int (fin_bl I q dec_int)
    | str j => obtain ⟨t', rfl⟩ := ry; exact PySem.EqMixed.eq_int_str (fin_bl I q (by simp))
    | _ => exact absurd (show false = true from hs) Bool.false_ne_true
  | str i =>
    obtain ⟨t, rfl⟩ := rx
    cases y with
    | non => cases ry; exact PySem.EqNone.eq_str_none (fin_bl I q (by simp))
    | bl j => cases ry; exact PySem.EqMixed.eq_str_bool (fin_bl I q (by simp))
    | int j => obtain ⟨t', rfl⟩ := ry; exact PySem.EqMixed.eq_str_int (fin_bl I q (by simp))
    | str j => obtain ⟨t', rfl⟩ := ry; exact eq_str (fin_bl I q dec_str)
    | _ => exact absurd (show false = true from hs) Bool.false_ne_true
  | byt i =>
    obtain ⟨t, rfl⟩ := rx
    cases y with
    | byt j => obtain ⟨t', rfl⟩ := ry; exact PySem.W.eq_bytes (fin_bl I q dec_byt)
    | _ => exact absurd (show false = true from hs) Bool.false_ne_true
  | _ => cases y <;> exact absurd (show false = true from hs) Bool.false_ne_true
theorem op_ne : OpR X (compareOp .NotEq) rNe := by
  intro pins s σ H x y v u Q I rx ry h
  obtain ⟨hs, q⟩ := h
  cases x with
  | non =>
    cases rx
    cases y with
    | non => cases ry; exact PySem.EqNone.ne_none_none (fin_bl I q (by simp))
    | bl j => cases ry; exact PySem.EqNone.ne_none_bool (fin_bl I q (by simp))
    | int j => obtain ⟨t', rfl⟩ := ry; exact PySem.EqNone.ne_none_int (fin_bl I q (by simp))
    | str j => obtain ⟨t', rfl⟩ := ry; exact PySem.EqNone.ne_none_str (fin_bl I q (by simp))
    | _ => exact absurd (show false = true from hs) Bool.false_ne_true
  | bl i =>
    cases rx
    cases y with
    | non => cases ry; exact PySem.EqNone.ne_bool_none (fin_bl I q (by simp))
    | bl j => cases ry; exact ne_bool (fin_bl I q (congrArg not dec_bl))
    | str j => obtain ⟨t', rfl⟩ := ry; exact PySem.EqMixed.ne_bool_str (fin_bl I q (by simp))
    | _ => exact absurd (show false = true from hs) Bool.false_ne_true
  | int i =>
    obtain ⟨t, rfl⟩ := rx
    cases y with
    | non => cases ry; exact PySem.EqNone.ne_int_none (fin_bl I q (by simp))
    | int j => obtain ⟨t', rfl⟩ := ry; exact ne_int (fin_bl I q (congrArg not dec_int))
    | str j => obtain ⟨t', rfl⟩ := ry; exact PySem.EqMixed.ne_int_str (fin_bl I q (by simp))
    | _ => exact absurd (show false = true from hs) Bool.false_ne_true
  | str i =>
    obtain ⟨t, rfl⟩ := rx
    cases y with
    | non => cases ry; exact PySem.EqNone.ne_str_none (fin_bl I q (by simp))
    | bl j => cases ry; exact PySem.EqMixed.ne_str_bool (fin_bl I q (by simp))
    | int j => obtain ⟨t', rfl⟩ := ry; exact PySem.EqMixed.ne_str_int (fin_bl I q (by simp))
    | str j => obtain ⟨t', rfl⟩ := ry; exact ne_str (fin_bl I q (congrArg not dec_str))
    | _ => exact absurd (show false = true from hs) Bool.false_ne_true
  | byt i =>
    obtain ⟨t, rfl⟩ := rx
    cases y with
    | byt j => obtain ⟨t', rfl⟩ := ry; exact PySem.W.ne_bytes (fin_bl I q (congrArg not dec_byt))
    | _ => exact absurd (show false = true from hs) Bool.false_ne_true
  | _ => cases y <;> exact absurd (show false = true from hs) Bool.false_ne_true
theorem op_lt : OpR X (compareOp .Lt) (rI0 fun i j => .bl (decide (i < j))) := opB0 fun _ _ _ _ _ _ _ q => lt_int q
theorem op_le : OpR X (compareOp .LtE) (rI0 fun i j => .bl (decide (i ≤ j))) := opB0 fun _ _ _ _ _ _ _ q => le_int q
theorem op_gt : OpR X (compareOp .Gt) (rI0 fun i j => .bl (decide (j < i))) := opB0 fun _ _ _ _ _ _ _ q => gt_int q
theorem op_isN : OpR X (compareOp .Is) (fun x y H Q => y = .non ∧ Q (.bl (decide (x = .non))) H) := by
  intro pins s σ H x y v u Q I rx ry h
  obtain ⟨rfl, q⟩ := h
  cases ry
  refine is_none_gen (fin_bl I q ?_)
  cases x <;> first
    | (cases rx; rfl)
    | (obtain ⟨t, rfl⟩ := rx; rfl)
theorem op_notN : OpR X (compareOp .IsNot) (fun x y H Q => y = .non ∧ Q (.bl (!decide (x = .non))) H) := by
  intro pins s σ H x y v u Q I rx ry h
  obtain ⟨rfl, q⟩ := h
  cases ry
  refine isnot_none_gen (fin_bl I q ?_)
  cases x <;> first
    | (cases rx; rfl)
    | (obtain ⟨t, rfl⟩ := rx; rfl)
theorem nomark (b : Expr) {op : CmpOp} (h : op ≠ .In := by decide) (h2 : op ≠ .NotIn := by decide) : behindInMarks op b = false := by
  have e1 : (op == CmpOp.In) = false := by cases op <;> first | rfl | exact absurd rfl h
  have e2 : (op == CmpOp.NotIn) = false := by cases op <;> first | rfl | exact absurd rfl h2
  cases b <;> simp [behindInMarks, e1, e2]
theorem pe_cmpR {op : CmpOp} {r : R2} (ho : OpR X (compareOp op) r) (ha : PE X a ta) (hb : PE X b tb) (hm : behindInMarks op b = false) : PE X (.Compare a [op] [b] pos) (tOp r ta tb) := by
  intro pins s σ H Q I h
  exact wpAny_Compare1 (binT ha hb I h fun v u s2 x y H2 I2 rx ry q => ho pins s2 σ H2 x y v u Q I2 rx ry q) hm
def tTest (t : TE) : TT := fun σ H Q => t σ H fun x H' => ∃ k, x = .bl k ∧ Q k H'
theorem pt_cmpR {op : CmpOp} {r : R2} (ho : OpR X (compareOp op) r) (ha : PE X a ta) (hb : PE X b tb) (hm : behindInMarks op b = false) : PT X (.Compare a [op] [b] pos) (tTest (tOp r ta tb)) := by
  intro pins s σ H Q I h
  refine wpAny_isTrue_Compare1 (thn (ha pins s σ H _ I h) fun v s1 ⟨x, H1, I1, r1, q1⟩ => thn (hb pins s1 σ H1 _ I1 q1) fun u s2 ⟨y, H2, I2, r2, q2⟩ =>
    thn (ho pins s2 σ H2 x y v u _ I2 r1 r2 q2) fun c s3 ⟨z, H3, I3, r3, k, e, q3⟩ => ?_) hm
  subst e
  cases r3
  exact wpAny_truthy_bool ⟨H3, I3, q3⟩
def tChain (r r' : R2) (ta tb tc : TE) : TE := fun σ H Q => ta σ H fun x H1 => tb σ H1 fun y H2 => r x y H2 fun z H3 => ∃ k, z = .bl k ∧
  (if k = true then tc σ H3 fun w' H4 => r' y w' H4 Q else Q (.bl false) H3)
theorem pe_chain {op op' : CmpOp} {r r' : R2} (ho : OpR X (compareOp op) r) (ho' : OpR X (compareOp op') r') (ha : PE X a ta) (hb : PE X b tb) (hc : PE X c tc)
    (hm : lastMarks [op, op'] [b, c] = false := by with_unfolding_all rfl) : PE X (.Compare a [op, op'] [b, c] pos) (tChain r r' ta tb tc) := by
  intro pins s σ H Q I h
  refine Compare_chain (thn (ha pins s σ H _ I h) fun v s1 ⟨x, H1, I1, r1, q1⟩ => chain_link (thn (hb pins s1 σ H1 _ I1 q1) fun u s2 ⟨y, H2, I2, r2, q2⟩ =>
    thn (ho pins s2 σ H2 x y v u _ I2 r1 r2 q2) fun d s3 ⟨z, H3, I3, r3, k, e, q3⟩ => ?_)) hm
  subst e
  cases r3
  refine wpAny_truthy_bool ?_
  cases k with
  | false => exact ite_ff ⟨.bl false, H3, I3, rfl, q3⟩
  | true => exact ite_tt (chain_last (thn (hc pins s3 σ H3 _ I3 q3) fun w' s4 ⟨z', H4, I4, r4, q4⟩ => ho' pins s4 σ H4 y z' u w' Q I4 r2 r4 q4))
theorem pt_chain {op op' : CmpOp} {r r' : R2} (ho : OpR X (compareOp op) r) (ho' : OpR X (compareOp op') r') (ha : PE X a ta) (hb : PE X b tb) (hc : PE X c tc)
    (hm : lastMarks [op, op'] [b, c] = false := by with_unfolding_all rfl) : PT X (.Compare a [op, op'] [b, c] pos) (tTest (tChain r r' ta tb tc)) := by
  intro pins s σ H Q I h
  refine isTrue_chain (thn (ha pins s σ H _ I h) fun v s1 ⟨x, H1, I1, r1, q1⟩ => test_link (thn (hb pins s1 σ H1 _ I1 q1) fun u s2 ⟨y, H2, I2, r2, q2⟩ =>
    thn (ho pins s2 σ H2 x y v u _ I2 r1 r2 q2) fun d s3 ⟨z, H3, I3, r3, k, e, q3⟩ => ?_)) hm
  subst e
  cases r3
  refine wpAny_truthy_bool ?_
  cases k with
  | false =>
    obtain ⟨k', e', q'⟩ := q3
    cases e'
    exact ite_ff ⟨H3, I3, q'⟩
  | true =>
    refine ite_tt (test_last (thn (hc pins s3 σ H3 _ I3 q3) fun w' s4 ⟨z', H4, I4, r4, q4⟩ => thn (ho' pins s4 σ H4 y z' u w' _ I4 r2 r4 q4) fun d' s5 ⟨z2, H5, I5, r5, k2, e2, q5⟩ => ?_))
    subst e2
    cases r5
    exact wpAny_truthy_bool ⟨H5, I5, q5⟩
def TruV (K : PySem.W.Frag) (x : V) (H : Hp) (k : Bool) : Prop :=
  match x with
  | .non => k = false
  | .bl b => k = b
  | .int i => k = (i != 0)
  | .str y => y.length ≤ sizeLine ∧ k = ((y.length : Int) != 0)
  | .byt y => y.size ≤ sizeLine ∧ k = ((y.size : Int) != 0)
  | .ref p => (∃ xs, SqL K H p xs ∧ k = !xs.isEmpty) ∨ (∃ xs, SqT K H p xs ∧ k = !xs.isEmpty) ∨ ∃ kvs, H p = some (.dK kvs) ∧ k = !kvs.isEmpty
  | _ => False
theorem isEmpty_kv {κ : Type} {kvs : List (κ × V)} {vs : List (κ × Value)} (r : KV kvs vs) : (!vs.isEmpty) = !kvs.isEmpty := by
  cases r <;> rfl
theorem isEmpty_of {xs : List V} {its : List Value} (r : Vals xs its) : (!its.toArray.isEmpty) = !xs.isEmpty := by
  cases r <;> simp
theorem line63 : (sizeLine : Nat) < 2 ^ 63 := by rw [sizeLine_eq]; decide
theorem tru_ok : TruR X (fun x H Q => ∃ k, TruV X.K x H k ∧ Q k H) := by
  intro pins s σ H x v Q I rx h
  obtain ⟨k, e, q⟩ := h
  have hl := line63
  have hs : sizeLine = 16777216 := sizeLine_eq
  cases x with
  | non =>
    cases rx
    have e' : k = false := e
    subst e'
    exact truthy_none ⟨H, I, q⟩
  | bl b =>
    cases rx
    have e' : k = b := e
    subst e'
    exact wpAny_truthy_bool ⟨H, I, q⟩
  | int i =>
    obtain ⟨t, rfl⟩ := rx
    have e' : k = (i != 0) := e
    subst e'
    exact PySem.P.truthy_int ⟨H, I, q⟩
  | str y =>
    obtain ⟨t, rfl⟩ := rx
    obtain ⟨hy, e'⟩ : y.length ≤ sizeLine ∧ k = ((y.length : Int) != 0) := e
    subst e'
    exact PySem.P.truthy_str (by omega) ⟨H, I.tok _, q⟩
  | byt y =>
    obtain ⟨t, rfl⟩ := rx
    obtain ⟨hy, e'⟩ : y.size ≤ sizeLine ∧ k = ((y.size : Int) != 0) := e
    subst e'
    exact PySem.W.truthy_bytes (by omega) ⟨H, I.tok _, q⟩
  | ref p =>
    cases rx
    have e' : (∃ xs, SqL X.K H p xs ∧ k = !xs.isEmpty) ∨ (∃ xs, SqT X.K H p xs ∧ k = !xs.isEmpty) ∨ ∃ kvs, H p = some (.dK kvs) ∧ k = !kvs.isEmpty := e
    rcases e' with ⟨xs, hx, e'⟩ | ⟨xs, hx, e'⟩ | ⟨kvs, hx, e'⟩
    · subst e'
      obtain ⟨its, r, pl, hz⟩ := I.list hx
      have hlen := r.length
      exact wpAny_truthy_list pl.isList (by simp only [List.size_toArray]; omega) ⟨H, I.tok _, by rw [isEmpty_of r]; exact q⟩
    · subst e'
      obtain ⟨its, r, pl, hz⟩ := I.tuple hx
      have hlen := r.length
      exact truthy_tuple pl (by simp only [List.size_toArray]; omega) ⟨H, I.tok _, by rw [isEmpty_of r]; exact q⟩
    · subst e'
      obtain ⟨hz, hS, vs, r, m⟩ : kvs.length ≤ sizeLine ∧ (p == sysModules) = false ∧ ∃ vs, KV kvs vs ∧ s.heap.DictOf (mixKind X.prog X.w) p vs := I.hok p _ hx
      have hlen : kvs.length = vs.length := Paired.length r
      exact wpAny_truthy_dict hS m (by omega) ⟨H, I.tok _, by rw [isEmpty_kv r]; exact q⟩
  | _ => exact (show False from e).elim
theorem op_add_str : OpR X (binaryOp .Add) (fun x y H Q => ∃ i j, x = .str i ∧ y = .str j ∧ i.length + j.length ≤ sizeLine ∧ Q (.str (i ++ j)) H) := by
  intro pins s σ H x y v u Q I rx ry h
  obtain ⟨i, j, rfl, rfl, hz, q⟩ := h
  obtain ⟨t, rfl⟩ := rx
  obtain ⟨t', rfl⟩ := ry
  exact add_str (fun t' tk => ⟨.str (i ++ j), H, I.tok _, ⟨_, rfl⟩, q⟩) hz
def PlainIxT (b : Expr) : Prop := ∀ o i, subscripted b false o i = operate [o, i] (getItem o i)
theorem pe_item_str (ha : PE X a ta) (hb : PE X b tb) (hs : PlainIxT b) :
    PE X (.Subscript a b pos) (tOp (fun x y H Q => ∃ z i c, x = .str z ∧ y = .int i ∧ 0 ≤ i ∧ i < 2 ^ 63 ∧ i < z.length ∧ z.cps[i.toNat]? = some c ∧ Q (.str ⟨#[c]⟩) H) ta tb) := by
  intro pins s σ H Q I h
  refine Subscript_ (binT ha hb I h fun v u s2 x y H2 I2 rx ry q => ?_)
  obtain ⟨z, i, c, rfl, rfl, h0, h63, h1, hc, q⟩ := q
  obtain ⟨t, rfl⟩ := rx
  obtain ⟨t', rfl⟩ := ry
  have e : seqIndex? i z.length = some i.toNat := PySem.StrLaws.seqIndex_nonneg h0 h1
  exact tail_any (typeIs_str s2 z t) slot_str_getitem.lookup (getItem_str (c := c) (by
    have e1 : decide (i < -(2 ^ 63 : Int)) = false := decide_eq_false (by omega)
    have e2 : decide (i ≥ 2 ^ 63) = false := decide_eq_false (by omega)
    rw [e1, e2] <;> rfl) (by rw [e]; exact hc) ⟨.str ⟨#[c]⟩, H2, I2.tok _, ⟨_, rfl⟩, q⟩) (hs _ _)
theorem vals1 {x : V} {us : List Value} (r : Vals [x] us) : ∃ u, us = [u] ∧ RelV x u := by
  cases r with
  | cons r1 r2 => cases r2; exact ⟨_, rfl, r1⟩
theorem vals2 {x y : V} {us : List Value} (r : Vals [x, y] us) : ∃ u w', us = [u, w'] ∧ RelV x u ∧ RelV y w' := by
  cases r with
  | cons r1 r2 =>
    cases r2 with
    | cons r3 r4 => cases r4; exact ⟨_, _, rfl, r1, r3⟩
theorem call_int1 : CallR X (.type "int") (fun xs H Q => (∃ i, xs = [.int i] ∧ Q (.int i) H) ∨ ∃ k, xs = [.bl k] ∧ Q (.int (if k then 1 else 0)) H) := by
  intro pins s σ H xs us Q I r h
  rcases h with ⟨i, rfl, q⟩ | ⟨k, rfl, q⟩
  · obtain ⟨u, rfl, t, rfl⟩ := vals1 r
    exact call_int_int ⟨.int i, H, I, ⟨_, rfl⟩, q⟩
  · obtain ⟨u, rfl, r1⟩ := vals1 r
    cases r1
    exact call_int_bool ⟨.int (if k then 1 else 0), H, I.tok _, ⟨_, rfl⟩, q⟩
theorem call_str_int : CallR X (.type "str") (fun xs H Q => ∃ i, xs = [.int i] ∧ i.natAbs.log2 < 1920 ∧ Q (.str (toString i)) H) := by
  intro pins s σ H xs us Q I r h
  obtain ⟨i, rfl, hz, q⟩ := h
  obtain ⟨u, rfl, t, rfl⟩ := vals1 r
  exact PySem.P.str_of_int hz ⟨.str _, H, I.tok _, ⟨_, rfl⟩, q⟩
end
end L2
namespace L2
open PySem PySem.Spec PyProof.Rows
structure ObjM (h : Heap) (x dx C : Addr) (mA : Str → Option Value) : Prop where
  obj : h.get? x = some (PySem.W.instObj C dx)
  ns : h.Ns1 dx mA
  ne : dx ≠ x
theorem lookIn_ns {h : Heap} {dx : Addr} {mA : Str → Option Value} (n : h.Ns1 dx mA) : ∃ od, h.get? dx = some od ∧ ∀ name, PySem.W.lookIn name od = some (mA name) := by
  obtain ⟨o, es, ep, ho, hd, hk, _, hm⟩ := n
  refine ⟨o, ho, fun name => ?_⟩
  have e := hm name
  unfold nsFind findBy at e
  rw [← Array.find?_toList] at e
  unfold PySem.W.lookIn
  rw [hd]
  dsimp only
  split
  · rename_i y q
    rw [q] at e
    exact congrArg some e
  · rename_i q
    rw [q] at e
    have a : es.toList.any (·.refKey) = false := by
      rw [List.any_eq_false]
      intro y hy
      obtain ⟨z, t, hkey⟩ := hk y (Array.mem_toList_iff.mp hy)
      simp [DictEntry.refKey, hkey]
    have a' : ¬ es.toList.any (·.refKey) = true := by rw [a]; exact Bool.false_ne_true
    rw [if_neg a']
    exact congrArg some e
theorem ObjM.look {h : Heap} {x dx C : Addr} {mA : Str → Option Value} (I : ObjM h x dx C mA) : ∃ od, PySem.W.InstAt h x (PySem.W.instObj C dx) C (some od) ∧ ∀ name, PySem.W.lookIn name od = some (mA name) :=
  let ⟨od, ho, hl⟩ := lookIn_ns I.ns
  ⟨od, ⟨I.obj, rfl, rfl, ho⟩, hl⟩
section
variable {prog : Program} {w : World} {A : Around} {E : Value → Shared → Prop} {s : Shared} {K : PySem.W.Frag} {x dx C f : Addr} {mA : Str → Option Value} {name : Str} {v : Value}
theorem get_map {expr : Bool} {Q : Value → Shared → Prop} (X : K.In s.heap) (I : ObjM s.heap x dx C mA) (hg : PySem.W.plainGet K C name = true) (hh : PySem.W.hasDictIn K C = true)
    (ha : PySem.W.findIn K (.ref C) name = some none) (hv : mA name = some v) (hv' : PySem.W.handedIn v = true) (h : Q v { s with toks := s.toks + 1 }) :
    wpAny (model prog w) A (getAttr (.ref x) name expr) Q E s := by
  obtain ⟨od, J, hl⟩ := I.look
  exact PySem.W.get_value X J (PySem.W.plainGet_of hg).1 (PySem.W.findObj_own hh ha rfl (by rw [hl, hv])) hv' h
theorem get_meth {pl : Sem Bool} {Q : Value × List Value → Shared → Prop} (X : K.In s.heap) (I : ObjM s.heap x dx C mA) (hg : PySem.W.plainGet K C name = true)
    (hf : PySem.W.findIn K (.ref C) name = some (some (.ref f))) (ht : PySem.W.isFn K (.ref f) = true) (hv : mA name = none) (h : Q (.ref f, [.ref x]) s) :
    wpAny (model prog w) A (getMethod (.ref x) name pl) Q E s := by
  obtain ⟨od, J, hl⟩ := I.look
  exact PySem.W.method_fn X J (PySem.W.plainGet_of hg).1 (PySem.W.plainGet_of hg).2 hf (beq_iff_eq.mp ht) (by show (PySem.W.lookIn name od).map (·.isSome) = some false; rw [hl, hv]; rfl) h
theorem set_map {ns : List Str} {Q : Unit → Shared → Prop} (X : K.In s.heap) (I : ObjM s.heap x dx C mA)
    (hs : PySem.W.findIn K (.ref C) "__setattr__" = some (some (.builtin "object.__setattr__"))) (hp : PySem.W.plainOver K C = true) (ht : PySem.W.takerIn K C name = some none) (hh : PySem.W.hasDictIn K C = true)
    (hw : PySem.Within mA ns) (hsz : ns.length ≤ sizeLine)
    (h : ∀ h', ObjM h' x dx C (fun y => if y = name then some v else mA y) → Heap.SameBut dx s.heap h' → Q () { s with heap := h', toks := s.toks + 2 }) :
    wpAny (model prog w) A (setAttr (.ref x) name v) Q E s := by
  obtain ⟨od, J, hl⟩ := I.look
  refine PySem.W.set_plain X J hs (PySem.W.osa_open (s := { s with toks := s.toks + 1 }) (r := none) X J hp ht fun b => ?_)
  obtain ⟨cd, hc, hd'⟩ := PySem.W.any_some hh
  have hx : s.heap.get? x = some ⟨.ref C, some dx, .plain, #[]⟩ := I.obj
  refine wpAny_bind (wpAny_pure (wpAny_bind (wpAny_bind (wpAny_loadPart hx (wpAny_bind (PySem.W.Looks.here (s := { s with toks := s.toks + 1 }) (PySem.W.looks_clsIn X hc) ?_))))))
  rw [hd']
  refine wpAny_pure (a := some dx) (wpAny_bind (wpAny_pure (wpAny_bind ?_)))
  refine wpAny_nsSet1 (s := { s with toks := s.toks + 1 }) I.ns fun h' hn2 hs2 => ?_
  obtain ⟨oD, esD, epD, hoD, hdD, hcD⟩ := hn2.count (PySem.Within.cons name v hw)
  refine wpAny_bind (wpAny_lookBehind hoD (by rw [hdD]; exact pastItsLine_dict (Nat.le_trans hcD (by rw [List.length_cons]; omega))) ?_)
  exact wpAny_pure (h _ ⟨(hs2.2 _ (Ne.symm I.ne)).trans I.obj, hn2, I.ne⟩ hs2)
theorem make_map {R : Result → Shared → Prop} {vs : List Value} {kw : List (Str × Value)} (X : K.In s.heap) (hm : PySem.W.makesIn K C = true)
    (hi : PySem.W.findIn K (.ref C) "__init__" = some (some (.ref f))) (hf : PySem.W.typeIn K (.ref f) = some (.type "function"))
    (h : codeAny (model prog w) (A.under (.builtin "type.__call__" ⟨.ref C :: vs, kw⟩)) (.call (.ref f) ⟨.ref (s.heap.objs.size + 1) :: vs, kw⟩) (PySem.W.InitBack (s.heap.objs.size + 1) R)
      { s with heap := (s.heap.push PySem.W.emptyDict).push (PySem.W.instObj C s.heap.objs.size) }) :
    codeAny (model prog w) A (.call (.ref C) ⟨vs, kw⟩) R s := by
  obtain ⟨hh, g, d, t, os⟩ := s
  exact PySem.W.make_core (PySem.W.makes_of X hm) (PySem.W.looks_findIn X hi) (fun self => PySem.W.bind_fn X self hf) (.inl rfl) h
end
def putF (f : Str) (v : V) : List (Str × V) → List (Str × V)
  | [] => [(f, v)]
  | (g, x) :: r => if g = f then (g, v) :: r else (g, x) :: putF f v r
theorem lookup_putF (f g : Str) (v : V) : ∀ fs : List (Str × V), (putF f v fs).lookup g = if g = f then some v else fs.lookup g
  | [] => by
    show List.lookup g [(f, v)] = _
    by_cases h : g = f
    · have hb : (g == f) = true := beq_iff_eq.mpr h
      simp only [List.lookup, hb, if_pos h]
    · have hb : (g == f) = false := beq_eq_false_iff_ne.mpr h
      simp only [List.lookup, hb, if_neg h]
  | (k, x) :: r => by
    have ih := lookup_putF f g v r
    rw [show putF f v ((k, x) :: r) = (if k = f then (k, v) :: r else (k, x) :: putF f v r) from rfl]
    by_cases hk : k = f
    · rw [if_pos hk]
      by_cases h : g = k
      · have hb : (g == k) = true := beq_iff_eq.mpr h
        simp only [List.lookup, hb, if_pos (h.trans hk)]
      · have hb : (g == k) = false := beq_eq_false_iff_ne.mpr h
        simp only [List.lookup, hb, if_neg (fun e : g = f => h (e.trans hk.symm))]
    · rw [if_neg hk]
      by_cases h : g = k
      · have hb : (g == k) = true := beq_iff_eq.mpr h
        simp only [List.lookup, hb, if_neg (fun e : g = f => hk (h.symm.trans e))]
      · have hb : (g == k) = false := beq_eq_false_iff_ne.mpr h
        simp only [List.lookup, hb]
        exact ih
theorem keys_putF (f : Str) (v : V) : ∀ fs : List (Str × V), f ∈ (putF f v fs).map (·.1) ∧ ∀ g, g ∈ fs.map (·.1) → g ∈ (putF f v fs).map (·.1)
  | [] => ⟨by simp [putF], fun g h => by simp at h⟩
  | (k, x) :: r => by
    obtain ⟨i1, i2⟩ := keys_putF f v r
    rw [show putF f v ((k, x) :: r) = (if k = f then (k, v) :: r else (k, x) :: putF f v r) from rfl]
    by_cases hk : k = f
    · rw [if_pos hk]
      subst hk
      exact ⟨by simp, fun g h => by simpa using h⟩
    · rw [if_neg hk]
      refine ⟨?_, fun g h => ?_⟩
      · rw [List.map_cons]
        exact List.mem_cons_of_mem _ i1
      · rw [List.map_cons] at h ⊢
        rcases List.mem_cons.mp h with e | e
        · exact List.mem_cons.mpr (.inl e)
        · exact List.mem_cons_of_mem _ (i2 g e)
theorem length_putF (f : Str) (v : V) : ∀ fs : List (Str × V), (putF f v fs).length ≤ fs.length + 1
  | [] => by simp [putF]
  | (k, x) :: r => by
    have ih := length_putF f v r
    rw [show putF f v ((k, x) :: r) = (if k = f then (k, v) :: r else (k, x) :: putF f v r) from rfl]
    by_cases hk : k = f
    · rw [if_pos hk, List.length_cons, List.length_cons]; omega
    · rw [if_neg hk, List.length_cons, List.length_cons]; omega
theorem RelO.some_of {v : V} {o : Option Value} (r : RelO (some v) o) : ∃ u, o = some u ∧ RelV v u := by
  cases o with
  | none => exact (show False from r).elim
  | some u => exact ⟨u, rfl, r⟩
theorem RelO.none_of {o : Option Value} (r : RelO none o) : o = none := by
  cases o with
  | none => rfl
  | some u => exact (show False from r).elim
theorem handed_of {v : V} {u : Value} (r : RelV v u) : PySem.W.handedIn u = true := by
  cases v with
  | non => cases (show u = Value.none from r); rfl
  | bl b => cases (show u = Value.bool b from r); rfl
  | int i => obtain ⟨t, e⟩ := (show ∃ t, u = Value.int i t from r); cases e; rfl
  | str x => obtain ⟨t, e⟩ := (show ∃ t, u = Value.str x t from r); cases e; rfl
  | byt b => obtain ⟨t, e⟩ := (show ∃ t, u = Value.bytes b t from r); cases e; rfl
  | flt b => obtain ⟨t, e⟩ := (show ∃ t, u = Value.float b t from r); cases e; rfl
  | ref a => cases (show u = Value.ref a from r); rfl
  | ty n => cases (show u = Value.type n from r); rfl
section
variable {P : Program} {w : World} {H H' : Hp} {h h' : Heap} {a C dx : Addr} {fs fs' : List (Str × V)}
theorem ins_get (hok : HOk P w H h) (e : H a = some (.ins C dx fs)) : ∃ mA, ObjM h a dx C mA ∧ (∀ f, RelO (fs.lookup f) (mA f)) ∧ PySem.Within mA (fs.map (·.1)) ∧ fs.length ≤ 1000 ∧ H dx = some (.own a) := by
  obtain ⟨d, z, ne, ob, mA, n, r, q⟩ := (show ObjOk P w H h a (.ins C dx fs) from hok a _ e)
  exact ⟨mA, ⟨ob, n, ne⟩, r, q, z, d⟩
end
structure Cls (K : PySem.W.Frag) (C : Addr) : Prop where
  pg : PySem.W.plainGet K C Str.empty = true
  hd : PySem.W.hasDictIn K C = true
  po : PySem.W.plainOver K C = true
  sa : PySem.W.findIn K (.ref C) "__setattr__" = some (some (.builtin "object.__setattr__"))
theorem Cls.get {K : PySem.W.Frag} {C : Addr} (c : Cls K C) (f : Str) : PySem.W.plainGet K C f = true := c.pg
def NoAttr (K : PySem.W.Frag) (C : Addr) (f : Str) : Prop := PySem.W.findIn K (.ref C) f = some none
theorem NoAttr.taker {K : PySem.W.Frag} {C : Addr} {f : Str} (n : NoAttr K C f) : PySem.W.takerIn K C f = some none := by
  unfold PySem.W.takerIn
  rw [show PySem.W.findIn K (.ref C) f = some none from n]
  rfl
structure Con (K : PySem.W.Frag) (C : Addr) (f : Str) (v : V) (u : Value) : Prop where
  at_ : PySem.W.findIn K (.ref C) f = some (some u)
  rel : RelV v u
  get : PySem.W.specialIn K u "__get__" = some none
  cp : PySem.W.copiedNames.contains f = false
structure Meth (K : PySem.W.Frag) (C : Addr) (m : Str) (f : Addr) : Prop where
  at_ : PySem.W.findIn K (.ref C) m = some (some (.ref f))
  fn : PySem.W.isFn K (.ref f) = true
  kp : PySem.W.keepIn K (.ref f) = true
section
variable {X : Cx} {pins : List (Addr × Obj)} {σ : St} {H : Hp} {s : Shared} {a C dx : Addr} {fs : List (Str × V)} {f : Str} {v : V} {A : Around} {E : Value → Shared → Prop}
theorem getattr_ok {b : Bool} {Q : Value → Shared → Prop} (I : Inv X pins σ H s) (e : H a = some (.ins C dx fs)) (c : Cls X.K C) (n : NoAttr X.K C f) (l : fs.lookup f = some v)
    (h : ∀ u s', Inv X pins σ H s' → RelV v u → Q u s') : wpAny (model X.prog X.w) A (getAttr (.ref a) f b) Q E s := by
  obtain ⟨mA, O, r, _, _, _⟩ := ins_get I.hok e
  obtain ⟨u, hu, ru⟩ := RelO.some_of (v := v) (o := mA f) (by rw [← l]; exact r f)
  exact get_map I.kIn O (c.get f) c.hd n hu (handed_of ru) (h u _ (I.tok _) ru)
theorem getmeth_ok {m : Str} {g : Addr} {pl : Sem Bool} {Q : Value × List Value → Shared → Prop} (I : Inv X pins σ H s) (e : H a = some (.ins C dx fs)) (c : Cls X.K C) (k : Meth X.K C m g) (l : fs.lookup m = none)
    (h : Q (.ref g, [.ref a]) s) : wpAny (model X.prog X.w) A (getMethod (.ref a) m pl) Q E s := by
  obtain ⟨mA, O, r, _, _, _⟩ := ins_get I.hok e
  have hn : mA m = none := RelO.none_of (by rw [← l]; exact r m)
  exact get_meth I.kIn O (c.get m) k.at_ k.fn hn h
theorem setattr_ok {y : V} {u : Value} {Q : Unit → Shared → Prop} (I : Inv X pins σ H s) (e : H a = some (.ins C dx fs)) (c : Cls X.K C) (n : NoAttr X.K C f) (hl : fs.length < 1000) (ry : RelV y u)
    (h : ∀ s', Inv X pins σ (upd H a (.ins C dx (putF f y fs))) s' → Q () s') : wpAny (model X.prog X.w) A (setAttr (.ref a) f u) Q E s := by
  obtain ⟨mA, O, r, wi, _, ho⟩ := ins_get I.hok e
  have hz : (fs.map (·.1)).length ≤ sizeLine := by rw [List.length_map, sizeLine_eq]; omega
  refine set_map I.kIn O c.sa c.po n.taker c.hd wi hz fun h' O' sb => h _ ?_
  have hd : ∃ o, h'.get? dx = some o := let ⟨o, _, _, e', _⟩ := O'.ns; ⟨o, e'⟩
  refine I.write (x := a) (e := dx) (by rw [e]; exact True.intro) (.inr ho) (fun b q hb z => (sb.2 b hb).trans z) hd ?_
  refine ⟨by rw [upd_ne O.ne]; exact ho, ?_, O.ne, O'.obj, _, O'.ns, fun g => ?_, fun g hg => ?_⟩
  · have := length_putF f y fs; omega
  · show RelO ((putF f y fs).lookup g) (if g = f then some u else mA g)
    rw [lookup_putF]
    by_cases q : g = f
    · rw [if_pos q, if_pos q]; exact ry
    · rw [if_neg q, if_neg q]; exact r g
  · by_cases q : g = f
    · rw [q]; exact (keys_putF f y fs).1
    · refine (keys_putF f y fs).2 g (wi g fun z => hg ?_)
      show (if g = f then some u else mA g) = none
      rw [if_neg q]; exact z
theorem Inv.made (I : Inv X pins σ H s) : Inv X pins σ (upd (upd H s.heap.objs.size (.own (s.heap.objs.size + 1))) (s.heap.objs.size + 1) (.ins C s.heap.objs.size []))
    { s with heap := (s.heap.push PySem.W.emptyDict).push (PySem.W.instObj C s.heap.objs.size) } := by
  have e1 : (s.heap.push PySem.W.emptyDict).get? s.heap.objs.size = some PySem.W.emptyDict := Heap.get?_push_size s.heap rfl
  have e2 : ((s.heap.push PySem.W.emptyDict).push (PySem.W.instObj C s.heap.objs.size)).get? (s.heap.objs.size + 1) = some (PySem.W.instObj C s.heap.objs.size) := by
    have := Heap.get?_push_size (s.heap.push PySem.W.emptyDict) (o := PySem.W.instObj C s.heap.objs.size) rfl
    rwa [Heap.size_push] at this
  have e3 : (s.heap.push PySem.W.emptyDict).Ns s.heap.objs.size (fun _ => none) := ⟨PySem.W.emptyDict, #[], _, e1, rfl, (fun e he => absurd he (by simp)), fun _ => rfl⟩
  have I1 := I.laid (a := s.heap.objs.size) (o := .own (s.heap.objs.size + 1)) (h' := s.heap.push PySem.W.emptyDict) (t' := s.toks) (fun b u q => Heap.get?_push_of_some _ q) (Nat.le_refl _) ⟨_, e1⟩
  refine I1.laid (a := s.heap.objs.size + 1) (o := .ins C s.heap.objs.size []) (t' := s.toks) (fun b u q => Heap.get?_push_of_some _ q) (Nat.le_of_eq (Heap.size_push _ _)) ?_
  have ne : s.heap.objs.size ≠ s.heap.objs.size + 1 := Nat.ne_of_lt (Nat.lt_succ_self _)
  refine ⟨by rw [upd_ne ne, upd_same], Nat.zero_le _, ne, e2, fun _ => none, (Heap.Ns1.of_empty e3).at fun o q => Heap.get?_push_of_some _ q, fun _ => True.intro, fun y hy => absurd rfl hy⟩
theorem attr_of {prog : Program} {w : World} {env : Env} {e : Expr} {f : Str} {pos : Pos} {s : Shared} {Q : Value → Shared → Prop} (hb : attributeBase e f env (eval e env) = eval e env)
    (h : wpAny (model prog w) A (eval e env) (fun o s₁ => wpAny (model prog w) A (getAttr o f true) Q E s₁) E s) : wpAny (model prog w) A (eval (.Attribute e f pos) env) Q E s :=
  Attribute_any_ h (by rw [arm_eval_Attribute, hb])
end
def tFld (K : PySem.W.Frag) (ta : TE) (f : Str) : TE := fun σ H Q => ta σ H fun x H1 => ∃ a C dx fs v, x = .ref a ∧ H1 a = some (.ins C dx fs) ∧ Cls K C ∧ NoAttr K C f ∧ fs.lookup f = some v ∧ Q v H1
def sFld (K : PySem.W.Frag) (ta tv : TE) (f : Str) : TS := fun D σ H => tv σ H fun y H1 => ta σ H1 fun x H2 => ∃ a C dx fs, x = .ref a ∧ H2 a = some (.ins C dx fs) ∧ Cls K C ∧ NoAttr K C f ∧ fs.length < 1000 ∧
  D.nx σ (upd H2 a (.ins C dx (putF f y fs)))
section
variable {X : Cx} {o e value : Expr} {f : Str} {pos pos' tpos : Pos} {ta tv : TE}
theorem pe_fld (he : PE X e ta) (hb : attributeBase e f X.env (eval e X.env) = eval e X.env) : PE X (.Attribute e f pos) (tFld X.K ta f) := by
  intro pins s σ H Q I h
  refine attr_of hb (thn (he pins s σ H _ I h) fun u s1 ⟨x, H1, I1, rx, a, C, dx, fs, v, ex, ea, c, n, l, q⟩ => ?_)
  subst ex
  obtain rfl : u = Value.ref a := rx
  exact getattr_ok I1 ea c n l fun u' s2 I2 ru => ⟨v, H1, I2, ru, q⟩
theorem ps_fld (ha : PE X o ta) (hv : PE X value tv) (hs : swapsWith value (some (.Attribute o f pos')) pos.line X.env = pure false) : PS X (.Assign [.Attribute o f pos'] value pos) (sFld X.K ta tv f) := by
  intro pins s σ H D I h
  refine plainObj_wpAny_Assign_Attribute (thn (hv pins s σ H _ I h) fun u s1 ⟨y, H1, I1, ry, q⟩ => thn (ha pins s1 σ H1 _ I1 q) fun ov s2 ⟨x, H2, I2, rx, a, C, dx, fs, ex, ea, c, n, l, q2⟩ => ?_) hs
  subst ex
  obtain rfl : ov = Value.ref a := rx
  exact setattr_ok I2 ea c n l ry fun s3 I3 => ⟨σ, _, I3, q2⟩
end
section
variable {X : Cx} {pins : List (Addr × Obj)} {σ : St} {H : Hp} {s : Shared} {A : Around} {E : Value → Shared → Prop} {Q : Value → Shared → Prop} {c : Value} {b : Bool}
inductive TyOf (K : PySem.W.Frag) (H : Hp) : V → Value → Prop where
  | non : TyOf K H .non (.type "NoneType")
  | bl (x : Bool) : TyOf K H (.bl x) (.type "bool")
  | int (i : Int) : TyOf K H (.int i) (.type "int")
  | str (x : Str) : TyOf K H (.str x) (.type "str")
  | flt (x : UInt64) : TyOf K H (.flt x) (.type "float")
  | lst {a : Addr} {xs : List V} (e : H a = some (.lst xs)) : TyOf K H (.ref a) (.type "list")
  | frz {a : Addr} {o : Obj} {xs : List V} (e : H a = some (.frz o (.lst xs))) : TyOf K H (.ref a) (.type "list")
  | tup {a : Addr} {xs : List V} (e : H a = some (.tup xs)) : TyOf K H (.ref a) (.type "tuple")
  | dK {a : Addr} {kvs : List (Key × V)} (e : H a = some (.dK kvs)) : TyOf K H (.ref a) (.type "dict")
  | dT {a : Addr} {kvs : List (List Key × V)} (e : H a = some (.dT kvs)) : TyOf K H (.ref a) (.type "dict")
  | ins {a C dx : Addr} {fs : List (Str × V)} (e : H a = some (.ins C dx fs)) (cl : Cls K C) (ha : PySem.W.findIn K (.ref C) "__class__" = some (some (.builtin "object.__class__")))
      (hn : PySem.W.specialIn K (.builtin "object.__class__") "__get__" = some (some (.builtin "getset_descriptor.__get__"))) (htk : PySem.W.takesIn K (.builtin "object.__class__") = some true)
      (hm : PySem.W.mroIn K C (.type "object") = some true) : TyOf K H (.ref a) (.ref C)
theorem isinst_ok {x : V} {u t : Value} (I : Inv X pins σ H s) (rx : RelV x u) (ty : TyOf X.K H x t) (e : PySem.W.kitOne X.K t c = some b) (h : ∀ tk, Q (.bool b) { s with toks := tk }) :
    wpAny (model X.prog X.w) A (call (.builtin "isinstance") [u, c]) Q E s := by
  cases ty with
  | non => cases (show u = Value.none from rx); exact PySem.W.kia_one PySem.W.kitx_none I.kIn True.intro e (fun z => nomatch z) h
  | bl y => cases (show u = Value.bool y from rx); exact PySem.W.kia_one PySem.W.kitx_bool I.kIn True.intro e (fun z => nomatch z) h
  | int i => obtain ⟨t, q⟩ := (show ∃ t, u = Value.int i t from rx); cases q; exact PySem.W.kia_one PySem.W.kitx_int I.kIn True.intro e (fun z => nomatch z) h
  | str y => obtain ⟨t, q⟩ := (show ∃ t, u = Value.str y t from rx); cases q; exact PySem.W.kia_one PySem.W.kitx_str I.kIn True.intro e (fun z => nomatch z) h
  | flt y => obtain ⟨t, q⟩ := (show ∃ t, u = Value.float y t from rx); cases q; exact PySem.W.kia_one PySem.W.kitx_float I.kIn True.intro e (fun z => nomatch z) h
  | @lst a xs ea =>
    cases (show u = Value.ref a from rx)
    obtain ⟨_, _, n, _, h1⟩ := (show ObjOk X.prog X.w H s.heap a (.lst xs) from I.hok a _ ea)
    exact PySem.W.kia_one PySem.W.kitx_list I.kIn ⟨_, h1, rfl⟩ e (fun z => nomatch z) h
  | @frz a ob xs ea =>
    cases (show u = Value.ref a from rx)
    obtain ⟨_, _, _, n, _, h1⟩ := (show ObjOk X.prog X.w H s.heap a (.frz ob (.lst xs)) from I.hok a _ ea)
    exact PySem.W.kia_one PySem.W.kitx_list I.kIn ⟨_, h1, rfl⟩ e (fun z => nomatch z) h
  | @tup a xs ea =>
    cases (show u = Value.ref a from rx)
    obtain ⟨_, _, _, p⟩ := (show ObjOk X.prog X.w H s.heap a (.tup xs) from I.hok a _ ea)
    obtain ⟨o, h1, h2, _⟩ := p
    exact PySem.W.kia_one PySem.W.kitx_tuple I.kIn ⟨o, h1, h2⟩ e (fun z => nomatch z) h
  | @dK a kvs ea =>
    cases (show u = Value.ref a from rx)
    obtain ⟨_, _, vs, _, p⟩ := (show ObjOk X.prog X.w H s.heap a (.dK kvs) from I.hok a _ ea)
    obtain ⟨o, es, ep, h1, h2, _⟩ := p
    exact PySem.W.kia_one PySem.W.kitx_dict I.kIn ⟨o, h1, h2.1⟩ e (fun z => nomatch z) h
  | @dT a kvs ea =>
    cases (show u = Value.ref a from rx)
    obtain ⟨_, _, xs, _, o, es, ep, h1, h2, _⟩ := (show ObjOk X.prog X.w H s.heap a (.dT kvs) from I.hok a _ ea)
    exact PySem.W.kia_one PySem.W.kitx_dict I.kIn ⟨o, h1, h2.1⟩ e (fun z => nomatch z) h
  | @ins a C dx fs ea cl ha hn htk hm =>
    cases (show u = Value.ref a from rx)
    obtain ⟨mA, O, _⟩ := ins_get I.hok ea
    obtain ⟨od, J, _⟩ := O.look
    exact PySem.W.kia_one (PySem.W.kitx_own (cl.get _) cl.hd ha hn htk hm) I.kIn J e (fun z => nomatch z) h
end
end L2
namespace L2
open PySem PySem.Spec PyProof.Rows
structure Room (k : Nat) (A : Around) : Prop where
  hd : A.handled = none
  dp : A.depth + 3 * k + 5 < recursionLimit
  un : A.units + 16 * k + 200 < cLine
theorem Room.mono {j k : Nat} {A : Around} (r : Room k A) (h : j ≤ k) : Room j A := ⟨r.hd, by have := r.dp; omega, by have := r.un; omega⟩
theorem Room.deeper {k : Nat} {A : Around} (r : Room (k + 1) A) (env : Env) : Room k (A.deeper env) :=
  ⟨r.hd, by have := r.dp; show A.depth + 1 + 3 * k + 5 < _; omega, by have := r.un; show A.units + 3 + 16 * k + 200 < _; omega⟩
theorem make_depth {A : Around} {C : Addr} {us : List Value} {kw : List (Str × Value)} : (A.under (.builtin "type.__call__" ⟨.ref C :: us, kw⟩)).depth = A.depth + 1 := by
  first | rfl | simp [Around.under, Code.weight, Code.isCreation, Code.isGuard, Code.isCaller, Code.frames, Code.isFrame, guardIds]
theorem make_units {A : Around} {C : Addr} {us : List Value} {kw : List (Str × Value)} : (A.under (.builtin "type.__call__" ⟨.ref C :: us, kw⟩)).units = A.units + 1 := by
  first | rfl | simp [Around.under, Code.cUnits, Code.frames, Code.isFrame]
theorem Room.make {k : Nat} {A : Around} (r : Room (k + 1) A) (C : Addr) (us : List Value) (kw : List (Str × Value)) : Room k (A.under (.builtin "type.__call__" ⟨.ref C :: us, kw⟩)) :=
  ⟨r.hd, by have := r.dp; rw [make_depth]; omega, by have := r.un; rw [make_units]; omega⟩
theorem Room.depth {k : Nat} {A : Around} (r : Room k A) : A.depth < recursionLimit := by have := r.dp; omega
theorem Room.units {k : Nat} {A : Around} (r : Room k A) : A.units + 64 < cLine := by have := r.un; omega
def tNil : TA := fun _ H Q => Q [] H
def tCons (ta : TE) (tr : TA) : TA := fun σ H Q => ta σ H fun x H1 => tr σ H1 fun xs H2 => Q (x :: xs) H2
section
variable {X : Cx} {e : Expr} {es : List Expr} {te : TE} {t : TA} {pos : Pos}
theorem pa_nil : PA X [] tNil := fun _ _ _ _ H Q I h => Calls.spliced_nil ⟨[], H, I, .nil, h⟩
theorem pa_cons (ha : PE X e te) (hr : PA X es t) (hs : starEach (e :: es) X.env = (false, eval e X.env) :: starEach es X.env := by rfl) : PA X (e :: es) (tCons te t) := by
  intro pos pins s σ H Q I h
  rw [hs]
  show wpAny _ _ (spliced ((false, eval e X.env) :: backTo pos (starEach es X.env))) _ _ s
  refine Calls.spliced_cons (thn (ha pins s σ H _ I h) fun u s1 ⟨x, H1, I1, r1, q1⟩ => ?_)
  exact thn (hr pos pins s1 σ H1 _ I1 q1) fun us s2 ⟨xs, H2, I2, r2, q2⟩ => ⟨x :: xs, H2, I2, .cons r1 r2, q2⟩
def tTup (t : TA) : TE := fun σ H Q => t σ H fun xs H1 => xs.length ≤ sizeLine ∧ ∀ p, H1 p = none → Q (.ref p) (upd H1 p (.tup xs))
def tLst (t : TA) : TE := fun σ H Q => t σ H fun xs H1 => xs.length ≤ sizeLine ∧ ∀ p, H1 p = none → Q (.ref p) (upd H1 p (.lst xs))
theorem pe_tup {x1} (h : PA X es t) : PE X (.Tuple es x1 pos) (tTup t) := by
  intro pins s σ H Q I hq
  refine wpAny_Tuple_spliced (thn (h pos pins s σ H _ I hq) fun us s1 ⟨xs, H1, I1, r, z, q⟩ => ⟨by rw [← r.length]; exact z, ?_⟩)
  have hf : H1 s1.heap.objs.size = none := I1.hok.fresh (Nat.le_refl _)
  refine ⟨.ref s1.heap.objs.size, upd H1 s1.heap.objs.size (.tup xs), I1.laid (t' := s1.toks) (fun b u e => Heap.get?_push_of_some _ e) (Nat.le_refl _) ?_, rfl, q _ hf⟩
  exact ⟨z, us, r, ⟨_, Heap.get?_push_size _ rfl, rfl, _, rfl⟩⟩
theorem pe_lst (h : PA X es t) : PE X (.List es pos) (tLst t) := by
  intro pins s σ H Q I hq
  refine wpAny_List_spliced (thn (h pos pins s σ H _ I hq) fun us s1 ⟨xs, H1, I1, r, z, q⟩ => ⟨by rw [← r.length]; exact z, ?_⟩)
  have hf : H1 s1.heap.objs.size = none := I1.hok.fresh (Nat.le_refl _)
  refine ⟨.ref s1.heap.objs.size, upd H1 s1.heap.objs.size (.lst xs), I1.laid (t' := s1.toks) (fun b u e => Heap.get?_push_of_some _ e) (Nat.le_refl _) ?_, rfl, q _ hf⟩
  exact ⟨z, us, 0, r, Heap.get?_push_size _ rfl⟩
end
abbrev Sp := List V → Hp → VK → XK → Prop
abbrev CXT := List Env → Hp → Shared → XK → Value → Shared → Prop
structure Env0 (P : Program) (w : World) (K : PySem.W.Frag) (mg : Str → Option Value) (base : Heap) (A : Around) (outer : List Env) (s : Shared) (H : Hp) : Prop where
  frames : A.frames = some outer
  mod : Mod K mg base
  bs : ∀ b o, base.get? b = some o → s.heap.get? b = some o ∧ H b = none
  bsz : base.objs.size ≤ s.heap.objs.size
  funs : s.heap.FunFrames base outer
  frf : ∀ b ∈ frs outer, H b = none
  hok : HOk P w H s.heap
  bare : AllBare s.gens
def CE (outer : List Env) (P : Program) (w : World) (H : Hp) (s : Shared) (Q : VK) (u : Value) (s' : Shared) : Prop :=
  ∃ v H', s'.os = s.os ∧ AllBare s'.gens ∧ Un (frs outer) [] H H' s.heap s'.heap ∧ HOk P w H' s'.heap ∧ RelV v u ∧ Q v H'
def CR (CX : CXT) (outer : List Env) (P : Program) (w : World) (H : Hp) (s : Shared) (Q : VK) (E : XK) (r : Result) (s' : Shared) : Prop :=
  match r with
  | .ok (.ret u) => CE outer P w H s Q u s'
  | .ok _ => False
  | .error e => CX outer H s E e s'
structure FnOk (P : Program) (w : World) (K : PySem.W.Frag) (mg : Str → Option Value) (base : Heap) (CX : CXT) (k : Nat) (f : Addr) (fd : FuncData) (ps : List Str) (sp : Sp) : Prop where
  len : ∀ vs H Q E, sp vs H Q E → vs.length = ps.length
  run : ∀ (A : Around) (outer : List Env) (s : Shared) (H : Hp) (args : Args) (us : List Value) (vs : List V) (Q : VK) (E : XK), Room k A → Env0 P w K mg base A outer s H → BindsTo s fd args (ps.zip us) → Vals vs us → sp vs H Q E →
    codeAny (model P w) A (.call (.ref f) args) (CR CX outer P w H s Q E) s
theorem FnOk.mono {P : Program} {w : World} {K : PySem.W.Frag} {mg : Str → Option Value} {base : Heap} {CX : CXT} {j k : Nat} {f : Addr} {fd : FuncData} {ps : List Str} {sp : Sp} (F : FnOk P w K mg base CX j f fd ps sp) (h : j ≤ k) :
    FnOk P w K mg base CX k f fd ps sp := ⟨F.len, fun A outer s H args us vs Q E hr => F.run A outer s H args us vs Q E (hr.mono h)⟩
theorem Env0.make {P : Program} {w : World} {K : PySem.W.Frag} {mg : Str → Option Value} {base : Heap} {A : Around} {outer : List Env} {s : Shared} {H : Hp} (e : Env0 P w K mg base A outer s H) (C : Addr) (us : List Value) (kw : List (Str × Value)) :
    Env0 P w K mg base (A.under (.builtin "type.__call__" ⟨.ref C :: us, kw⟩)) outer s H := ⟨by first | exact e.frames | (simpa [Around.under, Code.envs, Code.isFrame, pushEnvs] using e.frames), e.mod, e.bs, e.bsz, e.funs, e.frf, e.hok, e.bare⟩
section
variable {X : Cx} {pins : List (Addr × Obj)} {σ : St} {H : Hp} {s s' : Shared}
theorem Inv.env0 (I : Inv X pins σ H s) : Env0 X.prog X.w X.K X.mg X.base X.A X.stack s H :=
  ⟨I.ok.frames, I.ok.mod, I.bs, Nat.le_trans I.ok.bsz I.sz, I.stack, I.stkFree, I.hok, I.bare⟩
theorem Inv.after {Q : VK} {u : Value} (I : Inv X pins σ H s) (h : CE X.stack X.prog X.w H s Q u s') : EP X pins σ Q u s' := by
  obtain ⟨v, H', os, bare, un, hok, r, q⟩ := h
  obtain ⟨hh, g, d, t, os'⟩ := s'
  obtain rfl : os' = s.os := os
  exact ⟨v, H', I.call (h' := hh) (g' := g) (d' := d) (t' := t) (ch := []) un hok bare (fun b z => absurd z (by simp)), r, q⟩
end
def tCall (sp : Sp) (dvs : List V) (E : XK) (t : TA) : TE := fun σ H Q => t σ H fun vs H1 => sp (vs ++ dvs) H1 Q E
def tMeth (C : Addr) (m : Str) (sp : Sp) (dvs : List V) (E : XK) (ta : TE) (t : TA) : TE := fun σ H Q => ta σ H fun x H1 => ∃ a dx fs, x = .ref a ∧ H1 a = some (.ins C dx fs) ∧ fs.lookup m = none ∧
  t σ H1 fun vs H2 => sp (x :: (vs ++ dvs)) H2 Q E
def tMake (C : Addr) (sp : Sp) (dvs : List V) (E : XK) (t : TA) : TE := fun σ H Q => t σ H fun vs H1 => ∀ x dx, H1 x = none → H1 dx = none → dx ≠ x →
  sp (.ref x :: (vs ++ dvs)) (upd (upd H1 dx (.own x)) x (.ins C dx [])) (fun v H2 => v = .non ∧ Q (.ref x) H2) E
def Binds (K : PySem.W.Frag) (fd : FuncData) (ps : List Str) (ds : List Value) : Prop :=
  ∀ (s : Shared) (us : List Value), K.In s.heap → (us ++ ds).length = ps.length → BindsTo s fd ⟨us, []⟩ (ps.zip (us ++ ds))
theorem Binds.all {K : PySem.W.Frag} {fd : FuncData} {ps : List Str} (h : ∀ us : List Value, us.length = ps.length → bindArgs fd ⟨us, []⟩ = pure (ps.zip us)) : Binds K fd ps [] := fun s us _ hl => by
  rw [List.append_nil] at hl ⊢
  exact .of_eq (h us hl)
def Passes (CX : CXT) (X : Cx) (E : XK) : Prop := ∀ (pins : List (Addr × Obj)) (σ : St) (H : Hp) (s : Shared) (e : Value) (s' : Shared), Inv X pins σ H s → CX X.stack H s E e s' → X.xe e s'
section
variable {X : Cx} {CX : CXT} {k : Nat} {f C : Addr} {fd : FuncData} {ps : List Str} {sp : Sp} {dvs : List V} {ds : List Value} {E : XK} {x m : Str} {p pos apos : Pos} {e o : Expr} {es : List Expr} {ta : TE} {t : TA}
theorem run_fn {pins : List (Addr × Obj)} {σ : St} {H : Hp} {s : Shared} {Q : VK} {us : List Value} {vs : List V} (F : FnOk X.prog X.w X.K X.mg X.base CX k f fd ps sp) (hr : Room k X.A) (hb : Binds X.K fd ps ds) (hd : Vals dvs ds) (hx : Passes CX X E)
    (I : Inv X pins σ H s) (r : Vals vs us) (h : sp (vs ++ dvs) H Q E) : wpAny (model X.prog X.w) X.A (call (.ref f) us) (EP X pins σ Q) X.xe s := by
  have r2 : Vals (vs ++ dvs) (us ++ ds) := r.append hd
  have hl : (us ++ ds).length = ps.length := by rw [← r2.length]; exact F.len _ _ _ _ h
  refine wpAny_call (codeAny_mono (F.run X.A X.stack s H ⟨us, []⟩ (us ++ ds) (vs ++ dvs) Q E hr I.env0 (hb s us I.kIn hl) r2 h) fun r s' hq => ?_)
  cases r with
  | error e => exact hx pins σ H s e s' I hq
  | ok fl =>
    cases fl with
    | ret u => exact I.after hq
    | next => exact False.elim hq
    | brk => exact False.elim hq
    | cont => exact False.elim hq
theorem pe_call (F : FnOk X.prog X.w X.K X.mg X.base CX k f fd ps sp) (hr : Room k X.A) (hg : Gl X x) (hm : X.mg x = some (.ref f)) (hk : PySem.W.keepIn X.K (.ref f) = true) (hb : Binds X.K fd ps ds) (hd : Vals dvs ds) (hx : Passes CX X E)
    (ha : PA X (e :: es) t) (hdb : (x == ("__debug__" : Str)) = false := by decide) (he : starEach (e :: es) X.env = (false, eval e X.env) :: starEach es X.env := by rfl) (hpl : (backTo pos (starEach es X.env)).any (·.1) = false := by rfl) :
    PE X (.Call (.Name x p) (e :: es) [] pos) (tCall sp dvs E t) := by
  intro pins s σ H Q I h
  refine wpAny_Call_Name_kw (ld_glob I hg hm ?_ hdb)
  refine PySem.W.callWith_K (h₀ := X.base) I.ok.mod.kin hk (thn (ha pos pins s σ H _ I h) fun us s1 ⟨vs, H1, I1, r, q⟩ => ⟨I1.kIn, ?_⟩) he hpl
  exact run_fn F hr hb hd hx I1 r q
theorem pe_meth0 {pl : Sem Bool} (he : PE X o ta) (c : Cls X.K C) (hm : Meth X.K C m f) (F : FnOk X.prog X.w X.K X.mg X.base CX k f fd ps sp) (hr : Room k X.A) (hb : Binds X.K fd ps ds) (hd : Vals dvs ds) (hx : Passes CX X E)
    (ht : eval (.Call (.Attribute o m apos) [] [] pos) X.env = (do
      let ov ← eval o X.env
      standAt apos.atName
      let (f, first) ← holding [ov] (getMethod ov m pl)
      callWith pos f first (backTo pos (starEach [] X.env)) (backToKw pos (keywordEach [] X.env))) := by rfl) :
    PE X (.Call (.Attribute o m apos) [] [] pos) (tMeth C m sp dvs E ta tNil) := by
  intro pins s σ H Q I h
  refine PySem.W.methodCall_KW (pl := pl) (thn (he pins s σ H _ I h) fun u s1 ⟨x, H1, I1, rx, a, dx, fs, ex, ea, l, q⟩ => ?_) ht
  subst ex
  obtain rfl : u = Value.ref a := rx
  refine getmeth_ok I1 ea c hm l ?_
  exact PySem.W.callWith_K0 (first := [.ref a]) I1.kIn hm.kp (run_fn (us := [.ref a]) (vs := [.ref a]) F hr hb hd hx I1 (.cons rfl .nil) q)
structure Mk (K : PySem.W.Frag) (C f : Addr) : Prop where
  makes : PySem.W.makesIn K C = true
  init : PySem.W.findIn K (.ref C) "__init__" = some (some (.ref f))
  fn : PySem.W.isFn K (.ref f) = true
  kp : PySem.W.keepIn K (.ref C) = true
theorem run_make {pins : List (Addr × Obj)} {σ : St} {H : Hp} {s : Shared} {Q : VK} {us : List Value} {vs : List V} (M : Mk X.K C f) (F : FnOk X.prog X.w X.K X.mg X.base CX k f fd ps sp) (hr : Room (k + 1) X.A) (hb : Binds X.K fd ps ds) (hd : Vals dvs ds)
    (hx : Passes CX X E) (I : Inv X pins σ H s) (r : Vals vs us)
    (h : ∀ x dx, H x = none → H dx = none → dx ≠ x → sp (.ref x :: (vs ++ dvs)) (upd (upd H dx (.own x)) x (.ins C dx [])) (fun v H2 => v = .non ∧ Q (.ref x) H2) E) :
    wpAny (model X.prog X.w) X.A (call (.ref C) us) (EP X pins σ Q) X.xe s := by
  have hq := h (s.heap.objs.size + 1) s.heap.objs.size (I.hok.fresh (Nat.le_succ _)) (I.hok.fresh (Nat.le_refl _)) (Nat.ne_of_lt (Nat.lt_succ_self _))
  have I2 := Inv.made (C := C) I
  have r2 : Vals (V.ref (s.heap.objs.size + 1) :: (vs ++ dvs)) (Value.ref (s.heap.objs.size + 1) :: (us ++ ds)) := .cons rfl (r.append hd)
  have hl : (Value.ref (s.heap.objs.size + 1) :: us ++ ds).length = ps.length := by
    have e := r2.length
    rw [F.len _ _ _ _ hq] at e
    exact e.symm
  refine wpAny_call (make_map (f := f) I.kIn M.makes M.init (beq_iff_eq.mp M.fn) (codeAny_mono (F.run _ X.stack _ _ ⟨Value.ref (s.heap.objs.size + 1) :: us, []⟩ (Value.ref (s.heap.objs.size + 1) :: (us ++ ds)) _ _ E (hr.make C us [])
    (I2.env0.make C us []) (hb _ (Value.ref (s.heap.objs.size + 1) :: us) I2.kIn hl) r2 hq) fun r s' hq' => ?_))
  cases r with
  | error e => exact hx pins σ _ _ e s' I2 hq'
  | ok fl =>
    cases fl with
    | ret u =>
      obtain ⟨v, H', I3, rv, ev, q3⟩ := I2.after hq'
      subst ev
      exact ⟨rv, ⟨V.ref (s.heap.objs.size + 1), H', I3, rfl, q3⟩⟩
    | next => exact False.elim hq'
    | brk => exact False.elim hq'
    | cont => exact False.elim hq'
theorem pe_make (M : Mk X.K C f) (F : FnOk X.prog X.w X.K X.mg X.base CX k f fd ps sp) (hr : Room (k + 1) X.A) (hg : Gl X x) (hm : X.mg x = some (.ref C)) (hb : Binds X.K fd ps ds) (hd : Vals dvs ds) (hx : Passes CX X E)
    (ha : PA X (e :: es) t) (hdb : (x == ("__debug__" : Str)) = false := by decide) (he : starEach (e :: es) X.env = (false, eval e X.env) :: starEach es X.env := by rfl) (hpl : (backTo pos (starEach es X.env)).any (·.1) = false := by rfl) :
    PE X (.Call (.Name x p) (e :: es) [] pos) (tMake C sp dvs E t) := by
  intro pins s σ H Q I h
  refine wpAny_Call_Name_kw (ld_glob I hg hm ?_ hdb)
  refine PySem.W.callWith_K (h₀ := X.base) I.ok.mod.kin M.kp (thn (ha pos pins s σ H _ I h) fun us s1 ⟨vs, H1, I1, r, q⟩ => ⟨I1.kIn, ?_⟩) he hpl
  exact run_make M F hr hb hd hx I1 r q
end
section
variable {X : Cx} {CX : CXT} {k : Nat} {f C : Addr} {fd : FuncData} {ps ks : List Str} {sp : Sp} {E : XK} {x m : Str} {p pos apos kpos : Pos} {e o : Expr} {es : List Expr} {kws : List Keyword} {te ta : TE} {t tk : TA} {nm : Option Str}
structure KBinds (K : PySem.W.Frag) (fd : FuncData) (ps ks : List Str) (g : List Value → List Value → List Value) (gV : List V → List V → List V) : Prop where
  to : ∀ (s : Shared) (us ws : List Value), K.In s.heap → (g us ws).length = ps.length → BindsTo s fd ⟨us, ks.zip ws⟩ (ps.zip (g us ws))
  rel : ∀ {vs : List V} {us : List Value} {zs : List V} {ws : List Value}, Vals vs us → Vals zs ws → Vals (gV vs zs) (g us ws)
variable {g : List Value → List Value → List Value} {gV : List V → List V → List V}
end
structure FnScope (N P : List Str) (sc : Scope) : Prop where
  kind : sc.kind = .function
  co : sc.isCoroutine = false
  gen : sc.isGenerator = false
  nd : N.Nodup
  pre : N.take P.length = P
  par : ∀ x ∈ P, sc.names.lookup x = some .local ∨ sc.names.lookup x = some .cell
  nofree : ∀ y ∈ sc.names, y.2 ≠ .free
theorem bindL_out {kindOf : Str → Option NameKind} {x : Str} : ∀ {binds : List (Str × Value)} {m : Str → Option Value}, (∀ v, (x, v) ∉ binds) → bindL kindOf binds m x = m x
  | [], _, _ => rfl
  | (n, v) :: r, m, h => by
    unfold bindL
    rw [bindL_out fun w hw => h w (List.mem_cons_of_mem _ hw)]
    split
    · have : x ≠ n := by rintro rfl; exact h v List.mem_cons_self
      simp [this]
    · rfl
theorem bindC_out {kindOf : Str → Option NameKind} {x : Str} : ∀ {binds : List (Str × Value)} {m : Str → Option Value}, (∀ v, (x, v) ∉ binds) → bindC kindOf binds m x = m x
  | [], _, _ => rfl
  | (n, v) :: r, m, h => by
    unfold bindC
    rw [bindC_out fun w hw => h w (List.mem_cons_of_mem _ hw)]
    split
    · rfl
    · have : x ≠ n := by rintro rfl; exact h v List.mem_cons_self
      simp [this]
theorem bindL_get {kindOf : Str → Option NameKind} {x : Str} {v : Value} : ∀ {P : List Str} {vs : List Value} {i : Nat} {m : Str → Option Value}, P.Nodup → P[i]? = some x → vs[i]? = some v → kindOf x = some .local →
    bindL kindOf (P.zip vs) m x = some v
  | [], _, _, _, _, h, _, _ => by simp at h
  | _ :: _, [], _, _, _, _, h, _ => by simp at h
  | p :: P, w :: vs, 0, m, nd, h1, h2, hk => by
    simp at h1 h2; subst h1; subst h2
    show bindL kindOf ((p, w) :: P.zip vs) m p = _
    unfold bindL
    rw [bindL_out fun v hv => (List.nodup_cons.mp nd).1 (List.of_mem_zip hv).1, if_pos hk]
    simp
  | p :: P, w :: vs, i + 1, m, nd, h1, h2, hk => by
    show bindL kindOf ((p, w) :: P.zip vs) m x = _
    unfold bindL
    exact bindL_get (i := i) (List.nodup_cons.mp nd).2 (by simpa using h1) (by simpa using h2) hk
theorem bindC_get {kindOf : Str → Option NameKind} {x : Str} {v : Value} : ∀ {P : List Str} {vs : List Value} {i : Nat} {m : Str → Option Value}, P.Nodup → P[i]? = some x → vs[i]? = some v → kindOf x ≠ some .local →
    bindC kindOf (P.zip vs) m x = some v
  | [], _, _, _, _, h, _, _ => by simp at h
  | _ :: _, [], _, _, _, _, h, _ => by simp at h
  | p :: P, w :: vs, 0, m, nd, h1, h2, hk => by
    simp at h1 h2; subst h1; subst h2
    show bindC kindOf ((p, w) :: P.zip vs) m p = _
    unfold bindC
    rw [bindC_out fun v hv => (List.nodup_cons.mp nd).1 (List.of_mem_zip hv).1, if_neg hk]
    simp
  | p :: P, w :: vs, i + 1, m, nd, h1, h2, hk => by
    show bindC kindOf ((p, w) :: P.zip vs) m x = _
    unfold bindC
    exact bindC_get (i := i) (List.nodup_cons.mp nd).2 (by simpa using h1) (by simpa using h2) hk
def start (N : List Str) (vs : List V) : St := vs.map some ++ List.replicate (N.length - vs.length) none
def cxOf (CX : CXT) (P : Program) (w : World) (K : PySem.W.Frag) (mg : Str → Option Value) (base : Heap) (N : List Str) (qual : Str) (scope : Scope) (f : Addr) (cd : Value) (A : Around) (outer : List Env) (s : Shared) (H : Hp) (E : XK) : Cx where
  prog := P
  w := w
  K := K
  mg := mg
  base := base
  A := A.deeper (envOfC qual scope s.heap.objs.size f cd)
  N := N
  s₀ := s
  H₀ := H
  env := envOfC qual scope s.heap.objs.size f cd
  outer := outer
  stack := envOfC qual scope s.heap.objs.size f cd :: outer
  ex := []
  calm := true
  fn := fun _ => true
  pn := []
  xe := fun e s' => wpAny (model P w) (A.deeper (envOfC qual scope s.heap.objs.size f cd)) (leaving (envOfC qual scope s.heap.objs.size f cd) e) (fun _ s'' => CX outer H s E e s'') (fun e' s'' => CX outer H s E e' s'') s'
theorem cell_has {sc : Scope} {n : Nat} {x : Str} (h : sc.names.lookup x = some .cell) : ∃ c, (cellsFrom n sc.names []).lookup x = some c := by
  have q := PySem.W.cellsFrom_some sc.names n [] (.inl h)
  exact Option.isSome_iff_exists.mp q
theorem inv_start {CX : CXT} {P : Program} {w : World} {K : PySem.W.Frag} {mg : Str → Option Value} {base : Heap} {N ps : List Str} {qual : Str} {scope : Scope} {f : Addr} {cd : Value} {A : Around} {outer : List Env} {s s1 : Shared} {H : Hp} {E : XK} {us : List Value} {vs : List V}
    (S : FnScope N ps scope) (hd : A.handled = none) (e0 : Env0 P w K mg base A outer s H) (hl : vs.length = ps.length) (r : Vals vs us)
    (x : InCallC s s.heap.objs.size (bindL (envOfC qual scope s.heap.objs.size f cd).kindOf (ps.zip us) fun _ => none) (cellsFrom (s.heap.objs.size + 1) scope.names []) (bindC (envOfC qual scope s.heap.objs.size f cd).kindOf (ps.zip us) fun _ => none) s1) :
    Inv (cxOf CX P w K mg base N qual scope f cd A outer s H E) [] (start N vs) H s1 := by
  have hpl : ps.length ≤ N.length := by have := congrArg List.length S.pre; rw [List.length_take] at this; omega
  obtain ⟨h1, tk, rfl, hk⟩ := x.done
  have noA : ∀ b : Addr, b ∉ (cxOf CX P w K mg base N qual scope f cd A outer s H E).ex := fun b z => absurd (show b ∈ ([] : List Addr) from z) (by simp)
  refine ⟨⟨e0.mod, S.kind, rfl, rfl, Nat.le_refl _, fun y z c h1 h2 => ?_, fun y hy => ?_, fun y c _ h => ?_, fun _ => hd, Around.frames_deeper e0.frames, .inr ⟨rfl, rfl⟩, fun b z => absurd z (noA b), e0.bs, e0.bsz, fun b _ _ => noA b, fun b z => absurd z (noA b), e0.funs, e0.frf⟩,
    rfl, e0.bare, Un.kept hk, ⟨_, x.toInCall.ns, fun i y v h1 h2 h3 => ?_⟩, fun y c h => ⟨_, x.cell y c h⟩, e0.hok.fresh (Nat.le_refl _), fun y c h => ?_, fun p hp => absurd (show p ∈ ([] : List (Addr × Obj)) from hp) (by simp), e0.hok.kept hk, ?_⟩
  · exact name_of_addr x.apart (PySem.mem_of_lookup h1) (PySem.mem_of_lookup h2)
  · have hy : scope.names.lookup y = some .cell ∨ scope.names.lookup y = some .free := hy
    rcases hy with hy | hy
    · exact cell_has hy
    · exact absurd rfl (S.nofree _ (PySem.mem_of_lookup hy))
  · exact Nat.le_of_lt (x.above y c (PySem.mem_of_lookup h))
  · have hi : i < vs.length := by
      unfold start at h2
      by_cases hi : i < vs.length
      · exact hi
      · rw [List.getElem?_append_right (by simpa using hi)] at h2
        rw [List.getElem?_replicate] at h2
        split at h2 <;> cases h2
    have ha : vs[i]? = some v := by
      unfold start at h2
      rw [List.getElem?_append_left (by simpa using hi), List.getElem?_map] at h2
      cases e : vs[i]? with
      | none => rw [e] at h2; cases h2
      | some a => rw [e] at h2; cases h2; rfl
    obtain ⟨u, hu, rv⟩ := r.get ha
    have hp : ps[i]? = some y := by
      rw [← S.pre, List.getElem?_take_of_lt (by omega)]; exact h1
    have ndP : ps.Nodup := by rw [← S.pre]; exact S.nd.sublist (List.take_sublist _ _)
    refine ⟨u, rv, ?_⟩
    rcases S.par y (List.mem_of_getElem? hp) with k | k
    · exact .inl ⟨k, bindL_get ndP hp hu k⟩
    · obtain ⟨c, e⟩ := cell_has (n := s.heap.objs.size + 1) k
      refine .inr ⟨.inl k, c, e, ?_⟩
      have q := x.cell y c e
      rw [bindC_get ndP hp hu (by show scope.names.lookup y ≠ _; rw [k]; decide)] at q
      exact q
  · exact e0.hok.fresh (Nat.le_of_lt (x.above y c (PySem.mem_of_lookup h)))
  · unfold start
    show _ = N.length
    rw [List.length_append, List.length_map, List.length_replicate]
    omega
theorem fn_of {CX : CXT} {P : Program} {w : World} {K : PySem.W.Frag} {mg : Str → Option Value} {base : Heap} {k : Nat} {f : Addr} {name qual : Str} {params : Arguments} {body : List Stmt} {scope : Scope} {dV kV doc pm cdv ct oc : Value} {an od : Option Addr}
    {osl : Array (Option Value)} {N ps : List Str} {sp : Sp} (lk : K.lookup f = some ⟨oc, od, .func (PySem.W.fnOf name qual params body scope dV kV doc pm an cdv ct), osl⟩) (hcd : PySem.W.codeIn K cdv qual = true) (S : FnScope N ps scope)
    (len : ∀ vs H Q E, sp vs H Q E → vs.length = ps.length)
    (hbody : ∀ (A : Around) (outer : List Env) (s : Shared) (H : Hp) (vs : List V) (Q : VK) (E : XK), Room k (A.deeper (envOfC qual scope s.heap.objs.size f cdv)) → sp vs H Q E →
      ∃ t, PSs (cxOf CX P w K mg base N qual scope f cdv A outer s H E) body t ∧ t { nx := fun _ H' => Q .non H', rt := Q } (start N vs) H) :
    FnOk P w K mg base CX (k + 1) f (PySem.W.fnOf name qual params body scope dV kV doc pm an cdv ct) ps sp := by
  refine ⟨len, fun A outer s H args us vs Q E hr e0 hb r hsp => ?_⟩
  have hl := len _ _ _ _ hsp
  have KX : K.In s.heap := e0.mod.kin.keeps fun b o e => (e0.bs b o e).1
  have lim : s.heap.NoLimit := e0.mod.nolimit.keeps fun b o e => (e0.bs b o e).1
  have hkind : ∀ y ∈ ps.zip us, scope.names.lookup y.1 = some .local ∨ (scope.names.lookup y.1 = some .cell ∧ ((cellsFrom (s.heap.objs.size + 1) scope.names []).lookup y.1).isSome = true) := fun ⟨n, v⟩ hy => by
    rcases S.par n (List.of_mem_zip hy).1 with q | q
    · exact .inl q
    · exact .inr ⟨q, PySem.W.cellsFrom_some _ _ _ (.inl q)⟩
  refine codeAny_call_function hr.depth (KX _ _ lk) rfl S.co S.gen rfl (PySem.W.codeRec_of KX hcd) (hb _ _ _ _ ?_)
  refine wpAny_newFunctionEnv_cells S.kind hkind fun env he s1 x => ?_
  subst he
  refine ⟨lim.keeps x.toInCall.keep, codeAny_func ?_⟩
  obtain ⟨t, ht, hq⟩ := hbody A outer s H vs Q E (hr.deeper _) hsp
  have I : Inv (cxOf CX P w K mg base N qual scope f cdv A outer s H E) [] (start N vs) H s1 := inv_start S hr.hd e0 hl r x
  refine wpAny_mono (ht [] s1 (start N vs) H _ I hq) (fun fl s' hs => ?_) fun e s' hs => hs
  have fin : ∀ {σ' : St} {H' : Hp} {v : V} {u : Value}, Inv (cxOf CX P w K mg base N qual scope f cdv A outer s H E) [] σ' H' s' → RelV v u → Q v H' → CE outer P w H s Q u s' :=
    fun {σ' H' v u} J rv q => ⟨v, H', J.os, J.bare, J.base, J.hok, rv, q⟩
  cases fl with
  | ret u =>
    obtain ⟨v, σ', H', J, rv, q⟩ := hs
    exact fin J rv q
  | next =>
    obtain ⟨σ', H', J, q⟩ := hs
    exact fin (v := V.non) (u := Value.none) J rfl q
  | brk =>
    obtain ⟨_, _, _, q⟩ := hs
    exact False.elim q
  | cont =>
    obtain ⟨_, _, _, q⟩ := hs
    exact False.elim q
end L2
namespace L2
open PySem PySem.Spec PyProof.Rows
section
variable {X : Cx} {x : Str} {p pos : Pos} {e : Expr} {es : List Expr} {t : TA} {id T : String} {r : List V → Hp → VK → Prop}
def tCB (r : List V → Hp → VK → Prop) (t : TA) : TE := fun σ H Q => t σ H fun vs H1 => r vs H1 Q
theorem pe_callB (hc : CallR X (.builtin id) r) (hg : Gl X x) (hm : X.mg x = none) (hv : bootBuiltins x = some (.builtin id)) (ha : PA X (e :: es) t) (hn : x ≠ "__name__" := by decide) (hdb : (x == ("__debug__" : Str)) = false := by decide)
    (he : starEach (e :: es) X.env = (false, eval e X.env) :: starEach es X.env := by rfl) (hpl : (backTo pos (starEach es X.env)).any (·.1) = false := by rfl) : PE X (.Call (.Name x p) (e :: es) [] pos) (tCB r t) := by
  intro pins s σ H Q I h
  refine wpAny_Call_Name_kw (ld_blt I hg hm hv ?_ hn hdb)
  exact PyProof.Rows.callWith_builtin1 (thn (ha pos pins s σ H _ I h) fun us s1 ⟨vs, H1, I1, r1, q1⟩ => hc pins s1 σ H1 vs us Q I1 r1 q1) he hpl
theorem pe_callTy (hc : CallR X (.type T) r) (hg : Gl X x) (hm : X.mg x = none) (hv : bootBuiltins x = some (.type T)) (ha : PA X (e :: es) t) (hn : x ≠ "__name__" := by decide) (hdb : (x == ("__debug__" : Str)) = false := by decide)
    (he : starEach (e :: es) X.env = (false, eval e X.env) :: starEach es X.env := by rfl) (hpl : (backTo pos (starEach es X.env)).any (·.1) = false := by rfl) : PE X (.Call (.Name x p) (e :: es) [] pos) (tCB r t) := by
  intro pins s σ H Q I h
  refine wpAny_Call_Name_kw (ld_blt I hg hm hv ?_ hn hdb)
  exact PyProof.Rows.callWith_type1 (thn (ha pos pins s σ H _ I h) fun us s1 ⟨vs, H1, I1, r1, q1⟩ => hc pins s1 σ H1 vs us Q I1 r1 q1) he hpl
end
end L2
namespace HT
open PySem PyProof.Rows
section
open PySem.SeqAt
open PySem.AutoSeq1 (wpAny_loadPart')
open PySem.MeetsSeq PySem.MeetsSeq2 PySem.MeetsSeq3
end
section
variable {prog : Program} {w : World} {A : Around} {E : Value → Shared → Prop} {s : Shared}
theorem cat_tup {t b : Addr} {vs ws : List Value} {Q : Value → Shared → Prop} (ht : IsTup s.heap t vs.toArray) (hb : IsTup s.heap b ws.toArray) (hv : vs ≠ [])
    (h1 : ws = [] → Q (.ref t) s) (h2 : ws ≠ [] → Q (.ref s.heap.objs.size) { s with heap := s.heap.push { cls := .type "tuple", data := .seq (vs ++ ws).toArray } })
    (hsz : vs.length + ws.length ≤ sizeLine) : wpAny (model prog w) A (binaryOp .Add (.ref t) (.ref b)) Q E s := by
  obtain ⟨⟨cls, dd, data, sl⟩, ho, hc, n, hd⟩ := id ht
  obtain ⟨⟨cls2, dd2, data2, sl2⟩, ho2, hc2, n2, hd2⟩ := id hb
  simp only at hc hd hc2 hd2
  subst hc hd hc2 hd2
  have e : vs.toArray ++ ws.toArray = (vs ++ ws).toArray := by simp
  by_cases hw : ws = []
  · exact concat_meets ⟨_, ho, rfl⟩ ⟨_, ho2, rfl⟩ noFill_tuple_add seq_tuple_add PySem.F.slot_tuple_add PySem.F.entry_tuple_add (PySem.F.args_tuple_add_2 _ _)
      (tuple_addW1 t b vs.toArray ws.toArray n n2 dd dd2 sl sl2 (by simpa using hv) (by simp [hw])) ⟨ho, ho2, h1 hw⟩
  · refine concat_meets ⟨_, ho, rfl⟩ ⟨_, ho2, rfl⟩ noFill_tuple_add seq_tuple_add PySem.F.slot_tuple_add PySem.F.entry_tuple_add (PySem.F.args_tuple_add_2 _ _)
      (tuple_addW2 t b vs.toArray ws.toArray n n2 dd dd2 sl sl2 (by simpa using hv) (by simpa using hw) (by rw [List.size_toArray, List.size_toArray]; exact hsz)) ⟨ho, ho2, ?_⟩
    rw [e]
    exact h2 hw
def sIx (n d : Nat) : Option Int → Nat
  | none => d
  | some v => if v < 0 then (v + (n : Int)).toNat else min v.toNat n
theorem sIx_le (n d : Nat) (hd : d ≤ n) (o : Option Int) : sIx n d o ≤ n := by
  cases o with
  | none => exact hd
  | some v =>
    show (if v < 0 then (v + (n : Int)).toNat else min v.toNat n) ≤ n
    by_cases hv : v < 0
    · rw [if_pos hv]; omega
    · rw [if_neg hv]; exact Nat.min_le_right _ _
theorem clip_eq (v : Int) (n d : Nat) : (if v < 0 then max (v + (n : Int)) 0 else min v (n : Int)) = ((sIx n d (some v) : Nat) : Int) := by
  show (if v < 0 then max (v + (n : Int)) 0 else min v (n : Int)) = (((if v < 0 then (v + (n : Int)).toNat else min v.toNat n) : Nat) : Int)
  by_cases hv : v < 0
  · simp only [if_pos hv]; omega
  · simp only [if_neg hv]; omega
theorem adjust_gen (lo hi : Option Int) (n : Nat) : Builtin.Slice.sliceAdjust lo hi 1 (n : Int) = (((sIx n 0 lo : Nat) : Int), ((sIx n n hi : Nat) : Int)) := by
  have h1 : ¬ ((1 : Int) < 0) := by omega
  unfold Builtin.Slice.sliceAdjust
  simp only [h1, if_false]
  refine Prod.ext ?_ ?_
  · cases lo with
    | none => rfl
    | some v => exact clip_eq v n 0
  · cases hi with
    | none => rfl
    | some v => exact clip_eq v n n
theorem places_gen (i j : Nat) : Builtin.Slice.slicePlaces (i : Int) (j : Int) 1 = j - i := by
  unfold Builtin.Slice.slicePlaces
  have h1 : (1 : Int) > 0 := by omega
  simp only [h1, if_true, Int.ediv_one]
  split <;> omega
theorem slicePart_ {v : Value} {o : Option Int} {Q : Option Int → Shared → Prop} (p : IsPart v o) (h : Q o s) : wpAny (model prog w) A (Builtin.Slice.slicePartIndex v) Q E s := by
  cases p with
  | none => exact slicePart_none h
  | int i t => exact slicePart_int h
theorem sliceApplied_gen {sl : Addr} {vl vu : Value} {lo hi : Option Int} {n : Nat} {Q : Int × Int × Nat → Shared → Prop} (hs : s.heap.IsSliceOf sl vl vu .none) (pl : IsPart vl lo) (pu : IsPart vu hi)
    (h : Q (((sIx n 0 lo : Nat) : Int), 1, sIx n n hi - sIx n 0 lo) s) : wpAny (model prog w) A (Builtin.Slice.sliceApplied (.ref sl) (pure (n : Int))) Q E s := by
  obtain ⟨os, hos, hcs, hds⟩ := id hs
  unfold Builtin.Slice.sliceApplied Builtin.Slice.sliceFields
  refine wpAny_bind (wpAny_bind (wpAny_field hos hds (x := vl) rfl (wpAny_bind (wpAny_field hos hds (x := vu) rfl (wpAny_bind (wpAny_field hos hds (x := .none) rfl (wpAny_pure ?_)))))))
  refine wpAny_bind (slicePart_none ?_)
  show wpAny _ _ (if ((1 : Int) == 0) = true then _ else _) _ _ s
  rw [if_neg (by decide)]
  refine wpAny_bind (slicePart_ pl (wpAny_bind (slicePart_ pu (wpAny_bind (wpAny_pure ?_)))))
  show wpAny _ _ (match Builtin.Slice.sliceAdjust lo hi 1 (n : Int) with | (lo, hi) => pure (lo, (1 : Int), Builtin.Slice.slicePlaces lo hi 1)) _ _ s
  rw [adjust_gen lo hi n]
  show wpAny _ _ (pure (((sIx n 0 lo : Nat) : Int), (1 : Int), Builtin.Slice.slicePlaces ((sIx n 0 lo : Nat) : Int) ((sIx n n hi : Nat) : Int) 1)) _ _ s
  rw [places_gen]
  exact wpAny_pure h
theorem pick_gen (xs : Array Value) (i k : Nat) : ((List.range k).filterMap fun (m : Nat) => xs[((i : Int) + (m : Int) * 1).toNat]?).toArray = ((xs.toList.drop i).take k).toArray := by
  have e : (fun (m : Nat) => xs[((i : Int) + (m : Int) * 1).toNat]?) = fun m => xs[i + m]? := by
    funext m
    have : ((i : Int) + (m : Int) * 1).toNat = i + m := by omega
    rw [this]
  rw [e]
  have := pick_run xs i k
  rw [List.filterMap_map] at this
  have e2 : ((fun x => xs[x]?) ∘ fun x => i + x) = fun m => xs[i + m]? := rfl
  rw [e2] at this
  rw [this]
theorem getItem_tuple_cut {t sl : Addr} {items : Array Value} {vl vu : Value} {lo hi : Option Int} {Q : Value → Shared → Prop} (ht : IsTup s.heap t items) (hs : s.heap.IsSliceOf sl vl vu .none) (pl : IsPart vl lo) (pu : IsPart vu hi)
    (hw : ¬ (sIx items.size 0 lo = 0 ∧ sIx items.size items.size hi = items.size))
    (h : Q (.ref s.heap.objs.size) { s with heap := s.heap.push { cls := .type "tuple", data := .seq ((items.toList.drop (sIx items.size 0 lo)).take (sIx items.size items.size hi - sIx items.size 0 lo)).toArray } })
    (hsz : items.size ≤ sizeLine) : wpAny (model prog w) A (getItem (.ref t) (.ref sl)) Q E s := by
  have htake : sizeOk (.seq ((items.toList.drop (sIx items.size 0 lo)).take (sIx items.size items.size hi - sIx items.size 0 lo)).toArray) := by
    show ((items.toList.drop (sIx items.size 0 lo)).take (sIx items.size items.size hi - sIx items.size 0 lo)).toArray.size ≤ sizeLine
    rw [List.size_toArray, List.length_take, List.length_drop, Array.length_toList]
    omega
  have hj : sIx items.size items.size hi ≤ items.size := sIx_le _ _ (Nat.le_refl _) hi
  obtain ⟨os, hos, hcs, hds⟩ := id hs
  have hTs : s.TypeIs (.ref sl) "slice" := ⟨os, hos, hcs⟩
  unfold getItem
  try with_reducible refine wpAny_holding ?_
  first | refine wpAny_bind (wpAny_pure ?_) | skip
  refine wpAny_bind (wpAny_sequenceKey ht.typeIs (by decide) ?_)
  refine wpAny_bind (wpAny_callSpecial?_slot (name := Str.ofString "__getitem__") ht.typeIs PyProof.Rows.slot_tuple_getitem
    (wpAny_call_entry PyProof.Rows.slot_tuple_getitem ht.typeIs entry_tuple_getitem ?_ (args_tuple_getitem _ _)))
  show wpAny _ _ (Builtin.Tuple.tupleItemsOf (.ref t) >>= _) _ _ s
  refine wpAny_bind (tupleItemsOf_ ht ?_)
  refine wpAny_bind (wpAny_typeOf hTs ?_)
  rw [if_pos (by decide)]
  refine wpAny_bind (sliceApplied_gen hs pl pu ?_)
  have hno : ¬ ((((sIx items.size 0 lo : Nat) : Int) == 0 && (1 : Int) == 1 && (sIx items.size items.size hi - sIx items.size 0 lo) == items.size) = true) := by
    intro q
    rw [Bool.and_eq_true, Bool.and_eq_true] at q
    have q1 : ((sIx items.size 0 lo : Nat) : Int) = 0 := eq_of_beq q.1.1
    have q2 : sIx items.size items.size hi - sIx items.size 0 lo = items.size := eq_of_beq q.2
    exact hw ⟨by omega, by omega⟩
  show wpAny _ _ (if (((sIx items.size 0 lo : Nat) : Int) == 0 && (1 : Int) == 1 && (sIx items.size items.size hi - sIx items.size 0 lo) == items.size) = true then _ else _) _ _ s
  rw [if_neg hno, pick_gen]
  first
    | exact wpAny_bind (m := Builtin.Tuple.tupleExact _) (wpAny_newObj_type (wpAny_pure ⟨_, rfl, wpAny_pure h⟩) htake)
    | exact wpAny_bind (m := Builtin.Tuple.tupleExact _) (wpAny_newObj_type (wpAny_bind (wpAny_pure (wpAny_pure ⟨_, rfl, wpAny_pure h⟩))) htake)
    | exact wpAny_bind (wpAny_bind (m := Builtin.Tuple.tupleExact _) (wpAny_newObj_type (wpAny_pure (wpAny_pure ⟨_, rfl, wpAny_pure h⟩)) htake))
    | exact wpAny_bind (wpAny_bind (m := Builtin.Tuple.tupleExact _) (wpAny_newObj_type (wpAny_pure ⟨_, rfl, wpAny_pure h⟩) htake))
end
end HT
namespace L2
open PySem PySem.Spec PyProof.Rows
abbrev TO := St → Hp → (Option Int → Hp → Prop) → Prop
def PO (X : Cx) (e : Option Expr) (t : TO) : Prop :=
  ∀ (pins : List (Addr × Obj)) (s : Shared) (σ : St) (H : Hp) (Q : Option Int → Hp → Prop), Inv X pins σ H s → t σ H Q →
    wpAny (model X.prog X.w) X.A (evalPart e X.env) (fun u s' => ∃ o H', Inv X pins σ H' s' ∧ IsPart u o ∧ Q o H') X.xe s
def tNoPart : TO := fun _ H Q => Q none H
def tPart (t : TE) : TO := fun σ H Q => t σ H fun x H1 => ∃ i, x = .int i ∧ Q (some i) H1
section
variable {X : Cx} {e : Expr} {te : TE} {lo hi : Option Expr} {tl th : TO} {pos p2 : Pos}
theorem po_none : PO X none tNoPart := by
  intro pins s σ H Q I h
  rw [evalPart_none]
  exact wpAny_pure ⟨none, H, I, .none, h⟩
theorem po_some (h : PE X e te) : PO X (some e) (tPart te) := by
  intro pins s σ H Q I hw
  rw [evalPart_some]
  refine thn (h pins s σ H _ I hw) fun u s1 ⟨x, H1, I1, r1, q1⟩ => ?_
  obtain ⟨i, rfl, q⟩ := q1
  obtain ⟨t, rfl⟩ := r1
  exact ⟨some i, H1, I1, .int i t, q⟩
def SlR (X : Cx) (r : V → Option Int → Option Int → Hp → VK → Prop) : Prop :=
  ∀ (pins : List (Addr × Obj)) (s : Shared) (σ : St) (H : Hp) (x : V) (v vl vu : Value) (lo hi : Option Int) (sl : Addr) (Q : VK), Inv X pins σ H s → RelV x v → s.heap.IsSliceOf sl vl vu .none → IsPart vl lo → IsPart vu hi → r x lo hi H Q →
    ∃ T id, typeLookup (.type T) "__getitem__" = pure (some (.builtin id)) ∧ s.TypeIs v T ∧ wpAny (model X.prog X.w) X.A (getItem v (.ref sl)) (EP X pins σ Q) X.xe s
def tSl (r : V → Option Int → Option Int → Hp → VK → Prop) (te : TE) (tl th : TO) : TE := fun σ H Q => te σ H fun x H1 => tl σ H1 fun l H2 => th σ H2 fun u H3 => r x l u H3 Q
theorem pe_slice {r : V → Option Int → Option Int → Hp → VK → Prop} (hr : SlR X r) (he : PE X e te) (hl : PO X lo tl) (hu : PO X hi th) : PE X (.Subscript e (.Slice lo hi none p2) pos) (tSl r te tl th) := by
  intro pins s σ H Q I h
  refine Subscript_ (thn (he pins s σ H _ I h) fun v s1 ⟨x, H1, I1, r1, q1⟩ => ?_)
  refine wpAny_Slice (thn (hl pins s1 σ H1 _ I1 q1) fun vl s2 ⟨l, H2, I2, pl, q2⟩ => thn (hu pins s2 σ H2 _ I2 q2) fun vu s3 ⟨u, H3, I3, pu, q3⟩ => ?_)
  rw [evalPart_none]
  refine wpAny_pure ?_
  have I4 : Inv X pins σ H3 { s3 with heap := s3.heap.push { cls := .type "slice", data := .fields #[vl, vu, .none] } } := I3.kept (t' := s3.toks) fun b ob q => Heap.get?_push_of_some _ q
  obtain ⟨T, id, hT, ht, hg⟩ := hr pins { s3 with heap := s3.heap.push { cls := .type "slice", data := .fields #[vl, vu, .none] } } σ H3 x v vl vu l u s3.heap.objs.size Q I4 r1 (Heap.IsSliceOf.new ..) pl pu q3
  show wpAny (model X.prog X.w) X.A (subscriptTail e (.Slice lo hi none p2) v (.ref s3.heap.objs.size)) (EP X pins σ Q) X.xe { s3 with heap := s3.heap.push { cls := .type "slice", data := .fields #[vl, vu, .none] } }
  exact tail_any (ops := [.ref s3.heap.objs.size, v]) ht hT hg (by with_unfolding_all rfl)
def cutV (xs : List V) (lo hi : Option Int) : List V := (xs.drop (HT.sIx xs.length 0 lo)).take (HT.sIx xs.length xs.length hi - HT.sIx xs.length 0 lo)
theorem cutV_length (xs : List V) (lo hi : Option Int) : (cutV xs lo hi).length ≤ xs.length := by
  unfold cutV
  rw [List.length_take, List.length_drop]
  omega
def rSlT (K : PySem.W.Frag) : V → Option Int → Option Int → Hp → VK → Prop := fun x lo hi H Q => ∃ a xs, x = .ref a ∧ SqT K H a xs ∧
  ¬ (HT.sIx xs.length 0 lo = 0 ∧ HT.sIx xs.length xs.length hi = xs.length) ∧ ∀ p, H p = none → Q (.ref p) (upd H p (.tup (cutV xs lo hi)))
theorem sl_tup : SlR X (rSlT X.K) := by
  intro pins s σ H x v vl vu lo hi sl Q I rx hs pl pu h
  obtain ⟨a, xs, rfl, hx, hw, q⟩ := h
  cases rx
  obtain ⟨its, r, ht, hz⟩ := I.tuple hx
  have hlen : its.toArray.size = xs.length := by rw [List.size_toArray]; exact r.length.symm
  refine ⟨"tuple", _, PyProof.Rows.slot_tuple_getitem.lookup, ht.typeIs, ?_⟩
  refine HT.getItem_tuple_cut ht hs pl pu (by rw [hlen]; exact hw) ?_ (by rw [hlen]; exact hz)
  rw [hlen]
  refine ⟨.ref s.heap.objs.size, _, I.laid (t' := s.toks) (o := .tup (cutV xs lo hi)) (fun b ob q => Heap.get?_push_of_some _ q) (Nat.le_refl _) ?_, rfl, q _ (I.hok.fresh (Nat.le_refl _))⟩
  exact ⟨Nat.le_trans (cutV_length xs lo hi) hz, _, (r.drop (HT.sIx xs.length 0 lo)).take (HT.sIx xs.length xs.length hi - HT.sIx xs.length 0 lo), IsTup.new _ _⟩
def rCatT (K : PySem.W.Frag) : R2 := fun x y H Q => ∃ a b xs ys, x = .ref a ∧ y = .ref b ∧ SqT K H a xs ∧ SqT K H b ys ∧ xs ≠ [] ∧ xs.length + ys.length ≤ sizeLine ∧
  (ys = [] → Q (.ref a) H) ∧ (ys ≠ [] → ∀ p, H p = none → Q (.ref p) (upd H p (.tup (xs ++ ys))))
theorem Vals.nil_iff {xs : List V} {us : List Value} (r : Vals xs us) : us = [] ↔ xs = [] := by
  cases r with
  | nil => simp
  | cons _ _ => simp
theorem op_catT : OpR X (binaryOp .Add) (rCatT X.K) := by
  intro pins s σ H x y v u Q I rx ry h
  obtain ⟨a, b, xs, ys, rfl, rfl, ha, hb, hx, hz, q1, q2⟩ := h
  cases rx
  cases ry
  obtain ⟨its, r1, p1, _⟩ := I.tuple ha
  obtain ⟨its2, r2, p2, _⟩ := I.tuple hb
  refine HT.cat_tup p1 p2 (fun z => hx (r1.nil_iff.mp z)) (fun z => ⟨.ref a, H, I, rfl, q1 (r2.nil_iff.mp z)⟩) (fun z => ?_) (by rw [← r1.length, ← r2.length]; exact hz)
  refine ⟨.ref s.heap.objs.size, _, I.laid (t' := s.toks) (o := .tup (xs ++ ys)) (fun b ob q => Heap.get?_push_of_some _ q) (Nat.le_refl _) ?_, rfl, q2 (fun w => z (r2.nil_iff.mpr w)) _ (I.hok.fresh (Nat.le_refl _))⟩
  exact ⟨by rw [List.length_append]; exact hz, _, r1.append r2, IsTup.new _ _⟩
end
end L2
namespace L2
open PySem PySem.Spec PyProof.Rows
def ixN (n : Nat) (i : Int) : Option Nat := if 0 ≤ i then (if i < n then some i.toNat else none) else if -(n : Int) ≤ i then some (i + n).toNat else none
def atI {α : Type} (xs : List α) (i : Int) : Option α := (ixN xs.length i).bind fun j => xs[j]?
theorem ixN_seq {n : Nat} {i : Int} {j : Nat} (h : ixN n i = some j) : seqIndex? i n = some j ∧ j < n ∧ -(n : Int) ≤ i ∧ i < n := by
  unfold ixN at h
  by_cases h0 : 0 ≤ i
  · rw [if_pos h0] at h
    by_cases h1 : i < n
    · rw [if_pos h1] at h
      have e : i.toNat = j := Option.some.inj h
      exact ⟨by rw [seqIndex_of h0 h1, e], by omega, by omega, h1⟩
    · rw [if_neg h1] at h; cases h
  · rw [if_neg h0] at h
    by_cases h1 : -(n : Int) ≤ i
    · rw [if_pos h1] at h
      have e : (i + n).toNat = j := Option.some.inj h
      exact ⟨by rw [seqIndex_neg (by omega) h1, e], by omega, h1, by omega⟩
    · rw [if_neg h1] at h; cases h
theorem atI_get {α : Type} {xs : List α} {i : Int} {v : α} (h : atI xs i = some v) : ∃ j, seqIndex? i xs.length = some j ∧ xs[j]? = some v ∧ j < xs.length ∧ -(xs.length : Int) ≤ i ∧ i < xs.length := by
  unfold atI at h
  cases e : ixN xs.length i with
  | none => rw [e] at h; cases h
  | some j =>
    rw [e] at h
    obtain ⟨h1, h2, h3, h4⟩ := ixN_seq e
    exact ⟨j, h1, h, h2, h3, h4⟩
def PlainIx (b : Expr) : Prop := ∀ o i, subscripted b false o i = operate [o, i] (getItem o i)
def IxR (X : Cx) (r : R2) : Prop :=
  ∀ (value slice : Expr) (pins : List (Addr × Obj)) (s : Shared) (σ : St) (H : Hp) (x y : V) (v u : Value) (Q : VK), Inv X pins σ H s → RelV x v → RelV y u → r x y H Q →
    subscripted slice false v u = operate [v, u] (getItem v u) → wpAny (model X.prog X.w) X.A (subscriptTail value slice v u) (EP X pins σ Q) X.xe s
def MtR (X : Cx) (id : String) (r : V → List V → Hp → VK → Prop) : Prop :=
  ∀ (pins : List (Addr × Obj)) (s : Shared) (σ : St) (H : Hp) (x : V) (xs : List V) (v : Value) (us : List Value) (Q : VK), Inv X pins σ H s → RelV x v → Vals xs us → r x xs H Q →
    wpAny (model X.prog X.w) X.A (call (.builtin id) (v :: us)) (EP X pins σ Q) X.xe s
section
variable {X : Cx} {a b : Expr} {ta tb : TE} {pos : Pos}
theorem pe_ix {r : R2} (hr : IxR X r) (ha : PE X a ta) (hb : PE X b tb) (hs : PlainIx b) : PE X (.Subscript a b pos) (tOp r ta tb) := by
  intro pins s σ H Q I h
  exact Subscript_ (binT ha hb I h fun v u s2 x y H2 I2 rx ry q => hr a b pins s2 σ H2 x y v u Q I2 rx ry q (hs _ _))
def rIxL (K : PySem.W.Frag) : R2 := fun x y H Q => ∃ p xs i v, x = .ref p ∧ y = .int i ∧ SqL K H p xs ∧ atI xs i = some v ∧ Q v H
def rIxT (K : PySem.W.Frag) : R2 := fun x y H Q => ∃ p xs i v, x = .ref p ∧ y = .int i ∧ SqT K H p xs ∧ atI xs i = some v ∧ Q v H
def rIxS : R2 := fun x y H Q => ∃ z i c, x = .str z ∧ y = .int i ∧ z.length ≤ sizeLine ∧ atI z.cps.toList i = some c ∧ Q (.str ⟨#[c]⟩) H
theorem ix_list : IxR X (rIxL X.K) := by
  intro value slice pins s σ H x y v u Q I rx ry h hs
  obtain ⟨p, xs, i, z, rfl, rfl, hq, he, q⟩ := h
  cases rx
  obtain ⟨t, rfl⟩ := ry
  obtain ⟨its, r, pl, hz⟩ := I.list hq
  obtain ⟨j, h1, h2, h3, h4, h5⟩ := atI_get he
  obtain ⟨w, ew, rw'⟩ := r.get h2
  have hl := r.length
  have hn := line63
  have fin : EP X pins σ Q w s := ⟨z, H, I, rw', q⟩
  by_cases h0 : 0 ≤ i
  · have hj : i.toNat = j := by
      rw [seqIndex_of h0 h5] at h1
      exact Option.some.inj h1
    exact item_listR pl.isList h0 (by omega) (by rw [hj]; simpa using ew) fin hs
  · have hj : (i + (its.toArray.size : Int)).toNat = j := by
      rw [seqIndex_neg (by omega) h4] at h1
      rw [List.size_toArray, ← hl]
      exact Option.some.inj h1
    exact subscriptTail_builtinR (x := w) pl.isList.typeIs slot_list_getitem.lookup
      (wpAny_getItem_list_neg (Q := fun r s' => r = w ∧ EP X pins σ Q r s') pl.isList (by omega) (by rw [List.size_toArray] <;> omega) (by omega) (by rw [hj]; simpa using ew) ⟨rfl, fin⟩) hs
theorem ix_tup : IxR X (rIxT X.K) := by
  intro value slice pins s σ H x y v u Q I rx ry h hs
  obtain ⟨p, xs, i, z, rfl, rfl, hq, he, q⟩ := h
  cases rx
  obtain ⟨t, rfl⟩ := ry
  obtain ⟨its, r, pl, hz⟩ := I.tuple hq
  obtain ⟨j, h1, h2, h3, h4, h5⟩ := atI_get he
  obtain ⟨w, ew, rw'⟩ := r.get h2
  have hl := r.length
  have hn := line63
  have fin : EP X pins σ Q w s := ⟨z, H, I, rw', q⟩
  exact subscriptTail_builtinR (x := w) pl.typeIs slot_tuple_getitem.lookup
    (getItem_tuple (j := j) (Q := fun r s' => r = w ∧ EP X pins σ Q r s') pl (by omega) (by omega) (by rw [List.size_toArray, ← hl]; exact h1) (by simpa using ew) ⟨rfl, fin⟩) hs
theorem ix_str : IxR X rIxS := by
  intro value slice pins s σ H x y v u Q I rx ry h hs
  obtain ⟨z, i, c, rfl, rfl, hz, he, q⟩ := h
  obtain ⟨t, rfl⟩ := rx
  obtain ⟨t', rfl⟩ := ry
  obtain ⟨j, h1, h2, h3, h4, h5⟩ := atI_get he
  have hl : z.cps.toList.length = z.length := by simp [Str.length]
  rw [hl] at h1 h4 h5
  have hn := line63
  exact tail_any (typeIs_str s z t) slot_str_getitem.lookup (getItem_str (c := c) (by
    have e1 : decide (i < -(2 ^ 63 : Int)) = false := decide_eq_false (by omega)
    have e2 : decide (i ≥ 2 ^ 63) = false := decide_eq_false (by omega)
    rw [e1, e2, Bool.or_false]) (by rw [h1]; simpa using h2) ⟨.str ⟨#[c]⟩, H, I.tok _, ⟨_, rfl⟩, q⟩) hs
theorem mapSeq_set (its : List Value) (n j : Nat) (u : Value) : Obj.mapSeq (·.setIfInBounds j u) { cls := .type "list", data := .seq its.toArray n } = { cls := .type "list", data := .seq (its.set j u).toArray n } := by
  simp [Obj.mapSeq]
theorem Inv.lst {pins : List (Addr × Obj)} {σ : St} {H : Hp} {s : Shared} {p : Addr} {xs : List V} (I : Inv X pins σ H s) (h : H p = some (.lst xs)) :
    ∃ (its : List Value) (n : Nat), Vals xs its ∧ s.heap.get? p = some { cls := .type "list", data := .seq its.toArray n } ∧ xs.length ≤ sizeLine := by
  obtain ⟨z, its, n, r, e⟩ := I.hok p _ h
  exact ⟨its, n, r, e, z⟩
theorem Inv.lstUpd {pins : List (Addr × Obj)} {σ : St} {H : Hp} {s : Shared} {p : Addr} {xs ys : List V} {its its' : List Value} {n n' : Nat} {f : Obj → Obj} (I : Inv X pins σ H s) (h : H p = some (.lst xs))
    (ho : s.heap.get? p = some { cls := .type "list", data := .seq its.toArray n }) (hf : f { cls := .type "list", data := .seq its.toArray n } = { cls := .type "list", data := .seq its'.toArray n' }) (r : Vals ys its') (hz : ys.length ≤ sizeLine) (t : Nat) :
    Inv X pins σ (upd H p (.lst ys)) { s with heap := s.heap.update p f, toks := t } := by
  have e : (s.heap.update p f).get? p = some { cls := .type "list", data := .seq its'.toArray n' } := by
    rw [Heap.get?_update_self f ho (by rw [hf] <;> rfl), hf]
  refine I.write (x := p) (e := p) (by rw [h]; trivial) (.inl rfl) (fun b u hb q => (Heap.get?_update_other _ _ (Ne.symm hb)).trans q) ⟨_, e⟩ ?_
  exact ⟨hz, its', n', r, e⟩
def rSetL : V → V → V → Hp → (Hp → Prop) → Prop := fun o i v H Q => ∃ p xs k j, o = .ref p ∧ i = .int k ∧ H p = some (.lst xs) ∧ ixN xs.length k = some j ∧ Q (upd H p (.lst (xs.set j v)))
theorem set_list : PSet X rSetL := by
  intro pins s σ H o i v ov iv u Q I ro ri rv h
  obtain ⟨p, xs, k, j, rfl, rfl, hp, hj, q⟩ := h
  cases ro
  obtain ⟨t, rfl⟩ := ri
  obtain ⟨its, n, r, ho, hz⟩ := I.lst hp
  obtain ⟨h1, h2, h3, h4⟩ := ixN_seq hj
  have hl := r.length
  have hn := line63
  have I' : Inv X pins σ (upd H p (.lst (xs.set j v))) { s with heap := s.heap.update p (Obj.mapSeq (·.setIfInBounds j u)) } :=
    I.lstUpd hp ho (mapSeq_set its n j u) (r.set rv j) (by rw [List.length_set]; exact hz) s.toks
  by_cases h0 : 0 ≤ k
  · have hk : k.toNat = j := by
      rw [seqIndex_of h0 h4] at h1
      exact Option.some.inj h1
    exact PySem.W.ki_setAt ho h0 (by omega) (by rw [List.size_toArray, ← hl]; exact h4) (by rw [hk]; exact ⟨_, I', q⟩)
  · have hk : (k + (its.toArray.size : Int)).toNat = j := by
      rw [seqIndex_neg (by omega) h3] at h1
      rw [List.size_toArray, ← hl]
      exact Option.some.inj h1
    exact PySem.W.ki_setBack ho (by omega) (by rw [List.size_toArray, ← hl]; exact h3) (by omega) (by rw [hk]; exact ⟨_, I', q⟩)
theorem slice_bounds (lo hi : Option Int) (n : Nat) : (sliceBounds lo hi none n).1 = ((HT.sIx n 0 lo : Nat) : Int) ∧ (sliceBounds lo hi none n).2.1 = ((HT.sIx n n hi : Nat) : Int) ∧ (sliceBounds lo hi none n).2.2 = 1 := by
  refine ⟨?_, ?_, rfl⟩
  · cases lo with
    | none => simp [sliceBounds, HT.sIx]
    | some i =>
      simp only [sliceBounds, HT.sIx, Option.getD_none, show (1 : Int) > 0 by decide, if_true]
      by_cases h : i < 0
      · simp only [h, if_true] <;> omega
      · simp only [h, if_false] <;> omega
  · cases hi with
    | none => simp [sliceBounds, HT.sIx]
    | some i =>
      simp only [sliceBounds, HT.sIx, Option.getD_none, show (1 : Int) > 0 by decide, if_true]
      by_cases h : i < 0
      · simp only [h, if_true] <;> omega
      · simp only [h, if_false] <;> omega
theorem slicePick_cut (its : List Value) (lo hi : Option Int) : slicePick its.toArray lo hi none = ((its.drop (HT.sIx its.length 0 lo)).take (HT.sIx its.length its.length hi - HT.sIx its.length 0 lo)).toArray := by
  obtain ⟨h1, h2, h3⟩ := slice_bounds lo hi its.toArray.size
  unfold slicePick
  rw [h1, h2, h3]
  simp only [sliceRange_one, pick_run, List.size_toArray] <;> rfl
def rSlL (K : PySem.W.Frag) : V → Option Int → Option Int → Hp → VK → Prop := fun x lo hi H Q => ∃ a xs, x = .ref a ∧ SqL K H a xs ∧ ∀ p, H p = none → Q (.ref p) (upd H p (.lst (cutV xs lo hi)))
theorem sl_list : SlR X (rSlL X.K) := by
  intro pins s σ H x v vl vu lo hi sl Q I rx hs pl pu h
  obtain ⟨a, xs, rfl, hx, q⟩ := h
  cases rx
  obtain ⟨its, r, ht, hz⟩ := I.list hx
  have hlen := r.length
  refine ⟨"list", _, slot_list_getitem.lookup, ht.isList.typeIs, ?_⟩
  refine wpAny_getItem_list_slice ht.isList hs pl pu .none (by simp) ?_ (by rw [List.size_toArray] <;> omega)
  rw [slicePick_cut, ← hlen]
  refine ⟨.ref s.heap.objs.size, _, I.laid (t' := s.toks) (o := .lst (cutV xs lo hi)) (fun b ob q => Heap.get?_push_of_some _ q) (Nat.le_refl _) ?_, rfl, q _ (I.hok.fresh (Nat.le_refl _))⟩
  exact ⟨Nat.le_trans (cutV_length xs lo hi) hz, _, 0, (r.drop (HT.sIx xs.length 0 lo)).take (HT.sIx xs.length xs.length hi - HT.sIx xs.length 0 lo), Heap.get?_push_size _ rfl⟩
def flatV : V → Bool
  | .non => true
  | .bl _ => true
  | .int _ => true
  | .str _ => true
  | _ => false
def eqV : V → V → Bool
  | .non, .non => true
  | .bl a, .bl b => a == b
  | .bl a, .int b => (if a then 1 else 0) == b
  | .int a, .bl b => a == (if b then 1 else 0)
  | .int a, .int b => a == b
  | .str a, .str b => a == b
  | _, _ => false
theorem eqAt_V {A : Around} {s : Shared} {y x : V} {u v : Value} (ry : RelV y u) (rx : RelV x v) (fy : flatV y = true) (fx : flatV x = true) : SeqAt.EqAt A s u v (eqV y x) := by
  cases y with
  | non =>
    cases ry
    cases x with
    | non => cases rx; exact SeqAt.EqAt.same _
    | bl b => cases rx; exact SeqAt.EqAt.none_bool b
    | int b => obtain ⟨t, rfl⟩ := rx; exact SeqAt.EqAt.none_int b t
    | str b => obtain ⟨t, rfl⟩ := rx; exact SeqAt.EqAt.none_str b t
    | _ => exact absurd (show false = true from fx) Bool.false_ne_true
  | bl a =>
    cases ry
    cases x with
    | non => cases rx; exact SeqAt.EqAt.bool_none a
    | bl b => cases rx; exact SeqAt.EqAt.bool_bool a b
    | int b => obtain ⟨t, rfl⟩ := rx; exact SeqAt.EqAt.bool_int a b t
    | str b => obtain ⟨t, rfl⟩ := rx; exact SeqAt.EqAt.bool_str a b t
    | _ => exact absurd (show false = true from fx) Bool.false_ne_true
  | int a =>
    obtain ⟨t', rfl⟩ := ry
    cases x with
    | non => cases rx; exact SeqAt.EqAt.int_none a t'
    | bl b => cases rx; exact SeqAt.EqAt.int_bool a t' b
    | int b => obtain ⟨t, rfl⟩ := rx; exact SeqAt.EqAt.int_int a t' b t
    | str b => obtain ⟨t, rfl⟩ := rx; exact SeqAt.EqAt.int_str a t' b t
    | _ => exact absurd (show false = true from fx) Bool.false_ne_true
  | str a =>
    obtain ⟨t', rfl⟩ := ry
    cases x with
    | non => cases rx; exact SeqAt.EqAt.str_none a t'
    | bl b => cases rx; exact SeqAt.EqAt.str_bool a t' b
    | int b => obtain ⟨t, rfl⟩ := rx; exact SeqAt.EqAt.str_int a t' b t
    | str b => obtain ⟨t, rfl⟩ := rx; exact SeqAt.EqAt.str_str a t' b t
    | _ => exact absurd (show false = true from fx) Bool.false_ne_true
  | _ => exact absurd (show false = true from fy) Bool.false_ne_true
def eqU (x : V) (u : Value) : Bool := match u with
  | .none => eqV .non x
  | .bool b => eqV (.bl b) x
  | .int i _ => eqV (.int i) x
  | .str z _ => eqV (.str z) x
  | _ => false
theorem eqU_of {x y : V} {u : Value} (r : RelV y u) (f : flatV y = true) : eqU x u = eqV y x := by
  cases y with
  | non => cases r; rfl
  | bl b => cases r; rfl
  | int i => obtain ⟨t, rfl⟩ := r; rfl
  | str z => obtain ⟨t, rfl⟩ := r; rfl
  | _ => exact absurd (show false = true from f) Bool.false_ne_true
theorem any_eqU {x : V} : ∀ {xs : List V} {us : List Value}, Vals xs us → xs.all flatV = true → us.any (eqU x) = xs.any fun y => eqV y x
  | _, _, .nil, _ => rfl
  | y :: xs, u :: us, .cons r t, f => by
    rw [List.all_cons, Bool.and_eq_true] at f
    rw [List.any_cons, List.any_cons, eqU_of r f.1, any_eqU t f.2]
theorem mem_eqAt {A : Around} {s : Shared} {x : V} {v : Value} (rx : RelV x v) (fx : flatV x = true) : ∀ {xs : List V} {us : List Value}, Vals xs us → xs.all flatV = true → ∀ u ∈ us, SeqAt.EqAt A s u v (eqU x u)
  | _, _, .nil, _ => fun u hu => by cases hu
  | y :: xs, u :: us, .cons r t, f => fun u' hu => by
    rw [List.all_cons, Bool.and_eq_true] at f
    rcases List.mem_cons.mp hu with rfl | hu
    · rw [eqU_of r f.1]; exact eqAt_V r rx f.1 fx
    · exact mem_eqAt rx fx t f.2 u' hu
def inV (x : V) (xs : List V) : Bool := xs.any fun y => eqV y x
def rIn (K : PySem.W.Frag) (neg : Bool) : R2 := fun x y H Q => ∃ p xs, y = .ref p ∧ (SqL K H p xs ∨ SqT K H p xs) ∧ flatV x = true ∧ xs.all flatV = true ∧ Q (.bl (if neg then !inV x xs else inV x xs)) H
theorem op_in_seq : OpR X (compareOp .In) (rIn X.K false) := by
  intro pins s σ H x y v u Q I rx ry h
  obtain ⟨p, xs, rfl, hq, fx, fs, q⟩ := h
  cases ry
  rcases hq with hq | hq
  · obtain ⟨its, r, pl, hz⟩ := I.list hq
    refine SeqAt.in_listAt (eqU x) pl.isList (fun w hw => mem_eqAt rx fx r fs w (by simpa using hw)) ⟨.bl _, H, I, rfl, ?_⟩
    rw [show its.toArray.any (eqU x) = its.any (eqU x) by simp, any_eqU r fs]
    exact q
  · obtain ⟨its, r, pl, hz⟩ := I.tuple hq
    refine SeqAt.in_tupleAt (eqU x) pl (fun w hw => mem_eqAt rx fx r fs w (by simpa using hw)) ⟨.bl _, H, I, rfl, ?_⟩
    rw [show its.toArray.any (eqU x) = its.any (eqU x) by simp, any_eqU r fs]
    exact q
theorem op_notIn_seq : OpR X (compareOp .NotIn) (rIn X.K true) := by
  intro pins s σ H x y v u Q I rx ry h
  obtain ⟨p, xs, rfl, hq, fx, fs, q⟩ := h
  cases ry
  rcases hq with hq | hq
  · obtain ⟨its, r, pl, hz⟩ := I.list hq
    refine SeqAt.notIn_listAt (eqU x) pl.isList (fun w hw => mem_eqAt rx fx r fs w (by simpa using hw)) ⟨.bl _, H, I, rfl, ?_⟩
    rw [show its.toArray.any (eqU x) = its.any (eqU x) by simp, any_eqU r fs]
    exact q
  · obtain ⟨its, r, pl, hz⟩ := I.tuple hq
    refine SeqAt.notIn_tupleAt (eqU x) pl (fun w hw => mem_eqAt rx fx r fs w (by simpa using hw)) ⟨.bl _, H, I, rfl, ?_⟩
    rw [show its.toArray.any (eqU x) = its.any (eqU x) by simp, any_eqU r fs]
    exact q
theorem call_len_seq : CallR X (.builtin "len") (fun xs H Q => ∃ p ys, xs = [.ref p] ∧ (SqL X.K H p ys ∨ SqT X.K H p ys) ∧ Q (.int ys.length) H) := by
  intro pins s σ H xs us Q I r h
  obtain ⟨p, ys, rfl, hq, q⟩ := h
  obtain ⟨u, rfl, rx⟩ := vals1 r
  cases rx
  have hn := line63
  rcases hq with hq | hq
  · obtain ⟨its, r', pl, hz⟩ := I.list hq
    have hlen := r'.length
    exact Calls.call_len_list pl.isList (by simp only [List.size_toArray] <;> omega) ⟨.int ys.length, H, I.tok _, ⟨s.toks + 1, by rw [List.size_toArray, hlen]⟩, q⟩
  · obtain ⟨its, r', pl, hz⟩ := I.tuple hq
    have hlen := r'.length
    exact len_tuple pl (by simp only [List.size_toArray] <;> omega) ⟨.int ys.length, H, I.tok _, ⟨s.toks + 1, by rw [List.size_toArray, hlen]⟩, q⟩
theorem call_len_str : CallR X (.builtin "len") (fun xs H Q => ∃ z, xs = [.str z] ∧ z.length ≤ sizeLine ∧ Q (.int z.length) H) := by
  intro pins s σ H xs us Q I r h
  obtain ⟨z, rfl, hz, q⟩ := h
  obtain ⟨u, rfl, t, rfl⟩ := vals1 r
  have hn := line63
  exact len_str (by omega) ⟨.int z.length, H, I.tok _, ⟨_, rfl⟩, q⟩
theorem call_list_of : CallR X (.type "list") (fun xs H Q => ∃ p ys, xs = [.ref p] ∧ (SqL X.K H p ys ∨ SqT X.K H p ys) ∧ ∀ l, H l = none → Q (.ref l) (upd H l (.lst ys))) := by
  intro pins s σ H xs us Q I r h
  obtain ⟨p, ys, rfl, hq, q⟩ := h
  obtain ⟨u, rfl, rx⟩ := vals1 r
  cases rx
  have fin : ∀ (its : List Value), Vals ys its → ys.length ≤ sizeLine → ∀ (h' : Heap) (c' : Nat), (∀ b o', s.heap.get? b = some o' → h'.get? b = some o') →
      h'.get? s.heap.objs.size = some { cls := .type "list", dict := none, data := .seq its.toArray c', slots := #[] } → EP X pins σ Q (.ref s.heap.objs.size) { s with heap := h' } := fun its r' hz h' c' kp e =>
    ⟨.ref s.heap.objs.size, _, I.laid (t' := s.toks) kp (Nat.le_refl _) (show ObjOk X.prog X.w _ h' _ (.lst ys) from ⟨hz, its, c', r', e⟩), rfl, q _ (I.hok.fresh (Nat.le_refl _))⟩
  rcases hq with hq | hq
  · obtain ⟨its, r', pl, hz⟩ := I.list hq
    have hlen := r'.length
    obtain ⟨o, ho, hc, n, hd⟩ := pl.isList
    exact call_list_seq p (.inl rfl) ho hc hd (fun h' c' kp e => fin its r' hz h' c' kp e) (by simp only [List.size_toArray] <;> omega)
  · obtain ⟨its, r', pl, hz⟩ := I.tuple hq
    have hlen := r'.length
    obtain ⟨o, ho, hc, n, hd⟩ := pl
    exact call_list_seq p (.inr rfl) ho hc hd (fun h' c' kp e => fin its r' hz h' c' kp e) (by simp only [List.size_toArray] <;> omega)
theorem call_tuple_of : CallR X (.type "tuple") (fun xs H Q => ∃ p ys, xs = [.ref p] ∧ ((SqL X.K H p ys ∧ ∀ l, H l = none → Q (.ref l) (upd H l (.tup ys))) ∨ (SqT X.K H p ys ∧ Q (.ref p) H))) := by
  intro pins s σ H xs us Q I r h
  obtain ⟨p, ys, rfl, h⟩ := h
  obtain ⟨u, rfl, rx⟩ := vals1 r
  cases rx
  rcases h with ⟨hq, q⟩ | ⟨hq, q⟩
  · obtain ⟨its, r', pl, hz⟩ := I.list hq
    have hlen := r'.length
    refine call_tuple_list pl.isList (fun h' kp => ?_) (by simp only [List.size_toArray] <;> omega)
    have I1 : Inv X pins σ H { s with heap := h' } := I.kept (t' := s.toks) kp
    have I2 : Inv X pins σ (upd H h'.objs.size (.tup ys)) { s with heap := h'.push { cls := .type "tuple", data := .seq its.toArray } } :=
      I1.laid (t' := s.toks) (fun b o e => Heap.get?_push_of_some _ e) (Nat.le_refl _) (show ObjOk X.prog X.w _ _ _ (.tup ys) from ⟨hz, its, r', IsTup.new _ _⟩)
    exact ⟨.ref h'.objs.size, _, I2, rfl, q _ (I1.hok.fresh (Nat.le_refl _))⟩
  · obtain ⟨its, r', pl, hz⟩ := I.tuple hq
    exact call_tuple_same pl ⟨.ref p, H, I, rfl, q⟩
def tyV (K : PySem.W.Frag) (T : String) (x : V) (H : Hp) : Prop := match x with
  | .str _ => T = "str"
  | .int _ => T = "int"
  | .ref p => (T = "list" ∧ ∃ xs, SqL K H p xs) ∨ (T = "tuple" ∧ ∃ o, K.lookup p = some o ∧ o.cls = .type "tuple" ∧ o.dict = none) ∨
      (T = "dict" ∧ ((∃ kvs, H p = some (.dK kvs)) ∨ ∃ kvs, H p = some (.dT kvs))) ∨ (T = "set" ∧ ∃ S n, H p = some (.set S n))
  | _ => False
theorem tyV_is {pins : List (Addr × Obj)} {σ : St} {H : Hp} {s : Shared} {T : String} {x : V} {v : Value} (I : Inv X pins σ H s) (r : RelV x v) (ty : tyV X.K T x H) :
    s.TypeIs v T ∧ ∀ a, v = .ref a → ∃ ob, s.heap.get? a = some ob ∧ ob.dict = none := by
  cases x with
  | str z =>
    obtain ⟨t, rfl⟩ := r
    cases (show T = "str" from ty)
    exact ⟨typeIs_str s z t, fun _ e => nomatch e⟩
  | int i =>
    obtain ⟨t, rfl⟩ := r
    cases (show T = "int" from ty)
    exact ⟨typeIs_int s i t, fun _ e => nomatch e⟩
  | ref p =>
    cases r
    rcases ty with ⟨rfl, xs, hq⟩ | ⟨rfl, o, hk, hc, hd⟩ | ⟨rfl, hk⟩ | ⟨rfl, S, n, hk⟩
    · obtain ⟨its, _, pl, _⟩ := I.list hq
      refine ⟨pl.isList.typeIs, fun a e => ?_⟩
      cases e
      obtain ⟨o, n, e, c, hd, _⟩ := pl
      exact ⟨o, e, hd⟩
    · refine ⟨⟨o, I.kIn p o hk, hc⟩, fun a e => ?_⟩
      cases e
      exact ⟨o, I.kIn _ o hk, hd⟩
    · have z : ∃ o, s.heap.get? p = some o ∧ o.ExactDict := by
        rcases hk with ⟨kvs, hk⟩ | ⟨kvs, hk⟩
        · obtain ⟨_, _, _, _, o, _, _, e, ex, _⟩ := I.hok p _ hk
          exact ⟨o, e, ex⟩
        · obtain ⟨_, _, _, _, o, _, _, e, ex, _⟩ := I.hok p _ hk
          exact ⟨o, e, ex⟩
      obtain ⟨o, e, ex⟩ := z
      refine ⟨⟨o, e, ex.1⟩, fun a e2 => ?_⟩
      cases e2
      exact ⟨o, e, ex.2.1⟩
    · obtain ⟨o, _, _, _, e, ex, _⟩ := I.hok p _ hk
      refine ⟨⟨o, e, ex.1⟩, fun a e2 => ?_⟩
      cases e2
      exact ⟨o, e, ex.2.1⟩
  | _ => exact False.elim ty
variable {o e : Expr} {es : List Expr} {to : TE} {t : TA} {name : Str} {apos cpos : Pos} {T id : String} {r : V → List V → Hp → VK → Prop}
end
end L2
namespace L2
open PySem PySem.Spec PyProof.Rows
def MtM (X : Cx) (id : String) (r : V → List V → Hp → VK → Prop) : Prop :=
  ∀ (pins : List (Addr × Obj)) (s : Shared) (σ : St) (H : Hp) (x : V) (xs : List V) (v : Value) (us : List Value) (Q : VK), Inv X pins σ H s → RelV x v → Vals xs us → r x xs H Q →
    wpAny (model X.prog X.w) X.A (call (.builtin id) (v :: us)) (EP X pins σ Q) X.xe s
theorem Vals.one : ∀ {x : V} {us : List Value}, Vals [x] us → ∃ u, us = [u] ∧ RelV x u
  | _, _, .cons r .nil => ⟨_, rfl, r⟩
theorem Vals.zero : ∀ {us : List Value}, Vals [] us → us = []
  | _, .nil => rfl
theorem Vals.rep {xs : List V} {us : List Value} (h : Vals xs us) : ∀ k : Nat, Vals (List.replicate k xs).flatten (List.replicate k us).flatten
  | 0 => .nil
  | k + 1 => by
    rw [List.replicate_succ, List.replicate_succ, List.flatten_cons, List.flatten_cons]
    exact Vals.append h (Vals.rep h k)
theorem foldl_rep (its : List Value) : ∀ (k : Nat) (acc : List Value),
    List.foldl (fun x1 x2 => x1 ++ x2) acc.toArray (List.replicate k its.toArray) = (acc ++ (List.replicate k its).flatten).toArray
  | 0, acc => by simp
  | k + 1, acc => by
    have e : acc.toArray ++ its.toArray = (acc ++ its).toArray := by simp
    have e2 : (acc ++ its) ++ (List.replicate k its).flatten = acc ++ (List.replicate (k + 1) its).flatten := by
      rw [List.replicate_succ, List.flatten_cons, List.append_assoc]
    rw [← e2, ← foldl_rep its k (acc ++ its), ← e, List.replicate_succ, List.foldl_cons]
section
variable {X : Cx} {pins : List (Addr × Obj)} {σ : St} {H : Hp} {s : Shared} {l b : Addr} {xs ys zs : List V}
theorem Inv.lset {its its' : List Value} {n : Nat} {f : Array Value → Array Value} {t' : Nat} (I : Inv X pins σ H s) (hH : H l = some (.lst xs))
    (e : s.heap.get? l = some { cls := .type "list", data := .seq its.toArray n }) (hf : f its.toArray = its'.toArray) (hv : Vals ys its') (hz : ys.length ≤ sizeLine) :
    Inv X pins σ (upd H l (.lst ys)) { s with heap := s.heap.update l (Obj.mapSeq f), toks := t' } := by
  have q := PySem.IsL.update e f
  rw [hf] at q
  refine I.write (x := l) (e := l) (by rw [hH]; exact trivial) (.inl rfl) (fun b' u hb hu => (Heap.get?_update_other s.heap (Obj.mapSeq f) (Ne.symm hb)).trans hu) ⟨_, q⟩ ?_
  exact ⟨hz, its', _, hv, q⟩
theorem Inv.lnew {its : List Value} {t' : Nat} (I : Inv X pins σ H s) (hv : Vals ys its) (hz : ys.length ≤ sizeLine) :
    Inv X pins σ (upd H s.heap.objs.size (.lst ys)) { s with heap := s.heap.push { cls := .type "list", data := .seq its.toArray }, toks := t' } :=
  I.laid (fun _ _ q => Heap.get?_push_of_some _ q) (Nat.le_refl _) ⟨hz, its, 0, hv, Heap.get?_push_size _ rfl⟩
theorem Inv.fresh (I : Inv X pins σ H s) : H s.heap.objs.size = none := I.hok.fresh (Nat.le_refl _)
theorem Inv.lstM (I : Inv X pins σ H s) (hH : H l = some (.lst xs)) : xs.length ≤ sizeLine ∧ ∃ (its : List Value) (n : Nat), Vals xs its ∧ xs.length = its.length ∧ s.heap.get? l = some { cls := .type "list", data := .seq its.toArray n } := by
  obtain ⟨z, its, n, r, e⟩ := I.hok l _ hH
  exact ⟨z, its, n, r, r.length, e⟩
theorem notLongL {n : Nat} (h : n ≤ sizeLine) : Builtin.List.listTooLong n = false := by
  unfold Builtin.List.listTooLong
  exact decide_eq_false (by omega)
end
section
variable {X : Cx}
def rAppend : V → List V → Hp → VK → Prop := fun x vs H Q => ∃ l xs y, x = .ref l ∧ vs = [y] ∧ H l = some (.lst xs) ∧ xs.length < sizeLine ∧ Q .non (upd H l (.lst (xs ++ [y])))
theorem mt_append : MtM X "list.append" rAppend := by
  intro pins s σ H x vs v us Q I rx rv h
  obtain ⟨l, xs, y, rfl, rfl, hH, hz, q⟩ := h
  cases rx
  obtain ⟨u, rfl, ru⟩ := rv.one
  obtain ⟨z, its, n, r, hl, e⟩ := I.lstM hH
  refine call_meets F.slot_list_append ⟨_, e, rfl⟩ F.entry_list_append (F.args_list_append_2 _ _) (PySem.list_append l its.toArray n u (by rw [List.size_toArray]; omega)) ⟨e, ?_⟩
  refine ⟨.non, _, I.lset (its' := its ++ [u]) hH e (by simp) (r.append (.cons ru .nil)) ?_, rfl, q⟩
  rw [List.length_append, List.length_singleton]
  omega
def rExtend : V → List V → Hp → VK → Prop := fun x vs H Q => ∃ l b xs zs, x = .ref l ∧ vs = [.ref b] ∧ H l = some (.lst xs) ∧ H b = some (.lst zs) ∧ xs.length + zs.length ≤ sizeLine ∧ Q .non (upd H l (.lst (xs ++ zs)))
theorem mt_extend : MtM X "list.extend" rExtend := by
  intro pins s σ H x vs v us Q I rx rv h
  obtain ⟨l, b, xs, zs, rfl, rfl, hH, hB, hz, q⟩ := h
  cases rx
  obtain ⟨u, rfl, ru⟩ := rv.one
  cases ru
  obtain ⟨z, its, n, r, hl, e⟩ := I.lstM hH
  obtain ⟨z2, its2, n2, r2, hl2, e2⟩ := I.lstM hB
  have hsz : its.toArray.size + its2.toArray.size ≤ sizeLine := by rw [List.size_toArray, List.size_toArray]; omega
  have hlong : ¬ (!its.toArray.isEmpty && Builtin.List.listTooLong (its.toArray.size + its2.toArray.size)) = true := by
    rw [notLongL hsz, Bool.and_false]
    exact Bool.false_ne_true
  refine call_meets F.slot_list_extend ⟨_, e, rfl⟩ F.entry_list_extend (F.args_list_extend_2 _ _)
    (AutoSeq1.list_extend_list_list_0 l its.toArray n b its2.toArray n2 hlong (by rw [List.size_toArray]; omega) (by omega)) ⟨e, e2, ?_⟩
  refine ⟨.non, _, I.lset (its' := its ++ its2) hH e (by simp) (r.append r2) ?_, rfl, q⟩
  rw [List.length_append]
  omega
def rClear : V → List V → Hp → VK → Prop := fun x vs H Q => ∃ l xs, x = .ref l ∧ vs = [] ∧ H l = some (.lst xs) ∧ Q .non (upd H l (.lst []))
theorem mt_clear : MtM X "list.clear" rClear := by
  intro pins s σ H x vs v us Q I rx rv h
  obtain ⟨l, xs, rfl, rfl, hH, q⟩ := h
  cases rx
  have hus := rv.zero
  subst hus
  obtain ⟨z, its, n, r, hl, e⟩ := I.lstM hH
  refine call_meets F.slot_list_clear ⟨_, e, rfl⟩ F.entry_list_clear (F.args_list_clear_1 _) (AutoSeq1.list_clear_list_0 l its.toArray n (by rw [List.size_toArray]; omega)) ⟨e, ?_⟩
  exact ⟨.non, _, I.lset (its' := []) (ys := []) hH e rfl .nil (Nat.zero_le _), rfl, q⟩
def rCat : R2 := fun x y H Q => ∃ l b xs zs, x = .ref l ∧ y = .ref b ∧ H l = some (.lst xs) ∧ H b = some (.lst zs) ∧ xs.length + zs.length ≤ sizeLine ∧ ∀ p, H p = none → Q (.ref p) (upd H p (.lst (xs ++ zs)))
theorem op_cat : OpR X (binaryOp .Add) rCat := by
  intro pins s σ H x y v u Q I rx ry h
  obtain ⟨l, b, xs, zs, rfl, rfl, hH, hB, hz, q⟩ := h
  cases rx
  cases ry
  obtain ⟨z, its, n, r, hl, e⟩ := I.lstM hH
  obtain ⟨z2, its2, n2, r2, hl2, e2⟩ := I.lstM hB
  refine PySem.P.add_list e e2 ?_ (by rw [List.size_toArray, List.size_toArray]; omega)
  have ea : its.toArray ++ its2.toArray = (its ++ its2).toArray := by simp
  rw [ea]
  exact ⟨.ref _, _, I.lnew (t' := s.toks) (r.append r2) (by rw [List.length_append]; omega), rfl, q _ I.fresh⟩
def rRep : R2 := fun x y H Q => ∃ l k xs, x = .ref l ∧ y = .int k ∧ H l = some (.lst xs) ∧ -(2 ^ 63) ≤ k ∧ k < 2 ^ 63 ∧ xs.length * k.toNat ≤ sizeLine ∧
  ∀ p, H p = none → Q (.ref p) (upd H p (.lst (List.replicate k.toNat xs).flatten))
theorem len_rep {α : Type} (xs : List α) (k : Nat) : (List.replicate k xs).flatten.length = k * xs.length := by
  induction k with
  | zero => simp
  | succ k ih => rw [List.replicate_succ, List.flatten_cons, List.length_append, ih, Nat.succ_mul, Nat.add_comm]
theorem op_rep : OpR X (binaryOp .Mult) rRep := by
  intro pins s σ H x y v u Q I rx ry h
  obtain ⟨l, k, xs, rfl, rfl, hH, h1, h2, hz, q⟩ := h
  cases rx
  obtain ⟨t, rfl⟩ := ry
  obtain ⟨z, its, n, r, hl, e⟩ := I.lstM hH
  have hlen : its.toArray.size * k.toNat ≤ sizeLine := by rw [List.size_toArray, ← hl]; exact hz
  have hcap : ¬ its.toArray.size * k.toNat > (2 ^ 63 - 1) / 8 := by
    have : (sizeLine : Nat) ≤ (2 ^ 63 - 1) / 8 := by decide
    omega
  have hfit : ¬ (!Builtin.List.listFitsIndex k) = true := by
    rw [fitsIndex_both h1 h2]
    exact Bool.false_ne_true
  have hlong : ¬ Builtin.List.listTooLong (its.toArray.size * k.toNat) = true := by
    rw [notLongL hlen]
    exact Bool.false_ne_true
  have hnew : List.foldl (fun x1 x2 => x1 ++ x2) #[] (List.replicate (if its.toArray.isEmpty = true then 0 else k.toNat) its.toArray) = (List.replicate k.toNat its).flatten.toArray := by
    have f0 : ∀ m : Nat, List.foldl (fun x1 x2 => x1 ++ x2) #[] (List.replicate m its.toArray) = (List.replicate m its).flatten.toArray := fun m => by
      have := foldl_rep its m []
      rw [List.nil_append] at this
      exact this
    rw [f0]
    cases its with
    | nil => simp
    | cons a r' => rw [if_neg (by simp)]
  refine wpAny_binaryOp_repeat_ref (T := "list") (U := "int") (by decide) ⟨_, e, rfl⟩ (fun s' => typeIs_int s' k t) noFill_list_mul F.fills_int_mul F.slot_int_rmul repeat_list F.slot_int_index.lookup
    (call_meets F.slot_int_rmul (typeIs_int s k t) F.entry_int_rmul (F.args_int_rmul_2 _ _) (int___rmul___int_list k t l its.toArray n)
      ⟨e, rfl, ⟨_, e, rfl⟩, call_meets F.slot_list_mul ⟨_, e, rfl⟩ F.entry_list_mul (F.args_list_mul_2 _ _) (AutoListH.list___mul___list_int_3 l its.toArray n k t hfit hcap hlong) ⟨e, ?_⟩⟩)
  rw [hnew]
  exact ⟨.ref _, _, I.lnew (t' := s.toks) (r.rep k.toNat) (by rw [len_rep, Nat.mul_comm]; exact hz), rfl, q _ I.fresh⟩
end
section
variable {prog : Program} {w : World} {A : Around} {E : Value → Shared → Prop} {s : Shared}
end
section
variable {X : Cx}
end
end L2
namespace Att
open PySem PySem.W PySem.Calls PyProof.Rows
theorem ints_of_wellAll {P : Params} {h : Heap} : ∀ (ns : List Int) (vs : List Value), WellAll P h vs (ns.map WData.int) → IntsAre vs ns := by
  intro ns
  induction ns with
  | nil =>
    intro vs w
    rw [List.map_nil] at w
    cases w
    exact .nil
  | cons n ns ih =>
    intro vs w
    rw [List.map_cons] at w
    cases w with
    | cons a b =>
      cases a
      exact .cons _ _ (ih _ b)
theorem script_of {l : OpenLaw} {n : Nat} (hn : l.most = some n) {P : Params} {h : Heap} {args : List WData} {vals : List Value}
    (hpre : l.row.toRowW.claim.pre args = true) (hwl : WellAll P h vals args) :
    ∃ a vs ns, vals = [Value.ref a] ∧ args = [WData.list (ns.map WData.int)] ∧ h.get? a = some { cls := .type "list", data := .seq vs.toArray } ∧ IntsAre vs ns ∧ ns.length ≤ n := by
  have hsh : WShape.hasAll [] args [.list .int] = true := (pre_splitW hpre).1
  have hc : l.pre.holds [] { args := args } = true := (pre_splitW hpre).2
  obtain ⟨d, r, rfl, h1, h2⟩ := hasAllW_cons hsh
  obtain rfl := hasAllW_nil h2
  obtain ⟨xs, rfl, h3⟩ := hasW_list h1
  obtain ⟨ns, rfl⟩ := items_int h3
  have hlen : ns.length ≤ n := by
    unfold OpenLaw.pre at hc
    have h4 : (WTm.not (.lt (.lit (.int (n : Int))) (.len (.arg 0)))).holds [] { args := [.list (ns.map .int)] } = true := by
      have h4 := (holds_andW hc).1
      rw [hn] at h4
      exact h4
    have h5 := condW_of h4 (w_not (w_lt w_lit (w_len_list (w_arg rfl))))
    rw [List.length_map] at h5
    refine Nat.le_of_not_lt fun q => ?_
    have q' : (n : Int) < ((ns.length : Nat) : Int) := by omega
    first
      | (rw [decide_eq_true q'] at h5; exact absurd h5 (by decide))
      | (simp at h5; omega)
  cases hwl with
  | cons w1 w2 =>
    cases w2
    cases w1 with
    | list ho hall => exact ⟨_, _, ns, rfl, rfl, ho, ints_of_wellAll ns _ hall, hlen⟩
theorem post_true (l : OpenLaw) (args : List WData) : l.row.toRowW.claim.post args (.bool true) args = true :=
  postW_of (r := l.row.toRowW) (X := (true == true))
    (show WShape.has [] (.bool true) .bool = true by first | rfl | decide | simp [WShape.has, WShape.arms, WShape.armsAll])
    (show (WTm.eq .res (.lit (.bool true))).value [] { args := args, res := some (.bool true), after := args } = some (.bool (true == true)) from w_eq_bool (w_res rfl) w_lit) rfl
theorem attach_call {l : OpenLaw} {n : Nat} {q : Program} {loose : List Str} {XP : (Str → Option Value) → Heap → Prop} {YP : World → Heap → Prop} {d : DefRec}
    (hn : l.most = some n) (hdf : d.params.defaults = [])
    (call : ∀ (w : World) (s₀ s₁ : Shared) (mg mb : Str → Option Value) (fa : Addr) (o : Obj) (pm cd doc : Value) (a : Addr) (vs : List Value) (ns : List Int),
      Ground q loose [] XP w s₀ mg mb s₁.heap → YP w s₁.heap →
      s₁.heap.get? fa = some o → o.data = .func (docDef d.name d.params d.body d.scope pm cd doc) → s₁.heap.CodeRec cd d.name → mg d.name = some (.ref fa) →
      s₁.heap.get? a = some { cls := .type "list", data := .seq vs.toArray } → IntsAre vs ns → ns.length ≤ n → s₁.gens = #[] →
      codeAny (model l.prog w) callerA (.call (.ref fa) ⟨[.ref a], []⟩) (fun r s' => r = .ok (.ret (.bool true)) ∧ OldK s₁.heap s'.heap ∧ s'.os = s₁.os ∧ AllBare s'.gens) s₁) :
    WalkO q loose XP YP l.row.toRowW d [] (fun f vs => PySem.call f vs) := by
  intro w s₀ s₁ mg mb G Y fa o pm cd doc dV kV ho hd hcd hD hmg hg args vals as hpre hlay hrd hwl hlo
  obtain rfl : dV = .none := Dflts.none hD hdf
  obtain rfl : kV = .none := Dflts.noKw hD
  obtain ⟨a, vs, ns, rfl, rfl, hobj, hints, hlen⟩ := script_of hn hpre hwl
  refine enter_call (codeAny_mono (call w s₀ s₁ mg mb fa o pm cd doc a vs ns G Y ho (fd_plain hd) hcd hmg hobj hints hlen hg) fun r s' hq => ?_)
  obtain ⟨rfl, h2, h3, h4⟩ := hq
  exact ⟨.inl ⟨.bool true, .bool true, [], rfl, fun _ => rfl, .bool true, post_true l _, fun _ => ⟨List.Pairwise.nil, fun _ hm => (nomatch hm)⟩⟩, h2, h3, h4⟩
section
variable {prog : Program} {w : World} {A : Around} {E : Value → Shared → Prop} {s : Shared} {K : Frag}
def ledger (h : Heap) (L d : Addr) : List (Addr × Obj) := (List.range h.objs.size).filterMap fun a => if a = L ∨ a = d then none else (h.get? a).map fun o => (a, o)
end
end Att
namespace L2
open PySem PySem.Spec PyProof.Rows
theorem vals_ints : ∀ {vs : List Value} {ns : List Int}, IntsAre vs ns → Vals (ns.map V.int) vs
  | _, _, .nil => .nil
  | _, _, .cons n t h => .cons ⟨t, rfl⟩ (vals_ints h)
def Only (H : Hp) : Prop := ∀ b, H b = none ∨ ∃ o xs, H b = some (.frz o (.lst xs))
theorem law_call {P : Program} {w : World} {K : PySem.W.Frag} {mg mb : Str → Option Value} {CX : CXT} {k : Nat} {fa a : Addr} {fd : FuncData} {x : Str} {sp : Sp} {s₁ : Shared} {vs : List Value} {ns : List Int}
    (KX : K.In s₁.heap) (hns : s₁.heap.Ns mainGlobals mg) (hb : s₁.heap.Ns builtinsNs mb) (hbb : ∀ x : Str, x ≠ "__name__" → mb x = bootBuiltins x) (hlim : s₁.heap.NoLimit) (hg : s₁.gens = #[])
    (ha : s₁.heap.get? a = some { cls := .type "list", data := .seq vs.toArray }) (hi : IntsAre vs ns) (hl : ns.length ≤ sizeLine) (hr : Room k callerA)
    (F : ∀ base : Heap, K.In base → base.Ns mainGlobals mg → FnOk P w K mg base CX k fa fd [x] sp) (hbind : ∀ (s : Shared) (u : Value), BindsTo s fd ⟨[u], []⟩ [(x, u)])
    (hsp : ∀ H : Hp, Only H → SqL K H a (ns.map V.int) → sp [.ref a] H (fun v _ => v = .bl true) fun _ _ _ => False)
    (hCX : ∀ H e s', CX [] H s₁ (fun _ _ _ => False) e s' → False) :
    codeAny (model P w) callerA (.call (.ref fa) ⟨[.ref a], []⟩) (fun r s' => r = .ok (.ret (.bool true)) ∧ OldK s₁.heap s'.heap ∧ s'.os = s₁.os ∧ AllBare s'.gens) s₁ := by
  have rv := vals_ints hi
  have lenV := hi.length
  have core : ∀ H : Hp, Only H → SqL K H a (ns.map V.int) → HOk P w H s₁.heap → (∀ b, H b ≠ none → b = a) → (H a ≠ none → K.lookup a = none) →
      codeAny (model P w) callerA (.call (.ref fa) ⟨[.ref a], []⟩) (fun r s' => r = .ok (.ret (.bool true)) ∧ OldK s₁.heap s'.heap ∧ s'.os = s₁.os ∧ AllBare s'.gens) s₁ := by
    intro H hO hS hok hA hK
    have base_of : ∀ {b : Addr} {o : Obj}, s₁.heap.get? b = some o → H b = none → (hidT s₁.heap H).get? b = some o := fun e n => hidT_get e n
    have noA : ∀ {b : Addr} {o : Obj} {es : Array DictEntry} {ep : Nat}, s₁.heap.get? b = some o → o.data = .dict es ep → H b = none := fun {b o es ep} e d => by
      cases q : H b with
      | none => rfl
      | some u =>
        have e' : b = a := hA b (by rw [q]; simp)
        subst e'
        rw [ha] at e; cases e
        have d' : Data.seq vs.toArray _ = Data.dict es ep := d
        cases d'
    have nsK : ∀ {b : Addr} {m : Str → Option Value}, s₁.heap.Ns b m → (hidT s₁.heap H).Ns b m := fun {b m} ⟨o, es, ep, e, d, r⟩ => ⟨o, es, ep, base_of e (noA e d), d, r⟩
    have hKb : K.In (hidT s₁.heap H) := fun b o e => base_of (KX b o e) (by
      cases q : H b with
      | none => rfl
      | some u =>
        have e' : b = a := hA b (by rw [q]; simp)
        subst e'
        rw [hK (by rw [q]; simp)] at e; cases e)
    have hM : Mod K mg (hidT s₁.heap H) := ⟨hKb, nsK hns, ⟨mb, nsK hb, hbb⟩, let ⟨mc, h1, h2⟩ := hlim; ⟨mc, nsK h1, h2⟩⟩
    have e0 : Env0 P w K mg (hidT s₁.heap H) callerA [] s₁ H := ⟨rfl, hM, fun b o e => of_hidT e, Nat.le_of_eq (hidT_size _ _), trivial, fun b hb => absurd (show b ∈ ([] : List Addr) from hb) (by simp), hok, .of_eq hg⟩
    refine codeAny_mono ((F _ hKb (nsK hns)).run callerA [] s₁ H ⟨[.ref a], []⟩ [.ref a] [.ref a] _ _ hr e0 (hbind s₁ (.ref a)) (.cons rfl .nil) (hsp H hO hS)) fun r s' h => ?_
    cases r with
    | error e => exact (hCX H e s' h).elim
    | ok fl =>
      cases fl with
      | next => exact False.elim h
      | brk => exact False.elim h
      | cont => exact False.elim h
      | ret u =>
        obtain ⟨v, H', os, bare, un, hok', r', q⟩ := h
        have q' : v = .bl true := q
        subst q'
        obtain rfl : u = Value.bool true := r'
        refine ⟨rfl, OldK.of_keep fun b o e => ?_, os, bare⟩
        cases q : H b with
        | none => exact un.keep b o e q (by intro z; exact absurd (show b ∈ ([] : List Addr) from z) (by simp)) (by simp)
        | some u =>
          rcases hO b with z | ⟨ob, xs, z⟩
          · rw [q] at z; cases z
          · have z2 := un.frzs b ob _ z
            obtain ⟨e1, _⟩ := hok b _ z
            obtain ⟨e2, _⟩ := hok' b _ z2
            rw [e] at e1; cases e1
            exact e2
  cases hk : K.lookup a with
  | some o =>
    have e := KX a o hk
    rw [ha] at e
    cases e
    refine core (fun _ => none) (fun _ => .inl rfl) (.inr ⟨_, vs.toArray, _, hk, rfl, rfl, rfl, by rw [List.size_toArray, lenV]; exact hl, by simpa using rv⟩) (fun b u z => by have z' : (none : Option HO) = some u := z; cases z') (fun b z => absurd rfl z) fun z => absurd rfl z
  | none =>
    refine core (fun b => if b = a then some (.frz { cls := .type "list", data := .seq vs.toArray } (.lst (ns.map V.int))) else none) (fun b => ?_) (.inl (.inr ⟨{ cls := .type "list", data := .seq vs.toArray }, if_pos rfl⟩)) (fun b u z => ?_) (fun b z => ?_) fun _ => hk
    · by_cases hb : b = a
      · exact .inr ⟨_, _, if_pos hb⟩
      · exact .inl (if_neg hb)
    · by_cases hb : b = a
      · have z' := (if_pos hb).symm.trans z
        cases z'
        subst hb
        exact ⟨ha, by rw [List.length_map]; exact hl, vs, _, rv, ha⟩
      · have z' := (if_neg hb).symm.trans z
        cases z'
    · by_cases hb : b = a
      · exact hb
      · exact absurd (if_neg hb) z
end L2
namespace L2
open PySem PySem.Spec PyProof.Rows
abbrev KOf {K : PySem.W.Frag} {h : Heap} (_ : K.In h) : PySem.W.Frag := K
theorem walk_of {l : PySem.W.OpenLaw} {n k : Nat} {q : Program} {loose : List Str} {XP : (Str → Option Value) → Heap → Prop} {YP : World → Heap → Prop} {d : DefRec} {K : Params → PySem.W.Frag} {CX : World → CXT} {sp : World → Sp} {x : Str}
    (hn : l.most = some n) (hn2 : n ≤ sizeLine) (hdf : d.params.defaults = []) (hr : Room k callerA)
    (hY : ∀ (w : World) (h : Heap), YP w h → (K w.params).In h)
    (F : ∀ (w : World) (mg : Str → Option Value) (fa : Addr) (h : Heap), (K w.params).In h → h.Ns mainGlobals mg → mg d.name = some (.ref fa) →
      ∃ fd : FuncData, (∀ (s : Shared) (u : Value), BindsTo s fd ⟨[u], []⟩ [(x, u)]) ∧
        ∀ base : Heap, (K w.params).In base → base.Ns mainGlobals mg → FnOk l.prog w (K w.params) mg base (CX w) k fa fd [x] (sp w))
    (hsp : ∀ (w : World) (H : Hp) (a : Addr) (ns : List Int), ns.length ≤ n → Only H → SqL (K w.params) H a (ns.map V.int) → sp w [.ref a] H (fun v _ => v = .bl true) fun _ _ _ => False)
    (hCX : ∀ (w : World) (H : Hp) (s : Shared) (e : Value) (s' : Shared), CX w [] H s (fun _ _ _ => False) e s' → False) :
    PySem.W.WalkO q loose XP YP l.row.toRowW d [] (fun f vs => PySem.call f vs) := by
  refine Att.attach_call hn hdf fun w s₀ s₁ mg mb fa o pm cd doc a vs ns G Y ho hd hcd hmg hobj hints hlen hg => ?_
  have KX := hY w _ Y
  obtain ⟨fd, hb, hF⟩ := F w mg fa _ KX G.T.g hmg
  exact law_call KX G.T.g G.T.b G.T.builtins G.T.nolimit hg hobj hints (Nat.le_trans hlen hn2) hr hF hb (fun H hO hS => hsp w H a ns hlen hO hS) fun H e s' => hCX w H s₁ e s'
theorem walk_ofK {l : PySem.W.OpenLaw} {n k : Nat} {q : Program} {loose : List Str} {XP : (Str → Option Value) → Heap → Prop} {YP : World → Heap → Prop} {d : DefRec} {K : Params → PySem.W.Frag} {CX : CXT} {sp : PySem.W.Frag → Sp} {x : Str}
    (hn : l.most = some n) (hn2 : n ≤ sizeLine) (hdf : d.params.defaults = []) (hr : Room k callerA)
    (hY : ∀ (w : World) (h : Heap), YP w h → (K w.params).In h)
    (F : ∀ (w : World) (mg : Str → Option Value) (fa : Addr) (h : Heap), (K w.params).In h → h.Ns mainGlobals mg → mg d.name = some (.ref fa) →
      ∃ fd : FuncData, (∀ (s : Shared) (u : Value), BindsTo s fd ⟨[u], []⟩ [(x, u)]) ∧
        ∀ base : Heap, (K w.params).In base → base.Ns mainGlobals mg → FnOk l.prog w (K w.params) mg base CX k fa fd [x] (sp (K w.params)))
    (hsp : ∀ (K : PySem.W.Frag) (H : Hp) (a : Addr) (ns : List Int), ns.length ≤ n → Only H → SqL K H a (ns.map V.int) → sp K [.ref a] H (fun v _ => v = .bl true) fun _ _ _ => False)
    (hCX : ∀ (H : Hp) (s : Shared) (e : Value) (s' : Shared), CX [] H s (fun _ _ _ => False) e s' → False) :
    PySem.W.WalkO q loose XP YP l.row.toRowW d [] (fun f vs => PySem.call f vs) :=
  walk_of (K := K) (CX := fun _ => CX) (sp := fun w => sp (K w.params)) hn hn2 hdf hr hY F (fun w H a ns h1 h2 h3 => hsp (K w.params) H a ns h1 h2 h3) fun _ H s e s' => hCX H s e s'
end L2
namespace L2
open PySem PySem.Spec PyProof.Rows
def inClass (s : Stmt) (j : Nat) : Stmt := match s with
  | .ClassDef _ _ _ body _ _ _ _ _ _ _ => body.getD j (.Pass ⟨0, 0, 0, 0⟩)
  | _ => .Pass ⟨0, 0, 0, 0⟩
def defArgs (s : Stmt) : Arguments := match s with
  | .FunctionDef _ a _ _ _ _ _ _ _ _ => a
  | _ => { posonlyargs := [], args := [], vararg := none, kwonlyargs := [], kw_defaults := [], kwarg := none, defaults := [] }
def defBody (s : Stmt) : List Stmt := match s with
  | .FunctionDef _ _ b _ _ _ _ _ _ _ => b
  | _ => []
def defScope (s : Stmt) : Scope := match s with
  | .FunctionDef _ _ _ _ _ _ sc _ _ _ => sc
  | _ => { kind := .function, names := [], isGenerator := false, isCoroutine := false }
abbrev CX0 : CXT := fun _ _ _ _ _ _ => False
abbrev E0 : XK := fun _ _ _ => False
theorem pass0 {X : Cx} : Passes CX0 X E0 := fun _ _ _ _ _ _ _ h => h.elim
structure Fun (K : PySem.W.Frag) (x qual : Str) (st : Stmt) (f : Addr) (fd : FuncData) : Prop where
  ex : ∃ (oc : Value) (od : Option Addr) (kV doc pm : Value) (an : Option Addr) (cdv ct : Value) (osl : Array (Option Value)),
    fd = PySem.W.fnOf x qual (defArgs st) (defBody st) (defScope st) .none kV doc pm an cdv ct ∧ K.lookup f = some ⟨oc, od, .func fd, osl⟩ ∧ PySem.W.codeIn K cdv qual = true
  kp : PySem.W.keepIn K (.ref f) = true
section
variable {P : Program} {w : World} {K : PySem.W.Frag} {mg : Str → Option Value} {base : Heap}
theorem Fun.ok {x qual : Str} {st : Stmt} {f : Addr} {fd : FuncData} {N ps : List Str} {k : Nat} {sp : Sp} (F : Fun K x qual st f fd) (S : FnScope N ps (defScope st)) (len : ∀ vs H Q E, sp vs H Q E → vs.length = ps.length)
    (hbody : ∀ (cdv : Value) (A : Around) (outer : List Env) (s : Shared) (H : Hp) (vs : List V) (Q : VK) (E : XK), Room k (A.deeper (envOfC qual (defScope st) s.heap.objs.size f cdv)) → sp vs H Q E →
      ∃ t, PSs (cxOf CX0 P w K mg base N qual (defScope st) f cdv A outer s H E).nox (defBody st) t ∧ t { nx := fun _ H' => Q .non H', rt := Q } (start N vs) H) : FnOk P w K mg base CX0 (k + 1) f fd ps sp := by
  obtain ⟨oc, od, kV, doc, pm, an, cdv, ct, osl, rfl, lk, hcd⟩ := F.ex
  refine fn_of lk hcd S len fun A outer s H vs Q E hr hsp => ?_
  obtain ⟨t, h, q⟩ := hbody cdv A outer s H vs Q E hr hsp
  exact ⟨t, h.nox, q⟩
theorem Fun.binds {x qual : Str} {st : Stmt} {f : Addr} {fd : FuncData} {ps : List Str} (F : Fun K x qual st f fd)
    (h : ∀ (kV doc pm : Value) (an : Option Addr) (cdv ct : Value) (us : List Value), us.length = ps.length → bindArgs (PySem.W.fnOf x qual (defArgs st) (defBody st) (defScope st) .none kV doc pm an cdv ct) ⟨us, []⟩ = pure (ps.zip us)) : Binds K fd ps [] := by
  obtain ⟨oc, od, kV, doc, pm, an, cdv, ct, osl, rfl, lk, hcd⟩ := F.ex
  exact .all (h kV doc pm an cdv ct)
theorem fun_mk {x qual : Str} {st : Stmt} {f : Addr} {oc : Value} {od an : Option Addr} {osl : Array (Option Value)} {kV doc pm cdv ct : Value} (l : K.lookup f = some ⟨oc, od, .func (PySem.W.fnOf x qual (defArgs st) (defBody st) (defScope st) .none kV doc pm an cdv ct), osl⟩)
    (c : PySem.W.codeIn K cdv qual = true) (k : PySem.W.keepIn K (.ref f) = true) : Fun K x qual st f (PySem.W.fnOf x qual (defArgs st) (defBody st) (defScope st) .none kV doc pm an cdv ct) := ⟨⟨oc, od, kV, doc, pm, an, cdv, ct, osl, rfl, l, c⟩, k⟩
end
section
variable {X : Cx}
theorem pv (i : Nat) {x : Str} {pos : Pos} (hN : X.N[i]? = some x := by rfl) (hv : Vis X.env.scope x := by first | exact Or.inl rfl | exact Or.inr (Or.inl rfl) | exact Or.inr (Or.inr rfl)) (hd : (x == ("__debug__" : Str)) = false := by decide)
    (hcd : (x == ("__classdict__" : Str)) = false := by decide) : PE X (.Name x pos) (tVar i) := pe_var hN hv hd hcd
end
theorem iteF {A B : Prop} (h : B) : if false = true then A else B := by
  rw [if_neg Bool.false_ne_true]
  exact h
theorem iteT {A B : Prop} (h : A) : if true = true then A else B := by
  rw [if_pos rfl]
  exact h
theorem ite2 {c A B : Prop} [Decidable c] (h1 : c → A) (h2 : ¬ c → B) : if c then A else B := by
  by_cases h : c
  · rw [if_pos h]
    exact h1 h
  · rw [if_neg h]
    exact h2 h
def Same (H H' : Hp) : Prop := ∀ b o, H b = some o → H' b = some o
theorem Same.refl (H : Hp) : Same H H := fun _ _ h => h
theorem Same.trans {H H1 H2 : Hp} (a : Same H H1) (b : Same H1 H2) : Same H H2 := fun c o h => b c o (a c o h)
theorem Same.free {H H' : Hp} (e : Same H H') {l : Addr} (h : H' l = Option.none) : H l = Option.none := by
  cases q : H l with
  | none => rfl
  | some o =>
    rw [e l o q] at h
    cases h
theorem Same.seq {K : PySem.W.Frag} {H H' : Hp} {a : Addr} {xs : List V} (e : Same H H') (h : SqL K H a xs) : SqL K H' a xs := by
  rcases h with (h | ⟨o, h⟩) | h
  · exact .inl (.inl (e _ _ h))
  · exact .inl (.inr ⟨o, e _ _ h⟩)
  · exact .inr h
end L2
namespace L2
open PySem PySem.Spec PyProof.Rows
section
variable {κ : Type} [DecidableEq κ]
def valV (kvs : List (κ × V)) (k : κ) : Option V := (kvs.find? fun kv => decide (kv.1 = k)).map (·.2)
def putK (kvs : List (κ × V)) (k : κ) (v : V) : List (κ × V) :=
  if (kvs.any fun kv => decide (kv.1 = k)) = true then kvs.map (fun kv => if kv.1 = k then (kv.1, v) else kv) else kvs ++ [(k, v)]
theorem valV_pos {p : κ × V} {r : List (κ × V)} {k : κ} (e : p.1 = k) : valV (p :: r) k = some p.2 := by simp [valV, List.find?_cons, e]
theorem valV_neg {p : κ × V} {r : List (κ × V)} {k : κ} (e : ¬ p.1 = k) : valV (p :: r) k = valV r k := by simp [valV, List.find?_cons, e]
theorem valV_any (k : κ) : ∀ kvs : List (κ × V), (kvs.any fun kv => decide (kv.1 = k)) = (valV kvs k).isSome
  | [] => rfl
  | p :: r => by
    rw [List.any_cons]
    by_cases e : p.1 = k
    · simp only [valV_pos e, decide_eq_true e, Bool.true_or, Option.isSome_some]
    · rw [valV_neg e, decide_eq_false e, Bool.false_or]; exact valV_any k r
theorem length_putK (kvs : List (κ × V)) (k : κ) (v : V) : (putK kvs k v).length ≤ kvs.length + 1 := by
  unfold putK
  split
  · rw [List.length_map]; omega
  · rw [List.length_append, List.length_cons, List.length_nil]; omega
theorem RelO.isSome_eq {o : Option V} {u : Option Value} (r : RelO o u) : o.isSome = u.isSome := by
  cases o with
  | none => cases u with
    | none => rfl
    | some _ => exact (show False from r).elim
  | some _ => cases u with
    | none => exact (show False from r).elim
    | some _ => rfl
theorem KV.val {kvs : List (κ × V)} {vs : List (κ × Value)} (r : KV kvs vs) (k : κ) : RelO (valV kvs k) (valueAt vs k) := by
  unfold KV at r
  induction r with
  | nil => exact True.intro
  | @cons p q ps qs h t ih =>
    obtain ⟨h1, h2⟩ := h
    by_cases e : p.1 = k
    · have e' : q.1 = k := h1.symm.trans e
      have b : valueAt (q :: qs) k = some q.2 := by simp [valueAt, List.find?_cons, e']
      rw [valV_pos e, b]; exact h2
    · have e' : ¬ q.1 = k := fun z => e (h1.trans z)
      have b : valueAt (q :: qs) k = valueAt qs k := by simp [valueAt, List.find?_cons, e']
      rw [valV_neg e, b]; exact ih
theorem KV.any {kvs : List (κ × V)} {vs : List (κ × Value)} (r : KV kvs vs) (k : κ) : (kvs.any fun kv => decide (kv.1 = k)) = vs.any fun kv => decide (kv.1 = k) := by
  unfold KV at r
  induction r with
  | nil => rfl
  | cons h t ih => rw [List.any_cons, List.any_cons, ih, h.1]
theorem KV.repl {kvs : List (κ × V)} {vs : List (κ × Value)} (r : KV kvs vs) (k : κ) {y : V} {u : Value} (ry : RelV y u) :
    KV (kvs.map fun kv => if kv.1 = k then (kv.1, y) else kv) (vs.map fun kv => if kv.1 = k then (kv.1, u) else kv) := by
  unfold KV at r ⊢
  induction r with
  | nil => exact .nil
  | @cons p q ps qs h t ih =>
    rw [List.map_cons, List.map_cons]
    refine .cons ?_ ih
    obtain ⟨h1, h2⟩ := h
    by_cases e : p.1 = k
    · rw [if_pos e, if_pos (h1.symm.trans e)]; exact ⟨h1, ry⟩
    · rw [if_neg e, if_neg (fun z => e (h1.trans z))]; exact ⟨h1, h2⟩
theorem KV.put {kvs : List (κ × V)} {vs : List (κ × Value)} (r : KV kvs vs) (k : κ) {y : V} {u : Value} (ry : RelV y u) : KV (putK kvs k y) (stored vs k u) := by
  unfold putK stored
  rw [r.any k]
  by_cases e : (vs.any fun kv => decide (kv.1 = k)) = true
  · rw [if_pos e, if_pos e]; exact r.repl k ry
  · rw [if_neg e, if_neg e]; exact Paired.snoc r ⟨rfl, ry⟩
theorem KV.length {kvs : List (κ × V)} {vs : List (κ × Value)} (r : KV kvs vs) : kvs.length = vs.length := Paired.length r
end
theorem kV_is {P : Program} {w : World} {k : Key} {u : Value} (r : RelV (kV k) u) : (mixKind P w).is k u = true := by
  cases k with
  | inl i => obtain ⟨t, e⟩ := (show ∃ t, u = Value.int i t from r); subst e; exact mixKind_int P w i t
  | inr x => obtain ⟨t, e⟩ := (show ∃ t, u = Value.str x t from r); subst e; exact mixKind_str P w x t
theorem items_are {P : Program} {w : World} : ∀ {ks : List Key} {us : List Value}, Vals (ks.map kV) us → ItemsAre (mixKind P w) ks us
  | [], _, r => by rw [List.map_nil] at r; cases r; exact .nil
  | k :: ks, _, r => by
    rw [List.map_cons] at r
    cases r with
    | cons h t => exact .cons (kV_is h) (items_are t)
abbrev KT (H : Hp) : List (List Key × V) → List (List Key × Addr × Value) → Prop := Paired fun p q => p.1 = q.1 ∧ H q.2.1 = some (.tup (p.1.map kV)) ∧ RelV p.2 q.2.2
theorem KT.val {H : Hp} {kvs : List (List Key × V)} {xs : List (List Key × Addr × Value)} (r : KT H kvs xs) (k : List Key) : RelO (valV kvs k) ((atKey xs k).map (·.2)) := by
  induction r with
  | nil => exact True.intro
  | @cons p q ps qs h t ih =>
    obtain ⟨h1, _, h2⟩ := h
    by_cases e : p.1 = k
    · have e' : q.1 = k := h1.symm.trans e
      have b : atKey (q :: qs) k = some q.2 := by simp [atKey, List.find?_cons, e']
      rw [valV_pos e, b]; exact h2
    · have e' : ¬ q.1 = k := fun z => e (h1.trans z)
      have b : atKey (q :: qs) k = atKey qs k := by simp [atKey, List.find?_cons, e']
      rw [valV_neg e, b]; exact ih
theorem KT.repl {H : Hp} {kvs : List (List Key × V)} {xs : List (List Key × Addr × Value)} (r : KT H kvs xs) (k : List Key) {y : V} {u : Value} (ry : RelV y u) :
    KT H (kvs.map fun kv => if kv.1 = k then (kv.1, y) else kv) (xs.map (putAt k u)) := by
  induction r with
  | nil => exact .nil
  | @cons p q ps qs h t ih =>
    rw [List.map_cons, List.map_cons]
    refine .cons ?_ ih
    obtain ⟨h1, h2, h3⟩ := h
    unfold putAt
    by_cases e : p.1 = k
    · rw [if_pos e, if_pos (h1.symm.trans e)]; exact ⟨h1, h2, ry⟩
    · rw [if_neg e, if_neg (fun z => e (h1.trans z))]; exact ⟨h1, h2, h3⟩
theorem KT.put {H : Hp} {kvs : List (List Key × V)} {xs : List (List Key × Addr × Value)} (r : KT H kvs xs) (k : List Key) {b : Addr} {y : V} {u : Value} (hb : H b = some (.tup (k.map kV))) (ry : RelV y u) :
    KT H (putK kvs k y) (storedH xs k b u) := by
  have e : (kvs.any fun kv => decide (kv.1 = k)) = (atKey xs k).isSome := by
    rw [valV_any, (r.val k).isSome_eq, Option.isSome_map]
  unfold putK storedH
  rw [e]
  by_cases q : (atKey xs k).isSome = true
  · rw [if_pos q, if_pos q]; exact r.repl k ry
  · rw [if_neg q, if_neg q]; exact Paired.snoc r ⟨rfl, hb, ry⟩
theorem KT.keeps {H H' : Hp} {kvs : List (List Key × V)} {xs : List (List Key × Addr × Value)} (r : KT H kvs xs) (ht : ∀ b ys, H b = some (.tup ys) → H' b = some (.tup ys)) : KT H' kvs xs :=
  Paired.mapP r fun _ _ z => ⟨z.1, ht _ _ z.2.1, z.2.2⟩
section
variable {P : Program} {w : World} {H : Hp} {h : Heap} {a : Addr}
theorem rd_of {u : HO} (ok : HOk P w H h) (e : Rd H a u) : ObjOk P w H h a u := e.ok ok
theorem dk_rd {kvs : List (Key × V)} (ok : HOk P w H h) (e : Rd H a (.dK kvs)) : kvs.length ≤ sizeLine ∧ (a == sysModules) = false ∧ ∃ vs, KV kvs vs ∧ h.DictOf (mixKind P w) a vs :=
  show ObjOk P w H h a (.dK kvs) from rd_of ok e
theorem dk_of {kvs : List (Key × V)} (ok : HOk P w H h) (e : H a = some (.dK kvs)) : kvs.length ≤ sizeLine ∧ (a == sysModules) = false ∧ ∃ vs, KV kvs vs ∧ h.DictOf (mixKind P w) a vs := dk_rd ok (.inl e)
theorem key_of {ks : List Key} (ok : HOk P w H h) (e : H a = some (.tup (ks.map kV))) : (tupleKind (mixKind P w)).is h ks a := by
  obtain ⟨_, its, r, o, h1, h2, n, h3⟩ := (show ObjOk P w H h a (.tup (ks.map kV)) from ok a _ e)
  exact ⟨o, its.toArray, n, h1, h2, h3, by simpa using items_are r⟩
theorem dt_rd {kvs : List (List Key × V)} (ok : HOk P w H h) (e : Rd H a (.dT kvs)) : kvs.length ≤ sizeLine ∧ (a == sysModules) = false ∧
    ∃ xs, KT H kvs xs ∧ h.DictOfH (tupleKind (mixKind P w)) a xs := by
  obtain ⟨z, y, xs, r, o, es, ep, h1, h2, h3, h4, h5⟩ := (show ObjOk P w H h a (.dT kvs) from rd_of ok e)
  refine ⟨z, y, xs, r, o, es, ep, h1, h2, h3, h4, fun x hx => ?_, h5⟩
  have all : ∀ {l : List (List Key × V)} {m : List (List Key × Addr × Value)}, KT H l m → ∀ x ∈ m, (tupleKind (mixKind P w)).is h x.1 x.2.1 := by
    intro l m q
    induction q with
    | nil => intro x hx; exact nomatch hx
    | @cons p q ps qs hq t ih =>
      intro x hx
      rcases List.mem_cons.mp hx with e | hx
      · subst e
        exact key_of ok (by rw [← hq.1]; exact hq.2.1)
      · exact ih x hx
  exact all r x hx
theorem dt_of {kvs : List (List Key × V)} (ok : HOk P w H h) (e : H a = some (.dT kvs)) : kvs.length ≤ sizeLine ∧ (a == sysModules) = false ∧
    ∃ xs, KT H kvs xs ∧ h.DictOfH (tupleKind (mixKind P w)) a xs := dt_rd ok (.inl e)
end
def DGet (H : Hp) (a : Addr) (y : V) (r : Option V) : Prop :=
  (∃ kvs k, Rd H a (.dK kvs) ∧ y = kV k ∧ r = valV kvs k) ∨ ∃ kvs k b, Rd H a (.dT kvs) ∧ y = .ref b ∧ H b = some (.tup (k.map kV)) ∧ r = valV kvs k
def DPut (H : Hp) (a : Addr) (y v : V) (H' : Hp) : Prop :=
  (∃ kvs k, H a = some (.dK kvs) ∧ y = kV k ∧ kvs.length < sizeLine ∧ H' = upd H a (.dK (putK kvs k v))) ∨
  ∃ kvs k b, H a = some (.dT kvs) ∧ y = .ref b ∧ H b = some (.tup (k.map kV)) ∧ kvs.length < sizeLine ∧ H' = upd H a (.dT (putK kvs k v))
section
variable {X : Cx} {pins : List (Addr × Obj)} {σ : St} {H : Hp} {s : Shared} {a : Addr} {y v : V} {u r : Value} {o : Option V} {A : Around} {E : Value → Shared → Prop}
theorem Inv.big (I : Inv X pins σ H s) : sysModules < s.heap.objs.size := by
  have h : mainGlobals < s.heap.objs.size := (I.mod.glob.keeps I.bk).lt
  exact Nat.lt_trans (by decide) h
theorem d_getItem {Q : Value → Shared → Prop} (hu : A.units + 1 < cLine) (I : Inv X pins σ H s) (g : DGet H a y (some v)) (ry : RelV y u) (h : ∀ w' s', Inv X pins σ H s' → RelV v w' → Q w' s') :
    wpAny (model X.prog X.w) A (getItem (.ref a) u) Q E s := by
  rcases g with ⟨kvs, k, e, ey, l⟩ | ⟨kvs, k, b, e, ey, eb, l⟩
  · subst ey
    obtain ⟨z, hd, vs, rel, dd⟩ := dk_rd I.hok e
    obtain ⟨w', hw, rw'⟩ := RelO.some_of (v := v) (o := valueAt vs k) (by rw [l]; exact rel.val k)
    exact wpAny_getItem_of (kV_is ry) dd.mapOf hw (h w' _ (I.tok _) rw')
  · subst ey
    cases (show u = Value.ref b from ry)
    obtain ⟨z, hd, xs, rel, dd⟩ := dt_rd I.hok e
    obtain ⟨w', hw, rw'⟩ := RelO.some_of (v := v) (o := (atKey xs k).map (·.2)) (by rw [l]; exact rel.val k)
    obtain ⟨p, hp, hp2⟩ := Option.map_eq_some_iff.mp hw
    refine wpAny_getItem_heap (tupleKind_room_in1 hu) (key_of I.hok eb) dd hp ?_
    rw [hp2]
    exact h w' _ (I.tok _) rw'
theorem d_in {Q : Value → Shared → Prop} (hu : A.units + 1 < cLine) (I : Inv X pins σ H s) (g : DGet H a y o) (ry : RelV y u) (h : ∀ s', Inv X pins σ H s' → Q (.bool o.isSome) s') :
    wpAny (model X.prog X.w) A (compareOp .In u (.ref a)) Q E s := by
  rcases g with ⟨kvs, k, e, ey, l⟩ | ⟨kvs, k, b, e, ey, eb, l⟩
  · subst ey
    obtain ⟨z, hd, vs, rel, dd⟩ := dk_rd I.hok e
    refine wpAny_in_of (kV_is ry) hd dd.mapOf ?_
    rw [← (rel.val k).isSome_eq, ← l]
    exact h _ (I.tok _)
  · subst ey
    cases (show u = Value.ref b from ry)
    obtain ⟨z, hd, xs, rel, dd⟩ := dt_rd I.hok e
    refine wpAny_in_heap (tupleKind_room_in1 hu) (key_of I.hok eb) hd dd ?_
    have q := (rel.val k).isSome_eq
    rw [Option.isSome_map] at q
    rw [← q, ← l]
    exact h _ (I.tok _)
theorem d_write {h' : Heap} {t' : Nat} {ob : HO} (I : Inv X pins σ H s) (mu : Mut (H a)) (hs : Heap.SameBut a s.heap h') (he : ∃ q, h'.get? a = some q) (new : ObjOk X.prog X.w (upd H a ob) h' a ob) :
    Inv X pins σ (upd H a ob) { s with heap := h', toks := t' } :=
  I.write (x := a) (e := a) mu (.inl rfl) (fun b q hb z => (hs.2 b hb).trans z) he new
theorem dk_new {P : Program} {w : World} {H' : Hp} {h' : Heap} {kvs : List (Key × V)} {vs : List (Key × Value)} (z : kvs.length ≤ sizeLine) (hd : (a == sysModules) = false) (rel : KV kvs vs) (dd : h'.DictOf (mixKind P w) a vs) :
    ObjOk P w H' h' a (.dK kvs) := ⟨z, hd, vs, rel, dd⟩
theorem d_setItem {H' : Hp} {Q : Unit → Shared → Prop} (hu : A.units + 1 < cLine) (I : Inv X pins σ H s) (g : DPut H a y v H') (ry : RelV y u) (rv : RelV v r) (h : ∀ s', Inv X pins σ H' s' → Q () s') :
    wpAny (model X.prog X.w) A (setItem (.ref a) u r) Q E s := by
  rcases g with ⟨kvs, k, e, ey, l, eH⟩ | ⟨kvs, k, b, e, ey, eb, l, eH⟩
  · subst ey eH
    obtain ⟨z, hd, vs, rel, dd⟩ := dk_of I.hok e
    have hz : vs.length ≤ sizeLine := by rw [← rel.length]; exact z
    have hl : (putK kvs k v).length ≤ sizeLine := by have := length_putK kvs k v; omega
    refine wpAny_setItem_pairs (hsz := hz) (kV_is ry) dd fun h' dd' hs => h _ ?_
    have he : ∃ q, h'.get? a = some q := let ⟨q, _, _, hq, _⟩ := dd'; ⟨q, hq⟩
    exact d_write I (by rw [e]; exact True.intro) hs he (dk_new hl hd (rel.put k rv) dd')
  · subst ey eH
    cases (show u = Value.ref b from ry)
    obtain ⟨z, hd, xs, rel, dd⟩ := dt_of I.hok e
    have hz : xs.length ≤ sizeLine := by rw [← Paired.length rel]; exact z
    have hl : (putK kvs k v).length ≤ sizeLine := by have := length_putK kvs k v; omega
    refine wpAny_setItem_heap (hsz := hz) (tupleKind_room_in1 hu) (key_of I.hok eb) dd fun h' dd' hs => h _ ?_
    obtain ⟨q, es, ep, hq, h2, h3, h4, _, h5⟩ := dd'
    refine d_write I (by rw [e]; exact True.intro) hs ⟨q, hq⟩ ⟨hl, hd, _, (rel.put k eb rv).keeps fun c ys ec => ?_, q, es, ep, hq, h2, h3, h4, h5⟩
    rw [upd_ne (ne_of ec e (fun z => nomatch z))]
    exact ec
end
section
variable {X : Cx} {pins : List (Addr × Obj)} {σ : St} {H : Hp} {s : Shared} {a : Addr} {kvs : List (Key × V)} {k : Key} {u : Value} {A : Around} {E : Value → Shared → Prop}
theorem d_len {Q : Value → Shared → Prop} (I : Inv X pins σ H s) (e : Rd H a (.dK kvs)) (h : ∀ t s', Inv X pins σ H s' → Q (.int kvs.length t) s') : wpAny (model X.prog X.w) A (call (.builtin "len") [.ref a]) Q E s := by
  obtain ⟨z, hd, vs, rel, dd⟩ := dk_rd I.hok e
  refine call_len_dict hd dd (by rw [← rel.length]; rw [sizeLine_eq] at z; omega) ?_
  rw [← rel.length]
  exact h _ _ (I.tok _)
end
def NoSl (i : Expr) : Prop := ∀ ov iv, subscripted i false ov iv = operate [ov, iv] (getItem ov iv)
theorem subD_of {prog : Program} {w : World} {A : Around} {E : Value → Shared → Prop} {s : Shared} {env : Env} {value slice : Expr} {pos : Pos} {T id : String} {Q : Value → Shared → Prop}
    (hl : typeLookup (.type T) "__getitem__" = pure (some (.builtin id))) (hs : NoSl slice)
    (h : wpAny (model prog w) A (eval value env) (fun o s₁ => wpAny (model prog w) A (eval slice env) (fun i s₂ => s₂.TypeIs o T ∧ wpAny (model prog w) A (getItem o i) Q E s₂) E s₁) E s) :
    wpAny (model prog w) A (eval (.Subscript value slice pos) env) Q E s := by
  refine Subscript_ (wpAny_mono h (fun o s₁ h₁ => wpAny_mono h₁ (fun i s₂ h₂ => ?_) fun _ _ x => x) fun _ _ x => x)
  obtain ⟨hT, h₂⟩ := h₂
  unfold subscriptTail
  refine wpAny_bind ?_
  rw [getitemInPython_of_ne hT.not_modules]
  refine wpAny_bind (wpAny_specialOf hT hl ?_)
  have fin : wpAny (model prog w) A (subscripted slice false o i) (fun r s₃ => wpAny (model prog w) A (letTemporaryGo value o r >>= fun _ => pure r) Q E s₃) E s₂ := by
    rw [hs o i]
    exact wpAny_operating (wpAny_mono h₂ (fun r s₃ h₃ => wpAny_bind (wpAny_letTemporaryGo (wpAny_pure h₃))) fun _ _ x => x)
  first
    | exact wpAny_pure (wpAny_bind fin)
    | exact wpAny_bind (wpAny_pure (wpAny_bind fin))
    | exact wpAny_bind fin
theorem dict_typeIs {X : Cx} {pins : List (Addr × Obj)} {σ : St} {H : Hp} {s : Shared} {a : Addr} {y : V} {o : Option V} (I : Inv X pins σ H s) (g : DGet H a y o) : s.TypeIs (.ref a) "dict" := by
  rcases g with ⟨kvs, k, e, _, _⟩ | ⟨kvs, k, b, e, _, _, _⟩
  · obtain ⟨_, _, vs, _, dd⟩ := dk_rd I.hok e
    exact dd.typeIs
  · obtain ⟨_, _, xs, _, dd⟩ := dt_rd I.hok e
    exact dd.typeIs
section
variable {X : Cx} {o i e value : Expr} {pos pos' tpos : Pos} {td ty tv : TE}
end
theorem dk_empty {P : Program} {w : World} {H : Hp} (h : Heap) (hb : sysModules < h.objs.size) : ObjOk P w H (h.push { cls := .type "dict", data := .dict #[] }) h.objs.size (.dK []) :=
  ⟨Nat.zero_le _, beq_eq_false_iff_ne.mpr (Ne.symm (Nat.ne_of_lt hb)), [], .nil, Heap.DictOf.new h⟩
section
variable {X : Cx} {pos : Pos}
end
structure M1 (X : Cx) (o : Expr) (m : Str) (apos : Pos) (e : Expr) (cpos : Pos) : Prop where
  base : attributeBase o m X.env (eval o X.env) = eval o X.env
  few : ((backTo cpos (starEach [e] X.env)).all (fun x => !x.1) && (backToKw cpos (keywordEach [] X.env)).all (fun x => x.1.isSome)
    && decide (([e] : List Expr).length + ([] : List Keyword).length + (if ([] : List Keyword).isEmpty then 0 else 1) < 30)) = true
  line : (apos.endLine == cpos.line) = true
  trees : backTo cpos (starEach [e] X.env) = [(false, eval e X.env)]
structure M2 (X : Cx) (o : Expr) (m : Str) (apos : Pos) (e f : Expr) (cpos : Pos) : Prop where
  base : attributeBase o m X.env (eval o X.env) = eval o X.env
  few : ((backTo cpos (starEach [e, f] X.env)).all (fun x => !x.1) && (backToKw cpos (keywordEach [] X.env)).all (fun x => x.1.isSome)
    && decide (([e, f] : List Expr).length + ([] : List Keyword).length + (if ([] : List Keyword).isEmpty then 0 else 1) < 30)) = true
  line : (apos.endLine == cpos.line) = true
  trees : backTo cpos (starEach [e, f] X.env) = [(false, eval e X.env), (false, eval f X.env)]
section
variable {X : Cx} {pins : List (Addr × Obj)} {σ : St} {H : Hp} {s : Shared} {a : Addr} {y d : V} {u r : Value} {o : Option V} {A : Around} {E : Value → Shared → Prop}
end
section
variable {X : Cx} {o e f : Expr} {apos cpos : Pos} {td ty tx : TE}
end
section
variable {X : Cx} {pins : List (Addr × Obj)} {σ : St} {H : Hp} {s : Shared} {a : Addr} {kvs : List (Key × V)} {A : Around} {E : Value → Shared → Prop}
end
section
variable {X : Cx} {pins : List (Addr × Obj)} {σ : St} {H : Hp} {s : Shared} {a : Addr} {y : V} {u : Value} {A : Around} {E : Value → Shared → Prop}
end
end L2
namespace L2
open PySem PySem.Spec PyProof.Rows
section
variable {κ : Type} [DecidableEq κ]
end
end L2
namespace L2
open PySem PySem.Spec PyProof.Rows
section
variable {prog : Program} {w : World} {A : Around} {R : Result → Shared → Prop} {s : Shared}
abbrev testsOf (ifs : List Expr) (env : Env) : Sem Bool :=
  forIn ifs true fun c r => if r = true then do let ok ← isTrue c env (eval c env); pure (ForInStep.yield ok) else pure (ForInStep.yield r)
theorem compLoop_gen {elt target iter : Expr} {ifs : List Expr} {scope : Scope} {pos : Pos} {it acc : Value} {env : Env} {nE : Value → Shared → Prop} (hE : nE = notedBy (model prog w) A env fun e s' => R (.error e) s') (I : Nat → Shared → Prop)
    (turn : ∀ n s, I n s → wpAny (model prog w) A (pyNext it) (fun r s1 => match r with
      | none => R (.ok .next) s1
      | some v => wpAny (model prog w) A (letOwnedTupleGo target it v) (fun _ s1b => wpAny (model prog w) A (assign target env v) (fun _ s2 =>
          wpAny (model prog w) A (testsOf ifs env) (fun ok s3 =>
            if ok = true then wpAny (model prog w) A (eval elt env) (fun x s4 =>
              wpAny (model prog w) A (call (.builtin "list.append") [acc, x]) (fun _ s5 => ∃ m, m < n ∧ I m s5) nE s4) nE s3
            else ∃ m, m < n ∧ I m s3) nE s2) nE s1b) nE s1) nE s)
    (n : Nat) (h : I n s) :
    codeAny (model prog w) A (.compLoop (.ListComp elt [⟨target, iter, ifs, 0⟩] scope pos) 0 it acc env) R s := by
  subst hE
  refine codeAny_loop rfl I (fun n s hI => ?_) n h
  show wpAny _ A ((compTurn (.ListComp elt [⟨target, iter, ifs, 0⟩] scope pos) 0 it acc env).onRaise (fun x => do noteFrame x env; theTreesLotGoes x)) _ _ s
  refine wpAny_noted ?_
  rw [compTurn_list]
  refine wpAny_bind (wpAny_standAt (wpAny_bind (wpAny_mono (turn n s hI) (fun r s1 h1 => ?_) fun _ _ h' => h')))
  cases r with
  | none => exact wpAny_pure h1
  | some v =>
    refine wpAny_bind (wpAny_mono h1 (fun _ s1b h1b => ?_) fun _ _ h' => h')
    refine wpAny_bind (wpAny_mono h1b (fun _ s2 h2 => wpAny_bind (wpAny_mono h2 (fun ok s3 h3 => ?_) fun _ _ h' => h')) fun _ _ h' => h')
    cases ok with
    | false => exact wpAny_pure ⟨rfl, h3⟩
    | true =>
      exact wpAny_bind (wpAny_bind (wpAny_mono h3 (fun x s4 h4 => wpAny_bind (wpAny_mono h4 (fun _ s5 h5 => wpAny_pure (wpAny_pure ⟨rfl, h5⟩)) fun _ _ h' => h')) fun _ _ h' => h'))
end
def clOf (cells : List (Str × Addr)) : List (Str × NameKind) → List (Str × Addr) → List (Str × Addr)
  | [], acc => acc
  | (n, k) :: r, acc => clOf cells r (if k == NameKind.free then (n, (cells.lookup n).getD 0) :: acc else acc)
theorem closure_forIn (env : Env) : ∀ (names : List (Str × NameKind)) (acc : List (Str × Addr)), (∀ y ∈ names, y.2 = .free → ∃ c, env.cells.lookup y.1 = some c) →
    (forIn names acc fun x (r : List (Str × Addr)) => match x with
      | (name, kind) => if (kind == NameKind.free) = true then (do let a ← cellOf env name; pure (ForInStep.yield ((name, a) :: r))) else pure (ForInStep.yield r) : Sem (List (Str × Addr))) = pure (clOf env.cells names acc)
  | [], acc, _ => by simp [clOf]
  | (n, k) :: r, acc, h => by
    have ih := fun acc => closure_forIn env r acc fun y hy => h y (List.mem_cons_of_mem _ hy)
    rw [List.forIn_cons]
    unfold clOf
    by_cases hk : k = .free
    · subst hk
      obtain ⟨c, e⟩ := h (n, .free) List.mem_cons_self rfl
      simp only [beq_self_eq_true, if_true, cellOf, e, Option.getD_some, pure_bind]
      exact ih _
    · have hb : (k == NameKind.free) = false := by simpa using hk
      simp only [hb, Bool.false_eq_true, if_false, pure_bind]
      exact ih _
theorem closureFor_eq {scope : Scope} {env : Env} (h : ∀ y ∈ scope.names, y.2 = .free → ∃ c, env.cells.lookup y.1 = some c) : closureFor scope env = pure (clOf env.cells scope.names []) := by
  have e := closure_forIn env scope.names [] h
  unfold closureFor
  first
    | (rw [e]; rfl)
    | (simp only [bind_pure]; exact e)
    | (show (_ >>= _) = _; rw [e]; rfl)
theorem clOf_lookup {cells : List (Str × Addr)} {x : Str} {c : Addr} : ∀ (names : List (Str × NameKind)) (acc : List (Str × Addr)), (∀ y ∈ names, y.2 = .free → ∃ c, cells.lookup y.1 = some c) →
    (∀ d, acc.lookup x = some d → cells.lookup x = some d) → (clOf cells names acc).lookup x = some c → cells.lookup x = some c
  | [], acc, _, ha, e => ha c e
  | (n, k) :: r, acc, h, ha, e => by
    unfold clOf at e
    refine clOf_lookup r _ (fun y hy => h y (List.mem_cons_of_mem _ hy)) (fun d hd => ?_) e
    by_cases hk : k = .free
    · subst hk
      obtain ⟨c', e'⟩ := h (n, .free) List.mem_cons_self rfl
      have e2 : cells.lookup n = some c' := e'
      rw [if_pos (beq_self_eq_true _), e2] at hd
      cases hx : x == n with
      | true =>
        have : x = n := eq_of_beq hx
        subst this
        simp only [List.lookup_cons, hx, Option.getD_some] at hd
        rw [e2]
        exact hd
      | false =>
        simp only [List.lookup_cons, hx] at hd
        exact ha d hd
    · have hb : ¬ (k == NameKind.free) = true := by simpa using hk
      rw [if_neg hb] at hd
      exact ha d hd
theorem clOf_keeps {cells : List (Str × Addr)} {x : Str} : ∀ (names : List (Str × NameKind)) (acc : List (Str × Addr)), (acc.lookup x).isSome = true → ((clOf cells names acc).lookup x).isSome = true
  | [], _, h => h
  | (n, k) :: r, acc, h => by
    unfold clOf
    refine clOf_keeps r _ ?_
    by_cases hk : (k == NameKind.free) = true
    · rw [if_pos hk]
      cases hx : x == n with
      | true => simp only [List.lookup_cons, hx, Option.isSome_some]
      | false => simp only [List.lookup_cons, hx]; exact h
    · rw [if_neg hk]; exact h
theorem clOf_has {cells : List (Str × Addr)} {x : Str} : ∀ (names : List (Str × NameKind)) (acc : List (Str × Addr)), (x, NameKind.free) ∈ names → ((clOf cells names acc).lookup x).isSome = true
  | (n, k) :: r, acc, h => by
    unfold clOf
    rcases List.mem_cons.mp h with e | h
    · cases e
      refine clOf_keeps r _ ?_
      rw [if_pos (beq_self_eq_true _)]
      simp only [List.lookup_cons, beq_self_eq_true, Option.isSome_some]
    · exact clOf_has r _ h
theorem relab_lookup {env : Env} (x : Str) : ∀ names : List (Str × NameKind),
    (names.map fun (n, k) => if (k == NameKind.free && env.scope.kind == .function && env.kindOf n == some .cell) then (n, NameKind.cell) else (n, k)).lookup x =
      (names.lookup x).map fun k => if (k == NameKind.free && env.scope.kind == .function && env.kindOf x == some .cell) then NameKind.cell else k
  | [] => rfl
  | (n, k) :: r => by
    have ih := relab_lookup (env := env) x r
    rw [List.map_cons]
    cases hx : x == n with
    | true =>
      have : x = n := eq_of_beq hx
      subst this
      show List.lookup x ((if (k == NameKind.free && env.scope.kind == .function && env.kindOf x == some .cell) = true then (x, NameKind.cell) else (x, k)) :: _) = _
      by_cases hc : (k == NameKind.free && env.scope.kind == .function && env.kindOf x == some .cell) = true
      · rw [if_pos hc]; simp only [List.lookup_cons, hx, Option.map_some]; rw [if_pos hc]
      · rw [if_neg hc]; simp only [List.lookup_cons, hx, Option.map_some]; rw [if_neg hc]
    | false =>
      show List.lookup x ((if (k == NameKind.free && env.scope.kind == .function && env.kindOf n == some .cell) = true then (n, NameKind.cell) else (n, k)) :: _) = _
      by_cases hc : (k == NameKind.free && env.scope.kind == .function && env.kindOf n == some .cell) = true
      · rw [if_pos hc]; simp only [List.lookup_cons, hx]; exact ih
      · rw [if_neg hc]; simp only [List.lookup_cons, hx]; exact ih
structure CScope (own caps : List Str) (scope osc : Scope) : Prop where
  kind : scope.kind = .function
  nocell : ∀ y ∈ scope.names, y.2 ≠ .cell
  loc : ∀ y ∈ scope.names, y.2 = .local → scope.names.lookup y.1 = some .local
  fr : ∀ y ∈ scope.names, y.2 = .free → osc.names.lookup y.1 = some .cell ∨ osc.names.lookup y.1 = some .free
  cap : ∀ x ∈ caps, scope.names.lookup x = some .free
  nd : (own ++ caps).Nodup
def cxC (X : Cx) (scope : Scope) (N' : List Str) (C : Addr) (fp : List Addr) (s : Shared) (H : Hp) : Cx where
  prog := X.prog
  w := X.w
  K := X.K
  mg := X.mg
  base := X.base
  A := X.A
  N := N'
  s₀ := s
  H₀ := H
  env := compEnvC scope (clOf X.env.cells scope.names []) C X.env
  outer := X.stack
  stack := X.stack
  ex := fp
  fn := fun _ => false
  calm := X.calm
  pn := X.pn
  xe := fun _ _ => False
def cSt (n : Nat) (js : List Nat) (σ : St) : St := List.replicate n none ++ js.map fun j => (σ[j]?).join
def PF (X : Cx) (ifs : List Expr) (t : TT) : Prop :=
  ∀ (pins : List (Addr × Obj)) (s : Shared) (σ : St) (H : Hp) (Q : Bool → Hp → Prop), Inv X pins σ H s → t σ H Q → wpAny (model X.prog X.w) X.A (testsOf ifs X.env) (TP X pins σ Q) X.xe s
def tYes : TT := fun _ H Q => Q true H
theorem pf_nil {X : Cx} : PF X [] tYes := fun pins s σ H Q I h => by
  show wpAny _ _ (forIn [] true _) _ _ s
  rw [List.forIn_nil]
  exact wpAny_pure ⟨H, I, h⟩
def tComp (n : Nat) (js : List Nat) (wi : TI) (g : TG) (tc : TT) (te : TE) : TE := fun σ H Q => wi σ H fun J H1 => ∀ D, H1 D = none → ∃ W : Nat → Nat → List V → Hp → Prop, (∃ m, W 0 m [] (upd H1 D (.lst []))) ∧ ∀ i m acc H, W i m acc H →
  H D = some (.lst acc) ∧ ((J.stop i H ∧ Q (.ref D) H) ∨ (J.go i H ∧ acc.length < sizeLine ∧ ∃ Nx : List V → Hp → Prop, (∀ acc' H', Nx acc' H' → ∃ m', m' < m ∧ W (i + 1) m' acc' H') ∧
    ∀ x H', J.yld i H x H' → g x (cSt n js σ) H' fun σ2 H2 => σ2.drop n = (cSt n js σ).drop n ∧ tc σ2 H2 fun b H3 => if b = true then te σ2 H3 fun v H4 => H4 D = some (.lst acc) ∧ Nx (acc ++ [v]) (upd H4 D (.lst (acc ++ [v]))) else H3 D = some (.lst acc) ∧ Nx acc H3))
section
variable {X : Cx} {pins : List (Addr × Obj)} {σ : St} {H : Hp} {s : Shared}
abbrev capN (X : Cx) (js : List Nat) : List Str := js.map fun j => (X.N[j]?).getD Str.empty
theorem js_ok {X : Cx} {js : List Nat} (h : (js.all fun j => decide (j < X.N.length)) = true) : ∀ j ∈ js, ∃ x, X.N[j]? = some x := fun j hj => by
  have := of_decide_eq_true (List.all_eq_true.mp h j hj)
  exact ⟨X.N[j], List.getElem?_eq_getElem this⟩
theorem Inv.block {scope : Scope} {own : List Str} {js : List Nat} {fp : List Addr} {h' : Heap} {t' : Nat} {m : Str → Option Value} (I : Inv X pins σ H s) (S : CScope own (capN X js) scope X.env.scope) (hj : ∀ j ∈ js, ∃ x, X.N[j]? = some x)
    (hf : ∀ b ∈ fp, FpOk X pins H b) (hfo : ∀ b ∈ fp, ∃ o, s.heap.get? b = some o) (hn : h'.Ns s.heap.objs.size m) (hk : ∀ b o, s.heap.get? b = some o → h'.get? b = some o) :
    Inv (cxC X scope (own ++ capN X js) s.heap.objs.size fp s H) pins (cSt own.length js σ) H { s with heap := h', toks := t' } := by
  have hfr : ∀ y ∈ scope.names, y.2 = .free → ∃ c, X.env.cells.lookup y.1 = some c := fun y hy e => I.ok.has y.1 (S.fr y hy e)
  have hcl : ∀ x c, (clOf X.env.cells scope.names []).lookup x = some c → X.env.cells.lookup x = some c := fun x c e => clOf_lookup scope.names [] hfr (fun d z => nomatch z) e
  have hlt : ∀ b o, s.heap.get? b = some o → b ≠ s.heap.objs.size := fun b o e => Nat.ne_of_lt (Heap.lt_size e)
  have nstk : ∀ b, b ≠ X.env.locals → b ∉ X.fs → b ∉ frs X.stack := fun b h1 h2 hb => (List.mem_cons.mp (I.stkSub b hb)).elim h1 h2
  have hrl : ∀ x, (relabel scope X.env).names.lookup x = (scope.names.lookup x).map fun k => if (k == NameKind.free && X.env.scope.kind == .function && X.env.kindOf x == some .cell) then NameKind.cell else k := fun x => relab_lookup x scope.names
  refine ⟨⟨I.ok.mod, S.kind, I.ok.glob, I.ok.blt, Nat.le_refl _, fun x y c h1 h2 => I.ok.inj x y c (hcl x c h1) (hcl y c h2), fun x hx => ?_, (fun x c z => nomatch z), I.ok.hd, I.ok.frames, .inl rfl, fun b hb => ?_, I.bs, Nat.le_trans I.ok.bsz I.sz, fun b o e hb => ?_, fun b hb => ?_, I.stack, I.stkFree⟩,
    rfl, I.bare, Un.kept hk, ⟨m, hn, fun i x v h1 h2 h3 => ?_⟩, fun x c e => ?_, I.hok.fresh (Nat.le_refl _), fun x c e => I.freeC x c (hcl x c e), fun p hp => ?_, I.hok.kept hk, ?_⟩
  · have hx' : (relabel scope X.env).names.lookup x = some .cell ∨ (relabel scope X.env).names.lookup x = some .free := hx
    rw [hrl] at hx'
    cases e : scope.names.lookup x with
    | none => rw [e] at hx'; rcases hx' with z | z <;> cases z
    | some k =>
      have hm : (x, k) ∈ scope.names := PySem.mem_of_lookup e
      have hkf : k = .free := by
        rw [e] at hx'
        cases k with
        | free => rfl
        | cell => exact absurd rfl (S.nocell _ hm)
        | _ => exfalso; revert hx'; simp
      subst hkf
      exact Option.isSome_iff_exists.mp (clOf_has scope.names [] hm)
  · obtain ⟨o, e⟩ := hfo b hb
    obtain ⟨_, _, _, _, f4, _⟩ := hf b hb
    exact ⟨hlt b o e, fun x c z => f4 x c (hcl x c z)⟩
  · obtain ⟨_, _, _, f3, _⟩ := hf b hb
    rcases f3 with z | z
    · exact I.ok.noex b o e z
    · exact absurd (Nat.lt_of_lt_of_le (Heap.lt_size (I.ok.bs b o e).1) z) (Nat.lt_irrefl _)
  · obtain ⟨_, f1, f2, _⟩ := hf b hb
    exact nstk b f1 f2
  ·
    have h1' : (own ++ capN X js)[i]? = some x := h1
    have hi : own.length ≤ i := by
      rcases Nat.lt_or_ge i own.length with z | z
      · exfalso
        unfold cSt at h2
        rw [List.getElem?_append_left (by simpa using z), List.getElem?_replicate] at h2
        split at h2 <;> cases h2
      · exact z
    rw [List.getElem?_append_right hi] at h1'
    unfold cSt at h2
    rw [List.getElem?_append_right (by simpa using hi), List.length_replicate, List.getElem?_map] at h2
    unfold capN at h1'
    rw [List.getElem?_map] at h1'
    cases ej : js[i - own.length]? with
    | none => rw [ej] at h2; cases h2
    | some j =>
      rw [ej] at h1' h2
      obtain ⟨y, ey⟩ := hj j (List.mem_of_getElem? ej)
      have exy : y = x := by
        have z : some ((X.N[j]?).getD Str.empty) = some x := h1'
        rw [ey] at z
        exact Option.some.inj z
      subst exy
      have es : σ[j]? = some (some v) := by
        have z : some ((σ[j]?).join) = some (some v) := h2
        cases q : σ[j]? with
        | none => rw [q] at z; cases z
        | some o => rw [q] at z; cases o with
          | none => cases z
          | some v' => cases z; rfl
      have hcap : y ∈ capN X js := List.mem_map.mpr ⟨j, List.mem_of_getElem? ej, by rw [ey]; rfl⟩
      have hfree : scope.names.lookup y = some .free := S.cap y hcap
      have hm : (y, NameKind.free) ∈ scope.names := PySem.mem_of_lookup hfree
      have ho := S.fr _ hm rfl
      obtain ⟨m0, hn0, hl0⟩ := I.loc
      obtain ⟨u, r, l⟩ := hl0 j y v ey es (ho.elim (fun z => .inr (.inl z)) fun z => .inr (.inr z))
      refine ⟨u, r, .inr ⟨?_, ?_⟩⟩
      · show (relabel scope X.env).names.lookup y = _ ∨ (relabel scope X.env).names.lookup y = _
        rw [hrl, hfree, Option.map_some]
        by_cases hcc : (NameKind.free == NameKind.free && X.env.scope.kind == .function && X.env.kindOf y == some .cell) = true
        · rw [if_pos hcc]; exact .inl rfl
        · rw [if_neg hcc]; exact .inr rfl
      · rcases l with ⟨k, _⟩ | ⟨_, c, e, z⟩
        · have k' : X.env.scope.names.lookup y = some .local := k
          rcases ho with z | z <;> (rw [k'] at z; cases z)
        · obtain ⟨c', e'⟩ := Option.isSome_iff_exists.mp (clOf_has (cells := X.env.cells) scope.names [] hm)
          have := hcl y c' e'
          rw [e] at this
          cases this
          refine ⟨c, e', ?_⟩
          obtain ⟨oc, ho', hd⟩ := z
          exact ⟨oc, hk c oc ho', hd⟩
  · obtain ⟨v, o, ho, hd⟩ := I.cell x c (hcl x c e)
    exact ⟨v, o, hk c o ho, hd⟩
  · obtain ⟨e, n, ne, nf, d⟩ := I.pin p hp
    exact ⟨hk _ _ e, n, hlt _ _ e, nstk p.1 ne nf, d⟩
  · unfold cSt
    show _ = (own ++ capN X js).length
    simp
theorem Inv.unblock {scope : Scope} {N' : List Str} {fp : List Addr} {σb : St} {H' : Hp} {s' : Shared} {h' : Heap} (I : Inv X pins σ H s) (hf : ∀ b ∈ fp, FpOk X pins H b)
    (B : Inv (cxC X scope N' s.heap.objs.size fp s H) pins σb H' s') (hs : Heap.SameBut s.heap.objs.size s'.heap h') : Inv X pins σ H' { s' with heap := h' } := by
  have hlt : ∀ b o, s.heap.get? b = some o → b ≠ s.heap.objs.size := fun b o e => Nat.ne_of_lt (Heap.lt_size e)
  have hu : Un (frs X.stack) fp H H' s.heap s'.heap := B.base
  have hfree : H' s.heap.objs.size = none := B.free
  refine I.call' (s' := { s' with heap := h' }) (ch := fp) B.os ⟨fun b o e n hb hx => ?_, fun b o e n hb hx => ?_, hu.free, fun b o e hx => ?_, hu.tups, hu.frzs, hu.tbls⟩ (fun b u e => ?_) B.bare fun b hb => ?_
  · exact (hs.2 b (hlt b o e)).trans (hu.keep b o e n hb hx)
  · obtain ⟨sl, z⟩ := hu.slot b o e n hb hx
    exact ⟨sl, (hs.2 b (hlt b o e)).trans z⟩
  · obtain ⟨o', z⟩ := hu.there b o e hx
    exact ⟨o', (hs.2 b (hlt b o e)).trans z⟩
  · refine (B.hok b u e).stay (fun c v hc q => (hs.2 c ?_).trans q) (fun _ q => q) fun _ _ q => q
    rintro rfl
    rcases hc with z | z
    · rw [← z, hfree] at e; cases e
    · rw [hfree] at z; cases z
  · obtain ⟨_, f1, f2, f3, f4, f5⟩ := hf b hb
    exact ⟨f3, f1, f4, f5⟩
end
section
variable {X : Cx} {elt tg iter : Expr} {ifs : List Expr} {scope : Scope} {pos : Pos} {own : List Str} {js : List Nat} {wi : TI} {g : TG} {tc : TT} {te : TE}
theorem comp_core (hc : X.calm = true) (S : CScope own (capN X js) scope X.env.scope) (hj : ∀ j ∈ js, ∃ x, X.N[j]? = some x) (hi : PI X tg iter wi)
    (hg : ∀ C fp s H, PG (cxC X scope (own ++ capN X js) C fp s H) tg g) (ht : ∀ C fp s H, PF (cxC X scope (own ++ capN X js) C fp s H) ifs tc) (he : ∀ C fp s H, PE (cxC X scope (own ++ capN X js) C fp s H) elt te)
    {pins : List (Addr × Obj)} {σ : St} {H : Hp} {s : Shared} {Q : VK} (I : Inv X pins σ H s) (h : tComp own.length js wi g tc te σ H Q) {RR : Value → Addr → Result → Shared → Prop}
    (hRR : ∀ D C s' m H', s'.heap.Ns C m → H' C = none → C ≠ X.env.locals → C ∉ X.fs → (∀ x c, X.env.cells.lookup x = some c → c ≠ C) → X.s₀.heap.objs.size ≤ C → (∀ p ∈ X.pn ++ pins, p.1 ≠ C) → (∀ h', Heap.SameBut C s'.heap h' → Inv X pins σ H' { s' with heap := h' }) → Q (.ref D) H' → RR (.ref D) C (.ok .next) s') :
    wpAny (model X.prog X.w) X.A (eval iter X.env) (fun x s1 => wpAny (model X.prog X.w) X.A (pyIter x) (fun it s2 => wpAny (model X.prog X.w) X.A (newList []) (fun acc s3 =>
      wpAny (model X.prog X.w) X.A (newFunctionEnv scope X.env.globals (clOf X.env.cells scope.names []) [] X.env.qual none .none (some X.env)) (fun cenv s4 =>
        codeAny (model X.prog X.w) X.A (.compStart (.ListComp elt [⟨tg, iter, ifs, 0⟩] scope pos) 0 it acc { cenv with scope := relabel scope X.env }) (RR acc cenv.locals) s4) X.xe s3) X.xe s2) X.xe s1) X.xe s := by
  refine thn (hi pins s σ H _ I h) fun v s1 h1 => thn h1 fun itv s2 h2 => ?_
  obtain ⟨it, fp, tn, J, H2, e, I2, T, st2, f2, hq⟩ := h2
  subst e
  refine wpAny_newList ?_ (by simp)
  have I3 := I2.lnew (t' := s2.toks) (ys := []) (its := []) .nil (by simp)
  have hDn : H2 s2.heap.objs.size = none := I2.fresh
  generalize hD : s2.heap.objs.size = D at I3 hDn ⊢
  generalize hH3 : upd H2 D (.lst []) = H3 at I3
  generalize hs3 : ({ s2 with heap := s2.heap.push { cls := .type "list", data := .seq ([] : List Value).toArray }, toks := s2.toks } : Shared) = s3 at I3
  have k3 : ∀ b o, s2.heap.get? b = some o → s3.heap.get? b = some o := fun b o e => by rw [← hs3]; exact Heap.get?_push_of_some _ e
  have st3 : tn 0 s3.heap := T.keep _ _ _ st2 fun b _ o e => k3 b o e
  have fo2 : ∀ b ∈ fp, ∃ o, s2.heap.get? b = some o := fun b hb => (T.obj _ _ st2 b hb).imp fun _ z => z.1
  have neD : ∀ b ∈ fp, b ≠ D := fun b hb => by
    obtain ⟨o, e⟩ := fo2 b hb
    rw [← hD]
    exact Nat.ne_of_lt (Heap.lt_size e)
  have f3 : ∀ b ∈ fp, FpOk X pins H3 b := fun b hb => by
    obtain ⟨a0, a1⟩ := f2 b hb
    exact ⟨by rw [← hH3, upd_ne (neD b hb)]; exact a0, a1⟩
  have fo3 : ∀ b ∈ fp, ∃ o, s3.heap.get? b = some o := fun b hb => (fo2 b hb).imp fun o e => k3 b o e
  obtain ⟨W, ⟨m0, w0⟩, turn⟩ := hq D hDn
  rw [hH3] at w0
  refine wpAny_newFunctionEnv S.nocell (by intro y hy; simp at hy) (fun h4 hns4 hsb4 => ?_) S.kind
  have k4 : ∀ b o, s3.heap.get? b = some o → h4.get? b = some o := fun b o e => hsb4.extBut b o (Nat.ne_of_lt (Heap.lt_size e)) (Heap.get?_push_of_some _ e)
  have B4 := I3.block (t' := s3.toks + ([] : List (Str × Value)).length) S hj f3 fo3 hns4 k4
  have st4 : tn 0 h4 := T.keep _ _ _ st3 fun b _ o e => k4 b o e
  have f4 : ∀ b ∈ fp, FpOk (cxC X scope (own ++ capN X js) s3.heap.objs.size fp s3 H3) pins H3 b := fun b hb => by
    obtain ⟨a0, a1, a2, a3, a4, a5⟩ := f3 b hb
    obtain ⟨o, e⟩ := fo3 b hb
    exact ⟨a0, (B4.ok.exf b hb).1, B4.ok.exfs b hb, .inl hb, (B4.ok.exf b hb).2, a5⟩
  have nL : s3.heap.objs.size ≠ X.env.locals := Nat.ne_of_gt I3.lt
  have nF : s3.heap.objs.size ∉ X.fs := I3.nofs (Nat.le_refl _)
  have nC : ∀ x c, X.env.cells.lookup x = some c → c ≠ s3.heap.objs.size := fun x c e => by
    obtain ⟨_, o, ho, _⟩ := I3.cell x c e
    exact Nat.ne_of_lt (Heap.lt_size ho)
  have loop : ∀ s5 : Shared, s5 = { s3 with heap := h4, toks := s3.toks + ([] : List (Str × Value)).length } →
      codeAny (model X.prog X.w) X.A (.compLoop (.ListComp elt [⟨tg, iter, ifs, 0⟩] scope pos) 0 (.ref it) (.ref D) (compEnvC scope (clOf X.env.cells scope.names []) s3.heap.objs.size X.env)) (RR (.ref D) s3.heap.objs.size) s5 := by
    rintro s5 rfl
    have stat : ∀ {H' : Hp}, (∀ b ∈ fp, H' b = none) → ∀ b ∈ fp, FpOk (cxC X scope (own ++ capN X js) s3.heap.objs.size fp s3 H3) pins H' b := fun hn b hb => ⟨hn b hb, (f4 b hb).2⟩
    refine compLoop_gen rfl (fun n s' => ∃ i acc H', Inv (cxC X scope (own ++ capN X js) s3.heap.objs.size fp s3 H3) pins (cSt own.length js σ) H' s' ∧ tn i s'.heap ∧ (∀ b ∈ fp, H' b = none) ∧ W i n acc H') ?_ m0
      ⟨0, [], H3, B4, st4, fun b hb => (f3 b hb).1, w0⟩
    rintro n s6 ⟨i, acc, H6, B6, st6, fr6, w6⟩
    obtain ⟨hacc, way⟩ := turn i n acc H6 w6
    rcases way with ⟨stop, q⟩ | ⟨go, hz, Nx, hN, step⟩
    · refine thn (T.done (cxC X scope (own ++ capN X js) s3.heap.objs.size fp s3 H3) rfl rfl rfl hc i pins s6 _ H6 _ B6 (stat fr6) st6 stop) fun r s7 ⟨hr, B7⟩ => ?_
      subst hr
      obtain ⟨m, hm, _⟩ := B7.loc
      exact hRR D _ s7 m H6 hm B7.free nL nF nC I3.sz (fun p hp => Nat.ne_of_lt (Heap.lt_size (I3.pin p hp).1)) (fun h' hs => I3.unblock f3 B7 hs) q
    · refine thn (T.item (cxC X scope (own ++ capN X js) s3.heap.objs.size fp s3 H3) rfl rfl rfl hc i pins s6 _ H6 _ B6 (stat fr6) st6 go) fun r s7 ⟨u, hr, h7⟩ => ?_
      subst hr
      refine thn h7 fun _ s8 ⟨x, H8, B8, r8, y8, st8, fr8⟩ => ?_
      have B8' := B8.pinned (stat fr8) (T.obj _ _ st8)
      have away : ∀ {s9 : Shared} {σ9 : St} {H9 : Hp} {acc' : List V}, Inv (cxC X scope (own ++ capN X js) s3.heap.objs.size fp s3 H3) (pins ++ pinsAt fp s8.heap) σ9 H9 s9 → σ9.drop own.length = (cSt own.length js σ).drop own.length → Nx acc' H9 →
          ∃ m', m' < n ∧ ∃ i acc H', Inv (cxC X scope (own ++ capN X js) s3.heap.objs.size fp s3 H3) pins (cSt own.length js σ) H' s9 ∧ tn i s9.heap ∧ (∀ b ∈ fp, H' b = none) ∧ W i m' acc H' := fun {s9 σ9 H9 acc'} B9 hd nx => by
        obtain ⟨m', hm, w9⟩ := hN acc' H9 nx
        refine ⟨m', hm, i + 1, acc', H9, B9.unpinned.weak ?_ ?_, T.keep _ _ _ st8 fun b hb o e => (B9.pin (b, o) (List.mem_append_right _ (List.mem_append_right _ (mem_pinsAt hb e)))).1, fun b hb => ?_, w9⟩
        · rw [B9.len, B6.len]
        · intro k v hv
          unfold cSt at hv
          have hk : own.length ≤ k := by
            rcases Nat.lt_or_ge k own.length with z | z
            · exfalso
              rw [List.getElem?_append_left (by simpa using z), List.getElem?_replicate] at hv
              split at hv <;> cases hv
            · exact z
          have e1 : σ9[k]? = (σ9.drop own.length)[k - own.length]? := by rw [List.getElem?_drop]; congr 1; omega
          rw [e1, hd, List.getElem?_drop]
          have e2 : own.length + (k - own.length) = k := by omega
          rw [e2]
          exact hv
        · obtain ⟨o, e, d⟩ := T.obj _ _ st8 b hb
          exact (B9.pin (b, o) (List.mem_append_right _ (List.mem_append_right _ (mem_pinsAt hb e)))).2.1
      refine wpAny_mono (hg _ _ _ _ _ s8 _ H8 x u _ B8' r8 (step x H8 y8)) (fun _ s9 ⟨σ9, H9, B9, hd9, q9⟩ => ?_) fun _ _ f => f.elim
      refine wpAny_mono (ht _ _ _ _ _ s9 σ9 H9 _ B9 q9) (fun b s10 ⟨H10, B10, q10⟩ => ?_) fun _ _ f => f.elim
      cases b with
      | false =>
        rw [if_neg Bool.false_ne_true] at q10 ⊢
        exact away B10 hd9 q10.2
      | true =>
        rw [if_pos rfl] at q10 ⊢
        refine wpAny_mono (he _ _ _ _ _ s10 σ9 H10 _ B10 q10) (fun y s11 ⟨z, H11, B11, r11, q11⟩ => ?_) fun _ _ f => f.elim
        obtain ⟨hl11, nx⟩ := q11
        refine wpAny_mono (mt_append (X := cxC X scope (own ++ capN X js) s3.heap.objs.size fp s3 H3) _ s11 σ9 H11 (.ref D) [z] (.ref D) [y] (fun _ H12 => Nx (acc ++ [z]) H12) B11 rfl (.cons r11 .nil) ⟨D, acc, z, rfl, rfl, hl11, hz, nx⟩) (fun _ s12 ⟨_, H12, B12, _, q12⟩ => ?_) fun _ _ f => f.elim
        exact away B12 hd9 q12
  exact codeAny_compStart_list (loop _ rfl) (T.self X.A 0 _ _ _ st4 (loop _ rfl))
theorem pe_comp (own caps : List Str) (js : List Nat) (hc : X.calm = true) {osc : Scope} (S : CScope own caps scope osc) (hi : PI X tg iter wi)
    (hg : ∀ C fp s H, PG (cxC X scope (own ++ caps) C fp s H) tg g) (ht : ∀ C fp s H, PF (cxC X scope (own ++ caps) C fp s H) ifs tc) (he : ∀ C fp s H, PE (cxC X scope (own ++ caps) C fp s H) elt te)
    (ho : X.env.scope = osc := by rfl) (hcp : capN X js = caps := by rfl) (hj : (js.all fun j => decide (j < X.N.length)) = true := by rfl)
    (hs : ∀ x, foldedSetIterable iter X.env x = pure x := by intro _; rfl) : PE X (.ListComp elt [⟨tg, iter, ifs, 0⟩] scope pos) (tComp own.length js wi g tc te) := by
  subst ho
  subst hcp
  intro pins s σ H Q I h
  have hfr : ∀ y ∈ scope.names, y.2 = .free → ∃ c, X.env.cells.lookup y.1 = some c := fun y hy e => I.ok.has y.1 (S.fr y hy e)
  rw [eval_ListComp]
  refine wpAny_comprehension_free (use := none) rfl hs (closureFor_eq hfr) S.kind S.loc ?_
  refine comp_core hc S (js_ok hj) hi hg ht he I h (RR := fun acc C => compPost (model X.prog X.w) X.A X.xe none (EP X pins σ Q) acc C) ?_
  intro D C s' m H' hn hf h1 h2 h3 h4 h5 hI hq
  exact ⟨m, hn, fun h' hs' => ⟨.ref D, H', hI h' hs', rfl, hq⟩⟩
end
end L2
namespace L2
open PySem PySem.Spec PyProof.Rows
mutual
inductive Has (K : PySem.W.Frag) (H : Hp) : V → PyData → Prop
  | non : Has K H .non .none
  | bl (b : Bool) : Has K H (.bl b) (.bool b)
  | int (i : Int) : Has K H (.int i) (.int i)
  | str (x : Str) : Has K H (.str x) (.str x)
  | lst {a : Addr} {xs : List V} {ds : List PyData} : SqL K H a xs → HasAll K H xs ds → Has K H (.ref a) (.list ds)
  | tup {a : Addr} {xs : List V} {ds : List PyData} : SqT K H a xs → HasAll K H xs ds → Has K H (.ref a) (.tuple ds)
inductive HasAll (K : PySem.W.Frag) (H : Hp) : List V → List PyData → Prop
  | nil : HasAll K H [] []
  | cons {x : V} {xs : List V} {d : PyData} {ds : List PyData} : Has K H x d → HasAll K H xs ds → HasAll K H (x :: xs) (d :: ds)
end
section
variable {X : Cx} {pins : List (Addr × Obj)} {σ : St} {H : Hp} {s : Shared}
mutual
theorem Has.reads (I : Inv X pins σ H s) : ∀ {x : V} {d : PyData} {u : Value}, Has X.K H x d → RelV x u → ∃ as, Reads s.heap u d as
  | _, _, _, .non, r => by cases r; exact ⟨_, .none⟩
  | _, _, _, .bl b, r => by cases r; exact ⟨_, .bool b⟩
  | _, _, _, .int i, r => by obtain ⟨t, rfl⟩ := r; exact ⟨_, .int i t⟩
  | _, _, _, .str x, r => by obtain ⟨t, rfl⟩ := r; exact ⟨_, .str x t⟩
  | _, _, _, .lst h hs, r => by
    cases r
    obtain ⟨its, rv, ⟨o, n, ho, hc, hd, hs'⟩, hz⟩ := I.list h
    obtain ⟨as, ra⟩ := HasAll.reads I hs rv
    exact ⟨_, .list ho hc hs' ra⟩
  | _, _, _, .tup h hs, r => by
    cases r
    obtain ⟨its, rv, ⟨o, ho, hc, n, hs'⟩, hz⟩ := I.tuple h
    obtain ⟨as, ra⟩ := HasAll.reads I hs rv
    exact ⟨_, .tuple ho hc hs' ra⟩
theorem HasAll.reads (I : Inv X pins σ H s) : ∀ {xs : List V} {ds : List PyData} {us : List Value}, HasAll X.K H xs ds → Vals xs us → ∃ as, ReadsAll s.heap us ds as
  | _, _, _, .nil, r => by cases r; exact ⟨_, .nil⟩
  | _, _, _, .cons h hs, .cons r rs => by
    obtain ⟨as, ra⟩ := Has.reads I h r
    obtain ⟨bs, rb⟩ := HasAll.reads I hs rs
    exact ⟨_, .cons ra rb⟩
end
end
def rEqD (K : PySem.W.Frag) : R2 := fun x y H Q => ∃ d e, Has K H x d ∧ Has K H y e ∧ SeqAt.shaped d = true ∧ SeqAt.shaped e = true ∧ Q (.bl (PyData.eqv d e)) H
def rNeD (K : PySem.W.Frag) : R2 := fun x y H Q => ∃ d e, Has K H x d ∧ Has K H y e ∧ SeqAt.shaped d = true ∧ SeqAt.shaped e = true ∧ Q (.bl (!PyData.eqv d e)) H
section
variable {X : Cx}
theorem op_eqD (hu : X.A.units + 64 < cLine) : OpR X (compareOp .Eq) (rEqD X.K) := by
  intro pins s σ H x y v u Q I rx ry h
  obtain ⟨d, e, hd, he, sd, se, q⟩ := h
  obtain ⟨as, ra⟩ := hd.reads I rx
  obtain ⟨bs, rb⟩ := he.reads I ry
  exact SeqAt.compareEq_reads ra rb (SeqAt.canLay_of_shaped sd) (SeqAt.canLay_of_shaped se) (SeqAt.room_of_shaped sd hu) ⟨.bl _, H, I, rfl, q⟩
theorem op_neD (hu : X.A.units + 64 < cLine) : OpR X (compareOp .NotEq) (rNeD X.K) := by
  intro pins s σ H x y v u Q I rx ry h
  obtain ⟨d, e, hd, he, sd, se, q⟩ := h
  obtain ⟨as, ra⟩ := hd.reads I rx
  obtain ⟨bs, rb⟩ := he.reads I ry
  exact SeqAt.compareNe_reads ra rb (SeqAt.canLay_of_shaped sd) (SeqAt.canLay_of_shaped se) (SeqAt.room_of_shaped sd hu) ⟨.bl _, H, I, rfl, q⟩
theorem vals_bl : ∀ {bs : List Bool} {us : List Value}, Vals (bs.map V.bl) us → us = bs.map Value.bool
  | [], _, r => by cases r; rfl
  | b :: bs, _, .cons r t => by
    cases r
    rw [vals_bl t]
    rfl
theorem range_all (bs : List Bool) : (List.range bs.length).all (fun i => bs.getD i false) = bs.all id := by
  rw [Bool.eq_iff_iff, List.all_eq_true, List.all_eq_true]
  constructor
  · intro h b hb
    obtain ⟨i, hi, e⟩ := List.mem_iff_getElem.mp hb
    have := h i (List.mem_range.mpr hi)
    rw [List.getD_eq_getElem?_getD, List.getElem?_eq_getElem hi] at this
    rw [← e]; exact this
  · intro h i hi
    have hi := List.mem_range.mp hi
    rw [List.getD_eq_getElem?_getD, List.getElem?_eq_getElem hi]
    exact h _ (List.getElem_mem hi)
theorem truthOf_bools (prog : Program) (w : World) (A : Around) (bs : List Bool) : TruthOf prog w A (fun i v => ((bs.map Value.bool).toArray)[i]? = some v) fun i => bs.getD i false := by
  intro i v s Q E hP hQ
  simp only [List.getElem?_toArray, List.getElem?_map] at hP
  cases e : bs[i]? with
  | none => rw [e] at hP; cases hP
  | some b =>
    rw [e] at hP
    cases hP
    dsimp only at hQ
    rw [List.getD_eq_getElem?_getD, e] at hQ
    exact wpAny_truthy_bool hQ
theorem call_all (hc : X.calm = true) : CallR X (.builtin "all") (fun xs H Q => ∃ (p : Addr) (bs : List Bool), xs = [.ref p] ∧ SqL X.K H p (bs.map V.bl) ∧ Q (.bl (bs.all id)) H) := by
  intro pins s σ H xs us Q I r h
  obtain ⟨p, bs, rfl, hq, q⟩ := h
  obtain ⟨u, rfl, rx⟩ := vals1 r
  cases rx
  obtain ⟨its, rv, pl, hz⟩ := I.list hq
  have e := vals_bl rv
  subst e
  have hne : p ≠ s.heap.objs.size := by obtain ⟨o, n, ho, _⟩ := pl; exact Nat.ne_of_lt (Heap.lt_size ho)
  refine call_all_walk (wpAny_pyIter_list pl.isList ?_)
  refine ⟨_, _, _, _, _, _, fun i => bs.getD i false, rfl, Walks.list (A := X.A.in1) (show X.A.in1.handled = none from I.ok.hd hc) s.heap.objs.size p hne (bs.map Value.bool).toArray, ⟨⟨_, Heap.get?_push_size _ rfl, rfl, rfl⟩, (pl.keeps fun b o e => Heap.get?_push_of_some _ e).isList⟩, truthOf_bools _ _ _ bs, fun h' tk hk => ?_⟩
  refine ⟨.bl (bs.all id), H, I.kept (t' := tk) fun b o e => hk b o (by simp; exact Nat.ne_of_lt (Heap.lt_size e)) (Heap.get?_push_of_some _ e), ?_, q⟩
  show Value.bool _ = Value.bool _
  rw [← range_all]
  simp
def clsV : V → Value
  | .ty n => .type n
  | .ref a => .ref a
  | _ => .none
theorem call_isinst : CallR X (.builtin "isinstance") (fun xs H Q => ∃ x c t b, xs = [x, c] ∧ (∃ n, c = .ty n) ∧ TyOf X.K H x t ∧ PySem.W.kitOne X.K t (clsV c) = some b ∧ Q (.bl b) H) := by
  intro pins s σ H xs us Q I r h
  obtain ⟨x, c, t, b, rfl, ⟨n, rfl⟩, ty, e, q⟩ := h
  obtain ⟨u, w', rfl, rx, rc⟩ := vals2 r
  cases rc
  exact isinst_ok I rx ty e fun tk => ⟨.bl b, H, I.tok _, rfl, q⟩
end
end L2
namespace L2
open PySem PySem.Spec PyProof.Rows
def Def (K : PySem.W.Frag) (mg : Str → Option Value) (x : Str) (st : Stmt) : Prop := ∃ f fd, mg x = some (.ref f) ∧ Fun K x x st f fd
def Own (P : Program) (w : World) (K : PySem.W.Frag) (mg : Str → Option Value) (base : Heap) (k : Nat) (x : Str) (ps : List Str) (sp : Sp) : Prop :=
  ∃ f fd, mg x = some (.ref f) ∧ PySem.W.keepIn K (.ref f) = true ∧ Binds K fd ps [] ∧ FnOk P w K mg base CX0 k f fd ps sp
theorem Def.own {P : Program} {w : World} {K : PySem.W.Frag} {mg : Str → Option Value} {base : Heap} {x : Str} {st : Stmt} {N ps : List Str} {k : Nat} {sp : Sp} (D : Def K mg x st) (S : FnScope N ps (defScope st))
    (hb : ∀ (kV doc pm : Value) (an : Option Addr) (cdv ct : Value) (us : List Value), us.length = ps.length → bindArgs (PySem.W.fnOf x x (defArgs st) (defBody st) (defScope st) .none kV doc pm an cdv ct) ⟨us, []⟩ = pure (ps.zip us))
    (len : ∀ vs H Q E, sp vs H Q E → vs.length = ps.length)
    (hbody : ∀ (f : Addr) (cdv : Value) (A : Around) (outer : List Env) (s : Shared) (H : Hp) (vs : List V) (Q : VK) (E : XK), Room k (A.deeper (envOfC x (defScope st) s.heap.objs.size f cdv)) → sp vs H Q E →
      ∃ t, PSs (cxOf CX0 P w K mg base N x (defScope st) f cdv A outer s H E).nox (defBody st) t ∧ t { nx := fun _ H' => Q .non H', rt := Q } (start N vs) H) : Own P w K mg base (k + 1) x ps sp := by
  obtain ⟨f, fd, hm, F⟩ := D
  exact ⟨f, fd, hm, F.kp, F.binds hb, F.ok S len (hbody f)⟩
theorem def_mk {K : PySem.W.Frag} {h : Heap} {mg : Str → Option Value} (X : K.In h) (G : h.Ns mainGlobals mg) {x : Str} {st : Stmt} {f : Addr} {oc : Value} {od an : Option Addr} {osl : Array (Option Value)} {kV doc pm cdv ct : Value}
    (a : PySem.W.nsIn K mainGlobals x = some (some (.ref f)))
    (l : K.lookup f = some ⟨oc, od, .func (PySem.W.fnOf x x (defArgs st) (defBody st) (defScope st) .none kV doc pm an cdv ct), osl⟩) (c : PySem.W.codeIn K cdv x = true) (k : PySem.W.keepIn K (.ref f) = true) : Def K mg x st :=
  ⟨f, _, PySem.W.mg_of X G a, fun_mk l c k⟩
section
variable {X : Cx} {j k : Nat} {x : Str} {ps : List Str} {sp : Sp} {p pos : Pos} {e : Expr} {es : List Expr} {t : TA}
theorem pe_fn (F : Own X.prog X.w X.K X.mg X.base j x ps sp) (hr : Room k X.A) (ha : PA X (e :: es) t) (hk : j ≤ k := by decide) (hg : Gl X x := by rfl)
    (hdb : (x == ("__debug__" : Str)) = false := by decide) (he : starEach (e :: es) X.env = (false, eval e X.env) :: starEach es X.env := by rfl) (hpl : (backTo pos (starEach es X.env)).any (·.1) = false := by rfl) :
    PE X (.Call (.Name x p) (e :: es) [] pos) (tCall sp [] E0 t) := by
  obtain ⟨f, fd, hm, kp, hb, F⟩ := F
  exact pe_call F (hr.mono hk) hg hm kp hb .nil pass0 ha hdb he hpl
end
def Blt (mg : Str → Option Value) : Prop := ∀ x : Str, x ∈ (["len", "any", "all", "max", "min", "isinstance", "list", "tuple", "int", "bool", "str", "dict", "range"] : List Str) → mg x = none
theorem blt_mk {K : PySem.W.Frag} {h : Heap} {mg : Str → Option Value} (X : K.In h) (G : h.Ns mainGlobals mg) (z0 : PySem.W.nsIn K mainGlobals "len" = some none) (z1 : PySem.W.nsIn K mainGlobals "any" = some none) (z2 : PySem.W.nsIn K mainGlobals "all" = some none) (z3 : PySem.W.nsIn K mainGlobals "max" = some none) (z4 : PySem.W.nsIn K mainGlobals "min" = some none) (z5 : PySem.W.nsIn K mainGlobals "isinstance" = some none) (z6 : PySem.W.nsIn K mainGlobals "list" = some none) (z7 : PySem.W.nsIn K mainGlobals "tuple" = some none) (z8 : PySem.W.nsIn K mainGlobals "int" = some none) (z9 : PySem.W.nsIn K mainGlobals "bool" = some none) (z10 : PySem.W.nsIn K mainGlobals "str" = some none) (z11 : PySem.W.nsIn K mainGlobals "dict" = some none) (z12 : PySem.W.nsIn K mainGlobals "range" = some none) : Blt mg := by
  intro x hx
  simp only [List.mem_cons, List.not_mem_nil, or_false] at hx
  rcases hx with rfl | rfl | rfl | rfl | rfl | rfl | rfl | rfl | rfl | rfl | rfl | rfl | rfl
  · exact PySem.W.mg_none_of X G z0
  · exact PySem.W.mg_none_of X G z1
  · exact PySem.W.mg_none_of X G z2
  · exact PySem.W.mg_none_of X G z3
  · exact PySem.W.mg_none_of X G z4
  · exact PySem.W.mg_none_of X G z5
  · exact PySem.W.mg_none_of X G z6
  · exact PySem.W.mg_none_of X G z7
  · exact PySem.W.mg_none_of X G z8
  · exact PySem.W.mg_none_of X G z9
  · exact PySem.W.mg_none_of X G z10
  · exact PySem.W.mg_none_of X G z11
  · exact PySem.W.mg_none_of X G z12
theorem bt_len : bootBuiltins "len" = some (.builtin "len") := by decide +kernel
theorem bt_all : bootBuiltins "all" = some (.builtin "all") := by decide +kernel
theorem bt_isinstance : bootBuiltins "isinstance" = some (.builtin "isinstance") := by decide +kernel
theorem bt_list : bootBuiltins "list" = some (.type "list") := by decide +kernel
theorem bt_tuple : bootBuiltins "tuple" = some (.type "tuple") := by decide +kernel
theorem bt_int : bootBuiltins "int" = some (.type "int") := by decide +kernel
theorem bt_bool : bootBuiltins "bool" = some (.type "bool") := by decide +kernel
theorem bt_str : bootBuiltins "str" = some (.type "str") := by decide +kernel
theorem bt_dict : bootBuiltins "dict" = some (.type "dict") := by decide +kernel
end L2
namespace HT
open PySem PySem.Spec PyProof.Rows
section
variable {prog : Program} {w : World} {A : Around} {E : Value → Shared → Prop} {s : Shared}
theorem getItem_tuple_whole {t sl : Addr} {items : Array Value} {vl vu : Value} {lo hi : Option Int} {Q : Value → Shared → Prop} (ht : IsTup s.heap t items) (hs : s.heap.IsSliceOf sl vl vu .none) (pl : IsPart vl lo) (pu : IsPart vu hi)
    (hw : sIx items.size 0 lo = 0 ∧ sIx items.size items.size hi = items.size)
    (h : Q (.ref t) s) : wpAny (model prog w) A (getItem (.ref t) (.ref sl)) Q E s := by
  obtain ⟨os, hos, hcs, hds⟩ := id hs
  have hTs : s.TypeIs (.ref sl) "slice" := ⟨os, hos, hcs⟩
  unfold getItem
  try with_reducible refine wpAny_holding ?_
  first | refine wpAny_bind (wpAny_pure ?_) | skip
  refine wpAny_bind (wpAny_sequenceKey ht.typeIs (by decide) ?_)
  refine wpAny_bind (wpAny_callSpecial?_slot (name := Str.ofString "__getitem__") ht.typeIs PyProof.Rows.slot_tuple_getitem
    (wpAny_call_entry PyProof.Rows.slot_tuple_getitem ht.typeIs entry_tuple_getitem ?_ (args_tuple_getitem _ _)))
  show wpAny _ _ (Builtin.Tuple.tupleItemsOf (.ref t) >>= _) _ _ s
  refine wpAny_bind (tupleItemsOf_ ht ?_)
  refine wpAny_bind (wpAny_typeOf hTs ?_)
  rw [if_pos (by decide)]
  refine wpAny_bind (sliceApplied_gen hs pl pu ?_)
  have hyes : (((sIx items.size 0 lo : Nat) : Int) == 0 && (1 : Int) == 1 && (sIx items.size items.size hi - sIx items.size 0 lo) == items.size) = true := by
    rw [hw.1, hw.2]; simp
  show wpAny _ _ (if (((sIx items.size 0 lo : Nat) : Int) == 0 && (1 : Int) == 1 && (sIx items.size items.size hi - sIx items.size 0 lo) == items.size) = true then _ else _) _ _ s
  rw [if_pos hyes]
  unfold Builtin.Tuple.tupleIsExact
  refine wpAny_bind (wpAny_bind (wpAny_typeOf ht.typeIs (wpAny_pure ?_)))
  rw [if_pos (by decide)]
  exact wpAny_bind (wpAny_rule (wpAny_pure ⟨_, rfl, wpAny_pure h⟩))
end
end HT
namespace L2
open PySem PySem.Spec PyProof.Rows
section
variable {X : Cx}
def rSlW (K : PySem.W.Frag) : V → Option Int → Option Int → Hp → VK → Prop := fun x lo hi H Q => ∃ a xs, x = .ref a ∧ SqT K H a xs ∧ ((HT.sIx xs.length 0 lo = 0 ∧ HT.sIx xs.length xs.length hi = xs.length) → Q (.ref a) H) ∧
  (¬ (HT.sIx xs.length 0 lo = 0 ∧ HT.sIx xs.length xs.length hi = xs.length) → ∀ p, H p = none → Q (.ref p) (upd H p (.tup (cutV xs lo hi))))
theorem sl_tupW : SlR X (rSlW X.K) := by
  intro pins s σ H x v vl vu lo hi sl Q I rx hs pl pu h
  obtain ⟨a, xs, rfl, hx, q1, q2⟩ := h
  by_cases hw : HT.sIx xs.length 0 lo = 0 ∧ HT.sIx xs.length xs.length hi = xs.length
  · cases rx
    obtain ⟨its, r, ht, hz⟩ := I.tuple hx
    have hlen : its.toArray.size = xs.length := by rw [List.size_toArray]; exact r.length.symm
    refine ⟨"tuple", _, PyProof.Rows.slot_tuple_getitem.lookup, ht.typeIs, ?_⟩
    exact HT.getItem_tuple_whole ht hs pl pu (by rw [hlen]; exact hw) ⟨.ref a, H, I, rfl, q1 hw⟩
  · exact sl_tup pins s σ H _ v vl vu lo hi sl Q I rx hs pl pu ⟨a, xs, rfl, hx, hw, q2 hw⟩
end
end L2
namespace L2
open PySem PySem.Spec PyProof.Rows
section
variable {X : Cx} (K : PySem.W.Frag)
theorem ix_tupK (h : X.K = K := by rfl) : IxR X (rIxT K) := by subst h; exact ix_tup
theorem sl_listK (h : X.K = K := by rfl) : SlR X (rSlL K) := by subst h; exact sl_list
theorem sl_tupK (h : X.K = K := by rfl) : SlR X (rSlW K) := by subst h; exact sl_tupW
def rLen (K : PySem.W.Frag) : List V → Hp → VK → Prop := fun xs H Q => ∃ p ys, xs = [.ref p] ∧ (SqL K H p ys ∨ SqT K H p ys) ∧ Q (.int ys.length) H
theorem call_lenK (h : X.K = K := by rfl) : CallR X (.builtin "len") (rLen K) := by subst h; exact call_len_seq
theorem pi_listK {tg l : Expr} {tl : TE} (hl : PE X l tl) (h : X.K = K := by rfl) : PI X tg l (iList K tl) := by subst h; exact pi_list hl
theorem pi_tupK {tg l : Expr} {tl : TE} (hl : PE X l tl) (h : X.K = K := by rfl) : PI X tg l (iTup K tl) := by subst h; exact pi_tup hl
theorem pg_tupK {es : List Expr} {k : Nat} {t : TGs} {n : Nat} {pos : Pos} (hc : X.calm = true) (hg : PGs X es t)
    (hn : (assignEach es X.env).length = n := by rfl) (hst : (assignEach es X.env).findIdx? (·.1) = none := by rfl) (h : X.K = K := by rfl) : PG X (.Tuple es k pos) (gTup K n t) := by
  subst h; exact pg_tup hc hg hn hst
theorem op_notinK (h : X.K = K := by rfl) : OpR X (compareOp .NotIn) (rIn K true) := by subst h; exact op_notIn_seq
theorem pe_fldK {e : Expr} {ta : TE} {f : Str} {pos : Pos} (he : PE X e ta) (hb : attributeBase e f X.env (eval e X.env) = eval e X.env := by rfl) (h : X.K = K := by rfl) : PE X (.Attribute e f pos) (tFld K ta f) := by subst h; exact pe_fld he hb
end
end L2
namespace L2
open PySem PySem.Spec PyProof.Rows
def CompW (n : Nat) (js : List Nat) (g : TG) (tc : TT) (te : TE) (σ : St) (Q : VK) (J : It) (H1 : Hp) : Prop :=
  ∀ D, H1 D = none → ∃ W : Nat → Nat → List V → Hp → Prop, (∃ m, W 0 m [] (upd H1 D (.lst []))) ∧ ∀ i m acc H, W i m acc H →
    H D = some (.lst acc) ∧ ((J.stop i H ∧ Q (.ref D) H) ∨ (J.go i H ∧ acc.length < sizeLine ∧ ∃ Nx : List V → Hp → Prop, (∀ acc' H', Nx acc' H' → ∃ m', m' < m ∧ W (i + 1) m' acc' H') ∧
      ∀ x H', J.yld i H x H' → g x (cSt n js σ) H' fun σ2 H2 => σ2.drop n = (cSt n js σ).drop n ∧ tc σ2 H2 fun b H3 => if b = true then te σ2 H3 fun v H4 => H4 D = some (.lst acc) ∧ Nx (acc ++ [v]) (upd H4 D (.lst (acc ++ [v]))) else H3 D = some (.lst acc) ∧ Nx acc H3))
section
variable {n : Nat} {js : List Nat} {g : TG} {tc : TT} {te : TE} {σ : St} {Q : VK} {H1 : Hp}
theorem comp_list {K : PySem.W.Frag} {a : Addr} {xs : List V} (hz : xs.length ≤ sizeLine) (Pv : Addr → Nat → List V → Hp → Prop) (h0 : ∀ D, H1 D = none → Pv D 0 [] (upd H1 D (.lst [])))
    (hl : ∀ D i acc H, H1 D = none → i ≤ xs.length → Pv D i acc H → H D = some (.lst acc) ∧ SqL K H a xs ∧ acc.length ≤ i)
    (hs : ∀ D i x acc H, H1 D = none → xs[i]? = some x → Pv D i acc H → g x (cSt n js σ) H fun σ2 H2 => σ2.drop n = (cSt n js σ).drop n ∧ tc σ2 H2 fun b H3 => if b = true then te σ2 H3 fun v H4 => H4 D = some (.lst acc) ∧ Pv D (i + 1) (acc ++ [v]) (upd H4 D (.lst (acc ++ [v]))) else H3 D = some (.lst acc) ∧ Pv D (i + 1) acc H3)
    (hd : ∀ D acc H, H1 D = none → Pv D xs.length acc H → Q (.ref D) H) : CompW n js g tc te σ Q (Itl K a) H1 := by
  intro D hD
  refine ⟨fun i m acc H => m = xs.length - i ∧ i ≤ xs.length ∧ Pv D i acc H, ⟨xs.length, by simp, Nat.zero_le _, h0 D hD⟩, ?_⟩
  rintro i m acc H ⟨rfl, hi, p⟩
  obtain ⟨e1, q, e3⟩ := hl D i acc H hD hi p
  refine ⟨e1, ?_⟩
  by_cases hlt : i < xs.length
  · refine .inr ⟨⟨xs, xs[i], q, by simp [hlt]⟩, by omega, Pv D (i + 1), fun acc' H' p' => ⟨xs.length - (i + 1), by omega, rfl, hlt, p'⟩, fun x H' y => ?_⟩
    obtain ⟨e, y⟩ := y
    subst e
    exact hs D i x acc _ hD (y xs q) p
  · have e : i = xs.length := by omega
    subst e
    exact .inl ⟨⟨xs, q, Nat.le_refl _⟩, hd D acc H hD p⟩
theorem comp_range {lo : Int} {m : Nat} (hz : m ≤ sizeLine) (Pv : Addr → Nat → List V → Hp → Prop) (h0 : ∀ D, H1 D = none → Pv D 0 [] (upd H1 D (.lst [])))
    (hl : ∀ D i acc H, H1 D = none → i ≤ m → Pv D i acc H → H D = some (.lst acc) ∧ acc.length ≤ i)
    (hs : ∀ D i acc H, H1 D = none → i < m → Pv D i acc H → g (.int (lo + i)) (cSt n js σ) H fun σ2 H2 => σ2.drop n = (cSt n js σ).drop n ∧ tc σ2 H2 fun b H3 => if b = true then te σ2 H3 fun v H4 => H4 D = some (.lst acc) ∧ Pv D (i + 1) (acc ++ [v]) (upd H4 D (.lst (acc ++ [v]))) else H3 D = some (.lst acc) ∧ Pv D (i + 1) acc H3)
    (hd : ∀ D acc H, H1 D = none → Pv D m acc H → Q (.ref D) H) : CompW n js g tc te σ Q (Itr lo m) H1 := by
  intro D hD
  refine ⟨fun i k acc H => k = m - i ∧ i ≤ m ∧ Pv D i acc H, ⟨m, by simp, Nat.zero_le _, h0 D hD⟩, ?_⟩
  rintro i k acc H ⟨rfl, hi, p⟩
  obtain ⟨e1, e3⟩ := hl D i acc H hD hi p
  refine ⟨e1, ?_⟩
  by_cases hlt : i < m
  · refine .inr ⟨hlt, by omega, Pv D (i + 1), fun acc' H' p' => ⟨m - (i + 1), by omega, rfl, hlt, p'⟩, fun x H' y => ?_⟩
    obtain ⟨e, y⟩ := y
    subst e y
    exact hs D i acc _ hD hlt p
  · have e : i = m := by omega
    subst e
    exact .inl ⟨Nat.le_refl _, hd D acc H hD p⟩
theorem Same.upd_new {H : Hp} {a : Addr} {o : HO} (h : H a = none) : Same H (upd H a o) := fun b u e => by
  rw [upd_ne (ne_of_none e h)]
  exact e
theorem Same.upd {H0 H : Hp} {a : Addr} {o : HO} (e : Same H0 H) (h : H0 a = none) : Same H0 (upd H a o) := fun b u q => by
  rw [upd_ne (ne_of_none q h)]
  exact e b u q
theorem gName_mono (i : Nat) : ∀ (x : V) (σ : St) (H : Hp) (P P' : St → Hp → Prop), (∀ σ2 H2, P σ2 H2 → P' σ2 H2) → gName i x σ H P → gName i x σ H P' := fun _ _ _ _ _ h q => h _ _ q
end
theorem cxOf_K {CX : CXT} {P : Program} {w : World} {K : PySem.W.Frag} {mg : Str → Option Value} {base : Heap} {N : List Str} {qual : Str} {scope : Scope} {f : Addr} {cd : Value} {A : Around} {outer : List Env} {s : Shared} {H : Hp} {E : XK} :
    (cxOf CX P w K mg base N qual scope f cd A outer s H E).K = K := rfl
theorem upd_none {H : Hp} {p a : Addr} {o : HO} (h : upd H p o a = none) : a ≠ p ∧ H a = none := by
  unfold upd at h
  split at h
  · cases h
  · rename_i z; exact ⟨z, h⟩
section
variable {H : Hp} {Q : VK} {i j : Int} {b c : Bool} {x y : Str}
theorem rEq_ii : rEq (.int i) (.int j) H Q = Q (.bl (decide (i = j))) H := by simp [rEq, scal]
theorem rNe_ii : rNe (.int i) (.int j) H Q = Q (.bl (!decide (i = j))) H := by simp [rNe, scal]
theorem cmul_mod {a m b : Int} (h0 : 0 < m) (h1 : m ≤ 2147483648) : CMul (a % m) b := by
  have h2 := Int.emod_nonneg a (show m ≠ 0 by omega)
  have h3 := Int.emod_lt_of_pos a h0
  exact .inl ⟨by omega, by omega⟩
end
def ForW (g : TG) (tb : TS) (D : Ends) (σ : St) (J : It) (H1 : Hp) : Prop := ∃ W : Nat → Nat → St → Hp → Prop, (∃ m, W 0 m σ H1) ∧ ∀ i m σ H, W i m σ H →
  (J.stop i H ∧ D.nx σ H) ∨ (J.go i H ∧ ∃ N : St → Hp → Prop, (∀ σ' H', N σ' H' → ∃ m', m' < m ∧ W (i + 1) m' σ' H') ∧ ∀ x H', J.yld i H x H' → g x σ H' fun σ2 H2 => tb { D with nx := N, ct := N, bk := D.nx } σ2 H2)
theorem tFor_eq {wi : TI} {g : TG} {tb : TS} {D : Ends} {σ : St} {H : Hp} : tFor wi g tb D σ H = wi σ H fun J H1 => ForW g tb D σ J H1 := rfl
theorem tComp_eq {n : Nat} {js : List Nat} {wi : TI} {g : TG} {tc : TT} {te : TE} {σ : St} {H : Hp} {Q : VK} : tComp n js wi g tc te σ H Q = wi σ H fun J H1 => CompW n js g tc te σ Q J H1 := rfl
theorem new_same {H H' : Hp} {p : Addr} {o : HO} (h : upd H p o = H') (hp : H p = none) : Same H H' ∧ H' p = some o := by
  subst h
  exact ⟨Same.upd_new hp, upd_same⟩
end L2
namespace L2
open PySem PySem.Spec PyProof.Rows
def TupI (H : Hp) (x : V) (d : List Int) : Prop := ∃ t, x = .ref t ∧ H t = some (.tup (d.map V.int))
abbrev DeedsX (H : Hp) (xs : List V) (ds : List (List Int)) : Prop := Paired (TupI H) xs ds
def DeedsAt (H : Hp) (a : Addr) (ds : List (List Int)) : Prop := ∃ xs, H a = some (.lst xs) ∧ DeedsX H xs ds
section
variable {H H' : Hp} {x : V} {d : List Int} {xs ys : List V} {ds es : List (List Int)} {a : Addr} {o : HO}
theorem paired_get {α β : Type} {F : α → β → Prop} : ∀ {l1 : List α} {l2 : List β} {i : Nat} {x : α}, Paired F l1 l2 → l1[i]? = some x → ∃ y, l2[i]? = some y ∧ F x y
  | _, _, _, _, .nil, e => by simp at e
  | _, _, 0, _, .cons r _, e => by simp at e; subst e; exact ⟨_, rfl, r⟩
  | _, _, i + 1, x, .cons _ t, e => by
    obtain ⟨u, h1, h2⟩ := paired_get (i := i) (x := x) t (by simpa using e)
    exact ⟨u, by simpa using h1, h2⟩
theorem cutV_map (d : List Int) (lo hi : Option Int) : ∃ e : List Int, cutV (d.map V.int) lo hi = e.map V.int := by
  unfold cutV
  exact ⟨(d.drop (HT.sIx (d.map V.int).length 0 lo)).take (HT.sIx (d.map V.int).length (d.map V.int).length hi - HT.sIx (d.map V.int).length 0 lo), by rw [List.map_take, List.map_drop]⟩
end
end L2
namespace L2
open PySem PySem.Spec PyProof.Rows
def DefM (K : PySem.W.Frag) (C : Addr) (m qual : Str) (st : Stmt) : Prop := ∃ f fd, Meth K C m f ∧ Fun K m qual st f fd
def DefI (K : PySem.W.Frag) (C : Addr) (qual : Str) (st : Stmt) : Prop := ∃ f fd, Mk K C f ∧ Fun K "__init__" qual st f fd
def OwnM (P : Program) (w : World) (K : PySem.W.Frag) (mg : Str → Option Value) (base : Heap) (k : Nat) (C : Addr) (m : Str) (ps : List Str) (sp : Sp) : Prop :=
  ∃ f fd, Meth K C m f ∧ Binds K fd ps [] ∧ FnOk P w K mg base CX0 k f fd ps sp
def OwnI (P : Program) (w : World) (K : PySem.W.Frag) (mg : Str → Option Value) (base : Heap) (k : Nat) (C : Addr) (ps : List Str) (sp : Sp) : Prop :=
  ∃ f fd, Mk K C f ∧ Binds K fd ps [] ∧ FnOk P w K mg base CX0 k f fd ps sp
structure ClsD (K : PySem.W.Frag) (mg : Str → Option Value) (x : Str) (C : Addr) (attrs : List Str) : Prop where
  mgC : mg x = some (.ref C)
  cl : Cls K C
  no : ∀ f ∈ attrs, NoAttr K C f
section
variable {P : Program} {w : World} {K : PySem.W.Frag} {mg : Str → Option Value} {base : Heap} {C : Addr} {m qual : Str} {st : Stmt} {N ps : List Str} {k : Nat} {sp : Sp}
theorem DefM.own (D : DefM K C m qual st) (S : FnScope N ps (defScope st))
    (hb : ∀ (kV doc pm : Value) (an : Option Addr) (cdv ct : Value) (us : List Value), us.length = ps.length → bindArgs (PySem.W.fnOf m qual (defArgs st) (defBody st) (defScope st) .none kV doc pm an cdv ct) ⟨us, []⟩ = pure (ps.zip us))
    (len : ∀ vs H Q E, sp vs H Q E → vs.length = ps.length)
    (hbody : ∀ (f : Addr) (cdv : Value) (A : Around) (outer : List Env) (s : Shared) (H : Hp) (vs : List V) (Q : VK) (E : XK), Room k (A.deeper (envOfC qual (defScope st) s.heap.objs.size f cdv)) → sp vs H Q E →
      ∃ t, PSs (cxOf CX0 P w K mg base N qual (defScope st) f cdv A outer s H E).nox (defBody st) t ∧ t { nx := fun _ H' => Q .non H', rt := Q } (start N vs) H) : OwnM P w K mg base (k + 1) C m ps sp := by
  obtain ⟨f, fd, hm, F⟩ := D
  exact ⟨f, fd, hm, F.binds hb, F.ok S len (hbody f)⟩
theorem DefI.own (D : DefI K C qual st) (S : FnScope N ps (defScope st))
    (hb : ∀ (kV doc pm : Value) (an : Option Addr) (cdv ct : Value) (us : List Value), us.length = ps.length → bindArgs (PySem.W.fnOf "__init__" qual (defArgs st) (defBody st) (defScope st) .none kV doc pm an cdv ct) ⟨us, []⟩ = pure (ps.zip us))
    (len : ∀ vs H Q E, sp vs H Q E → vs.length = ps.length)
    (hbody : ∀ (f : Addr) (cdv : Value) (A : Around) (outer : List Env) (s : Shared) (H : Hp) (vs : List V) (Q : VK) (E : XK), Room k (A.deeper (envOfC qual (defScope st) s.heap.objs.size f cdv)) → sp vs H Q E →
      ∃ t, PSs (cxOf CX0 P w K mg base N qual (defScope st) f cdv A outer s H E).nox (defBody st) t ∧ t { nx := fun _ H' => Q .non H', rt := Q } (start N vs) H) : OwnI P w K mg base (k + 1) C ps sp := by
  obtain ⟨f, fd, hm, F⟩ := D
  exact ⟨f, fd, hm, F.binds hb, F.ok S len (hbody f)⟩
theorem defM_mk {f : Addr} {oc : Value} {od an : Option Addr} {osl : Array (Option Value)} {kV doc pm cdv ct : Value} (a : PySem.W.findIn K (.ref C) m = some (some (.ref f))) (i : PySem.W.isFn K (.ref f) = true)
    (l : K.lookup f = some ⟨oc, od, .func (PySem.W.fnOf m qual (defArgs st) (defBody st) (defScope st) .none kV doc pm an cdv ct), osl⟩) (c : PySem.W.codeIn K cdv qual = true) (k : PySem.W.keepIn K (.ref f) = true) : DefM K C m qual st :=
  ⟨f, _, ⟨a, i, k⟩, fun_mk l c k⟩
theorem defI_mk {f : Addr} {oc : Value} {od an : Option Addr} {osl : Array (Option Value)} {kV doc pm cdv ct : Value} (a : PySem.W.findIn K (.ref C) "__init__" = some (some (.ref f))) (i : PySem.W.isFn K (.ref f) = true)
    (l : K.lookup f = some ⟨oc, od, .func (PySem.W.fnOf "__init__" qual (defArgs st) (defBody st) (defScope st) .none kV doc pm an cdv ct), osl⟩) (c : PySem.W.codeIn K cdv qual = true) (k : PySem.W.keepIn K (.ref f) = true)
    (mk : PySem.W.makesIn K C = true) (kc : PySem.W.keepIn K (.ref C) = true) : DefI K C qual st :=
  ⟨f, _, ⟨mk, a, i, kc⟩, fun_mk l c k⟩
end
section
variable {X : Cx} {j k : Nat} {C : Addr} {x m : Str} {ps : List Str} {sp : Sp} {p pos apos : Pos} {o e : Expr} {es : List Expr} {ta : TE} {t : TA}
theorem pe_mak (M : OwnI X.prog X.w X.K X.mg X.base j C ps sp) (hr : Room k X.A) (hm : X.mg x = some (.ref C)) (ha : PA X (e :: es) t) (hk : j + 1 ≤ k := by decide) (hg : Gl X x := by rfl)
    (hdb : (x == ("__debug__" : Str)) = false := by decide) (he : starEach (e :: es) X.env = (false, eval e X.env) :: starEach es X.env := by rfl) (hpl : (backTo pos (starEach es X.env)).any (·.1) = false := by rfl) :
    PE X (.Call (.Name x p) (e :: es) [] pos) (tMake C sp [] E0 t) := by
  obtain ⟨f, fd, hk', hb, F⟩ := M
  exact pe_make hk' F (hr.mono hk) hg hm hb .nil pass0 ha hdb he hpl
end
theorem pe_glb {X : Cx} {x : Str} {v : V} {pos : Pos} (h : ∃ u, X.mg x = some u ∧ RelV v u) (hg : Gl X x := by rfl) (hd : (x == ("__debug__" : Str)) = false := by decide) : PE X (.Name x pos) (tC v) := by
  obtain ⟨u, hm, r⟩ := h
  exact pe_glob hg hm r hd
section
variable {X : Cx} {o value : Expr} {td tv : TE} {x : Str} {j : Nat} {pos pos' cpos : Pos}
end
theorem glb_mk {K : PySem.W.Frag} {h : Heap} {mg : Str → Option Value} (X : K.In h) (G : h.Ns mainGlobals mg) {x : Str} {i : Int} {t : Tok} (a : PySem.W.nsIn K mainGlobals x = some (some (.int i t))) : ∃ u, mg x = some u ∧ RelV (.int i) u :=
  ⟨_, PySem.W.mg_of X G a, t, rfl⟩
theorem comp_tup {n : Nat} {js : List Nat} {g : TG} {tc : TT} {te : TE} {σ : St} {Q : VK} {H1 : Hp} {K : PySem.W.Frag} {a : Addr} {xs : List V} (hz : xs.length ≤ sizeLine) (Pv : Addr → Nat → List V → Hp → Prop) (h0 : ∀ D, H1 D = none → Pv D 0 [] (upd H1 D (.lst [])))
    (hl : ∀ D i acc H, H1 D = none → i ≤ xs.length → Pv D i acc H → H D = some (.lst acc) ∧ SqT K H a xs ∧ acc.length ≤ i)
    (hs : ∀ D i x acc H, H1 D = none → xs[i]? = some x → Pv D i acc H → g x (cSt n js σ) H fun σ2 H2 => σ2.drop n = (cSt n js σ).drop n ∧ tc σ2 H2 fun b H3 => if b = true then te σ2 H3 fun v H4 => H4 D = some (.lst acc) ∧ Pv D (i + 1) (acc ++ [v]) (upd H4 D (.lst (acc ++ [v]))) else H3 D = some (.lst acc) ∧ Pv D (i + 1) acc H3)
    (hd : ∀ D acc H, H1 D = none → Pv D xs.length acc H → Q (.ref D) H) : CompW n js g tc te σ Q (Itt K a) H1 := by
  intro D hD
  refine ⟨fun i m acc H => m = xs.length - i ∧ i ≤ xs.length ∧ Pv D i acc H, ⟨xs.length, by simp, Nat.zero_le _, h0 D hD⟩, ?_⟩
  rintro i m acc H ⟨rfl, hi, p⟩
  obtain ⟨e1, q, e3⟩ := hl D i acc H hD hi p
  refine ⟨e1, ?_⟩
  by_cases hlt : i < xs.length
  · refine .inr ⟨⟨xs, xs[i], q, by simp [hlt]⟩, by omega, Pv D (i + 1), fun acc' H' p' => ⟨xs.length - (i + 1), by omega, rfl, hlt, p'⟩, fun x H' y => ?_⟩
    obtain ⟨e, y⟩ := y
    subst e
    exact hs D i x acc _ hD (y xs q) p
  · have e : i = xs.length := by omega
    subst e
    exact .inl ⟨⟨xs, q, Nat.le_refl _⟩, hd D acc H hD p⟩
end L2
namespace K04
end K04
namespace L2
open PySem PySem.Spec PyProof.Rows
def optV : Option Int → V
  | some n => .int n
  | none => .non
def Keep (S : List Addr) (H H' : Hp) : Prop := ∀ b o, H b = some o → b ∉ S → H' b = some o
section
variable {S T : List Addr} {H H1 H2 : Hp} {a b : Addr} {o : HO}
theorem Keep.refl : Keep S H H := fun _ _ h _ => h
theorem Keep.trans (k : Keep S H H1) (j : Keep S H1 H2) : Keep S H H2 := fun b o h n => j b o (k b o h n) n
theorem Same.keep (s : Same H H1) : Keep S H H1 := fun b o h _ => s b o h
theorem Keep.upd (k : Keep S H H1) (h : a ∈ S ∨ H a = none) : Keep S H (upd H1 a o) := fun b u e n => by
  rw [upd_ne]
  · exact k b u e n
  · rintro rfl
    rcases h with z | z
    · exact n z
    · rw [z] at e; cases e
end
inductive LetV (H : Hp) : V → PyData → Prop
  | str {t : Str} (ok : PyData.strOk t = true) : LetV H (.str t) (.str t)
  | int (n : Int) : LetV H (.int n) (.int n)
  | lst {p : Addr} {n : Int} : H p = some (.lst [.int n]) → LetV H (.ref p) (.list [.int n])
  | tup {p : Addr} {t : Str} {n : Int} (ok : PyData.strOk t = true) : H p = some (.tup [.str t, .int n]) → LetV H (.ref p) (.tuple [.str t, .int n])
section
variable {S : List Addr} {H H' : Hp} {x : V} {d : PyData} {b : Addr}
end
section
variable {S : List Addr} {H H' : Hp}
end
def PairV (H : Hp) (x : V) (p : Int × PyData) : Prop := ∃ t y, x = .ref t ∧ H t = some (.tup [.int p.1, y]) ∧ LetV H y p.2
def PairsX (H : Hp) (xs : List V) (us : List (Int × PyData)) : Prop := Paired (PairV H) xs us
section
variable {S : List Addr} {H H' : Hp} {xs : List V} {us : List (Int × PyData)} {b : Addr}
end
def del (ds : List (List Int)) (z : Int) : List Int := if ds = [] then [1] else ds.getD (z.toNat % ds.length) []
def rf (l : Addr) (ls la : Option Int) (u : Addr) : List (Str × V) := [("deeds", .ref l), ("last_sent", optV ls), ("last_asked", optV la), ("underway", .ref u)]
section
variable {l u : Addr} {ls la : Option Int}
end
structure RoadAt (C : Addr) (H : Hp) (x dx l u : Addr) (ds : List (List Int)) (ls la : Option Int) (us : List (Int × PyData)) : Prop where
  ins : H x = some (.ins C dx (rf l ls la u))
  deeds : DeedsAt H l ds
  und : ∃ xs, H u = some (.lst xs) ∧ PairsX H xs us
  ne : l ≠ u
section
variable {S : List Addr} {C : Addr} {H H' : Hp} {x dx l u : Addr} {ds : List (List Int)} {ls la : Option Int} {us : List (Int × PyData)}
end
end L2
namespace L2
open PySem PySem.Spec PyProof.Rows
theorem Same.seqT {K : PySem.W.Frag} {H H' : Hp} {a : Addr} {xs : List V} (e : Same H H') (h : SqT K H a xs) : SqT K H' a xs := by
  rcases h with h | h
  · rcases h with h | ⟨o, h⟩
    · exact .inl (.inl (e _ _ h))
    · exact .inl (.inr ⟨o, e _ _ h⟩)
  · exact .inr h
theorem SqT.keep {K : PySem.W.Frag} {S : List Addr} {H H' : Hp} {a : Addr} {xs : List V} (k : Keep S H H') (hs : ∀ b ∈ S, ∃ ys, H b = some (.lst ys)) (h : SqT K H a xs) : SqT K H' a xs := by
  rcases h with h | h
  · rcases h with h | ⟨o, h⟩
    · exact .inl (.inl (k _ _ h fun z => by obtain ⟨ys, e⟩ := hs _ z; rw [h] at e; cases e))
    · exact .inl (.inr ⟨o, k _ _ h fun z => by obtain ⟨ys, e⟩ := hs _ z; rw [h] at e; cases e⟩)
  · exact .inr h
end L2
namespace L2
open PySem PySem.Spec PyProof.Rows
mutual
inductive Im (H : Hp) : V → PyData → Prop
  | non : Im H .non .none
  | bl (b : Bool) : Im H (.bl b) (.bool b)
  | int (n : Int) : Im H (.int n) (.int n)
  | str {t : Str} (ok : PyData.strOk t = true) : Im H (.str t) (.str t)
  | tup {p : Addr} {xs : List V} {ds : List PyData} : H p = some (.tup xs) → Ims H xs ds → xs.length ≤ 1000 → Im H (.ref p) (.tuple ds)
inductive Ims (H : Hp) : List V → List PyData → Prop
  | nil : Ims H [] []
  | cons {x : V} {xs : List V} {d : PyData} {ds : List PyData} : Im H x d → Ims H xs ds → Ims H (x :: xs) (d :: ds)
end
def NoT (H : Hp) (b : Addr) : Prop := ∀ xs, H b ≠ some (.tup xs)
section
variable {S : List Addr} {H H' : Hp} {b : Addr}
mutual
theorem Im.keep (k : Keep S H H') (hs : ∀ b ∈ S, NoT H b) : ∀ {x : V} {d : PyData}, Im H x d → Im H' x d
  | _, _, .non => .non
  | _, _, .bl b => .bl b
  | _, _, .int n => .int n
  | _, _, .str ok => .str ok
  | _, _, .tup h hx hl => .tup (k _ _ h fun z => hs _ z _ h) (Ims.keep k hs hx) hl
theorem Ims.keep (k : Keep S H H') (hs : ∀ b ∈ S, NoT H b) : ∀ {xs : List V} {ds : List PyData}, Ims H xs ds → Ims H' xs ds
  | _, _, .nil => .nil
  | _, _, .cons r t => .cons (Im.keep k hs r) (Ims.keep k hs t)
end
mutual
theorem Im.has {K : PySem.W.Frag} : ∀ {x : V} {d : PyData}, Im H x d → Has K H x d
  | _, _, .non => .non
  | _, _, .bl b => .bl b
  | _, _, .int n => .int n
  | _, _, .str _ => .str _
  | _, _, .tup h hx _ => .tup (SqT.of h) (Ims.has hx)
theorem Ims.has {K : PySem.W.Frag} : ∀ {xs : List V} {ds : List PyData}, Ims H xs ds → HasAll K H xs ds
  | _, _, .nil => .nil
  | _, _, .cons r t => .cons (Im.has r) (Ims.has t)
end
mutual
theorem Im.refl : ∀ {x : V} {d : PyData}, Im H x d → PyData.eqv d d = true
  | _, _, .non => by simp [PyData.eqv]
  | _, _, .bl b => by simp [PyData.eqv]
  | _, _, .int n => by simp [PyData.eqv]
  | _, _, .str _ => by simp [PyData.eqv]
  | _, _, .tup _ hx _ => by rw [PyData.eqv]; exact Ims.refl hx
theorem Ims.refl : ∀ {xs : List V} {ds : List PyData}, Ims H xs ds → PyData.eqvAll ds ds = true
  | _, _, .nil => by simp [PyData.eqvAll]
  | _, _, .cons r t => by rw [PyData.eqvAll, Im.refl r, Ims.refl t]; rfl
end
mutual
theorem Im.lay : ∀ {x : V} {d : PyData}, Im H x d → PyData.canLay0 d = true
  | _, _, .non => by simp [PyData.canLay0]
  | _, _, .bl b => by simp [PyData.canLay0]
  | _, _, .int n => by simp [PyData.canLay0]
  | _, _, .str ok => by simp [PyData.canLay0, ok]
  | _, _, .tup _ hx _ => by rw [PyData.canLay0]; exact Ims.lay hx
theorem Ims.lay : ∀ {xs : List V} {ds : List PyData}, Ims H xs ds → PyData.canLayAll0 ds = true
  | _, _, .nil => by simp [PyData.canLayAll0]
  | _, _, .cons r t => by rw [PyData.canLayAll0, Im.lay r, Ims.lay t]; rfl
end
theorem shaped_of {d : PyData} (h : PyData.canLay0 d = true) (hd : d.depth ≤ 64) : SeqAt.shaped d = true := by
  unfold SeqAt.shaped
  rw [h, decide_eq_true hd]; rfl
theorem depthAll_le {n : Nat} : ∀ {ds : List PyData}, (∀ d ∈ ds, d.depth ≤ n) → PyData.depthAll ds ≤ n
  | [], _ => Nat.zero_le _
  | d :: ds, h => by
    rw [PyData.depthAll]
    exact Nat.max_le.mpr ⟨h d (.head _), depthAll_le fun e he => h e (.tail _ he)⟩
end
theorem ints_vals : ∀ {ns : List Int} {us : List Value}, Vals (ns.map V.int) us → IntsAre us ns
  | [], _, .nil => .nil
  | _ :: _, _, .cons ⟨_, rfl⟩ r => .cons _ _ (ints_vals r)
section
variable {X : Cx}
theorem call_sum (hc : X.calm = true) : CallR X (.builtin "sum") (fun xs H Q => ∃ (p : Addr) (ns : List Int), xs = [.ref p] ∧ SqL X.K H p (ns.map V.int) ∧ Q (.int ns.sum) H) := by
  intro pins s σ H xs us Q I r h
  obtain ⟨p, ns, rfl, hq, q⟩ := h
  obtain ⟨u, rfl, rx⟩ := vals1 r
  cases rx
  obtain ⟨its, rv, pl, hz⟩ := I.list hq
  have hi := ints_vals rv
  obtain ⟨xs, hx⟩ := hi.allInts.items
  have hl := pl.isList
  rw [hx] at hl
  refine sum_intListG (show X.A.handled = none from I.ok.hd hc) hl fun h' tk t' hk => ⟨.int ns.sum, H, I.kept (t' := tk) hk, ?_, q⟩
  have e1 : ns = xs.toList.map (·.1) := by
    rw [← nums_intItems, ← hx]
    exact (show numsOf its.toArray.toList = ns from hi.numsOf).symm
  rw [preSum_eq, List.take_of_length_le (by simp), ← e1]
  exact ⟨_, rfl⟩
end
theorem bt_sum : bootBuiltins "sum" = some (.builtin "sum") := by decide +kernel
section
variable {X : Cx} {j k : Nat} {C : Addr} {x m : Str} {ps : List Str} {sp : Sp} {p pos apos : Pos} {o : Expr} {ta : TE}
theorem pe_mth0 {pl : Sem Bool} (M : OwnM X.prog X.w X.K X.mg X.base j C m ps sp) (c : Cls X.K C) (hr : Room k X.A) (he : PE X o ta) (hk : j ≤ k := by decide)
    (ht : eval (.Call (.Attribute o m apos) [] [] pos) X.env = (do
      let ov ← eval o X.env
      standAt apos.atName
      let (f, first) ← holding [ov] (getMethod ov m pl)
      callWith pos f first (backTo pos (starEach [] X.env)) (backToKw pos (keywordEach [] X.env))) := by rfl) :
    PE X (.Call (.Attribute o m apos) [] [] pos) (tMeth C m sp [] E0 ta tNil) := by
  obtain ⟨f, fd, hm, hb, F⟩ := M
  exact pe_meth0 (pl := pl) he c hm F (hr.mono hk) hb .nil pass0 ht
end
def pd (p : Int × PyData) : PyData := .tuple [.int p.1, p.2]
section
variable {S : List Addr} {H H' : Hp}
end
def tk (s : Int × List PyData) (p : Int × PyData) : Int × List PyData := if p.1 = s.1 then (s.1 + 1, s.2 ++ [p.2]) else s
end L2
namespace L2
open PySem PySem.Spec PyProof.Rows
section
variable {X : Cx}
end
end L2
namespace L2
open PySem PySem.Spec PyProof.Rows
section
variable {X : Cx}
theorem OpR.weak {f : Value → Value → Sem Value} {r r' : R2} (h : OpR X f r) (w : ∀ x y H Q, r' x y H Q → r x y H Q) : OpR X f r' :=
  fun pins s σ H x y v u Q I rx ry q => h pins s σ H x y v u Q I rx ry (w _ _ _ _ q)
theorem CallR.weak {f : Value} {r r' : List V → Hp → VK → Prop} (h : CallR X f r) (w : ∀ xs H Q, r' xs H Q → r xs H Q) : CallR X f r' :=
  fun pins s σ H xs us Q I rs q => h pins s σ H xs us Q I rs (w _ _ _ q)
theorem SlR.weak {r r' : V → Option Int → Option Int → Hp → VK → Prop} (h : SlR X r) (w : ∀ x l u H Q, r' x l u H Q → r x l u H Q) : SlR X r' :=
  fun pins s σ H x v vl vu lo hi sl Q I rx hs pl pu q => h pins s σ H x v vl vu lo hi sl Q I rx hs pl pu (w _ _ _ _ _ q)
def getO : HO → V → Option V
  | .lst xs, .int i => atI xs i
  | .tup xs, .int i => atI xs i
  | .dK kvs, .int i => valV kvs (Sum.inl i)
  | .dK kvs, .str x => valV kvs (Sum.inr x)
  | _, _ => none
theorem getO_l {xs : List V} {i : Int} : getO (.lst xs) (.int i) = atI xs i := rfl
theorem getO_t {xs : List V} {i : Int} : getO (.tup xs) (.int i) = atI xs i := rfl
theorem getO_ds {kvs : List (Key × V)} {x : Str} : getO (.dK kvs) (.str x) = valV kvs (Sum.inr x) := rfl
def rGet : R2 := fun x y H Q => ∃ p o v, x = .ref p ∧ H p = some o ∧ getO o y = some v ∧ Q v H
theorem ix_dict (hu : X.A.units + 1 < cLine) : IxR X (fun x y H Q => ∃ a v, x = .ref a ∧ DGet H a y (some v) ∧ Q v H) := by
  intro value slice pins s σ H x y v u Q I rx ry h hs
  obtain ⟨a, z, rfl, g, q⟩ := h
  cases rx
  exact tail_any (dict_typeIs I g) PySem.F.slot_dict_getitem.lookup (d_getItem hu I g ry fun w' s3 I3 rw' => ⟨z, H, I3, rw', q⟩) hs
theorem ix_get (hu : X.A.units + 1 < cLine) : IxR X rGet := by
  intro value slice pins s σ H x y v u Q I rx ry h hs
  obtain ⟨p, o, z, rfl, e, g, q⟩ := h
  cases o with
  | lst xs => cases y <;> first | exact ix_list value slice pins s σ H _ _ v u Q I rx ry ⟨p, xs, _, z, rfl, rfl, SqL.of e, g, q⟩ hs | cases g
  | tup xs => cases y <;> first | exact ix_tup value slice pins s σ H _ _ v u Q I rx ry ⟨p, xs, _, z, rfl, rfl, SqT.of e, g, q⟩ hs | cases g
  | dK kvs =>
    cases y with
    | int i => exact ix_dict hu value slice pins s σ H _ _ v u Q I rx ry ⟨p, z, rfl, .inl ⟨kvs, Sum.inl i, .inl e, rfl, g.symm⟩, q⟩ hs
    | str x => exact ix_dict hu value slice pins s σ H _ _ v u Q I rx ry ⟨p, z, rfl, .inl ⟨kvs, Sum.inr x, .inl e, rfl, g.symm⟩, q⟩ hs
    | _ => cases g
  | _ => cases y <;> cases g
def lenO : HO → Option Nat
  | .lst xs => some xs.length
  | .tup xs => some xs.length
  | .dK kvs => some kvs.length
  | _ => none
def lenX (H : Hp) : V → Option Nat
  | .ref p => (H p).bind lenO
  | .str z => if z.length ≤ sizeLine then some z.length else none
  | _ => none
theorem lenX_r {H : Hp} {p : Addr} : lenX H (.ref p) = (H p).bind lenO := rfl
theorem lenO_l {xs : List V} : lenO (.lst xs) = some xs.length := rfl
theorem lenO_t {xs : List V} : lenO (.tup xs) = some xs.length := rfl
def rLenX : List V → Hp → VK → Prop := fun xs H Q => ∃ x n, xs = [x] ∧ lenX H x = some n ∧ Q (.int n) H
theorem call_lenX : CallR X (.builtin "len") rLenX := by
  intro pins s σ H xs us Q I r h
  obtain ⟨x, n, rfl, g, q⟩ := h
  cases x with
  | ref p =>
    cases e : H p with
    | none => rw [lenX_r, e] at g; cases g
    | some o =>
      rw [lenX_r, e] at g
      cases o with
      | lst xs => cases g; exact call_len_seq pins s σ H _ us Q I r ⟨p, xs, rfl, .inl (SqL.of e), q⟩
      | tup xs => cases g; exact call_len_seq pins s σ H _ us Q I r ⟨p, xs, rfl, .inr (SqT.of e), q⟩
      | dK kvs =>
        cases g
        obtain ⟨u, rfl, rx⟩ := vals1 r
        cases rx
        exact d_len I (.inl e) fun t s' I' => ⟨.int _, H, I', ⟨t, rfl⟩, q⟩
      | _ => cases g
  | str z =>
    have g' : (if z.length ≤ sizeLine then some z.length else none) = some n := g
    split at g'
    · cases g'
      rename_i hz
      exact call_len_str pins s σ H _ us Q I r ⟨z, rfl, hz, q⟩
    · cases g'
  | _ => cases g
def truO : HO → Option Bool
  | .lst xs => some (!xs.isEmpty)
  | .tup xs => some (!xs.isEmpty)
  | .dK kvs => some (!kvs.isEmpty)
  | _ => none
def truX (H : Hp) : V → Option Bool
  | .non => some false
  | .bl b => some b
  | .int i => some (i != 0)
  | .ref p => (H p).bind truO
  | _ => none
theorem truX_b {H : Hp} {b : Bool} : truX H (.bl b) = some b := rfl
theorem truX_r {H : Hp} {p : Addr} : truX H (.ref p) = (H p).bind truO := rfl
theorem truO_l {xs : List V} : truO (.lst xs) = some (!xs.isEmpty) := rfl
theorem truO_t {xs : List V} : truO (.tup xs) = some (!xs.isEmpty) := rfl
def tTruX (ta : TE) : TT := fun σ H Q => ta σ H fun x H' => ∃ k, truX H' x = some k ∧ Q k H'
theorem tru_x : TruR X (fun x H Q => ∃ k, truX H x = some k ∧ Q k H) := by
  intro pins s σ H x v Q I rx h
  obtain ⟨k, g, q⟩ := h
  refine tru_ok pins s σ H x v Q I rx ⟨k, ?_, q⟩
  cases x with
  | non => cases g; rfl
  | bl b => cases g; rfl
  | int i => cases g; rfl
  | ref p =>
    cases e : H p with
    | none => rw [truX_r, e] at g; cases g
    | some o =>
      rw [truX_r, e] at g
      cases o with
      | lst xs => cases g; exact .inl ⟨xs, SqL.of e, rfl⟩
      | tup xs => cases g; exact .inr (.inl ⟨xs, SqT.of e, rfl⟩)
      | dK kvs => cases g; exact .inr (.inr ⟨kvs, e, rfl⟩)
      | _ => cases g
  | _ => cases g
theorem pt_truX {a : Expr} {ta : TE} (ha : PE X a ta) (he : ∀ whole, isTrue a X.env whole = (do let v ← whole; standAt a.pos; holding [v] (truthy v)) := by intro _; rfl) : PT X a (tTruX ta) := by
  intro pins s σ H Q I h
  exact isTrue_plain (thn (ha pins s σ H _ I h) fun v s1 ⟨x, H1, I1, r1, q1⟩ => tru_x pins s1 σ H1 x v Q I1 r1 q1) (he _)
def inO : HO → V → Option Bool
  | .lst xs, x => if flatV x = true ∧ xs.all flatV = true then some (inV x xs) else none
  | .tup xs, x => if flatV x = true ∧ xs.all flatV = true then some (inV x xs) else none
  | .dK kvs, .int i => some (valV kvs (Sum.inl i)).isSome
  | .dK kvs, .str z => some (valV kvs (Sum.inr z)).isSome
  | _, _ => none
def rInX : R2 := fun x y H Q => ∃ p o b, y = .ref p ∧ H p = some o ∧ inO o x = some b ∧ Q (.bl b) H
theorem op_inX (hu : X.A.units + 1 < cLine) : OpR X (compareOp .In) rInX := by
  intro pins s σ H x y v u Q I rx ry h
  obtain ⟨p, o, b, rfl, e, g, q⟩ := h
  cases o with
  | lst xs =>
    have g' : (if flatV x = true ∧ xs.all flatV = true then some (inV x xs) else none) = some b := g
    split at g'
    · rename_i hz
      cases g'
      exact op_in_seq pins s σ H _ _ v u Q I rx ry ⟨p, xs, rfl, .inl (SqL.of e), hz.1, hz.2, q⟩
    · cases g'
  | tup xs =>
    have g' : (if flatV x = true ∧ xs.all flatV = true then some (inV x xs) else none) = some b := g
    split at g'
    · rename_i hz
      cases g'
      exact op_in_seq pins s σ H _ _ v u Q I rx ry ⟨p, xs, rfl, .inr (SqT.of e), hz.1, hz.2, q⟩
    · cases g'
  | dK kvs =>
    cases ry
    cases x with
    | int i => cases g; exact d_in hu I (.inl ⟨kvs, Sum.inl i, .inl e, rfl, rfl⟩) rx fun s' I' => ⟨.bl _, H, I', rfl, q⟩
    | str z => cases g; exact d_in hu I (.inl ⟨kvs, Sum.inr z, .inl e, rfl, rfl⟩) rx fun s' I' => ⟨.bl _, H, I', rfl, q⟩
    | _ => cases g
  | _ => cases x <;> cases g
def setO : HO → V → V → Option HO
  | .lst xs, .int k, v => (ixN xs.length k).map fun j => .lst (xs.set j v)
  | .dK kvs, .int i, v => if kvs.length < sizeLine then some (.dK (putK kvs (Sum.inl i) v)) else none
  | .dK kvs, .str z, v => if kvs.length < sizeLine then some (.dK (putK kvs (Sum.inr z) v)) else none
  | _, _, _ => none
theorem setO_l {xs : List V} {k : Int} {v : V} : setO (.lst xs) (.int k) v = (ixN xs.length k).map fun j => .lst (xs.set j v) := rfl
def rSetX : V → V → V → Hp → (Hp → Prop) → Prop := fun o i v H Q => ∃ p ob ob', o = .ref p ∧ H p = some ob ∧ setO ob i v = some ob' ∧ Q (upd H p ob')
theorem set_x (hu : X.A.units + 1 < cLine) : PSet X rSetX := by
  intro pins s σ H o i v ov iv u Q I ro ri rv h
  obtain ⟨p, ob, ob', rfl, e, g, q⟩ := h
  cases ob with
  | lst xs =>
    cases i with
    | int k =>
      cases z : ixN xs.length k with
      | none => rw [setO_l, z] at g; cases g
      | some j =>
        rw [setO_l, z] at g
        cases g
        exact set_list pins s σ H _ _ v ov iv u Q I ro ri rv ⟨p, xs, k, j, rfl, rfl, e, z, q⟩
    | _ => cases g
  | dK kvs =>
    cases ro
    cases i with
    | int k =>
      have g' : (if kvs.length < sizeLine then some (HO.dK (putK kvs (Sum.inl k) v)) else none) = some ob' := g
      split at g'
      · rename_i hz
        cases g'
        exact d_setItem hu I (.inl ⟨kvs, Sum.inl k, e, rfl, hz, rfl⟩) ri rv fun s' I' => ⟨_, I', q⟩
      · cases g'
    | str k =>
      have g' : (if kvs.length < sizeLine then some (HO.dK (putK kvs (Sum.inr k) v)) else none) = some ob' := g
      split at g'
      · rename_i hz
        cases g'
        exact d_setItem hu I (.inl ⟨kvs, Sum.inr k, e, rfl, hz, rfl⟩) ri rv fun s' I' => ⟨_, I', q⟩
      · cases g'
    | _ => cases g
  | _ => cases i <;> cases g
def rSlX : V → Option Int → Option Int → Hp → VK → Prop := fun x lo hi H Q => ∃ a xs, x = .ref a ∧ H a = some (.lst xs) ∧ ∀ p, H p = none → Q (.ref p) (upd H p (.lst (cutV xs lo hi)))
theorem sl_X : SlR X rSlX := sl_list.weak fun _ _ _ _ _ ⟨a, xs, e, h, q⟩ => ⟨a, xs, e, SqL.of h, q⟩
def rSlTX : V → Option Int → Option Int → Hp → VK → Prop := fun x lo hi H Q => ∃ a xs, x = .ref a ∧ H a = some (.tup xs) ∧ ∀ p H', (H' = H ∨ (H p = none ∧ H' = upd H p (.tup (cutV xs lo hi)))) → H' p = some (.tup (cutV xs lo hi)) → Q (.ref p) H'
theorem cutV_whole {xs : List V} {lo hi : Option Int} (h : HT.sIx xs.length 0 lo = 0 ∧ HT.sIx xs.length xs.length hi = xs.length) : cutV xs lo hi = xs := by
  unfold cutV
  rw [h.1, h.2]
  simp
theorem sl_TX : SlR X rSlTX := sl_tupW.weak fun _ lo hi H Q ⟨a, xs, e, h, q⟩ => ⟨a, xs, e, SqT.of h, fun w => q a H (.inl rfl) (by rw [cutV_whole w]; exact h), fun _ p hp => q p _ (.inr ⟨hp, rfl⟩) upd_same⟩
def seqO : HO → Option (List V)
  | .lst xs => some xs
  | .tup xs => some xs
  | _ => none
theorem seqO_l {xs : List V} : seqO (.lst xs) = some xs := rfl
theorem seqO_t {xs : List V} : seqO (.tup xs) = some xs := rfl
theorem seqO_of {K : PySem.W.Frag} {H : Hp} {p : Addr} {o : HO} {ys : List V} (h : H p = some o) (g : seqO o = some ys) : SqL K H p ys ∨ SqT K H p ys := by
  cases o with
  | lst xs => cases g; exact .inl (SqL.of h)
  | tup xs => cases g; exact .inr (SqT.of h)
  | _ => cases g
def rListX : List V → Hp → VK → Prop := fun xs H Q => ∃ p o ys, xs = [.ref p] ∧ H p = some o ∧ seqO o = some ys ∧ ∀ l, H l = none → Q (.ref l) (upd H l (.lst ys))
theorem call_listX : CallR X (.type "list") rListX := call_list_of.weak fun _ _ _ ⟨p, o, ys, e, h, g, q⟩ => ⟨p, ys, e, seqO_of h g, q⟩
def rTupX : List V → Hp → VK → Prop := fun xs H Q => ∃ p ys, xs = [.ref p] ∧ H p = some (.lst ys) ∧ ∀ l, H l = none → Q (.ref l) (upd H l (.tup ys))
theorem call_tupX : CallR X (.type "tuple") rTupX := call_tuple_of.weak fun _ _ _ ⟨p, ys, e, h, q⟩ => ⟨p, ys, e, .inl ⟨SqL.of h, q⟩⟩
def Dt (H : Hp) (v : V) (d : PyData) : Prop := (∀ K : PySem.W.Frag, Has K H v d) ∧ PyData.canLay0 d = true ∧ PyData.eqv d d = true
def Dts (H : Hp) (xs : List V) (ds : List PyData) : Prop := (∀ K : PySem.W.Frag, HasAll K H xs ds) ∧ PyData.canLayAll0 ds = true ∧ PyData.eqvAll ds ds = true
theorem Im.dt {H : Hp} {v : V} {d : PyData} (h : Im H v d) : Dt H v d := ⟨fun _ => h.has, h.lay, h.refl⟩
theorem Dt.has {K : PySem.W.Frag} {H : Hp} {v : V} {d : PyData} (h : Dt H v d) : Has K H v d := h.1 K
theorem Dt.lay {H : Hp} {v : V} {d : PyData} (h : Dt H v d) : PyData.canLay0 d = true := h.2.1
theorem Dt.ls {H : Hp} {l : Addr} {xs : List V} {ds : List PyData} (e : H l = some (.lst xs)) (m : Dts H xs ds) : Dt H (.ref l) (.list ds) := ⟨fun K => .lst (SqL.of e) (m.1 K), by rw [PyData.canLay0]; exact m.2.1, by rw [PyData.eqv]; exact m.2.2⟩
theorem Dt.tp {H : Hp} {l : Addr} {xs : List V} {ds : List PyData} (e : H l = some (.tup xs)) (m : Dts H xs ds) : Dt H (.ref l) (.tuple ds) := ⟨fun K => .tup (SqT.of e) (m.1 K), by rw [PyData.canLay0]; exact m.2.1, by rw [PyData.eqv]; exact m.2.2⟩
theorem Dts.nil {H : Hp} : Dts H [] [] := ⟨fun _ => .nil, by simp [PyData.canLayAll0], by simp [PyData.eqvAll]⟩
theorem Dts.cons {H : Hp} {x : V} {xs : List V} {d : PyData} {ds : List PyData} (h : Dt H x d) (t : Dts H xs ds) : Dts H (x :: xs) (d :: ds) :=
  ⟨fun K => .cons (h.1 K) (t.1 K), by rw [PyData.canLayAll0, h.2.1, t.2.1]; rfl, by rw [PyData.eqvAll, h.2.2, t.2.2]; rfl⟩
def rEqX : R2 := fun x y H Q => ∃ d e, Dt H x d ∧ Dt H y e ∧ d.depth ≤ 60 ∧ e.depth ≤ 60 ∧ Q (.bl (PyData.eqv d e)) H
def rNeX : R2 := fun x y H Q => ∃ d e, Dt H x d ∧ Dt H y e ∧ d.depth ≤ 60 ∧ e.depth ≤ 60 ∧ Q (.bl (!PyData.eqv d e)) H
theorem op_eqX (hu : X.A.units + 64 < cLine) : OpR X (compareOp .Eq) rEqX := (op_eqD hu).weak fun _ _ _ _ ⟨d, e, h1, h2, d1, d2, q⟩ => ⟨d, e, h1.has, h2.has, shaped_of h1.lay (by omega), shaped_of h2.lay (by omega), q⟩
theorem op_neX (hu : X.A.units + 64 < cLine) : OpR X (compareOp .NotEq) rNeX := (op_neD hu).weak fun _ _ _ _ ⟨d, e, h1, h2, d1, d2, q⟩ => ⟨d, e, h1.has, h2.has, shaped_of h1.lay (by omega), shaped_of h2.lay (by omega), q⟩
def tBL (r : V → List V → Hp → VK → Prop) (to : TE) (t : TA) : TE := fun σ H Q => to σ H fun x H1 => ∃ p xs, x = .ref p ∧ H1 p = some (.lst xs) ∧ t σ H1 fun xs H2 => r x xs H2 Q
def tBL0 (r : V → List V → Hp → VK → Prop) (to : TE) : TE := fun σ H Q => to σ H fun x H1 => ∃ p xs, x = .ref p ∧ H1 p = some (.lst xs) ∧ r x [] H1 Q
theorem pe_lm {o e : Expr} {es : List Expr} {to : TE} {t : TA} {name : Str} {apos cpos : Pos} {id : String} {r : V → List V → Hp → VK → Prop}
    (slot : Slot "list" name id) (hty : typeOf (.builtin id) = pure (.type "method_descriptor")) (hm : MtR X id r) (ho : PE X o to) (ha : PA X (e :: es) t)
    (hbase : attributeBase o name X.env (eval o X.env) = eval o X.env := by rfl)
    (hfew : ((backTo cpos (starEach (e :: es) X.env)).all (fun x => !x.1) && (backToKw cpos (keywordEach [] X.env)).all (fun x => x.1.isSome)
      && decide ((e :: es).length + ([] : List Keyword).length + (if ([] : List Keyword).isEmpty then 0 else 1) < 30)) = true := by rfl)
    (hline : (apos.endLine == cpos.line) = true := by rfl) (hs : starEach (e :: es) X.env = (false, eval e X.env) :: starEach es X.env := by rfl) (hplain : (backTo cpos (starEach es X.env)).any (·.1) = false := by rfl) :
    PE X (.Call (.Attribute o name apos) (e :: es) [] cpos) (tBL r to t) := by
  intro pins s σ H Q I h
  refine wpAny_Call_method_late hbase hfew hline rfl (thn (ho pins s σ H _ I h) fun v s1 ⟨x, H1, I1, r1, p, xs, ex, ep, q1⟩ => ?_)
  subst ex
  obtain ⟨h1, h2⟩ := tyV_is I1 r1 (show tyV X.K "list" (.ref p) H1 from .inl ⟨rfl, xs, SqL.of ep⟩)
  refine ⟨"list", id, PySem.F.plainAttrs_list, slot, hty, h1, h2, ?_⟩
  have hA := ha cpos pins s1 σ H1 _ I1 q1
  rw [hs] at hA ⊢
  refine Calls.callWith_builtin (by show (false || (backTo cpos (starEach es X.env)).any (·.1)) = false; rw [hplain] <;> rfl) (Calls.evalArgs_plain ?_)
  exact thn hA fun us s2 ⟨vs, H2, I2, r2, q2⟩ => hm pins s2 σ H2 _ vs v us Q I2 r1 r2 q2
theorem pe_lm0 {o : Expr} {to : TE} {name : Str} {apos cpos : Pos} {id : String} {r : V → List V → Hp → VK → Prop} (slot : Slot "list" name id) (hty : typeOf (.builtin id) = pure (.type "method_descriptor")) (hm : MtR X id r) (ho : PE X o to)
    (hbase : attributeBase o name X.env (eval o X.env) = eval o X.env := by rfl) (hline : (apos.endLine == cpos.line) = true := by rfl) : PE X (.Call (.Attribute o name apos) [] [] cpos) (tBL0 r to) := by
  intro pins s σ H Q I h
  refine wpAny_Call_method0_late hbase hline (thn (ho pins s σ H _ I h) fun v s1 ⟨x, H1, I1, r1, p, xs, ex, ep, q1⟩ => ?_)
  subst ex
  obtain ⟨h1, h2⟩ := tyV_is I1 r1 (show tyV X.K "list" (.ref p) H1 from .inl ⟨rfl, xs, SqL.of ep⟩)
  exact ⟨"list", id, PySem.F.plainAttrs_list, slot, hty, h1, h2, Calls.callWith_builtin rfl (PySem.evalArgs_none (hm pins s1 σ H1 _ [] v [] Q I1 r1 .nil q1))⟩
def rSumX : List V → Hp → VK → Prop := fun xs H Q => ∃ (p : Addr) (ns : List Int), xs = [.ref p] ∧ H p = some (.lst (ns.map V.int)) ∧ Q (.int ns.sum) H
theorem call_sumX (hc : X.calm = true) : CallR X (.builtin "sum") rSumX := (call_sum hc).weak fun _ _ _ ⟨p, ns, e, h, q⟩ => ⟨p, ns, e, SqL.of h, q⟩
theorem make_same {H H' : Hp} {x dx : Addr} {o1 o2 : HO} (hx : H x = none) (hdx : H dx = none) (k : Keep [x] (upd (upd H dx o1) x o2) H') : Same H H' := fun b o e => by
  have n1 : b ≠ x := ne_of_none e hx
  have n2 : b ≠ dx := ne_of_none e hdx
  exact k b o (by rw [upd_ne n1, upd_ne n2]; exact e) (by simp; exact n1)
theorem use1 {t1 R : TS} {D : Ends} {σ : St} {H : Hp} (Pm : St → Hp → Prop) (key : ∀ σ' H', Pm σ' H' → R D σ' H') (go : ∀ R' : TS, (∀ σ' H', Pm σ' H' → R' D σ' H') → tSeq t1 R' D σ H) : tSeq t1 R D σ H := go R key
theorem use2 {t1 t2 R : TS} {D : Ends} {σ : St} {H : Hp} (Pm : St → Hp → Prop) (key : ∀ σ' H', Pm σ' H' → R D σ' H') (go : ∀ R' : TS, (∀ σ' H', Pm σ' H' → R' D σ' H') → tSeq t1 (tSeq t2 R') D σ H) : tSeq t1 (tSeq t2 R) D σ H := go R key
theorem use3 {t1 t2 t3 R : TS} {D : Ends} {σ : St} {H : Hp} (Pm : St → Hp → Prop) (key : ∀ σ' H', Pm σ' H' → R D σ' H') (go : ∀ R' : TS, (∀ σ' H', Pm σ' H' → R' D σ' H') → tSeq t1 (tSeq t2 (tSeq t3 R')) D σ H) : tSeq t1 (tSeq t2 (tSeq t3 R)) D σ H := go R key
theorem ixN_20 : ixN 2 0 = some 0 := rfl
theorem ixN_21 : ixN 2 1 = some 1 := rfl
theorem atI_0 {α : Type} {a : α} {l : List α} : atI (a :: l) 0 = some a := by simp [atI, ixN]
theorem atI_1 {α : Type} {a b : α} {l : List α} : atI (a :: b :: l) 1 = some b := by
  simp only [atI, ixN, List.length_cons]
  rw [if_pos (by decide), if_pos (by omega)]
  rfl
theorem atI_2 {α : Type} {a b c : α} {l : List α} : atI (a :: b :: c :: l) 2 = some c := by
  simp only [atI, ixN, List.length_cons]
  rw [if_pos (by decide), if_pos (by omega)]
  rfl
theorem atI_3 {α : Type} {a b c d : α} {l : List α} : atI (a :: b :: c :: d :: l) 3 = some d := by
  simp only [atI, ixN, List.length_cons]
  rw [if_pos (by decide), if_pos (by omega)]
  rfl
theorem atI_nat' {α : Type} {l : List α} {n : Nat} : atI l (n : Int) = l[n]? := by
  unfold atI ixN
  rw [if_pos (by omega)]
  split
  · simp
  · rw [List.getElem?_eq_none (by omega)]; rfl
theorem neX_same {H : Hp} {x y : V} {d : PyData} {Q : VK} (h1 : Dt H x d) (h2 : Dt H y d) (hd : d.depth ≤ 60) (q : Q (.bl false) H) : rNeX x y H Q :=
  ⟨d, d, h1, h2, hd, hd, by rw [h1.2.2]; exact q⟩
theorem eqX_same {H : Hp} {x y : V} {d : PyData} {Q : VK} (h1 : Dt H x d) (h2 : Dt H y d) (hd : d.depth ≤ 60) (q : Q (.bl true) H) : rEqX x y H Q :=
  ⟨d, d, h1, h2, hd, hd, by rw [h1.2.2]; exact q⟩
def tyO : HO → Option String
  | .lst _ => some "list"
  | .tup _ => some "tuple"
  | .dK _ => some "dict"
  | _ => none
def tyX (H : Hp) : V → Option String
  | .non => some "NoneType"
  | .bl _ => some "bool"
  | .int _ => some "int"
  | .str _ => some "str"
  | .ref p => (H p).bind tyO
  | _ => none
theorem tyX_i {H : Hp} {i : Int} : tyX H (.int i) = some "int" := rfl
theorem tyX_s {H : Hp} {z : Str} : tyX H (.str z) = some "str" := rfl
theorem tyX_r {H : Hp} {p : Addr} : tyX H (.ref p) = (H p).bind tyO := rfl
theorem tyO_t {xs : List V} : tyO (.tup xs) = some "tuple" := rfl
def kT : String → String → Option Bool
  | "NoneType", "int" => some false
  | "NoneType", "bool" => some false
  | "NoneType", "str" => some false
  | "NoneType", "list" => some false
  | "NoneType", "tuple" => some false
  | "NoneType", "dict" => some false
  | "bool", "int" => some true
  | "bool", "bool" => some true
  | "bool", "str" => some false
  | "bool", "list" => some false
  | "bool", "tuple" => some false
  | "bool", "dict" => some false
  | "int", "int" => some true
  | "int", "bool" => some false
  | "int", "str" => some false
  | "int", "list" => some false
  | "int", "tuple" => some false
  | "int", "dict" => some false
  | "str", "int" => some false
  | "str", "bool" => some false
  | "str", "str" => some true
  | "str", "list" => some false
  | "str", "tuple" => some false
  | "str", "dict" => some false
  | "list", "int" => some false
  | "list", "bool" => some false
  | "list", "str" => some false
  | "list", "list" => some true
  | "list", "tuple" => some false
  | "list", "dict" => some false
  | "tuple", "int" => some false
  | "tuple", "bool" => some false
  | "tuple", "str" => some false
  | "tuple", "list" => some false
  | "tuple", "tuple" => some true
  | "tuple", "dict" => some false
  | "dict", "int" => some false
  | "dict", "bool" => some false
  | "dict", "str" => some false
  | "dict", "list" => some false
  | "dict", "tuple" => some false
  | "dict", "dict" => some true
  | _, _ => none
theorem kT_inin : kT "int" "int" = some true := rfl
theorem kT_inbo : kT "int" "bool" = some false := rfl
theorem kT_stst : kT "str" "str" = some true := rfl
theorem kT_tutu : kT "tuple" "tuple" = some true := rfl
theorem kT_kit (K : PySem.W.Frag) {a b : String} {r : Bool} (h : kT a b = some r) : PySem.W.kitOne K (.type a) (.type b) = some r := by
  unfold kT at h
  split at h <;> first | (cases h; first | rfl | (with_unfolding_all rfl)) | cases h
def rIsIX : List V → Hp → VK → Prop := fun xs H Q => ∃ x n t r, xs = [x, .ty n] ∧ tyX H x = some t ∧ kT t n = some r ∧ Q (.bl r) H
theorem tyX_of {K : PySem.W.Frag} {H : Hp} {x : V} {t : String} (h : tyX H x = some t) : TyOf K H x (.type t) := by
  cases x with
  | non => cases h; exact .non
  | bl b => cases h; exact .bl b
  | int i => cases h; exact .int i
  | str z => cases h; exact .str z
  | ref p =>
    cases e : H p with
    | none => rw [tyX_r, e] at h; cases h
    | some o =>
      rw [tyX_r, e] at h
      cases o with
      | lst xs => cases h; exact .lst e
      | tup xs => cases h; exact .tup e
      | dK kvs => cases h; exact .dK e
      | _ => cases h
  | _ => cases h
theorem call_isiX : CallR X (.builtin "isinstance") rIsIX := call_isinst.weak fun _ _ _ ⟨x, n, t, r, e, h, k, q⟩ => ⟨x, .ty n, .type t, r, e, ⟨n, rfl⟩, tyX_of h, kT_kit _ k, q⟩
theorem lenX_s' {H : Hp} {z : Str} : lenX H (.str z) = if z.length ≤ sizeLine then some z.length else none := rfl
theorem inO_l' {xs : List V} {x : V} : inO (.lst xs) x = if flatV x = true ∧ xs.all flatV = true then some (inV x xs) else none := rfl
end
end L2
namespace L2
open PySem PySem.Spec PyProof.Rows
section
variable {X : Cx}
def Itv (xs : List V) : It := ⟨fun i _ => i < xs.length, fun i H x H' => H' = H ∧ xs[i]? = some x, fun i _ => i = xs.length⟩
def signs (z : Str) : List V := z.cps.toList.map fun c => V.str ⟨#[c]⟩
theorem signs_len {z : Str} : (signs z).length = z.length := by simp [signs, Str.length]
theorem turn_str {P : Program} {w : World} {K : PySem.W.Frag} {tg : Expr} {z : Str} {it : Addr} {St : Nat → Heap → Prop} (W : ∀ A' : Around, A'.handled = none → Walks P w A' it [it] [it] z.cps.size (SignAt z) St)
    (ob : ∀ i h, St i h → ∃ o n vs, h.get? it = some o ∧ o.cls = .type n ∧ o.data = .fields vs ∧ ["enumerate", "zip", "dict_itemiterator", "dict_reverseitemiterator", "odict_iterator", "itertools.zip_longest", "itertools.pairwise"].contains n = false)
    (sf : ∀ (A : Around) (i : Nat) (s : Shared) (Q : Value → Shared → Prop) (E : Value → Shared → Prop), St i s.heap → Q (.ref it) s → wpAny (model P w) A (pyIter (.ref it)) Q E s) :
    Turn P w K tg (Itv (signs z)) [it] it St where
  mem := by simp
  obj := fun i h st b hb => by
    have e : b = it := by simpa using hb
    subst e
    obtain ⟨o, n, vs, e, c, d, _⟩ := ob i h st
    exact ⟨o, e, fun v z => by rw [d] at z; cases z⟩
  keep := fun i h h' st k => (W { handled := none } rfl).frame i h h' st k
  item := by
    intro X hP hw hK hc i pins s σ H E I hf st hg
    subst hP hw hK
    obtain ⟨f0, f1, f2, f3, f4, f5⟩ := hf it (by simp)
    have hi : i < z.cps.size := by
      have := hg
      simp only [Itv, signs_len, Str.length] at this
      exact this
    refine (W X.A (I.ok.hd hc)).item i s _ _ hi st fun v h' tk hv st' kk => ?_
    obtain ⟨c, u, hcv, rfl⟩ := hv
    have I1 : Inv X pins σ H { s with heap := h', toks := tk } := I.turned (fun b o hb e => kk b o (by simpa using hb) e) f0 f1 f3 f4 f5
    obtain ⟨o, n, vs, eo, ec, ed, en⟩ := ob _ _ st'
    refine ⟨_, rfl, go_of (s := { s with heap := h', toks := tk }) eo ec ed en ⟨.str ⟨#[c]⟩, H, I1, ⟨u, rfl⟩, ⟨rfl, ?_⟩, st', fun b hb => (hf b hb).1⟩⟩
    simp [signs, hcv]
  done := by
    intro X hP hw hK hc i pins s σ H E I hf st hg
    subst hP hw hK
    obtain ⟨f0, f1, f2, f3, f4, f5⟩ := hf it (by simp)
    have hi : i = z.cps.size := by
      have := hg
      simp only [Itv, signs_len, Str.length] at this
      exact this
    subst hi
    exact (W X.A (I.ok.hd hc)).done s _ _ st fun h' tk kk => ⟨rfl, I.turned (fun b o hb e => kk b o (by simpa using hb) e) f0 f1 f3 f4 f5⟩
  self := sf
def iStr (tl : TE) : TI := fun σ H R => tl σ H fun x H1 => ∃ z, x = .str z ∧ R (Itv (signs z)) H1
theorem pi_str {tg l : Expr} {tl : TE} (hl : PE X l tl) : PI X tg l (iStr tl) := by
  intro pins s σ H R I h
  refine thn (hl pins s σ H _ I h) fun v s1 ⟨x, H1, I1, r1, q1⟩ => ?_
  obtain ⟨z, e, q⟩ := q1
  subst e
  obtain ⟨t, rfl⟩ := r1
  have fin : ∀ (o : Obj) (n : String) (vs : Array Value) (St : Nat → Heap → Prop), (∀ A' : Around, A'.handled = none → Walks X.prog X.w A' s1.heap.objs.size [s1.heap.objs.size] [s1.heap.objs.size] z.cps.size (SignAt z) St) → St 0 (s1.heap.push o) →
      (∀ i h, St i h → ∃ o n vs, h.get? s1.heap.objs.size = some o ∧ o.cls = .type n ∧ o.data = .fields vs ∧ ["enumerate", "zip", "dict_itemiterator", "dict_reverseitemiterator", "odict_iterator", "itertools.zip_longest", "itertools.pairwise"].contains n = false) →
      (∀ (A : Around) (i : Nat) (s : Shared) (Q : Value → Shared → Prop) (E : Value → Shared → Prop), St i s.heap → Q (.ref s1.heap.objs.size) s → wpAny (model X.prog X.w) A (pyIter (.ref s1.heap.objs.size)) Q E s) →
      PIE X pins σ tg R (.ref s1.heap.objs.size) { s1 with heap := s1.heap.push o } := fun o n vs St W s0 ob sf =>
    ⟨s1.heap.objs.size, [s1.heap.objs.size], St, Itv (signs z), H1, rfl, I1.kept (t' := s1.toks) fun b o' e => Heap.get?_push_of_some _ e, turn_str W ob sf, s0, fun b hb => by
      have e : b = s1.heap.objs.size := by simpa using hb
      subst e
      exact (I1.fpOk (Nat.le_refl _) (I1.hok.fresh (Nat.le_refl _))), q⟩
  cases ha : z.cps.all (· < 128)
  · exact wpAny_pyIter_wide ha (fin _ "str_iterator" #[] _ (fun A' hA => Walks.strWide hA _ z t) ⟨_, Heap.get?_push_size _ rfl, rfl, rfl⟩ (fun i h ⟨o, e, c, d⟩ => ⟨o, _, _, e, c, d, by decide⟩) (fun A i s Q E st hq => wpAny_pyIter_striter_wide st hq))
  · exact wpAny_pyIter_ascii ha (fin _ "str_ascii_iterator" #[] _ (fun A' hA => Walks.strAscii hA _ z t) ⟨_, Heap.get?_push_size _ rfl, rfl, rfl⟩ (fun i h ⟨o, e, c, d⟩ => ⟨o, _, _, e, c, d, by decide⟩) (fun A i s Q E st hq => wpAny_pyIter_striter_ascii st hq))
theorem comp_itv {n : Nat} {js : List Nat} {g : TG} {tc : TT} {te : TE} {σ : St} {Q : VK} {H1 : Hp} {xs : List V} (hz : xs.length ≤ 100000) (Pv : Addr → Nat → List V → Hp → Prop) (h0 : ∀ D, H1 D = none → Pv D 0 [] (upd H1 D (.lst [])))
    (hl : ∀ D i acc H, H1 D = none → i ≤ xs.length → Pv D i acc H → H D = some (.lst acc) ∧ acc.length ≤ i)
    (hs : ∀ D i x acc H, H1 D = none → xs[i]? = some x → Pv D i acc H → g x (cSt n js σ) H fun σ2 H2 => σ2.drop n = (cSt n js σ).drop n ∧ tc σ2 H2 fun b H3 => if b = true then te σ2 H3 fun v H4 => H4 D = some (.lst acc) ∧ Pv D (i + 1) (acc ++ [v]) (upd H4 D (.lst (acc ++ [v]))) else H3 D = some (.lst acc) ∧ Pv D (i + 1) acc H3)
    (hd : ∀ D acc H, H1 D = none → Pv D xs.length acc H → Q (.ref D) H) : CompW n js g tc te σ Q (Itv xs) H1 := by
  intro D hD
  refine ⟨fun i m acc H => m = xs.length - i ∧ i ≤ xs.length ∧ Pv D i acc H, ⟨xs.length, by simp, Nat.zero_le _, h0 D hD⟩, ?_⟩
  rintro i m acc H ⟨rfl, hi, p⟩
  obtain ⟨e1, e3⟩ := hl D i acc H hD hi p
  refine ⟨e1, ?_⟩
  by_cases hlt : i < xs.length
  · refine .inr ⟨hlt, by rw [sizeLine_eq]; omega, Pv D (i + 1), fun acc' H' p' => ⟨xs.length - (i + 1), by omega, rfl, hlt, p'⟩, fun x H' y => ?_⟩
    obtain ⟨e, y⟩ := y
    subst e
    exact hs D i x acc _ hD y p
  · have e : i = xs.length := by omega
    subst e
    exact .inl ⟨rfl, hd D acc H hD p⟩
theorem comp_itvP {n : Nat} {js : List Nat} {g : TG} {te : TE} {σ : St} {Q : VK} {H1 : Hp} {xs : List V} (hz : xs.length ≤ 100000) (f : V → V)
    (hs : ∀ (H : Hp) x (Q' : VK), x ∈ xs → Same H1 H → Q' (f x) H → g x (cSt n js σ) H fun σ2 H2 => σ2.drop n = (cSt n js σ).drop n ∧ te σ2 H2 Q')
    (hq : ∀ D, H1 D = none → Q (.ref D) (upd H1 D (.lst (xs.map f)))) (gm : ∀ x σ H P P', (∀ σ2 H2, P σ2 H2 → P' σ2 H2) → g x σ H P → g x σ H P') : CompW n js g tYes te σ Q (Itv xs) H1 := by
  refine comp_itv hz (fun D i acc H => acc = (xs.take i).map f ∧ H = upd H1 D (.lst acc)) (fun D _ => ⟨by simp, rfl⟩) ?_ ?_ ?_
  · rintro D i acc H hD hi ⟨rfl, rfl⟩
    exact ⟨upd_same, by simp; omega⟩
  · rintro D i x acc H hD hxi ⟨rfl, rfl⟩
    refine gm _ _ _ _ _ (fun σ2 H2 h => ?_) (hs _ x (fun v H4 => H4 D = some (.lst ((xs.take i).map f)) ∧ (((xs.take i).map f) ++ [v] = (xs.take (i + 1)).map f ∧ upd H4 D (.lst (((xs.take i).map f) ++ [v])) = upd H1 D (.lst (((xs.take i).map f) ++ [v])))) (List.mem_of_getElem? hxi) (Same.upd_new hD) ⟨upd_same, ?_, by rw [upd_upd]⟩)
    · exact ⟨h.1, h.2⟩
    · rw [List.take_add_one, hxi]
      simp
  · rintro D acc H hD ⟨rfl, rfl⟩
    rw [List.take_length]
    exact hq D hD
def rLeS : R2 := fun x y H Q => ∃ a b, x = .str a ∧ y = .str b ∧ Q (.bl (!decide (b.cps.toList < a.cps.toList))) H
theorem op_leS : OpR X (compareOp .LtE) rLeS := by
  intro pins s σ H x y v u Q I rx ry h
  obtain ⟨a, b, rfl, rfl, q⟩ := h
  obtain ⟨t, rfl⟩ := rx
  obtain ⟨t', rfl⟩ := ry
  exact PySem.P.le_str ⟨.bl _, H, I, rfl, q⟩
theorem rEq_ss {a b : Str} {H : Hp} {Q : VK} : rEq (.str a) (.str b) H Q = Q (.bl (decide (a = b))) H := by simp [rEq, scal]
theorem rNe_ss {a b : Str} {H : Hp} {Q : VK} : rNe (.str a) (.str b) H Q = Q (.bl (!decide (a = b))) H := by simp [rNe, scal]
def rAllX : List V → Hp → VK → Prop := fun xs H Q => ∃ (p : Addr) (bs : List Bool), xs = [.ref p] ∧ H p = some (.lst (bs.map V.bl)) ∧ Q (.bl (bs.all id)) H
theorem call_allX (hc : X.calm = true) : CallR X (.builtin "all") rAllX := (call_all hc).weak fun _ _ _ ⟨p, bs, e, h, q⟩ => ⟨p, bs, e, SqL.of h, q⟩
theorem draw_list {prog : Program} {w : World} {A : Around} {E : Value → Shared → Prop} {it l : Addr} {items : Array Value} (hne : l ≠ it) : ∀ (n i : Nat) (s : Shared) (Q : List Value → Shared → Prop), s.heap.IsListIter it l i → s.heap.IsList l items → i + n ≤ items.size →
    (∀ h', h'.IsListIter it l (i + n) → Heap.SameBut it s.heap h' → Q ((items.toList.drop i).take n) { s with heap := h' }) → wpAny (model prog w) A (draw (.ref it) n) Q E s
  | 0, i, s, Q, hit, _, _, hQ => by
    show wpAny _ _ (pure []) Q E s
    exact wpAny_pure (by simpa using hQ s.heap hit (Heap.SameBut.refl ..))
  | n + 1, i, s, Q, hit, ht, hle, hQ => by
    have hlt : i < items.size := by omega
    show wpAny _ _ (pyNext (.ref it) >>= _) Q E s
    refine wpAny_bind (wpAny_pyNext_list_item hit ht (x := items[i]) (by simp [hlt]) fun h₁ hit₁ hs₁ => ?_)
    have ht1 : h₁.IsList l items := by
      obtain ⟨o, ho, r⟩ := ht
      exact ⟨o, hs₁.extBut _ _ hne ho, r⟩
    refine wpAny_bind (wpAny_holding (draw_list hne n (i + 1) _ _ hit₁ ht1 (by omega) fun h₂ hit₂ hs₂ => wpAny_pure ?_))
    have hd : items.toList.drop i = items[i] :: items.toList.drop (i + 1) := by simp [List.drop_eq_getElem_cons, hlt]
    have := hQ h₂ (by rw [show i + (n + 1) = i + 1 + n by omega]; exact hit₂) (hs₁.trans hs₂)
    rw [hd, List.take_succ_cons] at this
    exact this
theorem unpackItems_list {prog : Program} {w : World} {A : Around} {E : Value → Shared → Prop} {s : Shared} {t : Addr} {items : Array Value} {Q : List Value → Shared → Prop} (hh : A.handled = none) (ht : s.heap.IsList t items)
    (hQ : ∀ h', Heap.ExtBut s.heap.objs.size s.heap h' → Q items.toList { s with heap := h' }) : wpAny (model prog w) A (unpackItems (.ref t) items.size none) Q E s := by
  have hlt : t ≠ s.heap.objs.size := by obtain ⟨o, ho, _⟩ := ht; exact Nat.ne_of_lt (Heap.lt_size ho)
  unfold unpackItems
  refine wpAny_bind ?_
  · unfold notIterableAtAll
    refine wpAny_bind (wpAny_specialOf ht.typeIs PySem.F.slot_list_iter.lookup ?_)
    refine wpAny_pure ?_
    simp only [Bool.false_eq_true, if_false]
    refine wpAny_bind (wpAny_holding (wpAny_pyIter_list ht ?_))
    have ht0 : ∀ o', (s.heap.push o').IsList t items := fun o' => by
      obtain ⟨o, ho, r⟩ := ht
      exact ⟨o, Heap.get?_push_of_some _ ho, r⟩
    refine wpAny_bind (wpAny_holding (draw_list hlt items.size 0 _ _ ⟨_, Heap.get?_push_size _ rfl, rfl, rfl⟩ (ht0 _) (by omega) fun h₁ hit₁ hs₁ => ?_))
    have hall : List.take items.size (List.drop 0 items.toList) = items.toList := by
      rw [List.drop_zero]; exact List.take_of_length_le (by simp)
    rw [hall]
    rw [if_neg (by simp)]
    have ht₁ : h₁.IsList t items := by
      obtain ⟨o, ho, r⟩ := ht0 _
      exact ⟨o, hs₁.extBut _ _ hlt ho, r⟩
    refine wpAny_bind (wpAny_holding (wpAny_pyNext_list_end hh hit₁ ht₁ (by simp) fun h₂ he₂ => ?_))
    simp only [Option.isSome_none, Bool.false_eq_true, if_false]
    refine wpAny_pure (hQ h₂ fun b o hb e => he₂ b o hb (hs₁.extBut b o hb (Heap.get?_push_of_some _ e)))
theorem assign_Tuple_list {prog : Program} {w : World} {A : Around} {E : Value → Shared → Prop} {s : Shared} {env : Env} {elts : List Expr} {x1} {pos : Pos} {t : Addr} {items : Array Value} {Q : Unit → Shared → Prop} (hh : A.handled = none) (ht : s.heap.IsList t items)
    (hn : (assignEach elts env).length = items.size) (hstar : (assignEach elts env).findIdx? (·.1) = none)
    (h : ∀ h', Heap.ExtBut s.heap.objs.size s.heap h' → wpAny (model prog w) A (assignInOrder ((assignEach elts env).map (·.2)) items.toList) Q E { s with heap := h' }) :
    wpAny (model prog w) A (assign (.Tuple elts x1 pos) env (.ref t)) Q E s := by
  rw [assign_Tuple]
  refine wpAny_bind (wpAny_standAt ?_)
  unfold unpack
  rw [hn, hstar]
  exact wpAny_bind (wpAny_holding (unpackItems_list hh ht h))
def gSeqX (n : Nat) (t : TGs) : TG := fun v σ H Q => ∃ a o xs, v = .ref a ∧ H a = some o ∧ seqO o = some xs ∧ xs.length = n ∧ t xs σ H Q
theorem pg_seqX {es : List Expr} {k : Nat} {t : TGs} {n : Nat} {pos : Pos} (hc : X.calm = true) (hg : PGs X es t)
    (hn : (assignEach es X.env).length = n := by rfl) (hst : (assignEach es X.env).findIdx? (·.1) = none := by rfl) : PG X (.Tuple es k pos) (gSeqX n t) := by
  intro pins s σ H v u Q I rv q
  obtain ⟨a, o, xs, e, hx, g, hl, q⟩ := q
  cases o with
  | tup ys => cases g; exact pg_tupK (K := X.K) (k := k) (pos := pos) hc hg hn hst rfl pins s σ H v u Q I rv ⟨a, _, e, SqT.of hx, hl, q⟩
  | lst ys =>
    cases g
    subst e
    cases rv
    obtain ⟨its, r, ht, hz⟩ := I.list (SqL.of (K := X.K) hx)
    refine assign_Tuple_list (I.ok.hd hc) ht.isList (by simp [hn, ← hl, r.length]) hst fun h' hx' => ?_
    have I1 : Inv X pins σ H { s with heap := h' } := I.kept (t' := s.toks) fun b o e => hx' b o (Nat.ne_of_lt (Heap.lt_size e)) e
    exact hg pins _ σ H _ _ Q I1 (by simpa using r) q
  | _ => cases g
end
end L2
namespace L2
open PySem PySem.Spec PyProof.Rows
section
variable {X : Cx}
end
end L2
namespace L2
open PySem PySem.Spec PyProof.Rows
def Ite (K : PySem.W.Frag) (a : Addr) : It :=
  ⟨fun i H => ∃ xs x, SqL K H a xs ∧ xs[i]? = some x, fun i H x H' => ∃ p, x = .ref p ∧ H p = none ∧ ∀ xs, SqL K H a xs → ∃ y, xs[i]? = some y ∧ H' = upd H p (.tup [.int i, y]), fun i H => ∃ xs, SqL K H a xs ∧ xs.length ≤ i⟩
theorem turn_enum {P : Program} {w : World} {K : PySem.W.Frag} {elts : List Expr} {x1} {tpos : Pos} (a e it : Addr) (hne : e ≠ it) :
    Turn P w K (.Tuple elts x1 tpos) (Ite K a) [e, it] e (fun i h => (∃ old, IsEnum h e it i old) ∧ h.IsListIter it a i) where
  mem := by simp
  obj := fun i h st b hb => by
    obtain ⟨⟨old, h1⟩, h2⟩ := st
    rcases List.mem_cons.mp hb with rfl | hb
    · exact ⟨_, h1, fun v z => by cases z⟩
    · have e : b = it := by simpa using hb
      subst e
      obtain ⟨o, e, c, d⟩ := h2
      exact ⟨o, e, fun v z => by rw [d] at z; cases z⟩
  keep := fun i h h' st k => by
    obtain ⟨⟨old, h1⟩, h2⟩ := st
    exact ⟨⟨old, k e (by simp) _ h1⟩, h2.at fun o q => k it (by simp) o q⟩
  item := by
    intro X hP hw hK hc i pins s σ H E I hf st hg
    subst hP hw hK
    obtain ⟨⟨old, he⟩, hit⟩ := st
    obtain ⟨xs, x, hq, hx⟩ := hg
    obtain ⟨its, rv, p, hz⟩ := I.list hq
    obtain ⟨u, hu, ru⟩ := rv.get hx
    have fe := hf e (by simp)
    have fi := hf it (by simp)
    refine wpAny_pyNext_enum_item he hit p.isList (x := u) (by simpa using hu) hne fun h' eo hit' ht hsz hk => ?_
    have hH : H s.heap.objs.size = none := I.hok.fresh (Nat.le_refl _)
    have ne : ∀ b o, s.heap.get? b = some o → b ≠ s.heap.objs.size := fun b o q => Nat.ne_of_lt (Heap.lt_size q)
    have nx : ∀ b, b ∉ [e, it] → b ≠ e ∧ b ≠ it := fun b hb => ⟨fun z => hb (by simp [z]), fun z => hb (by simp [z])⟩
    have I1 : Inv X pins σ (upd H s.heap.objs.size (.tup [.int i, x])) { s with heap := h', gens := s.gens, drawn := s.drawn, toks := s.toks + 1 } := I.call (ch := [e, it]) (h' := h') (g' := s.gens) (d' := s.drawn) (t' := s.toks + 1)
      ⟨fun b o q n hb hb2 => hk b o (nx b hb2).1 (nx b hb2).2 q, fun b o q n hb hb2 => ⟨o.slots, hk b o (nx b hb2).1 (nx b hb2).2 q⟩, fun b o q n hb2 => by rw [upd_ne (ne b o q)]; exact n, fun b o q hb2 => ⟨o, hk b o (nx b hb2).1 (nx b hb2).2 q⟩,
        fun b ys q => by rw [upd_ne (ne_of_none q hH)]; exact q, fun b o ys q => by rw [upd_ne (ne_of_none q hH)]; exact q, fun b ps q => ⟨#[], by rw [upd_ne (ne_of_none q hH), q]; simp⟩⟩
      (fun b o q => by
        by_cases hb : b = s.heap.objs.size
        · subst hb
          rw [upd_same] at q
          cases q
          exact ⟨by rw [sizeLine_eq]; show 2 ≤ 16777216; decide, [.int i s.toks, u], .cons ⟨_, rfl⟩ (.cons ru .nil), ⟨_, ht, rfl, 0, rfl⟩⟩
        · rw [upd_ne hb] at q
          refine (I.hok b o q).stay (fun c v hc r => ?_) (fun c r => by rw [upd_ne (ne_of_none r hH)]; exact r) fun c ys r => by rw [upd_ne (ne_of_none r hH)]; exact r
          have hcn : H c ≠ none := by
            rcases hc with rfl | hc
            · rw [q]; exact fun z => nomatch z
            · rw [hc]; exact fun z => nomatch z
          exact hk c v (fun z => hcn (z ▸ fe.1)) (fun z => hcn (z ▸ fi.1)) r) I.bare
      (fun b hb => by
        have F : FpOk X pins H b := hf b hb
        exact ⟨F.2.2.2.1, F.2.1, F.2.2.2.2.1, F.2.2.2.2.2⟩)
    refine ⟨_, rfl, wpAny_letOwnedTupleGo_enum (s := { s with heap := h', toks := s.toks + 1 }) eo fun h2 e2 sb => ?_⟩
    have nep : ∀ b ∈ [e, it], upd H s.heap.objs.size (.tup [.int i, x]) b = none := fun b hb => by
      have hb' : b ≠ s.heap.objs.size := by
        rcases List.mem_cons.mp hb with rfl | hb
        · exact ne _ _ he
        · have e' : b = it := by simpa using hb
          subst e'
          obtain ⟨o, q, _⟩ := hit
          exact ne _ _ q
      rw [upd_ne hb']
      exact (hf b hb).1
    have I2 : Inv X pins σ (upd H s.heap.objs.size (.tup [.int i, x])) { s with heap := h2, toks := s.toks + 1 } := I1.turned (t' := s.toks + 1) (fun b o hb q => (sb.2 b hb).trans q) (nep e (by simp)) fe.2.1 fe.2.2.2.1 fe.2.2.2.2.1 fe.2.2.2.2.2
    refine ⟨.ref s.heap.objs.size, _, I2, rfl, ⟨_, rfl, hH, fun ys hy => ⟨x, by rw [I.list_inj hy hq]; exact hx, rfl⟩⟩, ⟨⟨u, ?_⟩, ?_⟩, nep⟩
    · have : ((i + 1 : Nat) : Int) = (i : Int) + 1 := by omega
      rw [this]
      exact e2
    · exact hit'.extBut sb.extBut (Ne.symm hne)
  done := by
    intro X hP hw hK hc i pins s σ H E I hf st hg
    subst hP hw hK
    obtain ⟨⟨old, he⟩, hit⟩ := st
    obtain ⟨xs, hq, hx⟩ := hg
    obtain ⟨its, rv, p, hz⟩ := I.list hq
    obtain ⟨f0, f1, f2, f3, f4, f5⟩ := hf it (by simp)
    have hl := rv.length
    exact wpAny_pyNext_enum_end (I.ok.hd hc) he hit p.isList (by simp; omega) fun h' eb => ⟨rfl, I.turned (t' := s.toks) (fun b o hb q => eb b o hb q) f0 f1 f3 f4 f5⟩
  self := fun _ _ _ _ _ st h => by
    obtain ⟨⟨old, he⟩, _⟩ := st
    exact wpAny_pyIter_enum he h
section
variable {X : Cx}
def iEnum (K : PySem.W.Frag) (ta : TA) : TI := fun σ H R => ta σ H fun vs H1 => ∃ a, vs = [.ref a] ∧ (∃ xs, SqL K H1 a xs) ∧ R (Ite K a) H1
theorem bt_enumerate : bootBuiltins "enumerate" = some (.type "enumerate") := by decide +kernel
theorem pi_enum (K : PySem.W.Frag) {elts : List Expr} {x1} {tpos : Pos} {l : Expr} {ta : TA} {p pos : Pos} (hg : Gl X "enumerate") (hm : X.mg "enumerate" = none) (ha : PA X [l] ta) (hs : starEach [l] X.env = [(false, eval l X.env)] := by rfl) (hK : X.K = K := by rfl) :
    PI X (.Tuple elts x1 tpos) (.Call (.Name "enumerate" p) [l] [] pos) (iEnum K ta) := by
  subst hK
  intro pins s σ H R I h
  refine Call_ (ld_blt I hg hm bt_enumerate (PyProof.Rows.callWith_type1 (thn (ha pos pins s σ H _ I h) fun us s1 ⟨vs, H1, I1, r1, q1⟩ => ?_) hs rfl))
  obtain ⟨a, e, ⟨xs, hq⟩, q⟩ := q1
  subst e
  obtain ⟨u, rfl, rx⟩ := vals1 r1
  cases rx
  obtain ⟨its, rv, pl, hz⟩ := I1.list hq
  refine call_enumerate_list pl.isList fun h' he hit hsz hk => ?_
  refine wpAny_pyIter_enum (s := { s1 with heap := h' }) he ?_
  refine ⟨s1.heap.objs.size + 1, [s1.heap.objs.size + 1, s1.heap.objs.size], _, _, H1, rfl, I1.kept (t' := s1.toks) hk, turn_enum a _ _ (Nat.succ_ne_self _), ⟨⟨_, he⟩, hit⟩, fun b hb => ?_, q⟩
  rcases List.mem_cons.mp hb with rfl | hb
  · exact I1.fpOk (Nat.le_succ _) (I1.hok.fresh (Nat.le_succ _))
  · have e : b = s1.heap.objs.size := by simpa using hb
    subst e
    exact I1.fpOk (Nat.le_refl _) (I1.hok.fresh (Nat.le_refl _))
end
theorem for_enum {K : PySem.W.Frag} {a : Addr} {xs : List V} {g : TG} {tb : TS} {D : Ends} {σ : St} {H : Hp} (Pv : Nat → St → Hp → Prop) (h0 : Pv 0 σ H) (hl : ∀ i σ H, i ≤ xs.length → Pv i σ H → SqL K H a xs)
    (hs : ∀ i x p σ H, xs[i]? = some x → H p = none → Pv i σ H → g (.ref p) σ (upd H p (.tup [.int i, x])) fun σ2 H2 => tb { D with nx := Pv (i + 1), ct := Pv (i + 1), bk := D.nx } σ2 H2) (hd : ∀ σ H, Pv xs.length σ H → D.nx σ H) : ForW g tb D σ (Ite K a) H := by
  refine ⟨fun i m σ H => m = xs.length - i ∧ i ≤ xs.length ∧ Pv i σ H, ⟨xs.length, by simp, Nat.zero_le _, h0⟩, ?_⟩
  rintro i m σ H ⟨rfl, hi, p⟩
  have q := hl i σ H hi p
  by_cases hlt : i < xs.length
  · refine .inr ⟨⟨xs, xs[i], q, by simp [hlt]⟩, Pv (i + 1), fun σ' H' p' => ⟨xs.length - (i + 1), by omega, rfl, hlt, p'⟩, fun x H' y => ?_⟩
    obtain ⟨pp, rfl, hp, y⟩ := y
    obtain ⟨z, hz, rfl⟩ := y xs q
    exact hs i z pp σ H hz hp p
  · have e : i = xs.length := by omega
    subst e
    exact .inl ⟨⟨xs, q, Nat.le_refl _⟩, hd σ H p⟩
end L2
namespace L2
open PySem
def noStar : Expr → Bool
  | .Starred .. => false
  | _ => true
theorem star_cons {e : Expr} {es : List Expr} {env : Env} (h : noStar e = true) : starEach (e :: es) env = (false, eval e env) :: starEach es env := by
  cases e <;> first | rfl | cases h
section
variable {X : Cx} {e : Expr} {es : List Expr} {te : TE} {t : TA}
theorem pa_cX (ha : PE X e te) (hr : PA X es t) (h : noStar e = true := by rfl) : PA X (e :: es) (tCons te t) := pa_cons ha hr (star_cons h)
end
structure WSs (X : Cx) (sts : List Stmt) (t : TS) : Prop where
  h : PSs X sts t
structure WS (X : Cx) (st : Stmt) (t : TS) : Prop where
  h : PS X st t
section
variable {X : Cx} {st : Stmt} {rest : List Stmt} {t u : TS}
end
end L2
namespace L2
open PySem PySem.Spec PyProof.Rows
section
variable {X : Cx} {n : Nat} {e : Expr} {rest : List Expr} {te : TE} {t : TJ} {pos : Pos}
end
end L2
namespace L2
open PySem PySem.Spec PyProof.Rows
section
variable {X : Cx}
def rMulS : R2 := fun x y H Q => ∃ z n, x = .str z ∧ y = .int n ∧ MulOk z n ∧ Q (.str (Txt.mul z n)) H
theorem op_mulS : OpR X (binaryOp .Mult) rMulS := by
  intro pins s σ H x y v u Q I rx ry h
  obtain ⟨z, n, rfl, rfl, ok, q⟩ := h
  obtain ⟨t, rfl⟩ := rx
  obtain ⟨t', rfl⟩ := ry
  exact SB.mul ok fun t' k => ⟨.str _, H, I.tok _, ⟨_, rfl⟩, q⟩
end
mutual
theorem Has.same {K : PySem.W.Frag} {H H' : Hp} (s : Same H H') : ∀ {x : V} {d : PyData}, Has K H x d → Has K H' x d
  | _, _, .non => .non
  | _, _, .bl b => .bl b
  | _, _, .int i => .int i
  | _, _, .str x => .str x
  | _, _, .lst h hs => .lst (s.seq h) (HasAll.same s hs)
  | _, _, .tup h hs => .tup (s.seqT h) (HasAll.same s hs)
theorem HasAll.same {K : PySem.W.Frag} {H H' : Hp} (s : Same H H') : ∀ {xs : List V} {ds : List PyData}, HasAll K H xs ds → HasAll K H' xs ds
  | _, _, .nil => .nil
  | _, _, .cons h hs => .cons (Has.same s h) (HasAll.same s hs)
end
end L2
namespace L2
open PySem PySem.Spec PyProof.Rows
section
variable {X : Cx}
def CDivW (_i j : Int) : Prop := 0 < j ∧ j.natAbs.log2 < 9000
theorem op_fdivW : OpR X (binaryOp .FloorDiv) (rI CDivW fun i j => .int (i / j)) := opI fun i j _ _ _ _ _ hc q => by
  have h1 : (0 : Int) < j := hc.1
  exact floordiv_int (by omega) (by rw [Int.fdiv_eq_ediv_of_nonneg i (by omega)]; exact q) (.inl (PyProof.noPylong_of_log2 hc.2))
theorem cdivw_of {i j : Int} (h : 0 < j) (h2 : j < 2 ^ 200) : CDivW i j := by
  refine ⟨h, ?_⟩
  have hz : j.natAbs ≠ 0 := by omega
  rw [Nat.log2_lt hz]
  have h3 : j.natAbs < 2 ^ 200 := by omega
  exact Nat.lt_of_lt_of_le h3 (Nat.pow_le_pow_right (by decide) (by decide))
end
end L2
namespace L2
open PySem PySem.Spec PyProof.Rows
section
variable {X : Cx} {pins : List (Addr × Obj)} {σ : St} {H : Hp} {s : Shared} {d : Addr} {kvs : List (Key × V)}
end
section
variable {P : Program} {w : World} {K : PySem.W.Frag} {tg : Expr} {d it : Addr} {o : Obj} {kvs : List (Key × V)}
end
section
variable {X : Cx}
end
end L2
namespace L2
open PySem PySem.Spec PyProof.Rows
section
variable {X : Cx} {o e f : Expr} {td ty tx : TE} {apos cpos : Pos}
end
end L2
namespace L2
open PySem PySem.Spec PyProof.Rows
section
variable {X : Cx} {o e f : Expr} {td ty tx : TE} {apos cpos : Pos}
end
section
variable {X : Cx}
end
section
variable {prog : Program} {w : World} {A : Around} {E : Value → Shared → Prop} {s : Shared}
end
section
variable {X : Cx}
end
end L2
namespace L2
open PySem PySem.Spec PyProof.Rows
end L2
namespace L2
open PySem PySem.Spec PyProof.Rows
section
variable {prog : Program} {w : World} {κ : Type} [DecidableEq κ] {knd : HeapKind prog w κ} {A : Around} {E : Value → Shared → Prop} {s : Shared}
end
def rEqNil : R2 := fun x y H Q => ∃ (p q : Addr) (xs : List V), x = .ref p ∧ y = .ref q ∧ H p = some (.lst xs) ∧ H q = some (.lst []) ∧ Q (.bl xs.isEmpty) H
theorem op_eqNil {X : Cx} (hu : X.A.units + 64 < cLine) : OpR X (compareOp .Eq) rEqNil := by
  intro pins s σ H x y v u Q I rx ry h
  obtain ⟨p, q, xs, rfl, rfl, hp, hq, k⟩ := h
  cases rx
  cases ry
  obtain ⟨its, r, pl, z1⟩ := I.list (SqL.of (K := X.K) hp)
  obtain ⟨its2, r2, pl2, z2⟩ := I.list (SqL.of (K := X.K) hq)
  have l1 := r.length
  have l2 := r2.length
  have e2 : its2 = [] := List.length_eq_zero_iff.mp l2.symm
  subst e2
  cases xs with
  | nil =>
    have e1 : its = [] := List.length_eq_zero_iff.mp l1.symm
    subst e1
    exact SeqAt.RcAt.lists (e := fun _ => true) pl.isList pl2.isList rfl (by omega) (fun j h1 h2 => absurd h1 (by simp)) _ _ _ _ ⟨.bl true, H, I, rfl, k⟩
  | cons a b =>
    refine SeqAt.RcAt.lists_lengths pl.isList pl2.isList ?_ (by omega) _ _ _ _ ⟨.bl false, H, I, rfl, k⟩
    simp at l1
    simp
    intro z
    rw [z] at l1
    simp at l1
end L2
namespace L2
open PySem PySem.Spec PyProof.Rows
section
variable {prog : Program} {w : World} {A : Around} {R : Result → Shared → Prop} {I : Addr} {fp wr : List Addr} {n : Nat} {P : Nat → Value → Prop} {St : Nat → Heap → Prop}
end
namespace SL
end SL
section
variable {prog : Program} {w : World} {A : Around} {E : Value → Shared → Prop} {s : Shared}
end
section
variable {X : Cx}
end
end L2
set_option maxHeartbeats 4000000
namespace L2
open PySem PySem.Spec PyProof.Rows PySem.W
section
variable {α β : Type}
end
section
variable {N : Nat} (hN : 0 < N)
include hN
end
section
variable {prog : Program} {w : World} {A : Around} {E : Value → Shared → Prop} {s : Shared}
end
section
variable {X : Cx}
abbrev Q4 := Int × Int × Int × Int
def q4 (t : Q4) : List V := [.int t.1, .int t.2.1, .int t.2.2.1, .int t.2.2.2]
end
end L2
namespace L2
open PySem PySem.Spec PyProof.Rows PySem.W
section
variable {P : Program} {w : World} {H H' : Hp} {h h' : Heap} {f c : Addr} {fd : FuncData} {qual : Str} {v : V}
end
section
variable {X : Cx} {k : Nat}
end
structure CloScope (N ps fr : List Str) (sc : Scope) : Prop where
  kind : sc.kind = .function
  co : sc.isCoroutine = false
  gen : sc.isGenerator = false
  nd : N.Nodup
  pre : N.take ps.length = ps
  post : N.drop (N.length - fr.length) = fr
  room : ps.length + fr.length ≤ N.length
  par : ∀ x ∈ ps, sc.names.lookup x = some .local
  nocell : ∀ y ∈ sc.names, y.2 ≠ .cell
  free : ∀ y ∈ sc.names, y.2 = .free → y.1 ∈ fr
  frk : ∀ x ∈ fr, sc.names.lookup x = some .free
def er (cs : List Addr) (H : Hp) : Hp := fun b => if b ∈ cs then none else H b
def rs (cs : List Addr) (H H' : Hp) : Hp := fun b => if b ∈ cs then H b else H' b
section
variable {P : Program} {w : World} {H H' : Hp} {h h' : Heap} {cs : List Addr} {b : Addr}
end
section
variable {P : Program} {w : World} {K : PySem.W.Frag} {mg : Str → Option Value} {base : Heap} {f c' : Addr} {qual : Str} {scope : Scope} {cl : List (Str × Addr)} {N ps fr : List Str} {vs ws : List V} {H : Hp} {A : Around} {outer : List Env} {s : Shared} {us : List Value}
end
section
variable {S : List Addr} {H H' : Hp} {g qual : Str} {gp : Arguments} {gb : List Stmt} {gsc : Scope} {fr : List Str} {f : Addr} {ws : List V}
end
end L2
namespace L2
open PySem PySem.Spec PyProof.Rows PySem.W
structure TabA (X : Cx) (c P : Addr) : Prop where
  code : X.env.code = .ref c
  hd : CodeHd X.base c P
  bm : X.base.BuiltinsAt X.mg P
  ne : mainGlobals ≠ P
section
variable {X : Cx} {pins : List (Addr × Obj)} {σ : St} {H : Hp} {s : Shared}
end
section
variable {P : Program} {w : World} {fs : List Addr} {H H' : Hp} {h h' : Heap}
end
end L2
namespace L2
open PySem PySem.Spec PyProof.Rows PySem.W
section
variable {X : Cx} {pins : List (Addr × Obj)} {σ : St} {H : Hp} {s : Shared}
end
section
variable {S : List Addr} {H H' : Hp} {g qual : Str} {gp : Arguments} {gb : Expr} {gsc : Scope} {fr : List Str} {f : Addr} {ws : List V}
end
end L2
namespace L2
open PySem PySem.Spec PyProof.Rows
section
variable {X : Cx} {o e : Expr} {td ty : TE} {apos cpos : Pos}
end
end L2
set_option maxHeartbeats 4000000
namespace L2
open PySem PySem.Spec PyProof.Rows PySem.W
section
variable {X : Cx} {pins : List (Addr × Obj)} {σ : St} {H : Hp} {k : Nat} {f l it S : Addr} {ps : List Addr} {ns : List Int} {Q : VK}
end
section
variable {X : Cx} {k : Nat}
end
end L2
namespace L2
open PySem PySem.Spec PyProof.Rows
theorem vals_strs : ∀ {zs : List Str} {us : List Value}, Vals (zs.map V.str) us → ∃ l : List (Str × Tok), us = strValues l ∧ l.map (·.1) = zs
  | [], us, h => by
    cases h
    exact ⟨[], rfl, rfl⟩
  | z :: zs, us, h => by
    cases h with
    | cons h1 h2 =>
      obtain ⟨l, e1, e2⟩ := vals_strs h2
      obtain ⟨t, rfl⟩ := h1
      exact ⟨(z, t) :: l, by rw [e1]; rfl, by rw [List.map_cons, e2]⟩
def joinT (sep : Str) : List Str → Str
  | [z] => z
  | zs => Builtin.Str.glued sep zs
section
variable {X : Cx} {o e : Expr} {td ty : TE} {apos cpos : Pos}
def jLen (sep : Str) (zs : List Str) : Nat := zs.toArray.foldl (· + ·.length + sep.length) 0
def tJoin (td ty : TE) : TE := fun σ H Q => td σ H fun x H1 => ∃ sep, x = .str sep ∧ ty σ H1 fun y H2 => ∃ p zs, y = .ref p ∧ H2 p = some (.lst (zs.map V.str)) ∧ jLen sep zs ≤ sizeLine ∧ (joinT sep zs).length ≤ sizeLine ∧ Q (.str (joinT sep zs)) H2
theorem pe_join (ho : PE X o td) (he : PE X e ty) (m : M1 X o "join" apos e cpos) : PE X (.Call (.Attribute o "join" apos) [e] [] cpos) (tJoin td ty) := by
  intro pins s σ H Q I h
  refine wpAny_Call_method m.base m.few m.line PySem.F.plainAttrs_str PySem.F.slot_str_join PySem.F.type_str_join (thn (ho pins s σ H _ I h) fun u s1 ⟨x, H1, I1, rx, sep, ex, q1⟩ => ?_)
  subst ex
  obtain ⟨t, rfl⟩ := rx
  refine ⟨typeIs_str _ _ _, (fun _ e => nomatch e), ?_⟩
  rw [m.trees]
  refine Calls.callWith_builtin rfl (Calls.evalArgs_plain (Calls.spliced_cons (thn (he pins s1 σ H1 _ I1 q1) fun iv s2 ⟨y, H2, I2, ry, p, zs, ey, ep, hl, hj, q2⟩ => Calls.spliced_nil ?_)))
  subst ey
  obtain rfl : iv = Value.ref p := ry
  obtain ⟨its, rv, pl, hz⟩ := I2.list (SqL.of (K := X.K) ep)
  obtain ⟨l, e1, e2⟩ := vals_strs rv
  subst e1
  refine call_meets PySem.F.slot_str_join (typeIs_str _ _ _) PySem.F.entry_str_join (PySem.F.args_str_join_2 _ _) (meets_str_join_list sep t p l (by rw [e2]; unfold Builtin.Str.tooLong; exact decide_eq_false (Nat.not_lt.mpr hl))) ⟨pl.isList, ?_⟩
  have one : ∀ (z : Str) (t' : Tok), joinT sep zs = z → EP X pins σ Q (.str z t') s2 := fun z t' e => ⟨.str z, H2, I2, ⟨t', rfl⟩, by rw [← e]; exact q2⟩
  have two : ∀ z : Str, joinT sep zs = z → EP X pins σ Q (.str z s2.toks) { s2 with toks := s2.toks + 1 } := fun z e => ⟨.str z, H2, I2.tok _, ⟨_, rfl⟩, by rw [← e]; exact q2⟩
  subst e2
  cases l with
  | nil => exact ⟨hj, two _ rfl⟩
  | cons a r =>
    cases r with
    | nil => exact one _ _ rfl
    | cons b r => exact ⟨hj, two _ rfl⟩
end
end L2
namespace L2
open PySem PySem.Spec PyProof.Rows
abbrev TJX := St → Hp → Str → (Str → Hp → Prop) → Prop
def PJX (X : Cx) (n : Nat) (vs : List Expr) (t : TJX) : Prop := ∀ (pins : List (Addr × Obj)) (s : Shared) (σ : St) (H : Hp) (acc : Str) (Q : Str → Hp → Prop), acc.length ≤ n → Inv X pins σ H s → t σ H acc Q →
  Joins (model X.prog X.w) X.A X.xe (evalEach vs X.env) acc (fun out s1 => out.length ≤ sizeLine ∧ ∃ H', Inv X pins σ H' s1 ∧ Q out H') s
section
variable {X : Cx} {n : Nat} {e : Expr} {rest : List Expr} {te : TE} {t : TJX} {pos : Pos}
def tXn : TJX := fun _ H acc Q => Q acc H
theorem pjx_nil (hn : n ≤ 1000000 := by decide) : PJX X n [] tXn := fun pins s σ H acc Q ha I h => ⟨by rw [sizeLine_eq]; omega, H, I, h⟩
def tXs (x : Str) (t : TJX) : TJX := fun σ H acc Q => t σ H (acc ++ x) Q
theorem pjx_str {x : Str} {j : Nat} (m : Nat) (hm : x.length = m) (h : PJX X (n + m) rest t) (hn : n + m ≤ 1000000 := by decide) : PJX X n (.Constant (.str x) j pos :: rest) (tXs x t) := by
  intro pins s σ H acc Q ha I hq
  have hl : (acc ++ x).length ≤ n + m := by rw [strLen_append]; omega
  change wpAny _ _ (eval (.Constant (.str x) j pos) X.env) _ _ s
  refine wpAny_mono (pe_str pins s σ H (fun v H' => v = .str x ∧ H' = H) I ⟨rfl, rfl⟩) (fun u s1 ⟨v, H', I', r, ev, eH⟩ => ?_) fun _ _ z => z
  subst ev
  subst eH
  obtain ⟨t', rfl⟩ := r
  exact ⟨x, t', rfl, by rw [sizeLine_eq]; omega, h pins s1 σ H' (acc ++ x) Q hl I' hq⟩
def tXe (te : TE) (t : TJX) : TJX := fun σ H acc Q => te σ H fun v H1 => (∃ i : Int, v = .int i ∧ i.natAbs.log2 < 1920 ∧ t σ H1 (acc ++ Str.ofString (toString i)) Q) ∨ ∃ z : Str, v = .str z ∧ z.length ≤ 1000 ∧ t σ H1 (acc ++ z) Q
theorem pjx_e {p2 : Pos} (he : PE X e te) (h : PJX X (n + 2000) rest t) (hn : n + 2000 ≤ 1000000 := by decide) : PJX X n (.FormattedValue e (-1) none p2 :: rest) (tXe te t) := by
  intro pins s σ H acc Q ha I hq
  change wpAny _ _ (eval (.FormattedValue e (-1) none p2) X.env) _ _ s
  refine wpAny_FormattedValue_plain (thn (he pins s σ H _ I hq) fun u s1 ⟨v, H1, I1, r, q⟩ => ?_)
  rcases q with ⟨i, ev, hi, q⟩ | ⟨x, ev, hx, q⟩
  · subst ev
    obtain ⟨t', rfl⟩ := r
    have hl : (Str.ofString (toString i)).length ≤ 1921 := by
      have := int_text_length_le (a := i) (k := 1920) (by decide) hi
      rw [PySem.ofString_length]
      omega
    have hl2 : (acc ++ Str.ofString (toString i)).length ≤ n + 2000 := by rw [strLen_append]; omega
    exact formatField_int_small hi ⟨_, _, rfl, by rw [sizeLine_eq]; omega, h pins _ σ H1 _ Q hl2 (I1.tok _) q⟩
  · subst ev
    obtain ⟨t', rfl⟩ := r
    have hl2 : (acc ++ x).length ≤ n + 2000 := by rw [strLen_append]; omega
    exact formatField_str (fun t2 tk => ⟨_, _, rfl, by rw [sizeLine_eq]; omega, h pins _ σ H1 _ Q hl2 (I1.tok _) q⟩) (by rw [sizeLine_eq]; omega)
def tFsX (t : TJX) : TE := fun σ H Q => t σ H Str.empty fun x H' => Q (.str x) H'
theorem pe_fstrX {v1 v2 : Expr} (h : PJX X 0 (v1 :: v2 :: rest) t) : PE X (.JoinedStr (v1 :: v2 :: rest) pos) (tFsX t) := by
  intro pins s σ H Q I hq
  refine wpAny_JoinedStr ?_
  have := h pins s σ H Str.empty (fun x H' => Q (.str x) H') (by decide) I hq
  have mono : ∀ (l : List (Sem Value)) (acc : Str) (A B : Str → Shared → Prop) (s : Shared), (∀ o s, A o s → B o s) → Joins (model X.prog X.w) X.A X.xe l acc A s → Joins (model X.prog X.w) X.A X.xe l acc B s := by
    intro l
    induction l with
    | nil => intro acc A B s hab h; exact hab _ _ h
    | cons x r ih =>
      intro acc A B s hab h
      exact wpAny_mono h (fun v s1 ⟨y, t, e1, e2, e3⟩ => ⟨y, t, e1, e2, ih _ _ _ _ hab e3⟩) fun _ _ z => z
  exact mono _ _ _ _ _ (fun o s1 ⟨hz, H', I', q⟩ => ⟨hz, .str o, H', I'.tok _, ⟨_, rfl⟩, q⟩) this
end
section
variable {X : Cx}
def rStrV : List V → Hp → VK → Prop := fun xs H Q => (∃ i : Int, xs = [.int i] ∧ i.natAbs.log2 < 1920 ∧ Q (.str (toString i)) H) ∨ (∃ z : Str, xs = [.str z] ∧ Q (.str z) H) ∨ (xs = [.non] ∧ Q (.str (Str.ofString "None")) H)
theorem call_strV : CallR X (.type "str") rStrV := by
  intro pins s σ H xs us Q I r h
  rcases h with h | ⟨z, rfl, q⟩ | ⟨rfl, q⟩
  · exact call_str_int pins s σ H xs us Q I r h
  · obtain ⟨u, rfl, t, rfl⟩ := vals1 r
    exact PySem.P.str_of_str ⟨.str z, H, I, ⟨t, rfl⟩, q⟩
  · obtain ⟨u, rfl, rx⟩ := vals1 r
    cases rx
    exact PySem.P.str_of_none ⟨.str _, H, I.tok _, ⟨_, rfl⟩, q⟩
end
end L2
namespace L2
open PySem PySem.Spec PyProof.Rows
section
variable {prog : Program} {w : World} {A : Around} {E : Value → Shared → Prop} {s : Shared}
theorem nextT_item {j tp : Addr} {n : Nat} {its : Array Value} {u : Value} {R : Value → Shared → Prop} (hj : s.heap.IsTupleIter j tp n) (hp : s.heap.IsTuple tp its) (hu : its[n]? = some u)
    (hR : ∀ hp', hp'.IsTupleIter j tp (n + 1) → Heap.SameBut j s.heap hp' → R u { s with heap := hp' }) : wpAny (model prog w) A (Builtin.SmallTypes.nextOf (.ref j)) R E s := by
  obtain ⟨oj, goj, coj, doj⟩ := id hj
  obtain ⟨op, gop, _, np, dop⟩ := hp
  unfold Builtin.SmallTypes.nextOf
  refine wpAny_bind (wpAny_callSpecial?_slot (name := Str.ofString "__next__") hj.typeIs F.slot_tuple_iterator_next (wpAny_call_entry F.slot_tuple_iterator_next hj.typeIs F.entry_tuple_iterator_next ?_ (F.args_tuple_iterator_next_1 _)))
  change wpAny _ _ (field (.ref j) 0 >>= _) _ _ s
  refine wpAny_bind (wpAny_field goj doj (x := .ref tp) rfl ?_)
  change wpAny _ _ (if (Value.ref tp == Value.none) = true then _ else _) _ _ s
  rw [if_neg (show ¬ ((Value.ref tp == Value.none) = true) from Bool.false_ne_true)]
  change wpAny _ _ (field (.ref j) 1 >>= _) _ _ s
  refine wpAny_bind (wpAny_field goj doj (x := .int n 0) rfl ?_)
  change wpAny _ _ (seqItems? (.ref tp) >>= _) _ _ s
  refine wpAny_bind (wpAny_seqItems gop dop ?_)
  simp only [Int.toNat_natCast, hu]
  refine wpAny_bind (wpAny_setField goj doj (by simp) (wpAny_pure ⟨u, rfl, wpAny_pure (hR _ ?_ (Heap.SameBut.update ..))⟩))
  exact ⟨_, Heap.get?_update_self _ goj (Obj.isFreed_of_fields (Obj.data_mapFields doj _)), (Obj.cls_mapFields ..).trans coj, by rw [Obj.data_mapFields doj]; simp [rawInt]⟩
theorem zipT_item {z ti to j1 j2 l1 l2 : Addr} {n1 n2 : Nat} {xs ys : Array Value} {x y a b : Value} {R : Value → Shared → Prop} (D : ZipApart z ti to j1 j2 l1 l2)
    (gz : IsZip s.heap z ti to .none) (gti : IsPair s.heap ti (.ref j1) (.ref j2)) (gto : IsPair s.heap to a b)
    (g1 : s.heap.IsListIter j1 l1 n1) (g2 : s.heap.IsTupleIter j2 l2 n2) (gl1 : s.heap.IsList l1 xs) (gl2 : s.heap.IsTuple l2 ys) (hx : xs[n1]? = some x) (hy : ys[n2]? = some y)
    (hR : ∀ hp, IsZip hp z ti to (rawInt s.heap.objs.size) → IsPair hp to x y → hp.IsListIter j1 l1 (n1 + 1) → hp.IsTupleIter j2 l2 (n2 + 1) → IsPair hp s.heap.objs.size x y → hp.objs.size = s.heap.objs.size + 1 →
      (∀ c o, c ≠ z → c ≠ to → c ≠ j1 → c ≠ j2 → s.heap.get? c = some o → hp.get? c = some o) → R (.ref s.heap.objs.size) { s with heap := hp }) :
    wpAny (model prog w) A (Builtin.«zip.__next__» ⟨[.ref z], []⟩) (fun fin s' => ∃ v, fin = .done (.ret v) ∧ R v s') E s := by
  change wpAny _ _ (field (.ref z) 2 >>= _) _ _ _
  refine wpAny_bind (wpAny_field gz rfl (x := .bool false) rfl ?_)
  change wpAny _ _ (field (.ref z) 3 >>= _) _ _ _
  refine wpAny_bind (wpAny_field gz rfl (x := .ref ti) rfl ?_)
  refine wpAny_bind (wpAny_seqItems gti rfl ?_)
  change wpAny _ _ (Builtin.SmallTypes.ownedTupleIsFree (.ref z) >>= _) _ _ _
  refine wpAny_bind ?_
  unfold Builtin.SmallTypes.ownedTupleIsFree
  refine wpAny_bind (wpAny_field gz rfl (x := .none) rfl (wpAny_pure ?_))
  simp only [if_true]
  refine wpAny_bind (wpAny_rule ?_)
  refine wpAny_bind (wpAny_field gz rfl (x := .ref to) rfl ?_)
  refine wpAny_bind (wpAny_setField_rec gz (by simp) fun k1 gz1 m1 => ?_)
  replace gz1 : IsZip k1 z ti to .ellipsis := gz1
  refine wpAny_bind ?_
  simp only [List.zipIdx_cons, List.zipIdx_nil, List.forIn_cons, List.forIn_nil]
  refine wpAny_bind (wpAny_bind (wpAny_onRaise ?_))
  change wpAny _ _ (Builtin.SmallTypes.nextOf (.ref j1) >>= _) _ _ _
  refine wpAny_bind (wpAny_nextOf_list_item (g1.extBut m1.extBut D.i1z) (gl1.extBut m1.extBut D.l1z) hx fun k2 g1b m2 => wpAny_pure ?_)
  have gto2 : IsPair k2 to a b := m2.extBut _ _ D.TOi1 (m1.extBut _ _ D.TOz gto)
  refine wpAny_bind (wpAny_seqItems gto2 rfl ?_)
  refine wpAny_bind (wpAny_updateSeq_pair gto2 fun k3 gto3 m3 => ?_)
  replace gto3 : IsPair k3 to x b := gto3
  refine wpAny_bind (wpAny_letGo (wpAny_pure ?_))
  refine wpAny_bind (wpAny_bind (wpAny_onRaise ?_))
  change wpAny _ _ (Builtin.SmallTypes.nextOf (.ref j2) >>= _) _ _ _
  refine wpAny_bind (nextT_item (((g2.extBut m1.extBut D.i2z).extBut m2.extBut D.i12.symm).extBut m3.extBut D.TOi2.symm) (((gl2.extBut m1.extBut D.l2z).extBut m2.extBut D.l2i1).extBut m3.extBut D.l2TO) hy fun k4 g2b m4 => wpAny_pure ?_)
  have gto4 : IsPair k4 to x b := m4.extBut _ _ D.TOi2 gto3
  refine wpAny_bind (wpAny_seqItems gto4 rfl ?_)
  refine wpAny_bind (wpAny_updateSeq_pair gto4 fun k5 gto5 m5 => ?_)
  replace gto5 : IsPair k5 to x y := gto5
  refine wpAny_bind (wpAny_letGo (wpAny_pure (wpAny_pure ?_)))
  refine wpAny_bind (wpAny_seqItems gto5 rfl ?_)
  refine wpAny_bind (wpAny_newTuple ?_)
  have esz : k5.objs.size = s.heap.objs.size := by rw [m5.1, m4.1, m3.1, m2.1, m1.1]
  have gz5 : IsZip k5 z ti to .ellipsis := m5.extBut _ _ D.TOz.symm (m4.extBut _ _ D.i2z.symm (m3.extBut _ _ D.TOz.symm (m2.extBut _ _ D.i1z.symm gz1)))
  have kp5 : ∀ c o, c ≠ z → c ≠ to → c ≠ j1 → c ≠ j2 → s.heap.get? c = some o → k5.get? c = some o := fun c o c1 c2 c3 c4 e => m5.extBut _ _ c2 (m4.extBut _ _ c4 (m3.extBut _ _ c2 (m2.extBut _ _ c3 (m1.extBut _ _ c1 e))))
  have g1c : k5.IsListIter j1 l1 (n1 + 1) := ((g1b.extBut m3.extBut D.TOi1.symm).extBut m4.extBut D.i12).extBut m5.extBut D.TOi1.symm
  have g2c : k5.IsTupleIter j2 l2 (n2 + 1) := g2b.extBut m5.extBut D.TOi2.symm
  have ltz : z < k5.objs.size := Heap.lt_size gz5
  change wpAny _ _ (Builtin.SmallTypes.ownedTupleHandOut (.ref z) (.ref k5.objs.size) >>= _) _ _ _
  refine wpAny_bind ?_
  unfold Builtin.SmallTypes.ownedTupleHandOut
  have gz6 : IsZip (k5.push { cls := .type "tuple", data := .seq #[x, y] }) z ti to .ellipsis := Heap.get?_push_of_some _ gz5
  refine wpAny_bind (wpAny_setField_rec gz6 (by simp) fun k7 gz7 m7 => ?_)
  replace gz7 : IsZip k7 z ti to (rawInt k5.objs.size) := gz7
  refine wpAny_setField_rec gz7 (by simp) fun k8 gz8 m8 => ?_
  replace gz8 : IsZip k8 z ti to (rawInt k5.objs.size) := gz8
  have upw : ∀ c o, c ≠ z → k5.get? c = some o → k8.get? c = some o := fun c o c1 e => m8.extBut _ _ c1 (m7.extBut _ _ c1 (Heap.get?_push_of_some _ e))
  have gt8 : IsPair k8 k5.objs.size x y := m8.extBut _ _ (Nat.ne_of_gt ltz) (m7.extBut _ _ (Nat.ne_of_gt ltz) (Heap.get?_push_size _ rfl))
  have es8 : k8.objs.size = k5.objs.size + 1 := by rw [m8.1, m7.1, Heap.size_push]
  rw [esz] at gz8 gt8 es8
  refine wpAny_pure ⟨_, rfl, ?_⟩
  change R (.ref k5.objs.size) _
  rw [esz]
  exact hR k8 gz8 (upw _ _ D.TOz gto5) (g1c.at fun o e => upw _ o D.i1z e) (g2c.at fun o e => upw _ o D.i2z e) gt8 es8 fun c o c1 c2 c3 c4 e => upw c o c1 (kp5 c o c1 c2 c3 c4 e)
theorem zipT_end {z ti to j1 j2 l1 l2 : Addr} {n1 : Nat} {xs : Array Value} {R : Fin → Shared → Prop} (hh : A.handled = none) (D : ZipApart z ti to j1 j2 l1 l2)
    (gz : IsZip s.heap z ti to .none) (gti : IsPair s.heap ti (.ref j1) (.ref j2)) (g1 : s.heap.IsListIter j1 l1 n1) (gl1 : s.heap.IsList l1 xs) (hend : xs[n1]? = none)
    (hE : ∀ hp e, (∀ c o, c ≠ z → c ≠ to → c ≠ j1 → c ≠ j2 → s.heap.get? c = some o → hp.get? c = some o) → (∃ o, hp.get? e = some o ∧ o.cls = .type "StopIteration") → E (.ref e) { s with heap := hp }) :
    wpAny (model prog w) A (Builtin.«zip.__next__» ⟨[.ref z], []⟩) R E s := by
  change wpAny _ _ (field (.ref z) 2 >>= _) _ _ _
  refine wpAny_bind (wpAny_field gz rfl (x := .bool false) rfl ?_)
  change wpAny _ _ (field (.ref z) 3 >>= _) _ _ _
  refine wpAny_bind (wpAny_field gz rfl (x := .ref ti) rfl ?_)
  refine wpAny_bind (wpAny_seqItems gti rfl ?_)
  change wpAny _ _ (Builtin.SmallTypes.ownedTupleIsFree (.ref z) >>= _) _ _ _
  refine wpAny_bind ?_
  unfold Builtin.SmallTypes.ownedTupleIsFree
  refine wpAny_bind (wpAny_field gz rfl (x := .none) rfl (wpAny_pure ?_))
  simp only [if_true]
  refine wpAny_bind (wpAny_rule ?_)
  refine wpAny_bind (wpAny_field gz rfl (x := .ref to) rfl ?_)
  refine wpAny_bind (wpAny_setField_rec gz (by simp) fun k1 gz1 m1 => ?_)
  replace gz1 : IsZip k1 z ti to .ellipsis := gz1
  refine wpAny_bind ?_
  simp only [List.zipIdx_cons, List.zipIdx_nil, List.forIn_cons, List.forIn_nil]
  refine wpAny_bind (wpAny_bind (wpAny_onRaise ?_))
  change wpAny _ _ (Builtin.SmallTypes.nextOf (.ref j1) >>= _) _ _ _
  refine wpAny_bind (wpAny_nextOf_list_end hh (g1.extBut m1.extBut D.i1z) (gl1.extBut m1.extBut D.l1z) hend fun k2 e m2 ⟨oe, goe, ce⟩ => ?_)
  have gz2 : IsZip k2 z ti to .ellipsis := m2 _ _ D.i1z.symm gz1
  have nez : e ≠ z := fun q => by subst q; rw [gz2] at goe; cases goe; simp at ce
  exact wpAny_setField_rec gz2 (by simp) fun k3 _ m3 => hE k3 e (fun c o c1 _ c3 _ q => m3.extBut _ _ c1 (m2 _ _ c3 (m1.extBut _ _ c1 q))) ⟨oe, m3.extBut _ _ nez goe, ce⟩
theorem pyNext_zipT {z ti to j1 j2 l1 l2 : Addr} {n1 n2 : Nat} {xs ys : Array Value} {x y a b : Value} {R : Option Value → Shared → Prop} (D : ZipApart z ti to j1 j2 l1 l2)
    (gz : IsZip s.heap z ti to .none) (gti : IsPair s.heap ti (.ref j1) (.ref j2)) (gto : IsPair s.heap to a b)
    (g1 : s.heap.IsListIter j1 l1 n1) (g2 : s.heap.IsTupleIter j2 l2 n2) (gl1 : s.heap.IsList l1 xs) (gl2 : s.heap.IsTuple l2 ys) (hx : xs[n1]? = some x) (hy : ys[n2]? = some y)
    (hR : ∀ hp, IsZip hp z ti to (rawInt s.heap.objs.size) → IsPair hp to x y → hp.IsListIter j1 l1 (n1 + 1) → hp.IsTupleIter j2 l2 (n2 + 1) → IsPair hp s.heap.objs.size x y → hp.objs.size = s.heap.objs.size + 1 →
      (∀ c o, c ≠ z → c ≠ to → c ≠ j1 → c ≠ j2 → s.heap.get? c = some o → hp.get? c = some o) → R (some (.ref s.heap.objs.size)) { s with heap := hp }) : wpAny (model prog w) A (pyNext (.ref z)) R E s := by
  have ht : s.TypeIs (.ref z) "zip" := ⟨_, gz, rfl⟩
  unfold pyNext
  exact wpAny_bind (wpAny_attempt (wpAny_callSpecial?_slot (name := Str.ofString "__next__") ht F.slot_zip_next (wpAny_call_entry F.slot_zip_next ht F.entry_zip_next (zipT_item D gz gti gto g1 g2 gl1 gl2 hx hy fun hp a1 a2 a3 a4 a5 a6 a7 => wpAny_pure (hR hp a1 a2 a3 a4 a5 a6 a7)) (F.args_zip_next_1 _))))
theorem pyNext_zipE {z ti to j1 j2 l1 l2 : Addr} {n1 : Nat} {xs : Array Value} {R : Option Value → Shared → Prop} (hh : A.handled = none) (D : ZipApart z ti to j1 j2 l1 l2)
    (gz : IsZip s.heap z ti to .none) (gti : IsPair s.heap ti (.ref j1) (.ref j2)) (g1 : s.heap.IsListIter j1 l1 n1) (gl1 : s.heap.IsList l1 xs) (hend : xs[n1]? = none)
    (hR : ∀ hp, (∀ c o, c ≠ z → c ≠ to → c ≠ j1 → c ≠ j2 → s.heap.get? c = some o → hp.get? c = some o) → R none { s with heap := hp }) : wpAny (model prog w) A (pyNext (.ref z)) R E s := by
  have ht : s.TypeIs (.ref z) "zip" := ⟨_, gz, rfl⟩
  unfold pyNext
  refine wpAny_bind (wpAny_attempt (wpAny_callSpecial?_slot (name := Str.ofString "__next__") ht F.slot_zip_next (wpAny_call_entry F.slot_zip_next ht F.entry_zip_next (zipT_end hh D gz gti g1 gl1 hend fun hp e hk ⟨o, ho, hc⟩ => ?_) (F.args_zip_next_1 _))))
  refine wpAny_bind (wpAny_isInstance (T := "StopIteration") (b := true) ⟨o, ho, hc⟩ isSubtype_stop ?_)
  exact wpAny_pure (hR _ hk)
abbrev zh1 (h : Heap) (a : Addr) : Heap := h.push { cls := .type "list_iterator", data := .fields #[.ref a, .int 0 0] }
abbrev zh2 (h : Heap) (a b : Addr) : Heap := (zh1 h a).push { cls := .type "tuple_iterator", data := .fields #[.ref b, .int 0 0] }
abbrev zh3 (h : Heap) (a b : Addr) : Heap := (zh2 h a b).push { cls := .type "tuple", data := .seq #[.ref h.objs.size, .ref (zh1 h a).objs.size] }
abbrev zh4 (h : Heap) (a b : Addr) : Heap := (zh3 h a b).push { cls := .type "tuple", data := .seq #[.none, .none] }
abbrev zh5 (h : Heap) (a b : Addr) : Heap := (zh4 h a b).push { cls := .type "zip", data := .fields #[.none, .bool false, .bool false, .ref (zh2 h a b).objs.size, .ref (zh3 h a b).objs.size] }
theorem meets_zipT (a b : Addr) (xs ys : Array Value) : Meets (Builtin.«zip.__new__» ⟨[.type "zip", .ref a, .ref b], []⟩) (fun _ R s => s.heap.IsList a xs ∧ s.heap.IsTuple b ys ∧ R (.ok (.ret (.ref (zh4 s.heap a b).objs.size))) { s with heap := zh5 s.heap a b }) :=
  .of_wp fun prog w A R s h => by
    obtain ⟨hp, gs, dr, tk, os⟩ := s
    obtain ⟨ha, hb, h⟩ := h
    have hsub := sub_zip
    have hA : Heap.IsList (Shared.heap ⟨hp, gs, dr, tk, os⟩) a xs := ha
    have hB : Heap.IsTuple (Shared.heap ⟨hp.push { cls := .type "list_iterator", data := .fields #[.ref a, .int 0 0] }, gs, dr, tk, os⟩) b ys := Heap.IsTuple.push hb _
    wp_walk using wpAny_pyIter_list hA, wpAny_pyIter_tuple hB
    exact ⟨_, rfl, h⟩
theorem call_zipT {a b : Addr} {xs ys : Array Value} {R : Value → Shared → Prop} (ha : s.heap.IsList a xs) (hb : s.heap.IsTuple b ys)
    (h : ∀ hp, IsZip hp (s.heap.objs.size + 4) (s.heap.objs.size + 2) (s.heap.objs.size + 3) .none → IsPair hp (s.heap.objs.size + 2) (.ref s.heap.objs.size) (.ref (s.heap.objs.size + 1)) → IsPair hp (s.heap.objs.size + 3) .none .none → hp.IsListIter s.heap.objs.size a 0 → hp.IsTupleIter (s.heap.objs.size + 1) b 0 →
      (∀ c o, s.heap.get? c = some o → hp.get? c = some o) → R (.ref (s.heap.objs.size + 4)) { s with heap := hp }) : wpAny (model prog w) A (call (.type "zip") [.ref a, .ref b]) R E s := by
  refine callType_new F.called_zip (by decide) (F.typeCall_zip_2 _ _) (F.newCall_zip_2 _ _) (fun obj => F.args_object_init_3 obj _ _) F.entry_zip_new (meets_zipT a b xs ys) ⟨ha, hb, ?_⟩
  have z1 : (zh1 s.heap a).objs.size = s.heap.objs.size + 1 := Heap.size_push ..
  have z2 : (zh2 s.heap a b).objs.size = s.heap.objs.size + 2 := by rw [Heap.size_push, z1]
  have z3 : (zh3 s.heap a b).objs.size = s.heap.objs.size + 3 := by rw [Heap.size_push, z2]
  have z4 : (zh4 s.heap a b).objs.size = s.heap.objs.size + 4 := by rw [Heap.size_push, z3]
  have q5 : (zh5 s.heap a b).get? (zh4 s.heap a b).objs.size = some _ := Heap.get?_push_size _ rfl
  have q4 : (zh5 s.heap a b).get? (zh3 s.heap a b).objs.size = some _ := Heap.get?_push_of_some _ (Heap.get?_push_size _ rfl)
  have q3 : (zh5 s.heap a b).get? (zh2 s.heap a b).objs.size = some _ := Heap.get?_push_of_some _ (Heap.get?_push_of_some _ (Heap.get?_push_size _ rfl))
  have q2 : (zh5 s.heap a b).get? (zh1 s.heap a).objs.size = some _ := Heap.get?_push_of_some _ (Heap.get?_push_of_some _ (Heap.get?_push_of_some _ (Heap.get?_push_size _ rfl)))
  have q1 : (zh5 s.heap a b).get? s.heap.objs.size = some _ := Heap.get?_push_of_some _ (Heap.get?_push_of_some _ (Heap.get?_push_of_some _ (Heap.get?_push_of_some _ (Heap.get?_push_size _ rfl))))
  change _ ∧ _
  rw [z2, z3, z4] at q5
  rw [z1, z2] at q3
  rw [z3] at q4
  rw [z1] at q2
  rw [z4]
  exact ⟨⟨_, q5, rfl⟩, h _ q5 q3 q4 ⟨_, q1, rfl, rfl⟩ ⟨_, q2, rfl, rfl⟩ fun c o q => Heap.get?_push_of_some _ (Heap.get?_push_of_some _ (Heap.get?_push_of_some _ (Heap.get?_push_of_some _ (Heap.get?_push_of_some _ q))))⟩
end
def Itz (K : PySem.W.Frag) (a b : Addr) : It :=
  ⟨fun i H => ∃ xs ys x y, SqL K H a xs ∧ SqT K H b ys ∧ xs[i]? = some x ∧ ys[i]? = some y, fun i H v H' => ∃ p, v = .ref p ∧ H p = none ∧ ∀ xs ys, SqL K H a xs → SqT K H b ys → ∃ x y, xs[i]? = some x ∧ ys[i]? = some y ∧ H' = upd H p (.tup [x, y]), fun i H => ∃ xs, SqL K H a xs ∧ xs.length ≤ i⟩
theorem turn_zip {P : Program} {w : World} {K : PySem.W.Frag} {elts : List Expr} {x1} {tpos : Pos} (a b z ti to j1 j2 : Addr) (D : ZipApart z ti to j1 j2 a b) :
    Turn P w K (.Tuple elts x1 tpos) (Itz K a b) [z, ti, to, j1, j2] z (fun i h => IsZip h z ti to .none ∧ IsPair h ti (.ref j1) (.ref j2) ∧ (∃ u v, IsPair h to u v) ∧ h.IsListIter j1 a i ∧ h.IsTupleIter j2 b i) where
  mem := by simp
  obj := fun i h st c hc => by
    obtain ⟨gz, gti, ⟨u, v, gto⟩, ⟨o1, e1, _, d1⟩, o2, e2, _, d2⟩ := st
    simp only [List.mem_cons, List.not_mem_nil, or_false] at hc
    rcases hc with rfl | rfl | rfl | rfl | rfl
    · exact ⟨_, gz, fun v q => by cases q⟩
    · exact ⟨_, gti, fun v q => by cases q⟩
    · exact ⟨_, gto, fun v q => by cases q⟩
    · exact ⟨o1, e1, fun v q => by rw [d1] at q; cases q⟩
    · exact ⟨o2, e2, fun v q => by rw [d2] at q; cases q⟩
  keep := fun i h h' st k => by
    obtain ⟨gz, gti, ⟨u, v, gto⟩, g1, g2⟩ := st
    exact ⟨k z (by simp) _ gz, k ti (by simp) _ gti, ⟨u, v, k to (by simp) _ gto⟩, g1.at fun o q => k j1 (by simp) o q, g2.at fun o q => k j2 (by simp) o q⟩
  item := by
    intro X hP hw hK hc i pins s σ H E I hf st hg
    subst hP hw hK
    obtain ⟨gz, gti, ⟨u, v, gto⟩, g1, g2⟩ := st
    obtain ⟨xs, ys, x, y, hqa, hqb, hx, hy⟩ := hg
    obtain ⟨ia, ra, pa, _⟩ := I.list hqa
    obtain ⟨ib, rb, pb, _⟩ := I.tuple hqb
    obtain ⟨ux, hux, rux⟩ := ra.get hx
    obtain ⟨uy, huy, ruy⟩ := rb.get hy
    refine pyNext_zipT D gz gti gto g1 g2 pa.isList (show s.heap.IsTuple b ib.toArray from pb) (x := ux) (y := uy) (by simpa using hux) (by simpa using huy) fun hp gz' gto' g1' g2' gt esz hk => ?_
    have hH : H s.heap.objs.size = none := I.hok.fresh (Nat.le_refl _)
    have ne : ∀ c o, s.heap.get? c = some o → c ≠ s.heap.objs.size := fun c o q => Nat.ne_of_lt (Heap.lt_size q)
    have nx : ∀ c, c ∉ [z, ti, to, j1, j2] → c ≠ z ∧ c ≠ to ∧ c ≠ j1 ∧ c ≠ j2 := fun c hc => by
      simp only [List.mem_cons, List.not_mem_nil, or_false, not_or] at hc
      exact ⟨hc.1, hc.2.2.1, hc.2.2.2.1, hc.2.2.2.2⟩
    have kx : ∀ c o, c ∉ [z, ti, to, j1, j2] → s.heap.get? c = some o → hp.get? c = some o := fun c o hc q => hk c o (nx c hc).1 (nx c hc).2.1 (nx c hc).2.2.1 (nx c hc).2.2.2 q
    have I1 : Inv X pins σ (upd H s.heap.objs.size (.tup [x, y])) { s with heap := hp, gens := s.gens, drawn := s.drawn, toks := s.toks } := I.call (ch := [z, ti, to, j1, j2]) (h' := hp) (g' := s.gens) (d' := s.drawn) (t' := s.toks)
      ⟨fun c o q n hc hc2 => kx c o hc2 q, fun c o q n hc hc2 => ⟨o.slots, kx c o hc2 q⟩, fun c o q n hc2 => by rw [upd_ne (ne c o q)]; exact n, fun c o q hc2 => ⟨o, kx c o hc2 q⟩,
        fun c ys q => by rw [upd_ne (ne_of_none q hH)]; exact q, fun c o ys q => by rw [upd_ne (ne_of_none q hH)]; exact q, fun c ps q => ⟨#[], by rw [upd_ne (ne_of_none q hH), q]; simp⟩⟩
      (fun c o q => by
        by_cases hcs : c = s.heap.objs.size
        · subst hcs
          rw [upd_same] at q
          cases q
          exact ⟨by rw [sizeLine_eq]; show 2 ≤ 16777216; decide, [ux, uy], .cons rux (.cons ruy .nil), ⟨_, gt, rfl, 0, rfl⟩⟩
        · rw [upd_ne hcs] at q
          refine (I.hok c o q).stay (fun d v hd r => ?_) (fun d r => by rw [upd_ne (ne_of_none r hH)]; exact r) fun d ys r => by rw [upd_ne (ne_of_none r hH)]; exact r
          have hdn : H d ≠ none := by
            rcases hd with rfl | hd
            · rw [q]; exact fun z => nomatch z
            · rw [hd]; exact fun z => nomatch z
          exact kx d v (fun z => hdn (hf d z).1) r) I.bare
      (fun c hc => by
        have F : FpOk X pins H c := hf c hc
        exact ⟨F.2.2.2.1, F.2.1, F.2.2.2.2.1, F.2.2.2.2.2⟩)
    refine ⟨_, rfl, wpAny_letOwnedTupleGo_zip (s := { s with heap := hp }) gz' fun h2 e2 sb => ?_⟩
    have isSome : ∀ c ∈ [z, ti, to, j1, j2], ∃ o, s.heap.get? c = some o := fun c hc => by
      simp only [List.mem_cons, List.not_mem_nil, or_false] at hc
      rcases hc with rfl | rfl | rfl | rfl | rfl
      · exact ⟨_, gz⟩
      · exact ⟨_, gti⟩
      · exact ⟨_, gto⟩
      · obtain ⟨o, e, _⟩ := g1; exact ⟨o, e⟩
      · obtain ⟨o, e, _⟩ := g2; exact ⟨o, e⟩
    have nep : ∀ c ∈ [z, ti, to, j1, j2], upd H s.heap.objs.size (.tup [x, y]) c = none := fun c hc => by
      obtain ⟨o, q⟩ := isSome c hc
      rw [upd_ne (ne _ _ q)]
      exact (hf c hc).1
    have fz := hf z (by simp)
    have I2 : Inv X pins σ (upd H s.heap.objs.size (.tup [x, y])) { s with heap := h2, toks := s.toks } := I1.turned (t' := s.toks) (fun c o hc q => (sb.2 c hc).trans q) (nep z (by simp)) fz.2.1 fz.2.2.2.1 fz.2.2.2.2.1 fz.2.2.2.2.2
    refine ⟨.ref s.heap.objs.size, _, I2, rfl, ⟨_, rfl, hH, fun xs' ys' h1 h2 => ⟨x, y, by rw [I.list_inj h1 hqa]; exact hx, by rw [I.tuple_inj h2 hqb]; exact hy, rfl⟩⟩, ⟨e2, sb.extBut _ _ D.TIz (hk _ _ D.TIz D.TITO D.TIi1 D.TIi2 gti), ⟨_, _, sb.extBut _ _ D.TOz gto'⟩, g1'.extBut sb.extBut D.i1z, g2'.extBut sb.extBut D.i2z⟩, nep⟩
  done := by
    intro X hP hw hK hc i pins s σ H E I hf st hg
    subst hP hw hK
    obtain ⟨gz, gti, ⟨u, v, gto⟩, g1, g2⟩ := st
    obtain ⟨xs, hq, hx⟩ := hg
    obtain ⟨its, rv, p, hz⟩ := I.list hq
    have hl := rv.length
    refine pyNext_zipE (I.ok.hd hc) D gz gti g1 p.isList (by simp; omega) fun hp hk => ⟨rfl, ?_⟩
    have kx : ∀ c o, c ∉ [z, ti, to, j1, j2] → s.heap.get? c = some o → hp.get? c = some o := fun c o hc q => by
      simp only [List.mem_cons, List.not_mem_nil, or_false, not_or] at hc
      exact hk c o hc.1 hc.2.2.1 hc.2.2.2.1 hc.2.2.2.2 q
    exact I.call (ch := [z, ti, to, j1, j2]) (h' := hp) (g' := s.gens) (d' := s.drawn) (t' := s.toks)
      ⟨fun c o q n hc hc2 => kx c o hc2 q, fun c o q n hc hc2 => ⟨o.slots, kx c o hc2 q⟩, fun c o q n hc2 => n, fun c o q hc2 => ⟨o, kx c o hc2 q⟩, fun c ys q => q, fun c o ys q => q, fun c ps q => ⟨#[], by rw [q]; simp⟩⟩
      (fun c o q => (I.hok c o q).stay (fun d v hd r => kx d v (fun z => by
          have hdn : H d ≠ none := by
            rcases hd with rfl | hd
            · rw [q]; exact fun z => nomatch z
            · rw [hd]; exact fun z => nomatch z
          exact hdn (hf d z).1) r) (fun d r => r) fun d ys r => r) I.bare
      (fun c hc => by
        have F : FpOk X pins H c := hf c hc
        exact ⟨F.2.2.2.1, F.2.1, F.2.2.2.2.1, F.2.2.2.2.2⟩)
  self := fun _ _ _ _ _ st h => wpAny_pyIter_zip st.1 h
section
variable {X : Cx}
def iZip (K : PySem.W.Frag) (ta : TA) : TI := fun σ H R => ta σ H fun vs H1 => ∃ a b, vs = [.ref a, .ref b] ∧ (∃ xs, SqL K H1 a xs) ∧ (∃ ys, SqT K H1 b ys) ∧ R (Itz K a b) H1
theorem bt_zip : bootBuiltins "zip" = some (.type "zip") := by decide +kernel
theorem pi_zip (K : PySem.W.Frag) {elts : List Expr} {x1} {tpos : Pos} {l m : Expr} {ta : TA} {p pos : Pos} (hg : Gl X "zip") (hm : X.mg "zip" = none) (ha : PA X [l, m] ta) (he : starEach [l, m] X.env = (false, eval l X.env) :: starEach [m] X.env := by rfl) (hpl : (backTo pos (starEach [m] X.env)).any (·.1) = false := by rfl) (hK : X.K = K := by rfl) :
    PI X (.Tuple elts x1 tpos) (.Call (.Name "zip" p) [l, m] [] pos) (iZip K ta) := by
  subst hK
  intro pins s σ H R I h
  refine Call_ (ld_blt I hg hm bt_zip (PyProof.Rows.callWith_type1 (thn (ha pos pins s σ H _ I h) fun us s1 ⟨vs, H1, I1, r1, q1⟩ => ?_) he hpl))
  obtain ⟨a, b, e, ⟨xs, hqa⟩, ⟨ys, hqb⟩, q⟩ := q1
  subst e
  obtain ⟨u, v, rfl, ru, rv⟩ := vals2 r1
  cases ru
  cases rv
  obtain ⟨ia, ra, pa, _⟩ := I1.list hqa
  obtain ⟨ib, rb, pb, _⟩ := I1.tuple hqb
  have pb' : s1.heap.IsTuple b ib.toArray := pb
  have la : a < s1.heap.objs.size := by obtain ⟨_, e, _⟩ := pa.isList; exact Heap.lt_size e
  have lb : b < s1.heap.objs.size := by obtain ⟨_, e, _⟩ := pb'; exact Heap.lt_size e
  refine call_zipT pa.isList pb' fun h' hz hti hto h1 h2 hk => ?_
  refine wpAny_pyIter_zip (s := { s1 with heap := h' }) hz ?_
  refine ⟨s1.heap.objs.size + 4, [s1.heap.objs.size + 4, s1.heap.objs.size + 2, s1.heap.objs.size + 3, s1.heap.objs.size, s1.heap.objs.size + 1], _, _, H1, rfl, I1.kept (t' := s1.toks) hk, turn_zip a b _ _ _ _ _ (zipApart_new la lb), ⟨hz, hti, ⟨_, _, hto⟩, h1, h2⟩, fun c hc => ?_, q⟩
  have hc' : s1.heap.objs.size ≤ c := by
    simp only [List.mem_cons, List.not_mem_nil, or_false] at hc
    rcases hc with rfl | rfl | rfl | rfl | rfl <;> omega
  exact I1.fpOk hc' (I1.hok.fresh hc')
end
theorem for_zip {K : PySem.W.Frag} {a b : Addr} {xs ys : List V} {g : TG} {tb : TS} {D : Ends} {σ : St} {H : Hp} (hn : xs.length ≤ ys.length) (Pv : Nat → St → Hp → Prop) (h0 : Pv 0 σ H) (hl : ∀ i σ H, i ≤ xs.length → Pv i σ H → SqL K H a xs ∧ SqT K H b ys)
    (hs : ∀ i x y p σ H, xs[i]? = some x → ys[i]? = some y → H p = none → Pv i σ H → g (.ref p) σ (upd H p (.tup [x, y])) fun σ2 H2 => tb { D with nx := Pv (i + 1), ct := Pv (i + 1), bk := D.nx } σ2 H2) (hd : ∀ σ H, Pv xs.length σ H → D.nx σ H) : ForW g tb D σ (Itz K a b) H := by
  refine ⟨fun i m σ H => m = xs.length - i ∧ i ≤ xs.length ∧ Pv i σ H, ⟨xs.length, by simp, Nat.zero_le _, h0⟩, ?_⟩
  rintro i m σ H ⟨rfl, hi, p⟩
  obtain ⟨qa, qb⟩ := hl i σ H hi p
  by_cases hlt : i < xs.length
  · refine .inr ⟨⟨xs, ys, xs[i], ys[i], qa, qb, by simp [hlt], by simp⟩, Pv (i + 1), fun σ' H' p' => ⟨xs.length - (i + 1), by omega, rfl, hlt, p'⟩, fun x H' y => ?_⟩
    obtain ⟨pp, rfl, hp, y⟩ := y
    obtain ⟨z1, z2, hz1, hz2, rfl⟩ := y xs ys qa qb
    exact hs i z1 z2 pp σ H hz1 hz2 hp p
  · have e : i = xs.length := by omega
    subst e
    exact .inl ⟨⟨xs, qa, Nat.le_refl _⟩, hd σ H p⟩
end L2
namespace L2
open PySem PySem.Spec PyProof.Rows
def spl (c : Nat) : Nat → List Nat → List (List Nat)
  | 0, l => [l]
  | n + 1, l => if c ∈ l then l.takeWhile (· != c) :: spl c n (l.drop ((l.takeWhile (· != c)).length + 1)) else [l]
def idxs (c : Nat) : Nat → List Nat → List Nat
  | _, [] => []
  | k, x :: r => if x = c then k :: idxs c (k + 1) r else idxs c (k + 1) r
theorem idxs_cons {c k x : Nat} {r : List Nat} : idxs c k (x :: r) = if x = c then k :: idxs c (k + 1) r else idxs c (k + 1) r := rfl
theorem idxs_none {c : Nat} : ∀ {l : List Nat} (k : Nat), c ∉ l → idxs c k l = []
  | [], _, _ => rfl
  | x :: r, k, h => by
    rw [List.mem_cons, not_or] at h
    rw [idxs_cons, if_neg (Ne.symm h.1), idxs_none (k + 1) h.2]
theorem idxs_some {c : Nat} : ∀ {l : List Nat} (k : Nat), c ∈ l → idxs c k l = (k + (l.takeWhile (· != c)).length) :: idxs c (k + (l.takeWhile (· != c)).length + 1) (l.drop ((l.takeWhile (· != c)).length + 1))
  | x :: r, k, h => by
    rw [idxs_cons]
    by_cases e : x = c
    · subst e
      rw [if_pos rfl, List.takeWhile_cons_of_neg (by simp)]
      rfl
    · rw [if_neg e]
      have hr : c ∈ r := by
        rcases List.mem_cons.mp h with z | z
        · exact absurd z.symm e
        · exact z
      rw [List.takeWhile_cons_of_pos (by simpa using e), idxs_some (k + 1) hr]
      simp only [List.length_cons, List.drop_succ_cons]
      rw [show k + 1 + (r.takeWhile (· != c)).length = k + ((r.takeWhile (· != c)).length + 1) by omega]
theorem idxs_app {c : Nat} : ∀ (l m : List Nat) (k : Nat), idxs c k (l ++ m) = idxs c k l ++ idxs c (k + l.length) m
  | [], m, k => rfl
  | x :: r, m, k => by
    rw [List.cons_append, idxs_cons, idxs_cons, idxs_app r m (k + 1), List.length_cons, show k + 1 + r.length = k + (r.length + 1) by omega]
    split <;> rfl
def partsFrom (l : List Nat) : Nat → List Nat → List (List Nat)
  | k, [] => [l.drop k]
  | k, i :: r => (l.take i).drop k :: partsFrom l (i + 1) r
theorem partsFrom_cons {l r : List Nat} {k i : Nat} : partsFrom l k (i :: r) = (l.take i).drop k :: partsFrom l (i + 1) r := rfl
theorem parts_spl {c : Nat} {l : List Nat} : ∀ (n k : Nat), partsFrom l k ((idxs c k (l.drop k)).take n) = spl c n (l.drop k)
  | 0, k => by rw [List.take_zero]; rfl
  | n + 1, k => by
    unfold spl
    by_cases h : c ∈ l.drop k
    · rw [if_pos h, idxs_some k h, List.take_succ_cons]
      unfold partsFrom
      generalize hp : ((l.drop k).takeWhile (· != c)).length = p
      rw [List.drop_drop, show k + (p + 1) = k + p + 1 by omega, parts_spl n (k + p + 1)]
      congr 1
      rw [List.drop_take, show k + p - k = p by omega, ← hp]
      exact (List.prefix_iff_eq_take.mp (List.takeWhile_prefix _)).symm
    · rw [if_neg h, idxs_none k h]
      rfl
theorem occ_one {c lim : Nat} {l : List Nat} : Builtin.Str.occurrences ⟨l.toArray⟩ ⟨#[c]⟩ 0 l.length lim = (idxs c 0 l).take lim := by
  rw [StrLaws.occ_eq]
  have key : ∀ (n j : Nat) (st : Array Nat × Nat), j + n = l.length + 1 → st.1.toList = (idxs c 0 (l.take j)).take lim → st.2 ≤ j → (forIn (List.range' j n) st (StrLaws.occBody ⟨l.toArray⟩ ⟨#[c]⟩ l.length lim)).run.fst.toList = (idxs c 0 l).take lim := by
    intro n
    induction n with
    | zero =>
      intro j st hj hs _
      change st.1.toList = _
      have e : l.take j = l := List.take_of_length_le (by omega)
      rw [hs, e]
    | succ n ih =>
      intro j st hj hs hf
      rw [List.range'_succ, List.forIn_cons]
      have hsub := StrLaws.subAt_one ⟨l.toArray⟩ c j
      have hlen : (⟨l.toArray⟩ : Str).length = l.length := by change l.toArray.size = _; simp
      rw [hlen] at hsub
      have hl1 : (⟨#[c]⟩ : Str).length = 1 := rfl
      unfold StrLaws.occBody
      split
      · rename_i hc
        refine ih (j + 1) _ (by omega) ?_ (Nat.le_refl _)
        have hx : l[j]? = some c := by have := hsub.mp ⟨hc.1.2, hc.2⟩; simpa using this
        change (st.1.push j).toList = _
        rw [Array.toList_push, hs, List.take_add_one, hx, Option.toList_some, idxs_app, Nat.zero_add]
        have hsz : ((idxs c 0 (l.take j)).take lim).length < lim := by rw [← hs, Array.length_toList]; exact hc.1.1.1
        rw [List.length_take] at hsz
        have hll : (l.take j).length = j := by rw [List.length_take]; have := (List.getElem?_eq_some_iff.mp hx).1; omega
        have e0 : (idxs c 0 (l.take j)).take lim = idxs c 0 (l.take j) := List.take_of_length_le (by omega)
        have e1 : idxs c j [c] = [j] := by rw [idxs_cons, if_pos rfl]; rfl
        rw [hll, e0, e1]
        have e2 : (idxs c 0 (l.take j) ++ [j]).take lim = idxs c 0 (l.take j) ++ [j] := List.take_of_length_le (by rw [List.length_append, List.length_singleton]; omega)
        rw [e2]
      · rename_i hc
        refine ih (j + 1) _ (by omega) ?_ (by change st.2 ≤ j + 1; omega)
        change st.1.toList = _
        rw [hs, List.take_add_one]
        cases hx : l[j]? with
        | none => rw [Option.toList_none, List.append_nil]
        | some x =>
          have hll : (l.take j).length = j := by rw [List.length_take]; have := (List.getElem?_eq_some_iff.mp hx).1; omega
          rw [Option.toList_some, idxs_app, Nat.zero_add, hll]
          by_cases e : x = c
          · subst e
            have h2 := hsub.mpr (by simpa using hx)
            have : lim ≤ ((idxs x 0 (l.take j)).take lim).length := by
              rw [← hs, Array.length_toList]
              rcases Nat.lt_or_ge st.1.size lim with z | z
              · exact absurd ⟨⟨⟨z, hf⟩, h2.1⟩, h2.2⟩ hc
              · exact z
            rw [List.length_take] at this
            rw [List.take_append_of_le_length (by omega)]
          · have e1 : idxs c j [x] = [] := by rw [idxs_cons, if_neg e]; rfl
            rw [e1, List.append_nil]
  have := key (l.length + 1 - 0) 0 (#[], 0) (by omega) (by simp [idxs]) (Nat.le_refl _)
  exact this
def Sg (l : List Nat) : Str := ⟨l.toArray⟩
theorem Sg_len {l : List Nat} : (Sg l).length = l.length := by change l.toArray.size = _; simp
theorem Sg_sub {l : List Nat} {i j : Nat} : Builtin.Str.strSub (Sg l) i j = Sg ((l.take j).drop i) := by
  unfold Builtin.Str.strSub Sg
  congr 1
  apply Array.toList_inj.mp
  rw [Array.toList_extract, List.extract_eq_drop_take, List.drop_take]
theorem parts_S {l : List Nat} : ∀ (cuts : List Nat) (k : Nat), ((k :: cuts.map (· + 1)).zip (cuts ++ [l.length])).map (fun q => Builtin.Str.strSub (Sg l) q.1 q.2) = (partsFrom l k cuts).map Sg
  | [], k => by
    change [Builtin.Str.strSub (Sg l) k l.length] = [Sg (l.drop k)]
    rw [Sg_sub, List.take_length]
  | i :: r, k => by
    rw [List.map_cons, List.cons_append, List.zip_cons_cons, List.map_cons, parts_S r (i + 1), partsFrom_cons, List.map_cons]
    dsimp only
    rw [Sg_sub]
theorem between_S {c n : Nat} {l : List Nat} : Builtin.Str.partsBetween (Sg l) (Builtin.Str.occurrences (Sg l) (Sg [c]) 0 (Sg l).length n) (Sg [c]).length = (spl c n l).map Sg := by
  have e : Builtin.Str.occurrences (Sg l) (Sg [c]) 0 (Sg l).length n = (idxs c 0 l).take n := by rw [Sg_len]; exact occ_one
  rw [e]
  have := parts_S (l := l) ((idxs c 0 l).take n) 0
  have h2 := parts_spl (c := c) (l := l) n 0
  rw [List.drop_zero] at h2
  rw [h2] at this
  unfold Builtin.Str.partsBetween
  rw [Sg_len, Sg_len]
  exact this
theorem spl_none {c : Nat} {l : List Nat} (h : c ∉ l) : ∀ n, spl c n l = [l]
  | 0 => rfl
  | n + 1 => by unfold spl; rw [if_neg h]
theorem kind_S {c : Nat} {l : List Nat} (hc : c < 256) : decide (Builtin.Str.strKind (Sg l) < Builtin.Str.strKind (Sg [c])) = false := by
  have e : Builtin.Str.strKind (Sg [c]) = 1 := by
    unfold Builtin.Str.strKind Sg
    rw [if_pos (by simp; exact hc)]
  rw [e]
  refine decide_eq_false ?_
  unfold Builtin.Str.strKind
  split
  · omega
  · split <;> omega
theorem max_S {c : Nat} {l : List Nat} (hc : c < 256) (n : Nat) : (if (decide ((Sg l).length < (Sg [c]).length) || decide (Builtin.Str.strKind (Sg l) < Builtin.Str.strKind (Sg [c]))) = true then [Sg l] else if (Builtin.Str.occurrences (Sg l) (Sg [c]) 0 (Sg l).length n).isEmpty = true then [Sg l] else Builtin.Str.partsBetween (Sg l) (Builtin.Str.occurrences (Sg l) (Sg [c]) 0 (Sg l).length n) (Sg [c]).length) = (spl c n l).map Sg := by
  rw [kind_S hc, Bool.or_false]
  split
  · rename_i h
    rw [Sg_len, Sg_len] at h
    have hl : l = [] := by
      have := of_decide_eq_true h
      exact List.length_eq_zero_iff.mp (by simp at this; simpa using this)
    subst hl
    rw [spl_none (by simp)]
    rfl
  · split
    · rename_i h
      have e : Builtin.Str.occurrences (Sg l) (Sg [c]) 0 (Sg l).length n = (idxs c 0 l).take n := by rw [Sg_len]; exact occ_one
      rw [e] at h
      by_cases hm : c ∈ l
      · cases n with
        | zero => rfl
        | succ n =>
          rw [idxs_some 0 hm] at h
          simp at h
      · rw [spl_none hm]
        rfl
    · exact between_S
theorem tw_all {p : Nat → Bool} : ∀ {l : List Nat}, (∀ x ∈ l, p x = true) → l.takeWhile p = l
  | [], _ => rfl
  | x :: r, h => by rw [List.takeWhile_cons_of_pos (h x (.head _)), tw_all fun y hy => h y (.tail _ hy)]
theorem part_S {c : Nat} {l : List Nat} : (Txt.partition (Sg l) (Sg [c])).1 = Sg (l.takeWhile (· != c)) := by
  unfold Txt.partition
  have e : Builtin.Str.occurrences (Sg l) (Sg [c]) 0 (Sg l).length 1 = (idxs c 0 l).take 1 := by rw [Sg_len]; exact occ_one
  rw [e]
  by_cases hm : c ∈ l
  · rw [idxs_some 0 hm]
    change Builtin.Str.strSub (Sg l) 0 _ = _
    rw [Sg_sub, Nat.zero_add, List.drop_zero]
    congr 1
    exact (List.prefix_iff_eq_take.mp (List.takeWhile_prefix _)).symm
  · rw [idxs_none 0 hm]
    change Sg l = _
    congr 1
    exact (tw_all fun x hx => by simp; exact fun z => hm (z ▸ hx)).symm
theorem spl_join {c : Nat} : ∀ {ws : List (List Nat)} {w : List Nat} {n : Nat}, ws.length ≤ n → (∀ x ∈ w :: ws, c ∉ x) → spl c n (w ++ ws.flatMap fun q => c :: q) = w :: ws
  | [], w, n, _, h => by rw [List.flatMap_nil, List.append_nil]; exact spl_none (h w (.head _)) n
  | x :: ws, w, 0, hn, h => by simp at hn
  | x :: ws, w, n + 1, hn, h => by
    have hw : c ∉ w := h w (.head _)
    have tw : (w ++ (x :: ws).flatMap fun q => c :: q).takeWhile (· != c) = w := by
      rw [List.flatMap_cons, List.cons_append, List.takeWhile_append_of_pos (fun y hy => by simp; exact fun z => hw (z ▸ hy)), List.takeWhile_cons_of_neg (by simp), List.append_nil]
    unfold spl
    rw [if_pos (by rw [List.flatMap_cons]; simp), tw]
    congr 1
    have : (w ++ (x :: ws).flatMap fun q => c :: q).drop (w.length + 1) = x ++ ws.flatMap fun q => c :: q := by
      rw [List.flatMap_cons, ← List.drop_drop, List.drop_left]
      rfl
    rw [this]
    exact spl_join (by simp at hn; omega) fun y hy => h y (.tail _ hy)
theorem spl_rest {c : Nat} : ∀ {ws : List (List Nat)} {r : List Nat}, (∀ x ∈ ws, c ∉ x) → spl c ws.length ((ws.flatMap fun q => q ++ [c]) ++ r) = ws ++ [r]
  | [], r, _ => rfl
  | x :: ws, r, h => by
    have hx : c ∉ x := h x (.head _)
    rw [List.flatMap_cons, List.length_cons]
    have e : x ++ [c] ++ (ws.flatMap fun q => q ++ [c]) ++ r = x ++ c :: ((ws.flatMap fun q => q ++ [c]) ++ r) := by simp
    rw [e]
    have tw : (x ++ c :: ((ws.flatMap fun q => q ++ [c]) ++ r)).takeWhile (· != c) = x := by
      rw [List.takeWhile_append_of_pos (fun y hy => by simp; exact fun z => hx (z ▸ hy)), List.takeWhile_cons_of_neg (by simp), List.append_nil]
    unfold spl
    rw [if_pos (by simp), tw, ← List.drop_drop, List.drop_left]
    change x :: spl c ws.length ((ws.flatMap fun q => q ++ [c]) ++ r) = _
    rw [spl_rest fun y hy => h y (.tail _ hy)]
    rfl
end L2
namespace L2
open PySem PySem.Spec PyProof.Rows
theorem vals_from : ∀ (zs : List Str) (tk : Nat), Vals (zs.map V.str) (strsFrom tk zs)
  | [], _ => .nil
  | z :: zs, tk => .cons ⟨_, rfl⟩ (vals_from zs (tk + 1))
section
variable {X : Cx} {o e f : Expr} {td ty tx : TE} {apos cpos : Pos}
def wV (ws : List (List Nat)) : List V := ws.map fun w => V.str (Sg w)
def tSplS (td ty : TE) : TE := fun σ H Q => td σ H fun x H1 => ∃ l, x = .str (Sg l) ∧ ty σ H1 fun y H2 => ∃ c, y = .str (Sg [c]) ∧ c < 256 ∧ l.length ≤ 100000 ∧ ∀ p, H2 p = none → Q (.ref p) (upd H2 p (.lst (wV (spl c (l.length + 1) l))))
def tSplM (td ty tx : TE) : TE := fun σ H Q => td σ H fun x H1 => ∃ l, x = .str (Sg l) ∧ ty σ H1 fun y H2 => tx σ H2 fun z H3 => ∃ c n, y = .str (Sg [c]) ∧ z = .int ((n : Nat) : Int) ∧ n ≤ 1000 ∧ c < 256 ∧ l.length ≤ 100000 ∧ ∀ p, H3 p = none → Q (.ref p) (upd H3 p (.lst (wV (spl c n l))))
theorem spl_len {c : Nat} : ∀ (n : Nat) (l : List Nat), (spl c n l).length ≤ n + 1
  | 0, _ => Nat.le_refl _
  | n + 1, l => by
    unfold spl
    split
    · rw [List.length_cons]
      exact Nat.succ_le_succ (spl_len n _)
    · simp
theorem fin_list {pins : List (Addr × Obj)} {σ : St} {H : Hp} {s : Shared} {Q : VK} {zs : List Str} {us : List Value} {tk : Nat} (I : Inv X pins σ H s) (hz : zs.length ≤ sizeLine) (hv : Vals (zs.map V.str) us) (q : ∀ p, H p = none → Q (.ref p) (upd H p (.lst (zs.map V.str)))) :
    EP X pins σ Q (.ref s.heap.objs.size) { s with heap := s.heap.push { cls := .type "list", data := .seq us.toArray }, toks := tk } :=
  ⟨.ref s.heap.objs.size, _, I.laid (a := s.heap.objs.size) (o := .lst (zs.map V.str)) (t' := tk) (fun _ _ q => Heap.get?_push_of_some _ q) (Nat.le_refl _) ⟨by rw [List.length_map]; exact hz, us, 0, hv, Heap.get?_push_size _ rfl⟩, rfl, q _ (I.hok.fresh (Nat.le_refl _))⟩
theorem pe_splS (ho : PE X o td) (he : PE X e ty) (m : M1 X o "split" apos e cpos) : PE X (.Call (.Attribute o "split" apos) [e] [] cpos) (tSplS td ty) := by
  intro pins s σ H Q I h
  refine wpAny_Call_method m.base m.few m.line PySem.F.plainAttrs_str PySem.F.slot_str_split PySem.F.type_str_split (thn (ho pins s σ H _ I h) fun u s1 ⟨x, H1, I1, rx, l, ex, q1⟩ => ?_)
  subst ex
  obtain ⟨t, rfl⟩ := rx
  refine ⟨typeIs_str _ _ _, (fun _ e => nomatch e), ?_⟩
  rw [m.trees]
  refine Calls.callWith_builtin rfl (Calls.evalArgs_plain (Calls.spliced_cons (thn (he pins s1 σ H1 _ I1 q1) fun iv s2 ⟨y, H2, I2, ry, c, ey, hc, hl, q2⟩ => Calls.spliced_nil ?_)))
  subst ey
  obtain ⟨t2, rfl⟩ := ry
  have hsl := spl_len (c := c) (l.length + 1) l
  have hxl : (Sg l).length ≤ sizeLine := by rw [Sg_len, sizeLine_eq]; omega
  have hz : (spl c (l.length + 1) l).map (fun w => V.str (Sg w)) = ((spl c (l.length + 1) l).map Sg).map V.str := by rw [List.map_map]; rfl
  unfold wV at q2
  rw [hz] at q2
  have hM := max_S (l := l) hc ((Sg l).length + 1)
  have hK := kind_S (l := l) hc
  have hln : (Sg l).length + 1 = l.length + 1 := by rw [Sg_len]
  by_cases h1 : (decide ((Sg l).length < (Sg [c]).length) || decide (Builtin.Str.strKind (Sg l) < Builtin.Str.strKind (Sg [c]))) = true
  · rw [if_pos h1] at hM
    rw [hln] at hM
    refine call_meets PySem.F.slot_str_split (typeIs_str _ _ _) PySem.F.entry_str_split (PySem.F.args_str_split_2 _ _) (meets_str_split_cannot_occur (Sg l) (Sg [c]) t t2 h1) ?_
    rw [← hM] at q2
    exact fin_list (zs := [Sg l]) (tk := s2.toks) I2 (by simp [sizeLine_eq]) (.cons ⟨t, rfl⟩ .nil) q2
  · have h1' := Bool.eq_false_iff.mpr h1
    rw [if_neg h1] at hM
    have hy : ((Sg [c]).length == 0) = false := by rw [Sg_len]; rfl
    by_cases h2 : (Builtin.Str.occurrences (Sg l) (Sg [c]) 0 (Sg l).length ((Sg l).length + 1)).isEmpty = true
    · rw [if_pos h2, hln] at hM
      refine call_meets PySem.F.slot_str_split (typeIs_str _ _ _) PySem.F.entry_str_split (PySem.F.args_str_split_2 _ _) (meets_str_split_not_found (Sg l) (Sg [c]) t t2 h1' hy h2) ?_
      rw [← hM] at q2
      exact fin_list (zs := [Sg l]) (tk := s2.toks) I2 (by simp [sizeLine_eq]) (.cons ⟨t, rfl⟩ .nil) q2
    · rw [if_neg h2] at hM
      have hP := hM
      rw [hln] at hM
      refine call_meets PySem.F.slot_str_split (typeIs_str _ _ _) PySem.F.entry_str_split (PySem.F.args_str_split_2 _ _) (meets_str_split_sep (Sg l) (Sg [c]) t t2 h1' hy (Bool.eq_false_iff.mpr h2) hxl (by rw [hP, List.length_map, hln, sizeLine_eq]; omega)) ?_
      rw [hP, hln]
      exact fin_list (tk := _) I2 (by rw [List.length_map, sizeLine_eq]; omega) (vals_from _ _) q2
theorem pe_splM (ho : PE X o td) (he : PE X e ty) (hf : PE X f tx) (m : M2 X o "split" apos e f cpos) : PE X (.Call (.Attribute o "split" apos) [e, f] [] cpos) (tSplM td ty tx) := by
  intro pins s σ H Q I h
  refine wpAny_Call_method m.base m.few m.line PySem.F.plainAttrs_str PySem.F.slot_str_split PySem.F.type_str_split (thn (ho pins s σ H _ I h) fun u s1 ⟨x, H1, I1, rx, l, ex, q1⟩ => ?_)
  subst ex
  obtain ⟨t, rfl⟩ := rx
  refine ⟨typeIs_str _ _ _, (fun _ e => nomatch e), ?_⟩
  rw [m.trees]
  refine Calls.callWith_builtin rfl (Calls.evalArgs_plain (Calls.spliced_cons (thn (he pins s1 σ H1 _ I1 q1) fun iv s2 ⟨y, H2, I2, ry, q2⟩ => Calls.spliced_cons (thn (hf pins s2 σ H2 _ I2 q2) fun jv s3 ⟨z, H3, I3, rz, c, n, ey, ez, hn, hc, hl, q3⟩ => Calls.spliced_nil ?_))))
  subst ey ez
  obtain ⟨t2, rfl⟩ := ry
  obtain ⟨t3, rfl⟩ := rz
  have hsl := spl_len (c := c) n l
  have hxl : (Sg l).length ≤ sizeLine := by rw [Sg_len, sizeLine_eq]; omega
  have hz : (spl c n l).map (fun w => V.str (Sg w)) = ((spl c n l).map Sg).map V.str := by rw [List.map_map]; rfl
  unfold wV at q3
  rw [hz] at q3
  have hM := max_S (l := l) hc n
  have hkk : (decide (((n : Nat) : Int) < -(2 ^ 63 : Int)) || decide (((n : Nat) : Int) ≥ 2 ^ 63)) = false := by
    rw [decide_eq_false (by omega), decide_eq_false (by omega)]; rfl
  have hlim : limitOf (Sg l) ((n : Nat) : Int) = n := by unfold limitOf; rw [if_neg (by omega), Int.toNat_natCast]
  by_cases h1 : (decide ((Sg l).length < (Sg [c]).length) || decide (Builtin.Str.strKind (Sg l) < Builtin.Str.strKind (Sg [c]))) = true
  · rw [if_pos h1] at hM
    refine call_meets PySem.F.slot_str_split (typeIs_str _ _ _) PySem.F.entry_str_split (PySem.F.args_str_split_3 _ _ _) (meets_str_split_max_cannot_occur (Sg l) (Sg [c]) _ t t2 t3 hkk h1) ?_
    rw [← hM] at q3
    exact fin_list (zs := [Sg l]) (tk := s3.toks) I3 (by simp [sizeLine_eq]) (.cons ⟨t, rfl⟩ .nil) q3
  · have h1' := Bool.eq_false_iff.mpr h1
    rw [if_neg h1] at hM
    have hy : ((Sg [c]).length == 0) = false := by rw [Sg_len]; rfl
    by_cases h2 : (Builtin.Str.occurrences (Sg l) (Sg [c]) 0 (Sg l).length n).isEmpty = true
    · rw [if_pos h2] at hM
      refine call_meets PySem.F.slot_str_split (typeIs_str _ _ _) PySem.F.entry_str_split (PySem.F.args_str_split_3 _ _ _) (meets_str_split_max_not_found (Sg l) (Sg [c]) _ t t2 t3 hkk h1' hy (by rw [hlim]; exact h2)) ?_
      rw [← hM] at q3
      exact fin_list (zs := [Sg l]) (tk := s3.toks) I3 (by simp [sizeLine_eq]) (.cons ⟨t, rfl⟩ .nil) q3
    · rw [if_neg h2] at hM
      refine call_meets PySem.F.slot_str_split (typeIs_str _ _ _) PySem.F.entry_str_split (PySem.F.args_str_split_3 _ _ _) (meets_str_split_sep_max (Sg l) (Sg [c]) _ t t2 t3 hkk h1' hy (by rw [hlim]; exact Bool.eq_false_iff.mpr h2) hxl (by rw [hlim, hM, List.length_map, sizeLine_eq]; omega)) ?_
      rw [hlim, hM]
      exact fin_list (tk := _) I3 (by rw [List.length_map, sizeLine_eq]; omega) (vals_from _ _) q3
def tPart1 (td ty : TE) : TE := fun σ H Q => td σ H fun x H1 => ∃ l, x = .str (Sg l) ∧ ty σ H1 fun y H2 => ∃ c, y = .str (Sg [c]) ∧ l.length ≤ 100000 ∧ ∀ a b p, H2 p = none → Q (.ref p) (upd H2 p (.tup [.str (Sg (l.takeWhile (· != c))), .str a, .str b]))
theorem pe_part1 (ho : PE X o td) (he : PE X e ty) (m : M1 X o "partition" apos e cpos) : PE X (.Call (.Attribute o "partition" apos) [e] [] cpos) (tPart1 td ty) := by
  intro pins s σ H Q I h
  refine wpAny_Call_method m.base m.few m.line PySem.F.plainAttrs_str PySem.F.slot_str_partition PySem.F.type_str_partition (thn (ho pins s σ H _ I h) fun u s1 ⟨x, H1, I1, rx, l, ex, q1⟩ => ?_)
  subst ex
  obtain ⟨t, rfl⟩ := rx
  refine ⟨typeIs_str _ _ _, (fun _ e => nomatch e), ?_⟩
  rw [m.trees]
  refine Calls.callWith_builtin rfl (Calls.evalArgs_plain (Calls.spliced_cons (thn (he pins s1 σ H1 _ I1 q1) fun iv s2 ⟨y, H2, I2, ry, c, ey, hl, q2⟩ => Calls.spliced_nil ?_)))
  subst ey
  obtain ⟨t2, rfl⟩ := ry
  have hy : ((Sg [c]).length == 0) = false := by rw [Sg_len]; rfl
  refine call_meets PySem.F.slot_str_partition (typeIs_str _ _ _) PySem.F.entry_str_partition (PySem.F.args_str_partition_2 _ _) (meets_str_partition (Sg l) (Sg [c]) t t2 hy (by rw [Sg_len, sizeLine_eq]; omega)) ?_
  have hp := part_S (c := c) (l := l)
  unfold Txt.partition at hp
  revert hp
  cases Builtin.Str.occurrences (Sg l) (Sg [c]) 0 (Sg l).length 1 with
  | nil =>
    intro hp
    replace hp : Sg l = Sg (l.takeWhile (· != c)) := hp
    rw [← hp] at q2
    exact ⟨.ref s2.heap.objs.size, _, I2.laid (a := s2.heap.objs.size) (o := .tup [.str (Sg l), .str Str.empty, .str Str.empty]) (t' := s2.toks + 1) (fun _ _ q => Heap.get?_push_of_some _ q) (Nat.le_refl _) ⟨by simp [sizeLine_eq], _, .cons ⟨_, rfl⟩ (.cons ⟨_, rfl⟩ (.cons ⟨_, rfl⟩ .nil)), ⟨_, Heap.get?_push_size _ rfl, rfl, 0, rfl⟩⟩, rfl, q2 _ _ _ (I2.hok.fresh (Nat.le_refl _))⟩
  | cons i r =>
    intro hp
    replace hp : Builtin.Str.strSub (Sg l) 0 i = Sg (l.takeWhile (· != c)) := hp
    rw [← hp] at q2
    exact ⟨.ref s2.heap.objs.size, _, I2.laid (a := s2.heap.objs.size) (o := .tup [.str (Builtin.Str.strSub (Sg l) 0 i), .str (Sg [c]), .str (Builtin.Str.strSub (Sg l) (i + (Sg [c]).length) (Sg l).length)]) (t' := s2.toks + 1 + 1) (fun _ _ q => Heap.get?_push_of_some _ q) (Nat.le_refl _) ⟨by simp [sizeLine_eq], _, .cons ⟨_, rfl⟩ (.cons ⟨_, rfl⟩ (.cons ⟨_, rfl⟩ .nil)), ⟨_, Heap.get?_push_size _ rfl, rfl, 0, rfl⟩⟩, rfl, q2 _ _ _ (I2.hok.fresh (Nat.le_refl _))⟩
end
end L2
namespace L2
open PySem PySem.Spec PyProof.Rows
section
variable {prog : Program} {w : World} {A : Around} {E : Value → Shared → Prop} {s : Shared}
theorem wpAny_rangeB {β : Type} {n : Nat} {f : Nat → β → Sem (ForInStep β)} (I : Nat → β → Shared → Prop) {Q : β → Shared → Prop} (step : ∀ i c s', i < n → I i c s' → wpAny (model prog w) A (f i c) (fun r t => match r with | .yield c' => I (i + 1) c' t | .done c' => Q c' t) E s')
    (fin : ∀ c s', I n c s' → Q c s') {c : β} (h : I 0 c s) : wpAny (model prog w) A (forIn [0:n] c f) Q E s := by
  rw [Std.Legacy.Range.forIn_eq_forIn_range']
  have hz : ([0:n] : Std.Legacy.Range).size = n := by simp [Std.Legacy.Range.size]
  change wpAny _ _ (forIn (List.range' 0 ([0:n] : Std.Legacy.Range).size 1) c f) _ _ _
  rw [hz]
  refine wpAny_forIn_list f (fun l c t => ∃ i, i ≤ n ∧ l = List.range' i (n - i) 1 ∧ I i c t) Q ?_ ?_ _ c ⟨0, by omega, rfl, h⟩
  · rintro x rest c t ⟨i, hi, hl, hI⟩
    obtain ⟨m, hm⟩ : ∃ m, n - i = m + 1 := by
      rcases Nat.lt_or_ge i n with z | z
      · exact ⟨n - i - 1, by omega⟩
      · rw [show n - i = 0 by omega] at hl; cases hl
    rw [hm, List.range'_succ] at hl
    injection hl with h1 h2
    subst h1
    refine wpAny_mono (step x c t (by omega) hI) (fun r t' hr => ?_) fun _ _ z => z
    cases r with
    | yield c' => exact ⟨x + 1, by omega, by rw [h2]; congr 1; omega, hr⟩
    | done c' => exact hr
  · rintro c t ⟨i, hi, hl, hI⟩
    have : n - i = 0 := by
      have := congrArg List.length hl
      simpa using this.symm
    have e : i = n := by omega
    subst e
    exact fin c t hI
theorem wp_tindex {a : Addr} {its : Array Value} {z : Str} {u : Tok} {j : Nat} {R : Value → Shared → Prop} (hT : IsTup s.heap a its) (e : Nat → Bool) (he : ∀ i y, its[i]? = some y → ∃ x t, y = .str x t ∧ e i = (x == z)) (hj : j < its.size) (hit : e j = true) (hno : ∀ i, i < j → e i = false)
    (h : R (.int j s.toks) { s with toks := s.toks + 1 }) : wpAny (model prog w) A (Builtin.«tuple.index» ⟨[.ref a, .str z u], []⟩) (fun fin s' => ∃ v, fin = .done (.ret v) ∧ R v s') E s := by
  obtain ⟨o, go, co, n, dn⟩ := hT
  unfold Builtin.«tuple.index»
  wp_walk
  rw [dn]
  refine wpAny_pure (wpAny_pure ?_)
  dsimp only
  refine wpAny_bind (wpAny_pure (wpAny_bind (wpAny_pure (wpAny_bind ?_))))
  rw [Nat.min_self]
  refine wpAny_mono (wpAny_rangeB (fun i (c : Option Fin × Unit) t => i ≤ j ∧ t = s ∧ c.1 = none) (Q := fun c t => c.1 = some (.done (.ret (.int j s.toks))) ∧ t = { s with toks := s.toks + 1 }) ?_ ?_ ⟨Nat.zero_le _, rfl, rfl⟩) ?_ fun _ _ z => z
  · rintro i ⟨c, _⟩ t hi ⟨hij, rfl, hc⟩
    obtain ⟨x, tk, ex, ei⟩ := he i _ (Array.getElem?_eq_getElem hi)
    rw [Array.getElem?_eq_getElem hi]
    dsimp only
    rw [ex]
    refine wpAny_bind ?_
    refine SeqAt.EqAt.str_str x tk z u _ _ _ _ ?_
    rw [← ei]
    rcases Nat.lt_or_eq_of_le hij with hl | rfl
    · rw [hno i hl, if_neg Bool.false_ne_true]
      exact wpAny_pure ⟨hl, rfl, rfl⟩
    · rw [hit, if_pos rfl]
      refine wpAny_bind ?_
      wp_walk
      exact ⟨rfl, rfl⟩
  · rintro c t ⟨hc, _, _⟩
    omega
  · rintro ⟨c, _⟩ t ⟨hc, ht⟩
    dsimp only at hc ⊢
    subst hc ht
    exact wpAny_pure ⟨_, rfl, h⟩
end
section
variable {X : Cx} {o e i c : Expr} {td ty tf : TE} {t : TA} {apos cpos pos p : Pos}
def rInS : R2 := fun x y H Q => ∃ (l : List Nat) (c : Nat), x = .str (Sg [c]) ∧ y = .str (Sg l) ∧ Q (.bl (decide (c ∈ l))) H
theorem mem_idxs {c : Nat} {l : List Nat} : (!((idxs c 0 l).take 1).isEmpty) = decide (c ∈ l) := by
  by_cases h : c ∈ l
  · rw [idxs_some 0 h, decide_eq_true h]; rfl
  · rw [idxs_none 0 h, decide_eq_false h]; rfl
theorem op_inS : OpR X (compareOp .In) rInS := by
  intro pins s σ H x y v u Q I rx ry h
  obtain ⟨l, c, rfl, rfl, q⟩ := h
  obtain ⟨t, rfl⟩ := rx
  obtain ⟨t', rfl⟩ := ry
  refine PySem.P.in_str ?_
  have e : Builtin.Str.occurrences (Sg l) (Sg [c]) 0 (Sg l).length 1 = (idxs c 0 l).take 1 := by rw [Sg_len]; exact occ_one
  rw [e, mem_idxs]
  exact ⟨.bl _, H, I, rfl, q⟩
def rIntS : List V → Hp → VK → Prop := fun xs H Q => ∃ n : Int, xs = [.str (Str.ofString (toString n))] ∧ 0 ≤ n ∧ n < 10 ^ 10 ∧ Q (.int n) H
theorem call_intS : CallR X (.type "int") rIntS := by
  intro pins s σ H xs us Q I r h
  obtain ⟨n, rfl, h0, h1, q⟩ := h
  cases r with
  | cons r1 r2 =>
    cases r2
    obtain ⟨t, rfl⟩ := r1
    exact PySem.W.KIN.call_num h0 h1 ⟨.int n, H, I.tok _, ⟨_, rfl⟩, q⟩
def KTs (K : PySem.W.Frag) (a : Addr) (zs : List Str) : Prop := ∃ (ob : Obj) (its : Array Value) (n : Nat), K.lookup a = some ob ∧ ob.cls = .type "tuple" ∧ ob.dict = none ∧ ob.data = .seq its n ∧ its.size ≤ sizeLine ∧ Vals (zs.map V.str) its.toList
theorem KTs.sq {K : PySem.W.Frag} {H : Hp} {a : Addr} {zs : List Str} (h : KTs K a zs) : SqT K H a (zs.map V.str) := let ⟨ob, its, n, h1, h2, _, h3, h4, h5⟩ := h; .inr ⟨ob, its, n, h1, h2, h3, h4, h5⟩
def tTIx (K : PySem.W.Frag) (td ty : TE) : TE := fun σ H Q => td σ H fun x H1 => ∃ (a : Addr) (zs : List Str), x = .ref a ∧ KTs K a zs ∧ ty σ H1 fun y H2 => ∃ (z : Str) (j : Nat), y = .str z ∧ zs[j]? = some z ∧ (∀ k, k < j → zs[k]? ≠ some z) ∧ Q (.int ((j : Nat) : Int)) H2
theorem vals_str : ∀ {zs : List Str} {its : List Value}, Vals (zs.map V.str) its → ∀ (i : Nat) (y : Value), its[i]? = some y → ∃ x t, y = .str x t ∧ zs[i]? = some x
  | [], _, .nil, i, y, h => by simp at h
  | z :: zs, _, .cons r rs, 0, y, h => by
    obtain ⟨t, rfl⟩ := r
    rw [List.getElem?_cons_zero] at h
    cases h
    exact ⟨z, t, rfl, rfl⟩
  | z :: zs, _, .cons r rs, i + 1, y, h => by
    rw [List.getElem?_cons_succ] at h
    obtain ⟨x, t, e1, e2⟩ := vals_str rs i y h
    exact ⟨x, t, e1, by rw [List.getElem?_cons_succ]; exact e2⟩
theorem isTup_type {s : Shared} {a : Addr} {its : Array Value} (h : IsTup s.heap a its) : s.TypeIs (.ref a) "tuple" := let ⟨o, e, cc, _⟩ := h; ⟨o, e, cc⟩
theorem pe_tix {K : PySem.W.Frag} (ho : PE X o td) (he : PE X e ty) (m : M1 X o "index" apos e cpos) (hK : X.K = K := by rfl) : PE X (.Call (.Attribute o "index" apos) [e] [] cpos) (tTIx K td ty) := by
  subst hK
  intro pins s σ H Q I h
  refine wpAny_Call_method m.base m.few m.line PySem.F.plainAttrs_tuple PySem.F.slot_tuple_index PySem.F.type_tuple_index (thn (ho pins s σ H _ I h) fun u s1 ⟨x, H1, I1, rx, a, zs, ex, hS, q1⟩ => ?_)
  subst ex
  obtain rfl : u = Value.ref a := rx
  obtain ⟨ob, its, n, hl, hc, hd, hs, hz, hv⟩ := hS
  refine ⟨⟨ob, I1.kIn _ _ hl, hc⟩, (fun b q => by cases q; exact ⟨ob, I1.kIn _ _ hl, hd⟩), ?_⟩
  rw [m.trees]
  refine Calls.callWith_builtin rfl (Calls.evalArgs_plain (Calls.spliced_cons (thn (he pins s1 σ H1 _ I1 q1) fun iv s2 ⟨y, H2, I2, ry, z, j, ey, hj, hno, q2⟩ => Calls.spliced_nil ?_)))
  subst ey
  obtain ⟨t2, rfl⟩ := ry
  have hT : IsTup s2.heap a its := ⟨ob, I2.kIn _ _ hl, hc, n, hs⟩
  have hlen : zs.length = its.size := by have := hv.length; rwa [List.length_map, Array.length_toList] at this
  refine wpAny_call_entry PySem.F.slot_tuple_index (isTup_type hT) PySem.F.entry_tuple_index (wp_tindex hT (fun k => decide (zs[k]? = some z)) (fun k y' hy => ?_) (by rw [← hlen]; exact (List.getElem?_eq_some_iff.mp hj).1) (decide_eq_true hj) (fun k hk => decide_eq_false (hno k hk)) ⟨.int j, H2, I2.tok _, ⟨_, rfl⟩, q2⟩) (PySem.F.args_tuple_index_2 _ _)
  obtain ⟨x, tt, e1, e2⟩ := vals_str hv k y' (by rw [Array.getElem?_toList]; exact hy)
  refine ⟨x, tt, e1, ?_⟩
  rw [e2, Bool.eq_iff_iff, decide_eq_true_eq, beq_iff_eq, Option.some.injEq]
def KD (K : PySem.W.Frag) (a : Addr) (D : List (Str × V)) : Prop := (a == sysModules) = false ∧ ∃ ob es ep, K.lookup a = some ob ∧ ob.ExactDict ∧ ob.data = .dict es ep ∧ KTD.Rows (fun d v => RelV d v) es.toList D
section
variable {pins : List (Addr × Obj)} {σ : St} {H : Hp} {s : Shared} {A : Around} {E : Value → Shared → Prop} {a : Addr} {D : List (Str × V)} {k : Str} {tk : Tok}
theorem KD.type (I : Inv X pins σ H s) (T : KD X.K a D) : s.TypeIs (.ref a) "dict" := let ⟨_, ob, _, _, h1, h2, _⟩ := T; ⟨ob, I.kIn _ _ h1, h2.1⟩
theorem kd_get {Q : Option Value → Shared → Prop} (I : Inv X pins σ H s) (T : KD X.K a D) (h1 : ∀ d v, KTD.datumAt k D = some d → RelV d v → Q (some v) { s with toks := s.toks + 1 }) (h2 : KTD.datumAt k D = none → Q none { s with toks := s.toks + 1 }) :
    wpAny (model X.prog X.w) A (dictGet a (.str k tk)) Q E s := by
  obtain ⟨_, ob, es, ep, hl, _, hd, hr⟩ := T
  have gob := I.kIn _ _ hl
  have fin : Q (findBy (fun q v => v.isStr q) es k) { s with toks := s.toks + 1 } := by
    have e0 : findBy (fun q v => v.isStr q) es k = (es.toList.find? fun en => en.key.isStr k).map (·.val) := by
      obtain ⟨l⟩ := es
      simp [findBy]
    rw [e0]
    cases z : KTD.datumAt k D with
    | none => rw [hr.find_none z]; exact h2 z
    | some d =>
      obtain ⟨v, e1, e2⟩ := hr.find_some z
      rw [e1]
      exact h1 d v z e2
  rw [findBy_of_findIdx?] at fin
  unfold dictGet
  refine wpAny_holding ?_
  refine wpAny_bind (wpAny_pyHash_str (wpAny_bind (KTD.kt_dictFind_strs (s := { s with toks := s.toks + 1 }) gob hd ?_ ?_)))
  · have := hr.exact
    obtain ⟨l⟩ := es
    simpa using this
  · cases z : es.findIdx? fun en => en.key.isStr k with
    | none => rw [z] at fin; exact wpAny_pure fin
    | some n => rw [z] at fin; exact wpAny_bind (wpAny_dictEntries (s := { s with toks := s.toks + 1 }) gob hd (wpAny_pure fin))
theorem kd_item {Q : Value → Shared → Prop} {d : V} (I : Inv X pins σ H s) (T : KD X.K a D) (hk : KTD.datumAt k D = some d) (h : ∀ v s', Inv X pins σ H s' → RelV d v → Q v s') : wpAny (model X.prog X.w) A (getItem (.ref a) (.str k tk)) Q E s := by
  unfold getItem
  refine wpAny_holding ?_
  refine wpAny_bind (wpAny_sequenceKey (KD.type I T) (by decide) ?_)
  refine wpAny_bind (wpAny_callSpecial?_slot (name := Str.ofString "__getitem__") (KD.type I T) PySem.F.slot_dict_getitem (wpAny_call_entry PySem.F.slot_dict_getitem (KD.type I T) PySem.F.entry_dict_getitem ?_ (PySem.F.args_dict_getitem_2 _ _)))
  change wpAny _ _ (dictGet a (.str k tk) >>= _) _ _ _
  refine wpAny_bind (kd_get I T (fun d' v e r => ?_) fun e => ?_)
  · rw [hk] at e
    cases e
    exact wpAny_pure ⟨v, rfl, wpAny_pure (h v _ (I.tok _) r)⟩
  · rw [hk] at e
    cases e
theorem kd_notIn {Q : Value → Shared → Prop} {d : V} (I : Inv X pins σ H s) (T : KD X.K a D) (hk : KTD.datumAt k D = some d) (h : ∀ s', Inv X pins σ H s' → Q (.bool false) s') : wpAny (model X.prog X.w) A (compareOp .NotIn (.str k tk) (.ref a)) Q E s := by
  change wpAny _ _ (contains (.ref a) (.str k tk) >>= fun r => pure (.bool (!r))) Q E s
  refine wpAny_bind ?_
  unfold contains
  refine wpAny_holding ?_
  refine wpAny_bind (wpAny_specialOf (KD.type I T) PySem.F.slot_dict_contains.lookup ?_)
  change wpAny _ _ (if (some (Value.builtin "dict.__contains__") == some Value.none) = true then _ else _) _ _ _
  rw [if_neg (by rw [beq_builtin_none]; exact Bool.false_ne_true)]
  refine wpAny_bind (wpAny_callSpecialUnlessNone?_slot (name := Str.ofString "__contains__") (KD.type I T) PySem.F.slot_dict_contains (wpAny_call_entry PySem.F.slot_dict_contains (KD.type I T) PySem.F.entry_dict_contains ?_ (PySem.F.args_dict_contains_2 _ _)))
  change wpAny _ _ (dictGet a (.str k tk) >>= _) _ _ _
  refine wpAny_bind (kd_get I T (fun d' v e r => ?_) fun e => ?_)
  · exact wpAny_pure ⟨_, rfl, wpAny_truthy_bool (wpAny_pure (h _ (I.tok _)))⟩
  · rw [hk] at e
    cases e
end
def tKGet (K : PySem.W.Frag) (td ty : TE) : TE := fun σ H Q => td σ H fun x H1 => ty σ H1 fun y H2 => ∃ a D z d, x = .ref a ∧ KD K a D ∧ y = .str z ∧ KTD.datumAt z D = some d ∧ Q d H2
theorem pe_kget {K : PySem.W.Frag} (ho : PE X o td) (hi : PE X i ty) (hs : NoSl i) (hK : X.K = K := by rfl) : PE X (.Subscript o i pos) (tKGet K td ty) := by
  subst hK
  intro pins s σ H Q I h
  refine subD_of PySem.F.slot_dict_getitem.lookup hs (thn (ho pins s σ H _ I h) fun u s1 ⟨x, H1, I1, rx, q1⟩ => thn (hi pins s1 σ H1 _ I1 q1) fun iv s2 ⟨y, H2, I2, ry, a, D, z, d, ex, T, ey, hk, q2⟩ => ?_)
  subst ex ey
  obtain rfl : u = Value.ref a := rx
  obtain ⟨t, rfl⟩ := ry
  exact ⟨KD.type I2 T, kd_item I2 T hk fun v s3 I3 r => ⟨d, H2, I3, r, q2⟩⟩
def rKNotIn (K : PySem.W.Frag) : R2 := fun x y H Q => ∃ a D z d, y = .ref a ∧ KD K a D ∧ x = .str z ∧ KTD.datumAt z D = some d ∧ Q (.bl false) H
theorem op_kNotIn {K : PySem.W.Frag} (hK : X.K = K := by rfl) : OpR X (compareOp .NotIn) (rKNotIn K) := by
  subst hK
  intro pins s σ H x y v u Q I rx ry h
  obtain ⟨a, D, z, d, rfl, T, rfl, hk, q⟩ := h
  obtain ⟨t, rfl⟩ := rx
  obtain rfl : u = Value.ref a := ry
  exact kd_notIn I T hk fun s' I' => ⟨.bl false, H, I', rfl, q⟩
def FnV (P : Program) (w : World) (K : PySem.W.Frag) (mg : Str → Option Value) (base : Heap) (j : Nat) (ps : List Str) (f : Addr) (sp : Sp) : Prop := ∃ fd, PySem.W.keepIn K (.ref f) = true ∧ Binds K fd ps [] ∧ FnOk P w K mg base CX0 j f fd ps sp
def tFnV (P : Program) (w : World) (K : PySem.W.Frag) (mg : Str → Option Value) (base : Heap) (j : Nat) (ps : List Str) (tf : TE) (t : TA) : TE := fun σ H Q => tf σ H fun v H1 => ∃ f sp, v = .ref f ∧ FnV P w K mg base j ps f sp ∧ t σ H1 fun vs H2 => sp vs H2 Q E0
theorem pe_fnV {P : Program} {w : World} {K : PySem.W.Frag} {mg : Str → Option Value} {base : Heap} {x : Str} {es : List Expr} {j k : Nat} {ps : List Str} (hf : PE X (.Name x p) tf) (hr : Room k X.A) (ha : PA X (e :: es) t) (hk : j ≤ k := by decide)
    (h1 : X.prog = P := by rfl) (h2 : X.w = w := by rfl) (h3 : X.K = K := by rfl) (h4 : X.mg = mg := by rfl) (h5 : X.base = base := by rfl)
    (he : starEach (e :: es) X.env = (false, eval e X.env) :: starEach es X.env := by rfl) (hpl : (backTo pos (starEach es X.env)).any (·.1) = false := by rfl) :
    PE X (.Call (.Name x p) (e :: es) [] pos) (tFnV P w K mg base j ps tf t) := by
  subst h1 h2 h3 h4 h5
  intro pins s σ H Q I h
  refine wpAny_Call_Name_kw (thn (hf pins s σ H _ I h) fun u s1 ⟨v, H1, I1, rv, f, sp, ev, ⟨fd, kp, hb, F⟩, q⟩ => ?_)
  subst ev
  obtain rfl : u = Value.ref f := rv
  refine PySem.W.callWith_K (h₀ := X.base) I.ok.mod.kin kp (thn (ha pos pins s1 σ H1 _ I1 q) fun us s2 ⟨vs, H2, I2, r, q2⟩ => ⟨I2.kIn, ?_⟩) he hpl
  exact run_fn F (hr.mono hk) hb .nil pass0 I2 r (by rw [List.append_nil]; exact q2)
theorem Own.fnV {P : Program} {w : World} {K : PySem.W.Frag} {mg : Str → Option Value} {base : Heap} {j : Nat} {x : Str} {ps : List Str} {sp : Sp} (h : Own P w K mg base j x ps sp) : ∃ f, mg x = some (.ref f) ∧ FnV P w K mg base j ps f sp := let ⟨f, fd, h1, h2, h3, h4⟩ := h; ⟨f, h1, fd, h2, h3, h4⟩
end
end L2
set_option maxHeartbeats 2000000
namespace L2
open PySem PySem.Spec PyProof.Rows
def itN : Bool → String
  | true => "tuple_iterator"
  | false => "list_iterator"
def Sit : Bool → Heap → Addr → Addr → Nat → Prop
  | true, h, j, a, n => h.IsTupleIter j a n
  | false, h, j, a, n => h.IsListIter j a n
def Ssq : Bool → Heap → Addr → Array Value → Prop
  | true, h, a, xs => h.IsTuple a xs
  | false, h, a, xs => h.IsList a xs
def Sq : Bool → PySem.W.Frag → Hp → Addr → List V → Prop
  | true, K, H, a, xs => SqT K H a xs
  | false, K, H, a, xs => SqL K H a xs
section
variable {κ : Bool} {h h' : Heap} {j a : Addr} {n : Nat} {its : Array Value}
theorem Sit.mk (q : h.get? j = some { cls := .type (itN κ), data := .fields #[.ref a, .int 0 0] }) : Sit κ h j a 0 := by
  cases κ
  · exact ⟨_, q, rfl, rfl⟩
  · exact ⟨_, q, rfl, rfl⟩
theorem Sit.fields (x : Sit κ h j a n) : ∃ o, h.get? j = some o ∧ o.data = .fields #[.ref a, .int n 0] := by
  cases κ
  · obtain ⟨o, e, _, d⟩ := x; exact ⟨o, e, d⟩
  · obtain ⟨o, e, _, d⟩ := x; exact ⟨o, e, d⟩
theorem Sit.at (x : Sit κ h j a n) (k : ∀ o, h.get? j = some o → h'.get? j = some o) : Sit κ h' j a n := by
  cases κ
  · exact Heap.IsListIter.at x k
  · exact Heap.IsTupleIter.at x k
theorem Sit.extBut {b : Addr} (x : Sit κ h j a n) (m : Heap.ExtBut b h h') (ne : j ≠ b) : Sit κ h' j a n := x.at fun o e => m _ _ ne e
theorem Ssq.extBut {b : Addr} (x : Ssq κ h a its) (m : Heap.ExtBut b h h') (ne : a ≠ b) : Ssq κ h' a its := by
  cases κ
  · obtain ⟨o, e, r⟩ := x; exact ⟨o, m _ _ ne e, r⟩
  · obtain ⟨o, e, r⟩ := x; exact ⟨o, m _ _ ne e, r⟩
theorem Ssq.lt (x : Ssq κ h a its) : a < h.objs.size := by
  cases κ
  · obtain ⟨o, e, r⟩ := x; exact Heap.lt_size e
  · obtain ⟨o, e, r⟩ := x; exact Heap.lt_size e
end
section
variable {X : Cx} {pins : List (Addr × Obj)} {σ : St} {H : Hp} {s : Shared} {κ : Bool} {a : Addr} {xs ys : List V}
theorem Sq.at (I : Inv X pins σ H s) (h : Sq κ X.K H a xs) : ∃ its : List Value, Vals xs its ∧ Ssq κ s.heap a its.toArray ∧ xs.length ≤ sizeLine := by
  cases κ
  · obtain ⟨its, r, p, z⟩ := I.list h; exact ⟨its, r, p.isList, z⟩
  · obtain ⟨its, r, p, z⟩ := I.tuple h; exact ⟨its, r, p, z⟩
theorem Sq.inj (I : Inv X pins σ H s) (h : Sq κ X.K H a xs) (h' : Sq κ X.K H a ys) : xs = ys := by
  cases κ
  · exact I.list_inj h h'
  · exact I.tuple_inj h h'
end
section
variable {prog : Program} {w : World} {A : Around} {E : Value → Shared → Prop} {s : Shared} {κ : Bool}
theorem nextK_item {j tp : Addr} {n : Nat} {its : Array Value} {u : Value} {R : Value → Shared → Prop} (hj : Sit κ s.heap j tp n) (hp : Ssq κ s.heap tp its) (hu : its[n]? = some u)
    (hR : ∀ hp', Sit κ hp' j tp (n + 1) → Heap.SameBut j s.heap hp' → R u { s with heap := hp' }) : wpAny (model prog w) A (Builtin.SmallTypes.nextOf (.ref j)) R E s := by
  cases κ
  · exact wpAny_nextOf_list_item hj hp hu hR
  · exact nextT_item hj hp hu hR
theorem nextT_end {j tp : Addr} {n : Nat} {its : Array Value} {R : Value → Shared → Prop} (hh : A.handled = none) (hj : s.heap.IsTupleIter j tp n) (hp : s.heap.IsTuple tp its) (hu : its[n]? = none)
    (hE : ∀ h' e, Heap.ExtBut j s.heap h' → (∃ o, h'.get? e = some o ∧ o.cls = .type "StopIteration") → E (.ref e) { s with heap := h' }) : wpAny (model prog w) A (Builtin.SmallTypes.nextOf (.ref j)) R E s := by
  obtain ⟨oj, goj, coj, doj⟩ := id hj
  obtain ⟨op, gop, _, np, dop⟩ := hp
  unfold Builtin.SmallTypes.nextOf
  refine wpAny_bind (wpAny_callSpecial?_slot (name := Str.ofString "__next__") hj.typeIs F.slot_tuple_iterator_next (wpAny_call_entry F.slot_tuple_iterator_next hj.typeIs F.entry_tuple_iterator_next ?_ (F.args_tuple_iterator_next_1 _)))
  change wpAny _ _ (field (.ref j) 0 >>= _) _ _ s
  refine wpAny_bind (wpAny_field goj doj (x := .ref tp) rfl ?_)
  change wpAny _ _ (if (Value.ref tp == Value.none) = true then _ else _) _ _ s
  rw [if_neg (show ¬ ((Value.ref tp == Value.none) = true) from Bool.false_ne_true)]
  change wpAny _ _ (field (.ref j) 1 >>= _) _ _ s
  refine wpAny_bind (wpAny_field goj doj (x := .int n 0) rfl ?_)
  change wpAny _ _ (seqItems? (.ref tp) >>= _) _ _ s
  refine wpAny_bind (wpAny_seqItems gop dop ?_)
  simp only [Int.toNat_natCast, hu]
  refine wpAny_bind (wpAny_rule (wpAny_bind (wpAny_setField goj doj (by simp) ?_)))
  change wpAny _ _ (newExc (.type "StopIteration") [] >>= _) _ _ _
  refine wpAny_bind ?_
  simp only [newExc, newTuple]
  refine wpAny_bind (wpAny_newObj_type (wpAny_bind (m := firstArgMember _ _) (wpAny_of_eq (a := Value.none) (by first | (simp only [firstArgMember]; rfl) | rfl) (wpAny_newObj_type ?_ (by size_fits)))) (by size_fits))
  simp only [raiseNew]
  refine wpAny_bind (wpAny_handled (s := _) ?_)
  first | rw [hh] | rw [show A.in1.handled = none from hh]
  exact wpAny_bind (wpAny_pure (wpAny_throw (hE _ _ (((Heap.SameBut.update ..).extBut.push _).push _) ⟨_, Heap.get?_push_size _ rfl, rfl⟩)))
theorem nextK_end {j tp : Addr} {n : Nat} {its : Array Value} {R : Value → Shared → Prop} (hh : A.handled = none) (hj : Sit κ s.heap j tp n) (hp : Ssq κ s.heap tp its) (hu : its[n]? = none)
    (hE : ∀ h' e, Heap.ExtBut j s.heap h' → (∃ o, h'.get? e = some o ∧ o.cls = .type "StopIteration") → E (.ref e) { s with heap := h' }) : wpAny (model prog w) A (Builtin.SmallTypes.nextOf (.ref j)) R E s := by
  cases κ
  · exact wpAny_nextOf_list_end hh hj hp hu hE
  · exact nextT_end hh hj hp hu hE
theorem zipU_item {z ti to j1 j2 l1 l2 : Addr} {n1 n2 : Nat} {xs ys : Array Value} {x y a b : Value} {R : Value → Shared → Prop} (D : ZipApart z ti to j1 j2 l1 l2)
    (gz : IsZip s.heap z ti to .none) (gti : IsPair s.heap ti (.ref j1) (.ref j2)) (gto : IsPair s.heap to a b)
    (g1 : Sit κ s.heap j1 l1 n1) (g2 : s.heap.IsListIter j2 l2 n2) (gl1 : Ssq κ s.heap l1 xs) (gl2 : s.heap.IsList l2 ys) (hx : xs[n1]? = some x) (hy : ys[n2]? = some y)
    (hR : ∀ hp, IsZip hp z ti to (rawInt s.heap.objs.size) → IsPair hp to x y → Sit κ hp j1 l1 (n1 + 1) → hp.IsListIter j2 l2 (n2 + 1) → IsPair hp s.heap.objs.size x y → hp.objs.size = s.heap.objs.size + 1 →
      (∀ c o, c ≠ z → c ≠ to → c ≠ j1 → c ≠ j2 → s.heap.get? c = some o → hp.get? c = some o) → R (.ref s.heap.objs.size) { s with heap := hp }) :
    wpAny (model prog w) A (Builtin.«zip.__next__» ⟨[.ref z], []⟩) (fun fin s' => ∃ v, fin = .done (.ret v) ∧ R v s') E s := by
  change wpAny _ _ (field (.ref z) 2 >>= _) _ _ _
  refine wpAny_bind (wpAny_field gz rfl (x := .bool false) rfl ?_)
  change wpAny _ _ (field (.ref z) 3 >>= _) _ _ _
  refine wpAny_bind (wpAny_field gz rfl (x := .ref ti) rfl ?_)
  refine wpAny_bind (wpAny_seqItems gti rfl ?_)
  change wpAny _ _ (Builtin.SmallTypes.ownedTupleIsFree (.ref z) >>= _) _ _ _
  refine wpAny_bind ?_
  unfold Builtin.SmallTypes.ownedTupleIsFree
  refine wpAny_bind (wpAny_field gz rfl (x := .none) rfl (wpAny_pure ?_))
  simp only [if_true]
  refine wpAny_bind (wpAny_rule ?_)
  refine wpAny_bind (wpAny_field gz rfl (x := .ref to) rfl ?_)
  refine wpAny_bind (wpAny_setField_rec gz (by simp) fun k1 gz1 m1 => ?_)
  replace gz1 : IsZip k1 z ti to .ellipsis := gz1
  refine wpAny_bind ?_
  simp only [List.zipIdx_cons, List.zipIdx_nil, List.forIn_cons, List.forIn_nil]
  refine wpAny_bind (wpAny_bind (wpAny_onRaise ?_))
  change wpAny _ _ (Builtin.SmallTypes.nextOf (.ref j1) >>= _) _ _ _
  refine wpAny_bind (nextK_item (g1.extBut m1.extBut D.i1z) (gl1.extBut m1.extBut D.l1z) hx fun k2 g1b m2 => wpAny_pure ?_)
  have gto2 : IsPair k2 to a b := m2.extBut _ _ D.TOi1 (m1.extBut _ _ D.TOz gto)
  refine wpAny_bind (wpAny_seqItems gto2 rfl ?_)
  refine wpAny_bind (wpAny_updateSeq_pair gto2 fun k3 gto3 m3 => ?_)
  replace gto3 : IsPair k3 to x b := gto3
  refine wpAny_bind (wpAny_letGo (wpAny_pure ?_))
  refine wpAny_bind (wpAny_bind (wpAny_onRaise ?_))
  change wpAny _ _ (Builtin.SmallTypes.nextOf (.ref j2) >>= _) _ _ _
  refine wpAny_bind (wpAny_nextOf_list_item (((g2.extBut m1.extBut D.i2z).extBut m2.extBut D.i12.symm).extBut m3.extBut D.TOi2.symm) (((gl2.extBut m1.extBut D.l2z).extBut m2.extBut D.l2i1).extBut m3.extBut D.l2TO) hy fun k4 g2b m4 => wpAny_pure ?_)
  have gto4 : IsPair k4 to x b := m4.extBut _ _ D.TOi2 gto3
  refine wpAny_bind (wpAny_seqItems gto4 rfl ?_)
  refine wpAny_bind (wpAny_updateSeq_pair gto4 fun k5 gto5 m5 => ?_)
  replace gto5 : IsPair k5 to x y := gto5
  refine wpAny_bind (wpAny_letGo (wpAny_pure (wpAny_pure ?_)))
  refine wpAny_bind (wpAny_seqItems gto5 rfl ?_)
  refine wpAny_bind (wpAny_newTuple ?_)
  have esz : k5.objs.size = s.heap.objs.size := by rw [m5.1, m4.1, m3.1, m2.1, m1.1]
  have gz5 : IsZip k5 z ti to .ellipsis := m5.extBut _ _ D.TOz.symm (m4.extBut _ _ D.i2z.symm (m3.extBut _ _ D.TOz.symm (m2.extBut _ _ D.i1z.symm gz1)))
  have kp5 : ∀ c o, c ≠ z → c ≠ to → c ≠ j1 → c ≠ j2 → s.heap.get? c = some o → k5.get? c = some o := fun c o c1 c2 c3 c4 e => m5.extBut _ _ c2 (m4.extBut _ _ c4 (m3.extBut _ _ c2 (m2.extBut _ _ c3 (m1.extBut _ _ c1 e))))
  have g1c : Sit κ k5 j1 l1 (n1 + 1) := ((g1b.extBut m3.extBut D.TOi1.symm).extBut m4.extBut D.i12).extBut m5.extBut D.TOi1.symm
  have g2c : k5.IsListIter j2 l2 (n2 + 1) := g2b.extBut m5.extBut D.TOi2.symm
  have ltz : z < k5.objs.size := Heap.lt_size gz5
  change wpAny _ _ (Builtin.SmallTypes.ownedTupleHandOut (.ref z) (.ref k5.objs.size) >>= _) _ _ _
  refine wpAny_bind ?_
  unfold Builtin.SmallTypes.ownedTupleHandOut
  have gz6 : IsZip (k5.push { cls := .type "tuple", data := .seq #[x, y] }) z ti to .ellipsis := Heap.get?_push_of_some _ gz5
  refine wpAny_bind (wpAny_setField_rec gz6 (by simp) fun k7 gz7 m7 => ?_)
  replace gz7 : IsZip k7 z ti to (rawInt k5.objs.size) := gz7
  refine wpAny_setField_rec gz7 (by simp) fun k8 gz8 m8 => ?_
  replace gz8 : IsZip k8 z ti to (rawInt k5.objs.size) := gz8
  have upw : ∀ c o, c ≠ z → k5.get? c = some o → k8.get? c = some o := fun c o c1 e => m8.extBut _ _ c1 (m7.extBut _ _ c1 (Heap.get?_push_of_some _ e))
  have gt8 : IsPair k8 k5.objs.size x y := m8.extBut _ _ (Nat.ne_of_gt ltz) (m7.extBut _ _ (Nat.ne_of_gt ltz) (Heap.get?_push_size _ rfl))
  have es8 : k8.objs.size = k5.objs.size + 1 := by rw [m8.1, m7.1, Heap.size_push]
  rw [esz] at gz8 gt8 es8
  refine wpAny_pure ⟨_, rfl, ?_⟩
  change R (.ref k5.objs.size) _
  rw [esz]
  exact hR k8 gz8 (upw _ _ D.TOz gto5) (g1c.at fun o e => upw _ o D.i1z e) (g2c.at fun o e => upw _ o D.i2z e) gt8 es8 fun c o c1 c2 c3 c4 e => upw c o c1 (kp5 c o c1 c2 c3 c4 e)
theorem zipU_end {z ti to j1 j2 l1 l2 : Addr} {n1 : Nat} {xs : Array Value} {R : Fin → Shared → Prop} (hh : A.handled = none) (D : ZipApart z ti to j1 j2 l1 l2)
    (gz : IsZip s.heap z ti to .none) (gti : IsPair s.heap ti (.ref j1) (.ref j2)) (g1 : Sit κ s.heap j1 l1 n1) (gl1 : Ssq κ s.heap l1 xs) (hend : xs[n1]? = none)
    (hE : ∀ hp e, (∀ c o, c ≠ z → c ≠ to → c ≠ j1 → c ≠ j2 → s.heap.get? c = some o → hp.get? c = some o) → (∃ o, hp.get? e = some o ∧ o.cls = .type "StopIteration") → E (.ref e) { s with heap := hp }) :
    wpAny (model prog w) A (Builtin.«zip.__next__» ⟨[.ref z], []⟩) R E s := by
  change wpAny _ _ (field (.ref z) 2 >>= _) _ _ _
  refine wpAny_bind (wpAny_field gz rfl (x := .bool false) rfl ?_)
  change wpAny _ _ (field (.ref z) 3 >>= _) _ _ _
  refine wpAny_bind (wpAny_field gz rfl (x := .ref ti) rfl ?_)
  refine wpAny_bind (wpAny_seqItems gti rfl ?_)
  change wpAny _ _ (Builtin.SmallTypes.ownedTupleIsFree (.ref z) >>= _) _ _ _
  refine wpAny_bind ?_
  unfold Builtin.SmallTypes.ownedTupleIsFree
  refine wpAny_bind (wpAny_field gz rfl (x := .none) rfl (wpAny_pure ?_))
  simp only [if_true]
  refine wpAny_bind (wpAny_rule ?_)
  refine wpAny_bind (wpAny_field gz rfl (x := .ref to) rfl ?_)
  refine wpAny_bind (wpAny_setField_rec gz (by simp) fun k1 gz1 m1 => ?_)
  replace gz1 : IsZip k1 z ti to .ellipsis := gz1
  refine wpAny_bind ?_
  simp only [List.zipIdx_cons, List.zipIdx_nil, List.forIn_cons, List.forIn_nil]
  refine wpAny_bind (wpAny_bind (wpAny_onRaise ?_))
  change wpAny _ _ (Builtin.SmallTypes.nextOf (.ref j1) >>= _) _ _ _
  refine wpAny_bind (nextK_end hh (g1.extBut m1.extBut D.i1z) (gl1.extBut m1.extBut D.l1z) hend fun k2 e m2 ⟨oe, goe, ce⟩ => ?_)
  have gz2 : IsZip k2 z ti to .ellipsis := m2 _ _ D.i1z.symm gz1
  have nez : e ≠ z := fun q => by subst q; rw [gz2] at goe; cases goe; simp at ce
  exact wpAny_setField_rec gz2 (by simp) fun k3 _ m3 => hE k3 e (fun c o c1 _ c3 _ q => m3.extBut _ _ c1 (m2 _ _ c3 (m1.extBut _ _ c1 q))) ⟨oe, m3.extBut _ _ nez goe, ce⟩
theorem pyNext_zipU {z ti to j1 j2 l1 l2 : Addr} {n1 n2 : Nat} {xs ys : Array Value} {x y a b : Value} {R : Option Value → Shared → Prop} (D : ZipApart z ti to j1 j2 l1 l2)
    (gz : IsZip s.heap z ti to .none) (gti : IsPair s.heap ti (.ref j1) (.ref j2)) (gto : IsPair s.heap to a b)
    (g1 : Sit κ s.heap j1 l1 n1) (g2 : s.heap.IsListIter j2 l2 n2) (gl1 : Ssq κ s.heap l1 xs) (gl2 : s.heap.IsList l2 ys) (hx : xs[n1]? = some x) (hy : ys[n2]? = some y)
    (hR : ∀ hp, IsZip hp z ti to (rawInt s.heap.objs.size) → IsPair hp to x y → Sit κ hp j1 l1 (n1 + 1) → hp.IsListIter j2 l2 (n2 + 1) → IsPair hp s.heap.objs.size x y → hp.objs.size = s.heap.objs.size + 1 →
      (∀ c o, c ≠ z → c ≠ to → c ≠ j1 → c ≠ j2 → s.heap.get? c = some o → hp.get? c = some o) → R (some (.ref s.heap.objs.size)) { s with heap := hp }) : wpAny (model prog w) A (pyNext (.ref z)) R E s := by
  have ht : s.TypeIs (.ref z) "zip" := ⟨_, gz, rfl⟩
  unfold pyNext
  exact wpAny_bind (wpAny_attempt (wpAny_callSpecial?_slot (name := Str.ofString "__next__") ht F.slot_zip_next (wpAny_call_entry F.slot_zip_next ht F.entry_zip_next (zipU_item D gz gti gto g1 g2 gl1 gl2 hx hy fun hp a1 a2 a3 a4 a5 a6 a7 => wpAny_pure (hR hp a1 a2 a3 a4 a5 a6 a7)) (F.args_zip_next_1 _))))
theorem pyNext_zipF {z ti to j1 j2 l1 l2 : Addr} {n1 : Nat} {xs : Array Value} {R : Option Value → Shared → Prop} (hh : A.handled = none) (D : ZipApart z ti to j1 j2 l1 l2)
    (gz : IsZip s.heap z ti to .none) (gti : IsPair s.heap ti (.ref j1) (.ref j2)) (g1 : Sit κ s.heap j1 l1 n1) (gl1 : Ssq κ s.heap l1 xs) (hend : xs[n1]? = none)
    (hR : ∀ hp, (∀ c o, c ≠ z → c ≠ to → c ≠ j1 → c ≠ j2 → s.heap.get? c = some o → hp.get? c = some o) → R none { s with heap := hp }) : wpAny (model prog w) A (pyNext (.ref z)) R E s := by
  have ht : s.TypeIs (.ref z) "zip" := ⟨_, gz, rfl⟩
  unfold pyNext
  refine wpAny_bind (wpAny_attempt (wpAny_callSpecial?_slot (name := Str.ofString "__next__") ht F.slot_zip_next (wpAny_call_entry F.slot_zip_next ht F.entry_zip_next (zipU_end hh D gz gti g1 gl1 hend fun hp e hk ⟨o, ho, hc⟩ => ?_) (F.args_zip_next_1 _))))
  refine wpAny_bind (wpAny_isInstance (T := "StopIteration") (b := true) ⟨o, ho, hc⟩ isSubtype_stop ?_)
  exact wpAny_pure (hR _ hk)
abbrev yh1 (κ : Bool) (h : Heap) (a : Addr) : Heap := h.push { cls := .type (itN κ), data := .fields #[.ref a, .int 0 0] }
abbrev yh2 (κ : Bool) (h : Heap) (a b : Addr) : Heap := (yh1 κ h a).push { cls := .type "list_iterator", data := .fields #[.ref b, .int 0 0] }
abbrev yh3 (κ : Bool) (h : Heap) (a b : Addr) : Heap := (yh2 κ h a b).push { cls := .type "tuple", data := .seq #[.ref h.objs.size, .ref (yh1 κ h a).objs.size] }
abbrev yh4 (κ : Bool) (h : Heap) (a b : Addr) : Heap := (yh3 κ h a b).push { cls := .type "tuple", data := .seq #[.none, .none] }
abbrev yh5 (κ : Bool) (h : Heap) (a b : Addr) : Heap := (yh4 κ h a b).push { cls := .type "zip", data := .fields #[.none, .bool false, .bool false, .ref (yh2 κ h a b).objs.size, .ref (yh3 κ h a b).objs.size] }
theorem meets_zipU (κ : Bool) (a b : Addr) (xs ys : Array Value) : Meets (Builtin.«zip.__new__» ⟨[.type "zip", .ref a, .ref b], []⟩) (fun _ R s => Ssq κ s.heap a xs ∧ s.heap.IsList b ys ∧ R (.ok (.ret (.ref (yh4 κ s.heap a b).objs.size))) { s with heap := yh5 κ s.heap a b }) :=
  .of_wp fun prog w A R s h => by
    obtain ⟨hp, gs, dr, tk, os⟩ := s
    obtain ⟨ha, hb, h⟩ := h
    have hsub := sub_zip
    cases κ with
    | false =>
      have hA : Heap.IsList (Shared.heap ⟨hp, gs, dr, tk, os⟩) a xs := ha
      have hB : Heap.IsList (Shared.heap ⟨hp.push { cls := .type "list_iterator", data := .fields #[.ref a, .int 0 0] }, gs, dr, tk, os⟩) b ys := Heap.IsList.push hb _
      dsimp only [itN, yh5, yh4, yh3, yh2, yh1] at h
      wp_walk using wpAny_pyIter_list hA, wpAny_pyIter_list hB
      exact ⟨_, rfl, h⟩
    | true =>
      have hA : Heap.IsTuple (Shared.heap ⟨hp, gs, dr, tk, os⟩) a xs := ha
      have hB : Heap.IsList (Shared.heap ⟨hp.push { cls := .type "tuple_iterator", data := .fields #[.ref a, .int 0 0] }, gs, dr, tk, os⟩) b ys := Heap.IsList.push hb _
      dsimp only [itN, yh5, yh4, yh3, yh2, yh1] at h
      wp_walk using wpAny_pyIter_tuple hA, wpAny_pyIter_list hB
      exact ⟨_, rfl, h⟩
theorem call_zipU {a b : Addr} {xs ys : Array Value} {R : Value → Shared → Prop} (ha : Ssq κ s.heap a xs) (hb : s.heap.IsList b ys)
    (h : ∀ hp, IsZip hp (s.heap.objs.size + 4) (s.heap.objs.size + 2) (s.heap.objs.size + 3) .none → IsPair hp (s.heap.objs.size + 2) (.ref s.heap.objs.size) (.ref (s.heap.objs.size + 1)) → IsPair hp (s.heap.objs.size + 3) .none .none → Sit κ hp s.heap.objs.size a 0 → hp.IsListIter (s.heap.objs.size + 1) b 0 →
      (∀ c o, s.heap.get? c = some o → hp.get? c = some o) → R (.ref (s.heap.objs.size + 4)) { s with heap := hp }) : wpAny (model prog w) A (call (.type "zip") [.ref a, .ref b]) R E s := by
  refine callType_new F.called_zip (by decide) (F.typeCall_zip_2 _ _) (F.newCall_zip_2 _ _) (fun obj => F.args_object_init_3 obj _ _) F.entry_zip_new (meets_zipU κ a b xs ys) ⟨ha, hb, ?_⟩
  have z1 : (yh1 κ s.heap a).objs.size = s.heap.objs.size + 1 := Heap.size_push ..
  have z2 : (yh2 κ s.heap a b).objs.size = s.heap.objs.size + 2 := by rw [Heap.size_push, z1]
  have z3 : (yh3 κ s.heap a b).objs.size = s.heap.objs.size + 3 := by rw [Heap.size_push, z2]
  have z4 : (yh4 κ s.heap a b).objs.size = s.heap.objs.size + 4 := by rw [Heap.size_push, z3]
  have q5 : (yh5 κ s.heap a b).get? (yh4 κ s.heap a b).objs.size = some _ := Heap.get?_push_size _ rfl
  have q4 : (yh5 κ s.heap a b).get? (yh3 κ s.heap a b).objs.size = some _ := Heap.get?_push_of_some _ (Heap.get?_push_size _ rfl)
  have q3 : (yh5 κ s.heap a b).get? (yh2 κ s.heap a b).objs.size = some _ := Heap.get?_push_of_some _ (Heap.get?_push_of_some _ (Heap.get?_push_size _ rfl))
  have q2 : (yh5 κ s.heap a b).get? (yh1 κ s.heap a).objs.size = some _ := Heap.get?_push_of_some _ (Heap.get?_push_of_some _ (Heap.get?_push_of_some _ (Heap.get?_push_size _ rfl)))
  have q1 : (yh5 κ s.heap a b).get? s.heap.objs.size = some _ := Heap.get?_push_of_some _ (Heap.get?_push_of_some _ (Heap.get?_push_of_some _ (Heap.get?_push_of_some _ (Heap.get?_push_size _ rfl))))
  change _ ∧ _
  rw [z2, z3, z4] at q5
  rw [z1, z2] at q3
  rw [z3] at q4
  rw [z1] at q2
  rw [z4]
  exact ⟨⟨_, q5, rfl⟩, h _ q5 q3 q4 (Sit.mk q1) ⟨_, q2, rfl, rfl⟩ fun c o q => Heap.get?_push_of_some _ (Heap.get?_push_of_some _ (Heap.get?_push_of_some _ (Heap.get?_push_of_some _ (Heap.get?_push_of_some _ q))))⟩
end
def Itu (κ : Bool) (K : PySem.W.Frag) (a b : Addr) : It :=
  ⟨fun i H => ∃ xs ys x y, Sq κ K H a xs ∧ SqL K H b ys ∧ xs[i]? = some x ∧ ys[i]? = some y, fun i H v H' => ∃ p, v = .ref p ∧ H p = none ∧ ∀ xs ys, Sq κ K H a xs → SqL K H b ys → ∃ x y, xs[i]? = some x ∧ ys[i]? = some y ∧ H' = upd H p (.tup [x, y]), fun i H => ∃ xs, Sq κ K H a xs ∧ xs.length ≤ i⟩
theorem turn_zipU {κ : Bool} {P : Program} {w : World} {K : PySem.W.Frag} {elts : List Expr} {x1} {tpos : Pos} (a b z ti to j1 j2 : Addr) (D : ZipApart z ti to j1 j2 a b) :
    Turn P w K (.Tuple elts x1 tpos) (Itu κ K a b) [z, ti, to, j1, j2] z (fun i h => IsZip h z ti to .none ∧ IsPair h ti (.ref j1) (.ref j2) ∧ (∃ u v, IsPair h to u v) ∧ Sit κ h j1 a i ∧ h.IsListIter j2 b i) where
  mem := by simp
  obj := fun i h st c hc => by
    obtain ⟨gz, gti, ⟨u, v, gto⟩, g1, o2, e2, _, d2⟩ := st
    obtain ⟨o1, e1, d1⟩ := g1.fields
    simp only [List.mem_cons, List.not_mem_nil, or_false] at hc
    rcases hc with rfl | rfl | rfl | rfl | rfl
    · exact ⟨_, gz, fun v q => by cases q⟩
    · exact ⟨_, gti, fun v q => by cases q⟩
    · exact ⟨_, gto, fun v q => by cases q⟩
    · exact ⟨o1, e1, fun v q => by rw [d1] at q; cases q⟩
    · exact ⟨o2, e2, fun v q => by rw [d2] at q; cases q⟩
  keep := fun i h h' st k => by
    obtain ⟨gz, gti, ⟨u, v, gto⟩, g1, g2⟩ := st
    exact ⟨k z (by simp) _ gz, k ti (by simp) _ gti, ⟨u, v, k to (by simp) _ gto⟩, g1.at fun o q => k j1 (by simp) o q, g2.at fun o q => k j2 (by simp) o q⟩
  item := by
    intro X hP hw hK hc i pins s σ H E I hf st hg
    subst hP hw hK
    obtain ⟨gz, gti, ⟨u, v, gto⟩, g1, g2⟩ := st
    obtain ⟨xs, ys, x, y, hqa, hqb, hx, hy⟩ := hg
    obtain ⟨ia, ra, pa, _⟩ := Sq.at I hqa
    obtain ⟨ib, rb, pb, _⟩ := I.list hqb
    obtain ⟨ux, hux, rux⟩ := ra.get hx
    obtain ⟨uy, huy, ruy⟩ := rb.get hy
    refine pyNext_zipU D gz gti gto g1 g2 pa pb.isList (x := ux) (y := uy) (by simpa using hux) (by simpa using huy) fun hp gz' gto' g1' g2' gt esz hk => ?_
    have hH : H s.heap.objs.size = none := I.hok.fresh (Nat.le_refl _)
    have ne : ∀ c o, s.heap.get? c = some o → c ≠ s.heap.objs.size := fun c o q => Nat.ne_of_lt (Heap.lt_size q)
    have nx : ∀ c, c ∉ [z, ti, to, j1, j2] → c ≠ z ∧ c ≠ to ∧ c ≠ j1 ∧ c ≠ j2 := fun c hc => by
      simp only [List.mem_cons, List.not_mem_nil, or_false, not_or] at hc
      exact ⟨hc.1, hc.2.2.1, hc.2.2.2.1, hc.2.2.2.2⟩
    have kx : ∀ c o, c ∉ [z, ti, to, j1, j2] → s.heap.get? c = some o → hp.get? c = some o := fun c o hc q => hk c o (nx c hc).1 (nx c hc).2.1 (nx c hc).2.2.1 (nx c hc).2.2.2 q
    have I1 : Inv X pins σ (upd H s.heap.objs.size (.tup [x, y])) { s with heap := hp, gens := s.gens, drawn := s.drawn, toks := s.toks } := I.call (ch := [z, ti, to, j1, j2]) (h' := hp) (g' := s.gens) (d' := s.drawn) (t' := s.toks)
      ⟨fun c o q n hc hc2 => kx c o hc2 q, fun c o q n hc hc2 => ⟨o.slots, kx c o hc2 q⟩, fun c o q n hc2 => by rw [upd_ne (ne c o q)]; exact n, fun c o q hc2 => ⟨o, kx c o hc2 q⟩,
        fun c ys q => by rw [upd_ne (ne_of_none q hH)]; exact q, fun c o ys q => by rw [upd_ne (ne_of_none q hH)]; exact q, fun c ps q => ⟨#[], by rw [upd_ne (ne_of_none q hH), q]; simp⟩⟩
      (fun c o q => by
        by_cases hcs : c = s.heap.objs.size
        · subst hcs
          rw [upd_same] at q
          cases q
          exact ⟨by rw [sizeLine_eq]; show 2 ≤ 16777216; decide, [ux, uy], .cons rux (.cons ruy .nil), ⟨_, gt, rfl, 0, rfl⟩⟩
        · rw [upd_ne hcs] at q
          refine (I.hok c o q).stay (fun d v hd r => ?_) (fun d r => by rw [upd_ne (ne_of_none r hH)]; exact r) fun d ys r => by rw [upd_ne (ne_of_none r hH)]; exact r
          have hdn : H d ≠ none := by
            rcases hd with rfl | hd
            · rw [q]; exact fun z => nomatch z
            · rw [hd]; exact fun z => nomatch z
          exact kx d v (fun z => hdn (hf d z).1) r) I.bare
      (fun c hc => by
        have F : FpOk X pins H c := hf c hc
        exact ⟨F.2.2.2.1, F.2.1, F.2.2.2.2.1, F.2.2.2.2.2⟩)
    refine ⟨_, rfl, wpAny_letOwnedTupleGo_zip (s := { s with heap := hp }) gz' fun h2 e2 sb => ?_⟩
    have isSome : ∀ c ∈ [z, ti, to, j1, j2], ∃ o, s.heap.get? c = some o := fun c hc => by
      simp only [List.mem_cons, List.not_mem_nil, or_false] at hc
      rcases hc with rfl | rfl | rfl | rfl | rfl
      · exact ⟨_, gz⟩
      · exact ⟨_, gti⟩
      · exact ⟨_, gto⟩
      · obtain ⟨o, e, _⟩ := g1.fields; exact ⟨o, e⟩
      · obtain ⟨o, e, _⟩ := g2; exact ⟨o, e⟩
    have nep : ∀ c ∈ [z, ti, to, j1, j2], upd H s.heap.objs.size (.tup [x, y]) c = none := fun c hc => by
      obtain ⟨o, q⟩ := isSome c hc
      rw [upd_ne (ne _ _ q)]
      exact (hf c hc).1
    have fz := hf z (by simp)
    have I2 : Inv X pins σ (upd H s.heap.objs.size (.tup [x, y])) { s with heap := h2, toks := s.toks } := I1.turned (t' := s.toks) (fun c o hc q => (sb.2 c hc).trans q) (nep z (by simp)) fz.2.1 fz.2.2.2.1 fz.2.2.2.2.1 fz.2.2.2.2.2
    refine ⟨.ref s.heap.objs.size, _, I2, rfl, ⟨_, rfl, hH, fun xs' ys' h1 h2 => ⟨x, y, by rw [Sq.inj I h1 hqa]; exact hx, by rw [I.list_inj h2 hqb]; exact hy, rfl⟩⟩, ⟨e2, sb.extBut _ _ D.TIz (hk _ _ D.TIz D.TITO D.TIi1 D.TIi2 gti), ⟨_, _, sb.extBut _ _ D.TOz gto'⟩, g1'.extBut sb.extBut D.i1z, g2'.extBut sb.extBut D.i2z⟩, nep⟩
  done := by
    intro X hP hw hK hc i pins s σ H E I hf st hg
    subst hP hw hK
    obtain ⟨gz, gti, ⟨u, v, gto⟩, g1, g2⟩ := st
    obtain ⟨xs, hq, hx⟩ := hg
    obtain ⟨its, rv, p, hz⟩ := Sq.at I hq
    have hl := rv.length
    refine pyNext_zipF (I.ok.hd hc) D gz gti g1 p (by simp; omega) fun hp hk => ⟨rfl, ?_⟩
    have kx : ∀ c o, c ∉ [z, ti, to, j1, j2] → s.heap.get? c = some o → hp.get? c = some o := fun c o hc q => by
      simp only [List.mem_cons, List.not_mem_nil, or_false, not_or] at hc
      exact hk c o hc.1 hc.2.2.1 hc.2.2.2.1 hc.2.2.2.2 q
    exact I.call (ch := [z, ti, to, j1, j2]) (h' := hp) (g' := s.gens) (d' := s.drawn) (t' := s.toks)
      ⟨fun c o q n hc hc2 => kx c o hc2 q, fun c o q n hc hc2 => ⟨o.slots, kx c o hc2 q⟩, fun c o q n hc2 => n, fun c o q hc2 => ⟨o, kx c o hc2 q⟩, fun c ys q => q, fun c o ys q => q, fun c ps q => ⟨#[], by rw [q]; simp⟩⟩
      (fun c o q => (I.hok c o q).stay (fun d v hd r => kx d v (fun z => by
          have hdn : H d ≠ none := by
            rcases hd with rfl | hd
            · rw [q]; exact fun z => nomatch z
            · rw [hd]; exact fun z => nomatch z
          exact hdn (hf d z).1) r) (fun d r => r) fun d ys r => r) I.bare
      (fun c hc => by
        have F : FpOk X pins H c := hf c hc
        exact ⟨F.2.2.2.1, F.2.1, F.2.2.2.2.1, F.2.2.2.2.2⟩)
  self := fun _ _ _ _ _ st h => wpAny_pyIter_zip st.1 h
section
variable {X : Cx}
def iZipU (K : PySem.W.Frag) (ta : TA) : TI := fun σ H R => ta σ H fun vs H1 => ∃ κ a b, vs = [.ref a, .ref b] ∧ (∃ xs, Sq κ K H1 a xs) ∧ (∃ ys, SqL K H1 b ys) ∧ R (Itu κ K a b) H1
theorem pi_zipU (K : PySem.W.Frag) {elts : List Expr} {x1} {tpos : Pos} {l m : Expr} {ta : TA} {p pos : Pos} (hg : Gl X "zip") (hm : X.mg "zip" = none) (ha : PA X [l, m] ta) (he : starEach [l, m] X.env = (false, eval l X.env) :: starEach [m] X.env := by rfl) (hpl : (backTo pos (starEach [m] X.env)).any (·.1) = false := by rfl) (hK : X.K = K := by rfl) :
    PI X (.Tuple elts x1 tpos) (.Call (.Name "zip" p) [l, m] [] pos) (iZipU K ta) := by
  subst hK
  intro pins s σ H R I h
  refine Call_ (ld_blt I hg hm bt_zip (PyProof.Rows.callWith_type1 (thn (ha pos pins s σ H _ I h) fun us s1 ⟨vs, H1, I1, r1, q1⟩ => ?_) he hpl))
  obtain ⟨κ, a, b, e, ⟨xs, hqa⟩, ⟨ys, hqb⟩, q⟩ := q1
  subst e
  obtain ⟨u, v, rfl, ru, rv⟩ := vals2 r1
  cases ru
  cases rv
  obtain ⟨ia, ra, pa, _⟩ := Sq.at I1 hqa
  obtain ⟨ib, rb, pb, _⟩ := I1.list hqb
  have la : a < s1.heap.objs.size := pa.lt
  have lb : b < s1.heap.objs.size := by obtain ⟨_, e, _⟩ := pb.isList; exact Heap.lt_size e
  refine call_zipU pa pb.isList fun h' hz hti hto h1 h2 hk => ?_
  refine wpAny_pyIter_zip (s := { s1 with heap := h' }) hz ?_
  refine ⟨s1.heap.objs.size + 4, [s1.heap.objs.size + 4, s1.heap.objs.size + 2, s1.heap.objs.size + 3, s1.heap.objs.size, s1.heap.objs.size + 1], _, _, H1, rfl, I1.kept (t' := s1.toks) hk, turn_zipU a b _ _ _ _ _ (zipApart_new la lb), ⟨hz, hti, ⟨_, _, hto⟩, h1, h2⟩, fun c hc => ?_, q⟩
  have hc' : s1.heap.objs.size ≤ c := by
    simp only [List.mem_cons, List.not_mem_nil, or_false] at hc
    rcases hc with rfl | rfl | rfl | rfl | rfl <;> omega
  exact I1.fpOk hc' (I1.hok.fresh hc')
end
end L2
namespace L2
open PySem PySem.Spec PyProof.Rows
section
variable {prog : Program} {w : World} {A : Around} {E : Value → Shared → Prop} {s : Shared}
theorem noKeys {a : Addr} {its : Array Value} {Q : Option Value → Shared → Prop} (hl : PlainL s.heap a its) (hA : A.handled = none)
    (h : ∀ h' tk, (∀ b o, s.heap.get? b = some o → h'.get? b = some o) → Q none { s with heap := h', toks := tk }) : wpAny (model prog w) A (getAttr? (.ref a) "keys") Q E s := by
  obtain ⟨o, n, hx, hc, hd, hdat⟩ := hl
  obtain ⟨c, dct, dat, sl⟩ := o
  simp only at hc hdat hd
  subst hc hdat hd
  obtain ⟨hp, g, d, tk, os⟩ := s
  have hmiss : typeLookup (.type "list") "keys" = pure none := am_miss_of_fast (by decide +kernel)
  have hT : ∀ tk', (⟨hp, g, d, tk', os⟩ : Shared).TypeIs (.ref a) "list" := fun _ => ⟨_, hx, rfl⟩
  have f1 := sub_AttributeError
  have f3 := PySem.F.slot_list_getattribute.lookup
  have f4 := PySem.F.slot_list_getattribute.bind (.ref a)
  have f5 := am_list_getattr_none
  unfold getAttr? getAttrBy? getAttrBy
  repeat (any_goals (first | assumption | exact hT _ | ((with_reducible change wpAny _ _ (call (Value.builtin "list.__getattribute__") _ _) _ _ _); refine call_meets PySem.F.slot_list_getattribute (hT _) am_entry_list_getattribute (PySem.F.args_list_getattribute_2 _ _) (meets_getattribute_miss_list a its n sl "keys" _ hmiss (by decide) (by size_fits)) ⟨hx, hA, fun h' tk' e hx' => ?_⟩) | wp_step))
  obtain ⟨t', u', he⟩ := hx'.there
  change wpAny _ _ (getattributeRaised _ _ _ _ _ _ _) _ _ _
  unfold getattributeRaised
  repeat (any_goals (first | assumption | wp_step))
  exact h _ _ hx'.keeps
namespace F
theorem entry_dict_update_loop : entryFor table "dict.update.loop" = some Builtin.«dict.update.loop» := entryFor_of_tree (by kernel_rfl)
theorem plain_dict_update_loop : plainId "dict.update.loop" = true := by decide +kernel
end F
variable {κ : Type} [DecidableEq κ] {knd : KeyKind prog w κ} {R : Result → Shared → Prop}
theorem pairs_loop {d it l : Addr} {items : Array Value} {es : List (κ × Value)} (hh : A.in1.handled = none) (hdl : d ≠ l) (hdi : d ≠ it) (hli : l ≠ it) (hes : es.length = items.size) (hz : es.length ≤ 1000) :
    ∀ (k i : Nat) (s : Shared) (kvs : List (κ × Value)), items.size - i = k → i ≤ items.size → s.heap.IsListIter it l i → s.heap.IsList l items → s.heap.DictOf knd d kvs → kvs.length ≤ i →
      (∀ (j : Nat) (e : κ × Value), es[j]? = some e → ∃ p kv, items[j]? = some (.ref p) ∧ s.heap.IsTuple p #[kv, e.2] ∧ knd.is e.1 kv = true ∧ p ≠ d ∧ p ≠ it) →
      (∀ h' tk, h'.DictOf knd d ((es.drop i).foldl (fun m e => stored m e.1 e.2) kvs) → (∀ b o, b ≠ d → b ≠ it → s.heap.get? b = some o → h'.get? b = some o) → R (.ok (.ret .none)) { s with heap := h', toks := tk }) →
      codeAny (model prog w) A (.builtin "dict.update.loop" ⟨[.ref d, .ref it, rawInt i, .none], []⟩) R s := by
  intro k
  induction k with
  | zero =>
    intro i s kvs hk hi hit hl hd hn hp hR
    have e : i = items.size := by omega
    subst e
    refine codeAny_builtin F.entry_dict_update_loop ?_
    rw [Around.under_plainId F.plain_dict_update_loop _]
    change wpAny _ A.in1 (pyNext (.ref it) >>= _) _ _ s
    refine wpAny_bind (wpAny_pyNext_list_end hh hit hl (by simp) fun h' hx => ?_)
    change wpAny _ A.in1 (Builtin.Dict.addKeywords d [] >>= _) _ _ _
    refine wpAny_bind (wpAny_pure (wpAny_pure (hR h' s.toks ?_ fun b o _ hb q => hx b o hb q)))
    rw [List.drop_eq_nil_of_le (by omega)]
    exact hd.extBut hx hdi
  | succ k ih =>
    intro i s kvs hk hi hit hl hd hn hp hR
    have hlt : i < items.size := by omega
    refine codeAny_builtin F.entry_dict_update_loop ?_
    rw [Around.under_plainId F.plain_dict_update_loop _]
    change wpAny _ A.in1 (pyNext (.ref it) >>= _) _ _ s
    have hel : i < es.length := by omega
    obtain ⟨p, kv, hip, htp, hkv, hpd, hpi⟩ := hp i es[i] (List.getElem?_eq_getElem hel)
    refine wpAny_bind (wpAny_pyNext_list_item hit hl hip fun h1 hit1 sb1 => ?_)
    have htp1 : h1.IsTuple p #[kv, es[i].2] := htp.extBut sb1.extBut hpi
    have hd1 : h1.DictOf knd d kvs := hd.extBut sb1.extBut hdi
    obtain ⟨op, gop, cop, np, dop⟩ := id htp1
    change wpAny _ A.in1 (holding [Value.ref p] _ >>= _) _ _ _
    refine wpAny_bind (wpAny_holding (wpAny_bind (wpAny_tryCatch ?_)))
    unfold Builtin.Dict.pairItems
    refine wpAny_bind (wpAny_typeOf (T := "tuple") ⟨op, gop, cop⟩ ?_)
    rw [if_pos (by decide)]
    refine wpAny_bind (wpAny_seqItems gop dop (wpAny_pure ?_))
    change wpAny _ A.in1 (holding [kv, es[i].2] (dictSet d kv es[i].2)) _ _ _
    refine wpAny_holding (wpAny_dictSet_pairs hkv hd1 (fun h2 hd2 sb2 => ?_) (by rw [sizeLine_eq]; omega))
    refine wpAny_pure ⟨plainId_quiet F.plain_dict_update_loop _, ih (i + 1) _ _ (by omega) hlt (hit1.extBut sb2.extBut hdi.symm) ((hl.extBut sb1.extBut hli).extBut sb2.extBut hdl.symm) hd2 ?_ (fun j e he => ?_) fun h' tk hd' hk' => hR h' tk ?_ fun b o b1 b2 q => hk' b o b1 b2 (sb2.extBut _ _ b1 (sb1.extBut _ _ b2 q))⟩
    · have := stored_length_le kvs es[i].1 es[i].2
      omega
    · obtain ⟨p, kv, h1, h2, h3, h4, h5⟩ := hp j e he
      exact ⟨p, kv, h1, (h2.extBut sb1.extBut h5).extBut sb2.extBut h4, h3, h4, h5⟩
    · rw [List.drop_eq_getElem_cons hel]
      exact hd'
end
def rDictP : List V → Hp → VK → Prop := fun xs H Q => ∃ (p : Addr) (ps : List Addr) (es : List (Key × V)), xs = [.ref p] ∧ H p = some (.lst (ps.map V.ref)) ∧ Paired (fun a e => H a = some (.tup [kV e.1, e.2])) ps es ∧ es.length ≤ 1000 ∧
  ∀ d, H d = none → Q (.ref d) (upd H d (.dK (es.foldl (fun m e => putK m e.1 e.2) [])))
section
variable {X : Cx} {pins : List (Addr × Obj)} {σ : St} {H : Hp} {s : Shared}
theorem prs_at (I : Inv X pins σ H s) {ps : List Addr} {es : List (Key × V)} (hP : Paired (fun a e => H a = some (.tup [kV e.1, e.2])) ps es) :
    ∃ vs : List (Key × Value), KV es vs ∧ ∀ (j : Nat) (e : Key × Value), vs[j]? = some e → ∃ p kv, ps[j]? = some p ∧ s.heap.IsTuple p #[kv, e.2] ∧ (mixKind X.prog X.w).is e.1 kv = true := by
  induction hP with
  | nil => exact ⟨[], .nil, fun j e h => by simp at h⟩
  | @cons a e ps es h t ih =>
    obtain ⟨vs, kv, hv⟩ := ih
    obtain ⟨its, r, tp, _⟩ := I.tuple (SqT.of h)
    obtain ⟨x, y, rfl, rx, ry⟩ := vals2 r
    refine ⟨(e.1, y) :: vs, .cons ⟨rfl, ry⟩ kv, fun j q hq => ?_⟩
    cases j with
    | zero =>
      simp only [List.getElem?_cons_zero, Option.some.injEq] at hq
      subst hq
      obtain ⟨o, e1, c, n, d⟩ := tp
      exact ⟨a, x, rfl, ⟨o, e1, c, n, d⟩, kV_is rx⟩
    | succ j =>
      simp only [List.getElem?_cons_succ] at hq ⊢
      exact hv j q hq
theorem kv_fold : ∀ {es : List (Key × V)} {vs : List (Key × Value)}, KV es vs → ∀ {m : List (Key × V)} {n : List (Key × Value)}, KV m n → KV (es.foldl (fun m e => putK m e.1 e.2) m) (vs.foldl (fun m e => stored m e.1 e.2) n)
  | _, _, .nil, _, _, h => h
  | e :: es, v :: vs, .cons ⟨h1, h2⟩ t, m, n, h => by
    rw [List.foldl_cons, List.foldl_cons, ← h1]
    exact kv_fold t (h.put e.1 h2)
theorem fold_len : ∀ (es : List (Key × V)) (m : List (Key × V)), (es.foldl (fun m e => putK m e.1 e.2) m).length ≤ m.length + es.length
  | [], m => by simp
  | e :: es, m => by
    rw [List.foldl_cons, List.length_cons]
    have h1 := fold_len es (putK m e.1 e.2)
    have h2 := length_putK m e.1 e.2
    omega
theorem call_dictP (hc : X.calm = true) : CallR X (.type "dict") rDictP := by
  intro pins s σ H xs us Q I r h
  obtain ⟨p, ps, es, rfl, hp, hP, hl, q⟩ := h
  obtain ⟨u, rfl, rx⟩ := vals1 r
  obtain rfl : u = Value.ref p := rx
  obtain ⟨its, rv, pl, hz⟩ := I.list (SqL.of hp)
  obtain ⟨vs, kv, hv⟩ := prs_at I hP
  have e1 := hP.length
  have e2 := kv.length
  have e3 := rv.length
  rw [List.length_map] at e3
  have hA := I.ok.hd hc
  refine callType_codes (Q₁ := fun obj s₁ => obj = .ref s.heap.objs.size ∧ s₁ = { s with heap := s.heap.push { cls := .type "dict", data := .dict #[] } }) PySem.F.kt_called_dict (PySem.F.kt_typeCall_dict_1 _) PySem.F.entry_dict_init (kt_code_dict_new _ ⟨rfl, rfl⟩) ?_
  rintro obj s₁ ⟨rfl, rfl⟩
  have hnew : (s.heap.push { cls := .type "dict", data := .dict #[] }).DictOf (mixKind X.prog X.w) s.heap.objs.size [] := Heap.DictOf.new s.heap
  have pl' : PlainL (s.heap.push { cls := .type "dict", data := .dict #[] }) p its.toArray := let ⟨o, n, e, r⟩ := pl; ⟨o, n, Heap.get?_push_of_some _ e, r⟩
  refine ⟨hnew.typeIs, PySem.F.args_dict_init_2 _ _, ?_⟩
  unfold Builtin.«dict.__init__»
  refine wpAny_bind ?_
  unfold Builtin.Dict.selfAndRest
  refine wpAny_bind (wpAny_notOrdered_dict hnew.typeIs ?_)
  change wpAny _ _ (pure (s.heap.objs.size, [Value.ref p])) _ _ _
  refine wpAny_pure ?_
  change wpAny _ _ (Builtin.Dict.updateFrom "dict.__init__" s.heap.objs.size (.ref p) [] .none) _ _ _
  unfold Builtin.Dict.updateFrom
  refine wpAny_bind (wpAny_typeOf (T := "list") (let ⟨o, n, e, c, _⟩ := pl'; ⟨o, e, c⟩) ?_)
  rw [if_pos (by decide)]
  refine wpAny_bind (noKeys pl' (by simp [hA]) fun h1 tk1 k1 => ?_)
  simp only [Option.isNone_none, if_true]
  refine wpAny_bind (wpAny_rule ?_)
  have pl1 : PlainL h1 p its.toArray := let ⟨o, n, e, r⟩ := pl'; ⟨o, n, k1 _ _ e, r⟩
  have hd1 : h1.DictOf (mixKind X.prog X.w) s.heap.objs.size [] := let ⟨o, a, b, e, r⟩ := hnew; ⟨o, a, b, k1 _ _ e, r⟩
  refine wpAny_bind (wpAny_pyIter_list (s := { s with heap := h1, toks := tk1 }) pl1.isList ?_)
  have hps : p < s.heap.objs.size := let ⟨o, n, e, _⟩ := pl; Heap.lt_size e
  have hs1 : s.heap.objs.size < h1.objs.size := let ⟨o, a, b, e, _⟩ := hd1; Heap.lt_size e
  refine wpAny_pure ⟨plainId_quiet F.plain_dict_update_loop _, pairs_loop (items := its.toArray) (es := vs) (by simp [hA]) (Nat.ne_of_gt hps) (Nat.ne_of_lt hs1) (Nat.ne_of_lt (Nat.lt_trans hps hs1)) (by rw [List.size_toArray]; omega) (by omega) _ 0 _ [] rfl (Nat.zero_le _) ⟨_, Heap.get?_push_size _ rfl, rfl, rfl⟩ (pl1.isList.push _) (hd1.push _) (Nat.le_refl _) (fun j e he => ?_) fun h2 tk2 hd2 hk2 => ?_⟩
  · obtain ⟨a, x, ha, ht, hi⟩ := hv j e he
    have ha' : (ps.map V.ref)[j]? = some (.ref a) := by rw [List.getElem?_map, ha]; rfl
    obtain ⟨u, hu, ru⟩ := rv.get ha'
    obtain rfl : u = Value.ref a := ru
    have hlt : a < s.heap.objs.size := let ⟨o, e, _⟩ := ht; Heap.lt_size e
    refine ⟨a, x, by simpa using hu, ?_, hi, Nat.ne_of_lt hlt, Nat.ne_of_lt (Nat.lt_trans hlt hs1)⟩
    obtain ⟨o, e, r⟩ := ht
    exact ⟨o, Heap.get?_push_of_some _ (k1 _ _ (Heap.get?_push_of_some _ e)), r⟩
  · refine ⟨rfl, .ref s.heap.objs.size, _, I.laid (a := s.heap.objs.size) (h' := h2) (t' := tk2) (fun b u e => hk2 b u (Nat.ne_of_lt (Heap.lt_size e)) (Nat.ne_of_lt (Nat.lt_trans (Heap.lt_size e) hs1)) (Heap.get?_push_of_some _ (k1 _ _ (Heap.get?_push_of_some _ e)))) (Nat.le_refl _) (o := .dK (es.foldl (fun m e => putK m e.1 e.2) [])) ⟨?_, (dk_empty (P := X.prog) (w := X.w) (H := H) s.heap I.big).2.1, _, kv_fold kv .nil, hd2⟩, rfl, q _ (I.hok.fresh (Nat.le_refl _))⟩
    have := fold_len es []
    rw [List.length_nil] at this
    rw [sizeLine_eq]
    omega
end
end L2
namespace L2
open PySem PySem.Spec PyProof.Rows
structure NoteK (fs : List Addr) (e : Addr) (Ts : List Addr) (h h' : Heap) : Prop where
  keep : ∀ b o, h.get? b = some o → b ∉ fs → b ≠ e → b ∉ Ts → h'.get? b = some o
  slot : ∀ b o, h.get? b = some o → b ∈ fs → ∃ sl, h'.get? b = some { o with slots := sl }
  exc : ∀ oe vs, h.get? e = some oe → oe.data = .fields vs → ∃ oe' vs' T, h'.get? e = some oe' ∧ oe'.cls = oe.cls ∧ oe'.dict = oe.dict ∧ oe'.data = .fields vs' ∧ vs'.size = vs.size ∧ vs'[1]? = some (.ref T) ∧
    h.objs.size ≤ T ∧ T ≠ e ∧ ∃ oT ts, h'.get? T = some oT ∧ oT.data = .fields ts ∧ ts[3]? = some .none
  tb : ∀ b ∈ Ts, ∃ o, h'.get? b = some o
def XO (e C : Addr) (od : Option Addr) : HO := .ext fun h => ∃ oe vs, h.get? e = some oe ∧ oe.cls = .ref C ∧ oe.dict = od ∧ oe.data = .fields vs ∧ 6 ≤ vs.size
structure Apart (X : Cx) (pins : List (Addr × Obj)) (H : Hp) (b : Addr) : Prop where
  un : H b = none
  up : X.s₀.heap.objs.size ≤ b
  loc : b ≠ X.env.locals
  cel : ∀ x c, X.env.cells.lookup x = some c → c ≠ b
  pin : ∀ p ∈ X.pn ++ pins, p.1 ≠ b
def Tb (X : Cx) (pins : List (Addr × Obj)) (H : Hp) (h : Heap) (e : Addr) : Prop := ∃ oe vs, h.get? e = some oe ∧ oe.data = .fields vs ∧
  (vs[1]? = some .none ∨ ∃ T oT ts, vs[1]? = some (.ref T) ∧ h.get? T = some oT ∧ oT.data = .fields ts ∧ ts[3]? = some .none ∧ T ≠ e ∧ Apart X pins H T)
section
variable {X : Cx} {pins : List (Addr × Obj)} {σ : St} {H : Hp} {s : Shared} {e C : Addr} {od : Option Addr}
theorem Inv.xo (I : Inv X pins σ H s) (he : H e = some (XO e C od)) : ∃ oe vs, s.heap.get? e = some oe ∧ oe.cls = .ref C ∧ oe.dict = od ∧ oe.data = .fields vs ∧ 6 ≤ vs.size := by
  obtain ⟨q, _⟩ := I.hok e _ he
  exact q
end
abbrev XS := St → Addr → Hp → Prop
def XP (X : Cx) (pins : List (Addr × Obj)) (E : XS) (v : Value) (s' : Shared) : Prop := ∃ e σ' H', v = .ref e ∧ Inv X pins σ' H' s' ∧ (∃ C od, H' e = some (XO e C od)) ∧ Tb X pins H' s'.heap e ∧ E σ' e H'
abbrev TSx := Ends → XS → St → Hp → Prop
abbrev TEx := St → Hp → VK → (Addr → Hp → Prop) → Prop
section
variable {X : Cx} {st : Stmt} {sts rest : List Stmt} {t : TS} {tx ux : TSx} {e : Expr} {tex : TEx} {pos : Pos}
end
section
variable {X : Cx} {k : Nat} {f C : Addr} {fd : FuncData} {ps : List Str} {sp : Sp} {x m : Str} {p pos apos : Pos} {e o : Expr} {es : List Expr} {ta : TE} {t : TA}
end
section
variable {P : Program} {w : World} {K : PySem.W.Frag} {mg : Str → Option Value} {base : Heap}
section
variable {x m qual : Str} {C : Addr} {st : Stmt} {N ps : List Str} {k : Nat} {sp : Sp}
end
end
end L2
namespace L2
open PySem PySem.Spec PyProof.Rows
abbrev TJ := St → Hp → (Hp → Prop) → Prop
section
variable {X : Cx} {n : Nat} {e : Expr} {rest : List Expr} {te : TE} {t : TJ} {pos : Pos}
end
theorem ObjOk.ex {P : Program} {w : World} {H : Hp} {h : Heap} {a : Addr} {o : HO} (x : ObjOk P w H h a o) : ∃ u, h.get? a = some u := by
  cases o with
  | lst xs => obtain ⟨_, _, _, _, e⟩ := x; exact ⟨_, e⟩
  | tup xs => obtain ⟨_, _, _, o, e, _⟩ := x; exact ⟨_, e⟩
  | dK kvs => obtain ⟨_, _, _, _, o, _, _, e, _⟩ := x; exact ⟨_, e⟩
  | dT kvs => obtain ⟨_, _, _, _, o, _, _, e, _⟩ := x; exact ⟨_, e⟩
  | set S n => obtain ⟨o, _, _, _, e, _⟩ := x; exact ⟨_, e⟩
  | ins C dx fs => obtain ⟨_, _, _, e, _⟩ := x; exact ⟨_, e⟩
  | own y => exact x
  | xd fs => obtain ⟨_, ⟨o, _, _, e, _⟩, _⟩ := x; exact ⟨_, e⟩
  | rng lo hi => obtain ⟨_, _, _, e⟩ := x; exact ⟨_, e⟩
  | frz ob u => obtain ⟨e, _⟩ := x; exact ⟨_, e⟩
  | tbl ps => exact ⟨_, x⟩
  | met f y => exact ⟨_, x⟩
  | ext φ => obtain ⟨_, e, _⟩ := x; exact e
section
variable {X : Cx} {pins : List (Addr × Obj)} {σ : St} {H : Hp} {s : Shared}
end
abbrev bmV : List Value := [.type "ValueError", .type "Exception", .type "BaseException", .type "object"]
def XKin (K : PySem.W.Frag) (C : Addr) : Prop := ∃ nm q N bs bm hdct sn sub ab col dd k0 k1 k2 k3 k5, K.lookup C = some (excClassObj nm q C N bs bm hdct sn sub ab col dd k0 k1 k2 k3 k5 "ValueError.__new__") ∧ PySem.W.tailIn K bmV bm = true
abbrev TN := St → Hp → (Addr → Addr → Option Addr → Hp → Prop) → Prop
section
variable {X : Cx} {C : Addr} {x : Str} {p pos cpos : Pos} {e : Expr} {es : List Expr} {t : TA} {tn : TN}
end
end L2
namespace L2
open PySem PySem.Spec PyProof.Rows
section
variable {X : Cx} {pins : List (Addr × Obj)} {σ : St} {H : Hp} {s : Shared} {e C : Addr} {od : Option Addr}
end
def XSub (K : PySem.W.Frag) (C R : Addr) : Prop := ∃ nm q N bs bm hdct sn sub ab col dd k0 k1 k2 k3 k5, K.lookup C = some (excClassObj nm q C N bs bm hdct sn sub ab col dd k0 k1 k2 k3 k5 "ValueError.__new__") ∧ (Value.ref C :: bm).contains (.ref R) = true
section
variable {X : Cx} {R : Addr} {i : Nat} {x n : Str} {body suite : List Stmt} {b0 : Stmt} {tb : TSx} {ts : TS} {np hpos pos : Pos}
end
end L2
namespace L2
open PySem PySem.Spec PyProof.Rows PySem.W
structure XC (K : PySem.W.Frag) (C : Addr) : Prop where
  ga : findIn K (.ref C) "__getattribute__" = some (some (.builtin "BaseException.__getattribute__"))
  gh : findIn K (.ref C) "__getattr__" = some none
  cl : findIn K (.ref C) "__class__" = some (some (.builtin "object.__class__"))
  gs : specialIn K (.builtin "object.__class__") "__get__" = some (some (.builtin "getset_descriptor.__get__"))
  tk : takesIn K (.builtin "object.__class__") = some true
  ob : mroIn K C (.type "object") = some true
  be : mroIn K C (.type "BaseException") = some true
  hd : hasDictIn K C = true
theorem xga_kind : builtinKind "BaseException.__getattribute__" = some .slot := by decide +kernel
theorem xga_split : splitId "BaseException.__getattribute__" = some ("BaseException", "__getattribute__") := by decide +kernel
theorem xga_slot : Slot "BaseException" "__getattribute__" "BaseException.__getattribute__" :=
  .of (owner := "BaseException") (n := "__getattribute__") (by rw [typeLookup_type, builtinLookup_eq_fast]; kernel_rfl) (by decide +kernel) (by decide +kernel) (by decide +kernel)
    (by first | exact .inl (by decide +kernel) | exact .inr (by decide +kernel)) (by rw [isSubtype_type]; kernel_rfl)
section
variable {prog : Program} {w : World} {A : Around} {E : Value → Shared → Prop} {s : Shared} {K : PySem.W.Frag} {x C : Addr} {ox : Obj} {od : Option Obj} {name : Str}
theorem xga_call {tk : Tok} {r : Builtin.ObjectAttr.Found} {R : Result → Shared → Prop} (X : K.In s.heap) (I : InstAt s.heap x ox C od) (T : XC K C) (hf : findObj K C od name = some r)
    (h : match r with
      | .value v => R (.ok (.ret v)) s
      | .bind g a => wpAny (model prog w) A.in1 (call g [a, .ref x, .ref C]) (fun v s' => R (.ok (.ret v)) s') (fun _ _ => False) s
      | .missing => False) :
    codeAny (model prog w) A (.call (.builtin "BaseException.__getattribute__") ⟨[.ref x, .str name tk], []⟩) R s := by
  obtain ⟨hh, gg, d, t, os⟩ := s
  have L0 := I.type (M := model prog w)
  have L1 := looks_find (M := model prog w) X I hf
  have LB : Looks (model prog w) hh (isInstance (.ref x) (.type "BaseException")) true := L0.andThen (looks_mroIn X T.be)
  refine codeAny_call_builtin xga_slot.plain PySem.F.entry_bexc_ga ?_
  refine @check_slot (model prog w) _ _ ⟨hh, gg, d, t, os⟩ "BaseException.__getattribute__" "BaseException" "__getattribute__" (.ref x) [.str name tk] [] _ xga_kind xga_split LB (PySem.F.args_bexc_ga (.ref x) (.str name tk)) ?_
  unfold Builtin.«object.__getattribute__»
  refine wpAny_bind (wpAny_pure (wpAny_bind (wpAny_pure (wpAny_bind (L0.at (wpAny_bind (L1.at ?_)))))))
  cases r with
  | value v => exact wpAny_pure h
  | bind g a =>
    show wpAny _ _ (holding [a] (call g [a, .ref x, .ref C]) >>= ret) _ _ _
    exact wpAny_bind (wpAny_holding (wpAny_mono h (fun v s' z => wpAny_pure z) fun _ _ z => z.elim))
  | missing => exact h.elim
theorem xga_by {tk : Tok} {fill expr : Bool} {r : Builtin.ObjectAttr.Found} {Q : Value → Shared → Prop} (X : K.In s.heap) (I : InstAt s.heap x ox C od) (T : XC K C) (hf : findObj K C od name = some r)
    (h : match r with
      | .value v => handedIn v = true ∧ Q v s
      | .bind g a => wpAny (model prog w) A.in1 (call g [a, .ref x, .ref C]) (fun v s' => handedIn v = true ∧ Q v s') (fun _ _ => False) s
      | .missing => False) :
    wpAny (model prog w) A (getAttrBy (.ref x) (.str name tk) fill expr) Q E s := by
  have L0 := I.type (M := model prog w)
  unfold getAttrBy
  refine wpAny_holding (wpAny_bind (L0.here (wpAny_bind ((looks_findIn X T.ga).here ?_))))
  dsimp only
  rw [show (onTheHeap (Value.ref C) && Value.builtin "BaseException.__getattribute__" == Value.builtin "object.__getattribute__") = false from by rw [show (Value.builtin "BaseException.__getattribute__" == Value.builtin "object.__getattribute__") = false from by decide +kernel, Bool.and_false], if_neg (by decide)]
  unfold getAttrByItsOwn
  refine wpAny_bind ((looks_hook X (mc := .ref C) (r := none) (by rw [if_pos (show onTheHeap (Value.ref C) = true from rfl)]; exact T.gh)).here (wpAny_bind (wpAny_attempt (wpAny_holding ?_))))
  unfold callGetattribute
  rw [show (expr && onTheHeap (Value.builtin "BaseException.__getattribute__")) = false from Bool.and_false _, if_neg (by decide)]
  unfold boundAndCalled
  rw [xga_slot.bind]
  refine wpAny_bind (wpAny_pure ?_)
  show wpAny _ _ (call (.builtin "BaseException.__getattribute__") [.ref x, .str name tk]) _ _ _
  refine wpAny_call (xga_call X I T hf ?_)
  cases r with
  | value v =>
    show wpAny _ _ (handedOut v) _ _ _
    exact handed_on h.1 h.2
  | bind g a =>
    refine wpAny_mono h (fun v s' z => ?_) fun _ _ z => z
    show wpAny _ _ (handedOut v) _ _ _
    exact handed_on z.1 z.2
  | missing => exact h.elim
theorem xc_class {Q : Option Value → Shared → Prop} (X : K.In s.heap) (I : InstAt s.heap x ox C od) (T : XC K C) (h : Q (some (.ref C)) { s with toks := s.toks + 1 }) : wpAny (model prog w) A (getAttr? (.ref x) "__class__") Q E s := by
  have hf : findObj K C od "__class__" = some (.bind (.builtin "getset_descriptor.__get__") (.builtin "object.__class__")) := by
    obtain ⟨cd, hc, _⟩ := any_some T.hd
    unfold findObj
    rw [hc, Option.bind_some, T.cl, Option.bind_some]
    simp [T.gs, T.tk]
  unfold getAttr? getAttrBy?
  refine wpAny_bind (wpAny_mkText (wpAny_bind (wpAny_attempt (xga_by (s := { s with toks := s.toks + 1 }) X I T hf ?_))))
  exact wpAny_call (class_get (s := { s with toks := s.toks + 1 }) X I T.ob ⟨rfl, wpAny_pure h⟩)
theorem kitx_exc (T : XC K C) : KitX K (.ref x) (.ref C) (fun h => ∃ ox od, InstAt h x ox C od) where
  ty := fun _ _ _ ⟨_, _, I⟩ => I.type
  it := fun _ _ X _ => by
    obtain ⟨cdD, hcD, _⟩ := any_some T.hd
    unfold clsIn at hcD
    split at hcD
    · rename_i c' d' cd' sl' ho
      intro A' Q' E' s' k q
      unfold isType loadHead
      exact wpAny_bind (wpAny_loadPart (k _ _ (X _ _ ho)) (wpAny_pure q))
    · cases hcD
  ne := fun h tp dd its n sl X htp => by
    obtain ⟨cdD, hcD, _⟩ := any_some T.hd
    refine Bool.eq_false_iff.mpr fun q => ?_
    have e : C = tp := Value.ref.inj (beq_iff_eq.mp q)
    subst e
    unfold clsIn at hcD
    split at hcD
    · rename_i c' d' cd' sl' ho
      have z := (X _ _ ho).symm.trans htp
      cases z
    · cases hcD
  ca := fun X ⟨_, _, I⟩ k => xc_class X I T k
end
section
variable {X : Cx} {pins : List (Addr × Obj)} {σ : St} {H : Hp} {s : Shared} {e C : Addr} {od : Option Addr}
def XD (H : Hp) (od : Option Addr) : Prop := ∀ dx, od = some dx → ∃ fs, H dx = some (.xd fs)
theorem Inv.inst (I : Inv X pins σ H s) (he : H e = some (XO e C od)) (hd : XD H od) : ∃ ox o, InstAt s.heap e ox C o := by
  obtain ⟨oe, vs, ge, c1, c2, c3, c4⟩ := I.xo he
  have no : notCls oe = true := by
    obtain ⟨c, d, dt, sl⟩ := oe
    dsimp only at c3
    subst c3
    rfl
  cases od with
  | none => exact ⟨oe, none, ge, c1, no, by rw [c2]; trivial⟩
  | some dx =>
    obtain ⟨fs, hx⟩ := hd dx rfl
    obtain ⟨u, hu⟩ := (I.hok dx _ hx).ex
    exact ⟨oe, some u, ge, c1, no, by rw [c2]; exact hu⟩
end
inductive TyX (K : PySem.W.Frag) (H : Hp) : V → Value → Prop where
  | ty {x : V} {t : Value} (h : TyOf K H x t) : TyX K H x t
  | exc {e C : Addr} {od : Option Addr} (he : H e = some (XO e C od)) (hd : XD H od) (T : XC K C) : TyX K H (.ref e) (.ref C)
def rIsX (K : PySem.W.Frag) : List V → Hp → VK → Prop := fun xs H Q => ∃ x c t b, xs = [x, c] ∧ ((∃ n, c = .ty n) ∨ ∃ a, c = .ref a) ∧ TyX K H x t ∧ kitOne K t (clsV c) = some b ∧ Q (.bl b) H
theorem call_isx {X : Cx} (K : PySem.W.Frag) (h : X.K = K := by rfl) : CallR X (.builtin "isinstance") (rIsX K) := by
  subst h
  intro pins s σ H xs us Q I r h
  obtain ⟨x, c, t, b, rfl, hc, ty, e, q⟩ := h
  obtain ⟨u, w', rfl, rx, rc⟩ := vals2 r
  have hw : w' = clsV c := by
    rcases hc with ⟨n, rfl⟩ | ⟨a, rfl⟩
    · cases rc; rfl
    · cases rc; rfl
  subst hw
  cases ty with
  | ty ty => exact isinst_ok I rx ty e fun tk => ⟨.bl b, H, I.tok _, rfl, q⟩
  | exc he hd T =>
    cases rx
    exact kia_one (kitx_exc T) I.kIn (I.inst he hd) e (fun z => nomatch z) fun tk => ⟨.bl b, H, I.tok _, rfl, q⟩
end L2
namespace L2
open PySem PySem.Spec PyProof.Rows PySem.W
section
variable {prog : Program} {w : World} {A : Around} {E : Value → Shared → Prop} {h : Heap} {g : Array GenState} {d : Drawn} {t : Nat} {os : OsState} {K : PySem.W.Frag}
variable {nm q : Str} {C N : Addr} {bs bm : List Value} {hdct : Bool} {sn : List Str} {sub : List Value} {ab : Bool} {col : Option Bool} {dd : Option Addr} {k0 k1 k2 k3 k5 : Option Value}
end
structure XMk (K : PySem.W.Frag) (C f : Addr) : Prop where
  kin : XKin K C
  init : findIn K (.ref C) "__init__" = some (some (.ref f))
  fn : isFn K (.ref f) = true
  kp : keepIn K (.ref C) = true
section
variable {X : Cx} {C : Addr} {x : Str} {p pos cpos apos : Pos} {e : Expr} {es : List Expr} {t : TA} {ps : List Str} {sp : Sp} {j k : Nat}
structure XB (K : PySem.W.Frag) (B : Addr) : Prop where
  sp : specialIn K (.ref B) "__getattribute__" = some (some (.builtin "type.__getattribute__"))
  rd : readsIn K B (.type "type") = true
  fd : findCls K (.ref B) (.type "type") "__init__" = some (.val (.builtin "ValueError.__init__"))
theorem upd_self {H : Hp} {a : Addr} {o : HO} (h : H a = some o) : upd H a o = H := by
  funext b
  unfold upd
  split
  · rename_i z
    rw [z, h]
  · rfl
end
end L2
namespace L2
open PySem PySem.Spec PyProof.Rows PySem.W
section
variable {prog : Program} {w : World} {A : Around} {s : Shared} {K : PySem.W.Frag} {x C : Addr} {name : Str} {v : Value} {tk : Tok}
variable {nm q : Str} {N : Addr} {bs bm : List Value} {hdct : Bool} {sn : List Str} {sub : List Value} {ab : Bool} {col : Option Bool} {dd : Option Addr} {k0 k1 k2 k3 k5 : Option Value} {newId : String}
end
structure XSt (K : PySem.W.Frag) (C : Addr) (f : Str) : Prop where
  kin : XKin K C
  sa : findIn K (.ref C) "__setattr__" = some (some (.builtin "object.__setattr__"))
  no : findIn K (.ref C) f = some none
  hd : hasDictIn K C = true
section
variable {X : Cx} {pins : List (Addr × Obj)} {σ : St} {H : Hp} {s : Shared} {a C : Addr}
end
structure XGt (K : PySem.W.Frag) (C : Addr) (f : Str) : Prop where
  xc : XC K C
  no : findIn K (.ref C) f = some none
section
variable {P : Program} {w : World} {K : PySem.W.Frag} {mg : Str → Option Value} {base : Heap} {k : Nat} {x m : Str} {C : Addr} {ps : List Str} {sp : Sp}
end
end L2
namespace L2
open PySem PySem.Spec PyProof.Rows PySem.W
structure XCls (K : PySem.W.Frag) (mg : Str → Option Value) (x : Str) (C R : Addr) : Prop where
  mg : mg x = some (.ref C)
  kin : XKin K C
  sub : XSub K C R
  xc : XC K C
  kp : keepIn K (.ref C) = true
structure XPl (K : PySem.W.Frag) (C : Addr) : Prop where
  ex : excIn K C bmV "ValueError.__new__" = true
  kp : keepIn K (.ref C) = true
section
variable {K : PySem.W.Frag} {H : Hp} {Q : VK} {e C D : Addr} {od : Option Addr} {b : Bool}
end
theorem pe_cls {X : Cx} {x : Str} {C : Addr} {pos : Pos} (hm : X.mg x = some (.ref C)) (hg : Gl X x := by rfl) (hd : (x == ("__debug__" : Str)) = false := by decide) : PE X (.Name x pos) (tC (.ref C)) := pe_glob (v := .ref C) hg hm rfl hd
inductive NoWh (H : Hp) : V → Prop
  | bl (b : Bool) : NoWh H (.bl b)
  | non : NoWh H .non
  | str (x : Str) : NoWh H (.str x)
  | tup {a : Addr} {xs : List V} (e : H a = some (.tup xs)) : NoWh H (.ref a)
  | lst {a : Addr} {xs : List V} (e : H a = some (.lst xs)) : NoWh H (.ref a)
section
variable {P : Program} {w : World} {K : PySem.W.Frag} {mg : Str → Option Value} {base : Heap} {C : Addr} {qual : Str} {st : Stmt} {N ps : List Str} {k : Nat} {sp : Sp}
end
structure K10 (K : PySem.W.Frag) (C : Addr) (c0 c1 c2 c3 c4 c5 c6 c7 c8 c9 : Addr) (b0 b1 b2 b3 b4 b5 b6 b7 b8 b9 : Bool) : Prop where
  k0 : kitOne K (.ref C) (.ref c0) = some b0
  k1 : kitOne K (.ref C) (.ref c1) = some b1
  k2 : kitOne K (.ref C) (.ref c2) = some b2
  k3 : kitOne K (.ref C) (.ref c3) = some b3
  k4 : kitOne K (.ref C) (.ref c4) = some b4
  k5 : kitOne K (.ref C) (.ref c5) = some b5
  k6 : kitOne K (.ref C) (.ref c6) = some b6
  k7 : kitOne K (.ref C) (.ref c7) = some b7
  k8 : kitOne K (.ref C) (.ref c8) = some b8
  k9 : kitOne K (.ref C) (.ref c9) = some b9
  kv : kitOne K (.ref C) (.type "ValueError") = some true
structure Ers (mg : Str → Option Value) (R cM cP cR cF cT cN cA cL cW cO : Addr) : Prop where
  r : mg "RoadError" = some (.ref R)
  m : mg "BadMeasures" = some (.ref cM)
  p : mg "BadPast" = some (.ref cP)
  d : mg "BadRoad" = some (.ref cR)
  f : mg "Full" = some (.ref cF)
  t : mg "BadThing" = some (.ref cT)
  n : mg "NotNow" = some (.ref cN)
  a : mg "BadName" = some (.ref cA)
  l : mg "BadLine" = some (.ref cL)
  w : mg "BadWish" = some (.ref cW)
  o : mg "NoRow" = some (.ref cO)
  v : mg "ValueError" = none
section
variable {K : PySem.W.Frag} {h : Heap} {mg : Str → Option Value}
end
end L2
namespace L2
open PySem PySem.Spec PyProof.Rows
theorem same_upd {H H' : Hp} {D : Addr} {o : HO} (s : Same H H') : Same (upd H D o) (upd H' D o) := fun b u e => by
  by_cases h : b = D
  · subst h
    rw [upd_same] at e ⊢
    exact e
  · rw [upd_ne h] at e ⊢
    exact s b u e
theorem paired_imp {α β : Type} {R R' : α → β → Prop} (hR : ∀ a b, R a b → R' a b) : ∀ {l : List α} {m : List β}, Paired R l m → Paired R' l m
  | _, _, .nil => .nil
  | _, _, .cons h t => .cons (hR _ _ h) (paired_imp hR t)
theorem paired_app {α β : Type} {R : α → β → Prop} : ∀ {l l' : List α} {m m' : List β}, Paired R l m → Paired R l' m' → Paired R (l ++ l') (m ++ m')
  | _, _, _, _, .nil, h => h
  | _, _, _, _, .cons h t, h' => .cons h (paired_app t h')
def Gr {α : Type} (Rel : Hp → α → V → Prop) (as : List α) (H1 : Hp) (D : Addr) (i : Nat) (acc : List V) (H : Hp) : Prop := Same H1 H ∧ H D = some (.lst acc) ∧ Paired (fun a v => ∀ z, Rel (upd H D (.lst z)) a v) (as.take i) acc
section
variable {α : Type} {Rel : Hp → α → V → Prop} {as : List α} {H1 H H4 : Hp} {D : Addr} {i : Nat} {acc : List V} {a : α} {v : V}
theorem Gr.zero (hD : H1 D = none) : Gr Rel as H1 D 0 [] (upd H1 D (.lst [])) := ⟨.upd_new hD, upd_same, by rw [List.take_zero]; exact .nil⟩
theorem Gr.len (g : Gr Rel as H1 D i acc H) : acc.length ≤ i := by
  have := g.2.2.length
  rw [List.length_take] at this
  omega
theorem Gr.step (mono : ∀ H H' a v, Same H H' → Rel H a v → Rel H' a v) (g : Gr Rel as H1 D i acc H) (hD : H1 D = none) (ha : as[i]? = some a) (s : Same H H4) (r : ∀ z, Rel (upd H4 D (.lst z)) a v) : H4 D = some (.lst acc) ∧ Gr Rel as H1 D (i + 1) (acc ++ [v]) (upd H4 D (.lst (acc ++ [v]))) := by
  obtain ⟨s1, e, p⟩ := g
  refine ⟨s _ _ e, (s1.trans s).upd hD, upd_same, ?_⟩
  rw [List.take_add_one, ha, Option.toList_some]
  refine paired_app (paired_imp (fun b u h z => ?_) p) (.cons (fun z => ?_) .nil)
  · rw [upd_upd]
    exact mono _ _ _ _ (same_upd s) (h z)
  · rw [upd_upd]
    exact r z
theorem Gr.last (g : Gr Rel as H1 D i acc H) (hi : as.length ≤ i) : Same H1 H ∧ H D = some (.lst acc) ∧ Paired (Rel H) as acc := by
  obtain ⟨s, e, p⟩ := g
  rw [List.take_of_length_le hi] at p
  refine ⟨s, e, paired_imp (fun b u h => ?_) p⟩
  have := h acc
  rw [upd_self e] at this
  exact this
end
section
variable {n : Nat} {js : List Nat} {g : TG} {tc : TT} {te : TE} {σ : St} {Q : VK} {H1 : Hp} {α : Type}
theorem grow_list {K : PySem.W.Frag} {a : Addr} {xs : List V} (hx : SqL K H1 a xs) (hz : xs.length ≤ sizeLine) (as : List α) (hlen : as.length = xs.length) (Rel : Hp → α → V → Prop) (mono : ∀ H H' a v, Same H H' → Rel H a v → Rel H' a v)
    (hs : ∀ D (i : Nat) x b acc H, H1 D = none → xs[i]? = some x → as[i]? = some b → Same H1 H → H D = some (.lst acc) → ∀ (Nx : VK) (Y : Hp → Prop), (∀ v H4, Same H H4 → (∀ z, Rel (upd H4 D (.lst z)) b v) → Nx v H4) → g x (cSt n js σ) H fun σ2 H2 => σ2.drop n = (cSt n js σ).drop n ∧ tc σ2 H2 fun b H3 => if b = true then te σ2 H3 Nx else Y H3)
    (hd : ∀ D vs H, H1 D = none → Same H1 H → H D = some (.lst vs) → Paired (Rel H) as vs → Q (.ref D) H) : CompW n js g tc te σ Q (Itl K a) H1 := by
  refine comp_list (xs := xs) hz (Gr Rel as H1) (fun D hD => Gr.zero hD) (fun D i acc H hD hi p => ⟨p.2.1, p.1.seq hx, p.len⟩) (fun D i x acc H hD hxi p => ?_) (fun D acc H hD p => ?_)
  · have hlt := (List.getElem?_eq_some_iff.mp hxi).1
    exact hs D i x as[i] acc H hD hxi (List.getElem?_eq_getElem _) p.1 p.2.1 _ _ fun v H4 s r => p.step mono hD (List.getElem?_eq_getElem _) s r
  · obtain ⟨h1, h2, h3⟩ := p.last (by omega)
    exact hd D acc H hD h1 h2 h3
theorem grow_tup {K : PySem.W.Frag} {a : Addr} {xs : List V} (hx : SqT K H1 a xs) (hz : xs.length ≤ sizeLine) (as : List α) (hlen : as.length = xs.length) (Rel : Hp → α → V → Prop) (mono : ∀ H H' a v, Same H H' → Rel H a v → Rel H' a v)
    (hs : ∀ D (i : Nat) x b acc H, H1 D = none → xs[i]? = some x → as[i]? = some b → Same H1 H → H D = some (.lst acc) → ∀ (Nx : VK) (Y : Hp → Prop), (∀ v H4, Same H H4 → (∀ z, Rel (upd H4 D (.lst z)) b v) → Nx v H4) → g x (cSt n js σ) H fun σ2 H2 => σ2.drop n = (cSt n js σ).drop n ∧ tc σ2 H2 fun b H3 => if b = true then te σ2 H3 Nx else Y H3)
    (hd : ∀ D vs H, H1 D = none → Same H1 H → H D = some (.lst vs) → Paired (Rel H) as vs → Q (.ref D) H) : CompW n js g tc te σ Q (Itt K a) H1 := by
  refine comp_tup (xs := xs) hz (Gr Rel as H1) (fun D hD => Gr.zero hD) (fun D i acc H hD hi p => ⟨p.2.1, p.1.seqT hx, p.len⟩) (fun D i x acc H hD hxi p => ?_) (fun D acc H hD p => ?_)
  · have hlt := (List.getElem?_eq_some_iff.mp hxi).1
    exact hs D i x as[i] acc H hD hxi (List.getElem?_eq_getElem _) p.1 p.2.1 _ _ fun v H4 s r => p.step mono hD (List.getElem?_eq_getElem _) s r
  · obtain ⟨h1, h2, h3⟩ := p.last (by omega)
    exact hd D acc H hD h1 h2 h3
theorem Sq.same {κ : Bool} {K : PySem.W.Frag} {H H' : Hp} {a : Addr} {xs : List V} (h : Sq κ K H a xs) (s : Same H H') : Sq κ K H' a xs := by
  cases κ
  · exact s.seq h
  · exact s.seqT h
theorem grow_zip {κ : Bool} {K : PySem.W.Frag} {a b : Addr} {xs ys : List V} (hx : Sq κ K H1 a xs) (hy : SqL K H1 b ys) (hxy : xs.length ≤ ys.length) (hz : xs.length ≤ sizeLine) (as : List α) (hlen : as.length = xs.length) (Rel : Hp → α → V → Prop) (mono : ∀ H H' a v, Same H H' → Rel H a v → Rel H' a v)
    (hs : ∀ D (i : Nat) x y p b acc H, H1 D = none → xs[i]? = some x → ys[i]? = some y → as[i]? = some b → Same H1 H → H D = some (.lst acc) → H p = none → ∀ (Nx : VK) (Y : Hp → Prop), (∀ v H4, Same H H4 → (∀ z, Rel (upd H4 D (.lst z)) b v) → Nx v H4) → g (.ref p) (cSt n js σ) (upd H p (.tup [x, y])) fun σ2 H2 => σ2.drop n = (cSt n js σ).drop n ∧ tc σ2 H2 fun b H3 => if b = true then te σ2 H3 Nx else Y H3)
    (hd : ∀ D vs H, H1 D = none → Same H1 H → H D = some (.lst vs) → Paired (Rel H) as vs → Q (.ref D) H) : CompW n js g tc te σ Q (Itu κ K a b) H1 := by
  intro D hD
  refine ⟨fun i m acc H => m = xs.length - i ∧ i ≤ xs.length ∧ Gr Rel as H1 D i acc H, ⟨xs.length, by simp, Nat.zero_le _, Gr.zero hD⟩, ?_⟩
  rintro i m acc H ⟨rfl, hi, p⟩
  have qa := hx.same p.1
  have qb := p.1.seq hy
  refine ⟨p.2.1, ?_⟩
  by_cases hlt : i < xs.length
  · refine .inr ⟨⟨xs, ys, xs[i], ys[i], qa, qb, by simp [hlt], by simp⟩, by have := p.len; omega, Gr Rel as H1 D (i + 1), fun acc' H' p' => ⟨xs.length - (i + 1), by omega, rfl, hlt, p'⟩, fun x H' y => ?_⟩
    obtain ⟨pp, rfl, hp, y⟩ := y
    obtain ⟨z1, z2, hz1, hz2, rfl⟩ := y xs ys qa qb
    exact hs D i z1 z2 pp as[i] acc H hD hz1 hz2 (List.getElem?_eq_getElem _) p.1 p.2.1 hp _ _ fun v H4 s r => p.step mono hD (List.getElem?_eq_getElem _) s r
  · have e : i = xs.length := by omega
    subst e
    obtain ⟨h1, h2, h3⟩ := p.last (by omega)
    exact .inl ⟨⟨xs, qa, Nat.le_refl _⟩, hd D acc H hD h1 h2 h3⟩
end
end L2
namespace K81
open PySem L2
def w (s : String) : List Nat := s.toList.map (·.toNat)
def nT (n : Nat) : List Nat := (Nat.toDigits 10 n).map (·.toNat)
theorem nT_dig {n c : Nat} (h : c ∈ nT n) : 48 ≤ c ∧ c ≤ 57 := by
  obtain ⟨d, hd, rfl⟩ := List.mem_map.mp h
  have := Nat.isDigit_of_mem_toDigits (by decide) (by decide) hd
  unfold Char.isDigit at this
  simp only [Bool.and_eq_true, decide_eq_true_eq] at this
  exact ⟨this.1, this.2⟩
theorem nT_len {n k : Nat} (h : n < 10 ^ k) (hk : 0 < k) : (nT n).length ≤ k := by
  unfold nT
  rw [List.length_map]
  exact (Nat.length_toDigits_le_iff (by decide) hk).mpr h
theorem nT_lt (n : Nat) (h : n < 10) : ∃ c, nT n = [c] ∧ (n ≠ 0 → c ≠ 48) := by
  have : ∀ m : Fin 10, ∃ c, nT m.val = [c] ∧ (m.val ≠ 0 → c ≠ 48) := by
    intro m
    refine ⟨48 + m.val, ?_, by omega⟩
    revert m
    decide +kernel
  exact this ⟨n, h⟩
theorem nT_app {n d : Nat} (hn : 0 < n) (hd : d < 10) : nT (10 * n + d) = nT n ++ nT d := by
  unfold nT
  rw [← Nat.toDigits_append_toDigits (by decide) hn hd, List.map_append]
theorem nT_hd : ∀ n : Nat, ∃ c r, nT n = c :: r ∧ (n ≠ 0 → c ≠ 48) := by
  intro n
  induction n using Nat.strongRecOn with
  | ind n ih =>
    by_cases h : n < 10
    · obtain ⟨c, e, hc⟩ := nT_lt n h
      exact ⟨c, [], e, hc⟩
    · obtain ⟨c, r, e, hc⟩ := ih (n / 10) (by omega)
      have : n = 10 * (n / 10) + n % 10 := by omega
      have e2 := nT_app (n := n / 10) (d := n % 10) (by omega) (by omega)
      rw [← this, e] at e2
      exact ⟨c, _, e2, fun _ => hc (by omega)⟩
theorem nT_0 : nT 0 = [48] := by decide +kernel
def oT : Option Nat → List Nat
  | none => w "none"
  | some n => nT n
theorem nT_has {n c : Nat} {l : List Nat} (hc : c ∈ l) (h : c < 48 ∨ 57 < c) : nT n ≠ l := fun e => by
  subst e
  have := nT_dig hc
  omega
theorem S_app {a b : List Nat} : Sg a ++ Sg b = Sg (a ++ b) := by
  unfold Sg
  change (⟨a.toArray ++ b.toArray⟩ : Str) = _
  rw [List.append_toArray]
theorem S_of (s : String) : Str.ofString s = Sg (w s) := Str.ofString_eq_toList s
theorem S_num (n : Nat) : Str.ofString (toString (n : Int)) = Sg (nT n) := by
  have e : toString (n : Int) = n.repr := rfl
  rw [e, Str.ofString_eq_toList, Nat.toList_repr]
  rfl
theorem S_inj {a b : List Nat} (h : Sg a = Sg b) : a = b := by
  have : a.toArray = b.toArray := congrArg Str.cps h
  simpa using this
theorem S_eq {a b : List Nat} : (Sg a = Sg b) = (a = b) := propext ⟨S_inj, fun h => by rw [h]⟩
theorem glue_S (sep : List Nat) : ∀ (l : List (List Nat)) (acc : List Nat), (l.map Sg).foldl (fun a p => a ++ (Sg sep).cps ++ p.cps) acc.toArray = (acc ++ l.flatMap fun p => sep ++ p).toArray
  | [], acc => by simp
  | p :: r, acc => by
    rw [List.map_cons, List.foldl_cons]
    have e : acc.toArray ++ (Sg sep).cps ++ (Sg p).cps = (acc ++ sep ++ p).toArray := by unfold Sg; simp
    rw [e, glue_S sep r, List.flatMap_cons]
    simp
def jW (c : Nat) : List (List Nat) → List Nat
  | [] => []
  | p :: r => p ++ r.flatMap fun q => c :: q
theorem join_S (c : Nat) : ∀ l : List (List Nat), joinT (Sg [c]) (l.map Sg) = Sg (jW c l)
  | [] => rfl
  | [p] => by
    change Sg p = Sg (p ++ [])
    rw [List.append_nil]
  | p :: q :: r => by
    change Builtin.Str.glued (Sg [c]) ((p :: q :: r).map Sg) = _
    unfold Builtin.Str.glued
    have := glue_S [c] (q :: r) p
    rw [List.map_cons, List.drop_succ_cons, List.drop_zero, List.headD_cons]
    change (⟨((q :: r).map Sg).foldl (fun a p => a ++ (Sg [c]).cps ++ p.cps) p.toArray⟩ : Str) = _
    rw [this]
    rfl
theorem jlen : ∀ (l : List (List Nat)) (m : Nat), (l.map Sg).foldl (fun a p => a + p.length + 1) m = m + (l.map fun p => p.length + 1).sum
  | [], m => by simp
  | p :: r, m => by
    rw [List.map_cons, List.foldl_cons, jlen r, List.map_cons, List.sum_cons, Sg_len]
    omega
theorem jW_len (c : Nat) : ∀ l : List (List Nat), (jW c l).length ≤ (l.map fun p => p.length + 1).sum
  | [] => by simp [jW]
  | o :: r => by
    rw [List.map_cons, List.sum_cons]
    unfold jW
    rw [List.length_append, List.length_flatMap]
    have : (r.map fun q => (c :: q).length).sum = (r.map fun p => p.length + 1).sum := rfl
    omega
theorem join_ok {Q : VK} {H : Hp} {zs : List Str} {sep : Str} (c : Nat) (l : List (List Nat)) (es : sep = Sg [c]) (e : zs = l.map Sg) (h : (l.map fun p => p.length + 1).sum ≤ 100000) (q : Q (.str (Sg (jW c l))) H) : jLen sep zs ≤ sizeLine ∧ (joinT sep zs).length ≤ sizeLine ∧ Q (.str (joinT sep zs)) H := by
  subst e es
  refine ⟨?_, ?_, by rw [join_S]; exact q⟩
  · unfold jLen
    rw [List.foldl_toArray, sizeLine_eq]
    have := jlen l 0
    change (l.map Sg).foldl (fun a p => a + p.length + 1) 0 ≤ _
    rw [this]
    omega
  · rw [join_S, Sg_len, sizeLine_eq]
    have := jW_len c l
    omega
theorem jW_spl {c n : Nat} : ∀ {l : List (List Nat)}, l ≠ [] → l.length ≤ n + 1 → (∀ x ∈ l, c ∉ x) → spl c n (jW c l) = l
  | [], h, _, _ => absurd rfl h
  | p :: r, _, h1, h2 => spl_join (by simp only [List.length_cons] at h1; omega) h2
theorem jW_rest {c : Nat} : ∀ {l : List (List Nat)} {r : List Nat}, jW c (l ++ [r]) = (l.flatMap fun q => q ++ [c]) ++ r
  | [], r => by simp [jW]
  | [p], r => by simp [jW]
  | p :: q :: l, r => by
    have := jW_rest (c := c) (l := q :: l) (r := r)
    simp only [List.cons_append, jW] at this ⊢
    have e : List.flatMap (fun q => q ++ [c]) (p :: q :: l) ++ r = p ++ [c] ++ (List.flatMap (fun q => q ++ [c]) (q :: l) ++ r) := by simp
    rw [e, ← this, List.flatMap_cons]
    simp
theorem jW_splR {c : Nat} {l : List (List Nat)} {r : List Nat} (h : ∀ x ∈ l, c ∉ x) : spl c l.length (jW c (l ++ [r])) = l ++ [r] := by
  rw [jW_rest]
  exact spl_rest h
inductive Fld
  | n (k : Nat)
  | o (p : Option Nat)
  | ds (d : List (List Nat))
  | nm (s : List Nat)
  | sg (s : List Nat)
def dT (d : List Nat) : List Nat := if d = [] then w "-" else jW 44 (d.map nT)
def dsT (d : List (List Nat)) : List Nat := if d = [] then w "none" else jW 47 (d.map dT)
def fT : Fld → List Nat
  | .n k => nT k
  | .o p => oT p
  | .ds d => dsT d
  | .nm s => s
  | .sg s => s
def okO (p : Option Nat) : Prop := ∀ k, p = some k → k < 100000
def okD (d : List Nat) : Prop := d.length ≤ 3 ∧ ∀ x ∈ d, x < 100000
def okDs (d : List (List Nat)) : Prop := d.length ≤ 8 ∧ ∀ x ∈ d, okD x
def okN (s : List Nat) : Prop := s ≠ [] ∧ s.length ≤ 8 ∧ ∀ c ∈ s, 97 ≤ c ∧ c ≤ 122
def okS (s : List Nat) : Prop := s ≠ [] ∧ s.length ≤ 100 ∧ ∀ c ∈ s, 32 ≤ c ∧ c ≤ 126
def Fld.Ok : Fld → Prop
  | .n k => k < 100000
  | .o p => okO p
  | .ds d => okDs d
  | .nm s => okN s
  | .sg s => okS s
def Pr (l : List Nat) : Prop := ∀ c ∈ l, 32 ≤ c ∧ c ≤ 126
theorem Pr.app {a b : List Nat} (h : Pr a) (g : Pr b) : Pr (a ++ b) := fun c hc => (List.mem_append.mp hc).elim (h c) (g c)
theorem pr_w {s : String} (h : ((w s).all fun c => decide (32 ≤ c) && decide (c ≤ 126)) = true) : Pr (w s) := fun c hc => by
  have := List.all_eq_true.mp h c hc
  simpa using this
theorem pr_nT {n : Nat} : Pr (nT n) := fun c hc => by have := nT_dig hc; omega
theorem pr_jW {c : Nat} (hc : 32 ≤ c ∧ c ≤ 126) : ∀ {l : List (List Nat)}, (∀ x ∈ l, Pr x) → Pr (jW c l)
  | [], _ => fun c hc => by simp [jW] at hc
  | p :: r, h => by
    unfold jW
    refine Pr.app (h p (.head _)) fun x hx => ?_
    obtain ⟨q, hq, hx⟩ := List.mem_flatMap.mp hx
    rcases List.mem_cons.mp hx with rfl | hx
    · exact hc
    · exact h q (.tail _ hq) x hx
theorem pr_dT {d : List Nat} : Pr (dT d) := by
  unfold dT
  split
  · exact pr_w (by decide)
  · exact pr_jW (by decide) fun x hx => by
      obtain ⟨k, _, rfl⟩ := List.mem_map.mp hx
      exact pr_nT
theorem pr_dsT {d : List (List Nat)} : Pr (dsT d) := by
  unfold dsT
  split
  · exact pr_w (by decide)
  · exact pr_jW (by decide) fun x hx => by
      obtain ⟨k, _, rfl⟩ := List.mem_map.mp hx
      exact pr_dT
theorem pr_oT : ∀ {o : Option Nat}, Pr (oT o)
  | none => pr_w (by decide)
  | some _ => pr_nT
theorem pr_fT : ∀ {f : Fld}, f.Ok → Pr (fT f)
  | .n _, _ => pr_nT
  | .o _, _ => pr_oT
  | .ds _, _ => pr_dsT
  | .nm _, h => fun c hc => by have := h.2.2 c hc; omega
  | .sg _, h => h.2.2
theorem no_jW {b c : Nat} (hb : b ≠ c) : ∀ {l : List (List Nat)}, (∀ x ∈ l, b ∉ x) → b ∉ jW c l
  | [], _ => by simp [jW]
  | p :: r, h => by
    unfold jW
    intro hx
    rcases List.mem_append.mp hx with hx | hx
    · exact h p (.head _) hx
    · obtain ⟨q, hq, hx⟩ := List.mem_flatMap.mp hx
      rcases List.mem_cons.mp hx with e | hx
      · exact hb e
      · exact h q (.tail _ hq) hx
theorem no_nT {b n : Nat} (h : b < 48 ∨ 57 < b) : b ∉ nT n := fun hb => by have := nT_dig hb; omega
theorem no_dT {b : Nat} {d : List Nat} (h1 : b < 48 ∨ 57 < b) (h2 : b ≠ 44) (h3 : b ≠ 45) : b ∉ dT d := by
  unfold dT
  split
  · have : w "-" = [45] := by decide
    rw [this]
    simpa using h3
  · exact no_jW h2 fun x hx => by
      obtain ⟨k, _, rfl⟩ := List.mem_map.mp hx
      exact no_nT h1
theorem no_32 : ∀ {f : Fld}, f.Ok → (∀ s, f ≠ .sg s) → 32 ∉ fT f
  | .n _, _, _ => no_nT (by decide)
  | .o none, _, _ => (by decide : 32 ∉ w "none")
  | .o (some _), _, _ => no_nT (by decide)
  | .ds d, _, _ => by
    change 32 ∉ dsT d
    unfold dsT
    split
    · decide
    · exact no_jW (by decide) fun x hx => by
        obtain ⟨k, _, rfl⟩ := List.mem_map.mp hx
        exact no_dT (by decide) (by decide) (by decide)
  | .nm s, h, _ => fun hx => by have := h.2.2 _ hx; omega
  | .sg s, _, h => absurd rfl (h s)
theorem sum_le {l : List (List Nat)} {k : Nat} (h : ∀ x ∈ l, x.length ≤ k) : (l.map fun p => p.length + 1).sum ≤ (k + 1) * l.length := by
  induction l with
  | nil => simp
  | cons p r ih =>
    have h1 := h p (.head _)
    have h2 := ih fun x hx => h x (.tail _ hx)
    rw [List.map_cons, List.sum_cons, List.length_cons, Nat.mul_succ]
    omega
theorem nT_len5 {n : Nat} (h : n < 100000) : (nT n).length ≤ 5 := nT_len (k := 5) h (by decide)
theorem oT_len {o : Option Nat} (h : okO o) : (oT o).length ≤ 5 := by
  cases o with
  | none => decide
  | some n => exact nT_len5 (h n rfl)
theorem dT_sum {d : List Nat} (h : okD d) : ((d.map nT).map fun p => p.length + 1).sum ≤ 18 := by
  have := sum_le (l := d.map nT) (k := 5) fun x hx => by
    obtain ⟨k, hk, rfl⟩ := List.mem_map.mp hx
    exact nT_len5 (h.2 k hk)
  rw [List.length_map] at this
  have := h.1
  omega
theorem dT_len {d : List Nat} (h : okD d) : (dT d).length ≤ 18 := by
  unfold dT
  split
  · decide
  · exact Nat.le_trans (jW_len _ _) (dT_sum h)
theorem dsT_sum {d : List (List Nat)} (h : okDs d) : ((d.map dT).map fun p => p.length + 1).sum ≤ 152 := by
  have := sum_le (l := d.map dT) (k := 18) fun x hx => by
    obtain ⟨k, hk, rfl⟩ := List.mem_map.mp hx
    exact dT_len (h.2 k hk)
  rw [List.length_map] at this
  have := h.1
  omega
theorem dsT_len {d : List (List Nat)} (h : okDs d) : (dsT d).length ≤ 152 := by
  unfold dsT
  split
  · decide
  · exact Nat.le_trans (jW_len _ _) (dsT_sum h)
theorem fT_len : ∀ {f : Fld}, f.Ok → (fT f).length ≤ 152
  | .n _, h => Nat.le_trans (nT_len5 h) (by decide)
  | .o _, h => Nat.le_trans (oT_len h) (by decide)
  | .ds _, h => dsT_len h
  | .nm _, h => Nat.le_trans h.2.1 (by decide)
  | .sg _, h => Nat.le_trans h.2.1 (by decide)
theorem dT_ne {d : List Nat} (h : d ≠ []) : dT d ≠ w "-" := by
  unfold dT
  rw [if_neg h]
  cases d with
  | nil => exact absurd rfl h
  | cons x r =>
    obtain ⟨c, l, e, _⟩ := nT_hd x
    rw [List.map_cons]
    unfold jW
    rw [e]
    intro q
    have hc := nT_dig (n := x) (c := c) (by rw [e]; exact .head _)
    have : w "-" = [45] := by decide
    rw [this] at q
    change c :: (l ++ _) = _ at q
    have := (List.cons.inj q).1
    omega
theorem dsT_ne {d : List (List Nat)} (h : d ≠ []) : dsT d ≠ w "none" := by
  unfold dsT
  rw [if_neg h]
  intro q
  have h1 : 110 ∈ jW 47 (d.map dT) := by rw [q]; decide
  exact no_jW (b := 110) (c := 47) (by decide) (l := d.map dT) (fun x hx => by
    obtain ⟨k, _, rfl⟩ := List.mem_map.mp hx
    exact no_dT (by decide) (by decide) (by decide)) h1
theorem dT_spl {d : List Nat} (h : d ≠ []) {n : Nat} (hn : d.length ≤ n + 1) : spl 44 n (dT d) = d.map nT := by
  unfold dT
  rw [if_neg h]
  exact jW_spl (by simpa using h) (by simpa using hn) fun x hx => by
    obtain ⟨k, _, rfl⟩ := List.mem_map.mp hx
    exact no_nT (by decide)
theorem dsT_spl {d : List (List Nat)} (h : d ≠ []) {n : Nat} (hn : d.length ≤ n + 1) : spl 47 n (dsT d) = d.map dT := by
  unfold dsT
  rw [if_neg h]
  exact jW_spl (by simpa using h) (by simpa using hn) fun x hx => by
    obtain ⟨k, _, rfl⟩ := List.mem_map.mp hx
    exact no_dT (by decide) (by decide) (by decide)
theorem jW_ge {c : Nat} : ∀ {l : List (List Nat)}, l ≠ [] → l.length ≤ (jW c l).length + 1
  | [], h => absurd rfl h
  | p :: r, _ => by
    unfold jW
    rw [List.length_append, List.length_flatMap, List.length_cons]
    have : ∀ r : List (List Nat), r.length ≤ (r.map fun q => (c :: q).length).sum := fun r => by
      induction r with
      | nil => simp
      | cons q r ih => rw [List.map_cons, List.sum_cons, List.length_cons, List.length_cons]; omega
    have := this r
    omega
end K81
namespace K81
open PySem L2
def top (i : Nat) : Stmt := PySem.Challenge.pw_roadnet_k81_nets_written_and_read.main.body.getD i (.Pass ⟨0, 0, 0, 0⟩)
section
variable {P : Program} {w : World} {K : PySem.W.Frag} {mg : Str → Option Value} {base : Heap} {C : Addr}
abbrev at_Measures : List Str := ["hands", "lag", "miss", "raise_each", "count", "room", "places", "window", "wait", "keep"]
def fs_Measures (a0 a1 a2 a3 a4 a5 a6 a7 a8 a9 : V) : List (Str × V) := [("hands", a0), ("lag", a1), ("miss", a2), ("raise_each", a3), ("count", a4), ("room", a5), ("places", a6), ("window", a7), ("wait", a8), ("keep", a9)]
section
variable {a0 a1 a2 a3 a4 a5 a6 a7 a8 a9 : V}
theorem fs_Measures_hands : (fs_Measures a0 a1 a2 a3 a4 a5 a6 a7 a8 a9).lookup ("hands" : Str) = some a0 := rfl
theorem fs_Measures_lag : (fs_Measures a0 a1 a2 a3 a4 a5 a6 a7 a8 a9).lookup ("lag" : Str) = some a1 := rfl
theorem fs_Measures_miss : (fs_Measures a0 a1 a2 a3 a4 a5 a6 a7 a8 a9).lookup ("miss" : Str) = some a2 := rfl
theorem fs_Measures_raise_each : (fs_Measures a0 a1 a2 a3 a4 a5 a6 a7 a8 a9).lookup ("raise_each" : Str) = some a3 := rfl
theorem fs_Measures_count : (fs_Measures a0 a1 a2 a3 a4 a5 a6 a7 a8 a9).lookup ("count" : Str) = some a4 := rfl
theorem fs_Measures_room : (fs_Measures a0 a1 a2 a3 a4 a5 a6 a7 a8 a9).lookup ("room" : Str) = some a5 := rfl
theorem fs_Measures_places : (fs_Measures a0 a1 a2 a3 a4 a5 a6 a7 a8 a9).lookup ("places" : Str) = some a6 := rfl
theorem fs_Measures_window : (fs_Measures a0 a1 a2 a3 a4 a5 a6 a7 a8 a9).lookup ("window" : Str) = some a7 := rfl
theorem fs_Measures_wait : (fs_Measures a0 a1 a2 a3 a4 a5 a6 a7 a8 a9).lookup ("wait" : Str) = some a8 := rfl
theorem fs_Measures_keep : (fs_Measures a0 a1 a2 a3 a4 a5 a6 a7 a8 a9).lookup ("keep" : Str) = some a9 := rfl
theorem fn_Measures_numbers : (fs_Measures a0 a1 a2 a3 a4 a5 a6 a7 a8 a9).lookup ("numbers" : Str) = none := rfl
theorem fq_Measures_0 {v : V} : putF "hands" v ([] : List (Str × V)) = ([("hands", v)] : List (Str × V)) := by with_unfolding_all rfl
theorem fq_Measures_1 {v : V} : putF "lag" v ([("hands", a0)] : List (Str × V)) = ([("hands", a0), ("lag", v)] : List (Str × V)) := by with_unfolding_all rfl
theorem fq_Measures_2 {v : V} : putF "miss" v ([("hands", a0), ("lag", a1)] : List (Str × V)) = ([("hands", a0), ("lag", a1), ("miss", v)] : List (Str × V)) := by with_unfolding_all rfl
theorem fq_Measures_3 {v : V} : putF "raise_each" v ([("hands", a0), ("lag", a1), ("miss", a2)] : List (Str × V)) = ([("hands", a0), ("lag", a1), ("miss", a2), ("raise_each", v)] : List (Str × V)) := by with_unfolding_all rfl
theorem fq_Measures_4 {v : V} : putF "count" v ([("hands", a0), ("lag", a1), ("miss", a2), ("raise_each", a3)] : List (Str × V)) = ([("hands", a0), ("lag", a1), ("miss", a2), ("raise_each", a3), ("count", v)] : List (Str × V)) := by with_unfolding_all rfl
theorem fq_Measures_5 {v : V} : putF "room" v ([("hands", a0), ("lag", a1), ("miss", a2), ("raise_each", a3), ("count", a4)] : List (Str × V)) = ([("hands", a0), ("lag", a1), ("miss", a2), ("raise_each", a3), ("count", a4), ("room", v)] : List (Str × V)) := by with_unfolding_all rfl
theorem fq_Measures_6 {v : V} : putF "places" v ([("hands", a0), ("lag", a1), ("miss", a2), ("raise_each", a3), ("count", a4), ("room", a5)] : List (Str × V)) = ([("hands", a0), ("lag", a1), ("miss", a2), ("raise_each", a3), ("count", a4), ("room", a5), ("places", v)] : List (Str × V)) := by with_unfolding_all rfl
theorem fq_Measures_7 {v : V} : putF "window" v ([("hands", a0), ("lag", a1), ("miss", a2), ("raise_each", a3), ("count", a4), ("room", a5), ("places", a6)] : List (Str × V)) = ([("hands", a0), ("lag", a1), ("miss", a2), ("raise_each", a3), ("count", a4), ("room", a5), ("places", a6), ("window", v)] : List (Str × V)) := by with_unfolding_all rfl
theorem fq_Measures_8 {v : V} : putF "wait" v ([("hands", a0), ("lag", a1), ("miss", a2), ("raise_each", a3), ("count", a4), ("room", a5), ("places", a6), ("window", a7)] : List (Str × V)) = ([("hands", a0), ("lag", a1), ("miss", a2), ("raise_each", a3), ("count", a4), ("room", a5), ("places", a6), ("window", a7), ("wait", v)] : List (Str × V)) := by with_unfolding_all rfl
theorem fq_Measures_9 {v : V} : putF "keep" v ([("hands", a0), ("lag", a1), ("miss", a2), ("raise_each", a3), ("count", a4), ("room", a5), ("places", a6), ("window", a7), ("wait", a8)] : List (Str × V)) = fs_Measures a0 a1 a2 a3 a4 a5 a6 a7 a8 v := by with_unfolding_all rfl
end
abbrev s_is_whole : Stmt := top 5
theorem sc_is_whole : FnScope ["thing"] ["thing"] (defScope s_is_whole) := ⟨rfl, rfl, rfl, by decide +kernel, rfl, by decide +kernel, by decide +kernel⟩
abbrev s_is_within : Stmt := top 6
theorem sc_is_within : FnScope ["thing", "least", "most"] ["thing", "least", "most"] (defScope s_is_within) := ⟨rfl, rfl, rfl, by decide +kernel, rfl, by decide +kernel, by decide +kernel⟩
abbrev s_refuse_bad_measures : Stmt := top 10
theorem sc_refuse_bad_measures : FnScope ["numbers", "number", "bound", "name", "least", "most"] ["numbers"] (defScope s_refuse_bad_measures) := ⟨rfl, rfl, rfl, by decide +kernel, rfl, by decide +kernel, by decide +kernel⟩
abbrev s_Measures___init__ : Stmt := inClass (top 11) 0
theorem sc_Measures___init__ : FnScope ["self", "hands", "lag", "miss", "raise_each", "count", "room", "places", "window", "wait", "keep"] ["self", "hands", "lag", "miss", "raise_each", "count", "room", "places", "window", "wait", "keep"] (defScope s_Measures___init__) := ⟨rfl, rfl, rfl, by decide +kernel, rfl, by decide +kernel, by decide +kernel⟩
abbrev s_Measures_numbers : Stmt := inClass (top 11) 1
theorem sc_Measures_numbers : FnScope ["self"] ["self"] (defScope s_Measures_numbers) := ⟨rfl, rfl, rfl, by decide +kernel, rfl, by decide +kernel, by decide +kernel⟩
def sp_whole : Sp := fun vs H Q _ => ∃ i : Int, vs = [.int i] ∧ Q (.bl true) H
theorem own_whole (D : Def K mg "is_whole" s_is_whole) (hb : Blt mg) : Own P w K mg base 1 "is_whole" ["thing"] sp_whole := by
  refine D.own sc_is_whole (fun _ _ _ _ _ _ us hl => match us, hl with | [_], _ => rfl) (fun vs H Q E h => ?_) (fun f cdv A outer s H vs Q E hr h => ?_)
  · obtain ⟨i, rfl, _⟩ := h
    rfl
  · obtain ⟨i, rfl, q⟩ := h
    refine ⟨_, (pss_one (ps_ret (pe_and (pe_callB call_isiX rfl (hb _ (by decide)) bt_isinstance (pa_cX (pv 0) (pa_cX (pe_bltn (v:=(.ty "int")) rfl (hb _ (by decide)) bt_int rfl) pa_nil))) (pe_one (pe_not (pe_callB call_isiX rfl (hb _ (by decide)) bt_isinstance (pa_cX (pv 0) (pa_cX (pe_bltn (v:=(.ty "bool")) rfl (hb _ (by decide)) bt_bool rfl) pa_nil)))))))), ?_⟩
    simp (maxSteps := 1000000) only [rIsIX, tyX_i, V.ty.injEq, kT_inin, kT_inbo, Nat.reduceSub, Nat.reduceAdd, V.ty.injEq, Bool.not_false, List.cons.injEq, exists_and_left, if_true, tVar, tC, tRet, tAndV, tNotV, tCons, tNil, tCB, L2.start, List.map_cons, List.map_nil, List.length_cons, List.length_nil, List.replicate, List.getElem?_cons_zero, Option.some.injEq, exists_eq_left', V.bl.injEq, and_true, and_assoc, List.append_nil]
    exact q
def sp_within : Sp := fun vs H Q _ => ∃ i a b : Int, vs = [.int i, .int a, .int b] ∧ a ≤ i ∧ i ≤ b ∧ Q (.bl true) H
theorem own_within (D : Def K mg "is_within" s_is_within) (F_is_whole : Own P w K mg base 1 "is_whole" ["thing"] sp_whole) : Own P w K mg base 2 "is_within" ["thing", "least", "most"] sp_within := by
  refine D.own sc_is_within (fun _ _ _ _ _ _ us hl => match us, hl with | [_, _, _], _ => rfl) (fun vs H Q E h => ?_) (fun f cdv A outer s H vs Q E hr h => ?_)
  · obtain ⟨i, a, b, rfl, _⟩ := h
    rfl
  · obtain ⟨i, a, b, rfl, h1, h2, q⟩ := h
    refine ⟨_, (pss_one (ps_ret (pe_and (pe_fn F_is_whole hr (pa_cX (pv 0) pa_nil)) (pe_one (pe_chain op_le op_le (pv 1) (pv 0) (pv 2)))))), ?_⟩
    simp (maxSteps := 1000000) only [Nat.reduceSub, Nat.reduceAdd, List.cons.injEq, exists_and_left, if_true, tVar, rI0, tRet, tAndV, tCall, tCons, tNil, tChain, L2.start, List.map_cons, List.map_nil, List.length_cons, List.length_nil, List.replicate, List.getElem?_cons_zero, List.getElem?_cons_succ, Option.some.injEq, exists_eq_left', V.int.injEq, V.bl.injEq, and_true, List.append_nil, sp_whole]
    rw [decide_eq_true h1, decide_eq_true h2]
    exact iteT q
def bds : List (String × Int × Int) := [("hands", 2, 12), ("lag", 1, 32), ("miss", 1, 400), ("raise", 1, 1000), ("count", 0, 60), ("room", 1, 16), ("places", 1, 16), ("window", 1, 60), ("wait", 1, 10000), ("keep", 0, 10000)]
structure BdAt (K : PySem.W.Frag) (mg : Str → Option Value) (a : Addr) (bs : List Addr) : Prop where
  g : ∃ u, mg "BOUNDS" = some u ∧ RelV (.ref a) u
  t : ∀ H, SqT K H a (bs.map V.ref)
  e : ∀ (i : Nat) b (q : String × Int × Int), bs[i]? = some b → bds[i]? = some q → ∀ H, SqT K H b [.str (Str.ofString q.1), .int q.2.1, .int q.2.2]
  l : bs.length = 10
def inB (ns : List Int) : Prop := ns.length = 10 ∧ ∀ (i : Nat) n (q : String × Int × Int), ns[i]? = some n → bds[i]? = some q → q.2.1 ≤ n ∧ n ≤ q.2.2
def sp_rbm : Sp := fun vs H Q _ => ∃ (p : Addr) (ns : List Int), vs = [.ref p] ∧ H p = some (.lst (ns.map V.int)) ∧ inB ns ∧ ∀ H', Same H H' → Q .non H'
theorem own_rbm {a : Addr} {bs : List Addr} (D : Def K mg "refuse_bad_measures" s_refuse_bad_measures) (hb : Blt mg) (hzip : mg "zip" = none) (B : BdAt K mg a bs) (F_is_within : Own P w K mg base 2 "is_within" ["thing", "least", "most"] sp_within) : Own P w K mg base 3 "refuse_bad_measures" ["numbers"] sp_rbm := by
  have g_BOUNDS := B.g
  refine D.own sc_refuse_bad_measures (fun _ _ _ _ _ _ us hl => match us, hl with | [_], _ => rfl) (fun vs H Q E h => ?_) (fun f cdv A outer s H vs Q E hr h => ?_)
  · obtain ⟨p, ns, rfl, _⟩ := h
    rfl
  · obtain ⟨p, ns, rfl, ep, hi, q⟩ := h
    have hu := hr.units
    have hu1 : (A.deeper (PyProof.Rows.envOfC "refuse_bad_measures" (defScope s_refuse_bad_measures) s.heap.objs.size f cdv)).units + 1 < cLine := by omega
    refine ⟨_, (pss_one (ps_for PassesOwn.never rfl (pi_zip K rfl hzip (pa_cX (pv 0) (pa_cX (pe_glb g_BOUNDS) pa_nil))) (pg_seqX (n:=2) rfl (pgs_cons (pg_name (i:=1) sc_refuse_bad_measures.nd rfl (by first | exact Or.inl rfl | exact Or.inr rfl)) (pgs_cons (pg_name (i:=2) sc_refuse_bad_measures.nd rfl (by first | exact Or.inl rfl | exact Or.inr rfl)) pgs_nil))) (pss_cons (ps_set (i:=3) sc_refuse_bad_measures.nd rfl (by first | exact Or.inl rfl | exact Or.inr rfl) (pe_ix (ix_tupK K) (pv 2) pe_int (fun _ _ => rfl))) (pss_cons (ps_set (i:=4) sc_refuse_bad_measures.nd rfl (by first | exact Or.inl rfl | exact Or.inr rfl) (pe_ix (ix_tupK K) (pv 2) pe_int (fun _ _ => rfl))) (pss_cons (ps_set (i:=5) sc_refuse_bad_measures.nd rfl (by first | exact Or.inl rfl | exact Or.inr rfl) (pe_ix (ix_tupK K) (pv 2) pe_int (fun _ _ => rfl))) (pss_one (ps_if (pt_not (pt_truX (pe_fn F_is_within hr (pa_cX (pv 1) (pa_cX (pv 4) (pa_cX (pv 5) pa_nil)))))) (pss_one ps_never) pss_nil))))))), ?_⟩
    simp (maxSteps := 1000000) only [tFor_eq, Nat.reduceSub, Nat.reduceAdd, List.cons.injEq, exists_and_left, tVar, tC, tCons, tNil, L2.start, List.map_cons, List.map_nil, List.length_cons, List.length_nil, List.replicate, List.cons_append, List.nil_append, List.getElem?_cons_zero, Option.some.injEq, exists_eq_left', V.ref.injEq, and_true, and_assoc, iZip]
    refine ⟨⟨_, SqL.of ep⟩, ⟨_, B.t H⟩, for_zip (xs := ns.map V.int) (ys := bs.map V.ref) (by rw [List.length_map, List.length_map, hi.1, B.l]; exact Nat.le_refl _) (fun i σ H' => Same H H' ∧ ∃ v1 v2 v3 v4 v5, σ = [some (.ref p), v1, v2, v3, v4, v5]) ⟨.refl _, _, _, _, _, _, rfl⟩ ?_ ?_ ?_⟩
    · rintro i σ H' _ ⟨s', _⟩
      exact ⟨SqL.of (s' _ _ ep), B.t H'⟩
    · rintro i x y pp σ H' hx hy np ⟨s', v1, v2, v3, v4, v5, rfl⟩
      rw [List.getElem?_map] at hx hy
      obtain ⟨n, hn, rfl⟩ := Option.map_eq_some_iff.mp hx
      obtain ⟨b, hb', rfl⟩ := Option.map_eq_some_iff.mp hy
      have hi10 : i < bds.length := by
        have := (List.getElem?_eq_some_iff.mp hn).1
        have h10 : bds.length = 10 := rfl
        rw [hi.1] at this
        omega
      have hq : bds[i]? = some bds[i] := List.getElem?_eq_getElem hi10
      have hin := hi.2 i n _ hn hq
      have hbt := B.e i b _ hb' hq
      have epp : upd H' pp (.tup [.int n, .ref b]) pp = some (.tup [.int n, .ref b]) := upd_same
      have s2 : Same H (upd H' pp (.tup [.int n, .ref b])) := s'.upd (s'.free np)
      generalize upd H' pp (.tup [.int n, .ref b]) = H2 at epp s2 ⊢
      simp (maxSteps := 1000000) only [gSeqX, tTruX, seqO_t, gCons, gNil, Nat.reduceAdd, tNever, exists_eq', rIxT, List.cons.injEq, tSeq, exists_and_left, tIfS, tNot, tOp, tVar, tC, tAsg, gName, tNext, tCall, tCons, tNil, List.length_cons, List.length_nil, List.getElem?_cons_zero, List.getElem?_cons_succ, List.set_cons_zero, List.set_cons_succ, Option.some.injEq, exists_eq_left', V.int.injEq, V.ref.injEq, and_true, true_and, and_assoc, List.append_nil, epp]
      exact ⟨_, hbt H2, _, rfl, _, hbt H2, _, rfl, _, hbt H2, _, rfl, n, _, _, rfl, hin.1, hin.2, true, rfl, by simpa using s2⟩
    · rintro σ H' ⟨s', _⟩
      exact q _ s'
structure Ms where
  hands : Int
  lag : Int
  miss : Int
  each : Int
  count : Int
  room : Int
  places : Int
  window : Int
  wait : Int
  keep : Int
def Ms.l (m : Ms) : List Int := [m.hands, m.lag, m.miss, m.each, m.count, m.room, m.places, m.window, m.wait, m.keep]
abbrev fsM (m : Ms) : List (Str × V) := fs_Measures (.int m.hands) (.int m.lag) (.int m.miss) (.int m.each) (.int m.count) (.int m.room) (.int m.places) (.int m.window) (.int m.wait) (.int m.keep)
def sp_minit (C : Addr) : Sp := fun vs H Q _ => ∃ (x dx : Addr) (m : Ms), vs = [.ref x, .int m.hands, .int m.lag, .int m.miss, .int m.each, .int m.count, .int m.room, .int m.places, .int m.window, .int m.wait, .int m.keep] ∧ H x = some (.ins C dx []) ∧ inB m.l ∧ ∀ H', H' x = some (.ins C dx (fsM m)) → Keep [x] H H' → Q .non H'
theorem cons_of {α : Type} {us : List α} {n : Nat} (h : us.length = n + 1) : ∃ a r, us = a :: r ∧ r.length = n := by
  cases us with
  | nil => cases h
  | cons a r => exact ⟨a, r, rfl, Nat.succ.inj h⟩
abbrev mσ (x : Addr) (a0 a1 a2 a3 a4 a5 a6 a7 a8 a9 : Int) : St := [some (.ref x), some (.int a0), some (.int a1), some (.int a2), some (.int a3), some (.int a4), some (.int a5), some (.int a6), some (.int a7), some (.int a8), some (.int a9)]
set_option maxHeartbeats 8000000 in
theorem own_minit (D : DefI K C "Measures.__init__" s_Measures___init__) (T_Measures : ClsD K mg "Measures" C at_Measures) (F_refuse_bad_measures : Own P w K mg base 3 "refuse_bad_measures" ["numbers"] sp_rbm) : OwnI P w K mg base 4 C ["self", "hands", "lag", "miss", "raise_each", "count", "room", "places", "window", "wait", "keep"] (sp_minit C) := by
  refine D.own sc_Measures___init__ (fun _ _ _ _ _ _ us hl => by
    obtain ⟨b0, u0, rfl, h0⟩ := cons_of hl
    obtain ⟨b1, u1, rfl, h1⟩ := cons_of h0
    obtain ⟨b2, u2, rfl, h2⟩ := cons_of h1
    obtain ⟨b3, u3, rfl, h3⟩ := cons_of h2
    obtain ⟨b4, u4, rfl, h4⟩ := cons_of h3
    obtain ⟨b5, u5, rfl, h5⟩ := cons_of h4
    obtain ⟨b6, u6, rfl, h6⟩ := cons_of h5
    obtain ⟨b7, u7, rfl, h7⟩ := cons_of h6
    obtain ⟨b8, u8, rfl, h8⟩ := cons_of h7
    obtain ⟨b9, u9, rfl, h9⟩ := cons_of h8
    obtain ⟨b10, u10, rfl, h10⟩ := cons_of h9
    obtain rfl := List.length_eq_zero_iff.mp h10
    rfl) (fun vs H Q E h => ?_) (fun f cdv A outer s H vs Q E hr h => ?_)
  · obtain ⟨x, dx, m, rfl, _⟩ := h
    rfl
  · obtain ⟨x, dx, m, rfl, e, hi, q⟩ := h
    refine ⟨_, (pss_cons (ps_expr (pe_fn F_refuse_bad_measures hr (pa_cX (pe_lst (pa_cX (pv 1) (pa_cX (pv 2) (pa_cX (pv 3) (pa_cX (pv 4) (pa_cX (pv 5) (pa_cX (pv 6) (pa_cX (pv 7) (pa_cX (pv 8) (pa_cX (pv 9) (pa_cX (pv 10) pa_nil))))))))))) pa_nil))) (pss_cons (ps_fld (pv 0) (pv 1) rfl) (pss_cons (ps_fld (pv 0) (pv 2) rfl) (pss_cons (ps_fld (pv 0) (pv 3) rfl) (pss_cons (ps_fld (pv 0) (pv 4) rfl) (pss_cons (ps_fld (pv 0) (pv 5) rfl) (pss_cons (ps_fld (pv 0) (pv 6) rfl) (pss_cons (ps_fld (pv 0) (pv 7) rfl) (pss_cons (ps_fld (pv 0) (pv 8) rfl) (pss_cons (ps_fld (pv 0) (pv 9) rfl) (pss_one (ps_fld (pv 0) (pv 10) rfl)))))))))))), ?_⟩
    obtain ⟨a0, a1, a2, a3, a4, a5, a6, a7, a8, a9⟩ := m
    dsimp only at hi q ⊢
    refine use1 (fun σ H' => σ = mσ x a0 a1 a2 a3 a4 a5 a6 a7 a8 a9 ∧ Same H H') ?_ (fun X hX => ?_)
    rotate_left
    · simp (maxSteps := 1000000) only [Nat.reduceSub, Nat.reduceAdd, tSeq, tVar, tCall, tCons, tNil, tDrop, tLst, L2.start, List.map_cons, List.map_nil, List.length_cons, List.length_nil, List.replicate, List.getElem?_cons_zero, List.getElem?_cons_succ, Option.some.injEq, exists_eq_left', List.append_nil]
      refine ⟨by rw [sizeLine_eq]; decide, ?_⟩
      intro p1 n1
      generalize z1 : upd H p1 _ = H1
      obtain ⟨s1, e1⟩ := new_same z1 n1
      exact ⟨p1, [a0, a1, a2, a3, a4, a5, a6, a7, a8, a9], rfl, e1, hi, fun H2 s2 => hX _ _ ⟨rfl, s1.trans s2⟩⟩
    rintro σ H1 ⟨rfl, s1⟩
    have e1 := s1 _ _ e
    have k1 : Keep [x] H H1 := s1.keep
    clear s1 e
    refine use3 (fun σ H' => σ = mσ x a0 a1 a2 a3 a4 a5 a6 a7 a8 a9 ∧ H' x = some (.ins C dx [(Str.ofString "hands", V.int a0), (Str.ofString "lag", V.int a1), (Str.ofString "miss", V.int a2)]) ∧ Keep [x] H H') ?_ (fun X hX => ?_)
    rotate_left
    · simp (maxSteps := 1000000) only [upd_same, upd_upd, Nat.reduceLT, HO.ins.injEq, Nat.reduceAdd, sFld, cxOf_K, tSeq, exists_and_left, tVar, List.length_cons, List.length_nil, List.getElem?_cons_zero, List.getElem?_cons_succ, Option.some.injEq, exists_eq_left', V.ref.injEq, true_and, and_assoc, e1, T_Measures.cl, T_Measures.no "hands" (by decide), T_Measures.no "lag" (by decide), T_Measures.no "miss" (by decide), fq_Measures_0, fq_Measures_1, fq_Measures_2, upd_same, upd_upd]
      exact hX _ _ ⟨rfl, upd_same, k1.upd (.inl (.head _))⟩
    clear e1 k1
    rintro σ H1 ⟨rfl, e1, k1⟩
    refine use3 (fun σ H' => σ = mσ x a0 a1 a2 a3 a4 a5 a6 a7 a8 a9 ∧ H' x = some (.ins C dx [(Str.ofString "hands", V.int a0), (Str.ofString "lag", V.int a1), (Str.ofString "miss", V.int a2), (Str.ofString "raise_each", V.int a3), (Str.ofString "count", V.int a4), (Str.ofString "room", V.int a5)]) ∧ Keep [x] H H') ?_ (fun X hX => ?_)
    rotate_left
    · simp (maxSteps := 1000000) only [upd_same, upd_upd, Nat.reduceLT, HO.ins.injEq, Nat.reduceAdd, sFld, cxOf_K, tSeq, exists_and_left, tVar, List.length_cons, List.length_nil, List.getElem?_cons_zero, List.getElem?_cons_succ, Option.some.injEq, exists_eq_left', V.ref.injEq, true_and, and_assoc, e1, T_Measures.cl, T_Measures.no "raise_each" (by decide), T_Measures.no "count" (by decide), T_Measures.no "room" (by decide), fq_Measures_3, fq_Measures_4, fq_Measures_5, upd_same, upd_upd]
      exact hX _ _ ⟨rfl, upd_same, k1.upd (.inl (.head _))⟩
    clear e1 k1
    rintro σ H1 ⟨rfl, e1, k1⟩
    simp (maxSteps := 1000000) only [upd_same, upd_upd, Nat.reduceLT, HO.ins.injEq, Nat.reduceAdd, sFld, cxOf_K, tSeq, exists_and_left, tVar, List.length_cons, List.length_nil, List.getElem?_cons_zero, List.getElem?_cons_succ, Option.some.injEq, exists_eq_left', V.ref.injEq, true_and, and_assoc, e1, T_Measures.cl, T_Measures.no "places" (by decide), T_Measures.no "window" (by decide), T_Measures.no "wait" (by decide), T_Measures.no "keep" (by decide), fq_Measures_6, fq_Measures_7, fq_Measures_8, fq_Measures_9, upd_same, upd_upd]
    exact q _ upd_same (k1.upd (.inl (.head _)))
def sp_mnum (C : Addr) : Sp := fun vs H Q _ => ∃ (x dx : Addr) (m : Ms), vs = [.ref x] ∧ H x = some (.ins C dx (fsM m)) ∧ ∀ p H', H p = none → H' p = some (.lst (m.l.map V.int)) → Same H H' → Q (.ref p) H'
theorem own_mnum (D : DefM K C "numbers" "Measures.numbers" s_Measures_numbers) (T_Measures : ClsD K mg "Measures" C at_Measures) : OwnM P w K mg base 1 C "numbers" ["self"] (sp_mnum C) := by
  refine D.own sc_Measures_numbers (fun _ _ _ _ _ _ us hl => match us, hl with | [_], _ => rfl) (fun vs H Q E h => ?_) (fun f cdv A outer s H vs Q E hr h => ?_)
  · obtain ⟨x, dx, m, rfl, _⟩ := h
    rfl
  · obtain ⟨x, dx, m, rfl, e, q⟩ := h
    refine ⟨_, (pss_one (ps_ret (pe_lst (pa_cX (pe_fldK K (pv 0)) (pa_cX (pe_fldK K (pv 0)) (pa_cX (pe_fldK K (pv 0)) (pa_cX (pe_fldK K (pv 0)) (pa_cX (pe_fldK K (pv 0)) (pa_cX (pe_fldK K (pv 0)) (pa_cX (pe_fldK K (pv 0)) (pa_cX (pe_fldK K (pv 0)) (pa_cX (pe_fldK K (pv 0)) (pa_cX (pe_fldK K (pv 0)) pa_nil))))))))))))), ?_⟩
    simp (maxSteps := 1000000) only [Nat.reduceSub, HO.ins.injEq, Nat.reduceAdd, tFld, exists_and_left, tVar, tRet, tCons, tNil, tLst, L2.start, List.map_cons, List.map_nil, List.length_cons, List.length_nil, List.replicate, List.getElem?_cons_zero, Option.some.injEq, exists_eq_left', V.ref.injEq, true_and, and_assoc, List.append_nil, e, T_Measures.cl, T_Measures.no "hands" (by decide), T_Measures.no "lag" (by decide), T_Measures.no "miss" (by decide), T_Measures.no "raise_each" (by decide), T_Measures.no "count" (by decide), T_Measures.no "room" (by decide), T_Measures.no "places" (by decide), T_Measures.no "window" (by decide), T_Measures.no "wait" (by decide), T_Measures.no "keep" (by decide), fs_Measures_hands, fs_Measures_lag, fs_Measures_miss, fs_Measures_raise_each, fs_Measures_count, fs_Measures_room, fs_Measures_places, fs_Measures_window, fs_Measures_wait, fs_Measures_keep]
    refine ⟨by rw [sizeLine_eq]; decide, fun p hp => q p _ hp ?_ (.upd_new hp)⟩
    exact upd_same
end
end K81
namespace K81
open PySem L2
def rAddS : R2 := fun x y H Q => ∃ a b : List Nat, x = .str (Sg a) ∧ y = .str (Sg b) ∧ a.length + b.length ≤ 100000 ∧ Q (.str (Sg (a ++ b))) H
theorem op_addS {X : Cx} : OpR X (binaryOp .Add) rAddS := op_add_str.weak fun _ _ _ _ ⟨a, b, h1, h2, hl, q⟩ => ⟨Sg a, Sg b, h1, h2, by rw [Sg_len, Sg_len, sizeLine_eq]; omega, by rw [S_app]; exact q⟩
theorem log13 {n : Nat} (h : n ≤ 10 ^ 13) : ((n : Int)).natAbs.log2 < 1920 := by
  rw [Int.natAbs_natCast]
  have h1 : n < 2 ^ 44 := Nat.lt_of_le_of_lt h (by decide)
  by_cases z : n = 0
  · subst z; decide
  · have := (Nat.log2_lt z).mpr h1
    omega
def rStrS : List V → Hp → VK → Prop := fun xs H Q => (∃ n : Nat, xs = [.int (n : Int)] ∧ n ≤ 10 ^ 13 ∧ Q (.str (Sg (nT n))) H) ∨ (∃ z : List Nat, xs = [.str (Sg z)] ∧ Q (.str (Sg z)) H) ∨ (xs = [.non] ∧ Q (.str (Sg (w "None"))) H)
theorem call_strS {X : Cx} : CallR X (.type "str") rStrS := fun pins s σ H xs us Q I r h => call_strV pins s σ H xs us Q I r (by
  rcases h with ⟨n, e, hn, q⟩ | ⟨z, e, q⟩ | ⟨e, q⟩
  · exact .inl ⟨n, e, log13 hn, by have := S_num n; rw [← this] at q; exact q⟩
  · exact .inr (.inl ⟨_, e, q⟩)
  · exact .inr (.inr ⟨e, by rw [S_of]; exact q⟩))
theorem nat_eq {a b : Nat} : ((a : Int) = (b : Int)) = (a = b) := propext ⟨fun h => by omega, fun h => by rw [h]⟩
def onV : Option Nat → V
  | none => .non
  | some n => .int (n : Int)
def niV (n : Nat) : V := .int (n : Int)
def RD (N : Addr → Prop) (H : Hp) (d : List Nat) (v : V) : Prop := ∃ t, v = .ref t ∧ N t ∧ H t = some (.tup (d.map niV))
def RF (N : Addr → Prop) (H : Hp) : Fld → V → Prop
  | .n k, v => v = niV k
  | .o p, v => v = onV p
  | .ds d, v => ∃ q us, v = .ref q ∧ N q ∧ H q = some (.lst us) ∧ Paired (RD N H) d us
  | .nm s, v => v = .str (Sg s)
  | .sg s, v => v = .str (Sg s)
section
variable {N N' : Addr → Prop} {H H' : Hp} {A : List Addr}
theorem RD.keep (k : Keep A H H') (hA : ∀ b ∈ A, ¬ N b) {d : List Nat} {v : V} (h : RD N H d v) : RD N H' d v := by
  obtain ⟨t, e, n, h⟩ := h
  exact ⟨t, e, n, k _ _ h fun z => hA _ z n⟩
theorem RD.mono (m : ∀ a, N a → N' a) {d : List Nat} {v : V} (h : RD N H d v) : RD N' H d v := by
  obtain ⟨t, e, n, h⟩ := h
  exact ⟨t, e, m _ n, h⟩
theorem RF.keep (k : Keep A H H') (hA : ∀ b ∈ A, ¬ N b) : ∀ {f : Fld} {v : V}, RF N H f v → RF N H' f v
  | .n _, _, h => h
  | .o _, _, h => h
  | .ds _, _, ⟨q, us, e, n, h, p⟩ => ⟨q, us, e, n, k _ _ h fun z => hA _ z n, paired_imp (fun _ _ x => x.keep k hA) p⟩
  | .nm _, _, h => h
  | .sg _, _, h => h
theorem RF.mono (m : ∀ a, N a → N' a) : ∀ {f : Fld} {v : V}, RF N H f v → RF N' H f v
  | .n _, _, h => h
  | .o _, _, h => h
  | .ds _, _, ⟨q, us, e, n, h, p⟩ => ⟨q, us, e, m _ n, h, paired_imp (fun _ _ x => x.mono m) p⟩
  | .nm _, _, h => h
  | .sg _, _, h => h
theorem RD.same (s : Same H H') {d : List Nat} {v : V} (h : RD N H d v) : RD N H' d v := h.keep (A := []) s.keep (fun _ z => nomatch z)
theorem RF.same (s : Same H H') {f : Fld} {v : V} (h : RF N H f v) : RF N H' f v := h.keep (A := []) s.keep (fun _ z => nomatch z)
end
def isN : Fld → Prop
  | .n _ => True
  | .o _ => True
  | _ => False
theorem isN.eq : ∀ {f : Fld}, isN f → f.Ok → ∃ o : Option Nat, fT f = oT o ∧ okO o ∧ ∀ {N H v}, RF N H f v → v = onV o
  | .n k, _, h => ⟨some k, rfl, (fun _ e => by cases e; exact h), fun h => h⟩
  | .o p, _, h => ⟨p, rfl, h, fun h => h⟩
section
variable {P : Program} {w : World} {K : PySem.W.Frag} {mg : Str → Option Value} {base : Heap} {C : Addr}
abbrev s_number_text : Stmt := top 21
theorem sc_number_text : FnScope ["number"] ["number"] (defScope s_number_text) := ⟨rfl, rfl, rfl, by decide +kernel, rfl, by decide +kernel, by decide +kernel⟩
abbrev s_numbers_text : Stmt := top 22
theorem sc_numbers_text : FnScope ["numbers"] ["numbers"] (defScope s_numbers_text) := ⟨rfl, rfl, rfl, by decide +kernel, rfl, by decide +kernel, by decide +kernel⟩
theorem cs_numbers_text_0 : CScope ["number"] [] { kind := .function, names := [(".0", .local), ("number", .local), ("number_text", .globalImplicit)], isGenerator := false, isCoroutine := false, more := [] } (defScope s_numbers_text) := ⟨rfl, by decide +kernel, by decide +kernel, by decide +kernel, by decide +kernel, by decide +kernel⟩
abbrev s_wish_text : Stmt := top 23
theorem sc_wish_text : FnScope ["word", "what", "goal", "text"] ["word", "what"] (defScope s_wish_text) := ⟨rfl, rfl, rfl, by decide +kernel, rfl, by decide +kernel, by decide +kernel⟩
abbrev s_deed_text : Stmt := top 24
theorem sc_deed_text : FnScope ["deed"] ["deed"] (defScope s_deed_text) := ⟨rfl, rfl, rfl, by decide +kernel, rfl, by decide +kernel, by decide +kernel⟩
theorem cs_deed_text_0 : CScope ["delay"] [] { kind := .function, names := [(".0", .local), ("delay", .local), ("str", .globalImplicit)], isGenerator := false, isCoroutine := false, more := [] } (defScope s_deed_text) := ⟨rfl, by decide +kernel, by decide +kernel, by decide +kernel, by decide +kernel, by decide +kernel⟩
abbrev s_deeds_text : Stmt := top 25
theorem sc_deeds_text : FnScope ["deeds"] ["deeds"] (defScope s_deeds_text) := ⟨rfl, rfl, rfl, by decide +kernel, rfl, by decide +kernel, by decide +kernel⟩
theorem cs_deeds_text_0 : CScope ["deed"] [] { kind := .function, names := [(".0", .local), ("deed", .local), ("deed_text", .globalImplicit)], isGenerator := false, isCoroutine := false, more := [] } (defScope s_deeds_text) := ⟨rfl, by decide +kernel, by decide +kernel, by decide +kernel, by decide +kernel, by decide +kernel⟩
def sp_num : Sp := fun vs H Q _ => ∃ o : Option Nat, vs = [onV o] ∧ okO o ∧ Q (.str (Sg (oT o))) H
theorem own_num (D : Def K mg "number_text" s_number_text) (hb : Blt mg) (g_NONE : ∃ u, mg "NONE" = some u ∧ RelV (.str (Str.ofString "none")) u) : Own P w K mg base 1 "number_text" ["number"] sp_num := by
  refine D.own sc_number_text (fun _ _ _ _ _ _ us hl => match us, hl with | [_], _ => rfl) (fun vs H Q E h => ?_) (fun f cdv A outer s H vs Q E hr h => ?_)
  · obtain ⟨o, rfl, _⟩ := h
    rfl
  · obtain ⟨o, rfl, hs, q⟩ := h
    refine ⟨_, (pss_one (ps_ret (pe_ifExp (pt_cmpR op_isN (pv 0) pe_non (nomark _)) (pe_glb g_NONE) (pe_callTy call_strS rfl (hb _ (by decide)) bt_str (pa_cX (pv 0) pa_nil))))), ?_⟩
    cases o with
    | none =>
      simp (maxSteps := 1000000) only [Nat.reduceSub, Nat.reduceAdd, decide_true, if_true, tTest, tOp, tVar, tC, tRet, tIf, tCons, tNil, tCB, L2.start, List.map_cons, List.map_nil, List.length_cons, List.length_nil, List.replicate, List.getElem?_cons_zero, Option.some.injEq, exists_eq_left', V.bl.injEq, true_and, List.append_nil, onV]
      rw [S_of]
      exact q
    | some n =>
      simp (maxSteps := 1000000) only [Nat.reduceSub, Nat.reduceAdd, decide_false, List.cons.injEq, if_false, Bool.false_eq_true, tTest, tOp, tVar, tC, tRet, tIf, tCons, tNil, tCB, L2.start, List.map_cons, List.map_nil, List.length_cons, List.length_nil, List.replicate, List.getElem?_cons_zero, Option.some.injEq, exists_eq_left', V.int.injEq, V.bl.injEq, exists_const, and_true, true_and, reduceCtorEq, false_and, or_false, List.append_nil, onV, rStrS, nat_eq]
      have := hs n rfl
      exact ⟨by omega, q⟩
def SqB (H : Hp) (p : Addr) (vs : List V) : Prop := H p = some (.lst vs) ∨ H p = some (.tup vs)
def sp_nums : Sp := fun vs H Q _ => ∃ (p : Addr) (us : List V) (os : List (Option Nat)), vs = [.ref p] ∧ SqB H p us ∧ us = os.map onV ∧ (∀ o ∈ os, okO o) ∧ os.length ≤ 10 ∧ ∀ H', Same H H' → Q (.str (Sg (jW 32 (os.map oT)))) H'
theorem strs_of {H : Hp} {α : Type} {f : α → List Nat} {as : List α} {vs : List V} (h : Paired (fun a v => v = .str (Sg (f a))) as vs) : vs = ((as.map f).map Sg).map V.str := by
  induction h with
  | nil => rfl
  | cons h t ih => rw [List.map_cons, List.map_cons, List.map_cons, h, ih]
theorem own_nums (D : Def K mg "numbers_text" s_numbers_text) (F_number_text : Own P w K mg base 1 "number_text" ["number"] sp_num) : Own P w K mg base 2 "numbers_text" ["numbers"] sp_nums := by
  refine D.own sc_numbers_text (fun _ _ _ _ _ _ us hl => match us, hl with | [_], _ => rfl) (fun vs H Q E h => ?_) (fun f cdv A outer s H vs Q E hr h => ?_)
  · obtain ⟨p, us, os, rfl, _⟩ := h
    rfl
  · obtain ⟨p, us, os, rfl, ep, rfl, hs, hl, q⟩ := h
    have hsum := sum_le (l := os.map oT) (k := 5) fun x hx => by
      obtain ⟨o, ho, rfl⟩ := List.mem_map.mp hx
      exact oT_len (hs o ho)
    rw [List.length_map] at hsum
    have fin : ∀ D vs H', Same H H' → H' D = some (.lst vs) → Paired (fun (o : Option Nat) v => v = .str (Sg (oT o))) os vs → ∃ zs, H' D = some (.lst (List.map V.str zs)) ∧ jLen (Str.ofString " ") zs ≤ sizeLine ∧ (joinT (Str.ofString " ") zs).length ≤ sizeLine ∧ Q (.str (joinT (Str.ofString " ") zs)) H' := fun D vs H' s' eD p => by
      rw [strs_of (H := H) p] at eD
      exact ⟨_, eD, join_ok 32 _ (S_of " ") rfl (by omega) (q _ s')⟩
    rcases ep with ep | ep
    · refine ⟨_, (pss_one (ps_ret (pe_join pe_str (pe_comp ["number"] [] [] rfl cs_numbers_text_0 (pi_listK K (pv 0)) (fun _ _ _ _ => (pg_name (i:=0) cs_numbers_text_0.nd rfl (by first | exact Or.inl rfl | exact Or.inr rfl))) (fun _ _ _ _ => pf_nil) (fun _ _ _ _ => (pe_fn F_number_text hr (pa_cX (pv 0) pa_nil)))) (by constructor <;> rfl)))), ?_⟩
      simp (maxSteps := 1000000) only [tComp_eq, Nat.reduceSub, Nat.reduceAdd, iList, exists_and_left, tVar, tC, tRet, L2.start, List.map_cons, List.map_nil, List.length_cons, List.length_nil, List.replicate, List.getElem?_cons_zero, Option.some.injEq, exists_eq_left', V.ref.injEq, V.str.injEq, List.append_nil, tJoin]
      refine ⟨⟨_, SqL.of ep⟩, grow_list (SqL.of ep) (by rw [sizeLine_eq, List.length_map]; omega) os (by simp) (fun _ o v => v = .str (Sg (oT o))) (fun _ _ _ _ _ h => h) ?_ ?_⟩
      · rintro D i x o acc H2 hD hx ho s2 eD Nx Y k
        rw [List.getElem?_map, ho] at hx
        cases hx
        simp (maxSteps := 1000000) only [tYes, cSt, List.drop_succ_cons, List.drop_zero, if_true, tVar, gName, tCall, tCons, tNil, List.map_nil, List.replicate, List.getElem?_cons_zero, List.set_cons_zero, Option.some.injEq, exists_eq_left', true_and, List.append_nil]
        exact ⟨o, rfl, hs o (List.mem_of_getElem? ho), k _ _ (.refl _) fun _ => rfl⟩
      · rintro D vs H2 hD s2 eD p
        exact ⟨D, rfl, fin D vs H2 s2 eD p⟩
    · refine ⟨_, (pss_one (ps_ret (pe_join pe_str (pe_comp ["number"] [] [] rfl cs_numbers_text_0 (pi_tupK K (pv 0)) (fun _ _ _ _ => (pg_name (i:=0) cs_numbers_text_0.nd rfl (by first | exact Or.inl rfl | exact Or.inr rfl))) (fun _ _ _ _ => pf_nil) (fun _ _ _ _ => (pe_fn F_number_text hr (pa_cX (pv 0) pa_nil)))) (by constructor <;> rfl)))), ?_⟩
      simp (maxSteps := 1000000) only [tComp_eq, Nat.reduceSub, Nat.reduceAdd, exists_and_left, tVar, tC, tRet, L2.start, List.map_cons, List.map_nil, List.length_cons, List.length_nil, List.replicate, List.getElem?_cons_zero, Option.some.injEq, exists_eq_left', V.ref.injEq, V.str.injEq, List.append_nil, tJoin, iTup]
      refine ⟨⟨_, SqT.of ep⟩, grow_tup (SqT.of ep) (by rw [sizeLine_eq, List.length_map]; omega) os (by simp) (fun _ o v => v = .str (Sg (oT o))) (fun _ _ _ _ _ h => h) ?_ ?_⟩
      · rintro D i x o acc H2 hD hx ho s2 eD Nx Y k
        rw [List.getElem?_map, ho] at hx
        cases hx
        simp (maxSteps := 1000000) only [tYes, cSt, List.drop_succ_cons, List.drop_zero, if_true, tVar, gName, tCall, tCons, tNil, List.map_nil, List.replicate, List.getElem?_cons_zero, List.set_cons_zero, Option.some.injEq, exists_eq_left', true_and, List.append_nil]
        exact ⟨o, rfl, hs o (List.mem_of_getElem? ho), k _ _ (.refl _) fun _ => rfl⟩
      · rintro D vs H2 hD s2 eD p
        exact ⟨D, rfl, fin D vs H2 s2 eD p⟩
def sp_deed : Sp := fun vs H Q _ => ∃ (v : V) (d : List Nat) (N : Addr → Prop), vs = [v] ∧ RD N H d v ∧ okD d ∧ ∀ H', Same H H' → Q (.str (Sg (dT d))) H'
theorem own_deed (D : Def K mg "deed_text" s_deed_text) (hb : Blt mg) (g_NO_DELAYS : ∃ u, mg "NO_DELAYS" = some u ∧ RelV (.str (Str.ofString "-")) u) : Own P w K mg base 1 "deed_text" ["deed"] sp_deed := by
  refine D.own sc_deed_text (fun _ _ _ _ _ _ us hl => match us, hl with | [_], _ => rfl) (fun vs H Q E h => ?_) (fun f cdv A outer s H vs Q E hr h => ?_)
  · obtain ⟨v, d, N, rfl, _⟩ := h
    rfl
  · obtain ⟨v, d, N, rfl, ⟨t, rfl, _, et⟩, hd, q⟩ := h
    refine ⟨_, (pss_one (ps_ret (pe_ifExp (pt_truX (pv 0)) (pe_join pe_str (pe_comp ["delay"] [] [] rfl cs_deed_text_0 (pi_tupK K (pv 0)) (fun _ _ _ _ => (pg_name (i:=0) cs_deed_text_0.nd rfl (by first | exact Or.inl rfl | exact Or.inr rfl))) (fun _ _ _ _ => pf_nil) (fun _ _ _ _ => (pe_callTy call_strS rfl (hb _ (by decide)) bt_str (pa_cX (pv 0) pa_nil)))) (by constructor <;> rfl)) (pe_glb g_NO_DELAYS)))), ?_⟩
    by_cases h0 : d = []
    · subst h0
      have et' : H t = some (.tup []) := et
      simp (maxSteps := 1000000) only [Option.bind_some, tTruX, truX_r, truO_t, Nat.reduceSub, Nat.reduceAdd, List.isEmpty_nil, Bool.not_true, if_false, Bool.false_eq_true, tVar, tC, tRet, tIf, L2.start, List.map_cons, List.map_nil, List.length_cons, List.length_nil, List.replicate, List.getElem?_cons_zero, Option.some.injEq, exists_eq_left', List.append_nil, et']
      have q' := q H (.refl _)
      rw [S_of]
      exact q'
    · have he : (d.map niV).isEmpty = false := by
        cases d with
        | nil => exact absurd rfl h0
        | cons _ _ => rfl
      simp (maxSteps := 1000000) only [tComp_eq, Option.bind_some, tTruX, truX_r, truO_t, Nat.reduceSub, Nat.reduceAdd, Bool.not_false, exists_and_left, if_true, tVar, tC, tRet, tIf, L2.start, List.map_cons, List.map_nil, List.length_cons, List.length_nil, List.replicate, List.getElem?_cons_zero, Option.some.injEq, exists_eq_left', V.ref.injEq, V.str.injEq, List.append_nil, et, he, tJoin, iTup]
      have hsum := dT_sum hd
      refine ⟨⟨_, SqT.of et⟩, grow_tup (SqT.of et) (by rw [sizeLine_eq, List.length_map]; have := hd.1; omega) d (by simp) (fun _ k v => v = .str (Sg (nT k))) (fun _ _ _ _ _ h => h) ?_ ?_⟩
      · rintro D i x k acc H2 hD hx hk s2 eD Nx Y kk
        rw [List.getElem?_map, hk] at hx
        cases hx
        have := hd.2 k (List.mem_of_getElem? hk)
        simp (maxSteps := 1000000) only [tYes, cSt, List.drop_succ_cons, List.drop_zero, List.cons.injEq, if_true, tVar, gName, tCons, tNil, tCB, List.map_nil, List.replicate, List.getElem?_cons_zero, List.set_cons_zero, Option.some.injEq, exists_eq_left', V.int.injEq, exists_const, and_true, true_and, reduceCtorEq, false_and, or_false, List.append_nil, niV, rStrS, nat_eq]
        exact ⟨by omega, kk _ _ (.refl _) fun _ => rfl⟩
      · rintro D vs H2 hD s2 eD p
        rw [strs_of (H := H) p] at eD
        have q' := q H2 s2
        unfold dT at q'
        rw [if_neg h0] at q'
        exact ⟨D, rfl, _, eD, join_ok 44 _ (S_of ",") rfl (by omega) q'⟩
def sp_deeds : Sp := fun vs H Q _ => ∃ (v : V) (d : List (List Nat)) (N : Addr → Prop), vs = [v] ∧ RF N H (.ds d) v ∧ okDs d ∧ ∀ H', Same H H' → Q (.str (Sg (dsT d))) H'
theorem own_deeds (D : Def K mg "deeds_text" s_deeds_text) (g_NONE : ∃ u, mg "NONE" = some u ∧ RelV (.str (Str.ofString "none")) u) (F_deed_text : Own P w K mg base 1 "deed_text" ["deed"] sp_deed) : Own P w K mg base 2 "deeds_text" ["deeds"] sp_deeds := by
  refine D.own sc_deeds_text (fun _ _ _ _ _ _ us hl => match us, hl with | [_], _ => rfl) (fun vs H Q E h => ?_) (fun f cdv A outer s H vs Q E hr h => ?_)
  · obtain ⟨v, d, N, rfl, _⟩ := h
    rfl
  · obtain ⟨v, d, N, rfl, ⟨t, us, rfl, _, et, pu⟩, hd, q⟩ := h
    refine ⟨_, (pss_one (ps_ret (pe_ifExp (pt_truX (pv 0)) (pe_join pe_str (pe_comp ["deed"] [] [] rfl cs_deeds_text_0 (pi_listK K (pv 0)) (fun _ _ _ _ => (pg_name (i:=0) cs_deeds_text_0.nd rfl (by first | exact Or.inl rfl | exact Or.inr rfl))) (fun _ _ _ _ => pf_nil) (fun _ _ _ _ => (pe_fn F_deed_text hr (pa_cX (pv 0) pa_nil)))) (by constructor <;> rfl)) (pe_glb g_NONE)))), ?_⟩
    by_cases h0 : d = []
    · subst h0
      cases pu
      simp (maxSteps := 1000000) only [Option.bind_some, tTruX, truX_r, truO_l, Nat.reduceSub, Nat.reduceAdd, List.isEmpty_nil, Bool.not_true, if_false, Bool.false_eq_true, tVar, tC, tRet, tIf, L2.start, List.map_cons, List.map_nil, List.length_cons, List.length_nil, List.replicate, List.getElem?_cons_zero, Option.some.injEq, exists_eq_left', List.append_nil, et]
      have q' := q H (.refl _)
      rw [S_of]
      exact q'
    · have he : us.isEmpty = false := by
        cases pu with
        | nil => exact absurd rfl h0
        | cons _ _ => rfl
      simp (maxSteps := 1000000) only [tComp_eq, Option.bind_some, tTruX, truX_r, truO_l, Nat.reduceSub, Nat.reduceAdd, Bool.not_false, iList, exists_and_left, if_true, tVar, tC, tRet, tIf, L2.start, List.map_cons, List.map_nil, List.length_cons, List.length_nil, List.replicate, List.getElem?_cons_zero, Option.some.injEq, exists_eq_left', V.ref.injEq, V.str.injEq, List.append_nil, et, he, tJoin]
      have hsum := dsT_sum hd
      have hlen := pu.length
      refine ⟨⟨_, SqL.of et⟩, grow_list (SqL.of et) (by rw [sizeLine_eq]; have := hd.1; omega) d hlen (fun _ k v => v = .str (Sg (dT k))) (fun _ _ _ _ _ h => h) ?_ ?_⟩
      · rintro D i x k acc H2 hD hx hk s2 eD Nx Y kk
        obtain ⟨x', hx', hr'⟩ := paired_get pu hk
        rw [hx] at hx'
        cases hx'
        simp (maxSteps := 1000000) only [tYes, cSt, List.drop_succ_cons, List.drop_zero, if_true, tVar, gName, tCall, tCons, tNil, List.map_nil, List.replicate, List.getElem?_cons_zero, List.set_cons_zero, Option.some.injEq, exists_eq_left', true_and, List.append_nil]
        exact ⟨x, k, N, rfl, hr'.same s2, hd.2 k (List.mem_of_getElem? hk), fun H3 s3 => kk _ _ s3 fun _ => rfl⟩
      · rintro D vs H2 hD s2 eD p
        rw [strs_of (H := H) p] at eD
        have q' := q H2 s2
        unfold dsT at q'
        rw [if_neg h0] at q'
        exact ⟨D, rfl, _, eD, join_ok 47 _ (S_of "/") rfl (by omega) q'⟩
end
end K81
namespace K81
open PySem L2
inductive Wt
  | one (v : List Nat) (f : Fld)
  | put (k : Nat) (s : List Nat)
def isGo (v : List Nat) : Prop := v = w "begin" ∨ v = w "end"
def isNm (v : List Nat) : Prop := v = w "bind" ∨ v = w "free" ∨ v = w "ask"
def Wt.Ok : Wt → Prop
  | .one v f => (isGo v ∧ ∃ k, f = .n k ∧ k < 100000) ∨ (isNm v ∧ ∃ s, f = .nm s ∧ okN s)
  | .put k s => k < 100000 ∧ okS s
def Wt.wd : Wt → List Nat
  | .one v _ => v
  | .put _ _ => w "put"
def Wt.fs : Wt → List Fld
  | .one _ f => [f]
  | .put k s => [.n k, .sg s]
def RWt (N : Addr → Prop) (H : Hp) : Wt → V → Prop
  | .one _ f, v => RF N H f v
  | .put k s, v => ∃ q, v = .ref q ∧ N q ∧ H q = some (.tup [niV k, .str (Sg s)])
structure Ws where
  t : Nat
  h : Nat
  x : Wt
def Ws.Ok (s : Ws) : Prop := s.t < 100000 ∧ s.h < 100000 ∧ s.x.Ok
def RWs (N : Addr → Prop) (H : Hp) (s : Ws) (v : V) : Prop := ∃ p u, v = .ref p ∧ N p ∧ H p = some (.tup [niV s.t, niV s.h, .str (Sg s.x.wd), u]) ∧ RWt N H s.x u
def RR (N : Addr → Prop) (H : Hp) (fs : List Fld) (v : V) : Prop := ∃ p us, v = .ref p ∧ N p ∧ H p = some (.tup us) ∧ Paired (RF N H) fs us
section
variable {N N' : Addr → Prop} {H H' : Hp} {A : List Addr}
theorem RWt.keep (k : Keep A H H') (hA : ∀ b ∈ A, ¬ N b) : ∀ {x : Wt} {v : V}, RWt N H x v → RWt N H' x v
  | .one _ _, _, h => RF.keep k hA h
  | .put _ _, _, ⟨q, e, n, h⟩ => ⟨q, e, n, k _ _ h fun z => hA _ z n⟩
theorem RWt.mono (m : ∀ a, N a → N' a) : ∀ {x : Wt} {v : V}, RWt N H x v → RWt N' H x v
  | .one _ _, _, h => RF.mono m h
  | .put _ _, _, ⟨q, e, n, h⟩ => ⟨q, e, m _ n, h⟩
theorem RWs.keep (k : Keep A H H') (hA : ∀ b ∈ A, ¬ N b) {x : Ws} {v : V} : RWs N H x v → RWs N H' x v
  | ⟨p, u, e, n, h, r⟩ => ⟨p, u, e, n, k _ _ h fun z => hA _ z n, r.keep k hA⟩
theorem RWs.mono (m : ∀ a, N a → N' a) {x : Ws} {v : V} : RWs N H x v → RWs N' H x v
  | ⟨p, u, e, n, h, r⟩ => ⟨p, u, e, m _ n, h, r.mono m⟩
theorem RR.keep (k : Keep A H H') (hA : ∀ b ∈ A, ¬ N b) {x : List Fld} {v : V} : RR N H x v → RR N H' x v
  | ⟨p, u, e, n, h, r⟩ => ⟨p, u, e, n, k _ _ h fun z => hA _ z n, paired_imp (fun _ _ y => y.keep k hA) r⟩
theorem RR.mono (m : ∀ a, N a → N' a) {x : List Fld} {v : V} : RR N H x v → RR N' H x v
  | ⟨p, u, e, n, h, r⟩ => ⟨p, u, e, m _ n, h, paired_imp (fun _ _ y => y.mono m) r⟩
theorem RWt.same (s : Same H H') {x : Wt} {v : V} (h : RWt N H x v) : RWt N H' x v := h.keep (A := []) s.keep (fun _ z => nomatch z)
theorem RWs.same (s : Same H H') {x : Ws} {v : V} (h : RWs N H x v) : RWs N H' x v := h.keep (A := []) s.keep (fun _ z => nomatch z)
theorem RR.same (s : Same H H') {x : List Fld} {v : V} (h : RR N H x v) : RR N H' x v := h.keep (A := []) s.keep (fun _ z => nomatch z)
end
theorem S_put : Str.ofString "put" = Sg (w "put") := S_of _
theorem one_put {v : List Nat} {f : Fld} (h : (Wt.one v f).Ok) : v ≠ w "put" := by
  rcases h with ⟨h | h, _⟩ | ⟨h | h | h, _⟩ <;> subst h <;> decide
theorem wd_len {x : Wt} (h : x.Ok) : x.wd.length ≤ 5 := by
  cases x with
  | one v f =>
    change v.length ≤ 5
    rcases h with ⟨h | h, _⟩ | ⟨h | h | h, _⟩ <;> subst h <;> decide
  | put k s => exact (by decide : (w "put").length ≤ 5)
def Wt.words (x : Wt) : List (List Nat) := x.wd :: x.fs.map fT
theorem jW_cons {c : Nat} {p q : List Nat} {r : List (List Nat)} : jW c (p :: q :: r) = p ++ c :: jW c (q :: r) := by
  simp [jW]
theorem S_nil : Str.empty = Sg [] := rfl
section
variable {P : Program} {w : World} {K : PySem.W.Frag} {mg : Str → Option Value} {base : Heap} {C : Addr}
def sp_wish : Sp := fun vs H Q _ => ∃ (v : V) (x : Wt) (N : Addr → Prop), vs = [.str (Sg x.wd), v] ∧ RWt N H x v ∧ x.Ok ∧ Q (.str (Sg (jW 32 x.words))) H
theorem own_wish (D : Def K mg "wish_text" s_wish_text) : Own P w K mg base 1 "wish_text" ["word", "what"] sp_wish := by
  refine D.own sc_wish_text (fun _ _ _ _ _ _ us hl => match us, hl with | [_, _], _ => rfl) (fun vs H Q E h => ?_) (fun f cdv A outer s H vs Q E hr h => ?_)
  · obtain ⟨v, x, N, rfl, _⟩ := h
    rfl
  · obtain ⟨v, x, N, rfl, hx, ok, q⟩ := h
    have hu := hr.units
    have hu1 : (A.deeper (PyProof.Rows.envOfC "wish_text" (defScope s_wish_text) s.heap.objs.size f cdv)).units + 1 < cLine := by omega
    refine ⟨_, (pss_cons (ps_if (pt_cmpR op_ne (pv 0) pe_str (nomark _)) (pss_one (ps_ret (pe_fstrX (pjx_e (pv 0) (pjx_str 1 (by kernel_rfl) (pjx_e (pv 1) pjx_nil)))))) pss_nil) (pss_cons (ps_set (i:=2) sc_wish_text.nd rfl (by first | exact Or.inl rfl | exact Or.inr rfl) (pe_ix (ix_get hu1) (pv 1) pe_int (fun _ _ => rfl))) (pss_cons (ps_set (i:=3) sc_wish_text.nd rfl (by first | exact Or.inl rfl | exact Or.inr rfl) (pe_ix (ix_get hu1) (pv 1) pe_int (fun _ _ => rfl))) (pss_one (ps_ret (pe_fstrX (pjx_str 4 (by kernel_rfl) (pjx_e (pv 2) (pjx_str 1 (by kernel_rfl) (pjx_e (pv 3) pjx_nil)))))))))), ?_⟩
    have hl := wd_len ok
    have e32 : Str.ofString " " = Sg [32] := S_of " "
    have eput := S_put
    cases x with
    | one u g =>
      have hne := one_put ok
      simp (maxSteps := 1000000) only [rNe_ss, rGet, Nat.reduceSub, Nat.reduceAdd, decide_false, Bool.not_false, tSeq, exists_and_left, if_true, tIfS, tTest, tOp, tVar, tC, tRet, tAsg, gName, tNext, L2.start, List.map_cons, List.map_nil, List.length_cons, List.length_nil, List.replicate, List.cons_append, List.nil_append, List.getElem?_cons_zero, List.getElem?_cons_succ, List.set_cons_zero, List.set_cons_succ, Option.some.injEq, exists_eq_left', V.bl.injEq, V.str.injEq, exists_const, reduceCtorEq, false_and, false_or, tFsX, tXs, tXe, tXn, eput, S_eq, Wt.wd, hne, e32]
      rw [S_nil, S_app, S_app, List.nil_append]
      rcases ok with ⟨_, k, rfl, hk⟩ | ⟨_, z, rfl, hz⟩
      · obtain rfl : v = niV k := hx
        refine ⟨by rw [Sg_len]; change u.length ≤ 5 at hl; omega, .inl ⟨_, rfl, log13 (by omega), ?_⟩⟩
        rw [S_num, S_app]
        have e : u ++ [32] ++ nT k = jW 32 (Wt.words (.one u (.n k))) := by simp [Wt.words, Wt.wd, Wt.fs, jW, fT]
        rw [e]
        exact q
      · obtain rfl : v = .str (Sg z) := hx
        refine ⟨by rw [Sg_len]; change u.length ≤ 5 at hl; omega, .inr ⟨_, rfl, by rw [Sg_len]; have := hz.2.1; omega, ?_⟩⟩
        rw [S_app]
        have e : u ++ [32] ++ z = jW 32 (Wt.words (.one u (.nm z))) := by simp [Wt.words, Wt.wd, Wt.fs, jW, fT]
        rw [e]
        exact q
    | put k z =>
      obtain ⟨p, rfl, _, ep⟩ := hx
      simp (maxSteps := 1000000) only [rNe_ss, rGet, getO_t, atI_0, atI_1, Nat.reduceSub, Nat.reduceAdd, decide_true, Bool.not_true, tSeq, exists_and_left, if_false, Bool.false_eq_true, tIfS, tTest, tOp, tVar, tC, tRet, tAsg, gName, tNext, L2.start, List.map_cons, List.map_nil, List.length_cons, List.length_nil, List.replicate, List.cons_append, List.nil_append, List.getElem?_cons_zero, List.getElem?_cons_succ, List.set_cons_zero, List.set_cons_succ, Option.some.injEq, exists_eq_left', V.int.injEq, V.bl.injEq, V.ref.injEq, V.str.injEq, exists_const, reduceCtorEq, false_and, or_false, false_or, tFsX, tXs, tXe, tXn, eput, Wt.wd, e32, ep, niV]
      have h1 := ok.1
      have h2 := ok.2.2.1
      refine ⟨log13 (by omega), by rw [Sg_len]; omega, ?_⟩
      rw [S_nil, S_of "put ", S_num, S_app, S_app, S_app, S_app]
      have e : [] ++ K81.w "put " ++ nT k ++ [32] ++ z = jW 32 (Wt.words (.put k z)) := by
        have : K81.w "put " = K81.w "put" ++ [32] := by decide
        rw [this]
        simp [Wt.words, Wt.wd, Wt.fs, jW, fT]
      rw [e]
      exact q
end
end K81
namespace K81
open PySem L2
def kLn (fs : List Fld) : Prop := ∃ a b p, fs = [.n a, .n b, .o p]
def kCh (fs : List Fld) : Prop := ∃ t a b p, fs = [.n t, .n a, .n b, .o p]
def kRd (fs : List Fld) : Prop := ∃ a b d, fs = [.n a, .n b, .ds d]
def okF (fs : List Fld) : Prop := ∀ f ∈ fs, f.Ok
def rT (k : String) (fs : List Fld) : List Nat := jW 32 (w k :: fs.map fT)
def wT (s : Ws) : List Nat := jW 32 (w "wish" :: nT s.t :: nT s.h :: s.x.words)
structure Nt where
  ln : List (List Fld)
  ch : List (List Fld)
  rd : List (List Fld)
  ws : List Ws
structure Nt.Ok (n : Nt) : Prop where
  ln : ∀ r ∈ n.ln, kLn r ∧ okF r
  ch : ∀ r ∈ n.ch, kCh r ∧ okF r
  rd : ∀ r ∈ n.rd, kRd r ∧ okF r
  ws : ∀ r ∈ n.ws, r.Ok
  few : n.ln.length + n.ch.length + n.rd.length + n.ws.length ≤ 48
def rowsT (ns : List Nat) (n : Nt) : List (List Nat) := rT "measures" (ns.map Fld.n) :: (n.ln.map (rT "line") ++ n.ch.map (rT "change") ++ n.rd.map (rT "road") ++ n.ws.map wT)
def LAt {α : Type} (R : Hp → α → V → Prop) (H : Hp) (as : List α) (p : Addr) : Prop := ∃ us, H p = some (.lst us) ∧ Paired (R H) as us
structure NtAt (N : Addr → Prop) (H : Hp) (n : Nt) (l0 l1 l2 l3 : Addr) : Prop where
  ln : LAt (RR N) H n.ln l0
  ch : LAt (RR N) H n.ch l1
  rd : LAt (RR N) H n.rd l2
  ws : LAt (RWs N) H n.ws l3
theorem NtAt.same {N : Addr → Prop} {H H' : Hp} {n : Nt} {l0 l1 l2 l3 : Addr} (s : Same H H') (h : NtAt N H n l0 l1 l2 l3) : NtAt N H' n l0 l1 l2 l3 :=
  ⟨let ⟨us, e, p⟩ := h.ln; ⟨us, s _ _ e, paired_imp (fun _ _ x => x.same s) p⟩, let ⟨us, e, p⟩ := h.ch; ⟨us, s _ _ e, paired_imp (fun _ _ x => x.same s) p⟩, let ⟨us, e, p⟩ := h.rd; ⟨us, s _ _ e, paired_imp (fun _ _ x => x.same s) p⟩, let ⟨us, e, p⟩ := h.ws; ⟨us, s _ _ e, paired_imp (fun _ _ x => x.same s) p⟩⟩
theorem rT_len {k : String} {fs : List Fld} (hk : (w k).length ≤ 20) (hl : fs.length ≤ 10) (h : okF fs) (h3 : fs.length ≤ 4 ∨ ∀ f ∈ fs, (fT f).length ≤ 5) : (rT k fs).length ≤ 1000 := by
  unfold rT
  have h1 := jW_len 32 (w k :: fs.map fT)
  rw [List.map_cons, List.sum_cons] at h1
  rcases h3 with h3 | h3
  · have h2 := sum_le (l := fs.map fT) (k := 152) fun x hx => by
      obtain ⟨f, hf, rfl⟩ := List.mem_map.mp hx
      exact fT_len (h f hf)
    rw [List.length_map] at h2
    omega
  · have h2 := sum_le (l := fs.map fT) (k := 5) fun x hx => by
      obtain ⟨f, hf, rfl⟩ := List.mem_map.mp hx
      exact h3 f hf
    rw [List.length_map] at h2
    omega
theorem Wt.okF {x : Wt} (h : x.Ok) : K81.okF x.fs := by
  cases x with
  | one v f =>
    intro g hg
    obtain rfl : g = f := by simpa [Wt.fs] using hg
    rcases h with ⟨_, k, rfl, hk⟩ | ⟨_, s, rfl, hs⟩
    · exact hk
    · exact hs
  | put k s =>
    intro g hg
    have : g = .n k ∨ g = .sg s := by simpa [Wt.fs] using hg
    rcases this with rfl | rfl
    · exact h.1
    · exact h.2
theorem Wt.fs_len (x : Wt) : x.fs.length ≤ 2 := by cases x <;> simp [Wt.fs]
theorem words_sum {x : Wt} (h : x.Ok) : (x.words.map fun p => p.length + 1).sum ≤ 400 := by
  unfold Wt.words
  rw [List.map_cons, List.sum_cons]
  have h1 := wd_len h
  have h2 := sum_le (l := x.fs.map fT) (k := 152) fun y hy => by
    obtain ⟨f, hf, rfl⟩ := List.mem_map.mp hy
    exact fT_len (Wt.okF h f hf)
  rw [List.length_map] at h2
  have := x.fs_len
  omega
theorem wT_len {s : Ws} (h : s.Ok) : (wT s).length ≤ 1000 := by
  unfold wT
  have h1 := jW_len 32 (w "wish" :: nT s.t :: nT s.h :: s.x.words)
  rw [List.map_cons, List.map_cons, List.map_cons, List.sum_cons, List.sum_cons, List.sum_cons] at h1
  have h2 := words_sum h.2.2
  have h3 := nT_len5 h.1
  have h4 := nT_len5 h.2.1
  have h5 : (w "wish").length = 4 := by decide
  omega
theorem kLn.len {fs : List Fld} (h : kLn fs) : fs.length ≤ 4 := by obtain ⟨a, b, p, rfl⟩ := h; simp
theorem kCh.len {fs : List Fld} (h : kCh fs) : fs.length ≤ 4 := by obtain ⟨t, a, b, p, rfl⟩ := h; simp
theorem kRd.len {fs : List Fld} (h : kRd fs) : fs.length ≤ 4 := by obtain ⟨a, b, p, rfl⟩ := h; simp
theorem rows_len {ns : List Nat} {n : Nt} (h : n.Ok) (hn : ns.length = 10) (hs : ∀ k ∈ ns, k < 100000) : ∀ r ∈ rowsT ns n, r.length ≤ 1000 := by
  intro r hr
  unfold rowsT at hr
  rw [List.mem_cons, List.mem_append, List.mem_append, List.mem_append] at hr
  rcases hr with rfl | ((hr | hr) | hr) | hr
  · refine rT_len (by decide) (by simp [hn]) (fun f hf => ?_) (.inr fun f hf => ?_)
    · obtain ⟨k, hk, rfl⟩ := List.mem_map.mp hf
      exact hs k hk
    · obtain ⟨k, hk, rfl⟩ := List.mem_map.mp hf
      exact nT_len5 (hs k hk)
  · obtain ⟨x, hx, rfl⟩ := List.mem_map.mp hr
    have := (h.ln x hx).1.len
    exact rT_len (by decide) (by omega) (h.ln x hx).2 (.inl this)
  · obtain ⟨x, hx, rfl⟩ := List.mem_map.mp hr
    have := (h.ch x hx).1.len
    exact rT_len (by decide) (by omega) (h.ch x hx).2 (.inl this)
  · obtain ⟨x, hx, rfl⟩ := List.mem_map.mp hr
    have := (h.rd x hx).1.len
    exact rT_len (by decide) (by omega) (h.rd x hx).2 (.inl this)
  · obtain ⟨x, hx, rfl⟩ := List.mem_map.mp hr
    exact wT_len (h.ws x hx)
theorem rows_few {ns : List Nat} {n : Nt} (h : n.Ok) : (rowsT ns n).length ≤ 49 := by
  have := h.few
  unfold rowsT
  simp only [List.length_cons, List.length_append, List.length_map]
  omega
theorem rows_sum {ns : List Nat} {n : Nt} (h : n.Ok) (hn : ns.length = 10) (hs : ∀ k ∈ ns, k < 100000) : ((rowsT ns n).map fun p => p.length + 1).sum ≤ 100000 := by
  have h1 := sum_le (rows_len h hn hs)
  have h2 := rows_few (ns := ns) h
  omega
theorem nums_of {N : Addr → Prop} {H : Hp} : ∀ {fs : List Fld} {us : List V}, Paired (RF N H) fs us → (∀ f ∈ fs, isN f) → okF fs → ∃ os : List (Option Nat), us = os.map onV ∧ os.map oT = fs.map fT ∧ (∀ o ∈ os, okO o) ∧ os.length = fs.length
  | _, _, .nil, _, _ => ⟨[], rfl, rfl, (fun _ z => nomatch z), rfl⟩
  | f :: fs, u :: us, .cons h t, hn, ho => by
    obtain ⟨os, e1, e2, e3, e4⟩ := nums_of t (fun g hg => hn g (.tail _ hg)) (fun g hg => ho g (.tail _ hg))
    obtain ⟨o, k1, k2, k3⟩ := isN.eq (hn f (.head _)) (ho f (.head _))
    refine ⟨o :: os, by rw [List.map_cons, k3 h, e1], by rw [List.map_cons, List.map_cons, k1, e2], fun x hx => ?_, by simp [e4]⟩
    rcases List.mem_cons.mp hx with rfl | hx
    · exact k2
    · exact e3 x hx
theorem kLn.num {fs : List Fld} (h : kLn fs) : ∀ f ∈ fs, isN f := by
  obtain ⟨a, b, p, rfl⟩ := h
  intro f hf
  simp only [List.mem_cons, List.not_mem_nil, or_false] at hf
  rcases hf with rfl | rfl | rfl <;> trivial
theorem kCh.num {fs : List Fld} (h : kCh fs) : ∀ f ∈ fs, isN f := by
  obtain ⟨t, a, b, p, rfl⟩ := h
  intro f hf
  simp only [List.mem_cons, List.not_mem_nil, or_false] at hf
  rcases hf with rfl | rfl | rfl | rfl <;> trivial
theorem rT_eq {k s : String} {fs : List Fld} (h : fs ≠ []) (hs : w s = w k ++ [32]) : w s ++ jW 32 (fs.map fT) = rT k fs := by
  unfold rT
  cases fs with
  | nil => exact absurd rfl h
  | cons f r =>
    rw [List.map_cons, jW_cons, hs]
    simp
section
variable {P : Program} {w : World} {K : PySem.W.Frag} {mg : Str → Option Value} {base : Heap} {C : Addr}
abbrev s_net_text : Stmt := top 26
theorem sc_net_text : FnScope ["measures", "lines", "changes", "roads", "wishes", "rows"] ["measures", "lines", "changes", "roads", "wishes"] (defScope s_net_text) := ⟨rfl, rfl, rfl, by decide +kernel, rfl, by decide +kernel, by decide +kernel⟩
theorem cs_net_text_0 : CScope ["line"] [] { kind := .function, names := [(".0", .local), ("line", .local), ("numbers_text", .globalImplicit)], isGenerator := false, isCoroutine := false, more := [] } (defScope s_net_text) := ⟨rfl, by decide +kernel, by decide +kernel, by decide +kernel, by decide +kernel, by decide +kernel⟩
theorem cs_net_text_1 : CScope ["change"] [] { kind := .function, names := [(".0", .local), ("change", .local), ("numbers_text", .globalImplicit)], isGenerator := false, isCoroutine := false, more := [] } (defScope s_net_text) := ⟨rfl, by decide +kernel, by decide +kernel, by decide +kernel, by decide +kernel, by decide +kernel⟩
theorem cs_net_text_2 : CScope ["road"] [] { kind := .function, names := [(".0", .local), ("road", .local), ("numbers_text", .globalImplicit), ("deeds_text", .globalImplicit)], isGenerator := false, isCoroutine := false, more := [] } (defScope s_net_text) := ⟨rfl, by decide +kernel, by decide +kernel, by decide +kernel, by decide +kernel, by decide +kernel⟩
theorem cs_net_text_3 : CScope ["wish"] [] { kind := .function, names := [(".0", .local), ("wish", .local), ("numbers_text", .globalImplicit), ("wish_text", .globalImplicit)], isGenerator := false, isCoroutine := false, more := [] } (defScope s_net_text) := ⟨rfl, by decide +kernel, by decide +kernel, by decide +kernel, by decide +kernel, by decide +kernel⟩
def msOk (ns : List Nat) (m : Ms) : Prop := m.l = ns.map Int.ofNat ∧ ns.length = 10 ∧ ∀ k ∈ ns, k < 100000
def sp_net (C : Addr) : Sp := fun vs H Q _ => ∃ (x dx l0 l1 l2 l3 : Addr) (m : Ms) (ns : List Nat) (n : Nt) (N : Addr → Prop), vs = [.ref x, .ref l0, .ref l1, .ref l2, .ref l3] ∧ H x = some (.ins C dx (fsM m)) ∧ msOk ns m ∧ n.Ok ∧ NtAt N H n l0 l1 l2 l3 ∧ ∀ H', Same H H' → Q (.str (Sg (jW 10 (rowsT ns n)))) H'
def NS (H : Hp) (x l0 l1 l2 l3 : Addr) (rows : List (List Nat)) (σ : St) (H' : Hp) : Prop := ∃ R, σ = [some (.ref x), some (.ref l0), some (.ref l1), some (.ref l2), some (.ref l3), some (.ref R)] ∧ H R = none ∧ Same H H' ∧ H' R = some (.lst ((rows.map Sg).map V.str))
theorem NS.ext {H : Hp} {x l0 l1 l2 l3 : Addr} {rows : List (List Nat)} {H1 H2 : Hp} {R D : Addr} {α : Type} {f : α → List Nat} {as : List α} {vs : List V} (hR : H R = none) (s1 : Same H H1) (e1 : H1 R = some (.lst ((rows.map Sg).map V.str))) (hD : H1 D = none) (s2 : Same H1 H2) (eD : H2 D = some (.lst vs)) (p : Paired (fun a v => v = .str (Sg (f a))) as vs) :
    NS H x l0 l1 l2 l3 (rows ++ as.map f) [some (.ref x), some (.ref l0), some (.ref l1), some (.ref l2), some (.ref l3), some (.ref R)] (upd H2 R (.lst ((rows.map Sg).map V.str ++ vs))) := by
  refine ⟨R, rfl, hR, (s1.trans s2).upd hR, ?_⟩
  rw [upd_same, strs_of (H := H) p, List.map_append, List.map_append]
set_option maxHeartbeats 2000000 in
theorem own_net (D : Def K mg "net_text" s_net_text) (T_Measures : ClsD K mg "Measures" C at_Measures) (M_Measures_numbers : OwnM P w K mg base 1 C "numbers" ["self"] (sp_mnum C)) (F_numbers_text : Own P w K mg base 2 "numbers_text" ["numbers"] sp_nums) (F_deeds_text : Own P w K mg base 2 "deeds_text" ["deeds"] sp_deeds) (F_wish_text : Own P w K mg base 1 "wish_text" ["word", "what"] sp_wish) :
    Own P w K mg base 3 "net_text" ["measures", "lines", "changes", "roads", "wishes"] (sp_net C) := by
  refine D.own sc_net_text (fun _ _ _ _ _ _ us hl => match us, hl with | [_, _, _, _, _], _ => rfl) (fun vs H Q E h => ?_) (fun f cdv A outer s H vs Q E hr h => ?_)
  · obtain ⟨x, dx, l0, l1, l2, l3, m, ns, n, N, rfl, _⟩ := h
    rfl
  · obtain ⟨x, dx, l0, l1, l2, l3, m, ns, n, N, rfl, ex, ⟨em, hns, hnk⟩, ok, at_, q⟩ := h
    have hu := hr.units
    have hu1 : (A.deeper (PyProof.Rows.envOfC "net_text" (defScope s_net_text) s.heap.objs.size f cdv)).units + 1 < cLine := by omega
    have few := ok.few
    have e32 : Str.ofString " " = Sg [32] := S_of " "
    refine ⟨_, (pss_cons (ps_set (i:=5) sc_net_text.nd rfl (by first | exact Or.inl rfl | exact Or.inr rfl) (pe_lst (pa_cX (pe_op op_addS pe_str (pe_fn F_numbers_text hr (pa_cX (pe_mth0 M_Measures_numbers T_Measures.cl hr (pv 0)) pa_nil))) pa_nil))) (pss_cons (ps_expr (pe_lm PySem.F.slot_list_extend PySem.F.type_list_extend mt_extend (pv 5) (pa_cX (pe_comp ["line"] [] [] rfl cs_net_text_0 (pi_listK K (pv 1)) (fun _ _ _ _ => (pg_name (i:=0) cs_net_text_0.nd rfl (by first | exact Or.inl rfl | exact Or.inr rfl))) (fun _ _ _ _ => pf_nil) (fun _ _ _ _ => (pe_op op_addS pe_str (pe_fn F_numbers_text hr (pa_cX (pv 0) pa_nil))))) pa_nil))) (pss_cons (ps_expr (pe_lm PySem.F.slot_list_extend PySem.F.type_list_extend mt_extend (pv 5) (pa_cX (pe_comp ["change"] [] [] rfl cs_net_text_1 (pi_listK K (pv 2)) (fun _ _ _ _ => (pg_name (i:=0) cs_net_text_1.nd rfl (by first | exact Or.inl rfl | exact Or.inr rfl))) (fun _ _ _ _ => pf_nil) (fun _ _ _ _ => (pe_op op_addS pe_str (pe_fn F_numbers_text hr (pa_cX (pv 0) pa_nil))))) pa_nil))) (pss_cons (ps_expr (pe_lm PySem.F.slot_list_extend PySem.F.type_list_extend mt_extend (pv 5) (pa_cX (pe_comp ["road"] [] [] rfl cs_net_text_2 (pi_listK K (pv 3)) (fun _ _ _ _ => (pg_name (i:=0) cs_net_text_2.nd rfl (by first | exact Or.inl rfl | exact Or.inr rfl))) (fun _ _ _ _ => pf_nil) (fun _ _ _ _ => (pe_op op_addS (pe_op op_addS (pe_op op_addS pe_str (pe_fn F_numbers_text hr (pa_cX (pe_slice sl_TX (pv 0) po_none (po_some pe_int)) pa_nil))) pe_str) (pe_fn F_deeds_text hr (pa_cX (pe_ix (ix_get hu1) (pv 0) pe_int (fun _ _ => rfl)) pa_nil))))) pa_nil))) (pss_cons (ps_expr (pe_lm PySem.F.slot_list_extend PySem.F.type_list_extend mt_extend (pv 5) (pa_cX (pe_comp ["wish"] [] [] rfl cs_net_text_3 (pi_listK K (pv 4)) (fun _ _ _ _ => (pg_name (i:=0) cs_net_text_3.nd rfl (by first | exact Or.inl rfl | exact Or.inr rfl))) (fun _ _ _ _ => pf_nil) (fun _ _ _ _ => (pe_op op_addS (pe_op op_addS (pe_op op_addS pe_str (pe_fn F_numbers_text hr (pa_cX (pe_slice sl_TX (pv 0) po_none (po_some pe_int)) pa_nil))) pe_str) (pe_fn F_wish_text hr (pa_cX (pe_ix (ix_get hu1) (pv 0) pe_int (fun _ _ => rfl)) (pa_cX (pe_ix (ix_get hu1) (pv 0) pe_int (fun _ _ => rfl)) pa_nil)))))) pa_nil))) (pss_one (ps_ret (pe_join pe_str (pv 5) (by constructor <;> rfl))))))))), ?_⟩
    refine use1 (NS H x l0 l1 l2 l3 [rT "measures" (ns.map Fld.n)]) ?_ (fun X hX => ?_)
    rotate_left
    · have ew := S_of "measures "
      simp (maxSteps := 1000000) only [Nat.reduceSub, HO.ins.injEq, Nat.reduceAdd, tMeth, tSeq, exists_and_left, tOp, tVar, tC, tAsg, gName, tCall, tCons, tNil, tLst, L2.start, List.map_cons, List.map_nil, List.length_cons, List.length_nil, List.replicate, List.cons_append, List.nil_append, List.getElem?_cons_zero, List.set_cons_zero, List.set_cons_succ, Option.some.injEq, exists_eq_left', V.ref.injEq, V.str.injEq, true_and, and_assoc, List.append_nil, ex, fn_Measures_numbers, rAddS, ew, S_eq]
      refine ⟨x, dx, m, rfl, ex, fun p1 H1 n1 e1 s1 => ?_⟩
      have ens : m.l.map V.int = (ns.map some).map onV := by
        rw [em, List.map_map, List.map_map]
        rfl
      have hoT : (ns.map some).map oT = (ns.map Fld.n).map fT := by rw [List.map_map, List.map_map]; rfl
      refine ⟨p1, _, ns.map some, rfl, .inl e1, ens, (fun o ho => ?_), by simp [hns], fun H2 s2 => ⟨_, rfl, ?_, by rw [sizeLine_eq]; decide, fun p hp => hX _ _ ⟨p, rfl, (s1.trans s2).free hp, (s1.trans s2).upd ((s1.trans s2).free hp), ?_⟩⟩⟩
      · obtain ⟨k, hk, rfl⟩ := List.mem_map.mp ho
        intro j ej
        cases ej
        exact hnk k hk
      · have h1 := jW_len 32 ((ns.map some).map oT)
        have h2 := sum_le (l := (ns.map some).map oT) (k := 5) fun y hy => by
          rw [hoT] at hy
          obtain ⟨f, hf, rfl⟩ := List.mem_map.mp hy
          obtain ⟨k, hk, rfl⟩ := List.mem_map.mp hf
          exact nT_len5 (hnk k hk)
        rw [List.length_map, List.length_map, hns] at h2
        have h3 : (K81.w "measures ").length = 9 := by decide
        omega
      · rw [upd_same, hoT, rT_eq (k := "measures") (by cases ns with | nil => cases hns | cons _ _ => exact fun z => nomatch z) (by decide)]
        rfl
    rintro σ H1 ⟨R, rfl, hR, s1, e1⟩
    refine use1 (NS H x l0 l1 l2 l3 ([rT "measures" (ns.map Fld.n)] ++ n.ln.map (rT "line"))) ?_ (fun X hX => ?_)
    rotate_left
    · have hrl : ([rT "measures" (ns.map Fld.n)]).length + n.ln.length ≤ 49 := by
        simp only [List.length_append, List.length_map, List.length_cons, List.length_nil]
        omega
      generalize [rT "measures" (ns.map Fld.n)] = rows at e1 hX hrl
      have ew := S_of "line "
      obtain ⟨us, eus, pus⟩ := (at_.same s1).ln
      simp (maxSteps := 1000000) only [tComp_eq, tBL, rExtend, HO.lst.injEq, Nat.reduceAdd, iList, List.cons.injEq, tSeq, exists_and_left, tVar, tCons, tNil, tDrop, List.length_cons, List.length_nil, List.getElem?_cons_zero, List.getElem?_cons_succ, Option.some.injEq, exists_eq_left', V.ref.injEq, and_true, e1, ew]
      refine ⟨⟨_, SqL.of eus⟩, grow_list (SqL.of eus) (by have := pus.length; rw [sizeLine_eq]; omega) n.ln pus.length (fun _ fs v => v = .str (Sg (rT "line" fs))) (fun _ _ _ _ _ h => h) ?_ ?_⟩
      · rintro D i v fs acc H2 hD hx hk s2 eD Nx Y kk
        obtain ⟨v', hv', ⟨p, vs, rfl, _, ep, pr⟩⟩ := paired_get pus hk
        rw [hx] at hv'
        cases hv'
        have hfs := ok.ln fs (List.mem_of_getElem? hk)
        obtain ⟨os, eo, et, oo, ol⟩ := nums_of pr hfs.1.num hfs.2
        simp (maxSteps := 1000000) only [tYes, cSt, List.drop_succ_cons, List.drop_zero, exists_and_left, if_true, tOp, tVar, tC, gName, tCall, tCons, tNil, List.map_nil, List.replicate, List.getElem?_cons_zero, List.set_cons_zero, Option.some.injEq, exists_eq_left', V.str.injEq, true_and, List.append_nil, rAddS, S_eq]
        have hl4 := hfs.1.len
        refine ⟨p, vs, os, rfl, .inr (s2 _ _ ep), eo, oo, by omega, fun H3 s3 => ⟨_, rfl, ?_, kk _ _ s3 fun _ => ?_⟩⟩
        · have := rT_len (k := "line") (by decide) (by omega) hfs.2 (.inl hl4)
          rw [← rT_eq (s := "line ") (by obtain ⟨a, b, p, rfl⟩ := hfs.1; exact fun z => nomatch z) (by decide), ← et, List.length_append] at this
          omega
        · rw [et, rT_eq (k := "line") (by obtain ⟨a, b, p, rfl⟩ := hfs.1; exact fun z => nomatch z) (by decide)]
      · rintro D vs H2 hD s2 eD p
        have eR := s2 _ _ e1
        simp (maxSteps := 1000000) only [HO.lst.injEq, Option.some.injEq, exists_eq_left', V.ref.injEq, eR, eD]
        exact ⟨by have := p.length; rw [sizeLine_eq]; simp only [List.length_map]; omega, hX _ _ (NS.ext hR s1 e1 hD s2 eD p)⟩
    rintro σ H1 ⟨R, rfl, hR, s1, e1⟩
    refine use1 (NS H x l0 l1 l2 l3 ([rT "measures" (ns.map Fld.n)] ++ n.ln.map (rT "line") ++ n.ch.map (rT "change"))) ?_ (fun X hX => ?_)
    rotate_left
    · have hrl : ([rT "measures" (ns.map Fld.n)] ++ n.ln.map (rT "line")).length + n.ch.length ≤ 49 := by
        simp only [List.length_append, List.length_map, List.length_cons, List.length_nil]
        omega
      generalize [rT "measures" (ns.map Fld.n)] ++ n.ln.map (rT "line") = rows at e1 hX hrl
      have ew := S_of "change "
      obtain ⟨us, eus, pus⟩ := (at_.same s1).ch
      simp (maxSteps := 1000000) only [tComp_eq, tBL, rExtend, HO.lst.injEq, Nat.reduceAdd, iList, List.cons.injEq, tSeq, exists_and_left, tVar, tCons, tNil, tDrop, List.length_cons, List.length_nil, List.getElem?_cons_zero, List.getElem?_cons_succ, Option.some.injEq, exists_eq_left', V.ref.injEq, and_true, e1, ew]
      refine ⟨⟨_, SqL.of eus⟩, grow_list (SqL.of eus) (by have := pus.length; rw [sizeLine_eq]; omega) n.ch pus.length (fun _ fs v => v = .str (Sg (rT "change" fs))) (fun _ _ _ _ _ h => h) ?_ ?_⟩
      · rintro D i v fs acc H2 hD hx hk s2 eD Nx Y kk
        obtain ⟨v', hv', ⟨p, vs, rfl, _, ep, pr⟩⟩ := paired_get pus hk
        rw [hx] at hv'
        cases hv'
        have hfs := ok.ch fs (List.mem_of_getElem? hk)
        obtain ⟨os, eo, et, oo, ol⟩ := nums_of pr hfs.1.num hfs.2
        simp (maxSteps := 1000000) only [tYes, cSt, List.drop_succ_cons, List.drop_zero, exists_and_left, if_true, tOp, tVar, tC, gName, tCall, tCons, tNil, List.map_nil, List.replicate, List.getElem?_cons_zero, List.set_cons_zero, Option.some.injEq, exists_eq_left', V.str.injEq, true_and, List.append_nil, rAddS, S_eq]
        have hl4 := hfs.1.len
        refine ⟨p, vs, os, rfl, .inr (s2 _ _ ep), eo, oo, by omega, fun H3 s3 => ⟨_, rfl, ?_, kk _ _ s3 fun _ => ?_⟩⟩
        · have := rT_len (k := "change") (by decide) (by omega) hfs.2 (.inl hl4)
          rw [← rT_eq (s := "change ") (by obtain ⟨t, a, b, p, rfl⟩ := hfs.1; exact fun z => nomatch z) (by decide), ← et, List.length_append] at this
          omega
        · rw [et, rT_eq (k := "change") (by obtain ⟨t, a, b, p, rfl⟩ := hfs.1; exact fun z => nomatch z) (by decide)]
      · rintro D vs H2 hD s2 eD p
        have eR := s2 _ _ e1
        simp (maxSteps := 1000000) only [HO.lst.injEq, Option.some.injEq, exists_eq_left', V.ref.injEq, eR, eD]
        exact ⟨by have := p.length; rw [sizeLine_eq]; simp only [List.length_map]; omega, hX _ _ (NS.ext hR s1 e1 hD s2 eD p)⟩
    rintro σ H1 ⟨R, rfl, hR, s1, e1⟩
    refine use1 (NS H x l0 l1 l2 l3 ([rT "measures" (ns.map Fld.n)] ++ n.ln.map (rT "line") ++ n.ch.map (rT "change") ++ n.rd.map (rT "road"))) ?_ (fun X hX => ?_)
    rotate_left
    · have hrl : ([rT "measures" (ns.map Fld.n)] ++ n.ln.map (rT "line") ++ n.ch.map (rT "change")).length + n.rd.length ≤ 49 := by
        simp only [List.length_append, List.length_map, List.length_cons, List.length_nil]
        omega
      generalize [rT "measures" (ns.map Fld.n)] ++ n.ln.map (rT "line") ++ n.ch.map (rT "change") = rows at e1 hX hrl
      have ew := S_of "road "
      obtain ⟨us, eus, pus⟩ := (at_.same s1).rd
      simp (maxSteps := 1000000) only [tComp_eq, tBL, rExtend, HO.lst.injEq, Nat.reduceAdd, iList, List.cons.injEq, tSeq, exists_and_left, tVar, tCons, tNil, tDrop, List.length_cons, List.length_nil, List.getElem?_cons_zero, List.getElem?_cons_succ, Option.some.injEq, exists_eq_left', V.ref.injEq, and_true, e1, ew]
      refine ⟨⟨_, SqL.of eus⟩, grow_list (SqL.of eus) (by have := pus.length; rw [sizeLine_eq]; omega) n.rd pus.length (fun _ fs v => v = .str (Sg (rT "road" fs))) (fun _ _ _ _ _ h => h) ?_ ?_⟩
      · rintro D i v fs acc H2 hD hx hk s2 eD Nx Y kk
        obtain ⟨v', hv', ⟨p, vs, rfl, _, ep, pr⟩⟩ := paired_get pus hk
        rw [hx] at hv'
        cases hv'
        have hfs := ok.rd fs (List.mem_of_getElem? hk)
        obtain ⟨⟨a, b, d, rfl⟩, hfo⟩ := hfs
        obtain ⟨va, vb, vd, rfl, ra, rb, rd⟩ : ∃ va vb vd, vs = [va, vb, vd] ∧ RF N H1 (.n a) va ∧ RF N H1 (.n b) vb ∧ RF N H1 (.ds d) vd := by
          cases pr with | cons h1 t => cases t with | cons h2 t => cases t with | cons h3 t => cases t; exact ⟨_, _, _, rfl, h1, h2, h3⟩
        have ha := hfo (.n a) (.head _)
        have hb' := hfo (.n b) (.tail _ (.head _))
        have hd' : okDs d := hfo (.ds d) (.tail _ (.tail _ (.head _)))
        have ep2 := s2 _ _ ep
        simp (maxSteps := 1000000) only [rGet, HO.tup.injEq, Nat.reduceAdd, tYes, cSt, List.drop_succ_cons, List.drop_zero, tSl, tNoPart, tPart, exists_and_left, if_true, tOp, tVar, tC, gName, tCall, tCons, tNil, List.map_nil, List.length_cons, List.length_nil, List.replicate, List.getElem?_cons_zero, List.set_cons_zero, Option.some.injEq, exists_eq_left', V.int.injEq, V.ref.injEq, V.str.injEq, true_and, List.append_nil, ep2, rAddS, S_eq, rSlTX, e32]
        intro p1 H3 h3 e3
        have s3 : Same H2 H3 := by
          rcases h3 with rfl | ⟨n1, rfl⟩
          · exact .refl _
          · exact .upd_new n1
        have ecut : cutV [va, vb, vd] none (some 2) = [some a, some b].map onV := by
          rw [show va = niV a from ra, show vb = niV b from rb]
          rfl
        rw [ecut] at e3
        have ep3 := s3 _ _ ep2
        have l1 := nT_len5 ha
        have l2 := nT_len5 hb'
        have l3 := dsT_len hd'
        have ej : jW 32 ([some a, some b].map oT) = nT a ++ 32 :: nT b := by simp [jW, oT]
        refine ⟨p1, _, [some a, some b], rfl, .inr e3, rfl, (fun o ho => ?_), by simp, fun H4 s4 => ?_⟩
        · simp only [List.mem_cons, List.not_mem_nil, or_false] at ho
          rcases ho with rfl | rfl <;> (intro j ej; cases ej; assumption)
        have ep4 := s4 _ _ ep3
        rw [ej]
        simp (maxSteps := 1000000) only [getO_t, atI_2, Option.some.injEq, exists_eq_left', V.str.injEq, ep4, S_eq]
        have h5 : (K81.w "road ").length = 5 := by decide
        refine ⟨?_, ?_, vd, d, N, rfl, rd.same ((s2.trans s3).trans s4), hd', fun H5 s5 => ⟨_, rfl, ?_, kk _ _ ((s3.trans s4).trans s5) fun _ => ?_⟩⟩
        · rw [h5, List.length_append, List.length_cons]
          omega
        · rw [List.length_append, h5, List.length_append, List.length_cons]
          omega
        · simp only [List.length_append, List.length_cons, List.length_nil, h5]
          omega
        · congr 2
          have : K81.w "road " = K81.w "road" ++ [32] := by decide
          rw [this]
          simp [rT, jW, fT]
      · rintro D vs H2 hD s2 eD p
        have eR := s2 _ _ e1
        simp (maxSteps := 1000000) only [HO.lst.injEq, Option.some.injEq, exists_eq_left', V.ref.injEq, eR, eD]
        exact ⟨by have := p.length; rw [sizeLine_eq]; simp only [List.length_map]; omega, hX _ _ (NS.ext hR s1 e1 hD s2 eD p)⟩
    rintro σ H1 ⟨R, rfl, hR, s1, e1⟩
    refine use1 (NS H x l0 l1 l2 l3 ([rT "measures" (ns.map Fld.n)] ++ n.ln.map (rT "line") ++ n.ch.map (rT "change") ++ n.rd.map (rT "road") ++ n.ws.map wT)) ?_ (fun X hX => ?_)
    rotate_left
    · have hrl : ([rT "measures" (ns.map Fld.n)] ++ n.ln.map (rT "line") ++ n.ch.map (rT "change") ++ n.rd.map (rT "road")).length + n.ws.length ≤ 49 := by
        simp only [List.length_append, List.length_map, List.length_cons, List.length_nil]
        omega
      generalize [rT "measures" (ns.map Fld.n)] ++ n.ln.map (rT "line") ++ n.ch.map (rT "change") ++ n.rd.map (rT "road") = rows at e1 hX hrl
      have ew := S_of "wish "
      obtain ⟨us, eus, pus⟩ := (at_.same s1).ws
      simp (maxSteps := 1000000) only [tComp_eq, tBL, rExtend, HO.lst.injEq, Nat.reduceAdd, iList, List.cons.injEq, tSeq, exists_and_left, tVar, tCons, tNil, tDrop, List.length_cons, List.length_nil, List.getElem?_cons_zero, List.getElem?_cons_succ, Option.some.injEq, exists_eq_left', V.ref.injEq, and_true, e1, ew]
      refine ⟨⟨_, SqL.of eus⟩, grow_list (SqL.of eus) (by have := pus.length; rw [sizeLine_eq]; omega) n.ws pus.length (fun _ fs v => v = .str (Sg (wT fs))) (fun _ _ _ _ _ h => h) ?_ ?_⟩
      · rintro D i v y acc H2 hD hx hk s2 eD Nx Y kk
        obtain ⟨v', hv', ⟨p, u, rfl, _, ep, pr⟩⟩ := paired_get pus hk
        rw [hx] at hv'
        cases hv'
        have hy := ok.ws y (List.mem_of_getElem? hk)
        have ep2 := s2 _ _ ep
        simp (maxSteps := 1000000) only [rGet, HO.tup.injEq, Nat.reduceAdd, tYes, cSt, List.drop_succ_cons, List.drop_zero, tSl, tNoPart, tPart, exists_and_left, if_true, tOp, tVar, tC, gName, tCall, tCons, tNil, List.map_nil, List.length_cons, List.length_nil, List.replicate, List.getElem?_cons_zero, List.set_cons_zero, Option.some.injEq, exists_eq_left', V.int.injEq, V.ref.injEq, V.str.injEq, true_and, List.append_nil, ep2, rAddS, S_eq, rSlTX, e32]
        intro p1 H3 h3 e3
        have s3 : Same H2 H3 := by
          rcases h3 with rfl | ⟨n1, rfl⟩
          · exact .refl _
          · exact .upd_new n1
        have ecut : cutV [niV y.t, niV y.h, V.str (Sg y.x.wd), u] none (some 2) = [some y.t, some y.h].map onV := rfl
        rw [ecut] at e3
        have ep3 := s3 _ _ ep2
        have l1 := nT_len5 hy.1
        have l2 := nT_len5 hy.2.1
        have l3 := words_sum hy.2.2
        have l4 := jW_len 32 y.x.words
        have ej : jW 32 ([some y.t, some y.h].map oT) = nT y.t ++ 32 :: nT y.h := by simp [jW, oT]
        refine ⟨p1, _, [some y.t, some y.h], rfl, .inr e3, rfl, (fun o ho => ?_), by simp, fun H4 s4 => ?_⟩
        · simp only [List.mem_cons, List.not_mem_nil, or_false] at ho
          rcases ho with rfl | rfl <;> (intro j ej; cases ej)
          · exact hy.1
          · exact hy.2.1
        have ep4 := s4 _ _ ep3
        rw [ej]
        simp (maxSteps := 1000000) only [getO_t, atI_2, atI_3, Option.some.injEq, exists_eq_left', V.str.injEq, ep4, S_eq]
        have h5 : (K81.w "wish ").length = 5 := by decide
        refine ⟨?_, ?_, u, y.x, N, rfl, pr.same ((s2.trans s3).trans s4), hy.2.2, _, rfl, ?_, kk _ _ (s3.trans s4) fun _ => ?_⟩
        · rw [h5, List.length_append, List.length_cons]
          omega
        · rw [List.length_append, h5, List.length_append, List.length_cons]
          omega
        · simp only [List.length_append, List.length_cons, List.length_nil, h5]
          omega
        · congr 2
          have : K81.w "wish " = K81.w "wish" ++ [32] := by decide
          rw [this]
          unfold wT Wt.words
          rw [jW_cons, jW_cons, jW_cons]
          simp
      · rintro D vs H2 hD s2 eD p
        have eR := s2 _ _ e1
        simp (maxSteps := 1000000) only [HO.lst.injEq, Option.some.injEq, exists_eq_left', V.ref.injEq, eR, eD]
        exact ⟨by have := p.length; rw [sizeLine_eq]; simp only [List.length_map]; omega, hX _ _ (NS.ext hR s1 e1 hD s2 eD p)⟩
    rintro σ H1 ⟨R, rfl, hR, s1, e1⟩
    have e10 : Str.ofString "\n" = Sg [10] := S_of _
    simp (maxSteps := 1000000) only [exists_and_left, tVar, tC, tRet, List.getElem?_cons_zero, List.getElem?_cons_succ, Option.some.injEq, exists_eq_left', V.ref.injEq, V.str.injEq, tJoin]
    exact ⟨_, e1, join_ok 10 _ e10 rfl (rows_sum ok hns hnk) (q _ s1)⟩
end
end K81
namespace K81
open PySem L2
section
variable {P : Program} {w : World} {K : PySem.W.Frag} {mg : Str → Option Value} {base : Heap} {C : Addr}
abbrev s_is_text_of : Stmt := top 7
theorem sc_is_text_of : FnScope ["thing", "most", "first", "last"] ["thing", "most", "first", "last"] (defScope s_is_text_of) := ⟨rfl, rfl, rfl, by decide +kernel, rfl, by decide +kernel, by decide +kernel⟩
theorem cs_is_text_of_0 : CScope ["sign"] ["first", "last"] { kind := .function, names := [(".0", .local), ("sign", .local), ("first", .free), ("last", .free)], isGenerator := false, isCoroutine := false, more := [] } (defScope s_is_text_of) := ⟨rfl, by decide +kernel, by decide +kernel, by decide +kernel, by decide +kernel, by decide +kernel⟩
def inC (f l c : Nat) : Bool := decide (f ≤ c) && decide (c ≤ l)
def txt (z : Str) (most f l : Nat) : Bool := decide (1 ≤ z.length) && decide (z.length ≤ most) && z.cps.toList.all (inC f l)
def one (c : Nat) : Str := ⟨#[c]⟩
theorem lt_one {a b : Nat} : decide ((one a).cps.toList < (one b).cps.toList) = decide (a < b) := by
  simp [one, List.cons_lt_cons_iff]
def sp_text : Sp := fun vs H Q _ => ∃ (v : V) (m f l : Nat) (t : String), vs = [v, .int m, .str (one f), .str (one l)] ∧ m ≤ 1000 ∧ tyX H v = some t ∧ (∀ z, v = .str z → z.length ≤ 100000) ∧
  ∀ H', Same H H' → Q (.bl (match v with | .str z => txt z m f l | _ => false)) H'
theorem own_text (D : Def K mg "is_text_of" s_is_text_of) (hb : Blt mg) : Own P w K mg base 1 "is_text_of" ["thing", "most", "first", "last"] sp_text := by
  refine D.own sc_is_text_of (fun _ _ _ _ _ _ us hl => match us, hl with | [_, _, _, _], _ => rfl) (fun vs H Q E h => ?_) (fun fn cdv A outer s H vs Q E hr h => ?_)
  · obtain ⟨v, m, f, l, t, rfl, _⟩ := h
    rfl
  · obtain ⟨v, m, f, l, t, rfl, hm, ht, hz, q⟩ := h
    have hu := hr.units
    refine ⟨_, (pss_cons (ps_if (@PW.pt _ _ _ (pw_or (pt_not (pt_truX (pe_callB call_isiX rfl (hb _ (by decide)) bt_isinstance (pa_cX (pv 0) (pa_cX (pe_bltn (v:=(.ty "str")) rfl (hb _ (by decide)) bt_str rfl) pa_nil))))) (pw_or1 (pt_not (pt_chain op_le op_le pe_int (pe_callB call_lenX rfl (hb _ (by decide)) bt_len (pa_cX (pv 0) pa_nil)) (pv 1)))))) (pss_one (ps_ret pe_bl)) pss_nil) (pss_one (ps_ret (pe_callB (call_allX rfl) rfl (hb _ (by decide)) bt_all (pa_cX (pe_comp ["sign"] ["first", "last"] [2, 3] rfl cs_is_text_of_0 (pi_str (pv 0)) (fun _ _ _ _ => (pg_name (i:=0) cs_is_text_of_0.nd rfl (by first | exact Or.inl rfl | exact Or.inr rfl))) (fun _ _ _ _ => pf_nil) (fun _ _ _ _ => (pe_chain op_leS op_leS (pv 1) (pv 0) (pv 2)))) pa_nil))))), ?_⟩
    by_cases hv : ∃ z, v = .str z
    · obtain ⟨z, rfl⟩ := hv
      have hz' := hz z rfl
      have hzl : z.length ≤ sizeLine := by rw [sizeLine_eq]; omega
      simp (maxSteps := 1000000) only [tComp_eq, rAllX, iStr, rIsIX, tyX_s, V.ty.injEq, kT_stst, rLenX, lenX_s', tTruX, truX_b, Nat.reduceSub, Nat.reduceAdd, V.ty.injEq, Bool.not_true, Bool.not_false, List.cons.injEq, tSeq, exists_and_left, if_false, if_true, Bool.false_eq_true, tIfS, tOr, tNot, tTest, tVar, tC, rI0, tRet, tNext, tCons, tNil, tCB, tChain, L2.start, List.map_cons, List.map_nil, List.length_cons, List.length_nil, List.replicate, List.getElem?_cons_zero, List.getElem?_cons_succ, Option.some.injEq, exists_eq_left', V.int.injEq, V.bl.injEq, V.str.injEq, and_true, and_assoc, List.append_nil, hzl]
      have e1 : decide (1 ≤ (z.length : Int)) = decide (1 ≤ z.length) := by apply decide_eq_decide.mpr; omega
      have e2 : decide ((z.length : Int) ≤ (m : Int)) = decide (z.length ≤ m) := by apply decide_eq_decide.mpr; omega
      rw [e1, e2]
      have q' := q
      simp only [txt] at q'
      by_cases h1 : 1 ≤ z.length
      · rw [decide_eq_true h1] at q' ⊢
        by_cases h2 : z.length ≤ m
        · rw [decide_eq_true h2] at q' ⊢
          refine iteT (iteF (comp_itvP (by rw [signs_len]; omega) (fun x => .bl (match x with | .str y => inC f l (y.cps.getD 0 0) | _ => false)) ?_ ?_ (gName_mono 0)))
          · intro H1 x Q' hx s1 hq
            obtain ⟨c, hc, rfl⟩ := List.mem_map.mp hx
            have ec : (⟨#[c]⟩ : Str) = one c := rfl
            simp only [ec] at hq ⊢
            simp (maxSteps := 1000000) only [rLeS, cSt, List.drop_succ_cons, List.drop_zero, exists_and_left, tVar, gName, tChain, List.map_cons, List.map_nil, List.replicate, List.cons_append, List.nil_append, List.getElem?_cons_zero, List.getElem?_cons_succ, List.set_cons_zero, Option.some.injEq, exists_eq_left', V.bl.injEq, V.str.injEq, true_and, List.map_cons, List.map_nil, Option.join_some, tChain, lt_one]
            have hq' : Q' (.bl (inC f l c)) H1 := hq
            unfold inC at hq'
            by_cases g1 : f ≤ c
            · rw [decide_eq_true g1, Bool.true_and] at hq'
              rw [decide_eq_false (by omega : ¬ c < f)]
              have : (!decide (l < c)) = decide (c ≤ l) := by by_cases g2 : c ≤ l <;> simp [g2] <;> omega
              simpa [this] using hq'
            · rw [decide_eq_false g1, Bool.false_and] at hq'
              rw [decide_eq_true (by omega : c < f)]
              simpa using hq'
          · intro D hD
            refine ⟨D, rfl, z.cps.toList.map (inC f l), ?_, ?_⟩
            · rw [upd_same]
              simp [signs]
            · have e3 : (z.cps.toList.map (inC f l)).all id = z.cps.toList.all (inC f l) := by simp [List.all_map]
              rw [e3]
              simpa using q' _ (Same.upd_new hD)
        · rw [decide_eq_false h2] at q' ⊢
          exact iteT (iteT (by simpa using q' H fun _ _ e => e))
      · rw [decide_eq_false h1] at q' ⊢
        exact iteF (by simpa using q' H fun _ _ e => e)
    · have q' := q H fun _ _ e => e
      have hk : kT t "str" = some false := by
        cases v with
        | non => cases ht; rfl
        | bl b => cases ht; rfl
        | int i => cases ht; rfl
        | str z => exact absurd ⟨z, rfl⟩ hv
        | ref p =>
          rw [tyX_r] at ht
          cases e : H p with
          | none => rw [e] at ht; cases ht
          | some o =>
            rw [e] at ht
            cases o <;> first | (cases ht; rfl) | cases ht
        | _ => cases ht
      simp (maxSteps := 1000000) only [tComp_eq, rAllX, iStr, rIsIX, V.ty.injEq, rLenX, tTruX, truX_b, Nat.reduceSub, Nat.reduceAdd, V.ty.injEq, Bool.not_false, List.cons.injEq, tSeq, exists_and_left, if_true, tIfS, tOr, tNot, tTest, tVar, tC, rI0, tRet, tNext, tCons, tNil, tCB, tChain, L2.start, List.map_cons, List.map_nil, List.length_cons, List.length_nil, List.replicate, List.getElem?_cons_zero, List.getElem?_cons_succ, Option.some.injEq, exists_eq_left', V.int.injEq, V.bl.injEq, and_true, and_assoc, List.append_nil, ht, hk]
      cases v <;> first | exact q' | exact absurd ⟨_, rfl⟩ hv
abbrev s_is_name : Stmt := top 14
theorem sc_is_name : FnScope ["thing"] ["thing"] (defScope s_is_name) := ⟨rfl, rfl, rfl, by decide +kernel, rfl, by decide +kernel, by decide +kernel⟩
abbrev s_is_number : Stmt := top 27
theorem sc_is_number : FnScope ["word"] ["word"] (defScope s_is_number) := ⟨rfl, rfl, rfl, by decide +kernel, rfl, by decide +kernel, by decide +kernel⟩
theorem cs_is_number_0 : CScope ["sign"] [] { kind := .function, names := [(".0", .local), ("sign", .local), ("FIGURES", .globalImplicit)], isGenerator := false, isCoroutine := false, more := [] } (defScope s_is_number) := ⟨rfl, by decide +kernel, by decide +kernel, by decide +kernel, by decide +kernel, by decide +kernel⟩
abbrev s_read_number : Stmt := top 28
theorem sc_read_number : FnScope ["word", "at"] ["word", "at"] (defScope s_read_number) := ⟨rfl, rfl, rfl, by decide +kernel, rfl, by decide +kernel, by decide +kernel⟩
abbrev s_read_price : Stmt := top 29
theorem sc_read_price : FnScope ["word", "at"] ["word", "at"] (defScope s_read_price) := ⟨rfl, rfl, rfl, by decide +kernel, rfl, by decide +kernel, by decide +kernel⟩
abbrev s_read_deed : Stmt := top 30
theorem sc_read_deed : FnScope ["word", "at"] ["word", "at"] (defScope s_read_deed) := ⟨rfl, rfl, rfl, by decide +kernel, rfl, by decide +kernel, by decide +kernel⟩
theorem cs_read_deed_0 : CScope ["part"] ["at"] { kind := .function, names := [(".0", .local), ("part", .local), ("read_number", .globalImplicit), ("at", .free)], isGenerator := false, isCoroutine := false, more := [] } (defScope s_read_deed) := ⟨rfl, by decide +kernel, by decide +kernel, by decide +kernel, by decide +kernel, by decide +kernel⟩
abbrev s_read_deeds : Stmt := top 31
theorem sc_read_deeds : FnScope ["word", "at"] ["word", "at"] (defScope s_read_deeds) := ⟨rfl, rfl, rfl, by decide +kernel, rfl, by decide +kernel, by decide +kernel⟩
theorem cs_read_deeds_0 : CScope ["part"] ["at"] { kind := .function, names := [(".0", .local), ("part", .local), ("read_deed", .globalImplicit), ("at", .free)], isGenerator := false, isCoroutine := false, more := [] } (defScope s_read_deeds) := ⟨rfl, by decide +kernel, by decide +kernel, by decide +kernel, by decide +kernel, by decide +kernel⟩
abbrev s_read_name : Stmt := top 32
theorem sc_read_name : FnScope ["word", "at"] ["word", "at"] (defScope s_read_name) := ⟨rfl, rfl, rfl, by decide +kernel, rfl, by decide +kernel, by decide +kernel⟩
abbrev s_read_signs : Stmt := top 33
theorem sc_read_signs : FnScope ["word", "at"] ["word", "at"] (defScope s_read_signs) := ⟨rfl, rfl, rfl, by decide +kernel, rfl, by decide +kernel, by decide +kernel⟩
theorem Sg_cps (l : List Nat) : (Sg l).cps.toList = l := by simp [Sg]
theorem txt_Sg {l : List Nat} {m f t : Nat} (h1 : l ≠ []) (h2 : l.length ≤ m) (h3 : ∀ c ∈ l, f ≤ c ∧ c ≤ t) : txt (Sg l) m f t = true := by
  unfold txt
  have h0 : 1 ≤ l.length := by
    cases l with
    | nil => exact absurd rfl h1
    | cons _ _ => simp
  rw [Sg_len, Sg_cps, decide_eq_true h0, decide_eq_true h2]
  simp only [Bool.true_and]
  rw [List.all_eq_true]
  intro c hc
  have := h3 c hc
  unfold inC
  simp [this.1, this.2]
def sp_isnum : Sp := fun vs H Q _ => ∃ k : Nat, vs = [.str (Sg (nT k))] ∧ k < 100000 ∧ ∀ H', Same H H' → Q (.bl true) H'
theorem own_isnum (D : Def K mg "is_number" s_is_number) (hb : Blt mg) (g_MOST_FIGURES : ∃ u, mg "MOST_FIGURES" = some u ∧ RelV (.int 5) u) (g_FIGURES : ∃ u, mg "FIGURES" = some u ∧ RelV (.str (Str.ofString "0123456789")) u) : Own P w K mg base 1 "is_number" ["word"] sp_isnum := by
  refine D.own sc_is_number (fun _ _ _ _ _ _ us hl => match us, hl with | [_], _ => rfl) (fun vs H Q E h => ?_) (fun f cdv A outer s H vs Q E hr h => ?_)
  · obtain ⟨k, rfl, _⟩ := h
    rfl
  · obtain ⟨k, rfl, hk, q⟩ := h
    have hu := hr.units
    have hu1 : (A.deeper (PyProof.Rows.envOfC "is_number" (defScope s_is_number) s.heap.objs.size f cdv)).units + 1 < cLine := by omega
    refine ⟨_, (pss_cons (ps_if (@PW.pt _ _ _ (pw_or (pt_not (pt_chain op_le op_le pe_int (pe_callB call_lenX rfl (hb _ (by decide)) bt_len (pa_cX (pv 0) pa_nil)) (pe_glb g_MOST_FIGURES))) (pw_or1 (pt_not (pt_truX (pe_callB (call_allX rfl) rfl (hb _ (by decide)) bt_all (pa_cX (pe_comp ["sign"] [] [] rfl cs_is_number_0 (pi_str (pv 0)) (fun _ _ _ _ => (pg_name (i:=0) cs_is_number_0.nd rfl (by first | exact Or.inl rfl | exact Or.inr rfl))) (fun _ _ _ _ => pf_nil) (fun _ _ _ _ => (pe_cmpR op_inS (pv 0) (pe_glb g_FIGURES) rfl))) pa_nil))))))) (pss_one (ps_ret pe_bl)) pss_nil) (pss_one (ps_ret (pe_or (pe_cmpR op_eq (pv 0) pe_str (nomark _)) (pe_one (pe_cmpR op_ne (pe_ix ix_str (pv 0) pe_int (fun _ _ => rfl)) pe_str (nomark _))))))), ?_⟩
    obtain ⟨c, r, e, hc⟩ := nT_hd k
    have hl := nT_len5 hk
    have hl1 : 1 ≤ (nT k).length := by rw [e]; simp
    have hz : (Sg (nT k)).length ≤ sizeLine := by rw [Sg_len, sizeLine_eq]; omega
    have ef : Str.ofString "0123456789" = Sg (K81.w "0123456789") := S_of _
    have e0 : Str.ofString "0" = Sg [48] := S_of _
    simp (maxSteps := 1000000) only [tComp_eq, rEq_ss, rAllX, iStr, rLenX, lenX_s', tTruX, truX_b, Nat.reduceSub, Nat.reduceAdd, Bool.not_false, List.cons.injEq, tSeq, exists_and_left, if_true, tIfS, tOr, tNot, tTest, tOp, tVar, tC, rI0, tRet, tNext, tOrV, tCons, tNil, tCB, tChain, L2.start, List.map_cons, List.map_nil, List.length_cons, List.length_nil, List.replicate, List.getElem?_cons_zero, Option.some.injEq, exists_eq_left', V.int.injEq, V.bl.injEq, V.str.injEq, and_true, List.append_nil, hz, ef, e0]
    have e1 : decide (1 ≤ (((Sg (nT k)).length : Nat) : Int)) = true := by rw [Sg_len]; exact decide_eq_true (by omega)
    have e2 : decide ((((Sg (nT k)).length : Nat) : Int) ≤ 5) = true := by rw [Sg_len]; exact decide_eq_true (by omega)
    rw [e1, e2]
    have hcs : c ≠ 48 ∨ nT k = [48] := by
      by_cases h0 : k = 0
      · subst h0; exact .inr nT_0
      · exact .inl (hc h0)
    refine iteT (iteF (comp_itvP (by rw [signs_len, Sg_len]; omega) (fun _ => .bl true) ?_ ?_ (gName_mono 0)))
    · intro H1 x Q' hx s1 hq
      obtain ⟨d, hd, rfl⟩ := List.mem_map.mp hx
      rw [Sg_cps] at hd
      simp (maxSteps := 1000000) only [cSt, List.drop_succ_cons, List.drop_zero, tOp, tVar, tC, gName, List.map_nil, List.replicate, List.getElem?_cons_zero, List.set_cons_zero, Option.some.injEq, exists_eq_left', V.str.injEq, true_and, List.append_nil, List.map_nil, rInS]
      have hin : decide (d ∈ K81.w "0123456789") = true := by
        have := nT_dig hd
        have hw : ∀ d : Fin 10, (48 + d.val) ∈ K81.w "0123456789" := by decide
        have := hw ⟨d - 48, by omega⟩
        have e : 48 + (d - 48) = d := by omega
        simp only [e] at this
        exact decide_eq_true this
      refine ⟨_, _, rfl, rfl, ?_⟩
      rw [hin]
      exact hq
    · intro D hD
      refine ⟨D, rfl, (signs (Sg (nT k))).map (fun _ => true), ?_, ?_⟩
      · rw [upd_same, List.map_map]
        rfl
      · rw [List.all_map]
        have : ((signs (Sg (nT k))).all (id ∘ fun _ => true)) = true := by rw [List.all_eq_true]; intro _ _; rfl
        rw [this]
        simp (maxSteps := 1000000) only [rNe_ss, Bool.not_true, exists_and_left, if_false, Bool.false_eq_true, exists_eq_left', V.int.injEq, V.str.injEq, S_eq, rIxS]
        have q' := q (upd H D (.lst ((signs (Sg (nT k))).map fun _ => V.bl true))) (.upd_new hD)
        refine ite2 (fun _ => q') (fun hne => ⟨hz, c, by rw [Sg_cps, e]; exact atI_0, ?_⟩)
        have h48 : c ≠ 48 := hcs.elim id fun h => absurd (decide_eq_true h) hne
        have : (!decide (({ cps := #[c] } : Str) = Sg [48])) = true := by
          rw [decide_eq_false fun h => h48 (by have := S_inj (a := [c]) h; simpa using this)]
          rfl
        rw [this]
        exact q'
def sp_rd (Kd : Fld → Prop) : Sp := fun vs H Q _ => ∃ (f : Fld) (a : V), vs = [.str (Sg (fT f)), a] ∧ Kd f ∧ f.Ok ∧ ∀ v H', Same H H' → RF (fun b => H b = none) H' f v → Q v H'
def kN (f : Fld) : Prop := ∃ k, f = .n k
def kO (f : Fld) : Prop := ∃ p, f = .o p
def kD (f : Fld) : Prop := ∃ d, f = .ds d
def kM (f : Fld) : Prop := ∃ s, f = .nm s
def kS (f : Fld) : Prop := ∃ s, f = .sg s
theorem own_rnum (D : Def K mg "read_number" s_read_number) (hb : Blt mg) (F_is_number : Own P w K mg base 1 "is_number" ["word"] sp_isnum) : Own P w K mg base 2 "read_number" ["word", "at"] (sp_rd kN) := by
  refine D.own sc_read_number (fun _ _ _ _ _ _ us hl => match us, hl with | [_, _], _ => rfl) (fun vs H Q E h => ?_) (fun f cdv A outer s H vs Q E hr h => ?_)
  · obtain ⟨f, a, rfl, _⟩ := h
    rfl
  · obtain ⟨f, a, rfl, ⟨k, rfl⟩, hk, q⟩ := h
    refine ⟨_, (pss_cons (ps_if (pt_not (pt_truX (pe_fn F_is_number hr (pa_cX (pv 0) pa_nil)))) (pss_one ps_never) pss_nil) (pss_one (ps_ret (pe_callTy call_intS rfl (hb _ (by decide)) bt_int (pa_cX (pv 0) pa_nil))))), ?_⟩
    simp (maxSteps := 1000000) only [tTruX, Nat.reduceSub, Nat.reduceAdd, tNever, List.cons.injEq, tSeq, tIfS, tNot, tVar, tRet, tNext, tCall, tCons, tNil, tCB, L2.start, List.map_cons, List.map_nil, List.length_cons, List.length_nil, List.replicate, List.getElem?_cons_zero, Option.some.injEq, exists_eq_left', V.str.injEq, and_true, List.append_nil, fT, rIntS]
    have hk' : k < 100000 := hk
    refine ⟨k, rfl, hk', fun H' s' => ?_⟩
    simp (maxSteps := 1000000) only [truX_b, Bool.not_true, if_false, Bool.false_eq_true, Option.some.injEq, exists_eq_left']
    exact ⟨(k : Int), (S_num k).symm, by omega, by omega, q _ _ s' rfl⟩
theorem own_rprice (D : Def K mg "read_price" s_read_price) (g_NONE : ∃ u, mg "NONE" = some u ∧ RelV (.str (Str.ofString "none")) u) (F_read_number : Own P w K mg base 2 "read_number" ["word", "at"] (sp_rd kN)) : Own P w K mg base 3 "read_price" ["word", "at"] (sp_rd kO) := by
  refine D.own sc_read_price (fun _ _ _ _ _ _ us hl => match us, hl with | [_, _], _ => rfl) (fun vs H Q E h => ?_) (fun f cdv A outer s H vs Q E hr h => ?_)
  · obtain ⟨f, a, rfl, _⟩ := h
    rfl
  · obtain ⟨f, a, rfl, ⟨o, rfl⟩, hk, q⟩ := h
    have en : Str.ofString "none" = Sg (K81.w "none") := S_of _
    refine ⟨_, (pss_one (ps_ret (pe_ifExp (pt_cmpR op_eq (pv 0) (pe_glb g_NONE) (nomark _)) pe_non (pe_fn F_read_number hr (pa_cX (pv 0) (pa_cX (pv 1) pa_nil)))))), ?_⟩
    cases o with
    | none =>
      simp (maxSteps := 1000000) only [rEq_ss, Nat.reduceSub, Nat.reduceAdd, decide_true, if_true, tTest, tOp, tVar, tC, tRet, tIf, tCall, tCons, tNil, L2.start, List.map_cons, List.map_nil, List.length_cons, List.length_nil, List.replicate, List.getElem?_cons_zero, List.getElem?_cons_succ, Option.some.injEq, exists_eq_left', V.bl.injEq, List.append_nil, fT, oT, en]
      exact q _ _ (.refl _) rfl
    | some k =>
      have hne : nT k ≠ K81.w "none" := nT_has (c := 110) (by decide) (by decide)
      simp (maxSteps := 1000000) only [rEq_ss, Nat.reduceSub, Nat.reduceAdd, decide_false, if_false, Bool.false_eq_true, tTest, tOp, tVar, tC, tRet, tIf, tCall, tCons, tNil, L2.start, List.map_cons, List.map_nil, List.length_cons, List.length_nil, List.replicate, List.getElem?_cons_zero, List.getElem?_cons_succ, Option.some.injEq, exists_eq_left', V.bl.injEq, List.append_nil, fT, oT, en, S_eq, hne]
      exact ⟨.n k, a, rfl, ⟨k, rfl⟩, hk k rfl, fun v H' s' r => q v H' s' r⟩
def sp_rdeed : Sp := fun vs H Q _ => ∃ (d : List Nat) (a : V), vs = [.str (Sg (dT d)), a] ∧ okD d ∧ ∀ v H', Same H H' → RD (fun b => H b = none) H' d v → Q v H'
theorem niVs_of {d : List Nat} {vs : List V} {R : Hp → Nat → V → Prop} {H : Hp} (hR : ∀ k v, R H k v → v = niV k) (p : Paired (R H) d vs) : vs = d.map niV := by
  induction p with
  | nil => rfl
  | cons h t ih => rw [List.map_cons, hR _ _ h, ih]
theorem own_rdeed (D : Def K mg "read_deed" s_read_deed) (hb : Blt mg) (g_NO_DELAYS : ∃ u, mg "NO_DELAYS" = some u ∧ RelV (.str (Str.ofString "-")) u) (F_read_number : Own P w K mg base 2 "read_number" ["word", "at"] (sp_rd kN)) : Own P w K mg base 3 "read_deed" ["word", "at"] sp_rdeed := by
  refine D.own sc_read_deed (fun _ _ _ _ _ _ us hl => match us, hl with | [_, _], _ => rfl) (fun vs H Q E h => ?_) (fun f cdv A outer s H vs Q E hr h => ?_)
  · obtain ⟨d, a, rfl, _⟩ := h
    rfl
  · obtain ⟨d, a, rfl, hd, q⟩ := h
    have en : Str.ofString "-" = Sg (K81.w "-") := S_of _
    have e44 : Str.ofString "," = Sg [44] := S_of _
    refine ⟨_, (pss_one (ps_ret (pe_ifExp (pt_cmpR op_eq (pv 0) (pe_glb g_NO_DELAYS) (nomark _)) (pe_tup pa_nil) (pe_callTy call_tupX rfl (hb _ (by decide)) bt_tuple (pa_cX (pe_comp ["part"] ["at"] [1] rfl cs_read_deed_0 (pi_listK K (pe_splS (pv 0) pe_str (by constructor <;> rfl))) (fun _ _ _ _ => (pg_name (i:=0) cs_read_deed_0.nd rfl (by first | exact Or.inl rfl | exact Or.inr rfl))) (fun _ _ _ _ => pf_nil) (fun _ _ _ _ => (pe_fn F_read_number hr (pa_cX (pv 0) (pa_cX (pv 1) pa_nil))))) pa_nil))))), ?_⟩
    by_cases h0 : d = []
    · subst h0
      have e0 : dT [] = K81.w "-" := rfl
      simp (maxSteps := 1000000) only [tComp_eq, rEq_ss, rTupX, Nat.reduceSub, Nat.reduceAdd, decide_true, iList, List.cons.injEq, exists_and_left, if_true, tTest, tOp, tVar, tC, tRet, tIf, tCons, tNil, tCB, tTup, L2.start, List.map_cons, List.map_nil, List.length_cons, List.length_nil, List.replicate, List.getElem?_cons_zero, Option.some.injEq, exists_eq_left', V.bl.injEq, and_true, List.append_nil, e0, en]
      exact ⟨by rw [sizeLine_eq]; decide, fun p hp => q _ _ (.upd_new hp) ⟨p, rfl, hp, upd_same⟩⟩
    · have hne := dT_ne h0
      simp (maxSteps := 1000000) only [tComp_eq, rEq_ss, rTupX, Nat.reduceSub, Nat.reduceLT, Nat.reduceAdd, decide_false, iList, List.cons.injEq, exists_and_left, if_false, Bool.false_eq_true, tTest, tOp, tVar, tC, tRet, tIf, tCons, tNil, tCB, tTup, L2.start, List.map_cons, List.map_nil, List.length_cons, List.length_nil, List.replicate, List.getElem?_cons_zero, Option.some.injEq, exists_eq_left', V.bl.injEq, V.ref.injEq, V.str.injEq, and_true, true_and, List.append_nil, en, S_eq, hne, tSplS, e44]
      have hl := dT_len hd
      refine ⟨by omega, ?_⟩
      intro p1 n1
      generalize z1 : upd H p1 _ = H1
      obtain ⟨s1, e1⟩ := new_same z1 n1
      have hge : d.length ≤ (dT d).length + 1 := by
        unfold dT
        rw [if_neg h0]
        have := jW_ge (c := 44) (l := d.map nT) (by simpa using h0)
        rwa [List.length_map] at this
      rw [dT_spl h0 (by omega)] at e1
      refine ⟨⟨_, SqL.of e1⟩, grow_list (SqL.of e1) (by have := hd.1; rw [sizeLine_eq]; simp [wV]; omega) d (by simp [wV]) (fun _ k v => v = niV k) (fun _ _ _ _ _ h => h) ?_ ?_⟩
      · rintro D i x k acc H2 hD hx hk s2 eD Nx Y kk
        have ex : x = .str (Sg (nT k)) := by
          unfold wV at hx
          rw [List.getElem?_map, List.getElem?_map, hk] at hx
          exact (Option.some.inj hx).symm
        subst ex
        simp (maxSteps := 1000000) only [tYes, cSt, List.drop_succ_cons, List.drop_zero, if_true, tVar, gName, tCall, tCons, tNil, List.map_cons, List.map_nil, List.replicate, List.cons_append, List.nil_append, List.getElem?_cons_zero, List.getElem?_cons_succ, List.set_cons_zero, Option.some.injEq, exists_eq_left', true_and, List.append_nil, Option.join_some]
        exact ⟨.n k, a, rfl, ⟨k, rfl⟩, hd.2 k (List.mem_of_getElem? hk), fun v H3 s3 r => kk _ _ s3 fun _ => r⟩
      · rintro D vs H2 hD s2 eD p
        have evs : vs = d.map niV := niVs_of (R := fun _ k v => v = niV k) (H := H2) (fun _ _ h => h) p
        subst evs
        simp (maxSteps := 1000000) only [HO.lst.injEq, Option.some.injEq, exists_eq_left', V.ref.injEq, eD]
        exact fun t ht => q _ _ ((s1.trans s2).upd ((s1.trans s2).free ht)) ⟨t, rfl, (s1.trans s2).free ht, upd_same⟩
theorem own_rdeeds (D : Def K mg "read_deeds" s_read_deeds) (hb : Blt mg) (g_NONE : ∃ u, mg "NONE" = some u ∧ RelV (.str (Str.ofString "none")) u) (F_read_deed : Own P w K mg base 3 "read_deed" ["word", "at"] sp_rdeed) : Own P w K mg base 4 "read_deeds" ["word", "at"] (sp_rd kD) := by
  refine D.own sc_read_deeds (fun _ _ _ _ _ _ us hl => match us, hl with | [_, _], _ => rfl) (fun vs H Q E h => ?_) (fun f cdv A outer s H vs Q E hr h => ?_)
  · obtain ⟨f, a, rfl, _⟩ := h
    rfl
  · obtain ⟨f, a, rfl, ⟨d, rfl⟩, hd, q⟩ := h
    have hd : okDs d := hd
    have en : Str.ofString "none" = Sg (K81.w "none") := S_of _
    have e47 : Str.ofString "/" = Sg [47] := S_of _
    refine ⟨_, (pss_one (ps_ret (pe_ifExp (pt_cmpR op_eq (pv 0) (pe_glb g_NONE) (nomark _)) (pe_lst pa_nil) (pe_comp ["part"] ["at"] [1] rfl cs_read_deeds_0 (pi_listK K (pe_splS (pv 0) pe_str (by constructor <;> rfl))) (fun _ _ _ _ => (pg_name (i:=0) cs_read_deeds_0.nd rfl (by first | exact Or.inl rfl | exact Or.inr rfl))) (fun _ _ _ _ => pf_nil) (fun _ _ _ _ => (pe_fn F_read_deed hr (pa_cX (pv 0) (pa_cX (pv 1) pa_nil)))))))), ?_⟩
    by_cases h0 : d = []
    · subst h0
      have e0 : fT (.ds []) = K81.w "none" := rfl
      simp (maxSteps := 1000000) only [tComp_eq, rEq_ss, Nat.reduceSub, Nat.reduceAdd, decide_true, iList, if_true, tTest, tOp, tVar, tC, tRet, tIf, tNil, tLst, L2.start, List.map_cons, List.map_nil, List.length_cons, List.length_nil, List.replicate, List.getElem?_cons_zero, Option.some.injEq, exists_eq_left', V.bl.injEq, List.append_nil, e0, en]
      exact ⟨by rw [sizeLine_eq]; decide, fun p hp => q _ _ (.upd_new hp) ⟨p, [], rfl, hp, upd_same, .nil⟩⟩
    · have hne := dsT_ne h0
      have e0 : fT (.ds d) = dsT d := rfl
      simp (maxSteps := 1000000) only [tComp_eq, rEq_ss, Nat.reduceSub, Nat.reduceLT, Nat.reduceAdd, decide_false, iList, List.cons.injEq, if_false, Bool.false_eq_true, tTest, tOp, tVar, tC, tRet, tIf, tNil, tLst, L2.start, List.map_cons, List.map_nil, List.length_cons, List.length_nil, List.replicate, List.getElem?_cons_zero, Option.some.injEq, exists_eq_left', V.bl.injEq, V.ref.injEq, V.str.injEq, and_true, true_and, List.append_nil, e0, en, S_eq, hne, tSplS, e47]
      have hl := dsT_len hd
      refine ⟨by omega, ?_⟩
      intro p1 n1
      generalize z1 : upd H p1 _ = H1
      obtain ⟨s1, e1⟩ := new_same z1 n1
      have hge : d.length ≤ (dsT d).length + 1 := by
        unfold dsT
        rw [if_neg h0]
        have := jW_ge (c := 47) (l := d.map dT) (by simpa using h0)
        rwa [List.length_map] at this
      rw [dsT_spl h0 (by omega)] at e1
      refine ⟨⟨_, SqL.of e1⟩, grow_list (SqL.of e1) (by have := hd.1; rw [sizeLine_eq]; simp [wV]; omega) d (by simp [wV]) (RD (fun b => H b = none)) (fun _ _ _ _ s h => h.same s) ?_ ?_⟩
      · rintro D i x k acc H2 hD hx hk s2 eD Nx Y kk
        have ex : x = .str (Sg (dT k)) := by
          unfold wV at hx
          rw [List.getElem?_map, List.getElem?_map, hk] at hx
          exact (Option.some.inj hx).symm
        subst ex
        simp (maxSteps := 1000000) only [tYes, cSt, List.drop_succ_cons, List.drop_zero, if_true, tVar, gName, tCall, tCons, tNil, List.map_cons, List.map_nil, List.replicate, List.cons_append, List.nil_append, List.getElem?_cons_zero, List.getElem?_cons_succ, List.set_cons_zero, Option.some.injEq, exists_eq_left', true_and, List.append_nil, Option.join_some]
        refine ⟨k, a, rfl, hd.2 k (List.mem_of_getElem? hk), fun v H3 s3 r => kk _ _ s3 fun z => ?_⟩
        have r1 := r.keep (H' := upd H3 D (.lst z)) (A := [D]) (Keep.refl.upd (.inl (.head _))) fun b hb hn => by
          rw [List.mem_singleton] at hb
          subst hb
          rw [eD] at hn
          cases hn
        exact r1.mono fun b hb => s1.free (s2.free hb)
      · rintro D vs H2 hD s2 eD p
        exact q _ _ (s1.trans s2) ⟨D, vs, rfl, s1.free hD, eD, p⟩
theorem own_isn (D : Def K mg "is_name" s_is_name) (g_MOST_LETTERS : ∃ u, mg "MOST_LETTERS" = some u ∧ RelV (.int 8) u) (F_is_text_of : Own P w K mg base 1 "is_text_of" ["thing", "most", "first", "last"] sp_text) : Own P w K mg base 2 "is_name" ["thing"] (fun vs H Q _ => ∃ z, vs = [.str (Sg z)] ∧ okN z ∧ ∀ H', Same H H' → Q (.bl true) H') := by
  refine D.own sc_is_name (fun _ _ _ _ _ _ us hl => match us, hl with | [_], _ => rfl) (fun vs H Q E h => ?_) (fun f cdv A outer s H vs Q E hr h => ?_)
  · obtain ⟨z, rfl, _⟩ := h
    rfl
  · obtain ⟨z, rfl, hz, q⟩ := h
    refine ⟨_, (pss_one (ps_ret (pe_fn F_is_text_of hr (pa_cX (pv 0) (pa_cX (pe_glb g_MOST_LETTERS) (pa_cX pe_str (pa_cX pe_str pa_nil))))))), ?_⟩
    simp (maxSteps := 1000000) only [Nat.reduceSub, Nat.reduceAdd, tVar, tC, tRet, tCall, tCons, tNil, L2.start, List.map_cons, List.map_nil, List.length_cons, List.length_nil, List.replicate, List.getElem?_cons_zero, Option.some.injEq, exists_eq_left', List.append_nil]
    refine ⟨.str (Sg z), 8, 97, 122, "str", ?_, by decide, rfl, (fun z' e => by cases e; rw [Sg_len]; have := hz.2.1; omega), fun H' s' => ?_⟩
    · have ea : Str.ofString "a" = one 97 := by decide
      have ez : Str.ofString "z" = one 122 := by decide
      rw [← ea, ← ez]
      rfl
    · change Q (.bl (txt (Sg z) 8 97 122)) H'
      rw [txt_Sg hz.1 hz.2.1 hz.2.2]
      exact q H' s'
theorem own_rname (D : Def K mg "read_name" s_read_name) (F_is_name : Own P w K mg base 2 "is_name" ["thing"] (fun vs H Q _ => ∃ z, vs = [.str (Sg z)] ∧ okN z ∧ ∀ H', Same H H' → Q (.bl true) H')) : Own P w K mg base 3 "read_name" ["word", "at"] (sp_rd kM) := by
  refine D.own sc_read_name (fun _ _ _ _ _ _ us hl => match us, hl with | [_, _], _ => rfl) (fun vs H Q E h => ?_) (fun f cdv A outer s H vs Q E hr h => ?_)
  · obtain ⟨f, a, rfl, _⟩ := h
    rfl
  · obtain ⟨f, a, rfl, ⟨z, rfl⟩, hz, q⟩ := h
    refine ⟨_, (pss_cons (ps_if (pt_not (pt_truX (pe_fn F_is_name hr (pa_cX (pv 0) pa_nil)))) (pss_one ps_never) pss_nil) (pss_one (ps_ret (pv 0)))), ?_⟩
    simp (maxSteps := 1000000) only [tTruX, truX_b, Nat.reduceSub, Nat.reduceAdd, tNever, Bool.not_true, List.cons.injEq, tSeq, if_false, Bool.false_eq_true, tIfS, tNot, tVar, tRet, tNext, tCall, tCons, tNil, L2.start, List.map_cons, List.map_nil, List.length_cons, List.length_nil, List.replicate, List.getElem?_cons_zero, Option.some.injEq, exists_eq_left', V.str.injEq, and_true, List.append_nil, fT]
    exact ⟨z, rfl, hz, fun H' s' => q _ _ s' rfl⟩
theorem own_rsigns (D : Def K mg "read_signs" s_read_signs) (hb : Blt mg) (F_is_text_of : Own P w K mg base 1 "is_text_of" ["thing", "most", "first", "last"] sp_text) : Own P w K mg base 2 "read_signs" ["word", "at"] (sp_rd kS) := by
  refine D.own sc_read_signs (fun _ _ _ _ _ _ us hl => match us, hl with | [_, _], _ => rfl) (fun vs H Q E h => ?_) (fun f cdv A outer s H vs Q E hr h => ?_)
  · obtain ⟨f, a, rfl, _⟩ := h
    rfl
  · obtain ⟨f, a, rfl, ⟨z, rfl⟩, hz, q⟩ := h
    have hz : okS z := hz
    have hzl : (Sg z).length ≤ sizeLine := by rw [Sg_len, sizeLine_eq]; have := hz.2.1; omega
    refine ⟨_, (pss_cons (ps_if (pt_not (pt_truX (pe_fn F_is_text_of hr (pa_cX (pv 0) (pa_cX (pe_callB call_lenX rfl (hb _ (by decide)) bt_len (pa_cX (pv 0) pa_nil)) (pa_cX pe_str (pa_cX pe_str pa_nil))))))) (pss_one ps_never) pss_nil) (pss_one (ps_ret (pv 0)))), ?_⟩
    simp (maxSteps := 1000000) only [rLenX, lenX_s', tTruX, Nat.reduceSub, Nat.reduceAdd, tNever, List.cons.injEq, tSeq, exists_and_left, if_true, tIfS, tNot, tVar, tC, tRet, tNext, tCall, tCons, tNil, tCB, L2.start, List.map_cons, List.map_nil, List.length_cons, List.length_nil, List.replicate, List.getElem?_cons_zero, Option.some.injEq, exists_eq_left', and_true, List.append_nil, fT, hzl]
    refine ⟨.str (Sg z), (Sg z).length, 32, 126, "str", ?_, by rw [Sg_len]; have := hz.2.1; omega, rfl, (fun z' e => by cases e; rw [Sg_len]; have := hz.2.1; omega), fun H' s' => ?_⟩
    · have ea : Str.ofString " " = one 32 := by decide
      have ez : Str.ofString "~" = one 126 := by decide
      rw [← ea, ← ez]
    · have et : txt (Sg z) (Sg z).length 32 126 = true := txt_Sg hz.1 (by rw [Sg_len]; exact Nat.le_refl _) hz.2.2
      refine ⟨_, rfl, ?_⟩
      change if (!txt (Sg z) (Sg z).length 32 126) = true then False else Q (V.str (Sg z)) H'
      rw [et]
      exact q _ _ s' rfl
end
end K81
namespace K81
open PySem L2
theorem op_catTK {X : Cx} {K : PySem.W.Frag} (h : X.K = K := by rfl) : OpR X (binaryOp .Add) (rCatT K) := by subst h; exact op_catT
section
variable {P : Program} {w : World} {K : PySem.W.Frag} {mg : Str → Option Value} {base : Heap} {C : Addr}
abbrev s_read_words : Stmt := top 36
theorem sc_read_words : FnScope ["words", "readers", "at"] ["words", "readers", "at"] (defScope s_read_words) := ⟨rfl, rfl, rfl, by decide +kernel, rfl, by decide +kernel, by decide +kernel⟩
theorem cs_read_words_0 : CScope ["reader", "word"] ["at"] { kind := .function, names := [(".0", .local), ("reader", .local), ("word", .local), ("at", .free)], isGenerator := false, isCoroutine := false, more := [] } (defScope s_read_words) := ⟨rfl, by decide +kernel, by decide +kernel, by decide +kernel, by decide +kernel, by decide +kernel⟩
abbrev s_read_measures : Stmt := top 37
theorem sc_read_measures : FnScope ["row", "words"] ["row"] (defScope s_read_measures) := ⟨rfl, rfl, rfl, by decide +kernel, rfl, by decide +kernel, by decide +kernel⟩
abbrev s_read_wish : Stmt := top 38
theorem sc_read_wish : FnScope ["row", "at", "words", "whose", "what"] ["row", "at"] (defScope s_read_wish) := ⟨rfl, rfl, rfl, by decide +kernel, rfl, by decide +kernel, by decide +kernel⟩
abbrev s_read_row : Stmt := top 39
theorem sc_read_row : FnScope ["row", "kind", "at"] ["row", "kind", "at"] (defScope s_read_row) := ⟨rfl, rfl, rfl, by decide +kernel, rfl, by decide +kernel, by decide +kernel⟩
theorem FnV.mono {j k : Nat} {ps : List Str} {f : Addr} {sp : Sp} (h : FnV P w K mg base j ps f sp) (hk : j ≤ k) : FnV P w K mg base k ps f sp :=
  let ⟨fd, a, b, F⟩ := h; ⟨fd, a, b, F.mono hk⟩
def Rdr (P : Program) (w : World) (K : PySem.W.Frag) (mg : Str → Option Value) (base : Heap) (f : Fld) (r : V) : Prop := ∃ ad Kd, r = .ref ad ∧ FnV P w K mg base 4 ["word", "at"] ad (sp_rd Kd) ∧ Kd f
def sp_rwords (P : Program) (w : World) (K : PySem.W.Frag) (mg : Str → Option Value) (base : Heap) : Sp := fun vs H Q _ => ∃ (pw pr : Addr) (a : V) (κ : Bool) (rs : List V) (fs : List Fld), vs = [.ref pw, .ref pr, a] ∧ H pw = some (.lst (wV (fs.map fT))) ∧ Sq κ K H pr rs ∧ Paired (Rdr P w K mg base) fs rs ∧ okF fs ∧ fs.length ≤ 10 ∧
  ∀ p us H', Same H H' → H p = none → H' p = some (.tup us) → Paired (RF (fun b => H b = none) H') fs us → Q (.ref p) H'
theorem sq_any {κ : Bool} {H : Hp} {p : Addr} {rs : List V} (h : Sq κ K H p rs) : SqL K H p rs ∨ SqT K H p rs := by
  cases κ
  · exact .inl h
  · exact .inr h
theorem own_rwords (D : Def K mg "read_words" s_read_words) (hb : Blt mg) (hzip : mg "zip" = none) : Own P w K mg base 5 "read_words" ["words", "readers", "at"] (sp_rwords P w K mg base) := by
  refine D.own sc_read_words (fun _ _ _ _ _ _ us hl => match us, hl with | [_, _, _], _ => rfl) (fun vs H Q E h => ?_) (fun f cdv A outer s H vs Q E hr h => ?_)
  · obtain ⟨pw, pr, a, κ, rs, fs, rfl, _⟩ := h
    rfl
  · obtain ⟨pw, pr, a, κ, rs, fs, rfl, ew, er, hP, ok, hl, q⟩ := h
    have hu := hr.units
    have hu1 : (A.deeper (PyProof.Rows.envOfC "read_words" (defScope s_read_words) s.heap.objs.size f cdv)).units + 1 < cLine := by omega
    refine ⟨_, (pss_cons (ps_if (pt_cmpR op_ne (pe_callB call_lenX rfl (hb _ (by decide)) bt_len (pa_cX (pv 0) pa_nil)) (pe_callB (call_lenK K) rfl (hb _ (by decide)) bt_len (pa_cX (pv 1) pa_nil)) (nomark _)) (pss_one ps_never) pss_nil) (pss_one (ps_ret (pe_callTy call_tupX rfl (hb _ (by decide)) bt_tuple (pa_cX (pe_comp ["reader", "word"] ["at"] [2] rfl cs_read_words_0 (pi_zipU K rfl hzip (pa_cX (pv 1) (pa_cX (pv 0) pa_nil))) (fun _ _ _ _ => (pg_seqX (n:=2) rfl (pgs_cons (pg_name (i:=0) cs_read_words_0.nd rfl (by first | exact Or.inl rfl | exact Or.inr rfl)) (pgs_cons (pg_name (i:=1) cs_read_words_0.nd rfl (by first | exact Or.inl rfl | exact Or.inr rfl)) pgs_nil)))) (fun _ _ _ _ => pf_nil) (fun _ _ _ _ => (pe_fnV (P:=P) (w:=w) (K:=K) (mg:=mg) (base:=base) (j:=4) (ps:=(["word", "at"])) (pv 0) hr (pa_cX (pv 1) (pa_cX (pv 2) pa_nil))))) pa_nil))))), ?_⟩
    have hpl := hP.length
    simp (maxSteps := 1000000) only [tComp_eq, rLenX, lenX_r, lenO_l, Option.bind_some, rTupX, Nat.reduceSub, Nat.reduceAdd, tNever, rLen, List.cons.injEq, rNe_ii, tSeq, exists_and_left, tIfS, tTest, tOp, tVar, tRet, tNext, tCons, tNil, tCB, L2.start, List.map_cons, List.map_nil, List.length_cons, List.length_nil, List.replicate, List.getElem?_cons_zero, List.getElem?_cons_succ, Option.some.injEq, exists_eq_left', V.bl.injEq, V.ref.injEq, and_true, and_assoc, List.append_nil, ew, iZipU]
    refine ⟨rs, sq_any er, ?_⟩
    have hlen : (!decide (((wV (fs.map fT)).length : Int) = ((rs.length : Nat) : Int))) = false := by
      simp [wV, hpl]
    rw [hlen]
    simp (maxSteps := 1000000) only [if_false, Bool.false_eq_true]
    refine ⟨κ, ⟨_, er⟩, ⟨_, SqL.of ew⟩, grow_zip er (SqL.of ew) (by simp [wV, hpl]) (by rw [sizeLine_eq]; omega) fs hpl (fun H' f v => RF (fun b => H b = none) H' f v) (fun _ _ _ _ s h => h.same s) ?_ ?_⟩
    · rintro D i x y pp f acc H2 hD hx hy hf s2 eD hp Nx Y kk
      obtain ⟨x', hx', ⟨ad, Kd, rfl, F, hk⟩⟩ := paired_get hP hf
      rw [hx] at hx'
      cases hx'
      have ey : y = .str (Sg (fT f)) := by
        unfold wV at hy
        rw [List.getElem?_map, List.getElem?_map, hf] at hy
        exact (Option.some.inj hy).symm
      subst ey
      have epp : upd H2 pp (.tup [.ref ad, .str (Sg (fT f))]) pp = some (.tup [.ref ad, .str (Sg (fT f))]) := upd_same
      have s3 : Same H2 (upd H2 pp (.tup [.ref ad, .str (Sg (fT f))])) := .upd_new hp
      generalize upd H2 pp (.tup [.ref ad, .str (Sg (fT f))]) = H3 at epp s3 ⊢
      simp (maxSteps := 1000000) only [gSeqX, seqO_t, gCons, gNil, Nat.reduceAdd, tYes, cSt, List.drop_succ_cons, List.drop_zero, List.cons.injEq, exists_and_left, if_true, tVar, gName, tCons, tNil, List.map_cons, List.map_nil, List.length_cons, List.length_nil, List.replicate, List.cons_append, List.nil_append, List.getElem?_cons_zero, List.getElem?_cons_succ, List.set_cons_zero, List.set_cons_succ, Option.some.injEq, exists_eq_left', V.ref.injEq, true_and, and_assoc, epp, Option.join_some, tFnV]
      refine ⟨_, F, f, a, rfl, hk, ok f (List.mem_of_getElem? hf), fun v H4 s4 r => kk _ _ (s3.trans s4) fun z => ?_⟩
      have eD3 := s3 _ _ eD
      have r1 := r.keep (H' := upd H4 D (.lst z)) (A := [D]) (Keep.refl.upd (.inl (.head _))) fun b hb hn => by
        rw [List.mem_singleton] at hb
        subst hb
        rw [eD3] at hn
        cases hn
      exact r1.mono fun b hb => s2.free (s3.free hb)
    · rintro D vs H2 hD s2 eD p
      simp (maxSteps := 1000000) only [HO.lst.injEq, Option.some.injEq, exists_eq_left', V.ref.injEq, eD]
      exact fun t ht => q t vs _ (s2.upd (s2.free ht)) (s2.free ht) upd_same (paired_imp (fun _ _ r => r.same (.upd_new ht)) p)
theorem rT_spl {k : String} {fs : List Fld} (hk : 32 ∉ K81.w k) (h : ∀ f ∈ fs, f.Ok ∧ ∀ s, f ≠ .sg s) {n : Nat} (hn : fs.length ≤ n) : spl 32 n (rT k fs) = K81.w k :: fs.map fT := by
  unfold rT
  refine jW_spl (fun z => nomatch z) (by simpa using hn) fun x hx => ?_
  rcases List.mem_cons.mp hx with rfl | hx
  · exact hk
  · obtain ⟨f, hf, rfl⟩ := List.mem_map.mp hx
    exact no_32 (h f hf).1 (h f hf).2
theorem rT_ge {k : String} {fs : List Fld} : fs.length ≤ (rT k fs).length := by
  have := jW_ge (c := 32) (l := K81.w k :: fs.map fT) (fun z => nomatch z)
  rw [List.length_cons, List.length_map] at this
  unfold rT
  omega
theorem wV_cons {a : List Nat} {l : List (List Nat)} : wV (a :: l) = .str (Sg a) :: wV l := rfl
theorem cut_1 {x : V} {xs : List V} : cutV (x :: xs) (some 1) none = xs := by
  have e : HT.sIx (x :: xs).length 0 (some 1) = 1 := by simp [HT.sIx]
  have e2 : HT.sIx (x :: xs).length (x :: xs).length none = (x :: xs).length := rfl
  simp only [cutV, e, e2]
  simp
def sp_rmeas : Sp := fun vs H Q _ => ∃ ns : List Nat, vs = [.str (Sg (rT "measures" (ns.map Fld.n)))] ∧ ns.length = 10 ∧ (∀ k ∈ ns, k < 100000) ∧ ∀ p H', Same H H' → H' p = some (.tup (ns.map niV)) → Q (.ref p) H'
theorem nis_of {N : Addr → Prop} {H : Hp} {ns : List Nat} {us : List V} (p : Paired (RF N H) (ns.map Fld.n) us) : us = ns.map niV := by
  induction ns generalizing us with
  | nil => cases p; rfl
  | cons k ns ih =>
    cases p with
    | cons h t => rw [List.map_cons, ih t, show _ = niV k from h]
theorem own_rmeas {a : Addr} {bs : List Addr} {fn : Addr} (D : Def K mg "read_measures" s_read_measures) (hb : Blt mg) (B : BdAt K mg a bs) (g_read_number : ∃ u, mg "read_number" = some u ∧ RelV (.ref fn) u) (Fn : FnV P w K mg base 4 ["word", "at"] fn (sp_rd kN)) (F_read_words : Own P w K mg base 5 "read_words" ["words", "readers", "at"] (sp_rwords P w K mg base)) : Own P w K mg base 6 "read_measures" ["row"] sp_rmeas := by
  have g_BOUNDS := B.g
  refine D.own sc_read_measures (fun _ _ _ _ _ _ us hl => match us, hl with | [_], _ => rfl) (fun vs H Q E h => ?_) (fun f cdv A outer s H vs Q E hr h => ?_)
  · obtain ⟨ns, rfl, _⟩ := h
    rfl
  · obtain ⟨ns, rfl, hn, hk, q⟩ := h
    have hu := hr.units
    have hu1 : (A.deeper (PyProof.Rows.envOfC "read_measures" (defScope s_read_measures) s.heap.objs.size f cdv)).units + 1 < cLine := by omega
    have e32 : Str.ofString " " = Sg [32] := S_of _
    have okf : okF (ns.map Fld.n) := fun f hf => by
      obtain ⟨k, hk', rfl⟩ := List.mem_map.mp hf
      exact hk k hk'
    have hrl : (rT "measures" (ns.map Fld.n)).length ≤ 1000 := rT_len (by decide) (by simp [hn]) okf (.inr fun f hf => by
      obtain ⟨k, hk', rfl⟩ := List.mem_map.mp hf
      exact nT_len5 (hk k hk'))
    refine ⟨_, (pss_cons (ps_set (i:=1) sc_read_measures.nd rfl (by first | exact Or.inl rfl | exact Or.inr rfl) (pe_splS (pv 0) pe_str (by constructor <;> rfl))) (pss_cons (ps_if (pt_cmpR op_ne (pe_ix (ix_get hu1) (pv 1) pe_int (fun _ _ => rfl)) pe_str (nomark _)) (pss_one ps_never) pss_nil) (pss_one (ps_ret (pe_fn F_read_words hr (pa_cX (pe_slice sl_X (pv 1) (po_some pe_int) po_none) (pa_cX (pe_op op_rep (pe_lst (pa_cX (pe_glb g_read_number) pa_nil)) (pe_callB (call_lenK K) rfl (hb _ (by decide)) bt_len (pa_cX (pe_glb g_BOUNDS) pa_nil))) (pa_cX pe_int pa_nil)))))))), ?_⟩
    simp (maxSteps := 1000000) only [rGet, getO_l, rSlX, Nat.reduceSub, upd_same, Nat.reduceAdd, tNever, rLen, tSl, tNoPart, tPart, List.cons.injEq, tSeq, exists_and_left, tIfS, tTest, tOp, tVar, tC, tRet, tAsg, gName, tNext, tCall, tCons, tNil, tCB, tLst, L2.start, List.map_cons, List.map_nil, List.length_cons, List.length_nil, List.replicate, List.cons_append, List.nil_append, List.getElem?_cons_zero, List.getElem?_cons_succ, List.set_cons_zero, List.set_cons_succ, Option.some.injEq, exists_eq_left', V.int.injEq, V.ref.injEq, V.str.injEq, and_true, List.append_nil, tSplS, e32]
    refine ⟨_, rfl, 32, rfl, by decide, by omega, ?_⟩
    rw [rT_spl (by decide) (fun f hf => ⟨okf f hf, fun s e => by
      obtain ⟨k, hk', rfl⟩ := List.mem_map.mp hf
      cases e⟩) (by have := rT_ge (k := "measures") (fs := ns.map Fld.n); omega)]
    intro p1 n1
    generalize z1 : upd H p1 _ = H1
    obtain ⟨s1, e1⟩ := new_same z1 n1
    have em : Str.ofString "measures" = Sg (K81.w "measures") := S_of _
    simp (maxSteps := 1000000) only [rNe_ss, atI_0, HO.lst.injEq, decide_true, Bool.not_true, if_false, Bool.false_eq_true, Option.some.injEq, exists_eq_left', V.bl.injEq, e1, em, cut_1, wV_cons]
    intro p2 n2
    generalize z2 : upd H1 p2 _ = H2
    obtain ⟨s2, e2⟩ := new_same z2 n2
    refine ⟨by rw [sizeLine_eq]; decide, ?_⟩
    intro p3 n3
    generalize z3 : upd H2 p3 _ = H3
    obtain ⟨s3, e3⟩ := new_same z3 n3
    refine ⟨_, .inr (B.t H3), ?_⟩
    rw [List.length_map, B.l]
    refine ⟨p3, _, _, rfl, rfl, e3, by decide, by decide, by rw [sizeLine_eq]; change 1 * 10 ≤ _; decide, ?_⟩
    intro p4 n4
    generalize z4 : upd H3 p4 _ = H4
    obtain ⟨s4, e4⟩ := new_same z4 n4
    refine ⟨p2, p4, .int 0, false, _, ns.map Fld.n, rfl, (s3.trans s4) _ _ e2, SqL.of e4, ?_, okf, by simp [hn], fun p us H' s' hp ep pr => q p H' ((((s1.trans s2).trans s3).trans s4).trans s') (by rw [ep, nis_of pr])⟩
    have hrep : (List.replicate (Int.toNat ((10 : Nat) : Int)) [V.ref fn]).flatten = (ns.map Fld.n).map fun _ => V.ref fn := by
      rw [List.map_map]
      have : ns.map ((fun _ => V.ref fn) ∘ Fld.n) = List.replicate 10 (V.ref fn) := by
        rw [← hn]
        exact List.map_const' ..
      rw [this]
      rfl
    rw [hrep]
    have : ∀ l : List Nat, Paired (Rdr P w K mg base) (l.map Fld.n) ((l.map Fld.n).map fun _ => V.ref fn) := fun l => by
      induction l with
      | nil => exact .nil
      | cons k l ih => exact .cons ⟨fn, kN, rfl, Fn, k, rfl⟩ ih
    exact this ns
structure Fns (P : Program) (w : World) (K : PySem.W.Frag) (mg : Str → Option Value) (base : Heap) (fn fp fd fm fs : Addr) : Prop where
  n : FnV P w K mg base 4 ["word", "at"] fn (sp_rd kN)
  p : FnV P w K mg base 4 ["word", "at"] fp (sp_rd kO)
  d : FnV P w K mg base 4 ["word", "at"] fd (sp_rd kD)
  m : FnV P w K mg base 4 ["word", "at"] fm (sp_rd kM)
  s : FnV P w K mg base 4 ["word", "at"] fs (sp_rd kS)
def KT (K : PySem.W.Frag) (t : Addr) (l : List Addr) : Prop := ∀ H, SqT K H t (l.map V.ref)
structure Tabs (K : PySem.W.Frag) (mg : Str → Option Value) (fn fp fd fm fs ar tl tc tr aw tb te tp ti tf ta : Addr) : Prop where
  gn : ∃ u, mg "read_number" = some u ∧ RelV (.ref fn) u
  gr : ∃ u, mg "ROW_READERS" = some u ∧ RelV (.ref ar) u
  gw : ∃ u, mg "WISH_READERS" = some u ∧ RelV (.ref aw) u
  kr : KD K ar [("line", .ref tl), ("change", .ref tc), ("road", .ref tr)]
  kw : KD K aw [("begin", .ref tb), ("end", .ref te), ("put", .ref tp), ("bind", .ref ti), ("free", .ref tf), ("ask", .ref ta)]
  tl : KT K tl [fn, fn, fp]
  tc : KT K tc [fn, fn, fn, fp]
  tr : KT K tr [fn, fn, fd]
  tb : KT K tb [fn]
  te : KT K te [fn]
  tp : KT K tp [fn, fs]
  ti : KT K ti [fm]
  tf : KT K tf [fm]
  ta : KT K ta [fm]
section
variable {fn fp fd fm fs ar tl tc tr aw tb te tp ti tf ta : Addr}
theorem Tabs.wish (T : Tabs K mg fn fp fd fm fs ar tl tc tr aw tb te tp ti tf ta) (F : Fns P w K mg base fn fp fd fm fs) {x : Wt} (h : x.Ok) : ∃ t l, PyProof.Rows.KTD.datumAt (Sg x.wd) [("begin", V.ref tb), ("end", .ref te), ("put", .ref tp), ("bind", .ref ti), ("free", .ref tf), ("ask", .ref ta)] = some (.ref t) ∧ KT K t l ∧ Paired (Rdr P w K mg base) x.fs (l.map V.ref) := by
  cases x with
  | one v f =>
    change ∃ t l, PyProof.Rows.KTD.datumAt (Sg v) _ = _ ∧ _ ∧ Paired _ [f] _
    rcases h with ⟨h | h, k, rfl, hk⟩ | ⟨h | h | h, z, rfl, hz⟩ <;> subst h
    · exact ⟨tb, [fn], by rw [← S_of]; rfl, T.tb, .cons ⟨fn, kN, rfl, F.n, k, rfl⟩ .nil⟩
    · exact ⟨te, [fn], by rw [← S_of]; rfl, T.te, .cons ⟨fn, kN, rfl, F.n, k, rfl⟩ .nil⟩
    · exact ⟨ti, [fm], by rw [← S_of]; rfl, T.ti, .cons ⟨fm, kM, rfl, F.m, z, rfl⟩ .nil⟩
    · exact ⟨tf, [fm], by rw [← S_of]; rfl, T.tf, .cons ⟨fm, kM, rfl, F.m, z, rfl⟩ .nil⟩
    · exact ⟨ta, [fm], by rw [← S_of]; rfl, T.ta, .cons ⟨fm, kM, rfl, F.m, z, rfl⟩ .nil⟩
  | put k s =>
    change ∃ t l, PyProof.Rows.KTD.datumAt (Sg (K81.w "put")) _ = _ ∧ _ ∧ Paired _ [Fld.n k, Fld.sg s] _
    exact ⟨tp, [fn, fs], by rw [← S_of]; rfl, T.tp, .cons ⟨fn, kN, rfl, F.n, k, rfl⟩ (.cons ⟨fs, kS, rfl, F.s, s, rfl⟩ .nil)⟩
end
theorem wd_no {x : Wt} (h : x.Ok) : 32 ∉ x.wd := by
  cases x with
  | one v f =>
    change 32 ∉ v
    rcases h with ⟨h | h, _⟩ | ⟨h | h | h, _⟩ <;> subst h <;> decide
  | put k s => exact (by decide : 32 ∉ K81.w "put")
theorem wT_spl {s : Ws} (h : s.Ok) : spl 32 5 (wT s) = K81.w "wish" :: nT s.t :: nT s.h :: s.x.wd :: s.x.fs.map fT := by
  obtain ⟨t, hh, x⟩ := s
  have hx : x.Ok := h.2.2
  have n1 : 32 ∉ nT t := no_nT (by decide)
  have n2 : 32 ∉ nT hh := no_nT (by decide)
  have n3 := wd_no hx
  unfold wT Wt.words
  cases x with
  | one v f =>
    refine jW_spl (fun z => nomatch z) (by simp [Wt.fs]) fun y hy => ?_
    have nf : 32 ∉ fT f := by
      rcases hx with ⟨_, k, rfl, _⟩ | ⟨_, z, rfl, hz⟩
      · exact no_nT (by decide)
      · exact fun hm => by have := hz.2.2 _ hm; omega
    simp only [Wt.fs, List.map_cons, List.map_nil, List.mem_cons, List.not_mem_nil, or_false] at hy
    rcases hy with rfl | rfl | rfl | rfl | rfl
    · decide
    · exact n1
    · exact n2
    · exact n3
    · exact nf
  | put k z =>
    have := jW_splR (c := 32) (l := [K81.w "wish", nT t, nT hh, K81.w "put", nT k]) (r := z) fun y hy => by
      simp only [List.mem_cons, List.not_mem_nil, or_false] at hy
      rcases hy with rfl | rfl | rfl | rfl | rfl
      · decide
      · exact n1
      · exact n2
      · decide
      · exact no_nT (by decide)
    exact this
theorem cut_13 {a b c : V} {xs : List V} : cutV (a :: b :: c :: xs) (some 1) (some 3) = [b, c] := by
  have e : HT.sIx (a :: b :: c :: xs).length 0 (some 1) = 1 := by simp [HT.sIx]
  have e2 : HT.sIx (a :: b :: c :: xs).length (a :: b :: c :: xs).length (some 3) = 3 := by simp [HT.sIx]
  simp only [cutV, e, e2]
  simp
theorem cut_4 {a b c d : V} {xs : List V} : cutV (a :: b :: c :: d :: xs) (some 4) none = xs := by
  have e : HT.sIx (a :: b :: c :: d :: xs).length 0 (some 4) = 4 := by simp [HT.sIx]
  have e2 : HT.sIx (a :: b :: c :: d :: xs).length (a :: b :: c :: d :: xs).length none = (a :: b :: c :: d :: xs).length := rfl
  simp only [cutV, e, e2]
  simp
def sp_rwish : Sp := fun vs H Q _ => ∃ (s : Ws) (a : V), vs = [.str (Sg (wT s)), a] ∧ s.Ok ∧ ∀ v H', Same H H' → RWs (fun b => H b = none) H' s v → Q v H'
set_option maxHeartbeats 2000000 in
theorem own_rwish {fn fp fd fm fs ar tl tc tr aw tb te tp ti tf ta : Addr} (D : Def K mg "read_wish" s_read_wish) (hb : Blt mg) (T : Tabs K mg fn fp fd fm fs ar tl tc tr aw tb te tp ti tf ta) (F : Fns P w K mg base fn fp fd fm fs) (F_read_words : Own P w K mg base 5 "read_words" ["words", "readers", "at"] (sp_rwords P w K mg base)) : Own P w K mg base 6 "read_wish" ["row", "at"] sp_rwish := by
  have g_read_number := T.gn
  have g_WISH_READERS := T.gw
  refine D.own sc_read_wish (fun _ _ _ _ _ _ us hl => match us, hl with | [_, _], _ => rfl) (fun vs H Q E h => ?_) (fun f cdv A outer s H vs Q E hr h => ?_)
  · obtain ⟨s, a, rfl, _⟩ := h
    rfl
  · obtain ⟨y, a, rfl, ok, q⟩ := h
    have hu := hr.units
    have hu1 : (A.deeper (PyProof.Rows.envOfC "read_wish" (defScope s_read_wish) s.heap.objs.size f cdv)).units + 1 < cLine := by omega
    have e32 : Str.ofString " " = Sg [32] := S_of _
    have eput := S_put
    have hl := wT_len ok
    obtain ⟨t, l, ht, kt, pr⟩ := T.wish F ok.2.2
    refine ⟨_, (pss_cons (ps_set (i:=2) sc_read_wish.nd rfl (by first | exact Or.inl rfl | exact Or.inr rfl) (pe_splM (pv 0) pe_str pe_int (by constructor <;> rfl))) (pss_cons (ps_if (@PW.pt _ _ _ (pw_or (pt_cmpR op_lt (pe_callB call_lenX rfl (hb _ (by decide)) bt_len (pa_cX (pv 2) pa_nil)) pe_int (nomark _)) (pw_or1 (pt_cmpR (op_kNotIn (K := K)) (pe_ix (ix_get hu1) (pv 2) pe_int (fun _ _ => rfl)) (pe_glb g_WISH_READERS) rfl)))) (pss_one ps_never) pss_nil) (pss_cons (ps_set (i:=3) sc_read_wish.nd rfl (by first | exact Or.inl rfl | exact Or.inr rfl) (pe_fn F_read_words hr (pa_cX (pe_slice sl_X (pv 2) (po_some pe_int) (po_some pe_int)) (pa_cX (pe_tup (pa_cX (pe_glb g_read_number) (pa_cX (pe_glb g_read_number) pa_nil))) (pa_cX (pv 1) pa_nil))))) (pss_cons (ps_set (i:=4) sc_read_wish.nd rfl (by first | exact Or.inl rfl | exact Or.inr rfl) (pe_fn F_read_words hr (pa_cX (pe_slice sl_X (pv 2) (po_some pe_int) po_none) (pa_cX (pe_kget (K:=K) (pe_glb g_WISH_READERS) (pe_ix (ix_get hu1) (pv 2) pe_int (fun _ _ => rfl)) (by intro _ _; rfl)) (pa_cX (pv 1) pa_nil))))) (pss_one (ps_ret (pe_op (op_catTK (K := K)) (pv 3) (pe_tup (pa_cX (pe_ix (ix_get hu1) (pv 2) pe_int (fun _ _ => rfl)) (pa_cX (pe_ifExp (pt_cmpR op_eq (pe_ix (ix_get hu1) (pv 2) pe_int (fun _ _ => rfl)) pe_str (nomark _)) (pv 4) (pe_ix (ix_get hu1) (pv 4) pe_int (fun _ _ => rfl))) pa_nil)))))))))), ?_⟩
    simp (maxSteps := 1000000) only [rGet, getO_l, rLenX, lenX_r, lenO_l, Option.bind_some, rSlX, Nat.reduceSub, upd_same, HO.lst.injEq, Nat.reduceAdd, tNever, tSl, tNoPart, tPart, List.cons.injEq, tSeq, exists_and_left, if_true, tIfS, tOr, tTest, tOp, tVar, tC, rI0, tRet, tAsg, gName, tNext, tIf, tCall, tCons, tNil, tCB, tTup, L2.start, List.map_cons, List.map_nil, List.length_cons, List.length_nil, List.replicate, List.cons_append, List.nil_append, List.getElem?_cons_zero, List.getElem?_cons_succ, List.set_cons_zero, List.set_cons_succ, Option.some.injEq, exists_eq_left', V.int.injEq, V.bl.injEq, V.ref.injEq, V.str.injEq, and_true, List.append_nil, tSplM, e32]
    refine ⟨_, rfl, 32, rfl, 5, rfl, by decide, by decide, by omega, ?_⟩
    rw [wT_spl ok]
    intro p1 n1
    generalize z1 : upd H p1 _ = H1
    obtain ⟨s1, e1⟩ := new_same z1 n1
    simp (maxSteps := 1000000) only [atI_3, HO.lst.injEq, exists_and_left, if_false, Bool.false_eq_true, List.length_cons, Option.some.injEq, exists_eq_left', V.bl.injEq, V.ref.injEq, V.str.injEq, e1, wV_cons, rKNotIn, cut_13]
    rw [if_neg (by intro z; have := of_decide_eq_true z; omega)]
    refine ⟨_, T.kw, _, ht, ?_⟩
    intro p2 n2
    generalize z2 : upd H1 p2 _ = H2
    obtain ⟨s2, e2⟩ := new_same z2 n2
    refine ⟨by rw [sizeLine_eq]; decide, ?_⟩
    intro p3 n3
    generalize z3 : upd H2 p3 _ = H3
    obtain ⟨s3, e3⟩ := new_same z3 n3
    refine ⟨p2, p3, a, true, _, [.n y.t, .n y.h], rfl, s3 _ _ e2, SqT.of e3, .cons ⟨fn, kN, rfl, F.n, _, rfl⟩ (.cons ⟨fn, kN, rfl, F.n, _, rfl⟩ .nil), (fun f hf => ?_), by simp, fun pw us H4 s4 hpw epw pr1 => ?_⟩
    · simp only [List.mem_cons, List.not_mem_nil, or_false] at hf
      rcases hf with rfl | rfl
      · exact ok.1
      · exact ok.2.1
    have eus : us = [niV y.t, niV y.h] := nis_of (ns := [y.t, y.h]) pr1
    subst eus
    have s14 := (s2.trans s3).trans s4
    have e14 := s14 _ _ e1
    simp (maxSteps := 1000000) only [rGet, HO.lst.injEq, exists_and_left, tOp, tVar, tC, List.getElem?_cons_zero, List.getElem?_cons_succ, Option.some.injEq, exists_eq_left', V.ref.injEq, e14, wV_cons, cut_4, tKGet]
    intro p5 n5
    generalize z5 : upd H4 p5 _ = H5
    obtain ⟨s5, e5⟩ := new_same z5 n5
    have e15 := s5 _ _ e14
    simp (maxSteps := 1000000) only [getO_l, atI_3, Option.some.injEq, exists_eq_left', V.str.injEq, e15, wV_cons]
    refine ⟨_, T.kw, _, ht, p5, t, a, true, _, y.x.fs, rfl, e5, kt H5, pr, Wt.okF ok.2.2, by have := y.x.fs_len; omega, fun px us H6 s6 hpx epx pr2 => ?_⟩
    have e16 := s6 _ _ e15
    have epw6 := (s5.trans s6) _ _ epw
    have sAll : Same H H6 := ((s1.trans s14).trans s5).trans s6
    have fresh : ∀ b, H5 b = none → H b = none := fun b hb => ((s1.trans s14).trans s5).free hb
    simp (maxSteps := 1000000) only [rEq_ss, getO_l, atI_3, Option.some.injEq, exists_eq_left', V.bl.injEq, V.ref.injEq, e16, wV_cons, eput, S_eq]
    have fin : ∀ (v : V) (H7 : Hp), Same H6 H7 → RWt (fun b => H b = none) H7 y.x v → ∀ pq, H7 pq = none → rCatT K (.ref pw) (.ref pq) (upd H7 pq (.tup [.str (Sg y.x.wd), v])) Q := fun v H7 s7 r pq hq => by
      have s8 : Same H7 (upd H7 pq (.tup [.str (Sg y.x.wd), v])) := .upd_new hq
      refine ⟨pw, pq, _, _, rfl, rfl, SqT.of (s8 _ _ (s7 _ _ epw6)), SqT.of upd_same, (fun z => nomatch z), by rw [sizeLine_eq]; change 2 + 2 ≤ _; decide, (fun z => nomatch z), fun _ p hp => q _ _ ?_ ⟨p, v, rfl, ?_, upd_same, ?_⟩⟩
      · exact ((sAll.trans s7).trans s8).trans (.upd_new hp)
      · exact ((sAll.trans s7).trans s8).free hp
      · exact r.same (s8.trans (.upd_new hp))
    cases hx : y.x with
    | put k z =>
      rw [hx] at pr2 fin
      obtain ⟨v1, v2, rfl, r1, r2⟩ : ∃ v1 v2, us = [v1, v2] ∧ RF (fun b => H5 b = none) H6 (.n k) v1 ∧ RF (fun b => H5 b = none) H6 (.sg z) v2 := by
        cases pr2 with | cons h1 t => cases t with | cons h2 t => cases t; exact ⟨_, _, rfl, h1, h2⟩
      obtain rfl : v1 = niV k := r1
      obtain rfl : v2 = .str (Sg z) := r2
      exact iteT ⟨by rw [sizeLine_eq]; decide, fun pq hq => fin _ _ (.refl _) ⟨px, rfl, fresh _ hpx, epx⟩ pq hq⟩
    | one v g =>
      rw [hx] at pr2 fin
      have hne := one_put (hx ▸ ok.2.2)
      obtain ⟨v1, rfl, r1⟩ : ∃ v1, us = [v1] ∧ RF (fun b => H5 b = none) H6 g v1 := by
        cases pr2 with | cons h1 t => cases t; exact ⟨_, rfl, h1⟩
      rw [if_neg (by intro z; exact hne (of_decide_eq_true z))]
      exact ⟨_, epx, _, atI_0, by rw [sizeLine_eq]; decide, fun pq hq => fin _ _ (.refl _) (r1.mono fresh) pq hq⟩
inductive Rw
  | ln (fs : List Fld)
  | ch (fs : List Fld)
  | rd (fs : List Fld)
  | ws (s : Ws)
def Rw.Ok : Rw → Prop
  | .ln fs => kLn fs ∧ okF fs
  | .ch fs => kCh fs ∧ okF fs
  | .rd fs => kRd fs ∧ okF fs
  | .ws s => s.Ok
def Rw.kd : Rw → String
  | .ln _ => "line"
  | .ch _ => "change"
  | .rd _ => "road"
  | .ws _ => "wish"
def Rw.T : Rw → List Nat
  | .ln fs => rT "line" fs
  | .ch fs => rT "change" fs
  | .rd fs => rT "road" fs
  | .ws s => wT s
def RRw (N : Addr → Prop) (H : Hp) : Rw → V → Prop
  | .ln fs, v => RR N H fs v
  | .ch fs, v => RR N H fs v
  | .rd fs, v => RR N H fs v
  | .ws s, v => RWs N H s v
def sp_rrow : Sp := fun vs H Q _ => ∃ (r : Rw) (a : V), vs = [.str (Sg r.T), .str (Str.ofString r.kd), a] ∧ r.Ok ∧ ∀ v H', Same H H' → RRw (fun b => H b = none) H' r v → Q v H'
theorem nosg {fs : List Fld} (h : kLn fs ∨ kCh fs ∨ kRd fs) : ∀ f ∈ fs, ∀ s, f ≠ .sg s := by
  rcases h with ⟨a, b, p, rfl⟩ | ⟨t, a, b, p, rfl⟩ | ⟨a, b, d, rfl⟩ <;> intro f hf s e <;> subst e <;> simp at hf
theorem own_rflat {H : Hp} {Q : VK} {k : String} {g : List Fld} {a : V} {t : Addr} {l : List Addr} {E : XK} (hk : 32 ∉ K81.w k) (hkl : (K81.w k).length ≤ 20) (ok : okF g) (hg : kLn g ∨ kCh g ∨ kRd g) (kt : KT K t l) (pr : Paired (Rdr P w K mg base) g (l.map V.ref)) (q : ∀ v H', Same H H' → RR (fun b => H b = none) H' g v → Q v H') :
    (rT k g).length ≤ 100000 ∧ ∀ p, H p = none → ∀ p2, upd H p (.lst (wV (spl 32 ((rT k g).length + 1) (rT k g)))) p2 = none → sp_rwords P w K mg base [.ref p2, .ref t, a] (upd (upd H p (.lst (wV (spl 32 ((rT k g).length + 1) (rT k g))))) p2 (.lst (cutV (wV (spl 32 ((rT k g).length + 1) (rT k g))) (some 1) none))) Q E := by
  have h4 : g.length ≤ 4 := by
    rcases hg with h | h | h
    · exact h.len
    · exact h.len
    · exact h.len
  have hl := rT_len hkl (by omega) ok (.inl h4)
  refine ⟨by omega, fun p1 n1 p2 n2 => ?_⟩
  rw [rT_spl hk (fun f hf => ⟨ok f hf, nosg hg f hf⟩) (by have := rT_ge (k := k) (fs := g); omega)] at n2 ⊢
  generalize z1 : upd H p1 _ = H1 at n2 ⊢
  obtain ⟨s1, e1⟩ := new_same z1 n1
  generalize z2 : upd H1 p2 _ = H2
  obtain ⟨s2, e2⟩ := new_same z2 n2
  rw [wV_cons, cut_1] at e2
  refine ⟨p2, t, a, true, _, g, rfl, e2, kt H2, pr, ok, by omega, fun p us H3 s3 hp ep pu => q _ _ ((s1.trans s2).trans s3) ⟨p, us, rfl, (s1.trans s2).free hp, ep, paired_imp (fun _ _ r => r.mono fun b hb => (s1.trans s2).free hb) pu⟩⟩
theorem own_rrow {fn fp fd fm fs ar tl tc tr aw tb te tp ti tf ta : Addr} (D : Def K mg "read_row" s_read_row) (T : Tabs K mg fn fp fd fm fs ar tl tc tr aw tb te tp ti tf ta) (F : Fns P w K mg base fn fp fd fm fs) (F_read_words : Own P w K mg base 5 "read_words" ["words", "readers", "at"] (sp_rwords P w K mg base)) (F_read_wish : Own P w K mg base 6 "read_wish" ["row", "at"] sp_rwish) : Own P w K mg base 7 "read_row" ["row", "kind", "at"] sp_rrow := by
  have g_ROW_READERS := T.gr
  refine D.own sc_read_row (fun _ _ _ _ _ _ us hl => match us, hl with | [_, _, _], _ => rfl) (fun vs H Q E h => ?_) (fun f cdv A outer s H vs Q E hr h => ?_)
  · obtain ⟨s, a, rfl, _⟩ := h
    rfl
  · obtain ⟨r, a, rfl, ok, q⟩ := h
    have hu := hr.units
    have hu1 : (A.deeper (PyProof.Rows.envOfC "read_row" (defScope s_read_row) s.heap.objs.size f cdv)).units + 1 < cLine := by omega
    have e32 : Str.ofString " " = Sg [32] := S_of _
    refine ⟨_, (pss_cons (ps_if (pt_cmpR op_eq (pv 1) pe_str (nomark _)) (pss_one (ps_ret (pe_fn F_read_wish hr (pa_cX (pv 0) (pa_cX (pv 2) pa_nil))))) pss_nil) (pss_one (ps_ret (pe_fn F_read_words hr (pa_cX (pe_slice sl_X (pe_splS (pv 0) pe_str (by constructor <;> rfl)) (po_some pe_int) po_none) (pa_cX (pe_kget (K:=K) (pe_glb g_ROW_READERS) (pv 1) (by intro _ _; rfl)) (pa_cX (pv 2) pa_nil))))))), ?_⟩
    cases r with
    | ws y =>
      simp (maxSteps := 1000000) only [rEq_ss, rSlX, Nat.reduceSub, Nat.reduceAdd, decide_true, tSl, tNoPart, tPart, tSeq, exists_and_left, if_true, tIfS, tTest, tOp, tVar, tC, tRet, tNext, tCall, tCons, tNil, L2.start, List.map_cons, List.map_nil, List.length_cons, List.length_nil, List.replicate, List.getElem?_cons_zero, List.getElem?_cons_succ, Option.some.injEq, exists_eq_left', V.int.injEq, V.bl.injEq, List.append_nil, Rw.kd, Rw.T]
      exact ⟨y, a, rfl, ok, q⟩
    | ln g =>
      have hne : (Str.ofString "line" = Str.ofString "wish") = False := by simp; decide
      simp (maxSteps := 1000000) only [rEq_ss, rSlX, Nat.reduceSub, upd_same, HO.lst.injEq, Nat.reduceAdd, decide_false, tSl, tNoPart, tPart, tSeq, exists_and_left, if_false, Bool.false_eq_true, tIfS, tTest, tOp, tVar, tC, tRet, tNext, tCall, tCons, tNil, L2.start, List.map_cons, List.map_nil, List.length_cons, List.length_nil, List.replicate, List.getElem?_cons_zero, List.getElem?_cons_succ, Option.some.injEq, exists_eq_left', V.int.injEq, V.bl.injEq, V.ref.injEq, V.str.injEq, List.append_nil, Rw.kd, Rw.T, hne, tSplS, e32, tKGet]
      obtain ⟨⟨x, y, o, rfl⟩, okf⟩ := ok
      obtain ⟨z1, z2⟩ := own_rflat (P := P) (w := w) (K := K) (mg := mg) (base := base) (k := "line") (a := a) (E := E0) (by decide) (by decide) okf (.inl ⟨x, y, o, rfl⟩) T.tl (.cons ⟨fn, kN, rfl, F.n, _, rfl⟩ (.cons ⟨fn, kN, rfl, F.n, _, rfl⟩ (.cons ⟨fp, kO, rfl, F.p, _, rfl⟩ .nil))) q
      exact ⟨_, rfl, 32, rfl, by decide, z1, fun p1 n1 p2 n2 => ⟨_, T.kr, .ref tl, rfl, z2 p1 n1 p2 n2⟩⟩
    | ch g =>
      have hne : (Str.ofString "change" = Str.ofString "wish") = False := by simp; decide
      simp (maxSteps := 1000000) only [rEq_ss, rSlX, Nat.reduceSub, upd_same, HO.lst.injEq, Nat.reduceAdd, decide_false, tSl, tNoPart, tPart, tSeq, exists_and_left, if_false, Bool.false_eq_true, tIfS, tTest, tOp, tVar, tC, tRet, tNext, tCall, tCons, tNil, L2.start, List.map_cons, List.map_nil, List.length_cons, List.length_nil, List.replicate, List.getElem?_cons_zero, List.getElem?_cons_succ, Option.some.injEq, exists_eq_left', V.int.injEq, V.bl.injEq, V.ref.injEq, V.str.injEq, List.append_nil, Rw.kd, Rw.T, hne, tSplS, e32, tKGet]
      obtain ⟨⟨u, x, y, o, rfl⟩, okf⟩ := ok
      obtain ⟨z1, z2⟩ := own_rflat (P := P) (w := w) (K := K) (mg := mg) (base := base) (k := "change") (a := a) (E := E0) (by decide) (by decide) okf (.inr (.inl ⟨u, x, y, o, rfl⟩)) T.tc (.cons ⟨fn, kN, rfl, F.n, _, rfl⟩ (.cons ⟨fn, kN, rfl, F.n, _, rfl⟩ (.cons ⟨fn, kN, rfl, F.n, _, rfl⟩ (.cons ⟨fp, kO, rfl, F.p, _, rfl⟩ .nil)))) q
      exact ⟨_, rfl, 32, rfl, by decide, z1, fun p1 n1 p2 n2 => ⟨_, T.kr, .ref tc, rfl, z2 p1 n1 p2 n2⟩⟩
    | rd g =>
      have hne : (Str.ofString "road" = Str.ofString "wish") = False := by simp; decide
      simp (maxSteps := 1000000) only [rEq_ss, rSlX, Nat.reduceSub, upd_same, HO.lst.injEq, Nat.reduceAdd, decide_false, tSl, tNoPart, tPart, tSeq, exists_and_left, if_false, Bool.false_eq_true, tIfS, tTest, tOp, tVar, tC, tRet, tNext, tCall, tCons, tNil, L2.start, List.map_cons, List.map_nil, List.length_cons, List.length_nil, List.replicate, List.getElem?_cons_zero, List.getElem?_cons_succ, Option.some.injEq, exists_eq_left', V.int.injEq, V.bl.injEq, V.ref.injEq, V.str.injEq, List.append_nil, Rw.kd, Rw.T, hne, tSplS, e32, tKGet]
      obtain ⟨⟨x, y, d, rfl⟩, okf⟩ := ok
      obtain ⟨z1, z2⟩ := own_rflat (P := P) (w := w) (K := K) (mg := mg) (base := base) (k := "road") (a := a) (E := E0) (by decide) (by decide) okf (.inr (.inr ⟨x, y, d, rfl⟩)) T.tr (.cons ⟨fn, kN, rfl, F.n, _, rfl⟩ (.cons ⟨fn, kN, rfl, F.n, _, rfl⟩ (.cons ⟨fd, kD, rfl, F.d, _, rfl⟩ .nil))) q
      exact ⟨_, rfl, 32, rfl, by decide, z1, fun p1 n1 p2 n2 => ⟨_, T.kr, .ref tr, rfl, z2 p1 n1 p2 n2⟩⟩
end
end K81
namespace K81
open PySem L2
def kz : List Str := ["line", "change", "road", "wish"]
def kI : Rw → Nat
  | .ln _ => 0
  | .ch _ => 1
  | .rd _ => 2
  | .ws _ => 3
theorem kI_kz (r : Rw) : kz[kI r]? = some (Str.ofString r.kd) ∧ ∀ k, k < kI r → kz[k]? ≠ some (Str.ofString r.kd) := by
  have h1 : ∀ k : Fin 1, kz[k.val]? ≠ some (Str.ofString "change") := by decide
  have h2 : ∀ k : Fin 2, kz[k.val]? ≠ some (Str.ofString "road") := by decide
  have h3 : ∀ k : Fin 3, kz[k.val]? ≠ some (Str.ofString "wish") := by decide
  cases r with
  | ln f => exact ⟨rfl, fun k hk => absurd hk (Nat.not_lt_zero _)⟩
  | ch f => exact ⟨rfl, fun k hk => h1 ⟨k, hk⟩⟩
  | rd f => exact ⟨rfl, fun k hk => h2 ⟨k, hk⟩⟩
  | ws f => exact ⟨rfl, fun k hk => h3 ⟨k, hk⟩⟩
theorem kI_lt (r : Rw) : kI r < 4 := by cases r <;> simp [kI]
theorem tw_jW {p q : List Nat} {r : List (List Nat)} (h : 32 ∉ p) : (jW 32 (p :: q :: r)).takeWhile (· != 32) = p := by
  rw [jW_cons]
  induction p with
  | nil => rfl
  | cons c p ih =>
    have hc : c ≠ 32 := fun e => h (by rw [e]; exact .head _)
    rw [List.cons_append, List.takeWhile_cons]
    simp only [bne_iff_ne, ne_eq, hc, not_false_eq_true, if_true]
    rw [ih fun hm => h (.tail _ hm)]
theorem tw_T {r : Rw} (h : r.Ok) : r.T.takeWhile (· != 32) = w r.kd := by
  cases r with
  | ln f => obtain ⟨⟨a, b, p, rfl⟩, _⟩ := h; exact tw_jW (by decide)
  | ch f => obtain ⟨⟨t, a, b, p, rfl⟩, _⟩ := h; exact tw_jW (by decide)
  | rd f => obtain ⟨⟨a, b, p, rfl⟩, _⟩ := h; exact tw_jW (by decide)
  | ws s => exact tw_jW (by decide)
theorem T_len {r : Rw} (h : r.Ok) : r.T.length ≤ 1000 := by
  cases r with
  | ln f => have := h.1.len; exact rT_len (by decide) (by omega) h.2 (.inl this)
  | ch f => have := h.1.len; exact rT_len (by decide) (by omega) h.2 (.inl this)
  | rd f => have := h.1.len; exact rT_len (by decide) (by omega) h.2 (.inl this)
  | ws s => exact wT_len h
section
variable {N N' : Addr → Prop} {H H' : Hp} {A : List Addr}
theorem RRw.keep (k : Keep A H H') (hA : ∀ b ∈ A, ¬ N b) : ∀ {r : Rw} {v : V}, RRw N H r v → RRw N H' r v
  | .ln _, _, h => RR.keep k hA h
  | .ch _, _, h => RR.keep k hA h
  | .rd _, _, h => RR.keep k hA h
  | .ws _, _, h => RWs.keep k hA h
theorem RRw.mono (m : ∀ a, N a → N' a) : ∀ {r : Rw} {v : V}, RRw N H r v → RRw N' H r v
  | .ln _, _, h => RR.mono m h
  | .ch _, _, h => RR.mono m h
  | .rd _, _, h => RR.mono m h
  | .ws _, _, h => RWs.mono m h
theorem RRw.same (s : Same H H') {r : Rw} {v : V} (h : RRw N H r v) : RRw N H' r v := h.keep (A := []) s.keep (fun _ z => nomatch z)
end
def sel (j : Nat) (l : List Rw) : List Rw := l.filter fun r => decide (kI r = j)
def told (q : Nat → Addr) : List (Key × V) := [(Sum.inr "line", .ref (q 0)), (Sum.inr "change", .ref (q 1)), (Sum.inr "road", .ref (q 2)), (Sum.inr "wish", .ref (q 3))]
theorem told_at (q : Nat → Addr) (r : Rw) : valV (told q) (Sum.inr (Str.ofString r.kd)) = some (.ref (q (kI r))) := by
  cases r <;> rfl
def QL (N : Addr → Prop) (q : Nat → Addr) (l : List Rw) (H : Hp) : Prop := ∀ j, j < 4 → ∃ us, H (q j) = some (.lst us) ∧ Paired (RRw N H) (sel j l) us
def KIn (H1 : Hp) (D : Addr) (i : Nat) (acc : List V) (H' : Hp) : Prop := ∃ p q : Nat → Addr, acc = (List.range i).map (fun j => V.ref (p j)) ∧ Same H1 H' ∧ H' D = some (.lst acc) ∧
  (∀ j, j < i → ∃ z, kz[j]? = some z ∧ H' (p j) = some (.tup [.str z, .ref (q j)]) ∧ H' (q j) = some (.lst []) ∧ q j ≠ D ∧ p j ≠ D ∧ H1 (q j) = none) ∧ ∀ j k, j < i → k < i → j ≠ k → q j ≠ q k
theorem KIn.step {H1 H2 : Hp} {D : Addr} {i : Nat} {acc : List V} {z : Str} {x y : Addr} (h : KIn H1 D i acc H2) (hD : H1 D = none) (hz : kz[i]? = some z) (hy : H2 y = none) (hx : upd H2 y (.lst []) x = none) :
    upd (upd H2 y (.lst [])) x (.tup [.str z, .ref y]) D = some (.lst acc) ∧ KIn H1 D (i + 1) (acc ++ [.ref x]) (upd (upd (upd H2 y (.lst [])) x (.tup [.str z, .ref y])) D (.lst (acc ++ [.ref x]))) := by
  obtain ⟨p, q, e, s, eD, a, d⟩ := h
  obtain ⟨nxy, nx⟩ := upd_none hx
  have s2 : Same H2 (upd H2 y (.lst [])) := .upd_new hy
  have s3 : Same (upd H2 y (.lst [])) (upd (upd H2 y (.lst [])) x (.tup [.str z, .ref y])) := .upd_new hx
  have ey3 : upd (upd H2 y (.lst [])) x (.tup [.str z, .ref y]) y = some (.lst []) := s3 _ _ upd_same
  have ex3 : upd (upd H2 y (.lst [])) x (.tup [.str z, .ref y]) x = some (.tup [.str z, .ref y]) := upd_same
  have eD3 := (s2.trans s3) _ _ eD
  have sA := (s.trans s2).trans s3
  generalize upd (upd H2 y (.lst [])) x (.tup [.str z, .ref y]) = H3 at ey3 ex3 eD3 sA s3
  have yD : y ≠ D := fun h => by rw [h, eD] at hy; cases hy
  have xD : x ≠ D := fun h => by rw [h, eD] at nx; cases nx
  have s23 := s2.trans s3
  refine ⟨eD3, fun j => if j = i then x else p j, fun j => if j = i then y else q j, ?_, sA.upd hD, upd_same, fun j hj => ?_, fun j k hj hk hjk => ?_⟩
  · rw [List.range_succ, List.map_append, e]
    congr 1
    · apply List.map_congr_left
      intro j hj
      change _ = V.ref (if j = i then x else p j)
      rw [if_neg (by have := List.mem_range.mp hj; omega)]
    · simp
  · by_cases hji : j = i
    · subst hji
      simp only [if_true]
      exact ⟨z, hz, by rw [upd_ne xD]; exact ex3, by rw [upd_ne yD]; exact ey3, yD, xD, s.free hy⟩
    · obtain ⟨z', h1, h2, h3, h4, h5, h6⟩ := a j (by omega)
      simp only [if_neg hji]
      exact ⟨z', h1, by rw [upd_ne h5]; exact s23 _ _ h2, by rw [upd_ne h4]; exact s23 _ _ h3, h4, h5, h6⟩
  · change (if j = i then y else q j) ≠ (if k = i then y else q k)
    by_cases hji : j = i
    · subst hji
      rw [if_pos rfl, if_neg (Ne.symm hjk)]
      obtain ⟨z', h1, h2, h3, h4, h5, h6⟩ := a k (by omega)
      exact fun h => by rw [h, h3] at hy; cases hy
    · rw [if_neg hji]
      by_cases hki : k = i
      · subst hki
        rw [if_pos rfl]
        obtain ⟨z', h1, h2, h3, h4, h5, h6⟩ := a j (by omega)
        exact fun h => by rw [← h, h3] at hy; cases hy
      · rw [if_neg hki]
        exact d j k (by omega) (by omega) hjk
def RIn (H : Hp) (N : Addr → Prop) (q : Nat → Addr) (R T : Addr) (rws : List Rw) (K : PySem.W.Frag) (i : Nat) (σ : St) (H' : Hp) : Prop := ∃ kl m v3 v4 v5, σ = [some (.ref R), some (.ref T), some (.ref kl), v3, v4, v5] ∧ Keep [q 0, q 1, q 2, q 3] H H' ∧
  SqT K H' kl ((kz.drop m).map V.str) ∧ (∀ r ∈ rws.drop (i - 1), m ≤ kI r) ∧ QL N q (rws.take (i - 1)) H'
theorem inKinds {r : Rw} {m : Nat} (h : m ≤ kI r) : inV (.str (Str.ofString r.kd)) ((kz.drop m).map V.str) = true := by
  have h1 := (kI_kz r).1
  have h2 : (kz.drop m)[kI r - m]? = some (Str.ofString r.kd) := by
    rw [List.getElem?_drop, show m + (kI r - m) = kI r by omega]
    exact h1
  have h3 : V.str (Str.ofString r.kd) ∈ (kz.drop m).map V.str := List.mem_map.mpr ⟨_, List.mem_of_getElem? h2, rfl⟩
  unfold inV
  rw [List.any_eq_true]
  exact ⟨_, h3, by simp [eqV]⟩
theorem cut_kz {r : Rw} : cutV (kz.map V.str) (some ((kI r : Nat) : Int)) none = (kz.drop (kI r)).map V.str := by
  cases r <;> rfl
theorem sqT_upd {K : PySem.W.Frag} {H : Hp} {a b : Addr} {xs ys : List V} {o : HO} (h : SqT K H a xs) (hb : H b = some (.lst ys)) : SqT K (upd H b o) a xs :=
  SqT.keep (S := [b]) (Keep.refl.upd (.inl (.head _))) (fun c hc => by rw [List.mem_singleton] at hc; subst hc; exact ⟨ys, hb⟩) h
theorem flats (m : Nat) : ((kz.drop m).map V.str).all flatV = true := by
  rw [List.all_eq_true]
  intro x hx
  obtain ⟨z, _, rfl⟩ := List.mem_map.mp hx
  rfl
section
variable {P : Program} {w : World} {K : PySem.W.Frag} {mg : Str → Option Value} {base : Heap} {C : Addr}
abbrev s_read_rows : Stmt := top 40
theorem sc_read_rows : FnScope ["rows", "told", "kinds_left", "at", "row", "kind"] ["rows"] (defScope s_read_rows) := ⟨rfl, rfl, rfl, by decide +kernel, rfl, by decide +kernel, by decide +kernel⟩
theorem cs_read_rows_0 : CScope ["kind"] [] { kind := .function, names := [(".0", .local), ("kind", .local)], isGenerator := false, isCoroutine := false, more := [] } (defScope s_read_rows) := ⟨rfl, by decide +kernel, by decide +kernel, by decide +kernel, by decide +kernel, by decide +kernel⟩
def sp_rrows : Sp := fun vs H Q _ => ∃ (R : Addr) (m : List Nat) (rws : List Rw), vs = [.ref R] ∧ H R = some (.lst (wV (m :: rws.map Rw.T))) ∧ (∀ r ∈ rws, r.Ok) ∧ rws.Pairwise (fun a b => kI a ≤ kI b) ∧ rws.length ≤ 48 ∧
  ∀ T q H', Same H H' → H' T = some (.dK (told q)) → (∀ j, j < 4 → H (q j) = none) → (∀ j k, j < 4 → k < 4 → j ≠ k → q j ≠ q k) → QL (fun b => H b = none) q rws H' → Q (.ref T) H'
theorem told_fold (q : Nat → Addr) : (told q).foldl (fun m e => putK m e.1 e.2) [] = told q := by rfl
set_option maxHeartbeats 2000000 in
theorem own_rrows {ak : Addr} (D : Def K mg "read_rows" s_read_rows) (hb : Blt mg) (hen : mg "enumerate" = none) (g_KINDS : ∃ u, mg "KINDS" = some u ∧ RelV (.ref ak) u) (kk : KTs K ak kz) (F_read_row : Own P w K mg base 7 "read_row" ["row", "kind", "at"] sp_rrow) : Own P w K mg base 8 "read_rows" ["rows"] sp_rrows := by
  refine D.own sc_read_rows (fun _ _ _ _ _ _ us hl => match us, hl with | [_], _ => rfl) (fun vs H Q E h => ?_) (fun f cdv A outer s H vs Q E hr h => ?_)
  · obtain ⟨R, m, rws, rfl, _⟩ := h
    rfl
  · obtain ⟨R, m, rws, rfl, eR, ok, sorted, few, q⟩ := h
    have hu := hr.units
    have hu1 : (A.deeper (PyProof.Rows.envOfC "read_rows" (defScope s_read_rows) s.heap.objs.size f cdv)).units + 1 < cLine := by omega
    have e32 : Str.ofString " " = Sg [32] := S_of _
    refine ⟨_, (pss_cons (ps_set (i:=1) sc_read_rows.nd rfl (by first | exact Or.inl rfl | exact Or.inr rfl) (pe_callTy (call_dictP rfl) rfl (hb _ (by decide)) bt_dict (pa_cX (pe_comp ["kind"] [] [] rfl cs_read_rows_0 (pi_tupK K (pe_glb g_KINDS)) (fun _ _ _ _ => (pg_name (i:=0) cs_read_rows_0.nd rfl (by first | exact Or.inl rfl | exact Or.inr rfl))) (fun _ _ _ _ => pf_nil) (fun _ _ _ _ => (pe_tup (pa_cX (pv 0) (pa_cX (pe_lst pa_nil) pa_nil))))) pa_nil))) (pss_cons (ps_set (i:=2) sc_read_rows.nd rfl (by first | exact Or.inl rfl | exact Or.inr rfl) (pe_glb g_KINDS)) (pss_cons (ps_for PassesOwn.never rfl (pi_enum K rfl hen (pa_cX (pv 0) pa_nil)) (pg_seqX (n:=2) rfl (pgs_cons (pg_name (i:=3) sc_read_rows.nd rfl (by first | exact Or.inl rfl | exact Or.inr rfl)) (pgs_cons (pg_name (i:=4) sc_read_rows.nd rfl (by first | exact Or.inl rfl | exact Or.inr rfl)) pgs_nil))) (pss_one (ps_if (pt_cmpR op_gt (pv 3) pe_int (nomark _)) (pss_cons (ps_set (i:=5) sc_read_rows.nd rfl (by first | exact Or.inl rfl | exact Or.inr rfl) (pe_ix (ix_get hu1) (pe_part1 (pv 4) pe_str (by constructor <;> rfl)) pe_int (fun _ _ => rfl))) (pss_cons (ps_if (pt_cmpR (op_notinK K) (pv 5) (pv 2) rfl) (pss_one ps_never) pss_nil) (pss_cons (ps_set (i:=2) sc_read_rows.nd rfl (by first | exact Or.inl rfl | exact Or.inr rfl) (pe_slice (sl_tupK K) (pe_glb g_KINDS) (po_some (pe_tix (K:=K) (pe_glb g_KINDS) (pv 5) (by constructor <;> rfl))) po_none)) (pss_one (ps_expr (pe_lm PySem.F.slot_list_append PySem.F.type_list_append mt_append (pe_ix (ix_get hu1) (pv 1) (pv 5) (fun _ _ => rfl)) (pa_cX (pe_fn F_read_row hr (pa_cX (pv 4) (pa_cX (pv 5) (pa_cX (pv 3) pa_nil)))) pa_nil))))))) pss_nil))) (pss_one (ps_ret (pv 1)))))), ?_⟩
    refine use1 (fun σ H' => ∃ T q, σ = [some (.ref R), some (.ref T), none, none, none, none] ∧ Same H H' ∧ H' T = some (.dK (told q)) ∧ H T = none ∧ (∀ j, j < 4 → H (q j) = none ∧ H' (q j) = some (.lst [])) ∧ (∀ j k, j < 4 → k < 4 → j ≠ k → q j ≠ q k)) ?_ (fun X hX => ?_)
    rotate_left
    · simp (maxSteps := 1000000) only [tComp_eq, Nat.reduceSub, Nat.reduceAdd, tSeq, tC, tAsg, gName, tCons, tNil, tCB, L2.start, List.map_cons, List.map_nil, List.length_cons, List.length_nil, List.replicate, List.cons_append, List.nil_append, List.set_cons_zero, List.set_cons_succ, exists_eq_left', V.ref.injEq, iTup]
      refine ⟨⟨_, kk.sq⟩, comp_tup (xs := kz.map V.str) (by rw [sizeLine_eq]; decide) (KIn H) (fun D hD => ⟨fun _ => 0, fun _ => 0, rfl, .upd_new hD, upd_same, (fun j hj => absurd hj (Nat.not_lt_zero _)), fun j k hj => absurd hj (Nat.not_lt_zero _)⟩) ?_ ?_ ?_⟩
      · rintro D i acc H2 hD hi ⟨p, q, e, s2, eD, _⟩
        exact ⟨eD, kk.sq, by rw [e]; simp⟩
      · rintro D i x acc H2 hD hx I
        rw [List.getElem?_map] at hx
        obtain ⟨z, hz, rfl⟩ := Option.map_eq_some_iff.mp hx
        simp (maxSteps := 1000000) only [Nat.reduceAdd, tYes, cSt, List.drop_succ_cons, List.drop_zero, if_true, tVar, gName, tCons, tNil, tLst, tTup, List.map_nil, List.length_cons, List.length_nil, List.replicate, List.getElem?_cons_zero, List.set_cons_zero, Option.some.injEq, exists_eq_left', true_and, List.append_nil]
        refine ⟨by rw [sizeLine_eq]; decide, fun y hy => ⟨by rw [sizeLine_eq]; decide, fun x hx => I.step hD hz hy hx⟩⟩
      · rintro D acc H2 hD ⟨p, q', e, s2, eD, a, dist⟩
        have a0 := a 0 (by decide)
        have a1 := a 1 (by decide)
        have a2 := a 2 (by decide)
        have a3 := a 3 (by decide)
        simp (maxSteps := 1000000) only [List.cons.injEq, exists_and_left, exists_eq_left', V.ref.injEq, and_true, rDictP]
        refine ⟨[p 0, p 1, p 2, p 3], by rw [eD, e]; rfl, told q', ?_, (by change 4 ≤ 1000; decide), fun T hT => ?_⟩
        · refine .cons ?_ (.cons ?_ (.cons ?_ (.cons ?_ .nil)))
          · obtain ⟨z, h1, h2, _⟩ := a0
            cases h1
            exact h2
          · obtain ⟨z, h1, h2, _⟩ := a1
            cases h1
            exact h2
          · obtain ⟨z, h1, h2, _⟩ := a2
            cases h1
            exact h2
          · obtain ⟨z, h1, h2, _⟩ := a3
            cases h1
            exact h2
        · rw [told_fold]
          refine hX _ _ ⟨T, q', rfl, s2.trans (.upd_new hT), upd_same, s2.free hT, fun j hj => ?_, fun j k hj hk => dist j k hj hk⟩
          obtain ⟨z, h1, h2, h3, h4, h5, h6⟩ := a j hj
          exact ⟨h6, (Same.upd_new hT) _ _ h3⟩
    rintro σ H1 ⟨T, q', rfl, s1, eT, nT', hq, dist⟩
    have eR1 := s1 _ _ eR
    simp (maxSteps := 1000000) only [tFor_eq, List.cons.injEq, tSeq, tVar, tC, tAsg, gName, tCons, tNil, List.getElem?_cons_zero, List.set_cons_zero, List.set_cons_succ, Option.some.injEq, exists_eq_left', V.ref.injEq, and_true, iEnum]
    refine ⟨⟨_, SqL.of eR1⟩, for_enum (xs := wV (m :: rws.map Rw.T)) (RIn H1 (fun b => H1 b = none) q' R T rws K) ⟨ak, 0, none, none, none, rfl, .refl, kk.sq, (fun _ _ => Nat.zero_le _), fun j hj => ⟨[], (hq j hj).2, by simp [sel]; exact .nil⟩⟩ ?_ ?_ ?_⟩
    · rintro i σ H2 hi ⟨kl, mm, v3, v4, v5, rfl, k2, _⟩
      refine SqL.of (k2 _ _ eR1 fun hm => ?_)
      have hne : ∀ j, j < 4 → R ≠ q' j := fun j hj h => by
        have := (hq j hj).1
        rw [← h, eR] at this
        cases this
      simp only [List.mem_cons, List.not_mem_nil, or_false] at hm
      rcases hm with h | h | h | h
      · exact hne 0 (by decide) h
      · exact hne 1 (by decide) h
      · exact hne 2 (by decide) h
      · exact hne 3 (by decide) h
    · rintro i x pp σ H2 hx hp ⟨kl, mm, v3, v4, v5, rfl, k2, skl, hm, ql⟩
      have epp : upd H2 pp (.tup [.int (i : Int), x]) pp = some (.tup [.int (i : Int), x]) := upd_same
      have s3 : Same H2 (upd H2 pp (.tup [.int (i : Int), x])) := .upd_new hp
      generalize upd H2 pp (.tup [.int (i : Int), x]) = H3 at epp s3 ⊢
      have k3 := k2.trans s3.keep
      have skl3 := s3.seqT skl
      have ql3 : QL (fun b => H1 b = none) q' (rws.take (i - 1)) H3 := fun j hj => let ⟨us, e, p⟩ := ql j hj; ⟨us, s3 _ _ e, paired_imp (fun _ _ r => r.same s3) p⟩
      cases i with
      | zero =>
        simp (maxSteps := 1000000) only [gSeqX, tBL, rGet, seqO_t, gCons, gNil, Nat.reduceAdd, tNever, rAppend, tSl, tNoPart, tPart, List.cons.injEq, tSeq, exists_and_left, tIfS, tTest, tOp, tVar, tC, rI0, tAsg, gName, tNext, tCall, tCons, tNil, tDrop, List.length_cons, List.length_nil, List.getElem?_cons_zero, List.getElem?_cons_succ, List.set_cons_zero, List.set_cons_succ, Option.some.injEq, exists_eq_left', V.int.injEq, V.bl.injEq, V.ref.injEq, and_true, true_and, and_assoc, List.append_nil, epp]
        rw [if_neg (by decide)]
        exact ⟨kl, mm, _, _, _, rfl, k3, skl3, hm, ql3⟩
      | succ i =>
        have hxr : ∃ r, rws[i]? = some r ∧ x = .str (Sg r.T) := by
          unfold wV at hx
          rw [List.map_cons, List.getElem?_cons_succ, List.getElem?_map, List.getElem?_map] at hx
          cases hr : rws[i]? with
          | none => rw [hr] at hx; cases hx
          | some r => rw [hr] at hx; exact ⟨r, rfl, (Option.some.inj hx).symm⟩
        obtain ⟨r, hr', rfl⟩ := hxr
        have okr := ok r (List.mem_of_getElem? hr')
        have hlr := T_len okr
        simp (maxSteps := 1000000) only [gSeqX, tBL, rGet, getO_t, seqO_t, gCons, gNil, atI_0, upd_same, Nat.reduceAdd, tNever, rAppend, tSl, tNoPart, tPart, List.cons.injEq, tSeq, exists_and_left, tIfS, tTest, tOp, tVar, tC, rI0, tAsg, gName, tNext, tCall, tCons, tNil, tDrop, List.length_cons, List.length_nil, List.getElem?_cons_zero, List.getElem?_cons_succ, List.set_cons_zero, List.set_cons_succ, Option.some.injEq, exists_eq_left', V.int.injEq, V.bl.injEq, V.ref.injEq, V.str.injEq, and_true, true_and, and_assoc, List.append_nil, epp, tPart1, e32, S_eq]
        rw [if_pos (decide_eq_true (by omega))]
        refine ⟨by omega, ?_⟩
        intro ya yb
        rw [tw_T okr, ← S_of]
        intro p4 n4
        generalize z4 : upd H3 p4 _ = H4
        obtain ⟨s4, e4⟩ := new_same z4 n4
        have hmr : mm ≤ kI r := hm r (by
          rw [Nat.add_sub_cancel]
          exact List.mem_iff_getElem?.mpr ⟨0, by rw [List.getElem?_drop]; exact hr'⟩)
        refine ⟨kl, _, rfl, .inr (s4.seqT skl3), rfl, flats mm, _, rfl, ?_⟩
        rw [inKinds hmr]
        simp (maxSteps := 1000000) only [ne_eq, Bool.not_true, exists_and_left, if_false, if_true, Bool.false_eq_true, tVar, tC, List.getElem?_cons_zero, List.getElem?_cons_succ, Option.some.injEq, exists_eq_left', V.int.injEq, V.ref.injEq, V.str.injEq, tTIx]
        refine ⟨kz, kk, kI r, (kI_kz r).1, (kI_kz r).2, ?_⟩
        have k4 := k3.trans s4.keep
        have ql4 : QL (fun b => H1 b = none) q' (rws.take i) H4 := fun j hj => let ⟨us, e, p⟩ := ql3 j hj; ⟨us, s4 _ _ e, paired_imp (fun _ _ r => r.same s4) p⟩
        have inQ : ∀ b, b ∈ [q' 0, q' 1, q' 2, q' 3] → ∃ j, j < 4 ∧ b = q' j := fun b hb => by
          simp only [List.mem_cons, List.not_mem_nil, or_false] at hb
          rcases hb with h | h | h | h
          · exact ⟨0, by decide, h⟩
          · exact ⟨1, by decide, h⟩
          · exact ⟨2, by decide, h⟩
          · exact ⟨3, by decide, h⟩
        have eT4 : H4 T = some (.dK (told q')) := k4 _ _ eT fun hb => by
          obtain ⟨j, hj, e⟩ := inQ _ hb
          have := (hq j hj).2
          rw [← e, eT] at this
          cases this
        have hj4 := kI_lt r
        have mq : ∀ j, j < 4 → q' j ∈ [q' 0, q' 1, q' 2, q' 3] := fun j hj => by
          match j, hj with
          | 0, _ => exact .head _
          | 1, _ => exact .tail _ (.head _)
          | 2, _ => exact .tail _ (.tail _ (.head _))
          | 3, _ => exact .tail _ (.tail _ (.tail _ (.head _)))
        have fin : ∀ (kl' : Addr) (H5 : Hp), Same H4 H5 → SqT K H5 kl' ((kz.drop (kI r)).map V.str) → ∃ x_1, H5 T = some x_1 ∧ ∃ x_2, getO x_1 (V.str (Str.ofString r.kd)) = some x_2 ∧ ∃ p, x_2 = V.ref p ∧ ∃ x_3, H5 p = some (HO.lst x_3) ∧ sp_rrow [V.str (Sg r.T), V.str (Str.ofString r.kd), V.int ((i + 1 : Nat) : Int)] H5 (fun x_4 H1_2 => ∃ l, x_2 = V.ref l ∧ ∃ x_5, H1_2 l = some (HO.lst x_5) ∧ x_5.length < sizeLine ∧ RIn H1 (fun b => H1 b = none) q' R T rws K (i + 1 + 1) [some (V.ref R), some (V.ref T), some (V.ref kl'), some (V.int ((i + 1 : Nat) : Int)), some (V.str (Sg r.T)), some (V.str (Str.ofString r.kd))] (upd H1_2 l (HO.lst (x_5 ++ [x_4])))) E0 := by
          intro kl' H5 s5 skl5
          have ql5 : QL (fun b => H1 b = none) q' (rws.take i) H5 := fun j hj => let ⟨us, e, p⟩ := ql4 j hj; ⟨us, s5 _ _ e, paired_imp (fun _ _ r => r.same s5) p⟩
          obtain ⟨us, eus, pus⟩ := ql5 (kI r) hj4
          have k5 := k4.trans s5.keep
          have old : ∀ b, H5 b = none → H1 b = none := fun b hb => by
            cases e : H1 b with
            | none => rfl
            | some o =>
              by_cases hm : b ∈ [q' 0, q' 1, q' 2, q' 3]
              · obtain ⟨j, hj, ej⟩ := inQ _ hm
                obtain ⟨us', e', _⟩ := ql5 j hj
                rw [ej, e'] at hb
                cases hb
              · rw [k5 _ _ e hm] at hb
                cases hb
          refine ⟨_, s5 _ _ eT4, _, told_at q' r, _, rfl, us, eus, r, _, rfl, okr, fun v H6 s6 rv => ⟨_, rfl, us, s6 _ _ eus, ?_, kl', kI r, _, _, _, rfl, ?_, ?_, ?_, ?_⟩⟩
          · have h1 := pus.length
            have h2 : (sel (kI r) (rws.take i)).length ≤ (rws.take i).length := List.length_filter_le ..
            rw [List.length_take] at h2
            rw [sizeLine_eq]
            omega
          · exact (k5.trans s6.keep).upd (.inl (mq _ hj4))
          · exact sqT_upd (s6.seqT skl5) (s6 _ _ eus)
          · rw [Nat.add_sub_cancel]
            have hp := sorted.sublist (List.drop_sublist i rws)
            have hlt := (List.getElem?_eq_some_iff.mp hr').1
            rw [List.drop_eq_getElem_cons hlt, List.pairwise_cons] at hp
            have er : rws[i] = r := (List.getElem?_eq_some_iff.mp hr').2
            rw [er] at hp
            exact hp.1
          · rw [Nat.add_sub_cancel, List.take_add_one, hr', Option.toList_some]
            intro j hj
            obtain ⟨uj, euj, puj⟩ := ql5 j hj
            have kq : Keep [q' (kI r)] H6 (upd H6 (q' (kI r)) (.lst (us ++ [v]))) := Keep.refl.upd (.inl (.head _))
            have nq : ∀ b ∈ [q' (kI r)], ¬ H1 b = none := fun b hb h => by
              rw [List.mem_singleton] at hb
              rw [hb, (hq _ hj4).2] at h
              cases h
            have old2 : Paired (RRw (fun b => H1 b = none) (upd H6 (q' (kI r)) (.lst (us ++ [v])))) (sel j (rws.take i)) uj := paired_imp (fun _ _ x => (x.same s6).keep kq nq) puj
            unfold sel at old2 ⊢
            rw [List.filter_append]
            by_cases hjr : kI r = j
            · subst hjr
              rw [eus] at euj
              cases euj
              refine ⟨us ++ [v], upd_same, paired_app old2 ?_⟩
              simp only [List.filter_cons, decide_true, if_true, List.filter_nil]
              refine .cons ((rv.mono old).keep kq nq) .nil
            · refine ⟨uj, by rw [upd_ne (dist j (kI r) hj hj4 (Ne.symm hjr))]; exact s6 _ _ euj, ?_⟩
              simp only [List.filter_cons, decide_eq_false hjr, Bool.false_eq_true, if_false, List.filter_nil, List.append_nil]
              exact old2
        refine ⟨ak, _, rfl, kk.sq, fun h => fin ak H4 (.refl _) ?_, fun _ p hp => fin p _ (.upd_new hp) (SqT.of ?_)⟩
        · rw [← cut_kz, cutV_whole h]
          exact kk.sq
        · rw [upd_same, cut_kz]
    · rintro σ H2 ⟨kl, mm, v3, v4, v5, rfl, k2, skl, hm, ql⟩
      have inQ : ∀ b, b ∈ [q' 0, q' 1, q' 2, q' 3] → ∃ j, j < 4 ∧ b = q' j := fun b hb => by
        simp only [List.mem_cons, List.not_mem_nil, or_false] at hb
        rcases hb with h | h | h | h
        · exact ⟨0, by decide, h⟩
        · exact ⟨1, by decide, h⟩
        · exact ⟨2, by decide, h⟩
        · exact ⟨3, by decide, h⟩
      have eT2 : H2 T = some (.dK (told q')) := k2 _ _ eT fun hb => by
        obtain ⟨j, hj, e⟩ := inQ _ hb
        have := (hq j hj).2
        rw [← e, eT] at this
        cases this
      simp (maxSteps := 1000000) only [tVar, tRet, List.getElem?_cons_zero, List.getElem?_cons_succ, Option.some.injEq, exists_eq_left']
      have hlen : (wV (m :: rws.map Rw.T)).length - 1 = rws.length := by simp [wV]
      rw [hlen, List.take_length] at ql
      refine q T q' H2 (fun b o e => ?_) eT2 (fun j hj => (hq j hj).1) dist fun j hj => ?_
      · refine k2 _ _ (s1 _ _ e) fun hb => ?_
        obtain ⟨j, hj, ej⟩ := inQ _ hb
        rw [ej, (hq j hj).1] at e
        cases e
      · obtain ⟨us, e, p⟩ := ql j hj
        exact ⟨us, e, paired_imp (fun _ _ r => r.mono fun b hb => s1.free hb) p⟩
end
end K81
namespace K81
open PySem L2
def flat (n : Nt) : List Rw := n.ln.map Rw.ln ++ n.ch.map Rw.ch ++ n.rd.map Rw.rd ++ n.ws.map Rw.ws
theorem rowsT_flat {ns : List Nat} {n : Nt} : rowsT ns n = rT "measures" (ns.map Fld.n) :: (flat n).map Rw.T := by
  unfold rowsT flat
  simp only [List.map_append, List.map_map]
  rfl
theorem flat_ok {n : Nt} (h : n.Ok) : ∀ r ∈ flat n, r.Ok := by
  intro r hr
  unfold flat at hr
  rw [List.mem_append, List.mem_append, List.mem_append] at hr
  rcases hr with ((hr | hr) | hr) | hr <;> obtain ⟨x, hx, rfl⟩ := List.mem_map.mp hr
  · exact h.ln x hx
  · exact h.ch x hx
  · exact h.rd x hx
  · exact h.ws x hx
theorem flat_len {n : Nt} (h : n.Ok) : (flat n).length ≤ 48 := by
  have := h.few
  unfold flat
  simp only [List.length_append, List.length_map]
  omega
theorem pw_const {α : Type} {f : α → Nat} {k : Nat} : ∀ {l : List α}, (∀ x ∈ l, f x = k) → l.Pairwise (fun a b => f a ≤ f b)
  | [], _ => .nil
  | x :: l, h => .cons (fun y hy => by rw [h x (.head _), h y (.tail _ hy)]; exact Nat.le_refl _) (pw_const fun y hy => h y (.tail _ hy))
theorem flat_sorted (n : Nt) : (flat n).Pairwise (fun a b => kI a ≤ kI b) := by
  have c0 : ∀ x ∈ n.ln.map Rw.ln, kI x = 0 := fun x hx => by obtain ⟨y, _, rfl⟩ := List.mem_map.mp hx; rfl
  have c1 : ∀ x ∈ n.ch.map Rw.ch, kI x = 1 := fun x hx => by obtain ⟨y, _, rfl⟩ := List.mem_map.mp hx; rfl
  have c2 : ∀ x ∈ n.rd.map Rw.rd, kI x = 2 := fun x hx => by obtain ⟨y, _, rfl⟩ := List.mem_map.mp hx; rfl
  have c3 : ∀ x ∈ n.ws.map Rw.ws, kI x = 3 := fun x hx => by obtain ⟨y, _, rfl⟩ := List.mem_map.mp hx; rfl
  unfold flat
  rw [List.pairwise_append, List.pairwise_append, List.pairwise_append]
  refine ⟨⟨⟨pw_const c0, pw_const c1, fun a ha b hb => by rw [c0 a ha, c1 b hb]; decide⟩, pw_const c2, fun a ha b hb => ?_⟩, pw_const c3, fun a ha b hb => ?_⟩
  · rcases List.mem_append.mp ha with ha | ha
    · rw [c0 a ha, c2 b hb]; decide
    · rw [c1 a ha, c2 b hb]; decide
  · rcases List.mem_append.mp ha with ha | ha
    · rcases List.mem_append.mp ha with ha | ha
      · rw [c0 a ha, c3 b hb]; decide
      · rw [c1 a ha, c3 b hb]; decide
    · rw [c2 a ha, c3 b hb]; decide
theorem filter_all {α : Type} {p : α → Bool} : ∀ {l : List α}, (∀ x ∈ l, p x = true) → l.filter p = l
  | [], _ => rfl
  | x :: l, h => by rw [List.filter_cons, h x (.head _), if_pos rfl, filter_all fun y hy => h y (.tail _ hy)]
theorem filter_no {α : Type} {p : α → Bool} : ∀ {l : List α}, (∀ x ∈ l, p x = false) → l.filter p = []
  | [], _ => rfl
  | x :: l, h => by rw [List.filter_cons, h x (.head _), if_neg (by decide), filter_no fun y hy => h y (.tail _ hy)]
theorem sel_flat (n : Nt) : sel 0 (flat n) = n.ln.map Rw.ln ∧ sel 1 (flat n) = n.ch.map Rw.ch ∧ sel 2 (flat n) = n.rd.map Rw.rd ∧ sel 3 (flat n) = n.ws.map Rw.ws := by
  have c0 : ∀ x ∈ n.ln.map Rw.ln, kI x = 0 := fun x hx => by obtain ⟨y, _, rfl⟩ := List.mem_map.mp hx; rfl
  have c1 : ∀ x ∈ n.ch.map Rw.ch, kI x = 1 := fun x hx => by obtain ⟨y, _, rfl⟩ := List.mem_map.mp hx; rfl
  have c2 : ∀ x ∈ n.rd.map Rw.rd, kI x = 2 := fun x hx => by obtain ⟨y, _, rfl⟩ := List.mem_map.mp hx; rfl
  have c3 : ∀ x ∈ n.ws.map Rw.ws, kI x = 3 := fun x hx => by obtain ⟨y, _, rfl⟩ := List.mem_map.mp hx; rfl
  have y : ∀ {l : List Rw} {k j : Nat}, (∀ x ∈ l, kI x = k) → k = j → l.filter (fun r => decide (kI r = j)) = l := fun h e => filter_all fun x hx => by rw [h x hx, e]; exact decide_eq_true rfl
  have z : ∀ {l : List Rw} {k j : Nat}, (∀ x ∈ l, kI x = k) → k ≠ j → l.filter (fun r => decide (kI r = j)) = [] := fun h e => filter_no fun x hx => by rw [h x hx]; exact decide_eq_false e
  unfold sel flat
  simp only [List.filter_append]
  refine ⟨?_, ?_, ?_, ?_⟩
  · rw [y c0 rfl, z c1 (by decide), z c2 (by decide), z c3 (by decide)]; simp
  · rw [z c0 (by decide), y c1 rfl, z c2 (by decide), z c3 (by decide)]; simp
  · rw [z c0 (by decide), z c1 (by decide), y c2 rfl, z c3 (by decide)]; simp
  · rw [z c0 (by decide), z c1 (by decide), z c2 (by decide), y c3 rfl]; simp
theorem pair_map {α β γ : Type} {f : α → β} {R : β → γ → Prop} : ∀ {l : List α} {m : List γ}, Paired R (l.map f) m → Paired (fun a c => R (f a) c) l m
  | [], _, h => by cases h; exact .nil
  | a :: l, _, h => by cases h with | cons h t => exact .cons h (pair_map t)
theorem QL.nt {N : Addr → Prop} {q : Nat → Addr} {n : Nt} {H : Hp} (h : QL N q (flat n) H) : NtAt N H n (q 0) (q 1) (q 2) (q 3) := by
  obtain ⟨e0, e1, e2, e3⟩ := sel_flat n
  obtain ⟨u0, a0, p0⟩ := h 0 (by decide)
  obtain ⟨u1, a1, p1⟩ := h 1 (by decide)
  obtain ⟨u2, a2, p2⟩ := h 2 (by decide)
  obtain ⟨u3, a3, p3⟩ := h 3 (by decide)
  rw [e0] at p0
  rw [e1] at p1
  rw [e2] at p2
  rw [e3] at p3
  exact ⟨⟨u0, a0, pair_map (f := Rw.ln) (R := RRw N H) p0⟩, ⟨u1, a1, pair_map (f := Rw.ch) (R := RRw N H) p1⟩, ⟨u2, a2, pair_map (f := Rw.rd) (R := RRw N H) p2⟩, ⟨u3, a3, pair_map (f := Rw.ws) (R := RRw N H) p3⟩⟩
theorem pr_rT {k : String} {fs : List Fld} (hk : Pr (w k)) (h : okF fs) : Pr (rT k fs) := pr_jW (by decide) fun x hx => by
  rcases List.mem_cons.mp hx with rfl | hx
  · exact hk
  · obtain ⟨f, hf, rfl⟩ := List.mem_map.mp hx
    exact pr_fT (h f hf)
theorem pr_wd {x : Wt} (h : x.Ok) : Pr x.wd := by
  cases x with
  | one v f =>
    change Pr v
    rcases h with ⟨h | h, _⟩ | ⟨h | h | h, _⟩ <;> subst h <;> exact pr_w (by decide)
  | put k s => exact pr_w (by decide)
theorem pr_T {r : Rw} (h : r.Ok) : Pr r.T := by
  cases r with
  | ln f => exact pr_rT (pr_w (by decide)) h.2
  | ch f => exact pr_rT (pr_w (by decide)) h.2
  | rd f => exact pr_rT (pr_w (by decide)) h.2
  | ws s =>
    change Pr (wT s)
    unfold wT
    refine pr_jW (by decide) fun x hx => ?_
    simp only [List.mem_cons, Wt.words] at hx
    rcases hx with rfl | rfl | rfl | rfl | hx
    · exact pr_w (by decide)
    · exact pr_nT
    · exact pr_nT
    · exact pr_wd h.2.2
    · obtain ⟨f, hf, rfl⟩ := List.mem_map.mp hx
      exact pr_fT (Wt.okF h.2.2 f hf)
theorem pr_10 {l : List Nat} (h : Pr l) : 10 ∉ l := fun hm => by have := h 10 hm; omega
theorem net_spl {ns : List Nat} {n : Nt} (ok : n.Ok) (hk : ∀ k ∈ ns, k < 100000) {c : Nat} (hc : (rowsT ns n).length ≤ c + 1) : spl 10 c (jW 10 (rowsT ns n)) = rowsT ns n := by
  refine jW_spl (by rw [rowsT_flat]; exact fun z => nomatch z) hc fun x hx => ?_
  rw [rowsT_flat] at hx
  rcases List.mem_cons.mp hx with rfl | hx
  · exact pr_10 (pr_rT (pr_w (by decide)) fun f hf => by
      obtain ⟨k, hk', rfl⟩ := List.mem_map.mp hf
      exact hk k hk')
  · obtain ⟨r, hr, rfl⟩ := List.mem_map.mp hx
    exact pr_10 (pr_T (flat_ok ok r hr))
theorem ten {α : Type} {l : List α} (h : l.length = 10) : ∃ a0 a1 a2 a3 a4 a5 a6 a7 a8 a9, l = [a0, a1, a2, a3, a4, a5, a6, a7, a8, a9] := by
  obtain ⟨b0, u0, rfl, h0⟩ := cons_of h
  obtain ⟨b1, u1, rfl, h1⟩ := cons_of h0
  obtain ⟨b2, u2, rfl, h2⟩ := cons_of h1
  obtain ⟨b3, u3, rfl, h3⟩ := cons_of h2
  obtain ⟨b4, u4, rfl, h4⟩ := cons_of h3
  obtain ⟨b5, u5, rfl, h5⟩ := cons_of h4
  obtain ⟨b6, u6, rfl, h6⟩ := cons_of h5
  obtain ⟨b7, u7, rfl, h7⟩ := cons_of h6
  obtain ⟨b8, u8, rfl, h8⟩ := cons_of h7
  obtain ⟨b9, u9, rfl, h9⟩ := cons_of h8
  obtain rfl := List.length_eq_zero_iff.mp h9
  exact ⟨_, _, _, _, _, _, _, _, _, _, rfl⟩
section
variable {α : Type} {a0 a1 a2 a3 a4 a5 a6 a7 a8 a9 : α}
theorem at4 {l : List α} : atI (a0 :: a1 :: a2 :: a3 :: a4 :: l) 4 = some a4 := by have := atI_nat' (l := a0 :: a1 :: a2 :: a3 :: a4 :: l) (n := 4); simpa using this
theorem at5 {l : List α} : atI (a0 :: a1 :: a2 :: a3 :: a4 :: a5 :: l) 5 = some a5 := by have := atI_nat' (l := a0 :: a1 :: a2 :: a3 :: a4 :: a5 :: l) (n := 5); simpa using this
theorem at6 {l : List α} : atI (a0 :: a1 :: a2 :: a3 :: a4 :: a5 :: a6 :: l) 6 = some a6 := by have := atI_nat' (l := a0 :: a1 :: a2 :: a3 :: a4 :: a5 :: a6 :: l) (n := 6); simpa using this
theorem at7 {l : List α} : atI (a0 :: a1 :: a2 :: a3 :: a4 :: a5 :: a6 :: a7 :: l) 7 = some a7 := by have := atI_nat' (l := a0 :: a1 :: a2 :: a3 :: a4 :: a5 :: a6 :: a7 :: l) (n := 7); simpa using this
theorem at8 {l : List α} : atI (a0 :: a1 :: a2 :: a3 :: a4 :: a5 :: a6 :: a7 :: a8 :: l) 8 = some a8 := by have := atI_nat' (l := a0 :: a1 :: a2 :: a3 :: a4 :: a5 :: a6 :: a7 :: a8 :: l) (n := 8); simpa using this
theorem at9 {l : List α} : atI (a0 :: a1 :: a2 :: a3 :: a4 :: a5 :: a6 :: a7 :: a8 :: a9 :: l) 9 = some a9 := by have := atI_nat' (l := a0 :: a1 :: a2 :: a3 :: a4 :: a5 :: a6 :: a7 :: a8 :: a9 :: l) (n := 9); simpa using this
end
theorem tl0 (q : Nat → Addr) : valV (told q) (Sum.inr (Str.ofString "line")) = some (.ref (q 0)) := rfl
theorem tl1 (q : Nat → Addr) : valV (told q) (Sum.inr (Str.ofString "change")) = some (.ref (q 1)) := rfl
theorem tl2 (q : Nat → Addr) : valV (told q) (Sum.inr (Str.ofString "road")) = some (.ref (q 2)) := rfl
theorem tl3 (q : Nat → Addr) : valV (told q) (Sum.inr (Str.ofString "wish")) = some (.ref (q 3)) := rfl
section
variable {P : Program} {w : World} {K : PySem.W.Frag} {mg : Str → Option Value} {base : Heap} {C : Addr}
abbrev s_read_net : Stmt := top 41
theorem sc_read_net : FnScope ["text", "rows", "ten", "told", "measures"] ["text"] (defScope s_read_net) := ⟨rfl, rfl, rfl, by decide +kernel, rfl, by decide +kernel, by decide +kernel⟩
structure Got (C : Addr) (H : Hp) (m : Ms) (n : Nt) (p x dx : Addr) (q : Nat → Addr) (H' : Hp) : Prop where
  s : Same H H'
  ep : H' p = some (.tup [.ref x, .ref (q 0), .ref (q 1), .ref (q 2), .ref (q 3)])
  ex : H' x = some (.ins C dx (fsM m))
  n : NtAt (fun b => H b = none) H' n (q 0) (q 1) (q 2) (q 3)
  new : ∀ j, j < 4 → H (q j) = none
  np : H p = none
  nx : H x = none
  d : ∀ j k, j < 4 → k < 4 → j ≠ k → q j ≠ q k
def sp_rnet (C : Addr) : Sp := fun vs H Q _ => ∃ (m : Ms) (ns : List Nat) (n : Nt), vs = [.str (Sg (jW 10 (rowsT ns n)))] ∧ msOk ns m ∧ inB m.l ∧ n.Ok ∧ ∀ p x dx q H', Got C H m n p x dx q H' → Q (.ref p) H'
set_option maxHeartbeats 4000000 in
theorem own_rnet (D : Def K mg "read_net" s_read_net) (hb : Blt mg) (T_Measures : ClsD K mg "Measures" C at_Measures) (I_Measures : OwnI P w K mg base 4 C ["self", "hands", "lag", "miss", "raise_each", "count", "room", "places", "window", "wait", "keep"] (sp_minit C)) (F_read_measures : Own P w K mg base 6 "read_measures" ["row"] sp_rmeas) (F_read_rows : Own P w K mg base 8 "read_rows" ["rows"] sp_rrows) : Own P w K mg base 9 "read_net" ["text"] (sp_rnet C) := by
  refine D.own sc_read_net (fun _ _ _ _ _ _ us hl => match us, hl with | [_], _ => rfl) (fun vs H Q E h => ?_) (fun f cdv A outer s H vs Q E hr h => ?_)
  · obtain ⟨m, ns, n, rfl, _⟩ := h
    rfl
  · obtain ⟨m, ns, n, rfl, ⟨em, hns, hnk⟩, hin, ok, q⟩ := h
    have hu := hr.units
    have hu1 : (A.deeper (PyProof.Rows.envOfC "read_net" (defScope s_read_net) s.heap.objs.size f cdv)).units + 1 < cLine := by omega
    have e10 : Str.ofString "\n" = Sg [10] := S_of _
    have hlen : (jW 10 (rowsT ns n)).length ≤ 100000 := Nat.le_trans (jW_len _ _) (rows_sum ok hns hnk)
    have hge := jW_ge (c := 10) (l := rowsT ns n) (by rw [rowsT_flat]; exact fun z => nomatch z)
    refine ⟨_, (pss_cons (ps_if (pt_not (pt_truX (pe_callB call_isiX rfl (hb _ (by decide)) bt_isinstance (pa_cX (pv 0) (pa_cX (pe_bltn (v:=(.ty "str")) rfl (hb _ (by decide)) bt_str rfl) pa_nil))))) (pss_one ps_never) pss_nil) (pss_cons (ps_set (i:=1) sc_read_net.nd rfl (by first | exact Or.inl rfl | exact Or.inr rfl) (pe_splS (pv 0) pe_str (by constructor <;> rfl))) (pss_cons (ps_set (i:=2) sc_read_net.nd rfl (by first | exact Or.inl rfl | exact Or.inr rfl) (pe_fn F_read_measures hr (pa_cX (pe_ix (ix_get hu1) (pv 1) pe_int (fun _ _ => rfl)) pa_nil))) (pss_cons (ps_set (i:=3) sc_read_net.nd rfl (by first | exact Or.inl rfl | exact Or.inr rfl) (pe_fn F_read_rows hr (pa_cX (pv 1) pa_nil))) (pss_cons (ps_set (i:=4) sc_read_net.nd rfl (by first | exact Or.inl rfl | exact Or.inr rfl) (pe_mak I_Measures hr T_Measures.mgC (pa_cX (pe_ix (ix_get hu1) (pv 2) pe_int (fun _ _ => rfl)) (pa_cX (pe_ix (ix_get hu1) (pv 2) pe_int (fun _ _ => rfl)) (pa_cX (pe_ix (ix_get hu1) (pv 2) pe_int (fun _ _ => rfl)) (pa_cX (pe_ix (ix_get hu1) (pv 2) pe_int (fun _ _ => rfl)) (pa_cX (pe_ix (ix_get hu1) (pv 2) pe_int (fun _ _ => rfl)) (pa_cX (pe_ix (ix_get hu1) (pv 2) pe_int (fun _ _ => rfl)) (pa_cX (pe_ix (ix_get hu1) (pv 2) pe_int (fun _ _ => rfl)) (pa_cX (pe_ix (ix_get hu1) (pv 2) pe_int (fun _ _ => rfl)) (pa_cX (pe_ix (ix_get hu1) (pv 2) pe_int (fun _ _ => rfl)) (pa_cX (pe_ix (ix_get hu1) (pv 2) pe_int (fun _ _ => rfl)) pa_nil)))))))))))) (pss_one (ps_ret (pe_tup (pa_cX (pv 4) (pa_cX (pe_ix (ix_get hu1) (pv 3) pe_str (fun _ _ => rfl)) (pa_cX (pe_ix (ix_get hu1) (pv 3) pe_str (fun _ _ => rfl)) (pa_cX (pe_ix (ix_get hu1) (pv 3) pe_str (fun _ _ => rfl)) (pa_cX (pe_ix (ix_get hu1) (pv 3) pe_str (fun _ _ => rfl)) pa_nil))))))))))))), ?_⟩
    simp (maxSteps := 1000000) only [rIsIX, tyX_s, V.ty.injEq, kT_stst, rGet, getO_l, tTruX, truX_b, Nat.reduceSub, upd_same, Nat.reduceAdd, ne_eq, tMake, tNever, V.ty.injEq, Bool.not_true, List.cons.injEq, tSeq, exists_and_left, if_false, Bool.false_eq_true, tIfS, tNot, tOp, tVar, tC, tRet, tAsg, gName, tNext, tCall, tCons, tNil, tCB, tTup, L2.start, List.map_cons, List.map_nil, List.length_cons, List.length_nil, List.replicate, List.cons_append, List.nil_append, List.getElem?_cons_zero, List.getElem?_cons_succ, List.set_cons_zero, List.set_cons_succ, Option.some.injEq, exists_eq_left', V.ref.injEq, V.str.injEq, and_true, and_assoc, List.append_nil, tSplS, e10]
    refine ⟨_, rfl, 10, rfl, by decide, hlen, ?_⟩
    rw [net_spl ok hnk (by omega), rowsT_flat]
    intro p1 n1
    generalize z1 : upd H p1 _ = H1
    obtain ⟨s1, e1⟩ := new_same z1 n1
    simp (maxSteps := 1000000) only [atI_0, Option.some.injEq, exists_eq_left', wV_cons]
    refine ⟨ns, rfl, hns, hnk, fun pt H2 s2 et => ?_⟩
    have e12 := s2 _ _ e1
    refine ⟨p1, _, flat n, rfl, e12, flat_ok ok, flat_sorted n, flat_len ok, fun T q' H3 s3 eT nq dist ql => ?_⟩
    obtain ⟨a0, a1, a2, a3, a4, a5, a6, a7, a8, a9, rfl⟩ := ten hns
    have et3 := s3 _ _ et
    have et3' : H3 pt = some (.tup [niV a0, niV a1, niV a2, niV a3, niV a4, niV a5, niV a6, niV a7, niV a8, niV a9]) := et3
    simp (maxSteps := 1000000) only [getO_t, atI_0, atI_1, atI_2, atI_3, Option.some.injEq, exists_eq_left', V.ref.injEq, et3', at4, at5, at6, at7, at8, at9]
    intro x dx hx hdx _
    have hm : m = ⟨(a0 : Int), (a1 : Int), (a2 : Int), (a3 : Int), (a4 : Int), (a5 : Int), (a6 : Int), (a7 : Int), (a8 : Int), (a9 : Int)⟩ := by
      obtain ⟨b0, b1, b2, b3, b4, b5, b6, b7, b8, b9⟩ := m
      simp only [Ms.l, List.map_cons, List.map_nil, List.cons.injEq, and_true] at em
      obtain ⟨rfl, rfl, rfl, rfl, rfl, rfl, rfl, rfl, rfl, rfl⟩ := em
      rfl
    refine ⟨x, dx, m, by rw [hm]; rfl, upd_same, hin, fun H4 e4 k4 => ⟨rfl, ?_⟩⟩
    have s4 : Same H3 H4 := make_same hx hdx k4
    have eT4 := s4 _ _ eT
    simp (maxSteps := 1000000) only [getO_ds, Option.some.injEq, exists_eq_left', eT4, tl0, tl1, tl2, tl3]
    refine ⟨by rw [sizeLine_eq]; decide, fun p hp => q p x dx q' _ ?_⟩
    have s5 : Same H4 (upd H4 p (.tup [.ref x, .ref (q' 0), .ref (q' 1), .ref (q' 2), .ref (q' 3)])) := .upd_new hp
    have s12 := s1.trans s2
    have sA := (s12.trans s3).trans s4
    refine ⟨sA.trans s5, upd_same, s5 _ _ e4, ?_, fun j hj => s12.free (nq j hj), sA.free hp, (s12.trans s3).free hx, dist⟩
    have n3 := (ql.nt).same (s4.trans s5)
    refine ⟨?_, ?_, ?_, ?_⟩
    · exact let ⟨us, e, p⟩ := n3.ln; ⟨us, e, paired_imp (fun _ _ r => r.mono fun b hb => s12.free hb) p⟩
    · exact let ⟨us, e, p⟩ := n3.ch; ⟨us, e, paired_imp (fun _ _ r => r.mono fun b hb => s12.free hb) p⟩
    · exact let ⟨us, e, p⟩ := n3.rd; ⟨us, e, paired_imp (fun _ _ r => r.mono fun b hb => s12.free hb) p⟩
    · exact let ⟨us, e, p⟩ := n3.ws; ⟨us, e, paired_imp (fun _ _ r => r.mono fun b hb => s12.free hb) p⟩
end
end K81
namespace K81
open PySem L2
theorem join_S0 : ∀ l : List (List Nat), joinT (Sg []) (l.map Sg) = Sg l.flatten
  | [] => rfl
  | [p] => by
    change Sg p = Sg (p ++ [])
    rw [List.append_nil]
  | p :: q :: r => by
    change Builtin.Str.glued (Sg []) ((p :: q :: r).map Sg) = _
    unfold Builtin.Str.glued
    have := glue_S [] (q :: r) p
    rw [List.map_cons, List.drop_succ_cons, List.drop_zero, List.headD_cons]
    change (⟨((q :: r).map Sg).foldl (fun a p => a ++ (Sg []).cps ++ p.cps) p.toArray⟩ : Str) = _
    rw [this]
    have : (q :: r).flatMap (fun p => [] ++ p) = (q :: r).flatten := by simp [List.flatMap_def]
    rw [this]
    rfl
theorem jlen0 : ∀ (l : List (List Nat)) (m : Nat), (l.map Sg).foldl (fun a p => a + p.length + 0) m = m + (l.map fun p => p.length).sum
  | [], m => by simp
  | p :: r, m => by
    rw [List.map_cons, List.foldl_cons, jlen0 r, List.map_cons, List.sum_cons, Sg_len]
    omega
theorem join_ok0 {Q : VK} {H : Hp} {zs : List Str} (l : List (List Nat)) (e : zs = l.map Sg) (h : (l.map fun p => p.length).sum ≤ 100000) (q : Q (.str (Sg l.flatten)) H) : jLen (Str.ofString "") zs ≤ sizeLine ∧ (joinT (Str.ofString "") zs).length ≤ sizeLine ∧ Q (.str (joinT (Str.ofString "") zs)) H := by
  subst e
  have e0 : Str.ofString "" = Sg [] := S_of ""
  refine ⟨?_, ?_, by rw [e0, join_S0]; exact q⟩
  · unfold jLen
    rw [e0, List.foldl_toArray, sizeLine_eq]
    have := jlen0 l 0
    change (l.map Sg).foldl (fun a p => a + p.length + 0) 0 ≤ _
    rw [this]
    omega
  · rw [e0, join_S0, Sg_len, sizeLine_eq, List.length_flatten]
    have : (l.map List.length).sum = (l.map fun p => p.length).sum := rfl
    omega
theorem flat_one : ∀ xs : List Nat, (xs.map fun c => [c]).flatten = xs
  | [] => rfl
  | c :: r => by rw [List.map_cons, List.flatten_cons, flat_one r]; rfl
theorem sum_one : ∀ xs : List Nat, ((xs.map fun c => [c]).map fun p => p.length).sum = xs.length
  | [] => rfl
  | c :: r => by rw [List.map_cons, List.map_cons, List.sum_cons, sum_one r, List.length_cons]; exact Nat.add_comm 1 _
def Dr (H : Hp) (pd : Addr) : Prop := ∃ a b : Int, H pd = some (.lst [.int a, .int b])
section
variable {P : Program} {w : World} {K : PySem.W.Frag} {mg : Str → Option Value} {base : Heap} {H H' : Hp} {pd : Addr}
theorem Dr.same (d : Dr H pd) (s : Same H H') : Dr H' pd := by
  obtain ⟨a, b, e⟩ := d
  exact ⟨a, b, s _ _ e⟩
theorem Dr.ne (d : Dr H pd) {p : Addr} (n : H p = none) : p ≠ pd := fun z => by
  obtain ⟨a, b, e⟩ := d
  rw [z, e] at n
  cases n
theorem Dr.no (d : Dr H pd) : ∀ b ∈ [pd], ¬ H b = none := fun b hb h => by
  obtain ⟨x, y, e⟩ := d
  rw [List.mem_singleton] at hb
  rw [hb, e] at h
  cases h
theorem Dr.old (d : Dr H' pd) (k : Keep [pd] H H') {b : Addr} (h : H' b = none) : H b = none := by
  cases e : H b with
  | none => rfl
  | some o =>
    by_cases hb : b = pd
    · exact absurd h (d.no b (by rw [hb]; exact .head _))
    · rw [k _ _ e (by simpa using hb)] at h
      cases h
abbrev s__law_draw : Stmt := top 43
theorem sc__law_draw : FnScope ["_law_cell"] ["_law_cell"] (defScope s__law_draw) := ⟨rfl, rfl, rfl, by decide +kernel, rfl, by decide +kernel, by decide +kernel⟩
abbrev s__law_next : Stmt := top 44
theorem sc__law_next : FnScope ["_law_draw_here", "_law_size", "_law_digit", "_law_number_here"] ["_law_draw_here", "_law_size"] (defScope s__law_next) := ⟨rfl, rfl, rfl, by decide +kernel, rfl, by decide +kernel, by decide +kernel⟩
def sp_draw : Sp := fun vs H Q _ => ∃ c : Int, vs = [.int c] ∧ ∀ (p : Addr) (a b : Int) H', H p = none → H' p = some (.lst [.int a, .int b]) → Same H H' → Q (.ref p) H'
theorem own_draw (D : Def K mg "_law_draw" s__law_draw) : Own P w K mg base 1 "_law_draw" ["_law_cell"] sp_draw := by
  refine D.own sc__law_draw (fun _ _ _ _ _ _ us hl => match us, hl with | [_], _ => rfl) (fun vs H Q E h => ?_) (fun f cdv A outer s H vs Q E hr h => ?_)
  · obtain ⟨c, rfl, _⟩ := h
    rfl
  · obtain ⟨c, rfl, q⟩ := h
    refine ⟨_, (pss_one (ps_ret (pe_lst (pa_cX (pe_op op_mul (pe_op op_fdiv (pv 0) pe_int) (pe_op op_sub pe_int (pe_op op_mod (pv 0) pe_int))) (pa_cX (pv 0) pa_nil))))), ?_⟩
    simp (maxSteps := 1000000) only [Nat.reduceSub, Int.reduceLT, Nat.reduceAdd, exists_and_left, tOp, tVar, tC, rI, rI0, tRet, tCons, tNil, tLst, L2.start, List.map_cons, List.map_nil, List.length_cons, List.length_nil, List.replicate, List.getElem?_cons_zero, Option.some.injEq, exists_eq_left', V.int.injEq, true_and, List.append_nil]
    refine ⟨⟨by decide, by decide⟩, .inr ⟨by omega, by omega⟩, by decide, fun p hp => q p _ _ _ hp upd_same (Same.upd_new hp)⟩
def sp_next : Sp := fun vs H Q _ => ∃ (p : Addr) (a b n : Int), vs = [.ref p, .int n] ∧ H p = some (.lst [.int a, .int b]) ∧ 1 ≤ n ∧ n < 2 ^ 200 ∧ ∀ (r a' b' : Int), 0 ≤ r → r < n → Q (.int r) (upd H p (.lst [.int a', .int b']))
theorem own_next (D : Def K mg "_law_next" s__law_next) : Own P w K mg base 1 "_law_next" ["_law_draw_here", "_law_size"] sp_next := by
  refine D.own sc__law_next (fun _ _ _ _ _ _ us hl => match us, hl with | [_, _], _ => rfl) (fun vs H Q E h => ?_) (fun f cdv A outer s H vs Q E hr h => ?_)
  · obtain ⟨p, a, b, n, rfl, _⟩ := h
    rfl
  · obtain ⟨p, a, b, n, rfl, ep, h1, h2, q⟩ := h
    have hu := hr.units
    have hu1 : (A.deeper (PyProof.Rows.envOfC "_law_next" (defScope s__law_next) s.heap.objs.size f cdv)).units + 1 < cLine := by omega
    refine ⟨_, (pss_cons (ps_asg (pe_op op_mod (pe_op op_add (pe_op op_mul (pe_ix (ix_get hu1) (pv 0) pe_int (fun _ _ => rfl)) pe_int) pe_int) pe_int) (pg_sub (pv 0) pe_int (set_x hu1))) (pss_cons (ps_if (pt_cmpR op_gt (pe_ix (ix_get hu1) (pv 0) pe_int (fun _ _ => rfl)) pe_int (nomark _)) (pss_cons (ps_set (i:=2) sc__law_next.nd rfl (by first | exact Or.inl rfl | exact Or.inr rfl) (pe_op op_mod (pe_ix (ix_get hu1) (pv 0) pe_int (fun _ _ => rfl)) (pv 1))) (pss_cons (ps_asg (pe_op op_fdivW (pe_ix (ix_get hu1) (pv 0) pe_int (fun _ _ => rfl)) (pv 1)) (pg_sub (pv 0) pe_int (set_x hu1))) (pss_one (ps_ret (pv 2))))) pss_nil) (pss_cons (ps_set (i:=3) sc__law_next.nd rfl (by first | exact Or.inl rfl | exact Or.inr rfl) (pe_op op_mod (pe_op op_mul (pe_ix (ix_get hu1) (pv 0) pe_int (fun _ _ => rfl)) (pe_op op_add (pe_op op_fdiv (pe_ix (ix_get hu1) (pv 0) pe_int (fun _ _ => rfl)) pe_int) pe_int)) pe_int)) (pss_one (ps_ret (pe_op op_mod (pe_op op_mod (pe_op op_mul (pv 3) (pe_op op_add (pe_op op_fdiv (pv 3) pe_int) pe_int)) pe_int) (pv 1))))))), ?_⟩
    simp (maxSteps := 1000000) only [ixN_20, ixN_21, rGet, getO_l, rSetX, setO_l, gSub, atI_0, atI_1, Nat.reduceSub, upd_same, upd_upd, Option.map_some, Int.reduceLT, Nat.reduceAdd, tSeq, exists_and_left, tIfS, tTest, tOp, tVar, tC, rI, rI0, tRet, tAsg, gName, tNext, L2.start, List.map_cons, List.map_nil, List.length_cons, List.length_nil, List.replicate, List.cons_append, List.nil_append, List.getElem?_cons_zero, List.getElem?_cons_succ, List.set_cons_zero, List.set_cons_succ, Option.some.injEq, exists_eq_left', V.int.injEq, V.bl.injEq, V.ref.injEq, true_and, ep]
    have hb1 : 0 ≤ (b * 48271 + 11) % 2147483647 ∧ (b * 48271 + 11) % 2147483647 < 2147483647 := ⟨Int.emod_nonneg _ (by decide), Int.emod_lt_of_pos _ (by decide)⟩
    generalize (b * 48271 + 11) % 2147483647 = b1 at hb1 ⊢
    refine ⟨.inr ⟨by decide, by decide⟩, ?_⟩
    refine ite2 (fun ha => ⟨by omega, cdivw_of (by omega) h2, q (a % n) (a / n) b1 (Int.emod_nonneg _ (by omega)) (Int.emod_lt_of_pos _ (by omega))⟩) (fun ha => ⟨⟨by decide, by decide⟩, .inl ⟨by omega, by omega⟩, ⟨by decide, by decide⟩, cmul_mod (by decide) (by decide), by omega, q _ a b1 (Int.emod_nonneg _ (by omega)) (Int.emod_lt_of_pos _ (by omega))⟩)
theorem next_ok {n : Int} {Q : VK} {E : XK} (d : Dr H pd) (h1 : 1 ≤ n) (h2 : n < 2 ^ 200) (q : ∀ (r : Nat) (H' : Hp), (r : Int) < n → Dr H' pd → Keep [pd] H H' → Q (.int (r : Int)) H') : sp_next [.ref pd, .int n] H Q E := by
  obtain ⟨a, b, e⟩ := d
  refine ⟨pd, a, b, n, rfl, e, h1, h2, fun r a' b' h0 hn => ?_⟩
  have := q r.toNat (upd H pd (.lst [.int a', .int b'])) (by omega) ⟨a', b', upd_same⟩ (Keep.refl.upd (.inl (.head _)))
  rw [Int.toNat_of_nonneg h0] at this
  exact this
def Drw (R : (Addr → Prop) → Hp → V → Prop) : Sp := fun vs H Q _ => ∃ pd, vs = [.ref pd] ∧ Dr H pd ∧ ∀ v H', R (fun b => H b = none) H' v → Dr H' pd → Keep [pd] H H' → Q v H'
abbrev s__law_number : Stmt := top 45
theorem sc__law_number : FnScope ["_law_draw_here"] ["_law_draw_here"] (defScope s__law_number) := ⟨rfl, rfl, rfl, by decide +kernel, rfl, by decide +kernel, by decide +kernel⟩
abbrev s__law_text : Stmt := top 47
theorem sc__law_text : FnScope ["_law_draw_here", "_law_some", "_law_many"] ["_law_draw_here"] (defScope s__law_text) := ⟨rfl, rfl, rfl, by decide +kernel, rfl, by decide +kernel, by decide +kernel⟩
theorem cs__law_text_0 : CScope ["_law_k"] ["_law_draw_here", "_law_some"] { kind := .function, names := [(".0", .local), ("_law_k", .local), ("_law_next", .globalImplicit), ("len", .globalImplicit), ("_law_draw_here", .free), ("_law_some", .free)], isGenerator := false, isCoroutine := false, more := [] } (defScope s__law_text) := ⟨rfl, by decide +kernel, by decide +kernel, by decide +kernel, by decide +kernel, by decide +kernel⟩
abbrev s__law_name : Stmt := top 48
theorem sc__law_name : FnScope ["_law_draw_here", "_law_letters"] ["_law_draw_here"] (defScope s__law_name) := ⟨rfl, rfl, rfl, by decide +kernel, rfl, by decide +kernel, by decide +kernel⟩
theorem cs__law_name_0 : CScope ["_law_k"] ["_law_draw_here", "_law_letters"] { kind := .function, names := [(".0", .local), ("_law_k", .local), ("_law_next", .globalImplicit), ("_law_draw_here", .free), ("_law_letters", .free)], isGenerator := false, isCoroutine := false, more := [] } (defScope s__law_name) := ⟨rfl, by decide +kernel, by decide +kernel, by decide +kernel, by decide +kernel, by decide +kernel⟩
abbrev s__law_price : Stmt := top 49
theorem sc__law_price : FnScope ["_law_draw_here"] ["_law_draw_here"] (defScope s__law_price) := ⟨rfl, rfl, rfl, by decide +kernel, rfl, by decide +kernel, by decide +kernel⟩
abbrev s__law_deeds : Stmt := top 50
theorem sc__law_deeds : FnScope ["_law_draw_here", "_law_deeds_here", "_law_k"] ["_law_draw_here"] (defScope s__law_deeds) := ⟨rfl, rfl, rfl, by decide +kernel, rfl, by decide +kernel, by decide +kernel⟩
theorem cs__law_deeds_0 : CScope ["_law_copy"] ["_law_draw_here"] { kind := .function, names := [(".0", .local), ("_law_copy", .local), ("_law_number", .globalImplicit), ("_law_draw_here", .free)], isGenerator := false, isCoroutine := false, more := [] } (defScope s__law_deeds) := ⟨rfl, by decide +kernel, by decide +kernel, by decide +kernel, by decide +kernel, by decide +kernel⟩
def isNum (_ : Addr → Prop) (_ : Hp) (v : V) : Prop := ∃ k : Nat, v = niV k ∧ k < 100000
theorem own_lnum (D : Def K mg "_law_number" s__law_number) (F__law_next : Own P w K mg base 1 "_law_next" ["_law_draw_here", "_law_size"] sp_next) : Own P w K mg base 2 "_law_number" ["_law_draw_here"] (Drw isNum) := by
  refine D.own sc__law_number (fun _ _ _ _ _ _ us hl => match us, hl with | [_], _ => rfl) (fun vs H Q E h => ?_) (fun f cdv A outer s H vs Q E hr h => ?_)
  · obtain ⟨pd, rfl, _⟩ := h
    rfl
  · obtain ⟨pd, rfl, d, q⟩ := h
    have hu := hr.units
    have hu1 : (A.deeper (PyProof.Rows.envOfC "_law_number" (defScope s__law_number) s.heap.objs.size f cdv)).units + 1 < cLine := by omega
    refine ⟨_, (pss_one (ps_ret (pe_fn F__law_next hr (pa_cX (pv 0) (pa_cX (pe_ix (ix_get hu1) (pe_lst (pa_cX pe_int (pa_cX pe_int (pa_cX pe_int (pa_cX pe_int pa_nil))))) (pe_fn F__law_next hr (pa_cX (pv 0) (pa_cX pe_int pa_nil))) (fun _ _ => rfl)) pa_nil))))), ?_⟩
    simp (maxSteps := 1000000) only [rGet, Nat.reduceSub, Nat.reduceAdd, exists_and_left, tOp, tVar, tC, tRet, tCall, tCons, tNil, tLst, L2.start, List.map_cons, List.map_nil, List.length_cons, List.length_nil, List.replicate, List.getElem?_cons_zero, Option.some.injEq, exists_eq_left', V.ref.injEq, List.append_nil]
    refine ⟨by rw [sizeLine_eq]; decide, ?_⟩
    intro p1 n1
    generalize z1 : upd H p1 _ = H1
    obtain ⟨s1, e1⟩ := new_same z1 n1
    refine next_ok (d.same s1) (by decide) (by decide) fun r H2 hr2 d2 k2 => ?_
    have e12 := k2 _ _ e1 (by simp [d.ne n1])
    have fin : ∀ n : Int, 1 ≤ n → n ≤ 100000 → sp_next [V.ref pd, V.int n] H2 Q E0 := fun n h1 h2 => next_ok d2 h1 (Int.lt_of_le_of_lt h2 (by decide)) fun x H3 hx d3 k3 => q _ _ ⟨x, rfl, by omega⟩ d3 ((s1.keep.trans k2).trans k3)
    refine ⟨_, e12, ?_⟩
    match r, hr2 with
    | 0, _ => exact ⟨_, rfl, fin _ (by decide) (by decide)⟩
    | 1, _ => exact ⟨_, rfl, fin _ (by decide) (by decide)⟩
    | 2, _ => exact ⟨_, rfl, fin _ (by decide) (by decide)⟩
    | 3, _ => exact ⟨_, rfl, fin _ (by decide) (by decide)⟩
    | k + 4, h => exact absurd h (by omega)
theorem comp_draw {α : Type} {js : List Nat} {te : TE} {σ : St} {Q : VK} {H1 : Hp} {lo : Int} {m : Nat} (R : α → V → Prop) (hz : m ≤ 100) (d1 : Dr H1 pd)
    (hs : ∀ (i : Nat) (H : Hp) (Q' : VK), Dr H pd → (∀ v a H', R a v → Dr H' pd → Keep [pd] H H' → Q' v H') → te ((cSt 1 js σ).set 0 (some (.int (lo + i)))) H Q')
    (hd : ∀ D H' vs (xs : List α), H1 D = none → H' D = some (.lst vs) → Paired R xs vs → xs.length = m → Dr H' pd → Keep [pd] H1 H' → Q (.ref D) H') : CompW 1 js (gName 0) tYes te σ Q (Itr lo m) H1 := by
  refine comp_range (by rw [sizeLine_eq]; omega) (fun D i acc H => ∃ xs : List α, Paired R xs acc ∧ xs.length = i ∧ H D = some (.lst acc) ∧ Dr H pd ∧ Keep [pd] H1 H) (fun D hD => ⟨[], .nil, rfl, upd_same, d1.same (.upd_new hD), Keep.refl.upd (.inr hD)⟩) ?_ ?_ ?_
  · rintro D i acc H hD hi ⟨xs, P, hl, eD, d, k⟩
    exact ⟨eD, by rw [← P.length]; omega⟩
  · rintro D i acc H hD hi ⟨xs, P, hl, eD, d, k⟩
    refine ⟨by simp [cSt], ?_⟩
    change te _ H _
    refine hs i H _ d fun v a H2 r d2 k2 => ?_
    have nD : D ≠ pd := d1.ne hD
    have eD2 := k2 _ _ eD (by simp [nD])
    refine ⟨eD2, xs ++ [a], paired_app P (.cons r .nil), by rw [List.length_append, hl]; rfl, upd_same, ?_, (k.trans k2).upd (.inr hD)⟩
    obtain ⟨x, y, e⟩ := d2
    exact ⟨x, y, by rw [upd_ne (Ne.symm nD)]; exact e⟩
  · rintro D acc H hD ⟨xs, P, hl, eD, d, k⟩
    exact hd D H acc xs hD eD P hl d k
theorem signs_of {Z : Nat → Prop} : ∀ {xs : List Nat} {vs : List V}, Paired (fun c v => v = V.str (Sg [c]) ∧ Z c) xs vs → vs = ((xs.map fun c => [c]).map Sg).map V.str ∧ ∀ c ∈ xs, Z c
  | _, _, .nil => ⟨rfl, fun _ z => nomatch z⟩
  | _, _, .cons h t => by
    obtain ⟨e, hz⟩ := signs_of t
    refine ⟨by rw [h.1, e]; rfl, fun c hc => ?_⟩
    rcases List.mem_cons.mp hc with rfl | hc
    · exact h.2
    · exact hz c hc
def isTxt (_ : Addr → Prop) (_ : Hp) (v : V) : Prop := ∃ s, v = .str (Sg s) ∧ okS s
def isNam (_ : Addr → Prop) (_ : Hp) (v : V) : Prop := ∃ s, v = .str (Sg s) ∧ okN s
def isPrc (_ : Addr → Prop) (_ : Hp) (v : V) : Prop := ∃ o, v = onV o ∧ okO o
theorem own_lprice (D : Def K mg "_law_price" s__law_price) (F__law_next : Own P w K mg base 1 "_law_next" ["_law_draw_here", "_law_size"] sp_next) (F__law_number : Own P w K mg base 2 "_law_number" ["_law_draw_here"] (Drw isNum)) : Own P w K mg base 3 "_law_price" ["_law_draw_here"] (Drw isPrc) := by
  refine D.own sc__law_price (fun _ _ _ _ _ _ us hl => match us, hl with | [_], _ => rfl) (fun vs H Q E h => ?_) (fun f cdv A outer s H vs Q E hr h => ?_)
  · obtain ⟨pd, rfl, _⟩ := h
    rfl
  · obtain ⟨pd, rfl, d, q⟩ := h
    refine ⟨_, (pss_cons (ps_if (pt_cmpR op_eq (pe_fn F__law_next hr (pa_cX (pv 0) (pa_cX pe_int pa_nil))) pe_int (nomark _)) (pss_one (ps_ret pe_non)) pss_nil) (pss_one (ps_ret (pe_fn F__law_number hr (pa_cX (pv 0) pa_nil))))), ?_⟩
    simp (maxSteps := 1000000) only [Nat.reduceSub, Nat.reduceAdd, tSeq, tIfS, tTest, tOp, tVar, tC, tRet, tNext, tCall, tCons, tNil, L2.start, List.map_cons, List.map_nil, List.length_cons, List.length_nil, List.replicate, List.getElem?_cons_zero, Option.some.injEq, exists_eq_left', List.append_nil]
    refine next_ok d (by decide) (by decide) fun r H1 hr1 d1 k1 => ?_
    simp (maxSteps := 1000000) only [rEq_ii, exists_eq_left', V.bl.injEq]
    refine ite2 (fun _ => q _ _ ⟨none, rfl, (fun _ z => nomatch z)⟩ d1 k1) (fun _ => ⟨pd, rfl, d1, ?_⟩)
    rintro v H2 ⟨k, rfl, hk⟩ d2 k2
    exact q _ _ ⟨some k, rfl, (fun _ z => by cases z; exact hk)⟩ d2 (k1.trans k2)
set_option maxHeartbeats 1000000 in
theorem own_lname (D : Def K mg "_law_name" s__law_name) (hb : Blt mg) (F__law_next : Own P w K mg base 1 "_law_next" ["_law_draw_here", "_law_size"] sp_next) : Own P w K mg base 2 "_law_name" ["_law_draw_here"] (Drw isNam) := by
  refine D.own sc__law_name (fun _ _ _ _ _ _ us hl => match us, hl with | [_], _ => rfl) (fun vs H Q E h => ?_) (fun f cdv A outer s H vs Q E hr h => ?_)
  · obtain ⟨pd, rfl, _⟩ := h
    rfl
  · obtain ⟨pd, rfl, d, q⟩ := h
    refine ⟨_, (pss_cons (ps_set (i:=1) sc__law_name.nd rfl (by first | exact Or.inl rfl | exact Or.inr rfl) pe_str) (pss_one (ps_ret (pe_join pe_str (pe_comp ["_law_k"] ["_law_draw_here", "_law_letters"] [0, 1] rfl cs__law_name_0 (pi_range1 rfl (hb _ (by decide)) (pa_cX (pe_op op_add pe_int (pe_fn F__law_next hr (pa_cX (pv 0) (pa_cX pe_int pa_nil)))) pa_nil)) (fun _ _ _ _ => (pg_name (i:=0) cs__law_name_0.nd rfl (by first | exact Or.inl rfl | exact Or.inr rfl))) (fun _ _ _ _ => pf_nil) (fun _ _ _ _ => (pe_item_str (pv 2) (pe_fn F__law_next hr (pa_cX (pv 1) (pa_cX pe_int pa_nil))) (fun _ _ => rfl)))) (by constructor <;> rfl))))), ?_⟩
    simp (maxSteps := 1000000) only [tComp_eq, Nat.reduceSub, Nat.reduceAdd, iRng1, List.cons.injEq, tSeq, exists_and_left, tOp, tVar, tC, rI0, tRet, tAsg, gName, tCall, tCons, tNil, L2.start, List.map_cons, List.map_nil, List.length_cons, List.length_nil, List.replicate, List.cons_append, List.nil_append, List.getElem?_cons_zero, List.set_cons_zero, List.set_cons_succ, Option.some.injEq, exists_eq_left', V.int.injEq, V.str.injEq, and_true, List.append_nil, tJoin]
    refine next_ok d (by decide) (by decide) fun n H1 hn d1 k1 => ?_
    simp (maxSteps := 1000000) only [exists_eq_left', V.int.injEq]
    refine ⟨by omega, by omega, ?_⟩
    refine comp_draw (pd := pd) (fun c v => v = V.str (Sg [c]) ∧ 97 ≤ c ∧ c ≤ 122) (by omega) d1 (fun i H3 Q' d3 hq => ?_) (fun D H3 vs xs nD eD P hl d3 k3 => ?_)
    · simp (maxSteps := 1000000) only [cSt, tOp, tVar, tC, tCall, tCons, tNil, List.map_cons, List.map_nil, List.replicate, List.cons_append, List.nil_append, List.getElem?_cons_zero, List.getElem?_cons_succ, List.set_cons_zero, Option.some.injEq, exists_eq_left', V.str.injEq, List.append_nil, Option.join_some]
      refine next_ok d3 (by decide) (by decide) fun x H4 hx d4 k4 => ?_
      have hx' : x < 26 := by omega
      have hlen : (Str.ofString "abcdefghijklmnopqrstuvwxyz").length = 26 := by decide
      have hc : ∀ y : Fin 26, (Str.ofString "abcdefghijklmnopqrstuvwxyz").cps[y.val]? = some (97 + y.val) := by decide
      refine ⟨(x : Int), rfl, by omega, by omega, by rw [hlen]; omega, ?_⟩
      rw [Int.toNat_natCast]
      exact ⟨97 + x, hc ⟨x, hx'⟩, hq _ (97 + x) _ ⟨rfl, by omega, by omega⟩ d4 k4⟩
    · obtain ⟨e, hz⟩ := signs_of P
      have hl2 : xs.length = 1 + n := by omega
      refine ⟨D, rfl, (xs.map fun c => [c]).map Sg, by rw [eD, e], join_ok0 (xs.map fun c => [c]) rfl (by rw [sum_one]; omega) ?_⟩
      rw [flat_one]
      exact q _ _ ⟨xs, rfl, (fun z => by rw [z] at hl2; simp at hl2; omega), by omega, hz⟩ d3 (k1.trans k3)
def soms : List Nat := K81.w " abcXYZ019;:/\x2d,.!#$&'()*+<=>?\x40[]^_`{|}~\\\""
theorem soms_pr : ∀ c ∈ soms, 32 ≤ c ∧ c ≤ 126 := fun c hc => by
  have : (soms.all fun c => decide (32 ≤ c) && decide (c ≤ 126)) = true := by decide
  have := List.all_eq_true.mp this c hc
  simpa using this
set_option maxHeartbeats 1000000 in
theorem own_ltext (D : Def K mg "_law_text" s__law_text) (hb : Blt mg) (F__law_next : Own P w K mg base 1 "_law_next" ["_law_draw_here", "_law_size"] sp_next) : Own P w K mg base 2 "_law_text" ["_law_draw_here"] (Drw isTxt) := by
  refine D.own sc__law_text (fun _ _ _ _ _ _ us hl => match us, hl with | [_], _ => rfl) (fun vs H Q E h => ?_) (fun f cdv A outer s H vs Q E hr h => ?_)
  · obtain ⟨pd, rfl, _⟩ := h
    rfl
  · obtain ⟨pd, rfl, d, q⟩ := h
    have hu := hr.units
    have hu1 : (A.deeper (PyProof.Rows.envOfC "_law_text" (defScope s__law_text) s.heap.objs.size f cdv)).units + 1 < cLine := by omega
    have es : Str.ofString " abcXYZ019;:/\x2d,.!#$&'()*+<=>?\x40[]^_`{|}~\\\"" = Sg soms := S_of _
    refine ⟨_, (pss_cons (ps_set (i:=1) sc__law_text.nd rfl (by first | exact Or.inl rfl | exact Or.inr rfl) pe_str) (pss_cons (ps_set (i:=2) sc__law_text.nd rfl (by first | exact Or.inl rfl | exact Or.inr rfl) (pe_op op_add pe_int (pe_fn F__law_next hr (pa_cX (pv 0) (pa_cX (pe_ix (ix_get hu1) (pe_lst (pa_cX pe_int (pa_cX pe_int pa_nil))) (pe_callTy call_int1 rfl (hb _ (by decide)) bt_int (pa_cX (pe_cmpR op_eq (pe_fn F__law_next hr (pa_cX (pv 0) (pa_cX pe_int pa_nil))) pe_int (nomark _)) pa_nil)) (fun _ _ => rfl)) pa_nil))))) (pss_one (ps_ret (pe_join pe_str (pe_comp ["_law_k"] ["_law_draw_here", "_law_some"] [0, 1] rfl cs__law_text_0 (pi_range1 rfl (hb _ (by decide)) (pa_cX (pv 2) pa_nil)) (fun _ _ _ _ => (pg_name (i:=0) cs__law_text_0.nd rfl (by first | exact Or.inl rfl | exact Or.inr rfl))) (fun _ _ _ _ => pf_nil) (fun _ _ _ _ => (pe_item_str (pv 2) (pe_fn F__law_next hr (pa_cX (pv 1) (pa_cX (pe_callB call_lenX rfl (hb _ (by decide)) bt_len (pa_cX (pv 2) pa_nil)) pa_nil))) (fun _ _ => rfl)))) (by constructor <;> rfl)))))), ?_⟩
    refine use2 (fun σ H' => ∃ n : Nat, σ = [some (.ref pd), some (.str (Sg soms)), some (.int (n : Int))] ∧ 1 ≤ n ∧ n ≤ 90 ∧ Dr H' pd ∧ Keep [pd] H H') ?_ (fun X hX => ?_)
    rotate_left
    · simp (maxSteps := 1000000) only [rGet, Nat.reduceSub, Nat.reduceAdd, List.cons.injEq, tSeq, exists_and_left, tOp, tVar, tC, rI0, tAsg, gName, tCall, tCons, tNil, tCB, tLst, L2.start, List.map_cons, List.map_nil, List.length_cons, List.length_nil, List.replicate, List.cons_append, List.nil_append, List.getElem?_cons_zero, List.set_cons_zero, List.set_cons_succ, Option.some.injEq, exists_eq_left', V.int.injEq, V.ref.injEq, and_true, List.append_nil, es]
      refine ⟨by rw [sizeLine_eq]; decide, ?_⟩
      intro p1 n1
      generalize z1 : upd H p1 _ = H1
      obtain ⟨s1, e1⟩ := new_same z1 n1
      refine next_ok (d.same s1) (by decide) (by decide) fun r H2 hr2 d2 k2 => ?_
      have e12 := k2 _ _ e1 (by simp [d.ne n1])
      have fin : ∀ m : Int, 1 ≤ m → m ≤ 90 → sp_next [V.ref pd, V.int m] H2 (fun y H2 => ∃ j, y = V.int j ∧ X { nx := fun _ H' => Q V.non H', rt := Q } [some (.ref pd), some (.str (Sg soms)), some (.int (1 + j))] H2) E0 := fun m h1 h2 => next_ok d2 h1 (Int.lt_of_le_of_lt h2 (by decide)) fun x H3 hx d3 k3 => ⟨_, rfl, hX _ _ ⟨1 + x, by rw [Int.natCast_add]; rfl, by omega, by omega, d3, (s1.keep.trans k2).trans k3⟩⟩
      simp (maxSteps := 1000000) only [getO_l, rEq_ii, Option.some.injEq, exists_eq_left', V.bl.injEq, exists_const, reduceCtorEq, false_and, false_or, e12]
      by_cases h0 : (r : Int) = 0
      · rw [decide_eq_true h0]
        exact ⟨_, rfl, fin _ (by decide) (by decide)⟩
      · rw [decide_eq_false h0]
        exact ⟨_, rfl, fin _ (by decide) (by decide)⟩
    rintro σ H1 ⟨n, rfl, hn1, hn2, d1, k1⟩
    simp (maxSteps := 1000000) only [tComp_eq, Nat.reduceAdd, iRng1, List.cons.injEq, exists_and_left, tVar, tC, tRet, tCons, tNil, List.length_cons, List.length_nil, List.getElem?_cons_zero, List.getElem?_cons_succ, Option.some.injEq, exists_eq_left', V.int.injEq, V.str.injEq, and_true, tJoin]
    refine ⟨by omega, by omega, ?_⟩
    refine comp_draw (pd := pd) (fun c v => v = V.str (Sg [c]) ∧ 32 ≤ c ∧ c ≤ 126) (by omega) d1 (fun i H3 Q' d3 hq => ?_) (fun D H3 vs xs nD eD P hl d3 k3 => ?_)
    · have hlen : (Sg soms).length = 41 := by rw [Sg_len]; decide
      simp (maxSteps := 1000000) only [rLenX, lenX_s', cSt, List.cons.injEq, exists_and_left, tOp, tVar, tCall, tCons, tNil, tCB, List.map_cons, List.map_nil, List.replicate, List.cons_append, List.nil_append, List.getElem?_cons_zero, List.getElem?_cons_succ, List.set_cons_zero, Option.some.injEq, exists_eq_left', V.str.injEq, and_true, List.append_nil, Option.join_some, hlen]
      refine ⟨41, if_pos (by rw [sizeLine_eq]; decide), next_ok d3 (by decide) (by decide) fun x H4 hx d4 k4 => ⟨(x : Int), rfl, by omega, by omega, by omega, ?_⟩⟩
      rw [Int.toNat_natCast]
      have hx' : x < soms.length := by have : soms.length = 41 := by decide
                                       omega
      refine ⟨soms[x], by simp [Sg, hx'], hq _ soms[x] _ ⟨rfl, soms_pr _ (List.getElem_mem _)⟩ d4 k4⟩
    · obtain ⟨e, hz⟩ := signs_of P
      have hl2 : xs.length = n := by omega
      refine ⟨D, rfl, (xs.map fun c => [c]).map Sg, by rw [eD, e], join_ok0 (xs.map fun c => [c]) rfl (by rw [sum_one]; omega) ?_⟩
      rw [flat_one]
      exact q _ _ ⟨xs, rfl, (fun z => by rw [z] at hl2; simp at hl2; omega), by omega, hz⟩ d3 (k1.trans k3)
def isDds (N : Addr → Prop) (H : Hp) (v : V) : Prop := ∃ d, RF N H (.ds d) v ∧ okDs d
theorem nums_pair {xs : List Nat} {vs : List V} (h : Paired (fun k v => v = niV k ∧ k < 100000) xs vs) : vs = xs.map niV ∧ ∀ k ∈ xs, k < 100000 := by
  induction h with
  | nil => exact ⟨rfl, fun _ z => nomatch z⟩
  | cons h t ih =>
    refine ⟨by rw [h.1, ih.1]; rfl, fun c hc => ?_⟩
    rcases List.mem_cons.mp hc with rfl | hc
    · exact h.2
    · exact ih.2 c hc
def LDs (H H1 : Hp) (pd p1 : Addr) (i : Nat) (σ : St) (H' : Hp) : Prop := ∃ v3 ds us, σ = [some (.ref pd), some (.ref p1), v3] ∧ ds.length = i ∧ (∀ x ∈ ds, okD x) ∧ H' p1 = some (.lst us) ∧ Paired (RD (fun b => H1 b = none) H') ds us ∧ Dr H' pd ∧ Keep [pd] H H'
set_option maxHeartbeats 1000000 in
theorem own_ldeeds (D : Def K mg "_law_deeds" s__law_deeds) (hb : Blt mg) (F__law_next : Own P w K mg base 1 "_law_next" ["_law_draw_here", "_law_size"] sp_next) (F__law_number : Own P w K mg base 2 "_law_number" ["_law_draw_here"] (Drw isNum)) : Own P w K mg base 3 "_law_deeds" ["_law_draw_here"] (Drw isDds) := by
  refine D.own sc__law_deeds (fun _ _ _ _ _ _ us hl => match us, hl with | [_], _ => rfl) (fun vs H Q E h => ?_) (fun f cdv A outer s H vs Q E hr h => ?_)
  · obtain ⟨pd, rfl, _⟩ := h
    rfl
  · obtain ⟨pd, rfl, d, q⟩ := h
    refine ⟨_, (pss_cons (ps_set (i:=1) sc__law_deeds.nd rfl (by first | exact Or.inl rfl | exact Or.inr rfl) (pe_lst pa_nil)) (pss_cons (ps_for PassesOwn.never rfl (pi_range1 rfl (hb _ (by decide)) (pa_cX (pe_fn F__law_next hr (pa_cX (pv 0) (pa_cX pe_int pa_nil))) pa_nil)) (pg_name (i:=2) sc__law_deeds.nd rfl (by first | exact Or.inl rfl | exact Or.inr rfl)) (pss_one (ps_expr (pe_lm PySem.F.slot_list_append PySem.F.type_list_append mt_append (pv 1) (pa_cX (pe_callTy call_tupX rfl (hb _ (by decide)) bt_tuple (pa_cX (pe_comp ["_law_copy"] ["_law_draw_here"] [0] rfl cs__law_deeds_0 (pi_range1 rfl (hb _ (by decide)) (pa_cX (pe_fn F__law_next hr (pa_cX (pv 0) (pa_cX pe_int pa_nil))) pa_nil)) (fun _ _ _ _ => (pg_name (i:=0) cs__law_deeds_0.nd rfl (by first | exact Or.inl rfl | exact Or.inr rfl))) (fun _ _ _ _ => pf_nil) (fun _ _ _ _ => (pe_fn F__law_number hr (pa_cX (pv 1) pa_nil)))) pa_nil)) pa_nil))))) (pss_one (ps_ret (pv 1))))), ?_⟩
    simp (maxSteps := 1000000) only [tFor_eq, Nat.reduceSub, Nat.reduceAdd, iRng1, List.cons.injEq, tSeq, tVar, tC, tAsg, gName, tCall, tCons, tNil, tLst, L2.start, List.map_cons, List.map_nil, List.length_cons, List.length_nil, List.replicate, List.cons_append, List.nil_append, List.getElem?_cons_zero, List.set_cons_zero, List.set_cons_succ, Option.some.injEq, exists_eq_left', and_true, List.append_nil]
    refine ⟨by rw [sizeLine_eq]; decide, ?_⟩
    intro p1 n1
    generalize z1 : upd H p1 _ = H1
    obtain ⟨s1, e1⟩ := new_same z1 n1
    refine next_ok (d.same s1) (by decide) (by decide) fun n H2 hn d2 k2 => ?_
    simp (maxSteps := 1000000) only [exists_eq_left', V.int.injEq]
    have np : p1 ≠ pd := d.ne n1
    have e12 := k2 _ _ e1 (by simp [np])
    refine ⟨by omega, by omega, ?_⟩
    rw [Int.toNat_natCast]
    refine for_range (n := n) (LDs H H1 pd p1) ⟨none, [], [], rfl, rfl, (fun _ z => nomatch z), e12, .nil, d2, s1.keep.trans k2⟩ ?_ ?_
    · rintro i σ H3 hi ⟨v3, ds, us, rfl, hl, hds, e3, pr, d3, k3⟩
      simp (maxSteps := 1000000) only [tComp_eq, tBL, rTupX, HO.lst.injEq, iRng1, rAppend, List.cons.injEq, exists_and_left, tVar, tC, gName, tCall, tCons, tNil, tCB, tDrop, List.getElem?_cons_zero, List.getElem?_cons_succ, List.set_cons_zero, List.set_cons_succ, Option.some.injEq, exists_eq_left', V.ref.injEq, and_true, List.append_nil, e3]
      refine next_ok d3 (by decide) (by decide) fun m H4 hm d4 k4 => ?_
      simp (maxSteps := 1000000) only [exists_eq_left', V.int.injEq]
      refine ⟨by omega, by omega, ?_⟩
      refine comp_draw (pd := pd) (fun k v => v = niV k ∧ k < 100000) (by omega) d4 (fun j H5 Q' d5 hq => ?_) (fun D H5 vs xs nD eD P hl5 d5 k5 => ?_)
      · simp (maxSteps := 1000000) only [cSt, tVar, tCall, tCons, tNil, List.map_cons, List.map_nil, List.replicate, List.cons_append, List.nil_append, List.getElem?_cons_zero, List.getElem?_cons_succ, List.set_cons_zero, Option.some.injEq, exists_eq_left', List.append_nil, Option.join_some]
        refine ⟨pd, rfl, d5, ?_⟩
        rintro v H6 ⟨k, rfl, hk⟩ d6 k6
        exact hq _ k _ ⟨rfl, hk⟩ d6 k6
      · obtain ⟨e, hz⟩ := nums_pair P
        subst e
        have e35 : H5 p1 = some (.lst us) := k5 _ _ (k4 _ _ e3 (by simp [np])) (by simp [np])
        simp (maxSteps := 1000000) only [HO.lst.injEq, Option.some.injEq, exists_eq_left', V.ref.injEq, eD]
        intro t ht
        have s6 : Same H5 (upd H5 t (.tup (xs.map niV))) := .upd_new ht
        have et : upd H5 t (.tup (xs.map niV)) t = some (.tup (xs.map niV)) := upd_same
        have e36 := s6 _ _ e35
        have d6 := d5.same s6
        have old : ∀ b, H5 b = none → H1 b = none := fun b hb => by
          have h3 : H3 b = none := d4.old k4 (d5.old k5 hb)
          cases e : H1 b with
          | none => rfl
          | some o =>
            by_cases hbp : b = pd
            · exact absurd hb (d5.no b (by rw [hbp]; exact .head _))
            · by_cases hb1 : b = p1
              · rw [hb1, e3] at h3
                cases h3
              · have hHb : H b = some o := by
                  rw [← e, ← z1, upd_ne hb1]
                rw [k3 _ _ hHb (by simpa using hbp)] at h3
                cases h3
        generalize upd H5 t (.tup (xs.map niV)) = H6 at s6 et e36 d6 ⊢
        simp (maxSteps := 1000000) only [HO.lst.injEq, Option.some.injEq, exists_eq_left', e36]
        have pl := pr.length
        have ku : Keep [p1] H6 (upd H6 p1 (.lst (us ++ [.ref t]))) := Keep.refl.upd (.inl (.head _))
        have nu : ∀ b ∈ [p1], ¬ H1 b = none := fun b hb h => by
          rw [List.mem_singleton] at hb
          rw [hb, e1] at h
          cases h
        have nd : ∀ b ∈ [pd], ¬ H1 b = none := fun b hb h => (d.same s1).no b hb h
        refine ⟨by rw [sizeLine_eq]; omega, _, ds ++ [xs], us ++ [.ref t], rfl, by rw [List.length_append, hl]; rfl, (fun x hx => ?_), upd_same, paired_app (paired_imp (fun _ _ r => (((r.keep k4 nd).keep k5 nd).same s6).keep ku nu) pr) (.cons ⟨t, rfl, old t ht, ku _ _ et (by intro hm; rw [List.mem_singleton] at hm; rw [hm, e35] at ht; cases ht)⟩ .nil), ?_, ?_⟩
        · rcases List.mem_append.mp hx with hx | hx
          · exact hds x hx
          · rw [List.mem_singleton] at hx
            subst hx
            exact ⟨by omega, hz⟩
        · obtain ⟨x, y, e⟩ := d6
          exact ⟨x, y, by rw [upd_ne (Ne.symm np)]; exact e⟩
        · exact (((k3.trans k4).trans k5).trans s6.keep).upd (.inr n1)
    · rintro σ H3 ⟨v3, ds, us, rfl, hl, hds, e3, pr, d3, k3⟩
      simp (maxSteps := 1000000) only [tVar, tRet, List.getElem?_cons_zero, List.getElem?_cons_succ, Option.some.injEq, exists_eq_left']
      exact q _ _ ⟨ds, ⟨p1, us, rfl, n1, e3, paired_imp (fun _ _ r => r.mono fun b hb => s1.free hb) pr⟩, by omega, hds⟩ d3 k3
end
end K81
namespace K81
open PySem L2
section
variable {P : Program} {w : World} {K : PySem.W.Frag} {mg : Str → Option Value} {base : Heap} {H H' : Hp} {pd : Addr}
abbrev s__law_wish : Stmt := top 51
theorem sc__law_wish : FnScope ["_law_draw_here", "_law_word", "_law_what"] ["_law_draw_here"] (defScope s__law_wish) := ⟨rfl, rfl, rfl, by decide +kernel, rfl, by decide +kernel, by decide +kernel⟩
abbrev s__law_measures : Stmt := top 46
theorem sc__law_measures : FnScope ["_law_draw_here", "_law_bounds", "_law_found", "_law_low", "_law_high", "_law_way"] ["_law_draw_here"] (defScope s__law_measures) := ⟨rfl, rfl, rfl, by decide +kernel, rfl, by decide +kernel, by decide +kernel⟩
def isWsh (N : Addr → Prop) (H : Hp) (v : V) : Prop := ∃ s, RWs N H s v ∧ s.Ok
def LW (H : Hp) (pd : Addr) (σ : St) (H' : Hp) : Prop := ∃ (v : List Nat) (k : Nat), σ = [some (.ref pd), some (.str (Sg v)), some (niV k)] ∧ k < 100000 ∧ (isGo v ∨ v = K81.w "put" ∨ isNm v) ∧ Dr H' pd ∧ Keep [pd] H H'
theorem notIn3 {v : List Nat} (h : isGo v ∨ v = K81.w "put") : inV (.str (Sg v)) [.str (Str.ofString "bind"), .str (Str.ofString "free"), .str (Str.ofString "ask")] = false := by
  rcases h with (h | h) | h <;> subst h <;> decide
theorem isIn3 {v : List Nat} (h : isNm v) : inV (.str (Sg v)) [.str (Str.ofString "bind"), .str (Str.ofString "free"), .str (Str.ofString "ask")] = true := by
  rcases h with h | h | h <;> subst h <;> decide
theorem go_put {v : List Nat} (h : isGo v) : v ≠ K81.w "put" := by rcases h with h | h <;> subst h <;> decide
theorem nm_put {v : List Nat} (h : isNm v) : v ≠ K81.w "put" := by rcases h with h | h | h <;> subst h <;> decide
set_option maxHeartbeats 2000000 in
theorem own_lwish (D : Def K mg "_law_wish" s__law_wish) (F__law_next : Own P w K mg base 1 "_law_next" ["_law_draw_here", "_law_size"] sp_next) (F__law_number : Own P w K mg base 2 "_law_number" ["_law_draw_here"] (Drw isNum)) (F__law_text : Own P w K mg base 2 "_law_text" ["_law_draw_here"] (Drw isTxt)) (F__law_name : Own P w K mg base 2 "_law_name" ["_law_draw_here"] (Drw isNam)) : Own P w K mg base 3 "_law_wish" ["_law_draw_here"] (Drw isWsh) := by
  refine D.own sc__law_wish (fun _ _ _ _ _ _ us hl => match us, hl with | [_], _ => rfl) (fun vs H Q E h => ?_) (fun f cdv A outer s H vs Q E hr h => ?_)
  · obtain ⟨pd, rfl, _⟩ := h
    rfl
  · obtain ⟨pd, rfl, d, q⟩ := h
    have hu := hr.units
    have hu1 : (A.deeper (PyProof.Rows.envOfC "_law_wish" (defScope s__law_wish) s.heap.objs.size f cdv)).units + 1 < cLine := by omega
    have eput := S_put
    refine ⟨_, (@pss_cons _ _ _ _ _ (@ps_set _ _ 1 _ _ _ _ sc__law_wish.nd rfl (by first | exact Or.inl rfl | exact Or.inr rfl) (@pe_ix _ _ _ _ _ _ _ (ix_get hu1) (@pe_lst _ _ _ _ (@pa_cX _ _ _ _ _ (@pe_str _ _ _ _) (@pa_cX _ _ _ _ _ (@pe_str _ _ _ _) (@pa_cX _ _ _ _ _ (@pe_str _ _ _ _) (@pa_cX _ _ _ _ _ (@pe_str _ _ _ _) (@pa_cX _ _ _ _ _ (@pe_str _ _ _ _) (@pa_cX _ _ _ _ _ (@pe_str _ _ _ _) (@pa_nil _) (by rfl)) (by rfl)) (by rfl)) (by rfl)) (by rfl)) (by rfl))) (@pe_fn _ _ _ _ _ _ _ _ _ _ _ F__law_next hr (@pa_cX _ _ _ _ _ (pv 0) (@pa_cX _ _ _ _ _ (@pe_int _ _ _ _) (@pa_nil _) (by rfl)) (by rfl)) (by decide) (by rfl) (by decide) (by rfl) (by rfl)) (fun _ _ => rfl)) (by rfl) (by first | exact .inl rfl | exact .inr rfl | assumption)) (@pss_cons _ _ _ _ _ (@ps_set _ _ 2 _ _ _ _ sc__law_wish.nd rfl (by first | exact Or.inl rfl | exact Or.inr rfl) (@pe_fn _ _ _ _ _ _ _ _ _ _ _ F__law_number hr (@pa_cX _ _ _ _ _ (pv 0) (@pa_nil _) (by rfl)) (by decide) (by rfl) (by decide) (by rfl) (by rfl)) (by rfl) (by first | exact .inl rfl | exact .inr rfl | assumption)) (@pss_cons _ _ _ _ _ (@ps_if _ _ _ _ _ _ _ _ (@pt_cmpR _ _ _ _ _ _ _ _ op_eq (pv 1) (@pe_str _ _ _ _) (nomark _)) (@pss_one _ _ _ (@ps_set _ _ 2 _ _ _ _ sc__law_wish.nd rfl (by first | exact Or.inl rfl | exact Or.inr rfl) (@pe_tup _ _ _ _ _ (@pa_cX _ _ _ _ _ (pv 2) (@pa_cX _ _ _ _ _ (@pe_fn _ _ _ _ _ _ _ _ _ _ _ F__law_text hr (@pa_cX _ _ _ _ _ (pv 0) (@pa_nil _) (by rfl)) (by decide) (by rfl) (by decide) (by rfl) (by rfl)) (@pa_nil _) (by rfl)) (by rfl))) (by rfl) (by first | exact .inl rfl | exact .inr rfl | assumption))) (@pss_nil _)) (@pss_cons _ _ _ _ _ (@ps_if _ _ _ _ _ _ _ _ (@pt_cmpR _ _ _ _ _ _ _ _ (op_inX hu1) (pv 1) (@pe_lst _ _ _ _ (@pa_cX _ _ _ _ _ (@pe_str _ _ _ _) (@pa_cX _ _ _ _ _ (@pe_str _ _ _ _) (@pa_cX _ _ _ _ _ (@pe_str _ _ _ _) (@pa_nil _) (by rfl)) (by rfl)) (by rfl))) rfl) (@pss_one _ _ _ (@ps_set _ _ 2 _ _ _ _ sc__law_wish.nd rfl (by first | exact Or.inl rfl | exact Or.inr rfl) (@pe_fn _ _ _ _ _ _ _ _ _ _ _ F__law_name hr (@pa_cX _ _ _ _ _ (pv 0) (@pa_nil _) (by rfl)) (by decide) (by rfl) (by decide) (by rfl) (by rfl)) (by rfl) (by first | exact .inl rfl | exact .inr rfl | assumption))) (@pss_nil _)) (@pss_one _ _ _ (@ps_ret _ _ _ _ (@pe_tup _ _ _ _ _ (@pa_cX _ _ _ _ _ (@pe_fn _ _ _ _ _ _ _ _ _ _ _ F__law_number hr (@pa_cX _ _ _ _ _ (pv 0) (@pa_nil _) (by rfl)) (by decide) (by rfl) (by decide) (by rfl) (by rfl)) (@pa_cX _ _ _ _ _ (@pe_fn _ _ _ _ _ _ _ _ _ _ _ F__law_number hr (@pa_cX _ _ _ _ _ (pv 0) (@pa_nil _) (by rfl)) (by decide) (by rfl) (by decide) (by rfl) (by rfl)) (@pa_cX _ _ _ _ _ (pv 1) (@pa_cX _ _ _ _ _ (pv 2) (@pa_nil _) (by rfl)) (by rfl)) (by rfl)) (by rfl))))))))), ?_⟩
    refine use2 (LW H pd) ?_ (fun X hX => ?_)
    rotate_left
    · simp (maxSteps := 1000000) only [rGet, Nat.reduceSub, Nat.reduceAdd, tSeq, exists_and_left, tOp, tVar, tC, tAsg, gName, tCall, tCons, tNil, tLst, L2.start, List.map_cons, List.map_nil, List.length_cons, List.length_nil, List.replicate, List.cons_append, List.nil_append, List.getElem?_cons_zero, List.set_cons_zero, List.set_cons_succ, Option.some.injEq, exists_eq_left', V.ref.injEq, List.append_nil]
      refine ⟨by rw [sizeLine_eq]; decide, ?_⟩
      intro p1 n1
      generalize z1 : upd H p1 _ = H1
      obtain ⟨s1, e1⟩ := new_same z1 n1
      refine next_ok (d.same s1) (by decide) (by decide) fun r H2 hr2 d2 k2 => ?_
      have e12 := k2 _ _ e1 (by simp [d.ne n1])
      have fin : ∀ v : List Nat, (isGo v ∨ v = K81.w "put" ∨ isNm v) → Drw isNum [V.ref pd] H2 (fun x H1 => X { nx := fun _ H' => Q V.non H', rt := Q } [some (.ref pd), some (.str (Sg v)), some x] H1) E0 := fun v hv => ⟨pd, rfl, d2, by
        rintro x H3 ⟨k, rfl, hk⟩ d3 k3
        exact hX _ _ ⟨v, k, rfl, hk, hv, d3, (s1.keep.trans k2).trans k3⟩⟩
      simp (maxSteps := 1000000) only [getO_l, Option.some.injEq, exists_eq_left', e12]
      match r, hr2 with
      | 0, _ => exact ⟨_, rfl, by rw [S_of]; exact fin _ (.inl (.inl rfl))⟩
      | 1, _ => exact ⟨_, rfl, by rw [S_of]; exact fin _ (.inl (.inr rfl))⟩
      | 2, _ => exact ⟨_, rfl, by rw [S_of]; exact fin _ (.inr (.inl rfl))⟩
      | 3, _ => exact ⟨_, rfl, by rw [S_of]; exact fin _ (.inr (.inr (.inl rfl)))⟩
      | 4, _ => exact ⟨_, rfl, by rw [S_of]; exact fin _ (.inr (.inr (.inr (.inl rfl))))⟩
      | 5, _ => exact ⟨_, rfl, by rw [S_of]; exact fin _ (.inr (.inr (.inr (.inr rfl))))⟩
      | k + 6, h => exact absurd h (by omega)
    rintro σ H1 ⟨v, k, rfl, hk, hv, d1, k1⟩
    have last : ∀ (u : V) (H2 : Hp) (x : Wt), x.wd = v → RWt (fun b => H b = none) H2 x u → x.Ok → Dr H2 pd → Keep [pd] H H2 → Drw isNum [V.ref pd] H2 (fun x1 H3 => Drw isNum [V.ref pd] H3 (fun x2 H4 => 4 ≤ sizeLine ∧ ∀ p, H4 p = none → Q (.ref p) (upd H4 p (.tup [x1, x2, .str (Sg v), u]))) E0) E0 := by
      intro u H2 x ex r ok d2 k2
      refine ⟨pd, rfl, d2, ?_⟩
      rintro _ H3 ⟨t, rfl, ht⟩ d3 k3
      refine ⟨pd, rfl, d3, ?_⟩
      rintro _ H4 ⟨h, rfl, hh⟩ d4 k4
      refine ⟨by rw [sizeLine_eq]; decide, fun p hp => ?_⟩
      have s5 : Same H4 (upd H4 p (.tup [niV t, niV h, .str (Sg v), u])) := .upd_new hp
      have kA := (k2.trans k3).trans k4
      refine q _ _ ⟨⟨t, h, x⟩, ⟨p, u, rfl, d4.old kA hp, by rw [upd_same, ex], ?_⟩, ht, hh, ok⟩ (d4.same s5) (kA.trans s5.keep)
      exact ((r.keep k3 d.no).keep k4 d.no).same s5
    rcases hv with hv | hv | hv
    · have hne := go_put hv
      have hin := notIn3 (.inl hv)
      simp (maxSteps := 1000000) only [rEq_ss, rInX, inO_l', upd_same, Nat.reduceAdd, decide_false, tSeq, exists_and_left, if_false, Bool.false_eq_true, tIfS, tTest, tOp, tVar, tC, tRet, tAsg, gName, tNext, tCall, tCons, tNil, tLst, tTup, List.length_cons, List.length_nil, List.getElem?_cons_zero, List.getElem?_cons_succ, List.set_cons_zero, List.set_cons_succ, Option.some.injEq, exists_eq_left', V.bl.injEq, V.ref.injEq, List.append_nil, eput, S_eq, hne]
      refine ⟨by rw [sizeLine_eq]; decide, ?_⟩
      intro p2 n2
      generalize z2 : upd H1 p2 _ = H2
      obtain ⟨s2, e2⟩ := new_same z2 n2
      simp (maxSteps := 1000000) only [hin]
      refine ⟨false, if_pos ⟨rfl, rfl⟩, ?_⟩
      exact last _ _ (.one v (.n k)) rfl rfl (.inl ⟨hv, k, rfl, hk⟩) (d1.same s2) (k1.trans s2.keep)
    · subst hv
      have hin := notIn3 (.inr rfl)
      simp (maxSteps := 1000000) only [rEq_ss, rInX, inO_l', upd_same, Nat.reduceAdd, decide_true, tSeq, exists_and_left, if_true, tIfS, tTest, tOp, tVar, tC, tRet, tAsg, gName, tNext, tCall, tCons, tNil, tLst, tTup, List.length_cons, List.length_nil, List.getElem?_cons_zero, List.getElem?_cons_succ, List.set_cons_zero, List.set_cons_succ, Option.some.injEq, exists_eq_left', V.bl.injEq, V.ref.injEq, List.append_nil, eput]
      refine ⟨pd, rfl, d1, ?_⟩
      rintro _ H2 ⟨z, rfl, hz⟩ d2 k2
      refine ⟨by rw [sizeLine_eq]; decide, fun p hp => ⟨by rw [sizeLine_eq]; decide, fun p3 hp3 => ?_⟩⟩
      have s3 : Same H2 (upd H2 p (.tup [niV k, .str (Sg z)])) := .upd_new hp
      have e3 : upd H2 p (.tup [niV k, .str (Sg z)]) p = some (.tup [niV k, .str (Sg z)]) := upd_same
      generalize upd H2 p (.tup [niV k, .str (Sg z)]) = H3 at s3 e3 hp3 ⊢
      rw [hin]
      refine ⟨false, if_pos ⟨rfl, rfl⟩, ?_⟩
      have s4 : Same H3 (upd H3 p3 (.lst [.str (Str.ofString "bind"), .str (Str.ofString "free"), .str (Str.ofString "ask")])) := .upd_new hp3
      have kA := k1.trans k2
      exact last _ _ (.put k z) rfl ⟨p, rfl, d2.old kA hp, s4 _ _ e3⟩ ⟨hk, hz⟩ ((d2.same s3).same s4) ((kA.trans s3.keep).trans s4.keep)
    · have hne := nm_put hv
      have hin := isIn3 hv
      simp (maxSteps := 1000000) only [rEq_ss, rInX, inO_l', upd_same, Nat.reduceAdd, decide_false, tSeq, exists_and_left, if_false, Bool.false_eq_true, tIfS, tTest, tOp, tVar, tC, tRet, tAsg, gName, tNext, tCall, tCons, tNil, tLst, tTup, List.length_cons, List.length_nil, List.getElem?_cons_zero, List.getElem?_cons_succ, List.set_cons_zero, List.set_cons_succ, Option.some.injEq, exists_eq_left', V.bl.injEq, V.ref.injEq, List.append_nil, eput, S_eq, hne]
      refine ⟨by rw [sizeLine_eq]; decide, ?_⟩
      intro p2 n2
      generalize z2 : upd H1 p2 _ = H2
      obtain ⟨s2, e2⟩ := new_same z2 n2
      simp (maxSteps := 1000000) only [hin]
      refine ⟨true, if_pos ⟨rfl, rfl⟩, pd, rfl, d1.same s2, ?_⟩
      rintro _ H3 ⟨z, rfl, hz⟩ d3 k3
      exact last _ _ (.one v (.nm z)) rfl rfl (.inr ⟨hv, z, rfl, hz⟩) d3 ((k1.trans s2.keep).trans k3)
def lbs : List (Int × Int) := [(2, 12), (1, 32), (1, 400), (1, 1000), (0, 60), (1, 16), (1, 16), (1, 60), (1, 10000), (0, 10000)]
def TL (H : Hp) (l : Addr) (bs : List (Int × Int)) : Prop := ∃ ps : List Addr, H l = some (.lst (ps.map V.ref)) ∧ Paired (fun b p => H p = some (.tup [.int b.1, .int b.2])) bs ps
def LM1 (H : Hp) (pd : Addr) (bs : List (Int × Int)) (σ : St) (H' : Hp) : Prop := ∃ l, σ = [some (.ref pd), some (.ref l), none, none, none, none] ∧ TL H' l bs ∧ Same H H'
def inL (ns : List Nat) (bs : List (Int × Int)) : Prop := Paired (fun n b => b.1 ≤ ((n : Nat) : Int) ∧ (n : Int) ≤ b.2) ns bs
def LMs (H : Hp) (pd q l : Addr) (i : Nat) (σ : St) (H' : Hp) : Prop := ∃ (v3 v4 v5 : Option V) (ns : List Nat), σ = [some (.ref pd), some (.ref q), some (.ref l), v3, v4, v5] ∧ H' l = some (.lst (ns.map niV)) ∧ inL ns (lbs.take i) ∧ Dr H' pd ∧ Keep [pd, l] H H'
def sp_lms : Sp := fun vs H Q _ => ∃ pd, vs = [.ref pd] ∧ Dr H pd ∧ ∀ (l : Addr) (ns : List Nat) H', H l = none → H' l = some (.lst (ns.map niV)) → inB (ns.map Int.ofNat) → Keep [pd] H H' → Dr H' pd → Q (.ref l) H'
theorem inL_inB {ns : List Nat} (h : inL ns lbs) : inB (ns.map Int.ofNat) := by
  have hl := h.length
  have hl10 : lbs.length = 10 := rfl
  have hbd : bds.map (fun q => q.2) = lbs := rfl
  refine ⟨by rw [List.length_map]; omega, fun i n q hn hq => ?_⟩
  rw [List.getElem?_map] at hn
  obtain ⟨k, hk, rfl⟩ := Option.map_eq_some_iff.mp hn
  obtain ⟨b, hb, h1⟩ := paired_get h hk
  rw [← hbd, List.getElem?_map, hq] at hb
  cases hb
  exact h1
set_option maxHeartbeats 4000000 in
theorem own_lms (D : Def K mg "_law_measures" s__law_measures) (F__law_next : Own P w K mg base 1 "_law_next" ["_law_draw_here", "_law_size"] sp_next) : Own P w K mg base 2 "_law_measures" ["_law_draw_here"] sp_lms := by
  refine D.own sc__law_measures (fun _ _ _ _ _ _ us hl => match us, hl with | [_], _ => rfl) (fun vs H Q E h => ?_) (fun f cdv A outer s H vs Q E hr h => ?_)
  · obtain ⟨pd, rfl, _⟩ := h
    rfl
  · obtain ⟨pd, rfl, d, q⟩ := h
    have hu := hr.units
    have hu1 : (A.deeper (PyProof.Rows.envOfC "_law_measures" (defScope s__law_measures) s.heap.objs.size f cdv)).units + 1 < cLine := by omega
    refine ⟨_, (@pss_cons _ _ _ _ _ (@ps_set _ _ 1 _ _ _ _ sc__law_measures.nd rfl (by first | exact Or.inl rfl | exact Or.inr rfl) (@pe_lst _ _ _ _ (@pa_cX _ _ _ _ _ (@pe_tup _ _ _ _ _ (@pa_cX _ _ _ _ _ (@pe_int _ _ _ _) (@pa_cX _ _ _ _ _ (@pe_int _ _ _ _) (@pa_nil _) (by rfl)) (by rfl))) (@pa_cX _ _ _ _ _ (@pe_tup _ _ _ _ _ (@pa_cX _ _ _ _ _ (@pe_int _ _ _ _) (@pa_cX _ _ _ _ _ (@pe_int _ _ _ _) (@pa_nil _) (by rfl)) (by rfl))) (@pa_cX _ _ _ _ _ (@pe_tup _ _ _ _ _ (@pa_cX _ _ _ _ _ (@pe_int _ _ _ _) (@pa_cX _ _ _ _ _ (@pe_int _ _ _ _) (@pa_nil _) (by rfl)) (by rfl))) (@pa_cX _ _ _ _ _ (@pe_tup _ _ _ _ _ (@pa_cX _ _ _ _ _ (@pe_int _ _ _ _) (@pa_cX _ _ _ _ _ (@pe_int _ _ _ _) (@pa_nil _) (by rfl)) (by rfl))) (@pa_cX _ _ _ _ _ (@pe_tup _ _ _ _ _ (@pa_cX _ _ _ _ _ (@pe_int _ _ _ _) (@pa_cX _ _ _ _ _ (@pe_int _ _ _ _) (@pa_nil _) (by rfl)) (by rfl))) (@pa_cX _ _ _ _ _ (@pe_tup _ _ _ _ _ (@pa_cX _ _ _ _ _ (@pe_int _ _ _ _) (@pa_cX _ _ _ _ _ (@pe_int _ _ _ _) (@pa_nil _) (by rfl)) (by rfl))) (@pa_cX _ _ _ _ _ (@pe_tup _ _ _ _ _ (@pa_cX _ _ _ _ _ (@pe_int _ _ _ _) (@pa_cX _ _ _ _ _ (@pe_int _ _ _ _) (@pa_nil _) (by rfl)) (by rfl))) (@pa_nil _) (by rfl)) (by rfl)) (by rfl)) (by rfl)) (by rfl)) (by rfl)) (by rfl))) (by rfl) (by first | exact .inl rfl | exact .inr rfl | assumption)) (@pss_cons _ _ _ _ _ (@ps_set _ _ 1 _ _ _ _ sc__law_measures.nd rfl (by first | exact Or.inl rfl | exact Or.inr rfl) (@pe_op _ _ _ _ _ _ _ _ op_cat (pv 1) (@pe_lst _ _ _ _ (@pa_cX _ _ _ _ _ (@pe_tup _ _ _ _ _ (@pa_cX _ _ _ _ _ (@pe_int _ _ _ _) (@pa_cX _ _ _ _ _ (@pe_int _ _ _ _) (@pa_nil _) (by rfl)) (by rfl))) (@pa_cX _ _ _ _ _ (@pe_tup _ _ _ _ _ (@pa_cX _ _ _ _ _ (@pe_int _ _ _ _) (@pa_cX _ _ _ _ _ (@pe_int _ _ _ _) (@pa_nil _) (by rfl)) (by rfl))) (@pa_cX _ _ _ _ _ (@pe_tup _ _ _ _ _ (@pa_cX _ _ _ _ _ (@pe_int _ _ _ _) (@pa_cX _ _ _ _ _ (@pe_int _ _ _ _) (@pa_nil _) (by rfl)) (by rfl))) (@pa_nil _) (by rfl)) (by rfl)) (by rfl)))) (by rfl) (by first | exact .inl rfl | exact .inr rfl | assumption)) (@pss_cons _ _ _ _ _ (@ps_set _ _ 2 _ _ _ _ sc__law_measures.nd rfl (by first | exact Or.inl rfl | exact Or.inr rfl) (@pe_lst _ _ _ _ (@pa_nil _)) (by rfl) (by first | exact .inl rfl | exact .inr rfl | assumption)) (@pss_cons _ _ _ _ _ (@ps_for _ _ _ _ _ _ _ _ PassesOwn.never rfl (@pi_listK _ K _ _ _ (pv 1) (by rfl)) (@pg_seqX _ _ _ _ 2 _ rfl (@pgs_cons _ _ _ _ _ (@pg_name _ _ 3 _ sc__law_measures.nd rfl (by first | exact Or.inl rfl | exact Or.inr rfl) (by first | exact .inl rfl | exact .inr rfl | assumption)) (@pgs_cons _ _ _ _ _ (@pg_name _ _ 4 _ sc__law_measures.nd rfl (by first | exact Or.inl rfl | exact Or.inr rfl) (by first | exact .inl rfl | exact .inr rfl | assumption)) (@pgs_nil _) (by rfl)) (by rfl)) (by rfl) (by rfl)) (@pss_cons _ _ _ _ _ (@ps_set _ _ 5 _ _ _ _ sc__law_measures.nd rfl (by first | exact Or.inl rfl | exact Or.inr rfl) (@pe_fn _ _ _ _ _ _ _ _ _ _ _ F__law_next hr (@pa_cX _ _ _ _ _ (pv 0) (@pa_cX _ _ _ _ _ (@pe_int _ _ _ _) (@pa_nil _) (by rfl)) (by rfl)) (by decide) (by rfl) (by decide) (by rfl) (by rfl)) (by rfl) (by first | exact .inl rfl | exact .inr rfl | assumption)) (@pss_one _ _ _ (@ps_if _ _ _ _ _ _ _ _ (@pt_cmpR _ _ _ _ _ _ _ _ op_lt (pv 5) (@pe_int _ _ _ _) (nomark _)) (@pss_one _ _ _ (@ps_expr _ _ _ _ (@pe_lm _ _ _ _ _ _ _ _ _ _ _ PySem.F.slot_list_append PySem.F.type_list_append mt_append (pv 2) (@pa_cX _ _ _ _ _ (@pe_op _ _ _ _ _ _ _ _ op_add (pv 3) (@pe_fn _ _ _ _ _ _ _ _ _ _ _ F__law_next hr (@pa_cX _ _ _ _ _ (pv 0) (@pa_cX _ _ _ _ _ (@pe_op _ _ _ _ _ _ _ _ op_add (@pe_op _ _ _ _ _ _ _ _ op_sub (pv 4) (pv 3)) (@pe_int _ _ _ _)) (@pa_nil _) (by rfl)) (by rfl)) (by decide) (by rfl) (by decide) (by rfl) (by rfl))) (@pa_nil _) (by rfl)) (by rfl) (by rfl) (by rfl) (by rfl) (by rfl)) (by rfl))) (@pss_one _ _ _ (@ps_expr _ _ _ _ (@pe_lm _ _ _ _ _ _ _ _ _ _ _ PySem.F.slot_list_append PySem.F.type_list_append mt_append (pv 2) (@pa_cX _ _ _ _ _ (@pe_ix _ _ _ _ _ _ _ (ix_get hu1) (@pe_lst _ _ _ _ (@pa_cX _ _ _ _ _ (pv 3) (@pa_cX _ _ _ _ _ (pv 4) (@pa_nil _) (by rfl)) (by rfl))) (@pe_op _ _ _ _ _ _ _ _ op_sub (pv 5) (@pe_int _ _ _ _)) (fun _ _ => rfl)) (@pa_nil _) (by rfl)) (by rfl) (by rfl) (by rfl) (by rfl) (by rfl)) (by rfl)))))) (by intro _; rfl)) (@pss_one _ _ _ (@ps_ret _ _ _ _ (pv 2))))))), ?_⟩
    refine use1 (LM1 H pd (lbs.take 7)) ?_ (fun X hX => ?_)
    rotate_left
    · simp (maxSteps := 1000000) only [Nat.reduceSub, Nat.reduceAdd, tSeq, tC, tAsg, gName, tCons, tNil, tLst, tTup, L2.start, List.map_cons, List.map_nil, List.length_cons, List.length_nil, List.replicate, List.cons_append, List.nil_append, List.set_cons_zero, List.set_cons_succ]
      refine ⟨by rw [sizeLine_eq]; decide, ?_⟩
      intro p1 n1
      generalize z1 : upd H p1 _ = H1
      obtain ⟨s1, e1⟩ := new_same z1 n1
      refine ⟨by rw [sizeLine_eq]; decide, ?_⟩
      intro p2 n2
      generalize z2 : upd H1 p2 _ = H2
      obtain ⟨s2, e2⟩ := new_same z2 n2
      refine ⟨by rw [sizeLine_eq]; decide, ?_⟩
      intro p3 n3
      generalize z3 : upd H2 p3 _ = H3
      obtain ⟨s3, e3⟩ := new_same z3 n3
      refine ⟨by rw [sizeLine_eq]; decide, ?_⟩
      intro p4 n4
      generalize z4 : upd H3 p4 _ = H4
      obtain ⟨s4, e4⟩ := new_same z4 n4
      refine ⟨by rw [sizeLine_eq]; decide, ?_⟩
      intro p5 n5
      generalize z5 : upd H4 p5 _ = H5
      obtain ⟨s5, e5⟩ := new_same z5 n5
      refine ⟨by rw [sizeLine_eq]; decide, ?_⟩
      intro p6 n6
      generalize z6 : upd H5 p6 _ = H6
      obtain ⟨s6, e6⟩ := new_same z6 n6
      refine ⟨by rw [sizeLine_eq]; decide, ?_⟩
      intro p7 n7
      generalize z7 : upd H6 p7 _ = H7
      obtain ⟨s7, e7⟩ := new_same z7 n7
      refine ⟨by rw [sizeLine_eq]; decide, ?_⟩
      intro p8 n8
      generalize z8 : upd H7 p8 _ = H8
      obtain ⟨s8, e8⟩ := new_same z8 n8
      have t7 := s8
      have t6 := (s7.trans t7)
      have t5 := (s6.trans t6)
      have t4 := (s5.trans t5)
      have t3 := (s4.trans t4)
      have t2 := (s3.trans t3)
      have t1 := (s2.trans t2)
      exact hX _ _ ⟨p8, rfl, ⟨[p1, p2, p3, p4, p5, p6, p7], e8, .cons (t1 _ _ e1) (.cons (t2 _ _ e2) (.cons (t3 _ _ e3) (.cons (t4 _ _ e4) (.cons (t5 _ _ e5) (.cons (t6 _ _ e6) (.cons (t7 _ _ e7) .nil))))))⟩, s1.trans t1⟩
    rintro σ Ha ⟨la, rfl, ta, sa⟩
    refine use1 (LM1 H pd lbs) ?_ (fun X hX => ?_)
    rotate_left
    · obtain ⟨ps, ela, pps⟩ := ta
      simp (maxSteps := 1000000) only [upd_same, HO.lst.injEq, Nat.reduceAdd, rCat, tSeq, exists_and_left, tOp, tVar, tC, tAsg, gName, tCons, tNil, tLst, tTup, List.length_cons, List.length_nil, List.getElem?_cons_zero, List.getElem?_cons_succ, List.set_cons_zero, List.set_cons_succ, Option.some.injEq, exists_eq_left', V.ref.injEq]
      refine ⟨by rw [sizeLine_eq]; decide, ?_⟩
      intro p1 n1
      generalize z1 : upd Ha p1 _ = H1
      obtain ⟨s1, e1⟩ := new_same z1 n1
      refine ⟨by rw [sizeLine_eq]; decide, ?_⟩
      intro p2 n2
      generalize z2 : upd H1 p2 _ = H2
      obtain ⟨s2, e2⟩ := new_same z2 n2
      refine ⟨by rw [sizeLine_eq]; decide, ?_⟩
      intro p3 n3
      generalize z3 : upd H2 p3 _ = H3
      obtain ⟨s3, e3⟩ := new_same z3 n3
      refine ⟨by rw [sizeLine_eq]; decide, ?_⟩
      intro p4 n4
      generalize z4 : upd H3 p4 _ = H4
      obtain ⟨s4, e4⟩ := new_same z4 n4
      have t3 := s4
      have t2 := s3.trans t3
      have t1 := s2.trans t2
      have sA := s1.trans t1
      have elb := sA _ _ ela
      simp (maxSteps := 1000000) only [HO.lst.injEq, Option.some.injEq, exists_eq_left', elb]
      have pl := pps.length
      refine ⟨by rw [List.length_map, sizeLine_eq, ← pl]; decide, fun p hp => hX _ _ ⟨p, rfl, ⟨ps ++ [p1, p2, p3], by rw [upd_same, List.map_append]; rfl, ?_⟩, (sa.trans sA).trans (.upd_new hp)⟩⟩
      have s5 : Same H4 (upd H4 p (.lst (List.map V.ref ps ++ [V.ref p1, V.ref p2, V.ref p3]))) := .upd_new hp
      exact paired_app (l := lbs.take 7) (l' := lbs.drop 7) (paired_imp (fun _ _ x => s5 _ _ (sA _ _ x)) pps) (.cons (s5 _ _ (t1 _ _ e1)) (.cons (s5 _ _ (t2 _ _ e2)) (.cons (s5 _ _ (t3 _ _ e3)) .nil)))
    rintro σ Hb ⟨lb, rfl, tb, sb⟩
    obtain ⟨ps, elb, pps⟩ := tb
    have pl := pps.length
    have db := d.same sb
    simp (maxSteps := 1000000) only [tFor_eq, iList, tSeq, tVar, tAsg, gName, tNil, tLst, List.length_nil, List.getElem?_cons_zero, List.getElem?_cons_succ, List.set_cons_zero, List.set_cons_succ, Option.some.injEq, exists_eq_left', V.ref.injEq]
    refine ⟨by rw [sizeLine_eq]; decide, ?_⟩
    intro p1 n1
    generalize z1 : upd Hb p1 _ = H1
    obtain ⟨s1, e1⟩ := new_same z1 n1
    have elb1 := s1 _ _ elb
    refine ⟨⟨_, SqL.of elb1⟩, for_list (xs := ps.map V.ref) (LMs H1 pd lb p1) ⟨none, none, none, [], rfl, e1, .nil, db.same s1, .refl⟩ ?_ ?_ ?_⟩
    · rintro i σ H2 hi ⟨v3, v4, v5, ns, rfl, e2, hin, d2, k2⟩
      refine SqL.of (k2 _ _ elb1 ?_)
      simp only [List.mem_cons, List.not_mem_nil, or_false, not_or]
      exact ⟨(fun h => by obtain ⟨x, y, ex⟩ := db; rw [← h, elb] at ex; cases ps <;> cases ex), fun h => by rw [h, n1] at elb; cases elb⟩
    · rintro i x σ H2 hx ⟨v3, v4, v5, ns, rfl, e2, hin, d2, k2⟩
      rw [List.getElem?_map] at hx
      obtain ⟨p, hp, rfl⟩ := Option.map_eq_some_iff.mp hx
      have hlt : i < lbs.length := by rw [pl]; exact (List.getElem?_eq_some_iff.mp hp).1
      obtain ⟨p', hp', ep⟩ := paired_get pps (List.getElem?_eq_getElem hlt)
      rw [hp] at hp'
      cases hp'
      have hmem : lbs[i] ∈ lbs := List.getElem_mem hlt
      have hbs : ∀ b ∈ lbs, 0 ≤ b.1 ∧ b.1 ≤ b.2 ∧ b.2 ≤ 10000 := by decide
      obtain ⟨h0, h1, h2⟩ := hbs _ hmem
      have eb : lbs[i]? = some lbs[i] := List.getElem?_eq_getElem hlt
      generalize lbs[i] = bd at ep h0 h1 h2 eb hmem
      obtain ⟨lo, hi⟩ := bd
      dsimp only at ep h0 h1 h2
      have npd : p ≠ pd := fun h => by obtain ⟨x, y, ex⟩ := db; rw [h, ex] at ep; cases ep
      have np1 : p ≠ p1 := fun h => by rw [h, n1] at ep; cases ep
      have n1d : p1 ≠ pd := db.ne n1
      have ep2 : H2 p = some (.tup [.int lo, .int hi]) := k2 _ _ (s1 _ _ ep) (by simp [npd, np1])
      have hi10 := hin.length
      rw [List.length_take] at hi10
      have hlt10 : lbs.length = 10 := rfl
      have fin : ∀ (n : Nat) (H3 : Hp) (v5 : V), lo ≤ (n : Int) → (n : Int) ≤ hi → Dr H3 pd → Keep [pd] H2 H3 → H3 p1 = some (.lst (ns.map niV)) ∧ (ns.map niV).length < sizeLine ∧ LMs H1 pd lb p1 (i + 1) [some (.ref pd), some (.ref lb), some (.ref p1), some (.int lo), some (.int hi), some v5] (upd H3 p1 (.lst (ns.map niV ++ [niV n]))) := by
        intro n H3 v5 hn1 hn2 d3 k3
        refine ⟨k3 _ _ e2 (by simp [n1d]), by rw [List.length_map, sizeLine_eq]; omega, _, _, _, ns ++ [n], rfl, by rw [upd_same, List.map_append]; rfl, ?_, ?_, ?_⟩
        · unfold inL
          rw [List.take_add_one, eb, Option.toList_some]
          exact paired_app hin (.cons ⟨hn1, hn2⟩ .nil)
        · obtain ⟨x, y, e⟩ := d3
          exact ⟨x, y, by rw [upd_ne (Ne.symm n1d)]; exact e⟩
        · intro b o eb' hb'
          have hb2 := hb'
          simp only [List.mem_cons, List.not_mem_nil, or_false, not_or] at hb2
          rw [upd_ne hb2.2]
          exact k3 _ _ (k2 _ _ eb' hb') (by simp [hb2.1])
      simp (maxSteps := 1000000) only [gSeqX, tBL, rGet, getO_l, seqO_t, gCons, gNil, upd_same, Nat.reduceAdd, rAppend, List.cons.injEq, tSeq, exists_and_left, tIfS, tTest, tOp, tVar, tC, rI0, tAsg, gName, tCall, tCons, tNil, tDrop, tLst, List.length_cons, List.length_nil, List.getElem?_cons_zero, List.getElem?_cons_succ, List.set_cons_zero, List.set_cons_succ, Option.some.injEq, exists_eq_left', V.int.injEq, V.bl.injEq, V.ref.injEq, and_true, true_and, and_assoc, List.append_nil, ep2]
      refine next_ok d2 (by decide) (by decide) fun r H3 hr3 d3 k3 => ?_
      have e3 := k3 _ _ e2 (by simp [n1d])
      simp (maxSteps := 1000000) only [HO.lst.injEq, Option.some.injEq, exists_eq_left', V.int.injEq, e3]
      refine ite2 (fun _ => ?_) (fun hge => ?_)
      · refine next_ok d3 (by omega) (Int.lt_of_le_of_lt (by omega : hi - lo + 1 ≤ 10001) (by decide)) fun y H4 hy d4 k4 => ?_
        have e4 := k4 _ _ e3 (by simp [n1d])
        simp (maxSteps := 1000000) only [HO.lst.injEq, Option.some.injEq, exists_eq_left', V.int.injEq, e4]
        obtain ⟨f1, f2, f3⟩ := fin (lo.toNat + y) H4 (.int r) (by omega) (by omega) d4 (k3.trans k4)
        have ey : niV (lo.toNat + y) = V.int (lo + (y : Int)) := by
          unfold niV
          rw [Int.natCast_add, Int.toNat_of_nonneg h0]
        rw [ey] at f3
        exact ⟨f2, f3⟩
      · refine ⟨by rw [sizeLine_eq]; decide, ?_⟩
        have hge' : ¬ (r : Int) < 2 := fun h => hge (decide_eq_true h)
        intro p4 n4
        generalize z4 : upd H3 p4 _ = H4
        obtain ⟨s4, e4⟩ := new_same z4 n4
        have e34 := s4 _ _ e3
        simp (maxSteps := 1000000) only [HO.lst.injEq, Option.some.injEq, exists_eq_left', e34]
        have d4 := d3.same s4
        have k4 := k3.trans s4.keep
        match r, hr3, hge' with
        | 0, _, h => exact absurd (by decide) h
        | 1, _, h => exact absurd (by decide) h
        | 2, _, _ =>
          obtain ⟨f1, f2, f3⟩ := fin lo.toNat H4 (.int ((2 : Nat) : Int)) (by omega) (by omega) d4 k4
          have ey : niV lo.toNat = V.int lo := by unfold niV; rw [Int.toNat_of_nonneg h0]
          rw [ey] at f3
          exact ⟨_, atI_0, f2, f3⟩
        | 3, _, _ =>
          obtain ⟨f1, f2, f3⟩ := fin hi.toNat H4 (.int ((3 : Nat) : Int)) (by omega) (by omega) d4 k4
          have ey : niV hi.toNat = V.int hi := by unfold niV; rw [Int.toNat_of_nonneg (by omega)]
          rw [ey] at f3
          exact ⟨_, atI_1, f2, f3⟩
        | k + 4, h, _ => exact absurd h (by omega)
    · rintro σ H2 ⟨v3, v4, v5, ns, rfl, e2, hin, d2, k2⟩
      rw [List.length_map, ← pl, List.take_length] at hin
      simp (maxSteps := 1000000) only [tVar, tRet, List.getElem?_cons_zero, List.getElem?_cons_succ, Option.some.injEq, exists_eq_left']
      refine q p1 ns H2 (sb.free n1) e2 (inL_inB hin) (fun b o e hb => ?_) d2
      refine k2 _ _ (s1 _ _ (sb _ _ e)) ?_
      simp only [List.mem_cons, List.not_mem_nil, or_false, not_or]
      exact ⟨by simpa using hb, fun h => by rw [h, sb.free n1] at e; cases e⟩
end
end K81
namespace K81
open PySem L2
section
variable {N : Addr → Prop} {H H' : Hp}
theorem RD.pres {d : List Nat} {v : V} (h : RD N H d v) : RD (fun b => H b ≠ none) H d v := by
  obtain ⟨t, e, _, h⟩ := h
  exact ⟨t, e, (fun z => by rw [h] at z; cases z), h⟩
theorem RF.pres : ∀ {f : Fld} {v : V}, RF N H f v → RF (fun b => H b ≠ none) H f v
  | .n _, _, h => h
  | .o _, _, h => h
  | .ds _, _, ⟨q, us, e, _, h, p⟩ => ⟨q, us, e, (fun z => by rw [h] at z; cases z), h, paired_imp (fun _ _ x => x.pres) p⟩
  | .nm _, _, h => h
  | .sg _, _, h => h
theorem RWt.pres : ∀ {x : Wt} {v : V}, RWt N H x v → RWt (fun b => H b ≠ none) H x v
  | .one _ _, _, h => RF.pres h
  | .put _ _, _, ⟨q, e, _, h⟩ => ⟨q, e, (fun z => by rw [h] at z; cases z), h⟩
theorem RWs.pres {x : Ws} {v : V} : RWs N H x v → RWs (fun b => H b ≠ none) H x v
  | ⟨p, u, e, _, h, r⟩ => ⟨p, u, e, (fun z => by rw [h] at z; cases z), h, r.pres⟩
theorem RR.pres {x : List Fld} {v : V} : RR N H x v → RR (fun b => H b ≠ none) H x v
  | ⟨p, u, e, _, h, r⟩ => ⟨p, u, e, (fun z => by rw [h] at z; cases z), h, paired_imp (fun _ _ y => y.pres) r⟩
theorem NtAt.pres {n : Nt} {l0 l1 l2 l3 : Addr} (h : NtAt N H n l0 l1 l2 l3) : NtAt (fun b => H b ≠ none) H n l0 l1 l2 l3 :=
  ⟨let ⟨us, e, p⟩ := h.ln; ⟨us, e, paired_imp (fun _ _ x => x.pres) p⟩, let ⟨us, e, p⟩ := h.ch; ⟨us, e, paired_imp (fun _ _ x => x.pres) p⟩, let ⟨us, e, p⟩ := h.rd; ⟨us, e, paired_imp (fun _ _ x => x.pres) p⟩, let ⟨us, e, p⟩ := h.ws; ⟨us, e, paired_imp (fun _ _ x => x.pres) p⟩⟩
theorem LAt.keep {α : Type} {R : Hp → α → V → Prop} {A : List Addr} (hR : ∀ a v, R H a v → R H' a v) {as : List α} {p : Addr} (h : LAt R H as p) (k : Keep A H H') (hp : p ∉ A) : LAt R H' as p := by
  obtain ⟨us, e, q⟩ := h
  exact ⟨us, k _ _ e hp, paired_imp hR q⟩
theorem LAt.add {α : Type} {R : Hp → α → V → Prop} {as : List α} {a : α} {v : V} {p : Addr} {us : List V} (q : Paired (R H) as us) (hR : ∀ b u, R H b u → R (upd H p (.lst (us ++ [v]))) b u) (r : R H a v) : LAt R (upd H p (.lst (us ++ [v]))) (as ++ [a]) p :=
  ⟨us ++ [v], upd_same, paired_app (paired_imp hR q) (.cons (hR _ _ r) .nil)⟩
end
structure Nt.OkK (n : Nt) (k : Nat) : Prop where
  ln : ∀ r ∈ n.ln, kLn r ∧ okF r
  ch : ∀ r ∈ n.ch, kCh r ∧ okF r
  rd : ∀ r ∈ n.rd, kRd r ∧ okF r
  ws : ∀ r ∈ n.ws, r.Ok
  few : n.ln.length + n.ch.length + n.rd.length + n.ws.length ≤ k
theorem mem_app {α : Type} {P : α → Prop} {l : List α} {a : α} (h : ∀ x ∈ l, P x) (ha : P a) : ∀ x ∈ l ++ [a], P x := fun x hx => by
  rcases List.mem_append.mp hx with hx | hx
  · exact h x hx
  · rw [List.mem_singleton] at hx
    subst hx
    exact ha
section
variable {P : Program} {w : World} {K : PySem.W.Frag} {mg : Str → Option Value} {base : Heap} {pd : Addr}
abbrev s__law_net : Stmt := top 52
theorem sc__law_net : FnScope ["_law_script", "_law_lists", "_law_cell", "_law_draw_here", "_law_way", "_law_turn"] ["_law_script"] (defScope s__law_net) := ⟨rfl, rfl, rfl, by decide +kernel, rfl, by decide +kernel, by decide +kernel⟩
structure L4 (H : Hp) (l0 l1 l2 l3 : Addr) : Prop where
  a : l0 ≠ l1
  b : l0 ≠ l2
  c : l0 ≠ l3
  d : l1 ≠ l2
  e : l1 ≠ l3
  f : l2 ≠ l3
  i0 : H l0 ≠ none
  i1 : H l1 ≠ none
  i2 : H l2 ≠ none
  i3 : H l3 ≠ none
theorem NtAt.addLn {H6 Hz : Hp} {n : Nt} {l0 l1 l2 l3 : Addr} {x : List Fld} {v : V} {us : List V} (h4 : L4 H6 l0 l1 l2 l3) (h : NtAt (fun b => H6 b = none) Hz n l0 l1 l2 l3) (r : RR (fun b => H6 b = none) Hz x v) (e : Hz l0 = some (.lst us)) : NtAt (fun b => H6 b = none) (upd Hz l0 (.lst (us ++ [v]))) { n with ln := n.ln ++ [x] } l0 l1 l2 l3 ∧ us.length = n.ln.length := by
  have ku : Keep [l0] Hz (upd Hz l0 (.lst (us ++ [v]))) := Keep.refl.upd (.inl (.head _))
  have nu : ∀ b ∈ [l0], ¬ H6 b = none := fun b hb => by rw [List.mem_singleton] at hb; rw [hb]; exact h4.i0
  obtain ⟨us', e', p⟩ := h.ln
  rw [e] at e'
  cases e'
  refine ⟨⟨?_, ?_, ?_, ?_⟩, p.length.symm⟩
  · exact LAt.add (R := RR (fun b => H6 b = none)) p (fun _ _ y => y.keep ku nu) r
  · exact LAt.keep (fun _ _ y => y.keep ku nu) h.ch ku (by simp [h4.a.symm])
  · exact LAt.keep (fun _ _ y => y.keep ku nu) h.rd ku (by simp [h4.b.symm])
  · exact LAt.keep (fun _ _ y => y.keep ku nu) h.ws ku (by simp [h4.c.symm])
theorem NtAt.addCh {H6 Hz : Hp} {n : Nt} {l0 l1 l2 l3 : Addr} {x : List Fld} {v : V} {us : List V} (h4 : L4 H6 l0 l1 l2 l3) (h : NtAt (fun b => H6 b = none) Hz n l0 l1 l2 l3) (r : RR (fun b => H6 b = none) Hz x v) (e : Hz l1 = some (.lst us)) : NtAt (fun b => H6 b = none) (upd Hz l1 (.lst (us ++ [v]))) { n with ch := n.ch ++ [x] } l0 l1 l2 l3 ∧ us.length = n.ch.length := by
  have ku : Keep [l1] Hz (upd Hz l1 (.lst (us ++ [v]))) := Keep.refl.upd (.inl (.head _))
  have nu : ∀ b ∈ [l1], ¬ H6 b = none := fun b hb => by rw [List.mem_singleton] at hb; rw [hb]; exact h4.i1
  obtain ⟨us', e', p⟩ := h.ch
  rw [e] at e'
  cases e'
  refine ⟨⟨?_, ?_, ?_, ?_⟩, p.length.symm⟩
  · exact LAt.keep (fun _ _ y => y.keep ku nu) h.ln ku (by simp [h4.a])
  · exact LAt.add (R := RR (fun b => H6 b = none)) p (fun _ _ y => y.keep ku nu) r
  · exact LAt.keep (fun _ _ y => y.keep ku nu) h.rd ku (by simp [h4.d.symm])
  · exact LAt.keep (fun _ _ y => y.keep ku nu) h.ws ku (by simp [h4.e.symm])
theorem NtAt.addRd {H6 Hz : Hp} {n : Nt} {l0 l1 l2 l3 : Addr} {x : List Fld} {v : V} {us : List V} (h4 : L4 H6 l0 l1 l2 l3) (h : NtAt (fun b => H6 b = none) Hz n l0 l1 l2 l3) (r : RR (fun b => H6 b = none) Hz x v) (e : Hz l2 = some (.lst us)) : NtAt (fun b => H6 b = none) (upd Hz l2 (.lst (us ++ [v]))) { n with rd := n.rd ++ [x] } l0 l1 l2 l3 ∧ us.length = n.rd.length := by
  have ku : Keep [l2] Hz (upd Hz l2 (.lst (us ++ [v]))) := Keep.refl.upd (.inl (.head _))
  have nu : ∀ b ∈ [l2], ¬ H6 b = none := fun b hb => by rw [List.mem_singleton] at hb; rw [hb]; exact h4.i2
  obtain ⟨us', e', p⟩ := h.rd
  rw [e] at e'
  cases e'
  refine ⟨⟨?_, ?_, ?_, ?_⟩, p.length.symm⟩
  · exact LAt.keep (fun _ _ y => y.keep ku nu) h.ln ku (by simp [h4.b])
  · exact LAt.keep (fun _ _ y => y.keep ku nu) h.ch ku (by simp [h4.d])
  · exact LAt.add (R := RR (fun b => H6 b = none)) p (fun _ _ y => y.keep ku nu) r
  · exact LAt.keep (fun _ _ y => y.keep ku nu) h.ws ku (by simp [h4.f.symm])
theorem NtAt.addWs {H6 Hz : Hp} {n : Nt} {l0 l1 l2 l3 : Addr} {x : Ws} {v : V} {us : List V} (h4 : L4 H6 l0 l1 l2 l3) (h : NtAt (fun b => H6 b = none) Hz n l0 l1 l2 l3) (r : RWs (fun b => H6 b = none) Hz x v) (e : Hz l3 = some (.lst us)) : NtAt (fun b => H6 b = none) (upd Hz l3 (.lst (us ++ [v]))) { n with ws := n.ws ++ [x] } l0 l1 l2 l3 ∧ us.length = n.ws.length := by
  have ku : Keep [l3] Hz (upd Hz l3 (.lst (us ++ [v]))) := Keep.refl.upd (.inl (.head _))
  have nu : ∀ b ∈ [l3], ¬ H6 b = none := fun b hb => by rw [List.mem_singleton] at hb; rw [hb]; exact h4.i3
  obtain ⟨us', e', p⟩ := h.ws
  rw [e] at e'
  cases e'
  refine ⟨⟨?_, ?_, ?_, ?_⟩, p.length.symm⟩
  · exact LAt.keep (fun _ _ y => y.keep ku nu) h.ln ku (by simp [h4.c])
  · exact LAt.keep (fun _ _ y => y.keep ku nu) h.ch ku (by simp [h4.e])
  · exact LAt.keep (fun _ _ y => y.keep ku nu) h.rd ku (by simp [h4.f])
  · exact LAt.add (R := RWs (fun b => H6 b = none)) p (fun _ _ y => y.keep ku nu) r
def LN (H1 : Hp) (a L l0 l1 l2 l3 : Addr) (i : Nat) (σ : St) (H' : Hp) : Prop := ∃ v2 v3 v4 v5 n, σ = [some (.ref a), some (.ref L), v2, v3, v4, v5] ∧ NtAt (fun b => H1 b = none) H' n l0 l1 l2 l3 ∧ n.OkK i ∧ Keep [l0, l1, l2, l3] H1 H'
def LSW (H7 : Hp) (a L : Addr) (c : Int) (σ : St) (H' : Hp) : Prop := ∃ (pd : Addr) (z : Int) (v5 : Option V), σ = [some (.ref a), some (.ref L), some (.int c), some (.ref pd), some (.int z), v5] ∧ Dr H' pd ∧ Same H7 H' ∧ H7 pd = none ∧ (z = 0 ∨ z = 1 ∨ z = 2 ∨ z = 3)
def sp_lnet (K : PySem.W.Frag) : Sp := fun vs H Q _ => ∃ (a : Addr) (ns : List Int), vs = [.ref a] ∧ SqL K H a (ns.map V.int) ∧ ∀ L l0 l1 l2 l3 n H', Same H H' → H L = none → H' L = some (.lst [.ref l0, .ref l1, .ref l2, .ref l3]) → L4 H' l0 l1 l2 l3 → NtAt (fun b => H' b ≠ none) H' n l0 l1 l2 l3 → n.Ok → Q (.ref L) H'
theorem draw_same {H H1 H2 : Hp} (s : Same H H1) (n : H pd = none) (k : Keep [pd] H1 H2) : Same H H2 := fun b o e => k _ _ (s _ _ e) (by intro h; rw [List.mem_singleton] at h; rw [h, n] at e; cases e)
theorem sIx_49 (n : Nat) : HT.sIx n n (some 49) ≤ 49 := by
  simp [HT.sIx]
  omega
theorem sIx_1 (n : Nat) (h : n ≠ 0) : 1 ≤ HT.sIx n 0 (some 1) := by
  simp [HT.sIx]
  omega
theorem tail_cut {ns : List Int} : ∃ ms : List Int, cutV (ns.map V.int) (some 1) (some 49) = ms.map V.int ∧ ms.length ≤ 48 := by
  obtain ⟨ms, e⟩ := cutV_map ns (some 1) (some 49)
  refine ⟨ms, e, ?_⟩
  have h : (ms.map V.int).length ≤ 48 := by
    rw [← e]
    unfold cutV
    rw [List.length_take]
    have h1 : HT.sIx (ns.map V.int).length (ns.map V.int).length (some 49) ≤ 49 := sIx_49 _
    by_cases h0 : (ns.map V.int).length = 0
    · rw [List.length_drop]; omega
    · have h2 : 1 ≤ HT.sIx (ns.map V.int).length 0 (some 1) := sIx_1 _ h0
      omega
  rwa [List.length_map] at h
set_option maxHeartbeats 4000000 in
theorem own_lnet (D : Def K mg "_law_net" s__law_net) (F__law_draw : Own P w K mg base 1 "_law_draw" ["_law_cell"] sp_draw) (F__law_next : Own P w K mg base 1 "_law_next" ["_law_draw_here", "_law_size"] sp_next) (F__law_number : Own P w K mg base 2 "_law_number" ["_law_draw_here"] (Drw isNum)) (F__law_price : Own P w K mg base 3 "_law_price" ["_law_draw_here"] (Drw isPrc)) (F__law_deeds : Own P w K mg base 3 "_law_deeds" ["_law_draw_here"] (Drw isDds)) (F__law_wish : Own P w K mg base 3 "_law_wish" ["_law_draw_here"] (Drw isWsh)) : Own P w K mg base 4 "_law_net" ["_law_script"] (sp_lnet K) := by
  refine D.own sc__law_net (fun _ _ _ _ _ _ us hl => match us, hl with | [_], _ => rfl) (fun vs H Q E h => ?_) (fun f cdv A outer s H vs Q E hr h => ?_)
  · obtain ⟨a, ns, rfl, _⟩ := h
    rfl
  · obtain ⟨a, ns, rfl, hS, q⟩ := h
    have hu := hr.units
    have hu1 : (A.deeper (PyProof.Rows.envOfC "_law_net" (defScope s__law_net) s.heap.objs.size f cdv)).units + 1 < cLine := by omega
    refine ⟨_, (pss_cons (ps_set (i:=1) sc__law_net.nd rfl (by first | exact Or.inl rfl | exact Or.inr rfl) (pe_lst (pa_cX (pe_lst pa_nil) (pa_cX (pe_lst pa_nil) (pa_cX (pe_lst pa_nil) (pa_cX (pe_lst pa_nil) pa_nil)))))) (pss_cons (ps_for PassesOwn.never rfl (pi_listK K (pe_slice (sl_listK K) (pv 0) (po_some pe_int) (po_some pe_int))) (pg_name (i:=2) sc__law_net.nd rfl (by first | exact Or.inl rfl | exact Or.inr rfl)) (pss_cons (ps_set (i:=3) sc__law_net.nd rfl (by first | exact Or.inl rfl | exact Or.inr rfl) (pe_fn F__law_draw hr (pa_cX (pv 2) pa_nil))) (pss_cons (ps_set (i:=4) sc__law_net.nd rfl (by first | exact Or.inl rfl | exact Or.inr rfl) (pe_fn F__law_next hr (pa_cX (pv 3) (pa_cX pe_int pa_nil)))) (pss_cons (ps_if (pt_cmpR op_eq (pv 4) pe_int (nomark _)) (pss_one (ps_expr (pe_lm PySem.F.slot_list_append PySem.F.type_list_append mt_append (pe_ix (ix_get hu1) (pv 1) pe_int (fun _ _ => rfl)) (pa_cX (pe_tup (pa_cX (pe_fn F__law_number hr (pa_cX (pv 3) pa_nil)) (pa_cX (pe_fn F__law_number hr (pa_cX (pv 3) pa_nil)) (pa_cX (pe_fn F__law_price hr (pa_cX (pv 3) pa_nil)) pa_nil)))) pa_nil)))) pss_nil) (pss_cons (ps_if (pt_cmpR op_eq (pv 4) pe_int (nomark _)) (pss_cons (ps_set (i:=5) sc__law_net.nd rfl (by first | exact Or.inl rfl | exact Or.inr rfl) (pe_fn F__law_number hr (pa_cX (pv 3) pa_nil))) (pss_one (ps_expr (pe_lm PySem.F.slot_list_append PySem.F.type_list_append mt_append (pe_ix (ix_get hu1) (pv 1) pe_int (fun _ _ => rfl)) (pa_cX (pe_tup (pa_cX (pv 5) (pa_cX (pe_fn F__law_number hr (pa_cX (pv 3) pa_nil)) (pa_cX (pe_fn F__law_number hr (pa_cX (pv 3) pa_nil)) (pa_cX (pe_fn F__law_price hr (pa_cX (pv 3) pa_nil)) pa_nil))))) pa_nil))))) pss_nil) (pss_cons (ps_if (pt_cmpR op_eq (pv 4) pe_int (nomark _)) (pss_one (ps_expr (pe_lm PySem.F.slot_list_append PySem.F.type_list_append mt_append (pe_ix (ix_get hu1) (pv 1) pe_int (fun _ _ => rfl)) (pa_cX (pe_tup (pa_cX (pe_fn F__law_number hr (pa_cX (pv 3) pa_nil)) (pa_cX (pe_fn F__law_number hr (pa_cX (pv 3) pa_nil)) (pa_cX (pe_fn F__law_deeds hr (pa_cX (pv 3) pa_nil)) pa_nil)))) pa_nil)))) pss_nil) (pss_one (ps_if (pt_cmpR op_eq (pv 4) pe_int (nomark _)) (pss_one (ps_expr (pe_lm PySem.F.slot_list_append PySem.F.type_list_append mt_append (pe_ix (ix_get hu1) (pv 1) pe_int (fun _ _ => rfl)) (pa_cX (pe_fn F__law_wish hr (pa_cX (pv 3) pa_nil)) pa_nil)))) pss_nil)))))))) (pss_one (ps_ret (pv 1))))), ?_⟩
    simp (maxSteps := 1000000) only [tFor_eq, Nat.reduceSub, Nat.reduceAdd, iList, tSl, rSlL, tPart, tSeq, exists_and_left, tVar, tC, tAsg, gName, tCons, tNil, tLst, L2.start, List.map_cons, List.map_nil, List.length_cons, List.length_nil, List.replicate, List.cons_append, List.nil_append, List.getElem?_cons_zero, List.set_cons_zero, List.set_cons_succ, Option.some.injEq, exists_eq_left', V.int.injEq, V.ref.injEq]
    refine ⟨by rw [sizeLine_eq]; decide, ?_⟩
    intro p1 n1
    generalize z1 : upd H p1 _ = H1
    obtain ⟨s1, e1⟩ := new_same z1 n1
    refine ⟨by rw [sizeLine_eq]; decide, ?_⟩
    intro p2 n2
    generalize z2 : upd H1 p2 _ = H2
    obtain ⟨s2, e2⟩ := new_same z2 n2
    refine ⟨by rw [sizeLine_eq]; decide, ?_⟩
    intro p3 n3
    generalize z3 : upd H2 p3 _ = H3
    obtain ⟨s3, e3⟩ := new_same z3 n3
    refine ⟨by rw [sizeLine_eq]; decide, ?_⟩
    intro p4 n4
    generalize z4 : upd H3 p4 _ = H4
    obtain ⟨s4, e4⟩ := new_same z4 n4
    refine ⟨by rw [sizeLine_eq]; decide, ?_⟩
    intro p5 n5
    generalize z5 : upd H4 p5 _ = H5
    obtain ⟨s5, e5⟩ := new_same z5 n5
    obtain ⟨ms, ems, hms⟩ := tail_cut (ns := ns)
    have sA := (((s1.trans s2).trans s3).trans s4).trans s5
    refine ⟨_, sA.seq hS, ?_⟩
    rw [ems]
    intro p6 n6
    generalize z6 : upd H5 p6 _ = H6
    obtain ⟨s6, e6⟩ := new_same z6 n6
    have f1 := ((((s2.trans s3).trans s4).trans s5).trans s6) _ _ e1
    have f2 := (((s3.trans s4).trans s5).trans s6) _ _ e2
    have f3 := ((s4.trans s5).trans s6) _ _ e3
    have f4 := (s5.trans s6) _ _ e4
    have f5 := s6 _ _ e5
    have n21 : p1 ≠ p2 := fun h => by rw [← h, e1] at n2; cases n2
    have n31 : p1 ≠ p3 := fun h => by rw [← h, s2 _ _ e1] at n3; cases n3
    have n32 : p2 ≠ p3 := fun h => by rw [← h, e2] at n3; cases n3
    have n41 : p1 ≠ p4 := fun h => by rw [← h, s3 _ _ (s2 _ _ e1)] at n4; cases n4
    have n42 : p2 ≠ p4 := fun h => by rw [← h, s3 _ _ e2] at n4; cases n4
    have n43 : p3 ≠ p4 := fun h => by rw [← h, e3] at n4; cases n4
    have sH : Same H H6 := sA.trans s6
    have nl : ∀ b, b ∈ [p1, p2, p3, p4] → H b = none ∧ ∃ us, H6 b = some (.lst us) := fun b hb => by
      simp only [List.mem_cons, List.not_mem_nil, or_false] at hb
      rcases hb with rfl | rfl | rfl | rfl
      · exact ⟨n1, _, f1⟩
      · exact ⟨s1.free n2, _, f2⟩
      · exact ⟨(s1.trans s2).free n3, _, f3⟩
      · exact ⟨((s1.trans s2).trans s3).free n4, _, f4⟩
    have nL : p5 ∉ [p1, p2, p3, p4] := fun hb => by
      simp only [List.mem_cons, List.not_mem_nil, or_false] at hb
      rcases hb with h | h | h | h
      · rw [h, s4 _ _ (s3 _ _ (s2 _ _ e1))] at n5; cases n5
      · rw [h, s4 _ _ (s3 _ _ e2)] at n5; cases n5
      · rw [h, s4 _ _ e3] at n5; cases n5
      · rw [h, e4] at n5; cases n5
    have nM : p6 ∉ [p1, p2, p3, p4] := fun hb => by
      simp only [List.mem_cons, List.not_mem_nil, or_false] at hb
      rcases hb with h | h | h | h
      · rw [h, s5 _ _ (s4 _ _ (s3 _ _ (s2 _ _ e1)))] at n6; cases n6
      · rw [h, s5 _ _ (s4 _ _ (s3 _ _ e2))] at n6; cases n6
      · rw [h, s5 _ _ (s4 _ _ e3)] at n6; cases n6
      · rw [h, s5 _ _ e4] at n6; cases n6
    have h4 : L4 H6 p1 p2 p3 p4 := ⟨n21, n31, n41, n32, n42, n43, (by rw [f1]; exact fun z => nomatch z), (by rw [f2]; exact fun z => nomatch z), (by rw [f3]; exact fun z => nomatch z), (by rw [f4]; exact fun z => nomatch z)⟩
    have g5 : H6 p5 = some (.lst [.ref p1, .ref p2, .ref p3, .ref p4]) := f5
    refine ⟨⟨_, SqL.of e6⟩, for_list (xs := ms.map V.int) (LN H6 a p5 p1 p2 p3 p4) ⟨none, none, none, none, ⟨[], [], [], []⟩, rfl, ⟨⟨[], f1, .nil⟩, ⟨[], f2, .nil⟩, ⟨[], f3, .nil⟩, ⟨[], f4, .nil⟩⟩, ⟨(fun _ z => nomatch z), (fun _ z => nomatch z), (fun _ z => nomatch z), (fun _ z => nomatch z), Nat.le_refl _⟩, .refl⟩ ?_ ?_ ?_⟩
    · rintro i σ H7 hi ⟨v2, v3, v4, v5, n, rfl, at7, ok7, k7⟩
      exact SqL.of (k7 _ _ e6 nM)
    · rintro i x σ H7 hx ⟨v2, v3, v4, v5, n, rfl, at7, ok7, k7⟩
      rw [List.getElem?_map] at hx
      obtain ⟨c, hc, rfl⟩ := Option.map_eq_some_iff.mp hx
      have hil : i < ms.length := (List.getElem?_eq_some_iff.mp hc).1
      have g57 := k7 _ _ g5 nL
      refine use2 (LSW H7 a p5 c) ?_ (fun X hX => ?_)
      rotate_left
      · simp (maxSteps := 1000000) only [tSeq, tVar, tC, tAsg, gName, tCall, tCons, tNil, List.getElem?_cons_zero, List.getElem?_cons_succ, List.set_cons_zero, List.set_cons_succ, Option.some.injEq, exists_eq_left', List.append_nil]
        refine ⟨c, rfl, fun pd xa xb H8 n8 e8 s8 => ?_⟩
        have d8 : Dr H8 pd := ⟨xa, xb, e8⟩
        refine next_ok d8 (by decide) (by decide) fun r H9 hr9 d9 k9 => hX _ _ ⟨pd, r, _, rfl, d9, draw_same s8 n8 k9, n8, ?_⟩
        omega
      rintro σ H9 ⟨pd, z, v5, rfl, d9, sd, n8, hz⟩
      have g59 := sd _ _ g57
      have old6 : ∀ b, H7 b = none → H6 b = none := fun b hb => by
        cases e : H6 b with
        | none => rfl
        | some o =>
          by_cases hm : b ∈ [p1, p2, p3, p4]
          · have : H7 b ≠ none := by
              simp only [List.mem_cons, List.not_mem_nil, or_false] at hm
              obtain ⟨u1, w1, _⟩ := at7.ln
              obtain ⟨u2, w2, _⟩ := at7.ch
              obtain ⟨u3, w3, _⟩ := at7.rd
              obtain ⟨u4, w4, _⟩ := at7.ws
              rcases hm with rfl | rfl | rfl | rfl
              · rw [w1]; exact fun z => nomatch z
              · rw [w2]; exact fun z => nomatch z
              · rw [w3]; exact fun z => nomatch z
              · rw [w4]; exact fun z => nomatch z
            exact absurd hb this
          · rw [k7 _ _ e hm] at hb
            cases hb
      rcases hz with rfl | rfl | rfl | rfl
      · simp (maxSteps := 1000000) only [tBL, rGet, getO_l, atI_0, Int.reduceEq, Nat.reduceAdd, decide_true, decide_false, rAppend, List.cons.injEq, rEq_ii, tSeq, exists_and_left, if_false, if_true, Bool.false_eq_true, tIfS, tTest, tOp, tVar, tC, tAsg, gName, tNext, tCall, tCons, tNil, tDrop, tTup, List.length_cons, List.length_nil, List.getElem?_cons_zero, List.getElem?_cons_succ, List.set_cons_zero, List.set_cons_succ, Option.some.injEq, exists_eq_left', V.bl.injEq, V.ref.injEq, and_true, List.append_nil, g59]
        obtain ⟨us, eus, pus⟩ := at7.ln
        refine ⟨us, sd _ _ eus, pd, rfl, d9, ?_⟩
        rintro _ Ha ⟨x1, rfl, hx1⟩ da ka
        refine ⟨pd, rfl, da, ?_⟩
        rintro _ Hb ⟨x2, rfl, hx2⟩ db kb
        refine ⟨pd, rfl, db, ?_⟩
        rintro _ Hc ⟨o, rfl, ho⟩ dc kc
        refine ⟨by rw [sizeLine_eq]; decide, fun p hp => ?_⟩
        have sc : Same H7 (upd Hc p (.tup [niV x1, niV x2, onV o])) := (draw_same sd n8 ((ka.trans kb).trans kc)).trans (.upd_new hp)
        have ep : upd Hc p (.tup [niV x1, niV x2, onV o]) p = some (.tup [niV x1, niV x2, onV o]) := upd_same
        have hp6 : H6 p = none := old6 _ ((draw_same sd n8 ((ka.trans kb).trans kc)).free hp)
        generalize upd Hc p (.tup [niV x1, niV x2, onV o]) = Hz at sc ep ⊢
        obtain ⟨at8, hl8⟩ := (at7.same sc).addLn h4 (x := [.n x1, .n x2, .o o]) ⟨p, _, rfl, hp6, ep, .cons rfl (.cons rfl (.cons rfl .nil))⟩ (sc _ _ eus)
        have few := ok7.few
        refine ⟨us, sc _ _ eus, by rw [sizeLine_eq]; omega, _, _, _, _, _, rfl, at8, ⟨mem_app ok7.ln ⟨⟨x1, x2, o, rfl⟩, fun f hf => ?_⟩, ok7.ch, ok7.rd, ok7.ws, by simp only [List.length_append, List.length_cons, List.length_nil]; omega⟩, (k7.trans sc.keep).upd (.inl (.head _))⟩
        simp only [List.mem_cons, List.not_mem_nil, or_false] at hf
        rcases hf with rfl | rfl | rfl
        · exact hx1
        · exact hx2
        · exact ho
      · simp (maxSteps := 1000000) only [tBL, rGet, getO_l, atI_0, Int.reduceEq, Nat.reduceAdd, decide_true, decide_false, rAppend, List.cons.injEq, rEq_ii, tSeq, exists_and_left, if_false, if_true, Bool.false_eq_true, tIfS, tTest, tOp, tVar, tC, tAsg, gName, tNext, tCall, tCons, tNil, tDrop, tTup, List.length_cons, List.length_nil, List.getElem?_cons_zero, List.getElem?_cons_succ, List.set_cons_zero, List.set_cons_succ, Option.some.injEq, exists_eq_left', V.bl.injEq, V.ref.injEq, and_true, List.append_nil, g59]
        obtain ⟨us, eus, pus⟩ := at7.ch
        refine ⟨pd, rfl, d9, ?_⟩
        rintro _ He ⟨x0, rfl, hx0⟩ de ke
        have ge := draw_same sd n8 ke
        refine ⟨_, ge _ _ g57, _, rfl, _, rfl, us, ge _ _ eus, pd, rfl, de, ?_⟩
        rintro _ Ha ⟨x1, rfl, hx1⟩ da ka
        refine ⟨pd, rfl, da, ?_⟩
        rintro _ Hb ⟨x2, rfl, hx2⟩ db kb
        refine ⟨pd, rfl, db, ?_⟩
        rintro _ Hc ⟨o, rfl, ho⟩ dc kc
        refine ⟨by rw [sizeLine_eq]; decide, fun p hp => ⟨_, rfl, ?_⟩⟩
        have sc : Same H7 (upd Hc p (.tup [niV x0, niV x1, niV x2, onV o])) := (draw_same sd n8 (((ke.trans ka).trans kb).trans kc)).trans (.upd_new hp)
        have ep : upd Hc p (.tup [niV x0, niV x1, niV x2, onV o]) p = some (.tup [niV x0, niV x1, niV x2, onV o]) := upd_same
        have hp6 : H6 p = none := old6 _ ((draw_same sd n8 (((ke.trans ka).trans kb).trans kc)).free hp)
        generalize upd Hc p (.tup [niV x0, niV x1, niV x2, onV o]) = Hz at sc ep ⊢
        obtain ⟨at8, hl8⟩ := (at7.same sc).addCh h4 (x := [.n x0, .n x1, .n x2, .o o]) ⟨p, _, rfl, hp6, ep, .cons rfl (.cons rfl (.cons rfl (.cons rfl .nil)))⟩ (sc _ _ eus)
        have few := ok7.few
        refine ⟨us, sc _ _ eus, by rw [sizeLine_eq]; omega, _, _, _, _, _, rfl, at8, ⟨ok7.ln, mem_app ok7.ch ⟨⟨x0, x1, x2, o, rfl⟩, fun f hf => ?_⟩, ok7.rd, ok7.ws, by simp only [List.length_append, List.length_cons, List.length_nil]; omega⟩, (k7.trans sc.keep).upd (.inl (.tail _ (.head _)))⟩
        simp only [List.mem_cons, List.not_mem_nil, or_false] at hf
        rcases hf with rfl | rfl | rfl | rfl
        · exact hx0
        · exact hx1
        · exact hx2
        · exact ho
      · simp (maxSteps := 1000000) only [tBL, rGet, getO_l, atI_0, atI_2, Int.reduceEq, Nat.reduceAdd, decide_true, decide_false, rAppend, List.cons.injEq, rEq_ii, tSeq, exists_and_left, if_false, if_true, Bool.false_eq_true, tIfS, tTest, tOp, tVar, tC, tAsg, gName, tNext, tCall, tCons, tNil, tDrop, tTup, List.length_cons, List.length_nil, List.getElem?_cons_zero, List.getElem?_cons_succ, List.set_cons_zero, List.set_cons_succ, Option.some.injEq, exists_eq_left', V.bl.injEq, V.ref.injEq, and_true, List.append_nil, g59]
        obtain ⟨us, eus, pus⟩ := at7.rd
        refine ⟨us, sd _ _ eus, pd, rfl, d9, ?_⟩
        rintro _ Ha ⟨x1, rfl, hx1⟩ da ka
        refine ⟨pd, rfl, da, ?_⟩
        rintro _ Hb ⟨x2, rfl, hx2⟩ db kb
        refine ⟨pd, rfl, db, ?_⟩
        rintro vd Hc ⟨d, rd, hd⟩ dc kc
        refine ⟨by rw [sizeLine_eq]; decide, fun p hp => ?_⟩
        have sc' := draw_same sd n8 ((ka.trans kb).trans kc)
        have sn : Same Hc (upd Hc p (.tup [niV x1, niV x2, vd])) := .upd_new hp
        have sc : Same H7 (upd Hc p (.tup [niV x1, niV x2, vd])) := sc'.trans sn
        have ep : upd Hc p (.tup [niV x1, niV x2, vd]) p = some (.tup [niV x1, niV x2, vd]) := upd_same
        have hp6 : H6 p = none := old6 _ (sc'.free hp)
        have sb := draw_same sd n8 (ka.trans kb)
        have rd' : RF (fun b => H6 b = none) (upd Hc p (.tup [niV x1, niV x2, vd])) (.ds d) vd := (rd.same sn).mono fun b hb => old6 _ (sb.free hb)
        generalize upd Hc p (.tup [niV x1, niV x2, vd]) = Hz at sc ep rd' ⊢
        obtain ⟨at8, hl8⟩ := (at7.same sc).addRd h4 (x := [.n x1, .n x2, .ds d]) ⟨p, _, rfl, hp6, ep, .cons rfl (.cons rfl (.cons rd' .nil))⟩ (sc _ _ eus)
        have few := ok7.few
        refine ⟨us, sc _ _ eus, by rw [sizeLine_eq]; omega, _, _, _, _, _, rfl, at8, ⟨ok7.ln, ok7.ch, mem_app ok7.rd ⟨⟨x1, x2, d, rfl⟩, fun f hf => ?_⟩, ok7.ws, by simp only [List.length_append, List.length_cons, List.length_nil]; omega⟩, (k7.trans sc.keep).upd (.inl (.tail _ (.tail _ (.head _))))⟩
        simp only [List.mem_cons, List.not_mem_nil, or_false] at hf
        rcases hf with rfl | rfl | rfl
        · exact hx1
        · exact hx2
        · exact hd
      · simp (maxSteps := 1000000) only [tBL, rGet, getO_l, atI_0, atI_3, Int.reduceEq, Nat.reduceAdd, decide_true, decide_false, rAppend, List.cons.injEq, rEq_ii, tSeq, exists_and_left, if_false, if_true, Bool.false_eq_true, tIfS, tTest, tOp, tVar, tC, tAsg, gName, tNext, tCall, tCons, tNil, tDrop, tTup, List.length_cons, List.length_nil, List.getElem?_cons_zero, List.getElem?_cons_succ, List.set_cons_zero, List.set_cons_succ, Option.some.injEq, exists_eq_left', V.bl.injEq, V.ref.injEq, and_true, List.append_nil, g59]
        obtain ⟨us, eus, pus⟩ := at7.ws
        refine ⟨us, sd _ _ eus, pd, rfl, d9, ?_⟩
        rintro vw Hz ⟨y, ry, hy⟩ dc kc
        have sc := draw_same sd n8 kc
        obtain ⟨at8, hl8⟩ := (at7.same sc).addWs h4 (x := y) (ry.mono fun b hb => old6 _ (sd.free hb)) (sc _ _ eus)
        have few := ok7.few
        exact ⟨us, sc _ _ eus, by rw [sizeLine_eq]; omega, _, _, _, _, _, rfl, at8, ⟨ok7.ln, ok7.ch, ok7.rd, mem_app ok7.ws hy, by simp only [List.length_append, List.length_cons, List.length_nil]; omega⟩, (k7.trans sc.keep).upd (.inl (.tail _ (.tail _ (.tail _ (.head _)))))⟩
    · rintro σ H7 ⟨v2, v3, v4, v5, n, rfl, at7, ok7, k7⟩
      have few := ok7.few
      rw [List.length_map] at few
      have h7 : L4 H7 p1 p2 p3 p4 := by
        obtain ⟨u1, w1, _⟩ := at7.ln
        obtain ⟨u2, w2, _⟩ := at7.ch
        obtain ⟨u3, w3, _⟩ := at7.rd
        obtain ⟨u4, w4, _⟩ := at7.ws
        exact ⟨n21, n31, n41, n32, n42, n43, (by rw [w1]; exact fun z => nomatch z), (by rw [w2]; exact fun z => nomatch z), (by rw [w3]; exact fun z => nomatch z), (by rw [w4]; exact fun z => nomatch z)⟩
      simp (maxSteps := 1000000) only [tVar, tRet, List.getElem?_cons_zero, List.getElem?_cons_succ, Option.some.injEq, exists_eq_left']
      refine q p5 p1 p2 p3 p4 n H7 (fun b o e => k7 _ _ (sH _ _ e) fun hb => ?_) ((((s1.trans s2).trans s3).trans s4).free n5) (k7 _ _ g5 nL) h7 at7.pres ⟨ok7.ln, ok7.ch, ok7.rd, ok7.ws, by omega⟩
      rw [(nl b hb).1] at e
      cases e
end
end K81
namespace K81
open PySem L2
section
variable {P : Program} {w : World} {K : PySem.W.Frag} {mg : Str → Option Value} {base : Heap} {pd : Addr}
abbrev s__law_shown : Stmt := top 53
theorem sc__law_shown : FnScope ["_law_number_here"] ["_law_number_here"] (defScope s__law_shown) := ⟨rfl, rfl, rfl, by decide +kernel, rfl, by decide +kernel, by decide +kernel⟩
abbrev s__law_deeds_text : Stmt := top 54
theorem sc__law_deeds_text : FnScope ["_law_deeds_here", "_law_texts", "_law_deed"] ["_law_deeds_here"] (defScope s__law_deeds_text) := ⟨rfl, rfl, rfl, by decide +kernel, rfl, by decide +kernel, by decide +kernel⟩
theorem cs__law_deeds_text_0 : CScope ["_law_delay"] [] { kind := .function, names := [(".0", .local), ("_law_delay", .local), ("str", .globalImplicit)], isGenerator := false, isCoroutine := false, more := [] } (defScope s__law_deeds_text) := ⟨rfl, by decide +kernel, by decide +kernel, by decide +kernel, by decide +kernel, by decide +kernel⟩
def sp_shown : Sp := fun vs H Q _ => ∃ o : Option Nat, vs = [onV o] ∧ okO o ∧ ∀ H', Same H H' → Q (.str (Sg (oT o))) H'
theorem own_shown (D : Def K mg "_law_shown" s__law_shown) (hb : Blt mg) : Own P w K mg base 1 "_law_shown" ["_law_number_here"] sp_shown := by
  refine D.own sc__law_shown (fun _ _ _ _ _ _ us hl => match us, hl with | [_], _ => rfl) (fun vs H Q E h => ?_) (fun f cdv A outer s H vs Q E hr h => ?_)
  · obtain ⟨o, rfl, _⟩ := h
    rfl
  · obtain ⟨o, rfl, ho, q⟩ := h
    have hu := hr.units
    have hu1 : (A.deeper (PyProof.Rows.envOfC "_law_shown" (defScope s__law_shown) s.heap.objs.size f cdv)).units + 1 < cLine := by omega
    refine ⟨_, (pss_one (ps_ret (pe_ix (ix_get hu1) (pe_lst (pa_cX pe_str (pa_cX (pe_callTy call_strS rfl (hb _ (by decide)) bt_str (pa_cX (pv 0) pa_nil)) pa_nil))) (pe_callTy call_int1 rfl (hb _ (by decide)) bt_int (pa_cX (pe_cmpR op_notN (pv 0) pe_non (nomark _)) pa_nil)) (fun _ _ => rfl)))), ?_⟩
    cases o with
    | none =>
      simp (maxSteps := 1000000) only [rGet, getO_l, atI_0, Nat.reduceSub, upd_same, Nat.reduceAdd, decide_true, Bool.not_true, List.cons.injEq, exists_and_left, if_false, Bool.false_eq_true, tOp, tVar, tC, tRet, tCons, tNil, tCB, tLst, L2.start, List.map_cons, List.map_nil, List.length_cons, List.length_nil, List.replicate, List.getElem?_cons_zero, Option.some.injEq, exists_eq_left', V.bl.injEq, V.ref.injEq, exists_const, and_true, true_and, reduceCtorEq, false_and, false_or, List.append_nil, onV, rStrS]
      refine ⟨by rw [sizeLine_eq]; decide, fun p hp => ?_⟩
      have q' := q _ (Same.upd_new (o := .lst [.str (Str.ofString "none"), .str (Sg (K81.w "None"))]) hp)
      have e : Str.ofString "none" = Sg (oT none) := S_of _
      rw [← e] at q'
      exact q'
    | some n =>
      have := ho n rfl
      simp (maxSteps := 1000000) only [rGet, getO_l, atI_1, Nat.reduceSub, upd_same, Nat.reduceAdd, decide_false, Bool.not_false, List.cons.injEq, exists_and_left, if_true, tOp, tVar, tC, tRet, tCons, tNil, tCB, tLst, L2.start, List.map_cons, List.map_nil, List.length_cons, List.length_nil, List.replicate, List.getElem?_cons_zero, Option.some.injEq, exists_eq_left', V.int.injEq, V.bl.injEq, V.ref.injEq, exists_const, and_true, true_and, reduceCtorEq, false_and, or_false, false_or, List.append_nil, onV, rStrS, nat_eq]
      exact ⟨by omega, by rw [sizeLine_eq]; decide, fun p hp => q _ (.upd_new hp)⟩
def niD (k : Nat) : PyData := .int (k : Int)
theorem dt_ints {H : Hp} {t : Addr} {d : List Nat} (e : H t = some (.tup (d.map niV))) (hl : d.length ≤ 1000) : Dt H (.ref t) (.tuple (d.map niD)) := by
  refine .tp e ?_
  clear e
  induction d with
  | nil => exact .nil
  | cons k d ih => exact .cons (Im.int _).dt (ih (by simp at hl; omega))
theorem dep_ints (d : List Nat) : (PyData.tuple (d.map niD)).depth ≤ 60 := by
  have : PyData.depthAll (d.map niD) ≤ 1 := depthAll_le fun x hx => by
    obtain ⟨k, _, rfl⟩ := List.mem_map.mp hx
    simp [niD, PyData.depth]
  rw [PyData.depth]
  omega
theorem eqv_nilT (d : List Nat) : PyData.eqv (.tuple (d.map niD)) (.tuple []) = decide (d = []) := by
  cases d with
  | nil => rfl
  | cons k d => simp [niD, PyData.eqv, PyData.eqvAll]
def LDT (H : Hp) (p t : Addr) (ds : List (List Nat)) (i : Nat) (σ : St) (H' : Hp) : Prop := ∃ v2, σ = [some (.ref p), some (.ref t), v2] ∧ H t = none ∧ Same H H' ∧ H' t = some (.lst (((((ds.take i).map dT).map Sg)).map V.str))
set_option maxHeartbeats 1000000 in
theorem own_ldst (D : Def K mg "_law_deeds_text" s__law_deeds_text) (hb : Blt mg) : Own P w K mg base 1 "_law_deeds_text" ["_law_deeds_here"] sp_deeds := by
  refine D.own sc__law_deeds_text (fun _ _ _ _ _ _ us hl => match us, hl with | [_], _ => rfl) (fun vs H Q E h => ?_) (fun f cdv A outer s H vs Q E hr h => ?_)
  · obtain ⟨v, d, N, rfl, _⟩ := h
    rfl
  · obtain ⟨v, ds, N, rfl, ⟨p, us, rfl, _, ep, pu⟩, hd, q⟩ := h
    have hu := hr.units
    have hu1 : (A.deeper (PyProof.Rows.envOfC "_law_deeds_text" (defScope s__law_deeds_text) s.heap.objs.size f cdv)).units + 1 < cLine := by omega
    refine ⟨_, (pss_cons (ps_if (pt_cmpR (op_eqNil hu) (pv 0) (pe_lst pa_nil) (nomark _)) (pss_one (ps_ret pe_str)) pss_nil) (pss_cons (ps_set (i:=1) sc__law_deeds_text.nd rfl (by first | exact Or.inl rfl | exact Or.inr rfl) (pe_lst pa_nil)) (pss_cons (ps_for PassesOwn.never rfl (pi_listK K (pv 0)) (pg_name (i:=2) sc__law_deeds_text.nd rfl (by first | exact Or.inl rfl | exact Or.inr rfl)) (pss_one (ps_expr (pe_lm PySem.F.slot_list_append PySem.F.type_list_append mt_append (pv 1) (pa_cX (pe_op op_addS (pe_join pe_str (pe_comp ["_law_delay"] [] [] rfl cs__law_deeds_text_0 (pi_tupK K (pv 2)) (fun _ _ _ _ => (pg_name (i:=0) cs__law_deeds_text_0.nd rfl (by first | exact Or.inl rfl | exact Or.inr rfl))) (fun _ _ _ _ => pf_nil) (fun _ _ _ _ => (pe_callTy call_strS rfl (hb _ (by decide)) bt_str (pa_cX (pv 0) pa_nil)))) (by constructor <;> rfl)) (pe_op op_mulS pe_str (pe_callTy call_int1 rfl (hb _ (by decide)) bt_int (pa_cX (pe_cmpR (op_eqX hu) (pv 2) (pe_tup pa_nil) (nomark _)) pa_nil)))) pa_nil))))) (pss_one (ps_ret (pe_join pe_str (pv 1) (by constructor <;> rfl))))))), ?_⟩
    refine use1 (fun σ H' => ds ≠ [] ∧ σ = [some (.ref p), none, none] ∧ Same H H') ?_ (fun X hX => ?_)
    rotate_left
    · simp (maxSteps := 1000000) only [Nat.reduceSub, Nat.reduceAdd, tSeq, tIfS, tTest, tOp, tVar, tC, tRet, tNext, tNil, tLst, L2.start, List.map_cons, List.map_nil, List.length_cons, List.length_nil, List.replicate, List.cons_append, List.nil_append, List.getElem?_cons_zero, Option.some.injEq, exists_eq_left']
      refine ⟨by rw [sizeLine_eq]; decide, ?_⟩
      intro p1 n1
      generalize z1 : upd H p1 _ = H1
      obtain ⟨s1, e1⟩ := new_same z1 n1
      refine ⟨p, p1, us, rfl, rfl, s1 _ _ ep, e1, ?_⟩
      simp (maxSteps := 1000000) only [exists_eq_left', V.bl.injEq]
      cases pu with
      | nil =>
        have q' := q _ s1
        have e : Str.ofString "none" = Sg (dsT []) := S_of _
        rw [← e] at q'
        exact iteT q'
      | cons h t => exact iteF (hX _ _ ⟨(fun z => nomatch z), rfl, s1⟩)
    rintro σ H1 ⟨h0, rfl, s1⟩
    simp (maxSteps := 1000000) only [tFor_eq, Nat.reduceAdd, iList, tSeq, tVar, tAsg, gName, tNil, tLst, List.length_cons, List.length_nil, List.getElem?_cons_zero, List.set_cons_zero, List.set_cons_succ, Option.some.injEq, exists_eq_left', V.ref.injEq]
    refine ⟨by rw [sizeLine_eq]; decide, ?_⟩
    intro p2 n2
    generalize z2 : upd H1 p2 _ = H2
    obtain ⟨s2, e2⟩ := new_same z2 n2
    have ep2 := (s1.trans s2) _ _ ep
    refine ⟨⟨_, SqL.of ep2⟩, for_list (xs := us) (LDT H1 p p2 ds) ⟨none, rfl, n2, s2, e2⟩ ?_ ?_ ?_⟩
    · rintro i σ H3 hi ⟨v2, rfl, _, s3, e3⟩
      exact SqL.of (s3 _ _ (s1 _ _ ep))
    · rintro i x σ H3 hx ⟨v2, rfl, _, s3, e3⟩
      obtain ⟨d, hd', hx'⟩ : ∃ d, ds[i]? = some d ∧ RD N H d x := by
        have hlt : i < ds.length := by rw [pu.length]; exact (List.getElem?_eq_some_iff.mp hx).1
        obtain ⟨x', e', r'⟩ := paired_get pu (List.getElem?_eq_getElem hlt)
        rw [hx] at e'
        cases e'
        exact ⟨_, List.getElem?_eq_getElem hlt, r'⟩
      obtain ⟨t, rfl, _, et⟩ := hx'.same (s1.trans s3)
      have okd := hd.2 d (List.mem_of_getElem? hd')
      have hsum := dT_sum okd
      have e45 : Str.ofString "-" = Sg [45] := S_of _
      simp (maxSteps := 1000000) only [tComp_eq, tBL, HO.lst.injEq, rAppend, List.cons.injEq, exists_and_left, tOp, tVar, tC, gName, tCons, tNil, tCB, tDrop, tTup, List.length_nil, List.getElem?_cons_zero, List.getElem?_cons_succ, List.set_cons_zero, List.set_cons_succ, Option.some.injEq, exists_eq_left', V.ref.injEq, V.str.injEq, and_true, e3, tJoin, iTup, e45]
      refine ⟨⟨_, SqT.of et⟩, grow_tup (SqT.of et) (by rw [sizeLine_eq, List.length_map]; have := okd.1; omega) d (by simp) (fun _ k v => v = .str (Sg (nT k))) (fun _ _ _ _ _ h => h) ?_ ?_⟩
      · rintro D j x k acc H4 hD hx hk s4 eD Nx Y kk
        rw [List.getElem?_map, hk] at hx
        cases hx
        have := okd.2 k (List.mem_of_getElem? hk)
        simp (maxSteps := 1000000) only [tYes, cSt, List.drop_succ_cons, List.drop_zero, List.cons.injEq, if_true, tVar, gName, tCons, tNil, tCB, List.map_nil, List.replicate, List.getElem?_cons_zero, List.set_cons_zero, Option.some.injEq, exists_eq_left', V.int.injEq, exists_const, and_true, true_and, reduceCtorEq, false_and, or_false, List.append_nil, niV, rStrS, nat_eq]
        exact ⟨by omega, kk _ _ (.refl _) fun _ => rfl⟩
      · rintro D vs H4 hD s4 eD pr
        rw [strs_of (H := H) pr] at eD
        obtain ⟨j1, j2, j3⟩ := join_ok (Q := fun v _ => v = .str (Sg (jW 44 (d.map nT)))) (H := H) 44 (d.map nT) (S_of ",") rfl (by omega) rfl
        refine ⟨D, rfl, _, eD, j1, j2, by rw [sizeLine_eq]; decide, ?_⟩
        rw [V.str.inj j3]
        intro p5 n5
        generalize z5 : upd H4 p5 _ = H5
        obtain ⟨s5, e5⟩ := new_same z5 n5
        refine ⟨_, _, dt_ints ((s4.trans s5) _ _ et) (by have := okd.1; omega), Dt.tp e5 .nil, dep_ints d, (by simp [PyData.depth, PyData.depthAll]), ?_⟩
        rw [eqv_nilT]
        refine .inr ⟨_, rfl, ?_⟩
        have e35 := (s4.trans s5) _ _ e3
        have fin : ∀ z : List Nat, jW 44 (d.map nT) ++ z = dT d → z.length ≤ 1 → LDT H1 p p2 ds (i + 1) [some (.ref p), some (.ref p2), some (.ref t)] (upd H5 p2 (.lst (((((ds.take i).map dT).map Sg)).map V.str ++ [.str (Sg (jW 44 (d.map nT) ++ z))]))) := fun z hz _ => by
          refine ⟨_, rfl, n2, ((s3.trans s4).trans s5).upd n2, ?_⟩
          rw [upd_same, hz, List.take_add_one, hd', Option.toList_some, List.map_append, List.map_append, List.map_append]
          rfl
        have hj := jW_len 44 (d.map nT)
        have hlen : (((((ds.take i).map dT).map Sg)).map V.str).length < sizeLine := by
          rw [List.length_map, List.length_map, List.length_map, List.length_take, sizeLine_eq]
          have := hd.1
          omega
        by_cases h1 : d = []
        · subst h1
          rw [decide_eq_true rfl]
          simp (maxSteps := 1000000) only [exists_and_left, if_true, List.map_nil, exists_eq_left', V.int.injEq, V.str.injEq, rMulS]
          refine ⟨by unfold MulOk; decide, ?_⟩
          have em : Txt.mul (Sg [45]) 1 = Sg [45] := by decide
          rw [em]
          exact ⟨jW 44 [], [45], rfl, rfl, by decide, _, e35, hlen, fin [45] (by decide) (by decide)⟩
        · rw [decide_eq_false h1]
          simp (maxSteps := 1000000) only [exists_and_left, if_false, Bool.false_eq_true, exists_eq_left', V.int.injEq, V.str.injEq, rMulS]
          have em : Txt.mul (Sg [45]) 0 = Sg [] := by decide
          rw [em]
          exact ⟨by unfold MulOk; decide, _, [], rfl, rfl, by simp only [List.length_nil]; omega, _, e35, hlen, fin [] (by unfold dT; rw [if_neg h1, List.append_nil]) (by decide)⟩
    · rintro σ H3 ⟨v2, rfl, _, s3, e3⟩
      rw [← pu.length, List.take_length] at e3
      simp (maxSteps := 1000000) only [exists_and_left, tVar, tC, tRet, List.getElem?_cons_zero, List.getElem?_cons_succ, Option.some.injEq, exists_eq_left', V.ref.injEq, V.str.injEq, tJoin]
      have q' := q _ (s1.trans s3)
      unfold dsT at q'
      rw [if_neg h0] at q'
      have hsum := dsT_sum hd
      exact ⟨_, e3, join_ok 47 (ds.map dT) (S_of "/") rfl (by omega) q'⟩
end
end K81
namespace K81
open PySem L2
section
variable {P : Program} {w : World} {K : PySem.W.Frag} {mg : Str → Option Value} {base : Heap} {pd : Addr}
abbrev s__law_rows : Stmt := top 55
theorem sc__law_rows : FnScope ["_law_numbers", "_law_lists", "_law_rows_here", "_law_line", "_law_turn", "_law_one", "_law_other", "_law_price_here", "_law_text_here", "_law_road", "_law_hand", "_law_word", "_law_what"] ["_law_numbers", "_law_lists"] (defScope s__law_rows) := ⟨rfl, rfl, rfl, by decide +kernel, rfl, by decide +kernel, by decide +kernel⟩
theorem cs__law_rows_0 : CScope ["_law_number_here"] [] { kind := .function, names := [(".0", .local), ("_law_number_here", .local), ("str", .globalImplicit)], isGenerator := false, isCoroutine := false, more := [] } (defScope s__law_rows) := ⟨rfl, by decide +kernel, by decide +kernel, by decide +kernel, by decide +kernel, by decide +kernel⟩
def sp_lrows : Sp := fun vs H Q _ => ∃ (pn L l0 l1 l2 l3 : Addr) (ns : List Nat) (n : Nt) (N : Addr → Prop), vs = [.ref pn, .ref L] ∧ H pn = some (.lst (ns.map niV)) ∧ H L = some (.lst [.ref l0, .ref l1, .ref l2, .ref l3]) ∧ NtAt N H n l0 l1 l2 l3 ∧ n.Ok ∧ ns.length = 10 ∧ (∀ k ∈ ns, k < 100000) ∧ ∀ R H', Same H H' → H R = none → H' R = some (.lst (((rowsT ns n).map Sg).map V.str)) → Q (.ref R) H'
def LR (H : Hp) (pn L : Addr) (rows : List (List Nat)) (σ : St) (H' : Hp) : Prop := ∃ R v3 v4 v5 v6 v7 v8 v9 v10 v11 v12, σ = [some (.ref pn), some (.ref L), some (.ref R), v3, v4, v5, v6, v7, v8, v9, v10, v11, v12] ∧ H R = none ∧ Same H H' ∧ H' R = some (.lst ((rows.map Sg).map V.str))
theorem row_at {α : Type} {R : α → V → Prop} {as : List α} {us : List V} {i : Nat} {v : V} (h : Paired R as us) (e : us[i]? = some v) : ∃ a, as[i]? = some a ∧ R a v := by
  have hlt : i < as.length := by rw [h.length]; exact (List.getElem?_eq_some_iff.mp e).1
  obtain ⟨v', e', r⟩ := paired_get h (List.getElem?_eq_getElem hlt)
  rw [e] at e'
  cases e'
  exact ⟨_, List.getElem?_eq_getElem hlt, r⟩
theorem LR.ext {H H3 H4 : Hp} {pn L R : Addr} {rows : List (List Nat)} {x : List Nat} {v3 v4 v5 v6 v7 v8 v9 v10 v11 v12 : Option V} (hR : H R = none) (s3 : Same H H3) (e3 : H3 R = some (.lst ((rows.map Sg).map V.str))) (s4 : Same H3 H4) :
    LR H pn L (rows ++ [x]) [some (.ref pn), some (.ref L), some (.ref R), v3, v4, v5, v6, v7, v8, v9, v10, v11, v12] (upd H4 R (.lst ((rows.map Sg).map V.str ++ [.str (Sg x)]))) := by
  refine ⟨R, v3, v4, v5, v6, v7, v8, v9, v10, v11, v12, rfl, hR, (s3.trans s4).upd hR, ?_⟩
  rw [upd_same, List.map_append, List.map_append]
  rfl
set_option maxHeartbeats 4000000 in
theorem own_lrows (D : Def K mg "_law_rows" s__law_rows) (hb : Blt mg) (F__law_shown : Own P w K mg base 1 "_law_shown" ["_law_number_here"] sp_shown) (F__law_deeds_text : Own P w K mg base 1 "_law_deeds_text" ["_law_deeds_here"] sp_deeds) : Own P w K mg base 2 "_law_rows" ["_law_numbers", "_law_lists"] sp_lrows := by
  refine D.own sc__law_rows (fun _ _ _ _ _ _ us hl => match us, hl with | [_, _], _ => rfl) (fun vs H Q E h => ?_) (fun f cdv A outer s H vs Q E hr h => ?_)
  · obtain ⟨pn, L, l0, l1, l2, l3, ns, n, N, rfl, _⟩ := h
    rfl
  · obtain ⟨pn, L, l0, l1, l2, l3, ns, n, N, rfl, en, eL, at_, ok, hns, hnk, q⟩ := h
    have hu := hr.units
    have hu1 : (A.deeper (PyProof.Rows.envOfC "_law_rows" (defScope s__law_rows) s.heap.objs.size f cdv)).units + 1 < cLine := by omega
    have e32 : Str.ofString " " = Sg [32] := S_of " "
    have few := ok.few
    refine ⟨_, (pss_cons (ps_set (i:=2) sc__law_rows.nd rfl (by first | exact Or.inl rfl | exact Or.inr rfl) (pe_lst (pa_cX (pe_op op_addS pe_str (pe_join pe_str (pe_comp ["_law_number_here"] [] [] rfl cs__law_rows_0 (pi_listK K (pv 0)) (fun _ _ _ _ => (pg_name (i:=0) cs__law_rows_0.nd rfl (by first | exact Or.inl rfl | exact Or.inr rfl))) (fun _ _ _ _ => pf_nil) (fun _ _ _ _ => (pe_callTy call_strS rfl (hb _ (by decide)) bt_str (pa_cX (pv 0) pa_nil)))) (by constructor <;> rfl))) pa_nil))) (pss_cons (ps_for PassesOwn.never rfl (pi_listK K (pe_ix (ix_get hu1) (pv 1) pe_int (fun _ _ => rfl))) (pg_name (i:=3) sc__law_rows.nd rfl (by first | exact Or.inl rfl | exact Or.inr rfl)) (pss_one (ps_expr (pe_lm PySem.F.slot_list_append PySem.F.type_list_append mt_append (pv 2) (pa_cX (pe_op op_addS (pe_op op_addS (pe_op op_addS (pe_op op_addS (pe_op op_addS pe_str (pe_callTy call_strS rfl (hb _ (by decide)) bt_str (pa_cX (pe_ix (ix_get hu1) (pv 3) pe_int (fun _ _ => rfl)) pa_nil))) pe_str) (pe_callTy call_strS rfl (hb _ (by decide)) bt_str (pa_cX (pe_ix (ix_get hu1) (pv 3) pe_int (fun _ _ => rfl)) pa_nil))) pe_str) (pe_fn F__law_shown hr (pa_cX (pe_ix (ix_get hu1) (pv 3) pe_int (fun _ _ => rfl)) pa_nil))) pa_nil))))) (pss_cons (ps_for PassesOwn.never rfl (pi_listK K (pe_ix (ix_get hu1) (pv 1) pe_int (fun _ _ => rfl))) (pg_seqX (n:=4) rfl (pgs_cons (pg_name (i:=4) sc__law_rows.nd rfl (by first | exact Or.inl rfl | exact Or.inr rfl)) (pgs_cons (pg_name (i:=5) sc__law_rows.nd rfl (by first | exact Or.inl rfl | exact Or.inr rfl)) (pgs_cons (pg_name (i:=6) sc__law_rows.nd rfl (by first | exact Or.inl rfl | exact Or.inr rfl)) (pgs_cons (pg_name (i:=7) sc__law_rows.nd rfl (by first | exact Or.inl rfl | exact Or.inr rfl)) pgs_nil))))) (pss_cons (ps_set (i:=8) sc__law_rows.nd rfl (by first | exact Or.inl rfl | exact Or.inr rfl) (pe_op op_addS (pe_op op_addS (pe_op op_addS (pe_op op_addS (pe_op op_addS pe_str (pe_callTy call_strS rfl (hb _ (by decide)) bt_str (pa_cX (pv 4) pa_nil))) pe_str) (pe_callTy call_strS rfl (hb _ (by decide)) bt_str (pa_cX (pv 5) pa_nil))) pe_str) (pe_callTy call_strS rfl (hb _ (by decide)) bt_str (pa_cX (pv 6) pa_nil)))) (pss_one (ps_expr (pe_lm PySem.F.slot_list_append PySem.F.type_list_append mt_append (pv 2) (pa_cX (pe_op op_addS (pe_op op_addS (pv 8) pe_str) (pe_fn F__law_shown hr (pa_cX (pv 7) pa_nil))) pa_nil)))))) (pss_cons (ps_for PassesOwn.never rfl (pi_listK K (pe_ix (ix_get hu1) (pv 1) pe_int (fun _ _ => rfl))) (pg_name (i:=9) sc__law_rows.nd rfl (by first | exact Or.inl rfl | exact Or.inr rfl)) (pss_cons (ps_set (i:=8) sc__law_rows.nd rfl (by first | exact Or.inl rfl | exact Or.inr rfl) (pe_op op_addS (pe_op op_addS (pe_op op_addS pe_str (pe_callTy call_strS rfl (hb _ (by decide)) bt_str (pa_cX (pe_ix (ix_get hu1) (pv 9) pe_int (fun _ _ => rfl)) pa_nil))) pe_str) (pe_callTy call_strS rfl (hb _ (by decide)) bt_str (pa_cX (pe_ix (ix_get hu1) (pv 9) pe_int (fun _ _ => rfl)) pa_nil)))) (pss_one (ps_expr (pe_lm PySem.F.slot_list_append PySem.F.type_list_append mt_append (pv 2) (pa_cX (pe_op op_addS (pe_op op_addS (pv 8) pe_str) (pe_fn F__law_deeds_text hr (pa_cX (pe_ix (ix_get hu1) (pv 9) pe_int (fun _ _ => rfl)) pa_nil))) pa_nil)))))) (pss_cons (ps_for PassesOwn.never rfl (pi_listK K (pe_ix (ix_get hu1) (pv 1) pe_int (fun _ _ => rfl))) (pg_seqX (n:=4) rfl (pgs_cons (pg_name (i:=4) sc__law_rows.nd rfl (by first | exact Or.inl rfl | exact Or.inr rfl)) (pgs_cons (pg_name (i:=10) sc__law_rows.nd rfl (by first | exact Or.inl rfl | exact Or.inr rfl)) (pgs_cons (pg_name (i:=11) sc__law_rows.nd rfl (by first | exact Or.inl rfl | exact Or.inr rfl)) (pgs_cons (pg_name (i:=12) sc__law_rows.nd rfl (by first | exact Or.inl rfl | exact Or.inr rfl)) pgs_nil))))) (pss_cons (ps_set (i:=8) sc__law_rows.nd rfl (by first | exact Or.inl rfl | exact Or.inr rfl) (pe_op op_addS (pe_op op_addS (pe_op op_addS (pe_op op_addS (pe_op op_addS (pe_op op_addS pe_str (pe_callTy call_strS rfl (hb _ (by decide)) bt_str (pa_cX (pv 4) pa_nil))) pe_str) (pe_callTy call_strS rfl (hb _ (by decide)) bt_str (pa_cX (pv 10) pa_nil))) pe_str) (pv 11)) pe_str)) (pss_cons (ps_if (pt_cmpR op_eq (pv 11) pe_str (nomark _)) (pss_one (ps_set (i:=8) sc__law_rows.nd rfl (by first | exact Or.inl rfl | exact Or.inr rfl) (pe_op op_addS (pe_op op_addS (pe_op op_addS (pv 8) (pe_callTy call_strS rfl (hb _ (by decide)) bt_str (pa_cX (pe_ix (ix_get hu1) (pv 12) pe_int (fun _ _ => rfl)) pa_nil))) pe_str) (pe_ix (ix_get hu1) (pv 12) pe_int (fun _ _ => rfl))))) (pss_one (ps_set (i:=8) sc__law_rows.nd rfl (by first | exact Or.inl rfl | exact Or.inr rfl) (pe_op op_addS (pv 8) (pe_callTy call_strS rfl (hb _ (by decide)) bt_str (pa_cX (pv 12) pa_nil)))))) (pss_one (ps_expr (pe_lm PySem.F.slot_list_append PySem.F.type_list_append mt_append (pv 2) (pa_cX (pv 8) pa_nil))))))) (pss_one (ps_ret (pv 2)))))))), ?_⟩
    refine use1 (LR H pn L [rT "measures" (ns.map Fld.n)]) ?_ (fun X hX => ?_)
    rotate_left
    · have ew := S_of "measures "
      simp (maxSteps := 1000000) only [tComp_eq, Nat.reduceSub, Nat.reduceAdd, iList, tSeq, exists_and_left, tOp, tVar, tC, tAsg, gName, tCons, tNil, tLst, L2.start, List.map_cons, List.map_nil, List.length_cons, List.length_nil, List.replicate, List.cons_append, List.nil_append, List.getElem?_cons_zero, List.set_cons_zero, List.set_cons_succ, Option.some.injEq, exists_eq_left', V.ref.injEq, V.str.injEq, ew, tJoin]
      have hsum := sum_le (l := ns.map nT) (k := 5) fun x hx => by
        obtain ⟨k, hk, rfl⟩ := List.mem_map.mp hx
        exact nT_len5 (hnk k hk)
      rw [List.length_map, hns] at hsum
      refine ⟨⟨_, SqL.of en⟩, grow_list (SqL.of en) (by rw [sizeLine_eq, List.length_map]; omega) ns (by simp) (fun _ k v => v = .str (Sg (nT k))) (fun _ _ _ _ _ h => h) ?_ ?_⟩
      · rintro D i x k acc H2 hD hx hk s2 eD Nx Y kk
        rw [List.getElem?_map, hk] at hx
        cases hx
        have := hnk k (List.mem_of_getElem? hk)
        simp (maxSteps := 1000000) only [tYes, cSt, List.drop_succ_cons, List.drop_zero, List.cons.injEq, if_true, tVar, gName, tCons, tNil, tCB, List.map_nil, List.replicate, List.getElem?_cons_zero, List.set_cons_zero, Option.some.injEq, exists_eq_left', V.int.injEq, exists_const, and_true, true_and, reduceCtorEq, false_and, or_false, List.append_nil, niV, rStrS, nat_eq]
        exact ⟨by omega, kk _ _ (.refl _) fun _ => rfl⟩
      · rintro D vs H2 hD s2 eD pr
        rw [strs_of (H := H) pr] at eD
        have hj := jW_len 32 (ns.map nT)
        have h9 : (K81.w "measures ").length = 9 := by decide
        have hne : ns.map Fld.n ≠ [] := by cases ns with | nil => cases hns | cons _ _ => exact fun z => nomatch z
        have hmm : (ns.map Fld.n).map fT = ns.map nT := by rw [List.map_map]; rfl
        obtain ⟨j1, j2, j3⟩ := join_ok (Q := fun v _ => v = .str (Sg (jW 32 (ns.map nT)))) (H := H) 32 (ns.map nT) (S_of " ") rfl (by omega) rfl
        refine ⟨D, rfl, _, eD, j1, j2, K81.w "measures ", jW 32 (ns.map nT), rfl, j3, by omega, by rw [sizeLine_eq]; decide, fun p hp => hX _ _ ⟨p, _, _, _, _, _, _, _, _, _, _, rfl, s2.free hp, s2.upd (s2.free hp), ?_⟩⟩
        rw [upd_same, ← hmm, rT_eq (k := "measures") hne (by decide)]
        rfl
    rintro σ H1 ⟨R, v3, v4, v5, v6, v7, v8, v9, v10, v11, v12, rfl, hR, s1, e1⟩
    refine use1 (LR H pn L ([rT "measures" (ns.map Fld.n)] ++ n.ln.map (rT "line"))) ?_ (fun X hX => ?_)
    rotate_left
    · have hrl : ([rT "measures" (ns.map Fld.n)]).length + n.ln.length ≤ 49 := by
        simp only [List.length_append, List.length_map, List.length_cons, List.length_nil]
        omega
      generalize [rT "measures" (ns.map Fld.n)] = rows0 at e1 hX hrl
      have ew := S_of "line "
      obtain ⟨us, eus0, pus⟩ := at_.ln
      have eus := s1 _ _ eus0
      have eL1 := s1 _ _ eL
      simp (maxSteps := 1000000) only [tFor_eq, rGet, getO_l, atI_0, iList, tSeq, exists_and_left, tOp, tVar, tC, List.getElem?_cons_zero, List.getElem?_cons_succ, Option.some.injEq, exists_eq_left', V.ref.injEq, eL1]
      refine ⟨⟨_, SqL.of eus⟩, for_list (xs := us) (fun i => LR H pn L (rows0 ++ (n.ln.take i).map (rT "line"))) ⟨R, _, _, _, _, _, _, _, _, _, _, rfl, hR, s1, by rw [List.take_zero, List.map_nil, List.append_nil]; exact e1⟩ ?_ ?_ ?_⟩
      · rintro i σ H2 hi ⟨R2, v3, v4, v5, v6, v7, v8, v9, v10, v11, v12, rfl, hR2, s2, e2⟩
        exact SqL.of (s2 _ _ eus0)
      · rintro i vx σ H3 hx ⟨R3, v3, v4, v5, v6, v7, v8, v9, v10, v11, v12, rfl, hR3, s3, e3⟩
        obtain ⟨x, hx', rx⟩ := row_at pus hx
        have rx := rx.same s3
        have hrl3 : (rows0 ++ (n.ln.take i).map (rT "line")).length ≤ 49 := by rw [List.length_append, List.length_map, List.length_take]; omega
        have hnx : rows0 ++ (n.ln.take (i + 1)).map (rT "line") = rows0 ++ (n.ln.take i).map (rT "line") ++ [(rT "line") x] := by rw [List.take_add_one, hx', Option.toList_some, List.map_append, List.append_assoc]; rfl
        rw [hnx]
        generalize rows0 ++ (n.ln.take i).map (rT "line") = rows at e3 hrl3 ⊢
        obtain ⟨⟨a, b, o, rfl⟩, okf⟩ := ok.ln x (List.mem_of_getElem? hx')
        obtain ⟨p, vs, rfl, _, ep, pr⟩ := rx
        obtain ⟨va, vb, vo, rfl, ra, rb, ro⟩ : ∃ va vb vo, vs = [va, vb, vo] ∧ RF N H3 (.n a) va ∧ RF N H3 (.n b) vb ∧ RF N H3 (.o o) vo := by
          cases pr with | cons h1 t => cases t with | cons h2 t => cases t with | cons h3 t => cases t; exact ⟨_, _, _, rfl, h1, h2, h3⟩
        obtain rfl : va = niV a := ra
        obtain rfl : vb = niV b := rb
        obtain rfl : vo = onV o := ro
        have ha : a < 100000 := okf (.n a) (.head _)
        have hb' : b < 100000 := okf (.n b) (.tail _ (.head _))
        have ho : okO o := okf (.o o) (.tail _ (.tail _ (.head _)))
        have l1 := nT_len5 ha
        have l2 := nT_len5 hb'
        have l3 := oT_len ho
        have h5 : (K81.w "line ").length = 5 := by decide
        simp (maxSteps := 1000000) only [tBL, rGet, getO_t, atI_0, atI_1, atI_2, HO.lst.injEq, Nat.reduceAdd, rAppend, List.cons.injEq, exists_and_left, tOp, tVar, tC, gName, tCall, tCons, tNil, tCB, tDrop, List.length_cons, List.length_nil, List.getElem?_cons_zero, List.getElem?_cons_succ, List.set_cons_zero, List.set_cons_succ, Option.some.injEq, exists_eq_left', V.int.injEq, V.ref.injEq, V.str.injEq, exists_const, and_true, reduceCtorEq, false_and, or_false, List.append_nil, e3, ep, rAddS, rStrS, S_eq, nat_eq, ew, e32, niV]
        refine ⟨by omega, (by (try simp only [List.length_append, List.length_cons, List.length_nil]); omega), (by (try simp only [List.length_append, List.length_cons, List.length_nil]); omega), by omega, (by (try simp only [List.length_append, List.length_cons, List.length_nil]); omega), (by (try simp only [List.length_append, List.length_cons, List.length_nil]); omega), o, rfl, ho, fun H4 s4 => ⟨_, rfl, (by (try simp only [List.length_append, List.length_cons, List.length_nil]); omega), _, s4 _ _ e3, (by rw [List.length_map, List.length_map, sizeLine_eq]; omega), ?_⟩⟩
        have et : K81.w "line " ++ nT a ++ [32] ++ nT b ++ [32] ++ oT o = rT "line" [.n a, .n b, .o o] := by
          have : K81.w "line " = K81.w "line" ++ [32] := by decide
          rw [this]
          simp [rT, jW, fT]
        rw [et]
        exact LR.ext hR3 s3 e3 s4
      · rintro σ H3 h3
        rw [← pus.length, List.take_length] at h3
        exact hX _ _ h3
    rintro σ H1 ⟨R, v3, v4, v5, v6, v7, v8, v9, v10, v11, v12, rfl, hR, s1, e1⟩
    refine use1 (LR H pn L ([rT "measures" (ns.map Fld.n)] ++ n.ln.map (rT "line") ++ n.ch.map (rT "change"))) ?_ (fun X hX => ?_)
    rotate_left
    · have hrl : ([rT "measures" (ns.map Fld.n)] ++ n.ln.map (rT "line")).length + n.ch.length ≤ 49 := by
        simp only [List.length_append, List.length_map, List.length_cons, List.length_nil]
        omega
      generalize [rT "measures" (ns.map Fld.n)] ++ n.ln.map (rT "line") = rows0 at e1 hX hrl
      have ew := S_of "change "
      obtain ⟨us, eus0, pus⟩ := at_.ch
      have eus := s1 _ _ eus0
      have eL1 := s1 _ _ eL
      simp (maxSteps := 1000000) only [tFor_eq, rGet, getO_l, atI_1, iList, tSeq, exists_and_left, tOp, tVar, tC, List.getElem?_cons_zero, List.getElem?_cons_succ, Option.some.injEq, exists_eq_left', V.ref.injEq, eL1]
      refine ⟨⟨_, SqL.of eus⟩, for_list (xs := us) (fun i => LR H pn L (rows0 ++ (n.ch.take i).map (rT "change"))) ⟨R, _, _, _, _, _, _, _, _, _, _, rfl, hR, s1, by rw [List.take_zero, List.map_nil, List.append_nil]; exact e1⟩ ?_ ?_ ?_⟩
      · rintro i σ H2 hi ⟨R2, v3, v4, v5, v6, v7, v8, v9, v10, v11, v12, rfl, hR2, s2, e2⟩
        exact SqL.of (s2 _ _ eus0)
      · rintro i vx σ H3 hx ⟨R3, v3, v4, v5, v6, v7, v8, v9, v10, v11, v12, rfl, hR3, s3, e3⟩
        obtain ⟨x, hx', rx⟩ := row_at pus hx
        have rx := rx.same s3
        have hrl3 : (rows0 ++ (n.ch.take i).map (rT "change")).length ≤ 49 := by rw [List.length_append, List.length_map, List.length_take]; omega
        have hnx : rows0 ++ (n.ch.take (i + 1)).map (rT "change") = rows0 ++ (n.ch.take i).map (rT "change") ++ [(rT "change") x] := by rw [List.take_add_one, hx', Option.toList_some, List.map_append, List.append_assoc]; rfl
        rw [hnx]
        generalize rows0 ++ (n.ch.take i).map (rT "change") = rows at e3 hrl3 ⊢
        obtain ⟨⟨c, a, b, o, rfl⟩, okf⟩ := ok.ch x (List.mem_of_getElem? hx')
        obtain ⟨p, vs, rfl, _, ep, pr⟩ := rx
        obtain ⟨vc, va, vb, vo, rfl, rc, ra, rb, ro⟩ : ∃ vc va vb vo, vs = [vc, va, vb, vo] ∧ RF N H3 (.n c) vc ∧ RF N H3 (.n a) va ∧ RF N H3 (.n b) vb ∧ RF N H3 (.o o) vo := by
          cases pr with | cons h0 t => cases t with | cons h1 t => cases t with | cons h2 t => cases t with | cons h3 t => cases t; exact ⟨_, _, _, _, rfl, h0, h1, h2, h3⟩
        obtain rfl : vc = niV c := rc
        obtain rfl : va = niV a := ra
        obtain rfl : vb = niV b := rb
        obtain rfl : vo = onV o := ro
        have hc' : c < 100000 := okf (.n c) (.head _)
        have ha : a < 100000 := okf (.n a) (.tail _ (.head _))
        have hb' : b < 100000 := okf (.n b) (.tail _ (.tail _ (.head _)))
        have ho : okO o := okf (.o o) (.tail _ (.tail _ (.tail _ (.head _))))
        have l0 := nT_len5 hc'
        have l1 := nT_len5 ha
        have l2 := nT_len5 hb'
        have l3 := oT_len ho
        have h7 : (K81.w "change ").length = 7 := by decide
        simp (maxSteps := 1000000) only [gSeqX, tBL, seqO_t, gCons, gNil, HO.lst.injEq, Nat.reduceAdd, rAppend, List.cons.injEq, tSeq, exists_and_left, tOp, tVar, tC, tAsg, gName, tCall, tCons, tNil, tCB, tDrop, List.length_cons, List.length_nil, List.getElem?_cons_zero, List.getElem?_cons_succ, List.set_cons_zero, List.set_cons_succ, Option.some.injEq, exists_eq_left', V.int.injEq, V.ref.injEq, V.str.injEq, exists_const, and_true, true_and, reduceCtorEq, false_and, or_false, and_assoc, List.append_nil, e3, ep, rAddS, rStrS, S_eq, nat_eq, ew, e32, niV]
        refine ⟨by omega, (by (try simp only [List.length_append, List.length_cons, List.length_nil]); omega), (by (try simp only [List.length_append, List.length_cons, List.length_nil]); omega), by omega, (by (try simp only [List.length_append, List.length_cons, List.length_nil]); omega), (by (try simp only [List.length_append, List.length_cons, List.length_nil]); omega), by omega, (by (try simp only [List.length_append, List.length_cons, List.length_nil]); omega), (by (try simp only [List.length_append, List.length_cons, List.length_nil]); omega), o, rfl, ho, fun H4 s4 => ⟨_, rfl, (by (try simp only [List.length_append, List.length_cons, List.length_nil]); omega), _, s4 _ _ e3, (by rw [List.length_map, List.length_map, sizeLine_eq]; omega), ?_⟩⟩
        have et : K81.w "change " ++ nT c ++ [32] ++ nT a ++ [32] ++ nT b ++ [32] ++ oT o = rT "change" [.n c, .n a, .n b, .o o] := by
          have : K81.w "change " = K81.w "change" ++ [32] := by decide
          rw [this]
          simp [rT, jW, fT]
        rw [et]
        exact LR.ext hR3 s3 e3 s4
      · rintro σ H3 h3
        rw [← pus.length, List.take_length] at h3
        exact hX _ _ h3
    rintro σ H1 ⟨R, v3, v4, v5, v6, v7, v8, v9, v10, v11, v12, rfl, hR, s1, e1⟩
    refine use1 (LR H pn L ([rT "measures" (ns.map Fld.n)] ++ n.ln.map (rT "line") ++ n.ch.map (rT "change") ++ n.rd.map (rT "road"))) ?_ (fun X hX => ?_)
    rotate_left
    · have hrl : ([rT "measures" (ns.map Fld.n)] ++ n.ln.map (rT "line") ++ n.ch.map (rT "change")).length + n.rd.length ≤ 49 := by
        simp only [List.length_append, List.length_map, List.length_cons, List.length_nil]
        omega
      generalize [rT "measures" (ns.map Fld.n)] ++ n.ln.map (rT "line") ++ n.ch.map (rT "change") = rows0 at e1 hX hrl
      have ew := S_of "road "
      obtain ⟨us, eus0, pus⟩ := at_.rd
      have eus := s1 _ _ eus0
      have eL1 := s1 _ _ eL
      simp (maxSteps := 1000000) only [tFor_eq, rGet, getO_l, atI_2, iList, tSeq, exists_and_left, tOp, tVar, tC, List.getElem?_cons_zero, List.getElem?_cons_succ, Option.some.injEq, exists_eq_left', V.ref.injEq, eL1]
      refine ⟨⟨_, SqL.of eus⟩, for_list (xs := us) (fun i => LR H pn L (rows0 ++ (n.rd.take i).map (rT "road"))) ⟨R, _, _, _, _, _, _, _, _, _, _, rfl, hR, s1, by rw [List.take_zero, List.map_nil, List.append_nil]; exact e1⟩ ?_ ?_ ?_⟩
      · rintro i σ H2 hi ⟨R2, v3, v4, v5, v6, v7, v8, v9, v10, v11, v12, rfl, hR2, s2, e2⟩
        exact SqL.of (s2 _ _ eus0)
      · rintro i vx σ H3 hx ⟨R3, v3, v4, v5, v6, v7, v8, v9, v10, v11, v12, rfl, hR3, s3, e3⟩
        obtain ⟨x, hx', rx⟩ := row_at pus hx
        have rx := rx.same s3
        have hrl3 : (rows0 ++ (n.rd.take i).map (rT "road")).length ≤ 49 := by rw [List.length_append, List.length_map, List.length_take]; omega
        have hnx : rows0 ++ (n.rd.take (i + 1)).map (rT "road") = rows0 ++ (n.rd.take i).map (rT "road") ++ [(rT "road") x] := by rw [List.take_add_one, hx', Option.toList_some, List.map_append, List.append_assoc]; rfl
        rw [hnx]
        generalize rows0 ++ (n.rd.take i).map (rT "road") = rows at e3 hrl3 ⊢
        obtain ⟨⟨a, b, d, rfl⟩, okf⟩ := ok.rd x (List.mem_of_getElem? hx')
        obtain ⟨p, vs, rfl, _, ep, pr⟩ := rx
        obtain ⟨va, vb, vd, rfl, ra, rb, rd⟩ : ∃ va vb vd, vs = [va, vb, vd] ∧ RF N H3 (.n a) va ∧ RF N H3 (.n b) vb ∧ RF N H3 (.ds d) vd := by
          cases pr with | cons h1 t => cases t with | cons h2 t => cases t with | cons h3 t => cases t; exact ⟨_, _, _, rfl, h1, h2, h3⟩
        obtain rfl : va = niV a := ra
        obtain rfl : vb = niV b := rb
        have ha : a < 100000 := okf (.n a) (.head _)
        have hb' : b < 100000 := okf (.n b) (.tail _ (.head _))
        have hd : okDs d := okf (.ds d) (.tail _ (.tail _ (.head _)))
        have l1 := nT_len5 ha
        have l2 := nT_len5 hb'
        have l3 := dsT_len hd
        have h5 : (K81.w "road ").length = 5 := by decide
        simp (maxSteps := 1000000) only [tBL, rGet, getO_t, atI_0, atI_1, atI_2, HO.lst.injEq, Nat.reduceAdd, rAppend, List.cons.injEq, tSeq, exists_and_left, tOp, tVar, tC, tAsg, gName, tCall, tCons, tNil, tCB, tDrop, List.length_cons, List.length_nil, List.getElem?_cons_zero, List.getElem?_cons_succ, List.set_cons_zero, List.set_cons_succ, Option.some.injEq, exists_eq_left', V.int.injEq, V.ref.injEq, V.str.injEq, exists_const, and_true, reduceCtorEq, false_and, or_false, List.append_nil, e3, ep, rAddS, rStrS, S_eq, nat_eq, ew, e32, niV]
        refine ⟨by omega, (by (try simp only [List.length_append, List.length_cons, List.length_nil]); omega), (by (try simp only [List.length_append, List.length_cons, List.length_nil]); omega), by omega, (by (try simp only [List.length_append, List.length_cons, List.length_nil]); omega), (by (try simp only [List.length_append, List.length_cons, List.length_nil]); omega), vd, d, N, rfl, rd, hd, fun H4 s4 => ⟨_, rfl, (by (try simp only [List.length_append, List.length_cons, List.length_nil]); omega), _, s4 _ _ e3, (by rw [List.length_map, List.length_map, sizeLine_eq]; omega), ?_⟩⟩
        have et : K81.w "road " ++ nT a ++ [32] ++ nT b ++ [32] ++ dsT d = rT "road" [.n a, .n b, .ds d] := by
          have : K81.w "road " = K81.w "road" ++ [32] := by decide
          rw [this]
          simp [rT, jW, fT]
        rw [et]
        exact LR.ext hR3 s3 e3 s4
      · rintro σ H3 h3
        rw [← pus.length, List.take_length] at h3
        exact hX _ _ h3
    rintro σ H1 ⟨R, v3, v4, v5, v6, v7, v8, v9, v10, v11, v12, rfl, hR, s1, e1⟩
    refine use1 (LR H pn L ([rT "measures" (ns.map Fld.n)] ++ n.ln.map (rT "line") ++ n.ch.map (rT "change") ++ n.rd.map (rT "road") ++ n.ws.map wT)) ?_ (fun X hX => ?_)
    rotate_left
    · have hrl : ([rT "measures" (ns.map Fld.n)] ++ n.ln.map (rT "line") ++ n.ch.map (rT "change") ++ n.rd.map (rT "road")).length + n.ws.length ≤ 49 := by
        simp only [List.length_append, List.length_map, List.length_cons, List.length_nil]
        omega
      generalize [rT "measures" (ns.map Fld.n)] ++ n.ln.map (rT "line") ++ n.ch.map (rT "change") ++ n.rd.map (rT "road") = rows0 at e1 hX hrl
      have ew := S_of "wish "
      obtain ⟨us, eus0, pus⟩ := at_.ws
      have eus := s1 _ _ eus0
      have eL1 := s1 _ _ eL
      simp (maxSteps := 1000000) only [tFor_eq, rGet, getO_l, atI_3, iList, tSeq, exists_and_left, tOp, tVar, tC, List.getElem?_cons_zero, List.getElem?_cons_succ, Option.some.injEq, exists_eq_left', V.ref.injEq, eL1]
      refine ⟨⟨_, SqL.of eus⟩, for_list (xs := us) (fun i => LR H pn L (rows0 ++ (n.ws.take i).map wT)) ⟨R, _, _, _, _, _, _, _, _, _, _, rfl, hR, s1, by rw [List.take_zero, List.map_nil, List.append_nil]; exact e1⟩ ?_ ?_ ?_⟩
      · rintro i σ H2 hi ⟨R2, v3, v4, v5, v6, v7, v8, v9, v10, v11, v12, rfl, hR2, s2, e2⟩
        exact SqL.of (s2 _ _ eus0)
      · rintro i vx σ H3 hx ⟨R3, v3, v4, v5, v6, v7, v8, v9, v10, v11, v12, rfl, hR3, s3, e3⟩
        obtain ⟨x, hx', rx⟩ := row_at pus hx
        have rx := rx.same s3
        have hrl3 : (rows0 ++ (n.ws.take i).map wT).length ≤ 49 := by rw [List.length_append, List.length_map, List.length_take]; omega
        have hnx : rows0 ++ (n.ws.take (i + 1)).map wT = rows0 ++ (n.ws.take i).map wT ++ [wT x] := by rw [List.take_add_one, hx', Option.toList_some, List.map_append, List.append_assoc]; rfl
        rw [hnx]
        generalize rows0 ++ (n.ws.take i).map wT = rows at e3 hrl3 ⊢
        have hy := ok.ws x (List.mem_of_getElem? hx')
        obtain ⟨p, u, rfl, _, ep, pr⟩ := rx
        have l1 := nT_len5 hy.1
        have l2 := nT_len5 hy.2.1
        have l3 := wd_len hy.2.2
        have l4 := words_sum hy.2.2
        have h5 : (K81.w "wish ").length = 5 := by decide
        have eput := S_put
        obtain ⟨xt, xh, xx⟩ := x
        dsimp only at hy ep pr l1 l2 l3 l4 hx' ⊢
        have hy1 : xt < 100000 := hy.1
        have hy2 : xh < 100000 := hy.2.1
        refine ⟨p, _, _, rfl, ep, rfl, rfl, ?_⟩
        simp only [gCons, gNil, gName, List.set_cons_zero, List.set_cons_succ]
        refine ⟨_, _, rfl, _, _, rfl, _, _, rfl, _, _, rfl, rfl, ?_⟩
        have ejw : K81.w "wish " ++ nT xt ++ [32] ++ nT xh ++ [32] ++ xx.wd ++ [32] = jW 32 [K81.w "wish", nT xt, nT xh, xx.wd] ++ [32] := by
          have : K81.w "wish " = K81.w "wish" ++ [32] := by decide
          rw [this]
          simp [jW]
        have hjl : (jW 32 [K81.w "wish", nT xt, nT xh, xx.wd] ++ [32]).length ≤ 30 := by
          rw [← ejw]
          simp only [List.length_append, List.length_cons, List.length_nil]
          omega
        refine use1 (fun σ H' => H' = H3 ∧ σ = [some (.ref pn), some (.ref L), some (.ref R3), v3, some (niV xt), v5, v6, v7, some (.str (Sg (jW 32 [K81.w "wish", nT xt, nT xh, xx.wd] ++ [32]))), v9, some (niV xh), some (.str (Sg xx.wd)), some u]) ?_ (fun X hX => ?_)
        rotate_left
        · have hX' := hX _ _ ⟨rfl, rfl⟩
          rw [← ejw] at hX'
          simp (maxSteps := 1000000) only [Nat.reduceAdd, List.cons.injEq, tSeq, exists_and_left, tOp, tVar, tC, tAsg, gName, tCons, tNil, tCB, List.length_cons, List.length_nil, List.getElem?_cons_zero, List.getElem?_cons_succ, List.set_cons_zero, List.set_cons_succ, Option.some.injEq, exists_eq_left', V.int.injEq, V.str.injEq, exists_const, and_true, reduceCtorEq, false_and, or_false, rAddS, rStrS, S_eq, nat_eq, ew, e32, niV]
          exact ⟨by omega, (by (try simp only [List.length_append, List.length_cons, List.length_nil]); omega), (by (try simp only [List.length_append, List.length_cons, List.length_nil]); omega), by omega, (by (try simp only [List.length_append, List.length_cons, List.length_nil]); omega), (by (try simp only [List.length_append, List.length_cons, List.length_nil]); omega), (by (try simp only [List.length_append, List.length_cons, List.length_nil]); omega), (by (try simp only [List.length_append, List.length_cons, List.length_nil]); omega), hX'⟩
        rintro σ H4 ⟨rfl, rfl⟩
        generalize ejj : jW 32 [K81.w "wish", nT xt, nT xh, xx.wd] ++ [32] = jj at hjl ⊢
        cases xx with
        | put k z =>
          obtain ⟨pq, rfl, _, epq⟩ := pr
          have hk : k < 100000 := hy.2.2.1
          have hz : z.length ≤ 100 := hy.2.2.2.2.1
          have l5 := nT_len5 hk
          have et : jj ++ nT k ++ [32] ++ z = wT ⟨xt, xh, .put k z⟩ := by
            rw [← ejj]
            simp [wT, Wt.words, Wt.wd, Wt.fs, jW, fT]
          simp (maxSteps := 1000000) only [rEq_ss, tBL, rGet, getO_t, atI_0, atI_1, HO.lst.injEq, Nat.reduceAdd, decide_true, rAppend, List.cons.injEq, tSeq, exists_and_left, if_true, tIfS, tTest, tOp, tVar, tC, tAsg, gName, tCons, tNil, tCB, tDrop, List.length_cons, List.length_nil, List.getElem?_cons_zero, List.getElem?_cons_succ, List.set_cons_zero, List.set_cons_succ, Option.some.injEq, exists_eq_left', V.int.injEq, V.bl.injEq, V.ref.injEq, V.str.injEq, exists_const, and_true, reduceCtorEq, false_and, or_false, e3, epq, rAddS, rStrS, S_eq, nat_eq, e32, niV, Wt.wd, eput]
          refine ⟨by omega, (by (try simp only [List.length_append, List.length_cons, List.length_nil]); omega), (by (try simp only [List.length_append, List.length_cons, List.length_nil]); omega), (by (try simp only [List.length_append, List.length_cons, List.length_nil]); omega), (by rw [List.length_map, List.length_map, sizeLine_eq]; omega), ?_⟩
          rw [et]
          exact LR.ext hR3 s3 e3 (.refl _)
        | one v g =>
          have hne := one_put hy.2.2
          have et : ∀ z, fT g = z → jj ++ z = wT ⟨xt, xh, .one v g⟩ := fun z hz => by
            rw [← ejj]
            simp [wT, Wt.words, Wt.wd, Wt.fs, jW, hz]
          rcases hy.2.2 with ⟨_, k, rfl, hk⟩ | ⟨_, z, rfl, hz⟩
          · obtain rfl : u = niV k := pr
            have l5 := nT_len5 hk
            simp (maxSteps := 1000000) only [rEq_ss, tBL, rGet, HO.lst.injEq, Nat.reduceAdd, decide_false, rAppend, List.cons.injEq, tSeq, exists_and_left, if_false, Bool.false_eq_true, tIfS, tTest, tOp, tVar, tC, tAsg, gName, tCons, tNil, tCB, tDrop, List.length_cons, List.length_nil, List.getElem?_cons_zero, List.getElem?_cons_succ, List.set_cons_zero, List.set_cons_succ, Option.some.injEq, exists_eq_left', V.int.injEq, V.bl.injEq, V.ref.injEq, V.str.injEq, exists_const, and_true, reduceCtorEq, false_and, or_false, e3, rAddS, rStrS, S_eq, nat_eq, e32, niV, Wt.wd, eput, hne]
            refine ⟨by omega, (by (try simp only [List.length_append, List.length_cons, List.length_nil]); omega), (by rw [List.length_map, List.length_map, sizeLine_eq]; omega), ?_⟩
            rw [et (nT k) rfl]
            exact LR.ext hR3 s3 e3 (.refl _)
          · obtain rfl : u = .str (Sg z) := pr
            have l5 := hz.2.1
            simp (maxSteps := 1000000) only [rEq_ss, tBL, rGet, HO.lst.injEq, Nat.reduceAdd, decide_false, rAppend, List.cons.injEq, tSeq, exists_and_left, if_false, Bool.false_eq_true, tIfS, tTest, tOp, tVar, tC, tAsg, gName, tCons, tNil, tCB, tDrop, List.length_cons, List.length_nil, List.getElem?_cons_zero, List.getElem?_cons_succ, List.set_cons_zero, List.set_cons_succ, Option.some.injEq, exists_eq_left', V.bl.injEq, V.ref.injEq, V.str.injEq, exists_const, and_true, reduceCtorEq, false_and, or_false, false_or, e3, rAddS, rStrS, S_eq, e32, niV, Wt.wd, eput, hne]
            refine ⟨(by (try simp only [List.length_append, List.length_cons, List.length_nil]); omega), (by rw [List.length_map, List.length_map, sizeLine_eq]; omega), ?_⟩
            rw [et z rfl]
            exact LR.ext hR3 s3 e3 (.refl _)
      · rintro σ H3 h3
        rw [← pus.length, List.take_length] at h3
        exact hX _ _ h3
    rintro σ H1 ⟨R, v3, v4, v5, v6, v7, v8, v9, v10, v11, v12, rfl, hR, s1, e1⟩
    simp (maxSteps := 1000000) only [tVar, tRet, List.getElem?_cons_zero, List.getElem?_cons_succ, Option.some.injEq, exists_eq_left']
    exact q R H1 s1 hR e1
end
end K81
namespace K81
open PySem L2
def dO : Option Nat → PyData
  | none => .none
  | some n => .int (n : Int)
def dF : Fld → PyData
  | .n k => .int (k : Int)
  | .o p => dO p
  | .ds d => .list (d.map fun x => .tuple (x.map niD))
  | .nm s => .str (Sg s)
  | .sg s => .str (Sg s)
def dW : Wt → PyData
  | .one _ f => dF f
  | .put k s => .tuple [.int (k : Int), .str (Sg s)]
def dWs (s : Ws) : PyData := .tuple [.int (s.t : Int), .int (s.h : Int), .str (Sg s.x.wd), dW s.x]
def dR (fs : List Fld) : PyData := .tuple (fs.map dF)
def dN (n : Nt) : PyData := .list [.list (n.ln.map dR), .list (n.ch.map dR), .list (n.rd.map dR), .list (n.ws.map dWs)]
theorem ok_Sg {l : List Nat} (h : ∀ c ∈ l, c ≤ 126) : PyData.strOk (Sg l) = true := by
  unfold PyData.strOk Sg
  rw [Array.all_eq_true_iff_forall_mem]
  intro c hc
  exact decide_eq_true (by have := h c (by simpa using hc); omega)
theorem dts_map {α : Type} {H : Hp} {R : α → V → Prop} {f : α → PyData} : ∀ {l : List α} {us : List V}, Paired R l us → (∀ a v, a ∈ l → R a v → Dt H v (f a)) → Dts H us (l.map f)
  | _, _, .nil, _ => .nil
  | _, _, .cons h t, hf => .cons (hf _ _ (.head _) h) (dts_map t fun a v m => hf a v (.tail _ m))
section
variable {N : Addr → Prop} {H : Hp}
theorem RD.dt {d : List Nat} {v : V} (h : RD N H d v) (hl : okD d) : Dt H v (.tuple (d.map niD)) := by
  obtain ⟨t, rfl, _, e⟩ := h
  exact dt_ints e (by have := hl.1; omega)
theorem RF.dt : ∀ {f : Fld} {v : V}, RF N H f v → f.Ok → Dt H v (dF f)
  | .n k, _, h, _ => by rw [show _ = niV k from h]; exact (Im.int _).dt
  | .o none, _, h, _ => by rw [show _ = V.non from h]; exact Im.non.dt
  | .o (some k), _, h, _ => by rw [show _ = niV k from h]; exact (Im.int _).dt
  | .ds d, _, ⟨q, us, e, _, h, p⟩, ok => by rw [e]; exact .ls h (dts_map p fun a v m r => r.dt (ok.2 a m))
  | .nm s, _, h, ok => by rw [show _ = V.str (Sg s) from h]; exact (Im.str (ok_Sg fun c hc => by have := ok.2.2 c hc; omega)).dt
  | .sg s, _, h, ok => by rw [show _ = V.str (Sg s) from h]; exact (Im.str (ok_Sg fun c hc => by have := ok.2.2 c hc; omega)).dt
theorem RR.dt {fs : List Fld} {v : V} (h : RR N H fs v) (ok : okF fs) : Dt H v (dR fs) := by
  obtain ⟨p, us, rfl, _, e, q⟩ := h
  exact .tp e (dts_map q fun a v m r => r.dt (ok a m))
theorem wd_pr {x : Wt} (h : x.Ok) : ∀ c ∈ x.wd, c ≤ 126 := fun c hc => (pr_wd h c hc).2
theorem RWt.dt : ∀ {x : Wt} {v : V}, RWt N H x v → x.Ok → Dt H v (dW x)
  | .one u f, _, h, ok => RF.dt h (by
      rcases ok with ⟨_, k, rfl, hk⟩ | ⟨_, z, rfl, hz⟩
      · exact hk
      · exact hz)
  | .put k s, _, ⟨q, e, _, h⟩, ok => by rw [e]; exact .tp h (.cons (Im.int _).dt (.cons (Im.str (ok_Sg fun c hc => by have := ok.2.2.2 c hc; omega)).dt .nil))
theorem RWs.dt {s : Ws} {v : V} (h : RWs N H s v) (ok : s.Ok) : Dt H v (dWs s) := by
  obtain ⟨p, u, rfl, _, e, r⟩ := h
  exact .tp e (.cons (Im.int _).dt (.cons (Im.int _).dt (.cons (Im.str (ok_Sg (wd_pr ok.2.2))).dt (.cons (r.dt ok.2.2) .nil))))
theorem NtAt.dts {n : Nt} {l0 l1 l2 l3 : Addr} (h : NtAt N H n l0 l1 l2 l3) (ok : n.Ok) : Dts H [.ref l0, .ref l1, .ref l2, .ref l3] [.list (n.ln.map dR), .list (n.ch.map dR), .list (n.rd.map dR), .list (n.ws.map dWs)] := by
  obtain ⟨u0, e0, p0⟩ := h.ln
  obtain ⟨u1, e1, p1⟩ := h.ch
  obtain ⟨u2, e2, p2⟩ := h.rd
  obtain ⟨u3, e3, p3⟩ := h.ws
  exact .cons (.ls e0 (dts_map p0 fun a v m r => r.dt (ok.ln a m).2)) (.cons (.ls e1 (dts_map p1 fun a v m r => r.dt (ok.ch a m).2)) (.cons (.ls e2 (dts_map p2 fun a v m r => r.dt (ok.rd a m).2)) (.cons (.ls e3 (dts_map p3 fun a v m r => r.dt (ok.ws a m))) .nil)))
theorem NtAt.dt {n : Nt} {l0 l1 l2 l3 L : Addr} (h : NtAt N H n l0 l1 l2 l3) (ok : n.Ok) (e : H L = some (.lst [.ref l0, .ref l1, .ref l2, .ref l3])) : Dt H (.ref L) (dN n) := .ls e (h.dts ok)
end
theorem dep_l {k : Nat} {ds : List PyData} (h : ∀ d ∈ ds, d.depth ≤ k) : (PyData.list ds).depth ≤ k + 1 := by
  have := depthAll_le h
  rw [PyData.depth]
  omega
theorem dep_t {k : Nat} {ds : List PyData} (h : ∀ d ∈ ds, d.depth ≤ k) : (PyData.tuple ds).depth ≤ k + 1 := by
  have := depthAll_le h
  rw [PyData.depth]
  omega
theorem dep_m {α : Type} {f : α → PyData} {k : Nat} (h : ∀ a, (f a).depth ≤ k) (l : List α) : ∀ d ∈ l.map f, d.depth ≤ k := fun d hd => by
  obtain ⟨a, _, rfl⟩ := List.mem_map.mp hd
  exact h a
theorem dep_F (f : Fld) : (dF f).depth ≤ 3 := by
  cases f with
  | n k => simp [dF, PyData.depth]
  | o p => cases p <;> simp [dF, dO, PyData.depth]
  | ds d => exact dep_l (dep_m (fun x => dep_t (k := 1) (dep_m (fun y => by simp [niD, PyData.depth]) x)) d)
  | nm s => simp [dF, PyData.depth]
  | sg s => simp [dF, PyData.depth]
theorem dep_W (x : Wt) : (dW x).depth ≤ 3 := by
  cases x with
  | one v f => exact dep_F f
  | put k s => simp [dW, PyData.depth, PyData.depthAll]
theorem dep_Ws (s : Ws) : (dWs s).depth ≤ 4 := dep_t fun d hd => by
  simp only [List.mem_cons, List.not_mem_nil, or_false] at hd
  rcases hd with rfl | rfl | rfl | rfl
  · simp [PyData.depth]
  · simp [PyData.depth]
  · simp [PyData.depth]
  · exact dep_W _
theorem dep_N (n : Nt) : (dN n).depth ≤ 60 := by
  have : (dN n).depth ≤ 6 := dep_l fun d hd => by
    simp only [List.mem_cons, List.not_mem_nil, or_false] at hd
    rcases hd with rfl | rfl | rfl | rfl
    · exact dep_l (dep_m (fun r => dep_t (k := 3) (dep_m dep_F r)) _)
    · exact dep_l (dep_m (fun r => dep_t (k := 3) (dep_m dep_F r)) _)
    · exact dep_l (dep_m (fun r => dep_t (k := 3) (dep_m dep_F r)) _)
    · exact dep_l (dep_m dep_Ws _)
  omega
end K81
namespace K81
open PySem L2
section
variable {P : Program} {w : World} {K : PySem.W.Frag} {mg : Str → Option Value} {base : Heap} {C : Addr}
abbrev s_law : Stmt := top 56
theorem sc_law : FnScope ["_law_script", "_law_numbers", "_law_a", "_law_b", "_law_c", "_law_d", "_law_e", "_law_f", "_law_g", "_law_h", "_law_i", "_law_j", "_law_measures_here", "_law_lists", "_law_text_here", "_law_found", "_law_one"] ["_law_script"] (defScope s_law) := ⟨rfl, rfl, rfl, by decide +kernel, rfl, by decide +kernel, by decide +kernel⟩
def sp_law (K : PySem.W.Frag) : Sp := fun vs H Q _ => ∃ (a : Addr) (ns : List Int), vs = [.ref a] ∧ SqL K H a (ns.map V.int) ∧ ns.length ≤ 63 ∧ ∀ H', Q (.bl true) H'
structure MI (K : PySem.W.Frag) (C : Addr) : Prop where
  a : PySem.W.findIn K (.ref C) "__class__" = some (some (.builtin "object.__class__"))
  n : PySem.W.specialIn K (.builtin "object.__class__") "__get__" = some (some (.builtin "getset_descriptor.__get__"))
  t : PySem.W.takesIn K (.builtin "object.__class__") = some true
  m : PySem.W.mroIn K C (.type "object") = some true
  k : PySem.W.kitOne K (.ref C) (.ref C) = some true
abbrev lσ (sc : Addr) (v1 a0 a1 a2 a3 a4 a5 a6 a7 a8 a9 v12 v13 v14 v15 v16 : Option V) : St := [some (.ref sc), v1, a0, a1, a2, a3, a4, a5, a6, a7, a8, a9, v12, v13, v14, v15, v16]
def LA1 (sc : Addr) (H : Hp) (σ : St) (H' : Hp) : Prop := ∃ (pn : Addr) (ns : List Nat), σ = lσ sc (some (.ref pn)) none none none none none none none none none none none none none none none ∧ Same H H' ∧ H' pn = some (.lst (ns.map niV)) ∧ inB (ns.map Int.ofNat)
def LA2 (C sc : Addr) (H : Hp) (σ : St) (H' : Hp) : Prop := ∃ (pn x dx : Addr) (ns : List Nat) (m : Ms) (a0 a1 a2 a3 a4 a5 a6 a7 a8 a9 : V), σ = lσ sc (some (.ref pn)) (some a0) (some a1) (some a2) (some a3) (some a4) (some a5) (some a6) (some a7) (some a8) (some a9) (some (.ref x)) none none none none ∧ Same H H' ∧ H' pn = some (.lst (ns.map niV)) ∧ inB m.l ∧ msOk ns m ∧ H' x = some (.ins C dx (fsM m))
structure Hv (C pn x dx L l0 l1 l2 l3 : Addr) (ns : List Nat) (m : Ms) (n : Nt) (H' : Hp) : Prop where
  pn : H' pn = some (.lst (ns.map niV))
  ib : inB m.l
  mo : msOk ns m
  ex : H' x = some (.ins C dx (fsM m))
  eL : H' L = some (.lst [.ref l0, .ref l1, .ref l2, .ref l3])
  h4 : L4 H' l0 l1 l2 l3
  at_ : NtAt (fun b => H' b ≠ none) H' n l0 l1 l2 l3
  ok : n.Ok
def LA3 (C sc : Addr) (σ : St) (H' : Hp) : Prop := ∃ (pn x dx L l0 l1 l2 l3 : Addr) (ns : List Nat) (m : Ms) (n : Nt) (a0 a1 a2 a3 a4 a5 a6 a7 a8 a9 : V), σ = lσ sc (some (.ref pn)) (some a0) (some a1) (some a2) (some a3) (some a4) (some a5) (some a6) (some a7) (some a8) (some a9) (some (.ref x)) (some (.ref L)) none none none ∧ Hv C pn x dx L l0 l1 l2 l3 ns m n H'
theorem inB_lt {ns : List Nat} (h : inB (ns.map Int.ofNat)) : ns.length = 10 ∧ ∀ k ∈ ns, k < 100000 := by
  have hl := h.1
  rw [List.length_map] at hl
  refine ⟨hl, fun k hk => ?_⟩
  obtain ⟨i, hi⟩ := List.mem_iff_getElem?.mp hk
  have hlt : i < bds.length := by
    have := (List.getElem?_eq_some_iff.mp hi).1
    have h10 : bds.length = 10 := rfl
    omega
  have h2 := (h.2 i (Int.ofNat k) bds[i] (by rw [List.getElem?_map, hi]; rfl) (List.getElem?_eq_getElem hlt)).2
  have hb : ∀ b ∈ bds, b.2.2 ≤ 10000 := by decide
  have h3 := hb _ (List.getElem_mem hlt)
  have : ((k : Nat) : Int) ≤ 10000 := Int.le_trans h2 h3
  omega
theorem ms_of {ns : List Nat} (h : ns.length = 10) : ∃ m : Ms, m.l = ns.map Int.ofNat := by
  obtain ⟨a0, a1, a2, a3, a4, a5, a6, a7, a8, a9, rfl⟩ := ten h
  exact ⟨⟨a0, a1, a2, a3, a4, a5, a6, a7, a8, a9⟩, rfl⟩
theorem L4.same {H H' : Hp} {l0 l1 l2 l3 : Addr} (h : L4 H l0 l1 l2 l3) (s : Same H H') : L4 H' l0 l1 l2 l3 := by
  have up : ∀ b, H b ≠ none → H' b ≠ none := fun b hb => by
    cases e : H b with
    | none => exact absurd e hb
    | some o => rw [s _ _ e]; exact fun z => nomatch z
  exact ⟨h.a, h.b, h.c, h.d, h.e, h.f, up _ h.i0, up _ h.i1, up _ h.i2, up _ h.i3⟩
theorem Hv.same {C pn x dx L l0 l1 l2 l3 : Addr} {ns : List Nat} {m : Ms} {n : Nt} {H H' : Hp} (h : Hv C pn x dx L l0 l1 l2 l3 ns m n H) (s : Same H H') : Hv C pn x dx L l0 l1 l2 l3 ns m n H' :=
  ⟨s _ _ h.pn, h.ib, h.mo, s _ _ h.ex, s _ _ h.eL, h.h4.same s, (h.at_.same s).pres, h.ok⟩
def LA4 (C sc : Addr) (σ : St) (H' : Hp) : Prop := ∃ (pn x dx L l0 l1 l2 l3 : Addr) (ns : List Nat) (m : Ms) (n : Nt) (a0 a1 a2 a3 a4 a5 a6 a7 a8 a9 : V), σ = lσ sc (some (.ref pn)) (some a0) (some a1) (some a2) (some a3) (some a4) (some a5) (some a6) (some a7) (some a8) (some a9) (some (.ref x)) (some (.ref L)) (some (.str (Sg (jW 10 (rowsT ns n))))) none none ∧ Hv C pn x dx L l0 l1 l2 l3 ns m n H'
def LA5 (C sc pn x dx L l0 l1 l2 l3 : Addr) (ns : List Nat) (m : Ms) (n : Nt) (a0 a1 a2 a3 a4 a5 a6 a7 a8 a9 : V) (H4 : Hp) (p x' dx' : Addr) (q : Nat → Addr) (σ : St) (H' : Hp) : Prop := σ = lσ sc (some (.ref pn)) (some a0) (some a1) (some a2) (some a3) (some a4) (some a5) (some a6) (some a7) (some a8) (some a9) (some (.ref x)) (some (.ref L)) (some (.str (Sg (jW 10 (rowsT ns n))))) (some (.ref p)) none ∧ Hv C pn x dx L l0 l1 l2 l3 ns m n H' ∧ Got C H4 m n p x' dx' q H'
theorem Got.later {C : Addr} {H H' H2 : Hp} {m : Ms} {n : Nt} {p x dx : Addr} {q : Nat → Addr} (g : Got C H m n p x dx q H') (s : Same H' H2) : Got C H m n p x dx q H2 :=
  ⟨g.s.trans s, s _ _ g.ep, s _ _ g.ex, g.n.same s, g.new, g.np, g.nx, g.d⟩
theorem dt_nums {H : Hp} {p : Addr} {ns : List Nat} (e : H p = some (.lst (ns.map niV))) : Dt H (.ref p) (.list (ns.map niD)) := by
  refine .ls e ?_
  clear e
  induction ns with
  | nil => exact .nil
  | cons k d ih => exact .cons (Im.int _).dt ih
theorem cut_t1 {a b c d e : V} : cutV [a, b, c, d, e] (some 1) none = [b, c, d, e] := cut_1
def LC (C sc pn x dx L l0 l1 l2 l3 : Addr) (ns : List Nat) (m : Ms) (n : Nt) (a0 a1 a2 a3 a4 a5 a6 a7 a8 a9 : V) (H5 : Hp) (p : Addr) (q : Nat → Addr) (i : Nat) (σ : St) (H' : Hp) : Prop := ∃ v16, σ = lσ sc (some (.ref pn)) (some a0) (some a1) (some a2) (some a3) (some a4) (some a5) (some a6) (some a7) (some a8) (some a9) (some (.ref x)) (some (.ref L)) (some (.str (Sg (jW 10 (rowsT ns n))))) (some (.ref p)) v16 ∧ Keep [q 0, q 1, q 2, q 3] H5 H' ∧ ∀ j, j < 4 → ∃ us, H' (q j) = some (.lst us)
set_option maxHeartbeats 8000000 in
theorem law_fn {f : Addr} {fd : FuncData} (F : Fun K "law" "law" s_law f fd) (hb : Blt mg) (hsum : mg "sum" = none) (T_Measures : ClsD K mg "Measures" C at_Measures) (mi : MI K C) (I_Measures : OwnI P w K mg base 4 C ["self", "hands", "lag", "miss", "raise_each", "count", "room", "places", "window", "wait", "keep"] (sp_minit C)) (M_Measures_numbers : OwnM P w K mg base 1 C "numbers" ["self"] (sp_mnum C))
    (F__law_draw : Own P w K mg base 1 "_law_draw" ["_law_cell"] sp_draw) (F__law_measures : Own P w K mg base 2 "_law_measures" ["_law_draw_here"] sp_lms) (F__law_net : Own P w K mg base 4 "_law_net" ["_law_script"] (sp_lnet K)) (F__law_rows : Own P w K mg base 2 "_law_rows" ["_law_numbers", "_law_lists"] sp_lrows)
    (F_net_text : Own P w K mg base 3 "net_text" ["measures", "lines", "changes", "roads", "wishes"] (sp_net C)) (F_read_net : Own P w K mg base 9 "read_net" ["text"] (sp_rnet C)) : FnOk P w K mg base CX0 10 f fd ["_law_script"] (sp_law K) := by
  have hc_Measures := T_Measures.mgC
  refine F.ok sc_law (fun vs H Q E h => ?_) (fun cdv A outer s H vs Q E hr h => ?_)
  · obtain ⟨a, ns, rfl, _⟩ := h
    rfl
  · obtain ⟨sc, is, rfl, hS, h63, q⟩ := h
    have hu := hr.units
    have hu1 : (A.deeper (PyProof.Rows.envOfC "law" (defScope s_law) s.heap.objs.size f cdv)).units + 1 < cLine := by omega
    refine ⟨_, (pss_cons (ps_set (i:=1) sc_law.nd rfl (by first | exact Or.inl rfl | exact Or.inr rfl) (pe_fn F__law_measures hr (pa_cX (pe_fn F__law_draw hr (pa_cX (pe_callB (call_sumX rfl) rfl hsum bt_sum (pa_cX (pe_slice (sl_listK K) (pv 0) po_none (po_some pe_int)) pa_nil)) pa_nil)) pa_nil))) (pss_cons (ps_asg (pv 1) (pg_seqX (n:=10) rfl (pgs_cons (pg_name (i:=2) sc_law.nd rfl (by first | exact Or.inl rfl | exact Or.inr rfl)) (pgs_cons (pg_name (i:=3) sc_law.nd rfl (by first | exact Or.inl rfl | exact Or.inr rfl)) (pgs_cons (pg_name (i:=4) sc_law.nd rfl (by first | exact Or.inl rfl | exact Or.inr rfl)) (pgs_cons (pg_name (i:=5) sc_law.nd rfl (by first | exact Or.inl rfl | exact Or.inr rfl)) (pgs_cons (pg_name (i:=6) sc_law.nd rfl (by first | exact Or.inl rfl | exact Or.inr rfl)) (pgs_cons (pg_name (i:=7) sc_law.nd rfl (by first | exact Or.inl rfl | exact Or.inr rfl)) (pgs_cons (pg_name (i:=8) sc_law.nd rfl (by first | exact Or.inl rfl | exact Or.inr rfl)) (pgs_cons (pg_name (i:=9) sc_law.nd rfl (by first | exact Or.inl rfl | exact Or.inr rfl)) (pgs_cons (pg_name (i:=10) sc_law.nd rfl (by first | exact Or.inl rfl | exact Or.inr rfl)) (pgs_cons (pg_name (i:=11) sc_law.nd rfl (by first | exact Or.inl rfl | exact Or.inr rfl)) pgs_nil)))))))))))) (pss_cons (ps_set (i:=12) sc_law.nd rfl (by first | exact Or.inl rfl | exact Or.inr rfl) (pe_mak I_Measures hr T_Measures.mgC (pa_cX (pv 2) (pa_cX (pv 3) (pa_cX (pv 4) (pa_cX (pv 5) (pa_cX (pv 6) (pa_cX (pv 7) (pa_cX (pv 8) (pa_cX (pv 9) (pa_cX (pv 10) (pa_cX (pv 11) pa_nil)))))))))))) (pss_cons (ps_set (i:=13) sc_law.nd rfl (by first | exact Or.inl rfl | exact Or.inr rfl) (pe_fn F__law_net hr (pa_cX (pv 0) pa_nil))) (pss_cons (ps_set (i:=14) sc_law.nd rfl (by first | exact Or.inl rfl | exact Or.inr rfl) (pe_join pe_str (pe_fn F__law_rows hr (pa_cX (pv 1) (pa_cX (pv 13) pa_nil))) (by constructor <;> rfl))) (pss_cons (ps_if (pt_cmpR op_ne (pe_fn F_net_text hr (pa_cX (pv 12) (pa_cX (pe_ix (ix_get hu1) (pv 13) pe_int (fun _ _ => rfl)) (pa_cX (pe_ix (ix_get hu1) (pv 13) pe_int (fun _ _ => rfl)) (pa_cX (pe_ix (ix_get hu1) (pv 13) pe_int (fun _ _ => rfl)) (pa_cX (pe_ix (ix_get hu1) (pv 13) pe_int (fun _ _ => rfl)) pa_nil)))))) (pv 14) (nomark _)) (pss_one (ps_ret pe_bl)) pss_nil) (pss_cons (ps_set (i:=15) sc_law.nd rfl (by first | exact Or.inl rfl | exact Or.inr rfl) (pe_fn F_read_net hr (pa_cX (pv 14) pa_nil))) (pss_cons (ps_if (@PW.pt _ _ _ (pw_or (pt_not (pt_truX (pe_callB call_isiX rfl (hb _ (by decide)) bt_isinstance (pa_cX (pv 15) (pa_cX (pe_bltn (v:=(.ty "tuple")) rfl (hb _ (by decide)) bt_tuple rfl) pa_nil))))) (pw_or (pt_cmpR op_ne (pe_callB call_lenX rfl (hb _ (by decide)) bt_len (pa_cX (pv 15) pa_nil)) pe_int (nomark _)) (pw_or1 (pt_not (pt_truX (pe_callB (call_isx K) rfl (hb _ (by decide)) bt_isinstance (pa_cX (pe_ix (ix_get hu1) (pv 15) pe_int (fun _ _ => rfl)) (pa_cX (pe_cls hc_Measures) pa_nil))))))))) (pss_one (ps_ret pe_bl)) pss_nil) (pss_cons (ps_if (@PW.pt _ _ _ (pw_or (pt_cmpR (op_neX hu) (pe_mth0 M_Measures_numbers T_Measures.cl hr (pe_ix (ix_get hu1) (pv 15) pe_int (fun _ _ => rfl))) (pv 1) (nomark _)) (pw_or1 (pt_cmpR (op_neX hu) (pe_callTy call_listX rfl (hb _ (by decide)) bt_list (pa_cX (pe_slice sl_TX (pv 15) (po_some pe_int) po_none) pa_nil)) (pv 13) (nomark _))))) (pss_one (ps_ret pe_bl)) pss_nil) (pss_cons (ps_if (pt_cmpR op_ne (pe_fn F_net_text hr (pa_cX (pe_ix (ix_get hu1) (pv 15) pe_int (fun _ _ => rfl)) (pa_cX (pe_ix (ix_get hu1) (pv 15) pe_int (fun _ _ => rfl)) (pa_cX (pe_ix (ix_get hu1) (pv 15) pe_int (fun _ _ => rfl)) (pa_cX (pe_ix (ix_get hu1) (pv 15) pe_int (fun _ _ => rfl)) (pa_cX (pe_ix (ix_get hu1) (pv 15) pe_int (fun _ _ => rfl)) pa_nil)))))) (pv 14) (nomark _)) (pss_one (ps_ret pe_bl)) pss_nil) (pss_cons (ps_for PassesOwn.never rfl (pi_tupK K (pe_slice sl_TX (pv 15) (po_some pe_int) po_none)) (pg_name (i:=16) sc_law.nd rfl (by first | exact Or.inl rfl | exact Or.inr rfl)) (pss_one (ps_expr (pe_lm0 PySem.F.slot_list_clear PySem.F.type_list_clear mt_clear (pv 16))))) (pss_one (ps_ret (pe_and (pe_cmpR (op_eqX hu) (pe_callTy call_listX rfl (hb _ (by decide)) bt_list (pa_cX (pe_slice sl_TX (pe_fn F_read_net hr (pa_cX (pv 14) pa_nil)) (po_some pe_int) po_none) pa_nil)) (pv 13) (nomark _)) (pe_one (pe_cmpR op_eq (pe_fn F_net_text hr (pa_cX (pe_ix (ix_get hu1) (pv 15) pe_int (fun _ _ => rfl)) (pa_cX (pe_lst pa_nil) (pa_cX (pe_lst pa_nil) (pa_cX (pe_lst pa_nil) (pa_cX (pe_lst pa_nil) pa_nil)))))) (pe_ix (ix_get hu1) (pe_splS (pv 14) pe_str (by constructor <;> rfl)) pe_int (fun _ _ => rfl)) (nomark _))))))))))))))))), ?_⟩
    refine use1 (LA1 sc H) ?_ (fun X hX => ?_)
    rotate_left
    · simp (maxSteps := 1000000) only [rSumX, Nat.reduceSub, upd_same, HO.lst.injEq, Nat.reduceAdd, tSl, rSlL, tNoPart, tPart, List.cons.injEq, tSeq, exists_and_left, tVar, tC, tAsg, gName, tCall, tCons, tNil, tCB, L2.start, List.map_cons, List.map_nil, List.length_cons, List.length_nil, List.replicate, List.cons_append, List.nil_append, List.getElem?_cons_zero, List.set_cons_zero, List.set_cons_succ, Option.some.injEq, exists_eq_left', V.int.injEq, V.ref.injEq, and_true, List.append_nil]
      refine ⟨_, hS, ?_⟩
      obtain ⟨cs, hcs⟩ := cutV_map is none (some 1)
      rw [hcs]
      intro p1 n1
      generalize z1 : upd H p1 _ = H1
      obtain ⟨s1, e1⟩ := new_same z1 n1
      refine ⟨cs, rfl, cs.sum, rfl, fun pd xa xb H2 n2 e2 s2 => ⟨pd, rfl, ⟨xa, xb, e2⟩, fun l ns H3 nl el hin k3 d3 => hX _ _ ⟨l, ns, rfl, draw_same (s1.trans s2) (s1.free n2) k3, el, hin⟩⟩⟩
    rintro σ H1 ⟨pn, ns, rfl, s1, epn, hin⟩
    obtain ⟨hns, hnk⟩ := inB_lt hin
    obtain ⟨m, em⟩ := ms_of hns
    refine use2 (LA2 C sc H) ?_ (fun X hX => ?_)
    rotate_left
    · obtain ⟨a0, a1, a2, a3, a4, a5, a6, a7, a8, a9, rfl⟩ := ten hns
      have epn' : H1 pn = some (.lst [niV a0, niV a1, niV a2, niV a3, niV a4, niV a5, niV a6, niV a7, niV a8, niV a9]) := epn
      simp (maxSteps := 1000000) only [gSeqX, seqO_l, gCons, gNil, Nat.reduceAdd, ne_eq, tMake, List.cons.injEq, tSeq, exists_and_left, tVar, tAsg, gName, tCons, tNil, List.length_cons, List.length_nil, List.getElem?_cons_zero, List.getElem?_cons_succ, List.set_cons_zero, List.set_cons_succ, Option.some.injEq, exists_eq_left', V.ref.injEq, true_and, and_assoc, List.append_nil, epn']
      intro x dx hx hdx _
      have hm : m = ⟨(a0 : Int), (a1 : Int), (a2 : Int), (a3 : Int), (a4 : Int), (a5 : Int), (a6 : Int), (a7 : Int), (a8 : Int), (a9 : Int)⟩ := by
        obtain ⟨b0, b1, b2, b3, b4, b5, b6, b7, b8, b9⟩ := m
        simp only [Ms.l, List.map_cons, List.map_nil, List.cons.injEq, and_true] at em
        obtain ⟨rfl, rfl, rfl, rfl, rfl, rfl, rfl, rfl, rfl, rfl⟩ := em
        rfl
      refine ⟨x, dx, m, by rw [hm]; rfl, upd_same, by rw [em]; exact hin, fun H2 e2 k2 => ⟨rfl, ?_⟩⟩
      have s2 : Same H1 H2 := make_same hx hdx k2
      exact hX _ _ ⟨pn, x, dx, _, m, _, _, _, _, _, _, _, _, _, _, rfl, s1.trans s2, s2 _ _ epn, by rw [em]; exact hin, ⟨em, hns, hnk⟩, e2⟩
    clear hin hns hnk em epn s1
    rintro σ H1 ⟨pn, x, dx, ns, m, a0, a1, a2, a3, a4, a5, a6, a7, a8, a9, rfl, s1, epn, hin, hms, ex⟩
    refine use1 (LA3 C sc) ?_ (fun X hX => ?_)
    rotate_left
    · simp (maxSteps := 1000000) only [tSeq, tVar, tAsg, gName, tCall, tCons, tNil, List.getElem?_cons_zero, List.set_cons_zero, List.set_cons_succ, Option.some.injEq, exists_eq_left', List.append_nil]
      exact ⟨sc, is, rfl, s1.seq hS, fun L l0 l1 l2 l3 n H2 s2 nL eL h4 at2 ok => hX _ _ ⟨pn, x, dx, L, l0, l1, l2, l3, ns, m, n, _, _, _, _, _, _, _, _, _, _, rfl, s2 _ _ epn, hin, hms, s2 _ _ ex, eL, h4, at2, ok⟩⟩
    clear hin hms epn ex s1
    rintro σ H1 ⟨pn, x, dx, L, l0, l1, l2, l3, ns, m, n, a0, a1, a2, a3, a4, a5, a6, a7, a8, a9, rfl, hv⟩
    have e10 : Str.ofString "\n" = Sg [10] := S_of _
    refine use2 (LA4 C sc) ?_ (fun X hX => ?_)
    rotate_left
    · simp (maxSteps := 1000000) only [rGet, tSeq, exists_and_left, tIfS, tTest, tOp, tVar, tC, tRet, tAsg, gName, tNext, tCall, tCons, tNil, List.getElem?_cons_zero, List.getElem?_cons_succ, List.set_cons_zero, List.set_cons_succ, Option.some.injEq, exists_eq_left', V.ref.injEq, V.str.injEq, List.append_nil, tJoin]
      refine ⟨pn, L, l0, l1, l2, l3, ns, n, _, rfl, hv.pn, hv.eL, hv.at_, hv.ok, hv.mo.2.1, hv.mo.2.2, fun R H2 s2 nR eR => ?_⟩
      obtain ⟨j1, j2, j3⟩ := join_ok (Q := fun v _ => v = .str (Sg (jW 10 (rowsT ns n)))) (H := H) 10 (rowsT ns n) e10 rfl (rows_sum hv.ok hv.mo.2.1 hv.mo.2.2) rfl
      refine ⟨R, rfl, _, eR, j1, j2, ?_⟩
      rw [V.str.inj j3]
      have hv2 := hv.same s2
      have eL2 := hv2.eL
      simp (maxSteps := 1000000) only [getO_l, atI_0, atI_1, atI_2, atI_3, Option.some.injEq, exists_eq_left', eL2]
      refine ⟨x, dx, l0, l1, l2, l3, m, ns, n, _, rfl, hv2.ex, hv2.mo, hv2.ok, hv2.at_, fun H3 s3 => ?_⟩
      simp (maxSteps := 1000000) only [rNe_ss, decide_true, Bool.not_true, if_false, Bool.false_eq_true, exists_eq_left', V.bl.injEq]
      exact hX _ _ ⟨pn, x, dx, L, l0, l1, l2, l3, ns, m, n, _, _, _, _, _, _, _, _, _, _, rfl, hv2.same s3⟩
    clear hv
    rintro σ H1 ⟨pn, x, dx, L, l0, l1, l2, l3, ns, m, n, a0, a1, a2, a3, a4, a5, a6, a7, a8, a9, rfl, hv⟩
    have hlen : (jW 10 (rowsT ns n)).length ≤ 100000 := Nat.le_trans (jW_len _ _) (rows_sum hv.ok hv.mo.2.1 hv.mo.2.2)
    refine use1 (fun σ H' => ∃ p x' dx' q, LA5 C sc pn x dx L l0 l1 l2 l3 ns m n a0 a1 a2 a3 a4 a5 a6 a7 a8 a9 H1 p x' dx' q σ H') ?_ (fun X hX => ?_)
    rotate_left
    · simp (maxSteps := 1000000) only [tSeq, tVar, tAsg, gName, tCall, tCons, tNil, List.getElem?_cons_zero, List.getElem?_cons_succ, List.set_cons_zero, List.set_cons_succ, Option.some.injEq, exists_eq_left', List.append_nil]
      exact ⟨m, ns, n, rfl, hv.mo, hv.ib, hv.ok, fun p x' dx' q' H2 g => hX _ _ ⟨p, x', dx', q', rfl, hv.same g.s, g⟩⟩
    rintro σ H2 ⟨p, x', dx', q', rfl, hv2, g⟩
    refine use1 (LA5 C sc pn x dx L l0 l1 l2 l3 ns m n a0 a1 a2 a3 a4 a5 a6 a7 a8 a9 H1 p x' dx' q') ?_ (fun X hX => ?_)
    rotate_left
    · have ep := g.ep
      simp (maxSteps := 1000000) only [rIsIX, tyX_r, tyO_t, V.ty.injEq, kT_tutu, rGet, getO_t, rLenX, lenX_r, lenO_t, Option.bind_some, tTruX, truX_b, atI_0, Nat.reduceAdd, V.ty.injEq, Bool.not_true, List.cons.injEq, rNe_ii, tSeq, exists_and_left, if_false, if_true, Bool.false_eq_true, tIfS, tOr, tNot, tTest, tOp, tVar, tC, tRet, tNext, tCons, tNil, tCB, List.length_cons, List.length_nil, List.getElem?_cons_zero, List.getElem?_cons_succ, Option.some.injEq, exists_eq_left', V.bl.injEq, V.ref.injEq, and_true, and_assoc, ep]
      refine ⟨.ref x', .ref C, .ref C, true, rfl, .inr ⟨C, rfl⟩, .ty (.ins g.ex T_Measures.cl mi.a mi.n mi.t mi.m), mi.k, ?_⟩
      simp (maxSteps := 1000000) only [truX_b, Bool.not_true, if_false, Bool.false_eq_true, Option.some.injEq, exists_eq_left']
      exact hX _ _ ⟨rfl, hv2, g⟩
    clear hv2 g
    rintro σ H2 ⟨rfl, hv2, g⟩
    refine use1 (LA5 C sc pn x dx L l0 l1 l2 l3 ns m n a0 a1 a2 a3 a4 a5 a6 a7 a8 a9 H1 p x' dx' q') ?_ (fun X hX => ?_)
    rotate_left
    · have ep := g.ep
      have ex' := g.ex
      simp (maxSteps := 1000000) only [rGet, getO_t, rListX, atI_0, HO.ins.injEq, tMeth, tSl, tNoPart, tPart, List.cons.injEq, tSeq, exists_and_left, if_true, tIfS, tOr, tTest, tOp, tVar, tC, tRet, tNext, tCons, tNil, tCB, List.getElem?_cons_zero, List.getElem?_cons_succ, Option.some.injEq, exists_eq_left', V.int.injEq, V.ref.injEq, and_true, true_and, and_assoc, List.append_nil, ep, ex', fn_Measures_numbers]
      refine ⟨x', dx', m, rfl, ex', fun p3 H3 n3 e3 s3 => ?_⟩
      have hm : m.l.map V.int = ns.map niV := by rw [hv2.mo.1, List.map_map]; rfl
      rw [hm] at e3
      have hd : (PyData.list (ns.map niD)).depth ≤ 60 := Nat.le_trans (dep_l (k := 1) (dep_m (fun y => by simp [niD, PyData.depth]) ns)) (by decide)
      refine neX_same (dt_nums e3) (dt_nums (s3 _ _ hv2.pn)) hd ?_
      have ep3 := s3 _ _ ep
      simp (maxSteps := 1000000) only [HO.tup.injEq, exists_and_left, if_false, Bool.false_eq_true, Option.some.injEq, exists_eq_left', V.bl.injEq, V.ref.injEq, ep3, rSlTX, cut_t1]
      intro p4 H4 h4 e4
      have s4 : Same H3 H4 := by
        rcases h4 with rfl | ⟨n4, rfl⟩
        · exact .refl _
        · exact .upd_new n4
      refine ⟨_, e4, _, rfl, fun l nl => ?_⟩
      have s5 : Same H4 (upd H4 l (.lst [.ref (q' 0), .ref (q' 1), .ref (q' 2), .ref (q' 3)])) := .upd_new nl
      have s345 := (s3.trans s4).trans s5
      have g5 := g.later s345
      have hv5 := hv2.same s345
      refine neX_same (g5.n.dt hv5.ok upd_same) (hv5.at_.dt hv5.ok hv5.eL) (dep_N n) ⟨_, rfl, ?_⟩
      exact iteF (hX _ _ ⟨rfl, hv5, g5⟩)
    clear hv2 g
    rintro σ H2 ⟨rfl, hv2, g⟩
    refine use1 (LA5 C sc pn x dx L l0 l1 l2 l3 ns m n a0 a1 a2 a3 a4 a5 a6 a7 a8 a9 H1 p x' dx' q') ?_ (fun X hX => ?_)
    rotate_left
    · have ep := g.ep
      have at4' : atI [V.ref x', V.ref (q' 0), V.ref (q' 1), V.ref (q' 2), V.ref (q' 3)] 4 = some (V.ref (q' 3)) := at4
      simp (maxSteps := 1000000) only [rGet, getO_t, atI_0, atI_1, atI_2, atI_3, tSeq, exists_and_left, tIfS, tTest, tOp, tVar, tC, tRet, tNext, tCall, tCons, tNil, List.getElem?_cons_zero, List.getElem?_cons_succ, Option.some.injEq, exists_eq_left', V.ref.injEq, List.append_nil, ep, at4']
      refine ⟨x', dx', q' 0, q' 1, q' 2, q' 3, m, ns, n, _, rfl, g.ex, hv2.mo, hv2.ok, g.n, fun H3 s3 => ?_⟩
      simp (maxSteps := 1000000) only [rNe_ss, decide_true, Bool.not_true, if_false, Bool.false_eq_true, exists_eq_left', V.bl.injEq]
      exact hX _ _ ⟨rfl, hv2.same s3, g.later s3⟩
    clear hv2 g
    rintro σ H2 ⟨rfl, hv2, g⟩
    have inQ : ∀ b, b ∈ [q' 0, q' 1, q' 2, q' 3] → ∃ j, j < 4 ∧ b = q' j := fun b hb => by
      simp only [List.mem_cons, List.not_mem_nil, or_false] at hb
      rcases hb with h | h | h | h
      · exact ⟨0, by decide, h⟩
      · exact ⟨1, by decide, h⟩
      · exact ⟨2, by decide, h⟩
      · exact ⟨3, by decide, h⟩
    have lists : ∀ j, j < 4 → ∃ us, H2 (q' j) = some (.lst us) := fun j hj => by
      obtain ⟨u0, w0, _⟩ := g.n.ln
      obtain ⟨u1, w1, _⟩ := g.n.ch
      obtain ⟨u2, w2, _⟩ := g.n.rd
      obtain ⟨u3, w3, _⟩ := g.n.ws
      match j, hj with
      | 0, _ => exact ⟨u0, w0⟩
      | 1, _ => exact ⟨u1, w1⟩
      | 2, _ => exact ⟨u2, w2⟩
      | 3, _ => exact ⟨u3, w3⟩
    refine use1 (fun σ H' => ∃ v16, σ = lσ sc (some (.ref pn)) (some a0) (some a1) (some a2) (some a3) (some a4) (some a5) (some a6) (some a7) (some a8) (some a9) (some (.ref x)) (some (.ref L)) (some (.str (Sg (jW 10 (rowsT ns n))))) (some (.ref p)) v16 ∧ Keep [q' 0, q' 1, q' 2, q' 3] H2 H') ?_ (fun X hX => ?_)
    rotate_left
    · have ep := g.ep
      simp (maxSteps := 1000000) only [tFor_eq, HO.tup.injEq, tSl, tNoPart, tPart, tSeq, exists_and_left, tVar, tC, List.getElem?_cons_zero, List.getElem?_cons_succ, Option.some.injEq, exists_eq_left', V.int.injEq, V.ref.injEq, ep, rSlTX, cut_t1, iTup]
      intro p4 H4 h4 e4
      have s4 : Same H2 H4 := by
        rcases h4 with rfl | ⟨n4, rfl⟩
        · exact .refl _
        · exact .upd_new n4
      have lists4 : ∀ j, j < 4 → ∃ us, H4 (q' j) = some (.lst us) := fun j hj => let ⟨us, e⟩ := lists j hj; ⟨us, s4 _ _ e⟩
      refine ⟨⟨_, SqT.of e4⟩, for_tup (xs := [.ref (q' 0), .ref (q' 1), .ref (q' 2), .ref (q' 3)]) (LC C sc pn x dx L l0 l1 l2 l3 ns m n a0 a1 a2 a3 a4 a5 a6 a7 a8 a9 H4 p q') ⟨none, rfl, .refl, lists4⟩ ?_ ?_ ?_⟩
      · rintro i σ H5 hi ⟨v16, rfl, k5, l5⟩
        exact SqT.keep k5 (fun b hb => by obtain ⟨j, hj, rfl⟩ := inQ b hb; exact lists4 j hj) (SqT.of e4)
      · rintro i v σ H5 hx ⟨v16, rfl, k5, l5⟩
        obtain ⟨j, hj, rfl⟩ : ∃ j, j < 4 ∧ v = .ref (q' j) := by
          match i, hx with
          | 0, h => exact ⟨0, by decide, (Option.some.inj h).symm⟩
          | 1, h => exact ⟨1, by decide, (Option.some.inj h).symm⟩
          | 2, h => exact ⟨2, by decide, (Option.some.inj h).symm⟩
          | 3, h => exact ⟨3, by decide, (Option.some.inj h).symm⟩
          | k + 4, h => simp at h
        obtain ⟨us, eus⟩ := l5 j hj
        simp (maxSteps := 1000000) only [tBL0, rClear, HO.lst.injEq, exists_and_left, tVar, gName, tDrop, List.getElem?_cons_zero, List.getElem?_cons_succ, List.set_cons_zero, List.set_cons_succ, Option.some.injEq, exists_eq_left', V.ref.injEq, true_and, eus]
        have mj : q' j ∈ [q' 0, q' 1, q' 2, q' 3] := by
          match j, hj with
          | 0, _ => exact .head _
          | 1, _ => exact .tail _ (.head _)
          | 2, _ => exact .tail _ (.tail _ (.head _))
          | 3, _ => exact .tail _ (.tail _ (.tail _ (.head _)))
        refine ⟨_, rfl, k5.upd (.inl mj), fun k hk => ?_⟩
        by_cases hkj : q' k = q' j
        · rw [hkj]
          exact ⟨[], upd_same⟩
        · obtain ⟨us', e'⟩ := l5 k hk
          exact ⟨us', by rw [upd_ne hkj]; exact e'⟩
      · rintro σ H5 ⟨v16, rfl, k5, l5⟩
        exact hX _ _ ⟨v16, rfl, s4.keep.trans k5⟩
    rintro σ H3 ⟨v16, rfl, k3⟩
    have notQ : ∀ b o, H1 b = some o → b ∉ [q' 0, q' 1, q' 2, q' 3] := fun b o e hb => by
      obtain ⟨j, hj, rfl⟩ := inQ b hb
      rw [g.new j hj] at e
      cases e
    have sA : Same H1 H3 := fun b o e => k3 _ _ (g.s _ _ e) (notQ b o e)
    have hv3 := hv.same sA
    have nQ2 : ∀ b, (∀ us, H2 b ≠ some (.lst us)) → b ∉ [q' 0, q' 1, q' 2, q' 3] := fun b h hb => by
      obtain ⟨j, hj, rfl⟩ := inQ b hb
      obtain ⟨us, e⟩ := lists j hj
      exact h us e
    have ep3 : H3 p = some (.tup [.ref x', .ref (q' 0), .ref (q' 1), .ref (q' 2), .ref (q' 3)]) := k3 _ _ g.ep (nQ2 p fun us h => by rw [g.ep] at h; cases h)
    have ex3 : H3 x' = some (.ins C dx' (fsM m)) := k3 _ _ g.ex (nQ2 x' fun us h => by rw [g.ex] at h; cases h)
    simp (maxSteps := 1000000) only [rGet, getO_l, rListX, upd_same, tSl, tNoPart, tPart, List.cons.injEq, exists_and_left, tOp, tVar, tC, tRet, tAndV, tCall, tCons, tNil, tCB, tLst, List.length_nil, List.getElem?_cons_zero, List.getElem?_cons_succ, Option.some.injEq, exists_eq_left', V.int.injEq, V.ref.injEq, V.str.injEq, and_true, List.append_nil, rSlTX, tSplS, e10]
    refine ⟨m, ns, n, rfl, hv3.mo, hv3.ib, hv3.ok, fun p5 x5 dx5 q5 H5 g5 => ?_⟩
    have ep5 := g5.ep
    simp (maxSteps := 1000000) only [HO.tup.injEq, Option.some.injEq, exists_eq_left', V.ref.injEq, ep5, cut_t1]
    intro p6 H6 h6 e6
    have s6 : Same H5 H6 := by
      rcases h6 with rfl | ⟨n6, rfl⟩
      · exact .refl _
      · exact .upd_new n6
    refine ⟨_, e6, _, rfl, fun l nl => ?_⟩
    have s7 : Same H6 (upd H6 l (.lst [.ref (q5 0), .ref (q5 1), .ref (q5 2), .ref (q5 3)])) := .upd_new nl
    have g7 := g5.later (s6.trans s7)
    have hv7 := hv3.same g7.s
    refine eqX_same (g7.n.dt hv7.ok upd_same) (hv7.at_.dt hv7.ok hv7.eL) (dep_N n) ?_
    have ep7 := g7.s _ _ ep3
    have ex7 := g7.s _ _ ex3
    generalize upd H6 l (.lst [.ref (q5 0), .ref (q5 1), .ref (q5 2), .ref (q5 3)]) = H7 at g7 hv7 ep7 ex7 ⊢
    simp (maxSteps := 1000000) only [getO_t, atI_0, if_true, Option.some.injEq, exists_eq_left', V.bl.injEq, ep7]
    refine ⟨by rw [sizeLine_eq]; decide, ?_⟩
    intro p11 n11
    generalize z11 : upd H7 p11 _ = H11
    obtain ⟨s11, e11⟩ := new_same z11 n11
    refine ⟨by rw [sizeLine_eq]; decide, ?_⟩
    intro p12 n12
    generalize z12 : upd H11 p12 _ = H12
    obtain ⟨s12, e12⟩ := new_same z12 n12
    refine ⟨by rw [sizeLine_eq]; decide, ?_⟩
    intro p13 n13
    generalize z13 : upd H12 p13 _ = H13
    obtain ⟨s13, e13⟩ := new_same z13 n13
    refine ⟨by rw [sizeLine_eq]; decide, ?_⟩
    intro p14 n14
    generalize z14 : upd H13 p14 _ = H14
    obtain ⟨s14, e14⟩ := new_same z14 n14
    have t14 := ((s11.trans s12).trans s13).trans s14
    refine ⟨x', dx', p11, p12, p13, p14, m, ns, ⟨[], [], [], []⟩, fun _ => True, rfl, t14 _ _ ex7, hv7.mo, ⟨(fun _ z => nomatch z), (fun _ z => nomatch z), (fun _ z => nomatch z), (fun _ z => nomatch z), Nat.zero_le _⟩, ⟨⟨[], ((s12.trans s13).trans s14) _ _ e11, .nil⟩, ⟨[], (s13.trans s14) _ _ e12, .nil⟩, ⟨[], s14 _ _ e13, .nil⟩, ⟨[], e14, .nil⟩⟩, fun H15 s15 => ?_⟩
    have hge := jW_ge (c := 10) (l := rowsT ns n) (by rw [rowsT_flat]; exact fun z => nomatch z)
    refine ⟨_, rfl, 10, rfl, by decide, hlen, fun p16 n16 => ?_⟩
    rw [net_spl hv.ok hv.mo.2.2 (by omega), rowsT_flat, wV_cons]
    refine ⟨_, atI_0, ?_⟩
    have eone : jW 10 (rowsT ns ⟨[], [], [], []⟩) = rT "measures" (ns.map Fld.n) := by simp [rowsT, jW]
    rw [eone]
    simp (maxSteps := 1000000) only [rEq_ss, decide_true]
    exact q _
end
end K81
namespace K81
open PySem L2
section
variable {P : Program} {w : World} {K : PySem.W.Frag} {mg : Str → Option Value} {C : Addr}
theorem mk_Measures {h : Heap} (X : K.In h) (G : h.Ns mainGlobals mg) {C f0 f1 : Addr} {od0 an0 od1 an1 : Option Addr} {sl0 sl1 : Array (Option Value)} {oc0 kV0 dc0 pm0 cd0 ct0 oc1 kV1 dc1 pm1 cd1 ct1 : Value}
    (aC : PySem.W.nsIn K mainGlobals "Measures" = some (some (.ref C))) (pg : PySem.W.plainGet K C Str.empty = true) (hd : PySem.W.hasDictIn K C = true) (po : PySem.W.plainOver K C = true) (sa : PySem.W.findIn K (.ref C) "__setattr__" = some (some (.builtin "object.__setattr__")))
    (n0 : PySem.W.findIn K (.ref C) "hands" = some none) (n1 : PySem.W.findIn K (.ref C) "lag" = some none) (n2 : PySem.W.findIn K (.ref C) "miss" = some none) (n3 : PySem.W.findIn K (.ref C) "raise_each" = some none) (n4 : PySem.W.findIn K (.ref C) "count" = some none) (n5 : PySem.W.findIn K (.ref C) "room" = some none) (n6 : PySem.W.findIn K (.ref C) "places" = some none) (n7 : PySem.W.findIn K (.ref C) "window" = some none) (n8 : PySem.W.findIn K (.ref C) "wait" = some none) (n9 : PySem.W.findIn K (.ref C) "keep" = some none) (mk : PySem.W.makesIn K C = true) (kc : PySem.W.keepIn K (.ref C) = true)
    (a0 : PySem.W.findIn K (.ref C) "__init__" = some (some (.ref f0))) (i0 : PySem.W.isFn K (.ref f0) = true) (l0 : K.lookup f0 = some ⟨oc0, od0, .func (PySem.W.fnOf "__init__" "Measures.__init__" (defArgs s_Measures___init__) (defBody s_Measures___init__) (defScope s_Measures___init__) .none kV0 dc0 pm0 an0 cd0 ct0), sl0⟩) (c0 : PySem.W.codeIn K cd0 "Measures.__init__" = true) (k0 : PySem.W.keepIn K (.ref f0) = true)
    (a1 : PySem.W.findIn K (.ref C) "numbers" = some (some (.ref f1))) (i1 : PySem.W.isFn K (.ref f1) = true) (l1 : K.lookup f1 = some ⟨oc1, od1, .func (PySem.W.fnOf "numbers" "Measures.numbers" (defArgs s_Measures_numbers) (defBody s_Measures_numbers) (defScope s_Measures_numbers) .none kV1 dc1 pm1 an1 cd1 ct1), sl1⟩) (c1 : PySem.W.codeIn K cd1 "Measures.numbers" = true) (k1 : PySem.W.keepIn K (.ref f1) = true)
    : ∃ C, ClsD K mg "Measures" C at_Measures ∧ DefI K C "Measures.__init__" s_Measures___init__ ∧ DefM K C "numbers" "Measures.numbers" s_Measures_numbers := by
  refine ⟨C, ⟨PySem.W.mg_of X G aC, ⟨pg, hd, po, sa⟩, fun f hf => ?_⟩, defI_mk a0 i0 l0 c0 k0 mk kc, defM_mk a1 i1 l1 c1 k1⟩
  simp only [List.mem_cons, List.not_mem_nil, or_false] at hf
  rcases hf with rfl | rfl | rfl | rfl | rfl | rfl | rfl | rfl | rfl | rfl
  · exact n0
  · exact n1
  · exact n2
  · exact n3
  · exact n4
  · exact n5
  · exact n6
  · exact n7
  · exact n8
  · exact n9
theorem glb_str {h : Heap} (X : K.In h) (G : h.Ns mainGlobals mg) {x z : Str} {t : PySem.Tok} (a : PySem.W.nsIn K mainGlobals x = some (some (.str z t))) : ∃ u, mg x = some u ∧ RelV (.str z) u :=
  ⟨_, PySem.W.mg_of X G a, t, rfl⟩
theorem tup3 {b : Addr} {od : Option Addr} {n : Nat} {sl : Array (Option Value)} {x : Str} {i j : Int} {t0 t1 t2 : Tok} (l : K.lookup b = some ⟨.type "tuple", od, .seq #[.str x t0, .int i t1, .int j t2] n, sl⟩) : ∀ H, SqT K H b [.str x, .int i, .int j] :=
  fun H => .inr ⟨_, _, n, l, rfl, rfl, by rw [sizeLine_eq]; change 3 ≤ 16777216; decide, .cons ⟨t0, rfl⟩ (.cons ⟨t1, rfl⟩ (.cons ⟨t2, rfl⟩ .nil))⟩
theorem bdAt_mk {h : Heap} (X : K.In h) (G : h.Ns mainGlobals mg) {a b0 b1 b2 b3 b4 b5 b6 b7 b8 b9 : Addr} {od : Option Addr} {n : Nat} {sl : Array (Option Value)} (e : PySem.W.nsIn K mainGlobals "BOUNDS" = some (some (.ref a)))
    (l : K.lookup a = some ⟨.type "tuple", od, .seq #[.ref b0, .ref b1, .ref b2, .ref b3, .ref b4, .ref b5, .ref b6, .ref b7, .ref b8, .ref b9] n, sl⟩)
    (t0 : ∀ H, SqT K H b0 [.str (Str.ofString "hands"), .int 2, .int 12]) (t1 : ∀ H, SqT K H b1 [.str (Str.ofString "lag"), .int 1, .int 32]) (t2 : ∀ H, SqT K H b2 [.str (Str.ofString "miss"), .int 1, .int 400]) (t3 : ∀ H, SqT K H b3 [.str (Str.ofString "raise"), .int 1, .int 1000]) (t4 : ∀ H, SqT K H b4 [.str (Str.ofString "count"), .int 0, .int 60])
    (t5 : ∀ H, SqT K H b5 [.str (Str.ofString "room"), .int 1, .int 16]) (t6 : ∀ H, SqT K H b6 [.str (Str.ofString "places"), .int 1, .int 16]) (t7 : ∀ H, SqT K H b7 [.str (Str.ofString "window"), .int 1, .int 60]) (t8 : ∀ H, SqT K H b8 [.str (Str.ofString "wait"), .int 1, .int 10000]) (t9 : ∀ H, SqT K H b9 [.str (Str.ofString "keep"), .int 0, .int 10000]) : ∃ a bs, BdAt K mg a bs := by
  refine ⟨a, [b0, b1, b2, b3, b4, b5, b6, b7, b8, b9], ⟨_, PySem.W.mg_of X G e, rfl⟩, fun H => .inr ⟨_, _, n, l, rfl, rfl, by rw [sizeLine_eq]; change 10 ≤ 16777216; decide, .cons rfl (.cons rfl (.cons rfl (.cons rfl (.cons rfl (.cons rfl (.cons rfl (.cons rfl (.cons rfl (.cons rfl .nil)))))))))⟩, ?_, rfl⟩
  intro i b q h1 h2 H
  match i with
  | 0 => cases h1; cases h2; exact t0 H
  | 1 => cases h1; cases h2; exact t1 H
  | 2 => cases h1; cases h2; exact t2 H
  | 3 => cases h1; cases h2; exact t3 H
  | 4 => cases h1; cases h2; exact t4 H
  | 5 => cases h1; cases h2; exact t5 H
  | 6 => cases h1; cases h2; exact t6 H
  | 7 => cases h1; cases h2; exact t7 H
  | 8 => cases h1; cases h2; exact t8 H
  | 9 => cases h1; cases h2; exact t9 H
  | k + 10 => cases h1
section
variable {t : Addr} {od : Option Addr} {n : Nat} {sl : Array (Option Value)} {f1 f2 f3 f4 : Addr}
theorem kt1 (l : K.lookup t = some ⟨.type "tuple", od, .seq #[.ref f1] n, sl⟩) : KT K t [f1] := fun H => .inr ⟨_, _, n, l, rfl, rfl, by rw [sizeLine_eq]; change 1 ≤ 16777216; decide, .cons rfl .nil⟩
theorem kt2 (l : K.lookup t = some ⟨.type "tuple", od, .seq #[.ref f1, .ref f2] n, sl⟩) : KT K t [f1, f2] := fun H => .inr ⟨_, _, n, l, rfl, rfl, by rw [sizeLine_eq]; change 2 ≤ 16777216; decide, .cons rfl (.cons rfl .nil)⟩
theorem kt3 (l : K.lookup t = some ⟨.type "tuple", od, .seq #[.ref f1, .ref f2, .ref f3] n, sl⟩) : KT K t [f1, f2, f3] := fun H => .inr ⟨_, _, n, l, rfl, rfl, by rw [sizeLine_eq]; change 3 ≤ 16777216; decide, .cons rfl (.cons rfl (.cons rfl .nil))⟩
theorem kt4 (l : K.lookup t = some ⟨.type "tuple", od, .seq #[.ref f1, .ref f2, .ref f3, .ref f4] n, sl⟩) : KT K t [f1, f2, f3, f4] := fun H => .inr ⟨_, _, n, l, rfl, rfl, by rw [sizeLine_eq]; change 4 ≤ 16777216; decide, .cons rfl (.cons rfl (.cons rfl (.cons rfl .nil)))⟩
theorem kinds_mk {h : Heap} {ak : Addr} {t0 t1 t2 t3 : Tok} (X : K.In h) (G : h.Ns mainGlobals mg) (e : PySem.W.nsIn K mainGlobals "KINDS" = some (some (.ref ak))) (l : K.lookup ak = some ⟨.type "tuple", none, .seq #[.str "line" t0, .str "change" t1, .str "road" t2, .str "wish" t3] n, sl⟩) : ∃ ak, (∃ u, mg "KINDS" = some u ∧ RelV (.ref ak) u) ∧ KTs K ak kz :=
  ⟨ak, ⟨_, PySem.W.mg_of X G e, rfl⟩, _, _, n, l, rfl, rfl, rfl, by rw [sizeLine_eq]; change 4 ≤ 16777216; decide, .cons ⟨t0, rfl⟩ (.cons ⟨t1, rfl⟩ (.cons ⟨t2, rfl⟩ (.cons ⟨t3, rfl⟩ .nil)))⟩
end
theorem tabs_mk {h : Heap} (X : K.In h) (G : h.Ns mainGlobals mg) {fn fp fd fm fs ar tl tc tr aw tb te tp ti tf ta : Addr} {h0 h1 h2 g0 g1 g2 g3 g4 g5 : Int} {t0 t1 t2 u0 u1 u2 u3 u4 u5 : Tok} {ep ep' : Nat}
    (en : PySem.W.nsIn K mainGlobals "read_number" = some (some (.ref fn))) (ep1 : PySem.W.nsIn K mainGlobals "read_price" = some (some (.ref fp))) (ed : PySem.W.nsIn K mainGlobals "read_deeds" = some (some (.ref fd))) (em : PySem.W.nsIn K mainGlobals "read_name" = some (some (.ref fm))) (es : PySem.W.nsIn K mainGlobals "read_signs" = some (some (.ref fs)))
    (er : PySem.W.nsIn K mainGlobals "ROW_READERS" = some (some (.ref ar))) (ew : PySem.W.nsIn K mainGlobals "WISH_READERS" = some (some (.ref aw)))
    (lr : K.lookup ar = some ⟨.type "dict", none, .dict #[⟨h0, .str "line" t0, .ref tl⟩, ⟨h1, .str "change" t1, .ref tc⟩, ⟨h2, .str "road" t2, .ref tr⟩] ep, #[]⟩)
    (lw : K.lookup aw = some ⟨.type "dict", none, .dict #[⟨g0, .str "begin" u0, .ref tb⟩, ⟨g1, .str "end" u1, .ref te⟩, ⟨g2, .str "put" u2, .ref tp⟩, ⟨g3, .str "bind" u3, .ref ti⟩, ⟨g4, .str "free" u4, .ref tf⟩, ⟨g5, .str "ask" u5, .ref ta⟩] ep', #[]⟩)
    (nr : (ar == sysModules) = false) (nw : (aw == sysModules) = false)
    (k1 : KT K tl [fn, fn, fp]) (k2 : KT K tc [fn, fn, fn, fp]) (k3 : KT K tr [fn, fn, fd]) (k4 : KT K tb [fn]) (k5 : KT K te [fn]) (k6 : KT K tp [fn, fs]) (k7 : KT K ti [fm]) (k8 : KT K tf [fm]) (k9 : KT K ta [fm]) :
    ∃ fn fp fd fm fs ar tl tc tr aw tb te tp ti tf ta, Tabs K mg fn fp fd fm fs ar tl tc tr aw tb te tp ti tf ta ∧ mg "read_number" = some (.ref fn) ∧ mg "read_price" = some (.ref fp) ∧ mg "read_deeds" = some (.ref fd) ∧ mg "read_name" = some (.ref fm) ∧ mg "read_signs" = some (.ref fs) :=
  ⟨fn, fp, fd, fm, fs, ar, tl, tc, tr, aw, tb, te, tp, ti, tf, ta, ⟨⟨_, PySem.W.mg_of X G en, rfl⟩, ⟨_, PySem.W.mg_of X G er, rfl⟩, ⟨_, PySem.W.mg_of X G ew, rfl⟩,
    ⟨nr, _, _, _, lr, ⟨rfl, rfl, rfl⟩, rfl, .cons rfl rfl (.cons rfl rfl (.cons rfl rfl .nil))⟩, ⟨nw, _, _, _, lw, ⟨rfl, rfl, rfl⟩, rfl, .cons rfl rfl (.cons rfl rfl (.cons rfl rfl (.cons rfl rfl (.cons rfl rfl (.cons rfl rfl .nil)))))⟩, k1, k2, k3, k4, k5, k6, k7, k8, k9⟩,
    PySem.W.mg_of X G en, PySem.W.mg_of X G ep1, PySem.W.mg_of X G ed, PySem.W.mg_of X G em, PySem.W.mg_of X G es⟩
theorem mi_mk {h : Heap} (X : K.In h) (G : h.Ns mainGlobals mg) {C : Addr} (e : PySem.W.nsIn K mainGlobals "Measures" = some (some (.ref C))) (a : PySem.W.findIn K (.ref C) "__class__" = some (some (.builtin "object.__class__"))) (n : PySem.W.specialIn K (.builtin "object.__class__") "__get__" = some (some (.builtin "getset_descriptor.__get__"))) (t : PySem.W.takesIn K (.builtin "object.__class__") = some true) (m : PySem.W.mroIn K C (.type "object") = some true) (k : PySem.W.kitOne K (.ref C) (.ref C) = some true) : ∃ C, mg "Measures" = some (.ref C) ∧ MI K C :=
  ⟨C, PySem.W.mg_of X G e, a, n, t, m, k⟩
theorem fnv_at {base : Heap} {j k : Nat} {x : Str} {ps : List Str} {sp : Sp} {f : Addr} (h : Own P w K mg base j x ps sp) (e : mg x = some (.ref f)) (hk : j ≤ k) : FnV P w K mg base k ps f sp := by
  obtain ⟨g, e', F⟩ := h.fnV
  rw [e] at e'
  cases e'
  exact FnV.mono F hk
structure Dfs (K : PySem.W.Frag) (mg : Str → Option Value) (C : Addr) : Prop where
  d1 : Def K mg "is_whole" s_is_whole
  d2 : Def K mg "is_within" s_is_within
  d3 : Def K mg "refuse_bad_measures" s_refuse_bad_measures
  d4 : DefI K C "Measures.__init__" s_Measures___init__
  d5 : DefM K C "numbers" "Measures.numbers" s_Measures_numbers
  d6 : Def K mg "is_text_of" s_is_text_of
  d7 : Def K mg "is_name" s_is_name
  d8 : Def K mg "number_text" s_number_text
  d9 : Def K mg "numbers_text" s_numbers_text
  d10 : Def K mg "wish_text" s_wish_text
  d11 : Def K mg "deed_text" s_deed_text
  d12 : Def K mg "deeds_text" s_deeds_text
  d13 : Def K mg "net_text" s_net_text
  d14 : Def K mg "is_number" s_is_number
  d15 : Def K mg "read_number" s_read_number
  d16 : Def K mg "read_price" s_read_price
  d17 : Def K mg "read_deed" s_read_deed
  d18 : Def K mg "read_deeds" s_read_deeds
  d19 : Def K mg "read_name" s_read_name
  d20 : Def K mg "read_signs" s_read_signs
  d21 : Def K mg "read_words" s_read_words
  d22 : Def K mg "read_measures" s_read_measures
  d23 : Def K mg "read_wish" s_read_wish
  d24 : Def K mg "read_row" s_read_row
  d25 : Def K mg "read_rows" s_read_rows
  d26 : Def K mg "read_net" s_read_net
structure Gls (mg : Str → Option Value) : Prop where
  none : ∃ u, mg "NONE" = some u ∧ RelV (.str (Str.ofString "none")) u
  nod : ∃ u, mg "NO_DELAYS" = some u ∧ RelV (.str (Str.ofString "-")) u
  mf : ∃ u, mg "MOST_FIGURES" = some u ∧ RelV (.int 5) u
  fig : ∃ u, mg "FIGURES" = some u ∧ RelV (.str (Str.ofString "0123456789")) u
  ml : ∃ u, mg "MOST_LETTERS" = some u ∧ RelV (.int 8) u
theorem last {fa a ak fn fp fd fm fs ar tl tc tr aw tb te tp ti tf ta : Addr} {bs : List Addr} (D : Dfs K mg C) (G : Gls mg)
    (L1 : Def K mg "_law_draw" s__law_draw) (L2 : Def K mg "_law_next" s__law_next) (L3 : Def K mg "_law_number" s__law_number) (L4 : Def K mg "_law_measures" s__law_measures) (L5 : Def K mg "_law_text" s__law_text) (L6 : Def K mg "_law_name" s__law_name) (L7 : Def K mg "_law_price" s__law_price) (L8 : Def K mg "_law_deeds" s__law_deeds) (L9 : Def K mg "_law_wish" s__law_wish) (LA : Def K mg "_law_net" s__law_net) (LB : Def K mg "_law_shown" s__law_shown) (LC : Def K mg "_law_deeds_text" s__law_deeds_text) (LD : Def K mg "_law_rows" s__law_rows) (DE : Def K mg "law" s_law)
    (T : ClsD K mg "Measures" C at_Measures) (mi : MI K C) (B : BdAt K mg a bs) (Tb : Tabs K mg fn fp fd fm fs ar tl tc tr aw tb te tp ti tf ta) (e1 : mg "read_number" = some (.ref fn)) (e2 : mg "read_price" = some (.ref fp)) (e3 : mg "read_deeds" = some (.ref fd)) (e4 : mg "read_name" = some (.ref fm)) (e5 : mg "read_signs" = some (.ref fs))
    (gk : ∃ u, mg "KINDS" = some u ∧ RelV (.ref ak) u) (kk : KTs K ak kz) (hb : Blt mg) (hzip : mg "zip" = none) (hen : mg "enumerate" = none) (hsum : mg "sum" = none) (hmg : mg "law" = some (.ref fa)) :
    ∃ fd : FuncData, (∀ (s : Shared) (u : Value), BindsTo s fd ⟨[u], []⟩ [("_law_script", u)]) ∧ ∀ base : Heap, K.In base → base.Ns mainGlobals mg → FnOk P w K mg base CX0 10 fa fd ["_law_script"] (sp_law K) := by
  obtain ⟨f, fd', hm, F⟩ := DE
  have e := hmg.symm.trans hm
  cases e
  refine ⟨fd', ?_, fun base _ _ => ?_⟩
  · obtain ⟨oc, od, kV, doc, pm, an, cdv, ct, osl, rfl, lk, hcd⟩ := F.ex
    exact fun s u => .of_eq rfl
  · have mk := own_minit D.d4 T (own_rbm (P := P) (w := w) (base := base) D.d3 hb hzip B (own_within D.d2 (own_whole D.d1 hb)))
    have mn := own_mnum (P := P) (w := w) (base := base) D.d5 T
    have tx := own_text (P := P) (w := w) (base := base) D.d6 hb
    have nt := own_net D.d13 T mn (own_nums D.d9 (own_num (P := P) (w := w) (base := base) D.d8 hb G.none)) (own_deeds D.d12 G.none (own_deed (P := P) (w := w) (base := base) D.d11 hb G.nod)) (own_wish (P := P) (w := w) (base := base) D.d10)
    have rn := own_rnum D.d15 hb (own_isnum (P := P) (w := w) (base := base) D.d14 hb G.mf G.fig)
    have Fs : Fns P w K mg base fn fp fd fm fs := ⟨fnv_at rn e1 (by decide), fnv_at (own_rprice D.d16 G.none rn) e2 (by decide), fnv_at (own_rdeeds D.d18 hb G.none (own_rdeed D.d17 hb G.nod rn)) e3 (by decide), fnv_at (own_rname D.d19 (own_isn D.d7 G.ml tx)) e4 (by decide), fnv_at (own_rsigns D.d20 hb tx) e5 (by decide)⟩
    have rw' := own_rwords (P := P) (w := w) (base := base) D.d21 hb hzip
    have rm := own_rmeas D.d22 hb B Tb.gn Fs.n rw'
    have rr := own_rrows D.d25 hb hen gk kk (own_rrow D.d24 Tb Fs rw' (own_rwish D.d23 hb Tb Fs rw'))
    have re := own_rnet D.d26 hb T mk rm rr
    have nx := own_next (P := P) (w := w) (base := base) L2
    have nu := own_lnum L3 nx
    have dr := own_draw (P := P) (w := w) (base := base) L1
    exact law_fn F hb hsum T mi mk mn dr (own_lms L4 nx) (own_lnet LA dr nx nu (own_lprice L7 nx nu) (own_ldeeds L8 hb nx nu) (own_lwish L9 nx nu (own_ltext L5 hb nx) (own_lname L6 hb nx))) (own_lrows LD hb (own_shown LB hb) (own_ldst LC hb)) nt re
end
end K81
namespace PySem.W.Fast
def tw14590043211855063329 : Nat := 0
def tw17579686395424733799 : Nat := 0
def tw10054907954905483515 : Nat := 0
def tw5328923620568268226 : Nat := 0
def tw3863596186338462731 : Nat := 0
def tw8473064872382670859 : Nat := 0
def tw7708608212669791237 : Nat := 0
def tw10173716830276731474 : Nat := 0
def tw16878112009830072287 : Nat := 0
def tw4460856514918357557 : Nat := 0
def tw104475500992476423 : Nat := 0
def tw14717168688122803081 : Nat := 0
end PySem.W.Fast
open PySem PySem.W PyProof.Rows
set_option maxHeartbeats 0 in
theorem PySem.Challenge.cw_roadnet_k81_nets_written_and_read_holds : PySem.Challenge.rw_roadnet_k81_nets_written_and_read.Holds := by
  w_on; o_law; k_head; (case hw => w_witness2)
  k_fill
  refine L2.walk_ofK (l := PySem.Challenge.rw_roadnet_k81_nets_written_and_read) (n := 63) (k := 10) (x := "_law_script") (CX := L2.CX0) (sp := K81.sp_law) rfl (by decide) rfl ⟨rfl, by decide, by decide⟩ (fun w h Y => PySem.W.kIn_of Y) ?F (fun _ _ a ns hl _ hS => ⟨a, ns, rfl, hS, hl, fun _ => rfl⟩) fun _ _ _ _ z => z
  case F =>
    intro w mg fa h KX G hmg
    have D_is_whole : L2.Def (L2.KOf KX) mg "is_whole" K81.s_is_whole := by
      dsimp only [L2.KOf]
      refine' L2.def_mk KX G ?a ?l ?c ?k
      (case a => k_is); (case l => k_is); (case c => k_is); (case k => k_is)
    have D_is_within : L2.Def (L2.KOf KX) mg "is_within" K81.s_is_within := by
      dsimp only [L2.KOf]
      refine' L2.def_mk KX G ?a ?l ?c ?k
      (case a => k_is); (case l => k_is); (case c => k_is); (case k => k_is)
    have D_refuse_bad_measures : L2.Def (L2.KOf KX) mg "refuse_bad_measures" K81.s_refuse_bad_measures := by
      dsimp only [L2.KOf]
      refine' L2.def_mk KX G ?a ?l ?c ?k
      (case a => k_is); (case l => k_is); (case c => k_is); (case k => k_is)
    have D_is_text_of : L2.Def (L2.KOf KX) mg "is_text_of" K81.s_is_text_of := by
      dsimp only [L2.KOf]
      refine' L2.def_mk KX G ?a ?l ?c ?k
      (case a => k_is); (case l => k_is); (case c => k_is); (case k => k_is)
    have D_is_name : L2.Def (L2.KOf KX) mg "is_name" K81.s_is_name := by
      dsimp only [L2.KOf]
      refine' L2.def_mk KX G ?a ?l ?c ?k
      (case a => k_is); (case l => k_is); (case c => k_is); (case k => k_is)
    have D_number_text : L2.Def (L2.KOf KX) mg "number_text" K81.s_number_text := by
      dsimp only [L2.KOf]
      refine' L2.def_mk KX G ?a ?l ?c ?k
      (case a => k_is); (case l => k_is); (case c => k_is); (case k => k_is)
    have D_numbers_text : L2.Def (L2.KOf KX) mg "numbers_text" K81.s_numbers_text := by
      dsimp only [L2.KOf]
      refine' L2.def_mk KX G ?a ?l ?c ?k
      (case a => k_is); (case l => k_is); (case c => k_is); (case k => k_is)
    have D_wish_text : L2.Def (L2.KOf KX) mg "wish_text" K81.s_wish_text := by
      dsimp only [L2.KOf]
      refine' L2.def_mk KX G ?a ?l ?c ?k
      (case a => k_is); (case l => k_is); (case c => k_is); (case k => k_is)
    have D_deed_text : L2.Def (L2.KOf KX) mg "deed_text" K81.s_deed_text := by
      dsimp only [L2.KOf]
      refine' L2.def_mk KX G ?a ?l ?c ?k
      (case a => k_is); (case l => k_is); (case c => k_is); (case k => k_is)
    have D_deeds_text : L2.Def (L2.KOf KX) mg "deeds_text" K81.s_deeds_text := by
      dsimp only [L2.KOf]
      refine' L2.def_mk KX G ?a ?l ?c ?k
      (case a => k_is); (case l => k_is); (case c => k_is); (case k => k_is)
    have D_net_text : L2.Def (L2.KOf KX) mg "net_text" K81.s_net_text := by
      dsimp only [L2.KOf]
      refine' L2.def_mk KX G ?a ?l ?c ?k
      (case a => k_is); (case l => k_is); (case c => k_is); (case k => k_is)
    have D_is_number : L2.Def (L2.KOf KX) mg "is_number" K81.s_is_number := by
      dsimp only [L2.KOf]
      refine' L2.def_mk KX G ?a ?l ?c ?k
      (case a => k_is); (case l => k_is); (case c => k_is); (case k => k_is)
    have D_read_number : L2.Def (L2.KOf KX) mg "read_number" K81.s_read_number := by
      dsimp only [L2.KOf]
      refine' L2.def_mk KX G ?a ?l ?c ?k
      (case a => k_is); (case l => k_is); (case c => k_is); (case k => k_is)
    have D_read_price : L2.Def (L2.KOf KX) mg "read_price" K81.s_read_price := by
      dsimp only [L2.KOf]
      refine' L2.def_mk KX G ?a ?l ?c ?k
      (case a => k_is); (case l => k_is); (case c => k_is); (case k => k_is)
    have D_read_deed : L2.Def (L2.KOf KX) mg "read_deed" K81.s_read_deed := by
      dsimp only [L2.KOf]
      refine' L2.def_mk KX G ?a ?l ?c ?k
      (case a => k_is); (case l => k_is); (case c => k_is); (case k => k_is)
    have D_read_deeds : L2.Def (L2.KOf KX) mg "read_deeds" K81.s_read_deeds := by
      dsimp only [L2.KOf]
      refine' L2.def_mk KX G ?a ?l ?c ?k
      (case a => k_is); (case l => k_is); (case c => k_is); (case k => k_is)
    have D_read_name : L2.Def (L2.KOf KX) mg "read_name" K81.s_read_name := by
      dsimp only [L2.KOf]
      refine' L2.def_mk KX G ?a ?l ?c ?k
      (case a => k_is); (case l => k_is); (case c => k_is); (case k => k_is)
    have D_read_signs : L2.Def (L2.KOf KX) mg "read_signs" K81.s_read_signs := by
      dsimp only [L2.KOf]
      refine' L2.def_mk KX G ?a ?l ?c ?k
      (case a => k_is); (case l => k_is); (case c => k_is); (case k => k_is)
    have D_read_words : L2.Def (L2.KOf KX) mg "read_words" K81.s_read_words := by
      dsimp only [L2.KOf]
      refine' L2.def_mk KX G ?a ?l ?c ?k
      (case a => k_is); (case l => k_is); (case c => k_is); (case k => k_is)
    have D_read_measures : L2.Def (L2.KOf KX) mg "read_measures" K81.s_read_measures := by
      dsimp only [L2.KOf]
      refine' L2.def_mk KX G ?a ?l ?c ?k
      (case a => k_is); (case l => k_is); (case c => k_is); (case k => k_is)
    have D_read_wish : L2.Def (L2.KOf KX) mg "read_wish" K81.s_read_wish := by
      dsimp only [L2.KOf]
      refine' L2.def_mk KX G ?a ?l ?c ?k
      (case a => k_is); (case l => k_is); (case c => k_is); (case k => k_is)
    have D_read_row : L2.Def (L2.KOf KX) mg "read_row" K81.s_read_row := by
      dsimp only [L2.KOf]
      refine' L2.def_mk KX G ?a ?l ?c ?k
      (case a => k_is); (case l => k_is); (case c => k_is); (case k => k_is)
    have D_read_rows : L2.Def (L2.KOf KX) mg "read_rows" K81.s_read_rows := by
      dsimp only [L2.KOf]
      refine' L2.def_mk KX G ?a ?l ?c ?k
      (case a => k_is); (case l => k_is); (case c => k_is); (case k => k_is)
    have D_read_net : L2.Def (L2.KOf KX) mg "read_net" K81.s_read_net := by
      dsimp only [L2.KOf]
      refine' L2.def_mk KX G ?a ?l ?c ?k
      (case a => k_is); (case l => k_is); (case c => k_is); (case k => k_is)
    have D__law_draw : L2.Def (L2.KOf KX) mg "_law_draw" K81.s__law_draw := by
      dsimp only [L2.KOf]
      refine' L2.def_mk KX G ?a ?l ?c ?k
      (case a => k_is); (case l => k_is); (case c => k_is); (case k => k_is)
    have D__law_next : L2.Def (L2.KOf KX) mg "_law_next" K81.s__law_next := by
      dsimp only [L2.KOf]
      refine' L2.def_mk KX G ?a ?l ?c ?k
      (case a => k_is); (case l => k_is); (case c => k_is); (case k => k_is)
    have D__law_number : L2.Def (L2.KOf KX) mg "_law_number" K81.s__law_number := by
      dsimp only [L2.KOf]
      refine' L2.def_mk KX G ?a ?l ?c ?k
      (case a => k_is); (case l => k_is); (case c => k_is); (case k => k_is)
    have D__law_measures : L2.Def (L2.KOf KX) mg "_law_measures" K81.s__law_measures := by
      dsimp only [L2.KOf]
      refine' L2.def_mk KX G ?a ?l ?c ?k
      (case a => k_is); (case l => k_is); (case c => k_is); (case k => k_is)
    have D__law_text : L2.Def (L2.KOf KX) mg "_law_text" K81.s__law_text := by
      dsimp only [L2.KOf]
      refine' L2.def_mk KX G ?a ?l ?c ?k
      (case a => k_is); (case l => k_is); (case c => k_is); (case k => k_is)
    have D__law_name : L2.Def (L2.KOf KX) mg "_law_name" K81.s__law_name := by
      dsimp only [L2.KOf]
      refine' L2.def_mk KX G ?a ?l ?c ?k
      (case a => k_is); (case l => k_is); (case c => k_is); (case k => k_is)
    have D__law_price : L2.Def (L2.KOf KX) mg "_law_price" K81.s__law_price := by
      dsimp only [L2.KOf]
      refine' L2.def_mk KX G ?a ?l ?c ?k
      (case a => k_is); (case l => k_is); (case c => k_is); (case k => k_is)
    have D__law_deeds : L2.Def (L2.KOf KX) mg "_law_deeds" K81.s__law_deeds := by
      dsimp only [L2.KOf]
      refine' L2.def_mk KX G ?a ?l ?c ?k
      (case a => k_is); (case l => k_is); (case c => k_is); (case k => k_is)
    have D__law_wish : L2.Def (L2.KOf KX) mg "_law_wish" K81.s__law_wish := by
      dsimp only [L2.KOf]
      refine' L2.def_mk KX G ?a ?l ?c ?k
      (case a => k_is); (case l => k_is); (case c => k_is); (case k => k_is)
    have D__law_net : L2.Def (L2.KOf KX) mg "_law_net" K81.s__law_net := by
      dsimp only [L2.KOf]
      refine' L2.def_mk KX G ?a ?l ?c ?k
      (case a => k_is); (case l => k_is); (case c => k_is); (case k => k_is)
    have D__law_shown : L2.Def (L2.KOf KX) mg "_law_shown" K81.s__law_shown := by
      dsimp only [L2.KOf]
      refine' L2.def_mk KX G ?a ?l ?c ?k
      (case a => k_is); (case l => k_is); (case c => k_is); (case k => k_is)
    have D__law_deeds_text : L2.Def (L2.KOf KX) mg "_law_deeds_text" K81.s__law_deeds_text := by
      dsimp only [L2.KOf]
      refine' L2.def_mk KX G ?a ?l ?c ?k
      (case a => k_is); (case l => k_is); (case c => k_is); (case k => k_is)
    have D__law_rows : L2.Def (L2.KOf KX) mg "_law_rows" K81.s__law_rows := by
      dsimp only [L2.KOf]
      refine' L2.def_mk KX G ?a ?l ?c ?k
      (case a => k_is); (case l => k_is); (case c => k_is); (case k => k_is)
    have D_law : L2.Def (L2.KOf KX) mg "law" K81.s_law := by
      dsimp only [L2.KOf]
      refine' L2.def_mk KX G ?a ?l ?c ?k
      (case a => k_is); (case l => k_is); (case c => k_is); (case k => k_is)
    have Z_Measures : ∃ C, L2.ClsD (L2.KOf KX) mg "Measures" C K81.at_Measures ∧ L2.DefI (L2.KOf KX) C "Measures.__init__" K81.s_Measures___init__ ∧ L2.DefM (L2.KOf KX) C "numbers" "Measures.numbers" K81.s_Measures_numbers := by
      dsimp only [L2.KOf]
      refine' K81.mk_Measures KX G ?aC ?pg ?hd ?po ?sa ?n0 ?n1 ?n2 ?n3 ?n4 ?n5 ?n6 ?n7 ?n8 ?n9 ?mk ?kc ?a0 ?i0 ?l0 ?c0 ?k0 ?a1 ?i1 ?l1 ?c1 ?k1
      (case aC => k_is)
      (case pg => k_is)
      (case hd => k_is)
      (case po => k_is)
      (case sa => k_is)
      (case n0 => k_is)
      (case n1 => k_is)
      (case n2 => k_is)
      (case n3 => k_is)
      (case n4 => k_is)
      (case n5 => k_is)
      (case n6 => k_is)
      (case n7 => k_is)
      (case n8 => k_is)
      (case n9 => k_is)
      (case mk => k_is)
      (case kc => k_is)
      (case a0 => k_is)
      (case i0 => k_is)
      (case l0 => k_is)
      (case c0 => k_is)
      (case k0 => k_is)
      (case a1 => k_is)
      (case i1 => k_is)
      (case l1 => k_is)
      (case c1 => k_is)
      (case k1 => k_is)
    obtain ⟨C_Measures, T_Measures, DI_Measures, DM_Measures_numbers⟩ := Z_Measures
    have hb : L2.Blt mg := by
      refine' L2.blt_mk (K := L2.KOf KX) KX G ?b1 ?b2 ?b3 ?b4 ?b5 ?b6 ?b7 ?b8 ?b9 ?b10 ?b11 ?b12 ?b13
      all_goals (dsimp only [L2.KOf]; k_is)
    have hzip : mg "zip" = none := by
      have z : PySem.W.nsIn (L2.KOf KX) mainGlobals "zip" = some none := by
        dsimp only [L2.KOf]
        k_is
      exact PySem.W.mg_none_of KX G z
    have hen : mg "enumerate" = none := by
      have z : PySem.W.nsIn (L2.KOf KX) mainGlobals "enumerate" = some none := by
        dsimp only [L2.KOf]
        k_is
      exact PySem.W.mg_none_of KX G z
    have hsum : mg "sum" = none := by
      have z : PySem.W.nsIn (L2.KOf KX) mainGlobals "sum" = some none := by
        dsimp only [L2.KOf]
        k_is
      exact PySem.W.mg_none_of KX G z
    have g1 : ∃ u, mg "NONE" = some u ∧ L2.RelV (.str (Str.ofString "none")) u := by
      refine' K81.glb_str KX G ?a
      (case a => k_is)
    have g2 : ∃ u, mg "NO_DELAYS" = some u ∧ L2.RelV (.str (Str.ofString "-")) u := by
      refine' K81.glb_str KX G ?a
      (case a => k_is)
    have g3 : ∃ u, mg "MOST_FIGURES" = some u ∧ L2.RelV (.int 5) u := by
      refine' L2.glb_mk KX G ?a
      (case a => k_is)
    have g4 : ∃ u, mg "FIGURES" = some u ∧ L2.RelV (.str (Str.ofString "0123456789")) u := by
      refine' K81.glb_str KX G ?a
      (case a => k_is)
    have g5 : ∃ u, mg "MOST_LETTERS" = some u ∧ L2.RelV (.int 8) u := by
      refine' L2.glb_mk KX G ?a
      (case a => k_is)
    have gB : ∃ a bs, K81.BdAt (L2.KOf KX) mg a bs := by
      dsimp only [L2.KOf]
      refine' K81.bdAt_mk KX G ?e ?l (K81.tup3 ?l0) (K81.tup3 ?l1) (K81.tup3 ?l2) (K81.tup3 ?l3) (K81.tup3 ?l4) (K81.tup3 ?l5) (K81.tup3 ?l6) (K81.tup3 ?l7) (K81.tup3 ?l8) (K81.tup3 ?l9)
      (case e => k_is)
      (case l => k_is)
      (case l0 => k_is)
      (case l1 => k_is)
      (case l2 => k_is)
      (case l3 => k_is)
      (case l4 => k_is)
      (case l5 => k_is)
      (case l6 => k_is)
      (case l7 => k_is)
      (case l8 => k_is)
      (case l9 => k_is)
    obtain ⟨pa, bs, gB⟩ := gB
    have gK : ∃ ak, (∃ u, mg "KINDS" = some u ∧ L2.RelV (.ref ak) u) ∧ L2.KTs (L2.KOf KX) ak K81.kz := by
      dsimp only [L2.KOf]
      refine' K81.kinds_mk KX G ?e ?l
      (case e => k_is)
      (case l => k_is)
    obtain ⟨ak, gK, kk⟩ := gK
    have mi : ∃ C, mg "Measures" = some (.ref C) ∧ K81.MI (L2.KOf KX) C := by
      dsimp only [L2.KOf]
      refine' K81.mi_mk KX G ?e ?a ?n ?t ?m ?k
      (case e => k_is)
      (case a => k_is)
      (case n => k_is)
      (case t => k_is)
      (case m => k_is)
      (case k => kernel_rfl)
    obtain ⟨C', eC', mi⟩ := mi
    have eC := T_Measures.mgC
    rw [eC'] at eC
    cases eC
    have gT : ∃ fn fp fd fm fs ar tl tc tr aw tb te tp ti tf ta, K81.Tabs (L2.KOf KX) mg fn fp fd fm fs ar tl tc tr aw tb te tp ti tf ta ∧ mg "read_number" = some (.ref fn) ∧ mg "read_price" = some (.ref fp) ∧ mg "read_deeds" = some (.ref fd) ∧ mg "read_name" = some (.ref fm) ∧ mg "read_signs" = some (.ref fs) := by
      dsimp only [L2.KOf]
      refine' K81.tabs_mk KX G ?en ?ep1 ?ed ?em ?es ?er ?ew ?lr ?lw ?nr ?nw (K81.kt3 ?k1) (K81.kt4 ?k2) (K81.kt3 ?k3) (K81.kt1 ?k4) (K81.kt1 ?k5) (K81.kt2 ?k6) (K81.kt1 ?k7) (K81.kt1 ?k8) (K81.kt1 ?k9)
      (case en => k_is)
      (case ep1 => k_is)
      (case ed => k_is)
      (case em => k_is)
      (case es => k_is)
      (case er => k_is)
      (case ew => k_is)
      (case lr => k_is)
      (case lw => k_is)
      (case nr => rfl)
      (case nw => rfl)
      (case k1 => k_is)
      (case k2 => k_is)
      (case k3 => k_is)
      (case k4 => k_is)
      (case k5 => k_is)
      (case k6 => k_is)
      (case k7 => k_is)
      (case k8 => k_is)
      (case k9 => k_is)
    obtain ⟨fn, fp, fd, fm, fs, ar, tl, tc, tr, aw, tb, te, tp, ti, tf, ta, gT, e1, e2, e3, e4, e5⟩ := gT
    exact K81.last ⟨D_is_whole, D_is_within, D_refuse_bad_measures, DI_Measures, DM_Measures_numbers, D_is_text_of, D_is_name, D_number_text, D_numbers_text, D_wish_text, D_deed_text, D_deeds_text, D_net_text, D_is_number, D_read_number, D_read_price, D_read_deed, D_read_deeds, D_read_name, D_read_signs, D_read_words, D_read_measures, D_read_wish, D_read_row, D_read_rows, D_read_net⟩ ⟨g1, g2, g3, g4, g5⟩ D__law_draw D__law_next D__law_number D__law_measures D__law_text D__law_name D__law_price D__law_deeds D__law_wish D__law_net D__law_shown D__law_deeds_text D__law_rows D_law T_Measures mi gB gT e1 e2 e3 e4 e5 gK kk hb hzip hen hsum hmg
#print axioms PySem.Challenge.cw_roadnet_k81_nets_written_and_read_holds
