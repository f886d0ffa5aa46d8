import PyProof.Rows.All
import Wide.All
import OpenK.AllK
import Wide.FinOn
import Lean
import PyProof.EqAt
import PyProof.EqKinds
import PyProof.TupleCall
import PyProof.NeData
import PyProof.EqLayable
import PyProof.ConsumeWalk
import PyProof.EnumFor
import PyProof.EnumMake
import PyProof.EnumStmt
import PyProof.ZipIter
import PyProof.Rows.ZipGen
import PyProof.TupleIter
import PyProof.WalksMore
import PyProof.StrWalks
import PyProof.FString5
import PyProof.CallStr
import KE.KDictList
import KE.KDictSum
import PyProof.Rows.SortWalk
import PyProof.ListRange
import PyProof.DictWalks
import PyProof.DictItems
import KE.KEqDict
import PyProof.WalkInts
import KE.KSortTup
import PyProof.DictUpdate
import KE.KNest
import KE.KLam
import KE.KNestM
import KE.KMinKey
import PyProof.MeetsStr
import PyProof.StationsW
import PyProof.ExcClass2
import PyProof.ExcInit
import PyProof.Rows.FStr
import PyProof.FString
import PyProof.ExcBaseAll.ValueError
import OpenK.KOwn
import PyProof.RulesAs
import PyProof.NsDelKeeps
import KE.KIsAll
import PyProof.ExcArgs
import OpenK.KCls
import PyProof.InstStoreFacts
import OpenK.KMake
import PyProof.StrLawsIn
import PyProof.StrBlockH
import PyProof.Rows.StrSplitMax
import PyProof.Rows.StrNews2
import KE.KIntText
import KE.KTabLook
import KE.KDictOf
import PyProof.AttrMissHeap
import PyProof.Claim2Refuses
import KE.KDictLaws
import PyProof.MeetsDict
import PyProof.Rows.MatchSeqLen
import PySem.Challenge.RW_roadnet_k82_rows_that_are_none
set_option Elab.async false
set_option linter.all false
set_option maxRecDepth 100000
universe u v
theorem gZ0 {α:Type u} {a:α} {l:List α}:(a::l)[0]?=some a:=rfl
theorem gZ1 {α:Type u} {a:α} {l:List α} {i:Nat}:(a::l)[i+1]?=l[i]?:=rfl
theorem sZ0 {α:Type u} {x:α} {xs:List α} {a:α}:(x::xs).set 0 a=a::xs:=rfl
theorem sZ1 {α:Type u} {x:α} {xs:List α} {n:Nat} {a:α}:(x::xs).set (n+1) a=x::xs.set n a:=rfl
theorem lZ0 {α:Type u}:([]:List α).length=0:=rfl
theorem lZ1 {α:Type u} {a:α} {l:List α}:(a::l).length=l.length+1:=rfl
theorem oZ0 {α:Type u} (a b:α):(some a=some b)=(a=b):=Option.some.injEq a b
theorem aZ0 {α:Type u} (l:List α):l++[]=l:=List.append_nil l
theorem mZ0 {α:Type u} {β:Type v} {f:α→β}:[].map f=[]:=rfl
theorem mZ1 {α:Type u} {β:Type v} {f:α→β} {a:α} {l:List α}:(a::l).map f=f a::l.map f:=rfl
theorem eZ1 {α:Sort u} {p:α→Prop} {b:Prop}:(∃ x,b∧p x)↔b∧∃ x,p x:=exists_and_left
theorem cZ0 {α:Type u} (a:α) (l:List α) (b:α) (m:List α):(a::l=b::m)=(a=b∧l=m):=List.cons.injEq a l b m
theorem eZ0 {α:Sort u} {p:α→Prop} {b:α}:(∃ a,b=a∧p a)↔p b:=exists_eq_left'
namespace L2
open PySem PySem.Spec PyProof.Rows
abbrev Key:=Sum Int Str
def keyIs:Key→Value→Bool
  | .inl k,v=>Value.isInt k v
  | .inr x,v=>Value.isStrOf x v
def keyH (w:World):Key→Int
  | .inl k=>hashInt k
  | .inr x=>hashStr w x
theorem keyIs_shape:∀ {k:Key} {v:Value},keyIs k v=true→(∃ i t,k=Sum.inl i∧v=Value.int i t)∨(∃ x t,k=Sum.inr x∧v=Value.str x t)
  | .inl i,v,h=>by
    obtain ⟨t,e⟩:=Value.isInt_shape (k:=i) (v:=v) h
    exact .inl ⟨i,t,rfl,e⟩
  | .inr x,v,h=>by
    obtain ⟨t,e⟩:=Value.isStrOf_shape (x:=x) (v:=v) h
    exact .inr ⟨x,t,rfl,e⟩
theorem keyIs_int (i:Int) (t:Tok):keyIs (.inl i) (.int i t)=true:=by simp [keyIs,Value.isInt]
theorem keyIs_str (x:Str) (t:Tok):keyIs (.inr x) (.str x t)=true:=by simp [keyIs,Value.isStrOf]
theorem key_ll (a b:Int):decide ((Sum.inl a:Key)=Sum.inl b)=(a == b):=by
  by_cases e:a=b
  · subst e; simp
  · have h:¬ (Sum.inl a:Key)=Sum.inl b:=fun q=>e (Sum.inl.inj q)
    rw [decide_eq_false h]
    exact (beq_eq_false_iff_ne.mpr e).symm
theorem key_rr (a b:Str):decide ((Sum.inr a:Key)=Sum.inr b)=decide (a=b):=by
  by_cases e:a=b
  · subst e; simp
  · have h:¬ (Sum.inr a:Key)=Sum.inr b:=fun q=>e (Sum.inr.inj q)
    rw [decide_eq_false h,decide_eq_false e]
theorem key_lr (a:Int) (b:Str):decide ((Sum.inl a:Key)=Sum.inr b)=false:=decide_eq_false (fun q=>nomatch q)
theorem key_rl (a:Str) (b:Int):decide ((Sum.inr a:Key)=Sum.inl b)=false:=decide_eq_false (fun q=>nomatch q)
def mixKind (prog:Program) (w:World):PySem.KeyKind prog w Key where
  is:=keyIs
  hash:=keyH w
  inj:=fun v a b ha hb=>by
    rcases keyIs_shape ha with ⟨i,t,rfl,rfl⟩|⟨x,t,rfl,rfl⟩
    · rcases keyIs_shape hb with ⟨j,u,rfl,e⟩|⟨y,u,rfl,e⟩
      · injection e with e1 _; rw [e1]
      · exact nomatch e
    · rcases keyIs_shape hb with ⟨j,u,rfl,e⟩|⟨y,u,rfl,e⟩
      · exact nomatch e
      · injection e with e1 _; rw [e1]
  byValue:=fun k v h=>by
    rcases keyIs_shape h with ⟨i,t,rfl,rfl⟩|⟨x,t,rfl,rfl⟩ <;> rfl
  pyHash:=fun hv h=>by
    rcases keyIs_shape hv with ⟨i,t,rfl,rfl⟩|⟨x,t,rfl,rfl⟩
    · exact wpAny_pyHash_int h
    · exact wpAny_pyHash_str h
  eqBool:=fun hu hv h=>by
    rcases keyIs_shape hu with ⟨i,t,rfl,rfl⟩|⟨x,t,rfl,rfl⟩
    · rcases keyIs_shape hv with ⟨j,u,rfl,rfl⟩|⟨y,u,rfl,rfl⟩
      · rw [key_ll] at h; exact wpAny_eqBool_int h
      · rw [key_lr] at h; exact SeqAt.EqAt.int_str i t y u _ _ _ _ h
    · rcases keyIs_shape hv with ⟨j,u,rfl,rfl⟩|⟨y,u,rfl,rfl⟩
      · rw [key_rl] at h; exact SeqAt.EqAt.str_int x t j u _ _ _ _ h
      · rw [key_rr] at h; exact wpAny_eqBool_str h
  «strs»:=fun k x t v h=>by
    rcases keyIs_shape h with ⟨i,u,rfl,e⟩|⟨y,u,rfl,e⟩
    · exact nomatch e
    · injection e with e1 _
      subst e1
      cases v <;> rfl
theorem mixKind_int (prog:Program) (w:World) (i:Int) (t:Tok):(mixKind prog w).is (.inl i) (.int i t)=true:=keyIs_int i t
theorem mixKind_str (prog:Program) (w:World) (x:Str) (t:Tok):(mixKind prog w).is (.inr x) (.str x t)=true:=keyIs_str x t
inductive V where
  | non|bl (b:Bool)|int (i:Int)|str (x:Str)|byt (b:Array UInt8)|flt (b:UInt64)|ref (a:Addr)|ty (n:String)
  deriving DecidableEq
def RelV:V→Value→Prop
  | .non,u=>u=Value.none
  | .bl b,u=>u=Value.bool b
  | .int i,u=>∃ t,u=Value.int i t
  | .str x,u=>∃ t,u=Value.str x t
  | .byt b,u=>∃ t,u=Value.bytes b t
  | .flt b,u=>∃ t,u=Value.float b t
  | .ref a,u=>u=Value.ref a
  | .ty n,u=>u=Value.type n
abbrev Vals:List V→List Value→Prop:=Paired RelV
theorem Vals.length {xs:List V} {us:List Value} (r:Vals xs us):xs.length=us.length:=Paired.length r
theorem Vals.get:∀ {xs:List V} {us:List Value} {i:Nat} {x:V},Vals xs us→xs[i]?=some x→∃ u,us[i]?=some u∧RelV x u
  | _,_,_,_,.nil,e=>by simp at e
  | _,_,0,_,.cons r _,e=>by simp at e; subst e; exact ⟨_,rfl,r⟩
  | _,_,i+1,x,.cons _ t,e=>by
    obtain ⟨u,h1,h2⟩:=Vals.get (i:=i) (x:=x) t (by simpa using e)
    exact ⟨u,by simpa using h1,h2⟩
theorem Vals.set {x:V} {u:Value} (r:RelV x u):∀ {xs:List V} {us:List Value} (i:Nat),Vals xs us→Vals (xs.set i x) (us.set i u)
  | _,_,_,.nil=>.nil
  | _,_,0,.cons _ t=>.cons r t
  | _,_,i+1,.cons q t=>.cons q (Vals.set r i t)
theorem Vals.append:∀ {xs ys:List V} {us ws:List Value},Vals xs us→Vals ys ws→Vals (xs++ys) (us++ws)
  | _,_,_,_,.nil,s=>s
  | _,_,_,_,.cons r t,s=>.cons r (Vals.append t s)
theorem Vals.take:∀ {xs:List V} {us:List Value} (n:Nat),Vals xs us→Vals (xs.take n) (us.take n)
  | _,_,0,_=>.nil
  | _,_,_+1,.nil=>.nil
  | _,_,n+1,.cons r t=>.cons r (Vals.take n t)
theorem Vals.drop:∀ {xs:List V} {us:List Value} (n:Nat),Vals xs us→Vals (xs.drop n) (us.drop n)
  | _,_,0,r=>r
  | _,_,_+1,.nil=>.nil
  | _,_,n+1,.cons _ t=>Vals.drop n t
def RelO:Option V→Option Value→Prop
  | some v,some u=>RelV v u
  | none,none=>True
  | _,_=>False
def KV {κ:Type}:List (κ × V)→List (κ × Value)→Prop:=Paired fun (p:κ × V) (q:κ × Value)=>p.1=q.1∧RelV p.2 q.2
def kV:Key→V
  | .inl i=>.int i
  | .inr x=>.str x
inductive HO where
  | lst (xs:List V)
  | tup (xs:List V)
  | dK (kvs:List (Key × V))|dT (kvs:List (List Key × V))
  | set (S:Int→Bool) (n:Nat)
  | ins (C dx:Addr) (fs:List (Str × V))
  | own (x:Addr)
  | xd (fs:List (Str × V))
  | met (f x:Addr)
  | rng (lo hi:Int)
  | frz (o:Obj) (u:HO)
  | tbl (ps:Array Value)
  | ext (φ:Heap→Prop)
abbrev Hp:=Addr→Option HO
def upd (H:Hp) (a:Addr) (o:HO):Hp:=fun b=>if b=a then some o else H b
theorem upd_same {H:Hp} {a:Addr} {o:HO}:upd H a o a=some o:=by unfold upd; rw [if_pos rfl]
theorem upd_ne {H:Hp} {a b:Addr} {o:HO} (h:b≠a):upd H a o b=H b:=by unfold upd; rw [if_neg h]
theorem upd_upd {H:Hp} {a:Addr} {o u:HO}:upd (upd H a o) a u=upd H a u:=by
  funext b; unfold upd; split <;> rfl
theorem ne_of {H:Hp} {a b:Addr} {o u:HO} (h:H a=some o) (h':H b=some u) (d:o≠u):a≠b:=by
  intro e; subst e; rw [h] at h'; exact d (Option.some.inj h')
theorem ne_of_none {H:Hp} {a b:Addr} {o:HO} (h:H a=some o) (h':H b=none):a≠b:=by
  intro e; subst e; rw [h] at h'; cases h'
section
variable (P:Program) (w:World)
def ObjOk (H:Hp) (h:Heap) (a:Addr):HO→Prop
  | .lst xs=>xs.length≤sizeLine∧∃ (its:List Value) (n:Nat),Vals xs its∧h.get? a=some { cls:=.type "list", data:=.seq its.toArray n }
  | .tup xs=>xs.length≤sizeLine∧∃ its:List Value,Vals xs its∧IsTup h a its.toArray
  | .dK kvs=>kvs.length≤sizeLine∧(a == sysModules)=false∧∃ vs,KV kvs vs∧h.DictOf (mixKind P w) a vs
  | .dT kvs=>kvs.length≤sizeLine∧(a == sysModules)=false∧∃ xs:List (List Key × Addr × Value),
      Paired (fun (p:List Key × V) (q:List Key × Addr × Value)=>p.1=q.1∧H q.2.1=some (.tup (p.1.map kV))∧RelV p.2 q.2.2) kvs xs ∧
      ∃ o es ep,h.get? a=some o∧o.ExactDict∧o.data=.dict es ep∧es.toList=xs.map (entryOfKey (tupleKind (mixKind P w)))∧(xs.map (·.1)).Nodup
  | .set S n=>h.SetOf (intKind P w) a S n
  | .ins C dx fs=>H dx=some (.own a)∧fs.length≤1000∧dx≠a∧h.get? a=some (PySem.W.instObj C dx) ∧
      ∃ mA,h.Ns1 dx mA∧(∀ f,RelO (fs.lookup f) (mA f))∧PySem.Within mA (fs.map (·.1))
  | .own _=>∃ o,h.get? a=some o
  | .xd fs=>∃ mA,h.Ns1 a mA∧∀ f,RelO (fs.lookup f) (mA f)
  | .rng lo hi=>∃ t u v,h.get? a=some { cls:=.type "range", data:=.fields #[.int lo t,.int hi u,.int 1 v] }
  | .frz o u=>h.get? a=some o∧ObjOk H h a u
  | .tbl ps=>h.get? a=some { cls:=.none,data:=.fields ps }
  | .met f x=>h.get? a=some (PySem.W.methodObj (.ref f) (.ref x))
  | .ext φ=>φ h∧(∃ o,h.get? a=some o)∧∀ h1 h2:Heap,φ h1→(∀ o,h1.get? a=some o→h2.get? a=some o)→φ h2
def HOk (H:Hp) (h:Heap):Prop:=∀ a o,H a=some o→ObjOk P w H h a o
end
section
variable {P:Program} {w:World} {H H':Hp} {h h':Heap} {a:Addr} {o:HO}
theorem ObjOk.lt (x:ObjOk P w H h a o):a<h.objs.size:=by
  cases o with
  | lst xs=>obtain ⟨_,_,_,_,e⟩:=x; exact Heap.lt_size e
  | tup xs=>obtain ⟨_,_,_,p⟩:=x; exact p.lt
  | dK kvs=>obtain ⟨_,_,_,_,o,_,_,e,_⟩:=x; exact Heap.lt_size e
  | dT kvs=>obtain ⟨_,_,_,_,o,_,_,e,_⟩:=x; exact Heap.lt_size e
  | set S n=>obtain ⟨o,_,_,_,e,_⟩:=x; exact Heap.lt_size e
  | ins C dx fs=>obtain ⟨_,_,_,e,_⟩:=x; exact Heap.lt_size e
  | own y=>obtain ⟨_,e⟩:=x; exact Heap.lt_size e
  | xd fs=>obtain ⟨_,⟨_,_,_,e,_⟩,_⟩:=x; exact Heap.lt_size e
  | rng lo hi=>obtain ⟨_,_,_,e⟩:=x; exact Heap.lt_size e
  | frz ob u=>obtain ⟨e,_⟩:=x; exact Heap.lt_size e
  | tbl ps=>exact Heap.lt_size (show h.get? a=some _ from x)
  | met f y=>exact Heap.lt_size (show h.get? a=some _ from x)
  | ext φ=>obtain ⟨_,⟨_,e⟩,_⟩:=x; exact Heap.lt_size e
theorem Paired.mapP {α β:Type} {F G:α→β→Prop}:∀ {l₁:List α} {l₂:List β},Paired F l₁ l₂→(∀ a b,F a b→G a b)→Paired G l₁ l₂
  | _,_,.nil,_=>.nil
  | _,_,.cons r t,f=>.cons (f _ _ r) (Paired.mapP t f)
theorem ObjOk.stay (x:ObjOk P w H h a o) (k:∀ b u,(b=a∨H b=some (.own a))→h.get? b=some u→h'.get? b=some u)
    (ho:∀ b,H b=some (.own a)→H' b=some (.own a)) (ht:∀ b xs,H b=some (.tup xs)→H' b=some (.tup xs)):ObjOk P w H' h' a o:=by
  induction o with
  | lst xs=>obtain ⟨z,its,n,r,e⟩:=x; exact ⟨z,its,n,r,k _ _ (.inl rfl) e⟩
  | tup xs=>obtain ⟨z,its,r,ob,e,c⟩:=x; exact ⟨z,its,r,ob,k _ _ (.inl rfl) e,c⟩
  | dK kvs=>obtain ⟨z,y,vs,r,ob,es,ep,e,c⟩:=x; exact ⟨z,y,vs,r,ob,es,ep,k _ _ (.inl rfl) e,c⟩
  | dT kvs=>
    obtain ⟨z,y,xs,r,ob,es,ep,e,c⟩:=x
    exact ⟨z,y,xs,Paired.mapP r fun p q z=>⟨z.1,ht _ _ z.2.1,z.2.2⟩,ob,es,ep,k _ _ (.inl rfl) e,c⟩
  | set S n=>obtain ⟨ob,es,ep,t,e,c⟩:=x; exact ⟨ob,es,ep,t,k _ _ (.inl rfl) e,c⟩
  | ins C dx fs=>
    obtain ⟨d,z,ne,e,mA,⟨od,es,ep,e2,c⟩,r⟩:=x
    exact ⟨ho _ d,z,ne,k _ _ (.inl rfl) e,mA,⟨od,es,ep,k _ _ (.inr d) e2,c⟩,r⟩
  | own y=>obtain ⟨ob,e⟩:=x; exact ⟨ob,k _ _ (.inl rfl) e⟩
  | xd fs=>obtain ⟨mA,⟨od,es,ep,e,c⟩,r⟩:=x; exact ⟨mA,⟨od,es,ep,k _ _ (.inl rfl) e,c⟩,r⟩
  | rng lo hi=>obtain ⟨t,u,v,e⟩:=x; exact ⟨t,u,v,k _ _ (.inl rfl) e⟩
  | frz ob u ih=>obtain ⟨e,q⟩:=x; exact ⟨k _ _ (.inl rfl) e,ih q⟩
  | tbl ps=>
    have e:h.get? a=some { cls:=.none,data:=.fields ps }:=x
    show h'.get? a=some { cls:=.none,data:=.fields ps }
    exact k a _ (.inl rfl) e
  | met f y=>
    have e:h.get? a=some (PySem.W.methodObj (.ref f) (.ref y)):=x
    show h'.get? a=some (PySem.W.methodObj (.ref f) (.ref y))
    exact k a _ (.inl rfl) e
  | ext φ=>obtain ⟨p,⟨o,e⟩,st⟩:=x; exact ⟨st _ _ p fun o q=>k _ _ (.inl rfl) q,⟨o,k _ _ (.inl rfl) e⟩,st⟩
theorem HOk.lt (x:HOk P w H h) (e:H a=some o):a<h.objs.size:=(x a o e).lt
theorem HOk.fresh (x:HOk P w H h) (e:h.objs.size≤a):H a=none:=by
  cases q:H a with
  | none=>rfl
  | some u=>exact absurd (Nat.lt_of_lt_of_le (x.lt q) e) (Nat.lt_irrefl _)
theorem HOk.kept (x:HOk P w H h) (k:∀ b u,h.get? b=some u→h'.get? b=some u):HOk P w H h':=fun a o e=>
  (x a o e).stay (fun b u _ q=>k b u q) (fun _ q=>q) fun _ _ q=>q
theorem HOk.laid (x:HOk P w H h) (k:∀ b u,h.get? b=some u→h'.get? b=some u) (hp:h.objs.size≤a) (new:ObjOk P w (upd H a o) h' a o):HOk P w (upd H a o) h':=fun b u e=>by
  have hn:=x.fresh hp
  by_cases hb:b=a
  · subst hb; rw [upd_same] at e; cases e; exact new
  · rw [upd_ne hb] at e
    exact (x b u e).stay (fun c v _ q=>k c v q) (fun c q=>by rw [upd_ne (ne_of_none q hn)]; exact q) fun c xs q=>by rw [upd_ne (ne_of_none q hn)]; exact q
end
def Rd (H:Hp) (a:Addr) (u:HO):Prop:=H a=some u∨∃ o,H a=some (.frz o u)
theorem Rd.ok {P:Program} {w:World} {H:Hp} {h:Heap} {a:Addr} {u:HO} (r:Rd H a u) (x:HOk P w H h):ObjOk P w H h a u:=by
  rcases r with r|⟨o,r⟩
  · exact x a u r
  · obtain ⟨_,q⟩:=x a _ r
    exact q
def Mut:Option HO→Prop
  | some (.lst _)=>True
  | some (.dK _)=>True
  | some (.dT _)=>True
  | some (.set _ _)=>True
  | some (.ins _ _ _)=>True
  | some (.ext _)=>True
  | _=>False
section
variable {P:Program} {w:World} {H:Hp} {h h':Heap} {x e:Addr} {o':HO}
theorem HOk.write (ok:HOk P w H h) (mu:Mut (H x)) (he:e=x∨H e=some (.own x)) (k:∀ b u,b≠e→h.get? b=some u→h'.get? b=some u) (heo:∃ u,h'.get? e=some u)
    (new:ObjOk P w (upd H x o') h' x o'):HOk P w (upd H x o') h':=fun b u q=>by
  have nown:∀ c y,H c=some (.own y)→c≠x:=fun c y r z=>by subst z; rw [r] at mu; exact mu
  have ntup:∀ c xs,H c=some (.tup xs)→c≠x:=fun c xs r z=>by subst z; rw [r] at mu; exact mu
  by_cases hb:b=x
  · subst hb; rw [upd_same] at q; cases q; exact new
  · rw [upd_ne hb] at q
    by_cases hbe:b=e
    · have q':H b=some (.own x):=by
        rcases he with z|z
        · exact absurd (hbe.trans z) hb
        · rw [hbe]; exact z
      rw [q] at q'; cases q'
      obtain ⟨v,hv⟩:=heo
      exact ⟨v,by rw [hbe]; exact hv⟩
    · refine (ok b u q).stay (fun c v hc r=>k c v ?_ r) (fun c r=>by rw [upd_ne (nown c b r)]; exact r) fun c xs r=>by rw [upd_ne (ntup c xs r)]; exact r
      rcases hc with rfl|hc
      · exact hbe
      · rintro rfl
        rcases he with z|z
        · exact nown c b hc z
        · rw [hc] at z; cases z; exact hb rfl
end
structure Un (fs ex:List Addr) (H H':Hp) (h h':Heap):Prop where
  keep:∀ b o,h.get? b=some o→H b=none→b ∉ fs→b ∉ ex→h'.get? b=some o
  slot:∀ b o,h.get? b=some o→H b=none→b∈fs→b ∉ ex→∃ sl,h'.get? b=some { o with slots:=sl }
  free:∀ b o,h.get? b=some o→H b=none→b ∉ ex→H' b=none
  there:∀ b o,h.get? b=some o→b ∉ ex→∃ o',h'.get? b=some o'
  tups:∀ b xs,H b=some (.tup xs)→H' b=some (.tup xs)
  frzs:∀ b o u,H b=some (.frz o u)→H' b=some (.frz o u)
  tbls:∀ b ps,H b=some (.tbl ps)→∃ more,H' b=some (.tbl (ps++more))
section
variable {fs fs' ex ex':List Addr} {H H1 H2:Hp} {h h1 h2 h':Heap} {a x e:Addr} {o:HO}
theorem Un.any (u:Un fs ex H H1 h h1) {b:Addr} {ob:Obj} (q:h.get? b=some ob) (n:H b=none) (hx:b ∉ ex):∃ sl,h1.get? b=some { ob with slots:=sl }:=by
  by_cases hb:b∈fs
  · exact u.slot b ob q n hb hx
  · exact ⟨ob.slots,u.keep b ob q n hb hx⟩
theorem Un.kept (k:∀ b u,h.get? b=some u→h'.get? b=some u):Un fs ex H H h h':=
  ⟨fun b ob q _ _ _=>k b ob q,fun b ob q _ _ _=>⟨ob.slots,k b ob q⟩,fun _ _ _ n _=>n,fun b ob q _=>⟨ob,k b ob q⟩,fun _ _ q=>q,fun _ _ _ q=>q,fun _ ps q=>⟨#[],by rw [q]; simp⟩⟩
theorem Un.refl:Un fs ex H H h h:=Un.kept fun _ _ q=>q
theorem Un.laid (k:∀ b u,h.get? b=some u→h'.get? b=some u) (hp:h.objs.size≤a) (hn:H a=none):Un fs ex H (upd H a o) h h' where
  keep:=fun b u q _ _ _=>k b u q
  slot:=fun b u q _ _ _=>⟨u.slots,k b u q⟩
  free:=fun b u q n _=>by rw [upd_ne (Nat.ne_of_lt (Nat.lt_of_lt_of_le (Heap.lt_size q) hp))]; exact n
  there:=fun b u q _=>⟨u,k b u q⟩
  tups:=fun b xs q=>by rw [upd_ne (ne_of_none q hn)]; exact q
  frzs:=fun b u xs q=>by rw [upd_ne (ne_of_none q hn)]; exact q
  tbls:=fun b ps q=>⟨#[],by rw [upd_ne (ne_of_none q hn),q]; simp⟩
theorem Un.write (mu:Mut (H x)) (he:e=x∨H e=some (.own x)) (k:∀ b u,b≠e→h.get? b=some u→h'.get? b=some u) (heo:∃ u,h'.get? e=some u):Un fs ex H (upd H x o) h h':=by
  have hx:∀ b,H b=none→b≠x:=fun b n z=>by subst z; rw [n] at mu; exact mu
  have hb:∀ b,H b=none→b≠e:=fun b n z=>by
    subst z
    rcases he with r|r
    · exact hx b n r
    · rw [n] at r; cases r
  have hm:∀ b u,H b=some u→¬ Mut (some u)→b≠x:=fun b u q nm z=>by subst z; rw [q] at mu; exact nm mu
  refine ⟨fun b u q n _ _=>k b u (hb b n) q,fun b u q n _ _=>⟨u.slots,k b u (hb b n) q⟩,fun b u q n _=>by rw [upd_ne (hx b n)]; exact n,fun b u q _=>?_,
    fun b xs q=>by rw [upd_ne (hm b _ q fun z=>z)]; exact q,fun b u xs q=>by rw [upd_ne (hm b _ q fun z=>z)]; exact q,fun b ps q=>⟨#[],by rw [upd_ne (hm b _ q fun z=>z),q]; simp⟩⟩
  by_cases hbe:b=e
  · subst hbe; exact heo
  · exact ⟨u,k b u hbe q⟩
end
def trk (h:Heap) (H:Hp):List Addr:=(List.range h.objs.size).filter fun a=>(H a).isSome
def hidT (h:Heap) (H:Hp):Heap:=PySem.W.hideAll h (trk h H)
theorem hidT_size (h:Heap) (H:Hp):(hidT h H).objs.size=h.objs.size:=PySem.W.hideAll_size _ _
theorem hidT_get {h:Heap} {H:Hp} {b:Addr} {o:Obj} (e:h.get? b=some o) (n:H b=none):(hidT h H).get? b=some o:=
  PySem.W.hideAll_get _ e fun hm=>by
    have q:(H b).isSome=true:=(List.mem_filter.mp hm).2
    rw [n] at q; simp at q
theorem of_hidT {h:Heap} {H:Hp} {b:Addr} {o:Obj} (e:(hidT h H).get? b=some o):h.get? b=some o∧H b=none:=by
  have e':h.get? b=some o:=PySem.W.of_hideAll (trk h H) e
  refine ⟨e',?_⟩
  cases q:H b with
  | none=>rfl
  | some x=>
    have hm:b∈trk h H:=List.mem_filter.mpr ⟨List.mem_range.mpr (Heap.lt_size e'),by simp [q]⟩
    have z:(hidT h H).get? b=none:=PySem.W.hideAll_none (trk h H) hm
    rw [z] at e; cases e
def allNews (g h:Heap) (L:Addr):List (Addr × Obj):=(List.range h.objs.size).filterMap fun a=>if a=L∨(g.get? a).isSome=true then none else (h.get? a).map fun o=>(a,o)
def rest (g h:Heap) (L d:Addr):List (Addr × Obj):=(allNews g h L).filter fun p=>decide (p.1≠d)
structure Mod (K:PySem.W.Frag) (mg:Str→Option Value) (base:Heap):Prop where
  kin:K.In base
  glob:base.Ns mainGlobals mg
  blt:∃ mb,base.Ns builtinsNs mb∧∀ x:Str,x≠"__name__"→mb x=bootBuiltins x
  nolimit:base.NoLimit
structure Cx where
  prog:Program
  w:World
  K:PySem.W.Frag
  mg:Str→Option Value
  base:Heap
  A:Around
  N:List Str
  s₀:Shared
  H₀:Hp
  env:Env
  outer:List Env
  stack:List Env
  ex:List Addr
  fn:Str→Bool
  calm:Bool
  pn:List (Addr × Obj)
  xe:Value→Shared→Prop
def frs (l:List Env):List Addr:=l.filterMap (·.frame)
abbrev Cx.fs (X:Cx):List Addr:=frs X.outer
def Vis (sc:Scope) (x:Str):Prop:=sc.names.lookup x=some .local∨sc.names.lookup x=some .cell∨sc.names.lookup x=some .free
def Loc (sc:Scope) (x:Str):Prop:=sc.names.lookup x=some .local∨sc.names.lookup x=some .cell
def Look (env:Env) (h:Heap) (m:Str→Option Value) (x:Str) (u:Value):Prop:=
  (env.kindOf x=some .local∧m x=some u)∨((env.kindOf x=some .cell∨env.kindOf x=some .free)∧∃ c,env.cells.lookup x=some c∧h.IsCell c (some u))
structure Cx.Ok (X:Cx):Prop where
  mod:Mod X.K X.mg X.base
  kind:X.env.scope.kind=.function
  glob:X.env.globals=mainGlobals
  blt:X.env.builtins=builtinsNs
  above:X.s₀.heap.objs.size≤X.env.locals
  inj:∀ x y c,X.env.cells.lookup x=some c→X.env.cells.lookup y=some c→x=y
  has:∀ x,(X.env.kindOf x=some .cell∨X.env.kindOf x=some .free)→∃ c,X.env.cells.lookup x=some c
  cab:∀ x c,X.fn x=true→X.env.cells.lookup x=some c→X.s₀.heap.objs.size≤c
  hd:X.calm=true→X.A.handled=none
  frames:X.A.frames=some X.stack
  stk:X.stack=X.outer∨(X.stack=X.env::X.outer∧X.env.frame=some X.env.locals)
  exf:∀ b∈X.ex,b≠X.env.locals∧∀ x c,X.env.cells.lookup x=some c→c≠b
  bs:∀ b o,X.base.get? b=some o→X.s₀.heap.get? b=some o∧X.H₀ b=none
  bsz:X.base.objs.size≤X.s₀.heap.objs.size
  noex:∀ b o,X.base.get? b=some o→b ∉ X.ex
  exfs:∀ b∈X.ex,b ∉ X.fs
  funs:X.s₀.heap.FunFrames X.base X.outer
  frf:∀ b∈X.fs,X.H₀ b=none
structure Inv (X:Cx) (pins:List (Addr × Obj)) (σ:List (Option V)) (H:Hp) (s:Shared):Prop where
  ok:X.Ok
  os:s.os=X.s₀.os
  bare:AllBare s.gens
  base:Un X.fs X.ex X.H₀ H X.s₀.heap s.heap
  loc:∃ m,s.heap.Ns X.env.locals m∧∀ (i:Nat) (x:Str) (v:V),X.N[i]?=some x→σ[i]?=some (some v)→Vis X.env.scope x→∃ u,RelV v u∧Look X.env s.heap m x u
  cell:∀ x c,X.env.cells.lookup x=some c→∃ v,s.heap.IsCell c v
  free:H X.env.locals=none
  freeC:∀ x c,X.env.cells.lookup x=some c→H c=none
  pin:∀ p∈X.pn++pins,s.heap.get? p.1=some p.2∧H p.1=none∧p.1≠X.env.locals∧p.1 ∉ X.fs∧∀ v,p.2.data≠.cell v
  hok:HOk X.prog X.w H s.heap
  len:σ.length=X.N.length
section
variable {X:Cx} {pins:List (Addr × Obj)} {σ:List (Option V)} {H H':Hp} {s:Shared} {h':Heap}
theorem Cx.Ok.nofr (ok:X.Ok) {b:Addr} {o:Obj} (e:X.base.get? b=some o):b ∉ X.fs:=fun hb=>by
  have:=(ok.funs.mem hb).1
  rw [e] at this; cases this
theorem Inv.bs (I:Inv X pins σ H s):∀ b o,X.base.get? b=some o→s.heap.get? b=some o∧H b=none:=fun b o e=>
  ⟨I.base.keep b o (I.ok.bs b o e).1 (I.ok.bs b o e).2 (I.ok.nofr e) (I.ok.noex b o e),I.base.free b o (I.ok.bs b o e).1 (I.ok.bs b o e).2 (I.ok.noex b o e)⟩
theorem Inv.bk (I:Inv X pins σ H s):∀ b o,X.base.get? b=some o→s.heap.get? b=some o:=fun b o e=>(I.bs b o e).1
theorem Inv.mod (I:Inv X pins σ H s):Mod X.K X.mg X.base:=I.ok.mod
theorem Inv.kIn (I:Inv X pins σ H s):X.K.In s.heap:=I.ok.mod.kin.keeps I.bk
theorem Inv.lt (I:Inv X pins σ H s):X.env.locals<s.heap.objs.size:=let ⟨_,hn,_⟩:=I.loc; hn.lt
theorem Inv.sz (I:Inv X pins σ H s):X.s₀.heap.objs.size≤s.heap.objs.size:=Nat.le_trans I.ok.above (Nat.le_of_lt I.lt)
theorem Inv.nofs (I:Inv X pins σ H s) {a:Addr} (h:s.heap.objs.size≤a):a ∉ X.fs:=fun hb=>by
  obtain ⟨_,o,ho,_⟩:=I.ok.funs.mem hb
  exact absurd (Nat.lt_of_lt_of_le (Heap.lt_size ho) (Nat.le_trans I.sz h)) (Nat.lt_irrefl _)
theorem Inv.cne (I:Inv X pins σ H s):∀ x c,X.env.cells.lookup x=some c→c≠X.env.locals:=fun x c e z=>by
  obtain ⟨v,o,ho,hd⟩:=I.cell x c e
  obtain ⟨m,⟨o',es,ep,ho',hd',_⟩,_⟩:=I.loc
  rw [z,ho'] at ho; cases ho; rw [hd'] at hd; cases hd
theorem Inv.funs (I:Inv X pins σ H s):s.heap.FunFrames X.base X.outer:=by
  have all:∀ (l:List Env),(∀ b∈frs l,b∈X.fs)→X.s₀.heap.FunFrames X.base l→s.heap.FunFrames X.base l:=by
    intro l
    induction l with
    | nil=>intro _ _; trivial
    | cons env r ih=>
      intro hs hl
      obtain ⟨hk,⟨L,o,hf,hn,ho,hd⟩,hr⟩:=hl
      have hL:L∈X.fs:=hs L (by unfold frs; rw [List.filterMap_cons,hf]; exact List.mem_cons_self)
      obtain ⟨sl,e⟩:=I.base.slot L o ho (I.ok.frf L hL) hL fun z=>I.ok.exfs L z hL
      exact ⟨hk,⟨L,_,hf,hn,e,hd⟩,ih (fun b hb=>hs b (by unfold frs; rw [List.filterMap_cons,hf]; exact List.mem_cons_of_mem _ hb)) hr⟩
  exact all X.outer (fun _ hb=>hb) I.ok.funs
theorem Inv.stack (I:Inv X pins σ H s):s.heap.FunFrames X.base X.stack:=by
  rcases I.ok.stk with e|⟨e,hf⟩
  · rw [e]; exact I.funs
  · rw [e]
    obtain ⟨m,hn,_⟩:=I.loc
    refine .cons (by rw [I.ok.kind]; decide) hf hn ?_ I.funs
    exact Heap.get?_none_of_le (Nat.le_trans I.ok.bsz I.ok.above)
theorem Inv.stkSub (I:Inv X pins σ H s):∀ b∈frs X.stack,b∈X.env.locals::X.fs:=fun b hb=>by
  rcases I.ok.stk with e|⟨e,hf⟩
  · rw [e] at hb; exact List.mem_cons_of_mem _ hb
  · rw [e] at hb
    unfold frs at hb
    rw [List.filterMap_cons,hf] at hb
    exact hb
theorem Inv.stkFree (I:Inv X pins σ H s):∀ b∈frs X.stack,H b=none:=fun b hb=>by
  rcases List.mem_cons.mp (I.stkSub b hb) with e|hb
  · rw [e]; exact I.free
  · obtain ⟨_,o,ho,_⟩:=I.ok.funs.mem hb
    exact I.base.free b o ho (I.ok.frf b hb) fun z=>I.ok.exfs b z hb
theorem Inv.step {g':Array GenState} {t':Nat} {d':Drawn} {ch:List Addr} (I:Inv X pins σ H s)
    (hch:∀ b∈ch,(b∈X.ex∨X.s₀.heap.objs.size≤b)∧b≠X.env.locals∧(∀ x c,X.env.cells.lookup x=some c→c≠b)∧∀ p∈X.pn++pins,p.1≠b)
    (keep:∀ b o,b≠X.env.locals→b ∉ X.fs→b ∉ ch→s.heap.get? b=some o→H b=none→h'.get? b=some o)
    (slot:∀ b o,b≠X.env.locals→b∈X.fs→b ∉ ch→s.heap.get? b=some o→H b=none→∃ sl,h'.get? b=some { o with slots:=sl }) (free:∀ b o,b ∉ ch→s.heap.get? b=some o→H b=none→H' b=none)
    (there:∀ b o,b ∉ ch→s.heap.get? b=some o→∃ o',h'.get? b=some o')
    (tups:∀ b xs,H b=some (.tup xs)→H' b=some (.tup xs)) (frzs:∀ b o u,H b=some (.frz o u)→H' b=some (.frz o u)) (tbls:∀ b ps,H b=some (.tbl ps)→∃ more,H' b=some (.tbl (ps++more)))
    (ns:∀ m,s.heap.Ns X.env.locals m→h'.Ns X.env.locals m) (hok:HOk X.prog X.w H' h') (hg:AllBare g') :
    Inv X pins σ H' { s with heap:=h',gens:=g',drawn:=d',toks:=t' }:=by
  have neL:∀ b o,X.s₀.heap.get? b=some o→b≠X.env.locals:=fun b o e=>Nat.ne_of_lt (Nat.lt_of_lt_of_le (Heap.lt_size e) I.ok.above)
  have neC:∀ b o,X.s₀.heap.get? b=some o→b ∉ X.ex→b ∉ ch:=fun b o e hx hb=>by
    rcases (hch b hb).1 with z|z
    · exact hx z
    · exact absurd (Nat.lt_of_lt_of_le (Heap.lt_size e) z) (Nat.lt_irrefl _)
  have cellK:∀ x c,X.env.cells.lookup x=some c→∀ v,s.heap.IsCell c v→h'.IsCell c v:=fun x c e v ⟨o,ho,hd⟩=>by
    have nch:c ∉ ch:=fun z=>(hch c z).2.2.1 x c e rfl
    by_cases hc:c∈X.fs
    · obtain ⟨sl,q⟩:=slot c o (I.cne x c e) hc nch ho (I.freeC x c e)
      exact ⟨_,q,hd⟩
    · exact ⟨o,keep c o (I.cne x c e) hc nch ho (I.freeC x c e),hd⟩
  refine ⟨I.ok,I.os,hg,⟨fun b o e n hb hx=>?_,fun b o e n hb hx=>?_,fun b o e n hx=>?_,fun b o e hx=>?_,fun b xs e=>tups b xs (I.base.tups b xs e),fun b o xs e=>frzs b o xs (I.base.frzs b o xs e),fun b ps e=>?_⟩,?_,fun x c e=>?_,?_,fun x c e=>?_,fun p hp=>?_,hok,I.len⟩
  · exact keep b o (neL b o e) hb (neC b o e hx) (I.base.keep b o e n hb hx) (I.base.free b o e n hx)
  · obtain ⟨sl,e1⟩:=I.base.slot b o e n hb hx
    obtain ⟨sl',e2⟩:=slot b _ (neL b o e) hb (neC b o e hx) e1 (I.base.free b o e n hx)
    exact ⟨sl',e2⟩
  · obtain ⟨o',e1⟩:=I.base.there b o e hx
    exact free b o' (neC b o e hx) e1 (I.base.free b o e n hx)
  · obtain ⟨o',e1⟩:=I.base.there b o e hx
    exact there b o' (neC b o e hx) e1
  · obtain ⟨m1,e1⟩:=I.base.tbls b ps e
    obtain ⟨m2,e2⟩:=tbls b _ e1
    exact ⟨m1++m2,by rw [e2,Array.append_assoc]⟩
  · obtain ⟨m,hn,hl⟩:=I.loc
    refine ⟨m,ns m hn,fun i x v e1 e2 e3=>?_⟩
    obtain ⟨u,r,l⟩:=hl i x v e1 e2 e3
    refine ⟨u,r,?_⟩
    rcases l with l|⟨k,c,e,z⟩
    · exact .inl l
    · exact .inr ⟨k,c,e,cellK x c e _ z⟩
  · obtain ⟨v,z⟩:=I.cell x c e
    exact ⟨v,cellK x c e v z⟩
  · obtain ⟨m,⟨o,_,_,ho,_⟩,_⟩:=I.loc
    exact free _ o (fun z=>(hch _ z).2.1 rfl) ho I.free
  · obtain ⟨v,o,ho,hd⟩:=I.cell x c e
    exact free c o (fun z=>(hch c z).2.2.1 x c e rfl) ho (I.freeC x c e)
  · obtain ⟨e,n,ne,nf,d⟩:=I.pin p hp
    have nch:p.1 ∉ ch:=fun z=>(hch p.1 z).2.2.2 p hp rfl
    exact ⟨keep p.1 p.2 ne nf nch e n,free p.1 p.2 nch e n,ne,nf,d⟩
theorem Inv.un {t':Nat} (I:Inv X pins σ H s) (u:Un X.fs [] H H' s.heap h') (hok:HOk X.prog X.w H' h'):Inv X pins σ H' { s with heap:=h',toks:=t' }:=by
  obtain ⟨m,⟨o,es,ep,ho,r⟩,_⟩:=id I.loc
  obtain ⟨sl,hL⟩:=u.any ho I.free (by simp)
  exact I.step (g':=s.gens) (d':=s.drawn) (ch:=[]) (fun _ z=>nomatch z) (fun b o _ hb _ e n=>u.keep b o e n hb (by simp)) (fun b o _ hb _ e n=>u.slot b o e n hb (by simp)) (fun b o _ e n=>u.free b o e n (by simp)) (fun b o _ e=>u.there b o e (by simp)) u.tups u.frzs u.tbls (fun m' hm=>by
    obtain ⟨o',es',ep',ho',r'⟩:=hm
    rw [ho] at ho'; cases ho'
    exact ⟨_,es',ep',hL,r'⟩) hok I.bare
theorem Inv.call {g':Array GenState} {t':Nat} {d':Drawn} {ch:List Addr} (I:Inv X pins σ H s) (u:Un (frs X.stack) ch H H' s.heap h') (hok:HOk X.prog X.w H' h') (hg:AllBare g')
    (hch:∀ b∈ch,(b∈X.ex∨X.s₀.heap.objs.size≤b)∧b≠X.env.locals∧(∀ x c,X.env.cells.lookup x=some c→c≠b)∧∀ p∈X.pn++pins,p.1≠b) :
    Inv X pins σ H' { s with heap:=h',gens:=g',drawn:=d',toks:=t' }:=by
  obtain ⟨m,⟨o,es,ep,ho,r⟩,_⟩:=id I.loc
  obtain ⟨sl,hL⟩:=u.any ho I.free fun z=>(hch _ z).2.1 rfl
  exact I.step (ch:=ch) hch (fun b o hL hb hc e n=>u.keep b o e n (fun z=>(List.mem_cons.mp (I.stkSub b z)).elim hL hb) hc) (fun b o _ _ hc e n=>u.any e n hc) (fun b o hc e n=>u.free b o e n hc) (fun b o hc e=>u.there b o e hc) u.tups u.frzs u.tbls (fun m' hm=>by
    obtain ⟨o',es',ep',ho',r'⟩:=hm
    rw [ho] at ho'; cases ho'
    exact ⟨_,es',ep',hL,r'⟩) hok hg
theorem Inv.turned {t':Nat} {it:Addr} (I:Inv X pins σ H s) (k:∀ b o,b≠it→s.heap.get? b=some o→h'.get? b=some o) (hn:H it=none) (hL:it≠X.env.locals)
    (h1:it∈X.ex∨X.s₀.heap.objs.size≤it) (h2:∀ x c,X.env.cells.lookup x=some c→c≠it) (h3:∀ p∈X.pn++pins,p.1≠it):Inv X pins σ H { s with heap:=h',toks:=t' }:=by
  have nit:∀ b u,H b=some u→b≠it:=fun b u e z=>by rw [z,hn] at e; cases e
  refine I.step (g':=s.gens) (d':=s.drawn) (ch:=[it]) (fun b hb=>?_) (fun b o _ _ hc e _=>k b o (fun z=>hc (by simp [z])) e) (fun b o _ _ hc e _=>⟨o.slots,k b o (fun z=>hc (by simp [z])) e⟩) (fun _ _ _ _ n=>n)
    (fun b o hc e=>⟨o,k b o (fun z=>hc (by simp [z])) e⟩) (fun _ _ e=>e) (fun _ _ _ e=>e) (fun b ps e=>⟨#[],by rw [e]; simp⟩) (fun m hm=>?_) (fun b u e=>?_) I.bare
  · have e:b=it:=by simpa using hb
    subst e
    exact ⟨h1,hL,h2,h3⟩
  · obtain ⟨o,es,ep,ho,r⟩:=hm
    exact ⟨o,es,ep,k _ o (Ne.symm hL) ho,r⟩
  · refine (I.hok b u e).stay (fun c v hc q=>k c v ?_ q) (fun _ q=>q) fun _ _ q=>q
    rcases hc with z|z
    · rw [z]; exact nit b u e
    · exact nit c _ z
theorem Inv.tok (I:Inv X pins σ H s) (t:Nat):Inv X pins σ H { s with toks:=t }:=I.un (h':=s.heap) (t':=t) Un.refl I.hok
theorem Inv.kept {t':Nat} (I:Inv X pins σ H s) (k:∀ b u,s.heap.get? b=some u→h'.get? b=some u):Inv X pins σ H { s with heap:=h',toks:=t' }:=I.un (Un.kept k) (I.hok.kept k)
theorem Inv.laid {a:Addr} {o:HO} {t':Nat} (I:Inv X pins σ H s) (k:∀ b u,s.heap.get? b=some u→h'.get? b=some u) (hp:s.heap.objs.size≤a) (new:ObjOk X.prog X.w (upd H a o) h' a o) :
    Inv X pins σ (upd H a o) { s with heap:=h',toks:=t' }:=I.un (Un.laid k hp (I.hok.fresh hp)) (I.hok.laid k hp new)
theorem Inv.write {x e:Addr} {o:HO} {t':Nat} (I:Inv X pins σ H s) (mu:Mut (H x)) (he:e=x∨H e=some (.own x)) (k:∀ b u,b≠e→s.heap.get? b=some u→h'.get? b=some u) (heo:∃ u,h'.get? e=some u)
    (new:ObjOk X.prog X.w (upd H x o) h' x o):Inv X pins σ (upd H x o) { s with heap:=h',toks:=t' }:=I.un (Un.write mu he k heo) (I.hok.write mu he k heo new)
theorem Inv.weak {σ':List (Option V)} (I:Inv X pins σ H s) (hl:σ'.length=σ.length) (w:∀ (i:Nat) v,σ'[i]?=some (some v)→σ[i]?=some (some v)):Inv X pins σ' H s:=
  ⟨I.ok,I.os,I.bare,I.base,let ⟨m,hn,hl'⟩:=I.loc; ⟨m,hn,fun i x v e1 e2 e3=>hl' i x v e1 (w i v e2) e3⟩,I.cell,I.free,I.freeC,I.pin,I.hok,hl.trans I.len⟩
theorem Inv.pins_of {pins':List (Addr × Obj)} (I:Inv X pins σ H s) (h:∀ p∈pins',s.heap.get? p.1=some p.2∧H p.1=none∧p.1≠X.env.locals∧p.1 ∉ X.fs∧∀ v,p.2.data≠.cell v):Inv X pins' σ H s:=
  ⟨I.ok,I.os,I.bare,I.base,I.loc,I.cell,I.free,I.freeC,fun p hp=>(List.mem_append.mp hp).elim (fun z=>I.pin p (List.mem_append_left _ z)) (h p),I.hok,I.len⟩
theorem nodup_ix {N:List Str} (hN:N.Nodup) {i j:Nat} {x:Str} (a:N[i]?=some x) (b:N[j]?=some x):i=j:=by
  obtain ⟨h1,e1⟩:=List.getElem?_eq_some_iff.mp a
  obtain ⟨h2,e2⟩:=List.getElem?_eq_some_iff.mp b
  exact (List.getElem_inj hN).mp (e1.trans e2.symm)
theorem store_ok2 {M:Model} {A:Around} {E:Value→Shared→Prop} {i:Nat} {x:Str} {v:V} {u:Value} {Q:Unit→Shared→Prop} (I:Inv X pins σ H s) (hN:X.N.Nodup) (hi:X.N[i]?=some x) (hx:Loc X.env.scope x) (r:RelV v u)
    (h:∀ s',Inv X pins (σ.set i (some v)) H s'→(∃ a,Heap.SameBut a s.heap s'.heap∧(a=X.env.locals∨X.env.cells.lookup x=some a))→Q () s') (hf:X.fn x=true∨X.env.scope.names.lookup x=some .local:=by first|exact .inl rfl|exact .inr rfl|assumption):wpAny M A (storeName X.env x u) Q E s:=by
  obtain ⟨m,hn,hl⟩:=id I.loc
  have hcls:(X.env.scope.kind == .class || (X.env.scope.kind == .module && X.env.locals != X.env.globals))=false:=by rw [I.ok.kind]; rfl
  have hiσ:i<σ.length:=by rw [I.len]; exact (List.getElem?_eq_some_iff.mp hi).1
  have cne:=I.cne
  have tracked:∀ {a:Addr} {h':Heap},(∃ o,s.heap.get? a=some o∧H a=none)→Heap.SameBut a s.heap h'→HOk X.prog X.w H h':=fun {a h'} ha hs b ob e=>by
    obtain ⟨_,_,hfree⟩:=ha
    refine (I.hok b ob e).stay (fun c w' hc q=>(hs.2 c ?_).trans q) (fun _ q=>q) fun _ _ q=>q
    rintro rfl
    rcases hc with rfl|hc
    · rw [hfree] at e; cases e
    · rw [hfree] at hc; cases hc
  rcases hx with hk|hk
  · refine wpAny_storeName_local hk hn (fun h' hn' hs=>?_) hcls
    obtain ⟨oL,_,_,hoL,_⟩:=id hn
    refine h _ ⟨I.ok,I.os,I.bare,⟨fun b o e n hb hx=>?_,fun b o e n hb hx=>?_,I.base.free,fun b o e hx=>?_,I.base.tups,I.base.frzs,I.base.tbls⟩,⟨_,hn',fun j y v' e1 e2 e3=>?_⟩,fun y c e=>?_,I.free,I.freeC,fun p hp=>?_,tracked ⟨oL,hoL,I.free⟩ hs,by simpa using I.len⟩ ⟨_,hs,.inl rfl⟩
    · exact (hs.2 b (Nat.ne_of_lt (Nat.lt_of_lt_of_le (Heap.lt_size e) I.ok.above))).trans (I.base.keep b o e n hb hx)
    · obtain ⟨sl,e1⟩:=I.base.slot b o e n hb hx
      exact ⟨sl,(hs.2 b (Nat.ne_of_lt (Nat.lt_of_lt_of_le (Heap.lt_size e) I.ok.above))).trans e1⟩
    · obtain ⟨o',e1⟩:=I.base.there b o e hx
      exact ⟨o',(hs.2 b (Nat.ne_of_lt (Nat.lt_of_lt_of_le (Heap.lt_size e) I.ok.above))).trans e1⟩
    · by_cases hj:j=i
      · subst hj
        rw [hi] at e1; cases e1
        rw [List.getElem?_set_self hiσ] at e2
        cases e2
        exact ⟨u,r,.inl ⟨hk,by simp⟩⟩
      · rw [List.getElem?_set_ne (Ne.symm hj)] at e2
        obtain ⟨u',r',q⟩:=hl j y v' e1 e2 e3
        refine ⟨u',r',?_⟩
        rcases q with ⟨k,e⟩|⟨k,c,e,z⟩
        · refine .inl ⟨k,?_⟩
          have:y≠x:=fun e=>hj (nodup_ix hN e1 (e ▸ hi))
          simp [this,e]
        · exact .inr ⟨k,c,e,z.sameBut hs (cne y c e)⟩
    · obtain ⟨w',z⟩:=I.cell y c e
      exact ⟨w',z.sameBut hs (cne y c e)⟩
    · obtain ⟨e,n,ne,nf,d⟩:=I.pin p hp
      exact ⟨(hs.2 p.1 ne).trans e,n,ne,nf,d⟩
  · have hfn:X.fn x=true:=by
      rcases hf with z|z
      · exact z
      · rw [z] at hk; cases hk
    obtain ⟨c,hc⟩:=I.ok.has x (.inl hk)
    obtain ⟨w',z⟩:=I.cell x c hc
    refine wpAny_storeName_cell I.ok.kind hk hc z (fun h' hc' hs=>?_)
    obtain ⟨oc,hoc,hocd⟩:=id z
    refine h { s with heap:=h' } ⟨I.ok,I.os,I.bare,⟨fun b o e n hb hx=>?_,fun b o e n hb hx=>?_,I.base.free,fun b o e hx=>?_,I.base.tups,I.base.frzs,I.base.tbls⟩,⟨m,hn.sameBut hs (Ne.symm (cne x c hc)),fun j y v' e1 e2 e3=>?_⟩,fun y c' e=>?_,I.free,I.freeC,fun p hp=>?_,tracked ⟨oc,hoc,I.freeC x c hc⟩ hs,by simpa using I.len⟩ ⟨c,hs,.inr hc⟩
    · exact (hs.2 b (Nat.ne_of_lt (Nat.lt_of_lt_of_le (Heap.lt_size e) (I.ok.cab x c hfn hc)))).trans (I.base.keep b o e n hb hx)
    · obtain ⟨sl,e1⟩:=I.base.slot b o e n hb hx
      exact ⟨sl,(hs.2 b (Nat.ne_of_lt (Nat.lt_of_lt_of_le (Heap.lt_size e) (I.ok.cab x c hfn hc)))).trans e1⟩
    · obtain ⟨o',e1⟩:=I.base.there b o e hx
      exact ⟨o',(hs.2 b (Nat.ne_of_lt (Nat.lt_of_lt_of_le (Heap.lt_size e) (I.ok.cab x c hfn hc)))).trans e1⟩
    · by_cases hj:j=i
      · subst hj
        rw [hi] at e1; cases e1
        rw [List.getElem?_set_self hiσ] at e2
        cases e2
        exact ⟨u,r,.inr ⟨.inl hk,c,hc,hc'⟩⟩
      · rw [List.getElem?_set_ne (Ne.symm hj)] at e2
        obtain ⟨u',r',q⟩:=hl j y v' e1 e2 e3
        refine ⟨u',r',?_⟩
        rcases q with q|⟨k,c',e,z'⟩
        · exact .inl q
        · refine .inr ⟨k,c',e,z'.sameBut hs ?_⟩
          rintro rfl
          exact hj (nodup_ix hN e1 (I.ok.inj _ _ _ e hc ▸ hi))
    · by_cases hcc:c'=c
      · subst hcc; exact ⟨_,hc'⟩
      · obtain ⟨w2,z2⟩:=I.cell y c' e
        exact ⟨w2,z2.sameBut hs hcc⟩
    · obtain ⟨e,n,ne,nf,d⟩:=I.pin p hp
      refine ⟨(hs.2 p.1 ?_).trans e,n,ne,nf,d⟩
      intro q
      rw [q,hoc] at e
      have q':oc=p.2:=Option.some.inj e
      exact d w' (by rw [← q']; exact hocd)
theorem store_ok {M:Model} {A:Around} {E:Value→Shared→Prop} {i:Nat} {x:Str} {v:V} {u:Value} {Q:Unit→Shared→Prop} (I:Inv X pins σ H s) (hN:X.N.Nodup) (hi:X.N[i]?=some x) (hx:Loc X.env.scope x) (r:RelV v u)
    (h:∀ s',Inv X pins (σ.set i (some v)) H s'→Q () s') (hf:X.fn x=true∨X.env.scope.names.lookup x=some .local:=by first|exact .inl rfl|exact .inr rfl|assumption):wpAny M A (storeName X.env x u) Q E s:=
  store_ok2 I hN hi hx r (fun s' I' _=>h s' I') hf
theorem Inv.call' {s':Shared} {ch:List Addr} (I:Inv X pins σ H s) (ho:s'.os=s.os) (u:Un (frs X.stack) ch H H' s.heap s'.heap) (hok:HOk X.prog X.w H' s'.heap) (hg:AllBare s'.gens)
    (hch:∀ b∈ch,(b∈X.ex∨X.s₀.heap.objs.size≤b)∧b≠X.env.locals∧(∀ x c,X.env.cells.lookup x=some c→c≠b)∧∀ p∈X.pn++pins,p.1≠b):Inv X pins σ H' s':=by
  obtain ⟨h',g',d',t',o'⟩:=s'
  have e:o'=s.os:=ho
  subst e
  exact I.call (g':=g') (t':=t') (d':=d') u hok hg hch
end
abbrev XK:=Value→Option Addr→Hp→Prop
abbrev St:=List (Option V)
abbrev VK:=V→Hp→Prop
abbrev TE:=St→Hp→VK→Prop
abbrev TT:=St→Hp→(Bool→Hp→Prop)→Prop
abbrev TA:=St→Hp→(List V→Hp→Prop)→Prop
structure Ends where
  nx:St→Hp→Prop
  rt:VK
  bk:St→Hp→Prop:=fun _ _=>False
  ct:St→Hp→Prop:=fun _ _=>False
abbrev TS:=Ends→St→Hp→Prop
def EP (X:Cx) (pins:List (Addr × Obj)) (σ:St) (Q:VK) (u:Value) (s':Shared):Prop:=∃ v H',Inv X pins σ H' s'∧RelV v u∧Q v H'
def TP (X:Cx) (pins:List (Addr × Obj)) (σ:St) (Q:Bool→Hp→Prop) (b:Bool) (s':Shared):Prop:=∃ H',Inv X pins σ H' s'∧Q b H'
def AP (X:Cx) (pins:List (Addr × Obj)) (σ:St) (Q:List V→Hp→Prop) (us:List Value) (s':Shared):Prop:=∃ vs H',Inv X pins σ H' s'∧Vals vs us∧Q vs H'
def SP (X:Cx) (pins:List (Addr × Obj)) (D:Ends) (f:Flow) (s':Shared):Prop:=
  match f with
  | .next=>∃ σ' H',Inv X pins σ' H' s'∧D.nx σ' H'
  | .brk=>∃ σ' H',Inv X pins σ' H' s'∧D.bk σ' H'
  | .cont=>∃ σ' H',Inv X pins σ' H' s'∧D.ct σ' H'
  | .ret u=>∃ v σ' H',Inv X pins σ' H' s'∧RelV v u∧D.rt v H'
def PE (X:Cx) (e:Expr) (t:TE):Prop:=
  ∀ (pins:List (Addr × Obj)) (s:Shared) (σ:St) (H:Hp) (Q:VK),Inv X pins σ H s→t σ H Q→wpAny (model X.prog X.w) X.A (eval e X.env) (EP X pins σ Q) X.xe s
def PT (X:Cx) (e:Expr) (t:TT):Prop:=
  ∀ (pins:List (Addr × Obj)) (s:Shared) (σ:St) (H:Hp) (Q:Bool→Hp→Prop),Inv X pins σ H s→t σ H Q→wpAny (model X.prog X.w) X.A (isTrue e X.env (eval e X.env)) (TP X pins σ Q) X.xe s
def PW (X:Cx) (e:Expr) (t:TT):Prop:=
  ∀ (whole:Sem Value) (pins:List (Addr × Obj)) (s:Shared) (σ:St) (H:Hp) (Q:Bool→Hp→Prop),Inv X pins σ H s→t σ H Q→wpAny (model X.prog X.w) X.A (isTrue e X.env whole) (TP X pins σ Q) X.xe s
theorem PW.pt {X:Cx} {e:Expr} {t:TT} (h:PW X e t):PT X e t:=h _
def PA (X:Cx) (es:List Expr) (t:TA):Prop:=
  ∀ (pos:Pos) (pins:List (Addr × Obj)) (s:Shared) (σ:St) (H:Hp) (Q:List V→Hp→Prop),Inv X pins σ H s→t σ H Q→wpAny (model X.prog X.w) X.A (spliced (backTo pos (starEach es X.env))) (AP X pins σ Q) X.xe s
def PS (X:Cx) (st:Stmt) (t:TS):Prop:=
  ∀ (pins:List (Addr × Obj)) (s:Shared) (σ:St) (H:Hp) (D:Ends),Inv X pins σ H s→t D σ H→wpAny (model X.prog X.w) X.A (exec st X.env) (SP X pins D) X.xe s
def PSs (X:Cx) (st:List Stmt) (t:TS):Prop:=
  ∀ (pins:List (Addr × Obj)) (s:Shared) (σ:St) (H:Hp) (D:Ends),Inv X pins σ H s→t D σ H→wpAny (model X.prog X.w) X.A (execs st X.env) (SP X pins D) X.xe s
theorem thn {α:Type} {t:Sem α} {Q Q':α→Shared→Prop} {M:Model} {A:Around} {E:Value→Shared→Prop} {s:Shared} (h:wpAny M A t Q E s) (hQ:∀ a s,Q a s→Q' a s):wpAny M A t Q' E s:=wpAny_mono h hQ fun _ _ x=>x
section
variable {X:Cx}
def tVar (i:Nat):TE:=fun σ H Q=>∃ v,σ[i]?=some (some v)∧Q v H
def tC (v:V):TE:=fun _ H Q=>Q v H
theorem pe_var {i:Nat} {x:Str} {pos:Pos} (hN:X.N[i]?=some x) (hv:Vis X.env.scope x) (hd:(x == ("__debug__":Str))=false:=by decide) (hcd:(x == ("__classdict__":Str))=false:=by decide):PE X (.Name x pos) (tVar i):=by
  intro pins s σ H Q I h
  obtain ⟨v,e,h⟩:=h
  obtain ⟨m,hn,hl⟩:=I.loc
  obtain ⟨u,r,l⟩:=hl i x v hN e hv
  have fin:EP X pins σ Q u s:=⟨v,H,I,r,h⟩
  rcases l with ⟨hk,hm⟩|⟨hk,c,hc,hcell⟩
  · exact wpAny_Name (wpAny_loadName_local I.ok.kind hk hn hm fin) hd
  · rcases hk with hk|hk
    · exact wpAny_Name (wpAny_loadName_cell I.ok.kind hk hc hcell fin) hd
    · exact wpAny_Name (wpAny_loadName_free I.ok.kind hk hc hcell fin hcd) hd
theorem pe_int {i j pos}:PE X (.Constant (.int i) j pos) (tC (.int i)):=fun _ _ _ H _ I h=>wpAny_Constant_int ⟨.int i,H,I.tok _,⟨_,rfl⟩,h⟩
theorem pe_bl {b j pos}:PE X (.Constant (.bool b) j pos) (tC (.bl b)):=fun _ _ _ H _ I h=>Constant_bool ⟨.bl b,H,I,rfl,h⟩
theorem pe_non {j pos}:PE X (.Constant .none j pos) (tC .non):=fun _ _ _ H _ I h=>Constant_none ⟨.non,H,I,rfl,h⟩
theorem pe_str {x j pos}:PE X (.Constant (.str x) j pos) (tC (.str x)):=fun _ _ _ H _ I h=>Calls.Constant_str ⟨.str x,H,I.tok _,⟨_,rfl⟩,h⟩
def Gl (X:Cx) (x:Str):Prop:=X.env.kindOf x=some .globalImplicit
theorem ld_glob {E:Value→Shared→Prop} {pins:List (Addr × Obj)} {s:Shared} {σ:St} {H:Hp} {x:Str} {u:Value} {pos:Pos} {Q:Value→Shared→Prop} (I:Inv X pins σ H s) (hg:Gl X x) (hm:X.mg x=some u) (h:Q u s)
    (hd:(x == ("__debug__":Str))=false:=by decide):wpAny (model X.prog X.w) X.A (eval (.Name x pos) X.env) Q E s:=
  Calls.Name_function_global I.ok.kind hg (Calls.loadGlobal_global (by rw [I.ok.glob]; exact I.mod.glob.keeps I.bk) hm h) hd
theorem ld_blt {E:Value→Shared→Prop} {pins:List (Addr × Obj)} {s:Shared} {σ:St} {H:Hp} {x:Str} {u:Value} {pos:Pos} {Q:Value→Shared→Prop} (I:Inv X pins σ H s) (hg:Gl X x) (hm:X.mg x=none) (hv:bootBuiltins x=some u) (h:Q u s)
    (hn:x≠"__name__":=by decide) (hd:(x == ("__debug__":Str))=false:=by decide):wpAny (model X.prog X.w) X.A (eval (.Name x pos) X.env) Q E s:=by
  obtain ⟨mb,h1,h2⟩:=I.mod.blt
  exact Calls.Name_function_global I.ok.kind hg (Calls.loadGlobal_builtin (by rw [I.ok.glob]; exact I.mod.glob.keeps I.bk) hm (by rw [I.ok.blt]; exact h1.keeps I.bk) ((h2 x hn).trans hv) h) hd
theorem pe_glob {x:Str} {v:V} {u:Value} {pos:Pos} (hg:Gl X x) (hm:X.mg x=some u) (r:RelV v u) (hd:(x == ("__debug__":Str))=false:=by decide):PE X (.Name x pos) (tC v):=
  fun _ _ _ H _ I h=>ld_glob I hg hm ⟨v,H,I,r,h⟩ hd
theorem pe_bltn {x:Str} {v:V} {u:Value} {pos:Pos} (hg:Gl X x) (hm:X.mg x=none) (hv:bootBuiltins x=some u) (r:RelV v u) (hn:x≠"__name__":=by decide) (hd:(x == ("__debug__":Str))=false:=by decide):PE X (.Name x pos) (tC v):=
  fun _ _ _ H _ I h=>ld_blt I hg hm hv ⟨v,H,I,r,h⟩ hn hd
variable {a b:Expr} {ta tb:TE} {pos:Pos}
variable {tA tB':TT} {rest:List Expr}
def tOr (t u:TT):TT:=fun σ H Q=>t σ H fun c H1=>if c=true then Q true H1 else u σ H1 Q
def tNot (t:TT):TT:=fun σ H Q=>t σ H fun c H1=>Q (!c) H1
theorem pw_or1 (ha:PT X a tA):PW X (.BoolOp .Or [a] pos) tA:=by
  intro wh pins s σ H Q I h
  refine isTrue_or (thn (ha pins s σ H Q I h) fun c s1 e=>?_)
  cases c with
  | false=>exact isTrue_or_nil e
  | true=>exact e
theorem pw_or (ha:PT X a tA) (hb:PW X (.BoolOp .Or (b::rest) pos) tB'):PW X (.BoolOp .Or (a::b::rest) pos) (tOr tA tB'):=by
  intro wh pins s σ H Q I h
  refine isTrue_or (thn (ha pins s σ H _ I h) fun c s1 ⟨H1,I1,q1⟩=>?_)
  cases c with
  | true=>exact ⟨H1,I1,q1⟩
  | false=>exact hb wh pins s1 σ H1 Q I1 q1
theorem pt_not (ha:PT X a tA):PT X (.UnaryOp .Not a pos) (tNot tA):=by
  intro pins s σ H Q I h
  exact isTrue_not (ha pins s σ H (fun c H1=>Q (!c) H1) I h)
def tAndV (ta tb:TE):TE:=fun σ H Q=>ta σ H fun x H1=>∃ c,x=.bl c∧if c=true then tb σ H1 Q else Q (.bl false) H1
def tOrV (ta tb:TE):TE:=fun σ H Q=>ta σ H fun x H1=>∃ c,x=.bl c∧if c=true then Q (.bl true) H1 else tb σ H1 Q
def tNotV (ta:TE):TE:=fun σ H Q=>ta σ H fun x H1=>∃ c,x=.bl c∧Q (.bl (!c)) H1
theorem pe_one {op} {t:TE} (h:PE X a t):PE X (.BoolOp op [a] pos) t:=fun pins s σ H Q I hw=>BoolOp_one (h pins s σ H Q I hw)
theorem pe_and (ha:PE X a ta) (hb:PE X (.BoolOp .And (b::rest) pos) tb):PE X (.BoolOp .And (a::b::rest) pos) (tAndV ta tb):=by
  intro pins s σ H Q I h
  refine BoolOp_and (thn (ha pins s σ H _ I h) fun v s1 ⟨x,H1,I1,r1,q1⟩=>?_)
  obtain ⟨c,rfl,q1⟩:=q1
  cases r1
  refine wpAny_truthy_bool ?_
  cases c with
  | true=>exact hb pins s1 σ H1 Q I1 q1
  | false=>exact ⟨.bl false,H1,I1,rfl,q1⟩
theorem pe_or (ha:PE X a ta) (hb:PE X (.BoolOp .Or (b::rest) pos) tb):PE X (.BoolOp .Or (a::b::rest) pos) (tOrV ta tb):=by
  intro pins s σ H Q I h
  refine BoolOp_or (thn (ha pins s σ H _ I h) fun v s1 ⟨x,H1,I1,r1,q1⟩=>?_)
  obtain ⟨c,rfl,q1⟩:=q1
  cases r1
  refine wpAny_truthy_bool ?_
  cases c with
  | false=>exact hb pins s1 σ H1 Q I1 q1
  | true=>exact ⟨.bl true,H1,I1,rfl,q1⟩
theorem pe_not (ha:PE X a ta):PE X (.UnaryOp .Not a pos) (tNotV ta):=by
  intro pins s σ H Q I h
  refine UnaryOp_ (thn (ha pins s σ H _ I h) fun v s1 ⟨x,H1,I1,r1,q1⟩=>?_)
  obtain ⟨c,rfl,q1⟩:=q1
  cases r1
  exact not_of (wpAny_truthy_bool ⟨.bl (!c),H1,I1,rfl,q1⟩)
def tIf (t:TT) (ta tb:TE):TE:=fun σ H Q=>t σ H fun c H1=>if c=true then ta σ H1 Q else tb σ H1 Q
theorem pe_ifExp {c:Expr} (hc:PT X c tA) (ha:PE X a ta) (hb:PE X b tb):PE X (.IfExp c a b pos) (tIf tA ta tb):=by
  intro pins s σ H Q I h
  refine wpAny_IfExp (thn (hc pins s σ H _ I h) fun d s1 ⟨H1,I1,q1⟩=>?_)
  cases d with
  | true=>exact ha pins s1 σ H1 Q I1 q1
  | false=>exact hb pins s1 σ H1 Q I1 q1
end
def SqL (K:PySem.W.Frag) (H:Hp) (a:Addr) (xs:List V):Prop:=
  Rd H a (.lst xs) ∨
    ∃ (o:Obj) (its:Array Value) (n:Nat),K.lookup a=some o∧o.cls=.type "list"∧o.dict=none∧o.data=.seq its n∧its.size≤sizeLine∧Vals xs its.toList
def SqT (K:PySem.W.Frag) (H:Hp) (a:Addr) (xs:List V):Prop:=
  Rd H a (.tup xs) ∨
    ∃ (o:Obj) (its:Array Value) (n:Nat),K.lookup a=some o∧o.cls=.type "tuple"∧o.data=.seq its n∧its.size≤sizeLine∧Vals xs its.toList
def absV:Value→Option V
  | .none=>some .non
  | .bool b=>some (.bl b)
  | .int i _=>some (.int i)
  | .str x _=>some (.str x)
  | .bytes b _=>some (.byt b)
  | .float b _=>some (.flt b)
  | .ref a=>some (.ref a)
  | .type n=>some (.ty n)
  | _=>none
theorem RelV.abs {x:V} {u:Value} (r:RelV x u):absV u=some x:=by
  cases x with
  | non=>cases r; rfl
  | bl _=>cases r; rfl
  | int _=>obtain ⟨t,rfl⟩:=r; rfl
  | str _=>obtain ⟨t,rfl⟩:=r; rfl
  | byt _=>obtain ⟨t,rfl⟩:=r; rfl
  | flt _=>obtain ⟨t,rfl⟩:=r; rfl
  | ref _=>cases r; rfl
  | ty _=>cases r; rfl
theorem RelV.inj {x y:V} {u:Value} (r:RelV x u) (q:RelV y u):x=y:=Option.some.inj (r.abs.symm.trans q.abs)
theorem Vals.inj:∀ {xs ys:List V} {us:List Value},Vals xs us→Vals ys us→xs=ys
  | _,_,_,.nil,.nil=>rfl
  | _,_,_,.cons r t,.cons r' t'=>by rw [r.inj r',Vals.inj t t']
section
variable {X:Cx} {pins:List (Addr × Obj)} {σ:St} {H:Hp} {s:Shared} {a:Addr} {xs ys:List V}
theorem SqL.of {K:PySem.W.Frag} (h:H a=some (.lst xs)):SqL K H a xs:=.inl (.inl h)
theorem SqT.of {K:PySem.W.Frag} (h:H a=some (.tup xs)):SqT K H a xs:=.inl (.inl h)
theorem Inv.list (I:Inv X pins σ H s) (h:SqL X.K H a xs):∃ its:List Value,Vals xs its∧PlainL s.heap a its.toArray∧xs.length≤sizeLine:=by
  rcases h with h|⟨o,its,n,hk,hc,hd,hs,hz,r⟩
  · obtain ⟨z,its,n,r,e⟩:=h.ok I.hok
    exact ⟨its,r,⟨_,n,e,rfl,rfl,rfl⟩,z⟩
  · refine ⟨its.toList,r,⟨o,n,I.kIn a o hk,hc,hd,by simpa using hs⟩,?_⟩
    have e:=r.length
    simp only [Array.length_toList] at e
    omega
theorem Inv.tuple (I:Inv X pins σ H s) (h:SqT X.K H a xs):∃ its:List Value,Vals xs its∧IsTup s.heap a its.toArray∧xs.length≤sizeLine:=by
  rcases h with h|⟨o,its,n,hk,hc,hs,hz,r⟩
  · obtain ⟨z,its,r,p⟩:=h.ok I.hok
    exact ⟨its,r,p,z⟩
  · refine ⟨its.toList,r,⟨o,I.kIn a o hk,hc,n,by simpa using hs⟩,?_⟩
    have e:=r.length
    simp only [Array.length_toList] at e
    omega
theorem Inv.list_inj (I:Inv X pins σ H s) (h:SqL X.K H a xs) (h':SqL X.K H a ys):xs=ys:=by
  obtain ⟨its,r,⟨o,n,e,_,_,d⟩,_⟩:=I.list h
  obtain ⟨its',r',⟨o',n',e',_,_,d'⟩,_⟩:=I.list h'
  rw [e] at e'; cases e'
  rw [d] at d'
  injection d' with d1 _
  have:its=its':=by simpa using congrArg Array.toList d1
  subst this
  exact r.inj r'
theorem Inv.tuple_inj (I:Inv X pins σ H s) (h:SqT X.K H a xs) (h':SqT X.K H a ys):xs=ys:=by
  obtain ⟨its,r,⟨o,e,_,n,d⟩,_⟩:=I.tuple h
  obtain ⟨its',r',⟨o',e',_,n',d'⟩,_⟩:=I.tuple h'
  rw [e] at e'; cases e'
  rw [d] at d'
  injection d' with d1 _
  have:its=its':=by simpa using congrArg Array.toList d1
  subst this
  exact r.inj r'
end
abbrev Cx.wish (X:Cx) (E:Value→Shared→Prop):Cx:={ X with xe:=E }
abbrev Cx.nox (X:Cx):Cx:=X.wish fun _ _=>False
theorem Cx.Ok.wish {X:Cx} (ok:X.Ok) (E:Value→Shared→Prop):(X.wish E).Ok:=
  ⟨ok.mod,ok.kind,ok.glob,ok.blt,ok.above,ok.inj,ok.has,ok.cab,ok.hd,ok.frames,ok.stk,ok.exf,ok.bs,ok.bsz,ok.noex,ok.exfs,ok.funs,ok.frf⟩
theorem Cx.Ok.unwish {X:Cx} {E:Value→Shared→Prop} (ok:(X.wish E).Ok):X.Ok:=
  ⟨ok.mod,ok.kind,ok.glob,ok.blt,ok.above,ok.inj,ok.has,ok.cab,ok.hd,ok.frames,ok.stk,ok.exf,ok.bs,ok.bsz,ok.noex,ok.exfs,ok.funs,ok.frf⟩
section
variable {X:Cx} {pins:List (Addr × Obj)} {σ:St} {H:Hp} {s:Shared} {E:Value→Shared→Prop}
theorem Inv.wish (I:Inv X pins σ H s) (E:Value→Shared→Prop):Inv (X.wish E) pins σ H s:=⟨I.ok.wish E,I.os,I.bare,I.base,I.loc,I.cell,I.free,I.freeC,I.pin,I.hok,I.len⟩
theorem Inv.unwish (I:Inv (X.wish E) pins σ H s):Inv X pins σ H s:=⟨I.ok.unwish,I.os,I.bare,I.base,I.loc,I.cell,I.free,I.freeC,I.pin,I.hok,I.len⟩
theorem SP.unwish {D:Ends} {f:Flow} {s':Shared} (h:SP (X.wish E) pins D f s'):SP X pins D f s':=by
  cases f with
  | next=>obtain ⟨σ',H',I,q⟩:=h; exact ⟨σ',H',I.unwish,q⟩
  | brk=>obtain ⟨σ',H',I,q⟩:=h; exact ⟨σ',H',I.unwish,q⟩
  | cont=>obtain ⟨σ',H',I,q⟩:=h; exact ⟨σ',H',I.unwish,q⟩
  | ret u=>obtain ⟨v,σ',H',I,r,q⟩:=h; exact ⟨v,σ',H',I.unwish,r,q⟩
theorem PSs.nox {st:List Stmt} {t:TS} (h:PSs X.nox st t):PSs X st t:=fun pins s σ H D I hw=>
  wpAny_mono (h pins s σ H D (I.wish _) hw) (fun _ _ q=>q.unwish) fun _ _ z=>False.elim z
end
section
variable {X:Cx} {st:Stmt} {rest:List Stmt} {t u:TS} {e:Expr} {te:TE} {pos:Pos}
def tNext:TS:=fun D σ H=>D.nx σ H
def tSeq (t u:TS):TS:=fun D σ H=>t { D with nx:=u D } σ H
theorem pss_nil:PSs X [] tNext:=fun _ _ σ H _ I h=>wpAny_execs_nil ⟨σ,H,I,h⟩
theorem pss_cons (h1:PS X st t) (h2:PSs X rest u):PSs X (st::rest) (tSeq t u):=by
  intro pins s σ H D I h
  refine wpAny_execs_cons (thn (h1 pins s σ H { D with nx:=u D } I h) fun f s1 q=>?_)
  cases f with
  | next=>
    obtain ⟨σ',H',I',q⟩:=q
    exact h2 pins s1 σ' H' D I' q
  | ret v=>exact q
  | brk=>exact q
  | cont=>exact q
theorem pss_one (h1:PS X st t):PSs X [st] t:=by
  intro pins s σ H D I h
  refine wpAny_execs_cons (thn (h1 pins s σ H D I h) fun f s1 q=>?_)
  cases f with
  | next=>exact wpAny_execs_nil q
  | ret v=>exact q
  | brk=>exact q
  | cont=>exact q
theorem Inv.quiet {pins:List (Addr × Obj)} {σ:St} {H:Hp} {s:Shared} (I:Inv X pins σ H s):interactive X.env=false:=by simp [interactive,I.ok.kind]
def tDrop (te:TE):TS:=fun D σ H=>te σ H fun _ H1=>D.nx σ H1
theorem ps_expr (he:PE X e te) (hs:swapsWith e none pos.line X.env=pure false:=by rfl):PS X (.Expr e pos) (tDrop te):=by
  intro pins s σ H D I h
  exact wpAny_Expr_any (thn (he pins s σ H _ I h) fun v s1 ⟨x,H1,I1,r1,q1⟩=>⟨σ,H1,I1,q1⟩) I.quiet hs
def tRet (te:TE):TS:=fun D σ H=>te σ H D.rt
theorem ps_ret (he:PE X e te):PS X (.Return (some e) pos) (tRet te):=by
  intro pins s σ H D I h
  exact wpAny_Return_some (thn (he pins s σ H _ I h) fun v s1 ⟨x,H1,I1,r1,q1⟩=>⟨x,σ,H1,I1,r1,q1⟩)
def tIfS (c:TT) (t u:TS):TS:=fun D σ H=>c σ H fun b H1=>if b=true then t D σ H1 else u D σ H1
theorem ps_if {c:Expr} {a b:List Stmt} {tc:TT} (hc:PT X c tc) (ha:PSs X a t) (hb:PSs X b u):PS X (.If c a b pos) (tIfS tc t u):=by
  intro pins s σ H D I h
  refine wpAny_If (thn (hc pins s σ H _ I h) fun d s1 ⟨H1,I1,q1⟩=>?_)
  cases d with
  | true=>exact ha pins s1 σ H1 D I1 q1
  | false=>exact hb pins s1 σ H1 D I1 q1
def tNever:TS:=fun _ _ _=>False
theorem ps_never:PS X st tNever:=fun _ _ _ _ _ _ h=>h.elim
end
abbrev TG:=V→St→Hp→(St→Hp→Prop)→Prop
abbrev TGs:=List V→St→Hp→(St→Hp→Prop)→Prop
def PG (X:Cx) (target:Expr) (t:TG):Prop:=
  ∀ (pins:List (Addr × Obj)) (s:Shared) (σ:St) (H:Hp) (v:V) (u:Value) (Q:St→Hp→Prop),Inv X pins σ H s→RelV v u→t v σ H Q →
    wpAny (model X.prog X.w) X.A (assign target X.env u) (fun _ s'=>∃ σ' H',Inv X pins σ' H' s'∧Q σ' H') X.xe s
def PGs (X:Cx) (ts:List Expr) (t:TGs):Prop:=
  ∀ (pins:List (Addr × Obj)) (s:Shared) (σ:St) (H:Hp) (vs:List V) (us:List Value) (Q:St→Hp→Prop),Inv X pins σ H s→Vals vs us→t vs σ H Q →
    wpAny (model X.prog X.w) X.A (assignInOrder ((assignEach ts X.env).map (·.2)) us) (fun _ s'=>∃ σ' H',Inv X pins σ' H' s'∧Q σ' H') X.xe s
abbrev TSet:=V→V→V→Hp→(Hp→Prop)→Prop
def PSet (X:Cx) (t:TSet):Prop:=
  ∀ (pins:List (Addr × Obj)) (s:Shared) (σ:St) (H:Hp) (o i v:V) (ov iv u:Value) (Q:Hp→Prop),Inv X pins σ H s→RelV o ov→RelV i iv→RelV v u→t o i v H Q →
    wpAny (model X.prog X.w) X.A (setItem ov iv u) (fun _ s'=>∃ H',Inv X pins σ H' s'∧Q H') X.xe s
section
variable {X:Cx} {pos:Pos}
def gName (i:Nat):TG:=fun v σ H Q=>Q (σ.set i (some v)) H
theorem pg_name {i:Nat} {x:Str} (hN:X.N.Nodup) (hi:X.N[i]?=some x) (hx:Loc X.env.scope x) (hf:X.fn x=true∨X.env.scope.names.lookup x=some .local:=by first|exact .inl rfl|exact .inr rfl|assumption):PG X (.Name x pos) (gName i):=by
  intro pins s σ H v u Q I r h
  exact wpAny_assign_Name (store_ok I hN hi hx r (fun s' I'=>⟨_,H,I',h⟩) hf)
def gNil:TGs:=fun vs σ H Q=>vs=[]∧Q σ H
def gCons (t:TG) (u:TGs):TGs:=fun vs σ H Q=>∃ v r,vs=v::r∧t v σ H fun σ' H'=>u r σ' H' Q
theorem pgs_nil:PGs X [] gNil:=by
  intro pins s σ H vs us Q I r h
  obtain ⟨e,h⟩:=h
  subst e
  cases r
  exact assignInOrder_nil ⟨σ,H,I,h⟩
theorem pgs_cons {e:Expr} {es:List Expr} {t:TG} {u:TGs} (h1:PG X e t) (h2:PGs X es u)
    (hs:(assignEach (e::es) X.env).map (·.2)=assign e X.env::(assignEach es X.env).map (·.2):=by rfl):PGs X (e::es) (gCons t u):=by
  intro pins s σ H vs us Q I r h
  obtain ⟨v,vr,e1,h⟩:=h
  subst e1
  cases r with
  | cons r rr=>
    rw [hs]
    refine assignInOrder_cons (thn (h1 pins s σ H _ _ _ I r h) fun _ s1 ⟨σ1,H1,I1,q1⟩=>?_)
    exact h2 pins s1 σ1 H1 _ _ Q I1 rr q1
def gTup (K:PySem.W.Frag) (n:Nat) (t:TGs):TG:=fun v σ H Q=>∃ a xs,v=.ref a∧SqT K H a xs∧xs.length=n∧t xs σ H Q
theorem pg_tup {es:List Expr} {k:Nat} {t:TGs} {n:Nat} (hc:X.calm=true) (h:PGs X es t)
    (hn:(assignEach es X.env).length=n:=by rfl) (hst:(assignEach es X.env).findIdx? (·.1)=none:=by rfl):PG X (.Tuple es k pos) (gTup X.K n t):=by
  intro pins s σ H v u Q I r hw
  obtain ⟨a,xs,e1,hq,hl,hw⟩:=hw
  subst e1
  cases r
  obtain ⟨its,rv,ht,hz⟩:=I.tuple hq
  refine assign_Tuple_tuple (I.ok.hd hc) ht (by simp [hn,← hl,rv.length]) hst fun h' hx=>?_
  have I1:Inv X pins σ H { s with heap:=h' }:=I.kept (t':=s.toks) fun b o e=>hx b o (Nat.ne_of_lt (Heap.lt_size e)) e
  exact h pins _ σ H xs _ Q I1 (by simpa using rv) hw
def gSub (to ti:TE) (t:TSet):TG:=fun v σ H Q=>to σ H fun o H1=>ti σ H1 fun i H2=>t o i v H2 fun H3=>Q σ H3
theorem pg_sub {o i:Expr} {to ti:TE} {t:TSet} (ho:PE X o to) (hi:PE X i ti) (hs:PSet X t)
    (ha:∀ v,assign (.Subscript o i pos) X.env v=(do
      let ov ← holding [v] (eval o X.env)
      let iv ← holding [v,ov] (eval i X.env)
      standAt pos
      holding [v,ov,iv] (setItem ov iv v)
      release [v,ov,iv] []):=by intro _; rfl):PG X (.Subscript o i pos) (gSub to ti t):=by
  intro pins s σ H v u Q I r h
  rw [ha]
  refine wpAny_bind (wpAny_holding (thn (ho pins s σ H _ I h) fun ov s1 ⟨x,H1,I1,r1,q1⟩=>?_))
  refine wpAny_bind (wpAny_holding (thn (hi pins s1 σ H1 _ I1 q1) fun iv s2 ⟨y,H2,I2,r2,q2⟩=>?_))
  refine wpAny_bind (wpAny_standAt (wpAny_bind (wpAny_holding (thn (hs pins s2 σ H2 x y v ov iv u _ I2 r1 r2 r q2) fun _ s3 ⟨H3,I3,q3⟩=>?_))))
  exact wpAny_release ⟨σ,H3,I3,q3⟩
def tAsg (te:TE) (g:TG):TS:=fun D σ H=>te σ H fun x H1=>g x σ H1 D.nx
theorem ps_asg {tg e:Expr} {te:TE} {g:TG} (he:PE X e te) (hg:PG X tg g) (hs:swapsWithSole [tg] e pos.line X.env=pure false:=by rfl) (hw:swappedStores [tg] e X.env=pure none:=by rfl)
    (h1:(assignEach [tg] X.env).map (·.2)=[assign tg X.env]:=by rfl):PS X (.Assign [tg] e pos) (tAsg te g):=by
  intro pins s σ H D I h
  refine wpAny_Assign_stores (thn (he pins s σ H _ I h) fun v s1 ⟨x,H1,I1,r1,q1⟩=>?_) hs hw
  rw [h1]
  exact thn (hg pins s1 σ H1 x v _ I1 r1 q1) fun _ s2 q=>q
theorem ps_set {i:Nat} {x:Str} {e:Expr} {te:TE} {pos':Pos} (hN:X.N.Nodup) (hi:X.N[i]?=some x) (hx:Loc X.env.scope x) (he:PE X e te) (hs:swapsWith e (some (.Name x pos')) pos.line X.env=pure false:=by rfl) (hf:X.fn x=true∨X.env.scope.names.lookup x=some .local:=by first|exact .inl rfl|exact .inr rfl|assumption) :
    PS X (.Assign [.Name x pos'] e pos) (tAsg te (gName i)):=by
  intro pins s σ H D I h
  refine wpAny_Assign_Name (thn (he pins s σ H _ I h) fun v s1 ⟨y,H1,I1,r1,q1⟩=>?_) hs
  exact store_ok I1 hN hi hx r1 (fun s2 I2=>⟨_,H1,I2,q1⟩) hf
theorem ps_st {i:Nat} {x:Str} {e:Expr} {te:TE} {pos':Pos} (hN:X.N.Nodup) (hi:X.N[i]?=some x) (he:PE X e te) (hx:Loc X.env.scope x:=by first|exact Or.inl rfl|exact Or.inr rfl) (hs:swapsWith e (some (.Name x pos')) pos.line X.env=pure false:=by rfl) (hf:X.fn x=true∨X.env.scope.names.lookup x=some .local:=by first|exact .inl rfl|exact .inr rfl|assumption) :
    PS X (.Assign [.Name x pos'] e pos) (tAsg te (gName i)):=ps_set hN hi hx he hs hf
end
section
variable {X:Cx} {pos:Pos}
def tWhile (c:TT) (tb:TS):TS:=fun D σ H=>∃ W:Nat→St→Hp→Prop,(∃ m,W m σ H)∧∀ m σ H,W m σ H →
  c σ H fun b H1=>if b=true then ∃ N:St→Hp→Prop,(∀ σ' H',N σ' H'→∃ m',m'<m∧W m' σ' H')∧tb { D with nx:=N,ct:=N,bk:=D.nx } σ H1 else D.nx σ H1
end
structure It where
  go:Nat→Hp→Prop
  yld:Nat→Hp→V→Hp→Prop
  stop:Nat→Hp→Prop
def FpOk (X:Cx) (pins:List (Addr × Obj)) (H:Hp) (b:Addr):Prop:=
  H b=none∧b≠X.env.locals∧b ∉ X.fs∧(b∈X.ex∨X.s₀.heap.objs.size≤b)∧(∀ x c,X.env.cells.lookup x=some c→c≠b)∧∀ p∈X.pn++pins,p.1≠b
theorem Inv.fpOk {X:Cx} {pins:List (Addr × Obj)} {σ:St} {H H':Hp} {s:Shared} {b:Addr} (I:Inv X pins σ H s) (hb:s.heap.objs.size≤b) (hn:H' b=none):FpOk X pins H' b:=by
  refine ⟨hn,Nat.ne_of_gt (Nat.lt_of_lt_of_le I.lt hb),I.nofs hb,.inr (Nat.le_trans I.sz hb),fun x c e z=>?_,fun p hp z=>?_⟩
  · obtain ⟨v,q⟩:=I.cell x c e
    exact absurd (Nat.lt_of_lt_of_le q.lt (by rw [z]; exact hb)) (Nat.lt_irrefl _)
  · exact absurd (Nat.lt_of_lt_of_le (Heap.lt_size (I.pin p hp).1) (by rw [z]; exact hb)) (Nat.lt_irrefl _)
structure Turn (P:Program) (w:World) (K:PySem.W.Frag) (tg:Expr) (J:It) (fp:List Addr) (it:Addr) (tn:Nat→Heap→Prop):Prop where
  mem:it∈fp
  obj:∀ i h,tn i h→∀ b∈fp,∃ o,h.get? b=some o∧∀ v,o.data≠.cell v
  keep:∀ i h h',tn i h→(∀ b∈fp,∀ o,h.get? b=some o→h'.get? b=some o)→tn i h'
  item:∀ (X:Cx),X.prog=P→X.w=w→X.K=K→X.calm=true→∀ (i:Nat) (pins:List (Addr × Obj)) (s:Shared) (σ:St) (H:Hp) (E:Value→Shared→Prop),Inv X pins σ H s→(∀ b∈fp,FpOk X pins H b)→tn i s.heap→J.go i H →
    wpAny (model P w) X.A (pyNext (.ref it)) (fun r s1=>∃ u,r=some u ∧
      wpAny (model P w) X.A (letOwnedTupleGo tg (.ref it) u) (fun _ s2=>∃ x H',Inv X pins σ H' s2∧RelV x u∧J.yld i H x H'∧tn (i+1) s2.heap∧∀ b∈fp,H' b=none) E s1) E s
  done:∀ (X:Cx),X.prog=P→X.w=w→X.K=K→X.calm=true→∀ (i:Nat) (pins:List (Addr × Obj)) (s:Shared) (σ:St) (H:Hp) (E:Value→Shared→Prop),Inv X pins σ H s→(∀ b∈fp,FpOk X pins H b)→tn i s.heap→J.stop i H →
    wpAny (model P w) X.A (pyNext (.ref it)) (fun r s1=>r=none∧Inv X pins σ H s1) E s
  self:∀ (A:Around) (i:Nat) (s:Shared) (Q:Value→Shared→Prop) (E:Value→Shared→Prop),tn i s.heap→Q (.ref it) s→wpAny (model P w) A (pyIter (.ref it)) Q E s
abbrev TI:=St→Hp→(It→Hp→Prop)→Prop
def PIE (X:Cx) (pins:List (Addr × Obj)) (σ:St) (tg:Expr) (R:It→Hp→Prop) (itv:Value) (s2:Shared):Prop:=
  ∃ (it:Addr) (fp:List Addr) (tn:Nat→Heap→Prop) (J:It) (H':Hp),itv=.ref it∧Inv X pins σ H' s2∧Turn X.prog X.w X.K tg J fp it tn∧tn 0 s2.heap∧(∀ b∈fp,FpOk X pins H' b)∧R J H'
def PI (X:Cx) (tg iter:Expr) (wi:TI):Prop:=
  ∀ (pins:List (Addr × Obj)) (s:Shared) (σ:St) (H:Hp) (R:It→Hp→Prop),Inv X pins σ H s→wi σ H R →
    wpAny (model X.prog X.w) X.A (eval iter X.env) (fun v s1=>wpAny (model X.prog X.w) X.A (pyIter v) (PIE X pins σ tg R) X.xe s1) X.xe s
theorem go_of {M:Model} {A:Around} {E:Value→Shared→Prop} {s:Shared} {tg:Expr} {it:Addr} {u:Value} {o:Obj} {n:String} {vs:Array Value} {Q:Unit→Shared→Prop} (ho:s.heap.get? it=some o) (hc:o.cls=.type n) (hd:o.data=.fields vs)
    (hn:["enumerate","zip","dict_itemiterator","dict_reverseitemiterator","odict_iterator","itertools.zip_longest","itertools.pairwise"].contains n=false) (hQ:Q () s):wpAny M A (letOwnedTupleGo tg (.ref it) u) Q E s:=by
  unfold letOwnedTupleGo
  cases tg <;> first
    | exact wpAny_pure hQ
    | (cases u <;> first
        | exact wpAny_pure hQ
        | (refine wpAny_bind (wpAny_load ho ?_)
           rw [hc,hd]
           show wpAny M A (if (["enumerate","zip","dict_itemiterator","dict_reverseitemiterator","odict_iterator","itertools.zip_longest","itertools.pairwise"].contains n && vs[0]? == some (rawInt _))=true then _ else _) Q E s
           rw [if_neg (by intro h; rw [hn,Bool.false_and] at h; cases h)]
           exact wpAny_pure hQ))
def Itl (K:PySem.W.Frag) (a:Addr):It:=
  ⟨fun i H=>∃ xs x,SqL K H a xs∧xs[i]?=some x,fun i H x H'=>H'=H∧∀ xs,SqL K H a xs→xs[i]?=some x,fun i H=>∃ xs,SqL K H a xs∧xs.length≤i⟩
def Itt (K:PySem.W.Frag) (a:Addr):It:=
  ⟨fun i H=>∃ xs x,SqT K H a xs∧xs[i]?=some x,fun i H x H'=>H'=H∧∀ xs,SqT K H a xs→xs[i]?=some x,fun i H=>∃ xs,SqT K H a xs∧xs.length≤i⟩
theorem turn_list {P:Program} {w:World} {K:PySem.W.Frag} {tg:Expr} (a it:Addr):Turn P w K tg (Itl K a) [it] it (fun i h=>h.IsListIter it a i) where
  mem:=by simp
  obj:=fun i h st b hb=>by
    have e:b=it:=by simpa using hb
    subst e
    obtain ⟨o,e,c,d⟩:=st
    exact ⟨o,e,fun v z=>by rw [d] at z; cases z⟩
  keep:=fun i h h' st k=>st.at fun o e=>k it (by simp) o e
  item:=by
    intro X hP hw hK hc i pins s σ H E I hf st hg
    subst hP hw hK
    obtain ⟨xs,x,hq,hx⟩:=hg
    obtain ⟨its,rv,p,hz⟩:=I.list hq
    obtain ⟨u,hu,ru⟩:=rv.get hx
    obtain ⟨f0,f1,f2,f3,f4,f5⟩:=hf it (by simp)
    refine wpAny_pyNext_list_item st p.isList (x:=u) (by simpa using hu) fun h' st' sb=>?_
    have I1:Inv X pins σ H { s with heap:=h' }:=I.turned (t':=s.toks) (fun b o hb e=>(sb.2 b hb).trans e) f0 f1 f3 f4 f5
    obtain ⟨o,e,c,d⟩:=id st'
    exact ⟨u,rfl,go_of (s:={ s with heap:=h' }) e c d (by decide) ⟨x,H,I1,ru,⟨rfl,fun ys hy=>by rw [I.list_inj hy hq]; exact hx⟩,st',fun b hb=>(hf b hb).1⟩⟩
  done:=by
    intro X hP hw hK hc i pins s σ H E I hf st hg
    subst hP hw hK
    obtain ⟨xs,hq,hx⟩:=hg
    obtain ⟨its,rv,p,hz⟩:=I.list hq
    obtain ⟨f0,f1,f2,f3,f4,f5⟩:=hf it (by simp)
    have hl:=rv.length
    exact wpAny_pyNext_list_end (I.ok.hd hc) st p.isList (by simp; omega) fun h' eb=>⟨rfl,I.turned (t':=s.toks) (fun b o hb e=>eb b o hb e) f0 f1 f3 f4 f5⟩
  self:=fun _ _ _ _ _ st h=>wpAny_pyIter_listiter st h
theorem turn_tuple {P:Program} {w:World} {K:PySem.W.Frag} {tg:Expr} (a it:Addr):Turn P w K tg (Itt K a) [it] it (fun i h=>h.IsTupleIter it a i) where
  mem:=by simp
  obj:=fun i h st b hb=>by
    have e:b=it:=by simpa using hb
    subst e
    obtain ⟨o,e,c,d⟩:=st
    exact ⟨o,e,fun v z=>by rw [d] at z; cases z⟩
  keep:=fun i h h' st k=>st.at fun o e=>k it (by simp) o e
  item:=by
    intro X hP hw hK hc i pins s σ H E I hf st hg
    subst hP hw hK
    obtain ⟨xs,x,hq,hx⟩:=hg
    obtain ⟨its,rv,p,hz⟩:=I.tuple hq
    obtain ⟨u,hu,ru⟩:=rv.get hx
    obtain ⟨f0,f1,f2,f3,f4,f5⟩:=hf it (by simp)
    refine wpAny_pyNext_tuple_item st (show s.heap.IsTuple a its.toArray from p) (x:=u) (by simpa using hu) fun h' st' sb=>?_
    have I1:Inv X pins σ H { s with heap:=h' }:=I.turned (t':=s.toks) (fun b o hb e=>(sb.2 b hb).trans e) f0 f1 f3 f4 f5
    obtain ⟨o,e,c,d⟩:=id st'
    exact ⟨u,rfl,go_of (s:={ s with heap:=h' }) e c d (by decide) ⟨x,H,I1,ru,⟨rfl,fun ys hy=>by rw [I.tuple_inj hy hq]; exact hx⟩,st',fun b hb=>(hf b hb).1⟩⟩
  done:=by
    intro X hP hw hK hc i pins s σ H E I hf st hg
    subst hP hw hK
    obtain ⟨xs,hq,hx⟩:=hg
    obtain ⟨its,rv,p,hz⟩:=I.tuple hq
    obtain ⟨f0,f1,f2,f3,f4,f5⟩:=hf it (by simp)
    have hl:=rv.length
    exact wpAny_pyNext_tuple_end (I.ok.hd hc) st (show s.heap.IsTuple a its.toArray from p) (by simp; omega) fun h' eb=>⟨rfl,I.turned (t':=s.toks) (fun b o hb e=>eb b o hb e) f0 f1 f3 f4 f5⟩
  self:=fun _ _ _ _ _ st h=>wpAny_pyIter_tupleiter st h
section
variable {X:Cx} {tg:Expr}
def iList (K:PySem.W.Frag) (tl:TE):TI:=fun σ H R=>tl σ H fun x H1=>∃ a,x=.ref a∧(∃ xs,SqL K H1 a xs)∧R (Itl K a) H1
def iTup (K:PySem.W.Frag) (tl:TE):TI:=fun σ H R=>tl σ H fun x H1=>∃ a,x=.ref a∧(∃ xs,SqT K H1 a xs)∧R (Itt K a) H1
theorem pi_list {l:Expr} {tl:TE} (hl:PE X l tl):PI X tg l (iList X.K tl):=by
  intro pins s σ H R I h
  refine thn (hl pins s σ H _ I h) fun v s1 ⟨x,H1,I1,r1,q1⟩=>?_
  obtain ⟨a,e,⟨xs,hq⟩,q⟩:=q1
  subst e
  cases r1
  obtain ⟨its,rv,p,hz⟩:=I1.list hq
  refine wpAny_pyIter_list p.isList ?_
  refine ⟨s1.heap.objs.size,[s1.heap.objs.size],_,_,H1,rfl,I1.kept (t':=s1.toks) fun b o e=>Heap.get?_push_of_some _ e,turn_list a _,⟨_,Heap.get?_push_size _ rfl,rfl,rfl⟩,fun b hb=>?_,q⟩
  have e:b=s1.heap.objs.size:=by simpa using hb
  subst e
  exact I1.fpOk (Nat.le_refl _) (I1.hok.fresh (Nat.le_refl _))
theorem pi_tup {l:Expr} {tl:TE} (hl:PE X l tl):PI X tg l (iTup X.K tl):=by
  intro pins s σ H R I h
  refine thn (hl pins s σ H _ I h) fun v s1 ⟨x,H1,I1,r1,q1⟩=>?_
  obtain ⟨a,e,⟨xs,hq⟩,q⟩:=q1
  subst e
  cases r1
  obtain ⟨its,rv,p,hz⟩:=I1.tuple hq
  refine wpAny_pyIter_tuple (show s1.heap.IsTuple a its.toArray from p) ?_
  refine ⟨s1.heap.objs.size,[s1.heap.objs.size],_,_,H1,rfl,I1.kept (t':=s1.toks) fun b o e=>Heap.get?_push_of_some _ e,turn_tuple a _,⟨_,Heap.get?_push_size _ rfl,rfl,rfl⟩,fun b hb=>?_,q⟩
  have e:b=s1.heap.objs.size:=by simpa using hb
  subst e
  exact I1.fpOk (Nat.le_refl _) (I1.hok.fresh (Nat.le_refl _))
def tFor (wi:TI) (g:TG) (tb:TS):TS:=fun D σ H=>wi σ H fun J H1=>∃ W:Nat→Nat→St→Hp→Prop,(∃ m,W 0 m σ H1)∧∀ i m σ H,W i m σ H →
  (J.stop i H∧D.nx σ H)∨(J.go i H∧∃ N:St→Hp→Prop,(∀ σ' H',N σ' H'→∃ m',m'<m∧W (i+1) m' σ' H')∧∀ x H',J.yld i H x H'→g x σ H' fun σ2 H2=>tb { D with nx:=N,ct:=N,bk:=D.nx } σ2 H2)
def pinsAt (fp:List Addr) (h:Heap):List (Addr × Obj):=fp.filterMap fun b=>(h.get? b).map fun o=>(b,o)
theorem mem_pinsAt {fp:List Addr} {h:Heap} {b:Addr} {o:Obj} (hb:b∈fp) (e:h.get? b=some o):(b,o)∈pinsAt fp h:=List.mem_filterMap.mpr ⟨b,hb,by rw [e]; rfl⟩
theorem of_pinsAt {fp:List Addr} {h:Heap} {p:Addr × Obj} (hp:p∈pinsAt fp h):p.1∈fp∧h.get? p.1=some p.2:=by
  obtain ⟨b,hb,e⟩:=List.mem_filterMap.mp hp
  cases q:h.get? b with
  | none=>rw [q] at e; cases e
  | some o=>
    rw [q] at e
    have e':(b,o)=p:=Option.some.inj e
    subst e'
    exact ⟨hb,q⟩
theorem Inv.pinned {pins:List (Addr × Obj)} {σ:St} {H:Hp} {s:Shared} {fp:List Addr} (I:Inv X pins σ H s) (hf:∀ b∈fp,FpOk X pins H b) (ho:∀ b∈fp,∃ o,s.heap.get? b=some o∧∀ v,o.data≠.cell v):Inv X (pins++pinsAt fp s.heap) σ H s:=
  I.pins_of fun p hp=>(List.mem_append.mp hp).elim (fun z=>I.pin p (List.mem_append_right _ z)) fun z=>by
    obtain ⟨hb,e⟩:=of_pinsAt z
    obtain ⟨f0,f1,f2,_⟩:=hf p.1 hb
    obtain ⟨o,e',d⟩:=ho p.1 hb
    rw [e] at e'; cases e'
    exact ⟨e,f0,f1,f2,d⟩
theorem Inv.unpinned {pins pl:List (Addr × Obj)} {σ:St} {H:Hp} {s:Shared} (I:Inv X (pins++pl) σ H s):Inv X pins σ H s:=I.pins_of fun p hp=>I.pin p (List.mem_append_right _ (List.mem_append_left _ hp))
theorem ps_for {iter:Expr} {body:List Stmt} {wi:TI} {g:TG} {tb:TS} {pos:Pos} (hp:PassesOwn (model X.prog X.w) X.A X.env X.xe) (hc:X.calm=true) (hi:PI X tg iter wi) (hg:PG X tg g) (hb:PSs X body tb)
    (hs:∀ x,foldedSetIterable iter X.env x=pure x:=by intro _; rfl):PS X (.For tg iter body [] pos) (tFor wi g tb):=by
  intro pins s σ H D I h
  refine wpAny_For (thn (hi pins s σ H _ I h) fun v s1 h1=>thn h1 fun itv s2 h2=>?_) hs
  obtain ⟨it,fp,tn,J,H2,e,I2,T,st2,f2,W,⟨m0,w0⟩,turn⟩:=h2
  subst e
  have stat:∀ {H':Hp},(∀ b∈fp,H' b=none)→∀ b∈fp,FpOk X pins H' b:=fun hn b hb=>⟨hn b hb,(f2 b hb).2⟩
  refine codeAny_forLoop_any (fun n s'=>∃ i σ' H',Inv X pins σ' H' s'∧tn i s'.heap∧(∀ b∈fp,H' b=none)∧W i n σ' H') ?_ m0 ⟨0,σ,H2,I2,st2,fun b hb=>(f2 b hb).1,w0⟩
  rintro n s3 ⟨i,σ3,H3,I3,st3,fr3,w3⟩
  rcases turn i n σ3 H3 w3 with ⟨stop,qn⟩|⟨go,N,hN,step⟩
  · refine wpAny_passesOwn hp (thn (T.done X rfl rfl rfl hc i pins s3 σ3 H3 X.xe I3 (stat fr3) st3 stop) fun r s4 ⟨hr,I4⟩=>?_)
    subst hr
    exact wpAny_execs_nil ⟨σ3,H3,I4,qn⟩
  · refine wpAny_passesOwn hp (thn (T.item X rfl rfl rfl hc i pins s3 σ3 H3 X.xe I3 (stat fr3) st3 go) fun r s4 ⟨u,hr,h4⟩=>?_)
    subst hr
    refine wpAny_passesOwn hp (thn h4 fun _ s5 ⟨x,H5,I5,r5,y5,st5,fr5⟩=>?_)
    have I5':=I5.pinned (stat fr5) (T.obj _ _ st5)
    refine wpAny_passesOwn hp (thn (hg _ s5 σ3 H5 x u _ I5' r5 (step x H5 y5)) fun _ s6 ⟨σ6,H6,I6,q6⟩=>?_)
    refine wpAny_passesOwn hp (thn (hb _ s6 σ6 H6 _ I6 q6) fun f s7 q7=>?_)
    have again:∀ {σ7:St} {H7:Hp},Inv X (pins++pinsAt fp s5.heap) σ7 H7 s7→N σ7 H7→∃ m,m<n∧∃ i σ' H',Inv X pins σ' H' s7∧tn i s7.heap∧(∀ b∈fp,H' b=none)∧W i m σ' H':=fun {σ7 H7} I7 n7=>by
      obtain ⟨m',hm,w7⟩:=hN σ7 H7 n7
      refine ⟨m',hm,i+1,σ7,H7,I7.unpinned,T.keep _ _ _ st5 fun b hb o e=>(I7.pin (b,o) (List.mem_append_right _ (List.mem_append_right _ (mem_pinsAt hb e)))).1,fun b hb=>?_,w7⟩
      obtain ⟨o,e,d⟩:=T.obj _ _ st5 b hb
      exact (I7.pin (b,o) (List.mem_append_right _ (List.mem_append_right _ (mem_pinsAt hb e)))).2.1
    cases f with
    | next=>obtain ⟨σ7,H7,I7,n7⟩:=q7; exact again I7 n7
    | cont=>obtain ⟨σ7,H7,I7,n7⟩:=q7; exact again I7 n7
    | brk=>obtain ⟨σ7,H7,I7,q7⟩:=q7; exact ⟨σ7,H7,I7.unpinned,q7⟩
    | ret v=>obtain ⟨x7,σ7,H7,I7,r7,q7⟩:=q7; exact ⟨x7,σ7,H7,I7.unpinned,r7,q7⟩
end
theorem for_list {K:PySem.W.Frag} {a:Addr} {xs:List V} {g:TG} {tb:TS} {D:Ends} {σ:St} {H:Hp} (Pv:Nat→St→Hp→Prop) (h0:Pv 0 σ H) (hl:∀ i σ H,i≤xs.length→Pv i σ H→SqL K H a xs)
    (hs:∀ i x σ H,xs[i]?=some x→Pv i σ H→g x σ H fun σ2 H2=>tb { D with nx:=Pv (i+1),ct:=Pv (i+1),bk:=D.nx } σ2 H2) (hd:∀ σ H,Pv xs.length σ H→D.nx σ H) :
    ∃ W:Nat→Nat→St→Hp→Prop,(∃ m,W 0 m σ H)∧∀ i m σ H,W i m σ H →
      ((Itl K a).stop i H∧D.nx σ H)∨((Itl K a).go i H∧∃ N:St→Hp→Prop,(∀ σ' H',N σ' H'→∃ m',m'<m∧W (i+1) m' σ' H')∧∀ x H',(Itl K a).yld i H x H'→g x σ H' fun σ2 H2=>tb { D with nx:=N,ct:=N,bk:=D.nx } σ2 H2):=by
  refine ⟨fun i m σ H=>m=xs.length - i∧i≤xs.length∧Pv i σ H,⟨xs.length,by simp,Nat.zero_le _,h0⟩,?_⟩
  rintro i m σ H ⟨rfl,hi,p⟩
  have q:=hl i σ H hi p
  by_cases hlt:i<xs.length
  · refine .inr ⟨⟨xs,xs[i],q,by simp [hlt]⟩,Pv (i+1),fun σ' H' p'=>⟨xs.length - (i+1),by omega,rfl,hlt,p'⟩,fun x H' y=>?_⟩
    obtain ⟨e,y⟩:=y
    subst e
    exact hs i x σ _ (y xs q) p
  · have e:i=xs.length:=by omega
    subst e
    exact .inl ⟨⟨xs,q,Nat.le_refl _⟩,hd σ H p⟩
theorem while_by {c:TT} {tb:TS} {D:Ends} {σ:St} {H:Hp} (Pv:St→Hp→Prop) (μ:St→Hp→Nat) (h0:Pv σ H)
    (hs:∀ σ H,Pv σ H→c σ H fun b H1=>if b=true then tb { D with nx:=fun σ' H'=>Pv σ' H'∧μ σ' H'<μ σ H,ct:=fun σ' H'=>Pv σ' H'∧μ σ' H'<μ σ H,bk:=D.nx } σ H1 else D.nx σ H1)
    (mono:∀ σ H Q Q',(∀ b H1,Q b H1→Q' b H1)→c σ H Q→c σ H Q'):tWhile c tb D σ H:=by
  refine ⟨fun m σ H=>m=μ σ H∧Pv σ H,⟨_,rfl,h0⟩,?_⟩
  rintro m σ H ⟨rfl,p⟩
  refine mono σ H _ _ (fun b H1 q=>?_) (hs σ H p)
  cases b with
  | true=>exact ⟨_,fun σ' H' ⟨p',l⟩=>⟨_,l,rfl,p'⟩,q⟩
  | false=>exact q
abbrev R2:=V→V→Hp→VK→Prop
def OpR (X:Cx) (f:Value→Value→Sem Value) (r:R2):Prop:=
  ∀ (pins:List (Addr × Obj)) (s:Shared) (σ:St) (H:Hp) (x y:V) (v u:Value) (Q:VK),Inv X pins σ H s→RelV x v→RelV y u→r x y H Q →
    wpAny (model X.prog X.w) X.A (f v u) (EP X pins σ Q) X.xe s
def CallR (X:Cx) (f:Value) (r:List V→Hp→VK→Prop):Prop:=
  ∀ (pins:List (Addr × Obj)) (s:Shared) (σ:St) (H:Hp) (xs:List V) (us:List Value) (Q:VK),Inv X pins σ H s→Vals xs us→r xs H Q →
    wpAny (model X.prog X.w) X.A (call f us) (EP X pins σ Q) X.xe s
def TruR (X:Cx) (r:V→Hp→(Bool→Hp→Prop)→Prop):Prop:=
  ∀ (pins:List (Addr × Obj)) (s:Shared) (σ:St) (H:Hp) (x:V) (v:Value) (Q:Bool→Hp→Prop),Inv X pins σ H s→RelV x v→r x H Q →
    wpAny (model X.prog X.w) X.A (truthy v) (TP X pins σ Q) X.xe s
def tOp (r:R2) (ta tb:TE):TE:=fun σ H Q=>ta σ H fun x H1=>tb σ H1 fun y H2=>r x y H2 Q
def rI (C:Int→Int→Prop) (g:Int→Int→V):R2:=fun x y H Q=>∃ i j,x=.int i∧y=.int j∧C i j∧Q (g i j) H
def rI0 (g:Int→Int→V):R2:=fun x y H Q=>∃ i j,x=.int i∧y=.int j∧Q (g i j) H
section
variable {X:Cx} {a b c:Expr} {ta tb tc:TE} {pos:Pos}
theorem binT (ha:PE X a ta) (hb:PE X b tb) {pins:List (Addr × Obj)} {s:Shared} {σ:St} {H:Hp} {R:V→V→Hp→Prop} (I:Inv X pins σ H s)
    (h:ta σ H fun x H1=>tb σ H1 fun y H2=>R x y H2) {Q:Value→Shared→Prop} {f:Value→Value→Sem Value}
    (hf:∀ v u s2 x y H2,Inv X pins σ H2 s2→RelV x v→RelV y u→R x y H2→wpAny (model X.prog X.w) X.A (f v u) Q X.xe s2) :
    wpAny (model X.prog X.w) X.A (eval a X.env) (fun v s₁=>wpAny (model X.prog X.w) X.A (eval b X.env) (fun u s₂=>wpAny (model X.prog X.w) X.A (f v u) Q X.xe s₂) X.xe s₁) X.xe s:=by
  refine thn (ha pins s σ H _ I h) fun v s1 ⟨x,H1,I1,r1,q1⟩=>?_
  refine thn (hb pins s1 σ H1 _ I1 q1) fun u s2 ⟨y,H2,I2,r2,q2⟩=>?_
  exact hf v u s2 x y H2 I2 r1 r2 q2
theorem pe_op {op:Operator} {r:R2} (ho:OpR X (binaryOp op) r) (ha:PE X a ta) (hb:PE X b tb):PE X (.BinOp a op b pos) (tOp r ta tb):=by
  intro pins s σ H Q I h
  exact wpAny_BinOp (binT ha hb I h fun v u s2 x y H2 I2 rx ry q=>ho pins s2 σ H2 x y v u Q I2 rx ry q)
theorem opI {f:Value→Value→Sem Value} {C:Int→Int→Prop} {g:Int→Int→Int}
    (rule:∀ (i j:Int) (t u:Tok) (s:Shared) (Q:Value→Shared→Prop) (E:Value→Shared→Prop),C i j→Q (.int (g i j) s.toks) { s with toks:=s.toks+1 }→wpAny (model X.prog X.w) X.A (f (.int i t) (.int j u)) Q E s) :
    OpR X f (rI C fun i j=>.int (g i j)):=by
  intro pins s σ H x y v u Q I rx ry h
  obtain ⟨i,j,rfl,rfl,hc,q⟩:=h
  obtain ⟨t,rfl⟩:=rx
  obtain ⟨t',rfl⟩:=ry
  exact rule i j t t' s _ _ hc ⟨.int (g i j),H,I.tok _,⟨_,rfl⟩,q⟩
theorem opI0 {f:Value→Value→Sem Value} {g:Int→Int→Int}
    (rule:∀ (i j:Int) (t u:Tok) (s:Shared) (Q:Value→Shared→Prop) (E:Value→Shared→Prop),Q (.int (g i j) s.toks) { s with toks:=s.toks+1 }→wpAny (model X.prog X.w) X.A (f (.int i t) (.int j u)) Q E s) :
    OpR X f (rI0 fun i j=>.int (g i j)):=by
  intro pins s σ H x y v u Q I rx ry h
  obtain ⟨i,j,rfl,rfl,q⟩:=h
  obtain ⟨t,rfl⟩:=rx
  obtain ⟨t',rfl⟩:=ry
  exact rule i j t t' s _ _ ⟨.int (g i j),H,I.tok _,⟨_,rfl⟩,q⟩
theorem opB0 {f:Value→Value→Sem Value} {g:Int→Int→Bool}
    (rule:∀ (i j:Int) (t u:Tok) (s:Shared) (Q:Value→Shared→Prop) (E:Value→Shared→Prop),Q (.bool (g i j)) s→wpAny (model X.prog X.w) X.A (f (.int i t) (.int j u)) Q E s) :
    OpR X f (rI0 fun i j=>.bl (g i j)):=by
  intro pins s σ H x y v u Q I rx ry h
  obtain ⟨i,j,rfl,rfl,q⟩:=h
  obtain ⟨t,rfl⟩:=rx
  obtain ⟨t',rfl⟩:=ry
  exact rule i j t t' s _ _ ⟨.bl (g i j),H,I,rfl,q⟩
def CDiv (i j:Int):Prop:=0<j∧j<1073741824
def CMul (i j:Int):Prop:=(-(2 ^ 64)<i∧i<2 ^ 64)∨(-(2 ^ 64)<j∧j<2 ^ 64)
theorem CMul.ok {i j:Int} (h:CMul i j):IntMulOk i j:=by
  rcases h with ⟨h1,h2⟩|⟨h1,h2⟩
  · exact .of_left (intBits_le_64 h1 h2)
  · exact .of_right (intBits_le_64 h1 h2)
theorem op_add:OpR X (binaryOp .Add) (rI0 fun i j=>.int (i+j)):=opI0 fun _ _ _ _ _ _ _ q=>add_int q
theorem op_sub:OpR X (binaryOp .Sub) (rI0 fun i j=>.int (i - j)):=opI0 fun _ _ _ _ _ _ _ q=>sub_int q
theorem op_mul:OpR X (binaryOp .Mult) (rI CMul fun i j=>.int (i * j)):=opI fun _ _ _ _ _ _ _ hc q=>mul_int q hc.ok
theorem op_fdiv:OpR X (binaryOp .FloorDiv) (rI CDiv fun i j=>.int (i / j)):=opI fun i j _ _ _ _ _ hc q=>by
  have h1:(0:Int)<j:=hc.1
  have h2:j<1073741824:=hc.2
  exact floordiv_int (by omega) (by rw [Int.fdiv_eq_ediv_of_nonneg i (by omega)]; exact q) (.inl (PyProof.noPylong_small (by omega)))
theorem op_mod:OpR X (binaryOp .Mod) (rI (fun _ j=>0<j) fun i j=>.int (i % j)):=opI fun i j _ _ _ _ _ hc q=>by
  have h1:(0:Int)<j:=hc
  exact mod_int' (by omega) (by rw [Int.fmod_eq_emod_of_nonneg i (by omega)]; exact q)
end
def scal:V→V→Bool
  | .non,.non=>true | .non,.int _=>true | .int _,.non=>true | .non,.bl _=>true | .bl _,.non=>true | .non,.str _=>true | .str _,.non=>true
  | .int _,.int _=>true | .bl _,.bl _=>true | .str _,.str _=>true | .byt _,.byt _=>true
  | .int _,.str _=>true | .str _,.int _=>true | .bl _,.str _=>true | .str _,.bl _=>true
  | _,_=>false
def rEq:R2:=fun x y H Q=>scal x y=true∧Q (.bl (decide (x=y))) H
def rNe:R2:=fun x y H Q=>scal x y=true∧Q (.bl (!decide (x=y))) H
theorem dec_int {i j:Int}:decide (V.int i=V.int j)=(i == j):=by
  rw [Bool.eq_iff_iff]
  simp
theorem dec_bl {i j:Bool}:decide (V.bl i=V.bl j)=(i == j):=by
  rw [Bool.eq_iff_iff]
  simp
theorem dec_str {i j:Str}:decide (V.str i=V.str j)=(i == j):=by
  rw [Bool.eq_iff_iff]
  simp
theorem dec_byt {i j:Array UInt8}:decide (V.byt i=V.byt j)=(i.toList == j.toList):=by
  rw [Bool.eq_iff_iff]
  cases i
  cases j
  simp
section
variable {X:Cx} {a b c:Expr} {ta tb tc:TE} {pos:Pos}
theorem fin_bl {pins:List (Addr × Obj)} {σ:St} {H:Hp} {s:Shared} {Q:VK} {k k':Bool} (I:Inv X pins σ H s) (q:Q (.bl k) H) (e:k=k'):EP X pins σ Q (.bool k') s:=by
  subst e
  exact ⟨.bl k,H,I,rfl,q⟩
theorem op_eq:OpR X (compareOp .Eq) rEq:=by
  intro pins s σ H x y v u Q I rx ry h
  obtain ⟨hs,q⟩:=h
  cases x with
  | non=>
    cases rx
    cases y with
    | non=>cases ry; exact PySem.EqNone.eq_none_none (fin_bl I q (by simp))
    | bl j=>cases ry; exact PySem.EqNone.eq_none_bool (fin_bl I q (by simp))
    | int j=>obtain ⟨t',rfl⟩:=ry; exact PySem.EqNone.eq_none_int (fin_bl I q (by simp))
    | str j=>obtain ⟨t',rfl⟩:=ry; exact PySem.EqNone.eq_none_str (fin_bl I q (by simp))
    | _=>exact absurd (show false=true from hs) Bool.false_ne_true
  | bl i=>
    cases rx
    cases y with
    | non=>cases ry; exact PySem.EqNone.eq_bool_none (fin_bl I q (by simp))
    | bl j=>cases ry; exact eq_bool (fin_bl I q dec_bl)
    | str j=>obtain ⟨t',rfl⟩:=ry; exact PySem.EqMixed.eq_bool_str (fin_bl I q (by simp))
    | _=>exact absurd (show false=true from hs) Bool.false_ne_true
  | int i=>
    obtain ⟨t,rfl⟩:=rx
    cases y with
    | non=>cases ry; exact PySem.EqNone.eq_int_none (fin_bl I q (by simp))
    | int j=>obtain ⟨t',rfl⟩:=ry; exact eq_int (fin_bl I q dec_int)
    | str j=>obtain ⟨t',rfl⟩:=ry; exact PySem.EqMixed.eq_int_str (fin_bl I q (by simp))
    | _=>exact absurd (show false=true from hs) Bool.false_ne_true
  | str i=>
    obtain ⟨t,rfl⟩:=rx
    cases y with
    | non=>cases ry; exact PySem.EqNone.eq_str_none (fin_bl I q (by simp))
    | bl j=>cases ry; exact PySem.EqMixed.eq_str_bool (fin_bl I q (by simp))
    | int j=>obtain ⟨t',rfl⟩:=ry; exact PySem.EqMixed.eq_str_int (fin_bl I q (by simp))
    | str j=>obtain ⟨t',rfl⟩:=ry; exact eq_str (fin_bl I q dec_str)
    | _=>exact absurd (show false=true from hs) Bool.false_ne_true
  | byt i=>
    obtain ⟨t,rfl⟩:=rx
    cases y with
    | byt j=>obtain ⟨t',rfl⟩:=ry; exact PySem.W.eq_bytes (fin_bl I q dec_byt)
    | _=>exact absurd (show false=true from hs) Bool.false_ne_true
  | _=>cases y <;> exact absurd (show false=true from hs) Bool.false_ne_true
theorem op_ne:OpR X (compareOp .NotEq) rNe:=by
  intro pins s σ H x y v u Q I rx ry h
  obtain ⟨hs,q⟩:=h
  cases x with
  | non=>
    cases rx
    cases y with
    | non=>cases ry; exact PySem.EqNone.ne_none_none (fin_bl I q (by simp))
    | bl j=>cases ry; exact PySem.EqNone.ne_none_bool (fin_bl I q (by simp))
    | int j=>obtain ⟨t',rfl⟩:=ry; exact PySem.EqNone.ne_none_int (fin_bl I q (by simp))
    | str j=>obtain ⟨t',rfl⟩:=ry; exact PySem.EqNone.ne_none_str (fin_bl I q (by simp))
    | _=>exact absurd (show false=true from hs) Bool.false_ne_true
  | bl i=>
    cases rx
    cases y with
    | non=>cases ry; exact PySem.EqNone.ne_bool_none (fin_bl I q (by simp))
    | bl j=>cases ry; exact ne_bool (fin_bl I q (congrArg not dec_bl))
    | str j=>obtain ⟨t',rfl⟩:=ry; exact PySem.EqMixed.ne_bool_str (fin_bl I q (by simp))
    | _=>exact absurd (show false=true from hs) Bool.false_ne_true
  | int i=>
    obtain ⟨t,rfl⟩:=rx
    cases y with
    | non=>cases ry; exact PySem.EqNone.ne_int_none (fin_bl I q (by simp))
    | int j=>obtain ⟨t',rfl⟩:=ry; exact ne_int (fin_bl I q (congrArg not dec_int))
    | str j=>obtain ⟨t',rfl⟩:=ry; exact PySem.EqMixed.ne_int_str (fin_bl I q (by simp))
    | _=>exact absurd (show false=true from hs) Bool.false_ne_true
  | str i=>
    obtain ⟨t,rfl⟩:=rx
    cases y with
    | non=>cases ry; exact PySem.EqNone.ne_str_none (fin_bl I q (by simp))
    | bl j=>cases ry; exact PySem.EqMixed.ne_str_bool (fin_bl I q (by simp))
    | int j=>obtain ⟨t',rfl⟩:=ry; exact PySem.EqMixed.ne_str_int (fin_bl I q (by simp))
    | str j=>obtain ⟨t',rfl⟩:=ry; exact ne_str (fin_bl I q (congrArg not dec_str))
    | _=>exact absurd (show false=true from hs) Bool.false_ne_true
  | byt i=>
    obtain ⟨t,rfl⟩:=rx
    cases y with
    | byt j=>obtain ⟨t',rfl⟩:=ry; exact PySem.W.ne_bytes (fin_bl I q (congrArg not dec_byt))
    | _=>exact absurd (show false=true from hs) Bool.false_ne_true
  | _=>cases y <;> exact absurd (show false=true from hs) Bool.false_ne_true
theorem op_lt:OpR X (compareOp .Lt) (rI0 fun i j=>.bl (decide (i<j))):=opB0 fun _ _ _ _ _ _ _ q=>lt_int q
theorem op_le:OpR X (compareOp .LtE) (rI0 fun i j=>.bl (decide (i≤j))):=opB0 fun _ _ _ _ _ _ _ q=>le_int q
theorem op_gt:OpR X (compareOp .Gt) (rI0 fun i j=>.bl (decide (j<i))):=opB0 fun _ _ _ _ _ _ _ q=>gt_int q
theorem op_isN:OpR X (compareOp .Is) (fun x y H Q=>y=.non∧Q (.bl (decide (x=.non))) H):=by
  intro pins s σ H x y v u Q I rx ry h
  obtain ⟨rfl,q⟩:=h
  cases ry
  refine is_none_gen (fin_bl I q ?_)
  cases x <;> first
    | (cases rx; rfl)
    | (obtain ⟨t,rfl⟩:=rx; rfl)
theorem nomark (b:Expr) {op:CmpOp} (h:op≠.In:=by decide) (h2:op≠.NotIn:=by decide):behindInMarks op b=false:=by
  have e1:(op == CmpOp.In)=false:=by cases op <;> first|rfl|exact absurd rfl h
  have e2:(op == CmpOp.NotIn)=false:=by cases op <;> first|rfl|exact absurd rfl h2
  cases b <;> simp [behindInMarks,e1,e2]
theorem pe_cmpR {op:CmpOp} {r:R2} (ho:OpR X (compareOp op) r) (ha:PE X a ta) (hb:PE X b tb) (hm:behindInMarks op b=false):PE X (.Compare a [op] [b] pos) (tOp r ta tb):=by
  intro pins s σ H Q I h
  exact wpAny_Compare1 (binT ha hb I h fun v u s2 x y H2 I2 rx ry q=>ho pins s2 σ H2 x y v u Q I2 rx ry q) hm
def tTest (t:TE):TT:=fun σ H Q=>t σ H fun x H'=>∃ k,x=.bl k∧Q k H'
theorem pt_cmpR {op:CmpOp} {r:R2} (ho:OpR X (compareOp op) r) (ha:PE X a ta) (hb:PE X b tb) (hm:behindInMarks op b=false):PT X (.Compare a [op] [b] pos) (tTest (tOp r ta tb)):=by
  intro pins s σ H Q I h
  refine wpAny_isTrue_Compare1 (thn (ha pins s σ H _ I h) fun v s1 ⟨x,H1,I1,r1,q1⟩=>thn (hb pins s1 σ H1 _ I1 q1) fun u s2 ⟨y,H2,I2,r2,q2⟩=>
    thn (ho pins s2 σ H2 x y v u _ I2 r1 r2 q2) fun c s3 ⟨z,H3,I3,r3,k,e,q3⟩=>?_) hm
  subst e
  cases r3
  exact wpAny_truthy_bool ⟨H3,I3,q3⟩
def tChain (r r':R2) (ta tb tc:TE):TE:=fun σ H Q=>ta σ H fun x H1=>tb σ H1 fun y H2=>r x y H2 fun z H3=>∃ k,z=.bl k ∧
  (if k=true then tc σ H3 fun w' H4=>r' y w' H4 Q else Q (.bl false) H3)
theorem pe_chain {op op':CmpOp} {r r':R2} (ho:OpR X (compareOp op) r) (ho':OpR X (compareOp op') r') (ha:PE X a ta) (hb:PE X b tb) (hc:PE X c tc)
    (hm:lastMarks [op,op'] [b,c]=false:=by with_unfolding_all rfl):PE X (.Compare a [op,op'] [b,c] pos) (tChain r r' ta tb tc):=by
  intro pins s σ H Q I h
  refine Compare_chain (thn (ha pins s σ H _ I h) fun v s1 ⟨x,H1,I1,r1,q1⟩=>chain_link (thn (hb pins s1 σ H1 _ I1 q1) fun u s2 ⟨y,H2,I2,r2,q2⟩=>
    thn (ho pins s2 σ H2 x y v u _ I2 r1 r2 q2) fun d s3 ⟨z,H3,I3,r3,k,e,q3⟩=>?_)) hm
  subst e
  cases r3
  refine wpAny_truthy_bool ?_
  cases k with
  | false=>exact ite_ff ⟨.bl false,H3,I3,rfl,q3⟩
  | true=>exact ite_tt (chain_last (thn (hc pins s3 σ H3 _ I3 q3) fun w' s4 ⟨z',H4,I4,r4,q4⟩=>ho' pins s4 σ H4 y z' u w' Q I4 r2 r4 q4))
theorem pt_chain {op op':CmpOp} {r r':R2} (ho:OpR X (compareOp op) r) (ho':OpR X (compareOp op') r') (ha:PE X a ta) (hb:PE X b tb) (hc:PE X c tc)
    (hm:lastMarks [op,op'] [b,c]=false:=by with_unfolding_all rfl):PT X (.Compare a [op,op'] [b,c] pos) (tTest (tChain r r' ta tb tc)):=by
  intro pins s σ H Q I h
  refine isTrue_chain (thn (ha pins s σ H _ I h) fun v s1 ⟨x,H1,I1,r1,q1⟩=>test_link (thn (hb pins s1 σ H1 _ I1 q1) fun u s2 ⟨y,H2,I2,r2,q2⟩=>
    thn (ho pins s2 σ H2 x y v u _ I2 r1 r2 q2) fun d s3 ⟨z,H3,I3,r3,k,e,q3⟩=>?_)) hm
  subst e
  cases r3
  refine wpAny_truthy_bool ?_
  cases k with
  | false=>
    obtain ⟨k',e',q'⟩:=q3
    cases e'
    exact ite_ff ⟨H3,I3,q'⟩
  | true=>
    refine ite_tt (test_last (thn (hc pins s3 σ H3 _ I3 q3) fun w' s4 ⟨z',H4,I4,r4,q4⟩=>thn (ho' pins s4 σ H4 y z' u w' _ I4 r2 r4 q4) fun d' s5 ⟨z2,H5,I5,r5,k2,e2,q5⟩=>?_))
    subst e2
    cases r5
    exact wpAny_truthy_bool ⟨H5,I5,q5⟩
def TruV (K:PySem.W.Frag) (x:V) (H:Hp) (k:Bool):Prop:=
  match x with
  | .non=>k=false
  | .bl b=>k=b
  | .int i=>k=(i != 0)
  | .str y=>y.length≤sizeLine∧k=((y.length:Int) != 0)
  | .byt y=>y.size≤sizeLine∧k=((y.size:Int) != 0)
  | .ref p=>(∃ xs,SqL K H p xs∧k=!xs.isEmpty)∨(∃ xs,SqT K H p xs∧k=!xs.isEmpty)∨∃ kvs,H p=some (.dK kvs)∧k=!kvs.isEmpty
  | _=>False
theorem isEmpty_kv {κ:Type} {kvs:List (κ × V)} {vs:List (κ × Value)} (r:KV kvs vs):(!vs.isEmpty)=!kvs.isEmpty:=by
  cases r <;> rfl
theorem isEmpty_of {xs:List V} {its:List Value} (r:Vals xs its):(!its.toArray.isEmpty)=!xs.isEmpty:=by
  cases r <;> simp
theorem line63:(sizeLine:Nat)<2 ^ 63:=by rw [sizeLine_eq]; decide
theorem tru_ok:TruR X (fun x H Q=>∃ k,TruV X.K x H k∧Q k H):=by
  intro pins s σ H x v Q I rx h
  obtain ⟨k,e,q⟩:=h
  have hl:=line63
  have hs:sizeLine=16777216:=sizeLine_eq
  cases x with
  | non=>
    cases rx
    have e':k=false:=e
    subst e'
    exact truthy_none ⟨H,I,q⟩
  | bl b=>
    cases rx
    have e':k=b:=e
    subst e'
    exact wpAny_truthy_bool ⟨H,I,q⟩
  | int i=>
    obtain ⟨t,rfl⟩:=rx
    have e':k=(i != 0):=e
    subst e'
    exact PySem.P.truthy_int ⟨H,I,q⟩
  | str y=>
    obtain ⟨t,rfl⟩:=rx
    obtain ⟨hy,e'⟩:y.length≤sizeLine∧k=((y.length:Int) != 0):=e
    subst e'
    exact PySem.P.truthy_str (by omega) ⟨H,I.tok _,q⟩
  | byt y=>
    obtain ⟨t,rfl⟩:=rx
    obtain ⟨hy,e'⟩:y.size≤sizeLine∧k=((y.size:Int) != 0):=e
    subst e'
    exact PySem.W.truthy_bytes (by omega) ⟨H,I.tok _,q⟩
  | ref p=>
    cases rx
    have e':(∃ xs,SqL X.K H p xs∧k=!xs.isEmpty)∨(∃ xs,SqT X.K H p xs∧k=!xs.isEmpty)∨∃ kvs,H p=some (.dK kvs)∧k=!kvs.isEmpty:=e
    rcases e' with ⟨xs,hx,e'⟩|⟨xs,hx,e'⟩|⟨kvs,hx,e'⟩
    · subst e'
      obtain ⟨its,r,pl,hz⟩:=I.list hx
      have hlen:=r.length
      exact wpAny_truthy_list pl.isList (by simp only [List.size_toArray]; omega) ⟨H,I.tok _,by rw [isEmpty_of r]; exact q⟩
    · subst e'
      obtain ⟨its,r,pl,hz⟩:=I.tuple hx
      have hlen:=r.length
      exact truthy_tuple pl (by simp only [List.size_toArray]; omega) ⟨H,I.tok _,by rw [isEmpty_of r]; exact q⟩
    · subst e'
      obtain ⟨hz,hS,vs,r,m⟩:kvs.length≤sizeLine∧(p == sysModules)=false∧∃ vs,KV kvs vs∧s.heap.DictOf (mixKind X.prog X.w) p vs:=I.hok p _ hx
      have hlen:kvs.length=vs.length:=Paired.length r
      exact wpAny_truthy_dict hS m (by omega) ⟨H,I.tok _,by rw [isEmpty_kv r]; exact q⟩
  | _=>exact (show False from e).elim
theorem op_add_str:OpR X (binaryOp .Add) (fun x y H Q=>∃ i j,x=.str i∧y=.str j∧i.length+j.length≤sizeLine∧Q (.str (i++j)) H):=by
  intro pins s σ H x y v u Q I rx ry h
  obtain ⟨i,j,rfl,rfl,hz,q⟩:=h
  obtain ⟨t,rfl⟩:=rx
  obtain ⟨t',rfl⟩:=ry
  exact add_str (fun t' tk=>⟨.str (i++j),H,I.tok _,⟨_,rfl⟩,q⟩) hz
theorem vals1 {x:V} {us:List Value} (r:Vals [x] us):∃ u,us=[u]∧RelV x u:=by
  cases r with
  | cons r1 r2=>cases r2; exact ⟨_,rfl,r1⟩
theorem vals2 {x y:V} {us:List Value} (r:Vals [x,y] us):∃ u w',us=[u,w']∧RelV x u∧RelV y w':=by
  cases r with
  | cons r1 r2=>
    cases r2 with
    | cons r3 r4=>cases r4; exact ⟨_,_,rfl,r1,r3⟩
theorem call_str_int:CallR X (.type "str") (fun xs H Q=>∃ i,xs=[.int i]∧i.natAbs.log2<1920∧Q (.str (toString i)) H):=by
  intro pins s σ H xs us Q I r h
  obtain ⟨i,rfl,hz,q⟩:=h
  obtain ⟨u,rfl,t,rfl⟩:=vals1 r
  exact PySem.P.str_of_int hz ⟨.str _,H,I.tok _,⟨_,rfl⟩,q⟩
end
structure ObjM (h:Heap) (x dx C:Addr) (mA:Str→Option Value):Prop where
  obj:h.get? x=some (PySem.W.instObj C dx)
  ns:h.Ns1 dx mA
  ne:dx≠x
theorem lookIn_ns {h:Heap} {dx:Addr} {mA:Str→Option Value} (n:h.Ns1 dx mA):∃ od,h.get? dx=some od∧∀ name,PySem.W.lookIn name od=some (mA name):=by
  obtain ⟨o,es,ep,ho,hd,hk,_,hm⟩:=n
  refine ⟨o,ho,fun name=>?_⟩
  have e:=hm name
  unfold nsFind findBy at e
  rw [← Array.find?_toList] at e
  unfold PySem.W.lookIn
  rw [hd]
  dsimp only
  split
  · rename_i y q
    rw [q] at e
    exact congrArg some e
  · rename_i q
    rw [q] at e
    have a:es.toList.any (·.refKey)=false:=by
      rw [List.any_eq_false]
      intro y hy
      obtain ⟨z,t,hkey⟩:=hk y (Array.mem_toList_iff.mp hy)
      simp [DictEntry.refKey,hkey]
    have a':¬ es.toList.any (·.refKey)=true:=by rw [a]; exact Bool.false_ne_true
    rw [if_neg a']
    exact congrArg some e
theorem ObjM.look {h:Heap} {x dx C:Addr} {mA:Str→Option Value} (I:ObjM h x dx C mA):∃ od,PySem.W.InstAt h x (PySem.W.instObj C dx) C (some od)∧∀ name,PySem.W.lookIn name od=some (mA name):=
  let ⟨od,ho,hl⟩:=lookIn_ns I.ns
  ⟨od,⟨I.obj,rfl,rfl,ho⟩,hl⟩
section
variable {prog:Program} {w:World} {A:Around} {E:Value→Shared→Prop} {s:Shared} {K:PySem.W.Frag} {x dx C f:Addr} {mA:Str→Option Value} {name:Str} {v:Value}
theorem get_map {expr:Bool} {Q:Value→Shared→Prop} (X:K.In s.heap) (I:ObjM s.heap x dx C mA) (hg:PySem.W.plainGet K C name=true) (hh:PySem.W.hasDictIn K C=true)
    (ha:PySem.W.findIn K (.ref C) name=some none) (hv:mA name=some v) (hv':PySem.W.handedIn v=true) (h:Q v { s with toks:=s.toks+1 }) :
    wpAny (model prog w) A (getAttr (.ref x) name expr) Q E s:=by
  obtain ⟨od,J,hl⟩:=I.look
  exact PySem.W.get_value X J (PySem.W.plainGet_of hg).1 (PySem.W.findObj_own hh ha rfl (by rw [hl,hv])) hv' h
theorem get_meth {pl:Sem Bool} {Q:Value × List Value→Shared→Prop} (X:K.In s.heap) (I:ObjM s.heap x dx C mA) (hg:PySem.W.plainGet K C name=true)
    (hf:PySem.W.findIn K (.ref C) name=some (some (.ref f))) (ht:PySem.W.isFn K (.ref f)=true) (hv:mA name=none) (h:Q (.ref f,[.ref x]) s) :
    wpAny (model prog w) A (getMethod (.ref x) name pl) Q E s:=by
  obtain ⟨od,J,hl⟩:=I.look
  exact PySem.W.method_fn X J (PySem.W.plainGet_of hg).1 (PySem.W.plainGet_of hg).2 hf (beq_iff_eq.mp ht) (by show (PySem.W.lookIn name od).map (·.isSome)=some false; rw [hl,hv]; rfl) h
theorem set_map {ns:List Str} {Q:Unit→Shared→Prop} (X:K.In s.heap) (I:ObjM s.heap x dx C mA)
    (hs:PySem.W.findIn K (.ref C) "__setattr__"=some (some (.builtin "object.__setattr__"))) (hp:PySem.W.plainOver K C=true) (ht:PySem.W.takerIn K C name=some none) (hh:PySem.W.hasDictIn K C=true)
    (hw:PySem.Within mA ns) (hsz:ns.length≤sizeLine)
    (h:∀ h',ObjM h' x dx C (fun y=>if y=name then some v else mA y)→Heap.SameBut dx s.heap h'→Q () { s with heap:=h',toks:=s.toks+2 }) :
    wpAny (model prog w) A (setAttr (.ref x) name v) Q E s:=by
  obtain ⟨od,J,hl⟩:=I.look
  refine PySem.W.set_plain X J hs (PySem.W.osa_open (s:={ s with toks:=s.toks+1 }) (r:=none) X J hp ht fun b=>?_)
  obtain ⟨cd,hc,hd'⟩:=PySem.W.any_some hh
  have hx:s.heap.get? x=some ⟨.ref C,some dx,.plain,#[]⟩:=I.obj
  refine wpAny_bind (wpAny_pure (wpAny_bind (wpAny_bind (wpAny_loadPart hx (wpAny_bind (PySem.W.Looks.here (s:={ s with toks:=s.toks+1 }) (PySem.W.looks_clsIn X hc) ?_))))))
  rw [hd']
  refine wpAny_pure (a:=some dx) (wpAny_bind (wpAny_pure (wpAny_bind ?_)))
  refine wpAny_nsSet1 (s:={ s with toks:=s.toks+1 }) I.ns fun h' hn2 hs2=>?_
  obtain ⟨oD,esD,epD,hoD,hdD,hcD⟩:=hn2.count (PySem.Within.cons name v hw)
  refine wpAny_bind (wpAny_lookBehind hoD (by rw [hdD]; exact pastItsLine_dict (Nat.le_trans hcD (by rw [lZ1]; omega))) ?_)
  exact wpAny_pure (h _ ⟨(hs2.2 _ (Ne.symm I.ne)).trans I.obj,hn2,I.ne⟩ hs2)
theorem make_map {R:Result→Shared→Prop} {vs:List Value} {kw:List (Str × Value)} (X:K.In s.heap) (hm:PySem.W.makesIn K C=true)
    (hi:PySem.W.findIn K (.ref C) "__init__"=some (some (.ref f))) (hf:PySem.W.typeIn K (.ref f)=some (.type "function"))
    (h:codeAny (model prog w) (A.under (.builtin "type.__call__" ⟨.ref C::vs,kw⟩)) (.call (.ref f) ⟨.ref (s.heap.objs.size+1)::vs,kw⟩) (PySem.W.InitBack (s.heap.objs.size+1) R)
      { s with heap:=(s.heap.push PySem.W.emptyDict).push (PySem.W.instObj C s.heap.objs.size) }) :
    codeAny (model prog w) A (.call (.ref C) ⟨vs,kw⟩) R s:=by
  obtain ⟨hh,g,d,t,os⟩:=s
  exact PySem.W.make_core (PySem.W.makes_of X hm) (PySem.W.looks_findIn X hi) (fun self=>PySem.W.bind_fn X self hf) (.inl rfl) h
end
def putF (f:Str) (v:V):List (Str × V)→List (Str × V)
  | []=>[(f,v)]
  | (g,x)::r=>if g=f then (g,v)::r else (g,x)::putF f v r
theorem lookup_putF (f g:Str) (v:V):∀ fs:List (Str × V),(putF f v fs).lookup g=if g=f then some v else fs.lookup g
  | []=>by
    show List.lookup g [(f,v)]=_
    by_cases h:g=f
    · have hb:(g == f)=true:=beq_iff_eq.mpr h
      simp only [List.lookup,hb,if_pos h]
    · have hb:(g == f)=false:=beq_eq_false_iff_ne.mpr h
      simp only [List.lookup,hb,if_neg h]
  | (k,x)::r=>by
    have ih:=lookup_putF f g v r
    rw [show putF f v ((k,x)::r)=(if k=f then (k,v)::r else (k,x)::putF f v r) from rfl]
    by_cases hk:k=f
    · rw [if_pos hk]
      by_cases h:g=k
      · have hb:(g == k)=true:=beq_iff_eq.mpr h
        simp only [List.lookup,hb,if_pos (h.trans hk)]
      · have hb:(g == k)=false:=beq_eq_false_iff_ne.mpr h
        simp only [List.lookup,hb,if_neg (fun e:g=f=>h (e.trans hk.symm))]
    · rw [if_neg hk]
      by_cases h:g=k
      · have hb:(g == k)=true:=beq_iff_eq.mpr h
        simp only [List.lookup,hb,if_neg (fun e:g=f=>hk (h.symm.trans e))]
      · have hb:(g == k)=false:=beq_eq_false_iff_ne.mpr h
        simp only [List.lookup,hb]
        exact ih
theorem keys_putF (f:Str) (v:V):∀ fs:List (Str × V),f∈(putF f v fs).map (·.1)∧∀ g,g∈fs.map (·.1)→g∈(putF f v fs).map (·.1)
  | []=>⟨by simp [putF],fun g h=>by simp at h⟩
  | (k,x)::r=>by
    obtain ⟨i1,i2⟩:=keys_putF f v r
    rw [show putF f v ((k,x)::r)=(if k=f then (k,v)::r else (k,x)::putF f v r) from rfl]
    by_cases hk:k=f
    · rw [if_pos hk]
      subst hk
      exact ⟨by simp,fun g h=>by simpa using h⟩
    · rw [if_neg hk]
      refine ⟨?_,fun g h=>?_⟩
      · rw [mZ1]
        exact List.mem_cons_of_mem _ i1
      · rw [mZ1] at h ⊢
        rcases List.mem_cons.mp h with e|e
        · exact List.mem_cons.mpr (.inl e)
        · exact List.mem_cons_of_mem _ (i2 g e)
theorem length_putF (f:Str) (v:V):∀ fs:List (Str × V),(putF f v fs).length≤fs.length+1
  | []=>by simp [putF]
  | (k,x)::r=>by
    have ih:=length_putF f v r
    rw [show putF f v ((k,x)::r)=(if k=f then (k,v)::r else (k,x)::putF f v r) from rfl]
    by_cases hk:k=f
    · rw [if_pos hk,lZ1,lZ1]; omega
    · rw [if_neg hk,lZ1,lZ1]; omega
theorem RelO.some_of {v:V} {o:Option Value} (r:RelO (some v) o):∃ u,o=some u∧RelV v u:=by
  cases o with
  | none=>exact (show False from r).elim
  | some u=>exact ⟨u,rfl,r⟩
theorem RelO.none_of {o:Option Value} (r:RelO none o):o=none:=by
  cases o with
  | none=>rfl
  | some u=>exact (show False from r).elim
theorem handed_of {v:V} {u:Value} (r:RelV v u):PySem.W.handedIn u=true:=by
  cases v with
  | non=>cases (show u=Value.none from r); rfl
  | bl b=>cases (show u=Value.bool b from r); rfl
  | int i=>obtain ⟨t,e⟩:=(show ∃ t,u=Value.int i t from r); cases e; rfl
  | str x=>obtain ⟨t,e⟩:=(show ∃ t,u=Value.str x t from r); cases e; rfl
  | byt b=>obtain ⟨t,e⟩:=(show ∃ t,u=Value.bytes b t from r); cases e; rfl
  | flt b=>obtain ⟨t,e⟩:=(show ∃ t,u=Value.float b t from r); cases e; rfl
  | ref a=>cases (show u=Value.ref a from r); rfl
  | ty n=>cases (show u=Value.type n from r); rfl
section
variable {P:Program} {w:World} {H H':Hp} {h h':Heap} {a C dx:Addr} {fs fs':List (Str × V)}
theorem ins_get (hok:HOk P w H h) (e:H a=some (.ins C dx fs)):∃ mA,ObjM h a dx C mA∧(∀ f,RelO (fs.lookup f) (mA f))∧PySem.Within mA (fs.map (·.1))∧fs.length≤1000∧H dx=some (.own a):=by
  obtain ⟨d,z,ne,ob,mA,n,r,q⟩:=(show ObjOk P w H h a (.ins C dx fs) from hok a _ e)
  exact ⟨mA,⟨ob,n,ne⟩,r,q,z,d⟩
end
structure Cls (K:PySem.W.Frag) (C:Addr):Prop where
  pg:PySem.W.plainGet K C Str.empty=true
  hd:PySem.W.hasDictIn K C=true
  po:PySem.W.plainOver K C=true
  sa:PySem.W.findIn K (.ref C) "__setattr__"=some (some (.builtin "object.__setattr__"))
theorem Cls.get {K:PySem.W.Frag} {C:Addr} (c:Cls K C) (f:Str):PySem.W.plainGet K C f=true:=c.pg
def NoAttr (K:PySem.W.Frag) (C:Addr) (f:Str):Prop:=PySem.W.findIn K (.ref C) f=some none
theorem NoAttr.taker {K:PySem.W.Frag} {C:Addr} {f:Str} (n:NoAttr K C f):PySem.W.takerIn K C f=some none:=by
  unfold PySem.W.takerIn
  rw [show PySem.W.findIn K (.ref C) f=some none from n]
  rfl
structure Con (K:PySem.W.Frag) (C:Addr) (f:Str) (v:V) (u:Value):Prop where
  at_:PySem.W.findIn K (.ref C) f=some (some u)
  rel:RelV v u
  get:PySem.W.specialIn K u "__get__"=some none
  cp:PySem.W.copiedNames.contains f=false
structure Meth (K:PySem.W.Frag) (C:Addr) (m:Str) (f:Addr):Prop where
  at_:PySem.W.findIn K (.ref C) m=some (some (.ref f))
  fn:PySem.W.isFn K (.ref f)=true
  kp:PySem.W.keepIn K (.ref f)=true
section
variable {X:Cx} {pins:List (Addr × Obj)} {σ:St} {H:Hp} {s:Shared} {a C dx:Addr} {fs:List (Str × V)} {f:Str} {v:V} {A:Around} {E:Value→Shared→Prop}
theorem getattr_ok {b:Bool} {Q:Value→Shared→Prop} (I:Inv X pins σ H s) (e:H a=some (.ins C dx fs)) (c:Cls X.K C) (n:NoAttr X.K C f) (l:fs.lookup f=some v)
    (h:∀ u s',Inv X pins σ H s'→RelV v u→Q u s'):wpAny (model X.prog X.w) A (getAttr (.ref a) f b) Q E s:=by
  obtain ⟨mA,O,r,_,_,_⟩:=ins_get I.hok e
  obtain ⟨u,hu,ru⟩:=RelO.some_of (v:=v) (o:=mA f) (by rw [← l]; exact r f)
  exact get_map I.kIn O (c.get f) c.hd n hu (handed_of ru) (h u _ (I.tok _) ru)
theorem getmeth_ok {m:Str} {g:Addr} {pl:Sem Bool} {Q:Value × List Value→Shared→Prop} (I:Inv X pins σ H s) (e:H a=some (.ins C dx fs)) (c:Cls X.K C) (k:Meth X.K C m g) (l:fs.lookup m=none)
    (h:Q (.ref g,[.ref a]) s):wpAny (model X.prog X.w) A (getMethod (.ref a) m pl) Q E s:=by
  obtain ⟨mA,O,r,_,_,_⟩:=ins_get I.hok e
  have hn:mA m=none:=RelO.none_of (by rw [← l]; exact r m)
  exact get_meth I.kIn O (c.get m) k.at_ k.fn hn h
theorem setattr_ok {y:V} {u:Value} {Q:Unit→Shared→Prop} (I:Inv X pins σ H s) (e:H a=some (.ins C dx fs)) (c:Cls X.K C) (n:NoAttr X.K C f) (hl:fs.length<1000) (ry:RelV y u)
    (h:∀ s',Inv X pins σ (upd H a (.ins C dx (putF f y fs))) s'→Q () s'):wpAny (model X.prog X.w) A (setAttr (.ref a) f u) Q E s:=by
  obtain ⟨mA,O,r,wi,_,ho⟩:=ins_get I.hok e
  have hz:(fs.map (·.1)).length≤sizeLine:=by rw [List.length_map,sizeLine_eq]; omega
  refine set_map I.kIn O c.sa c.po n.taker c.hd wi hz fun h' O' sb=>h _ ?_
  have hd:∃ o,h'.get? dx=some o:=let ⟨o,_,_,e',_⟩:=O'.ns; ⟨o,e'⟩
  refine I.write (x:=a) (e:=dx) (by rw [e]; exact True.intro) (.inr ho) (fun b q hb z=>(sb.2 b hb).trans z) hd ?_
  refine ⟨by rw [upd_ne O.ne]; exact ho,?_,O.ne,O'.obj,_,O'.ns,fun g=>?_,fun g hg=>?_⟩
  · have:=length_putF f y fs; omega
  · show RelO ((putF f y fs).lookup g) (if g=f then some u else mA g)
    rw [lookup_putF]
    by_cases q:g=f
    · rw [if_pos q,if_pos q]; exact ry
    · rw [if_neg q,if_neg q]; exact r g
  · by_cases q:g=f
    · rw [q]; exact (keys_putF f y fs).1
    · refine (keys_putF f y fs).2 g (wi g fun z=>hg ?_)
      show (if g=f then some u else mA g)=none
      rw [if_neg q]; exact z
theorem Inv.made (I:Inv X pins σ H s):Inv X pins σ (upd (upd H s.heap.objs.size (.own (s.heap.objs.size+1))) (s.heap.objs.size+1) (.ins C s.heap.objs.size []))
    { s with heap:=(s.heap.push PySem.W.emptyDict).push (PySem.W.instObj C s.heap.objs.size) }:=by
  have e1:(s.heap.push PySem.W.emptyDict).get? s.heap.objs.size=some PySem.W.emptyDict:=Heap.get?_push_size s.heap rfl
  have e2:((s.heap.push PySem.W.emptyDict).push (PySem.W.instObj C s.heap.objs.size)).get? (s.heap.objs.size+1)=some (PySem.W.instObj C s.heap.objs.size):=by
    have:=Heap.get?_push_size (s.heap.push PySem.W.emptyDict) (o:=PySem.W.instObj C s.heap.objs.size) rfl
    rwa [Heap.size_push] at this
  have e3:(s.heap.push PySem.W.emptyDict).Ns s.heap.objs.size (fun _=>none):=⟨PySem.W.emptyDict,#[],_,e1,rfl,(fun e he=>absurd he (by simp)),fun _=>rfl⟩
  have I1:=I.laid (a:=s.heap.objs.size) (o:=.own (s.heap.objs.size+1)) (h':=s.heap.push PySem.W.emptyDict) (t':=s.toks) (fun b u q=>Heap.get?_push_of_some _ q) (Nat.le_refl _) ⟨_,e1⟩
  refine I1.laid (a:=s.heap.objs.size+1) (o:=.ins C s.heap.objs.size []) (t':=s.toks) (fun b u q=>Heap.get?_push_of_some _ q) (Nat.le_of_eq (Heap.size_push _ _)) ?_
  have ne:s.heap.objs.size≠s.heap.objs.size+1:=Nat.ne_of_lt (Nat.lt_succ_self _)
  refine ⟨by rw [upd_ne ne,upd_same],Nat.zero_le _,ne,e2,fun _=>none,(Heap.Ns1.of_empty e3).at fun o q=>Heap.get?_push_of_some _ q,fun _=>True.intro,fun y hy=>absurd rfl hy⟩
theorem attr_of {prog:Program} {w:World} {env:Env} {e:Expr} {f:Str} {pos:Pos} {s:Shared} {Q:Value→Shared→Prop} (hb:attributeBase e f env (eval e env)=eval e env)
    (h:wpAny (model prog w) A (eval e env) (fun o s₁=>wpAny (model prog w) A (getAttr o f true) Q E s₁) E s):wpAny (model prog w) A (eval (.Attribute e f pos) env) Q E s:=
  Attribute_any_ h (by rw [arm_eval_Attribute,hb])
end
def tFld (K:PySem.W.Frag) (ta:TE) (f:Str):TE:=fun σ H Q=>ta σ H fun x H1=>∃ a C dx fs v,x=.ref a∧H1 a=some (.ins C dx fs)∧Cls K C∧NoAttr K C f∧fs.lookup f=some v∧Q v H1
def sFld (K:PySem.W.Frag) (ta tv:TE) (f:Str):TS:=fun D σ H=>tv σ H fun y H1=>ta σ H1 fun x H2=>∃ a C dx fs,x=.ref a∧H2 a=some (.ins C dx fs)∧Cls K C∧NoAttr K C f∧fs.length<1000 ∧
  D.nx σ (upd H2 a (.ins C dx (putF f y fs)))
section
variable {X:Cx} {o e value:Expr} {f:Str} {pos pos' tpos:Pos} {ta tv:TE}
theorem pe_fld (he:PE X e ta) (hb:attributeBase e f X.env (eval e X.env)=eval e X.env):PE X (.Attribute e f pos) (tFld X.K ta f):=by
  intro pins s σ H Q I h
  refine attr_of hb (thn (he pins s σ H _ I h) fun u s1 ⟨x,H1,I1,rx,a,C,dx,fs,v,ex,ea,c,n,l,q⟩=>?_)
  subst ex
  obtain rfl:u=Value.ref a:=rx
  exact getattr_ok I1 ea c n l fun u' s2 I2 ru=>⟨v,H1,I2,ru,q⟩
theorem ps_fld (ha:PE X o ta) (hv:PE X value tv) (hs:swapsWith value (some (.Attribute o f pos')) pos.line X.env=pure false):PS X (.Assign [.Attribute o f pos'] value pos) (sFld X.K ta tv f):=by
  intro pins s σ H D I h
  refine plainObj_wpAny_Assign_Attribute (thn (hv pins s σ H _ I h) fun u s1 ⟨y,H1,I1,ry,q⟩=>thn (ha pins s1 σ H1 _ I1 q) fun ov s2 ⟨x,H2,I2,rx,a,C,dx,fs,ex,ea,c,n,l,q2⟩=>?_) hs
  subst ex
  obtain rfl:ov=Value.ref a:=rx
  exact setattr_ok I2 ea c n l ry fun s3 I3=>⟨σ,_,I3,q2⟩
end
section
variable {X:Cx} {pins:List (Addr × Obj)} {σ:St} {H:Hp} {s:Shared} {A:Around} {E:Value→Shared→Prop} {Q:Value→Shared→Prop} {c:Value} {b:Bool}
inductive TyOf (K:PySem.W.Frag) (H:Hp):V→Value→Prop where
  | non:TyOf K H .non (.type "NoneType")
  | bl (x:Bool):TyOf K H (.bl x) (.type "bool")
  | int (i:Int):TyOf K H (.int i) (.type "int")
  | str (x:Str):TyOf K H (.str x) (.type "str")
  | flt (x:UInt64):TyOf K H (.flt x) (.type "float")
  | lst {a:Addr} {xs:List V} (e:H a=some (.lst xs)):TyOf K H (.ref a) (.type "list")
  | frz {a:Addr} {o:Obj} {xs:List V} (e:H a=some (.frz o (.lst xs))):TyOf K H (.ref a) (.type "list")
  | tup {a:Addr} {xs:List V} (e:H a=some (.tup xs)):TyOf K H (.ref a) (.type "tuple")
  | dK {a:Addr} {kvs:List (Key × V)} (e:H a=some (.dK kvs)):TyOf K H (.ref a) (.type "dict")
  | dT {a:Addr} {kvs:List (List Key × V)} (e:H a=some (.dT kvs)):TyOf K H (.ref a) (.type "dict")
  | ins {a C dx:Addr} {fs:List (Str × V)} (e:H a=some (.ins C dx fs)) (cl:Cls K C) (ha:PySem.W.findIn K (.ref C) "__class__"=some (some (.builtin "object.__class__")))
      (hn:PySem.W.specialIn K (.builtin "object.__class__") "__get__"=some (some (.builtin "getset_descriptor.__get__"))) (htk:PySem.W.takesIn K (.builtin "object.__class__")=some true)
      (hm:PySem.W.mroIn K C (.type "object")=some true):TyOf K H (.ref a) (.ref C)
theorem isinst_ok {x:V} {u t:Value} (I:Inv X pins σ H s) (rx:RelV x u) (ty:TyOf X.K H x t) (e:PySem.W.kitOne X.K t c=some b) (h:∀ tk,Q (.bool b) { s with toks:=tk }) :
    wpAny (model X.prog X.w) A (call (.builtin "isinstance") [u,c]) Q E s:=by
  cases ty with
  | non=>cases (show u=Value.none from rx); exact PySem.W.kia_one PySem.W.kitx_none I.kIn True.intro e (fun z=>nomatch z) h
  | bl y=>cases (show u=Value.bool y from rx); exact PySem.W.kia_one PySem.W.kitx_bool I.kIn True.intro e (fun z=>nomatch z) h
  | int i=>obtain ⟨t,q⟩:=(show ∃ t,u=Value.int i t from rx); cases q; exact PySem.W.kia_one PySem.W.kitx_int I.kIn True.intro e (fun z=>nomatch z) h
  | str y=>obtain ⟨t,q⟩:=(show ∃ t,u=Value.str y t from rx); cases q; exact PySem.W.kia_one PySem.W.kitx_str I.kIn True.intro e (fun z=>nomatch z) h
  | flt y=>obtain ⟨t,q⟩:=(show ∃ t,u=Value.float y t from rx); cases q; exact PySem.W.kia_one PySem.W.kitx_float I.kIn True.intro e (fun z=>nomatch z) h
  | @lst a xs ea=>
    cases (show u=Value.ref a from rx)
    obtain ⟨_,_,n,_,h1⟩:=(show ObjOk X.prog X.w H s.heap a (.lst xs) from I.hok a _ ea)
    exact PySem.W.kia_one PySem.W.kitx_list I.kIn ⟨_,h1,rfl⟩ e (fun z=>nomatch z) h
  | @frz a ob xs ea=>
    cases (show u=Value.ref a from rx)
    obtain ⟨_,_,_,n,_,h1⟩:=(show ObjOk X.prog X.w H s.heap a (.frz ob (.lst xs)) from I.hok a _ ea)
    exact PySem.W.kia_one PySem.W.kitx_list I.kIn ⟨_,h1,rfl⟩ e (fun z=>nomatch z) h
  | @tup a xs ea=>
    cases (show u=Value.ref a from rx)
    obtain ⟨_,_,_,p⟩:=(show ObjOk X.prog X.w H s.heap a (.tup xs) from I.hok a _ ea)
    obtain ⟨o,h1,h2,_⟩:=p
    exact PySem.W.kia_one PySem.W.kitx_tuple I.kIn ⟨o,h1,h2⟩ e (fun z=>nomatch z) h
  | @dK a kvs ea=>
    cases (show u=Value.ref a from rx)
    obtain ⟨_,_,vs,_,p⟩:=(show ObjOk X.prog X.w H s.heap a (.dK kvs) from I.hok a _ ea)
    obtain ⟨o,es,ep,h1,h2,_⟩:=p
    exact PySem.W.kia_one PySem.W.kitx_dict I.kIn ⟨o,h1,h2.1⟩ e (fun z=>nomatch z) h
  | @dT a kvs ea=>
    cases (show u=Value.ref a from rx)
    obtain ⟨_,_,xs,_,o,es,ep,h1,h2,_⟩:=(show ObjOk X.prog X.w H s.heap a (.dT kvs) from I.hok a _ ea)
    exact PySem.W.kia_one PySem.W.kitx_dict I.kIn ⟨o,h1,h2.1⟩ e (fun z=>nomatch z) h
  | @ins a C dx fs ea cl ha hn htk hm=>
    cases (show u=Value.ref a from rx)
    obtain ⟨mA,O,_⟩:=ins_get I.hok ea
    obtain ⟨od,J,_⟩:=O.look
    exact PySem.W.kia_one (PySem.W.kitx_own (cl.get _) cl.hd ha hn htk hm) I.kIn J e (fun z=>nomatch z) h
end
structure Room (k:Nat) (A:Around):Prop where
  hd:A.handled=none
  dp:A.depth+3 * k+5<recursionLimit
  un:A.units+16 * k+200<cLine
theorem Room.mono {j k:Nat} {A:Around} (r:Room k A) (h:j≤k):Room j A:=⟨r.hd,by have:=r.dp; omega,by have:=r.un; omega⟩
theorem Room.deeper {k:Nat} {A:Around} (r:Room (k+1) A) (env:Env):Room k (A.deeper env):=
  ⟨r.hd,by have:=r.dp; show A.depth+1+3 * k+5<_; omega,by have:=r.un; show A.units+3+16 * k+200<_; omega⟩
theorem make_depth {A:Around} {C:Addr} {us:List Value} {kw:List (Str × Value)}:(A.under (.builtin "type.__call__" ⟨.ref C::us,kw⟩)).depth=A.depth+1:=by
  first|rfl|simp [Around.under,Code.weight,Code.isCreation,Code.isGuard,Code.isCaller,Code.frames,Code.isFrame,guardIds]
theorem make_units {A:Around} {C:Addr} {us:List Value} {kw:List (Str × Value)}:(A.under (.builtin "type.__call__" ⟨.ref C::us,kw⟩)).units=A.units+1:=by
  first|rfl|simp [Around.under,Code.cUnits,Code.frames,Code.isFrame]
theorem Room.make {k:Nat} {A:Around} (r:Room (k+1) A) (C:Addr) (us:List Value) (kw:List (Str × Value)):Room k (A.under (.builtin "type.__call__" ⟨.ref C::us,kw⟩)):=
  ⟨r.hd,by have:=r.dp; rw [make_depth]; omega,by have:=r.un; rw [make_units]; omega⟩
theorem Room.depth {k:Nat} {A:Around} (r:Room k A):A.depth<recursionLimit:=by have:=r.dp; omega
theorem Room.units {k:Nat} {A:Around} (r:Room k A):A.units+64<cLine:=by have:=r.un; omega
def tNil:TA:=fun _ H Q=>Q [] H
def tCons (ta:TE) (tr:TA):TA:=fun σ H Q=>ta σ H fun x H1=>tr σ H1 fun xs H2=>Q (x::xs) H2
section
variable {X:Cx} {e:Expr} {es:List Expr} {te:TE} {t:TA} {pos:Pos}
theorem pa_nil:PA X [] tNil:=fun _ _ _ _ H Q I h=>Calls.spliced_nil ⟨[],H,I,.nil,h⟩
theorem pa_cons (ha:PE X e te) (hr:PA X es t) (hs:starEach (e::es) X.env=(false,eval e X.env)::starEach es X.env:=by rfl):PA X (e::es) (tCons te t):=by
  intro pos pins s σ H Q I h
  rw [hs]
  show wpAny _ _ (spliced ((false,eval e X.env)::backTo pos (starEach es X.env))) _ _ s
  refine Calls.spliced_cons (thn (ha pins s σ H _ I h) fun u s1 ⟨x,H1,I1,r1,q1⟩=>?_)
  exact thn (hr pos pins s1 σ H1 _ I1 q1) fun us s2 ⟨xs,H2,I2,r2,q2⟩=>⟨x::xs,H2,I2,.cons r1 r2,q2⟩
def tTup (t:TA):TE:=fun σ H Q=>t σ H fun xs H1=>xs.length≤sizeLine∧∀ p,H1 p=none→Q (.ref p) (upd H1 p (.tup xs))
def tLst (t:TA):TE:=fun σ H Q=>t σ H fun xs H1=>xs.length≤sizeLine∧∀ p,H1 p=none→Q (.ref p) (upd H1 p (.lst xs))
theorem pe_tup {x1} (h:PA X es t):PE X (.Tuple es x1 pos) (tTup t):=by
  intro pins s σ H Q I hq
  refine wpAny_Tuple_spliced (thn (h pos pins s σ H _ I hq) fun us s1 ⟨xs,H1,I1,r,z,q⟩=>⟨by rw [← r.length]; exact z,?_⟩)
  have hf:H1 s1.heap.objs.size=none:=I1.hok.fresh (Nat.le_refl _)
  refine ⟨.ref s1.heap.objs.size,upd H1 s1.heap.objs.size (.tup xs),I1.laid (t':=s1.toks) (fun b u e=>Heap.get?_push_of_some _ e) (Nat.le_refl _) ?_,rfl,q _ hf⟩
  exact ⟨z,us,r,⟨_,Heap.get?_push_size _ rfl,rfl,_,rfl⟩⟩
theorem pe_lst (h:PA X es t):PE X (.List es pos) (tLst t):=by
  intro pins s σ H Q I hq
  refine wpAny_List_spliced (thn (h pos pins s σ H _ I hq) fun us s1 ⟨xs,H1,I1,r,z,q⟩=>⟨by rw [← r.length]; exact z,?_⟩)
  have hf:H1 s1.heap.objs.size=none:=I1.hok.fresh (Nat.le_refl _)
  refine ⟨.ref s1.heap.objs.size,upd H1 s1.heap.objs.size (.lst xs),I1.laid (t':=s1.toks) (fun b u e=>Heap.get?_push_of_some _ e) (Nat.le_refl _) ?_,rfl,q _ hf⟩
  exact ⟨z,us,0,r,Heap.get?_push_size _ rfl⟩
end
abbrev Sp:=List V→Hp→VK→XK→Prop
abbrev CXT:=List Env→Hp→Shared→XK→Value→Shared→Prop
structure Env0 (P:Program) (w:World) (K:PySem.W.Frag) (mg:Str→Option Value) (base:Heap) (A:Around) (outer:List Env) (s:Shared) (H:Hp):Prop where
  frames:A.frames=some outer
  mod:Mod K mg base
  bs:∀ b o,base.get? b=some o→s.heap.get? b=some o∧H b=none
  bsz:base.objs.size≤s.heap.objs.size
  funs:s.heap.FunFrames base outer
  frf:∀ b∈frs outer,H b=none
  hok:HOk P w H s.heap
  bare:AllBare s.gens
def CE (outer:List Env) (P:Program) (w:World) (H:Hp) (s:Shared) (Q:VK) (u:Value) (s':Shared):Prop:=
  ∃ v H',s'.os=s.os∧AllBare s'.gens∧Un (frs outer) [] H H' s.heap s'.heap∧HOk P w H' s'.heap∧RelV v u∧Q v H'
def CR (CX:CXT) (outer:List Env) (P:Program) (w:World) (H:Hp) (s:Shared) (Q:VK) (E:XK) (r:Result) (s':Shared):Prop:=
  match r with
  | .ok (.ret u)=>CE outer P w H s Q u s'
  | .ok _=>False
  | .error e=>CX outer H s E e s'
structure FnOk (P:Program) (w:World) (K:PySem.W.Frag) (mg:Str→Option Value) (base:Heap) (CX:CXT) (k:Nat) (f:Addr) (fd:FuncData) (ps:List Str) (sp:Sp):Prop where
  len:∀ vs H Q E,sp vs H Q E→vs.length=ps.length
  run:∀ (A:Around) (outer:List Env) (s:Shared) (H:Hp) (args:Args) (us:List Value) (vs:List V) (Q:VK) (E:XK),Room k A→Env0 P w K mg base A outer s H→BindsTo s fd args (ps.zip us)→Vals vs us→sp vs H Q E →
    codeAny (model P w) A (.call (.ref f) args) (CR CX outer P w H s Q E) s
theorem FnOk.mono {P:Program} {w:World} {K:PySem.W.Frag} {mg:Str→Option Value} {base:Heap} {CX:CXT} {j k:Nat} {f:Addr} {fd:FuncData} {ps:List Str} {sp:Sp} (F:FnOk P w K mg base CX j f fd ps sp) (h:j≤k) :
    FnOk P w K mg base CX k f fd ps sp:=⟨F.len,fun A outer s H args us vs Q E hr=>F.run A outer s H args us vs Q E (hr.mono h)⟩
theorem Env0.make {P:Program} {w:World} {K:PySem.W.Frag} {mg:Str→Option Value} {base:Heap} {A:Around} {outer:List Env} {s:Shared} {H:Hp} (e:Env0 P w K mg base A outer s H) (C:Addr) (us:List Value) (kw:List (Str × Value)) :
    Env0 P w K mg base (A.under (.builtin "type.__call__" ⟨.ref C::us,kw⟩)) outer s H:=⟨by first|exact e.frames|(simpa [Around.under,Code.envs,Code.isFrame,pushEnvs] using e.frames),e.mod,e.bs,e.bsz,e.funs,e.frf,e.hok,e.bare⟩
section
variable {X:Cx} {pins:List (Addr × Obj)} {σ:St} {H:Hp} {s s':Shared}
theorem Inv.env0 (I:Inv X pins σ H s):Env0 X.prog X.w X.K X.mg X.base X.A X.stack s H:=
  ⟨I.ok.frames,I.ok.mod,I.bs,Nat.le_trans I.ok.bsz I.sz,I.stack,I.stkFree,I.hok,I.bare⟩
theorem Inv.after {Q:VK} {u:Value} (I:Inv X pins σ H s) (h:CE X.stack X.prog X.w H s Q u s'):EP X pins σ Q u s':=by
  obtain ⟨v,H',os,bare,un,hok,r,q⟩:=h
  obtain ⟨hh,g,d,t,os'⟩:=s'
  obtain rfl:os'=s.os:=os
  exact ⟨v,H',I.call (h':=hh) (g':=g) (d':=d) (t':=t) (ch:=[]) un hok bare (fun b z=>absurd z (by simp)),r,q⟩
end
def tCall (sp:Sp) (dvs:List V) (E:XK) (t:TA):TE:=fun σ H Q=>t σ H fun vs H1=>sp (vs++dvs) H1 Q E
def tMeth (C:Addr) (m:Str) (sp:Sp) (dvs:List V) (E:XK) (ta:TE) (t:TA):TE:=fun σ H Q=>ta σ H fun x H1=>∃ a dx fs,x=.ref a∧H1 a=some (.ins C dx fs)∧fs.lookup m=none ∧
  t σ H1 fun vs H2=>sp (x::(vs++dvs)) H2 Q E
def tMake (C:Addr) (sp:Sp) (dvs:List V) (E:XK) (t:TA):TE:=fun σ H Q=>t σ H fun vs H1=>∀ x dx,H1 x=none→H1 dx=none→dx≠x →
  sp (.ref x::(vs++dvs)) (upd (upd H1 dx (.own x)) x (.ins C dx [])) (fun v H2=>v=.non∧Q (.ref x) H2) E
def Binds (K:PySem.W.Frag) (fd:FuncData) (ps:List Str) (ds:List Value):Prop:=
  ∀ (s:Shared) (us:List Value),K.In s.heap→(us++ds).length=ps.length→BindsTo s fd ⟨us,[]⟩ (ps.zip (us++ds))
theorem Binds.all {K:PySem.W.Frag} {fd:FuncData} {ps:List Str} (h:∀ us:List Value,us.length=ps.length→bindArgs fd ⟨us,[]⟩=pure (ps.zip us)):Binds K fd ps []:=fun s us _ hl=>by
  rw [aZ0] at hl ⊢
  exact .of_eq (h us hl)
def Passes (CX:CXT) (X:Cx) (E:XK):Prop:=∀ (pins:List (Addr × Obj)) (σ:St) (H:Hp) (s:Shared) (e:Value) (s':Shared),Inv X pins σ H s→CX X.stack H s E e s'→X.xe e s'
section
variable {X:Cx} {CX:CXT} {k:Nat} {f C:Addr} {fd:FuncData} {ps:List Str} {sp:Sp} {dvs:List V} {ds:List Value} {E:XK} {x m:Str} {p pos apos:Pos} {e o:Expr} {es:List Expr} {ta:TE} {t:TA}
theorem run_fn {pins:List (Addr × Obj)} {σ:St} {H:Hp} {s:Shared} {Q:VK} {us:List Value} {vs:List V} (F:FnOk X.prog X.w X.K X.mg X.base CX k f fd ps sp) (hr:Room k X.A) (hb:Binds X.K fd ps ds) (hd:Vals dvs ds) (hx:Passes CX X E)
    (I:Inv X pins σ H s) (r:Vals vs us) (h:sp (vs++dvs) H Q E):wpAny (model X.prog X.w) X.A (call (.ref f) us) (EP X pins σ Q) X.xe s:=by
  have r2:Vals (vs++dvs) (us++ds):=r.append hd
  have hl:(us++ds).length=ps.length:=by rw [← r2.length]; exact F.len _ _ _ _ h
  refine wpAny_call (codeAny_mono (F.run X.A X.stack s H ⟨us,[]⟩ (us++ds) (vs++dvs) Q E hr I.env0 (hb s us I.kIn hl) r2 h) fun r s' hq=>?_)
  cases r with
  | error e=>exact hx pins σ H s e s' I hq
  | ok fl=>
    cases fl with
    | ret u=>exact I.after hq
    | next=>exact False.elim hq
    | brk=>exact False.elim hq
    | cont=>exact False.elim hq
theorem pe_call (F:FnOk X.prog X.w X.K X.mg X.base CX k f fd ps sp) (hr:Room k X.A) (hg:Gl X x) (hm:X.mg x=some (.ref f)) (hk:PySem.W.keepIn X.K (.ref f)=true) (hb:Binds X.K fd ps ds) (hd:Vals dvs ds) (hx:Passes CX X E)
    (ha:PA X (e::es) t) (hdb:(x == ("__debug__":Str))=false:=by decide) (he:starEach (e::es) X.env=(false,eval e X.env)::starEach es X.env:=by rfl) (hpl:(backTo pos (starEach es X.env)).any (·.1)=false:=by rfl) :
    PE X (.Call (.Name x p) (e::es) [] pos) (tCall sp dvs E t):=by
  intro pins s σ H Q I h
  refine wpAny_Call_Name_kw (ld_glob I hg hm ?_ hdb)
  refine PySem.W.callWith_K (h₀:=X.base) I.ok.mod.kin hk (thn (ha pos pins s σ H _ I h) fun us s1 ⟨vs,H1,I1,r,q⟩=>⟨I1.kIn,?_⟩) he hpl
  exact run_fn F hr hb hd hx I1 r q
theorem pe_call0 (F:FnOk X.prog X.w X.K X.mg X.base CX k f fd ps sp) (hr:Room k X.A) (hg:Gl X x) (hm:X.mg x=some (.ref f)) (hk:PySem.W.keepIn X.K (.ref f)=true) (hb:Binds X.K fd ps ds) (hd:Vals dvs ds) (hx:Passes CX X E)
    (hdb:(x == ("__debug__":Str))=false:=by decide):PE X (.Call (.Name x p) [] [] pos) (tCall sp dvs E tNil):=by
  intro pins s σ H Q I h
  refine wpAny_Call_Name_kw (ld_glob I hg hm ?_ hdb)
  exact PySem.W.callWith_K0 I.kIn hk (run_fn (us:=[]) F hr hb hd hx I .nil h)
theorem pe_meth0 {pl:Sem Bool} (he:PE X o ta) (c:Cls X.K C) (hm:Meth X.K C m f) (F:FnOk X.prog X.w X.K X.mg X.base CX k f fd ps sp) (hr:Room k X.A) (hb:Binds X.K fd ps ds) (hd:Vals dvs ds) (hx:Passes CX X E)
    (ht:eval (.Call (.Attribute o m apos) [] [] pos) X.env=(do
      let ov ← eval o X.env
      standAt apos.atName
      let (f,first) ← holding [ov] (getMethod ov m pl)
      callWith pos f first (backTo pos (starEach [] X.env)) (backToKw pos (keywordEach [] X.env))):=by rfl) :
    PE X (.Call (.Attribute o m apos) [] [] pos) (tMeth C m sp dvs E ta tNil):=by
  intro pins s σ H Q I h
  refine PySem.W.methodCall_KW (pl:=pl) (thn (he pins s σ H _ I h) fun u s1 ⟨x,H1,I1,rx,a,dx,fs,ex,ea,l,q⟩=>?_) ht
  subst ex
  obtain rfl:u=Value.ref a:=rx
  refine getmeth_ok I1 ea c hm l ?_
  exact PySem.W.callWith_K0 (first:=[.ref a]) I1.kIn hm.kp (run_fn (us:=[.ref a]) (vs:=[.ref a]) F hr hb hd hx I1 (.cons rfl .nil) q)
structure Mk (K:PySem.W.Frag) (C f:Addr):Prop where
  makes:PySem.W.makesIn K C=true
  init:PySem.W.findIn K (.ref C) "__init__"=some (some (.ref f))
  fn:PySem.W.isFn K (.ref f)=true
  kp:PySem.W.keepIn K (.ref C)=true
theorem run_make {pins:List (Addr × Obj)} {σ:St} {H:Hp} {s:Shared} {Q:VK} {us:List Value} {vs:List V} (M:Mk X.K C f) (F:FnOk X.prog X.w X.K X.mg X.base CX k f fd ps sp) (hr:Room (k+1) X.A) (hb:Binds X.K fd ps ds) (hd:Vals dvs ds)
    (hx:Passes CX X E) (I:Inv X pins σ H s) (r:Vals vs us)
    (h:∀ x dx,H x=none→H dx=none→dx≠x→sp (.ref x::(vs++dvs)) (upd (upd H dx (.own x)) x (.ins C dx [])) (fun v H2=>v=.non∧Q (.ref x) H2) E) :
    wpAny (model X.prog X.w) X.A (call (.ref C) us) (EP X pins σ Q) X.xe s:=by
  have hq:=h (s.heap.objs.size+1) s.heap.objs.size (I.hok.fresh (Nat.le_succ _)) (I.hok.fresh (Nat.le_refl _)) (Nat.ne_of_lt (Nat.lt_succ_self _))
  have I2:=Inv.made (C:=C) I
  have r2:Vals (V.ref (s.heap.objs.size+1)::(vs++dvs)) (Value.ref (s.heap.objs.size+1)::(us++ds)):=.cons rfl (r.append hd)
  have hl:(Value.ref (s.heap.objs.size+1)::us++ds).length=ps.length:=by
    have e:=r2.length
    rw [F.len _ _ _ _ hq] at e
    exact e.symm
  refine wpAny_call (make_map (f:=f) I.kIn M.makes M.init (beq_iff_eq.mp M.fn) (codeAny_mono (F.run _ X.stack _ _ ⟨Value.ref (s.heap.objs.size+1)::us,[]⟩ (Value.ref (s.heap.objs.size+1)::(us++ds)) _ _ E (hr.make C us [])
    (I2.env0.make C us []) (hb _ (Value.ref (s.heap.objs.size+1)::us) I2.kIn hl) r2 hq) fun r s' hq'=>?_))
  cases r with
  | error e=>exact hx pins σ _ _ e s' I2 hq'
  | ok fl=>
    cases fl with
    | ret u=>
      obtain ⟨v,H',I3,rv,ev,q3⟩:=I2.after hq'
      subst ev
      exact ⟨rv,⟨V.ref (s.heap.objs.size+1),H',I3,rfl,q3⟩⟩
    | next=>exact False.elim hq'
    | brk=>exact False.elim hq'
    | cont=>exact False.elim hq'
theorem pe_make (M:Mk X.K C f) (F:FnOk X.prog X.w X.K X.mg X.base CX k f fd ps sp) (hr:Room (k+1) X.A) (hg:Gl X x) (hm:X.mg x=some (.ref C)) (hb:Binds X.K fd ps ds) (hd:Vals dvs ds) (hx:Passes CX X E)
    (ha:PA X (e::es) t) (hdb:(x == ("__debug__":Str))=false:=by decide) (he:starEach (e::es) X.env=(false,eval e X.env)::starEach es X.env:=by rfl) (hpl:(backTo pos (starEach es X.env)).any (·.1)=false:=by rfl) :
    PE X (.Call (.Name x p) (e::es) [] pos) (tMake C sp dvs E t):=by
  intro pins s σ H Q I h
  refine wpAny_Call_Name_kw (ld_glob I hg hm ?_ hdb)
  refine PySem.W.callWith_K (h₀:=X.base) I.ok.mod.kin M.kp (thn (ha pos pins s σ H _ I h) fun us s1 ⟨vs,H1,I1,r,q⟩=>⟨I1.kIn,?_⟩) he hpl
  exact run_make M F hr hb hd hx I1 r q
end
section
variable {X:Cx} {CX:CXT} {k:Nat} {f C:Addr} {fd:FuncData} {ps ks:List Str} {sp:Sp} {E:XK} {x m:Str} {p pos apos kpos:Pos} {e o:Expr} {es:List Expr} {kws:List Keyword} {te ta:TE} {t tk:TA} {nm:Option Str}
structure KBinds (K:PySem.W.Frag) (fd:FuncData) (ps ks:List Str) (g:List Value→List Value→List Value) (gV:List V→List V→List V):Prop where
  to:∀ (s:Shared) (us ws:List Value),K.In s.heap→(g us ws).length=ps.length→BindsTo s fd ⟨us,ks.zip ws⟩ (ps.zip (g us ws))
  rel:∀ {vs:List V} {us:List Value} {zs:List V} {ws:List Value},Vals vs us→Vals zs ws→Vals (gV vs zs) (g us ws)
variable {g:List Value→List Value→List Value} {gV:List V→List V→List V}
end
structure FnScope (N P:List Str) (sc:Scope):Prop where
  kind:sc.kind=.function
  co:sc.isCoroutine=false
  gen:sc.isGenerator=false
  nd:N.Nodup
  pre:N.take P.length=P
  par:∀ x∈P,sc.names.lookup x=some .local∨sc.names.lookup x=some .cell
  nofree:∀ y∈sc.names,y.2≠.free
theorem bindL_out {kindOf:Str→Option NameKind} {x:Str}:∀ {binds:List (Str × Value)} {m:Str→Option Value},(∀ v,(x,v) ∉ binds)→bindL kindOf binds m x=m x
  | [],_,_=>rfl
  | (n,v)::r,m,h=>by
    unfold bindL
    rw [bindL_out fun w hw=>h w (List.mem_cons_of_mem _ hw)]
    split
    · have:x≠n:=by rintro rfl; exact h v List.mem_cons_self
      simp [this]
    · rfl
theorem bindC_out {kindOf:Str→Option NameKind} {x:Str}:∀ {binds:List (Str × Value)} {m:Str→Option Value},(∀ v,(x,v) ∉ binds)→bindC kindOf binds m x=m x
  | [],_,_=>rfl
  | (n,v)::r,m,h=>by
    unfold bindC
    rw [bindC_out fun w hw=>h w (List.mem_cons_of_mem _ hw)]
    split
    · rfl
    · have:x≠n:=by rintro rfl; exact h v List.mem_cons_self
      simp [this]
theorem bindL_get {kindOf:Str→Option NameKind} {x:Str} {v:Value}:∀ {P:List Str} {vs:List Value} {i:Nat} {m:Str→Option Value},P.Nodup→P[i]?=some x→vs[i]?=some v→kindOf x=some .local →
    bindL kindOf (P.zip vs) m x=some v
  | [],_,_,_,_,h,_,_=>by simp at h
  | _::_,[],_,_,_,_,h,_=>by simp at h
  | p::P,w::vs,0,m,nd,h1,h2,hk=>by
    simp at h1 h2; subst h1; subst h2
    show bindL kindOf ((p,w)::P.zip vs) m p=_
    unfold bindL
    rw [bindL_out fun v hv=>(List.nodup_cons.mp nd).1 (List.of_mem_zip hv).1,if_pos hk]
    simp
  | p::P,w::vs,i+1,m,nd,h1,h2,hk=>by
    show bindL kindOf ((p,w)::P.zip vs) m x=_
    unfold bindL
    exact bindL_get (i:=i) (List.nodup_cons.mp nd).2 (by simpa using h1) (by simpa using h2) hk
theorem bindC_get {kindOf:Str→Option NameKind} {x:Str} {v:Value}:∀ {P:List Str} {vs:List Value} {i:Nat} {m:Str→Option Value},P.Nodup→P[i]?=some x→vs[i]?=some v→kindOf x≠some .local →
    bindC kindOf (P.zip vs) m x=some v
  | [],_,_,_,_,h,_,_=>by simp at h
  | _::_,[],_,_,_,_,h,_=>by simp at h
  | p::P,w::vs,0,m,nd,h1,h2,hk=>by
    simp at h1 h2; subst h1; subst h2
    show bindC kindOf ((p,w)::P.zip vs) m p=_
    unfold bindC
    rw [bindC_out fun v hv=>(List.nodup_cons.mp nd).1 (List.of_mem_zip hv).1,if_neg hk]
    simp
  | p::P,w::vs,i+1,m,nd,h1,h2,hk=>by
    show bindC kindOf ((p,w)::P.zip vs) m x=_
    unfold bindC
    exact bindC_get (i:=i) (List.nodup_cons.mp nd).2 (by simpa using h1) (by simpa using h2) hk
def start (N:List Str) (vs:List V):St:=vs.map some++List.replicate (N.length - vs.length) none
def cxOf (CX:CXT) (P:Program) (w:World) (K:PySem.W.Frag) (mg:Str→Option Value) (base:Heap) (N:List Str) (qual:Str) (scope:Scope) (f:Addr) (cd:Value) (A:Around) (outer:List Env) (s:Shared) (H:Hp) (E:XK):Cx where
  prog:=P
  w:=w
  K:=K
  mg:=mg
  base:=base
  A:=A.deeper (envOfC qual scope s.heap.objs.size f cd)
  N:=N
  s₀:=s
  H₀:=H
  env:=envOfC qual scope s.heap.objs.size f cd
  outer:=outer
  stack:=envOfC qual scope s.heap.objs.size f cd::outer
  ex:=[]
  calm:=true
  fn:=fun _=>true
  pn:=[]
  xe:=fun e s'=>wpAny (model P w) (A.deeper (envOfC qual scope s.heap.objs.size f cd)) (leaving (envOfC qual scope s.heap.objs.size f cd) e) (fun _ s''=>CX outer H s E e s'') (fun e' s''=>CX outer H s E e' s'') s'
theorem cell_has {sc:Scope} {n:Nat} {x:Str} (h:sc.names.lookup x=some .cell):∃ c,(cellsFrom n sc.names []).lookup x=some c:=by
  have q:=PySem.W.cellsFrom_some sc.names n [] (.inl h)
  exact Option.isSome_iff_exists.mp q
theorem inv_start {CX:CXT} {P:Program} {w:World} {K:PySem.W.Frag} {mg:Str→Option Value} {base:Heap} {N ps:List Str} {qual:Str} {scope:Scope} {f:Addr} {cd:Value} {A:Around} {outer:List Env} {s s1:Shared} {H:Hp} {E:XK} {us:List Value} {vs:List V}
    (S:FnScope N ps scope) (hd:A.handled=none) (e0:Env0 P w K mg base A outer s H) (hl:vs.length=ps.length) (r:Vals vs us)
    (x:InCallC s s.heap.objs.size (bindL (envOfC qual scope s.heap.objs.size f cd).kindOf (ps.zip us) fun _=>none) (cellsFrom (s.heap.objs.size+1) scope.names []) (bindC (envOfC qual scope s.heap.objs.size f cd).kindOf (ps.zip us) fun _=>none) s1) :
    Inv (cxOf CX P w K mg base N qual scope f cd A outer s H E) [] (start N vs) H s1:=by
  have hpl:ps.length≤N.length:=by have:=congrArg List.length S.pre; rw [List.length_take] at this; omega
  obtain ⟨h1,tk,rfl,hk⟩:=x.done
  have noA:∀ b:Addr,b ∉ (cxOf CX P w K mg base N qual scope f cd A outer s H E).ex:=fun b z=>absurd (show b∈([]:List Addr) from z) (by simp)
  refine ⟨⟨e0.mod,S.kind,rfl,rfl,Nat.le_refl _,fun y z c h1 h2=>?_,fun y hy=>?_,fun y c _ h=>?_,fun _=>hd,Around.frames_deeper e0.frames,.inr ⟨rfl,rfl⟩,fun b z=>absurd z (noA b),e0.bs,e0.bsz,fun b _ _=>noA b,fun b z=>absurd z (noA b),e0.funs,e0.frf⟩,
    rfl,e0.bare,Un.kept hk,⟨_,x.toInCall.ns,fun i y v h1 h2 h3=>?_⟩,fun y c h=>⟨_,x.cell y c h⟩,e0.hok.fresh (Nat.le_refl _),fun y c h=>?_,fun p hp=>absurd (show p∈([]:List (Addr × Obj)) from hp) (by simp),e0.hok.kept hk,?_⟩
  · exact name_of_addr x.apart (PySem.mem_of_lookup h1) (PySem.mem_of_lookup h2)
  · have hy:scope.names.lookup y=some .cell∨scope.names.lookup y=some .free:=hy
    rcases hy with hy|hy
    · exact cell_has hy
    · exact absurd rfl (S.nofree _ (PySem.mem_of_lookup hy))
  · exact Nat.le_of_lt (x.above y c (PySem.mem_of_lookup h))
  · have hi:i<vs.length:=by
      unfold start at h2
      by_cases hi:i<vs.length
      · exact hi
      · rw [List.getElem?_append_right (by simpa using hi)] at h2
        rw [List.getElem?_replicate] at h2
        split at h2 <;> cases h2
    have ha:vs[i]?=some v:=by
      unfold start at h2
      rw [List.getElem?_append_left (by simpa using hi),List.getElem?_map] at h2
      cases e:vs[i]? with
      | none=>rw [e] at h2; cases h2
      | some a=>rw [e] at h2; cases h2; rfl
    obtain ⟨u,hu,rv⟩:=r.get ha
    have hp:ps[i]?=some y:=by
      rw [← S.pre,List.getElem?_take_of_lt (by omega)]; exact h1
    have ndP:ps.Nodup:=by rw [← S.pre]; exact S.nd.sublist (List.take_sublist _ _)
    refine ⟨u,rv,?_⟩
    rcases S.par y (List.mem_of_getElem? hp) with k|k
    · exact .inl ⟨k,bindL_get ndP hp hu k⟩
    · obtain ⟨c,e⟩:=cell_has (n:=s.heap.objs.size+1) k
      refine .inr ⟨.inl k,c,e,?_⟩
      have q:=x.cell y c e
      rw [bindC_get ndP hp hu (by show scope.names.lookup y≠_; rw [k]; decide)] at q
      exact q
  · exact e0.hok.fresh (Nat.le_of_lt (x.above y c (PySem.mem_of_lookup h)))
  · unfold start
    show _=N.length
    rw [List.length_append,List.length_map,List.length_replicate]
    omega
theorem fn_of {CX:CXT} {P:Program} {w:World} {K:PySem.W.Frag} {mg:Str→Option Value} {base:Heap} {k:Nat} {f:Addr} {name qual:Str} {params:Arguments} {body:List Stmt} {scope:Scope} {dV kV doc pm cdv ct oc:Value} {an od:Option Addr}
    {osl:Array (Option Value)} {N ps:List Str} {sp:Sp} (lk:K.lookup f=some ⟨oc,od,.func (PySem.W.fnOf name qual params body scope dV kV doc pm an cdv ct),osl⟩) (hcd:PySem.W.codeIn K cdv qual=true) (S:FnScope N ps scope)
    (len:∀ vs H Q E,sp vs H Q E→vs.length=ps.length)
    (hbody:∀ (A:Around) (outer:List Env) (s:Shared) (H:Hp) (vs:List V) (Q:VK) (E:XK),Room k (A.deeper (envOfC qual scope s.heap.objs.size f cdv))→sp vs H Q E →
      ∃ t,PSs (cxOf CX P w K mg base N qual scope f cdv A outer s H E) body t∧t { nx:=fun _ H'=>Q .non H',rt:=Q } (start N vs) H) :
    FnOk P w K mg base CX (k+1) f (PySem.W.fnOf name qual params body scope dV kV doc pm an cdv ct) ps sp:=by
  refine ⟨len,fun A outer s H args us vs Q E hr e0 hb r hsp=>?_⟩
  have hl:=len _ _ _ _ hsp
  have KX:K.In s.heap:=e0.mod.kin.keeps fun b o e=>(e0.bs b o e).1
  have lim:s.heap.NoLimit:=e0.mod.nolimit.keeps fun b o e=>(e0.bs b o e).1
  have hkind:∀ y∈ps.zip us,scope.names.lookup y.1=some .local∨(scope.names.lookup y.1=some .cell∧((cellsFrom (s.heap.objs.size+1) scope.names []).lookup y.1).isSome=true):=fun ⟨n,v⟩ hy=>by
    rcases S.par n (List.of_mem_zip hy).1 with q|q
    · exact .inl q
    · exact .inr ⟨q,PySem.W.cellsFrom_some _ _ _ (.inl q)⟩
  refine codeAny_call_function hr.depth (KX _ _ lk) rfl S.co S.gen rfl (PySem.W.codeRec_of KX hcd) (hb _ _ _ _ ?_)
  refine wpAny_newFunctionEnv_cells S.kind hkind fun env he s1 x=>?_
  subst he
  refine ⟨lim.keeps x.toInCall.keep,codeAny_func ?_⟩
  obtain ⟨t,ht,hq⟩:=hbody A outer s H vs Q E (hr.deeper _) hsp
  have I:Inv (cxOf CX P w K mg base N qual scope f cdv A outer s H E) [] (start N vs) H s1:=inv_start S hr.hd e0 hl r x
  refine wpAny_mono (ht [] s1 (start N vs) H _ I hq) (fun fl s' hs=>?_) fun e s' hs=>hs
  have fin:∀ {σ':St} {H':Hp} {v:V} {u:Value},Inv (cxOf CX P w K mg base N qual scope f cdv A outer s H E) [] σ' H' s'→RelV v u→Q v H'→CE outer P w H s Q u s':=
    fun {σ' H' v u} J rv q=>⟨v,H',J.os,J.bare,J.base,J.hok,rv,q⟩
  cases fl with
  | ret u=>
    obtain ⟨v,σ',H',J,rv,q⟩:=hs
    exact fin J rv q
  | next=>
    obtain ⟨σ',H',J,q⟩:=hs
    exact fin (v:=V.non) (u:=Value.none) J rfl q
  | brk=>
    obtain ⟨_,_,_,q⟩:=hs
    exact False.elim q
  | cont=>
    obtain ⟨_,_,_,q⟩:=hs
    exact False.elim q
section
variable {X:Cx} {x:Str} {p pos:Pos} {e:Expr} {es:List Expr} {t:TA} {id T:String} {r:List V→Hp→VK→Prop}
def tCB (r:List V→Hp→VK→Prop) (t:TA):TE:=fun σ H Q=>t σ H fun vs H1=>r vs H1 Q
theorem pe_callB (hc:CallR X (.builtin id) r) (hg:Gl X x) (hm:X.mg x=none) (hv:bootBuiltins x=some (.builtin id)) (ha:PA X (e::es) t) (hn:x≠"__name__":=by decide) (hdb:(x == ("__debug__":Str))=false:=by decide)
    (he:starEach (e::es) X.env=(false,eval e X.env)::starEach es X.env:=by rfl) (hpl:(backTo pos (starEach es X.env)).any (·.1)=false:=by rfl):PE X (.Call (.Name x p) (e::es) [] pos) (tCB r t):=by
  intro pins s σ H Q I h
  refine wpAny_Call_Name_kw (ld_blt I hg hm hv ?_ hn hdb)
  exact PyProof.Rows.callWith_builtin1 (thn (ha pos pins s σ H _ I h) fun us s1 ⟨vs,H1,I1,r1,q1⟩=>hc pins s1 σ H1 vs us Q I1 r1 q1) he hpl
theorem pe_callTy (hc:CallR X (.type T) r) (hg:Gl X x) (hm:X.mg x=none) (hv:bootBuiltins x=some (.type T)) (ha:PA X (e::es) t) (hn:x≠"__name__":=by decide) (hdb:(x == ("__debug__":Str))=false:=by decide)
    (he:starEach (e::es) X.env=(false,eval e X.env)::starEach es X.env:=by rfl) (hpl:(backTo pos (starEach es X.env)).any (·.1)=false:=by rfl):PE X (.Call (.Name x p) (e::es) [] pos) (tCB r t):=by
  intro pins s σ H Q I h
  refine wpAny_Call_Name_kw (ld_blt I hg hm hv ?_ hn hdb)
  exact PyProof.Rows.callWith_type1 (thn (ha pos pins s σ H _ I h) fun us s1 ⟨vs,H1,I1,r1,q1⟩=>hc pins s1 σ H1 vs us Q I1 r1 q1) he hpl
end
end L2
namespace HT
open PySem PyProof.Rows
section
open PySem.SeqAt
open PySem.AutoSeq1 (wpAny_loadPart')
open PySem.MeetsSeq PySem.MeetsSeq2 PySem.MeetsSeq3
end
section
variable {prog:Program} {w:World} {A:Around} {E:Value→Shared→Prop} {s:Shared}
theorem cat_tup {t b:Addr} {vs ws:List Value} {Q:Value→Shared→Prop} (ht:IsTup s.heap t vs.toArray) (hb:IsTup s.heap b ws.toArray) (hv:vs≠[])
    (h1:ws=[]→Q (.ref t) s) (h2:ws≠[]→Q (.ref s.heap.objs.size) { s with heap:=s.heap.push { cls:=.type "tuple", data:=.seq (vs++ws).toArray } })
    (hsz:vs.length+ws.length≤sizeLine):wpAny (model prog w) A (binaryOp .Add (.ref t) (.ref b)) Q E s:=by
  obtain ⟨⟨cls,dd,data,sl⟩,ho,hc,n,hd⟩:=id ht
  obtain ⟨⟨cls2,dd2,data2,sl2⟩,ho2,hc2,n2,hd2⟩:=id hb
  simp only at hc hd hc2 hd2
  subst hc hd hc2 hd2
  have e:vs.toArray++ws.toArray=(vs++ws).toArray:=by simp
  by_cases hw:ws=[]
  · exact concat_meets ⟨_,ho,rfl⟩ ⟨_,ho2,rfl⟩ noFill_tuple_add seq_tuple_add PySem.F.slot_tuple_add PySem.F.entry_tuple_add (PySem.F.args_tuple_add_2 _ _)
      (tuple_addW1 t b vs.toArray ws.toArray n n2 dd dd2 sl sl2 (by simpa using hv) (by simp [hw])) ⟨ho,ho2,h1 hw⟩
  · refine concat_meets ⟨_,ho,rfl⟩ ⟨_,ho2,rfl⟩ noFill_tuple_add seq_tuple_add PySem.F.slot_tuple_add PySem.F.entry_tuple_add (PySem.F.args_tuple_add_2 _ _)
      (tuple_addW2 t b vs.toArray ws.toArray n n2 dd dd2 sl sl2 (by simpa using hv) (by simpa using hw) (by rw [List.size_toArray,List.size_toArray]; exact hsz)) ⟨ho,ho2,?_⟩
    rw [e]
    exact h2 hw
def sIx (n d:Nat):Option Int→Nat
  | none=>d
  | some v=>if v<0 then (v+(n:Int)).toNat else min v.toNat n
theorem sIx_le (n d:Nat) (hd:d≤n) (o:Option Int):sIx n d o≤n:=by
  cases o with
  | none=>exact hd
  | some v=>
    show (if v<0 then (v+(n:Int)).toNat else min v.toNat n)≤n
    by_cases hv:v<0
    · rw [if_pos hv]; omega
    · rw [if_neg hv]; exact Nat.min_le_right _ _
theorem clip_eq (v:Int) (n d:Nat):(if v<0 then max (v+(n:Int)) 0 else min v (n:Int))=((sIx n d (some v):Nat):Int):=by
  show (if v<0 then max (v+(n:Int)) 0 else min v (n:Int))=(((if v<0 then (v+(n:Int)).toNat else min v.toNat n):Nat):Int)
  by_cases hv:v<0
  · simp only [if_pos hv]; omega
  · simp only [if_neg hv]; omega
theorem adjust_gen (lo hi:Option Int) (n:Nat):Builtin.Slice.sliceAdjust lo hi 1 (n:Int)=(((sIx n 0 lo:Nat):Int),((sIx n n hi:Nat):Int)):=by
  have h1:¬ ((1:Int)<0):=by omega
  unfold Builtin.Slice.sliceAdjust
  simp only [h1,if_false]
  refine Prod.ext ?_ ?_
  · cases lo with
    | none=>rfl
    | some v=>exact clip_eq v n 0
  · cases hi with
    | none=>rfl
    | some v=>exact clip_eq v n n
theorem places_gen (i j:Nat):Builtin.Slice.slicePlaces (i:Int) (j:Int) 1=j - i:=by
  unfold Builtin.Slice.slicePlaces
  have h1:(1:Int) > 0:=by omega
  simp only [h1,if_true,Int.ediv_one]
  split <;> omega
theorem slicePart_ {v:Value} {o:Option Int} {Q:Option Int→Shared→Prop} (p:IsPart v o) (h:Q o s):wpAny (model prog w) A (Builtin.Slice.slicePartIndex v) Q E s:=by
  cases p with
  | none=>exact slicePart_none h
  | int i t=>exact slicePart_int h
theorem sliceApplied_gen {sl:Addr} {vl vu:Value} {lo hi:Option Int} {n:Nat} {Q:Int × Int × Nat→Shared→Prop} (hs:s.heap.IsSliceOf sl vl vu .none) (pl:IsPart vl lo) (pu:IsPart vu hi)
    (h:Q (((sIx n 0 lo:Nat):Int),1,sIx n n hi - sIx n 0 lo) s):wpAny (model prog w) A (Builtin.Slice.sliceApplied (.ref sl) (pure (n:Int))) Q E s:=by
  obtain ⟨os,hos,hcs,hds⟩:=id hs
  unfold Builtin.Slice.sliceApplied Builtin.Slice.sliceFields
  refine wpAny_bind (wpAny_bind (wpAny_field hos hds (x:=vl) rfl (wpAny_bind (wpAny_field hos hds (x:=vu) rfl (wpAny_bind (wpAny_field hos hds (x:=.none) rfl (wpAny_pure ?_)))))))
  refine wpAny_bind (slicePart_none ?_)
  show wpAny _ _ (if ((1:Int) == 0)=true then _ else _) _ _ s
  rw [if_neg (by decide)]
  refine wpAny_bind (slicePart_ pl (wpAny_bind (slicePart_ pu (wpAny_bind (wpAny_pure ?_)))))
  show wpAny _ _ (match Builtin.Slice.sliceAdjust lo hi 1 (n:Int) with|(lo,hi)=>pure (lo,(1:Int),Builtin.Slice.slicePlaces lo hi 1)) _ _ s
  rw [adjust_gen lo hi n]
  show wpAny _ _ (pure (((sIx n 0 lo:Nat):Int),(1:Int),Builtin.Slice.slicePlaces ((sIx n 0 lo:Nat):Int) ((sIx n n hi:Nat):Int) 1)) _ _ s
  rw [places_gen]
  exact wpAny_pure h
theorem pick_gen (xs:Array Value) (i k:Nat):((List.range k).filterMap fun (m:Nat)=>xs[((i:Int)+(m:Int) * 1).toNat]?).toArray=((xs.toList.drop i).take k).toArray:=by
  have e:(fun (m:Nat)=>xs[((i:Int)+(m:Int) * 1).toNat]?)=fun m=>xs[i+m]?:=by
    funext m
    have:((i:Int)+(m:Int) * 1).toNat=i+m:=by omega
    rw [this]
  rw [e]
  have:=pick_run xs i k
  rw [List.filterMap_map] at this
  have e2:((fun x=>xs[x]?)∘fun x=>i+x)=fun m=>xs[i+m]?:=rfl
  rw [e2] at this
  rw [this]
theorem getItem_tuple_cut {t sl:Addr} {items:Array Value} {vl vu:Value} {lo hi:Option Int} {Q:Value→Shared→Prop} (ht:IsTup s.heap t items) (hs:s.heap.IsSliceOf sl vl vu .none) (pl:IsPart vl lo) (pu:IsPart vu hi)
    (hw:¬ (sIx items.size 0 lo=0∧sIx items.size items.size hi=items.size))
    (h:Q (.ref s.heap.objs.size) { s with heap:=s.heap.push { cls:=.type "tuple", data:=.seq ((items.toList.drop (sIx items.size 0 lo)).take (sIx items.size items.size hi - sIx items.size 0 lo)).toArray } })
    (hsz:items.size≤sizeLine):wpAny (model prog w) A (getItem (.ref t) (.ref sl)) Q E s:=by
  have htake:sizeOk (.seq ((items.toList.drop (sIx items.size 0 lo)).take (sIx items.size items.size hi - sIx items.size 0 lo)).toArray):=by
    show ((items.toList.drop (sIx items.size 0 lo)).take (sIx items.size items.size hi - sIx items.size 0 lo)).toArray.size≤sizeLine
    rw [List.size_toArray,List.length_take,List.length_drop,Array.length_toList]
    omega
  have hj:sIx items.size items.size hi≤items.size:=sIx_le _ _ (Nat.le_refl _) hi
  obtain ⟨os,hos,hcs,hds⟩:=id hs
  have hTs:s.TypeIs (.ref sl) "slice":=⟨os,hos,hcs⟩
  unfold getItem
  try with_reducible refine wpAny_holding ?_
  first|refine wpAny_bind (wpAny_pure ?_)|skip
  refine wpAny_bind (wpAny_sequenceKey ht.typeIs (by decide) ?_)
  refine wpAny_bind (wpAny_callSpecial?_slot (name:=Str.ofString "__getitem__") ht.typeIs PyProof.Rows.slot_tuple_getitem
    (wpAny_call_entry PyProof.Rows.slot_tuple_getitem ht.typeIs entry_tuple_getitem ?_ (args_tuple_getitem _ _)))
  show wpAny _ _ (Builtin.Tuple.tupleItemsOf (.ref t) >>= _) _ _ s
  refine wpAny_bind (tupleItemsOf_ ht ?_)
  refine wpAny_bind (wpAny_typeOf hTs ?_)
  rw [if_pos (by decide)]
  refine wpAny_bind (sliceApplied_gen hs pl pu ?_)
  have hno:¬ ((((sIx items.size 0 lo:Nat):Int) == 0 && (1:Int) == 1 && (sIx items.size items.size hi - sIx items.size 0 lo) == items.size)=true):=by
    intro q
    rw [Bool.and_eq_true,Bool.and_eq_true] at q
    have q1:((sIx items.size 0 lo:Nat):Int)=0:=eq_of_beq q.1.1
    have q2:sIx items.size items.size hi - sIx items.size 0 lo=items.size:=eq_of_beq q.2
    exact hw ⟨by omega,by omega⟩
  show wpAny _ _ (if (((sIx items.size 0 lo:Nat):Int) == 0 && (1:Int) == 1 && (sIx items.size items.size hi - sIx items.size 0 lo) == items.size)=true then _ else _) _ _ s
  rw [if_neg hno,pick_gen]
  first
    | exact wpAny_bind (m:=Builtin.Tuple.tupleExact _) (wpAny_newObj_type (wpAny_pure ⟨_,rfl,wpAny_pure h⟩) htake)
    | exact wpAny_bind (m:=Builtin.Tuple.tupleExact _) (wpAny_newObj_type (wpAny_bind (wpAny_pure (wpAny_pure ⟨_,rfl,wpAny_pure h⟩))) htake)
    | exact wpAny_bind (wpAny_bind (m:=Builtin.Tuple.tupleExact _) (wpAny_newObj_type (wpAny_pure (wpAny_pure ⟨_,rfl,wpAny_pure h⟩)) htake))
    | exact wpAny_bind (wpAny_bind (m:=Builtin.Tuple.tupleExact _) (wpAny_newObj_type (wpAny_pure ⟨_,rfl,wpAny_pure h⟩) htake))
end
end HT
namespace L2
open PySem PySem.Spec PyProof.Rows
abbrev TO:=St→Hp→(Option Int→Hp→Prop)→Prop
def PO (X:Cx) (e:Option Expr) (t:TO):Prop:=
  ∀ (pins:List (Addr × Obj)) (s:Shared) (σ:St) (H:Hp) (Q:Option Int→Hp→Prop),Inv X pins σ H s→t σ H Q →
    wpAny (model X.prog X.w) X.A (evalPart e X.env) (fun u s'=>∃ o H',Inv X pins σ H' s'∧IsPart u o∧Q o H') X.xe s
def tNoPart:TO:=fun _ H Q=>Q none H
def tPart (t:TE):TO:=fun σ H Q=>t σ H fun x H1=>∃ i,x=.int i∧Q (some i) H1
section
variable {X:Cx} {e:Expr} {te:TE} {lo hi:Option Expr} {tl th:TO} {pos p2:Pos}
theorem po_none:PO X none tNoPart:=by
  intro pins s σ H Q I h
  rw [evalPart_none]
  exact wpAny_pure ⟨none,H,I,.none,h⟩
theorem po_some (h:PE X e te):PO X (some e) (tPart te):=by
  intro pins s σ H Q I hw
  rw [evalPart_some]
  refine thn (h pins s σ H _ I hw) fun u s1 ⟨x,H1,I1,r1,q1⟩=>?_
  obtain ⟨i,rfl,q⟩:=q1
  obtain ⟨t,rfl⟩:=r1
  exact ⟨some i,H1,I1,.int i t,q⟩
def SlR (X:Cx) (r:V→Option Int→Option Int→Hp→VK→Prop):Prop:=
  ∀ (pins:List (Addr × Obj)) (s:Shared) (σ:St) (H:Hp) (x:V) (v vl vu:Value) (lo hi:Option Int) (sl:Addr) (Q:VK),Inv X pins σ H s→RelV x v→s.heap.IsSliceOf sl vl vu .none→IsPart vl lo→IsPart vu hi→r x lo hi H Q →
    ∃ T id,typeLookup (.type T) "__getitem__"=pure (some (.builtin id))∧s.TypeIs v T∧wpAny (model X.prog X.w) X.A (getItem v (.ref sl)) (EP X pins σ Q) X.xe s
def tSl (r:V→Option Int→Option Int→Hp→VK→Prop) (te:TE) (tl th:TO):TE:=fun σ H Q=>te σ H fun x H1=>tl σ H1 fun l H2=>th σ H2 fun u H3=>r x l u H3 Q
theorem pe_slice {r:V→Option Int→Option Int→Hp→VK→Prop} (hr:SlR X r) (he:PE X e te) (hl:PO X lo tl) (hu:PO X hi th):PE X (.Subscript e (.Slice lo hi none p2) pos) (tSl r te tl th):=by
  intro pins s σ H Q I h
  refine Subscript_ (thn (he pins s σ H _ I h) fun v s1 ⟨x,H1,I1,r1,q1⟩=>?_)
  refine wpAny_Slice (thn (hl pins s1 σ H1 _ I1 q1) fun vl s2 ⟨l,H2,I2,pl,q2⟩=>thn (hu pins s2 σ H2 _ I2 q2) fun vu s3 ⟨u,H3,I3,pu,q3⟩=>?_)
  rw [evalPart_none]
  refine wpAny_pure ?_
  have I4:Inv X pins σ H3 { s3 with heap:=s3.heap.push { cls:=.type "slice", data:=.fields #[vl,vu,.none] } }:=I3.kept (t':=s3.toks) fun b ob q=>Heap.get?_push_of_some _ q
  obtain ⟨T,id,hT,ht,hg⟩:=hr pins { s3 with heap:=s3.heap.push { cls:=.type "slice", data:=.fields #[vl,vu,.none] } } σ H3 x v vl vu l u s3.heap.objs.size Q I4 r1 (Heap.IsSliceOf.new ..) pl pu q3
  show wpAny (model X.prog X.w) X.A (subscriptTail e (.Slice lo hi none p2) v (.ref s3.heap.objs.size)) (EP X pins σ Q) X.xe { s3 with heap:=s3.heap.push { cls:=.type "slice", data:=.fields #[vl,vu,.none] } }
  exact tail_any (ops:=[.ref s3.heap.objs.size,v]) ht hT hg (by with_unfolding_all rfl)
def cutV (xs:List V) (lo hi:Option Int):List V:=(xs.drop (HT.sIx xs.length 0 lo)).take (HT.sIx xs.length xs.length hi - HT.sIx xs.length 0 lo)
theorem cutV_length (xs:List V) (lo hi:Option Int):(cutV xs lo hi).length≤xs.length:=by
  unfold cutV
  rw [List.length_take,List.length_drop]
  omega
def rSlT (K:PySem.W.Frag):V→Option Int→Option Int→Hp→VK→Prop:=fun x lo hi H Q=>∃ a xs,x=.ref a∧SqT K H a xs ∧
  ¬ (HT.sIx xs.length 0 lo=0∧HT.sIx xs.length xs.length hi=xs.length)∧∀ p,H p=none→Q (.ref p) (upd H p (.tup (cutV xs lo hi)))
theorem sl_tup:SlR X (rSlT X.K):=by
  intro pins s σ H x v vl vu lo hi sl Q I rx hs pl pu h
  obtain ⟨a,xs,rfl,hx,hw,q⟩:=h
  cases rx
  obtain ⟨its,r,ht,hz⟩:=I.tuple hx
  have hlen:its.toArray.size=xs.length:=by rw [List.size_toArray]; exact r.length.symm
  refine ⟨"tuple", _,PyProof.Rows.slot_tuple_getitem.lookup,ht.typeIs,?_⟩
  refine HT.getItem_tuple_cut ht hs pl pu (by rw [hlen]; exact hw) ?_ (by rw [hlen]; exact hz)
  rw [hlen]
  refine ⟨.ref s.heap.objs.size,_,I.laid (t':=s.toks) (o:=.tup (cutV xs lo hi)) (fun b ob q=>Heap.get?_push_of_some _ q) (Nat.le_refl _) ?_,rfl,q _ (I.hok.fresh (Nat.le_refl _))⟩
  exact ⟨Nat.le_trans (cutV_length xs lo hi) hz,_,(r.drop (HT.sIx xs.length 0 lo)).take (HT.sIx xs.length xs.length hi - HT.sIx xs.length 0 lo),IsTup.new _ _⟩
def rCatT (K:PySem.W.Frag):R2:=fun x y H Q=>∃ a b xs ys,x=.ref a∧y=.ref b∧SqT K H a xs∧SqT K H b ys∧xs≠[]∧xs.length+ys.length≤sizeLine ∧
  (ys=[]→Q (.ref a) H)∧(ys≠[]→∀ p,H p=none→Q (.ref p) (upd H p (.tup (xs++ys))))
theorem Vals.nil_iff {xs:List V} {us:List Value} (r:Vals xs us):us=[]↔xs=[]:=by
  cases r with
  | nil=>simp
  | cons _ _=>simp
theorem op_catT:OpR X (binaryOp .Add) (rCatT X.K):=by
  intro pins s σ H x y v u Q I rx ry h
  obtain ⟨a,b,xs,ys,rfl,rfl,ha,hb,hx,hz,q1,q2⟩:=h
  cases rx
  cases ry
  obtain ⟨its,r1,p1,_⟩:=I.tuple ha
  obtain ⟨its2,r2,p2,_⟩:=I.tuple hb
  refine HT.cat_tup p1 p2 (fun z=>hx (r1.nil_iff.mp z)) (fun z=>⟨.ref a,H,I,rfl,q1 (r2.nil_iff.mp z)⟩) (fun z=>?_) (by rw [← r1.length,← r2.length]; exact hz)
  refine ⟨.ref s.heap.objs.size,_,I.laid (t':=s.toks) (o:=.tup (xs++ys)) (fun b ob q=>Heap.get?_push_of_some _ q) (Nat.le_refl _) ?_,rfl,q2 (fun w=>z (r2.nil_iff.mpr w)) _ (I.hok.fresh (Nat.le_refl _))⟩
  exact ⟨by rw [List.length_append]; exact hz,_,r1.append r2,IsTup.new _ _⟩
end
def ixN (n:Nat) (i:Int):Option Nat:=if 0≤i then (if i<n then some i.toNat else none) else if -(n:Int)≤i then some (i+n).toNat else none
def atI {α:Type} (xs:List α) (i:Int):Option α:=(ixN xs.length i).bind fun j=>xs[j]?
theorem ixN_seq {n:Nat} {i:Int} {j:Nat} (h:ixN n i=some j):seqIndex? i n=some j∧j<n ∧ -(n:Int)≤i∧i<n:=by
  unfold ixN at h
  by_cases h0:0≤i
  · rw [if_pos h0] at h
    by_cases h1:i<n
    · rw [if_pos h1] at h
      have e:i.toNat=j:=Option.some.inj h
      exact ⟨by rw [seqIndex_of h0 h1,e],by omega,by omega,h1⟩
    · rw [if_neg h1] at h; cases h
  · rw [if_neg h0] at h
    by_cases h1 : -(n:Int)≤i
    · rw [if_pos h1] at h
      have e:(i+n).toNat=j:=Option.some.inj h
      exact ⟨by rw [seqIndex_neg (by omega) h1,e],by omega,h1,by omega⟩
    · rw [if_neg h1] at h; cases h
theorem atI_get {α:Type} {xs:List α} {i:Int} {v:α} (h:atI xs i=some v):∃ j,seqIndex? i xs.length=some j∧xs[j]?=some v∧j<xs.length ∧ -(xs.length:Int)≤i∧i<xs.length:=by
  unfold atI at h
  cases e:ixN xs.length i with
  | none=>rw [e] at h; cases h
  | some j=>
    rw [e] at h
    obtain ⟨h1,h2,h3,h4⟩:=ixN_seq e
    exact ⟨j,h1,h,h2,h3,h4⟩
def PlainIx (b:Expr):Prop:=∀ o i,subscripted b false o i=operate [o,i] (getItem o i)
def IxR (X:Cx) (r:R2):Prop:=
  ∀ (value slice:Expr) (pins:List (Addr × Obj)) (s:Shared) (σ:St) (H:Hp) (x y:V) (v u:Value) (Q:VK),Inv X pins σ H s→RelV x v→RelV y u→r x y H Q →
    subscripted slice false v u=operate [v,u] (getItem v u)→wpAny (model X.prog X.w) X.A (subscriptTail value slice v u) (EP X pins σ Q) X.xe s
def MtR (X:Cx) (id:String) (r:V→List V→Hp→VK→Prop):Prop:=
  ∀ (pins:List (Addr × Obj)) (s:Shared) (σ:St) (H:Hp) (x:V) (xs:List V) (v:Value) (us:List Value) (Q:VK),Inv X pins σ H s→RelV x v→Vals xs us→r x xs H Q →
    wpAny (model X.prog X.w) X.A (call (.builtin id) (v::us)) (EP X pins σ Q) X.xe s
section
variable {X:Cx} {a b:Expr} {ta tb:TE} {pos:Pos}
theorem pe_ix {r:R2} (hr:IxR X r) (ha:PE X a ta) (hb:PE X b tb) (hs:PlainIx b):PE X (.Subscript a b pos) (tOp r ta tb):=by
  intro pins s σ H Q I h
  exact Subscript_ (binT ha hb I h fun v u s2 x y H2 I2 rx ry q=>hr a b pins s2 σ H2 x y v u Q I2 rx ry q (hs _ _))
def rIxL (K:PySem.W.Frag):R2:=fun x y H Q=>∃ p xs i v,x=.ref p∧y=.int i∧SqL K H p xs∧atI xs i=some v∧Q v H
def rIxT (K:PySem.W.Frag):R2:=fun x y H Q=>∃ p xs i v,x=.ref p∧y=.int i∧SqT K H p xs∧atI xs i=some v∧Q v H
def rIxS:R2:=fun x y H Q=>∃ z i c,x=.str z∧y=.int i∧z.length≤sizeLine∧atI z.cps.toList i=some c∧Q (.str ⟨#[c]⟩) H
theorem ix_list:IxR X (rIxL X.K):=by
  intro value slice pins s σ H x y v u Q I rx ry h hs
  obtain ⟨p,xs,i,z,rfl,rfl,hq,he,q⟩:=h
  cases rx
  obtain ⟨t,rfl⟩:=ry
  obtain ⟨its,r,pl,hz⟩:=I.list hq
  obtain ⟨j,h1,h2,h3,h4,h5⟩:=atI_get he
  obtain ⟨w,ew,rw'⟩:=r.get h2
  have hl:=r.length
  have hn:=line63
  have fin:EP X pins σ Q w s:=⟨z,H,I,rw',q⟩
  by_cases h0:0≤i
  · have hj:i.toNat=j:=by
      rw [seqIndex_of h0 h5] at h1
      exact Option.some.inj h1
    exact item_listR pl.isList h0 (by omega) (by rw [hj]; simpa using ew) fin hs
  · have hj:(i+(its.toArray.size:Int)).toNat=j:=by
      rw [seqIndex_neg (by omega) h4] at h1
      rw [List.size_toArray,← hl]
      exact Option.some.inj h1
    exact subscriptTail_builtinR (x:=w) pl.isList.typeIs slot_list_getitem.lookup
      (wpAny_getItem_list_neg (Q:=fun r s'=>r=w∧EP X pins σ Q r s') pl.isList (by omega) (by rw [List.size_toArray] <;> omega) (by omega) (by rw [hj]; simpa using ew) ⟨rfl,fin⟩) hs
theorem ix_tup:IxR X (rIxT X.K):=by
  intro value slice pins s σ H x y v u Q I rx ry h hs
  obtain ⟨p,xs,i,z,rfl,rfl,hq,he,q⟩:=h
  cases rx
  obtain ⟨t,rfl⟩:=ry
  obtain ⟨its,r,pl,hz⟩:=I.tuple hq
  obtain ⟨j,h1,h2,h3,h4,h5⟩:=atI_get he
  obtain ⟨w,ew,rw'⟩:=r.get h2
  have hl:=r.length
  have hn:=line63
  have fin:EP X pins σ Q w s:=⟨z,H,I,rw',q⟩
  exact subscriptTail_builtinR (x:=w) pl.typeIs slot_tuple_getitem.lookup
    (getItem_tuple (j:=j) (Q:=fun r s'=>r=w∧EP X pins σ Q r s') pl (by omega) (by omega) (by rw [List.size_toArray,← hl]; exact h1) (by simpa using ew) ⟨rfl,fin⟩) hs
theorem ix_str:IxR X rIxS:=by
  intro value slice pins s σ H x y v u Q I rx ry h hs
  obtain ⟨z,i,c,rfl,rfl,hz,he,q⟩:=h
  obtain ⟨t,rfl⟩:=rx
  obtain ⟨t',rfl⟩:=ry
  obtain ⟨j,h1,h2,h3,h4,h5⟩:=atI_get he
  have hl:z.cps.toList.length=z.length:=by simp [Str.length]
  rw [hl] at h1 h4 h5
  have hn:=line63
  exact tail_any (typeIs_str s z t) slot_str_getitem.lookup (getItem_str (c:=c) (by
    have e1:decide (i < -(2 ^ 63:Int))=false:=decide_eq_false (by omega)
    have e2:decide (i ≥ 2 ^ 63)=false:=decide_eq_false (by omega)
    rw [e1,e2,Bool.or_false]) (by rw [h1]; simpa using h2) ⟨.str ⟨#[c]⟩,H,I.tok _,⟨_,rfl⟩,q⟩) hs
theorem mapSeq_set (its:List Value) (n j:Nat) (u:Value):Obj.mapSeq (·.setIfInBounds j u) { cls:=.type "list", data:=.seq its.toArray n }={ cls:=.type "list", data:=.seq (its.set j u).toArray n }:=by
  simp [Obj.mapSeq]
theorem Inv.lst {pins:List (Addr × Obj)} {σ:St} {H:Hp} {s:Shared} {p:Addr} {xs:List V} (I:Inv X pins σ H s) (h:H p=some (.lst xs)) :
    ∃ (its:List Value) (n:Nat),Vals xs its∧s.heap.get? p=some { cls:=.type "list", data:=.seq its.toArray n }∧xs.length≤sizeLine:=by
  obtain ⟨z,its,n,r,e⟩:=I.hok p _ h
  exact ⟨its,n,r,e,z⟩
theorem Inv.lstUpd {pins:List (Addr × Obj)} {σ:St} {H:Hp} {s:Shared} {p:Addr} {xs ys:List V} {its its':List Value} {n n':Nat} {f:Obj→Obj} (I:Inv X pins σ H s) (h:H p=some (.lst xs))
    (ho:s.heap.get? p=some { cls:=.type "list", data:=.seq its.toArray n }) (hf:f { cls:=.type "list", data:=.seq its.toArray n }={ cls:=.type "list", data:=.seq its'.toArray n' }) (r:Vals ys its') (hz:ys.length≤sizeLine) (t:Nat) :
    Inv X pins σ (upd H p (.lst ys)) { s with heap:=s.heap.update p f,toks:=t }:=by
  have e:(s.heap.update p f).get? p=some { cls:=.type "list", data:=.seq its'.toArray n' }:=by
    rw [Heap.get?_update_self f ho (by rw [hf] <;> rfl),hf]
  refine I.write (x:=p) (e:=p) (by rw [h]; trivial) (.inl rfl) (fun b u hb q=>(Heap.get?_update_other _ _ (Ne.symm hb)).trans q) ⟨_,e⟩ ?_
  exact ⟨hz,its',n',r,e⟩
def rSetL:V→V→V→Hp→(Hp→Prop)→Prop:=fun o i v H Q=>∃ p xs k j,o=.ref p∧i=.int k∧H p=some (.lst xs)∧ixN xs.length k=some j∧Q (upd H p (.lst (xs.set j v)))
theorem set_list:PSet X rSetL:=by
  intro pins s σ H o i v ov iv u Q I ro ri rv h
  obtain ⟨p,xs,k,j,rfl,rfl,hp,hj,q⟩:=h
  cases ro
  obtain ⟨t,rfl⟩:=ri
  obtain ⟨its,n,r,ho,hz⟩:=I.lst hp
  obtain ⟨h1,h2,h3,h4⟩:=ixN_seq hj
  have hl:=r.length
  have hn:=line63
  have I':Inv X pins σ (upd H p (.lst (xs.set j v))) { s with heap:=s.heap.update p (Obj.mapSeq (·.setIfInBounds j u)) }:=
    I.lstUpd hp ho (mapSeq_set its n j u) (r.set rv j) (by rw [List.length_set]; exact hz) s.toks
  by_cases h0:0≤k
  · have hk:k.toNat=j:=by
      rw [seqIndex_of h0 h4] at h1
      exact Option.some.inj h1
    exact PySem.W.ki_setAt ho h0 (by omega) (by rw [List.size_toArray,← hl]; exact h4) (by rw [hk]; exact ⟨_,I',q⟩)
  · have hk:(k+(its.toArray.size:Int)).toNat=j:=by
      rw [seqIndex_neg (by omega) h3] at h1
      rw [List.size_toArray,← hl]
      exact Option.some.inj h1
    exact PySem.W.ki_setBack ho (by omega) (by rw [List.size_toArray,← hl]; exact h3) (by omega) (by rw [hk]; exact ⟨_,I',q⟩)
theorem slice_bounds (lo hi:Option Int) (n:Nat):(sliceBounds lo hi none n).1=((HT.sIx n 0 lo:Nat):Int)∧(sliceBounds lo hi none n).2.1=((HT.sIx n n hi:Nat):Int)∧(sliceBounds lo hi none n).2.2=1:=by
  refine ⟨?_,?_,rfl⟩
  · cases lo with
    | none=>simp [sliceBounds,HT.sIx]
    | some i=>
      simp only [sliceBounds,HT.sIx,Option.getD_none,show (1:Int) > 0 by decide,if_true]
      by_cases h:i<0
      · simp only [h,if_true] <;> omega
      · simp only [h,if_false] <;> omega
  · cases hi with
    | none=>simp [sliceBounds,HT.sIx]
    | some i=>
      simp only [sliceBounds,HT.sIx,Option.getD_none,show (1:Int) > 0 by decide,if_true]
      by_cases h:i<0
      · simp only [h,if_true] <;> omega
      · simp only [h,if_false] <;> omega
theorem slicePick_cut (its:List Value) (lo hi:Option Int):slicePick its.toArray lo hi none=((its.drop (HT.sIx its.length 0 lo)).take (HT.sIx its.length its.length hi - HT.sIx its.length 0 lo)).toArray:=by
  obtain ⟨h1,h2,h3⟩:=slice_bounds lo hi its.toArray.size
  unfold slicePick
  rw [h1,h2,h3]
  simp only [sliceRange_one,pick_run,List.size_toArray] <;> rfl
def rSlL (K:PySem.W.Frag):V→Option Int→Option Int→Hp→VK→Prop:=fun x lo hi H Q=>∃ a xs,x=.ref a∧SqL K H a xs∧∀ p,H p=none→Q (.ref p) (upd H p (.lst (cutV xs lo hi)))
theorem sl_list:SlR X (rSlL X.K):=by
  intro pins s σ H x v vl vu lo hi sl Q I rx hs pl pu h
  obtain ⟨a,xs,rfl,hx,q⟩:=h
  cases rx
  obtain ⟨its,r,ht,hz⟩:=I.list hx
  have hlen:=r.length
  refine ⟨"list", _,slot_list_getitem.lookup,ht.isList.typeIs,?_⟩
  refine wpAny_getItem_list_slice ht.isList hs pl pu .none (by simp) ?_ (by rw [List.size_toArray] <;> omega)
  rw [slicePick_cut,← hlen]
  refine ⟨.ref s.heap.objs.size,_,I.laid (t':=s.toks) (o:=.lst (cutV xs lo hi)) (fun b ob q=>Heap.get?_push_of_some _ q) (Nat.le_refl _) ?_,rfl,q _ (I.hok.fresh (Nat.le_refl _))⟩
  exact ⟨Nat.le_trans (cutV_length xs lo hi) hz,_,0,(r.drop (HT.sIx xs.length 0 lo)).take (HT.sIx xs.length xs.length hi - HT.sIx xs.length 0 lo),Heap.get?_push_size _ rfl⟩
def flatV:V→Bool
  | .non=>true
  | .bl _=>true
  | .int _=>true
  | .str _=>true
  | _=>false
def eqV:V→V→Bool
  | .non,.non=>true
  | .bl a,.bl b=>a == b
  | .bl a,.int b=>(if a then 1 else 0) == b
  | .int a,.bl b=>a == (if b then 1 else 0)
  | .int a,.int b=>a == b
  | .str a,.str b=>a == b
  | _,_=>false
theorem eqAt_V {A:Around} {s:Shared} {y x:V} {u v:Value} (ry:RelV y u) (rx:RelV x v) (fy:flatV y=true) (fx:flatV x=true):SeqAt.EqAt A s u v (eqV y x):=by
  cases y with
  | non=>
    cases ry
    cases x with
    | non=>cases rx; exact SeqAt.EqAt.same _
    | bl b=>cases rx; exact SeqAt.EqAt.none_bool b
    | int b=>obtain ⟨t,rfl⟩:=rx; exact SeqAt.EqAt.none_int b t
    | str b=>obtain ⟨t,rfl⟩:=rx; exact SeqAt.EqAt.none_str b t
    | _=>exact absurd (show false=true from fx) Bool.false_ne_true
  | bl a=>
    cases ry
    cases x with
    | non=>cases rx; exact SeqAt.EqAt.bool_none a
    | bl b=>cases rx; exact SeqAt.EqAt.bool_bool a b
    | int b=>obtain ⟨t,rfl⟩:=rx; exact SeqAt.EqAt.bool_int a b t
    | str b=>obtain ⟨t,rfl⟩:=rx; exact SeqAt.EqAt.bool_str a b t
    | _=>exact absurd (show false=true from fx) Bool.false_ne_true
  | int a=>
    obtain ⟨t',rfl⟩:=ry
    cases x with
    | non=>cases rx; exact SeqAt.EqAt.int_none a t'
    | bl b=>cases rx; exact SeqAt.EqAt.int_bool a t' b
    | int b=>obtain ⟨t,rfl⟩:=rx; exact SeqAt.EqAt.int_int a t' b t
    | str b=>obtain ⟨t,rfl⟩:=rx; exact SeqAt.EqAt.int_str a t' b t
    | _=>exact absurd (show false=true from fx) Bool.false_ne_true
  | str a=>
    obtain ⟨t',rfl⟩:=ry
    cases x with
    | non=>cases rx; exact SeqAt.EqAt.str_none a t'
    | bl b=>cases rx; exact SeqAt.EqAt.str_bool a t' b
    | int b=>obtain ⟨t,rfl⟩:=rx; exact SeqAt.EqAt.str_int a t' b t
    | str b=>obtain ⟨t,rfl⟩:=rx; exact SeqAt.EqAt.str_str a t' b t
    | _=>exact absurd (show false=true from fx) Bool.false_ne_true
  | _=>exact absurd (show false=true from fy) Bool.false_ne_true
def eqU (x:V) (u:Value):Bool:=match u with
  | .none=>eqV .non x
  | .bool b=>eqV (.bl b) x
  | .int i _=>eqV (.int i) x
  | .str z _=>eqV (.str z) x
  | _=>false
theorem eqU_of {x y:V} {u:Value} (r:RelV y u) (f:flatV y=true):eqU x u=eqV y x:=by
  cases y with
  | non=>cases r; rfl
  | bl b=>cases r; rfl
  | int i=>obtain ⟨t,rfl⟩:=r; rfl
  | str z=>obtain ⟨t,rfl⟩:=r; rfl
  | _=>exact absurd (show false=true from f) Bool.false_ne_true
theorem any_eqU {x:V}:∀ {xs:List V} {us:List Value},Vals xs us→xs.all flatV=true→us.any (eqU x)=xs.any fun y=>eqV y x
  | _,_,.nil,_=>rfl
  | y::xs,u::us,.cons r t,f=>by
    rw [List.all_cons,Bool.and_eq_true] at f
    rw [List.any_cons,List.any_cons,eqU_of r f.1,any_eqU t f.2]
theorem mem_eqAt {A:Around} {s:Shared} {x:V} {v:Value} (rx:RelV x v) (fx:flatV x=true):∀ {xs:List V} {us:List Value},Vals xs us→xs.all flatV=true→∀ u∈us,SeqAt.EqAt A s u v (eqU x u)
  | _,_,.nil,_=>fun u hu=>by cases hu
  | y::xs,u::us,.cons r t,f=>fun u' hu=>by
    rw [List.all_cons,Bool.and_eq_true] at f
    rcases List.mem_cons.mp hu with rfl|hu
    · rw [eqU_of r f.1]; exact eqAt_V r rx f.1 fx
    · exact mem_eqAt rx fx t f.2 u' hu
def inV (x:V) (xs:List V):Bool:=xs.any fun y=>eqV y x
def rIn (K:PySem.W.Frag) (neg:Bool):R2:=fun x y H Q=>∃ p xs,y=.ref p∧(SqL K H p xs∨SqT K H p xs)∧flatV x=true∧xs.all flatV=true∧Q (.bl (if neg then !inV x xs else inV x xs)) H
theorem op_notIn_seq:OpR X (compareOp .NotIn) (rIn X.K true):=by
  intro pins s σ H x y v u Q I rx ry h
  obtain ⟨p,xs,rfl,hq,fx,fs,q⟩:=h
  cases ry
  rcases hq with hq|hq
  · obtain ⟨its,r,pl,hz⟩:=I.list hq
    refine SeqAt.notIn_listAt (eqU x) pl.isList (fun w hw=>mem_eqAt rx fx r fs w (by simpa using hw)) ⟨.bl _,H,I,rfl,?_⟩
    rw [show its.toArray.any (eqU x)=its.any (eqU x) by simp,any_eqU r fs]
    exact q
  · obtain ⟨its,r,pl,hz⟩:=I.tuple hq
    refine SeqAt.notIn_tupleAt (eqU x) pl (fun w hw=>mem_eqAt rx fx r fs w (by simpa using hw)) ⟨.bl _,H,I,rfl,?_⟩
    rw [show its.toArray.any (eqU x)=its.any (eqU x) by simp,any_eqU r fs]
    exact q
theorem call_len_seq:CallR X (.builtin "len") (fun xs H Q=>∃ p ys,xs=[.ref p]∧(SqL X.K H p ys∨SqT X.K H p ys)∧Q (.int ys.length) H):=by
  intro pins s σ H xs us Q I r h
  obtain ⟨p,ys,rfl,hq,q⟩:=h
  obtain ⟨u,rfl,rx⟩:=vals1 r
  cases rx
  have hn:=line63
  rcases hq with hq|hq
  · obtain ⟨its,r',pl,hz⟩:=I.list hq
    have hlen:=r'.length
    exact Calls.call_len_list pl.isList (by simp only [List.size_toArray] <;> omega) ⟨.int ys.length,H,I.tok _,⟨s.toks+1,by rw [List.size_toArray,hlen]⟩,q⟩
  · obtain ⟨its,r',pl,hz⟩:=I.tuple hq
    have hlen:=r'.length
    exact len_tuple pl (by simp only [List.size_toArray] <;> omega) ⟨.int ys.length,H,I.tok _,⟨s.toks+1,by rw [List.size_toArray,hlen]⟩,q⟩
theorem call_len_str:CallR X (.builtin "len") (fun xs H Q=>∃ z,xs=[.str z]∧z.length≤sizeLine∧Q (.int z.length) H):=by
  intro pins s σ H xs us Q I r h
  obtain ⟨z,rfl,hz,q⟩:=h
  obtain ⟨u,rfl,t,rfl⟩:=vals1 r
  have hn:=line63
  exact len_str (by omega) ⟨.int z.length,H,I.tok _,⟨_,rfl⟩,q⟩
theorem call_list_of:CallR X (.type "list") (fun xs H Q=>∃ p ys,xs=[.ref p]∧(SqL X.K H p ys∨SqT X.K H p ys)∧∀ l,H l=none→Q (.ref l) (upd H l (.lst ys))):=by
  intro pins s σ H xs us Q I r h
  obtain ⟨p,ys,rfl,hq,q⟩:=h
  obtain ⟨u,rfl,rx⟩:=vals1 r
  cases rx
  have fin:∀ (its:List Value),Vals ys its→ys.length≤sizeLine→∀ (h':Heap) (c':Nat),(∀ b o',s.heap.get? b=some o'→h'.get? b=some o') →
      h'.get? s.heap.objs.size=some { cls:=.type "list", dict:=none,data:=.seq its.toArray c',slots:=#[] }→EP X pins σ Q (.ref s.heap.objs.size) { s with heap:=h' }:=fun its r' hz h' c' kp e=>
    ⟨.ref s.heap.objs.size,_,I.laid (t':=s.toks) kp (Nat.le_refl _) (show ObjOk X.prog X.w _ h' _ (.lst ys) from ⟨hz,its,c',r',e⟩),rfl,q _ (I.hok.fresh (Nat.le_refl _))⟩
  rcases hq with hq|hq
  · obtain ⟨its,r',pl,hz⟩:=I.list hq
    have hlen:=r'.length
    obtain ⟨o,ho,hc,n,hd⟩:=pl.isList
    exact call_list_seq p (.inl rfl) ho hc hd (fun h' c' kp e=>fin its r' hz h' c' kp e) (by simp only [List.size_toArray] <;> omega)
  · obtain ⟨its,r',pl,hz⟩:=I.tuple hq
    have hlen:=r'.length
    obtain ⟨o,ho,hc,n,hd⟩:=pl
    exact call_list_seq p (.inr rfl) ho hc hd (fun h' c' kp e=>fin its r' hz h' c' kp e) (by simp only [List.size_toArray] <;> omega)
theorem call_tuple_of:CallR X (.type "tuple") (fun xs H Q=>∃ p ys,xs=[.ref p]∧((SqL X.K H p ys∧∀ l,H l=none→Q (.ref l) (upd H l (.tup ys)))∨(SqT X.K H p ys∧Q (.ref p) H))):=by
  intro pins s σ H xs us Q I r h
  obtain ⟨p,ys,rfl,h⟩:=h
  obtain ⟨u,rfl,rx⟩:=vals1 r
  cases rx
  rcases h with ⟨hq,q⟩|⟨hq,q⟩
  · obtain ⟨its,r',pl,hz⟩:=I.list hq
    have hlen:=r'.length
    refine call_tuple_list pl.isList (fun h' kp=>?_) (by simp only [List.size_toArray] <;> omega)
    have I1:Inv X pins σ H { s with heap:=h' }:=I.kept (t':=s.toks) kp
    have I2:Inv X pins σ (upd H h'.objs.size (.tup ys)) { s with heap:=h'.push { cls:=.type "tuple", data:=.seq its.toArray } }:=
      I1.laid (t':=s.toks) (fun b o e=>Heap.get?_push_of_some _ e) (Nat.le_refl _) (show ObjOk X.prog X.w _ _ _ (.tup ys) from ⟨hz,its,r',IsTup.new _ _⟩)
    exact ⟨.ref h'.objs.size,_,I2,rfl,q _ (I1.hok.fresh (Nat.le_refl _))⟩
  · obtain ⟨its,r',pl,hz⟩:=I.tuple hq
    exact call_tuple_same pl ⟨.ref p,H,I,rfl,q⟩
def tyV (K:PySem.W.Frag) (T:String) (x:V) (H:Hp):Prop:=match x with
  | .str _=>T="str"
  | .int _=>T="int"
  | .ref p=>(T="list"∧∃ xs,SqL K H p xs)∨(T="tuple"∧∃ o,K.lookup p=some o∧o.cls=.type "tuple"∧o.dict=none) ∨
      (T="dict"∧((∃ kvs,H p=some (.dK kvs))∨∃ kvs,H p=some (.dT kvs)))∨(T="set"∧∃ S n,H p=some (.set S n))
  | _=>False
theorem tyV_is {pins:List (Addr × Obj)} {σ:St} {H:Hp} {s:Shared} {T:String} {x:V} {v:Value} (I:Inv X pins σ H s) (r:RelV x v) (ty:tyV X.K T x H) :
    s.TypeIs v T∧∀ a,v=.ref a→∃ ob,s.heap.get? a=some ob∧ob.dict=none:=by
  cases x with
  | str z=>
    obtain ⟨t,rfl⟩:=r
    cases (show T="str" from ty)
    exact ⟨typeIs_str s z t,fun _ e=>nomatch e⟩
  | int i=>
    obtain ⟨t,rfl⟩:=r
    cases (show T="int" from ty)
    exact ⟨typeIs_int s i t,fun _ e=>nomatch e⟩
  | ref p=>
    cases r
    rcases ty with ⟨rfl,xs,hq⟩|⟨rfl,o,hk,hc,hd⟩|⟨rfl,hk⟩|⟨rfl,S,n,hk⟩
    · obtain ⟨its,_,pl,_⟩:=I.list hq
      refine ⟨pl.isList.typeIs,fun a e=>?_⟩
      cases e
      obtain ⟨o,n,e,c,hd,_⟩:=pl
      exact ⟨o,e,hd⟩
    · refine ⟨⟨o,I.kIn p o hk,hc⟩,fun a e=>?_⟩
      cases e
      exact ⟨o,I.kIn _ o hk,hd⟩
    · have z:∃ o,s.heap.get? p=some o∧o.ExactDict:=by
        rcases hk with ⟨kvs,hk⟩|⟨kvs,hk⟩
        · obtain ⟨_,_,_,_,o,_,_,e,ex,_⟩:=I.hok p _ hk
          exact ⟨o,e,ex⟩
        · obtain ⟨_,_,_,_,o,_,_,e,ex,_⟩:=I.hok p _ hk
          exact ⟨o,e,ex⟩
      obtain ⟨o,e,ex⟩:=z
      refine ⟨⟨o,e,ex.1⟩,fun a e2=>?_⟩
      cases e2
      exact ⟨o,e,ex.2.1⟩
    · obtain ⟨o,_,_,_,e,ex,_⟩:=I.hok p _ hk
      refine ⟨⟨o,e,ex.1⟩,fun a e2=>?_⟩
      cases e2
      exact ⟨o,e,ex.2.1⟩
  | _=>exact False.elim ty
variable {o e:Expr} {es:List Expr} {to:TE} {t:TA} {name:Str} {apos cpos:Pos} {T id:String} {r:V→List V→Hp→VK→Prop}
end
def MtM (X:Cx) (id:String) (r:V→List V→Hp→VK→Prop):Prop:=
  ∀ (pins:List (Addr × Obj)) (s:Shared) (σ:St) (H:Hp) (x:V) (xs:List V) (v:Value) (us:List Value) (Q:VK),Inv X pins σ H s→RelV x v→Vals xs us→r x xs H Q →
    wpAny (model X.prog X.w) X.A (call (.builtin id) (v::us)) (EP X pins σ Q) X.xe s
theorem Vals.one:∀ {x:V} {us:List Value},Vals [x] us→∃ u,us=[u]∧RelV x u
  | _,_,.cons r .nil=>⟨_,rfl,r⟩
theorem Vals.rep {xs:List V} {us:List Value} (h:Vals xs us):∀ k:Nat,Vals (List.replicate k xs).flatten (List.replicate k us).flatten
  | 0=>.nil
  | k+1=>by
    rw [List.replicate_succ,List.replicate_succ,List.flatten_cons,List.flatten_cons]
    exact Vals.append h (Vals.rep h k)
theorem foldl_rep (its:List Value):∀ (k:Nat) (acc:List Value),
    List.foldl (fun x1 x2=>x1++x2) acc.toArray (List.replicate k its.toArray)=(acc++(List.replicate k its).flatten).toArray
  | 0,acc=>by simp
  | k+1,acc=>by
    have e:acc.toArray++its.toArray=(acc++its).toArray:=by simp
    have e2:(acc++its)++(List.replicate k its).flatten=acc++(List.replicate (k+1) its).flatten:=by
      rw [List.replicate_succ,List.flatten_cons,List.append_assoc]
    rw [← e2,← foldl_rep its k (acc++its),← e,List.replicate_succ,List.foldl_cons]
section
variable {X:Cx} {pins:List (Addr × Obj)} {σ:St} {H:Hp} {s:Shared} {l b:Addr} {xs ys zs:List V}
theorem Inv.lset {its its':List Value} {n:Nat} {f:Array Value→Array Value} {t':Nat} (I:Inv X pins σ H s) (hH:H l=some (.lst xs))
    (e:s.heap.get? l=some { cls:=.type "list", data:=.seq its.toArray n }) (hf:f its.toArray=its'.toArray) (hv:Vals ys its') (hz:ys.length≤sizeLine) :
    Inv X pins σ (upd H l (.lst ys)) { s with heap:=s.heap.update l (Obj.mapSeq f),toks:=t' }:=by
  have q:=PySem.IsL.update e f
  rw [hf] at q
  refine I.write (x:=l) (e:=l) (by rw [hH]; exact trivial) (.inl rfl) (fun b' u hb hu=>(Heap.get?_update_other s.heap (Obj.mapSeq f) (Ne.symm hb)).trans hu) ⟨_,q⟩ ?_
  exact ⟨hz,its',_,hv,q⟩
theorem Inv.lnew {its:List Value} {t':Nat} (I:Inv X pins σ H s) (hv:Vals ys its) (hz:ys.length≤sizeLine) :
    Inv X pins σ (upd H s.heap.objs.size (.lst ys)) { s with heap:=s.heap.push { cls:=.type "list", data:=.seq its.toArray },toks:=t' }:=
  I.laid (fun _ _ q=>Heap.get?_push_of_some _ q) (Nat.le_refl _) ⟨hz,its,0,hv,Heap.get?_push_size _ rfl⟩
theorem Inv.fresh (I:Inv X pins σ H s):H s.heap.objs.size=none:=I.hok.fresh (Nat.le_refl _)
theorem Inv.lstM (I:Inv X pins σ H s) (hH:H l=some (.lst xs)):xs.length≤sizeLine∧∃ (its:List Value) (n:Nat),Vals xs its∧xs.length=its.length∧s.heap.get? l=some { cls:=.type "list", data:=.seq its.toArray n }:=by
  obtain ⟨z,its,n,r,e⟩:=I.hok l _ hH
  exact ⟨z,its,n,r,r.length,e⟩
theorem notLongL {n:Nat} (h:n≤sizeLine):Builtin.List.listTooLong n=false:=by
  unfold Builtin.List.listTooLong
  exact decide_eq_false (by omega)
end
section
variable {X:Cx}
def rAppend:V→List V→Hp→VK→Prop:=fun x vs H Q=>∃ l xs y,x=.ref l∧vs=[y]∧H l=some (.lst xs)∧xs.length<sizeLine∧Q .non (upd H l (.lst (xs++[y])))
theorem mt_append:MtM X "list.append" rAppend:=by
  intro pins s σ H x vs v us Q I rx rv h
  obtain ⟨l,xs,y,rfl,rfl,hH,hz,q⟩:=h
  cases rx
  obtain ⟨u,rfl,ru⟩:=rv.one
  obtain ⟨z,its,n,r,hl,e⟩:=I.lstM hH
  refine call_meets F.slot_list_append ⟨_,e,rfl⟩ F.entry_list_append (F.args_list_append_2 _ _) (PySem.list_append l its.toArray n u (by rw [List.size_toArray]; omega)) ⟨e,?_⟩
  refine ⟨.non,_,I.lset (its':=its++[u]) hH e (by simp) (r.append (.cons ru .nil)) ?_,rfl,q⟩
  rw [List.length_append,List.length_singleton]
  omega
def rExtend:V→List V→Hp→VK→Prop:=fun x vs H Q=>∃ l b xs zs,x=.ref l∧vs=[.ref b]∧H l=some (.lst xs)∧H b=some (.lst zs)∧xs.length+zs.length≤sizeLine∧Q .non (upd H l (.lst (xs++zs)))
theorem mt_extend:MtM X "list.extend" rExtend:=by
  intro pins s σ H x vs v us Q I rx rv h
  obtain ⟨l,b,xs,zs,rfl,rfl,hH,hB,hz,q⟩:=h
  cases rx
  obtain ⟨u,rfl,ru⟩:=rv.one
  cases ru
  obtain ⟨z,its,n,r,hl,e⟩:=I.lstM hH
  obtain ⟨z2,its2,n2,r2,hl2,e2⟩:=I.lstM hB
  have hsz:its.toArray.size+its2.toArray.size≤sizeLine:=by rw [List.size_toArray,List.size_toArray]; omega
  have hlong:¬ (!its.toArray.isEmpty && Builtin.List.listTooLong (its.toArray.size+its2.toArray.size))=true:=by
    rw [notLongL hsz,Bool.and_false]
    exact Bool.false_ne_true
  refine call_meets F.slot_list_extend ⟨_,e,rfl⟩ F.entry_list_extend (F.args_list_extend_2 _ _)
    (AutoSeq1.list_extend_list_list_0 l its.toArray n b its2.toArray n2 hlong (by rw [List.size_toArray]; omega) (by omega)) ⟨e,e2,?_⟩
  refine ⟨.non,_,I.lset (its':=its++its2) hH e (by simp) (r.append r2) ?_,rfl,q⟩
  rw [List.length_append]
  omega
def rCat:R2:=fun x y H Q=>∃ l b xs zs,x=.ref l∧y=.ref b∧H l=some (.lst xs)∧H b=some (.lst zs)∧xs.length+zs.length≤sizeLine∧∀ p,H p=none→Q (.ref p) (upd H p (.lst (xs++zs)))
theorem op_cat:OpR X (binaryOp .Add) rCat:=by
  intro pins s σ H x y v u Q I rx ry h
  obtain ⟨l,b,xs,zs,rfl,rfl,hH,hB,hz,q⟩:=h
  cases rx
  cases ry
  obtain ⟨z,its,n,r,hl,e⟩:=I.lstM hH
  obtain ⟨z2,its2,n2,r2,hl2,e2⟩:=I.lstM hB
  refine PySem.P.add_list e e2 ?_ (by rw [List.size_toArray,List.size_toArray]; omega)
  have ea:its.toArray++its2.toArray=(its++its2).toArray:=by simp
  rw [ea]
  exact ⟨.ref _,_,I.lnew (t':=s.toks) (r.append r2) (by rw [List.length_append]; omega),rfl,q _ I.fresh⟩
def rRep:R2:=fun x y H Q=>∃ l k xs,x=.ref l∧y=.int k∧H l=some (.lst xs) ∧ -(2 ^ 63)≤k∧k<2 ^ 63∧xs.length * k.toNat≤sizeLine ∧
  ∀ p,H p=none→Q (.ref p) (upd H p (.lst (List.replicate k.toNat xs).flatten))
theorem len_rep {α:Type} (xs:List α) (k:Nat):(List.replicate k xs).flatten.length=k * xs.length:=by
  induction k with
  | zero=>simp
  | succ k ih=>rw [List.replicate_succ,List.flatten_cons,List.length_append,ih,Nat.succ_mul,Nat.add_comm]
theorem op_rep:OpR X (binaryOp .Mult) rRep:=by
  intro pins s σ H x y v u Q I rx ry h
  obtain ⟨l,k,xs,rfl,rfl,hH,h1,h2,hz,q⟩:=h
  cases rx
  obtain ⟨t,rfl⟩:=ry
  obtain ⟨z,its,n,r,hl,e⟩:=I.lstM hH
  have hlen:its.toArray.size * k.toNat≤sizeLine:=by rw [List.size_toArray,← hl]; exact hz
  have hcap:¬ its.toArray.size * k.toNat > (2 ^ 63 - 1) / 8:=by
    have:(sizeLine:Nat)≤(2 ^ 63 - 1) / 8:=by decide
    omega
  have hfit:¬ (!Builtin.List.listFitsIndex k)=true:=by
    rw [fitsIndex_both h1 h2]
    exact Bool.false_ne_true
  have hlong:¬ Builtin.List.listTooLong (its.toArray.size * k.toNat)=true:=by
    rw [notLongL hlen]
    exact Bool.false_ne_true
  have hnew:List.foldl (fun x1 x2=>x1++x2) #[] (List.replicate (if its.toArray.isEmpty=true then 0 else k.toNat) its.toArray)=(List.replicate k.toNat its).flatten.toArray:=by
    have f0:∀ m:Nat,List.foldl (fun x1 x2=>x1++x2) #[] (List.replicate m its.toArray)=(List.replicate m its).flatten.toArray:=fun m=>by
      have:=foldl_rep its m []
      rw [List.nil_append] at this
      exact this
    rw [f0]
    cases its with
    | nil=>simp
    | cons a r'=>rw [if_neg (by simp)]
  refine wpAny_binaryOp_repeat_ref (T:="list") (U:="int") (by decide) ⟨_,e,rfl⟩ (fun s'=>typeIs_int s' k t) noFill_list_mul F.fills_int_mul F.slot_int_rmul repeat_list F.slot_int_index.lookup
    (call_meets F.slot_int_rmul (typeIs_int s k t) F.entry_int_rmul (F.args_int_rmul_2 _ _) (int___rmul___int_list k t l its.toArray n)
      ⟨e,rfl,⟨_,e,rfl⟩,call_meets F.slot_list_mul ⟨_,e,rfl⟩ F.entry_list_mul (F.args_list_mul_2 _ _) (AutoListH.list___mul___list_int_3 l its.toArray n k t hfit hcap hlong) ⟨e,?_⟩⟩)
  rw [hnew]
  exact ⟨.ref _,_,I.lnew (t':=s.toks) (r.rep k.toNat) (by rw [len_rep,Nat.mul_comm]; exact hz),rfl,q _ I.fresh⟩
end
section
variable {prog:Program} {w:World} {A:Around} {E:Value→Shared→Prop} {s:Shared}
end
section
variable {X:Cx}
end
end L2
namespace Att
open PySem PySem.W PySem.Calls PyProof.Rows
theorem ints_of_wellAll {P:Params} {h:Heap}:∀ (ns:List Int) (vs:List Value),WellAll P h vs (ns.map WData.int)→IntsAre vs ns:=by
  intro ns
  induction ns with
  | nil=>
    intro vs w
    rw [mZ0] at w
    cases w
    exact .nil
  | cons n ns ih=>
    intro vs w
    rw [mZ1] at w
    cases w with
    | cons a b=>
      cases a
      exact .cons _ _ (ih _ b)
theorem script_of {l:OpenLaw} {n:Nat} (hn:l.most=some n) {P:Params} {h:Heap} {args:List WData} {vals:List Value}
    (hpre:l.row.toRowW.claim.pre args=true) (hwl:WellAll P h vals args) :
    ∃ a vs ns,vals=[Value.ref a]∧args=[WData.list (ns.map WData.int)]∧h.get? a=some { cls:=.type "list", data:=.seq vs.toArray }∧IntsAre vs ns∧ns.length≤n:=by
  have hsh:WShape.hasAll [] args [.list .int]=true:=(pre_splitW hpre).1
  have hc:l.pre.holds [] { args:=args }=true:=(pre_splitW hpre).2
  obtain ⟨d,r,rfl,h1,h2⟩:=hasAllW_cons hsh
  obtain rfl:=hasAllW_nil h2
  obtain ⟨xs,rfl,h3⟩:=hasW_list h1
  obtain ⟨ns,rfl⟩:=items_int h3
  have hlen:ns.length≤n:=by
    unfold OpenLaw.pre at hc
    have h4:(WTm.not (.lt (.lit (.int (n:Int))) (.len (.arg 0)))).holds [] { args:=[.list (ns.map .int)] }=true:=by
      have h4:=(holds_andW hc).1
      rw [hn] at h4
      exact h4
    have h5:=condW_of h4 (w_not (w_lt w_lit (w_len_list (w_arg rfl))))
    rw [List.length_map] at h5
    refine Nat.le_of_not_lt fun q=>?_
    have q':(n:Int)<((ns.length:Nat):Int):=by omega
    first
      | (rw [decide_eq_true q'] at h5; exact absurd h5 (by decide))
      | (simp at h5; omega)
  cases hwl with
  | cons w1 w2=>
    cases w2
    cases w1 with
    | list ho hall=>exact ⟨_,_,ns,rfl,rfl,ho,ints_of_wellAll ns _ hall,hlen⟩
theorem post_true (l:OpenLaw) (args:List WData):l.row.toRowW.claim.post args (.bool true) args=true:=
  postW_of (r:=l.row.toRowW) (X:=(true == true))
    (show WShape.has [] (.bool true) .bool=true by first|rfl|decide|simp [WShape.has,WShape.arms,WShape.armsAll])
    (show (WTm.eq .res (.lit (.bool true))).value [] { args:=args,res:=some (.bool true),after:=args }=some (.bool (true == true)) from w_eq_bool (w_res rfl) w_lit) rfl
theorem attach_call {l:OpenLaw} {n:Nat} {q:Program} {loose:List Str} {XP:(Str→Option Value)→Heap→Prop} {YP:World→Heap→Prop} {d:DefRec}
    (hn:l.most=some n) (hdf:d.params.defaults=[])
    (call:∀ (w:World) (s₀ s₁:Shared) (mg mb:Str→Option Value) (fa:Addr) (o:Obj) (pm cd doc:Value) (a:Addr) (vs:List Value) (ns:List Int),
      Ground q loose [] XP w s₀ mg mb s₁.heap→YP w s₁.heap →
      s₁.heap.get? fa=some o→o.data=.func (docDef d.name d.params d.body d.scope pm cd doc)→s₁.heap.CodeRec cd d.name→mg d.name=some (.ref fa) →
      s₁.heap.get? a=some { cls:=.type "list", data:=.seq vs.toArray }→IntsAre vs ns→ns.length≤n→s₁.gens=#[] →
      codeAny (model l.prog w) callerA (.call (.ref fa) ⟨[.ref a],[]⟩) (fun r s'=>r=.ok (.ret (.bool true))∧OldK s₁.heap s'.heap∧s'.os=s₁.os∧AllBare s'.gens) s₁) :
    WalkO q loose XP YP l.row.toRowW d [] (fun f vs=>PySem.call f vs):=by
  intro w s₀ s₁ mg mb G Y fa o pm cd doc dV kV ho hd hcd hD hmg hg args vals as hpre hlay hrd hwl hlo
  obtain rfl:dV=.none:=Dflts.none hD hdf
  obtain rfl:kV=.none:=Dflts.noKw hD
  obtain ⟨a,vs,ns,rfl,rfl,hobj,hints,hlen⟩:=script_of hn hpre hwl
  refine enter_call (codeAny_mono (call w s₀ s₁ mg mb fa o pm cd doc a vs ns G Y ho (fd_plain hd) hcd hmg hobj hints hlen hg) fun r s' hq=>?_)
  obtain ⟨rfl,h2,h3,h4⟩:=hq
  exact ⟨.inl ⟨.bool true,.bool true,[],rfl,fun _=>rfl,.bool true,post_true l _,fun _=>⟨List.Pairwise.nil,fun _ hm=>(nomatch hm)⟩⟩,h2,h3,h4⟩
section
variable {prog:Program} {w:World} {A:Around} {E:Value→Shared→Prop} {s:Shared} {K:Frag}
def ledger (h:Heap) (L d:Addr):List (Addr × Obj):=(List.range h.objs.size).filterMap fun a=>if a=L∨a=d then none else (h.get? a).map fun o=>(a,o)
end
end Att
namespace L2
open PySem PySem.Spec PyProof.Rows
theorem vals_ints:∀ {vs:List Value} {ns:List Int},IntsAre vs ns→Vals (ns.map V.int) vs
  | _,_,.nil=>.nil
  | _,_,.cons n t h=>.cons ⟨t,rfl⟩ (vals_ints h)
def Only (H:Hp):Prop:=∀ b,H b=none∨∃ o xs,H b=some (.frz o (.lst xs))
theorem law_call {P:Program} {w:World} {K:PySem.W.Frag} {mg mb:Str→Option Value} {CX:CXT} {k:Nat} {fa a:Addr} {fd:FuncData} {x:Str} {sp:Sp} {s₁:Shared} {vs:List Value} {ns:List Int}
    (KX:K.In s₁.heap) (hns:s₁.heap.Ns mainGlobals mg) (hb:s₁.heap.Ns builtinsNs mb) (hbb:∀ x:Str,x≠"__name__"→mb x=bootBuiltins x) (hlim:s₁.heap.NoLimit) (hg:s₁.gens=#[])
    (ha:s₁.heap.get? a=some { cls:=.type "list", data:=.seq vs.toArray }) (hi:IntsAre vs ns) (hl:ns.length≤sizeLine) (hr:Room k callerA)
    (F:∀ base:Heap,K.In base→base.Ns mainGlobals mg→FnOk P w K mg base CX k fa fd [x] sp) (hbind:∀ (s:Shared) (u:Value),BindsTo s fd ⟨[u],[]⟩ [(x,u)])
    (hsp:∀ H:Hp,Only H→SqL K H a (ns.map V.int)→sp [.ref a] H (fun v _=>v=.bl true) fun _ _ _=>False)
    (hCX:∀ H e s',CX [] H s₁ (fun _ _ _=>False) e s'→False) :
    codeAny (model P w) callerA (.call (.ref fa) ⟨[.ref a],[]⟩) (fun r s'=>r=.ok (.ret (.bool true))∧OldK s₁.heap s'.heap∧s'.os=s₁.os∧AllBare s'.gens) s₁:=by
  have rv:=vals_ints hi
  have lenV:=hi.length
  have core:∀ H:Hp,Only H→SqL K H a (ns.map V.int)→HOk P w H s₁.heap→(∀ b,H b≠none→b=a)→(H a≠none→K.lookup a=none) →
      codeAny (model P w) callerA (.call (.ref fa) ⟨[.ref a],[]⟩) (fun r s'=>r=.ok (.ret (.bool true))∧OldK s₁.heap s'.heap∧s'.os=s₁.os∧AllBare s'.gens) s₁:=by
    intro H hO hS hok hA hK
    have base_of:∀ {b:Addr} {o:Obj},s₁.heap.get? b=some o→H b=none→(hidT s₁.heap H).get? b=some o:=fun e n=>hidT_get e n
    have noA:∀ {b:Addr} {o:Obj} {es:Array DictEntry} {ep:Nat},s₁.heap.get? b=some o→o.data=.dict es ep→H b=none:=fun {b o es ep} e d=>by
      cases q:H b with
      | none=>rfl
      | some u=>
        have e':b=a:=hA b (by rw [q]; simp)
        subst e'
        rw [ha] at e; cases e
        have d':Data.seq vs.toArray _=Data.dict es ep:=d
        cases d'
    have nsK:∀ {b:Addr} {m:Str→Option Value},s₁.heap.Ns b m→(hidT s₁.heap H).Ns b m:=fun {b m} ⟨o,es,ep,e,d,r⟩=>⟨o,es,ep,base_of e (noA e d),d,r⟩
    have hKb:K.In (hidT s₁.heap H):=fun b o e=>base_of (KX b o e) (by
      cases q:H b with
      | none=>rfl
      | some u=>
        have e':b=a:=hA b (by rw [q]; simp)
        subst e'
        rw [hK (by rw [q]; simp)] at e; cases e)
    have hM:Mod K mg (hidT s₁.heap H):=⟨hKb,nsK hns,⟨mb,nsK hb,hbb⟩,let ⟨mc,h1,h2⟩:=hlim; ⟨mc,nsK h1,h2⟩⟩
    have e0:Env0 P w K mg (hidT s₁.heap H) callerA [] s₁ H:=⟨rfl,hM,fun b o e=>of_hidT e,Nat.le_of_eq (hidT_size _ _),trivial,fun b hb=>absurd (show b∈([]:List Addr) from hb) (by simp),hok,.of_eq hg⟩
    refine codeAny_mono ((F _ hKb (nsK hns)).run callerA [] s₁ H ⟨[.ref a],[]⟩ [.ref a] [.ref a] _ _ hr e0 (hbind s₁ (.ref a)) (.cons rfl .nil) (hsp H hO hS)) fun r s' h=>?_
    cases r with
    | error e=>exact (hCX H e s' h).elim
    | ok fl=>
      cases fl with
      | next=>exact False.elim h
      | brk=>exact False.elim h
      | cont=>exact False.elim h
      | ret u=>
        obtain ⟨v,H',os,bare,un,hok',r',q⟩:=h
        have q':v=.bl true:=q
        subst q'
        obtain rfl:u=Value.bool true:=r'
        refine ⟨rfl,OldK.of_keep fun b o e=>?_,os,bare⟩
        cases q:H b with
        | none=>exact un.keep b o e q (by intro z; exact absurd (show b∈([]:List Addr) from z) (by simp)) (by simp)
        | some u=>
          rcases hO b with z|⟨ob,xs,z⟩
          · rw [q] at z; cases z
          · have z2:=un.frzs b ob _ z
            obtain ⟨e1,_⟩:=hok b _ z
            obtain ⟨e2,_⟩:=hok' b _ z2
            rw [e] at e1; cases e1
            exact e2
  cases hk:K.lookup a with
  | some o=>
    have e:=KX a o hk
    rw [ha] at e
    cases e
    refine core (fun _=>none) (fun _=>.inl rfl) (.inr ⟨_,vs.toArray,_,hk,rfl,rfl,rfl,by rw [List.size_toArray,lenV]; exact hl,by simpa using rv⟩) (fun b u z=>by have z':(none:Option HO)=some u:=z; cases z') (fun b z=>absurd rfl z) fun z=>absurd rfl z
  | none=>
    refine core (fun b=>if b=a then some (.frz { cls:=.type "list", data:=.seq vs.toArray } (.lst (ns.map V.int))) else none) (fun b=>?_) (.inl (.inr ⟨{ cls:=.type "list", data:=.seq vs.toArray },if_pos rfl⟩)) (fun b u z=>?_) (fun b z=>?_) fun _=>hk
    · by_cases hb:b=a
      · exact .inr ⟨_,_,if_pos hb⟩
      · exact .inl (if_neg hb)
    · by_cases hb:b=a
      · have z':=(if_pos hb).symm.trans z
        cases z'
        subst hb
        exact ⟨ha,by rw [List.length_map]; exact hl,vs,_,rv,ha⟩
      · have z':=(if_neg hb).symm.trans z
        cases z'
    · by_cases hb:b=a
      · exact hb
      · exact absurd (if_neg hb) z
abbrev KOf {K:PySem.W.Frag} {h:Heap} (_:K.In h):PySem.W.Frag:=K
theorem walk_of {l:PySem.W.OpenLaw} {n k:Nat} {q:Program} {loose:List Str} {XP:(Str→Option Value)→Heap→Prop} {YP:World→Heap→Prop} {d:DefRec} {K:Params→PySem.W.Frag} {CX:World→CXT} {sp:World→Sp} {x:Str}
    (hn:l.most=some n) (hn2:n≤sizeLine) (hdf:d.params.defaults=[]) (hr:Room k callerA)
    (hY:∀ (w:World) (h:Heap),YP w h→(K w.params).In h)
    (F:∀ (w:World) (mg:Str→Option Value) (fa:Addr) (h:Heap),(K w.params).In h→h.Ns mainGlobals mg→mg d.name=some (.ref fa) →
      ∃ fd:FuncData,(∀ (s:Shared) (u:Value),BindsTo s fd ⟨[u],[]⟩ [(x,u)]) ∧
        ∀ base:Heap,(K w.params).In base→base.Ns mainGlobals mg→FnOk l.prog w (K w.params) mg base (CX w) k fa fd [x] (sp w))
    (hsp:∀ (w:World) (H:Hp) (a:Addr) (ns:List Int),ns.length≤n→Only H→SqL (K w.params) H a (ns.map V.int)→sp w [.ref a] H (fun v _=>v=.bl true) fun _ _ _=>False)
    (hCX:∀ (w:World) (H:Hp) (s:Shared) (e:Value) (s':Shared),CX w [] H s (fun _ _ _=>False) e s'→False) :
    PySem.W.WalkO q loose XP YP l.row.toRowW d [] (fun f vs=>PySem.call f vs):=by
  refine Att.attach_call hn hdf fun w s₀ s₁ mg mb fa o pm cd doc a vs ns G Y ho hd hcd hmg hobj hints hlen hg=>?_
  have KX:=hY w _ Y
  obtain ⟨fd,hb,hF⟩:=F w mg fa _ KX G.T.g hmg
  exact law_call KX G.T.g G.T.b G.T.builtins G.T.nolimit hg hobj hints (Nat.le_trans hlen hn2) hr hF hb (fun H hO hS=>hsp w H a ns hlen hO hS) fun H e s'=>hCX w H s₁ e s'
theorem walk_ofK {l:PySem.W.OpenLaw} {n k:Nat} {q:Program} {loose:List Str} {XP:(Str→Option Value)→Heap→Prop} {YP:World→Heap→Prop} {d:DefRec} {K:Params→PySem.W.Frag} {CX:CXT} {sp:PySem.W.Frag→Sp} {x:Str}
    (hn:l.most=some n) (hn2:n≤sizeLine) (hdf:d.params.defaults=[]) (hr:Room k callerA)
    (hY:∀ (w:World) (h:Heap),YP w h→(K w.params).In h)
    (F:∀ (w:World) (mg:Str→Option Value) (fa:Addr) (h:Heap),(K w.params).In h→h.Ns mainGlobals mg→mg d.name=some (.ref fa) →
      ∃ fd:FuncData,(∀ (s:Shared) (u:Value),BindsTo s fd ⟨[u],[]⟩ [(x,u)]) ∧
        ∀ base:Heap,(K w.params).In base→base.Ns mainGlobals mg→FnOk l.prog w (K w.params) mg base CX k fa fd [x] (sp (K w.params)))
    (hsp:∀ (K:PySem.W.Frag) (H:Hp) (a:Addr) (ns:List Int),ns.length≤n→Only H→SqL K H a (ns.map V.int)→sp K [.ref a] H (fun v _=>v=.bl true) fun _ _ _=>False)
    (hCX:∀ (H:Hp) (s:Shared) (e:Value) (s':Shared),CX [] H s (fun _ _ _=>False) e s'→False) :
    PySem.W.WalkO q loose XP YP l.row.toRowW d [] (fun f vs=>PySem.call f vs):=
  walk_of (K:=K) (CX:=fun _=>CX) (sp:=fun w=>sp (K w.params)) hn hn2 hdf hr hY F (fun w H a ns h1 h2 h3=>hsp (K w.params) H a ns h1 h2 h3) fun _ H s e s'=>hCX H s e s'
def inClass (s:Stmt) (j:Nat):Stmt:=match s with
  | .ClassDef _ _ _ body _ _ _ _ _ _ _=>body.getD j (.Pass ⟨0,0,0,0⟩)
  | _=>.Pass ⟨0,0,0,0⟩
def defArgs (s:Stmt):Arguments:=match s with
  | .FunctionDef _ a _ _ _ _ _ _ _ _=>a
  | _=>{ posonlyargs:=[],args:=[],vararg:=none,kwonlyargs:=[],kw_defaults:=[],kwarg:=none,defaults:=[] }
def defBody (s:Stmt):List Stmt:=match s with
  | .FunctionDef _ _ b _ _ _ _ _ _ _=>b
  | _=>[]
def defScope (s:Stmt):Scope:=match s with
  | .FunctionDef _ _ _ _ _ _ sc _ _ _=>sc
  | _=>{ kind:=.function,names:=[],isGenerator:=false,isCoroutine:=false }
abbrev CX0:CXT:=fun _ _ _ _ _ _=>False
abbrev E0:XK:=fun _ _ _=>False
theorem pass0 {X:Cx}:Passes CX0 X E0:=fun _ _ _ _ _ _ _ h=>h.elim
structure Fun (K:PySem.W.Frag) (x qual:Str) (st:Stmt) (f:Addr) (fd:FuncData):Prop where
  ex:∃ (oc:Value) (od:Option Addr) (kV doc pm:Value) (an:Option Addr) (cdv ct:Value) (osl:Array (Option Value)),
    fd=PySem.W.fnOf x qual (defArgs st) (defBody st) (defScope st) .none kV doc pm an cdv ct∧K.lookup f=some ⟨oc,od,.func fd,osl⟩∧PySem.W.codeIn K cdv qual=true
  kp:PySem.W.keepIn K (.ref f)=true
section
variable {P:Program} {w:World} {K:PySem.W.Frag} {mg:Str→Option Value} {base:Heap}
theorem Fun.ok {x qual:Str} {st:Stmt} {f:Addr} {fd:FuncData} {N ps:List Str} {k:Nat} {sp:Sp} (F:Fun K x qual st f fd) (S:FnScope N ps (defScope st)) (len:∀ vs H Q E,sp vs H Q E→vs.length=ps.length)
    (hbody:∀ (cdv:Value) (A:Around) (outer:List Env) (s:Shared) (H:Hp) (vs:List V) (Q:VK) (E:XK),Room k (A.deeper (envOfC qual (defScope st) s.heap.objs.size f cdv))→sp vs H Q E →
      ∃ t,PSs (cxOf CX0 P w K mg base N qual (defScope st) f cdv A outer s H E).nox (defBody st) t∧t { nx:=fun _ H'=>Q .non H',rt:=Q } (start N vs) H):FnOk P w K mg base CX0 (k+1) f fd ps sp:=by
  obtain ⟨oc,od,kV,doc,pm,an,cdv,ct,osl,rfl,lk,hcd⟩:=F.ex
  refine fn_of lk hcd S len fun A outer s H vs Q E hr hsp=>?_
  obtain ⟨t,h,q⟩:=hbody cdv A outer s H vs Q E hr hsp
  exact ⟨t,h.nox,q⟩
theorem Fun.binds {x qual:Str} {st:Stmt} {f:Addr} {fd:FuncData} {ps:List Str} (F:Fun K x qual st f fd)
    (h:∀ (kV doc pm:Value) (an:Option Addr) (cdv ct:Value) (us:List Value),us.length=ps.length→bindArgs (PySem.W.fnOf x qual (defArgs st) (defBody st) (defScope st) .none kV doc pm an cdv ct) ⟨us,[]⟩=pure (ps.zip us)):Binds K fd ps []:=by
  obtain ⟨oc,od,kV,doc,pm,an,cdv,ct,osl,rfl,lk,hcd⟩:=F.ex
  exact .all (h kV doc pm an cdv ct)
theorem fun_mk {x qual:Str} {st:Stmt} {f:Addr} {oc:Value} {od an:Option Addr} {osl:Array (Option Value)} {kV doc pm cdv ct:Value} (l:K.lookup f=some ⟨oc,od,.func (PySem.W.fnOf x qual (defArgs st) (defBody st) (defScope st) .none kV doc pm an cdv ct),osl⟩)
    (c:PySem.W.codeIn K cdv qual=true) (k:PySem.W.keepIn K (.ref f)=true):Fun K x qual st f (PySem.W.fnOf x qual (defArgs st) (defBody st) (defScope st) .none kV doc pm an cdv ct):=⟨⟨oc,od,kV,doc,pm,an,cdv,ct,osl,rfl,l,c⟩,k⟩
end
section
variable {X:Cx}
theorem pv (i:Nat) {x:Str} {pos:Pos} (hN:X.N[i]?=some x:=by rfl) (hv:Vis X.env.scope x:=by first|exact Or.inl rfl|exact Or.inr (Or.inl rfl)|exact Or.inr (Or.inr rfl)) (hd:(x == ("__debug__":Str))=false:=by decide)
    (hcd:(x == ("__classdict__":Str))=false:=by decide):PE X (.Name x pos) (tVar i):=pe_var hN hv hd hcd
end
theorem iteF {A B:Prop} (h:B):if false=true then A else B:=by
  rw [if_neg Bool.false_ne_true]
  exact h
theorem iteT {A B:Prop} (h:A):if true=true then A else B:=by
  rw [if_pos rfl]
  exact h
theorem ite2 {c A B:Prop} [Decidable c] (h1:c→A) (h2:¬ c→B):if c then A else B:=by
  by_cases h:c
  · rw [if_pos h]
    exact h1 h
  · rw [if_neg h]
    exact h2 h
def Same (H H':Hp):Prop:=∀ b o,H b=some o→H' b=some o
theorem Same.refl (H:Hp):Same H H:=fun _ _ h=>h
theorem Same.trans {H H1 H2:Hp} (a:Same H H1) (b:Same H1 H2):Same H H2:=fun c o h=>b c o (a c o h)
theorem Same.free {H H':Hp} (e:Same H H') {l:Addr} (h:H' l=Option.none):H l=Option.none:=by
  cases q:H l with
  | none=>rfl
  | some o=>
    rw [e l o q] at h
    cases h
theorem Same.seq {K:PySem.W.Frag} {H H':Hp} {a:Addr} {xs:List V} (e:Same H H') (h:SqL K H a xs):SqL K H' a xs:=by
  rcases h with (h|⟨o,h⟩)|h
  · exact .inl (.inl (e _ _ h))
  · exact .inl (.inr ⟨o,e _ _ h⟩)
  · exact .inr h
section
variable {κ:Type} [DecidableEq κ]
def valV (kvs:List (κ × V)) (k:κ):Option V:=(kvs.find? fun kv=>decide (kv.1=k)).map (·.2)
def putK (kvs:List (κ × V)) (k:κ) (v:V):List (κ × V):=
  if (kvs.any fun kv=>decide (kv.1=k))=true then kvs.map (fun kv=>if kv.1=k then (kv.1,v) else kv) else kvs++[(k,v)]
theorem valV_pos {p:κ × V} {r:List (κ × V)} {k:κ} (e:p.1=k):valV (p::r) k=some p.2:=by simp [valV,List.find?_cons,e]
theorem valV_neg {p:κ × V} {r:List (κ × V)} {k:κ} (e:¬ p.1=k):valV (p::r) k=valV r k:=by simp [valV,List.find?_cons,e]
theorem valV_any (k:κ):∀ kvs:List (κ × V),(kvs.any fun kv=>decide (kv.1=k))=(valV kvs k).isSome
  | []=>rfl
  | p::r=>by
    rw [List.any_cons]
    by_cases e:p.1=k
    · simp only [valV_pos e,decide_eq_true e,Bool.true_or,Option.isSome_some]
    · rw [valV_neg e,decide_eq_false e,Bool.false_or]; exact valV_any k r
theorem length_putK (kvs:List (κ × V)) (k:κ) (v:V):(putK kvs k v).length≤kvs.length+1:=by
  unfold putK
  split
  · rw [List.length_map]; omega
  · rw [List.length_append,lZ1,lZ0]; omega
theorem RelO.isSome_eq {o:Option V} {u:Option Value} (r:RelO o u):o.isSome=u.isSome:=by
  cases o with
  | none=>cases u with
    | none=>rfl
    | some _=>exact (show False from r).elim
  | some _=>cases u with
    | none=>exact (show False from r).elim
    | some _=>rfl
theorem KV.val {kvs:List (κ × V)} {vs:List (κ × Value)} (r:KV kvs vs) (k:κ):RelO (valV kvs k) (valueAt vs k):=by
  unfold KV at r
  induction r with
  | nil=>exact True.intro
  | @cons p q ps qs h t ih=>
    obtain ⟨h1,h2⟩:=h
    by_cases e:p.1=k
    · have e':q.1=k:=h1.symm.trans e
      have b:valueAt (q::qs) k=some q.2:=by simp [valueAt,List.find?_cons,e']
      rw [valV_pos e,b]; exact h2
    · have e':¬ q.1=k:=fun z=>e (h1.trans z)
      have b:valueAt (q::qs) k=valueAt qs k:=by simp [valueAt,List.find?_cons,e']
      rw [valV_neg e,b]; exact ih
theorem KV.any {kvs:List (κ × V)} {vs:List (κ × Value)} (r:KV kvs vs) (k:κ):(kvs.any fun kv=>decide (kv.1=k))=vs.any fun kv=>decide (kv.1=k):=by
  unfold KV at r
  induction r with
  | nil=>rfl
  | cons h t ih=>rw [List.any_cons,List.any_cons,ih,h.1]
theorem KV.repl {kvs:List (κ × V)} {vs:List (κ × Value)} (r:KV kvs vs) (k:κ) {y:V} {u:Value} (ry:RelV y u) :
    KV (kvs.map fun kv=>if kv.1=k then (kv.1,y) else kv) (vs.map fun kv=>if kv.1=k then (kv.1,u) else kv):=by
  unfold KV at r ⊢
  induction r with
  | nil=>exact .nil
  | @cons p q ps qs h t ih=>
    rw [mZ1,mZ1]
    refine .cons ?_ ih
    obtain ⟨h1,h2⟩:=h
    by_cases e:p.1=k
    · rw [if_pos e,if_pos (h1.symm.trans e)]; exact ⟨h1,ry⟩
    · rw [if_neg e,if_neg (fun z=>e (h1.trans z))]; exact ⟨h1,h2⟩
theorem KV.put {kvs:List (κ × V)} {vs:List (κ × Value)} (r:KV kvs vs) (k:κ) {y:V} {u:Value} (ry:RelV y u):KV (putK kvs k y) (stored vs k u):=by
  unfold putK stored
  rw [r.any k]
  by_cases e:(vs.any fun kv=>decide (kv.1=k))=true
  · rw [if_pos e,if_pos e]; exact r.repl k ry
  · rw [if_neg e,if_neg e]; exact Paired.snoc r ⟨rfl,ry⟩
theorem KV.length {kvs:List (κ × V)} {vs:List (κ × Value)} (r:KV kvs vs):kvs.length=vs.length:=Paired.length r
end
theorem kV_is {P:Program} {w:World} {k:Key} {u:Value} (r:RelV (kV k) u):(mixKind P w).is k u=true:=by
  cases k with
  | inl i=>obtain ⟨t,e⟩:=(show ∃ t,u=Value.int i t from r); subst e; exact mixKind_int P w i t
  | inr x=>obtain ⟨t,e⟩:=(show ∃ t,u=Value.str x t from r); subst e; exact mixKind_str P w x t
theorem items_are {P:Program} {w:World}:∀ {ks:List Key} {us:List Value},Vals (ks.map kV) us→ItemsAre (mixKind P w) ks us
  | [],_,r=>by rw [mZ0] at r; cases r; exact .nil
  | k::ks,_,r=>by
    rw [mZ1] at r
    cases r with
    | cons h t=>exact .cons (kV_is h) (items_are t)
abbrev KT (H:Hp):List (List Key × V)→List (List Key × Addr × Value)→Prop:=Paired fun p q=>p.1=q.1∧H q.2.1=some (.tup (p.1.map kV))∧RelV p.2 q.2.2
theorem KT.val {H:Hp} {kvs:List (List Key × V)} {xs:List (List Key × Addr × Value)} (r:KT H kvs xs) (k:List Key):RelO (valV kvs k) ((atKey xs k).map (·.2)):=by
  induction r with
  | nil=>exact True.intro
  | @cons p q ps qs h t ih=>
    obtain ⟨h1,_,h2⟩:=h
    by_cases e:p.1=k
    · have e':q.1=k:=h1.symm.trans e
      have b:atKey (q::qs) k=some q.2:=by simp [atKey,List.find?_cons,e']
      rw [valV_pos e,b]; exact h2
    · have e':¬ q.1=k:=fun z=>e (h1.trans z)
      have b:atKey (q::qs) k=atKey qs k:=by simp [atKey,List.find?_cons,e']
      rw [valV_neg e,b]; exact ih
theorem KT.repl {H:Hp} {kvs:List (List Key × V)} {xs:List (List Key × Addr × Value)} (r:KT H kvs xs) (k:List Key) {y:V} {u:Value} (ry:RelV y u) :
    KT H (kvs.map fun kv=>if kv.1=k then (kv.1,y) else kv) (xs.map (putAt k u)):=by
  induction r with
  | nil=>exact .nil
  | @cons p q ps qs h t ih=>
    rw [mZ1,mZ1]
    refine .cons ?_ ih
    obtain ⟨h1,h2,h3⟩:=h
    unfold putAt
    by_cases e:p.1=k
    · rw [if_pos e,if_pos (h1.symm.trans e)]; exact ⟨h1,h2,ry⟩
    · rw [if_neg e,if_neg (fun z=>e (h1.trans z))]; exact ⟨h1,h2,h3⟩
theorem KT.put {H:Hp} {kvs:List (List Key × V)} {xs:List (List Key × Addr × Value)} (r:KT H kvs xs) (k:List Key) {b:Addr} {y:V} {u:Value} (hb:H b=some (.tup (k.map kV))) (ry:RelV y u) :
    KT H (putK kvs k y) (storedH xs k b u):=by
  have e:(kvs.any fun kv=>decide (kv.1=k))=(atKey xs k).isSome:=by
    rw [valV_any,(r.val k).isSome_eq,Option.isSome_map]
  unfold putK storedH
  rw [e]
  by_cases q:(atKey xs k).isSome=true
  · rw [if_pos q,if_pos q]; exact r.repl k ry
  · rw [if_neg q,if_neg q]; exact Paired.snoc r ⟨rfl,hb,ry⟩
theorem KT.keeps {H H':Hp} {kvs:List (List Key × V)} {xs:List (List Key × Addr × Value)} (r:KT H kvs xs) (ht:∀ b ys,H b=some (.tup ys)→H' b=some (.tup ys)):KT H' kvs xs:=
  Paired.mapP r fun _ _ z=>⟨z.1,ht _ _ z.2.1,z.2.2⟩
section
variable {P:Program} {w:World} {H:Hp} {h:Heap} {a:Addr}
theorem rd_of {u:HO} (ok:HOk P w H h) (e:Rd H a u):ObjOk P w H h a u:=e.ok ok
theorem dk_rd {kvs:List (Key × V)} (ok:HOk P w H h) (e:Rd H a (.dK kvs)):kvs.length≤sizeLine∧(a == sysModules)=false∧∃ vs,KV kvs vs∧h.DictOf (mixKind P w) a vs:=
  show ObjOk P w H h a (.dK kvs) from rd_of ok e
theorem dk_of {kvs:List (Key × V)} (ok:HOk P w H h) (e:H a=some (.dK kvs)):kvs.length≤sizeLine∧(a == sysModules)=false∧∃ vs,KV kvs vs∧h.DictOf (mixKind P w) a vs:=dk_rd ok (.inl e)
theorem key_of {ks:List Key} (ok:HOk P w H h) (e:H a=some (.tup (ks.map kV))):(tupleKind (mixKind P w)).is h ks a:=by
  obtain ⟨_,its,r,o,h1,h2,n,h3⟩:=(show ObjOk P w H h a (.tup (ks.map kV)) from ok a _ e)
  exact ⟨o,its.toArray,n,h1,h2,h3,by simpa using items_are r⟩
theorem dt_rd {kvs:List (List Key × V)} (ok:HOk P w H h) (e:Rd H a (.dT kvs)):kvs.length≤sizeLine∧(a == sysModules)=false ∧
    ∃ xs,KT H kvs xs∧h.DictOfH (tupleKind (mixKind P w)) a xs:=by
  obtain ⟨z,y,xs,r,o,es,ep,h1,h2,h3,h4,h5⟩:=(show ObjOk P w H h a (.dT kvs) from rd_of ok e)
  refine ⟨z,y,xs,r,o,es,ep,h1,h2,h3,h4,fun x hx=>?_,h5⟩
  have all:∀ {l:List (List Key × V)} {m:List (List Key × Addr × Value)},KT H l m→∀ x∈m,(tupleKind (mixKind P w)).is h x.1 x.2.1:=by
    intro l m q
    induction q with
    | nil=>intro x hx; exact nomatch hx
    | @cons p q ps qs hq t ih=>
      intro x hx
      rcases List.mem_cons.mp hx with e|hx
      · subst e
        exact key_of ok (by rw [← hq.1]; exact hq.2.1)
      · exact ih x hx
  exact all r x hx
theorem dt_of {kvs:List (List Key × V)} (ok:HOk P w H h) (e:H a=some (.dT kvs)):kvs.length≤sizeLine∧(a == sysModules)=false ∧
    ∃ xs,KT H kvs xs∧h.DictOfH (tupleKind (mixKind P w)) a xs:=dt_rd ok (.inl e)
end
def DGet (H:Hp) (a:Addr) (y:V) (r:Option V):Prop:=
  (∃ kvs k,Rd H a (.dK kvs)∧y=kV k∧r=valV kvs k)∨∃ kvs k b,Rd H a (.dT kvs)∧y=.ref b∧H b=some (.tup (k.map kV))∧r=valV kvs k
def DPut (H:Hp) (a:Addr) (y v:V) (H':Hp):Prop:=
  (∃ kvs k,H a=some (.dK kvs)∧y=kV k∧kvs.length<sizeLine∧H'=upd H a (.dK (putK kvs k v))) ∨
  ∃ kvs k b,H a=some (.dT kvs)∧y=.ref b∧H b=some (.tup (k.map kV))∧kvs.length<sizeLine∧H'=upd H a (.dT (putK kvs k v))
section
variable {X:Cx} {pins:List (Addr × Obj)} {σ:St} {H:Hp} {s:Shared} {a:Addr} {y v:V} {u r:Value} {o:Option V} {A:Around} {E:Value→Shared→Prop}
theorem Inv.big (I:Inv X pins σ H s):sysModules<s.heap.objs.size:=by
  have h:mainGlobals<s.heap.objs.size:=(I.mod.glob.keeps I.bk).lt
  exact Nat.lt_trans (by decide) h
theorem d_getItem {Q:Value→Shared→Prop} (hu:A.units+1<cLine) (I:Inv X pins σ H s) (g:DGet H a y (some v)) (ry:RelV y u) (h:∀ w' s',Inv X pins σ H s'→RelV v w'→Q w' s') :
    wpAny (model X.prog X.w) A (getItem (.ref a) u) Q E s:=by
  rcases g with ⟨kvs,k,e,ey,l⟩|⟨kvs,k,b,e,ey,eb,l⟩
  · subst ey
    obtain ⟨z,hd,vs,rel,dd⟩:=dk_rd I.hok e
    obtain ⟨w',hw,rw'⟩:=RelO.some_of (v:=v) (o:=valueAt vs k) (by rw [l]; exact rel.val k)
    exact wpAny_getItem_of (kV_is ry) dd.mapOf hw (h w' _ (I.tok _) rw')
  · subst ey
    cases (show u=Value.ref b from ry)
    obtain ⟨z,hd,xs,rel,dd⟩:=dt_rd I.hok e
    obtain ⟨w',hw,rw'⟩:=RelO.some_of (v:=v) (o:=(atKey xs k).map (·.2)) (by rw [l]; exact rel.val k)
    obtain ⟨p,hp,hp2⟩:=Option.map_eq_some_iff.mp hw
    refine wpAny_getItem_heap (tupleKind_room_in1 hu) (key_of I.hok eb) dd hp ?_
    rw [hp2]
    exact h w' _ (I.tok _) rw'
theorem d_write {h':Heap} {t':Nat} {ob:HO} (I:Inv X pins σ H s) (mu:Mut (H a)) (hs:Heap.SameBut a s.heap h') (he:∃ q,h'.get? a=some q) (new:ObjOk X.prog X.w (upd H a ob) h' a ob) :
    Inv X pins σ (upd H a ob) { s with heap:=h',toks:=t' }:=
  I.write (x:=a) (e:=a) mu (.inl rfl) (fun b q hb z=>(hs.2 b hb).trans z) he new
theorem dk_new {P:Program} {w:World} {H':Hp} {h':Heap} {kvs:List (Key × V)} {vs:List (Key × Value)} (z:kvs.length≤sizeLine) (hd:(a == sysModules)=false) (rel:KV kvs vs) (dd:h'.DictOf (mixKind P w) a vs) :
    ObjOk P w H' h' a (.dK kvs):=⟨z,hd,vs,rel,dd⟩
theorem d_setItem {H':Hp} {Q:Unit→Shared→Prop} (hu:A.units+1<cLine) (I:Inv X pins σ H s) (g:DPut H a y v H') (ry:RelV y u) (rv:RelV v r) (h:∀ s',Inv X pins σ H' s'→Q () s') :
    wpAny (model X.prog X.w) A (setItem (.ref a) u r) Q E s:=by
  rcases g with ⟨kvs,k,e,ey,l,eH⟩|⟨kvs,k,b,e,ey,eb,l,eH⟩
  · subst ey eH
    obtain ⟨z,hd,vs,rel,dd⟩:=dk_of I.hok e
    have hz:vs.length≤sizeLine:=by rw [← rel.length]; exact z
    have hl:(putK kvs k v).length≤sizeLine:=by have:=length_putK kvs k v; omega
    refine wpAny_setItem_pairs (hsz:=hz) (kV_is ry) dd fun h' dd' hs=>h _ ?_
    have he:∃ q,h'.get? a=some q:=let ⟨q,_,_,hq,_⟩:=dd'; ⟨q,hq⟩
    exact d_write I (by rw [e]; exact True.intro) hs he (dk_new hl hd (rel.put k rv) dd')
  · subst ey eH
    cases (show u=Value.ref b from ry)
    obtain ⟨z,hd,xs,rel,dd⟩:=dt_of I.hok e
    have hz:xs.length≤sizeLine:=by rw [← Paired.length rel]; exact z
    have hl:(putK kvs k v).length≤sizeLine:=by have:=length_putK kvs k v; omega
    refine wpAny_setItem_heap (hsz:=hz) (tupleKind_room_in1 hu) (key_of I.hok eb) dd fun h' dd' hs=>h _ ?_
    obtain ⟨q,es,ep,hq,h2,h3,h4,_,h5⟩:=dd'
    refine d_write I (by rw [e]; exact True.intro) hs ⟨q,hq⟩ ⟨hl,hd,_,(rel.put k eb rv).keeps fun c ys ec=>?_,q,es,ep,hq,h2,h3,h4,h5⟩
    rw [upd_ne (ne_of ec e (fun z=>nomatch z))]
    exact ec
end
section
variable {X:Cx} {pins:List (Addr × Obj)} {σ:St} {H:Hp} {s:Shared} {a:Addr} {kvs:List (Key × V)} {k:Key} {u:Value} {A:Around} {E:Value→Shared→Prop}
theorem d_len {Q:Value→Shared→Prop} (I:Inv X pins σ H s) (e:Rd H a (.dK kvs)) (h:∀ t s',Inv X pins σ H s'→Q (.int kvs.length t) s'):wpAny (model X.prog X.w) A (call (.builtin "len") [.ref a]) Q E s:=by
  obtain ⟨z,hd,vs,rel,dd⟩:=dk_rd I.hok e
  refine call_len_dict hd dd (by rw [← rel.length]; rw [sizeLine_eq] at z; omega) ?_
  rw [← rel.length]
  exact h _ _ (I.tok _)
end
def NoSl (i:Expr):Prop:=∀ ov iv,subscripted i false ov iv=operate [ov,iv] (getItem ov iv)
theorem subD_of {prog:Program} {w:World} {A:Around} {E:Value→Shared→Prop} {s:Shared} {env:Env} {value slice:Expr} {pos:Pos} {T id:String} {Q:Value→Shared→Prop}
    (hl:typeLookup (.type T) "__getitem__"=pure (some (.builtin id))) (hs:NoSl slice)
    (h:wpAny (model prog w) A (eval value env) (fun o s₁=>wpAny (model prog w) A (eval slice env) (fun i s₂=>s₂.TypeIs o T∧wpAny (model prog w) A (getItem o i) Q E s₂) E s₁) E s) :
    wpAny (model prog w) A (eval (.Subscript value slice pos) env) Q E s:=by
  refine Subscript_ (wpAny_mono h (fun o s₁ h₁=>wpAny_mono h₁ (fun i s₂ h₂=>?_) fun _ _ x=>x) fun _ _ x=>x)
  obtain ⟨hT,h₂⟩:=h₂
  unfold subscriptTail
  refine wpAny_bind ?_
  rw [getitemInPython_of_ne hT.not_modules]
  refine wpAny_bind (wpAny_specialOf hT hl ?_)
  have fin:wpAny (model prog w) A (subscripted slice false o i) (fun r s₃=>wpAny (model prog w) A (letTemporaryGo value o r >>= fun _=>pure r) Q E s₃) E s₂:=by
    rw [hs o i]
    exact wpAny_operating (wpAny_mono h₂ (fun r s₃ h₃=>wpAny_bind (wpAny_letTemporaryGo (wpAny_pure h₃))) fun _ _ x=>x)
  first
    | exact wpAny_pure (wpAny_bind fin)
    | exact wpAny_bind (wpAny_pure (wpAny_bind fin))
    | exact wpAny_bind fin
theorem dict_typeIs {X:Cx} {pins:List (Addr × Obj)} {σ:St} {H:Hp} {s:Shared} {a:Addr} {y:V} {o:Option V} (I:Inv X pins σ H s) (g:DGet H a y o):s.TypeIs (.ref a) "dict":=by
  rcases g with ⟨kvs,k,e,_,_⟩|⟨kvs,k,b,e,_,_,_⟩
  · obtain ⟨_,_,vs,_,dd⟩:=dk_rd I.hok e
    exact dd.typeIs
  · obtain ⟨_,_,xs,_,dd⟩:=dt_rd I.hok e
    exact dd.typeIs
section
variable {X:Cx} {o i e value:Expr} {pos pos' tpos:Pos} {td ty tv:TE}
end
theorem dk_empty {P:Program} {w:World} {H:Hp} (h:Heap) (hb:sysModules<h.objs.size):ObjOk P w H (h.push { cls:=.type "dict", data:=.dict #[] }) h.objs.size (.dK []):=
  ⟨Nat.zero_le _,beq_eq_false_iff_ne.mpr (Ne.symm (Nat.ne_of_lt hb)),[],.nil,Heap.DictOf.new h⟩
section
variable {X:Cx} {pos:Pos}
end
structure M1 (X:Cx) (o:Expr) (m:Str) (apos:Pos) (e:Expr) (cpos:Pos):Prop where
  base:attributeBase o m X.env (eval o X.env)=eval o X.env
  few:((backTo cpos (starEach [e] X.env)).all (fun x=>!x.1) && (backToKw cpos (keywordEach [] X.env)).all (fun x=>x.1.isSome)
    && decide (([e]:List Expr).length+([]:List Keyword).length+(if ([]:List Keyword).isEmpty then 0 else 1)<30))=true
  line:(apos.endLine == cpos.line)=true
  trees:backTo cpos (starEach [e] X.env)=[(false,eval e X.env)]
structure M2 (X:Cx) (o:Expr) (m:Str) (apos:Pos) (e f:Expr) (cpos:Pos):Prop where
  base:attributeBase o m X.env (eval o X.env)=eval o X.env
  few:((backTo cpos (starEach [e,f] X.env)).all (fun x=>!x.1) && (backToKw cpos (keywordEach [] X.env)).all (fun x=>x.1.isSome)
    && decide (([e,f]:List Expr).length+([]:List Keyword).length+(if ([]:List Keyword).isEmpty then 0 else 1)<30))=true
  line:(apos.endLine == cpos.line)=true
  trees:backTo cpos (starEach [e,f] X.env)=[(false,eval e X.env),(false,eval f X.env)]
section
variable {X:Cx} {pins:List (Addr × Obj)} {σ:St} {H:Hp} {s:Shared} {a:Addr} {y d:V} {u r:Value} {o:Option V} {A:Around} {E:Value→Shared→Prop}
end
section
variable {X:Cx} {o e f:Expr} {apos cpos:Pos} {td ty tx:TE}
end
section
variable {X:Cx} {pins:List (Addr × Obj)} {σ:St} {H:Hp} {s:Shared} {a:Addr} {kvs:List (Key × V)} {A:Around} {E:Value→Shared→Prop}
end
section
variable {X:Cx} {pins:List (Addr × Obj)} {σ:St} {H:Hp} {s:Shared} {a:Addr} {y:V} {u:Value} {A:Around} {E:Value→Shared→Prop}
end
section
variable {κ:Type} [DecidableEq κ]
end
section
variable {prog:Program} {w:World} {A:Around} {R:Result→Shared→Prop} {s:Shared}
abbrev testsOf (ifs:List Expr) (env:Env):Sem Bool:=
  forIn ifs true fun c r=>if r=true then do let ok ← isTrue c env (eval c env); pure (ForInStep.yield ok) else pure (ForInStep.yield r)
theorem compLoop_gen {elt target iter:Expr} {ifs:List Expr} {scope:Scope} {pos:Pos} {it acc:Value} {env:Env} {nE:Value→Shared→Prop} (hE:nE=notedBy (model prog w) A env fun e s'=>R (.error e) s') (I:Nat→Shared→Prop)
    (turn:∀ n s,I n s→wpAny (model prog w) A (pyNext it) (fun r s1=>match r with
      | none=>R (.ok .next) s1
      | some v=>wpAny (model prog w) A (letOwnedTupleGo target it v) (fun _ s1b=>wpAny (model prog w) A (assign target env v) (fun _ s2=>
          wpAny (model prog w) A (testsOf ifs env) (fun ok s3=>
            if ok=true then wpAny (model prog w) A (eval elt env) (fun x s4=>
              wpAny (model prog w) A (call (.builtin "list.append") [acc,x]) (fun _ s5=>∃ m,m<n∧I m s5) nE s4) nE s3
            else ∃ m,m<n∧I m s3) nE s2) nE s1b) nE s1) nE s)
    (n:Nat) (h:I n s) :
    codeAny (model prog w) A (.compLoop (.ListComp elt [⟨target,iter,ifs,0⟩] scope pos) 0 it acc env) R s:=by
  subst hE
  refine codeAny_loop rfl I (fun n s hI=>?_) n h
  show wpAny _ A ((compTurn (.ListComp elt [⟨target,iter,ifs,0⟩] scope pos) 0 it acc env).onRaise (fun x=>do noteFrame x env; theTreesLotGoes x)) _ _ s
  refine wpAny_noted ?_
  rw [compTurn_list]
  refine wpAny_bind (wpAny_standAt (wpAny_bind (wpAny_mono (turn n s hI) (fun r s1 h1=>?_) fun _ _ h'=>h')))
  cases r with
  | none=>exact wpAny_pure h1
  | some v=>
    refine wpAny_bind (wpAny_mono h1 (fun _ s1b h1b=>?_) fun _ _ h'=>h')
    refine wpAny_bind (wpAny_mono h1b (fun _ s2 h2=>wpAny_bind (wpAny_mono h2 (fun ok s3 h3=>?_) fun _ _ h'=>h')) fun _ _ h'=>h')
    cases ok with
    | false=>exact wpAny_pure ⟨rfl,h3⟩
    | true=>
      exact wpAny_bind (wpAny_bind (wpAny_mono h3 (fun x s4 h4=>wpAny_bind (wpAny_mono h4 (fun _ s5 h5=>wpAny_pure (wpAny_pure ⟨rfl,h5⟩)) fun _ _ h'=>h')) fun _ _ h'=>h'))
end
def clOf (cells:List (Str × Addr)):List (Str × NameKind)→List (Str × Addr)→List (Str × Addr)
  | [],acc=>acc
  | (n,k)::r,acc=>clOf cells r (if k == NameKind.free then (n,(cells.lookup n).getD 0)::acc else acc)
theorem closure_forIn (env:Env):∀ (names:List (Str × NameKind)) (acc:List (Str × Addr)),(∀ y∈names,y.2=.free→∃ c,env.cells.lookup y.1=some c) →
    (forIn names acc fun x (r:List (Str × Addr))=>match x with
      | (name,kind)=>if (kind == NameKind.free)=true then (do let a ← cellOf env name; pure (ForInStep.yield ((name,a)::r))) else pure (ForInStep.yield r):Sem (List (Str × Addr)))=pure (clOf env.cells names acc)
  | [],acc,_=>by simp [clOf]
  | (n,k)::r,acc,h=>by
    have ih:=fun acc=>closure_forIn env r acc fun y hy=>h y (List.mem_cons_of_mem _ hy)
    rw [List.forIn_cons]
    unfold clOf
    by_cases hk:k=.free
    · subst hk
      obtain ⟨c,e⟩:=h (n,.free) List.mem_cons_self rfl
      simp only [beq_self_eq_true,if_true,cellOf,e,Option.getD_some,pure_bind]
      exact ih _
    · have hb:(k == NameKind.free)=false:=by simpa using hk
      simp only [hb,Bool.false_eq_true,if_false,pure_bind]
      exact ih _
theorem closureFor_eq {scope:Scope} {env:Env} (h:∀ y∈scope.names,y.2=.free→∃ c,env.cells.lookup y.1=some c):closureFor scope env=pure (clOf env.cells scope.names []):=by
  have e:=closure_forIn env scope.names [] h
  unfold closureFor
  first
    | (rw [e]; rfl)
    | (simp only [bind_pure]; exact e)
    | (show (_ >>= _)=_; rw [e]; rfl)
theorem clOf_lookup {cells:List (Str × Addr)} {x:Str} {c:Addr}:∀ (names:List (Str × NameKind)) (acc:List (Str × Addr)),(∀ y∈names,y.2=.free→∃ c,cells.lookup y.1=some c) →
    (∀ d,acc.lookup x=some d→cells.lookup x=some d)→(clOf cells names acc).lookup x=some c→cells.lookup x=some c
  | [],acc,_,ha,e=>ha c e
  | (n,k)::r,acc,h,ha,e=>by
    unfold clOf at e
    refine clOf_lookup r _ (fun y hy=>h y (List.mem_cons_of_mem _ hy)) (fun d hd=>?_) e
    by_cases hk:k=.free
    · subst hk
      obtain ⟨c',e'⟩:=h (n,.free) List.mem_cons_self rfl
      have e2:cells.lookup n=some c':=e'
      rw [if_pos (beq_self_eq_true _),e2] at hd
      cases hx:x == n with
      | true=>
        have:x=n:=eq_of_beq hx
        subst this
        simp only [List.lookup_cons,hx,Option.getD_some] at hd
        rw [e2]
        exact hd
      | false=>
        simp only [List.lookup_cons,hx] at hd
        exact ha d hd
    · have hb:¬ (k == NameKind.free)=true:=by simpa using hk
      rw [if_neg hb] at hd
      exact ha d hd
theorem clOf_keeps {cells:List (Str × Addr)} {x:Str}:∀ (names:List (Str × NameKind)) (acc:List (Str × Addr)),(acc.lookup x).isSome=true→((clOf cells names acc).lookup x).isSome=true
  | [],_,h=>h
  | (n,k)::r,acc,h=>by
    unfold clOf
    refine clOf_keeps r _ ?_
    by_cases hk:(k == NameKind.free)=true
    · rw [if_pos hk]
      cases hx:x == n with
      | true=>simp only [List.lookup_cons,hx,Option.isSome_some]
      | false=>simp only [List.lookup_cons,hx]; exact h
    · rw [if_neg hk]; exact h
theorem clOf_has {cells:List (Str × Addr)} {x:Str}:∀ (names:List (Str × NameKind)) (acc:List (Str × Addr)),(x,NameKind.free)∈names→((clOf cells names acc).lookup x).isSome=true
  | (n,k)::r,acc,h=>by
    unfold clOf
    rcases List.mem_cons.mp h with e|h
    · cases e
      refine clOf_keeps r _ ?_
      rw [if_pos (beq_self_eq_true _)]
      simp only [List.lookup_cons,beq_self_eq_true,Option.isSome_some]
    · exact clOf_has r _ h
theorem relab_lookup {env:Env} (x:Str):∀ names:List (Str × NameKind),
    (names.map fun (n,k)=>if (k == NameKind.free && env.scope.kind == .function && env.kindOf n == some .cell) then (n,NameKind.cell) else (n,k)).lookup x =
      (names.lookup x).map fun k=>if (k == NameKind.free && env.scope.kind == .function && env.kindOf x == some .cell) then NameKind.cell else k
  | []=>rfl
  | (n,k)::r=>by
    have ih:=relab_lookup (env:=env) x r
    rw [mZ1]
    cases hx:x == n with
    | true=>
      have:x=n:=eq_of_beq hx
      subst this
      show List.lookup x ((if (k == NameKind.free && env.scope.kind == .function && env.kindOf x == some .cell)=true then (x,NameKind.cell) else (x,k))::_)=_
      by_cases hc:(k == NameKind.free && env.scope.kind == .function && env.kindOf x == some .cell)=true
      · rw [if_pos hc]; simp only [List.lookup_cons,hx,Option.map_some]; rw [if_pos hc]
      · rw [if_neg hc]; simp only [List.lookup_cons,hx,Option.map_some]; rw [if_neg hc]
    | false=>
      show List.lookup x ((if (k == NameKind.free && env.scope.kind == .function && env.kindOf n == some .cell)=true then (n,NameKind.cell) else (n,k))::_)=_
      by_cases hc:(k == NameKind.free && env.scope.kind == .function && env.kindOf n == some .cell)=true
      · rw [if_pos hc]; simp only [List.lookup_cons,hx]; exact ih
      · rw [if_neg hc]; simp only [List.lookup_cons,hx]; exact ih
structure CScope (own caps:List Str) (scope osc:Scope):Prop where
  kind:scope.kind=.function
  nocell:∀ y∈scope.names,y.2≠.cell
  loc:∀ y∈scope.names,y.2=.local→scope.names.lookup y.1=some .local
  fr:∀ y∈scope.names,y.2=.free→osc.names.lookup y.1=some .cell∨osc.names.lookup y.1=some .free
  cap:∀ x∈caps,scope.names.lookup x=some .free
  nd:(own++caps).Nodup
def cxC (X:Cx) (scope:Scope) (N':List Str) (C:Addr) (fp:List Addr) (s:Shared) (H:Hp):Cx where
  prog:=X.prog
  w:=X.w
  K:=X.K
  mg:=X.mg
  base:=X.base
  A:=X.A
  N:=N'
  s₀:=s
  H₀:=H
  env:=compEnvC scope (clOf X.env.cells scope.names []) C X.env
  outer:=X.stack
  stack:=X.stack
  ex:=fp
  fn:=fun _=>false
  calm:=X.calm
  pn:=X.pn
  xe:=fun _ _=>False
def cSt (n:Nat) (js:List Nat) (σ:St):St:=List.replicate n none++js.map fun j=>(σ[j]?).join
def PF (X:Cx) (ifs:List Expr) (t:TT):Prop:=
  ∀ (pins:List (Addr × Obj)) (s:Shared) (σ:St) (H:Hp) (Q:Bool→Hp→Prop),Inv X pins σ H s→t σ H Q→wpAny (model X.prog X.w) X.A (testsOf ifs X.env) (TP X pins σ Q) X.xe s
def tYes:TT:=fun _ H Q=>Q true H
theorem pf_nil {X:Cx}:PF X [] tYes:=fun pins s σ H Q I h=>by
  show wpAny _ _ (forIn [] true _) _ _ s
  rw [List.forIn_nil]
  exact wpAny_pure ⟨H,I,h⟩
def tComp (n:Nat) (js:List Nat) (wi:TI) (g:TG) (tc:TT) (te:TE):TE:=fun σ H Q=>wi σ H fun J H1=>∀ D,H1 D=none→∃ W:Nat→Nat→List V→Hp→Prop,(∃ m,W 0 m [] (upd H1 D (.lst [])))∧∀ i m acc H,W i m acc H →
  H D=some (.lst acc)∧((J.stop i H∧Q (.ref D) H)∨(J.go i H∧acc.length<sizeLine∧∃ Nx:List V→Hp→Prop,(∀ acc' H',Nx acc' H'→∃ m',m'<m∧W (i+1) m' acc' H') ∧
    ∀ x H',J.yld i H x H'→g x (cSt n js σ) H' fun σ2 H2=>σ2.drop n=(cSt n js σ).drop n∧tc σ2 H2 fun b H3=>if b=true then te σ2 H3 fun v H4=>H4 D=some (.lst acc)∧Nx (acc++[v]) (upd H4 D (.lst (acc++[v]))) else H3 D=some (.lst acc)∧Nx acc H3))
section
variable {X:Cx} {pins:List (Addr × Obj)} {σ:St} {H:Hp} {s:Shared}
abbrev capN (X:Cx) (js:List Nat):List Str:=js.map fun j=>(X.N[j]?).getD Str.empty
theorem js_ok {X:Cx} {js:List Nat} (h:(js.all fun j=>decide (j<X.N.length))=true):∀ j∈js,∃ x,X.N[j]?=some x:=fun j hj=>by
  have:=of_decide_eq_true (List.all_eq_true.mp h j hj)
  exact ⟨X.N[j],List.getElem?_eq_getElem this⟩
theorem Inv.block {scope:Scope} {own:List Str} {js:List Nat} {fp:List Addr} {h':Heap} {t':Nat} {m:Str→Option Value} (I:Inv X pins σ H s) (S:CScope own (capN X js) scope X.env.scope) (hj:∀ j∈js,∃ x,X.N[j]?=some x)
    (hf:∀ b∈fp,FpOk X pins H b) (hfo:∀ b∈fp,∃ o,s.heap.get? b=some o) (hn:h'.Ns s.heap.objs.size m) (hk:∀ b o,s.heap.get? b=some o→h'.get? b=some o) :
    Inv (cxC X scope (own++capN X js) s.heap.objs.size fp s H) pins (cSt own.length js σ) H { s with heap:=h',toks:=t' }:=by
  have hfr:∀ y∈scope.names,y.2=.free→∃ c,X.env.cells.lookup y.1=some c:=fun y hy e=>I.ok.has y.1 (S.fr y hy e)
  have hcl:∀ x c,(clOf X.env.cells scope.names []).lookup x=some c→X.env.cells.lookup x=some c:=fun x c e=>clOf_lookup scope.names [] hfr (fun d z=>nomatch z) e
  have hlt:∀ b o,s.heap.get? b=some o→b≠s.heap.objs.size:=fun b o e=>Nat.ne_of_lt (Heap.lt_size e)
  have nstk:∀ b,b≠X.env.locals→b ∉ X.fs→b ∉ frs X.stack:=fun b h1 h2 hb=>(List.mem_cons.mp (I.stkSub b hb)).elim h1 h2
  have hrl:∀ x,(relabel scope X.env).names.lookup x=(scope.names.lookup x).map fun k=>if (k == NameKind.free && X.env.scope.kind == .function && X.env.kindOf x == some .cell) then NameKind.cell else k:=fun x=>relab_lookup x scope.names
  refine ⟨⟨I.ok.mod,S.kind,I.ok.glob,I.ok.blt,Nat.le_refl _,fun x y c h1 h2=>I.ok.inj x y c (hcl x c h1) (hcl y c h2),fun x hx=>?_,(fun x c z=>nomatch z),I.ok.hd,I.ok.frames,.inl rfl,fun b hb=>?_,I.bs,Nat.le_trans I.ok.bsz I.sz,fun b o e hb=>?_,fun b hb=>?_,I.stack,I.stkFree⟩,
    rfl,I.bare,Un.kept hk,⟨m,hn,fun i x v h1 h2 h3=>?_⟩,fun x c e=>?_,I.hok.fresh (Nat.le_refl _),fun x c e=>I.freeC x c (hcl x c e),fun p hp=>?_,I.hok.kept hk,?_⟩
  · have hx':(relabel scope X.env).names.lookup x=some .cell∨(relabel scope X.env).names.lookup x=some .free:=hx
    rw [hrl] at hx'
    cases e:scope.names.lookup x with
    | none=>rw [e] at hx'; rcases hx' with z|z <;> cases z
    | some k=>
      have hm:(x,k)∈scope.names:=PySem.mem_of_lookup e
      have hkf:k=.free:=by
        rw [e] at hx'
        cases k with
        | free=>rfl
        | cell=>exact absurd rfl (S.nocell _ hm)
        | _=>exfalso; revert hx'; simp
      subst hkf
      exact Option.isSome_iff_exists.mp (clOf_has scope.names [] hm)
  · obtain ⟨o,e⟩:=hfo b hb
    obtain ⟨_,_,_,_,f4,_⟩:=hf b hb
    exact ⟨hlt b o e,fun x c z=>f4 x c (hcl x c z)⟩
  · obtain ⟨_,_,_,f3,_⟩:=hf b hb
    rcases f3 with z|z
    · exact I.ok.noex b o e z
    · exact absurd (Nat.lt_of_lt_of_le (Heap.lt_size (I.ok.bs b o e).1) z) (Nat.lt_irrefl _)
  · obtain ⟨_,f1,f2,_⟩:=hf b hb
    exact nstk b f1 f2
  ·
    have h1':(own++capN X js)[i]?=some x:=h1
    have hi:own.length≤i:=by
      rcases Nat.lt_or_ge i own.length with z|z
      · exfalso
        unfold cSt at h2
        rw [List.getElem?_append_left (by simpa using z),List.getElem?_replicate] at h2
        split at h2 <;> cases h2
      · exact z
    rw [List.getElem?_append_right hi] at h1'
    unfold cSt at h2
    rw [List.getElem?_append_right (by simpa using hi),List.length_replicate,List.getElem?_map] at h2
    unfold capN at h1'
    rw [List.getElem?_map] at h1'
    cases ej:js[i - own.length]? with
    | none=>rw [ej] at h2; cases h2
    | some j=>
      rw [ej] at h1' h2
      obtain ⟨y,ey⟩:=hj j (List.mem_of_getElem? ej)
      have exy:y=x:=by
        have z:some ((X.N[j]?).getD Str.empty)=some x:=h1'
        rw [ey] at z
        exact Option.some.inj z
      subst exy
      have es:σ[j]?=some (some v):=by
        have z:some ((σ[j]?).join)=some (some v):=h2
        cases q:σ[j]? with
        | none=>rw [q] at z; cases z
        | some o=>rw [q] at z; cases o with
          | none=>cases z
          | some v'=>cases z; rfl
      have hcap:y∈capN X js:=List.mem_map.mpr ⟨j,List.mem_of_getElem? ej,by rw [ey]; rfl⟩
      have hfree:scope.names.lookup y=some .free:=S.cap y hcap
      have hm:(y,NameKind.free)∈scope.names:=PySem.mem_of_lookup hfree
      have ho:=S.fr _ hm rfl
      obtain ⟨m0,hn0,hl0⟩:=I.loc
      obtain ⟨u,r,l⟩:=hl0 j y v ey es (ho.elim (fun z=>.inr (.inl z)) fun z=>.inr (.inr z))
      refine ⟨u,r,.inr ⟨?_,?_⟩⟩
      · show (relabel scope X.env).names.lookup y=_∨(relabel scope X.env).names.lookup y=_
        rw [hrl,hfree,Option.map_some]
        by_cases hcc:(NameKind.free == NameKind.free && X.env.scope.kind == .function && X.env.kindOf y == some .cell)=true
        · rw [if_pos hcc]; exact .inl rfl
        · rw [if_neg hcc]; exact .inr rfl
      · rcases l with ⟨k,_⟩|⟨_,c,e,z⟩
        · have k':X.env.scope.names.lookup y=some .local:=k
          rcases ho with z|z <;> (rw [k'] at z; cases z)
        · obtain ⟨c',e'⟩:=Option.isSome_iff_exists.mp (clOf_has (cells:=X.env.cells) scope.names [] hm)
          have:=hcl y c' e'
          rw [e] at this
          cases this
          refine ⟨c,e',?_⟩
          obtain ⟨oc,ho',hd⟩:=z
          exact ⟨oc,hk c oc ho',hd⟩
  · obtain ⟨v,o,ho,hd⟩:=I.cell x c (hcl x c e)
    exact ⟨v,o,hk c o ho,hd⟩
  · obtain ⟨e,n,ne,nf,d⟩:=I.pin p hp
    exact ⟨hk _ _ e,n,hlt _ _ e,nstk p.1 ne nf,d⟩
  · unfold cSt
    show _=(own++capN X js).length
    simp
theorem Inv.unblock {scope:Scope} {N':List Str} {fp:List Addr} {σb:St} {H':Hp} {s':Shared} {h':Heap} (I:Inv X pins σ H s) (hf:∀ b∈fp,FpOk X pins H b)
    (B:Inv (cxC X scope N' s.heap.objs.size fp s H) pins σb H' s') (hs:Heap.SameBut s.heap.objs.size s'.heap h'):Inv X pins σ H' { s' with heap:=h' }:=by
  have hlt:∀ b o,s.heap.get? b=some o→b≠s.heap.objs.size:=fun b o e=>Nat.ne_of_lt (Heap.lt_size e)
  have hu:Un (frs X.stack) fp H H' s.heap s'.heap:=B.base
  have hfree:H' s.heap.objs.size=none:=B.free
  refine I.call' (s':={ s' with heap:=h' }) (ch:=fp) B.os ⟨fun b o e n hb hx=>?_,fun b o e n hb hx=>?_,hu.free,fun b o e hx=>?_,hu.tups,hu.frzs,hu.tbls⟩ (fun b u e=>?_) B.bare fun b hb=>?_
  · exact (hs.2 b (hlt b o e)).trans (hu.keep b o e n hb hx)
  · obtain ⟨sl,z⟩:=hu.slot b o e n hb hx
    exact ⟨sl,(hs.2 b (hlt b o e)).trans z⟩
  · obtain ⟨o',z⟩:=hu.there b o e hx
    exact ⟨o',(hs.2 b (hlt b o e)).trans z⟩
  · refine (B.hok b u e).stay (fun c v hc q=>(hs.2 c ?_).trans q) (fun _ q=>q) fun _ _ q=>q
    rintro rfl
    rcases hc with z|z
    · rw [← z,hfree] at e; cases e
    · rw [hfree] at z; cases z
  · obtain ⟨_,f1,f2,f3,f4,f5⟩:=hf b hb
    exact ⟨f3,f1,f4,f5⟩
end
section
variable {X:Cx} {elt tg iter:Expr} {ifs:List Expr} {scope:Scope} {pos:Pos} {own:List Str} {js:List Nat} {wi:TI} {g:TG} {tc:TT} {te:TE}
theorem comp_core (hc:X.calm=true) (S:CScope own (capN X js) scope X.env.scope) (hj:∀ j∈js,∃ x,X.N[j]?=some x) (hi:PI X tg iter wi)
    (hg:∀ C fp s H,PG (cxC X scope (own++capN X js) C fp s H) tg g) (ht:∀ C fp s H,PF (cxC X scope (own++capN X js) C fp s H) ifs tc) (he:∀ C fp s H,PE (cxC X scope (own++capN X js) C fp s H) elt te)
    {pins:List (Addr × Obj)} {σ:St} {H:Hp} {s:Shared} {Q:VK} (I:Inv X pins σ H s) (h:tComp own.length js wi g tc te σ H Q) {RR:Value→Addr→Result→Shared→Prop}
    (hRR:∀ D C s' m H',s'.heap.Ns C m→H' C=none→C≠X.env.locals→C ∉ X.fs→(∀ x c,X.env.cells.lookup x=some c→c≠C)→X.s₀.heap.objs.size≤C→(∀ p∈X.pn++pins,p.1≠C)→(∀ h',Heap.SameBut C s'.heap h'→Inv X pins σ H' { s' with heap:=h' })→Q (.ref D) H'→RR (.ref D) C (.ok .next) s') :
    wpAny (model X.prog X.w) X.A (eval iter X.env) (fun x s1=>wpAny (model X.prog X.w) X.A (pyIter x) (fun it s2=>wpAny (model X.prog X.w) X.A (newList []) (fun acc s3=>
      wpAny (model X.prog X.w) X.A (newFunctionEnv scope X.env.globals (clOf X.env.cells scope.names []) [] X.env.qual none .none (some X.env)) (fun cenv s4=>
        codeAny (model X.prog X.w) X.A (.compStart (.ListComp elt [⟨tg,iter,ifs,0⟩] scope pos) 0 it acc { cenv with scope:=relabel scope X.env }) (RR acc cenv.locals) s4) X.xe s3) X.xe s2) X.xe s1) X.xe s:=by
  refine thn (hi pins s σ H _ I h) fun v s1 h1=>thn h1 fun itv s2 h2=>?_
  obtain ⟨it,fp,tn,J,H2,e,I2,T,st2,f2,hq⟩:=h2
  subst e
  refine wpAny_newList ?_ (by simp)
  have I3:=I2.lnew (t':=s2.toks) (ys:=[]) (its:=[]) .nil (by simp)
  have hDn:H2 s2.heap.objs.size=none:=I2.fresh
  generalize hD:s2.heap.objs.size=D at I3 hDn ⊢
  generalize hH3:upd H2 D (.lst [])=H3 at I3
  generalize hs3:({ s2 with heap:=s2.heap.push { cls:=.type "list", data:=.seq ([]:List Value).toArray },toks:=s2.toks }:Shared)=s3 at I3
  have k3:∀ b o,s2.heap.get? b=some o→s3.heap.get? b=some o:=fun b o e=>by rw [← hs3]; exact Heap.get?_push_of_some _ e
  have st3:tn 0 s3.heap:=T.keep _ _ _ st2 fun b _ o e=>k3 b o e
  have fo2:∀ b∈fp,∃ o,s2.heap.get? b=some o:=fun b hb=>(T.obj _ _ st2 b hb).imp fun _ z=>z.1
  have neD:∀ b∈fp,b≠D:=fun b hb=>by
    obtain ⟨o,e⟩:=fo2 b hb
    rw [← hD]
    exact Nat.ne_of_lt (Heap.lt_size e)
  have f3:∀ b∈fp,FpOk X pins H3 b:=fun b hb=>by
    obtain ⟨a0,a1⟩:=f2 b hb
    exact ⟨by rw [← hH3,upd_ne (neD b hb)]; exact a0,a1⟩
  have fo3:∀ b∈fp,∃ o,s3.heap.get? b=some o:=fun b hb=>(fo2 b hb).imp fun o e=>k3 b o e
  obtain ⟨W,⟨m0,w0⟩,turn⟩:=hq D hDn
  rw [hH3] at w0
  refine wpAny_newFunctionEnv S.nocell (by intro y hy; simp at hy) (fun h4 hns4 hsb4=>?_) S.kind
  have k4:∀ b o,s3.heap.get? b=some o→h4.get? b=some o:=fun b o e=>hsb4.extBut b o (Nat.ne_of_lt (Heap.lt_size e)) (Heap.get?_push_of_some _ e)
  have B4:=I3.block (t':=s3.toks+([]:List (Str × Value)).length) S hj f3 fo3 hns4 k4
  have st4:tn 0 h4:=T.keep _ _ _ st3 fun b _ o e=>k4 b o e
  have f4:∀ b∈fp,FpOk (cxC X scope (own++capN X js) s3.heap.objs.size fp s3 H3) pins H3 b:=fun b hb=>by
    obtain ⟨a0,a1,a2,a3,a4,a5⟩:=f3 b hb
    obtain ⟨o,e⟩:=fo3 b hb
    exact ⟨a0,(B4.ok.exf b hb).1,B4.ok.exfs b hb,.inl hb,(B4.ok.exf b hb).2,a5⟩
  have nL:s3.heap.objs.size≠X.env.locals:=Nat.ne_of_gt I3.lt
  have nF:s3.heap.objs.size ∉ X.fs:=I3.nofs (Nat.le_refl _)
  have nC:∀ x c,X.env.cells.lookup x=some c→c≠s3.heap.objs.size:=fun x c e=>by
    obtain ⟨_,o,ho,_⟩:=I3.cell x c e
    exact Nat.ne_of_lt (Heap.lt_size ho)
  have loop:∀ s5:Shared,s5={ s3 with heap:=h4,toks:=s3.toks+([]:List (Str × Value)).length } →
      codeAny (model X.prog X.w) X.A (.compLoop (.ListComp elt [⟨tg,iter,ifs,0⟩] scope pos) 0 (.ref it) (.ref D) (compEnvC scope (clOf X.env.cells scope.names []) s3.heap.objs.size X.env)) (RR (.ref D) s3.heap.objs.size) s5:=by
    rintro s5 rfl
    have stat:∀ {H':Hp},(∀ b∈fp,H' b=none)→∀ b∈fp,FpOk (cxC X scope (own++capN X js) s3.heap.objs.size fp s3 H3) pins H' b:=fun hn b hb=>⟨hn b hb,(f4 b hb).2⟩
    refine compLoop_gen rfl (fun n s'=>∃ i acc H',Inv (cxC X scope (own++capN X js) s3.heap.objs.size fp s3 H3) pins (cSt own.length js σ) H' s'∧tn i s'.heap∧(∀ b∈fp,H' b=none)∧W i n acc H') ?_ m0
      ⟨0,[],H3,B4,st4,fun b hb=>(f3 b hb).1,w0⟩
    rintro n s6 ⟨i,acc,H6,B6,st6,fr6,w6⟩
    obtain ⟨hacc,way⟩:=turn i n acc H6 w6
    rcases way with ⟨stop,q⟩|⟨go,hz,Nx,hN,step⟩
    · refine thn (T.done (cxC X scope (own++capN X js) s3.heap.objs.size fp s3 H3) rfl rfl rfl hc i pins s6 _ H6 _ B6 (stat fr6) st6 stop) fun r s7 ⟨hr,B7⟩=>?_
      subst hr
      obtain ⟨m,hm,_⟩:=B7.loc
      exact hRR D _ s7 m H6 hm B7.free nL nF nC I3.sz (fun p hp=>Nat.ne_of_lt (Heap.lt_size (I3.pin p hp).1)) (fun h' hs=>I3.unblock f3 B7 hs) q
    · refine thn (T.item (cxC X scope (own++capN X js) s3.heap.objs.size fp s3 H3) rfl rfl rfl hc i pins s6 _ H6 _ B6 (stat fr6) st6 go) fun r s7 ⟨u,hr,h7⟩=>?_
      subst hr
      refine thn h7 fun _ s8 ⟨x,H8,B8,r8,y8,st8,fr8⟩=>?_
      have B8':=B8.pinned (stat fr8) (T.obj _ _ st8)
      have away:∀ {s9:Shared} {σ9:St} {H9:Hp} {acc':List V},Inv (cxC X scope (own++capN X js) s3.heap.objs.size fp s3 H3) (pins++pinsAt fp s8.heap) σ9 H9 s9→σ9.drop own.length=(cSt own.length js σ).drop own.length→Nx acc' H9 →
          ∃ m',m'<n∧∃ i acc H',Inv (cxC X scope (own++capN X js) s3.heap.objs.size fp s3 H3) pins (cSt own.length js σ) H' s9∧tn i s9.heap∧(∀ b∈fp,H' b=none)∧W i m' acc H':=fun {s9 σ9 H9 acc'} B9 hd nx=>by
        obtain ⟨m',hm,w9⟩:=hN acc' H9 nx
        refine ⟨m',hm,i+1,acc',H9,B9.unpinned.weak ?_ ?_,T.keep _ _ _ st8 fun b hb o e=>(B9.pin (b,o) (List.mem_append_right _ (List.mem_append_right _ (mem_pinsAt hb e)))).1,fun b hb=>?_,w9⟩
        · rw [B9.len,B6.len]
        · intro k v hv
          unfold cSt at hv
          have hk:own.length≤k:=by
            rcases Nat.lt_or_ge k own.length with z|z
            · exfalso
              rw [List.getElem?_append_left (by simpa using z),List.getElem?_replicate] at hv
              split at hv <;> cases hv
            · exact z
          have e1:σ9[k]?=(σ9.drop own.length)[k - own.length]?:=by rw [List.getElem?_drop]; congr 1; omega
          rw [e1,hd,List.getElem?_drop]
          have e2:own.length+(k - own.length)=k:=by omega
          rw [e2]
          exact hv
        · obtain ⟨o,e,d⟩:=T.obj _ _ st8 b hb
          exact (B9.pin (b,o) (List.mem_append_right _ (List.mem_append_right _ (mem_pinsAt hb e)))).2.1
      refine wpAny_mono (hg _ _ _ _ _ s8 _ H8 x u _ B8' r8 (step x H8 y8)) (fun _ s9 ⟨σ9,H9,B9,hd9,q9⟩=>?_) fun _ _ f=>f.elim
      refine wpAny_mono (ht _ _ _ _ _ s9 σ9 H9 _ B9 q9) (fun b s10 ⟨H10,B10,q10⟩=>?_) fun _ _ f=>f.elim
      cases b with
      | false=>
        rw [if_neg Bool.false_ne_true] at q10 ⊢
        exact away B10 hd9 q10.2
      | true=>
        rw [if_pos rfl] at q10 ⊢
        refine wpAny_mono (he _ _ _ _ _ s10 σ9 H10 _ B10 q10) (fun y s11 ⟨z,H11,B11,r11,q11⟩=>?_) fun _ _ f=>f.elim
        obtain ⟨hl11,nx⟩:=q11
        refine wpAny_mono (mt_append (X:=cxC X scope (own++capN X js) s3.heap.objs.size fp s3 H3) _ s11 σ9 H11 (.ref D) [z] (.ref D) [y] (fun _ H12=>Nx (acc++[z]) H12) B11 rfl (.cons r11 .nil) ⟨D,acc,z,rfl,rfl,hl11,hz,nx⟩) (fun _ s12 ⟨_,H12,B12,_,q12⟩=>?_) fun _ _ f=>f.elim
        exact away B12 hd9 q12
  exact codeAny_compStart_list (loop _ rfl) (T.self X.A 0 _ _ _ st4 (loop _ rfl))
theorem pe_comp (own caps:List Str) (js:List Nat) (hc:X.calm=true) {osc:Scope} (S:CScope own caps scope osc) (hi:PI X tg iter wi)
    (hg:∀ C fp s H,PG (cxC X scope (own++caps) C fp s H) tg g) (ht:∀ C fp s H,PF (cxC X scope (own++caps) C fp s H) ifs tc) (he:∀ C fp s H,PE (cxC X scope (own++caps) C fp s H) elt te)
    (ho:X.env.scope=osc:=by rfl) (hcp:capN X js=caps:=by rfl) (hj:(js.all fun j=>decide (j<X.N.length))=true:=by rfl)
    (hs:∀ x,foldedSetIterable iter X.env x=pure x:=by intro _; rfl):PE X (.ListComp elt [⟨tg,iter,ifs,0⟩] scope pos) (tComp own.length js wi g tc te):=by
  subst ho
  subst hcp
  intro pins s σ H Q I h
  have hfr:∀ y∈scope.names,y.2=.free→∃ c,X.env.cells.lookup y.1=some c:=fun y hy e=>I.ok.has y.1 (S.fr y hy e)
  rw [eval_ListComp]
  refine wpAny_comprehension_free (use:=none) rfl hs (closureFor_eq hfr) S.kind S.loc ?_
  refine comp_core hc S (js_ok hj) hi hg ht he I h (RR:=fun acc C=>compPost (model X.prog X.w) X.A X.xe none (EP X pins σ Q) acc C) ?_
  intro D C s' m H' hn hf h1 h2 h3 h4 h5 hI hq
  exact ⟨m,hn,fun h' hs'=>⟨.ref D,H',hI h' hs',rfl,hq⟩⟩
end
mutual
inductive Has (K:PySem.W.Frag) (H:Hp):V→PyData→Prop
  | non:Has K H .non .none
  | bl (b:Bool):Has K H (.bl b) (.bool b)
  | int (i:Int):Has K H (.int i) (.int i)
  | str (x:Str):Has K H (.str x) (.str x)
  | lst {a:Addr} {xs:List V} {ds:List PyData}:SqL K H a xs→HasAll K H xs ds→Has K H (.ref a) (.list ds)
  | tup {a:Addr} {xs:List V} {ds:List PyData}:SqT K H a xs→HasAll K H xs ds→Has K H (.ref a) (.tuple ds)
inductive HasAll (K:PySem.W.Frag) (H:Hp):List V→List PyData→Prop
  | nil:HasAll K H [] []
  | cons {x:V} {xs:List V} {d:PyData} {ds:List PyData}:Has K H x d→HasAll K H xs ds→HasAll K H (x::xs) (d::ds)
end
section
variable {X:Cx} {pins:List (Addr × Obj)} {σ:St} {H:Hp} {s:Shared}
mutual
theorem Has.reads (I:Inv X pins σ H s):∀ {x:V} {d:PyData} {u:Value},Has X.K H x d→RelV x u→∃ as,Reads s.heap u d as
  | _,_,_,.non,r=>by cases r; exact ⟨_,.none⟩
  | _,_,_,.bl b,r=>by cases r; exact ⟨_,.bool b⟩
  | _,_,_,.int i,r=>by obtain ⟨t,rfl⟩:=r; exact ⟨_,.int i t⟩
  | _,_,_,.str x,r=>by obtain ⟨t,rfl⟩:=r; exact ⟨_,.str x t⟩
  | _,_,_,.lst h hs,r=>by
    cases r
    obtain ⟨its,rv,⟨o,n,ho,hc,hd,hs'⟩,hz⟩:=I.list h
    obtain ⟨as,ra⟩:=HasAll.reads I hs rv
    exact ⟨_,.list ho hc hs' ra⟩
  | _,_,_,.tup h hs,r=>by
    cases r
    obtain ⟨its,rv,⟨o,ho,hc,n,hs'⟩,hz⟩:=I.tuple h
    obtain ⟨as,ra⟩:=HasAll.reads I hs rv
    exact ⟨_,.tuple ho hc hs' ra⟩
theorem HasAll.reads (I:Inv X pins σ H s):∀ {xs:List V} {ds:List PyData} {us:List Value},HasAll X.K H xs ds→Vals xs us→∃ as,ReadsAll s.heap us ds as
  | _,_,_,.nil,r=>by cases r; exact ⟨_,.nil⟩
  | _,_,_,.cons h hs,.cons r rs=>by
    obtain ⟨as,ra⟩:=Has.reads I h r
    obtain ⟨bs,rb⟩:=HasAll.reads I hs rs
    exact ⟨_,.cons ra rb⟩
end
end
section
variable {X:Cx}
theorem vals_bl:∀ {bs:List Bool} {us:List Value},Vals (bs.map V.bl) us→us=bs.map Value.bool
  | [],_,r=>by cases r; rfl
  | b::bs,_,.cons r t=>by
    cases r
    rw [vals_bl t]
    rfl
theorem range_all (bs:List Bool):(List.range bs.length).all (fun i=>bs.getD i false)=bs.all id:=by
  rw [Bool.eq_iff_iff,List.all_eq_true,List.all_eq_true]
  constructor
  · intro h b hb
    obtain ⟨i,hi,e⟩:=List.mem_iff_getElem.mp hb
    have:=h i (List.mem_range.mpr hi)
    rw [List.getD_eq_getElem?_getD,List.getElem?_eq_getElem hi] at this
    rw [← e]; exact this
  · intro h i hi
    have hi:=List.mem_range.mp hi
    rw [List.getD_eq_getElem?_getD,List.getElem?_eq_getElem hi]
    exact h _ (List.getElem_mem hi)
theorem range_any (bs:List Bool):(List.range bs.length).any (fun i=>bs.getD i false)=bs.any id:=by
  rw [Bool.eq_iff_iff,List.any_eq_true,List.any_eq_true]
  constructor
  · rintro ⟨i,hi,h⟩
    have hi:=List.mem_range.mp hi
    rw [List.getD_eq_getElem?_getD,List.getElem?_eq_getElem hi] at h
    exact ⟨_,List.getElem_mem hi,h⟩
  · rintro ⟨b,hb,h⟩
    obtain ⟨i,hi,e⟩:=List.mem_iff_getElem.mp hb
    refine ⟨i,List.mem_range.mpr hi,?_⟩
    rw [List.getD_eq_getElem?_getD,List.getElem?_eq_getElem hi,e]; exact h
theorem truthOf_bools (prog:Program) (w:World) (A:Around) (bs:List Bool):TruthOf prog w A (fun i v=>((bs.map Value.bool).toArray)[i]?=some v) fun i=>bs.getD i false:=by
  intro i v s Q E hP hQ
  simp only [List.getElem?_toArray,List.getElem?_map] at hP
  cases e:bs[i]? with
  | none=>rw [e] at hP; cases hP
  | some b=>
    rw [e] at hP
    cases hP
    dsimp only at hQ
    rw [List.getD_eq_getElem?_getD,e] at hQ
    exact wpAny_truthy_bool hQ
theorem call_all (hc:X.calm=true):CallR X (.builtin "all") (fun xs H Q=>∃ (p:Addr) (bs:List Bool),xs=[.ref p]∧SqL X.K H p (bs.map V.bl)∧Q (.bl (bs.all id)) H):=by
  intro pins s σ H xs us Q I r h
  obtain ⟨p,bs,rfl,hq,q⟩:=h
  obtain ⟨u,rfl,rx⟩:=vals1 r
  cases rx
  obtain ⟨its,rv,pl,hz⟩:=I.list hq
  have e:=vals_bl rv
  subst e
  have hne:p≠s.heap.objs.size:=by obtain ⟨o,n,ho,_⟩:=pl; exact Nat.ne_of_lt (Heap.lt_size ho)
  refine call_all_walk (wpAny_pyIter_list pl.isList ?_)
  refine ⟨_,_,_,_,_,_,fun i=>bs.getD i false,rfl,Walks.list (A:=X.A.in1) (show X.A.in1.handled=none from I.ok.hd hc) s.heap.objs.size p hne (bs.map Value.bool).toArray,⟨⟨_,Heap.get?_push_size _ rfl,rfl,rfl⟩,(pl.keeps fun b o e=>Heap.get?_push_of_some _ e).isList⟩,truthOf_bools _ _ _ bs,fun h' tk hk=>?_⟩
  refine ⟨.bl (bs.all id),H,I.kept (t':=tk) fun b o e=>hk b o (by simp; exact Nat.ne_of_lt (Heap.lt_size e)) (Heap.get?_push_of_some _ e),?_,q⟩
  show Value.bool _=Value.bool _
  rw [← range_all]
  simp
def clsV:V→Value
  | .ty n=>.type n
  | .ref a=>.ref a
  | _=>.none
theorem call_isinst:CallR X (.builtin "isinstance") (fun xs H Q=>∃ x c t b,xs=[x,c]∧(∃ n,c=.ty n)∧TyOf X.K H x t∧PySem.W.kitOne X.K t (clsV c)=some b∧Q (.bl b) H):=by
  intro pins s σ H xs us Q I r h
  obtain ⟨x,c,t,b,rfl,⟨n,rfl⟩,ty,e,q⟩:=h
  obtain ⟨u,w',rfl,rx,rc⟩:=vals2 r
  cases rc
  exact isinst_ok I rx ty e fun tk=>⟨.bl b,H,I.tok _,rfl,q⟩
end
end L2
namespace L2
open PySem PySem.Spec PyProof.Rows
def Def (K:PySem.W.Frag) (mg:Str→Option Value) (x:Str) (st:Stmt):Prop:=∃ f fd,mg x=some (.ref f)∧Fun K x x st f fd
def Own (P:Program) (w:World) (K:PySem.W.Frag) (mg:Str→Option Value) (base:Heap) (k:Nat) (x:Str) (ps:List Str) (sp:Sp):Prop:=
  ∃ f fd,mg x=some (.ref f)∧PySem.W.keepIn K (.ref f)=true∧Binds K fd ps []∧FnOk P w K mg base CX0 k f fd ps sp
theorem Def.own {P:Program} {w:World} {K:PySem.W.Frag} {mg:Str→Option Value} {base:Heap} {x:Str} {st:Stmt} {N ps:List Str} {k:Nat} {sp:Sp} (D:Def K mg x st) (S:FnScope N ps (defScope st))
    (hb:∀ (kV doc pm:Value) (an:Option Addr) (cdv ct:Value) (us:List Value),us.length=ps.length→bindArgs (PySem.W.fnOf x x (defArgs st) (defBody st) (defScope st) .none kV doc pm an cdv ct) ⟨us,[]⟩=pure (ps.zip us))
    (len:∀ vs H Q E,sp vs H Q E→vs.length=ps.length)
    (hbody:∀ (f:Addr) (cdv:Value) (A:Around) (outer:List Env) (s:Shared) (H:Hp) (vs:List V) (Q:VK) (E:XK),Room k (A.deeper (envOfC x (defScope st) s.heap.objs.size f cdv))→sp vs H Q E →
      ∃ t,PSs (cxOf CX0 P w K mg base N x (defScope st) f cdv A outer s H E).nox (defBody st) t∧t { nx:=fun _ H'=>Q .non H',rt:=Q } (start N vs) H):Own P w K mg base (k+1) x ps sp:=by
  obtain ⟨f,fd,hm,F⟩:=D
  exact ⟨f,fd,hm,F.kp,F.binds hb,F.ok S len (hbody f)⟩
theorem def_mk {K:PySem.W.Frag} {h:Heap} {mg:Str→Option Value} (X:K.In h) (G:h.Ns mainGlobals mg) {x:Str} {st:Stmt} {f:Addr} {oc:Value} {od an:Option Addr} {osl:Array (Option Value)} {kV doc pm cdv ct:Value}
    (a:PySem.W.nsIn K mainGlobals x=some (some (.ref f)))
    (l:K.lookup f=some ⟨oc,od,.func (PySem.W.fnOf x x (defArgs st) (defBody st) (defScope st) .none kV doc pm an cdv ct),osl⟩) (c:PySem.W.codeIn K cdv x=true) (k:PySem.W.keepIn K (.ref f)=true):Def K mg x st:=
  ⟨f,_,PySem.W.mg_of X G a,fun_mk l c k⟩
section
variable {X:Cx} {j k:Nat} {x:Str} {ps:List Str} {sp:Sp} {p pos:Pos} {e:Expr} {es:List Expr} {t:TA}
theorem pe_fn (F:Own X.prog X.w X.K X.mg X.base j x ps sp) (hr:Room k X.A) (ha:PA X (e::es) t) (hk:j≤k:=by decide) (hg:Gl X x:=by rfl)
    (hdb:(x == ("__debug__":Str))=false:=by decide) (he:starEach (e::es) X.env=(false,eval e X.env)::starEach es X.env:=by rfl) (hpl:(backTo pos (starEach es X.env)).any (·.1)=false:=by rfl) :
    PE X (.Call (.Name x p) (e::es) [] pos) (tCall sp [] E0 t):=by
  obtain ⟨f,fd,hm,kp,hb,F⟩:=F
  exact pe_call F (hr.mono hk) hg hm kp hb .nil pass0 ha hdb he hpl
end
def Blt (mg:Str→Option Value):Prop:=∀ x:Str,x∈(["len","any","all","max","min","isinstance","list","tuple","int","bool","str","dict","range"]:List Str)→mg x=none
theorem blt_mk {K:PySem.W.Frag} {h:Heap} {mg:Str→Option Value} (X:K.In h) (G:h.Ns mainGlobals mg) (z0:PySem.W.nsIn K mainGlobals "len"=some none) (z1:PySem.W.nsIn K mainGlobals "any"=some none) (z2:PySem.W.nsIn K mainGlobals "all"=some none) (z3:PySem.W.nsIn K mainGlobals "max"=some none) (z4:PySem.W.nsIn K mainGlobals "min"=some none) (z5:PySem.W.nsIn K mainGlobals "isinstance"=some none) (z6:PySem.W.nsIn K mainGlobals "list"=some none) (z7:PySem.W.nsIn K mainGlobals "tuple"=some none) (z8:PySem.W.nsIn K mainGlobals "int"=some none) (z9:PySem.W.nsIn K mainGlobals "bool"=some none) (z10:PySem.W.nsIn K mainGlobals "str"=some none) (z11:PySem.W.nsIn K mainGlobals "dict"=some none) (z12:PySem.W.nsIn K mainGlobals "range"=some none):Blt mg:=by
  intro x hx
  simp only [List.mem_cons,List.not_mem_nil,or_false] at hx
  rcases hx with rfl|rfl|rfl|rfl|rfl|rfl|rfl|rfl|rfl|rfl|rfl|rfl|rfl
  · exact PySem.W.mg_none_of X G z0
  · exact PySem.W.mg_none_of X G z1
  · exact PySem.W.mg_none_of X G z2
  · exact PySem.W.mg_none_of X G z3
  · exact PySem.W.mg_none_of X G z4
  · exact PySem.W.mg_none_of X G z5
  · exact PySem.W.mg_none_of X G z6
  · exact PySem.W.mg_none_of X G z7
  · exact PySem.W.mg_none_of X G z8
  · exact PySem.W.mg_none_of X G z9
  · exact PySem.W.mg_none_of X G z10
  · exact PySem.W.mg_none_of X G z11
  · exact PySem.W.mg_none_of X G z12
theorem bt_len:bootBuiltins "len"=some (.builtin "len"):=by decide +kernel
theorem bt_any:bootBuiltins "any"=some (.builtin "any"):=by decide +kernel
theorem bt_all:bootBuiltins "all"=some (.builtin "all"):=by decide +kernel
theorem bt_isinstance:bootBuiltins "isinstance"=some (.builtin "isinstance"):=by decide +kernel
theorem bt_list:bootBuiltins "list"=some (.type "list"):=by decide +kernel
theorem bt_tuple:bootBuiltins "tuple"=some (.type "tuple"):=by decide +kernel
theorem bt_int:bootBuiltins "int"=some (.type "int"):=by decide +kernel
theorem bt_bool:bootBuiltins "bool"=some (.type "bool"):=by decide +kernel
theorem bt_str:bootBuiltins "str"=some (.type "str"):=by decide +kernel
theorem bt_dict:bootBuiltins "dict"=some (.type "dict"):=by decide +kernel
end L2
namespace HT
open PySem PySem.Spec PyProof.Rows
section
variable {prog:Program} {w:World} {A:Around} {E:Value→Shared→Prop} {s:Shared}
theorem getItem_tuple_whole {t sl:Addr} {items:Array Value} {vl vu:Value} {lo hi:Option Int} {Q:Value→Shared→Prop} (ht:IsTup s.heap t items) (hs:s.heap.IsSliceOf sl vl vu .none) (pl:IsPart vl lo) (pu:IsPart vu hi)
    (hw:sIx items.size 0 lo=0∧sIx items.size items.size hi=items.size)
    (h:Q (.ref t) s):wpAny (model prog w) A (getItem (.ref t) (.ref sl)) Q E s:=by
  obtain ⟨os,hos,hcs,hds⟩:=id hs
  have hTs:s.TypeIs (.ref sl) "slice":=⟨os,hos,hcs⟩
  unfold getItem
  try with_reducible refine wpAny_holding ?_
  first|refine wpAny_bind (wpAny_pure ?_)|skip
  refine wpAny_bind (wpAny_sequenceKey ht.typeIs (by decide) ?_)
  refine wpAny_bind (wpAny_callSpecial?_slot (name:=Str.ofString "__getitem__") ht.typeIs PyProof.Rows.slot_tuple_getitem
    (wpAny_call_entry PyProof.Rows.slot_tuple_getitem ht.typeIs entry_tuple_getitem ?_ (args_tuple_getitem _ _)))
  show wpAny _ _ (Builtin.Tuple.tupleItemsOf (.ref t) >>= _) _ _ s
  refine wpAny_bind (tupleItemsOf_ ht ?_)
  refine wpAny_bind (wpAny_typeOf hTs ?_)
  rw [if_pos (by decide)]
  refine wpAny_bind (sliceApplied_gen hs pl pu ?_)
  have hyes:(((sIx items.size 0 lo:Nat):Int) == 0 && (1:Int) == 1 && (sIx items.size items.size hi - sIx items.size 0 lo) == items.size)=true:=by
    rw [hw.1,hw.2]; simp
  show wpAny _ _ (if (((sIx items.size 0 lo:Nat):Int) == 0 && (1:Int) == 1 && (sIx items.size items.size hi - sIx items.size 0 lo) == items.size)=true then _ else _) _ _ s
  rw [if_pos hyes]
  unfold Builtin.Tuple.tupleIsExact
  refine wpAny_bind (wpAny_bind (wpAny_typeOf ht.typeIs (wpAny_pure ?_)))
  rw [if_pos (by decide)]
  exact wpAny_bind (wpAny_rule (wpAny_pure ⟨_,rfl,wpAny_pure h⟩))
end
end HT
namespace L2
open PySem PySem.Spec PyProof.Rows
section
variable {X:Cx}
def rSlW (K:PySem.W.Frag):V→Option Int→Option Int→Hp→VK→Prop:=fun x lo hi H Q=>∃ a xs,x=.ref a∧SqT K H a xs∧((HT.sIx xs.length 0 lo=0∧HT.sIx xs.length xs.length hi=xs.length)→Q (.ref a) H) ∧
  (¬ (HT.sIx xs.length 0 lo=0∧HT.sIx xs.length xs.length hi=xs.length)→∀ p,H p=none→Q (.ref p) (upd H p (.tup (cutV xs lo hi))))
theorem sl_tupW:SlR X (rSlW X.K):=by
  intro pins s σ H x v vl vu lo hi sl Q I rx hs pl pu h
  obtain ⟨a,xs,rfl,hx,q1,q2⟩:=h
  by_cases hw:HT.sIx xs.length 0 lo=0∧HT.sIx xs.length xs.length hi=xs.length
  · cases rx
    obtain ⟨its,r,ht,hz⟩:=I.tuple hx
    have hlen:its.toArray.size=xs.length:=by rw [List.size_toArray]; exact r.length.symm
    refine ⟨"tuple", _,PyProof.Rows.slot_tuple_getitem.lookup,ht.typeIs,?_⟩
    exact HT.getItem_tuple_whole ht hs pl pu (by rw [hlen]; exact hw) ⟨.ref a,H,I,rfl,q1 hw⟩
  · exact sl_tup pins s σ H _ v vl vu lo hi sl Q I rx hs pl pu ⟨a,xs,rfl,hx,hw,q2 hw⟩
end
end L2
namespace L2
open PySem PySem.Spec PyProof.Rows
section
variable {X:Cx} (K:PySem.W.Frag)
theorem ix_tupK (h:X.K=K:=by rfl):IxR X (rIxT K):=by subst h; exact ix_tup
theorem sl_listK (h:X.K=K:=by rfl):SlR X (rSlL K):=by subst h; exact sl_list
theorem sl_tupK (h:X.K=K:=by rfl):SlR X (rSlW K):=by subst h; exact sl_tupW
def rLen (K:PySem.W.Frag):List V→Hp→VK→Prop:=fun xs H Q=>∃ p ys,xs=[.ref p]∧(SqL K H p ys∨SqT K H p ys)∧Q (.int ys.length) H
theorem call_lenK (h:X.K=K:=by rfl):CallR X (.builtin "len") (rLen K):=by subst h; exact call_len_seq
theorem pi_listK {tg l:Expr} {tl:TE} (hl:PE X l tl) (h:X.K=K:=by rfl):PI X tg l (iList K tl):=by subst h; exact pi_list hl
theorem pi_tupK {tg l:Expr} {tl:TE} (hl:PE X l tl) (h:X.K=K:=by rfl):PI X tg l (iTup K tl):=by subst h; exact pi_tup hl
theorem pg_tupK {es:List Expr} {k:Nat} {t:TGs} {n:Nat} {pos:Pos} (hc:X.calm=true) (hg:PGs X es t)
    (hn:(assignEach es X.env).length=n:=by rfl) (hst:(assignEach es X.env).findIdx? (·.1)=none:=by rfl) (h:X.K=K:=by rfl):PG X (.Tuple es k pos) (gTup K n t):=by
  subst h; exact pg_tup hc hg hn hst
theorem op_notinK (h:X.K=K:=by rfl):OpR X (compareOp .NotIn) (rIn K true):=by subst h; exact op_notIn_seq
theorem pe_fldK {e:Expr} {ta:TE} {f:Str} {pos:Pos} (he:PE X e ta) (hb:attributeBase e f X.env (eval e X.env)=eval e X.env:=by rfl) (h:X.K=K:=by rfl):PE X (.Attribute e f pos) (tFld K ta f):=by subst h; exact pe_fld he hb
end
end L2
namespace L2
open PySem PySem.Spec PyProof.Rows
def CompW (n:Nat) (js:List Nat) (g:TG) (tc:TT) (te:TE) (σ:St) (Q:VK) (J:It) (H1:Hp):Prop:=
  ∀ D,H1 D=none→∃ W:Nat→Nat→List V→Hp→Prop,(∃ m,W 0 m [] (upd H1 D (.lst [])))∧∀ i m acc H,W i m acc H →
    H D=some (.lst acc)∧((J.stop i H∧Q (.ref D) H)∨(J.go i H∧acc.length<sizeLine∧∃ Nx:List V→Hp→Prop,(∀ acc' H',Nx acc' H'→∃ m',m'<m∧W (i+1) m' acc' H') ∧
      ∀ x H',J.yld i H x H'→g x (cSt n js σ) H' fun σ2 H2=>σ2.drop n=(cSt n js σ).drop n∧tc σ2 H2 fun b H3=>if b=true then te σ2 H3 fun v H4=>H4 D=some (.lst acc)∧Nx (acc++[v]) (upd H4 D (.lst (acc++[v]))) else H3 D=some (.lst acc)∧Nx acc H3))
section
variable {n:Nat} {js:List Nat} {g:TG} {tc:TT} {te:TE} {σ:St} {Q:VK} {H1:Hp}
theorem comp_list {K:PySem.W.Frag} {a:Addr} {xs:List V} (hz:xs.length≤sizeLine) (Pv:Addr→Nat→List V→Hp→Prop) (h0:∀ D,H1 D=none→Pv D 0 [] (upd H1 D (.lst [])))
    (hl:∀ D i acc H,H1 D=none→i≤xs.length→Pv D i acc H→H D=some (.lst acc)∧SqL K H a xs∧acc.length≤i)
    (hs:∀ D i x acc H,H1 D=none→xs[i]?=some x→Pv D i acc H→g x (cSt n js σ) H fun σ2 H2=>σ2.drop n=(cSt n js σ).drop n∧tc σ2 H2 fun b H3=>if b=true then te σ2 H3 fun v H4=>H4 D=some (.lst acc)∧Pv D (i+1) (acc++[v]) (upd H4 D (.lst (acc++[v]))) else H3 D=some (.lst acc)∧Pv D (i+1) acc H3)
    (hd:∀ D acc H,H1 D=none→Pv D xs.length acc H→Q (.ref D) H):CompW n js g tc te σ Q (Itl K a) H1:=by
  intro D hD
  refine ⟨fun i m acc H=>m=xs.length - i∧i≤xs.length∧Pv D i acc H,⟨xs.length,by simp,Nat.zero_le _,h0 D hD⟩,?_⟩
  rintro i m acc H ⟨rfl,hi,p⟩
  obtain ⟨e1,q,e3⟩:=hl D i acc H hD hi p
  refine ⟨e1,?_⟩
  by_cases hlt:i<xs.length
  · refine .inr ⟨⟨xs,xs[i],q,by simp [hlt]⟩,by omega,Pv D (i+1),fun acc' H' p'=>⟨xs.length - (i+1),by omega,rfl,hlt,p'⟩,fun x H' y=>?_⟩
    obtain ⟨e,y⟩:=y
    subst e
    exact hs D i x acc _ hD (y xs q) p
  · have e:i=xs.length:=by omega
    subst e
    exact .inl ⟨⟨xs,q,Nat.le_refl _⟩,hd D acc H hD p⟩
theorem Same.upd_new {H:Hp} {a:Addr} {o:HO} (h:H a=none):Same H (upd H a o):=fun b u e=>by
  rw [upd_ne (ne_of_none e h)]
  exact e
theorem Same.upd {H0 H:Hp} {a:Addr} {o:HO} (e:Same H0 H) (h:H0 a=none):Same H0 (upd H a o):=fun b u q=>by
  rw [upd_ne (ne_of_none q h)]
  exact e b u q
theorem gName_mono (i:Nat):∀ (x:V) (σ:St) (H:Hp) (P P':St→Hp→Prop),(∀ σ2 H2,P σ2 H2→P' σ2 H2)→gName i x σ H P→gName i x σ H P':=fun _ _ _ _ _ h q=>h _ _ q
end
theorem cxOf_K {CX:CXT} {P:Program} {w:World} {K:PySem.W.Frag} {mg:Str→Option Value} {base:Heap} {N:List Str} {qual:Str} {scope:Scope} {f:Addr} {cd:Value} {A:Around} {outer:List Env} {s:Shared} {H:Hp} {E:XK} :
    (cxOf CX P w K mg base N qual scope f cd A outer s H E).K=K:=rfl
theorem upd_none {H:Hp} {p a:Addr} {o:HO} (h:upd H p o a=none):a≠p∧H a=none:=by
  unfold upd at h
  split at h
  · cases h
  · rename_i z; exact ⟨z,h⟩
section
variable {H:Hp} {Q:VK} {i j:Int} {b c:Bool} {x y:Str}
theorem rEq_ii:rEq (.int i) (.int j) H Q=Q (.bl (decide (i=j))) H:=by simp [rEq,scal]
theorem rNe_ii:rNe (.int i) (.int j) H Q=Q (.bl (!decide (i=j))) H:=by simp [rNe,scal]
theorem cmul_mod {a m b:Int} (h0:0<m) (h1:m≤2147483648):CMul (a % m) b:=by
  have h2:=Int.emod_nonneg a (show m≠0 by omega)
  have h3:=Int.emod_lt_of_pos a h0
  exact .inl ⟨by omega,by omega⟩
end
def ForW (g:TG) (tb:TS) (D:Ends) (σ:St) (J:It) (H1:Hp):Prop:=∃ W:Nat→Nat→St→Hp→Prop,(∃ m,W 0 m σ H1)∧∀ i m σ H,W i m σ H →
  (J.stop i H∧D.nx σ H)∨(J.go i H∧∃ N:St→Hp→Prop,(∀ σ' H',N σ' H'→∃ m',m'<m∧W (i+1) m' σ' H')∧∀ x H',J.yld i H x H'→g x σ H' fun σ2 H2=>tb { D with nx:=N,ct:=N,bk:=D.nx } σ2 H2)
theorem tFor_eq {wi:TI} {g:TG} {tb:TS} {D:Ends} {σ:St} {H:Hp}:tFor wi g tb D σ H=wi σ H fun J H1=>ForW g tb D σ J H1:=rfl
theorem tComp_eq {n:Nat} {js:List Nat} {wi:TI} {g:TG} {tc:TT} {te:TE} {σ:St} {H:Hp} {Q:VK}:tComp n js wi g tc te σ H Q=wi σ H fun J H1=>CompW n js g tc te σ Q J H1:=rfl
theorem new_same {H H':Hp} {p:Addr} {o:HO} (h:upd H p o=H') (hp:H p=none):Same H H'∧H' p=some o:=by
  subst h
  exact ⟨Same.upd_new hp,upd_same⟩
end L2
namespace L2
open PySem PySem.Spec PyProof.Rows
def TupI (H:Hp) (x:V) (d:List Int):Prop:=∃ t,x=.ref t∧H t=some (.tup (d.map V.int))
abbrev DeedsX (H:Hp) (xs:List V) (ds:List (List Int)):Prop:=Paired (TupI H) xs ds
def DeedsAt (H:Hp) (a:Addr) (ds:List (List Int)):Prop:=∃ xs,H a=some (.lst xs)∧DeedsX H xs ds
section
variable {H H':Hp} {x:V} {d:List Int} {xs ys:List V} {ds es:List (List Int)} {a:Addr} {o:HO}
theorem paired_get {α β:Type} {F:α→β→Prop}:∀ {l1:List α} {l2:List β} {i:Nat} {x:α},Paired F l1 l2→l1[i]?=some x→∃ y,l2[i]?=some y∧F x y
  | _,_,_,_,.nil,e=>by simp at e
  | _,_,0,_,.cons r _,e=>by simp at e; subst e; exact ⟨_,rfl,r⟩
  | _,_,i+1,x,.cons _ t,e=>by
    obtain ⟨u,h1,h2⟩:=paired_get (i:=i) (x:=x) t (by simpa using e)
    exact ⟨u,by simpa using h1,h2⟩
theorem cutV_map (d:List Int) (lo hi:Option Int):∃ e:List Int,cutV (d.map V.int) lo hi=e.map V.int:=by
  unfold cutV
  exact ⟨(d.drop (HT.sIx (d.map V.int).length 0 lo)).take (HT.sIx (d.map V.int).length (d.map V.int).length hi - HT.sIx (d.map V.int).length 0 lo),by rw [List.map_take,List.map_drop]⟩
end
end L2
namespace L2
open PySem PySem.Spec PyProof.Rows
def DefM (K:PySem.W.Frag) (C:Addr) (m qual:Str) (st:Stmt):Prop:=∃ f fd,Meth K C m f∧Fun K m qual st f fd
def DefI (K:PySem.W.Frag) (C:Addr) (qual:Str) (st:Stmt):Prop:=∃ f fd,Mk K C f∧Fun K "__init__" qual st f fd
def OwnM (P:Program) (w:World) (K:PySem.W.Frag) (mg:Str→Option Value) (base:Heap) (k:Nat) (C:Addr) (m:Str) (ps:List Str) (sp:Sp):Prop:=
  ∃ f fd,Meth K C m f∧Binds K fd ps []∧FnOk P w K mg base CX0 k f fd ps sp
def OwnI (P:Program) (w:World) (K:PySem.W.Frag) (mg:Str→Option Value) (base:Heap) (k:Nat) (C:Addr) (ps:List Str) (sp:Sp):Prop:=
  ∃ f fd,Mk K C f∧Binds K fd ps []∧FnOk P w K mg base CX0 k f fd ps sp
structure ClsD (K:PySem.W.Frag) (mg:Str→Option Value) (x:Str) (C:Addr) (attrs:List Str):Prop where
  mgC:mg x=some (.ref C)
  cl:Cls K C
  no:∀ f∈attrs,NoAttr K C f
section
variable {P:Program} {w:World} {K:PySem.W.Frag} {mg:Str→Option Value} {base:Heap} {C:Addr} {m qual:Str} {st:Stmt} {N ps:List Str} {k:Nat} {sp:Sp}
theorem DefM.own (D:DefM K C m qual st) (S:FnScope N ps (defScope st))
    (hb:∀ (kV doc pm:Value) (an:Option Addr) (cdv ct:Value) (us:List Value),us.length=ps.length→bindArgs (PySem.W.fnOf m qual (defArgs st) (defBody st) (defScope st) .none kV doc pm an cdv ct) ⟨us,[]⟩=pure (ps.zip us))
    (len:∀ vs H Q E,sp vs H Q E→vs.length=ps.length)
    (hbody:∀ (f:Addr) (cdv:Value) (A:Around) (outer:List Env) (s:Shared) (H:Hp) (vs:List V) (Q:VK) (E:XK),Room k (A.deeper (envOfC qual (defScope st) s.heap.objs.size f cdv))→sp vs H Q E →
      ∃ t,PSs (cxOf CX0 P w K mg base N qual (defScope st) f cdv A outer s H E).nox (defBody st) t∧t { nx:=fun _ H'=>Q .non H',rt:=Q } (start N vs) H):OwnM P w K mg base (k+1) C m ps sp:=by
  obtain ⟨f,fd,hm,F⟩:=D
  exact ⟨f,fd,hm,F.binds hb,F.ok S len (hbody f)⟩
theorem DefI.own (D:DefI K C qual st) (S:FnScope N ps (defScope st))
    (hb:∀ (kV doc pm:Value) (an:Option Addr) (cdv ct:Value) (us:List Value),us.length=ps.length→bindArgs (PySem.W.fnOf "__init__" qual (defArgs st) (defBody st) (defScope st) .none kV doc pm an cdv ct) ⟨us,[]⟩=pure (ps.zip us))
    (len:∀ vs H Q E,sp vs H Q E→vs.length=ps.length)
    (hbody:∀ (f:Addr) (cdv:Value) (A:Around) (outer:List Env) (s:Shared) (H:Hp) (vs:List V) (Q:VK) (E:XK),Room k (A.deeper (envOfC qual (defScope st) s.heap.objs.size f cdv))→sp vs H Q E →
      ∃ t,PSs (cxOf CX0 P w K mg base N qual (defScope st) f cdv A outer s H E).nox (defBody st) t∧t { nx:=fun _ H'=>Q .non H',rt:=Q } (start N vs) H):OwnI P w K mg base (k+1) C ps sp:=by
  obtain ⟨f,fd,hm,F⟩:=D
  exact ⟨f,fd,hm,F.binds hb,F.ok S len (hbody f)⟩
theorem defM_mk {f:Addr} {oc:Value} {od an:Option Addr} {osl:Array (Option Value)} {kV doc pm cdv ct:Value} (a:PySem.W.findIn K (.ref C) m=some (some (.ref f))) (i:PySem.W.isFn K (.ref f)=true)
    (l:K.lookup f=some ⟨oc,od,.func (PySem.W.fnOf m qual (defArgs st) (defBody st) (defScope st) .none kV doc pm an cdv ct),osl⟩) (c:PySem.W.codeIn K cdv qual=true) (k:PySem.W.keepIn K (.ref f)=true):DefM K C m qual st:=
  ⟨f,_,⟨a,i,k⟩,fun_mk l c k⟩
theorem defI_mk {f:Addr} {oc:Value} {od an:Option Addr} {osl:Array (Option Value)} {kV doc pm cdv ct:Value} (a:PySem.W.findIn K (.ref C) "__init__"=some (some (.ref f))) (i:PySem.W.isFn K (.ref f)=true)
    (l:K.lookup f=some ⟨oc,od,.func (PySem.W.fnOf "__init__" qual (defArgs st) (defBody st) (defScope st) .none kV doc pm an cdv ct),osl⟩) (c:PySem.W.codeIn K cdv qual=true) (k:PySem.W.keepIn K (.ref f)=true)
    (mk:PySem.W.makesIn K C=true) (kc:PySem.W.keepIn K (.ref C)=true):DefI K C qual st:=
  ⟨f,_,⟨mk,a,i,kc⟩,fun_mk l c k⟩
end
section
variable {X:Cx} {j k:Nat} {C:Addr} {x m:Str} {ps:List Str} {sp:Sp} {p pos apos:Pos} {o e:Expr} {es:List Expr} {ta:TE} {t:TA}
theorem pe_mak (M:OwnI X.prog X.w X.K X.mg X.base j C ps sp) (hr:Room k X.A) (hm:X.mg x=some (.ref C)) (ha:PA X (e::es) t) (hk:j+1≤k:=by decide) (hg:Gl X x:=by rfl)
    (hdb:(x == ("__debug__":Str))=false:=by decide) (he:starEach (e::es) X.env=(false,eval e X.env)::starEach es X.env:=by rfl) (hpl:(backTo pos (starEach es X.env)).any (·.1)=false:=by rfl) :
    PE X (.Call (.Name x p) (e::es) [] pos) (tMake C sp [] E0 t):=by
  obtain ⟨f,fd,hk',hb,F⟩:=M
  exact pe_make hk' F (hr.mono hk) hg hm hb .nil pass0 ha hdb he hpl
end
theorem pe_glb {X:Cx} {x:Str} {v:V} {pos:Pos} (h:∃ u,X.mg x=some u∧RelV v u) (hg:Gl X x:=by rfl) (hd:(x == ("__debug__":Str))=false:=by decide):PE X (.Name x pos) (tC v):=by
  obtain ⟨u,hm,r⟩:=h
  exact pe_glob hg hm r hd
section
variable {X:Cx} {o value:Expr} {td tv:TE} {x:Str} {j:Nat} {pos pos' cpos:Pos}
end
theorem glb_mk {K:PySem.W.Frag} {h:Heap} {mg:Str→Option Value} (X:K.In h) (G:h.Ns mainGlobals mg) {x:Str} {i:Int} {t:Tok} (a:PySem.W.nsIn K mainGlobals x=some (some (.int i t))):∃ u,mg x=some u∧RelV (.int i) u:=
  ⟨_,PySem.W.mg_of X G a,t,rfl⟩
theorem comp_tup {n:Nat} {js:List Nat} {g:TG} {tc:TT} {te:TE} {σ:St} {Q:VK} {H1:Hp} {K:PySem.W.Frag} {a:Addr} {xs:List V} (hz:xs.length≤sizeLine) (Pv:Addr→Nat→List V→Hp→Prop) (h0:∀ D,H1 D=none→Pv D 0 [] (upd H1 D (.lst [])))
    (hl:∀ D i acc H,H1 D=none→i≤xs.length→Pv D i acc H→H D=some (.lst acc)∧SqT K H a xs∧acc.length≤i)
    (hs:∀ D i x acc H,H1 D=none→xs[i]?=some x→Pv D i acc H→g x (cSt n js σ) H fun σ2 H2=>σ2.drop n=(cSt n js σ).drop n∧tc σ2 H2 fun b H3=>if b=true then te σ2 H3 fun v H4=>H4 D=some (.lst acc)∧Pv D (i+1) (acc++[v]) (upd H4 D (.lst (acc++[v]))) else H3 D=some (.lst acc)∧Pv D (i+1) acc H3)
    (hd:∀ D acc H,H1 D=none→Pv D xs.length acc H→Q (.ref D) H):CompW n js g tc te σ Q (Itt K a) H1:=by
  intro D hD
  refine ⟨fun i m acc H=>m=xs.length - i∧i≤xs.length∧Pv D i acc H,⟨xs.length,by simp,Nat.zero_le _,h0 D hD⟩,?_⟩
  rintro i m acc H ⟨rfl,hi,p⟩
  obtain ⟨e1,q,e3⟩:=hl D i acc H hD hi p
  refine ⟨e1,?_⟩
  by_cases hlt:i<xs.length
  · refine .inr ⟨⟨xs,xs[i],q,by simp [hlt]⟩,by omega,Pv D (i+1),fun acc' H' p'=>⟨xs.length - (i+1),by omega,rfl,hlt,p'⟩,fun x H' y=>?_⟩
    obtain ⟨e,y⟩:=y
    subst e
    exact hs D i x acc _ hD (y xs q) p
  · have e:i=xs.length:=by omega
    subst e
    exact .inl ⟨⟨xs,q,Nat.le_refl _⟩,hd D acc H hD p⟩
end L2
namespace L2
open PySem PySem.Spec PyProof.Rows
def Ite (K:PySem.W.Frag) (a:Addr):It:=
  ⟨fun i H=>∃ xs x,SqL K H a xs∧xs[i]?=some x,fun i H x H'=>∃ p,x=.ref p∧H p=none∧∀ xs,SqL K H a xs→∃ y,xs[i]?=some y∧H'=upd H p (.tup [.int i,y]),fun i H=>∃ xs,SqL K H a xs∧xs.length≤i⟩
theorem turn_enum {P:Program} {w:World} {K:PySem.W.Frag} {elts:List Expr} {x1} {tpos:Pos} (a e it:Addr) (hne:e≠it) :
    Turn P w K (.Tuple elts x1 tpos) (Ite K a) [e,it] e (fun i h=>(∃ old,IsEnum h e it i old)∧h.IsListIter it a i) where
  mem:=by simp
  obj:=fun i h st b hb=>by
    obtain ⟨⟨old,h1⟩,h2⟩:=st
    rcases List.mem_cons.mp hb with rfl|hb
    · exact ⟨_,h1,fun v z=>by cases z⟩
    · have e:b=it:=by simpa using hb
      subst e
      obtain ⟨o,e,c,d⟩:=h2
      exact ⟨o,e,fun v z=>by rw [d] at z; cases z⟩
  keep:=fun i h h' st k=>by
    obtain ⟨⟨old,h1⟩,h2⟩:=st
    exact ⟨⟨old,k e (by simp) _ h1⟩,h2.at fun o q=>k it (by simp) o q⟩
  item:=by
    intro X hP hw hK hc i pins s σ H E I hf st hg
    subst hP hw hK
    obtain ⟨⟨old,he⟩,hit⟩:=st
    obtain ⟨xs,x,hq,hx⟩:=hg
    obtain ⟨its,rv,p,hz⟩:=I.list hq
    obtain ⟨u,hu,ru⟩:=rv.get hx
    have fe:=hf e (by simp)
    have fi:=hf it (by simp)
    refine wpAny_pyNext_enum_item he hit p.isList (x:=u) (by simpa using hu) hne fun h' eo hit' ht hsz hk=>?_
    have hH:H s.heap.objs.size=none:=I.hok.fresh (Nat.le_refl _)
    have ne:∀ b o,s.heap.get? b=some o→b≠s.heap.objs.size:=fun b o q=>Nat.ne_of_lt (Heap.lt_size q)
    have nx:∀ b,b ∉ [e,it]→b≠e∧b≠it:=fun b hb=>⟨fun z=>hb (by simp [z]),fun z=>hb (by simp [z])⟩
    have I1:Inv X pins σ (upd H s.heap.objs.size (.tup [.int i,x])) { s with heap:=h',gens:=s.gens,drawn:=s.drawn,toks:=s.toks+1 }:=I.call (ch:=[e,it]) (h':=h') (g':=s.gens) (d':=s.drawn) (t':=s.toks+1)
      ⟨fun b o q n hb hb2=>hk b o (nx b hb2).1 (nx b hb2).2 q,fun b o q n hb hb2=>⟨o.slots,hk b o (nx b hb2).1 (nx b hb2).2 q⟩,fun b o q n hb2=>by rw [upd_ne (ne b o q)]; exact n,fun b o q hb2=>⟨o,hk b o (nx b hb2).1 (nx b hb2).2 q⟩,
        fun b ys q=>by rw [upd_ne (ne_of_none q hH)]; exact q,fun b o ys q=>by rw [upd_ne (ne_of_none q hH)]; exact q,fun b ps q=>⟨#[],by rw [upd_ne (ne_of_none q hH),q]; simp⟩⟩
      (fun b o q=>by
        by_cases hb:b=s.heap.objs.size
        · subst hb
          rw [upd_same] at q
          cases q
          exact ⟨by rw [sizeLine_eq]; show 2≤16777216; decide,[.int i s.toks,u],.cons ⟨_,rfl⟩ (.cons ru .nil),⟨_,ht,rfl,0,rfl⟩⟩
        · rw [upd_ne hb] at q
          refine (I.hok b o q).stay (fun c v hc r=>?_) (fun c r=>by rw [upd_ne (ne_of_none r hH)]; exact r) fun c ys r=>by rw [upd_ne (ne_of_none r hH)]; exact r
          have hcn:H c≠none:=by
            rcases hc with rfl|hc
            · rw [q]; exact fun z=>nomatch z
            · rw [hc]; exact fun z=>nomatch z
          exact hk c v (fun z=>hcn (z ▸ fe.1)) (fun z=>hcn (z ▸ fi.1)) r) I.bare
      (fun b hb=>by
        have F:FpOk X pins H b:=hf b hb
        exact ⟨F.2.2.2.1,F.2.1,F.2.2.2.2.1,F.2.2.2.2.2⟩)
    refine ⟨_,rfl,wpAny_letOwnedTupleGo_enum (s:={ s with heap:=h',toks:=s.toks+1 }) eo fun h2 e2 sb=>?_⟩
    have nep:∀ b∈[e,it],upd H s.heap.objs.size (.tup [.int i,x]) b=none:=fun b hb=>by
      have hb':b≠s.heap.objs.size:=by
        rcases List.mem_cons.mp hb with rfl|hb
        · exact ne _ _ he
        · have e':b=it:=by simpa using hb
          subst e'
          obtain ⟨o,q,_⟩:=hit
          exact ne _ _ q
      rw [upd_ne hb']
      exact (hf b hb).1
    have I2:Inv X pins σ (upd H s.heap.objs.size (.tup [.int i,x])) { s with heap:=h2,toks:=s.toks+1 }:=I1.turned (t':=s.toks+1) (fun b o hb q=>(sb.2 b hb).trans q) (nep e (by simp)) fe.2.1 fe.2.2.2.1 fe.2.2.2.2.1 fe.2.2.2.2.2
    refine ⟨.ref s.heap.objs.size,_,I2,rfl,⟨_,rfl,hH,fun ys hy=>⟨x,by rw [I.list_inj hy hq]; exact hx,rfl⟩⟩,⟨⟨u,?_⟩,?_⟩,nep⟩
    · have:((i+1:Nat):Int)=(i:Int)+1:=by omega
      rw [this]
      exact e2
    · exact hit'.extBut sb.extBut (Ne.symm hne)
  done:=by
    intro X hP hw hK hc i pins s σ H E I hf st hg
    subst hP hw hK
    obtain ⟨⟨old,he⟩,hit⟩:=st
    obtain ⟨xs,hq,hx⟩:=hg
    obtain ⟨its,rv,p,hz⟩:=I.list hq
    obtain ⟨f0,f1,f2,f3,f4,f5⟩:=hf it (by simp)
    have hl:=rv.length
    exact wpAny_pyNext_enum_end (I.ok.hd hc) he hit p.isList (by simp; omega) fun h' eb=>⟨rfl,I.turned (t':=s.toks) (fun b o hb q=>eb b o hb q) f0 f1 f3 f4 f5⟩
  self:=fun _ _ _ _ _ st h=>by
    obtain ⟨⟨old,he⟩,_⟩:=st
    exact wpAny_pyIter_enum he h
section
variable {X:Cx}
def iEnum (K:PySem.W.Frag) (ta:TA):TI:=fun σ H R=>ta σ H fun vs H1=>∃ a,vs=[.ref a]∧(∃ xs,SqL K H1 a xs)∧R (Ite K a) H1
theorem bt_enumerate:bootBuiltins "enumerate"=some (.type "enumerate"):=by decide +kernel
theorem pi_enum (K:PySem.W.Frag) {elts:List Expr} {x1} {tpos:Pos} {l:Expr} {ta:TA} {p pos:Pos} (hg:Gl X "enumerate") (hm:X.mg "enumerate"=none) (ha:PA X [l] ta) (hs:starEach [l] X.env=[(false,eval l X.env)]:=by rfl) (hK:X.K=K:=by rfl) :
    PI X (.Tuple elts x1 tpos) (.Call (.Name "enumerate" p) [l] [] pos) (iEnum K ta):=by
  subst hK
  intro pins s σ H R I h
  refine Call_ (ld_blt I hg hm bt_enumerate (PyProof.Rows.callWith_type1 (thn (ha pos pins s σ H _ I h) fun us s1 ⟨vs,H1,I1,r1,q1⟩=>?_) hs rfl))
  obtain ⟨a,e,⟨xs,hq⟩,q⟩:=q1
  subst e
  obtain ⟨u,rfl,rx⟩:=vals1 r1
  cases rx
  obtain ⟨its,rv,pl,hz⟩:=I1.list hq
  refine call_enumerate_list pl.isList fun h' he hit hsz hk=>?_
  refine wpAny_pyIter_enum (s:={ s1 with heap:=h' }) he ?_
  refine ⟨s1.heap.objs.size+1,[s1.heap.objs.size+1,s1.heap.objs.size],_,_,H1,rfl,I1.kept (t':=s1.toks) hk,turn_enum a _ _ (Nat.succ_ne_self _),⟨⟨_,he⟩,hit⟩,fun b hb=>?_,q⟩
  rcases List.mem_cons.mp hb with rfl|hb
  · exact I1.fpOk (Nat.le_succ _) (I1.hok.fresh (Nat.le_succ _))
  · have e:b=s1.heap.objs.size:=by simpa using hb
    subst e
    exact I1.fpOk (Nat.le_refl _) (I1.hok.fresh (Nat.le_refl _))
end
theorem for_enum {K:PySem.W.Frag} {a:Addr} {xs:List V} {g:TG} {tb:TS} {D:Ends} {σ:St} {H:Hp} (Pv:Nat→St→Hp→Prop) (h0:Pv 0 σ H) (hl:∀ i σ H,i≤xs.length→Pv i σ H→SqL K H a xs)
    (hs:∀ i x p σ H,xs[i]?=some x→H p=none→Pv i σ H→g (.ref p) σ (upd H p (.tup [.int i,x])) fun σ2 H2=>tb { D with nx:=Pv (i+1),ct:=Pv (i+1),bk:=D.nx } σ2 H2) (hd:∀ σ H,Pv xs.length σ H→D.nx σ H):ForW g tb D σ (Ite K a) H:=by
  refine ⟨fun i m σ H=>m=xs.length - i∧i≤xs.length∧Pv i σ H,⟨xs.length,by simp,Nat.zero_le _,h0⟩,?_⟩
  rintro i m σ H ⟨rfl,hi,p⟩
  have q:=hl i σ H hi p
  by_cases hlt:i<xs.length
  · refine .inr ⟨⟨xs,xs[i],q,by simp [hlt]⟩,Pv (i+1),fun σ' H' p'=>⟨xs.length - (i+1),by omega,rfl,hlt,p'⟩,fun x H' y=>?_⟩
    obtain ⟨pp,rfl,hp,y⟩:=y
    obtain ⟨z,hz,rfl⟩:=y xs q
    exact hs i z pp σ H hz hp p
  · have e:i=xs.length:=by omega
    subst e
    exact .inl ⟨⟨xs,q,Nat.le_refl _⟩,hd σ H p⟩
end L2
namespace L2
open PySem PySem.Spec PyProof.Rows
section
variable {prog:Program} {w:World} {A:Around} {E:Value→Shared→Prop} {s:Shared}
theorem nextT_item {j tp:Addr} {n:Nat} {its:Array Value} {u:Value} {R:Value→Shared→Prop} (hj:s.heap.IsTupleIter j tp n) (hp:s.heap.IsTuple tp its) (hu:its[n]?=some u)
    (hR:∀ hp',hp'.IsTupleIter j tp (n+1)→Heap.SameBut j s.heap hp'→R u { s with heap:=hp' }):wpAny (model prog w) A (Builtin.SmallTypes.nextOf (.ref j)) R E s:=by
  obtain ⟨oj,goj,coj,doj⟩:=id hj
  obtain ⟨op,gop,_,np,dop⟩:=hp
  unfold Builtin.SmallTypes.nextOf
  refine wpAny_bind (wpAny_callSpecial?_slot (name:=Str.ofString "__next__") hj.typeIs F.slot_tuple_iterator_next (wpAny_call_entry F.slot_tuple_iterator_next hj.typeIs F.entry_tuple_iterator_next ?_ (F.args_tuple_iterator_next_1 _)))
  change wpAny _ _ (field (.ref j) 0 >>= _) _ _ s
  refine wpAny_bind (wpAny_field goj doj (x:=.ref tp) rfl ?_)
  change wpAny _ _ (if (Value.ref tp == Value.none)=true then _ else _) _ _ s
  rw [if_neg (show ¬ ((Value.ref tp == Value.none)=true) from Bool.false_ne_true)]
  change wpAny _ _ (field (.ref j) 1 >>= _) _ _ s
  refine wpAny_bind (wpAny_field goj doj (x:=.int n 0) rfl ?_)
  change wpAny _ _ (seqItems? (.ref tp) >>= _) _ _ s
  refine wpAny_bind (wpAny_seqItems gop dop ?_)
  simp only [Int.toNat_natCast,hu]
  refine wpAny_bind (wpAny_setField goj doj (by simp) (wpAny_pure ⟨u,rfl,wpAny_pure (hR _ ?_ (Heap.SameBut.update ..))⟩))
  exact ⟨_,Heap.get?_update_self _ goj (Obj.isFreed_of_fields (Obj.data_mapFields doj _)),(Obj.cls_mapFields ..).trans coj,by rw [Obj.data_mapFields doj]; simp [rawInt]⟩
theorem zipT_item {z ti to j1 j2 l1 l2:Addr} {n1 n2:Nat} {xs ys:Array Value} {x y a b:Value} {R:Value→Shared→Prop} (D:ZipApart z ti to j1 j2 l1 l2)
    (gz:IsZip s.heap z ti to .none) (gti:IsPair s.heap ti (.ref j1) (.ref j2)) (gto:IsPair s.heap to a b)
    (g1:s.heap.IsListIter j1 l1 n1) (g2:s.heap.IsTupleIter j2 l2 n2) (gl1:s.heap.IsList l1 xs) (gl2:s.heap.IsTuple l2 ys) (hx:xs[n1]?=some x) (hy:ys[n2]?=some y)
    (hR:∀ hp,IsZip hp z ti to (rawInt s.heap.objs.size)→IsPair hp to x y→hp.IsListIter j1 l1 (n1+1)→hp.IsTupleIter j2 l2 (n2+1)→IsPair hp s.heap.objs.size x y→hp.objs.size=s.heap.objs.size+1 →
      (∀ c o,c≠z→c≠to→c≠j1→c≠j2→s.heap.get? c=some o→hp.get? c=some o)→R (.ref s.heap.objs.size) { s with heap:=hp }) :
    wpAny (model prog w) A (Builtin.«zip.__next__» ⟨[.ref z],[]⟩) (fun fin s'=>∃ v,fin=.done (.ret v)∧R v s') E s:=by
  change wpAny _ _ (field (.ref z) 2 >>= _) _ _ _
  refine wpAny_bind (wpAny_field gz rfl (x:=.bool false) rfl ?_)
  change wpAny _ _ (field (.ref z) 3 >>= _) _ _ _
  refine wpAny_bind (wpAny_field gz rfl (x:=.ref ti) rfl ?_)
  refine wpAny_bind (wpAny_seqItems gti rfl ?_)
  change wpAny _ _ (Builtin.SmallTypes.ownedTupleIsFree (.ref z) >>= _) _ _ _
  refine wpAny_bind ?_
  unfold Builtin.SmallTypes.ownedTupleIsFree
  refine wpAny_bind (wpAny_field gz rfl (x:=.none) rfl (wpAny_pure ?_))
  simp only [if_true]
  refine wpAny_bind (wpAny_rule ?_)
  refine wpAny_bind (wpAny_field gz rfl (x:=.ref to) rfl ?_)
  refine wpAny_bind (wpAny_setField_rec gz (by simp) fun k1 gz1 m1=>?_)
  replace gz1:IsZip k1 z ti to .ellipsis:=gz1
  refine wpAny_bind ?_
  simp only [List.zipIdx_cons,List.zipIdx_nil,List.forIn_cons,List.forIn_nil]
  refine wpAny_bind (wpAny_bind (wpAny_onRaise ?_))
  change wpAny _ _ (Builtin.SmallTypes.nextOf (.ref j1) >>= _) _ _ _
  refine wpAny_bind (wpAny_nextOf_list_item (g1.extBut m1.extBut D.i1z) (gl1.extBut m1.extBut D.l1z) hx fun k2 g1b m2=>wpAny_pure ?_)
  have gto2:IsPair k2 to a b:=m2.extBut _ _ D.TOi1 (m1.extBut _ _ D.TOz gto)
  refine wpAny_bind (wpAny_seqItems gto2 rfl ?_)
  refine wpAny_bind (wpAny_updateSeq_pair gto2 fun k3 gto3 m3=>?_)
  replace gto3:IsPair k3 to x b:=gto3
  refine wpAny_bind (wpAny_letGo (wpAny_pure ?_))
  refine wpAny_bind (wpAny_bind (wpAny_onRaise ?_))
  change wpAny _ _ (Builtin.SmallTypes.nextOf (.ref j2) >>= _) _ _ _
  refine wpAny_bind (nextT_item (((g2.extBut m1.extBut D.i2z).extBut m2.extBut D.i12.symm).extBut m3.extBut D.TOi2.symm) (((gl2.extBut m1.extBut D.l2z).extBut m2.extBut D.l2i1).extBut m3.extBut D.l2TO) hy fun k4 g2b m4=>wpAny_pure ?_)
  have gto4:IsPair k4 to x b:=m4.extBut _ _ D.TOi2 gto3
  refine wpAny_bind (wpAny_seqItems gto4 rfl ?_)
  refine wpAny_bind (wpAny_updateSeq_pair gto4 fun k5 gto5 m5=>?_)
  replace gto5:IsPair k5 to x y:=gto5
  refine wpAny_bind (wpAny_letGo (wpAny_pure (wpAny_pure ?_)))
  refine wpAny_bind (wpAny_seqItems gto5 rfl ?_)
  refine wpAny_bind (wpAny_newTuple ?_)
  have esz:k5.objs.size=s.heap.objs.size:=by rw [m5.1,m4.1,m3.1,m2.1,m1.1]
  have gz5:IsZip k5 z ti to .ellipsis:=m5.extBut _ _ D.TOz.symm (m4.extBut _ _ D.i2z.symm (m3.extBut _ _ D.TOz.symm (m2.extBut _ _ D.i1z.symm gz1)))
  have kp5:∀ c o,c≠z→c≠to→c≠j1→c≠j2→s.heap.get? c=some o→k5.get? c=some o:=fun c o c1 c2 c3 c4 e=>m5.extBut _ _ c2 (m4.extBut _ _ c4 (m3.extBut _ _ c2 (m2.extBut _ _ c3 (m1.extBut _ _ c1 e))))
  have g1c:k5.IsListIter j1 l1 (n1+1):=((g1b.extBut m3.extBut D.TOi1.symm).extBut m4.extBut D.i12).extBut m5.extBut D.TOi1.symm
  have g2c:k5.IsTupleIter j2 l2 (n2+1):=g2b.extBut m5.extBut D.TOi2.symm
  have ltz:z<k5.objs.size:=Heap.lt_size gz5
  change wpAny _ _ (Builtin.SmallTypes.ownedTupleHandOut (.ref z) (.ref k5.objs.size) >>= _) _ _ _
  refine wpAny_bind ?_
  unfold Builtin.SmallTypes.ownedTupleHandOut
  have gz6:IsZip (k5.push { cls:=.type "tuple", data:=.seq #[x,y] }) z ti to .ellipsis:=Heap.get?_push_of_some _ gz5
  refine wpAny_bind (wpAny_setField_rec gz6 (by simp) fun k7 gz7 m7=>?_)
  replace gz7:IsZip k7 z ti to (rawInt k5.objs.size):=gz7
  refine wpAny_setField_rec gz7 (by simp) fun k8 gz8 m8=>?_
  replace gz8:IsZip k8 z ti to (rawInt k5.objs.size):=gz8
  have upw:∀ c o,c≠z→k5.get? c=some o→k8.get? c=some o:=fun c o c1 e=>m8.extBut _ _ c1 (m7.extBut _ _ c1 (Heap.get?_push_of_some _ e))
  have gt8:IsPair k8 k5.objs.size x y:=m8.extBut _ _ (Nat.ne_of_gt ltz) (m7.extBut _ _ (Nat.ne_of_gt ltz) (Heap.get?_push_size _ rfl))
  have es8:k8.objs.size=k5.objs.size+1:=by rw [m8.1,m7.1,Heap.size_push]
  rw [esz] at gz8 gt8 es8
  refine wpAny_pure ⟨_,rfl,?_⟩
  change R (.ref k5.objs.size) _
  rw [esz]
  exact hR k8 gz8 (upw _ _ D.TOz gto5) (g1c.at fun o e=>upw _ o D.i1z e) (g2c.at fun o e=>upw _ o D.i2z e) gt8 es8 fun c o c1 c2 c3 c4 e=>upw c o c1 (kp5 c o c1 c2 c3 c4 e)
theorem zipT_end {z ti to j1 j2 l1 l2:Addr} {n1:Nat} {xs:Array Value} {R:Fin→Shared→Prop} (hh:A.handled=none) (D:ZipApart z ti to j1 j2 l1 l2)
    (gz:IsZip s.heap z ti to .none) (gti:IsPair s.heap ti (.ref j1) (.ref j2)) (g1:s.heap.IsListIter j1 l1 n1) (gl1:s.heap.IsList l1 xs) (hend:xs[n1]?=none)
    (hE:∀ hp e,(∀ c o,c≠z→c≠to→c≠j1→c≠j2→s.heap.get? c=some o→hp.get? c=some o)→(∃ o,hp.get? e=some o∧o.cls=.type "StopIteration")→E (.ref e) { s with heap:=hp }) :
    wpAny (model prog w) A (Builtin.«zip.__next__» ⟨[.ref z],[]⟩) R E s:=by
  change wpAny _ _ (field (.ref z) 2 >>= _) _ _ _
  refine wpAny_bind (wpAny_field gz rfl (x:=.bool false) rfl ?_)
  change wpAny _ _ (field (.ref z) 3 >>= _) _ _ _
  refine wpAny_bind (wpAny_field gz rfl (x:=.ref ti) rfl ?_)
  refine wpAny_bind (wpAny_seqItems gti rfl ?_)
  change wpAny _ _ (Builtin.SmallTypes.ownedTupleIsFree (.ref z) >>= _) _ _ _
  refine wpAny_bind ?_
  unfold Builtin.SmallTypes.ownedTupleIsFree
  refine wpAny_bind (wpAny_field gz rfl (x:=.none) rfl (wpAny_pure ?_))
  simp only [if_true]
  refine wpAny_bind (wpAny_rule ?_)
  refine wpAny_bind (wpAny_field gz rfl (x:=.ref to) rfl ?_)
  refine wpAny_bind (wpAny_setField_rec gz (by simp) fun k1 gz1 m1=>?_)
  replace gz1:IsZip k1 z ti to .ellipsis:=gz1
  refine wpAny_bind ?_
  simp only [List.zipIdx_cons,List.zipIdx_nil,List.forIn_cons,List.forIn_nil]
  refine wpAny_bind (wpAny_bind (wpAny_onRaise ?_))
  change wpAny _ _ (Builtin.SmallTypes.nextOf (.ref j1) >>= _) _ _ _
  refine wpAny_bind (wpAny_nextOf_list_end hh (g1.extBut m1.extBut D.i1z) (gl1.extBut m1.extBut D.l1z) hend fun k2 e m2 ⟨oe,goe,ce⟩=>?_)
  have gz2:IsZip k2 z ti to .ellipsis:=m2 _ _ D.i1z.symm gz1
  have nez:e≠z:=fun q=>by subst q; rw [gz2] at goe; cases goe; simp at ce
  exact wpAny_setField_rec gz2 (by simp) fun k3 _ m3=>hE k3 e (fun c o c1 _ c3 _ q=>m3.extBut _ _ c1 (m2 _ _ c3 (m1.extBut _ _ c1 q))) ⟨oe,m3.extBut _ _ nez goe,ce⟩
theorem pyNext_zipT {z ti to j1 j2 l1 l2:Addr} {n1 n2:Nat} {xs ys:Array Value} {x y a b:Value} {R:Option Value→Shared→Prop} (D:ZipApart z ti to j1 j2 l1 l2)
    (gz:IsZip s.heap z ti to .none) (gti:IsPair s.heap ti (.ref j1) (.ref j2)) (gto:IsPair s.heap to a b)
    (g1:s.heap.IsListIter j1 l1 n1) (g2:s.heap.IsTupleIter j2 l2 n2) (gl1:s.heap.IsList l1 xs) (gl2:s.heap.IsTuple l2 ys) (hx:xs[n1]?=some x) (hy:ys[n2]?=some y)
    (hR:∀ hp,IsZip hp z ti to (rawInt s.heap.objs.size)→IsPair hp to x y→hp.IsListIter j1 l1 (n1+1)→hp.IsTupleIter j2 l2 (n2+1)→IsPair hp s.heap.objs.size x y→hp.objs.size=s.heap.objs.size+1 →
      (∀ c o,c≠z→c≠to→c≠j1→c≠j2→s.heap.get? c=some o→hp.get? c=some o)→R (some (.ref s.heap.objs.size)) { s with heap:=hp }):wpAny (model prog w) A (pyNext (.ref z)) R E s:=by
  have ht:s.TypeIs (.ref z) "zip":=⟨_,gz,rfl⟩
  unfold pyNext
  exact wpAny_bind (wpAny_attempt (wpAny_callSpecial?_slot (name:=Str.ofString "__next__") ht F.slot_zip_next (wpAny_call_entry F.slot_zip_next ht F.entry_zip_next (zipT_item D gz gti gto g1 g2 gl1 gl2 hx hy fun hp a1 a2 a3 a4 a5 a6 a7=>wpAny_pure (hR hp a1 a2 a3 a4 a5 a6 a7)) (F.args_zip_next_1 _))))
theorem pyNext_zipE {z ti to j1 j2 l1 l2:Addr} {n1:Nat} {xs:Array Value} {R:Option Value→Shared→Prop} (hh:A.handled=none) (D:ZipApart z ti to j1 j2 l1 l2)
    (gz:IsZip s.heap z ti to .none) (gti:IsPair s.heap ti (.ref j1) (.ref j2)) (g1:s.heap.IsListIter j1 l1 n1) (gl1:s.heap.IsList l1 xs) (hend:xs[n1]?=none)
    (hR:∀ hp,(∀ c o,c≠z→c≠to→c≠j1→c≠j2→s.heap.get? c=some o→hp.get? c=some o)→R none { s with heap:=hp }):wpAny (model prog w) A (pyNext (.ref z)) R E s:=by
  have ht:s.TypeIs (.ref z) "zip":=⟨_,gz,rfl⟩
  unfold pyNext
  refine wpAny_bind (wpAny_attempt (wpAny_callSpecial?_slot (name:=Str.ofString "__next__") ht F.slot_zip_next (wpAny_call_entry F.slot_zip_next ht F.entry_zip_next (zipT_end hh D gz gti g1 gl1 hend fun hp e hk ⟨o,ho,hc⟩=>?_) (F.args_zip_next_1 _))))
  refine wpAny_bind (wpAny_isInstance (T:="StopIteration") (b:=true) ⟨o,ho,hc⟩ isSubtype_stop ?_)
  exact wpAny_pure (hR _ hk)
abbrev zh1 (h:Heap) (a:Addr):Heap:=h.push { cls:=.type "list_iterator", data:=.fields #[.ref a,.int 0 0] }
abbrev zh2 (h:Heap) (a b:Addr):Heap:=(zh1 h a).push { cls:=.type "tuple_iterator", data:=.fields #[.ref b,.int 0 0] }
abbrev zh3 (h:Heap) (a b:Addr):Heap:=(zh2 h a b).push { cls:=.type "tuple", data:=.seq #[.ref h.objs.size,.ref (zh1 h a).objs.size] }
abbrev zh4 (h:Heap) (a b:Addr):Heap:=(zh3 h a b).push { cls:=.type "tuple", data:=.seq #[.none,.none] }
abbrev zh5 (h:Heap) (a b:Addr):Heap:=(zh4 h a b).push { cls:=.type "zip", data:=.fields #[.none,.bool false,.bool false,.ref (zh2 h a b).objs.size,.ref (zh3 h a b).objs.size] }
theorem meets_zipT (a b:Addr) (xs ys:Array Value):Meets (Builtin.«zip.__new__» ⟨[.type "zip", .ref a,.ref b],[]⟩) (fun _ R s=>s.heap.IsList a xs∧s.heap.IsTuple b ys∧R (.ok (.ret (.ref (zh4 s.heap a b).objs.size))) { s with heap:=zh5 s.heap a b }):=
  .of_wp fun prog w A R s h=>by
    obtain ⟨hp,gs,dr,tk,os⟩:=s
    obtain ⟨ha,hb,h⟩:=h
    have hsub:=sub_zip
    have hA:Heap.IsList (Shared.heap ⟨hp,gs,dr,tk,os⟩) a xs:=ha
    have hB:Heap.IsTuple (Shared.heap ⟨hp.push { cls:=.type "list_iterator", data:=.fields #[.ref a,.int 0 0] },gs,dr,tk,os⟩) b ys:=Heap.IsTuple.push hb _
    wp_walk using wpAny_pyIter_list hA,wpAny_pyIter_tuple hB
    exact ⟨_,rfl,h⟩
theorem call_zipT {a b:Addr} {xs ys:Array Value} {R:Value→Shared→Prop} (ha:s.heap.IsList a xs) (hb:s.heap.IsTuple b ys)
    (h:∀ hp,IsZip hp (s.heap.objs.size+4) (s.heap.objs.size+2) (s.heap.objs.size+3) .none→IsPair hp (s.heap.objs.size+2) (.ref s.heap.objs.size) (.ref (s.heap.objs.size+1))→IsPair hp (s.heap.objs.size+3) .none .none→hp.IsListIter s.heap.objs.size a 0→hp.IsTupleIter (s.heap.objs.size+1) b 0 →
      (∀ c o,s.heap.get? c=some o→hp.get? c=some o)→R (.ref (s.heap.objs.size+4)) { s with heap:=hp }):wpAny (model prog w) A (call (.type "zip") [.ref a,.ref b]) R E s:=by
  refine callType_new F.called_zip (by decide) (F.typeCall_zip_2 _ _) (F.newCall_zip_2 _ _) (fun obj=>F.args_object_init_3 obj _ _) F.entry_zip_new (meets_zipT a b xs ys) ⟨ha,hb,?_⟩
  have z1:(zh1 s.heap a).objs.size=s.heap.objs.size+1:=Heap.size_push ..
  have z2:(zh2 s.heap a b).objs.size=s.heap.objs.size+2:=by rw [Heap.size_push,z1]
  have z3:(zh3 s.heap a b).objs.size=s.heap.objs.size+3:=by rw [Heap.size_push,z2]
  have z4:(zh4 s.heap a b).objs.size=s.heap.objs.size+4:=by rw [Heap.size_push,z3]
  have q5:(zh5 s.heap a b).get? (zh4 s.heap a b).objs.size=some _:=Heap.get?_push_size _ rfl
  have q4:(zh5 s.heap a b).get? (zh3 s.heap a b).objs.size=some _:=Heap.get?_push_of_some _ (Heap.get?_push_size _ rfl)
  have q3:(zh5 s.heap a b).get? (zh2 s.heap a b).objs.size=some _:=Heap.get?_push_of_some _ (Heap.get?_push_of_some _ (Heap.get?_push_size _ rfl))
  have q2:(zh5 s.heap a b).get? (zh1 s.heap a).objs.size=some _:=Heap.get?_push_of_some _ (Heap.get?_push_of_some _ (Heap.get?_push_of_some _ (Heap.get?_push_size _ rfl)))
  have q1:(zh5 s.heap a b).get? s.heap.objs.size=some _:=Heap.get?_push_of_some _ (Heap.get?_push_of_some _ (Heap.get?_push_of_some _ (Heap.get?_push_of_some _ (Heap.get?_push_size _ rfl))))
  change _∧_
  rw [z2,z3,z4] at q5
  rw [z1,z2] at q3
  rw [z3] at q4
  rw [z1] at q2
  rw [z4]
  exact ⟨⟨_,q5,rfl⟩,h _ q5 q3 q4 ⟨_,q1,rfl,rfl⟩ ⟨_,q2,rfl,rfl⟩ fun c o q=>Heap.get?_push_of_some _ (Heap.get?_push_of_some _ (Heap.get?_push_of_some _ (Heap.get?_push_of_some _ (Heap.get?_push_of_some _ q))))⟩
end
def Itz (K:PySem.W.Frag) (a b:Addr):It:=
  ⟨fun i H=>∃ xs ys x y,SqL K H a xs∧SqT K H b ys∧xs[i]?=some x∧ys[i]?=some y,fun i H v H'=>∃ p,v=.ref p∧H p=none∧∀ xs ys,SqL K H a xs→SqT K H b ys→∃ x y,xs[i]?=some x∧ys[i]?=some y∧H'=upd H p (.tup [x,y]),fun i H=>∃ xs,SqL K H a xs∧xs.length≤i⟩
theorem turn_zip {P:Program} {w:World} {K:PySem.W.Frag} {elts:List Expr} {x1} {tpos:Pos} (a b z ti to j1 j2:Addr) (D:ZipApart z ti to j1 j2 a b) :
    Turn P w K (.Tuple elts x1 tpos) (Itz K a b) [z,ti,to,j1,j2] z (fun i h=>IsZip h z ti to .none∧IsPair h ti (.ref j1) (.ref j2)∧(∃ u v,IsPair h to u v)∧h.IsListIter j1 a i∧h.IsTupleIter j2 b i) where
  mem:=by simp
  obj:=fun i h st c hc=>by
    obtain ⟨gz,gti,⟨u,v,gto⟩,⟨o1,e1,_,d1⟩,o2,e2,_,d2⟩:=st
    simp only [List.mem_cons,List.not_mem_nil,or_false] at hc
    rcases hc with rfl|rfl|rfl|rfl|rfl
    · exact ⟨_,gz,fun v q=>by cases q⟩
    · exact ⟨_,gti,fun v q=>by cases q⟩
    · exact ⟨_,gto,fun v q=>by cases q⟩
    · exact ⟨o1,e1,fun v q=>by rw [d1] at q; cases q⟩
    · exact ⟨o2,e2,fun v q=>by rw [d2] at q; cases q⟩
  keep:=fun i h h' st k=>by
    obtain ⟨gz,gti,⟨u,v,gto⟩,g1,g2⟩:=st
    exact ⟨k z (by simp) _ gz,k ti (by simp) _ gti,⟨u,v,k to (by simp) _ gto⟩,g1.at fun o q=>k j1 (by simp) o q,g2.at fun o q=>k j2 (by simp) o q⟩
  item:=by
    intro X hP hw hK hc i pins s σ H E I hf st hg
    subst hP hw hK
    obtain ⟨gz,gti,⟨u,v,gto⟩,g1,g2⟩:=st
    obtain ⟨xs,ys,x,y,hqa,hqb,hx,hy⟩:=hg
    obtain ⟨ia,ra,pa,_⟩:=I.list hqa
    obtain ⟨ib,rb,pb,_⟩:=I.tuple hqb
    obtain ⟨ux,hux,rux⟩:=ra.get hx
    obtain ⟨uy,huy,ruy⟩:=rb.get hy
    refine pyNext_zipT D gz gti gto g1 g2 pa.isList (show s.heap.IsTuple b ib.toArray from pb) (x:=ux) (y:=uy) (by simpa using hux) (by simpa using huy) fun hp gz' gto' g1' g2' gt esz hk=>?_
    have hH:H s.heap.objs.size=none:=I.hok.fresh (Nat.le_refl _)
    have ne:∀ c o,s.heap.get? c=some o→c≠s.heap.objs.size:=fun c o q=>Nat.ne_of_lt (Heap.lt_size q)
    have nx:∀ c,c ∉ [z,ti,to,j1,j2]→c≠z∧c≠to∧c≠j1∧c≠j2:=fun c hc=>by
      simp only [List.mem_cons,List.not_mem_nil,or_false,not_or] at hc
      exact ⟨hc.1,hc.2.2.1,hc.2.2.2.1,hc.2.2.2.2⟩
    have kx:∀ c o,c ∉ [z,ti,to,j1,j2]→s.heap.get? c=some o→hp.get? c=some o:=fun c o hc q=>hk c o (nx c hc).1 (nx c hc).2.1 (nx c hc).2.2.1 (nx c hc).2.2.2 q
    have I1:Inv X pins σ (upd H s.heap.objs.size (.tup [x,y])) { s with heap:=hp,gens:=s.gens,drawn:=s.drawn,toks:=s.toks }:=I.call (ch:=[z,ti,to,j1,j2]) (h':=hp) (g':=s.gens) (d':=s.drawn) (t':=s.toks)
      ⟨fun c o q n hc hc2=>kx c o hc2 q,fun c o q n hc hc2=>⟨o.slots,kx c o hc2 q⟩,fun c o q n hc2=>by rw [upd_ne (ne c o q)]; exact n,fun c o q hc2=>⟨o,kx c o hc2 q⟩,
        fun c ys q=>by rw [upd_ne (ne_of_none q hH)]; exact q,fun c o ys q=>by rw [upd_ne (ne_of_none q hH)]; exact q,fun c ps q=>⟨#[],by rw [upd_ne (ne_of_none q hH),q]; simp⟩⟩
      (fun c o q=>by
        by_cases hcs:c=s.heap.objs.size
        · subst hcs
          rw [upd_same] at q
          cases q
          exact ⟨by rw [sizeLine_eq]; show 2≤16777216; decide,[ux,uy],.cons rux (.cons ruy .nil),⟨_,gt,rfl,0,rfl⟩⟩
        · rw [upd_ne hcs] at q
          refine (I.hok c o q).stay (fun d v hd r=>?_) (fun d r=>by rw [upd_ne (ne_of_none r hH)]; exact r) fun d ys r=>by rw [upd_ne (ne_of_none r hH)]; exact r
          have hdn:H d≠none:=by
            rcases hd with rfl|hd
            · rw [q]; exact fun z=>nomatch z
            · rw [hd]; exact fun z=>nomatch z
          exact kx d v (fun z=>hdn (hf d z).1) r) I.bare
      (fun c hc=>by
        have F:FpOk X pins H c:=hf c hc
        exact ⟨F.2.2.2.1,F.2.1,F.2.2.2.2.1,F.2.2.2.2.2⟩)
    refine ⟨_,rfl,wpAny_letOwnedTupleGo_zip (s:={ s with heap:=hp }) gz' fun h2 e2 sb=>?_⟩
    have isSome:∀ c∈[z,ti,to,j1,j2],∃ o,s.heap.get? c=some o:=fun c hc=>by
      simp only [List.mem_cons,List.not_mem_nil,or_false] at hc
      rcases hc with rfl|rfl|rfl|rfl|rfl
      · exact ⟨_,gz⟩
      · exact ⟨_,gti⟩
      · exact ⟨_,gto⟩
      · obtain ⟨o,e,_⟩:=g1; exact ⟨o,e⟩
      · obtain ⟨o,e,_⟩:=g2; exact ⟨o,e⟩
    have nep:∀ c∈[z,ti,to,j1,j2],upd H s.heap.objs.size (.tup [x,y]) c=none:=fun c hc=>by
      obtain ⟨o,q⟩:=isSome c hc
      rw [upd_ne (ne _ _ q)]
      exact (hf c hc).1
    have fz:=hf z (by simp)
    have I2:Inv X pins σ (upd H s.heap.objs.size (.tup [x,y])) { s with heap:=h2,toks:=s.toks }:=I1.turned (t':=s.toks) (fun c o hc q=>(sb.2 c hc).trans q) (nep z (by simp)) fz.2.1 fz.2.2.2.1 fz.2.2.2.2.1 fz.2.2.2.2.2
    refine ⟨.ref s.heap.objs.size,_,I2,rfl,⟨_,rfl,hH,fun xs' ys' h1 h2=>⟨x,y,by rw [I.list_inj h1 hqa]; exact hx,by rw [I.tuple_inj h2 hqb]; exact hy,rfl⟩⟩,⟨e2,sb.extBut _ _ D.TIz (hk _ _ D.TIz D.TITO D.TIi1 D.TIi2 gti),⟨_,_,sb.extBut _ _ D.TOz gto'⟩,g1'.extBut sb.extBut D.i1z,g2'.extBut sb.extBut D.i2z⟩,nep⟩
  done:=by
    intro X hP hw hK hc i pins s σ H E I hf st hg
    subst hP hw hK
    obtain ⟨gz,gti,⟨u,v,gto⟩,g1,g2⟩:=st
    obtain ⟨xs,hq,hx⟩:=hg
    obtain ⟨its,rv,p,hz⟩:=I.list hq
    have hl:=rv.length
    refine pyNext_zipE (I.ok.hd hc) D gz gti g1 p.isList (by simp; omega) fun hp hk=>⟨rfl,?_⟩
    have kx:∀ c o,c ∉ [z,ti,to,j1,j2]→s.heap.get? c=some o→hp.get? c=some o:=fun c o hc q=>by
      simp only [List.mem_cons,List.not_mem_nil,or_false,not_or] at hc
      exact hk c o hc.1 hc.2.2.1 hc.2.2.2.1 hc.2.2.2.2 q
    exact I.call (ch:=[z,ti,to,j1,j2]) (h':=hp) (g':=s.gens) (d':=s.drawn) (t':=s.toks)
      ⟨fun c o q n hc hc2=>kx c o hc2 q,fun c o q n hc hc2=>⟨o.slots,kx c o hc2 q⟩,fun c o q n hc2=>n,fun c o q hc2=>⟨o,kx c o hc2 q⟩,fun c ys q=>q,fun c o ys q=>q,fun c ps q=>⟨#[],by rw [q]; simp⟩⟩
      (fun c o q=>(I.hok c o q).stay (fun d v hd r=>kx d v (fun z=>by
          have hdn:H d≠none:=by
            rcases hd with rfl|hd
            · rw [q]; exact fun z=>nomatch z
            · rw [hd]; exact fun z=>nomatch z
          exact hdn (hf d z).1) r) (fun d r=>r) fun d ys r=>r) I.bare
      (fun c hc=>by
        have F:FpOk X pins H c:=hf c hc
        exact ⟨F.2.2.2.1,F.2.1,F.2.2.2.2.1,F.2.2.2.2.2⟩)
  self:=fun _ _ _ _ _ st h=>wpAny_pyIter_zip st.1 h
section
variable {X:Cx}
def iZip (K:PySem.W.Frag) (ta:TA):TI:=fun σ H R=>ta σ H fun vs H1=>∃ a b,vs=[.ref a,.ref b]∧(∃ xs,SqL K H1 a xs)∧(∃ ys,SqT K H1 b ys)∧R (Itz K a b) H1
theorem bt_zip:bootBuiltins "zip"=some (.type "zip"):=by decide +kernel
theorem pi_zip (K:PySem.W.Frag) {elts:List Expr} {x1} {tpos:Pos} {l m:Expr} {ta:TA} {p pos:Pos} (hg:Gl X "zip") (hm:X.mg "zip"=none) (ha:PA X [l,m] ta) (he:starEach [l,m] X.env=(false,eval l X.env)::starEach [m] X.env:=by rfl) (hpl:(backTo pos (starEach [m] X.env)).any (·.1)=false:=by rfl) (hK:X.K=K:=by rfl) :
    PI X (.Tuple elts x1 tpos) (.Call (.Name "zip" p) [l,m] [] pos) (iZip K ta):=by
  subst hK
  intro pins s σ H R I h
  refine Call_ (ld_blt I hg hm bt_zip (PyProof.Rows.callWith_type1 (thn (ha pos pins s σ H _ I h) fun us s1 ⟨vs,H1,I1,r1,q1⟩=>?_) he hpl))
  obtain ⟨a,b,e,⟨xs,hqa⟩,⟨ys,hqb⟩,q⟩:=q1
  subst e
  obtain ⟨u,v,rfl,ru,rv⟩:=vals2 r1
  cases ru
  cases rv
  obtain ⟨ia,ra,pa,_⟩:=I1.list hqa
  obtain ⟨ib,rb,pb,_⟩:=I1.tuple hqb
  have pb':s1.heap.IsTuple b ib.toArray:=pb
  have la:a<s1.heap.objs.size:=by obtain ⟨_,e,_⟩:=pa.isList; exact Heap.lt_size e
  have lb:b<s1.heap.objs.size:=by obtain ⟨_,e,_⟩:=pb'; exact Heap.lt_size e
  refine call_zipT pa.isList pb' fun h' hz hti hto h1 h2 hk=>?_
  refine wpAny_pyIter_zip (s:={ s1 with heap:=h' }) hz ?_
  refine ⟨s1.heap.objs.size+4,[s1.heap.objs.size+4,s1.heap.objs.size+2,s1.heap.objs.size+3,s1.heap.objs.size,s1.heap.objs.size+1],_,_,H1,rfl,I1.kept (t':=s1.toks) hk,turn_zip a b _ _ _ _ _ (zipApart_new la lb),⟨hz,hti,⟨_,_,hto⟩,h1,h2⟩,fun c hc=>?_,q⟩
  have hc':s1.heap.objs.size≤c:=by
    simp only [List.mem_cons,List.not_mem_nil,or_false] at hc
    rcases hc with rfl|rfl|rfl|rfl|rfl <;> omega
  exact I1.fpOk hc' (I1.hok.fresh hc')
end
theorem for_zip {K:PySem.W.Frag} {a b:Addr} {xs ys:List V} {g:TG} {tb:TS} {D:Ends} {σ:St} {H:Hp} (hn:xs.length≤ys.length) (Pv:Nat→St→Hp→Prop) (h0:Pv 0 σ H) (hl:∀ i σ H,i≤xs.length→Pv i σ H→SqL K H a xs∧SqT K H b ys)
    (hs:∀ i x y p σ H,xs[i]?=some x→ys[i]?=some y→H p=none→Pv i σ H→g (.ref p) σ (upd H p (.tup [x,y])) fun σ2 H2=>tb { D with nx:=Pv (i+1),ct:=Pv (i+1),bk:=D.nx } σ2 H2) (hd:∀ σ H,Pv xs.length σ H→D.nx σ H):ForW g tb D σ (Itz K a b) H:=by
  refine ⟨fun i m σ H=>m=xs.length - i∧i≤xs.length∧Pv i σ H,⟨xs.length,by simp,Nat.zero_le _,h0⟩,?_⟩
  rintro i m σ H ⟨rfl,hi,p⟩
  obtain ⟨qa,qb⟩:=hl i σ H hi p
  by_cases hlt:i<xs.length
  · refine .inr ⟨⟨xs,ys,xs[i],ys[i],qa,qb,by simp [hlt],by simp⟩,Pv (i+1),fun σ' H' p'=>⟨xs.length - (i+1),by omega,rfl,hlt,p'⟩,fun x H' y=>?_⟩
    obtain ⟨pp,rfl,hp,y⟩:=y
    obtain ⟨z1,z2,hz1,hz2,rfl⟩:=y xs ys qa qb
    exact hs i z1 z2 pp σ H hz1 hz2 hp p
  · have e:i=xs.length:=by omega
    subst e
    exact .inl ⟨⟨xs,qa,Nat.le_refl _⟩,hd σ H p⟩
end L2
namespace L2
open PySem PySem.Spec PyProof.Rows
section
variable {X:Cx}
end
end L2
namespace K04
end K04
namespace L2
open PySem PySem.Spec PyProof.Rows
def optV:Option Int→V
  | some n=>.int n
  | none=>.non
def Keep (S:List Addr) (H H':Hp):Prop:=∀ b o,H b=some o→b ∉ S→H' b=some o
section
variable {S T:List Addr} {H H1 H2:Hp} {a b:Addr} {o:HO}
theorem Keep.refl:Keep S H H:=fun _ _ h _=>h
theorem Keep.trans (k:Keep S H H1) (j:Keep S H1 H2):Keep S H H2:=fun b o h n=>j b o (k b o h n) n
theorem Same.keep (s:Same H H1):Keep S H H1:=fun b o h _=>s b o h
theorem Keep.upd (k:Keep S H H1) (h:a∈S∨H a=none):Keep S H (upd H1 a o):=fun b u e n=>by
  rw [upd_ne]
  · exact k b u e n
  · rintro rfl
    rcases h with z|z
    · exact n z
    · rw [z] at e; cases e
end
inductive LetV (H:Hp):V→PyData→Prop
  | str {t:Str} (ok:PyData.strOk t=true):LetV H (.str t) (.str t)
  | int (n:Int):LetV H (.int n) (.int n)
  | lst {p:Addr} {n:Int}:H p=some (.lst [.int n])→LetV H (.ref p) (.list [.int n])
  | tup {p:Addr} {t:Str} {n:Int} (ok:PyData.strOk t=true):H p=some (.tup [.str t,.int n])→LetV H (.ref p) (.tuple [.str t,.int n])
section
variable {S:List Addr} {H H':Hp} {x:V} {d:PyData} {b:Addr}
end
section
variable {S:List Addr} {H H':Hp}
end
def PairV (H:Hp) (x:V) (p:Int × PyData):Prop:=∃ t y,x=.ref t∧H t=some (.tup [.int p.1,y])∧LetV H y p.2
def PairsX (H:Hp) (xs:List V) (us:List (Int × PyData)):Prop:=Paired (PairV H) xs us
section
variable {S:List Addr} {H H':Hp} {xs:List V} {us:List (Int × PyData)} {b:Addr}
end
def del (ds:List (List Int)) (z:Int):List Int:=if ds=[] then [1] else ds.getD (z.toNat % ds.length) []
def rf (l:Addr) (ls la:Option Int) (u:Addr):List (Str × V):=[("deeds", .ref l),("last_sent", optV ls),("last_asked", optV la),("underway", .ref u)]
section
variable {l u:Addr} {ls la:Option Int}
end
structure RoadAt (C:Addr) (H:Hp) (x dx l u:Addr) (ds:List (List Int)) (ls la:Option Int) (us:List (Int × PyData)):Prop where
  ins:H x=some (.ins C dx (rf l ls la u))
  deeds:DeedsAt H l ds
  und:∃ xs,H u=some (.lst xs)∧PairsX H xs us
  ne:l≠u
section
variable {S:List Addr} {C:Addr} {H H':Hp} {x dx l u:Addr} {ds:List (List Int)} {ls la:Option Int} {us:List (Int × PyData)}
end
end L2
namespace L2
open PySem PySem.Spec PyProof.Rows
theorem Same.seqT {K:PySem.W.Frag} {H H':Hp} {a:Addr} {xs:List V} (e:Same H H') (h:SqT K H a xs):SqT K H' a xs:=by
  rcases h with h|h
  · rcases h with h|⟨o,h⟩
    · exact .inl (.inl (e _ _ h))
    · exact .inl (.inr ⟨o,e _ _ h⟩)
  · exact .inr h
theorem SqT.keep {K:PySem.W.Frag} {S:List Addr} {H H':Hp} {a:Addr} {xs:List V} (k:Keep S H H') (hs:∀ b∈S,∃ ys,H b=some (.lst ys)) (h:SqT K H a xs):SqT K H' a xs:=by
  rcases h with h|h
  · rcases h with h|⟨o,h⟩
    · exact .inl (.inl (k _ _ h fun z=>by obtain ⟨ys,e⟩:=hs _ z; rw [h] at e; cases e))
    · exact .inl (.inr ⟨o,k _ _ h fun z=>by obtain ⟨ys,e⟩:=hs _ z; rw [h] at e; cases e⟩)
  · exact .inr h
end L2
namespace L2
open PySem PySem.Spec PyProof.Rows
mutual
inductive Im (H:Hp):V→PyData→Prop
  | non:Im H .non .none
  | bl (b:Bool):Im H (.bl b) (.bool b)
  | int (n:Int):Im H (.int n) (.int n)
  | str {t:Str} (ok:PyData.strOk t=true):Im H (.str t) (.str t)
  | tup {p:Addr} {xs:List V} {ds:List PyData}:H p=some (.tup xs)→Ims H xs ds→xs.length≤1000→Im H (.ref p) (.tuple ds)
inductive Ims (H:Hp):List V→List PyData→Prop
  | nil:Ims H [] []
  | cons {x:V} {xs:List V} {d:PyData} {ds:List PyData}:Im H x d→Ims H xs ds→Ims H (x::xs) (d::ds)
end
def NoT (H:Hp) (b:Addr):Prop:=∀ xs,H b≠some (.tup xs)
section
variable {S:List Addr} {H H':Hp} {b:Addr}
mutual
theorem Im.keep (k:Keep S H H') (hs:∀ b∈S,NoT H b):∀ {x:V} {d:PyData},Im H x d→Im H' x d
  | _,_,.non=>.non
  | _,_,.bl b=>.bl b
  | _,_,.int n=>.int n
  | _,_,.str ok=>.str ok
  | _,_,.tup h hx hl=>.tup (k _ _ h fun z=>hs _ z _ h) (Ims.keep k hs hx) hl
theorem Ims.keep (k:Keep S H H') (hs:∀ b∈S,NoT H b):∀ {xs:List V} {ds:List PyData},Ims H xs ds→Ims H' xs ds
  | _,_,.nil=>.nil
  | _,_,.cons r t=>.cons (Im.keep k hs r) (Ims.keep k hs t)
end
mutual
theorem Im.has {K:PySem.W.Frag}:∀ {x:V} {d:PyData},Im H x d→Has K H x d
  | _,_,.non=>.non
  | _,_,.bl b=>.bl b
  | _,_,.int n=>.int n
  | _,_,.str _=>.str _
  | _,_,.tup h hx _=>.tup (SqT.of h) (Ims.has hx)
theorem Ims.has {K:PySem.W.Frag}:∀ {xs:List V} {ds:List PyData},Ims H xs ds→HasAll K H xs ds
  | _,_,.nil=>.nil
  | _,_,.cons r t=>.cons (Im.has r) (Ims.has t)
end
mutual
theorem Im.refl:∀ {x:V} {d:PyData},Im H x d→PyData.eqv d d=true
  | _,_,.non=>by simp [PyData.eqv]
  | _,_,.bl b=>by simp [PyData.eqv]
  | _,_,.int n=>by simp [PyData.eqv]
  | _,_,.str _=>by simp [PyData.eqv]
  | _,_,.tup _ hx _=>by rw [PyData.eqv]; exact Ims.refl hx
theorem Ims.refl:∀ {xs:List V} {ds:List PyData},Ims H xs ds→PyData.eqvAll ds ds=true
  | _,_,.nil=>by simp [PyData.eqvAll]
  | _,_,.cons r t=>by rw [PyData.eqvAll,Im.refl r,Ims.refl t]; rfl
end
mutual
theorem Im.lay:∀ {x:V} {d:PyData},Im H x d→PyData.canLay0 d=true
  | _,_,.non=>by simp [PyData.canLay0]
  | _,_,.bl b=>by simp [PyData.canLay0]
  | _,_,.int n=>by simp [PyData.canLay0]
  | _,_,.str ok=>by simp [PyData.canLay0,ok]
  | _,_,.tup _ hx _=>by rw [PyData.canLay0]; exact Ims.lay hx
theorem Ims.lay:∀ {xs:List V} {ds:List PyData},Ims H xs ds→PyData.canLayAll0 ds=true
  | _,_,.nil=>by simp [PyData.canLayAll0]
  | _,_,.cons r t=>by rw [PyData.canLayAll0,Im.lay r,Ims.lay t]; rfl
end
end
section
variable {X:Cx}
end
section
variable {X:Cx} {j k:Nat} {C:Addr} {x m:Str} {ps:List Str} {sp:Sp} {p pos apos:Pos} {o:Expr} {ta:TE}
theorem pe_mth0 {pl:Sem Bool} (M:OwnM X.prog X.w X.K X.mg X.base j C m ps sp) (c:Cls X.K C) (hr:Room k X.A) (he:PE X o ta) (hk:j≤k:=by decide)
    (ht:eval (.Call (.Attribute o m apos) [] [] pos) X.env=(do
      let ov ← eval o X.env
      standAt apos.atName
      let (f,first) ← holding [ov] (getMethod ov m pl)
      callWith pos f first (backTo pos (starEach [] X.env)) (backToKw pos (keywordEach [] X.env))):=by rfl) :
    PE X (.Call (.Attribute o m apos) [] [] pos) (tMeth C m sp [] E0 ta tNil):=by
  obtain ⟨f,fd,hm,hb,F⟩:=M
  exact pe_meth0 (pl:=pl) he c hm F (hr.mono hk) hb .nil pass0 ht
end
def pd (p:Int × PyData):PyData:=.tuple [.int p.1,p.2]
section
variable {S:List Addr} {H H':Hp}
end
def tk (s:Int × List PyData) (p:Int × PyData):Int × List PyData:=if p.1=s.1 then (s.1+1,s.2++[p.2]) else s
end L2
namespace L2
open PySem PySem.Spec PyProof.Rows
section
variable {X:Cx}
theorem OpR.weak {f:Value→Value→Sem Value} {r r':R2} (h:OpR X f r) (w:∀ x y H Q,r' x y H Q→r x y H Q):OpR X f r':=
  fun pins s σ H x y v u Q I rx ry q=>h pins s σ H x y v u Q I rx ry (w _ _ _ _ q)
theorem CallR.weak {f:Value} {r r':List V→Hp→VK→Prop} (h:CallR X f r) (w:∀ xs H Q,r' xs H Q→r xs H Q):CallR X f r':=
  fun pins s σ H xs us Q I rs q=>h pins s σ H xs us Q I rs (w _ _ _ q)
theorem SlR.weak {r r':V→Option Int→Option Int→Hp→VK→Prop} (h:SlR X r) (w:∀ x l u H Q,r' x l u H Q→r x l u H Q):SlR X r':=
  fun pins s σ H x v vl vu lo hi sl Q I rx hs pl pu q=>h pins s σ H x v vl vu lo hi sl Q I rx hs pl pu (w _ _ _ _ _ q)
def getO:HO→V→Option V
  | .lst xs,.int i=>atI xs i
  | .tup xs,.int i=>atI xs i
  | .dK kvs,.int i=>valV kvs (Sum.inl i)
  | .dK kvs,.str x=>valV kvs (Sum.inr x)
  | _,_=>none
theorem getO_l {xs:List V} {i:Int}:getO (.lst xs) (.int i)=atI xs i:=rfl
theorem getO_t {xs:List V} {i:Int}:getO (.tup xs) (.int i)=atI xs i:=rfl
theorem getO_ds {kvs:List (Key × V)} {x:Str}:getO (.dK kvs) (.str x)=valV kvs (Sum.inr x):=rfl
def rGet:R2:=fun x y H Q=>∃ p o v,x=.ref p∧H p=some o∧getO o y=some v∧Q v H
theorem ix_dict (hu:X.A.units+1<cLine):IxR X (fun x y H Q=>∃ a v,x=.ref a∧DGet H a y (some v)∧Q v H):=by
  intro value slice pins s σ H x y v u Q I rx ry h hs
  obtain ⟨a,z,rfl,g,q⟩:=h
  cases rx
  exact tail_any (dict_typeIs I g) PySem.F.slot_dict_getitem.lookup (d_getItem hu I g ry fun w' s3 I3 rw'=>⟨z,H,I3,rw',q⟩) hs
theorem ix_get (hu:X.A.units+1<cLine):IxR X rGet:=by
  intro value slice pins s σ H x y v u Q I rx ry h hs
  obtain ⟨p,o,z,rfl,e,g,q⟩:=h
  cases o with
  | lst xs=>cases y <;> first|exact ix_list value slice pins s σ H _ _ v u Q I rx ry ⟨p,xs,_,z,rfl,rfl,SqL.of e,g,q⟩ hs|cases g
  | tup xs=>cases y <;> first|exact ix_tup value slice pins s σ H _ _ v u Q I rx ry ⟨p,xs,_,z,rfl,rfl,SqT.of e,g,q⟩ hs|cases g
  | dK kvs=>
    cases y with
    | int i=>exact ix_dict hu value slice pins s σ H _ _ v u Q I rx ry ⟨p,z,rfl,.inl ⟨kvs,Sum.inl i,.inl e,rfl,g.symm⟩,q⟩ hs
    | str x=>exact ix_dict hu value slice pins s σ H _ _ v u Q I rx ry ⟨p,z,rfl,.inl ⟨kvs,Sum.inr x,.inl e,rfl,g.symm⟩,q⟩ hs
    | _=>cases g
  | _=>cases y <;> cases g
def lenO:HO→Option Nat
  | .lst xs=>some xs.length
  | .tup xs=>some xs.length
  | .dK kvs=>some kvs.length
  | _=>none
def lenX (H:Hp):V→Option Nat
  | .ref p=>(H p).bind lenO
  | .str z=>if z.length≤sizeLine then some z.length else none
  | _=>none
theorem lenX_r {H:Hp} {p:Addr}:lenX H (.ref p)=(H p).bind lenO:=rfl
theorem lenO_l {xs:List V}:lenO (.lst xs)=some xs.length:=rfl
def rLenX:List V→Hp→VK→Prop:=fun xs H Q=>∃ x n,xs=[x]∧lenX H x=some n∧Q (.int n) H
theorem call_lenX:CallR X (.builtin "len") rLenX:=by
  intro pins s σ H xs us Q I r h
  obtain ⟨x,n,rfl,g,q⟩:=h
  cases x with
  | ref p=>
    cases e:H p with
    | none=>rw [lenX_r,e] at g; cases g
    | some o=>
      rw [lenX_r,e] at g
      cases o with
      | lst xs=>cases g; exact call_len_seq pins s σ H _ us Q I r ⟨p,xs,rfl,.inl (SqL.of e),q⟩
      | tup xs=>cases g; exact call_len_seq pins s σ H _ us Q I r ⟨p,xs,rfl,.inr (SqT.of e),q⟩
      | dK kvs=>
        cases g
        obtain ⟨u,rfl,rx⟩:=vals1 r
        cases rx
        exact d_len I (.inl e) fun t s' I'=>⟨.int _,H,I',⟨t,rfl⟩,q⟩
      | _=>cases g
  | str z=>
    have g':(if z.length≤sizeLine then some z.length else none)=some n:=g
    split at g'
    · cases g'
      rename_i hz
      exact call_len_str pins s σ H _ us Q I r ⟨z,rfl,hz,q⟩
    · cases g'
  | _=>cases g
def truO:HO→Option Bool
  | .lst xs=>some (!xs.isEmpty)
  | .tup xs=>some (!xs.isEmpty)
  | .dK kvs=>some (!kvs.isEmpty)
  | _=>none
def truX (H:Hp):V→Option Bool
  | .non=>some false
  | .bl b=>some b
  | .int i=>some (i != 0)
  | .ref p=>(H p).bind truO
  | _=>none
theorem truX_b {H:Hp} {b:Bool}:truX H (.bl b)=some b:=rfl
theorem truX_r {H:Hp} {p:Addr}:truX H (.ref p)=(H p).bind truO:=rfl
theorem truO_l {xs:List V}:truO (.lst xs)=some (!xs.isEmpty):=rfl
theorem truO_t {xs:List V}:truO (.tup xs)=some (!xs.isEmpty):=rfl
def tTruX (ta:TE):TT:=fun σ H Q=>ta σ H fun x H'=>∃ k,truX H' x=some k∧Q k H'
theorem tru_x:TruR X (fun x H Q=>∃ k,truX H x=some k∧Q k H):=by
  intro pins s σ H x v Q I rx h
  obtain ⟨k,g,q⟩:=h
  refine tru_ok pins s σ H x v Q I rx ⟨k,?_,q⟩
  cases x with
  | non=>cases g; rfl
  | bl b=>cases g; rfl
  | int i=>cases g; rfl
  | ref p=>
    cases e:H p with
    | none=>rw [truX_r,e] at g; cases g
    | some o=>
      rw [truX_r,e] at g
      cases o with
      | lst xs=>cases g; exact .inl ⟨xs,SqL.of e,rfl⟩
      | tup xs=>cases g; exact .inr (.inl ⟨xs,SqT.of e,rfl⟩)
      | dK kvs=>cases g; exact .inr (.inr ⟨kvs,e,rfl⟩)
      | _=>cases g
  | _=>cases g
theorem pt_truX {a:Expr} {ta:TE} (ha:PE X a ta) (he:∀ whole,isTrue a X.env whole=(do let v ← whole; standAt a.pos; holding [v] (truthy v)):=by intro _; rfl):PT X a (tTruX ta):=by
  intro pins s σ H Q I h
  exact isTrue_plain (thn (ha pins s σ H _ I h) fun v s1 ⟨x,H1,I1,r1,q1⟩=>tru_x pins s1 σ H1 x v Q I1 r1 q1) (he _)
def setO:HO→V→V→Option HO
  | .lst xs,.int k,v=>(ixN xs.length k).map fun j=>.lst (xs.set j v)
  | .dK kvs,.int i,v=>if kvs.length<sizeLine then some (.dK (putK kvs (Sum.inl i) v)) else none
  | .dK kvs,.str z,v=>if kvs.length<sizeLine then some (.dK (putK kvs (Sum.inr z) v)) else none
  | _,_,_=>none
theorem setO_l {xs:List V} {k:Int} {v:V}:setO (.lst xs) (.int k) v=(ixN xs.length k).map fun j=>.lst (xs.set j v):=rfl
def rSetX:V→V→V→Hp→(Hp→Prop)→Prop:=fun o i v H Q=>∃ p ob ob',o=.ref p∧H p=some ob∧setO ob i v=some ob'∧Q (upd H p ob')
theorem set_x (hu:X.A.units+1<cLine):PSet X rSetX:=by
  intro pins s σ H o i v ov iv u Q I ro ri rv h
  obtain ⟨p,ob,ob',rfl,e,g,q⟩:=h
  cases ob with
  | lst xs=>
    cases i with
    | int k=>
      cases z:ixN xs.length k with
      | none=>rw [setO_l,z] at g; cases g
      | some j=>
        rw [setO_l,z] at g
        cases g
        exact set_list pins s σ H _ _ v ov iv u Q I ro ri rv ⟨p,xs,k,j,rfl,rfl,e,z,q⟩
    | _=>cases g
  | dK kvs=>
    cases ro
    cases i with
    | int k=>
      have g':(if kvs.length<sizeLine then some (HO.dK (putK kvs (Sum.inl k) v)) else none)=some ob':=g
      split at g'
      · rename_i hz
        cases g'
        exact d_setItem hu I (.inl ⟨kvs,Sum.inl k,e,rfl,hz,rfl⟩) ri rv fun s' I'=>⟨_,I',q⟩
      · cases g'
    | str k=>
      have g':(if kvs.length<sizeLine then some (HO.dK (putK kvs (Sum.inr k) v)) else none)=some ob':=g
      split at g'
      · rename_i hz
        cases g'
        exact d_setItem hu I (.inl ⟨kvs,Sum.inr k,e,rfl,hz,rfl⟩) ri rv fun s' I'=>⟨_,I',q⟩
      · cases g'
    | _=>cases g
  | _=>cases i <;> cases g
def rSlX:V→Option Int→Option Int→Hp→VK→Prop:=fun x lo hi H Q=>∃ a xs,x=.ref a∧H a=some (.lst xs)∧∀ p,H p=none→Q (.ref p) (upd H p (.lst (cutV xs lo hi)))
theorem sl_X:SlR X rSlX:=sl_list.weak fun _ _ _ _ _ ⟨a,xs,e,h,q⟩=>⟨a,xs,e,SqL.of h,q⟩
def rSlTX:V→Option Int→Option Int→Hp→VK→Prop:=fun x lo hi H Q=>∃ a xs,x=.ref a∧H a=some (.tup xs)∧∀ p H',(H'=H∨(H p=none∧H'=upd H p (.tup (cutV xs lo hi))))→H' p=some (.tup (cutV xs lo hi))→Q (.ref p) H'
theorem cutV_whole {xs:List V} {lo hi:Option Int} (h:HT.sIx xs.length 0 lo=0∧HT.sIx xs.length xs.length hi=xs.length):cutV xs lo hi=xs:=by
  unfold cutV
  rw [h.1,h.2]
  simp
theorem sl_TX:SlR X rSlTX:=sl_tupW.weak fun _ lo hi H Q ⟨a,xs,e,h,q⟩=>⟨a,xs,e,SqT.of h,fun w=>q a H (.inl rfl) (by rw [cutV_whole w]; exact h),fun _ p hp=>q p _ (.inr ⟨hp,rfl⟩) upd_same⟩
def seqO:HO→Option (List V)
  | .lst xs=>some xs
  | .tup xs=>some xs
  | _=>none
theorem seqO_l {xs:List V}:seqO (.lst xs)=some xs:=rfl
theorem seqO_t {xs:List V}:seqO (.tup xs)=some xs:=rfl
theorem seqO_of {K:PySem.W.Frag} {H:Hp} {p:Addr} {o:HO} {ys:List V} (h:H p=some o) (g:seqO o=some ys):SqL K H p ys∨SqT K H p ys:=by
  cases o with
  | lst xs=>cases g; exact .inl (SqL.of h)
  | tup xs=>cases g; exact .inr (SqT.of h)
  | _=>cases g
def rListX:List V→Hp→VK→Prop:=fun xs H Q=>∃ p o ys,xs=[.ref p]∧H p=some o∧seqO o=some ys∧∀ l,H l=none→Q (.ref l) (upd H l (.lst ys))
theorem call_listX:CallR X (.type "list") rListX:=call_list_of.weak fun _ _ _ ⟨p,o,ys,e,h,g,q⟩=>⟨p,ys,e,seqO_of h g,q⟩
def rTupX:List V→Hp→VK→Prop:=fun xs H Q=>∃ p ys,xs=[.ref p]∧H p=some (.lst ys)∧∀ l,H l=none→Q (.ref l) (upd H l (.tup ys))
theorem call_tupX:CallR X (.type "tuple") rTupX:=call_tuple_of.weak fun _ _ _ ⟨p,ys,e,h,q⟩=>⟨p,ys,e,.inl ⟨SqL.of h,q⟩⟩
def tBL (r:V→List V→Hp→VK→Prop) (to:TE) (t:TA):TE:=fun σ H Q=>to σ H fun x H1=>∃ p xs,x=.ref p∧H1 p=some (.lst xs)∧t σ H1 fun xs H2=>r x xs H2 Q
theorem pe_lm {o e:Expr} {es:List Expr} {to:TE} {t:TA} {name:Str} {apos cpos:Pos} {id:String} {r:V→List V→Hp→VK→Prop}
    (slot:Slot "list" name id) (hty:typeOf (.builtin id)=pure (.type "method_descriptor")) (hm:MtR X id r) (ho:PE X o to) (ha:PA X (e::es) t)
    (hbase:attributeBase o name X.env (eval o X.env)=eval o X.env:=by rfl)
    (hfew:((backTo cpos (starEach (e::es) X.env)).all (fun x=>!x.1) && (backToKw cpos (keywordEach [] X.env)).all (fun x=>x.1.isSome)
      && decide ((e::es).length+([]:List Keyword).length+(if ([]:List Keyword).isEmpty then 0 else 1)<30))=true:=by rfl)
    (hline:(apos.endLine == cpos.line)=true:=by rfl) (hs:starEach (e::es) X.env=(false,eval e X.env)::starEach es X.env:=by rfl) (hplain:(backTo cpos (starEach es X.env)).any (·.1)=false:=by rfl) :
    PE X (.Call (.Attribute o name apos) (e::es) [] cpos) (tBL r to t):=by
  intro pins s σ H Q I h
  refine wpAny_Call_method_late hbase hfew hline rfl (thn (ho pins s σ H _ I h) fun v s1 ⟨x,H1,I1,r1,p,xs,ex,ep,q1⟩=>?_)
  subst ex
  obtain ⟨h1,h2⟩:=tyV_is I1 r1 (show tyV X.K "list" (.ref p) H1 from .inl ⟨rfl,xs,SqL.of ep⟩)
  refine ⟨"list", id,PySem.F.plainAttrs_list,slot,hty,h1,h2,?_⟩
  have hA:=ha cpos pins s1 σ H1 _ I1 q1
  rw [hs] at hA ⊢
  refine Calls.callWith_builtin (by show (false || (backTo cpos (starEach es X.env)).any (·.1))=false; rw [hplain] <;> rfl) (Calls.evalArgs_plain ?_)
  exact thn hA fun us s2 ⟨vs,H2,I2,r2,q2⟩=>hm pins s2 σ H2 _ vs v us Q I2 r1 r2 q2
theorem make_same {H H':Hp} {x dx:Addr} {o1 o2:HO} (hx:H x=none) (hdx:H dx=none) (k:Keep [x] (upd (upd H dx o1) x o2) H'):Same H H':=fun b o e=>by
  have n1:b≠x:=ne_of_none e hx
  have n2:b≠dx:=ne_of_none e hdx
  exact k b o (by rw [upd_ne n1,upd_ne n2]; exact e) (by simp; exact n1)
theorem use1 {t1 R:TS} {D:Ends} {σ:St} {H:Hp} (Pm:St→Hp→Prop) (key:∀ σ' H',Pm σ' H'→R D σ' H') (go:∀ R':TS,(∀ σ' H',Pm σ' H'→R' D σ' H')→tSeq t1 R' D σ H):tSeq t1 R D σ H:=go R key
theorem use2 {t1 t2 R:TS} {D:Ends} {σ:St} {H:Hp} (Pm:St→Hp→Prop) (key:∀ σ' H',Pm σ' H'→R D σ' H') (go:∀ R':TS,(∀ σ' H',Pm σ' H'→R' D σ' H')→tSeq t1 (tSeq t2 R') D σ H):tSeq t1 (tSeq t2 R) D σ H:=go R key
theorem use3 {t1 t2 t3 R:TS} {D:Ends} {σ:St} {H:Hp} (Pm:St→Hp→Prop) (key:∀ σ' H',Pm σ' H'→R D σ' H') (go:∀ R':TS,(∀ σ' H',Pm σ' H'→R' D σ' H')→tSeq t1 (tSeq t2 (tSeq t3 R')) D σ H):tSeq t1 (tSeq t2 (tSeq t3 R)) D σ H:=go R key
theorem ixN_20:ixN 2 0=some 0:=rfl
theorem ixN_21:ixN 2 1=some 1:=rfl
theorem atI_0 {α:Type} {a:α} {l:List α}:atI (a::l) 0=some a:=by simp [atI,ixN]
theorem atI_1 {α:Type} {a b:α} {l:List α}:atI (a::b::l) 1=some b:=by
  simp only [atI,ixN,lZ1]
  rw [if_pos (by decide),if_pos (by omega)]
  rfl
theorem atI_2 {α:Type} {a b c:α} {l:List α}:atI (a::b::c::l) 2=some c:=by
  simp only [atI,ixN,lZ1]
  rw [if_pos (by decide),if_pos (by omega)]
  rfl
theorem atI_3 {α:Type} {a b c d:α} {l:List α}:atI (a::b::c::d::l) 3=some d:=by
  simp only [atI,ixN,lZ1]
  rw [if_pos (by decide),if_pos (by omega)]
  rfl
theorem atI_nat' {α:Type} {l:List α} {n:Nat}:atI l (n:Int)=l[n]?:=by
  unfold atI ixN
  rw [if_pos (by omega)]
  split
  · simp
  · rw [List.getElem?_eq_none (by omega)]; rfl
theorem atI_pos {α:Type} {l:List α} {k:Int} (h0:0≤k):atI l k=l[k.toNat]?:=by
  obtain ⟨n,rfl⟩:=Int.eq_ofNat_of_zero_le h0
  exact atI_nat'
def tyO:HO→Option String
  | .lst _=>some "list"
  | .tup _=>some "tuple"
  | .dK _=>some "dict"
  | _=>none
def tyX (H:Hp):V→Option String
  | .non=>some "NoneType"
  | .bl _=>some "bool"
  | .int _=>some "int"
  | .str _=>some "str"
  | .ref p=>(H p).bind tyO
  | _=>none
theorem tyX_n {H:Hp}:tyX H .non=some "NoneType":=rfl
theorem tyX_i {H:Hp} {i:Int}:tyX H (.int i)=some "int":=rfl
theorem tyX_s {H:Hp} {z:Str}:tyX H (.str z)=some "str":=rfl
theorem tyX_r {H:Hp} {p:Addr}:tyX H (.ref p)=(H p).bind tyO:=rfl
theorem tyO_l {xs:List V}:tyO (.lst xs)=some "list":=rfl
def kT:String→String→Option Bool
  | "NoneType","int"=>some false
  | "NoneType","bool"=>some false
  | "NoneType","str"=>some false
  | "NoneType","list"=>some false
  | "NoneType","tuple"=>some false
  | "NoneType","dict"=>some false
  | "bool","int"=>some true
  | "bool","bool"=>some true
  | "bool","str"=>some false
  | "bool","list"=>some false
  | "bool","tuple"=>some false
  | "bool","dict"=>some false
  | "int","int"=>some true
  | "int","bool"=>some false
  | "int","str"=>some false
  | "int","list"=>some false
  | "int","tuple"=>some false
  | "int","dict"=>some false
  | "str","int"=>some false
  | "str","bool"=>some false
  | "str","str"=>some true
  | "str","list"=>some false
  | "str","tuple"=>some false
  | "str","dict"=>some false
  | "list","int"=>some false
  | "list","bool"=>some false
  | "list","str"=>some false
  | "list","list"=>some true
  | "list","tuple"=>some false
  | "list","dict"=>some false
  | "tuple","int"=>some false
  | "tuple","bool"=>some false
  | "tuple","str"=>some false
  | "tuple","list"=>some false
  | "tuple","tuple"=>some true
  | "tuple","dict"=>some false
  | "dict","int"=>some false
  | "dict","bool"=>some false
  | "dict","str"=>some false
  | "dict","list"=>some false
  | "dict","tuple"=>some false
  | "dict","dict"=>some true
  | _,_=>none
theorem kT_Nost:kT "NoneType" "str"=some false:=rfl
theorem kT_inin:kT "int" "int"=some true:=rfl
theorem kT_inbo:kT "int" "bool"=some false:=rfl
theorem kT_inst:kT "int" "str"=some false:=rfl
theorem kT_stst:kT "str" "str"=some true:=rfl
theorem kT_list:kT "list" "str"=some false:=rfl
theorem kT_kit (K:PySem.W.Frag) {a b:String} {r:Bool} (h:kT a b=some r):PySem.W.kitOne K (.type a) (.type b)=some r:=by
  unfold kT at h
  split at h <;> first|(cases h; first|rfl|(with_unfolding_all rfl))|cases h
def rIsIX:List V→Hp→VK→Prop:=fun xs H Q=>∃ x n t r,xs=[x,.ty n]∧tyX H x=some t∧kT t n=some r∧Q (.bl r) H
theorem tyX_of {K:PySem.W.Frag} {H:Hp} {x:V} {t:String} (h:tyX H x=some t):TyOf K H x (.type t):=by
  cases x with
  | non=>cases h; exact .non
  | bl b=>cases h; exact .bl b
  | int i=>cases h; exact .int i
  | str z=>cases h; exact .str z
  | ref p=>
    cases e:H p with
    | none=>rw [tyX_r,e] at h; cases h
    | some o=>
      rw [tyX_r,e] at h
      cases o with
      | lst xs=>cases h; exact .lst e
      | tup xs=>cases h; exact .tup e
      | dK kvs=>cases h; exact .dK e
      | _=>cases h
  | _=>cases h
theorem call_isiX:CallR X (.builtin "isinstance") rIsIX:=call_isinst.weak fun _ _ _ ⟨x,n,t,r,e,h,k,q⟩=>⟨x,.ty n,.type t,r,e,⟨n,rfl⟩,tyX_of h,kT_kit _ k,q⟩
theorem lenX_s' {H:Hp} {z:Str}:lenX H (.str z)=if z.length≤sizeLine then some z.length else none:=rfl
end
end L2
namespace L2
open PySem PySem.Spec PyProof.Rows
section
variable {X:Cx}
def Itv (xs:List V):It:=⟨fun i _=>i<xs.length,fun i H x H'=>H'=H∧xs[i]?=some x,fun i _=>i=xs.length⟩
def signs (z:Str):List V:=z.cps.toList.map fun c=>V.str ⟨#[c]⟩
theorem signs_len {z:Str}:(signs z).length=z.length:=by simp [signs,Str.length]
theorem turn_str {P:Program} {w:World} {K:PySem.W.Frag} {tg:Expr} {z:Str} {it:Addr} {St:Nat→Heap→Prop} (W:∀ A':Around,A'.handled=none→Walks P w A' it [it] [it] z.cps.size (SignAt z) St)
    (ob:∀ i h,St i h→∃ o n vs,h.get? it=some o∧o.cls=.type n∧o.data=.fields vs∧["enumerate","zip","dict_itemiterator","dict_reverseitemiterator","odict_iterator","itertools.zip_longest","itertools.pairwise"].contains n=false)
    (sf:∀ (A:Around) (i:Nat) (s:Shared) (Q:Value→Shared→Prop) (E:Value→Shared→Prop),St i s.heap→Q (.ref it) s→wpAny (model P w) A (pyIter (.ref it)) Q E s) :
    Turn P w K tg (Itv (signs z)) [it] it St where
  mem:=by simp
  obj:=fun i h st b hb=>by
    have e:b=it:=by simpa using hb
    subst e
    obtain ⟨o,n,vs,e,c,d,_⟩:=ob i h st
    exact ⟨o,e,fun v z=>by rw [d] at z; cases z⟩
  keep:=fun i h h' st k=>(W { handled:=none } rfl).frame i h h' st k
  item:=by
    intro X hP hw hK hc i pins s σ H E I hf st hg
    subst hP hw hK
    obtain ⟨f0,f1,f2,f3,f4,f5⟩:=hf it (by simp)
    have hi:i<z.cps.size:=by
      have:=hg
      simp only [Itv,signs_len,Str.length] at this
      exact this
    refine (W X.A (I.ok.hd hc)).item i s _ _ hi st fun v h' tk hv st' kk=>?_
    obtain ⟨c,u,hcv,rfl⟩:=hv
    have I1:Inv X pins σ H { s with heap:=h',toks:=tk }:=I.turned (fun b o hb e=>kk b o (by simpa using hb) e) f0 f1 f3 f4 f5
    obtain ⟨o,n,vs,eo,ec,ed,en⟩:=ob _ _ st'
    refine ⟨_,rfl,go_of (s:={ s with heap:=h',toks:=tk }) eo ec ed en ⟨.str ⟨#[c]⟩,H,I1,⟨u,rfl⟩,⟨rfl,?_⟩,st',fun b hb=>(hf b hb).1⟩⟩
    simp [signs,hcv]
  done:=by
    intro X hP hw hK hc i pins s σ H E I hf st hg
    subst hP hw hK
    obtain ⟨f0,f1,f2,f3,f4,f5⟩:=hf it (by simp)
    have hi:i=z.cps.size:=by
      have:=hg
      simp only [Itv,signs_len,Str.length] at this
      exact this
    subst hi
    exact (W X.A (I.ok.hd hc)).done s _ _ st fun h' tk kk=>⟨rfl,I.turned (fun b o hb e=>kk b o (by simpa using hb) e) f0 f1 f3 f4 f5⟩
  self:=sf
def iStr (tl:TE):TI:=fun σ H R=>tl σ H fun x H1=>∃ z,x=.str z∧R (Itv (signs z)) H1
theorem pi_str {tg l:Expr} {tl:TE} (hl:PE X l tl):PI X tg l (iStr tl):=by
  intro pins s σ H R I h
  refine thn (hl pins s σ H _ I h) fun v s1 ⟨x,H1,I1,r1,q1⟩=>?_
  obtain ⟨z,e,q⟩:=q1
  subst e
  obtain ⟨t,rfl⟩:=r1
  have fin:∀ (o:Obj) (n:String) (vs:Array Value) (St:Nat→Heap→Prop),(∀ A':Around,A'.handled=none→Walks X.prog X.w A' s1.heap.objs.size [s1.heap.objs.size] [s1.heap.objs.size] z.cps.size (SignAt z) St)→St 0 (s1.heap.push o) →
      (∀ i h,St i h→∃ o n vs,h.get? s1.heap.objs.size=some o∧o.cls=.type n∧o.data=.fields vs∧["enumerate","zip","dict_itemiterator","dict_reverseitemiterator","odict_iterator","itertools.zip_longest","itertools.pairwise"].contains n=false) →
      (∀ (A:Around) (i:Nat) (s:Shared) (Q:Value→Shared→Prop) (E:Value→Shared→Prop),St i s.heap→Q (.ref s1.heap.objs.size) s→wpAny (model X.prog X.w) A (pyIter (.ref s1.heap.objs.size)) Q E s) →
      PIE X pins σ tg R (.ref s1.heap.objs.size) { s1 with heap:=s1.heap.push o }:=fun o n vs St W s0 ob sf=>
    ⟨s1.heap.objs.size,[s1.heap.objs.size],St,Itv (signs z),H1,rfl,I1.kept (t':=s1.toks) fun b o' e=>Heap.get?_push_of_some _ e,turn_str W ob sf,s0,fun b hb=>by
      have e:b=s1.heap.objs.size:=by simpa using hb
      subst e
      exact (I1.fpOk (Nat.le_refl _) (I1.hok.fresh (Nat.le_refl _))),q⟩
  cases ha:z.cps.all (·<128)
  · exact wpAny_pyIter_wide ha (fin _ "str_iterator" #[] _ (fun A' hA=>Walks.strWide hA _ z t) ⟨_,Heap.get?_push_size _ rfl,rfl,rfl⟩ (fun i h ⟨o,e,c,d⟩=>⟨o,_,_,e,c,d,by decide⟩) (fun A i s Q E st hq=>wpAny_pyIter_striter_wide st hq))
  · exact wpAny_pyIter_ascii ha (fin _ "str_ascii_iterator" #[] _ (fun A' hA=>Walks.strAscii hA _ z t) ⟨_,Heap.get?_push_size _ rfl,rfl,rfl⟩ (fun i h ⟨o,e,c,d⟩=>⟨o,_,_,e,c,d,by decide⟩) (fun A i s Q E st hq=>wpAny_pyIter_striter_ascii st hq))
theorem comp_itv {n:Nat} {js:List Nat} {g:TG} {tc:TT} {te:TE} {σ:St} {Q:VK} {H1:Hp} {xs:List V} (hz:xs.length≤100000) (Pv:Addr→Nat→List V→Hp→Prop) (h0:∀ D,H1 D=none→Pv D 0 [] (upd H1 D (.lst [])))
    (hl:∀ D i acc H,H1 D=none→i≤xs.length→Pv D i acc H→H D=some (.lst acc)∧acc.length≤i)
    (hs:∀ D i x acc H,H1 D=none→xs[i]?=some x→Pv D i acc H→g x (cSt n js σ) H fun σ2 H2=>σ2.drop n=(cSt n js σ).drop n∧tc σ2 H2 fun b H3=>if b=true then te σ2 H3 fun v H4=>H4 D=some (.lst acc)∧Pv D (i+1) (acc++[v]) (upd H4 D (.lst (acc++[v]))) else H3 D=some (.lst acc)∧Pv D (i+1) acc H3)
    (hd:∀ D acc H,H1 D=none→Pv D xs.length acc H→Q (.ref D) H):CompW n js g tc te σ Q (Itv xs) H1:=by
  intro D hD
  refine ⟨fun i m acc H=>m=xs.length - i∧i≤xs.length∧Pv D i acc H,⟨xs.length,by simp,Nat.zero_le _,h0 D hD⟩,?_⟩
  rintro i m acc H ⟨rfl,hi,p⟩
  obtain ⟨e1,e3⟩:=hl D i acc H hD hi p
  refine ⟨e1,?_⟩
  by_cases hlt:i<xs.length
  · refine .inr ⟨hlt,by rw [sizeLine_eq]; omega,Pv D (i+1),fun acc' H' p'=>⟨xs.length - (i+1),by omega,rfl,hlt,p'⟩,fun x H' y=>?_⟩
    obtain ⟨e,y⟩:=y
    subst e
    exact hs D i x acc _ hD y p
  · have e:i=xs.length:=by omega
    subst e
    exact .inl ⟨rfl,hd D acc H hD p⟩
theorem comp_itvP {n:Nat} {js:List Nat} {g:TG} {te:TE} {σ:St} {Q:VK} {H1:Hp} {xs:List V} (hz:xs.length≤100000) (f:V→V)
    (hs:∀ (H:Hp) x (Q':VK),x∈xs→Same H1 H→Q' (f x) H→g x (cSt n js σ) H fun σ2 H2=>σ2.drop n=(cSt n js σ).drop n∧te σ2 H2 Q')
    (hq:∀ D,H1 D=none→Q (.ref D) (upd H1 D (.lst (xs.map f)))) (gm:∀ x σ H P P',(∀ σ2 H2,P σ2 H2→P' σ2 H2)→g x σ H P→g x σ H P'):CompW n js g tYes te σ Q (Itv xs) H1:=by
  refine comp_itv hz (fun D i acc H=>acc=(xs.take i).map f∧H=upd H1 D (.lst acc)) (fun D _=>⟨by simp,rfl⟩) ?_ ?_ ?_
  · rintro D i acc H hD hi ⟨rfl,rfl⟩
    exact ⟨upd_same,by simp; omega⟩
  · rintro D i x acc H hD hxi ⟨rfl,rfl⟩
    refine gm _ _ _ _ _ (fun σ2 H2 h=>?_) (hs _ x (fun v H4=>H4 D=some (.lst ((xs.take i).map f))∧(((xs.take i).map f)++[v]=(xs.take (i+1)).map f∧upd H4 D (.lst (((xs.take i).map f)++[v]))=upd H1 D (.lst (((xs.take i).map f)++[v])))) (List.mem_of_getElem? hxi) (Same.upd_new hD) ⟨upd_same,?_,by rw [upd_upd]⟩)
    · exact ⟨h.1,h.2⟩
    · rw [List.take_add_one,hxi]
      simp
  · rintro D acc H hD ⟨rfl,rfl⟩
    rw [List.take_length]
    exact hq D hD
def rLeS:R2:=fun x y H Q=>∃ a b,x=.str a∧y=.str b∧Q (.bl (!decide (b.cps.toList<a.cps.toList))) H
theorem op_leS:OpR X (compareOp .LtE) rLeS:=by
  intro pins s σ H x y v u Q I rx ry h
  obtain ⟨a,b,rfl,rfl,q⟩:=h
  obtain ⟨t,rfl⟩:=rx
  obtain ⟨t',rfl⟩:=ry
  exact PySem.P.le_str ⟨.bl _,H,I,rfl,q⟩
theorem rEq_ss {a b:Str} {H:Hp} {Q:VK}:rEq (.str a) (.str b) H Q=Q (.bl (decide (a=b))) H:=by simp [rEq,scal]
theorem rNe_ss {a b:Str} {H:Hp} {Q:VK}:rNe (.str a) (.str b) H Q=Q (.bl (!decide (a=b))) H:=by simp [rNe,scal]
def rAllX:List V→Hp→VK→Prop:=fun xs H Q=>∃ (p:Addr) (bs:List Bool),xs=[.ref p]∧H p=some (.lst (bs.map V.bl))∧Q (.bl (bs.all id)) H
theorem call_allX (hc:X.calm=true):CallR X (.builtin "all") rAllX:=(call_all hc).weak fun _ _ _ ⟨p,bs,e,h,q⟩=>⟨p,bs,e,SqL.of h,q⟩
theorem draw_list {prog:Program} {w:World} {A:Around} {E:Value→Shared→Prop} {it l:Addr} {items:Array Value} (hne:l≠it):∀ (n i:Nat) (s:Shared) (Q:List Value→Shared→Prop),s.heap.IsListIter it l i→s.heap.IsList l items→i+n≤items.size →
    (∀ h',h'.IsListIter it l (i+n)→Heap.SameBut it s.heap h'→Q ((items.toList.drop i).take n) { s with heap:=h' })→wpAny (model prog w) A (draw (.ref it) n) Q E s
  | 0,i,s,Q,hit,_,_,hQ=>by
    show wpAny _ _ (pure []) Q E s
    exact wpAny_pure (by simpa using hQ s.heap hit (Heap.SameBut.refl ..))
  | n+1,i,s,Q,hit,ht,hle,hQ=>by
    have hlt:i<items.size:=by omega
    show wpAny _ _ (pyNext (.ref it) >>= _) Q E s
    refine wpAny_bind (wpAny_pyNext_list_item hit ht (x:=items[i]) (by simp [hlt]) fun h₁ hit₁ hs₁=>?_)
    have ht1:h₁.IsList l items:=by
      obtain ⟨o,ho,r⟩:=ht
      exact ⟨o,hs₁.extBut _ _ hne ho,r⟩
    refine wpAny_bind (wpAny_holding (draw_list hne n (i+1) _ _ hit₁ ht1 (by omega) fun h₂ hit₂ hs₂=>wpAny_pure ?_))
    have hd:items.toList.drop i=items[i]::items.toList.drop (i+1):=by simp [List.drop_eq_getElem_cons,hlt]
    have:=hQ h₂ (by rw [show i+(n+1)=i+1+n by omega]; exact hit₂) (hs₁.trans hs₂)
    rw [hd,List.take_succ_cons] at this
    exact this
theorem unpackItems_list {prog:Program} {w:World} {A:Around} {E:Value→Shared→Prop} {s:Shared} {t:Addr} {items:Array Value} {Q:List Value→Shared→Prop} (hh:A.handled=none) (ht:s.heap.IsList t items)
    (hQ:∀ h',Heap.ExtBut s.heap.objs.size s.heap h'→Q items.toList { s with heap:=h' }):wpAny (model prog w) A (unpackItems (.ref t) items.size none) Q E s:=by
  have hlt:t≠s.heap.objs.size:=by obtain ⟨o,ho,_⟩:=ht; exact Nat.ne_of_lt (Heap.lt_size ho)
  unfold unpackItems
  refine wpAny_bind ?_
  · unfold notIterableAtAll
    refine wpAny_bind (wpAny_specialOf ht.typeIs PySem.F.slot_list_iter.lookup ?_)
    refine wpAny_pure ?_
    simp only [Bool.false_eq_true,if_false]
    refine wpAny_bind (wpAny_holding (wpAny_pyIter_list ht ?_))
    have ht0:∀ o',(s.heap.push o').IsList t items:=fun o'=>by
      obtain ⟨o,ho,r⟩:=ht
      exact ⟨o,Heap.get?_push_of_some _ ho,r⟩
    refine wpAny_bind (wpAny_holding (draw_list hlt items.size 0 _ _ ⟨_,Heap.get?_push_size _ rfl,rfl,rfl⟩ (ht0 _) (by omega) fun h₁ hit₁ hs₁=>?_))
    have hall:List.take items.size (List.drop 0 items.toList)=items.toList:=by
      rw [List.drop_zero]; exact List.take_of_length_le (by simp)
    rw [hall]
    rw [if_neg (by simp)]
    have ht₁:h₁.IsList t items:=by
      obtain ⟨o,ho,r⟩:=ht0 _
      exact ⟨o,hs₁.extBut _ _ hlt ho,r⟩
    refine wpAny_bind (wpAny_holding (wpAny_pyNext_list_end hh hit₁ ht₁ (by simp) fun h₂ he₂=>?_))
    simp only [Option.isSome_none,Bool.false_eq_true,if_false]
    refine wpAny_pure (hQ h₂ fun b o hb e=>he₂ b o hb (hs₁.extBut b o hb (Heap.get?_push_of_some _ e)))
theorem assign_Tuple_list {prog:Program} {w:World} {A:Around} {E:Value→Shared→Prop} {s:Shared} {env:Env} {elts:List Expr} {x1} {pos:Pos} {t:Addr} {items:Array Value} {Q:Unit→Shared→Prop} (hh:A.handled=none) (ht:s.heap.IsList t items)
    (hn:(assignEach elts env).length=items.size) (hstar:(assignEach elts env).findIdx? (·.1)=none)
    (h:∀ h',Heap.ExtBut s.heap.objs.size s.heap h'→wpAny (model prog w) A (assignInOrder ((assignEach elts env).map (·.2)) items.toList) Q E { s with heap:=h' }) :
    wpAny (model prog w) A (assign (.Tuple elts x1 pos) env (.ref t)) Q E s:=by
  rw [assign_Tuple]
  refine wpAny_bind (wpAny_standAt ?_)
  unfold unpack
  rw [hn,hstar]
  exact wpAny_bind (wpAny_holding (unpackItems_list hh ht h))
def gSeqX (n:Nat) (t:TGs):TG:=fun v σ H Q=>∃ a o xs,v=.ref a∧H a=some o∧seqO o=some xs∧xs.length=n∧t xs σ H Q
theorem pg_seqX {es:List Expr} {k:Nat} {t:TGs} {n:Nat} {pos:Pos} (hc:X.calm=true) (hg:PGs X es t)
    (hn:(assignEach es X.env).length=n:=by rfl) (hst:(assignEach es X.env).findIdx? (·.1)=none:=by rfl):PG X (.Tuple es k pos) (gSeqX n t):=by
  intro pins s σ H v u Q I rv q
  obtain ⟨a,o,xs,e,hx,g,hl,q⟩:=q
  cases o with
  | tup ys=>cases g; exact pg_tupK (K:=X.K) (k:=k) (pos:=pos) hc hg hn hst rfl pins s σ H v u Q I rv ⟨a,_,e,SqT.of hx,hl,q⟩
  | lst ys=>
    cases g
    subst e
    cases rv
    obtain ⟨its,r,ht,hz⟩:=I.list (SqL.of (K:=X.K) hx)
    refine assign_Tuple_list (I.ok.hd hc) ht.isList (by simp [hn,← hl,r.length]) hst fun h' hx'=>?_
    have I1:Inv X pins σ H { s with heap:=h' }:=I.kept (t':=s.toks) fun b o e=>hx' b o (Nat.ne_of_lt (Heap.lt_size e)) e
    exact hg pins _ σ H _ _ Q I1 (by simpa using r) q
  | _=>cases g
end
end L2
namespace L2
open PySem PySem.Spec PyProof.Rows
section
variable {X:Cx}
end
end L2
namespace L2
open PySem PySem.Spec PyProof.Rows
section
variable {X:Cx} {pins:List (Addr × Obj)} {σ:St} {H:Hp} {s:Shared} {d:Addr} {kvs:List (Key × V)}
end
section
variable {P:Program} {w:World} {K:PySem.W.Frag} {tg:Expr} {d it:Addr} {o:Obj} {kvs:List (Key × V)}
end
section
variable {X:Cx}
end
end L2
namespace L2
open PySem PySem.Spec PyProof.Rows
section
variable {prog:Program} {w:World} {κ:Type} [DecidableEq κ] {knd:HeapKind prog w κ} {A:Around} {E:Value→Shared→Prop} {s:Shared}
end
end L2
namespace L2
open PySem PySem.Spec PyProof.Rows
section
variable {prog:Program} {w:World} {A:Around} {R:Result→Shared→Prop} {I:Addr} {fp wr:List Addr} {n:Nat} {P:Nat→Value→Prop} {St:Nat→Heap→Prop}
end
namespace SL
end SL
section
variable {prog:Program} {w:World} {A:Around} {E:Value→Shared→Prop} {s:Shared}
end
section
variable {X:Cx}
end
end L2
set_option maxHeartbeats 4000000
namespace L2
open PySem PySem.Spec PyProof.Rows PySem.W
section
variable {α β:Type}
end
section
variable {N:Nat} (hN:0<N)
include hN
end
section
variable {prog:Program} {w:World} {A:Around} {E:Value→Shared→Prop} {s:Shared}
end
section
variable {X:Cx}
abbrev Q4:=Int × Int × Int × Int
def q4 (t:Q4):List V:=[.int t.1,.int t.2.1,.int t.2.2.1,.int t.2.2.2]
end
end L2
namespace L2
open PySem PySem.Spec PyProof.Rows
section
variable {X:Cx} {o e:Expr} {td ty:TE} {apos cpos:Pos}
end
end L2
namespace L2
open PySem PySem.Spec PyProof.Rows PySem.W
section
variable {P:Program} {w:World} {H H':Hp} {h h':Heap} {f c:Addr} {fd:FuncData} {qual:Str} {v:V}
end
section
variable {X:Cx} {k:Nat}
end
structure CloScope (N ps fr:List Str) (sc:Scope):Prop where
  kind:sc.kind=.function
  co:sc.isCoroutine=false
  gen:sc.isGenerator=false
  nd:N.Nodup
  pre:N.take ps.length=ps
  post:N.drop (N.length - fr.length)=fr
  room:ps.length+fr.length≤N.length
  par:∀ x∈ps,sc.names.lookup x=some .local
  nocell:∀ y∈sc.names,y.2≠.cell
  free:∀ y∈sc.names,y.2=.free→y.1∈fr
  frk:∀ x∈fr,sc.names.lookup x=some .free
def er (cs:List Addr) (H:Hp):Hp:=fun b=>if b∈cs then none else H b
def rs (cs:List Addr) (H H':Hp):Hp:=fun b=>if b∈cs then H b else H' b
section
variable {P:Program} {w:World} {H H':Hp} {h h':Heap} {cs:List Addr} {b:Addr}
end
section
variable {P:Program} {w:World} {K:PySem.W.Frag} {mg:Str→Option Value} {base:Heap} {f c':Addr} {qual:Str} {scope:Scope} {cl:List (Str × Addr)} {N ps fr:List Str} {vs ws:List V} {H:Hp} {A:Around} {outer:List Env} {s:Shared} {us:List Value}
end
section
variable {S:List Addr} {H H':Hp} {g qual:Str} {gp:Arguments} {gb:List Stmt} {gsc:Scope} {fr:List Str} {f:Addr} {ws:List V}
end
end L2
namespace L2
open PySem PySem.Spec PyProof.Rows PySem.W
structure TabA (X:Cx) (c P:Addr):Prop where
  code:X.env.code=.ref c
  hd:CodeHd X.base c P
  bm:X.base.BuiltinsAt X.mg P
  ne:mainGlobals≠P
section
variable {X:Cx} {pins:List (Addr × Obj)} {σ:St} {H:Hp} {s:Shared}
end
section
variable {P:Program} {w:World} {fs:List Addr} {H H':Hp} {h h':Heap}
end
end L2
namespace L2
open PySem PySem.Spec PyProof.Rows PySem.W
section
variable {X:Cx} {pins:List (Addr × Obj)} {σ:St} {H:Hp} {s:Shared}
end
section
variable {S:List Addr} {H H':Hp} {g qual:Str} {gp:Arguments} {gb:Expr} {gsc:Scope} {fr:List Str} {f:Addr} {ws:List V}
end
end L2
set_option maxHeartbeats 4000000
namespace L2
open PySem PySem.Spec PyProof.Rows PySem.W
section
variable {X:Cx} {pins:List (Addr × Obj)} {σ:St} {H:Hp} {k:Nat} {f l it S:Addr} {ps:List Addr} {ns:List Int} {Q:VK}
end
section
variable {X:Cx} {k:Nat}
end
end L2
namespace L2
open PySem PySem.Spec PyProof.Rows
theorem vals_strs:∀ {zs:List Str} {us:List Value},Vals (zs.map V.str) us→∃ l:List (Str × Tok),us=strValues l∧l.map (·.1)=zs
  | [],us,h=>by
    cases h
    exact ⟨[],rfl,rfl⟩
  | z::zs,us,h=>by
    cases h with
    | cons h1 h2=>
      obtain ⟨l,e1,e2⟩:=vals_strs h2
      obtain ⟨t,rfl⟩:=h1
      exact ⟨(z,t)::l,by rw [e1]; rfl,by rw [mZ1,e2]⟩
def joinT (sep:Str):List Str→Str
  | [z]=>z
  | zs=>Builtin.Str.glued sep zs
section
variable {X:Cx} {o e:Expr} {td ty:TE} {apos cpos:Pos}
def jLen (sep:Str) (zs:List Str):Nat:=zs.toArray.foldl (·+·.length+sep.length) 0
def tJoin (td ty:TE):TE:=fun σ H Q=>td σ H fun x H1=>∃ sep,x=.str sep∧ty σ H1 fun y H2=>∃ p zs,y=.ref p∧H2 p=some (.lst (zs.map V.str))∧jLen sep zs≤sizeLine∧(joinT sep zs).length≤sizeLine∧Q (.str (joinT sep zs)) H2
theorem pe_join (ho:PE X o td) (he:PE X e ty) (m:M1 X o "join" apos e cpos):PE X (.Call (.Attribute o "join" apos) [e] [] cpos) (tJoin td ty):=by
  intro pins s σ H Q I h
  refine wpAny_Call_method m.base m.few m.line PySem.F.plainAttrs_str PySem.F.slot_str_join PySem.F.type_str_join (thn (ho pins s σ H _ I h) fun u s1 ⟨x,H1,I1,rx,sep,ex,q1⟩=>?_)
  subst ex
  obtain ⟨t,rfl⟩:=rx
  refine ⟨typeIs_str _ _ _,(fun _ e=>nomatch e),?_⟩
  rw [m.trees]
  refine Calls.callWith_builtin rfl (Calls.evalArgs_plain (Calls.spliced_cons (thn (he pins s1 σ H1 _ I1 q1) fun iv s2 ⟨y,H2,I2,ry,p,zs,ey,ep,hl,hj,q2⟩=>Calls.spliced_nil ?_)))
  subst ey
  obtain rfl:iv=Value.ref p:=ry
  obtain ⟨its,rv,pl,hz⟩:=I2.list (SqL.of (K:=X.K) ep)
  obtain ⟨l,e1,e2⟩:=vals_strs rv
  subst e1
  refine call_meets PySem.F.slot_str_join (typeIs_str _ _ _) PySem.F.entry_str_join (PySem.F.args_str_join_2 _ _) (meets_str_join_list sep t p l (by rw [e2]; unfold Builtin.Str.tooLong; exact decide_eq_false (Nat.not_lt.mpr hl))) ⟨pl.isList,?_⟩
  have one:∀ (z:Str) (t':Tok),joinT sep zs=z→EP X pins σ Q (.str z t') s2:=fun z t' e=>⟨.str z,H2,I2,⟨t',rfl⟩,by rw [← e]; exact q2⟩
  have two:∀ z:Str,joinT sep zs=z→EP X pins σ Q (.str z s2.toks) { s2 with toks:=s2.toks+1 }:=fun z e=>⟨.str z,H2,I2.tok _,⟨_,rfl⟩,by rw [← e]; exact q2⟩
  subst e2
  cases l with
  | nil=>exact ⟨hj,two _ rfl⟩
  | cons a r=>
    cases r with
    | nil=>exact one _ _ rfl
    | cons b r=>exact ⟨hj,two _ rfl⟩
end
end L2
namespace L2
open PySem PySem.Spec PyProof.Rows
def Six (vs:Array Value):Prop:=6≤vs.size∧vs[2]?=some .none
structure NoteK (fs:List Addr) (e:Addr) (Ts:List Addr) (h h':Heap):Prop where
  keep:∀ b o,h.get? b=some o→b ∉ fs→b≠e→b ∉ Ts→h'.get? b=some o
  slot:∀ b o,h.get? b=some o→b∈fs→∃ sl,h'.get? b=some { o with slots:=sl }
  exc:∀ oe vs,h.get? e=some oe→oe.data=.fields vs→∃ oe' vs' T,h'.get? e=some oe'∧oe'.cls=oe.cls∧oe'.dict=oe.dict∧oe'.data=.fields vs'∧(Six vs→Six vs')∧vs'[1]?=some (.ref T) ∧
    h.objs.size≤T∧T≠e∧∃ oT ts,h'.get? T=some oT∧oT.data=.fields ts∧ts[3]?=some .none
  tb:∀ b∈Ts,∃ o,h'.get? b=some o
theorem dict_mapF (o:Obj) (f:Array Value→Array Value):(o.mapFields f).dict=o.dict:=by
  obtain ⟨c,d,dt,sl⟩:=o
  cases dt <;> rfl
theorem six_set {vs:Array Value} {x:Value} (h:Six vs):Six (vs.setIfInBounds 1 x):=⟨by simpa using h.1,by simpa [Array.getElem?_setIfInBounds] using h.2⟩
theorem note_lay {M:Model} {A:Around} {E:Value→Shared→Prop} {s:Shared} {base:Heap} {env:Env} {outer:List Env} {L e:Addr} {oe:Obj} {vs:Array Value} {head:Value} {b:Bool} {Q:Unit→Shared→Prop}
    (hfr:A.frames=some (env::outer)) (hl:s.heap.FunFrames base (env::outer)) (hf:env.frame=some L) (he:s.heap.get? e=some oe) (hd:oe.data=.fields vs) (hsz:1<vs.size)
    (h:∀ h',NoteK ((env::outer).filterMap (·.frame)) e [] s.heap h'→Q () { s with heap:=h' }) :
    wpAny M A (do let a ← frameOf env; let pl ← entryPlaceOf L b; let x ← EntryCells.newEntry head a .none (rawInt L) .none pl; setField (.ref e) 1 x) (fun _ s'=>wpAny M A (setFlight (.ref e) none) Q E s') E s:=by
  have hne:e ∉ (env::outer).filterMap (·.frame):=fun hm=>by
    obtain ⟨_,o,ho,hnf⟩:=hl.mem hm
    rw [he] at ho
    cases ho
    exact hnf vs hd
  refine wpAny_bind (wpAny_frameOf_fun hfr hl hf fun h1 k1=>?_)
  refine wpAny_bind (wpAny_entryPlaceOf fun pl hpl=>?_)
  unfold EntryCells.newEntry newFields
  refine wpAny_bind (wpAny_newObj_type ?_ (hpl.sizeOk5 _ _ _ _ _))
  generalize hTO:({ cls:=.type "traceback", dict:=none,data:=.fields ([head,.ref L,.none,rawInt L,.none]++(if pl.isEmpty then List.replicate 6 Value.none else pl)).toArray }:Obj)=TO
  have e1:h1.get? e=some oe:=(k1.2.1 e hne).trans he
  have nT:h1.objs.size≠e:=Nat.ne_of_gt (Heap.lt_size e1)
  refine wpAny_setField (Heap.get?_push_of_some TO e1) hd hsz ?_
  have d3:=Obj.data_mapFields hd (·.setIfInBounds 1 (Value.ref h1.objs.size))
  have e3:=Heap.get?_update_self (Obj.mapFields (·.setIfInBounds 1 (Value.ref h1.objs.size))) (Heap.get?_push_of_some TO e1) (Obj.isFreed_of_fields d3)
  have dT:TO.data=.fields ([head,.ref L,.none,rawInt L,.none]++(if pl.isEmpty then List.replicate 6 Value.none else pl)).toArray:=by rw [← hTO]
  have T3:((h1.push TO).update e (Obj.mapFields (·.setIfInBounds 1 (Value.ref h1.objs.size)))).get? h1.objs.size=some TO:=by
    rw [Heap.get?_update_other _ _ (Ne.symm nT)]
    exact Heap.get?_push_size h1 (by rw [← hTO]; rfl)
  unfold setFlight
  refine wpAny_bind (wpAny_field e3 d3 (x:=.ref h1.objs.size) (by simp [hsz]) ?_)
  rw [if_pos (by simp)]
  refine wpAny_setField T3 dT (by simp only [List.size_toArray,List.length_append,lZ1,lZ0] <;> omega) (h _ ?_)
  have kk:∀ b o,b≠e→h1.get? b=some o→(((h1.push TO).update e (Obj.mapFields (·.setIfInBounds 1 (Value.ref h1.objs.size)))).update h1.objs.size (Obj.mapFields (·.setIfInBounds 3 ((none:Option Addr).elim Value.none fun f=>rawInt f)))).get? b=some o:=fun b o hb q=>by
    rw [Heap.get?_update_other _ _ (Nat.ne_of_gt (Heap.lt_size q)),Heap.get?_update_other _ _ (Ne.symm hb)]
    exact Heap.get?_push_of_some _ q
  refine ⟨fun b o q hb hbe _=>kk b o hbe ((k1.2.1 b hb).trans q),fun b o q hb=>?_,fun oe2 vs2 q d2=>?_,fun b hb=>nomatch hb⟩
  · obtain ⟨sl,q2⟩:=k1.2.2 b o q
    exact ⟨sl,kk b _ (fun z=>hne (z ▸ hb)) q2⟩
  · rw [he] at q
    cases q
    rw [hd] at d2
    cases d2
    have d5:=Obj.data_mapFields dT (·.setIfInBounds 3 ((none:Option Addr).elim Value.none fun f=>rawInt f))
    refine ⟨_,_,h1.objs.size,by rw [Heap.get?_update_other _ _ nT]; exact e3,Obj.cls_mapFields _ _,dict_mapF _ _,d3,six_set,by simp [hsz],by rw [k1.1]; exact Nat.le_refl _,nT,_,_,Heap.get?_update_self _ T3 (Obj.isFreed_of_fields d5),d5,?_⟩
    rcases hpl with rfl|⟨_,_,_,_,_,_,_,rfl⟩ <;> simp
def XO (e C:Addr) (od:Option Addr):HO:=.ext fun h=>∃ oe vs,h.get? e=some oe∧oe.cls=.ref C∧oe.dict=od∧oe.data=.fields vs∧Six vs
theorem XO.mk {P:Program} {w:World} {H:Hp} {h:Heap} {e C:Addr} {od:Option Addr} {oe:Obj} {vs:Array Value} (h1:h.get? e=some oe) (h2:oe.cls=.ref C) (h3:oe.dict=od) (h4:oe.data=.fields vs) (h5:Six vs) :
    ObjOk P w H h e (XO e C od):=⟨⟨oe,vs,h1,h2,h3,h4,h5⟩,⟨oe,h1⟩,fun _ _ ⟨oe,vs,q,r⟩ k=>⟨oe,vs,k _ q,r⟩⟩
structure Apart (X:Cx) (pins:List (Addr × Obj)) (H:Hp) (b:Addr):Prop where
  un:H b=none
  up:X.s₀.heap.objs.size≤b
  loc:b≠X.env.locals
  cel:∀ x c,X.env.cells.lookup x=some c→c≠b
  pin:∀ p∈X.pn++pins,p.1≠b
def Tb (X:Cx) (pins:List (Addr × Obj)) (H:Hp) (h:Heap) (e:Addr):Prop:=∃ oe vs,h.get? e=some oe∧oe.data=.fields vs ∧
  (vs[1]?=some .none∨∃ T oT ts,vs[1]?=some (.ref T)∧h.get? T=some oT∧oT.data=.fields ts∧ts[3]?=some .none∧T≠e∧Apart X pins H T)
section
variable {X:Cx} {pins:List (Addr × Obj)} {σ:St} {H:Hp} {s:Shared} {e C:Addr} {od:Option Addr}
theorem Apart.fresh {b:Addr} (I:Inv X pins σ H s) (h:s.heap.objs.size≤b):Apart X pins H b where
  un:=I.hok.fresh h
  up:=Nat.le_trans I.sz h
  loc:=fun z=>absurd (Nat.lt_of_lt_of_le I.lt h) (by rw [z]; exact Nat.lt_irrefl _)
  cel:=fun x c q z=>by
    obtain ⟨v,o,ho,_⟩:=I.cell x c q
    exact absurd (Nat.lt_of_lt_of_le (Heap.lt_size ho) h) (by rw [z]; exact Nat.lt_irrefl _)
  pin:=fun p hp z=>by
    obtain ⟨ho,_⟩:=I.pin p hp
    exact absurd (Nat.lt_of_lt_of_le (Heap.lt_size ho) h) (by rw [z]; exact Nat.lt_irrefl _)
theorem Inv.xo (I:Inv X pins σ H s) (he:H e=some (XO e C od)):∃ oe vs,s.heap.get? e=some oe∧oe.cls=.ref C∧oe.dict=od∧oe.data=.fields vs∧6≤vs.size:=by
  obtain ⟨⟨oe,vs,a,b,c,d,f⟩,_⟩:=I.hok e _ he
  exact ⟨oe,vs,a,b,c,d,f.1⟩
theorem Inv.xoS (I:Inv X pins σ H s) (he:H e=some (XO e C od)):∃ oe vs,s.heap.get? e=some oe∧oe.cls=.ref C∧oe.dict=od∧oe.data=.fields vs∧Six vs:=by
  obtain ⟨q,_⟩:=I.hok e _ he
  exact q
theorem Inv.noted {h':Heap} {Ts:List Addr} (I:Inv X pins σ H s) (he:H e=some (XO e C od)) (N:NoteK (frs X.stack) e Ts s.heap h') (hT:∀ b∈Ts,Apart X pins H b) :
    Inv X pins σ H { s with heap:=h' }∧Tb X pins H h' e:=by
  obtain ⟨oe,vs,ge,c1,c2,c3,c4⟩:=I.xoS he
  obtain ⟨oe',vs',T,ge',e1,e2,e3,e4,e5,e6,e7,oT,ts,t1,t2,t3⟩:=N.exc oe vs ge c3
  have nfr:∀ b o,H b=some o→b ∉ frs X.stack:=fun b o q hb=>by rw [I.stkFree b hb] at q; cases q
  have nts:∀ b o,H b=some o→b ∉ Ts:=fun b o q hb=>by rw [(hT b hb).un] at q; cases q
  have hok:HOk X.prog X.w H h':=fun a o q=>by
    by_cases ha:a=e
    · subst ha
      rw [he] at q
      cases q
      exact XO.mk ge' (e1.trans c1) (e2.trans c2) e3 (e4 c4)
    · refine (I.hok a o q).stay (fun b u hb r=>?_) (fun _ r=>r) fun _ _ r=>r
      rcases hb with rfl|hb
      · exact N.keep b u r (nfr b o q) ha (nts b o q)
      · exact N.keep b u r (nfr b _ hb) (fun z=>by rw [z,he] at hb; cases hb) (nts b _ hb)
  have J:Inv X pins σ H { s with heap:=h',gens:=s.gens,drawn:=s.drawn,toks:=s.toks }:=I.call (ch:=Ts) (h':=h') (g':=s.gens) (d':=s.drawn) (t':=s.toks)
    ⟨fun b o q n hb hx=>N.keep b o q hb (fun z=>by rw [z,he] at n; cases n) hx,fun b o q n hb hx=>N.slot b o q hb,fun _ _ _ n _=>n,fun b o q hx=>by
      by_cases hb:b∈frs X.stack
      · obtain ⟨sl,r⟩:=N.slot b o q hb
        exact ⟨_,r⟩
      · by_cases hbe:b=e
        · exact ⟨_,by rw [hbe]; exact ge'⟩
        · exact ⟨o,N.keep b o q hb hbe hx⟩,fun _ _ q=>q,fun _ _ _ q=>q,fun _ ps q=>⟨#[],by rw [q]; simp⟩⟩ hok I.bare fun b hb=>⟨.inr (hT b hb).up,(hT b hb).loc,(hT b hb).cel,(hT b hb).pin⟩
  exact ⟨J,oe',vs',ge',e3,.inr ⟨T,oT,ts,e5,t1,t2,t3,e7,Apart.fresh I e6⟩⟩
theorem note_ok {M:Model} {Q:Unit→Shared→Prop} {E:Value→Shared→Prop} (I:Inv X pins σ H s) (he:H e=some (XO e C od)) (tb:Tb X pins H s.heap e) (hst:X.stack=X.env::X.outer) (hf:X.env.frame=some X.env.locals)
    (h:∀ s',Inv X pins σ H s'→Tb X pins H s'.heap e→Q () s'):wpAny M X.A (noteFrame (.ref e) X.env) (fun _ s'=>wpAny M X.A (setFlight (.ref e) none) Q E s') E s:=by
  have hfr:X.A.frames=some (X.env::X.outer):=by rw [← hst]; exact I.ok.frames
  have hl:s.heap.FunFrames X.base (X.env::X.outer):=by rw [← hst]; exact I.stack
  obtain ⟨oe,vs,ge,hd,tb⟩:=tb
  obtain ⟨oe',vs',ge',c1,c2,c3,c4⟩:=I.xo he
  rw [ge] at ge'
  cases ge'
  rw [hd] at c3
  cases c3
  have hsz:1<vs.size:=by omega
  unfold noteFrame
  simp only [hf]
  rcases tb with tb|⟨T,oT,ts,tb,gT,dT,t3,nT,aT⟩
  · refine wpAny_bind (wpAny_field ge hd tb ?_)
    rw [if_neg (by decide)]
    refine note_lay hfr hl hf ge hd hsz fun h' N=>?_
    obtain ⟨J,T⟩:=I.noted (h':=h') (Ts:=[]) he (by rw [hst]; exact N) (fun b hb=>nomatch hb)
    exact h _ J T
  · refine wpAny_bind (wpAny_field ge hd tb ?_)
    rw [if_pos (show (Value.ref T != Value.none)=true from by simp)]
    refine wpAny_bind (wpAny_field gT dT t3 ?_)
    rw [if_neg (show ¬ ((Value.none == rawInt X.env.locals)=true) from by simp [rawInt])]
    refine wpAny_bind (wpAny_setField gT dT (Array.getElem?_eq_some_iff.mp t3).1 ?_)
    have ot:∀ b,b≠T→(s.heap.update T (Obj.mapFields (·.setIfInBounds 3 Value.none))).get? b=s.heap.get? b:=fun b hb=>Heap.get?_update_other _ _ (Ne.symm hb)
    have dT':=Obj.data_mapFields dT (·.setIfInBounds 3 Value.none)
    have gT':=Heap.get?_update_self (Obj.mapFields (·.setIfInBounds 3 Value.none)) gT (Obj.isFreed_of_fields dT')
    have nfr:T ∉ (X.env::X.outer).filterMap (·.frame):=fun hm=>by
      obtain ⟨_,o,ho,hnf⟩:=hl.mem hm
      rw [gT] at ho
      cases ho
      exact hnf ts dT
    refine note_lay hfr (hl.of_keeps fun b o hb hnf=>⟨o,(ot b fun z=>by rw [z,gT] at hb; cases hb; exact hnf ts dT).trans hb,rfl⟩) hf ((ot e (Ne.symm nT)).trans ge) hd hsz fun h' N=>?_
    have N2:NoteK (frs X.stack) e [T] s.heap h':=by
      rw [hst]
      refine ⟨fun b o q hb hbe hx=>N.keep b o ((ot b fun z=>hx (by rw [z]; exact .head _)).trans q) hb hbe (fun z=>nomatch z),fun b o q hb=>N.slot b o ((ot b fun z=>nfr (by rw [← z]; exact hb)).trans q) hb,fun oe2 vs2 q d2=>?_,fun b hb=>?_⟩
      · obtain ⟨oe',vs',T',r1,r2,r3,r4,r5,r6,r7,r8⟩:=N.exc oe2 vs2 ((ot e (Ne.symm nT)).trans q) d2
        exact ⟨oe',vs',T',r1,r2,r3,r4,r5,r6,by rw [Heap.size_update] at r7; exact r7,r8⟩
      · rw [List.mem_singleton] at hb
        subst hb
        exact ⟨_,N.keep b _ gT' nfr nT (fun z=>nomatch z)⟩
    obtain ⟨J,T'⟩:=I.noted (h':=h') (Ts:=[T]) he N2 (fun b hb=>by rw [List.mem_singleton] at hb; subst hb; exact aT)
    exact h _ J T'
end
abbrev XS:=St→Addr→Hp→Prop
def XP (X:Cx) (pins:List (Addr × Obj)) (E:XS) (v:Value) (s':Shared):Prop:=∃ e σ' H',v=.ref e∧Inv X pins σ' H' s'∧(∃ C od,H' e=some (XO e C od))∧Tb X pins H' s'.heap e∧E σ' e H'
abbrev TSx:=Ends→XS→St→Hp→Prop
abbrev TEx:=St→Hp→VK→(Addr→Hp→Prop)→Prop
def PSx (X:Cx) (st:Stmt) (t:TSx):Prop:=
  ∀ (pins:List (Addr × Obj)) (s:Shared) (σ:St) (H:Hp) (D:Ends) (E:XS),Inv X pins σ H s→t D E σ H→wpAny (model X.prog X.w) X.A (exec st X.env) (SP X pins D) (XP X pins E) s
def PSsx (X:Cx) (sts:List Stmt) (t:TSx):Prop:=
  ∀ (pins:List (Addr × Obj)) (s:Shared) (σ:St) (H:Hp) (D:Ends) (E:XS),Inv X pins σ H s→t D E σ H→wpAny (model X.prog X.w) X.A (execs sts X.env) (SP X pins D) (XP X pins E) s
def PEx (X:Cx) (e:Expr) (t:TEx):Prop:=
  ∀ (pins:List (Addr × Obj)) (s:Shared) (σ:St) (H:Hp) (Q:VK) (E:Addr→Hp→Prop),Inv X pins σ H s→t σ H Q E→wpAny (model X.prog X.w) X.A (eval e X.env) (EP X pins σ Q) (XP X pins fun σ' e H'=>σ'=σ∧E e H') s
section
variable {X:Cx} {st:Stmt} {sts rest:List Stmt} {t:TS} {tx ux:TSx} {e:Expr} {tex:TEx} {pos:Pos}
theorem pssx_one (h1:PSx X st tx):PSsx X [st] tx:=by
  intro pins s σ H D E I h
  refine wpAny_execs_cons (wpAny_mono (h1 pins s σ H D E I h) (fun f s1 q=>?_) fun _ _ z=>z)
  cases f with
  | next=>exact wpAny_execs_nil q
  | ret v=>exact q
  | brk=>exact q
  | cont=>exact q
def tDropx (t:TEx):TSx:=fun D E σ H=>t σ H (fun _ H'=>D.nx σ H') (E σ)
theorem psx_expr (he:PEx X e tex) (hs:swapsWith e none pos.line X.env=pure false:=by rfl):PSx X (.Expr e pos) (tDropx tex):=by
  intro pins s σ H D E I h
  exact wpAny_Expr_any (wpAny_mono (he pins s σ H _ _ I h) (fun u s1 ⟨v,H',I',r,q⟩=>⟨σ,H',I',q⟩) fun u s1 ⟨e,σ',H',h1,h2,h3,h4,h5,h6⟩=>⟨e,σ',H',h1,h2,h3,h4,h5 ▸ h6⟩) I.quiet hs
theorem xp_at {pins:List (Addr × Obj)} {σ:St} {E:XS} {v:Value} {s':Shared} (h:XP X pins (fun σ' e H'=>σ'=σ∧E σ e H') v s'):XP X pins E v s':=by
  obtain ⟨e,σ',H',h1,h2,h3,h4,h5,h6⟩:=h
  exact ⟨e,σ',H',h1,h2,h3,h4,h5 ▸ h6⟩
end
def TbF (n0:Nat) (H:Hp) (h:Heap) (e:Addr):Prop:=∃ oe vs,h.get? e=some oe∧oe.data=.fields vs ∧
  (vs[1]?=some .none∨∃ T oT ts,vs[1]?=some (.ref T)∧h.get? T=some oT∧oT.data=.fields ts∧ts[3]?=some .none∧T≠e∧H T=none∧n0≤T)
def CXx (P:Program) (w:World):CXT:=fun outer H s E v s'=>∃ e H',v=.ref e∧s'.os=s.os∧AllBare s'.gens∧Un (frs outer) [] H H' s.heap s'.heap∧HOk P w H' s'.heap∧(∃ C od,H' e=some (XO e C od))∧TbF s.heap.objs.size H' s'.heap e∧E (.ref e) none H'
def xk (E:Addr→Hp→Prop):XK:=fun v _ H'=>match v with
  | .ref e=>E e H'
  | _=>False
section
variable {X:Cx} {k:Nat} {f C:Addr} {fd:FuncData} {ps:List Str} {sp:Sp} {x m:Str} {p pos apos:Pos} {e o:Expr} {es:List Expr} {ta:TE} {t:TA}
theorem xp_of {pins:List (Addr × Obj)} {σ:St} {H:Hp} {s s':Shared} {E:Addr→Hp→Prop} {v:Value} (I:Inv X pins σ H s) (h:CXx X.prog X.w X.stack H s (xk E) v s'):XP X pins (fun σ' e H'=>σ'=σ∧E e H') v s':=by
  obtain ⟨e,H',rfl,os,bare,un,hok,he,tb,q⟩:=h
  refine ⟨e,σ,H',rfl,I.call' (ch:=[]) os un hok bare (fun b z=>nomatch z),he,?_,rfl,q⟩
  obtain ⟨oe,vs,g1,d1,tb⟩:=tb
  refine ⟨oe,vs,g1,d1,tb.imp id fun ⟨T,oT,ts,a1,a2,a3,a4,a5,a6,a7⟩=>⟨T,oT,ts,a1,a2,a3,a4,a5,?_⟩⟩
  have A:=Apart.fresh I a7
  exact ⟨a6,A.up,A.loc,A.cel,A.pin⟩
theorem run_fnx {pins:List (Addr × Obj)} {σ:St} {H:Hp} {s:Shared} {Q:VK} {E:Addr→Hp→Prop} {us:List Value} {vs:List V} (F:FnOk X.prog X.w X.K X.mg X.base (CXx X.prog X.w) k f fd ps sp) (hr:Room k X.A) (hb:Binds X.K fd ps [])
    (I:Inv X pins σ H s) (r:Vals vs us) (h:sp vs H Q (xk E)):wpAny (model X.prog X.w) X.A (call (.ref f) us) (EP X pins σ Q) (XP X pins fun σ' e H'=>σ'=σ∧E e H') s:=by
  have hl:us.length=ps.length:=by rw [← r.length]; exact F.len _ _ _ _ h
  have hb':=hb s us I.kIn (by rw [aZ0]; exact hl)
  rw [aZ0] at hb'
  refine wpAny_call (codeAny_mono (F.run X.A X.stack s H ⟨us,[]⟩ us vs Q (xk E) hr I.env0 hb' r h) fun r s' hq=>?_)
  cases r with
  | error v=>exact xp_of I hq
  | ok fl=>
    cases fl with
    | ret u=>exact I.after hq
    | next=>exact False.elim hq
    | brk=>exact False.elim hq
    | cont=>exact False.elim hq
def tCallx (sp:Sp) (t:TA):TEx:=fun σ H Q E=>t σ H fun vs H1=>sp vs H1 Q (xk E)
def OwnX (P:Program) (w:World) (K:PySem.W.Frag) (mg:Str→Option Value) (base:Heap) (k:Nat) (x:Str) (ps:List Str) (sp:Sp):Prop:=
  ∃ f fd,mg x=some (.ref f)∧PySem.W.keepIn K (.ref f)=true∧Binds K fd ps []∧FnOk P w K mg base (CXx P w) k f fd ps sp
def OwnIX (P:Program) (w:World) (K:PySem.W.Frag) (mg:Str→Option Value) (base:Heap) (k:Nat) (C:Addr) (ps:List Str) (sp:Sp):Prop:=
  ∃ f fd,Mk K C f∧Binds K fd ps []∧FnOk P w K mg base (CXx P w) k f fd ps sp
theorem pex_fn {j:Nat} (F:OwnX X.prog X.w X.K X.mg X.base j x ps sp) (hr:Room k X.A) (ha:PA X.nox (e::es) t) (hk:j≤k:=by decide) (hg:Gl X x:=by rfl)
    (hdb:(x == ("__debug__":Str))=false:=by decide) (he:starEach (e::es) X.env=(false,eval e X.env)::starEach es X.env:=by rfl) (hpl:(backTo pos (starEach es X.env)).any (·.1)=false:=by rfl) :
    PEx X (.Call (.Name x p) (e::es) [] pos) (tCallx sp t):=by
  obtain ⟨f,fd,hm,kp,hb,F⟩:=F
  intro pins s σ H Q E I h
  refine wpAny_Call_Name_kw (ld_glob I hg hm ?_ hdb)
  refine PySem.W.callWith_K (h₀:=X.base) I.ok.mod.kin kp (wpAny_mono (ha pos pins s σ H _ (I.wish _) h) (fun us s1 ⟨vs,H1,I1,r,q⟩=>⟨I1.unwish.kIn,?_⟩) fun _ _ z=>False.elim z) he hpl
  exact run_fnx F (hr.mono hk) hb I1.unwish r q
def tMakex (C:Addr) (sp:Sp) (t:TA):TEx:=fun σ H Q E=>t σ H fun vs H1=>∀ x dx,H1 x=none→H1 dx=none→dx≠x→sp (.ref x::vs) (upd (upd H1 dx (.own x)) x (.ins C dx [])) (fun v H2=>v=.non∧Q (.ref x) H2) (xk E)
theorem run_makx {j:Nat} {pins:List (Addr × Obj)} {σ:St} {H:Hp} {s:Shared} {Q:VK} {E:Addr→Hp→Prop} {us:List Value} {vs:List V} (M:Mk X.K C f) (F:FnOk X.prog X.w X.K X.mg X.base (CXx X.prog X.w) j f fd ps sp) (hr:Room (j+1) X.A) (hb:Binds X.K fd ps []) (I:Inv X pins σ H s) (r:Vals vs us)
    (h:∀ x dx,H x=none→H dx=none→dx≠x→sp (.ref x::vs) (upd (upd H dx (.own x)) x (.ins C dx [])) (fun v H2=>v=.non∧Q (.ref x) H2) (xk E)) :
    wpAny (model X.prog X.w) X.A (call (.ref C) us) (EP X pins σ Q) (XP X pins fun σ' e H'=>σ'=σ∧E e H') s:=by
  have hq:=h (s.heap.objs.size+1) s.heap.objs.size (I.hok.fresh (Nat.le_succ _)) (I.hok.fresh (Nat.le_refl _)) (Nat.ne_of_lt (Nat.lt_succ_self _))
  have I2:=Inv.made (C:=C) I
  have r2:Vals (V.ref (s.heap.objs.size+1)::vs) (Value.ref (s.heap.objs.size+1)::us):=.cons rfl r
  have hl:(Value.ref (s.heap.objs.size+1)::us).length=ps.length:=by
    have e:=r2.length
    rw [F.len _ _ _ _ hq] at e
    exact e.symm
  have hb':=hb _ (Value.ref (s.heap.objs.size+1)::us) I2.kIn (by rw [aZ0]; exact hl)
  rw [aZ0] at hb'
  refine wpAny_call (make_map (f:=f) I.kIn M.makes M.init (beq_iff_eq.mp M.fn) (codeAny_mono (F.run _ X.stack _ _ ⟨Value.ref (s.heap.objs.size+1)::us,[]⟩ (Value.ref (s.heap.objs.size+1)::us) _ _ (xk E) (hr.make C us [])
    (I2.env0.make C us []) hb' r2 hq) fun r s' hq'=>?_))
  cases r with
  | error v=>exact xp_of I2 hq'
  | ok fl=>
    cases fl with
    | ret u=>
      obtain ⟨v,H',I3,rv,ev,q3⟩:=I2.after hq'
      subst ev
      exact ⟨rv,⟨V.ref (s.heap.objs.size+1),H',I3,rfl,q3⟩⟩
    | next=>exact False.elim hq'
    | brk=>exact False.elim hq'
    | cont=>exact False.elim hq'
theorem pex_mak {j:Nat} (M:OwnIX X.prog X.w X.K X.mg X.base j C ps sp) (hr:Room k X.A) (hm:X.mg x=some (.ref C)) (ha:PA X.nox (e::es) t) (hk:j+1≤k:=by decide) (hg:Gl X x:=by rfl)
    (hdb:(x == ("__debug__":Str))=false:=by decide) (he:starEach (e::es) X.env=(false,eval e X.env)::starEach es X.env:=by rfl) (hpl:(backTo pos (starEach es X.env)).any (·.1)=false:=by rfl) :
    PEx X (.Call (.Name x p) (e::es) [] pos) (tMakex C sp t):=by
  obtain ⟨f,fd,M,hb,F⟩:=M
  intro pins s σ H Q E I h
  refine wpAny_Call_Name_kw (ld_glob I hg hm ?_ hdb)
  refine PySem.W.callWith_K (h₀:=X.base) I.ok.mod.kin M.kp (wpAny_mono (ha pos pins s σ H _ (I.wish _) h) (fun us s1 ⟨vs,H1,I1,r,q⟩=>⟨I1.unwish.kIn,?_⟩) fun _ _ z=>False.elim z) he hpl
  exact run_makx M F (hr.mono hk) hb I1.unwish r q
end
section
variable {P:Program} {w:World} {K:PySem.W.Frag} {mg:Str→Option Value} {base:Heap}
section
variable {x m qual:Str} {C:Addr} {st:Stmt} {N ps:List Str} {k:Nat} {sp:Sp}
end
end
end L2
namespace L2
open PySem PySem.Spec PyProof.Rows
abbrev TJ:=St→Hp→(Hp→Prop)→Prop
def PJ (X:Cx) (n:Nat) (vs:List Expr) (t:TJ):Prop:=∀ (pins:List (Addr × Obj)) (s:Shared) (σ:St) (H:Hp) (acc:Str) (Q:Hp→Prop),acc.length≤n→Inv X pins σ H s→t σ H Q →
  Joins (model X.prog X.w) X.A X.xe (evalEach vs X.env) acc (fun out s1=>out.length≤sizeLine∧∃ H',Inv X pins σ H' s1∧Q H') s
section
variable {X:Cx} {n:Nat} {e:Expr} {rest:List Expr} {te:TE} {t:TJ} {pos:Pos}
def tJn:TJ:=fun _ H Q=>Q H
theorem pj_nil (hn:n≤1000000:=by decide):PJ X n [] tJn:=fun pins s σ H acc Q ha I h=>⟨by rw [sizeLine_eq]; omega,H,I,h⟩
theorem pj_str {x:Str} {j:Nat} (m:Nat) (hm:x.length=m) (h:PJ X (n+m) rest t) (hn:n+m≤1000000:=by decide):PJ X n (.Constant (.str x) j pos::rest) t:=by
  intro pins s σ H acc Q ha I hq
  have hl:(acc++x).length≤n+m:=by rw [strLen_append]; omega
  show wpAny _ _ (eval (.Constant (.str x) j pos) X.env) _ _ s
  refine wpAny_mono (pe_str pins s σ H (fun v H'=>v=.str x∧H'=H) I ⟨rfl,rfl⟩) (fun u s1 ⟨v,H',I',r,ev,eH⟩=>?_) fun _ _ z=>z
  subst ev
  subst eH
  obtain ⟨t',rfl⟩:=r
  exact ⟨x,t',rfl,by rw [sizeLine_eq]; omega,h pins s1 σ H' (acc++x) Q hl I' hq⟩
def tJi (te:TE) (t:TJ):TJ:=fun σ H Q=>te σ H fun v H1=>∃ i,v=.int i∧i.natAbs.log2<1920∧t σ H1 Q
theorem pj_int {p2:Pos} (he:PE X e te) (h:PJ X (n+2000) rest t) (hn:n+2000≤1000000:=by decide):PJ X n (.FormattedValue e (-1) none p2::rest) (tJi te t):=by
  intro pins s σ H acc Q ha I hq
  show wpAny _ _ (eval (.FormattedValue e (-1) none p2) X.env) _ _ s
  refine wpAny_FormattedValue_plain (thn (he pins s σ H _ I hq) fun u s1 ⟨v,H1,I1,r,i,ev,hi,q⟩=>?_)
  subst ev
  obtain ⟨t',rfl⟩:=r
  have hl:(Str.ofString (toString i)).length≤1921:=by
    have:=int_text_length_le (a:=i) (k:=1920) (by decide) hi
    rw [PySem.ofString_length]
    omega
  have hl2:(acc++Str.ofString (toString i)).length≤n+2000:=by rw [strLen_append]; omega
  exact formatField_int_small hi ⟨_,_,rfl,by rw [sizeLine_eq]; omega,h pins _ σ H1 _ Q hl2 (I1.tok _) q⟩
def tFs (t:TJ):TE:=fun σ H Q=>t σ H fun H'=>∀ x,Q (.str x) H'
theorem pe_fstr {v1 v2:Expr} (h:PJ X 0 (v1::v2::rest) t):PE X (.JoinedStr (v1::v2::rest) pos) (tFs t):=by
  intro pins s σ H Q I hq
  refine wpAny_JoinedStr ?_
  have:=h pins s σ H Str.empty (fun H'=>∀ x,Q (.str x) H') (by decide) I hq
  have mono:∀ (l:List (Sem Value)) (acc:Str) (A B:Str→Shared→Prop) (s:Shared),(∀ o s,A o s→B o s)→Joins (model X.prog X.w) X.A X.xe l acc A s→Joins (model X.prog X.w) X.A X.xe l acc B s:=by
    intro l
    induction l with
    | nil=>intro acc A B s hab h; exact hab _ _ h
    | cons x r ih=>
      intro acc A B s hab h
      exact wpAny_mono h (fun v s1 ⟨y,t,e1,e2,e3⟩=>⟨y,t,e1,e2,ih _ _ _ _ hab e3⟩) fun _ _ z=>z
  refine mono _ _ _ _ _ (fun o s1 ⟨hz,H',I',q⟩=>⟨hz,.str o,H',I'.tok _,⟨_,rfl⟩,q o⟩) this
end
theorem ObjOk.ex {P:Program} {w:World} {H:Hp} {h:Heap} {a:Addr} {o:HO} (x:ObjOk P w H h a o):∃ u,h.get? a=some u:=by
  cases o with
  | lst xs=>obtain ⟨_,_,_,_,e⟩:=x; exact ⟨_,e⟩
  | tup xs=>obtain ⟨_,_,_,o,e,_⟩:=x; exact ⟨_,e⟩
  | dK kvs=>obtain ⟨_,_,_,_,o,_,_,e,_⟩:=x; exact ⟨_,e⟩
  | dT kvs=>obtain ⟨_,_,_,_,o,_,_,e,_⟩:=x; exact ⟨_,e⟩
  | set S n=>obtain ⟨o,_,_,_,e,_⟩:=x; exact ⟨_,e⟩
  | ins C dx fs=>obtain ⟨_,_,_,e,_⟩:=x; exact ⟨_,e⟩
  | own y=>exact x
  | xd fs=>obtain ⟨_,⟨o,_,_,e,_⟩,_⟩:=x; exact ⟨_,e⟩
  | rng lo hi=>obtain ⟨_,_,_,e⟩:=x; exact ⟨_,e⟩
  | frz ob u=>obtain ⟨e,_⟩:=x; exact ⟨_,e⟩
  | tbl ps=>exact ⟨_,x⟩
  | met f y=>exact ⟨_,x⟩
  | ext φ=>obtain ⟨_,e,_⟩:=x; exact e
section
variable {X:Cx} {pins:List (Addr × Obj)} {σ:St} {H:Hp} {s:Shared}
theorem Inv.none_at {a:Addr} (I:Inv X pins σ H s) (h:s.heap.get? a=none):H a=none:=by
  cases e:H a with
  | none=>rfl
  | some o=>
    obtain ⟨u,q⟩:=(I.hok a o e).ex
    rw [h] at q
    cases q
theorem Inv.lay {h':Heap} {a:Addr} {o:HO} (I:Inv X pins σ H s) (k:∀ b u,s.heap.get? b=some u→h'.get? b=some u) (hn:s.heap.get? a=none) (new:ObjOk X.prog X.w (upd H a o) h' a o):Inv X pins σ (upd H a o) { s with heap:=h' }:=by
  have hH:=I.none_at hn
  have ne:∀ b u,s.heap.get? b=some u→b≠a:=fun b u q z=>by rw [z,hn] at q; cases q
  refine I.un (t':=s.toks) ⟨fun b u q _ _ _=>k b u q,fun b u q _ _ _=>⟨u.slots,k b u q⟩,fun b u q n _=>by rw [upd_ne (ne b u q)]; exact n,fun b u q _=>⟨u,k b u q⟩,fun b xs q=>by rw [upd_ne (ne_of_none q hH)]; exact q,
    fun b u xs q=>by rw [upd_ne (ne_of_none q hH)]; exact q,fun b ps q=>⟨#[],by rw [upd_ne (ne_of_none q hH),q]; simp⟩⟩ fun b u e=>?_
  by_cases hb:b=a
  · subst hb
    rw [upd_same] at e
    cases e
    exact new
  · rw [upd_ne hb] at e
    exact (I.hok b u e).stay (fun c v _ q=>k c v q) (fun c q=>by rw [upd_ne (ne_of_none q hH)]; exact q) fun c xs q=>by rw [upd_ne (ne_of_none q hH)]; exact q
end
abbrev bmV:List Value:=[.type "ValueError", .type "Exception", .type "BaseException", .type "object"]
def Raw (h:Heap) (e C:Addr) (od:Option Addr):Prop:=∃ t,h.get? e=some { cls:=.ref C,dict:=od,data:=.fields #[.ref t,.none,.none,.none,.bool false,.none] }
def XN (e C:Addr) (od:Option Addr):HO:=.ext fun h=>Raw h e C od
theorem Raw.okN {P:Program} {w:World} {H:Hp} {h:Heap} {e C:Addr} {od:Option Addr} (r:Raw h e C od):ObjOk P w H h e (XN e C od):=by
  obtain ⟨t,q⟩:=id r
  exact ⟨r,⟨_,q⟩,fun _ _ ⟨t,q⟩ k=>⟨t,k _ q⟩⟩
theorem Inv.xn {X:Cx} {pins:List (Addr × Obj)} {σ:St} {H:Hp} {s:Shared} {e C:Addr} {od:Option Addr} (I:Inv X pins σ H s) (he:H e=some (XN e C od)):Raw s.heap e C od:=(I.hok e _ he).1
theorem Inv.raised {X:Cx} {pins:List (Addr × Obj)} {σ:St} {H:Hp} {s:Shared} {e C:Addr} {od:Option Addr} (I:Inv X pins σ H s) (he:H e=some (XN e C od)):Inv X pins σ (upd H e (XO e C od)) s:=by
  have r:=I.xn he
  obtain ⟨t,q⟩:=id r
  exact I.write (t':=s.toks) (x:=e) (e:=e) (h':=s.heap) (by rw [he]; exact True.intro) (.inl rfl) (fun b u _ z=>z) ⟨_,q⟩ (XO.mk q rfl rfl rfl ⟨Nat.le_refl 6,rfl⟩)
theorem Raw.tb {X:Cx} {pins:List (Addr × Obj)} {H:Hp} {h:Heap} {e C:Addr} {od:Option Addr} (r:Raw h e C od):Tb X pins H h e:=by
  obtain ⟨t,q⟩:=r
  exact ⟨_,_,q,rfl,.inl rfl⟩
def XKin (K:PySem.W.Frag) (C:Addr):Prop:=∃ nm q N bs bm hdct sn sub ab col dd k0 k1 k2 k3 k5,K.lookup C=some (excClassObj nm q C N bs bm hdct sn sub ab col dd k0 k1 k2 k3 k5 "ValueError.__new__")∧PySem.W.tailIn K bmV bm=true
abbrev TN:=St→Hp→(Addr→Addr→Option Addr→Hp→Prop)→Prop
def PN (X:Cx) (e:Expr) (t:TN):Prop:=∀ (pins:List (Addr × Obj)) (s:Shared) (σ:St) (H:Hp) (Q:Addr→Addr→Option Addr→Hp→Prop) (E:Value→Shared→Prop),Inv X pins σ H s→t σ H Q →
  wpAny (model X.prog X.w) X.A (eval e X.env) (fun v s'=>∃ ea C od H',v=.ref ea∧XKin X.K C∧Inv X pins σ H' s'∧H' ea=some (XN ea C od)∧Q ea C od H') E s
section
variable {X:Cx} {C:Addr} {x:Str} {p pos cpos:Pos} {e:Expr} {es:List Expr} {t:TA} {tn:TN}
def tNew0 (C:Addr) (t:TA):TN:=fun σ H Q=>t σ H fun vs H1=>vs.length≤100∧∀ e,H1 e=none→Q e C none (upd H1 e (XN e C none))
theorem pn_new (hq:PySem.W.excIn X.K C bmV "ValueError.__new__"=true) (kp:PySem.W.keepIn X.K (.ref C)=true) (hm:X.mg x=some (.ref C)) (ha:PA X.nox (e::es) t) (hg:Gl X x:=by rfl)
    (hdb:(x == ("__debug__":Str))=false:=by decide) (he:starEach (e::es) X.env=(false,eval e X.env)::starEach es X.env:=by rfl) (hpl:(backTo pos (starEach es X.env)).any (·.1)=false:=by rfl) :
    PN X (.Call (.Name x p) (e::es) [] pos) (tNew0 C t):=by
  intro pins s σ H Q E I h
  refine wpAny_Call_Name_kw (ld_glob I hg hm ?_ hdb)
  refine PySem.W.callWith_K (h₀:=X.base) I.ok.mod.kin kp (wpAny_mono (ha pos pins s σ H _ (I.wish _) h) (fun us s1 ⟨vs,H1,I1,r,hl,q⟩=>⟨I1.unwish.kIn,?_⟩) fun _ _ z=>False.elim z) he hpl
  have I1:=I1.unwish
  have XKi:=I1.kIn
  have hq':=hq
  unfold PySem.W.excIn at hq'
  split at hq'
  · rename_i dd cd sl ho
    split at hq'
    · rename_i C' bm k0 k1 k2 k3 n k5 hmr hs
      simp only [Bool.and_eq_true,beq_iff_eq,Bool.not_eq_true'] at hq'
      obtain ⟨⟨⟨⟨⟨rfl,rfl⟩,hdel⟩,ht⟩,hok⟩,hni⟩:=hq'
      obtain ⟨nm,bs,mro,ns,qn,hd,sn,sub,ab,col,del⟩:=cd
      dsimp only at hmr hdel hok hni
      subst hmr hdel
      have hsl:sl=#[k0,k1,k2,k3,some (.builtin "ValueError.__new__"),k5]:=by
        obtain ⟨l⟩:=sl
        simp only at hs
        rw [hs]
      subst hsl
      obtain ⟨hp,g,d,tk,os⟩:=s1
      have hll:us.length≤sizeLine:=by
        rw [← r.length,sizeLine_eq]
        omega
      refine wpAny_call_exc_subT (hrest:=hll) PySem.F.excBase_ValueError (PySem.W.tail_of_in XKi ht) (XKi _ _ ho) (.of_isNs (PySem.W.isNs_of_in XKi hok)) (PySem.W.nsMap_none_of_in XKi hok hni) fun h' ea hm=>?_
      obtain ⟨t0,h1,h2,h3⟩:=hm.there
      have hr:Raw h' ea C' none:=⟨t0,h1⟩
      refine ⟨ea,C',none,_,rfl,⟨nm,qn,ns,bs,bm,hd,sn,sub,ab,col,dd,k0,k1,k2,k3,k5,ho,ht⟩,I1.lay (h':=h') hm.keeps hm.new hr.okN,upd_same,q ea (I1.none_at hm.new)⟩
    · cases hq'
  · cases hq'
def tRaise (t:TN):TSx:=fun _ E σ H=>t σ H fun e C od H'=>E σ e (upd H' e (XO e C od))
theorem psx_raise (hn:PN X e tn) (hc:X.calm=true:=by rfl):PSx X (.Raise (some e) none pos) (tRaise tn):=by
  intro pins s σ H D E I h
  rw [arm_exec_Raise]
  show wpAny _ _ (do standAt pos; raiseStmt X.env (some (do let v ← eval e X.env; standAt pos; pure v)) none) _ _ s
  refine wpAny_bind (wpAny_standAt ?_)
  unfold raiseStmt
  refine wpAny_bind (wpAny_bind (wpAny_mono (hn pins s σ H _ _ I h) (fun v s1 hv=>wpAny_bind (wpAny_standAt (wpAny_pure ?_))) fun _ _ z=>z))
  obtain ⟨ea,C,od,H',rfl,⟨nm,q,N,bs,bm,hdct,sn,sub,ab,col,dd,k0,k1,k2,k3,k5,ho,ht⟩,I1,hx,hq⟩:=hv
  obtain ⟨t0,hr⟩:=I1.xn hx
  have hE:XP X pins E (.ref ea) s1:=⟨ea,σ,_,rfl,I1.raised hx,⟨C,od,upd_same⟩,Raw.tb ⟨t0,hr⟩,hq⟩
  have hC:=I1.kIn _ _ ho
  have T:=PySem.W.tail_of_in I1.kIn ht
  have hcB:(Value.ref C::bm).contains (.type "BaseException")=true:=by rw [List.contains_cons,T.hasType (X:="BaseException") (b:=true) rfl,Bool.or_true]
  obtain ⟨hp,g,d,tk,os⟩:=s1
  repeat (first|with_reducible refine wpAny_loadPart_at hr ?_|with_reducible refine wpAny_loadPart_at hC ?_|(with_reducible refine wpAny_isSubtype_exc hC ?_; rw [hcB])|wp_step)
  exact wpAny_raiseNew_none (I.ok.hd hc) hE
end
end L2
namespace L2
open PySem PySem.Spec PyProof.Rows
abbrev Cx.within (X:Cx) (e:Addr):Cx:={ X with A:=X.A.mark (some (.ref e)),calm:=false }
section
variable {X:Cx} {pins:List (Addr × Obj)} {σ:St} {H:Hp} {s:Shared} {e C:Addr} {od:Option Addr}
theorem Inv.within (I:Inv X pins σ H s) (e:Addr):Inv (X.within e) pins σ H s:=
  ⟨⟨I.ok.mod,I.ok.kind,I.ok.glob,I.ok.blt,I.ok.above,I.ok.inj,I.ok.has,I.ok.cab,(fun z=>by cases z),I.ok.frames,I.ok.stk,I.ok.exf,I.ok.bs,I.ok.bsz,I.ok.noex,I.ok.exfs,I.ok.funs,I.ok.frf⟩,I.os,I.bare,I.base,I.loc,I.cell,I.free,I.freeC,I.pin,I.hok,I.len⟩
theorem Inv.without (ok:X.Ok) (I:Inv (X.within e) pins σ H s):Inv X pins σ H s:=⟨ok,I.os,I.bare,I.base,I.loc,I.cell,I.free,I.freeC,I.pin,I.hok,I.len⟩
theorem flight_ok {M:Model} {A:Around} {Q:Unit→Shared→Prop} {E:Value→Shared→Prop} (I:Inv X pins σ H s) (tb:Tb X pins H s.heap e) (h:∀ s',Inv X pins σ H s'→Q () s'):wpAny M A (setFlight (.ref e) none) Q E s:=by
  obtain ⟨oe,vs,ge,hd,tb⟩:=tb
  unfold setFlight
  rcases tb with tb|⟨T,oT,ts,tb,gT,dT,t3,nT,aT⟩
  · refine wpAny_bind (wpAny_field ge hd tb ?_)
    rw [if_neg (by decide)]
    exact wpAny_pure (h s I)
  · refine wpAny_bind (wpAny_field ge hd tb ?_)
    rw [if_pos (show (Value.ref T != Value.none)=true from by simp)]
    refine wpAny_setField gT dT (Array.getElem?_eq_some_iff.mp t3).1 (h _ ?_)
    exact I.turned (t':=s.toks) (fun b o hb q=>(Heap.get?_update_other _ _ (Ne.symm hb)).trans q) aT.un aT.loc (.inr aT.up) aT.cel aT.pin
theorem gone_ok {M:Model} {A:Around} {Q:Unit→Shared→Prop} {E:Value→Shared→Prop} {i:Nat} {n:Str} {pos:Pos} (I:Inv X pins σ H s) (hN:X.N.Nodup) (hi:X.N[i]?=some n) (hl:X.env.kindOf n=some .local) (h:∀ s',Inv X pins (σ.set i none) H s'→Q () s') :
    wpAny M A (do bindName X.env n .none; unbindBehindTheSuite X.env n pos) Q E s:=by
  obtain ⟨m,hn,hlo⟩:=id I.loc
  have hcls:(X.env.scope.kind == .class || (X.env.scope.kind == .module && X.env.locals != X.env.globals))=false:=by rw [I.ok.kind]; rfl
  have hiσ:i<σ.length:=by rw [I.len]; exact (List.getElem?_eq_some_iff.mp hi).1
  obtain ⟨oL,_,_,hoL,_⟩:=id hn
  refine wpAny_nameGoes_keeps hl hn hcls fun h' v hn' hs=>h _ ?_
  have neL:∀ b o,X.s₀.heap.get? b=some o→b≠X.env.locals:=fun b o e=>Nat.ne_of_lt (Nat.lt_of_lt_of_le (Heap.lt_size e) I.ok.above)
  refine ⟨I.ok,I.os,I.bare,⟨fun b o e n hb hx=>(hs.2 b (neL b o e)).trans (I.base.keep b o e n hb hx),fun b o e n hb hx=>?_,I.base.free,fun b o e hx=>?_,I.base.tups,I.base.frzs,I.base.tbls⟩,⟨_,hn',fun j y w e1 e2 e3=>?_⟩,fun y c e=>?_,I.free,I.freeC,fun p hp=>?_,fun b ob e=>?_,by simpa using I.len⟩
  · obtain ⟨sl,e1⟩:=I.base.slot b o e n hb hx
    exact ⟨sl,(hs.2 b (neL b o e)).trans e1⟩
  · obtain ⟨o',e1⟩:=I.base.there b o e hx
    exact ⟨o',(hs.2 b (neL b o e)).trans e1⟩
  · by_cases hj:j=i
    · subst hj
      rw [List.getElem?_set_self hiσ] at e2
      cases e2
    · rw [List.getElem?_set_ne (Ne.symm hj)] at e2
      obtain ⟨u',r',q⟩:=hlo j y w e1 e2 e3
      refine ⟨u',r',?_⟩
      rcases q with ⟨k,e⟩|⟨k,c,e,z⟩
      · refine .inl ⟨k,?_⟩
        have:y≠n:=fun e=>hj (nodup_ix hN e1 (e ▸ hi))
        simp [this,e]
      · exact .inr ⟨k,c,e,z.sameBut hs (I.cne y c e)⟩
  · obtain ⟨w',z⟩:=I.cell y c e
    exact ⟨w',z.sameBut hs (I.cne y c e)⟩
  · obtain ⟨e,n,ne,nf,d⟩:=I.pin p hp
    exact ⟨(hs.2 p.1 ne).trans e,n,ne,nf,d⟩
  · refine (I.hok b ob e).stay (fun c w' hc q=>(hs.2 c ?_).trans q) (fun _ q=>q) fun _ _ q=>q
    rintro rfl
    rcases hc with z|hc
    · rw [← z,I.free] at e; cases e
    · rw [I.free] at hc; cases hc
end
def XSub (K:PySem.W.Frag) (C R:Addr):Prop:=∃ nm q N bs bm hdct sn sub ab col dd k0 k1 k2 k3 k5,K.lookup C=some (excClassObj nm q C N bs bm hdct sn sub ab col dd k0 k1 k2 k3 k5 "ValueError.__new__")∧(Value.ref C::bm).contains (.ref R)=true
def unD (i:Nat) (D:Ends):Ends:={ nx:=fun σ H=>D.nx (σ.set i none) H,rt:=D.rt,bk:=fun σ H=>D.bk (σ.set i none) H,ct:=fun σ H=>D.ct (σ.set i none) H }
section
variable {X:Cx} {R:Addr} {i:Nat} {x n:Str} {body suite:List Stmt} {b0:Stmt} {tb:TSx} {ts:TS} {np hpos pos:Pos}
end
end L2
namespace L2
open PySem PySem.Spec PyProof.Rows PySem.W
structure XC (K:PySem.W.Frag) (C:Addr):Prop where
  ga:findIn K (.ref C) "__getattribute__"=some (some (.builtin "BaseException.__getattribute__"))
  gh:findIn K (.ref C) "__getattr__"=some none
  cl:findIn K (.ref C) "__class__"=some (some (.builtin "object.__class__"))
  gs:specialIn K (.builtin "object.__class__") "__get__"=some (some (.builtin "getset_descriptor.__get__"))
  tk:takesIn K (.builtin "object.__class__")=some true
  ob:mroIn K C (.type "object")=some true
  be:mroIn K C (.type "BaseException")=some true
  hd:hasDictIn K C=true
theorem xga_kind:builtinKind "BaseException.__getattribute__"=some .slot:=by decide +kernel
theorem xga_split:splitId "BaseException.__getattribute__"=some ("BaseException","__getattribute__"):=by decide +kernel
theorem xga_slot:Slot "BaseException" "__getattribute__" "BaseException.__getattribute__":=
  .of (owner:="BaseException") (n:="__getattribute__") (by rw [typeLookup_type,builtinLookup_eq_fast]; kernel_rfl) (by decide +kernel) (by decide +kernel) (by decide +kernel)
    (by first|exact .inl (by decide +kernel)|exact .inr (by decide +kernel)) (by rw [isSubtype_type]; kernel_rfl)
section
variable {prog:Program} {w:World} {A:Around} {E:Value→Shared→Prop} {s:Shared} {K:PySem.W.Frag} {x C:Addr} {ox:Obj} {od:Option Obj} {name:Str}
theorem xga_call {tk:Tok} {r:Builtin.ObjectAttr.Found} {R:Result→Shared→Prop} (X:K.In s.heap) (I:InstAt s.heap x ox C od) (T:XC K C) (hf:findObj K C od name=some r)
    (h:match r with
      | .value v=>R (.ok (.ret v)) s
      | .bind g a=>wpAny (model prog w) A.in1 (call g [a,.ref x,.ref C]) (fun v s'=>R (.ok (.ret v)) s') (fun _ _=>False) s
      | .missing=>False) :
    codeAny (model prog w) A (.call (.builtin "BaseException.__getattribute__") ⟨[.ref x,.str name tk],[]⟩) R s:=by
  obtain ⟨hh,gg,d,t,os⟩:=s
  have L0:=I.type (M:=model prog w)
  have L1:=looks_find (M:=model prog w) X I hf
  have LB:Looks (model prog w) hh (isInstance (.ref x) (.type "BaseException")) true:=L0.andThen (looks_mroIn X T.be)
  refine codeAny_call_builtin xga_slot.plain PySem.F.entry_bexc_ga ?_
  refine @check_slot (model prog w) _ _ ⟨hh,gg,d,t,os⟩ "BaseException.__getattribute__" "BaseException" "__getattribute__" (.ref x) [.str name tk] [] _ xga_kind xga_split LB (PySem.F.args_bexc_ga (.ref x) (.str name tk)) ?_
  unfold Builtin.«object.__getattribute__»
  refine wpAny_bind (wpAny_pure (wpAny_bind (wpAny_pure (wpAny_bind (L0.at (wpAny_bind (L1.at ?_)))))))
  cases r with
  | value v=>exact wpAny_pure h
  | bind g a=>
    show wpAny _ _ (holding [a] (call g [a,.ref x,.ref C]) >>= ret) _ _ _
    exact wpAny_bind (wpAny_holding (wpAny_mono h (fun v s' z=>wpAny_pure z) fun _ _ z=>z.elim))
  | missing=>exact h.elim
theorem xga_by {tk:Tok} {fill expr:Bool} {r:Builtin.ObjectAttr.Found} {Q:Value→Shared→Prop} (X:K.In s.heap) (I:InstAt s.heap x ox C od) (T:XC K C) (hf:findObj K C od name=some r)
    (h:match r with
      | .value v=>handedIn v=true∧Q v s
      | .bind g a=>wpAny (model prog w) A.in1 (call g [a,.ref x,.ref C]) (fun v s'=>handedIn v=true∧Q v s') (fun _ _=>False) s
      | .missing=>False) :
    wpAny (model prog w) A (getAttrBy (.ref x) (.str name tk) fill expr) Q E s:=by
  have L0:=I.type (M:=model prog w)
  unfold getAttrBy
  refine wpAny_holding (wpAny_bind (L0.here (wpAny_bind ((looks_findIn X T.ga).here ?_))))
  dsimp only
  rw [show (onTheHeap (Value.ref C) && Value.builtin "BaseException.__getattribute__" == Value.builtin "object.__getattribute__")=false from by rw [show (Value.builtin "BaseException.__getattribute__" == Value.builtin "object.__getattribute__")=false from by decide +kernel,Bool.and_false],if_neg (by decide)]
  unfold getAttrByItsOwn
  refine wpAny_bind ((looks_hook X (mc:=.ref C) (r:=none) (by rw [if_pos (show onTheHeap (Value.ref C)=true from rfl)]; exact T.gh)).here (wpAny_bind (wpAny_attempt (wpAny_holding ?_))))
  unfold callGetattribute
  rw [show (expr && onTheHeap (Value.builtin "BaseException.__getattribute__"))=false from Bool.and_false _,if_neg (by decide)]
  unfold boundAndCalled
  rw [xga_slot.bind]
  refine wpAny_bind (wpAny_pure ?_)
  show wpAny _ _ (call (.builtin "BaseException.__getattribute__") [.ref x,.str name tk]) _ _ _
  refine wpAny_call (xga_call X I T hf ?_)
  cases r with
  | value v=>
    show wpAny _ _ (handedOut v) _ _ _
    exact handed_on h.1 h.2
  | bind g a=>
    refine wpAny_mono h (fun v s' z=>?_) fun _ _ z=>z
    show wpAny _ _ (handedOut v) _ _ _
    exact handed_on z.1 z.2
  | missing=>exact h.elim
theorem xc_class {Q:Option Value→Shared→Prop} (X:K.In s.heap) (I:InstAt s.heap x ox C od) (T:XC K C) (h:Q (some (.ref C)) { s with toks:=s.toks+1 }):wpAny (model prog w) A (getAttr? (.ref x) "__class__") Q E s:=by
  have hf:findObj K C od "__class__"=some (.bind (.builtin "getset_descriptor.__get__") (.builtin "object.__class__")):=by
    obtain ⟨cd,hc,_⟩:=any_some T.hd
    unfold findObj
    rw [hc,Option.bind_some,T.cl,Option.bind_some]
    simp [T.gs,T.tk]
  unfold getAttr? getAttrBy?
  refine wpAny_bind (wpAny_mkText (wpAny_bind (wpAny_attempt (xga_by (s:={ s with toks:=s.toks+1 }) X I T hf ?_))))
  exact wpAny_call (class_get (s:={ s with toks:=s.toks+1 }) X I T.ob ⟨rfl,wpAny_pure h⟩)
theorem kitx_exc (T:XC K C):KitX K (.ref x) (.ref C) (fun h=>∃ ox od,InstAt h x ox C od) where
  ty:=fun _ _ _ ⟨_,_,I⟩=>I.type
  it:=fun _ _ X _=>by
    obtain ⟨cdD,hcD,_⟩:=any_some T.hd
    unfold clsIn at hcD
    split at hcD
    · rename_i c' d' cd' sl' ho
      intro A' Q' E' s' k q
      unfold isType loadHead
      exact wpAny_bind (wpAny_loadPart (k _ _ (X _ _ ho)) (wpAny_pure q))
    · cases hcD
  ne:=fun h tp dd its n sl X htp=>by
    obtain ⟨cdD,hcD,_⟩:=any_some T.hd
    refine Bool.eq_false_iff.mpr fun q=>?_
    have e:C=tp:=Value.ref.inj (beq_iff_eq.mp q)
    subst e
    unfold clsIn at hcD
    split at hcD
    · rename_i c' d' cd' sl' ho
      have z:=(X _ _ ho).symm.trans htp
      cases z
    · cases hcD
  ca:=fun X ⟨_,_,I⟩ k=>xc_class X I T k
end
section
variable {X:Cx} {pins:List (Addr × Obj)} {σ:St} {H:Hp} {s:Shared} {e C:Addr} {od:Option Addr}
def XD (H:Hp) (od:Option Addr):Prop:=∀ dx,od=some dx→∃ fs,H dx=some (.xd fs)
theorem Inv.inst (I:Inv X pins σ H s) (he:H e=some (XO e C od)) (hd:XD H od):∃ ox o,InstAt s.heap e ox C o:=by
  obtain ⟨oe,vs,ge,c1,c2,c3,c4⟩:=I.xo he
  have no:notCls oe=true:=by
    obtain ⟨c,d,dt,sl⟩:=oe
    dsimp only at c3
    subst c3
    rfl
  cases od with
  | none=>exact ⟨oe,none,ge,c1,no,by rw [c2]; trivial⟩
  | some dx=>
    obtain ⟨fs,hx⟩:=hd dx rfl
    obtain ⟨u,hu⟩:=(I.hok dx _ hx).ex
    exact ⟨oe,some u,ge,c1,no,by rw [c2]; exact hu⟩
end
inductive TyX (K:PySem.W.Frag) (H:Hp):V→Value→Prop where
  | ty {x:V} {t:Value} (h:TyOf K H x t):TyX K H x t
  | exc {e C:Addr} {od:Option Addr} (he:H e=some (XO e C od)) (hd:XD H od) (T:XC K C):TyX K H (.ref e) (.ref C)
def rIsX (K:PySem.W.Frag):List V→Hp→VK→Prop:=fun xs H Q=>∃ x c t b,xs=[x,c]∧((∃ n,c=.ty n)∨∃ a,c=.ref a)∧TyX K H x t∧kitOne K t (clsV c)=some b∧Q (.bl b) H
theorem call_isx {X:Cx} (K:PySem.W.Frag) (h:X.K=K:=by rfl):CallR X (.builtin "isinstance") (rIsX K):=by
  subst h
  intro pins s σ H xs us Q I r h
  obtain ⟨x,c,t,b,rfl,hc,ty,e,q⟩:=h
  obtain ⟨u,w',rfl,rx,rc⟩:=vals2 r
  have hw:w'=clsV c:=by
    rcases hc with ⟨n,rfl⟩|⟨a,rfl⟩
    · cases rc; rfl
    · cases rc; rfl
  subst hw
  cases ty with
  | ty ty=>exact isinst_ok I rx ty e fun tk=>⟨.bl b,H,I.tok _,rfl,q⟩
  | exc he hd T=>
    cases rx
    exact kia_one (kitx_exc T) I.kIn (I.inst he hd) e (fun z=>nomatch z) fun tk=>⟨.bl b,H,I.tok _,rfl,q⟩
end L2
namespace L2
open PySem PySem.Spec PyProof.Rows PySem.W
section
variable {prog:Program} {w:World} {A:Around} {E:Value→Shared→Prop} {h:Heap} {g:Array GenState} {d:Drawn} {t:Nat} {os:OsState} {K:PySem.W.Frag}
variable {nm q:Str} {C N:Addr} {bs bm:List Value} {hdct:Bool} {sn:List Str} {sub:List Value} {ab:Bool} {col:Option Bool} {dd:Option Addr} {k0 k1 k2 k3 k5:Option Value}
theorem tcall_init {rest:List Value} {fI:Addr} {oI:Obj} {Q:Fin→Shared→Prop} (X:K.In h) (T:OwnTail h bmV bm)
    (hC:h.get? C=some (excClassObj nm q C N bs bm hdct sn sub ab col dd k0 k1 k2 k3 k5 "ValueError.__new__")) (hi:findIn K (.ref C) "__init__"=some (some (.ref fI))) (hfI:h.get? fI=some oI) (hfc:oI.cls=.type "function")
    (hq:∀ h' e,Heap.MadeExcOf h h' e (.ref C) rest→wpAny (model prog w) A (call (.ref fI) (.ref e::rest)) (fun r s'=>r=.none∧Q (.done (.ret (.ref e))) s') E ⟨h',g,d,t,os⟩) (hrest:rest.length≤sizeLine) :
    wpAny (model prog w) A (Builtin.«type.__call__» ⟨.ref C::rest,[]⟩) Q E ⟨h,g,d,t,os⟩:=by
  have F:=PySem.F.excBase_ValueError
  repeat (first|with_reducible refine wpAny_loadPart_at hC ?_|with_reducible refine wpAny_madeBy_exc hC ?_|wp_step)
  refine codeAny_call_builtin_code (Code.quiet_builtin _ F.quiet) (wpAny_check_new_subT F T hC ?_)
  refine codeAny_exc_new_subT F T hC ?_ hrest
  show wpAny _ _ _ _ _ _
  generalize hTU:({ cls:=.type "tuple", data:=.seq rest.toArray }:Obj)=TU
  generalize hEX:({ cls:=.ref C,data:=.fields #[.ref h.objs.size,.none,.none,.none,.bool false,.none] }:Obj)=EX
  have kk:∀ b o,h.get? b=some o→((h.push TU).push EX).get? b=some o:=fun b o e=>Heap.get?_push_of_some _ (Heap.get?_push_of_some _ e)
  have hC1:=kk _ _ hC
  have hf1:=kk _ _ hfI
  have hget:((h.push TU).push EX).get? (h.objs.size+1)=some EX:=by
    have:=Heap.get?_push_size (h.push TU) (o:=EX) (by rw [← hEX]; rfl)
    rwa [Heap.size_push] at this
  have hcl:EX.cls=.ref C:=by rw [← hEX]
  have hcC:(Value.ref C::bm).contains (.ref C)=true:=by simp
  unfold isInstance
  repeat (first|(with_reducible refine wpAny_loadPart_at hget ?_; rw [hcl])|(with_reducible refine wpAny_isSubtype_exc hC1 ?_; rw [hcC])|wp_step)
  show wpAny _ _ (typeLookup (.ref C) _) _ _ _
  refine looks_findIn (M:=model prog w) X hi _ _ _ _ kk ?_
  refine wpAny_holding (wpAny_bind ?_)
  unfold bindSpecial
  refine wpAny_bind (wpAny_typeOf (T:="function") ⟨_,hf1,hfc⟩ ?_)
  rw [if_pos (by decide)]
  refine wpAny_pure (wpAny_bind (wpAny_mono (hq _ (h.objs.size+1) ⟨kk,Heap.get?_none_of_le (Nat.le_succ _),h.objs.size,by rw [hget,← hEX],Heap.get?_none_of_le (Nat.le_refl _),?_⟩) (fun r s' hr=>?_) fun _ _ x=>x))
  · rw [hTU]
    exact Heap.get?_push_of_some _ (Heap.get?_push_size h (by rw [← hTU]; rfl))
  · obtain ⟨rfl,hQ⟩:=hr
    wp_walk
    exact hQ
theorem call_init {rest:List Value} {fI:Addr} {oI:Obj} {Q:Value→Shared→Prop} (X:K.In h) (T:OwnTail h bmV bm)
    (hC:h.get? C=some (excClassObj nm q C N bs bm hdct sn sub ab col dd k0 k1 k2 k3 k5 "ValueError.__new__")) (hi:findIn K (.ref C) "__init__"=some (some (.ref fI))) (hfI:h.get? fI=some oI) (hfc:oI.cls=.type "function")
    (hq:∀ h' e,Heap.MadeExcOf h h' e (.ref C) rest→wpAny (model prog w) (A.under (.builtin "type.__call__" ⟨.ref C::rest,[]⟩)) (call (.ref fI) (.ref e::rest)) (fun r s'=>r=.none∧Q (.ref e) s') E ⟨h',g,d,t,os⟩) (hrest:rest.length≤sizeLine) :
    wpAny (model prog w) A (call (.ref C) rest) Q E ⟨h,g,d,t,os⟩:=by
  have f1:=tc_lookup
  have f2:=tc_bind (.ref C)
  have hT:(⟨h,g,d,t,os⟩:Shared).TypeIs (.ref C) "type":=⟨_,hC,rfl⟩
  refine wpAny_call (codeAny_of_tree ?_)
  show wpAny _ _ (callAny (.ref C) _) _ _ _
  repeat (any_goals (first|assumption|with_reducible refine wpAny_loadPart_at hC ?_|wp_step))
  refine ⟨rfl,?_⟩
  exact codeAny_call_builtin_at (Code.quiet_builtin _ (by decide +kernel)) entry_typeCall (wpAny_check_type_call_sub hC (tcall_init X T hC hi hfI hfc hq hrest))
end
structure XMk (K:PySem.W.Frag) (C f:Addr):Prop where
  kin:XKin K C
  init:findIn K (.ref C) "__init__"=some (some (.ref f))
  fn:isFn K (.ref f)=true
  kp:keepIn K (.ref C)=true
def OwnE (P:Program) (w:World) (K:PySem.W.Frag) (mg:Str→Option Value) (base:Heap) (k:Nat) (C:Addr) (ps:List Str) (sp:Sp):Prop:=
  ∃ f fd,XMk K C f∧Binds K fd ps []∧FnOk P w K mg base CX0 k f fd ps sp
section
variable {X:Cx} {C:Addr} {x:Str} {p pos cpos apos:Pos} {e:Expr} {es:List Expr} {t:TA} {ps:List Str} {sp:Sp} {j k:Nat}
def tNewI (C:Addr) (sp:Sp) (t:TA):TN:=fun σ H Q=>t σ H fun vs H1=>vs.length≤100∧∀ e,H1 e=none→sp (.ref e::vs) (upd H1 e (XN e C none)) (fun v H2=>v=.non∧∃ od,H2 e=some (XN e C od)∧Q e C od H2) E0
theorem pn_newI (M:OwnE X.prog X.w X.K X.mg X.base j C ps sp) (hr:Room k X.A) (hm:X.mg x=some (.ref C)) (ha:PA X.nox (e::es) t) (hk:j+1≤k:=by decide) (hg:Gl X x:=by rfl)
    (hdb:(x == ("__debug__":Str))=false:=by decide) (he:starEach (e::es) X.env=(false,eval e X.env)::starEach es X.env:=by rfl) (hpl:(backTo pos (starEach es X.env)).any (·.1)=false:=by rfl) :
    PN X (.Call (.Name x p) (e::es) [] pos) (tNewI C sp t):=by
  obtain ⟨f,fd,M,hb,F⟩:=M
  intro pins s σ H Q E I h
  refine wpAny_Call_Name_kw (ld_glob I hg hm ?_ hdb)
  refine PySem.W.callWith_K (h₀:=X.base) I.ok.mod.kin M.kp (wpAny_mono (ha pos pins s σ H _ (I.wish _) h) (fun us s1 ⟨vs,H1,I1,r,hl,q⟩=>⟨I1.unwish.kIn,?_⟩) fun _ _ z=>False.elim z) he hpl
  have I1:=I1.unwish
  have XKi:=I1.kIn
  obtain ⟨nm,qn,N,bs,bm,hdct,sn,sub,ab,col,dd,k0,k1,k2,k3,k5,ho,ht⟩:=id M.kin
  obtain ⟨oI,hoI,hcI⟩:=Option.map_eq_some_iff.mp (show (X.K.lookup f).map (·.cls)=some (.type "function") from beq_iff_eq.mp M.fn)
  obtain ⟨hp,g,d,tk,os⟩:=s1
  have hll:us.length≤sizeLine:=by
    rw [← r.length,sizeLine_eq]
    omega
  refine call_init XKi (tail_of_in XKi ht) (XKi _ _ ho) M.init (XKi _ _ hoI) hcI (fun h' ea hm=>?_) hll
  obtain ⟨t0,h1,h2,h3⟩:=hm.there
  have hraw:Raw h' ea C none:=⟨t0,h1⟩
  have hn:=I1.none_at hm.new
  have I2:=I1.lay (h':=h') (o:=XN ea C none) hm.keeps hm.new hraw.okN
  have hq:=q ea hn
  have r2:Vals (V.ref ea::vs) (Value.ref ea::us):=.cons rfl r
  have hlen:(Value.ref ea::us).length=ps.length:=by
    have e:=r2.length
    rw [F.len _ _ _ _ hq] at e
    exact e.symm
  have hb':=hb ⟨h',g,d,tk,os⟩ (Value.ref ea::us) I2.kIn (by rw [aZ0]; exact hlen)
  rw [aZ0] at hb'
  refine wpAny_call (codeAny_mono (F.run _ X.stack _ _ ⟨Value.ref ea::us,[]⟩ (Value.ref ea::us) _ _ E0 ((hr.mono hk).make C us []) (I2.env0.make C us []) hb' r2 hq) fun r s' hq'=>?_)
  cases r with
  | error v=>exact False.elim hq'
  | ok fl=>
    cases fl with
    | ret u=>
      obtain ⟨v,H',I3,rv,ev,od,hx,q3⟩:=I2.after hq'
      subst ev
      exact ⟨rv,ea,C,od,H',rfl,M.kin,I3,hx,q3⟩
    | next=>exact False.elim hq'
    | brk=>exact False.elim hq'
    | cont=>exact False.elim hq'
structure XB (K:PySem.W.Frag) (B:Addr):Prop where
  sp:specialIn K (.ref B) "__getattribute__"=some (some (.builtin "type.__getattribute__"))
  rd:readsIn K B (.type "type")=true
  fd:findCls K (.ref B) (.type "type") "__init__"=some (.val (.builtin "ValueError.__init__"))
theorem upd_self {H:Hp} {a:Addr} {o:HO} (h:H a=some o):upd H a o=H:=by
  funext b
  unfold upd
  split
  · rename_i z
    rw [z,h]
  · rfl
def tXi (K:PySem.W.Frag) (t:TA):TE:=fun σ H Q=>t σ H fun vs H1=>∃ e C od y,vs=[.ref e,y]∧H1 e=some (XN e C od)∧XKin K C∧Q .non H1
theorem pe_xinit {B:Addr} {pl:Sem Bool} (T:XB X.K B) (hm:X.mg x=some (.ref B)) (ha:PA X (e::es) t) (hg:Gl X x:=by rfl) (hdb:(x == ("__debug__":Str))=false:=by decide)
    (hst:starEach (e::es) X.env=(false,eval e X.env)::starEach es X.env:=by rfl) (hpl:(backTo pos (starEach es X.env)).any (·.1)=false:=by rfl)
    (ht:eval (.Call (.Attribute (.Name x p) "__init__" apos) (e::es) [] pos) X.env=(do
      let ov ← eval (.Name x p) X.env
      standAt apos.atName
      let (f,first) ← holding [ov] (getMethod ov "__init__" pl)
      callWith pos f first (backTo pos (starEach (e::es) X.env)) (backToKw pos (keywordEach [] X.env))):=by rfl) :
    PE X (.Call (.Attribute (.Name x p) "__init__" apos) (e::es) [] pos) (tXi X.K t):=by
  intro pins s σ H Q I h
  refine PySem.W.methodCall_KW (pl:=pl) (ld_glob I hg hm ?_ hdb) ht
  refine method_cls I.kIn T.sp (cls_value I.kIn T.rd T.fd rfl ?_)
  have I0:=I.tok (s.toks+1)
  refine PyProof.Rows.callWith_builtin1 (thn (ha pos pins _ σ H _ I0 h) fun us s1 ⟨vs,H1,I1,r,ex,C,od,y,ev,hx,hkin,q⟩=>?_) hst hpl
  subst ev
  obtain ⟨u1,u2,rfl,r1,r2⟩:=vals2 r
  cases r1
  obtain ⟨nm,qn,N,bs,bm,hdct,sn,sub,ab,col,dd,k0,k1,k2,k3,k5,ho,htl⟩:=hkin
  have F:=PySem.F.excBase_ValueError
  have XKi:=I1.kIn
  obtain ⟨t0,hr⟩:=I1.xn hx
  obtain ⟨hp,g,d,tk,os⟩:=s1
  refine wpAny_call (codeAny_call_builtin F.init.plain F.initEntry (wpAny_check_init_subT F (tail_of_in XKi htl) (XKi _ _ ho) hr rfl ?_))
  wp_walk
  show EP X pins σ Q .none _
  generalize hTU:({ cls:=.type "tuple", data:=.seq #[u2] }:Obj)=TU
  have I2:Inv X pins σ H1 ⟨hp.push TU,g,d,tk,os⟩:=I1.kept (t':=tk) fun b u z=>Heap.get?_push_of_some _ z
  have hr2:(hp.push TU).get? ex=some { cls:=.ref C,dict:=od,data:=.fields #[.ref t0,.none,.none,.none,.bool false,.none] }:=Heap.get?_push_of_some _ hr
  have hr3:((hp.push TU).update ex (Obj.mapFields fun x=>x.setIfInBounds 0 (Value.ref hp.objs.size))).get? ex=some { cls:=.ref C,dict:=od,data:=.fields #[.ref hp.objs.size,.none,.none,.none,.bool false,.none] }:=Heap.get?_update_self _ hr2 rfl
  have I3:=I2.write (t':=tk) (x:=ex) (e:=ex) (o:=XN ex C od) (h':=(hp.push TU).update ex (Obj.mapFields fun x=>x.setIfInBounds 0 (Value.ref hp.objs.size))) (by rw [hx]; exact True.intro) (.inl rfl) (fun b u hb z=>(Heap.get?_update_other _ _ (Ne.symm hb)).trans z) ⟨_,hr3⟩ (Raw.okN ⟨_,hr3⟩)
  rw [upd_self hx] at I3
  exact ⟨.non,H1,I3,rfl,q⟩
end
end L2
namespace L2
open PySem PySem.Spec PyProof.Rows PySem.W
theorem tail_passes {h:Heap} {bm:List Value} (self:Value) (T:OwnTail h bmV bm):refuseLoop self "__setattr__" bm=pure ():=by
  induction T with
  | base=>exact PySem.F.store_ValueError.passes self
  | own _ _ _ _ ih=>rw [refuseLoop_ref]; exact ih
section
variable {prog:Program} {w:World} {A:Around} {s:Shared} {K:PySem.W.Frag} {x C:Addr} {name:Str} {v:Value} {tk:Tok}
variable {nm q:Str} {N:Addr} {bs bm:List Value} {hdct:Bool} {sn:List Str} {sub:List Value} {ab:Bool} {col:Option Bool} {dd:Option Addr} {k0 k1 k2 k3 k5:Option Value} {newId:String}
theorem xset_entry {R:Result→Shared→Prop} {vs:Array Value} {sl:Array (Option Value)} (X:K.In s.heap) (hx:s.heap.get? x=some ⟨.ref C,none,.fields vs,sl⟩) (T:OwnTail s.heap bmV bm)
    (hC:K.lookup C=some (excClassObj nm q C N bs bm hdct sn sub ab col dd k0 k1 k2 k3 k5 newId)) (hf:findIn K (.ref C) name=some none) (hh:hasDictIn K C=true)
    (h:∀ h' tk',h'.Ns1 s.heap.objs.size (fun y=>if y=name then some v else none)→h'.get? x=some ⟨.ref C,some s.heap.objs.size,.fields vs,sl⟩→(∀ b o,b≠x→s.heap.get? b=some o→h'.get? b=some o)→R (.ok (.ret .none)) { s with heap:=h',toks:=tk' }) :
    codeAny (model prog w) A (.call (.builtin "object.__setattr__") ⟨[.ref x,.str name tk,v],[]⟩) R s:=by
  have SF:=PySem.F.store_object
  have I:InstAt s.heap x ⟨.ref C,none,.fields vs,sl⟩ C none:=⟨hx,rfl,rfl,True.intro⟩
  obtain ⟨cd,hcd,hd'⟩:=any_some hh
  have hmro:cd.mro=.ref C::bm:=by
    unfold clsIn at hcd
    rw [hC] at hcd
    cases hcd
    rfl
  have hcO:(Value.ref C::bm).contains (.type "object")=true:=by rw [List.contains_cons,T.hasType (X:="object") (b:=true) rfl,Bool.or_true]
  have isub:Looks (model prog w) s.heap (isInstance (.ref x) (.type "object")) true:=I.type.andThen (looks_mroIn X (by unfold mroIn; rw [hcd,Option.bind_some,hmro,if_neg (show ¬ (Value.ref C::bm).isEmpty=true from Bool.false_ne_true),hcO]))
  have hmL:Looks (model prog w) s.heap (mroOf (.ref C)) cd.mro:=(looks_clsIn X hcd).andThen .now
  refine codeAny_call_builtin SF.slot.plain SF.entry (@check_slot (model prog w) _ _ s "object.__setattr__" "object" "__setattr__" (.ref x) [.str name tk,v] [] _ SF.kind SF.split isub (SF.args (.ref x) (.str name tk) v) ?_)
  rw [osa_eq,refuse_eq]
  refine wpAny_bind (wpAny_bind (I.type.here (wpAny_bind (hmL.here ?_))))
  rw [hmro,refuseLoop_ref,tail_passes _ T]
  refine wpAny_pure (wpAny_bind (I.type.here (wpAny_bind ((looks_findIn X hf).here (wpAny_bind (wpAny_pure ?_))))))
  show wpAny _ _ (Builtin.ObjectAttr.storeInOwnDict (.ref x) (.ref C) (.str name tk) name v false) _ _ _
  refine wpAny_bind (wpAny_pure (wpAny_bind (wpAny_bind (wpAny_loadPart hx (wpAny_bind ((looks_clsIn X hcd).here ?_))))))
  rw [hd']
  have hx₁:(s.heap.push { cls:=.type "dict", data:=.dict #[] }).get? x=some ⟨.ref C,none,.fields vs,sl⟩:=Heap.get?_push_of_some _ hx
  have hxs:x≠s.heap.objs.size:=Nat.ne_of_lt (Heap.lt_size hx)
  refine wpAny_bind (wpAny_alloc' ?_)
  refine wpAny_bind (wpAny_update' hx₁ ?_)
  refine wpAny_pure ?_
  have hgd:((s.heap.push { cls:=.type "dict", data:=.dict #[] }).update x fun o=>{ cls:=o.cls,dict:=some s.heap.objs.size,data:=o.data,slots:=o.slots }).get? s.heap.objs.size
     =some { cls:=.type "dict", data:=.dict #[] }:=
    (Heap.get?_update_ne _ _ _ _ hxs.symm).trans (Heap.get?_push_at rfl rfl)
  have hnd:((s.heap.push { cls:=.type "dict", data:=.dict #[] }).update x fun o=>{ cls:=o.cls,dict:=some s.heap.objs.size,data:=o.data,slots:=o.slots }).Ns s.heap.objs.size (fun _=>none):=
    ⟨_,#[],_,hgd,rfl,fun e he=>absurd he (by simp),fun _=>rfl⟩
  show wpAny _ _ (Builtin.ObjectAttr.storeInDict s.heap.objs.size (.str name tk) name v) _ _ _
  unfold Builtin.ObjectAttr.storeInDict Builtin.ObjectAttr.newKeyGuard
  refine wpAny_bind (wpAny_pure (wpAny_bind (wpAny_nsSet1 (Heap.Ns1.of_empty hnd) fun h' hn' hs=>?_)))
  obtain ⟨oD,esD,epD,hoD,hdD,hcD⟩:=hn'.count (Within.cons name v Within.nil)
  refine wpAny_bind (wpAny_lookBehind hoD (by rw [hdD]; exact pastItsLine_dict (Nat.le_trans hcD (by rw [lZ1,lZ0,sizeLine_eq]; omega))) ?_)
  refine wpAny_pure (h h' _ hn' ?_ fun b ob hbx hb=>?_)
  · exact (hs.2 x hxs).trans (Heap.get?_update_self _ hx₁ rfl)
  · exact (hs.2 b (Nat.ne_of_lt (Heap.lt_size hb))).trans ((Heap.get?_update_ne _ _ _ _ hbx).trans (Heap.get?_push_of_some _ hb))
end
structure XSt (K:PySem.W.Frag) (C:Addr) (f:Str):Prop where
  kin:XKin K C
  sa:findIn K (.ref C) "__setattr__"=some (some (.builtin "object.__setattr__"))
  no:findIn K (.ref C) f=some none
  hd:hasDictIn K C=true
section
variable {X:Cx} {pins:List (Addr × Obj)} {σ:St} {H:Hp} {s:Shared} {a C:Addr}
theorem Inv.xfld {h':Heap} {dx:Addr} {t':Nat} {o1 o2:HO} (I:Inv X pins σ H s) (he:H a=some (XN a C none)) (hk:∀ b u,b≠a→s.heap.get? b=some u→h'.get? b=some u) (ha:∃ u,h'.get? a=some u) (hn:s.heap.get? dx=none)
    (n1:ObjOk X.prog X.w (upd (upd H dx o2) a o1) h' a o1) (n2:ObjOk X.prog X.w (upd (upd H dx o2) a o1) h' dx o2):Inv X pins σ (upd (upd H dx o2) a o1) { s with heap:=h',toks:=t' }:=by
  have hH:=I.none_at hn
  have na:∀ b (o:HO),H b=some o→o≠XN a C none→b≠a:=fun b o q d z=>by rw [z,he] at q; cases q; exact d rfl
  have nf:∀ b,H b=none→b≠a:=fun b q z=>by rw [z,he] at q; cases q
  have nd:∀ b u,s.heap.get? b=some u→b≠dx:=fun b u q z=>by rw [z,hn] at q; cases q
  have st:∀ b (o:HO),H b=some o→o≠XN a C none→upd (upd H dx o2) a o1 b=some o:=fun b o q d=>by rw [upd_ne (na b o q d),upd_ne (ne_of_none q hH)]; exact q
  refine I.un (t':=t') ⟨fun b u q n _ _=>hk b u (nf b n) q,fun b u q n _ _=>⟨u.slots,hk b u (nf b n) q⟩,fun b u q n _=>by rw [upd_ne (nf b n),upd_ne (nd b u q)]; exact n,fun b u q _=>?_,fun b xs q=>st b _ q (by intro z; cases z),
    fun b u xs q=>st b _ q (by intro z; cases z),fun b ps q=>⟨#[],by rw [st b _ q (by intro z; cases z)]; simp⟩⟩ fun b o e=>?_
  · by_cases hb:b=a
    · rw [hb]; exact ha
    · exact ⟨u,hk b u hb q⟩
  · by_cases hb:b=a
    · subst hb
      rw [upd_same] at e
      cases e
      exact n1
    · rw [upd_ne hb] at e
      by_cases hd:b=dx
      · subst hd
        rw [upd_same] at e
        cases e
        exact n2
      · rw [upd_ne hd] at e
        refine (I.hok b o e).stay (fun c v hc q=>hk c v (fun z=>?_) q) (fun c q=>?_) fun c xs q=>st c _ q (by intro z; cases z)
        · rcases hc with rfl|hc
          · exact hb z
          · rw [z,he] at hc; cases hc
        · exact st c _ q (by intro z; cases z)
def sXf (K:PySem.W.Frag) (ta tv:TE) (f:Str):TS:=fun D σ H=>tv σ H fun y H1=>ta σ H1 fun x H2=>∃ a C,x=.ref a∧H2 a=some (XN a C none)∧XSt K C f∧∀ dx,H2 dx=none→dx≠a→D.nx σ (upd (upd H2 dx (.xd [(f,y)])) a (XN a C (some dx)))
theorem ps_xfld {o value:Expr} {ta tv:TE} {f:Str} {pos pos':Pos} (ha:PE X o ta) (hv:PE X value tv) (hs:swapsWith value (some (.Attribute o f pos')) pos.line X.env=pure false):PS X (.Assign [.Attribute o f pos'] value pos) (sXf X.K ta tv f):=by
  intro pins s σ H D I h
  refine plainObj_wpAny_Assign_Attribute (thn (hv pins s σ H _ I h) fun u s1 ⟨y,H1,I1,ry,q⟩=>thn (ha pins s1 σ H1 _ I1 q) fun ov s2 ⟨x,H2,I2,rx,a,C,ex,ea,T,q2⟩=>?_) hs
  subst ex
  obtain rfl:ov=Value.ref a:=rx
  obtain ⟨nm,qn,N,bs,bm,hdct,sn,sub,ab,col,dd,k0,k1,k2,k3,k5,ho,htl⟩:=T.kin
  obtain ⟨t0,hr⟩:=I2.xn ea
  refine PySem.W.set_plain I2.kIn (⟨hr,rfl,rfl,True.intro⟩:InstAt s2.heap a _ C none) T.sa ?_
  refine xset_entry (s:={ s2 with toks:=s2.toks+1 }) I2.kIn hr (tail_of_in I2.kIn htl) ho T.no T.hd fun h' tk' hns hx' hk=>?_
  have hlt:a≠s2.heap.objs.size:=Nat.ne_of_lt (Heap.lt_size hr)
  refine ⟨σ,_,I2.xfld (C:=C) (dx:=s2.heap.objs.size) (o1:=XN a C (some s2.heap.objs.size)) (o2:=.xd [(f,y)]) ea hk ⟨_,hx'⟩ (Heap.get?_none_of_le (Nat.le_refl _)) (Raw.okN ⟨t0,hx'⟩) ⟨_,hns,fun g=>?_⟩,q2 _ (I2.hok.fresh (Nat.le_refl _)) (Ne.symm hlt)⟩
  by_cases hg:g=f
  · subst hg
    simp only [List.lookup,beq_self_eq_true,if_true]
    exact ry
  · have:(g == f)=false:=by simp [hg]
    simp only [List.lookup,this,if_neg hg]
    trivial
end
structure XGt (K:PySem.W.Frag) (C:Addr) (f:Str):Prop where
  xc:XC K C
  no:findIn K (.ref C) f=some none
def tXa (K:PySem.W.Frag) (ta:TE) (f:Str):TE:=fun σ H Q=>ta σ H fun x H1=>∃ e C dx fs v,x=.ref e∧H1 e=some (XO e C (some dx))∧H1 dx=some (.xd fs)∧fs.lookup f=some v∧XGt K C f∧Q v H1
theorem pe_xattr {X:Cx} {e:Expr} {ta:TE} {f:Str} {pos:Pos} (K:PySem.W.Frag) (he:PE X e ta) (hb:attributeBase e f X.env (eval e X.env)=eval e X.env:=by rfl) (hK:X.K=K:=by rfl):PE X (.Attribute e f pos) (tXa K ta f):=by
  subst hK
  intro pins s σ H Q I h
  refine attr_of hb (thn (he pins s σ H _ I h) fun u s1 ⟨x,H1,I1,rx,ea,C,dx,fs,v,ex,hx,hd,hl,T,q⟩=>?_)
  subst ex
  obtain rfl:u=Value.ref ea:=rx
  obtain ⟨oe,vs,ge,c1,c2,c3,c4⟩:=I1.xo hx
  have hns:∃ mA,s1.heap.Ns1 dx mA∧∀ f,RelO (fs.lookup f) (mA f):=I1.hok dx _ hd
  obtain ⟨mA,⟨od,es,ep,g1,g2,g3,g4,g5⟩,r⟩:=hns
  obtain ⟨w,hw,rw'⟩:=RelO.some_of (v:=v) (o:=mA f) (by rw [← hl]; exact r f)
  have no:notCls oe=true:=by
    obtain ⟨c,d,dt,sl⟩:=oe
    dsimp only at c3
    subst c3
    rfl
  have J:InstAt s1.heap ea oe C (some od):=⟨ge,c1,no,by rw [c2]; exact g1⟩
  obtain ⟨cd,hc,hh⟩:=any_some T.xc.hd
  have hlook:lookIn f od=some (some w):=by
    have e5:(es.find? fun e=>e.key.isStr f).map (·.val)=some w:=by rw [← hw,← g5 f]; rfl
    obtain ⟨en,h1,h2⟩:=Option.map_eq_some_iff.mp e5
    rw [← Array.find?_toList] at h1
    unfold lookIn
    rw [g2]
    dsimp only
    rw [h1]
    dsimp only
    rw [h2]
  have hf:findObj X.K C (some od) f=some (.value w):=by
    unfold findObj
    rw [hc,Option.bind_some,T.no,Option.bind_some]
    simp only [Option.bind_some]
    unfold PySem.W.ownOf
    rw [if_pos hh]
    dsimp only
    rw [hlook]
    rfl
  refine wpAny_bind (wpAny_mkText (xga_by (s:={ s1 with toks:=s1.toks+1 }) I1.kIn J T.xc hf ⟨handed_of rw',v,H1,I1.tok _,rw',q⟩))
section
variable {P:Program} {w:World} {K:PySem.W.Frag} {mg:Str→Option Value} {base:Heap} {k:Nat} {x m:Str} {C:Addr} {ps:List Str} {sp:Sp}
end
end L2
namespace L2
open PySem PySem.Spec PyProof.Rows PySem.W
def xkinB (K:PySem.W.Frag) (C:Addr):Bool:=match K.lookup C with
  | some ⟨.type "type", _,.cls cd,sl⟩=>(match cd.mro,sl.toList with
    | .ref C'::bm,[_,_,_,_,some (.builtin n),_]=>C' == C && n == "ValueError.__new__" && !cd.hasDel && tailIn K bmV bm
    | _,_=>false)
  | _=>false
theorem xkin_get {K:PySem.W.Frag} {C:Addr} (h:xkinB K C=true):∃ nm q N bs bm hdct sn sub ab col dd k0 k1 k2 k3 k5,K.lookup C=some (excClassObj nm q C N bs bm hdct sn sub ab col dd k0 k1 k2 k3 k5 "ValueError.__new__")∧PySem.W.tailIn K bmV bm=true:=by
  unfold xkinB at h
  split at h
  · rename_i dd cd sl ho
    split at h
    · rename_i C' bm k0 k1 k2 k3 n k5 hmr hs
      simp only [Bool.and_eq_true,beq_iff_eq,Bool.not_eq_true'] at h
      obtain ⟨⟨⟨rfl,rfl⟩,hdel⟩,ht⟩:=h
      obtain ⟨nm,bs,mro,ns,qn,hd,sn,sub,ab,col,del⟩:=cd
      dsimp only at hmr hdel
      subst hmr hdel
      have hsl:sl=#[k0,k1,k2,k3,some (.builtin "ValueError.__new__"),k5]:=by
        obtain ⟨l⟩:=sl
        simp only at hs
        rw [hs]
      subst hsl
      exact ⟨nm,qn,ns,bs,bm,hd,sn,sub,ab,col,dd,k0,k1,k2,k3,k5,ho,ht⟩
    · cases h
  · cases h
theorem xkin_of {K:PySem.W.Frag} {C:Addr} (h:xkinB K C=true):XKin K C:=xkin_get h
theorem xsub_of {K:PySem.W.Frag} {C R:Addr} (h:xkinB K C=true) (m:mroIn K C (.ref R)=some true):XSub K C R:=by
  obtain ⟨nm,q,N,bs,bm,hdct,sn,sub,ab,col,dd,k0,k1,k2,k3,k5,ho,ht⟩:=xkin_get h
  refine ⟨nm,q,N,bs,bm,hdct,sn,sub,ab,col,dd,k0,k1,k2,k3,k5,ho,?_⟩
  unfold mroIn clsIn at m
  rw [ho] at m
  simpa using m
structure XCls (K:PySem.W.Frag) (mg:Str→Option Value) (x:Str) (C R:Addr):Prop where
  mg:mg x=some (.ref C)
  kin:XKin K C
  sub:XSub K C R
  xc:XC K C
  kp:keepIn K (.ref C)=true
structure XPl (K:PySem.W.Frag) (C:Addr):Prop where
  ex:excIn K C bmV "ValueError.__new__"=true
  kp:keepIn K (.ref C)=true
def xclsB (K:PySem.W.Frag) (C R:Addr):Bool:=xkinB K C && mroIn K C (.ref R) == some true && findIn K (.ref C) "__getattribute__" == some (some (.builtin "BaseException.__getattribute__")) && findIn K (.ref C) "__getattr__" == some none &&
  findIn K (.ref C) "__class__" == some (some (.builtin "object.__class__")) && specialIn K (.builtin "object.__class__") "__get__" == some (some (.builtin "getset_descriptor.__get__")) && takesIn K (.builtin "object.__class__") == some true &&
  mroIn K C (.type "object") == some true && mroIn K C (.type "BaseException") == some true && hasDictIn K C && keepIn K (.ref C)
theorem xcls_mk {K:PySem.W.Frag} {h:Heap} {mg:Str→Option Value} {x:Str} {C R:Addr} (X:K.In h) (G:h.Ns mainGlobals mg) (a:nsIn K mainGlobals x=some (some (.ref C))) (b:xclsB K C R=true):XCls K mg x C R:=by
  unfold xclsB at b
  simp only [Bool.and_eq_true,beq_iff_eq] at b
  obtain ⟨⟨⟨⟨⟨⟨⟨⟨⟨⟨b1,b2⟩,b3⟩,b4⟩,b5⟩,b6⟩,b7⟩,b8⟩,b9⟩,b10⟩,b11⟩:=b
  exact ⟨mg_of X G a,xkin_of b1,xsub_of b1 b2,⟨b3,b4,b5,b6,b7,b8,b9,b10⟩,b11⟩
section
variable {K:PySem.W.Frag} {H:Hp} {Q:VK} {e C D:Addr} {od:Option Addr} {b:Bool}
theorem isx_exc (he:H e=some (XO e C od)) (hd:XD H od) (T:XC K C) (k:kitOne K (.ref C) (.ref D)=some b) (q:Q (.bl b) H):rIsX K [.ref e,.ref D] H Q:=⟨_,_,_,b,rfl,.inr ⟨_,rfl⟩,.exc he hd T,k,q⟩
theorem isx_val (he:H e=some (XO e C od)) (hd:XD H od) (T:XC K C) (k:kitOne K (.ref C) (.type "ValueError")=some b) (q:Q (.bl b) H):rIsX K [.ref e,.ty "ValueError"] H Q:=⟨_,_,_,b,rfl,.inl ⟨_,rfl⟩,.exc he hd T,k,q⟩
theorem XD.none {H:Hp}:XD H none:=fun _ z=>nomatch z
theorem XD.some {H:Hp} {dx:Addr} {fs:List (Str × V)} (h:H dx=some (.xd fs)):XD H (some dx):=fun _ z=>by cases z; exact ⟨fs,h⟩
theorem XD.same {H H':Hp} {od:Option Addr} (s:Same H H') (h:XD H od):XD H' od:=fun dx z=>by
  obtain ⟨fs,e⟩:=h dx z
  exact ⟨fs,s _ _ e⟩
end
theorem pe_cls {X:Cx} {x:Str} {C:Addr} {pos:Pos} (hm:X.mg x=some (.ref C)) (hg:Gl X x:=by rfl) (hd:(x == ("__debug__":Str))=false:=by decide):PE X (.Name x pos) (tC (.ref C)):=pe_glob (v:=.ref C) hg hm rfl hd
theorem bt_ValueError:bootBuiltins "ValueError"=some (.type "ValueError"):=by decide +kernel
inductive NoWh (H:Hp):V→Prop
  | bl (b:Bool):NoWh H (.bl b)
  | non:NoWh H .non
  | str (x:Str):NoWh H (.str x)
  | tup {a:Addr} {xs:List V} (e:H a=some (.tup xs)):NoWh H (.ref a)
  | lst {a:Addr} {xs:List V} (e:H a=some (.lst xs)):NoWh H (.ref a)
def DefE (K:PySem.W.Frag) (C:Addr) (qual:Str) (st:Stmt):Prop:=∃ f fd,XMk K C f∧Fun K "__init__" qual st f fd
section
variable {P:Program} {w:World} {K:PySem.W.Frag} {mg:Str→Option Value} {base:Heap} {C:Addr} {qual:Str} {st:Stmt} {N ps:List Str} {k:Nat} {sp:Sp}
theorem DefE.own (D:DefE K C qual st) (S:FnScope N ps (defScope st))
    (hb:∀ (kV doc pm:Value) (an:Option Addr) (cdv ct:Value) (us:List Value),us.length=ps.length→bindArgs (PySem.W.fnOf "__init__" qual (defArgs st) (defBody st) (defScope st) .none kV doc pm an cdv ct) ⟨us,[]⟩=pure (ps.zip us))
    (len:∀ vs H Q E,sp vs H Q E→vs.length=ps.length)
    (hbody:∀ (f:Addr) (cdv:Value) (A:Around) (outer:List Env) (s:Shared) (H:Hp) (vs:List V) (Q:VK) (E:XK),Room k (A.deeper (envOfC qual (defScope st) s.heap.objs.size f cdv))→sp vs H Q E →
      ∃ t,PSs (cxOf CX0 P w K mg base N qual (defScope st) f cdv A outer s H E).nox (defBody st) t∧t { nx:=fun _ H'=>Q .non H',rt:=Q } (start N vs) H):OwnE P w K mg base (k+1) C ps sp:=by
  obtain ⟨f,fd,hm,F⟩:=D
  exact ⟨f,fd,hm,F.binds hb,F.ok S len (hbody f)⟩
theorem defE_mk {f:Addr} {oc:Value} {od an:Option Addr} {osl:Array (Option Value)} {kV doc pm cdv ct:Value} (kin:XKin K C) (kc:keepIn K (.ref C)=true) (a:PySem.W.findIn K (.ref C) "__init__"=some (some (.ref f))) (i:PySem.W.isFn K (.ref f)=true)
    (l:K.lookup f=some ⟨oc,od,.func (PySem.W.fnOf "__init__" qual (defArgs st) (defBody st) (defScope st) .none kV doc pm an cdv ct),osl⟩) (c:PySem.W.codeIn K cdv qual=true) (k:PySem.W.keepIn K (.ref f)=true):DefE K C qual st:=
  ⟨f,_,⟨kin,a,i,kc⟩,fun_mk l c k⟩
end
structure K10 (K:PySem.W.Frag) (C:Addr) (c0 c1 c2 c3 c4 c5 c6 c7 c8 c9:Addr) (b0 b1 b2 b3 b4 b5 b6 b7 b8 b9:Bool):Prop where
  k0:kitOne K (.ref C) (.ref c0)=some b0
  k1:kitOne K (.ref C) (.ref c1)=some b1
  k2:kitOne K (.ref C) (.ref c2)=some b2
  k3:kitOne K (.ref C) (.ref c3)=some b3
  k4:kitOne K (.ref C) (.ref c4)=some b4
  k5:kitOne K (.ref C) (.ref c5)=some b5
  k6:kitOne K (.ref C) (.ref c6)=some b6
  k7:kitOne K (.ref C) (.ref c7)=some b7
  k8:kitOne K (.ref C) (.ref c8)=some b8
  k9:kitOne K (.ref C) (.ref c9)=some b9
  kv:kitOne K (.ref C) (.type "ValueError")=some true
structure Ers (mg:Str→Option Value) (R cM cP cR cF cT cN cA cL cW cO:Addr):Prop where
  r:mg "RoadError"=some (.ref R)
  m:mg "BadMeasures"=some (.ref cM)
  p:mg "BadPast"=some (.ref cP)
  d:mg "BadRoad"=some (.ref cR)
  f:mg "Full"=some (.ref cF)
  t:mg "BadThing"=some (.ref cT)
  n:mg "NotNow"=some (.ref cN)
  a:mg "BadName"=some (.ref cA)
  l:mg "BadLine"=some (.ref cL)
  w:mg "BadWish"=some (.ref cW)
  o:mg "NoRow"=some (.ref cO)
  v:mg "ValueError"=none
section
variable {K:PySem.W.Frag} {h:Heap} {mg:Str→Option Value}
theorem bears_mk {C R:Addr} {x qual f:Str} {st:Stmt} {g:Addr} {oc:Value} {od an:Option Addr} {osl:Array (Option Value)} {kV doc pm cdv ct:Value} (X:K.In h) (G:h.Ns mainGlobals mg) (a:nsIn K mainGlobals x=some (some (.ref C))) (b:xclsB K C R=true)
    (n:findIn K (.ref C) f=some none) (sa:findIn K (.ref C) "__setattr__"=some (some (.builtin "object.__setattr__"))) (ai:findIn K (.ref C) "__init__"=some (some (.ref g))) (fi:isFn K (.ref g)=true)
    (l:K.lookup g=some ⟨oc,od,.func (PySem.W.fnOf "__init__" qual (defArgs st) (defBody st) (defScope st) .none kV doc pm an cdv ct),osl⟩) (c:codeIn K cdv qual=true) (kg:keepIn K (.ref g)=true) :
    XCls K mg x C R∧XGt K C f∧XSt K C f∧DefE K C qual st:=by
  have Z:=xcls_mk X G a b
  exact ⟨Z,⟨Z.xc,n⟩,⟨Z.kin,sa,n,Z.xc.hd⟩,defE_mk Z.kin Z.kp ai fi l c kg⟩
end
end L2
namespace L2
open PySem PySem.Spec PyProof.Rows
section
variable {X:Cx} {n:Nat} {e:Expr} {rest:List Expr} {te:TE} {t:TJ} {pos:Pos}
def tJs (te:TE) (t:TJ):TJ:=fun σ H Q=>te σ H fun v H1=>∃ x:Str,v=.str x∧x.length≤1000∧t σ H1 Q
theorem pj_txt {p2:Pos} (he:PE X e te) (h:PJ X (n+2000) rest t) (hn:n+2000≤1000000:=by decide):PJ X n (.FormattedValue e (-1) none p2::rest) (tJs te t):=by
  intro pins s σ H acc Q ha I hq
  show wpAny _ _ (eval (.FormattedValue e (-1) none p2) X.env) _ _ s
  refine wpAny_FormattedValue_plain (thn (he pins s σ H _ I hq) fun u s1 ⟨v,H1,I1,r,x,ev,hx,q⟩=>?_)
  subst ev
  obtain ⟨t',rfl⟩:=r
  have hl2:(acc++x).length≤n+2000:=by rw [strLen_append]; omega
  exact formatField_str (fun t2 tk=>⟨_,_,rfl,by rw [sizeLine_eq]; omega,h pins _ σ H1 _ Q hl2 (I1.tok _) q⟩) (by rw [sizeLine_eq]; omega)
end
end L2
namespace L2
open PySem PySem.Spec PyProof.Rows
abbrev TJX:=St→Hp→Str→(Str→Hp→Prop)→Prop
def PJX (X:Cx) (n:Nat) (vs:List Expr) (t:TJX):Prop:=∀ (pins:List (Addr × Obj)) (s:Shared) (σ:St) (H:Hp) (acc:Str) (Q:Str→Hp→Prop),acc.length≤n→Inv X pins σ H s→t σ H acc Q →
  Joins (model X.prog X.w) X.A X.xe (evalEach vs X.env) acc (fun out s1=>out.length≤sizeLine∧∃ H',Inv X pins σ H' s1∧Q out H') s
section
variable {X:Cx} {n:Nat} {e:Expr} {rest:List Expr} {te:TE} {t:TJX} {pos:Pos}
def tXn:TJX:=fun _ H acc Q=>Q acc H
theorem pjx_nil (hn:n≤1000000:=by decide):PJX X n [] tXn:=fun pins s σ H acc Q ha I h=>⟨by rw [sizeLine_eq]; omega,H,I,h⟩
def tXs (x:Str) (t:TJX):TJX:=fun σ H acc Q=>t σ H (acc++x) Q
theorem pjx_str {x:Str} {j:Nat} (m:Nat) (hm:x.length=m) (h:PJX X (n+m) rest t) (hn:n+m≤1000000:=by decide):PJX X n (.Constant (.str x) j pos::rest) (tXs x t):=by
  intro pins s σ H acc Q ha I hq
  have hl:(acc++x).length≤n+m:=by rw [strLen_append]; omega
  change wpAny _ _ (eval (.Constant (.str x) j pos) X.env) _ _ s
  refine wpAny_mono (pe_str pins s σ H (fun v H'=>v=.str x∧H'=H) I ⟨rfl,rfl⟩) (fun u s1 ⟨v,H',I',r,ev,eH⟩=>?_) fun _ _ z=>z
  subst ev
  subst eH
  obtain ⟨t',rfl⟩:=r
  exact ⟨x,t',rfl,by rw [sizeLine_eq]; omega,h pins s1 σ H' (acc++x) Q hl I' hq⟩
def tXe (te:TE) (t:TJX):TJX:=fun σ H acc Q=>te σ H fun v H1=>(∃ i:Int,v=.int i∧i.natAbs.log2<1920∧t σ H1 (acc++Str.ofString (toString i)) Q)∨∃ z:Str,v=.str z∧z.length≤1000∧t σ H1 (acc++z) Q
theorem pjx_e {p2:Pos} (he:PE X e te) (h:PJX X (n+2000) rest t) (hn:n+2000≤1000000:=by decide):PJX X n (.FormattedValue e (-1) none p2::rest) (tXe te t):=by
  intro pins s σ H acc Q ha I hq
  change wpAny _ _ (eval (.FormattedValue e (-1) none p2) X.env) _ _ s
  refine wpAny_FormattedValue_plain (thn (he pins s σ H _ I hq) fun u s1 ⟨v,H1,I1,r,q⟩=>?_)
  rcases q with ⟨i,ev,hi,q⟩|⟨x,ev,hx,q⟩
  · subst ev
    obtain ⟨t',rfl⟩:=r
    have hl:(Str.ofString (toString i)).length≤1921:=by
      have:=int_text_length_le (a:=i) (k:=1920) (by decide) hi
      rw [PySem.ofString_length]
      omega
    have hl2:(acc++Str.ofString (toString i)).length≤n+2000:=by rw [strLen_append]; omega
    exact formatField_int_small hi ⟨_,_,rfl,by rw [sizeLine_eq]; omega,h pins _ σ H1 _ Q hl2 (I1.tok _) q⟩
  · subst ev
    obtain ⟨t',rfl⟩:=r
    have hl2:(acc++x).length≤n+2000:=by rw [strLen_append]; omega
    exact formatField_str (fun t2 tk=>⟨_,_,rfl,by rw [sizeLine_eq]; omega,h pins _ σ H1 _ Q hl2 (I1.tok _) q⟩) (by rw [sizeLine_eq]; omega)
def tFsX (t:TJX):TE:=fun σ H Q=>t σ H Str.empty fun x H'=>Q (.str x) H'
theorem pe_fstrX {v1 v2:Expr} (h:PJX X 0 (v1::v2::rest) t):PE X (.JoinedStr (v1::v2::rest) pos) (tFsX t):=by
  intro pins s σ H Q I hq
  refine wpAny_JoinedStr ?_
  have:=h pins s σ H Str.empty (fun x H'=>Q (.str x) H') (by decide) I hq
  have mono:∀ (l:List (Sem Value)) (acc:Str) (A B:Str→Shared→Prop) (s:Shared),(∀ o s,A o s→B o s)→Joins (model X.prog X.w) X.A X.xe l acc A s→Joins (model X.prog X.w) X.A X.xe l acc B s:=by
    intro l
    induction l with
    | nil=>intro acc A B s hab h; exact hab _ _ h
    | cons x r ih=>
      intro acc A B s hab h
      exact wpAny_mono h (fun v s1 ⟨y,t,e1,e2,e3⟩=>⟨y,t,e1,e2,ih _ _ _ _ hab e3⟩) fun _ _ z=>z
  exact mono _ _ _ _ _ (fun o s1 ⟨hz,H',I',q⟩=>⟨hz,.str o,H',I'.tok _,⟨_,rfl⟩,q⟩) this
end
section
variable {X:Cx}
def rStrV:List V→Hp→VK→Prop:=fun xs H Q=>(∃ i:Int,xs=[.int i]∧i.natAbs.log2<1920∧Q (.str (toString i)) H)∨(∃ z:Str,xs=[.str z]∧Q (.str z) H)∨(xs=[.non]∧Q (.str (Str.ofString "None")) H)
theorem call_strV:CallR X (.type "str") rStrV:=by
  intro pins s σ H xs us Q I r h
  rcases h with h|⟨z,rfl,q⟩|⟨rfl,q⟩
  · exact call_str_int pins s σ H xs us Q I r h
  · obtain ⟨u,rfl,t,rfl⟩:=vals1 r
    exact PySem.P.str_of_str ⟨.str z,H,I,⟨t,rfl⟩,q⟩
  · obtain ⟨u,rfl,rx⟩:=vals1 r
    cases rx
    exact PySem.P.str_of_none ⟨.str _,H,I.tok _,⟨_,rfl⟩,q⟩
end
end L2
namespace L2
open PySem PySem.Spec PyProof.Rows
def spl (c:Nat):Nat→List Nat→List (List Nat)
  | 0,l=>[l]
  | n+1,l=>if c∈l then l.takeWhile (· != c)::spl c n (l.drop ((l.takeWhile (· != c)).length+1)) else [l]
def idxs (c:Nat):Nat→List Nat→List Nat
  | _,[]=>[]
  | k,x::r=>if x=c then k::idxs c (k+1) r else idxs c (k+1) r
theorem idxs_cons {c k x:Nat} {r:List Nat}:idxs c k (x::r)=if x=c then k::idxs c (k+1) r else idxs c (k+1) r:=rfl
theorem idxs_none {c:Nat}:∀ {l:List Nat} (k:Nat),c ∉ l→idxs c k l=[]
  | [],_,_=>rfl
  | x::r,k,h=>by
    rw [List.mem_cons,not_or] at h
    rw [idxs_cons,if_neg (Ne.symm h.1),idxs_none (k+1) h.2]
theorem idxs_some {c:Nat}:∀ {l:List Nat} (k:Nat),c∈l→idxs c k l=(k+(l.takeWhile (· != c)).length)::idxs c (k+(l.takeWhile (· != c)).length+1) (l.drop ((l.takeWhile (· != c)).length+1))
  | x::r,k,h=>by
    rw [idxs_cons]
    by_cases e:x=c
    · subst e
      rw [if_pos rfl,List.takeWhile_cons_of_neg (by simp)]
      rfl
    · rw [if_neg e]
      have hr:c∈r:=by
        rcases List.mem_cons.mp h with z|z
        · exact absurd z.symm e
        · exact z
      rw [List.takeWhile_cons_of_pos (by simpa using e),idxs_some (k+1) hr]
      simp only [lZ1,List.drop_succ_cons]
      rw [show k+1+(r.takeWhile (· != c)).length=k+((r.takeWhile (· != c)).length+1) by omega]
theorem idxs_app {c:Nat}:∀ (l m:List Nat) (k:Nat),idxs c k (l++m)=idxs c k l++idxs c (k+l.length) m
  | [],m,k=>rfl
  | x::r,m,k=>by
    rw [List.cons_append,idxs_cons,idxs_cons,idxs_app r m (k+1),lZ1,show k+1+r.length=k+(r.length+1) by omega]
    split <;> rfl
def partsFrom (l:List Nat):Nat→List Nat→List (List Nat)
  | k,[]=>[l.drop k]
  | k,i::r=>(l.take i).drop k::partsFrom l (i+1) r
theorem partsFrom_cons {l r:List Nat} {k i:Nat}:partsFrom l k (i::r)=(l.take i).drop k::partsFrom l (i+1) r:=rfl
theorem parts_spl {c:Nat} {l:List Nat}:∀ (n k:Nat),partsFrom l k ((idxs c k (l.drop k)).take n)=spl c n (l.drop k)
  | 0,k=>by rw [List.take_zero]; rfl
  | n+1,k=>by
    unfold spl
    by_cases h:c∈l.drop k
    · rw [if_pos h,idxs_some k h,List.take_succ_cons]
      unfold partsFrom
      generalize hp:((l.drop k).takeWhile (· != c)).length=p
      rw [List.drop_drop,show k+(p+1)=k+p+1 by omega,parts_spl n (k+p+1)]
      congr 1
      rw [List.drop_take,show k+p - k=p by omega,← hp]
      exact (List.prefix_iff_eq_take.mp (List.takeWhile_prefix _)).symm
    · rw [if_neg h,idxs_none k h]
      rfl
theorem occ_one {c lim:Nat} {l:List Nat}:Builtin.Str.occurrences ⟨l.toArray⟩ ⟨#[c]⟩ 0 l.length lim=(idxs c 0 l).take lim:=by
  rw [StrLaws.occ_eq]
  have key:∀ (n j:Nat) (st:Array Nat × Nat),j+n=l.length+1→st.1.toList=(idxs c 0 (l.take j)).take lim→st.2≤j→(forIn (List.range' j n) st (StrLaws.occBody ⟨l.toArray⟩ ⟨#[c]⟩ l.length lim)).run.fst.toList=(idxs c 0 l).take lim:=by
    intro n
    induction n with
    | zero=>
      intro j st hj hs _
      change st.1.toList=_
      have e:l.take j=l:=List.take_of_length_le (by omega)
      rw [hs,e]
    | succ n ih=>
      intro j st hj hs hf
      rw [List.range'_succ,List.forIn_cons]
      have hsub:=StrLaws.subAt_one ⟨l.toArray⟩ c j
      have hlen:(⟨l.toArray⟩:Str).length=l.length:=by change l.toArray.size=_; simp
      rw [hlen] at hsub
      have hl1:(⟨#[c]⟩:Str).length=1:=rfl
      unfold StrLaws.occBody
      split
      · rename_i hc
        refine ih (j+1) _ (by omega) ?_ (Nat.le_refl _)
        have hx:l[j]?=some c:=by have:=hsub.mp ⟨hc.1.2,hc.2⟩; simpa using this
        change (st.1.push j).toList=_
        rw [Array.toList_push,hs,List.take_add_one,hx,Option.toList_some,idxs_app,Nat.zero_add]
        have hsz:((idxs c 0 (l.take j)).take lim).length<lim:=by rw [← hs,Array.length_toList]; exact hc.1.1.1
        rw [List.length_take] at hsz
        have hll:(l.take j).length=j:=by rw [List.length_take]; have:=(List.getElem?_eq_some_iff.mp hx).1; omega
        have e0:(idxs c 0 (l.take j)).take lim=idxs c 0 (l.take j):=List.take_of_length_le (by omega)
        have e1:idxs c j [c]=[j]:=by rw [idxs_cons,if_pos rfl]; rfl
        rw [hll,e0,e1]
        have e2:(idxs c 0 (l.take j)++[j]).take lim=idxs c 0 (l.take j)++[j]:=List.take_of_length_le (by rw [List.length_append,List.length_singleton]; omega)
        rw [e2]
      · rename_i hc
        refine ih (j+1) _ (by omega) ?_ (by change st.2≤j+1; omega)
        change st.1.toList=_
        rw [hs,List.take_add_one]
        cases hx:l[j]? with
        | none=>rw [Option.toList_none,aZ0]
        | some x=>
          have hll:(l.take j).length=j:=by rw [List.length_take]; have:=(List.getElem?_eq_some_iff.mp hx).1; omega
          rw [Option.toList_some,idxs_app,Nat.zero_add,hll]
          by_cases e:x=c
          · subst e
            have h2:=hsub.mpr (by simpa using hx)
            have:lim≤((idxs x 0 (l.take j)).take lim).length:=by
              rw [← hs,Array.length_toList]
              rcases Nat.lt_or_ge st.1.size lim with z|z
              · exact absurd ⟨⟨⟨z,hf⟩,h2.1⟩,h2.2⟩ hc
              · exact z
            rw [List.length_take] at this
            rw [List.take_append_of_le_length (by omega)]
          · have e1:idxs c j [x]=[]:=by rw [idxs_cons,if_neg e]; rfl
            rw [e1,aZ0]
  have:=key (l.length+1 - 0) 0 (#[],0) (by omega) (by simp [idxs]) (Nat.le_refl _)
  exact this
def Sg (l:List Nat):Str:=⟨l.toArray⟩
theorem Sg_len {l:List Nat}:(Sg l).length=l.length:=by change l.toArray.size=_; simp
theorem Sg_sub {l:List Nat} {i j:Nat}:Builtin.Str.strSub (Sg l) i j=Sg ((l.take j).drop i):=by
  unfold Builtin.Str.strSub Sg
  congr 1
  apply Array.toList_inj.mp
  rw [Array.toList_extract,List.extract_eq_drop_take,List.drop_take]
theorem parts_S {l:List Nat}:∀ (cuts:List Nat) (k:Nat),((k::cuts.map (·+1)).zip (cuts++[l.length])).map (fun q=>Builtin.Str.strSub (Sg l) q.1 q.2)=(partsFrom l k cuts).map Sg
  | [],k=>by
    change [Builtin.Str.strSub (Sg l) k l.length]=[Sg (l.drop k)]
    rw [Sg_sub,List.take_length]
  | i::r,k=>by
    rw [mZ1,List.cons_append,List.zip_cons_cons,mZ1,parts_S r (i+1),partsFrom_cons,mZ1]
    dsimp only
    rw [Sg_sub]
theorem between_S {c n:Nat} {l:List Nat}:Builtin.Str.partsBetween (Sg l) (Builtin.Str.occurrences (Sg l) (Sg [c]) 0 (Sg l).length n) (Sg [c]).length=(spl c n l).map Sg:=by
  have e:Builtin.Str.occurrences (Sg l) (Sg [c]) 0 (Sg l).length n=(idxs c 0 l).take n:=by rw [Sg_len]; exact occ_one
  rw [e]
  have:=parts_S (l:=l) ((idxs c 0 l).take n) 0
  have h2:=parts_spl (c:=c) (l:=l) n 0
  rw [List.drop_zero] at h2
  rw [h2] at this
  unfold Builtin.Str.partsBetween
  rw [Sg_len,Sg_len]
  exact this
theorem spl_none {c:Nat} {l:List Nat} (h:c ∉ l):∀ n,spl c n l=[l]
  | 0=>rfl
  | n+1=>by unfold spl; rw [if_neg h]
theorem kind_S {c:Nat} {l:List Nat} (hc:c<256):decide (Builtin.Str.strKind (Sg l)<Builtin.Str.strKind (Sg [c]))=false:=by
  have e:Builtin.Str.strKind (Sg [c])=1:=by
    unfold Builtin.Str.strKind Sg
    rw [if_pos (by simp; exact hc)]
  rw [e]
  refine decide_eq_false ?_
  unfold Builtin.Str.strKind
  split
  · omega
  · split <;> omega
theorem max_S {c:Nat} {l:List Nat} (hc:c<256) (n:Nat):(if (decide ((Sg l).length<(Sg [c]).length) || decide (Builtin.Str.strKind (Sg l)<Builtin.Str.strKind (Sg [c])))=true then [Sg l] else if (Builtin.Str.occurrences (Sg l) (Sg [c]) 0 (Sg l).length n).isEmpty=true then [Sg l] else Builtin.Str.partsBetween (Sg l) (Builtin.Str.occurrences (Sg l) (Sg [c]) 0 (Sg l).length n) (Sg [c]).length)=(spl c n l).map Sg:=by
  rw [kind_S hc,Bool.or_false]
  split
  · rename_i h
    rw [Sg_len,Sg_len] at h
    have hl:l=[]:=by
      have:=of_decide_eq_true h
      exact List.length_eq_zero_iff.mp (by simp at this; simpa using this)
    subst hl
    rw [spl_none (by simp)]
    rfl
  · split
    · rename_i h
      have e:Builtin.Str.occurrences (Sg l) (Sg [c]) 0 (Sg l).length n=(idxs c 0 l).take n:=by rw [Sg_len]; exact occ_one
      rw [e] at h
      by_cases hm:c∈l
      · cases n with
        | zero=>rfl
        | succ n=>
          rw [idxs_some 0 hm] at h
          simp at h
      · rw [spl_none hm]
        rfl
    · exact between_S
theorem tw_all {p:Nat→Bool}:∀ {l:List Nat},(∀ x∈l,p x=true)→l.takeWhile p=l
  | [],_=>rfl
  | x::r,h=>by rw [List.takeWhile_cons_of_pos (h x (.head _)),tw_all fun y hy=>h y (.tail _ hy)]
theorem part_S {c:Nat} {l:List Nat}:(Txt.partition (Sg l) (Sg [c])).1=Sg (l.takeWhile (· != c)):=by
  unfold Txt.partition
  have e:Builtin.Str.occurrences (Sg l) (Sg [c]) 0 (Sg l).length 1=(idxs c 0 l).take 1:=by rw [Sg_len]; exact occ_one
  rw [e]
  by_cases hm:c∈l
  · rw [idxs_some 0 hm]
    change Builtin.Str.strSub (Sg l) 0 _=_
    rw [Sg_sub,Nat.zero_add,List.drop_zero]
    congr 1
    exact (List.prefix_iff_eq_take.mp (List.takeWhile_prefix _)).symm
  · rw [idxs_none 0 hm]
    change Sg l=_
    congr 1
    exact (tw_all fun x hx=>by simp; exact fun z=>hm (z ▸ hx)).symm
theorem spl_join {c:Nat}:∀ {ws:List (List Nat)} {w:List Nat} {n:Nat},ws.length≤n→(∀ x∈w::ws,c ∉ x)→spl c n (w++ws.flatMap fun q=>c::q)=w::ws
  | [],w,n,_,h=>by rw [List.flatMap_nil,aZ0]; exact spl_none (h w (.head _)) n
  | x::ws,w,0,hn,h=>by simp at hn
  | x::ws,w,n+1,hn,h=>by
    have hw:c ∉ w:=h w (.head _)
    have tw:(w++(x::ws).flatMap fun q=>c::q).takeWhile (· != c)=w:=by
      rw [List.flatMap_cons,List.cons_append,List.takeWhile_append_of_pos (fun y hy=>by simp; exact fun z=>hw (z ▸ hy)),List.takeWhile_cons_of_neg (by simp),aZ0]
    unfold spl
    rw [if_pos (by rw [List.flatMap_cons]; simp),tw]
    congr 1
    have:(w++(x::ws).flatMap fun q=>c::q).drop (w.length+1)=x++ws.flatMap fun q=>c::q:=by
      rw [List.flatMap_cons,← List.drop_drop,List.drop_left]
      rfl
    rw [this]
    exact spl_join (by simp at hn; omega) fun y hy=>h y (.tail _ hy)
theorem spl_rest {c:Nat}:∀ {ws:List (List Nat)} {r:List Nat},(∀ x∈ws,c ∉ x)→spl c ws.length ((ws.flatMap fun q=>q++[c])++r)=ws++[r]
  | [],r,_=>rfl
  | x::ws,r,h=>by
    have hx:c ∉ x:=h x (.head _)
    rw [List.flatMap_cons,lZ1]
    have e:x++[c]++(ws.flatMap fun q=>q++[c])++r=x++c::((ws.flatMap fun q=>q++[c])++r):=by simp
    rw [e]
    have tw:(x++c::((ws.flatMap fun q=>q++[c])++r)).takeWhile (· != c)=x:=by
      rw [List.takeWhile_append_of_pos (fun y hy=>by simp; exact fun z=>hx (z ▸ hy)),List.takeWhile_cons_of_neg (by simp),aZ0]
    unfold spl
    rw [if_pos (by simp),tw,← List.drop_drop,List.drop_left]
    change x::spl c ws.length ((ws.flatMap fun q=>q++[c])++r)=_
    rw [spl_rest fun y hy=>h y (.tail _ hy)]
    rfl
end L2
namespace L2
open PySem PySem.Spec PyProof.Rows
theorem vals_from:∀ (zs:List Str) (tk:Nat),Vals (zs.map V.str) (strsFrom tk zs)
  | [],_=>.nil
  | z::zs,tk=>.cons ⟨_,rfl⟩ (vals_from zs (tk+1))
section
variable {X:Cx} {o e f:Expr} {td ty tx:TE} {apos cpos:Pos}
def wV (ws:List (List Nat)):List V:=ws.map fun w=>V.str (Sg w)
def tSplS (td ty:TE):TE:=fun σ H Q=>td σ H fun x H1=>∃ l,x=.str (Sg l)∧ty σ H1 fun y H2=>∃ c,y=.str (Sg [c])∧c<256∧l.length≤100000∧∀ p,H2 p=none→Q (.ref p) (upd H2 p (.lst (wV (spl c (l.length+1) l))))
def tSplM (td ty tx:TE):TE:=fun σ H Q=>td σ H fun x H1=>∃ l,x=.str (Sg l)∧ty σ H1 fun y H2=>tx σ H2 fun z H3=>∃ c n,y=.str (Sg [c])∧z=.int ((n:Nat):Int)∧n≤1000∧c<256∧l.length≤100000∧∀ p,H3 p=none→Q (.ref p) (upd H3 p (.lst (wV (spl c n l))))
theorem spl_len {c:Nat}:∀ (n:Nat) (l:List Nat),(spl c n l).length≤n+1
  | 0,_=>Nat.le_refl _
  | n+1,l=>by
    unfold spl
    split
    · rw [lZ1]
      exact Nat.succ_le_succ (spl_len n _)
    · simp
theorem fin_list {pins:List (Addr × Obj)} {σ:St} {H:Hp} {s:Shared} {Q:VK} {zs:List Str} {us:List Value} {tk:Nat} (I:Inv X pins σ H s) (hz:zs.length≤sizeLine) (hv:Vals (zs.map V.str) us) (q:∀ p,H p=none→Q (.ref p) (upd H p (.lst (zs.map V.str)))) :
    EP X pins σ Q (.ref s.heap.objs.size) { s with heap:=s.heap.push { cls:=.type "list", data:=.seq us.toArray },toks:=tk }:=
  ⟨.ref s.heap.objs.size,_,I.laid (a:=s.heap.objs.size) (o:=.lst (zs.map V.str)) (t':=tk) (fun _ _ q=>Heap.get?_push_of_some _ q) (Nat.le_refl _) ⟨by rw [List.length_map]; exact hz,us,0,hv,Heap.get?_push_size _ rfl⟩,rfl,q _ (I.hok.fresh (Nat.le_refl _))⟩
theorem pe_splS (ho:PE X o td) (he:PE X e ty) (m:M1 X o "split" apos e cpos):PE X (.Call (.Attribute o "split" apos) [e] [] cpos) (tSplS td ty):=by
  intro pins s σ H Q I h
  refine wpAny_Call_method m.base m.few m.line PySem.F.plainAttrs_str PySem.F.slot_str_split PySem.F.type_str_split (thn (ho pins s σ H _ I h) fun u s1 ⟨x,H1,I1,rx,l,ex,q1⟩=>?_)
  subst ex
  obtain ⟨t,rfl⟩:=rx
  refine ⟨typeIs_str _ _ _,(fun _ e=>nomatch e),?_⟩
  rw [m.trees]
  refine Calls.callWith_builtin rfl (Calls.evalArgs_plain (Calls.spliced_cons (thn (he pins s1 σ H1 _ I1 q1) fun iv s2 ⟨y,H2,I2,ry,c,ey,hc,hl,q2⟩=>Calls.spliced_nil ?_)))
  subst ey
  obtain ⟨t2,rfl⟩:=ry
  have hsl:=spl_len (c:=c) (l.length+1) l
  have hxl:(Sg l).length≤sizeLine:=by rw [Sg_len,sizeLine_eq]; omega
  have hz:(spl c (l.length+1) l).map (fun w=>V.str (Sg w))=((spl c (l.length+1) l).map Sg).map V.str:=by rw [List.map_map]; rfl
  unfold wV at q2
  rw [hz] at q2
  have hM:=max_S (l:=l) hc ((Sg l).length+1)
  have hK:=kind_S (l:=l) hc
  have hln:(Sg l).length+1=l.length+1:=by rw [Sg_len]
  by_cases h1:(decide ((Sg l).length<(Sg [c]).length) || decide (Builtin.Str.strKind (Sg l)<Builtin.Str.strKind (Sg [c])))=true
  · rw [if_pos h1] at hM
    rw [hln] at hM
    refine call_meets PySem.F.slot_str_split (typeIs_str _ _ _) PySem.F.entry_str_split (PySem.F.args_str_split_2 _ _) (meets_str_split_cannot_occur (Sg l) (Sg [c]) t t2 h1) ?_
    rw [← hM] at q2
    exact fin_list (zs:=[Sg l]) (tk:=s2.toks) I2 (by simp [sizeLine_eq]) (.cons ⟨t,rfl⟩ .nil) q2
  · have h1':=Bool.eq_false_iff.mpr h1
    rw [if_neg h1] at hM
    have hy:((Sg [c]).length == 0)=false:=by rw [Sg_len]; rfl
    by_cases h2:(Builtin.Str.occurrences (Sg l) (Sg [c]) 0 (Sg l).length ((Sg l).length+1)).isEmpty=true
    · rw [if_pos h2,hln] at hM
      refine call_meets PySem.F.slot_str_split (typeIs_str _ _ _) PySem.F.entry_str_split (PySem.F.args_str_split_2 _ _) (meets_str_split_not_found (Sg l) (Sg [c]) t t2 h1' hy h2) ?_
      rw [← hM] at q2
      exact fin_list (zs:=[Sg l]) (tk:=s2.toks) I2 (by simp [sizeLine_eq]) (.cons ⟨t,rfl⟩ .nil) q2
    · rw [if_neg h2] at hM
      have hP:=hM
      rw [hln] at hM
      refine call_meets PySem.F.slot_str_split (typeIs_str _ _ _) PySem.F.entry_str_split (PySem.F.args_str_split_2 _ _) (meets_str_split_sep (Sg l) (Sg [c]) t t2 h1' hy (Bool.eq_false_iff.mpr h2) hxl (by rw [hP,List.length_map,hln,sizeLine_eq]; omega)) ?_
      rw [hP,hln]
      exact fin_list (tk:=_) I2 (by rw [List.length_map,sizeLine_eq]; omega) (vals_from _ _) q2
theorem pe_splM (ho:PE X o td) (he:PE X e ty) (hf:PE X f tx) (m:M2 X o "split" apos e f cpos):PE X (.Call (.Attribute o "split" apos) [e,f] [] cpos) (tSplM td ty tx):=by
  intro pins s σ H Q I h
  refine wpAny_Call_method m.base m.few m.line PySem.F.plainAttrs_str PySem.F.slot_str_split PySem.F.type_str_split (thn (ho pins s σ H _ I h) fun u s1 ⟨x,H1,I1,rx,l,ex,q1⟩=>?_)
  subst ex
  obtain ⟨t,rfl⟩:=rx
  refine ⟨typeIs_str _ _ _,(fun _ e=>nomatch e),?_⟩
  rw [m.trees]
  refine Calls.callWith_builtin rfl (Calls.evalArgs_plain (Calls.spliced_cons (thn (he pins s1 σ H1 _ I1 q1) fun iv s2 ⟨y,H2,I2,ry,q2⟩=>Calls.spliced_cons (thn (hf pins s2 σ H2 _ I2 q2) fun jv s3 ⟨z,H3,I3,rz,c,n,ey,ez,hn,hc,hl,q3⟩=>Calls.spliced_nil ?_))))
  subst ey ez
  obtain ⟨t2,rfl⟩:=ry
  obtain ⟨t3,rfl⟩:=rz
  have hsl:=spl_len (c:=c) n l
  have hxl:(Sg l).length≤sizeLine:=by rw [Sg_len,sizeLine_eq]; omega
  have hz:(spl c n l).map (fun w=>V.str (Sg w))=((spl c n l).map Sg).map V.str:=by rw [List.map_map]; rfl
  unfold wV at q3
  rw [hz] at q3
  have hM:=max_S (l:=l) hc n
  have hkk:(decide (((n:Nat):Int) < -(2 ^ 63:Int)) || decide (((n:Nat):Int) ≥ 2 ^ 63))=false:=by
    rw [decide_eq_false (by omega),decide_eq_false (by omega)]; rfl
  have hlim:limitOf (Sg l) ((n:Nat):Int)=n:=by unfold limitOf; rw [if_neg (by omega),Int.toNat_natCast]
  by_cases h1:(decide ((Sg l).length<(Sg [c]).length) || decide (Builtin.Str.strKind (Sg l)<Builtin.Str.strKind (Sg [c])))=true
  · rw [if_pos h1] at hM
    refine call_meets PySem.F.slot_str_split (typeIs_str _ _ _) PySem.F.entry_str_split (PySem.F.args_str_split_3 _ _ _) (meets_str_split_max_cannot_occur (Sg l) (Sg [c]) _ t t2 t3 hkk h1) ?_
    rw [← hM] at q3
    exact fin_list (zs:=[Sg l]) (tk:=s3.toks) I3 (by simp [sizeLine_eq]) (.cons ⟨t,rfl⟩ .nil) q3
  · have h1':=Bool.eq_false_iff.mpr h1
    rw [if_neg h1] at hM
    have hy:((Sg [c]).length == 0)=false:=by rw [Sg_len]; rfl
    by_cases h2:(Builtin.Str.occurrences (Sg l) (Sg [c]) 0 (Sg l).length n).isEmpty=true
    · rw [if_pos h2] at hM
      refine call_meets PySem.F.slot_str_split (typeIs_str _ _ _) PySem.F.entry_str_split (PySem.F.args_str_split_3 _ _ _) (meets_str_split_max_not_found (Sg l) (Sg [c]) _ t t2 t3 hkk h1' hy (by rw [hlim]; exact h2)) ?_
      rw [← hM] at q3
      exact fin_list (zs:=[Sg l]) (tk:=s3.toks) I3 (by simp [sizeLine_eq]) (.cons ⟨t,rfl⟩ .nil) q3
    · rw [if_neg h2] at hM
      refine call_meets PySem.F.slot_str_split (typeIs_str _ _ _) PySem.F.entry_str_split (PySem.F.args_str_split_3 _ _ _) (meets_str_split_sep_max (Sg l) (Sg [c]) _ t t2 t3 hkk h1' hy (by rw [hlim]; exact Bool.eq_false_iff.mpr h2) hxl (by rw [hlim,hM,List.length_map,sizeLine_eq]; omega)) ?_
      rw [hlim,hM]
      exact fin_list (tk:=_) I3 (by rw [List.length_map,sizeLine_eq]; omega) (vals_from _ _) q3
def tPart1 (td ty:TE):TE:=fun σ H Q=>td σ H fun x H1=>∃ l,x=.str (Sg l)∧ty σ H1 fun y H2=>∃ c,y=.str (Sg [c])∧l.length≤100000∧∀ a b p,H2 p=none→Q (.ref p) (upd H2 p (.tup [.str (Sg (l.takeWhile (· != c))),.str a,.str b]))
theorem pe_part1 (ho:PE X o td) (he:PE X e ty) (m:M1 X o "partition" apos e cpos):PE X (.Call (.Attribute o "partition" apos) [e] [] cpos) (tPart1 td ty):=by
  intro pins s σ H Q I h
  refine wpAny_Call_method m.base m.few m.line PySem.F.plainAttrs_str PySem.F.slot_str_partition PySem.F.type_str_partition (thn (ho pins s σ H _ I h) fun u s1 ⟨x,H1,I1,rx,l,ex,q1⟩=>?_)
  subst ex
  obtain ⟨t,rfl⟩:=rx
  refine ⟨typeIs_str _ _ _,(fun _ e=>nomatch e),?_⟩
  rw [m.trees]
  refine Calls.callWith_builtin rfl (Calls.evalArgs_plain (Calls.spliced_cons (thn (he pins s1 σ H1 _ I1 q1) fun iv s2 ⟨y,H2,I2,ry,c,ey,hl,q2⟩=>Calls.spliced_nil ?_)))
  subst ey
  obtain ⟨t2,rfl⟩:=ry
  have hy:((Sg [c]).length == 0)=false:=by rw [Sg_len]; rfl
  refine call_meets PySem.F.slot_str_partition (typeIs_str _ _ _) PySem.F.entry_str_partition (PySem.F.args_str_partition_2 _ _) (meets_str_partition (Sg l) (Sg [c]) t t2 hy (by rw [Sg_len,sizeLine_eq]; omega)) ?_
  have hp:=part_S (c:=c) (l:=l)
  unfold Txt.partition at hp
  revert hp
  cases Builtin.Str.occurrences (Sg l) (Sg [c]) 0 (Sg l).length 1 with
  | nil=>
    intro hp
    replace hp:Sg l=Sg (l.takeWhile (· != c)):=hp
    rw [← hp] at q2
    exact ⟨.ref s2.heap.objs.size,_,I2.laid (a:=s2.heap.objs.size) (o:=.tup [.str (Sg l),.str Str.empty,.str Str.empty]) (t':=s2.toks+1) (fun _ _ q=>Heap.get?_push_of_some _ q) (Nat.le_refl _) ⟨by simp [sizeLine_eq],_,.cons ⟨_,rfl⟩ (.cons ⟨_,rfl⟩ (.cons ⟨_,rfl⟩ .nil)),⟨_,Heap.get?_push_size _ rfl,rfl,0,rfl⟩⟩,rfl,q2 _ _ _ (I2.hok.fresh (Nat.le_refl _))⟩
  | cons i r=>
    intro hp
    replace hp:Builtin.Str.strSub (Sg l) 0 i=Sg (l.takeWhile (· != c)):=hp
    rw [← hp] at q2
    exact ⟨.ref s2.heap.objs.size,_,I2.laid (a:=s2.heap.objs.size) (o:=.tup [.str (Builtin.Str.strSub (Sg l) 0 i),.str (Sg [c]),.str (Builtin.Str.strSub (Sg l) (i+(Sg [c]).length) (Sg l).length)]) (t':=s2.toks+1+1) (fun _ _ q=>Heap.get?_push_of_some _ q) (Nat.le_refl _) ⟨by simp [sizeLine_eq],_,.cons ⟨_,rfl⟩ (.cons ⟨_,rfl⟩ (.cons ⟨_,rfl⟩ .nil)),⟨_,Heap.get?_push_size _ rfl,rfl,0,rfl⟩⟩,rfl,q2 _ _ _ (I2.hok.fresh (Nat.le_refl _))⟩
end
end L2
namespace L2
open PySem PySem.Spec PyProof.Rows
section
variable {prog:Program} {w:World} {A:Around} {E:Value→Shared→Prop} {s:Shared}
theorem wpAny_rangeB {β:Type} {n:Nat} {f:Nat→β→Sem (ForInStep β)} (I:Nat→β→Shared→Prop) {Q:β→Shared→Prop} (step:∀ i c s',i<n→I i c s'→wpAny (model prog w) A (f i c) (fun r t=>match r with | .yield c'=>I (i+1) c' t | .done c'=>Q c' t) E s')
    (fin:∀ c s',I n c s'→Q c s') {c:β} (h:I 0 c s):wpAny (model prog w) A (forIn [0:n] c f) Q E s:=by
  rw [Std.Legacy.Range.forIn_eq_forIn_range']
  have hz:([0:n]:Std.Legacy.Range).size=n:=by simp [Std.Legacy.Range.size]
  change wpAny _ _ (forIn (List.range' 0 ([0:n]:Std.Legacy.Range).size 1) c f) _ _ _
  rw [hz]
  refine wpAny_forIn_list f (fun l c t=>∃ i,i≤n∧l=List.range' i (n - i) 1∧I i c t) Q ?_ ?_ _ c ⟨0,by omega,rfl,h⟩
  · rintro x rest c t ⟨i,hi,hl,hI⟩
    obtain ⟨m,hm⟩:∃ m,n - i=m+1:=by
      rcases Nat.lt_or_ge i n with z|z
      · exact ⟨n - i - 1,by omega⟩
      · rw [show n - i=0 by omega] at hl; cases hl
    rw [hm,List.range'_succ] at hl
    injection hl with h1 h2
    subst h1
    refine wpAny_mono (step x c t (by omega) hI) (fun r t' hr=>?_) fun _ _ z=>z
    cases r with
    | yield c'=>exact ⟨x+1,by omega,by rw [h2]; congr 1; omega,hr⟩
    | done c'=>exact hr
  · rintro c t ⟨i,hi,hl,hI⟩
    have:n - i=0:=by
      have:=congrArg List.length hl
      simpa using this.symm
    have e:i=n:=by omega
    subst e
    exact fin c t hI
theorem wp_tindex {a:Addr} {its:Array Value} {z:Str} {u:Tok} {j:Nat} {R:Value→Shared→Prop} (hT:IsTup s.heap a its) (e:Nat→Bool) (he:∀ i y,its[i]?=some y→∃ x t,y=.str x t∧e i=(x == z)) (hj:j<its.size) (hit:e j=true) (hno:∀ i,i<j→e i=false)
    (h:R (.int j s.toks) { s with toks:=s.toks+1 }):wpAny (model prog w) A (Builtin.«tuple.index» ⟨[.ref a,.str z u],[]⟩) (fun fin s'=>∃ v,fin=.done (.ret v)∧R v s') E s:=by
  obtain ⟨o,go,co,n,dn⟩:=hT
  unfold Builtin.«tuple.index»
  wp_walk
  rw [dn]
  refine wpAny_pure (wpAny_pure ?_)
  dsimp only
  refine wpAny_bind (wpAny_pure (wpAny_bind (wpAny_pure (wpAny_bind ?_))))
  rw [Nat.min_self]
  refine wpAny_mono (wpAny_rangeB (fun i (c:Option Fin × Unit) t=>i≤j∧t=s∧c.1=none) (Q:=fun c t=>c.1=some (.done (.ret (.int j s.toks)))∧t={ s with toks:=s.toks+1 }) ?_ ?_ ⟨Nat.zero_le _,rfl,rfl⟩) ?_ fun _ _ z=>z
  · rintro i ⟨c,_⟩ t hi ⟨hij,rfl,hc⟩
    obtain ⟨x,tk,ex,ei⟩:=he i _ (Array.getElem?_eq_getElem hi)
    rw [Array.getElem?_eq_getElem hi]
    dsimp only
    rw [ex]
    refine wpAny_bind ?_
    refine SeqAt.EqAt.str_str x tk z u _ _ _ _ ?_
    rw [← ei]
    rcases Nat.lt_or_eq_of_le hij with hl|rfl
    · rw [hno i hl,if_neg Bool.false_ne_true]
      exact wpAny_pure ⟨hl,rfl,rfl⟩
    · rw [hit,if_pos rfl]
      refine wpAny_bind ?_
      wp_walk
      exact ⟨rfl,rfl⟩
  · rintro c t ⟨hc,_,_⟩
    omega
  · rintro ⟨c,_⟩ t ⟨hc,ht⟩
    dsimp only at hc ⊢
    subst hc ht
    exact wpAny_pure ⟨_,rfl,h⟩
end
section
variable {X:Cx} {o e i c:Expr} {td ty tf:TE} {t:TA} {apos cpos pos p:Pos}
def rInS:R2:=fun x y H Q=>∃ (l:List Nat) (c:Nat),x=.str (Sg [c])∧y=.str (Sg l)∧Q (.bl (decide (c∈l))) H
theorem mem_idxs {c:Nat} {l:List Nat}:(!((idxs c 0 l).take 1).isEmpty)=decide (c∈l):=by
  by_cases h:c∈l
  · rw [idxs_some 0 h,decide_eq_true h]; rfl
  · rw [idxs_none 0 h,decide_eq_false h]; rfl
theorem op_inS:OpR X (compareOp .In) rInS:=by
  intro pins s σ H x y v u Q I rx ry h
  obtain ⟨l,c,rfl,rfl,q⟩:=h
  obtain ⟨t,rfl⟩:=rx
  obtain ⟨t',rfl⟩:=ry
  refine PySem.P.in_str ?_
  have e:Builtin.Str.occurrences (Sg l) (Sg [c]) 0 (Sg l).length 1=(idxs c 0 l).take 1:=by rw [Sg_len]; exact occ_one
  rw [e,mem_idxs]
  exact ⟨.bl _,H,I,rfl,q⟩
def rIntS:List V→Hp→VK→Prop:=fun xs H Q=>∃ n:Int,xs=[.str (Str.ofString (toString n))]∧0≤n∧n<10 ^ 10∧Q (.int n) H
theorem call_intS:CallR X (.type "int") rIntS:=by
  intro pins s σ H xs us Q I r h
  obtain ⟨n,rfl,h0,h1,q⟩:=h
  cases r with
  | cons r1 r2=>
    cases r2
    obtain ⟨t,rfl⟩:=r1
    exact PySem.W.KIN.call_num h0 h1 ⟨.int n,H,I.tok _,⟨_,rfl⟩,q⟩
def KTs (K:PySem.W.Frag) (a:Addr) (zs:List Str):Prop:=∃ (ob:Obj) (its:Array Value) (n:Nat),K.lookup a=some ob∧ob.cls=.type "tuple"∧ob.dict=none∧ob.data=.seq its n∧its.size≤sizeLine∧Vals (zs.map V.str) its.toList
theorem KTs.sq {K:PySem.W.Frag} {H:Hp} {a:Addr} {zs:List Str} (h:KTs K a zs):SqT K H a (zs.map V.str):=let ⟨ob,its,n,h1,h2,_,h3,h4,h5⟩:=h; .inr ⟨ob,its,n,h1,h2,h3,h4,h5⟩
def tTIx (K:PySem.W.Frag) (td ty:TE):TE:=fun σ H Q=>td σ H fun x H1=>∃ (a:Addr) (zs:List Str),x=.ref a∧KTs K a zs∧ty σ H1 fun y H2=>∃ (z:Str) (j:Nat),y=.str z∧zs[j]?=some z∧(∀ k,k<j→zs[k]?≠some z)∧Q (.int ((j:Nat):Int)) H2
theorem vals_str:∀ {zs:List Str} {its:List Value},Vals (zs.map V.str) its→∀ (i:Nat) (y:Value),its[i]?=some y→∃ x t,y=.str x t∧zs[i]?=some x
  | [],_,.nil,i,y,h=>by simp at h
  | z::zs,_,.cons r rs,0,y,h=>by
    obtain ⟨t,rfl⟩:=r
    rw [gZ0] at h
    cases h
    exact ⟨z,t,rfl,rfl⟩
  | z::zs,_,.cons r rs,i+1,y,h=>by
    rw [gZ1] at h
    obtain ⟨x,t,e1,e2⟩:=vals_str rs i y h
    exact ⟨x,t,e1,by rw [gZ1]; exact e2⟩
theorem isTup_type {s:Shared} {a:Addr} {its:Array Value} (h:IsTup s.heap a its):s.TypeIs (.ref a) "tuple":=let ⟨o,e,cc,_⟩:=h; ⟨o,e,cc⟩
theorem pe_tix {K:PySem.W.Frag} (ho:PE X o td) (he:PE X e ty) (m:M1 X o "index" apos e cpos) (hK:X.K=K:=by rfl):PE X (.Call (.Attribute o "index" apos) [e] [] cpos) (tTIx K td ty):=by
  subst hK
  intro pins s σ H Q I h
  refine wpAny_Call_method m.base m.few m.line PySem.F.plainAttrs_tuple PySem.F.slot_tuple_index PySem.F.type_tuple_index (thn (ho pins s σ H _ I h) fun u s1 ⟨x,H1,I1,rx,a,zs,ex,hS,q1⟩=>?_)
  subst ex
  obtain rfl:u=Value.ref a:=rx
  obtain ⟨ob,its,n,hl,hc,hd,hs,hz,hv⟩:=hS
  refine ⟨⟨ob,I1.kIn _ _ hl,hc⟩,(fun b q=>by cases q; exact ⟨ob,I1.kIn _ _ hl,hd⟩),?_⟩
  rw [m.trees]
  refine Calls.callWith_builtin rfl (Calls.evalArgs_plain (Calls.spliced_cons (thn (he pins s1 σ H1 _ I1 q1) fun iv s2 ⟨y,H2,I2,ry,z,j,ey,hj,hno,q2⟩=>Calls.spliced_nil ?_)))
  subst ey
  obtain ⟨t2,rfl⟩:=ry
  have hT:IsTup s2.heap a its:=⟨ob,I2.kIn _ _ hl,hc,n,hs⟩
  have hlen:zs.length=its.size:=by have:=hv.length; rwa [List.length_map,Array.length_toList] at this
  refine wpAny_call_entry PySem.F.slot_tuple_index (isTup_type hT) PySem.F.entry_tuple_index (wp_tindex hT (fun k=>decide (zs[k]?=some z)) (fun k y' hy=>?_) (by rw [← hlen]; exact (List.getElem?_eq_some_iff.mp hj).1) (decide_eq_true hj) (fun k hk=>decide_eq_false (hno k hk)) ⟨.int j,H2,I2.tok _,⟨_,rfl⟩,q2⟩) (PySem.F.args_tuple_index_2 _ _)
  obtain ⟨x,tt,e1,e2⟩:=vals_str hv k y' (by rw [Array.getElem?_toList]; exact hy)
  refine ⟨x,tt,e1,?_⟩
  rw [e2,Bool.eq_iff_iff,decide_eq_true_eq,beq_iff_eq,oZ0]
def KD (K:PySem.W.Frag) (a:Addr) (D:List (Str × V)):Prop:=(a == sysModules)=false∧∃ ob es ep,K.lookup a=some ob∧ob.ExactDict∧ob.data=.dict es ep∧KTD.Rows (fun d v=>RelV d v) es.toList D
section
variable {pins:List (Addr × Obj)} {σ:St} {H:Hp} {s:Shared} {A:Around} {E:Value→Shared→Prop} {a:Addr} {D:List (Str × V)} {k:Str} {tk:Tok}
theorem KD.type (I:Inv X pins σ H s) (T:KD X.K a D):s.TypeIs (.ref a) "dict":=let ⟨_,ob,_,_,h1,h2,_⟩:=T; ⟨ob,I.kIn _ _ h1,h2.1⟩
theorem kd_get {Q:Option Value→Shared→Prop} (I:Inv X pins σ H s) (T:KD X.K a D) (h1:∀ d v,KTD.datumAt k D=some d→RelV d v→Q (some v) { s with toks:=s.toks+1 }) (h2:KTD.datumAt k D=none→Q none { s with toks:=s.toks+1 }) :
    wpAny (model X.prog X.w) A (dictGet a (.str k tk)) Q E s:=by
  obtain ⟨_,ob,es,ep,hl,_,hd,hr⟩:=T
  have gob:=I.kIn _ _ hl
  have fin:Q (findBy (fun q v=>v.isStr q) es k) { s with toks:=s.toks+1 }:=by
    have e0:findBy (fun q v=>v.isStr q) es k=(es.toList.find? fun en=>en.key.isStr k).map (·.val):=by
      obtain ⟨l⟩:=es
      simp [findBy]
    rw [e0]
    cases z:KTD.datumAt k D with
    | none=>rw [hr.find_none z]; exact h2 z
    | some d=>
      obtain ⟨v,e1,e2⟩:=hr.find_some z
      rw [e1]
      exact h1 d v z e2
  rw [findBy_of_findIdx?] at fin
  unfold dictGet
  refine wpAny_holding ?_
  refine wpAny_bind (wpAny_pyHash_str (wpAny_bind (KTD.kt_dictFind_strs (s:={ s with toks:=s.toks+1 }) gob hd ?_ ?_)))
  · have:=hr.exact
    obtain ⟨l⟩:=es
    simpa using this
  · cases z:es.findIdx? fun en=>en.key.isStr k with
    | none=>rw [z] at fin; exact wpAny_pure fin
    | some n=>rw [z] at fin; exact wpAny_bind (wpAny_dictEntries (s:={ s with toks:=s.toks+1 }) gob hd (wpAny_pure fin))
theorem kd_item {Q:Value→Shared→Prop} {d:V} (I:Inv X pins σ H s) (T:KD X.K a D) (hk:KTD.datumAt k D=some d) (h:∀ v s',Inv X pins σ H s'→RelV d v→Q v s'):wpAny (model X.prog X.w) A (getItem (.ref a) (.str k tk)) Q E s:=by
  unfold getItem
  refine wpAny_holding ?_
  refine wpAny_bind (wpAny_sequenceKey (KD.type I T) (by decide) ?_)
  refine wpAny_bind (wpAny_callSpecial?_slot (name:=Str.ofString "__getitem__") (KD.type I T) PySem.F.slot_dict_getitem (wpAny_call_entry PySem.F.slot_dict_getitem (KD.type I T) PySem.F.entry_dict_getitem ?_ (PySem.F.args_dict_getitem_2 _ _)))
  change wpAny _ _ (dictGet a (.str k tk) >>= _) _ _ _
  refine wpAny_bind (kd_get I T (fun d' v e r=>?_) fun e=>?_)
  · rw [hk] at e
    cases e
    exact wpAny_pure ⟨v,rfl,wpAny_pure (h v _ (I.tok _) r)⟩
  · rw [hk] at e
    cases e
theorem kd_notIn {Q:Value→Shared→Prop} {d:V} (I:Inv X pins σ H s) (T:KD X.K a D) (hk:KTD.datumAt k D=some d) (h:∀ s',Inv X pins σ H s'→Q (.bool false) s'):wpAny (model X.prog X.w) A (compareOp .NotIn (.str k tk) (.ref a)) Q E s:=by
  change wpAny _ _ (contains (.ref a) (.str k tk) >>= fun r=>pure (.bool (!r))) Q E s
  refine wpAny_bind ?_
  unfold contains
  refine wpAny_holding ?_
  refine wpAny_bind (wpAny_specialOf (KD.type I T) PySem.F.slot_dict_contains.lookup ?_)
  change wpAny _ _ (if (some (Value.builtin "dict.__contains__") == some Value.none)=true then _ else _) _ _ _
  rw [if_neg (by rw [beq_builtin_none]; exact Bool.false_ne_true)]
  refine wpAny_bind (wpAny_callSpecialUnlessNone?_slot (name:=Str.ofString "__contains__") (KD.type I T) PySem.F.slot_dict_contains (wpAny_call_entry PySem.F.slot_dict_contains (KD.type I T) PySem.F.entry_dict_contains ?_ (PySem.F.args_dict_contains_2 _ _)))
  change wpAny _ _ (dictGet a (.str k tk) >>= _) _ _ _
  refine wpAny_bind (kd_get I T (fun d' v e r=>?_) fun e=>?_)
  · exact wpAny_pure ⟨_,rfl,wpAny_truthy_bool (wpAny_pure (h _ (I.tok _)))⟩
  · rw [hk] at e
    cases e
end
def tKGet (K:PySem.W.Frag) (td ty:TE):TE:=fun σ H Q=>td σ H fun x H1=>ty σ H1 fun y H2=>∃ a D z d,x=.ref a∧KD K a D∧y=.str z∧KTD.datumAt z D=some d∧Q d H2
theorem pe_kget {K:PySem.W.Frag} (ho:PE X o td) (hi:PE X i ty) (hs:NoSl i) (hK:X.K=K:=by rfl):PE X (.Subscript o i pos) (tKGet K td ty):=by
  subst hK
  intro pins s σ H Q I h
  refine subD_of PySem.F.slot_dict_getitem.lookup hs (thn (ho pins s σ H _ I h) fun u s1 ⟨x,H1,I1,rx,q1⟩=>thn (hi pins s1 σ H1 _ I1 q1) fun iv s2 ⟨y,H2,I2,ry,a,D,z,d,ex,T,ey,hk,q2⟩=>?_)
  subst ex ey
  obtain rfl:u=Value.ref a:=rx
  obtain ⟨t,rfl⟩:=ry
  exact ⟨KD.type I2 T,kd_item I2 T hk fun v s3 I3 r=>⟨d,H2,I3,r,q2⟩⟩
def rKNotIn (K:PySem.W.Frag):R2:=fun x y H Q=>∃ a D z d,y=.ref a∧KD K a D∧x=.str z∧KTD.datumAt z D=some d∧Q (.bl false) H
theorem op_kNotIn {K:PySem.W.Frag} (hK:X.K=K:=by rfl):OpR X (compareOp .NotIn) (rKNotIn K):=by
  subst hK
  intro pins s σ H x y v u Q I rx ry h
  obtain ⟨a,D,z,d,rfl,T,rfl,hk,q⟩:=h
  obtain ⟨t,rfl⟩:=rx
  obtain rfl:u=Value.ref a:=ry
  exact kd_notIn I T hk fun s' I'=>⟨.bl false,H,I',rfl,q⟩
def FnV (P:Program) (w:World) (K:PySem.W.Frag) (mg:Str→Option Value) (base:Heap) (j:Nat) (ps:List Str) (f:Addr) (sp:Sp):Prop:=∃ fd,PySem.W.keepIn K (.ref f)=true∧Binds K fd ps []∧FnOk P w K mg base CX0 j f fd ps sp
def tFnV (P:Program) (w:World) (K:PySem.W.Frag) (mg:Str→Option Value) (base:Heap) (j:Nat) (ps:List Str) (tf:TE) (t:TA):TE:=fun σ H Q=>tf σ H fun v H1=>∃ f sp,v=.ref f∧FnV P w K mg base j ps f sp∧t σ H1 fun vs H2=>sp vs H2 Q E0
theorem pe_fnV {P:Program} {w:World} {K:PySem.W.Frag} {mg:Str→Option Value} {base:Heap} {x:Str} {es:List Expr} {j k:Nat} {ps:List Str} (hf:PE X (.Name x p) tf) (hr:Room k X.A) (ha:PA X (e::es) t) (hk:j≤k:=by decide)
    (h1:X.prog=P:=by rfl) (h2:X.w=w:=by rfl) (h3:X.K=K:=by rfl) (h4:X.mg=mg:=by rfl) (h5:X.base=base:=by rfl)
    (he:starEach (e::es) X.env=(false,eval e X.env)::starEach es X.env:=by rfl) (hpl:(backTo pos (starEach es X.env)).any (·.1)=false:=by rfl) :
    PE X (.Call (.Name x p) (e::es) [] pos) (tFnV P w K mg base j ps tf t):=by
  subst h1 h2 h3 h4 h5
  intro pins s σ H Q I h
  refine wpAny_Call_Name_kw (thn (hf pins s σ H _ I h) fun u s1 ⟨v,H1,I1,rv,f,sp,ev,⟨fd,kp,hb,F⟩,q⟩=>?_)
  subst ev
  obtain rfl:u=Value.ref f:=rv
  refine PySem.W.callWith_K (h₀:=X.base) I.ok.mod.kin kp (thn (ha pos pins s1 σ H1 _ I1 q) fun us s2 ⟨vs,H2,I2,r,q2⟩=>⟨I2.kIn,?_⟩) he hpl
  exact run_fn F (hr.mono hk) hb .nil pass0 I2 r (by rw [aZ0]; exact q2)
theorem Own.fnV {P:Program} {w:World} {K:PySem.W.Frag} {mg:Str→Option Value} {base:Heap} {j:Nat} {x:Str} {ps:List Str} {sp:Sp} (h:Own P w K mg base j x ps sp):∃ f,mg x=some (.ref f)∧FnV P w K mg base j ps f sp:=let ⟨f,fd,h1,h2,h3,h4⟩:=h; ⟨f,h1,fd,h2,h3,h4⟩
end
end L2
set_option maxHeartbeats 2000000
namespace L2
open PySem PySem.Spec PyProof.Rows
def itN:Bool→String
  | true=>"tuple_iterator"
  | false=>"list_iterator"
def Sit:Bool→Heap→Addr→Addr→Nat→Prop
  | true,h,j,a,n=>h.IsTupleIter j a n
  | false,h,j,a,n=>h.IsListIter j a n
def Ssq:Bool→Heap→Addr→Array Value→Prop
  | true,h,a,xs=>h.IsTuple a xs
  | false,h,a,xs=>h.IsList a xs
def Sq:Bool→PySem.W.Frag→Hp→Addr→List V→Prop
  | true,K,H,a,xs=>SqT K H a xs
  | false,K,H,a,xs=>SqL K H a xs
section
variable {κ:Bool} {h h':Heap} {j a:Addr} {n:Nat} {its:Array Value}
theorem Sit.mk (q:h.get? j=some { cls:=.type (itN κ),data:=.fields #[.ref a,.int 0 0] }):Sit κ h j a 0:=by
  cases κ
  · exact ⟨_,q,rfl,rfl⟩
  · exact ⟨_,q,rfl,rfl⟩
theorem Sit.fields (x:Sit κ h j a n):∃ o,h.get? j=some o∧o.data=.fields #[.ref a,.int n 0]:=by
  cases κ
  · obtain ⟨o,e,_,d⟩:=x; exact ⟨o,e,d⟩
  · obtain ⟨o,e,_,d⟩:=x; exact ⟨o,e,d⟩
theorem Sit.at (x:Sit κ h j a n) (k:∀ o,h.get? j=some o→h'.get? j=some o):Sit κ h' j a n:=by
  cases κ
  · exact Heap.IsListIter.at x k
  · exact Heap.IsTupleIter.at x k
theorem Sit.extBut {b:Addr} (x:Sit κ h j a n) (m:Heap.ExtBut b h h') (ne:j≠b):Sit κ h' j a n:=x.at fun o e=>m _ _ ne e
theorem Ssq.extBut {b:Addr} (x:Ssq κ h a its) (m:Heap.ExtBut b h h') (ne:a≠b):Ssq κ h' a its:=by
  cases κ
  · obtain ⟨o,e,r⟩:=x; exact ⟨o,m _ _ ne e,r⟩
  · obtain ⟨o,e,r⟩:=x; exact ⟨o,m _ _ ne e,r⟩
theorem Ssq.lt (x:Ssq κ h a its):a<h.objs.size:=by
  cases κ
  · obtain ⟨o,e,r⟩:=x; exact Heap.lt_size e
  · obtain ⟨o,e,r⟩:=x; exact Heap.lt_size e
end
section
variable {X:Cx} {pins:List (Addr × Obj)} {σ:St} {H:Hp} {s:Shared} {κ:Bool} {a:Addr} {xs ys:List V}
theorem Sq.at (I:Inv X pins σ H s) (h:Sq κ X.K H a xs):∃ its:List Value,Vals xs its∧Ssq κ s.heap a its.toArray∧xs.length≤sizeLine:=by
  cases κ
  · obtain ⟨its,r,p,z⟩:=I.list h; exact ⟨its,r,p.isList,z⟩
  · obtain ⟨its,r,p,z⟩:=I.tuple h; exact ⟨its,r,p,z⟩
theorem Sq.inj (I:Inv X pins σ H s) (h:Sq κ X.K H a xs) (h':Sq κ X.K H a ys):xs=ys:=by
  cases κ
  · exact I.list_inj h h'
  · exact I.tuple_inj h h'
end
section
variable {prog:Program} {w:World} {A:Around} {E:Value→Shared→Prop} {s:Shared} {κ:Bool}
theorem nextK_item {j tp:Addr} {n:Nat} {its:Array Value} {u:Value} {R:Value→Shared→Prop} (hj:Sit κ s.heap j tp n) (hp:Ssq κ s.heap tp its) (hu:its[n]?=some u)
    (hR:∀ hp',Sit κ hp' j tp (n+1)→Heap.SameBut j s.heap hp'→R u { s with heap:=hp' }):wpAny (model prog w) A (Builtin.SmallTypes.nextOf (.ref j)) R E s:=by
  cases κ
  · exact wpAny_nextOf_list_item hj hp hu hR
  · exact nextT_item hj hp hu hR
theorem nextT_end {j tp:Addr} {n:Nat} {its:Array Value} {R:Value→Shared→Prop} (hh:A.handled=none) (hj:s.heap.IsTupleIter j tp n) (hp:s.heap.IsTuple tp its) (hu:its[n]?=none)
    (hE:∀ h' e,Heap.ExtBut j s.heap h'→(∃ o,h'.get? e=some o∧o.cls=.type "StopIteration")→E (.ref e) { s with heap:=h' }):wpAny (model prog w) A (Builtin.SmallTypes.nextOf (.ref j)) R E s:=by
  obtain ⟨oj,goj,coj,doj⟩:=id hj
  obtain ⟨op,gop,_,np,dop⟩:=hp
  unfold Builtin.SmallTypes.nextOf
  refine wpAny_bind (wpAny_callSpecial?_slot (name:=Str.ofString "__next__") hj.typeIs F.slot_tuple_iterator_next (wpAny_call_entry F.slot_tuple_iterator_next hj.typeIs F.entry_tuple_iterator_next ?_ (F.args_tuple_iterator_next_1 _)))
  change wpAny _ _ (field (.ref j) 0 >>= _) _ _ s
  refine wpAny_bind (wpAny_field goj doj (x:=.ref tp) rfl ?_)
  change wpAny _ _ (if (Value.ref tp == Value.none)=true then _ else _) _ _ s
  rw [if_neg (show ¬ ((Value.ref tp == Value.none)=true) from Bool.false_ne_true)]
  change wpAny _ _ (field (.ref j) 1 >>= _) _ _ s
  refine wpAny_bind (wpAny_field goj doj (x:=.int n 0) rfl ?_)
  change wpAny _ _ (seqItems? (.ref tp) >>= _) _ _ s
  refine wpAny_bind (wpAny_seqItems gop dop ?_)
  simp only [Int.toNat_natCast,hu]
  refine wpAny_bind (wpAny_rule (wpAny_bind (wpAny_setField goj doj (by simp) ?_)))
  change wpAny _ _ (newExc (.type "StopIteration") [] >>= _) _ _ _
  refine wpAny_bind ?_
  simp only [newExc,newTuple]
  refine wpAny_bind (wpAny_newObj_type (wpAny_bind (m:=firstArgMember _ _) (wpAny_of_eq (a:=Value.none) (by first|(simp only [firstArgMember]; rfl)|rfl) (wpAny_newObj_type ?_ (by size_fits)))) (by size_fits))
  simp only [raiseNew]
  refine wpAny_bind (wpAny_handled (s:=_) ?_)
  first|rw [hh]|rw [show A.in1.handled=none from hh]
  exact wpAny_bind (wpAny_pure (wpAny_throw (hE _ _ (((Heap.SameBut.update ..).extBut.push _).push _) ⟨_,Heap.get?_push_size _ rfl,rfl⟩)))
theorem nextK_end {j tp:Addr} {n:Nat} {its:Array Value} {R:Value→Shared→Prop} (hh:A.handled=none) (hj:Sit κ s.heap j tp n) (hp:Ssq κ s.heap tp its) (hu:its[n]?=none)
    (hE:∀ h' e,Heap.ExtBut j s.heap h'→(∃ o,h'.get? e=some o∧o.cls=.type "StopIteration")→E (.ref e) { s with heap:=h' }):wpAny (model prog w) A (Builtin.SmallTypes.nextOf (.ref j)) R E s:=by
  cases κ
  · exact wpAny_nextOf_list_end hh hj hp hu hE
  · exact nextT_end hh hj hp hu hE
theorem zipU_item {z ti to j1 j2 l1 l2:Addr} {n1 n2:Nat} {xs ys:Array Value} {x y a b:Value} {R:Value→Shared→Prop} (D:ZipApart z ti to j1 j2 l1 l2)
    (gz:IsZip s.heap z ti to .none) (gti:IsPair s.heap ti (.ref j1) (.ref j2)) (gto:IsPair s.heap to a b)
    (g1:Sit κ s.heap j1 l1 n1) (g2:s.heap.IsListIter j2 l2 n2) (gl1:Ssq κ s.heap l1 xs) (gl2:s.heap.IsList l2 ys) (hx:xs[n1]?=some x) (hy:ys[n2]?=some y)
    (hR:∀ hp,IsZip hp z ti to (rawInt s.heap.objs.size)→IsPair hp to x y→Sit κ hp j1 l1 (n1+1)→hp.IsListIter j2 l2 (n2+1)→IsPair hp s.heap.objs.size x y→hp.objs.size=s.heap.objs.size+1 →
      (∀ c o,c≠z→c≠to→c≠j1→c≠j2→s.heap.get? c=some o→hp.get? c=some o)→R (.ref s.heap.objs.size) { s with heap:=hp }) :
    wpAny (model prog w) A (Builtin.«zip.__next__» ⟨[.ref z],[]⟩) (fun fin s'=>∃ v,fin=.done (.ret v)∧R v s') E s:=by
  change wpAny _ _ (field (.ref z) 2 >>= _) _ _ _
  refine wpAny_bind (wpAny_field gz rfl (x:=.bool false) rfl ?_)
  change wpAny _ _ (field (.ref z) 3 >>= _) _ _ _
  refine wpAny_bind (wpAny_field gz rfl (x:=.ref ti) rfl ?_)
  refine wpAny_bind (wpAny_seqItems gti rfl ?_)
  change wpAny _ _ (Builtin.SmallTypes.ownedTupleIsFree (.ref z) >>= _) _ _ _
  refine wpAny_bind ?_
  unfold Builtin.SmallTypes.ownedTupleIsFree
  refine wpAny_bind (wpAny_field gz rfl (x:=.none) rfl (wpAny_pure ?_))
  simp only [if_true]
  refine wpAny_bind (wpAny_rule ?_)
  refine wpAny_bind (wpAny_field gz rfl (x:=.ref to) rfl ?_)
  refine wpAny_bind (wpAny_setField_rec gz (by simp) fun k1 gz1 m1=>?_)
  replace gz1:IsZip k1 z ti to .ellipsis:=gz1
  refine wpAny_bind ?_
  simp only [List.zipIdx_cons,List.zipIdx_nil,List.forIn_cons,List.forIn_nil]
  refine wpAny_bind (wpAny_bind (wpAny_onRaise ?_))
  change wpAny _ _ (Builtin.SmallTypes.nextOf (.ref j1) >>= _) _ _ _
  refine wpAny_bind (nextK_item (g1.extBut m1.extBut D.i1z) (gl1.extBut m1.extBut D.l1z) hx fun k2 g1b m2=>wpAny_pure ?_)
  have gto2:IsPair k2 to a b:=m2.extBut _ _ D.TOi1 (m1.extBut _ _ D.TOz gto)
  refine wpAny_bind (wpAny_seqItems gto2 rfl ?_)
  refine wpAny_bind (wpAny_updateSeq_pair gto2 fun k3 gto3 m3=>?_)
  replace gto3:IsPair k3 to x b:=gto3
  refine wpAny_bind (wpAny_letGo (wpAny_pure ?_))
  refine wpAny_bind (wpAny_bind (wpAny_onRaise ?_))
  change wpAny _ _ (Builtin.SmallTypes.nextOf (.ref j2) >>= _) _ _ _
  refine wpAny_bind (wpAny_nextOf_list_item (((g2.extBut m1.extBut D.i2z).extBut m2.extBut D.i12.symm).extBut m3.extBut D.TOi2.symm) (((gl2.extBut m1.extBut D.l2z).extBut m2.extBut D.l2i1).extBut m3.extBut D.l2TO) hy fun k4 g2b m4=>wpAny_pure ?_)
  have gto4:IsPair k4 to x b:=m4.extBut _ _ D.TOi2 gto3
  refine wpAny_bind (wpAny_seqItems gto4 rfl ?_)
  refine wpAny_bind (wpAny_updateSeq_pair gto4 fun k5 gto5 m5=>?_)
  replace gto5:IsPair k5 to x y:=gto5
  refine wpAny_bind (wpAny_letGo (wpAny_pure (wpAny_pure ?_)))
  refine wpAny_bind (wpAny_seqItems gto5 rfl ?_)
  refine wpAny_bind (wpAny_newTuple ?_)
  have esz:k5.objs.size=s.heap.objs.size:=by rw [m5.1,m4.1,m3.1,m2.1,m1.1]
  have gz5:IsZip k5 z ti to .ellipsis:=m5.extBut _ _ D.TOz.symm (m4.extBut _ _ D.i2z.symm (m3.extBut _ _ D.TOz.symm (m2.extBut _ _ D.i1z.symm gz1)))
  have kp5:∀ c o,c≠z→c≠to→c≠j1→c≠j2→s.heap.get? c=some o→k5.get? c=some o:=fun c o c1 c2 c3 c4 e=>m5.extBut _ _ c2 (m4.extBut _ _ c4 (m3.extBut _ _ c2 (m2.extBut _ _ c3 (m1.extBut _ _ c1 e))))
  have g1c:Sit κ k5 j1 l1 (n1+1):=((g1b.extBut m3.extBut D.TOi1.symm).extBut m4.extBut D.i12).extBut m5.extBut D.TOi1.symm
  have g2c:k5.IsListIter j2 l2 (n2+1):=g2b.extBut m5.extBut D.TOi2.symm
  have ltz:z<k5.objs.size:=Heap.lt_size gz5
  change wpAny _ _ (Builtin.SmallTypes.ownedTupleHandOut (.ref z) (.ref k5.objs.size) >>= _) _ _ _
  refine wpAny_bind ?_
  unfold Builtin.SmallTypes.ownedTupleHandOut
  have gz6:IsZip (k5.push { cls:=.type "tuple", data:=.seq #[x,y] }) z ti to .ellipsis:=Heap.get?_push_of_some _ gz5
  refine wpAny_bind (wpAny_setField_rec gz6 (by simp) fun k7 gz7 m7=>?_)
  replace gz7:IsZip k7 z ti to (rawInt k5.objs.size):=gz7
  refine wpAny_setField_rec gz7 (by simp) fun k8 gz8 m8=>?_
  replace gz8:IsZip k8 z ti to (rawInt k5.objs.size):=gz8
  have upw:∀ c o,c≠z→k5.get? c=some o→k8.get? c=some o:=fun c o c1 e=>m8.extBut _ _ c1 (m7.extBut _ _ c1 (Heap.get?_push_of_some _ e))
  have gt8:IsPair k8 k5.objs.size x y:=m8.extBut _ _ (Nat.ne_of_gt ltz) (m7.extBut _ _ (Nat.ne_of_gt ltz) (Heap.get?_push_size _ rfl))
  have es8:k8.objs.size=k5.objs.size+1:=by rw [m8.1,m7.1,Heap.size_push]
  rw [esz] at gz8 gt8 es8
  refine wpAny_pure ⟨_,rfl,?_⟩
  change R (.ref k5.objs.size) _
  rw [esz]
  exact hR k8 gz8 (upw _ _ D.TOz gto5) (g1c.at fun o e=>upw _ o D.i1z e) (g2c.at fun o e=>upw _ o D.i2z e) gt8 es8 fun c o c1 c2 c3 c4 e=>upw c o c1 (kp5 c o c1 c2 c3 c4 e)
theorem zipU_end {z ti to j1 j2 l1 l2:Addr} {n1:Nat} {xs:Array Value} {R:Fin→Shared→Prop} (hh:A.handled=none) (D:ZipApart z ti to j1 j2 l1 l2)
    (gz:IsZip s.heap z ti to .none) (gti:IsPair s.heap ti (.ref j1) (.ref j2)) (g1:Sit κ s.heap j1 l1 n1) (gl1:Ssq κ s.heap l1 xs) (hend:xs[n1]?=none)
    (hE:∀ hp e,(∀ c o,c≠z→c≠to→c≠j1→c≠j2→s.heap.get? c=some o→hp.get? c=some o)→(∃ o,hp.get? e=some o∧o.cls=.type "StopIteration")→E (.ref e) { s with heap:=hp }) :
    wpAny (model prog w) A (Builtin.«zip.__next__» ⟨[.ref z],[]⟩) R E s:=by
  change wpAny _ _ (field (.ref z) 2 >>= _) _ _ _
  refine wpAny_bind (wpAny_field gz rfl (x:=.bool false) rfl ?_)
  change wpAny _ _ (field (.ref z) 3 >>= _) _ _ _
  refine wpAny_bind (wpAny_field gz rfl (x:=.ref ti) rfl ?_)
  refine wpAny_bind (wpAny_seqItems gti rfl ?_)
  change wpAny _ _ (Builtin.SmallTypes.ownedTupleIsFree (.ref z) >>= _) _ _ _
  refine wpAny_bind ?_
  unfold Builtin.SmallTypes.ownedTupleIsFree
  refine wpAny_bind (wpAny_field gz rfl (x:=.none) rfl (wpAny_pure ?_))
  simp only [if_true]
  refine wpAny_bind (wpAny_rule ?_)
  refine wpAny_bind (wpAny_field gz rfl (x:=.ref to) rfl ?_)
  refine wpAny_bind (wpAny_setField_rec gz (by simp) fun k1 gz1 m1=>?_)
  replace gz1:IsZip k1 z ti to .ellipsis:=gz1
  refine wpAny_bind ?_
  simp only [List.zipIdx_cons,List.zipIdx_nil,List.forIn_cons,List.forIn_nil]
  refine wpAny_bind (wpAny_bind (wpAny_onRaise ?_))
  change wpAny _ _ (Builtin.SmallTypes.nextOf (.ref j1) >>= _) _ _ _
  refine wpAny_bind (nextK_end hh (g1.extBut m1.extBut D.i1z) (gl1.extBut m1.extBut D.l1z) hend fun k2 e m2 ⟨oe,goe,ce⟩=>?_)
  have gz2:IsZip k2 z ti to .ellipsis:=m2 _ _ D.i1z.symm gz1
  have nez:e≠z:=fun q=>by subst q; rw [gz2] at goe; cases goe; simp at ce
  exact wpAny_setField_rec gz2 (by simp) fun k3 _ m3=>hE k3 e (fun c o c1 _ c3 _ q=>m3.extBut _ _ c1 (m2 _ _ c3 (m1.extBut _ _ c1 q))) ⟨oe,m3.extBut _ _ nez goe,ce⟩
theorem pyNext_zipU {z ti to j1 j2 l1 l2:Addr} {n1 n2:Nat} {xs ys:Array Value} {x y a b:Value} {R:Option Value→Shared→Prop} (D:ZipApart z ti to j1 j2 l1 l2)
    (gz:IsZip s.heap z ti to .none) (gti:IsPair s.heap ti (.ref j1) (.ref j2)) (gto:IsPair s.heap to a b)
    (g1:Sit κ s.heap j1 l1 n1) (g2:s.heap.IsListIter j2 l2 n2) (gl1:Ssq κ s.heap l1 xs) (gl2:s.heap.IsList l2 ys) (hx:xs[n1]?=some x) (hy:ys[n2]?=some y)
    (hR:∀ hp,IsZip hp z ti to (rawInt s.heap.objs.size)→IsPair hp to x y→Sit κ hp j1 l1 (n1+1)→hp.IsListIter j2 l2 (n2+1)→IsPair hp s.heap.objs.size x y→hp.objs.size=s.heap.objs.size+1 →
      (∀ c o,c≠z→c≠to→c≠j1→c≠j2→s.heap.get? c=some o→hp.get? c=some o)→R (some (.ref s.heap.objs.size)) { s with heap:=hp }):wpAny (model prog w) A (pyNext (.ref z)) R E s:=by
  have ht:s.TypeIs (.ref z) "zip":=⟨_,gz,rfl⟩
  unfold pyNext
  exact wpAny_bind (wpAny_attempt (wpAny_callSpecial?_slot (name:=Str.ofString "__next__") ht F.slot_zip_next (wpAny_call_entry F.slot_zip_next ht F.entry_zip_next (zipU_item D gz gti gto g1 g2 gl1 gl2 hx hy fun hp a1 a2 a3 a4 a5 a6 a7=>wpAny_pure (hR hp a1 a2 a3 a4 a5 a6 a7)) (F.args_zip_next_1 _))))
theorem pyNext_zipF {z ti to j1 j2 l1 l2:Addr} {n1:Nat} {xs:Array Value} {R:Option Value→Shared→Prop} (hh:A.handled=none) (D:ZipApart z ti to j1 j2 l1 l2)
    (gz:IsZip s.heap z ti to .none) (gti:IsPair s.heap ti (.ref j1) (.ref j2)) (g1:Sit κ s.heap j1 l1 n1) (gl1:Ssq κ s.heap l1 xs) (hend:xs[n1]?=none)
    (hR:∀ hp,(∀ c o,c≠z→c≠to→c≠j1→c≠j2→s.heap.get? c=some o→hp.get? c=some o)→R none { s with heap:=hp }):wpAny (model prog w) A (pyNext (.ref z)) R E s:=by
  have ht:s.TypeIs (.ref z) "zip":=⟨_,gz,rfl⟩
  unfold pyNext
  refine wpAny_bind (wpAny_attempt (wpAny_callSpecial?_slot (name:=Str.ofString "__next__") ht F.slot_zip_next (wpAny_call_entry F.slot_zip_next ht F.entry_zip_next (zipU_end hh D gz gti g1 gl1 hend fun hp e hk ⟨o,ho,hc⟩=>?_) (F.args_zip_next_1 _))))
  refine wpAny_bind (wpAny_isInstance (T:="StopIteration") (b:=true) ⟨o,ho,hc⟩ isSubtype_stop ?_)
  exact wpAny_pure (hR _ hk)
abbrev yh1 (κ:Bool) (h:Heap) (a:Addr):Heap:=h.push { cls:=.type (itN κ),data:=.fields #[.ref a,.int 0 0] }
abbrev yh2 (κ:Bool) (h:Heap) (a b:Addr):Heap:=(yh1 κ h a).push { cls:=.type "list_iterator", data:=.fields #[.ref b,.int 0 0] }
abbrev yh3 (κ:Bool) (h:Heap) (a b:Addr):Heap:=(yh2 κ h a b).push { cls:=.type "tuple", data:=.seq #[.ref h.objs.size,.ref (yh1 κ h a).objs.size] }
abbrev yh4 (κ:Bool) (h:Heap) (a b:Addr):Heap:=(yh3 κ h a b).push { cls:=.type "tuple", data:=.seq #[.none,.none] }
abbrev yh5 (κ:Bool) (h:Heap) (a b:Addr):Heap:=(yh4 κ h a b).push { cls:=.type "zip", data:=.fields #[.none,.bool false,.bool false,.ref (yh2 κ h a b).objs.size,.ref (yh3 κ h a b).objs.size] }
theorem meets_zipU (κ:Bool) (a b:Addr) (xs ys:Array Value):Meets (Builtin.«zip.__new__» ⟨[.type "zip", .ref a,.ref b],[]⟩) (fun _ R s=>Ssq κ s.heap a xs∧s.heap.IsList b ys∧R (.ok (.ret (.ref (yh4 κ s.heap a b).objs.size))) { s with heap:=yh5 κ s.heap a b }):=
  .of_wp fun prog w A R s h=>by
    obtain ⟨hp,gs,dr,tk,os⟩:=s
    obtain ⟨ha,hb,h⟩:=h
    have hsub:=sub_zip
    cases κ with
    | false=>
      have hA:Heap.IsList (Shared.heap ⟨hp,gs,dr,tk,os⟩) a xs:=ha
      have hB:Heap.IsList (Shared.heap ⟨hp.push { cls:=.type "list_iterator", data:=.fields #[.ref a,.int 0 0] },gs,dr,tk,os⟩) b ys:=Heap.IsList.push hb _
      dsimp only [itN,yh5,yh4,yh3,yh2,yh1] at h
      wp_walk using wpAny_pyIter_list hA,wpAny_pyIter_list hB
      exact ⟨_,rfl,h⟩
    | true=>
      have hA:Heap.IsTuple (Shared.heap ⟨hp,gs,dr,tk,os⟩) a xs:=ha
      have hB:Heap.IsList (Shared.heap ⟨hp.push { cls:=.type "tuple_iterator", data:=.fields #[.ref a,.int 0 0] },gs,dr,tk,os⟩) b ys:=Heap.IsList.push hb _
      dsimp only [itN,yh5,yh4,yh3,yh2,yh1] at h
      wp_walk using wpAny_pyIter_tuple hA,wpAny_pyIter_list hB
      exact ⟨_,rfl,h⟩
theorem call_zipU {a b:Addr} {xs ys:Array Value} {R:Value→Shared→Prop} (ha:Ssq κ s.heap a xs) (hb:s.heap.IsList b ys)
    (h:∀ hp,IsZip hp (s.heap.objs.size+4) (s.heap.objs.size+2) (s.heap.objs.size+3) .none→IsPair hp (s.heap.objs.size+2) (.ref s.heap.objs.size) (.ref (s.heap.objs.size+1))→IsPair hp (s.heap.objs.size+3) .none .none→Sit κ hp s.heap.objs.size a 0→hp.IsListIter (s.heap.objs.size+1) b 0 →
      (∀ c o,s.heap.get? c=some o→hp.get? c=some o)→R (.ref (s.heap.objs.size+4)) { s with heap:=hp }):wpAny (model prog w) A (call (.type "zip") [.ref a,.ref b]) R E s:=by
  refine callType_new F.called_zip (by decide) (F.typeCall_zip_2 _ _) (F.newCall_zip_2 _ _) (fun obj=>F.args_object_init_3 obj _ _) F.entry_zip_new (meets_zipU κ a b xs ys) ⟨ha,hb,?_⟩
  have z1:(yh1 κ s.heap a).objs.size=s.heap.objs.size+1:=Heap.size_push ..
  have z2:(yh2 κ s.heap a b).objs.size=s.heap.objs.size+2:=by rw [Heap.size_push,z1]
  have z3:(yh3 κ s.heap a b).objs.size=s.heap.objs.size+3:=by rw [Heap.size_push,z2]
  have z4:(yh4 κ s.heap a b).objs.size=s.heap.objs.size+4:=by rw [Heap.size_push,z3]
  have q5:(yh5 κ s.heap a b).get? (yh4 κ s.heap a b).objs.size=some _:=Heap.get?_push_size _ rfl
  have q4:(yh5 κ s.heap a b).get? (yh3 κ s.heap a b).objs.size=some _:=Heap.get?_push_of_some _ (Heap.get?_push_size _ rfl)
  have q3:(yh5 κ s.heap a b).get? (yh2 κ s.heap a b).objs.size=some _:=Heap.get?_push_of_some _ (Heap.get?_push_of_some _ (Heap.get?_push_size _ rfl))
  have q2:(yh5 κ s.heap a b).get? (yh1 κ s.heap a).objs.size=some _:=Heap.get?_push_of_some _ (Heap.get?_push_of_some _ (Heap.get?_push_of_some _ (Heap.get?_push_size _ rfl)))
  have q1:(yh5 κ s.heap a b).get? s.heap.objs.size=some _:=Heap.get?_push_of_some _ (Heap.get?_push_of_some _ (Heap.get?_push_of_some _ (Heap.get?_push_of_some _ (Heap.get?_push_size _ rfl))))
  change _∧_
  rw [z2,z3,z4] at q5
  rw [z1,z2] at q3
  rw [z3] at q4
  rw [z1] at q2
  rw [z4]
  exact ⟨⟨_,q5,rfl⟩,h _ q5 q3 q4 (Sit.mk q1) ⟨_,q2,rfl,rfl⟩ fun c o q=>Heap.get?_push_of_some _ (Heap.get?_push_of_some _ (Heap.get?_push_of_some _ (Heap.get?_push_of_some _ (Heap.get?_push_of_some _ q))))⟩
end
def Itu (κ:Bool) (K:PySem.W.Frag) (a b:Addr):It:=
  ⟨fun i H=>∃ xs ys x y,Sq κ K H a xs∧SqL K H b ys∧xs[i]?=some x∧ys[i]?=some y,fun i H v H'=>∃ p,v=.ref p∧H p=none∧∀ xs ys,Sq κ K H a xs→SqL K H b ys→∃ x y,xs[i]?=some x∧ys[i]?=some y∧H'=upd H p (.tup [x,y]),fun i H=>∃ xs,Sq κ K H a xs∧xs.length≤i⟩
theorem turn_zipU {κ:Bool} {P:Program} {w:World} {K:PySem.W.Frag} {elts:List Expr} {x1} {tpos:Pos} (a b z ti to j1 j2:Addr) (D:ZipApart z ti to j1 j2 a b) :
    Turn P w K (.Tuple elts x1 tpos) (Itu κ K a b) [z,ti,to,j1,j2] z (fun i h=>IsZip h z ti to .none∧IsPair h ti (.ref j1) (.ref j2)∧(∃ u v,IsPair h to u v)∧Sit κ h j1 a i∧h.IsListIter j2 b i) where
  mem:=by simp
  obj:=fun i h st c hc=>by
    obtain ⟨gz,gti,⟨u,v,gto⟩,g1,o2,e2,_,d2⟩:=st
    obtain ⟨o1,e1,d1⟩:=g1.fields
    simp only [List.mem_cons,List.not_mem_nil,or_false] at hc
    rcases hc with rfl|rfl|rfl|rfl|rfl
    · exact ⟨_,gz,fun v q=>by cases q⟩
    · exact ⟨_,gti,fun v q=>by cases q⟩
    · exact ⟨_,gto,fun v q=>by cases q⟩
    · exact ⟨o1,e1,fun v q=>by rw [d1] at q; cases q⟩
    · exact ⟨o2,e2,fun v q=>by rw [d2] at q; cases q⟩
  keep:=fun i h h' st k=>by
    obtain ⟨gz,gti,⟨u,v,gto⟩,g1,g2⟩:=st
    exact ⟨k z (by simp) _ gz,k ti (by simp) _ gti,⟨u,v,k to (by simp) _ gto⟩,g1.at fun o q=>k j1 (by simp) o q,g2.at fun o q=>k j2 (by simp) o q⟩
  item:=by
    intro X hP hw hK hc i pins s σ H E I hf st hg
    subst hP hw hK
    obtain ⟨gz,gti,⟨u,v,gto⟩,g1,g2⟩:=st
    obtain ⟨xs,ys,x,y,hqa,hqb,hx,hy⟩:=hg
    obtain ⟨ia,ra,pa,_⟩:=Sq.at I hqa
    obtain ⟨ib,rb,pb,_⟩:=I.list hqb
    obtain ⟨ux,hux,rux⟩:=ra.get hx
    obtain ⟨uy,huy,ruy⟩:=rb.get hy
    refine pyNext_zipU D gz gti gto g1 g2 pa pb.isList (x:=ux) (y:=uy) (by simpa using hux) (by simpa using huy) fun hp gz' gto' g1' g2' gt esz hk=>?_
    have hH:H s.heap.objs.size=none:=I.hok.fresh (Nat.le_refl _)
    have ne:∀ c o,s.heap.get? c=some o→c≠s.heap.objs.size:=fun c o q=>Nat.ne_of_lt (Heap.lt_size q)
    have nx:∀ c,c ∉ [z,ti,to,j1,j2]→c≠z∧c≠to∧c≠j1∧c≠j2:=fun c hc=>by
      simp only [List.mem_cons,List.not_mem_nil,or_false,not_or] at hc
      exact ⟨hc.1,hc.2.2.1,hc.2.2.2.1,hc.2.2.2.2⟩
    have kx:∀ c o,c ∉ [z,ti,to,j1,j2]→s.heap.get? c=some o→hp.get? c=some o:=fun c o hc q=>hk c o (nx c hc).1 (nx c hc).2.1 (nx c hc).2.2.1 (nx c hc).2.2.2 q
    have I1:Inv X pins σ (upd H s.heap.objs.size (.tup [x,y])) { s with heap:=hp,gens:=s.gens,drawn:=s.drawn,toks:=s.toks }:=I.call (ch:=[z,ti,to,j1,j2]) (h':=hp) (g':=s.gens) (d':=s.drawn) (t':=s.toks)
      ⟨fun c o q n hc hc2=>kx c o hc2 q,fun c o q n hc hc2=>⟨o.slots,kx c o hc2 q⟩,fun c o q n hc2=>by rw [upd_ne (ne c o q)]; exact n,fun c o q hc2=>⟨o,kx c o hc2 q⟩,
        fun c ys q=>by rw [upd_ne (ne_of_none q hH)]; exact q,fun c o ys q=>by rw [upd_ne (ne_of_none q hH)]; exact q,fun c ps q=>⟨#[],by rw [upd_ne (ne_of_none q hH),q]; simp⟩⟩
      (fun c o q=>by
        by_cases hcs:c=s.heap.objs.size
        · subst hcs
          rw [upd_same] at q
          cases q
          exact ⟨by rw [sizeLine_eq]; show 2≤16777216; decide,[ux,uy],.cons rux (.cons ruy .nil),⟨_,gt,rfl,0,rfl⟩⟩
        · rw [upd_ne hcs] at q
          refine (I.hok c o q).stay (fun d v hd r=>?_) (fun d r=>by rw [upd_ne (ne_of_none r hH)]; exact r) fun d ys r=>by rw [upd_ne (ne_of_none r hH)]; exact r
          have hdn:H d≠none:=by
            rcases hd with rfl|hd
            · rw [q]; exact fun z=>nomatch z
            · rw [hd]; exact fun z=>nomatch z
          exact kx d v (fun z=>hdn (hf d z).1) r) I.bare
      (fun c hc=>by
        have F:FpOk X pins H c:=hf c hc
        exact ⟨F.2.2.2.1,F.2.1,F.2.2.2.2.1,F.2.2.2.2.2⟩)
    refine ⟨_,rfl,wpAny_letOwnedTupleGo_zip (s:={ s with heap:=hp }) gz' fun h2 e2 sb=>?_⟩
    have isSome:∀ c∈[z,ti,to,j1,j2],∃ o,s.heap.get? c=some o:=fun c hc=>by
      simp only [List.mem_cons,List.not_mem_nil,or_false] at hc
      rcases hc with rfl|rfl|rfl|rfl|rfl
      · exact ⟨_,gz⟩
      · exact ⟨_,gti⟩
      · exact ⟨_,gto⟩
      · obtain ⟨o,e,_⟩:=g1.fields; exact ⟨o,e⟩
      · obtain ⟨o,e,_⟩:=g2; exact ⟨o,e⟩
    have nep:∀ c∈[z,ti,to,j1,j2],upd H s.heap.objs.size (.tup [x,y]) c=none:=fun c hc=>by
      obtain ⟨o,q⟩:=isSome c hc
      rw [upd_ne (ne _ _ q)]
      exact (hf c hc).1
    have fz:=hf z (by simp)
    have I2:Inv X pins σ (upd H s.heap.objs.size (.tup [x,y])) { s with heap:=h2,toks:=s.toks }:=I1.turned (t':=s.toks) (fun c o hc q=>(sb.2 c hc).trans q) (nep z (by simp)) fz.2.1 fz.2.2.2.1 fz.2.2.2.2.1 fz.2.2.2.2.2
    refine ⟨.ref s.heap.objs.size,_,I2,rfl,⟨_,rfl,hH,fun xs' ys' h1 h2=>⟨x,y,by rw [Sq.inj I h1 hqa]; exact hx,by rw [I.list_inj h2 hqb]; exact hy,rfl⟩⟩,⟨e2,sb.extBut _ _ D.TIz (hk _ _ D.TIz D.TITO D.TIi1 D.TIi2 gti),⟨_,_,sb.extBut _ _ D.TOz gto'⟩,g1'.extBut sb.extBut D.i1z,g2'.extBut sb.extBut D.i2z⟩,nep⟩
  done:=by
    intro X hP hw hK hc i pins s σ H E I hf st hg
    subst hP hw hK
    obtain ⟨gz,gti,⟨u,v,gto⟩,g1,g2⟩:=st
    obtain ⟨xs,hq,hx⟩:=hg
    obtain ⟨its,rv,p,hz⟩:=Sq.at I hq
    have hl:=rv.length
    refine pyNext_zipF (I.ok.hd hc) D gz gti g1 p (by simp; omega) fun hp hk=>⟨rfl,?_⟩
    have kx:∀ c o,c ∉ [z,ti,to,j1,j2]→s.heap.get? c=some o→hp.get? c=some o:=fun c o hc q=>by
      simp only [List.mem_cons,List.not_mem_nil,or_false,not_or] at hc
      exact hk c o hc.1 hc.2.2.1 hc.2.2.2.1 hc.2.2.2.2 q
    exact I.call (ch:=[z,ti,to,j1,j2]) (h':=hp) (g':=s.gens) (d':=s.drawn) (t':=s.toks)
      ⟨fun c o q n hc hc2=>kx c o hc2 q,fun c o q n hc hc2=>⟨o.slots,kx c o hc2 q⟩,fun c o q n hc2=>n,fun c o q hc2=>⟨o,kx c o hc2 q⟩,fun c ys q=>q,fun c o ys q=>q,fun c ps q=>⟨#[],by rw [q]; simp⟩⟩
      (fun c o q=>(I.hok c o q).stay (fun d v hd r=>kx d v (fun z=>by
          have hdn:H d≠none:=by
            rcases hd with rfl|hd
            · rw [q]; exact fun z=>nomatch z
            · rw [hd]; exact fun z=>nomatch z
          exact hdn (hf d z).1) r) (fun d r=>r) fun d ys r=>r) I.bare
      (fun c hc=>by
        have F:FpOk X pins H c:=hf c hc
        exact ⟨F.2.2.2.1,F.2.1,F.2.2.2.2.1,F.2.2.2.2.2⟩)
  self:=fun _ _ _ _ _ st h=>wpAny_pyIter_zip st.1 h
section
variable {X:Cx}
def iZipU (K:PySem.W.Frag) (ta:TA):TI:=fun σ H R=>ta σ H fun vs H1=>∃ κ a b,vs=[.ref a,.ref b]∧(∃ xs,Sq κ K H1 a xs)∧(∃ ys,SqL K H1 b ys)∧R (Itu κ K a b) H1
theorem pi_zipU (K:PySem.W.Frag) {elts:List Expr} {x1} {tpos:Pos} {l m:Expr} {ta:TA} {p pos:Pos} (hg:Gl X "zip") (hm:X.mg "zip"=none) (ha:PA X [l,m] ta) (he:starEach [l,m] X.env=(false,eval l X.env)::starEach [m] X.env:=by rfl) (hpl:(backTo pos (starEach [m] X.env)).any (·.1)=false:=by rfl) (hK:X.K=K:=by rfl) :
    PI X (.Tuple elts x1 tpos) (.Call (.Name "zip" p) [l,m] [] pos) (iZipU K ta):=by
  subst hK
  intro pins s σ H R I h
  refine Call_ (ld_blt I hg hm bt_zip (PyProof.Rows.callWith_type1 (thn (ha pos pins s σ H _ I h) fun us s1 ⟨vs,H1,I1,r1,q1⟩=>?_) he hpl))
  obtain ⟨κ,a,b,e,⟨xs,hqa⟩,⟨ys,hqb⟩,q⟩:=q1
  subst e
  obtain ⟨u,v,rfl,ru,rv⟩:=vals2 r1
  cases ru
  cases rv
  obtain ⟨ia,ra,pa,_⟩:=Sq.at I1 hqa
  obtain ⟨ib,rb,pb,_⟩:=I1.list hqb
  have la:a<s1.heap.objs.size:=pa.lt
  have lb:b<s1.heap.objs.size:=by obtain ⟨_,e,_⟩:=pb.isList; exact Heap.lt_size e
  refine call_zipU pa pb.isList fun h' hz hti hto h1 h2 hk=>?_
  refine wpAny_pyIter_zip (s:={ s1 with heap:=h' }) hz ?_
  refine ⟨s1.heap.objs.size+4,[s1.heap.objs.size+4,s1.heap.objs.size+2,s1.heap.objs.size+3,s1.heap.objs.size,s1.heap.objs.size+1],_,_,H1,rfl,I1.kept (t':=s1.toks) hk,turn_zipU a b _ _ _ _ _ (zipApart_new la lb),⟨hz,hti,⟨_,_,hto⟩,h1,h2⟩,fun c hc=>?_,q⟩
  have hc':s1.heap.objs.size≤c:=by
    simp only [List.mem_cons,List.not_mem_nil,or_false] at hc
    rcases hc with rfl|rfl|rfl|rfl|rfl <;> omega
  exact I1.fpOk hc' (I1.hok.fresh hc')
end
end L2
namespace L2
open PySem PySem.Spec PyProof.Rows
section
variable {prog:Program} {w:World} {A:Around} {E:Value→Shared→Prop} {s:Shared}
theorem noKeys {a:Addr} {its:Array Value} {Q:Option Value→Shared→Prop} (hl:PlainL s.heap a its) (hA:A.handled=none)
    (h:∀ h' tk,(∀ b o,s.heap.get? b=some o→h'.get? b=some o)→Q none { s with heap:=h',toks:=tk }):wpAny (model prog w) A (getAttr? (.ref a) "keys") Q E s:=by
  obtain ⟨o,n,hx,hc,hd,hdat⟩:=hl
  obtain ⟨c,dct,dat,sl⟩:=o
  simp only at hc hdat hd
  subst hc hdat hd
  obtain ⟨hp,g,d,tk,os⟩:=s
  have hmiss:typeLookup (.type "list") "keys"=pure none:=am_miss_of_fast (by decide +kernel)
  have hT:∀ tk',(⟨hp,g,d,tk',os⟩:Shared).TypeIs (.ref a) "list":=fun _=>⟨_,hx,rfl⟩
  have f1:=sub_AttributeError
  have f3:=PySem.F.slot_list_getattribute.lookup
  have f4:=PySem.F.slot_list_getattribute.bind (.ref a)
  have f5:=am_list_getattr_none
  unfold getAttr? getAttrBy? getAttrBy
  repeat (any_goals (first|assumption|exact hT _|((with_reducible change wpAny _ _ (call (Value.builtin "list.__getattribute__") _ _) _ _ _); refine call_meets PySem.F.slot_list_getattribute (hT _) am_entry_list_getattribute (PySem.F.args_list_getattribute_2 _ _) (meets_getattribute_miss_list a its n sl "keys" _ hmiss (by decide) (by size_fits)) ⟨hx,hA,fun h' tk' e hx'=>?_⟩)|wp_step))
  obtain ⟨t',u',he⟩:=hx'.there
  change wpAny _ _ (getattributeRaised _ _ _ _ _ _ _) _ _ _
  unfold getattributeRaised
  repeat (any_goals (first|assumption|wp_step))
  exact h _ _ hx'.keeps
namespace F
theorem entry_dict_update_loop:entryFor table "dict.update.loop"=some Builtin.«dict.update.loop»:=entryFor_of_tree (by kernel_rfl)
theorem plain_dict_update_loop:plainId "dict.update.loop"=true:=by decide +kernel
end F
variable {κ:Type} [DecidableEq κ] {knd:KeyKind prog w κ} {R:Result→Shared→Prop}
theorem pairs_loop {d it l:Addr} {items:Array Value} {es:List (κ × Value)} (hh:A.in1.handled=none) (hdl:d≠l) (hdi:d≠it) (hli:l≠it) (hes:es.length=items.size) (hz:es.length≤1000) :
    ∀ (k i:Nat) (s:Shared) (kvs:List (κ × Value)),items.size - i=k→i≤items.size→s.heap.IsListIter it l i→s.heap.IsList l items→s.heap.DictOf knd d kvs→kvs.length≤i →
      (∀ (j:Nat) (e:κ × Value),es[j]?=some e→∃ p kv,items[j]?=some (.ref p)∧s.heap.IsTuple p #[kv,e.2]∧knd.is e.1 kv=true∧p≠d∧p≠it) →
      (∀ h' tk,h'.DictOf knd d ((es.drop i).foldl (fun m e=>stored m e.1 e.2) kvs)→(∀ b o,b≠d→b≠it→s.heap.get? b=some o→h'.get? b=some o)→R (.ok (.ret .none)) { s with heap:=h',toks:=tk }) →
      codeAny (model prog w) A (.builtin "dict.update.loop" ⟨[.ref d,.ref it,rawInt i,.none],[]⟩) R s:=by
  intro k
  induction k with
  | zero=>
    intro i s kvs hk hi hit hl hd hn hp hR
    have e:i=items.size:=by omega
    subst e
    refine codeAny_builtin F.entry_dict_update_loop ?_
    rw [Around.under_plainId F.plain_dict_update_loop _]
    change wpAny _ A.in1 (pyNext (.ref it) >>= _) _ _ s
    refine wpAny_bind (wpAny_pyNext_list_end hh hit hl (by simp) fun h' hx=>?_)
    change wpAny _ A.in1 (Builtin.Dict.addKeywords d [] >>= _) _ _ _
    refine wpAny_bind (wpAny_pure (wpAny_pure (hR h' s.toks ?_ fun b o _ hb q=>hx b o hb q)))
    rw [List.drop_eq_nil_of_le (by omega)]
    exact hd.extBut hx hdi
  | succ k ih=>
    intro i s kvs hk hi hit hl hd hn hp hR
    have hlt:i<items.size:=by omega
    refine codeAny_builtin F.entry_dict_update_loop ?_
    rw [Around.under_plainId F.plain_dict_update_loop _]
    change wpAny _ A.in1 (pyNext (.ref it) >>= _) _ _ s
    have hel:i<es.length:=by omega
    obtain ⟨p,kv,hip,htp,hkv,hpd,hpi⟩:=hp i es[i] (List.getElem?_eq_getElem hel)
    refine wpAny_bind (wpAny_pyNext_list_item hit hl hip fun h1 hit1 sb1=>?_)
    have htp1:h1.IsTuple p #[kv,es[i].2]:=htp.extBut sb1.extBut hpi
    have hd1:h1.DictOf knd d kvs:=hd.extBut sb1.extBut hdi
    obtain ⟨op,gop,cop,np,dop⟩:=id htp1
    change wpAny _ A.in1 (holding [Value.ref p] _ >>= _) _ _ _
    refine wpAny_bind (wpAny_holding (wpAny_bind (wpAny_tryCatch ?_)))
    unfold Builtin.Dict.pairItems
    refine wpAny_bind (wpAny_typeOf (T:="tuple") ⟨op,gop,cop⟩ ?_)
    rw [if_pos (by decide)]
    refine wpAny_bind (wpAny_seqItems gop dop (wpAny_pure ?_))
    change wpAny _ A.in1 (holding [kv,es[i].2] (dictSet d kv es[i].2)) _ _ _
    refine wpAny_holding (wpAny_dictSet_pairs hkv hd1 (fun h2 hd2 sb2=>?_) (by rw [sizeLine_eq]; omega))
    refine wpAny_pure ⟨plainId_quiet F.plain_dict_update_loop _,ih (i+1) _ _ (by omega) hlt (hit1.extBut sb2.extBut hdi.symm) ((hl.extBut sb1.extBut hli).extBut sb2.extBut hdl.symm) hd2 ?_ (fun j e he=>?_) fun h' tk hd' hk'=>hR h' tk ?_ fun b o b1 b2 q=>hk' b o b1 b2 (sb2.extBut _ _ b1 (sb1.extBut _ _ b2 q))⟩
    · have:=stored_length_le kvs es[i].1 es[i].2
      omega
    · obtain ⟨p,kv,h1,h2,h3,h4,h5⟩:=hp j e he
      exact ⟨p,kv,h1,(h2.extBut sb1.extBut h5).extBut sb2.extBut h4,h3,h4,h5⟩
    · rw [List.drop_eq_getElem_cons hel]
      exact hd'
end
def rDictP:List V→Hp→VK→Prop:=fun xs H Q=>∃ (p:Addr) (ps:List Addr) (es:List (Key × V)),xs=[.ref p]∧H p=some (.lst (ps.map V.ref))∧Paired (fun a e=>H a=some (.tup [kV e.1,e.2])) ps es∧es.length≤1000 ∧
  ∀ d,H d=none→Q (.ref d) (upd H d (.dK (es.foldl (fun m e=>putK m e.1 e.2) [])))
section
variable {X:Cx} {pins:List (Addr × Obj)} {σ:St} {H:Hp} {s:Shared}
theorem prs_at (I:Inv X pins σ H s) {ps:List Addr} {es:List (Key × V)} (hP:Paired (fun a e=>H a=some (.tup [kV e.1,e.2])) ps es) :
    ∃ vs:List (Key × Value),KV es vs∧∀ (j:Nat) (e:Key × Value),vs[j]?=some e→∃ p kv,ps[j]?=some p∧s.heap.IsTuple p #[kv,e.2]∧(mixKind X.prog X.w).is e.1 kv=true:=by
  induction hP with
  | nil=>exact ⟨[],.nil,fun j e h=>by simp at h⟩
  | @cons a e ps es h t ih=>
    obtain ⟨vs,kv,hv⟩:=ih
    obtain ⟨its,r,tp,_⟩:=I.tuple (SqT.of h)
    obtain ⟨x,y,rfl,rx,ry⟩:=vals2 r
    refine ⟨(e.1,y)::vs,.cons ⟨rfl,ry⟩ kv,fun j q hq=>?_⟩
    cases j with
    | zero=>
      simp only [gZ0,oZ0] at hq
      subst hq
      obtain ⟨o,e1,c,n,d⟩:=tp
      exact ⟨a,x,rfl,⟨o,e1,c,n,d⟩,kV_is rx⟩
    | succ j=>
      simp only [gZ1] at hq ⊢
      exact hv j q hq
theorem kv_fold:∀ {es:List (Key × V)} {vs:List (Key × Value)},KV es vs→∀ {m:List (Key × V)} {n:List (Key × Value)},KV m n→KV (es.foldl (fun m e=>putK m e.1 e.2) m) (vs.foldl (fun m e=>stored m e.1 e.2) n)
  | _,_,.nil,_,_,h=>h
  | e::es,v::vs,.cons ⟨h1,h2⟩ t,m,n,h=>by
    rw [List.foldl_cons,List.foldl_cons,← h1]
    exact kv_fold t (h.put e.1 h2)
theorem fold_len:∀ (es:List (Key × V)) (m:List (Key × V)),(es.foldl (fun m e=>putK m e.1 e.2) m).length≤m.length+es.length
  | [],m=>by simp
  | e::es,m=>by
    rw [List.foldl_cons,lZ1]
    have h1:=fold_len es (putK m e.1 e.2)
    have h2:=length_putK m e.1 e.2
    omega
theorem call_dictP (hc:X.calm=true):CallR X (.type "dict") rDictP:=by
  intro pins s σ H xs us Q I r h
  obtain ⟨p,ps,es,rfl,hp,hP,hl,q⟩:=h
  obtain ⟨u,rfl,rx⟩:=vals1 r
  obtain rfl:u=Value.ref p:=rx
  obtain ⟨its,rv,pl,hz⟩:=I.list (SqL.of hp)
  obtain ⟨vs,kv,hv⟩:=prs_at I hP
  have e1:=hP.length
  have e2:=kv.length
  have e3:=rv.length
  rw [List.length_map] at e3
  have hA:=I.ok.hd hc
  refine callType_codes (Q₁:=fun obj s₁=>obj=.ref s.heap.objs.size∧s₁={ s with heap:=s.heap.push { cls:=.type "dict", data:=.dict #[] } }) PySem.F.kt_called_dict (PySem.F.kt_typeCall_dict_1 _) PySem.F.entry_dict_init (kt_code_dict_new _ ⟨rfl,rfl⟩) ?_
  rintro obj s₁ ⟨rfl,rfl⟩
  have hnew:(s.heap.push { cls:=.type "dict", data:=.dict #[] }).DictOf (mixKind X.prog X.w) s.heap.objs.size []:=Heap.DictOf.new s.heap
  have pl':PlainL (s.heap.push { cls:=.type "dict", data:=.dict #[] }) p its.toArray:=let ⟨o,n,e,r⟩:=pl; ⟨o,n,Heap.get?_push_of_some _ e,r⟩
  refine ⟨hnew.typeIs,PySem.F.args_dict_init_2 _ _,?_⟩
  unfold Builtin.«dict.__init__»
  refine wpAny_bind ?_
  unfold Builtin.Dict.selfAndRest
  refine wpAny_bind (wpAny_notOrdered_dict hnew.typeIs ?_)
  change wpAny _ _ (pure (s.heap.objs.size,[Value.ref p])) _ _ _
  refine wpAny_pure ?_
  change wpAny _ _ (Builtin.Dict.updateFrom "dict.__init__" s.heap.objs.size (.ref p) [] .none) _ _ _
  unfold Builtin.Dict.updateFrom
  refine wpAny_bind (wpAny_typeOf (T:="list") (let ⟨o,n,e,c,_⟩:=pl'; ⟨o,e,c⟩) ?_)
  rw [if_pos (by decide)]
  refine wpAny_bind (noKeys pl' (by simp [hA]) fun h1 tk1 k1=>?_)
  simp only [Option.isNone_none,if_true]
  refine wpAny_bind (wpAny_rule ?_)
  have pl1:PlainL h1 p its.toArray:=let ⟨o,n,e,r⟩:=pl'; ⟨o,n,k1 _ _ e,r⟩
  have hd1:h1.DictOf (mixKind X.prog X.w) s.heap.objs.size []:=let ⟨o,a,b,e,r⟩:=hnew; ⟨o,a,b,k1 _ _ e,r⟩
  refine wpAny_bind (wpAny_pyIter_list (s:={ s with heap:=h1,toks:=tk1 }) pl1.isList ?_)
  have hps:p<s.heap.objs.size:=let ⟨o,n,e,_⟩:=pl; Heap.lt_size e
  have hs1:s.heap.objs.size<h1.objs.size:=let ⟨o,a,b,e,_⟩:=hd1; Heap.lt_size e
  refine wpAny_pure ⟨plainId_quiet F.plain_dict_update_loop _,pairs_loop (items:=its.toArray) (es:=vs) (by simp [hA]) (Nat.ne_of_gt hps) (Nat.ne_of_lt hs1) (Nat.ne_of_lt (Nat.lt_trans hps hs1)) (by rw [List.size_toArray]; omega) (by omega) _ 0 _ [] rfl (Nat.zero_le _) ⟨_,Heap.get?_push_size _ rfl,rfl,rfl⟩ (pl1.isList.push _) (hd1.push _) (Nat.le_refl _) (fun j e he=>?_) fun h2 tk2 hd2 hk2=>?_⟩
  · obtain ⟨a,x,ha,ht,hi⟩:=hv j e he
    have ha':(ps.map V.ref)[j]?=some (.ref a):=by rw [List.getElem?_map,ha]; rfl
    obtain ⟨u,hu,ru⟩:=rv.get ha'
    obtain rfl:u=Value.ref a:=ru
    have hlt:a<s.heap.objs.size:=let ⟨o,e,_⟩:=ht; Heap.lt_size e
    refine ⟨a,x,by simpa using hu,?_,hi,Nat.ne_of_lt hlt,Nat.ne_of_lt (Nat.lt_trans hlt hs1)⟩
    obtain ⟨o,e,r⟩:=ht
    exact ⟨o,Heap.get?_push_of_some _ (k1 _ _ (Heap.get?_push_of_some _ e)),r⟩
  · refine ⟨rfl,.ref s.heap.objs.size,_,I.laid (a:=s.heap.objs.size) (h':=h2) (t':=tk2) (fun b u e=>hk2 b u (Nat.ne_of_lt (Heap.lt_size e)) (Nat.ne_of_lt (Nat.lt_trans (Heap.lt_size e) hs1)) (Heap.get?_push_of_some _ (k1 _ _ (Heap.get?_push_of_some _ e)))) (Nat.le_refl _) (o:=.dK (es.foldl (fun m e=>putK m e.1 e.2) [])) ⟨?_,(dk_empty (P:=X.prog) (w:=X.w) (H:=H) s.heap I.big).2.1,_,kv_fold kv .nil,hd2⟩,rfl,q _ (I.hok.fresh (Nat.le_refl _))⟩
    have:=fold_len es []
    rw [lZ0] at this
    rw [sizeLine_eq]
    omega
end
end L2
namespace L2
open PySem PySem.Spec PyProof.Rows
theorem same_upd {H H':Hp} {D:Addr} {o:HO} (s:Same H H'):Same (upd H D o) (upd H' D o):=fun b u e=>by
  by_cases h:b=D
  · subst h
    rw [upd_same] at e ⊢
    exact e
  · rw [upd_ne h] at e ⊢
    exact s b u e
theorem paired_imp {α β:Type} {R R':α→β→Prop} (hR:∀ a b,R a b→R' a b):∀ {l:List α} {m:List β},Paired R l m→Paired R' l m
  | _,_,.nil=>.nil
  | _,_,.cons h t=>.cons (hR _ _ h) (paired_imp hR t)
theorem paired_app {α β:Type} {R:α→β→Prop}:∀ {l l':List α} {m m':List β},Paired R l m→Paired R l' m'→Paired R (l++l') (m++m')
  | _,_,_,_,.nil,h=>h
  | _,_,_,_,.cons h t,h'=>.cons h (paired_app t h')
def Gr {α:Type} (Rel:Hp→α→V→Prop) (as:List α) (H1:Hp) (D:Addr) (i:Nat) (acc:List V) (H:Hp):Prop:=Same H1 H∧H D=some (.lst acc)∧Paired (fun a v=>∀ z,Rel (upd H D (.lst z)) a v) (as.take i) acc
section
variable {α:Type} {Rel:Hp→α→V→Prop} {as:List α} {H1 H H4:Hp} {D:Addr} {i:Nat} {acc:List V} {a:α} {v:V}
theorem Gr.zero (hD:H1 D=none):Gr Rel as H1 D 0 [] (upd H1 D (.lst [])):=⟨.upd_new hD,upd_same,by rw [List.take_zero]; exact .nil⟩
theorem Gr.len (g:Gr Rel as H1 D i acc H):acc.length≤i:=by
  have:=g.2.2.length
  rw [List.length_take] at this
  omega
theorem Gr.step (mono:∀ H H' a v,Same H H'→Rel H a v→Rel H' a v) (g:Gr Rel as H1 D i acc H) (hD:H1 D=none) (ha:as[i]?=some a) (s:Same H H4) (r:∀ z,Rel (upd H4 D (.lst z)) a v):H4 D=some (.lst acc)∧Gr Rel as H1 D (i+1) (acc++[v]) (upd H4 D (.lst (acc++[v]))):=by
  obtain ⟨s1,e,p⟩:=g
  refine ⟨s _ _ e,(s1.trans s).upd hD,upd_same,?_⟩
  rw [List.take_add_one,ha,Option.toList_some]
  refine paired_app (paired_imp (fun b u h z=>?_) p) (.cons (fun z=>?_) .nil)
  · rw [upd_upd]
    exact mono _ _ _ _ (same_upd s) (h z)
  · rw [upd_upd]
    exact r z
theorem Gr.last (g:Gr Rel as H1 D i acc H) (hi:as.length≤i):Same H1 H∧H D=some (.lst acc)∧Paired (Rel H) as acc:=by
  obtain ⟨s,e,p⟩:=g
  rw [List.take_of_length_le hi] at p
  refine ⟨s,e,paired_imp (fun b u h=>?_) p⟩
  have:=h acc
  rw [upd_self e] at this
  exact this
end
section
variable {n:Nat} {js:List Nat} {g:TG} {tc:TT} {te:TE} {σ:St} {Q:VK} {H1:Hp} {α:Type}
theorem grow_list {K:PySem.W.Frag} {a:Addr} {xs:List V} (hx:SqL K H1 a xs) (hz:xs.length≤sizeLine) (as:List α) (hlen:as.length=xs.length) (Rel:Hp→α→V→Prop) (mono:∀ H H' a v,Same H H'→Rel H a v→Rel H' a v)
    (hs:∀ D (i:Nat) x b acc H,H1 D=none→xs[i]?=some x→as[i]?=some b→Same H1 H→H D=some (.lst acc)→∀ (Nx:VK) (Y:Hp→Prop),(∀ v H4,Same H H4→(∀ z,Rel (upd H4 D (.lst z)) b v)→Nx v H4)→g x (cSt n js σ) H fun σ2 H2=>σ2.drop n=(cSt n js σ).drop n∧tc σ2 H2 fun b H3=>if b=true then te σ2 H3 Nx else Y H3)
    (hd:∀ D vs H,H1 D=none→Same H1 H→H D=some (.lst vs)→Paired (Rel H) as vs→Q (.ref D) H):CompW n js g tc te σ Q (Itl K a) H1:=by
  refine comp_list (xs:=xs) hz (Gr Rel as H1) (fun D hD=>Gr.zero hD) (fun D i acc H hD hi p=>⟨p.2.1,p.1.seq hx,p.len⟩) (fun D i x acc H hD hxi p=>?_) (fun D acc H hD p=>?_)
  · have hlt:=(List.getElem?_eq_some_iff.mp hxi).1
    exact hs D i x as[i] acc H hD hxi (List.getElem?_eq_getElem _) p.1 p.2.1 _ _ fun v H4 s r=>p.step mono hD (List.getElem?_eq_getElem _) s r
  · obtain ⟨h1,h2,h3⟩:=p.last (by omega)
    exact hd D acc H hD h1 h2 h3
theorem grow_tup {K:PySem.W.Frag} {a:Addr} {xs:List V} (hx:SqT K H1 a xs) (hz:xs.length≤sizeLine) (as:List α) (hlen:as.length=xs.length) (Rel:Hp→α→V→Prop) (mono:∀ H H' a v,Same H H'→Rel H a v→Rel H' a v)
    (hs:∀ D (i:Nat) x b acc H,H1 D=none→xs[i]?=some x→as[i]?=some b→Same H1 H→H D=some (.lst acc)→∀ (Nx:VK) (Y:Hp→Prop),(∀ v H4,Same H H4→(∀ z,Rel (upd H4 D (.lst z)) b v)→Nx v H4)→g x (cSt n js σ) H fun σ2 H2=>σ2.drop n=(cSt n js σ).drop n∧tc σ2 H2 fun b H3=>if b=true then te σ2 H3 Nx else Y H3)
    (hd:∀ D vs H,H1 D=none→Same H1 H→H D=some (.lst vs)→Paired (Rel H) as vs→Q (.ref D) H):CompW n js g tc te σ Q (Itt K a) H1:=by
  refine comp_tup (xs:=xs) hz (Gr Rel as H1) (fun D hD=>Gr.zero hD) (fun D i acc H hD hi p=>⟨p.2.1,p.1.seqT hx,p.len⟩) (fun D i x acc H hD hxi p=>?_) (fun D acc H hD p=>?_)
  · have hlt:=(List.getElem?_eq_some_iff.mp hxi).1
    exact hs D i x as[i] acc H hD hxi (List.getElem?_eq_getElem _) p.1 p.2.1 _ _ fun v H4 s r=>p.step mono hD (List.getElem?_eq_getElem _) s r
  · obtain ⟨h1,h2,h3⟩:=p.last (by omega)
    exact hd D acc H hD h1 h2 h3
theorem Sq.same {κ:Bool} {K:PySem.W.Frag} {H H':Hp} {a:Addr} {xs:List V} (h:Sq κ K H a xs) (s:Same H H'):Sq κ K H' a xs:=by
  cases κ
  · exact s.seq h
  · exact s.seqT h
theorem grow_zip {κ:Bool} {K:PySem.W.Frag} {a b:Addr} {xs ys:List V} (hx:Sq κ K H1 a xs) (hy:SqL K H1 b ys) (hxy:xs.length≤ys.length) (hz:xs.length≤sizeLine) (as:List α) (hlen:as.length=xs.length) (Rel:Hp→α→V→Prop) (mono:∀ H H' a v,Same H H'→Rel H a v→Rel H' a v)
    (hs:∀ D (i:Nat) x y p b acc H,H1 D=none→xs[i]?=some x→ys[i]?=some y→as[i]?=some b→Same H1 H→H D=some (.lst acc)→H p=none→∀ (Nx:VK) (Y:Hp→Prop),(∀ v H4,Same H H4→(∀ z,Rel (upd H4 D (.lst z)) b v)→Nx v H4)→g (.ref p) (cSt n js σ) (upd H p (.tup [x,y])) fun σ2 H2=>σ2.drop n=(cSt n js σ).drop n∧tc σ2 H2 fun b H3=>if b=true then te σ2 H3 Nx else Y H3)
    (hd:∀ D vs H,H1 D=none→Same H1 H→H D=some (.lst vs)→Paired (Rel H) as vs→Q (.ref D) H):CompW n js g tc te σ Q (Itu κ K a b) H1:=by
  intro D hD
  refine ⟨fun i m acc H=>m=xs.length - i∧i≤xs.length∧Gr Rel as H1 D i acc H,⟨xs.length,by simp,Nat.zero_le _,Gr.zero hD⟩,?_⟩
  rintro i m acc H ⟨rfl,hi,p⟩
  have qa:=hx.same p.1
  have qb:=p.1.seq hy
  refine ⟨p.2.1,?_⟩
  by_cases hlt:i<xs.length
  · refine .inr ⟨⟨xs,ys,xs[i],ys[i],qa,qb,by simp [hlt],by simp⟩,by have:=p.len; omega,Gr Rel as H1 D (i+1),fun acc' H' p'=>⟨xs.length - (i+1),by omega,rfl,hlt,p'⟩,fun x H' y=>?_⟩
    obtain ⟨pp,rfl,hp,y⟩:=y
    obtain ⟨z1,z2,hz1,hz2,rfl⟩:=y xs ys qa qb
    exact hs D i z1 z2 pp as[i] acc H hD hz1 hz2 (List.getElem?_eq_getElem _) p.1 p.2.1 hp _ _ fun v H4 s r=>p.step mono hD (List.getElem?_eq_getElem _) s r
  · have e:i=xs.length:=by omega
    subst e
    obtain ⟨h1,h2,h3⟩:=p.last (by omega)
    exact .inl ⟨⟨xs,qa,Nat.le_refl _⟩,hd D acc H hD h1 h2 h3⟩
end
end L2
namespace K82
open PySem L2
def w (s:String):List Nat:=s.toList.map (·.toNat)
def nT (n:Nat):List Nat:=(Nat.toDigits 10 n).map (·.toNat)
theorem nT_dig {n c:Nat} (h:c∈nT n):48≤c∧c≤57:=by
  obtain ⟨d,hd,rfl⟩:=List.mem_map.mp h
  have:=Nat.isDigit_of_mem_toDigits (by decide) (by decide) hd
  unfold Char.isDigit at this
  simp only [Bool.and_eq_true,decide_eq_true_eq] at this
  exact ⟨this.1,this.2⟩
theorem nT_len {n k:Nat} (h:n<10 ^ k) (hk:0<k):(nT n).length≤k:=by
  unfold nT
  rw [List.length_map]
  exact (Nat.length_toDigits_le_iff (by decide) hk).mpr h
theorem nT_lt (n:Nat) (h:n<10):∃ c,nT n=[c]∧(n≠0→c≠48):=by
  have:∀ m:Fin 10,∃ c,nT m.val=[c]∧(m.val≠0→c≠48):=by
    intro m
    refine ⟨48+m.val,?_,by omega⟩
    revert m
    decide +kernel
  exact this ⟨n,h⟩
theorem nT_app {n d:Nat} (hn:0<n) (hd:d<10):nT (10 * n+d)=nT n++nT d:=by
  unfold nT
  rw [← Nat.toDigits_append_toDigits (by decide) hn hd,List.map_append]
theorem nT_hd:∀ n:Nat,∃ c r,nT n=c::r∧(n≠0→c≠48):=by
  intro n
  induction n using Nat.strongRecOn with
  | ind n ih=>
    by_cases h:n<10
    · obtain ⟨c,e,hc⟩:=nT_lt n h
      exact ⟨c,[],e,hc⟩
    · obtain ⟨c,r,e,hc⟩:=ih (n / 10) (by omega)
      have:n=10 * (n / 10)+n % 10:=by omega
      have e2:=nT_app (n:=n / 10) (d:=n % 10) (by omega) (by omega)
      rw [← this,e] at e2
      exact ⟨c,_,e2,fun _=>hc (by omega)⟩
theorem nT_0:nT 0=[48]:=by decide +kernel
theorem map_inj {α β:Type} {f:α→β} (hf:∀ a b,f a=f b→a=b):∀ {l m:List α},l.map f=m.map f→l=m
  | [],[],_=>rfl
  | [],_::_,h=>by simp at h
  | _::_,[],h=>by simp at h
  | a::l,b::m,h=>by
    rw [mZ1,mZ1] at h
    rw [hf _ _ (List.cons.inj h).1,map_inj hf (List.cons.inj h).2]
def oT:Option Nat→List Nat
  | none=>w "none"
  | some n=>nT n
theorem nT_has {n c:Nat} {l:List Nat} (hc:c∈l) (h:c<48∨57<c):nT n≠l:=fun e=>by
  subst e
  have:=nT_dig hc
  omega
theorem S_app {a b:List Nat}:Sg a++Sg b=Sg (a++b):=by
  unfold Sg
  change (⟨a.toArray++b.toArray⟩:Str)=_
  rw [List.append_toArray]
theorem S_of (s:String):Str.ofString s=Sg (w s):=Str.ofString_eq_toList s
theorem S_num (n:Nat):Str.ofString (toString (n:Int))=Sg (nT n):=by
  have e:toString (n:Int)=n.repr:=rfl
  rw [e,Str.ofString_eq_toList,Nat.toList_repr]
  rfl
theorem S_inj {a b:List Nat} (h:Sg a=Sg b):a=b:=by
  have:a.toArray=b.toArray:=congrArg Str.cps h
  simpa using this
theorem S_eq {a b:List Nat}:(Sg a=Sg b)=(a=b):=propext ⟨S_inj,fun h=>by rw [h]⟩
theorem glue_S (sep:List Nat):∀ (l:List (List Nat)) (acc:List Nat),(l.map Sg).foldl (fun a p=>a++(Sg sep).cps++p.cps) acc.toArray=(acc++l.flatMap fun p=>sep++p).toArray
  | [],acc=>by simp
  | p::r,acc=>by
    rw [mZ1,List.foldl_cons]
    have e:acc.toArray++(Sg sep).cps++(Sg p).cps=(acc++sep++p).toArray:=by unfold Sg; simp
    rw [e,glue_S sep r,List.flatMap_cons]
    simp
def jW (c:Nat):List (List Nat)→List Nat
  | []=>[]
  | p::r=>p++r.flatMap fun q=>c::q
theorem join_S (c:Nat):∀ l:List (List Nat),joinT (Sg [c]) (l.map Sg)=Sg (jW c l)
  | []=>rfl
  | [p]=>by
    change Sg p=Sg (p++[])
    rw [aZ0]
  | p::q::r=>by
    change Builtin.Str.glued (Sg [c]) ((p::q::r).map Sg)=_
    unfold Builtin.Str.glued
    have:=glue_S [c] (q::r) p
    rw [mZ1,List.drop_succ_cons,List.drop_zero,List.headD_cons]
    change (⟨((q::r).map Sg).foldl (fun a p=>a++(Sg [c]).cps++p.cps) p.toArray⟩:Str)=_
    rw [this]
    rfl
theorem jlen:∀ (l:List (List Nat)) (m:Nat),(l.map Sg).foldl (fun a p=>a+p.length+1) m=m+(l.map fun p=>p.length+1).sum
  | [],m=>by simp
  | p::r,m=>by
    rw [mZ1,List.foldl_cons,jlen r,mZ1,List.sum_cons,Sg_len]
    omega
theorem jW_len (c:Nat):∀ l:List (List Nat),(jW c l).length≤(l.map fun p=>p.length+1).sum
  | []=>by simp [jW]
  | o::r=>by
    rw [mZ1,List.sum_cons]
    unfold jW
    rw [List.length_append,List.length_flatMap]
    have:(r.map fun q=>(c::q).length).sum=(r.map fun p=>p.length+1).sum:=rfl
    omega
theorem join_ok {Q:VK} {H:Hp} {zs:List Str} {sep:Str} (c:Nat) (l:List (List Nat)) (es:sep=Sg [c]) (e:zs=l.map Sg) (h:(l.map fun p=>p.length+1).sum≤100000) (q:Q (.str (Sg (jW c l))) H):jLen sep zs≤sizeLine∧(joinT sep zs).length≤sizeLine∧Q (.str (joinT sep zs)) H:=by
  subst e es
  refine ⟨?_,?_,by rw [join_S]; exact q⟩
  · unfold jLen
    rw [List.foldl_toArray,sizeLine_eq]
    have:=jlen l 0
    change (l.map Sg).foldl (fun a p=>a+p.length+1) 0≤_
    rw [this]
    omega
  · rw [join_S,Sg_len,sizeLine_eq]
    have:=jW_len c l
    omega
theorem jW_spl {c n:Nat}:∀ {l:List (List Nat)},l≠[]→l.length≤n+1→(∀ x∈l,c ∉ x)→spl c n (jW c l)=l
  | [],h,_,_=>absurd rfl h
  | p::r,_,h1,h2=>spl_join (by simp only [lZ1] at h1; omega) h2
theorem jW_rest {c:Nat}:∀ {l:List (List Nat)} {r:List Nat},jW c (l++[r])=(l.flatMap fun q=>q++[c])++r
  | [],r=>by simp [jW]
  | [p],r=>by simp [jW]
  | p::q::l,r=>by
    have:=jW_rest (c:=c) (l:=q::l) (r:=r)
    simp only [List.cons_append,jW] at this ⊢
    have e:List.flatMap (fun q=>q++[c]) (p::q::l)++r=p++[c]++(List.flatMap (fun q=>q++[c]) (q::l)++r):=by simp
    rw [e,← this,List.flatMap_cons]
    simp
theorem jW_splR {c:Nat} {l:List (List Nat)} {r:List Nat} (h:∀ x∈l,c ∉ x):spl c l.length (jW c (l++[r]))=l++[r]:=by
  rw [jW_rest]
  exact spl_rest h
inductive Fld
  | n (k:Nat)
  | o (p:Option Nat)
  | ds (d:List (List Nat))
  | nm (s:List Nat)
  | sg (s:List Nat)
def dT (d:List Nat):List Nat:=if d=[] then w "-" else jW 44 (d.map nT)
def dsT (d:List (List Nat)):List Nat:=if d=[] then w "none" else jW 47 (d.map dT)
def fT:Fld→List Nat
  | .n k=>nT k
  | .o p=>oT p
  | .ds d=>dsT d
  | .nm s=>s
  | .sg s=>s
def okO (p:Option Nat):Prop:=∀ k,p=some k→k<100000
def okD (d:List Nat):Prop:=d.length≤3∧∀ x∈d,x<100000
def okDs (d:List (List Nat)):Prop:=d.length≤8∧∀ x∈d,okD x
def okN (s:List Nat):Prop:=s≠[]∧s.length≤8∧∀ c∈s,97≤c∧c≤122
def okS (s:List Nat):Prop:=s≠[]∧s.length≤100∧∀ c∈s,32≤c∧c≤126
def Fld.Ok:Fld→Prop
  | .n k=>k<100000
  | .o p=>okO p
  | .ds d=>okDs d
  | .nm s=>okN s
  | .sg s=>okS s
def Pr (l:List Nat):Prop:=∀ c∈l,32≤c∧c≤126
theorem Pr.app {a b:List Nat} (h:Pr a) (g:Pr b):Pr (a++b):=fun c hc=>(List.mem_append.mp hc).elim (h c) (g c)
theorem pr_w {s:String} (h:((w s).all fun c=>decide (32≤c) && decide (c≤126))=true):Pr (w s):=fun c hc=>by
  have:=List.all_eq_true.mp h c hc
  simpa using this
theorem pr_nT {n:Nat}:Pr (nT n):=fun c hc=>by have:=nT_dig hc; omega
theorem pr_jW {c:Nat} (hc:32≤c∧c≤126):∀ {l:List (List Nat)},(∀ x∈l,Pr x)→Pr (jW c l)
  | [],_=>fun c hc=>by simp [jW] at hc
  | p::r,h=>by
    unfold jW
    refine Pr.app (h p (.head _)) fun x hx=>?_
    obtain ⟨q,hq,hx⟩:=List.mem_flatMap.mp hx
    rcases List.mem_cons.mp hx with rfl|hx
    · exact hc
    · exact h q (.tail _ hq) x hx
theorem pr_dT {d:List Nat}:Pr (dT d):=by
  unfold dT
  split
  · exact pr_w (by decide)
  · exact pr_jW (by decide) fun x hx=>by
      obtain ⟨k,_,rfl⟩:=List.mem_map.mp hx
      exact pr_nT
theorem pr_dsT {d:List (List Nat)}:Pr (dsT d):=by
  unfold dsT
  split
  · exact pr_w (by decide)
  · exact pr_jW (by decide) fun x hx=>by
      obtain ⟨k,_,rfl⟩:=List.mem_map.mp hx
      exact pr_dT
theorem pr_oT:∀ {o:Option Nat},Pr (oT o)
  | none=>pr_w (by decide)
  | some _=>pr_nT
theorem pr_fT:∀ {f:Fld},f.Ok→Pr (fT f)
  | .n _,_=>pr_nT
  | .o _,_=>pr_oT
  | .ds _,_=>pr_dsT
  | .nm _,h=>fun c hc=>by have:=h.2.2 c hc; omega
  | .sg _,h=>h.2.2
theorem no_jW {b c:Nat} (hb:b≠c):∀ {l:List (List Nat)},(∀ x∈l,b ∉ x)→b ∉ jW c l
  | [],_=>by simp [jW]
  | p::r,h=>by
    unfold jW
    intro hx
    rcases List.mem_append.mp hx with hx|hx
    · exact h p (.head _) hx
    · obtain ⟨q,hq,hx⟩:=List.mem_flatMap.mp hx
      rcases List.mem_cons.mp hx with e|hx
      · exact hb e
      · exact h q (.tail _ hq) hx
theorem no_nT {b n:Nat} (h:b<48∨57<b):b ∉ nT n:=fun hb=>by have:=nT_dig hb; omega
theorem no_dT {b:Nat} {d:List Nat} (h1:b<48∨57<b) (h2:b≠44) (h3:b≠45):b ∉ dT d:=by
  unfold dT
  split
  · have:w "-"=[45]:=by decide
    rw [this]
    simpa using h3
  · exact no_jW h2 fun x hx=>by
      obtain ⟨k,_,rfl⟩:=List.mem_map.mp hx
      exact no_nT h1
theorem no_32:∀ {f:Fld},f.Ok→(∀ s,f≠.sg s)→32 ∉ fT f
  | .n _,_,_=>no_nT (by decide)
  | .o none,_,_=>(by decide:32 ∉ w "none")
  | .o (some _),_,_=>no_nT (by decide)
  | .ds d,_,_=>by
    change 32 ∉ dsT d
    unfold dsT
    split
    · decide
    · exact no_jW (by decide) fun x hx=>by
        obtain ⟨k,_,rfl⟩:=List.mem_map.mp hx
        exact no_dT (by decide) (by decide) (by decide)
  | .nm s,h,_=>fun hx=>by have:=h.2.2 _ hx; omega
  | .sg s,_,h=>absurd rfl (h s)
theorem sum_le {l:List (List Nat)} {k:Nat} (h:∀ x∈l,x.length≤k):(l.map fun p=>p.length+1).sum≤(k+1) * l.length:=by
  induction l with
  | nil=>simp
  | cons p r ih=>
    have h1:=h p (.head _)
    have h2:=ih fun x hx=>h x (.tail _ hx)
    rw [mZ1,List.sum_cons,lZ1,Nat.mul_succ]
    omega
theorem nT_len5 {n:Nat} (h:n<100000):(nT n).length≤5:=nT_len (k:=5) h (by decide)
theorem oT_len {o:Option Nat} (h:okO o):(oT o).length≤5:=by
  cases o with
  | none=>decide
  | some n=>exact nT_len5 (h n rfl)
theorem dT_sum {d:List Nat} (h:okD d):((d.map nT).map fun p=>p.length+1).sum≤18:=by
  have:=sum_le (l:=d.map nT) (k:=5) fun x hx=>by
    obtain ⟨k,hk,rfl⟩:=List.mem_map.mp hx
    exact nT_len5 (h.2 k hk)
  rw [List.length_map] at this
  have:=h.1
  omega
theorem dT_len {d:List Nat} (h:okD d):(dT d).length≤18:=by
  unfold dT
  split
  · decide
  · exact Nat.le_trans (jW_len _ _) (dT_sum h)
theorem dsT_sum {d:List (List Nat)} (h:okDs d):((d.map dT).map fun p=>p.length+1).sum≤152:=by
  have:=sum_le (l:=d.map dT) (k:=18) fun x hx=>by
    obtain ⟨k,hk,rfl⟩:=List.mem_map.mp hx
    exact dT_len (h.2 k hk)
  rw [List.length_map] at this
  have:=h.1
  omega
theorem dsT_len {d:List (List Nat)} (h:okDs d):(dsT d).length≤152:=by
  unfold dsT
  split
  · decide
  · exact Nat.le_trans (jW_len _ _) (dsT_sum h)
theorem fT_len:∀ {f:Fld},f.Ok→(fT f).length≤152
  | .n _,h=>Nat.le_trans (nT_len5 h) (by decide)
  | .o _,h=>Nat.le_trans (oT_len h) (by decide)
  | .ds _,h=>dsT_len h
  | .nm _,h=>Nat.le_trans h.2.1 (by decide)
  | .sg _,h=>Nat.le_trans h.2.1 (by decide)
theorem dT_ne {d:List Nat} (h:d≠[]):dT d≠w "-":=by
  unfold dT
  rw [if_neg h]
  cases d with
  | nil=>exact absurd rfl h
  | cons x r=>
    obtain ⟨c,l,e,_⟩:=nT_hd x
    rw [mZ1]
    unfold jW
    rw [e]
    intro q
    have hc:=nT_dig (n:=x) (c:=c) (by rw [e]; exact .head _)
    have:w "-"=[45]:=by decide
    rw [this] at q
    change c::(l++_)=_ at q
    have:=(List.cons.inj q).1
    omega
theorem dsT_ne {d:List (List Nat)} (h:d≠[]):dsT d≠w "none":=by
  unfold dsT
  rw [if_neg h]
  intro q
  have h1:110∈jW 47 (d.map dT):=by rw [q]; decide
  exact no_jW (b:=110) (c:=47) (by decide) (l:=d.map dT) (fun x hx=>by
    obtain ⟨k,_,rfl⟩:=List.mem_map.mp hx
    exact no_dT (by decide) (by decide) (by decide)) h1
theorem dT_spl {d:List Nat} (h:d≠[]) {n:Nat} (hn:d.length≤n+1):spl 44 n (dT d)=d.map nT:=by
  unfold dT
  rw [if_neg h]
  exact jW_spl (by simpa using h) (by simpa using hn) fun x hx=>by
    obtain ⟨k,_,rfl⟩:=List.mem_map.mp hx
    exact no_nT (by decide)
theorem dsT_spl {d:List (List Nat)} (h:d≠[]) {n:Nat} (hn:d.length≤n+1):spl 47 n (dsT d)=d.map dT:=by
  unfold dsT
  rw [if_neg h]
  exact jW_spl (by simpa using h) (by simpa using hn) fun x hx=>by
    obtain ⟨k,_,rfl⟩:=List.mem_map.mp hx
    exact no_dT (by decide) (by decide) (by decide)
theorem jW_ge {c:Nat}:∀ {l:List (List Nat)},l≠[]→l.length≤(jW c l).length+1
  | [],h=>absurd rfl h
  | p::r,_=>by
    unfold jW
    rw [List.length_append,List.length_flatMap,lZ1]
    have:∀ r:List (List Nat),r.length≤(r.map fun q=>(c::q).length).sum:=fun r=>by
      induction r with
      | nil=>simp
      | cons q r ih=>rw [mZ1,List.sum_cons,lZ1,lZ1]; omega
    have:=this r
    omega
end K82
namespace L2
open PySem
def noStar:Expr→Bool
  | .Starred ..=>false
  | _=>true
theorem star_cons {e:Expr} {es:List Expr} {env:Env} (h:noStar e=true):starEach (e::es) env=(false,eval e env)::starEach es env:=by
  cases e <;> first|rfl|cases h
section
variable {X:Cx} {e:Expr} {es:List Expr} {te:TE} {t:TA}
theorem pa_cX (ha:PE X e te) (hr:PA X es t) (h:noStar e=true:=by rfl):PA X (e::es) (tCons te t):=pa_cons ha hr (star_cons h)
end
structure WSs (X:Cx) (sts:List Stmt) (t:TS):Prop where
  h:PSs X sts t
structure WS (X:Cx) (st:Stmt) (t:TS):Prop where
  h:PS X st t
section
variable {X:Cx} {st:Stmt} {rest:List Stmt} {t u:TS}
end
end L2
namespace L2
open PySem PySem.Spec PyProof.Rows
section
variable {X:Cx}
end
mutual
theorem Has.same {K:PySem.W.Frag} {H H':Hp} (s:Same H H'):∀ {x:V} {d:PyData},Has K H x d→Has K H' x d
  | _,_,.non=>.non
  | _,_,.bl b=>.bl b
  | _,_,.int i=>.int i
  | _,_,.str x=>.str x
  | _,_,.lst h hs=>.lst (s.seq h) (HasAll.same s hs)
  | _,_,.tup h hs=>.tup (s.seqT h) (HasAll.same s hs)
theorem HasAll.same {K:PySem.W.Frag} {H H':Hp} (s:Same H H'):∀ {xs:List V} {ds:List PyData},HasAll K H xs ds→HasAll K H' xs ds
  | _,_,.nil=>.nil
  | _,_,.cons h hs=>.cons (Has.same s h) (HasAll.same s hs)
end
end L2
namespace L2
open PySem PySem.Spec PyProof.Rows
section
variable {X:Cx}
def CDivW (_i j:Int):Prop:=0<j∧j.natAbs.log2<9000
theorem op_fdivW:OpR X (binaryOp .FloorDiv) (rI CDivW fun i j=>.int (i / j)):=opI fun i j _ _ _ _ _ hc q=>by
  have h1:(0:Int)<j:=hc.1
  exact floordiv_int (by omega) (by rw [Int.fdiv_eq_ediv_of_nonneg i (by omega)]; exact q) (.inl (PyProof.noPylong_of_log2 hc.2))
theorem cdivw_of {i j:Int} (h:0<j) (h2:j<2 ^ 200):CDivW i j:=by
  refine ⟨h,?_⟩
  have hz:j.natAbs≠0:=by omega
  rw [Nat.log2_lt hz]
  have h3:j.natAbs<2 ^ 200:=by omega
  exact Nat.lt_of_lt_of_le h3 (Nat.pow_le_pow_right (by decide) (by decide))
end
end L2
namespace L2
open PySem PySem.Spec PyProof.Rows
section
variable {X:Cx} {o e f:Expr} {td ty tx:TE} {apos cpos:Pos}
end
end L2
namespace L2
open PySem PySem.Spec PyProof.Rows
section
variable {X:Cx} {o e f:Expr} {td ty tx:TE} {apos cpos:Pos}
end
section
variable {X:Cx}
end
section
variable {prog:Program} {w:World} {A:Around} {E:Value→Shared→Prop} {s:Shared}
end
section
variable {X:Cx}
end
end L2
namespace L2
open PySem PySem.Spec PyProof.Rows
end L2
namespace K82
open PySem L2
def stm (i:Nat):Stmt:=PySem.Challenge.pw_roadnet_k82_rows_that_are_none.main.body.getD i (.Pass ⟨0,0,0,0⟩)
section
variable {P:Program} {w:World} {K:PySem.W.Frag} {mg:Str→Option Value} {base:Heap} {C:Addr}
abbrev at_Measures:List Str:=["hands","lag","miss","raise_each","count","room","places","window","wait","keep"]
def fs_Measures (a0 a1 a2 a3 a4 a5 a6 a7 a8 a9:V):List (Str × V):=[("hands", a0),("lag", a1),("miss", a2),("raise_each", a3),("count", a4),("room", a5),("places", a6),("window", a7),("wait", a8),("keep", a9)]
section
variable {a0 a1 a2 a3 a4 a5 a6 a7 a8 a9:V}
theorem fs_Measures_hands:(fs_Measures a0 a1 a2 a3 a4 a5 a6 a7 a8 a9).lookup ("hands":Str)=some a0:=rfl
theorem fs_Measures_lag:(fs_Measures a0 a1 a2 a3 a4 a5 a6 a7 a8 a9).lookup ("lag":Str)=some a1:=rfl
theorem fs_Measures_miss:(fs_Measures a0 a1 a2 a3 a4 a5 a6 a7 a8 a9).lookup ("miss":Str)=some a2:=rfl
theorem fs_Measures_raise_each:(fs_Measures a0 a1 a2 a3 a4 a5 a6 a7 a8 a9).lookup ("raise_each":Str)=some a3:=rfl
theorem fs_Measures_count:(fs_Measures a0 a1 a2 a3 a4 a5 a6 a7 a8 a9).lookup ("count":Str)=some a4:=rfl
theorem fs_Measures_room:(fs_Measures a0 a1 a2 a3 a4 a5 a6 a7 a8 a9).lookup ("room":Str)=some a5:=rfl
theorem fs_Measures_places:(fs_Measures a0 a1 a2 a3 a4 a5 a6 a7 a8 a9).lookup ("places":Str)=some a6:=rfl
theorem fs_Measures_window:(fs_Measures a0 a1 a2 a3 a4 a5 a6 a7 a8 a9).lookup ("window":Str)=some a7:=rfl
theorem fs_Measures_wait:(fs_Measures a0 a1 a2 a3 a4 a5 a6 a7 a8 a9).lookup ("wait":Str)=some a8:=rfl
theorem fs_Measures_keep:(fs_Measures a0 a1 a2 a3 a4 a5 a6 a7 a8 a9).lookup ("keep":Str)=some a9:=rfl
theorem fn_Measures_numbers:(fs_Measures a0 a1 a2 a3 a4 a5 a6 a7 a8 a9).lookup ("numbers":Str)=none:=rfl
theorem fq_Measures_0 {v:V}:putF "hands" v ([]:List (Str × V))=([("hands", v)]:List (Str × V)):=by with_unfolding_all rfl
theorem fq_Measures_1 {v:V}:putF "lag" v ([("hands", a0)]:List (Str × V))=([("hands", a0),("lag", v)]:List (Str × V)):=by with_unfolding_all rfl
theorem fq_Measures_2 {v:V}:putF "miss" v ([("hands", a0),("lag", a1)]:List (Str × V))=([("hands", a0),("lag", a1),("miss", v)]:List (Str × V)):=by with_unfolding_all rfl
theorem fq_Measures_3 {v:V}:putF "raise_each" v ([("hands", a0),("lag", a1),("miss", a2)]:List (Str × V))=([("hands", a0),("lag", a1),("miss", a2),("raise_each", v)]:List (Str × V)):=by with_unfolding_all rfl
theorem fq_Measures_4 {v:V}:putF "count" v ([("hands", a0),("lag", a1),("miss", a2),("raise_each", a3)]:List (Str × V))=([("hands", a0),("lag", a1),("miss", a2),("raise_each", a3),("count", v)]:List (Str × V)):=by with_unfolding_all rfl
theorem fq_Measures_5 {v:V}:putF "room" v ([("hands", a0),("lag", a1),("miss", a2),("raise_each", a3),("count", a4)]:List (Str × V))=([("hands", a0),("lag", a1),("miss", a2),("raise_each", a3),("count", a4),("room", v)]:List (Str × V)):=by with_unfolding_all rfl
theorem fq_Measures_6 {v:V}:putF "places" v ([("hands", a0),("lag", a1),("miss", a2),("raise_each", a3),("count", a4),("room", a5)]:List (Str × V))=([("hands", a0),("lag", a1),("miss", a2),("raise_each", a3),("count", a4),("room", a5),("places", v)]:List (Str × V)):=by with_unfolding_all rfl
theorem fq_Measures_7 {v:V}:putF "window" v ([("hands", a0),("lag", a1),("miss", a2),("raise_each", a3),("count", a4),("room", a5),("places", a6)]:List (Str × V))=([("hands", a0),("lag", a1),("miss", a2),("raise_each", a3),("count", a4),("room", a5),("places", a6),("window", v)]:List (Str × V)):=by with_unfolding_all rfl
theorem fq_Measures_8 {v:V}:putF "wait" v ([("hands", a0),("lag", a1),("miss", a2),("raise_each", a3),("count", a4),("room", a5),("places", a6),("window", a7)]:List (Str × V))=([("hands", a0),("lag", a1),("miss", a2),("raise_each", a3),("count", a4),("room", a5),("places", a6),("window", a7),("wait", v)]:List (Str × V)):=by with_unfolding_all rfl
theorem fq_Measures_9 {v:V}:putF "keep" v ([("hands", a0),("lag", a1),("miss", a2),("raise_each", a3),("count", a4),("room", a5),("places", a6),("window", a7),("wait", a8)]:List (Str × V))=fs_Measures a0 a1 a2 a3 a4 a5 a6 a7 a8 v:=by with_unfolding_all rfl
end
abbrev s_is_whole:Stmt:=stm 9
theorem sc_is_whole:FnScope ["thing"] ["thing"] (defScope s_is_whole):=⟨rfl,rfl,rfl,by decide +kernel,rfl,by decide +kernel,by decide +kernel⟩
abbrev s_is_within:Stmt:=stm 10
theorem sc_is_within:FnScope ["thing","least","most"] ["thing","least","most"] (defScope s_is_within):=⟨rfl,rfl,rfl,by decide +kernel,rfl,by decide +kernel,by decide +kernel⟩
abbrev s_refuse_bad_measures:Stmt:=stm 14
theorem sc_refuse_bad_measures:FnScope ["numbers","number","bound","name","least","most"] ["numbers"] (defScope s_refuse_bad_measures):=⟨rfl,rfl,rfl,by decide +kernel,rfl,by decide +kernel,by decide +kernel⟩
abbrev s_Measures___init__:Stmt:=inClass (stm 15) 0
theorem sc_Measures___init__:FnScope ["self","hands","lag","miss","raise_each","count","room","places","window","wait","keep"] ["self","hands","lag","miss","raise_each","count","room","places","window","wait","keep"] (defScope s_Measures___init__):=⟨rfl,rfl,rfl,by decide +kernel,rfl,by decide +kernel,by decide +kernel⟩
abbrev s_Measures_numbers:Stmt:=inClass (stm 15) 1
theorem sc_Measures_numbers:FnScope ["self"] ["self"] (defScope s_Measures_numbers):=⟨rfl,rfl,rfl,by decide +kernel,rfl,by decide +kernel,by decide +kernel⟩
def sp_whole:Sp:=fun vs H Q _=>∃ i:Int,vs=[.int i]∧Q (.bl true) H
theorem own_whole (D:Def K mg "is_whole" s_is_whole) (hb:Blt mg):Own P w K mg base 1 "is_whole" ["thing"] sp_whole:=by
  refine D.own sc_is_whole (fun _ _ _ _ _ _ us hl=>match us,hl with|[_],_=>rfl) (fun vs H Q E h=>?_) (fun f cdv A outer s H vs Q E hr h=>?_)
  · obtain ⟨i,rfl,_⟩:=h
    rfl
  · obtain ⟨i,rfl,q⟩:=h
    refine ⟨_,(pss_one (ps_ret (pe_and (pe_callB call_isiX rfl (hb _ (by decide)) bt_isinstance (pa_cX (pv 0) (pa_cX (pe_bltn (v:=(.ty "int")) rfl (hb _ (by decide)) bt_int rfl) pa_nil))) (pe_one (pe_not (pe_callB call_isiX rfl (hb _ (by decide)) bt_isinstance (pa_cX (pv 0) (pa_cX (pe_bltn (v:=(.ty "bool")) rfl (hb _ (by decide)) bt_bool rfl) pa_nil)))))))),?_⟩
    simp (maxSteps:=1000000) only [rIsIX,tyX_i,V.ty.injEq,kT_inin,kT_inbo,Nat.reduceSub,Nat.reduceAdd,V.ty.injEq,Bool.not_false,cZ0,eZ1,if_true,tVar,tC,tRet,tAndV,tNotV,tCons,tNil,tCB,L2.start,mZ1,mZ0,lZ1,lZ0,List.replicate,gZ0,oZ0,eZ0,V.bl.injEq,and_true,and_assoc,aZ0]
    exact q
def sp_within:Sp:=fun vs H Q _=>∃ i a b:Int,vs=[.int i,.int a,.int b]∧a≤i∧i≤b∧Q (.bl true) H
theorem own_within (D:Def K mg "is_within" s_is_within) (F_is_whole:Own P w K mg base 1 "is_whole" ["thing"] sp_whole):Own P w K mg base 2 "is_within" ["thing","least","most"] sp_within:=by
  refine D.own sc_is_within (fun _ _ _ _ _ _ us hl=>match us,hl with|[_,_,_],_=>rfl) (fun vs H Q E h=>?_) (fun f cdv A outer s H vs Q E hr h=>?_)
  · obtain ⟨i,a,b,rfl,_⟩:=h
    rfl
  · obtain ⟨i,a,b,rfl,h1,h2,q⟩:=h
    refine ⟨_,(pss_one (ps_ret (pe_and (pe_fn F_is_whole hr (pa_cX (pv 0) pa_nil)) (pe_one (pe_chain op_le op_le (pv 1) (pv 0) (pv 2)))))),?_⟩
    simp (maxSteps:=1000000) only [Nat.reduceSub,Nat.reduceAdd,cZ0,eZ1,if_true,tVar,rI0,tRet,tAndV,tCall,tCons,tNil,tChain,L2.start,mZ1,mZ0,lZ1,lZ0,List.replicate,gZ0,gZ1,oZ0,eZ0,V.int.injEq,V.bl.injEq,and_true,aZ0,sp_whole]
    rw [decide_eq_true h1,decide_eq_true h2]
    exact iteT q
def bds:List (String × Int × Int):=[("hands", 2,12),("lag", 1,32),("miss", 1,400),("raise", 1,1000),("count", 0,60),("room", 1,16),("places", 1,16),("window", 1,60),("wait", 1,10000),("keep", 0,10000)]
structure BdAt (K:PySem.W.Frag) (mg:Str→Option Value) (a:Addr) (bs:List Addr):Prop where
  g:∃ u,mg "BOUNDS"=some u∧RelV (.ref a) u
  t:∀ H,SqT K H a (bs.map V.ref)
  e:∀ (i:Nat) b (q:String × Int × Int),bs[i]?=some b→bds[i]?=some q→∀ H,SqT K H b [.str (Str.ofString q.1),.int q.2.1,.int q.2.2]
  l:bs.length=10
def inB (ns:List Int):Prop:=ns.length=10∧∀ (i:Nat) n (q:String × Int × Int),ns[i]?=some n→bds[i]?=some q→q.2.1≤n∧n≤q.2.2
def sp_rbm:Sp:=fun vs H Q _=>∃ (p:Addr) (ns:List Int),vs=[.ref p]∧H p=some (.lst (ns.map V.int))∧inB ns∧∀ H',Same H H'→Q .non H'
theorem own_rbm {a:Addr} {bs:List Addr} (D:Def K mg "refuse_bad_measures" s_refuse_bad_measures) (hb:Blt mg) (hzip:mg "zip"=none) (B:BdAt K mg a bs) (F_is_within:Own P w K mg base 2 "is_within" ["thing","least","most"] sp_within):Own P w K mg base 3 "refuse_bad_measures" ["numbers"] sp_rbm:=by
  have g_BOUNDS:=B.g
  refine D.own sc_refuse_bad_measures (fun _ _ _ _ _ _ us hl=>match us,hl with|[_],_=>rfl) (fun vs H Q E h=>?_) (fun f cdv A outer s H vs Q E hr h=>?_)
  · obtain ⟨p,ns,rfl,_⟩:=h
    rfl
  · obtain ⟨p,ns,rfl,ep,hi,q⟩:=h
    have hu:=hr.units
    have hu1:(A.deeper (PyProof.Rows.envOfC "refuse_bad_measures" (defScope s_refuse_bad_measures) s.heap.objs.size f cdv)).units+1<cLine:=by omega
    refine ⟨_,(pss_one (ps_for PassesOwn.never rfl (pi_zip K rfl hzip (pa_cX (pv 0) (pa_cX (pe_glb g_BOUNDS) pa_nil))) (pg_seqX (n:=2) rfl (pgs_cons (pg_name (i:=1) sc_refuse_bad_measures.nd rfl (by first|exact Or.inl rfl|exact Or.inr rfl)) (pgs_cons (pg_name (i:=2) sc_refuse_bad_measures.nd rfl (by first|exact Or.inl rfl|exact Or.inr rfl)) pgs_nil))) (pss_cons (ps_st (i:=3) sc_refuse_bad_measures.nd rfl (pe_ix (ix_tupK K) (pv 2) pe_int (fun _ _=>rfl))) (pss_cons (ps_st (i:=4) sc_refuse_bad_measures.nd rfl (pe_ix (ix_tupK K) (pv 2) pe_int (fun _ _=>rfl))) (pss_cons (ps_st (i:=5) sc_refuse_bad_measures.nd rfl (pe_ix (ix_tupK K) (pv 2) pe_int (fun _ _=>rfl))) (pss_one (ps_if (pt_not (pt_truX (pe_fn F_is_within hr (pa_cX (pv 1) (pa_cX (pv 4) (pa_cX (pv 5) pa_nil)))))) (pss_one ps_never) pss_nil))))))),?_⟩
    simp (maxSteps:=1000000) only [tFor_eq,Nat.reduceSub,Nat.reduceAdd,cZ0,eZ1,tVar,tC,tCons,tNil,L2.start,mZ1,mZ0,lZ1,lZ0,List.replicate,List.cons_append,List.nil_append,gZ0,oZ0,eZ0,V.ref.injEq,and_true,and_assoc,iZip]
    refine ⟨⟨_,SqL.of ep⟩,⟨_,B.t H⟩,for_zip (xs:=ns.map V.int) (ys:=bs.map V.ref) (by rw [List.length_map,List.length_map,hi.1,B.l]; exact Nat.le_refl _) (fun i σ H'=>Same H H'∧∃ v1 v2 v3 v4 v5,σ=[some (.ref p),v1,v2,v3,v4,v5]) ⟨.refl _,_,_,_,_,_,rfl⟩ ?_ ?_ ?_⟩
    · rintro i σ H' _ ⟨s',_⟩
      exact ⟨SqL.of (s' _ _ ep),B.t H'⟩
    · rintro i x y pp σ H' hx hy np ⟨s',v1,v2,v3,v4,v5,rfl⟩
      rw [List.getElem?_map] at hx hy
      obtain ⟨n,hn,rfl⟩:=Option.map_eq_some_iff.mp hx
      obtain ⟨b,hb',rfl⟩:=Option.map_eq_some_iff.mp hy
      have hi10:i<bds.length:=by
        have:=(List.getElem?_eq_some_iff.mp hn).1
        have h10:bds.length=10:=rfl
        rw [hi.1] at this
        omega
      have hq:bds[i]?=some bds[i]:=List.getElem?_eq_getElem hi10
      have hin:=hi.2 i n _ hn hq
      have hbt:=B.e i b _ hb' hq
      have epp:upd H' pp (.tup [.int n,.ref b]) pp=some (.tup [.int n,.ref b]):=upd_same
      have s2:Same H (upd H' pp (.tup [.int n,.ref b])):=s'.upd (s'.free np)
      generalize upd H' pp (.tup [.int n,.ref b])=H2 at epp s2 ⊢
      simp (maxSteps:=1000000) only [gSeqX,tTruX,seqO_t,gCons,gNil,Nat.reduceAdd,tNever,exists_eq',rIxT,cZ0,tSeq,eZ1,tIfS,tNot,tOp,tVar,tC,tAsg,gName,tNext,tCall,tCons,tNil,lZ1,lZ0,gZ0,gZ1,sZ0,sZ1,oZ0,eZ0,V.int.injEq,V.ref.injEq,and_true,true_and,and_assoc,aZ0,epp]
      exact ⟨_,hbt H2,_,rfl,_,hbt H2,_,rfl,_,hbt H2,_,rfl,n,_,_,rfl,hin.1,hin.2,true,rfl,by simpa using s2⟩
    · rintro σ H' ⟨s',_⟩
      exact q _ s'
structure Ms where
  hands:Int
  lag:Int
  miss:Int
  each:Int
  count:Int
  room:Int
  places:Int
  window:Int
  wait:Int
  keep:Int
def Ms.l (m:Ms):List Int:=[m.hands,m.lag,m.miss,m.each,m.count,m.room,m.places,m.window,m.wait,m.keep]
abbrev fsM (m:Ms):List (Str × V):=fs_Measures (.int m.hands) (.int m.lag) (.int m.miss) (.int m.each) (.int m.count) (.int m.room) (.int m.places) (.int m.window) (.int m.wait) (.int m.keep)
def sp_minit (C:Addr):Sp:=fun vs H Q _=>∃ (x dx:Addr) (m:Ms),vs=[.ref x,.int m.hands,.int m.lag,.int m.miss,.int m.each,.int m.count,.int m.room,.int m.places,.int m.window,.int m.wait,.int m.keep]∧H x=some (.ins C dx [])∧inB m.l∧∀ H',H' x=some (.ins C dx (fsM m))→Keep [x] H H'→Q .non H'
theorem cons_of {α:Type} {us:List α} {n:Nat} (h:us.length=n+1):∃ a r,us=a::r∧r.length=n:=by
  cases us with
  | nil=>cases h
  | cons a r=>exact ⟨a,r,rfl,Nat.succ.inj h⟩
abbrev mσ (x:Addr) (a0 a1 a2 a3 a4 a5 a6 a7 a8 a9:Int):St:=[some (.ref x),some (.int a0),some (.int a1),some (.int a2),some (.int a3),some (.int a4),some (.int a5),some (.int a6),some (.int a7),some (.int a8),some (.int a9)]
set_option maxHeartbeats 8000000 in
theorem own_minit (D:DefI K C "Measures.__init__" s_Measures___init__) (T_Measures:ClsD K mg "Measures" C at_Measures) (F_refuse_bad_measures:Own P w K mg base 3 "refuse_bad_measures" ["numbers"] sp_rbm):OwnI P w K mg base 4 C ["self","hands","lag","miss","raise_each","count","room","places","window","wait","keep"] (sp_minit C):=by
  refine D.own sc_Measures___init__ (fun _ _ _ _ _ _ us hl=>by
    obtain ⟨b0,u0,rfl,h0⟩:=cons_of hl
    obtain ⟨b1,u1,rfl,h1⟩:=cons_of h0
    obtain ⟨b2,u2,rfl,h2⟩:=cons_of h1
    obtain ⟨b3,u3,rfl,h3⟩:=cons_of h2
    obtain ⟨b4,u4,rfl,h4⟩:=cons_of h3
    obtain ⟨b5,u5,rfl,h5⟩:=cons_of h4
    obtain ⟨b6,u6,rfl,h6⟩:=cons_of h5
    obtain ⟨b7,u7,rfl,h7⟩:=cons_of h6
    obtain ⟨b8,u8,rfl,h8⟩:=cons_of h7
    obtain ⟨b9,u9,rfl,h9⟩:=cons_of h8
    obtain ⟨b10,u10,rfl,h10⟩:=cons_of h9
    obtain rfl:=List.length_eq_zero_iff.mp h10
    rfl) (fun vs H Q E h=>?_) (fun f cdv A outer s H vs Q E hr h=>?_)
  · obtain ⟨x,dx,m,rfl,_⟩:=h
    rfl
  · obtain ⟨x,dx,m,rfl,e,hi,q⟩:=h
    refine ⟨_,(pss_cons (ps_expr (pe_fn F_refuse_bad_measures hr (pa_cX (pe_lst (pa_cX (pv 1) (pa_cX (pv 2) (pa_cX (pv 3) (pa_cX (pv 4) (pa_cX (pv 5) (pa_cX (pv 6) (pa_cX (pv 7) (pa_cX (pv 8) (pa_cX (pv 9) (pa_cX (pv 10) pa_nil))))))))))) pa_nil))) (pss_cons (ps_fld (pv 0) (pv 1) rfl) (pss_cons (ps_fld (pv 0) (pv 2) rfl) (pss_cons (ps_fld (pv 0) (pv 3) rfl) (pss_cons (ps_fld (pv 0) (pv 4) rfl) (pss_cons (ps_fld (pv 0) (pv 5) rfl) (pss_cons (ps_fld (pv 0) (pv 6) rfl) (pss_cons (ps_fld (pv 0) (pv 7) rfl) (pss_cons (ps_fld (pv 0) (pv 8) rfl) (pss_cons (ps_fld (pv 0) (pv 9) rfl) (pss_one (ps_fld (pv 0) (pv 10) rfl)))))))))))),?_⟩
    obtain ⟨a0,a1,a2,a3,a4,a5,a6,a7,a8,a9⟩:=m
    dsimp only at hi q ⊢
    refine use1 (fun σ H'=>σ=mσ x a0 a1 a2 a3 a4 a5 a6 a7 a8 a9∧Same H H') ?_ (fun X hX=>?_)
    rotate_left
    · simp (maxSteps:=1000000) only [Nat.reduceSub,Nat.reduceAdd,tSeq,tVar,tCall,tCons,tNil,tDrop,tLst,L2.start,mZ1,mZ0,lZ1,lZ0,List.replicate,gZ0,gZ1,oZ0,eZ0,aZ0]
      refine ⟨by rw [sizeLine_eq]; decide,?_⟩
      intro p1 n1
      generalize z1:upd H p1 _=H1
      obtain ⟨s1,e1⟩:=new_same z1 n1
      exact ⟨p1,[a0,a1,a2,a3,a4,a5,a6,a7,a8,a9],rfl,e1,hi,fun H2 s2=>hX _ _ ⟨rfl,s1.trans s2⟩⟩
    rintro σ H1 ⟨rfl,s1⟩
    have e1:=s1 _ _ e
    have k1:Keep [x] H H1:=s1.keep
    clear s1 e
    refine use3 (fun σ H'=>σ=mσ x a0 a1 a2 a3 a4 a5 a6 a7 a8 a9∧H' x=some (.ins C dx [(Str.ofString "hands", V.int a0),(Str.ofString "lag", V.int a1),(Str.ofString "miss", V.int a2)])∧Keep [x] H H') ?_ (fun X hX=>?_)
    rotate_left
    · simp (maxSteps:=1000000) only [upd_same,upd_upd,Nat.reduceLT,HO.ins.injEq,Nat.reduceAdd,sFld,cxOf_K,tSeq,eZ1,tVar,lZ1,lZ0,gZ0,gZ1,oZ0,eZ0,V.ref.injEq,true_and,and_assoc,e1,T_Measures.cl,T_Measures.no "hands" (by decide),T_Measures.no "lag" (by decide),T_Measures.no "miss" (by decide),fq_Measures_0,fq_Measures_1,fq_Measures_2,upd_same,upd_upd]
      exact hX _ _ ⟨rfl,upd_same,k1.upd (.inl (.head _))⟩
    clear e1 k1
    rintro σ H1 ⟨rfl,e1,k1⟩
    refine use3 (fun σ H'=>σ=mσ x a0 a1 a2 a3 a4 a5 a6 a7 a8 a9∧H' x=some (.ins C dx [(Str.ofString "hands", V.int a0),(Str.ofString "lag", V.int a1),(Str.ofString "miss", V.int a2),(Str.ofString "raise_each", V.int a3),(Str.ofString "count", V.int a4),(Str.ofString "room", V.int a5)])∧Keep [x] H H') ?_ (fun X hX=>?_)
    rotate_left
    · simp (maxSteps:=1000000) only [upd_same,upd_upd,Nat.reduceLT,HO.ins.injEq,Nat.reduceAdd,sFld,cxOf_K,tSeq,eZ1,tVar,lZ1,lZ0,gZ0,gZ1,oZ0,eZ0,V.ref.injEq,true_and,and_assoc,e1,T_Measures.cl,T_Measures.no "raise_each" (by decide),T_Measures.no "count" (by decide),T_Measures.no "room" (by decide),fq_Measures_3,fq_Measures_4,fq_Measures_5,upd_same,upd_upd]
      exact hX _ _ ⟨rfl,upd_same,k1.upd (.inl (.head _))⟩
    clear e1 k1
    rintro σ H1 ⟨rfl,e1,k1⟩
    simp (maxSteps:=1000000) only [upd_same,upd_upd,Nat.reduceLT,HO.ins.injEq,Nat.reduceAdd,sFld,cxOf_K,tSeq,eZ1,tVar,lZ1,lZ0,gZ0,gZ1,oZ0,eZ0,V.ref.injEq,true_and,and_assoc,e1,T_Measures.cl,T_Measures.no "places" (by decide),T_Measures.no "window" (by decide),T_Measures.no "wait" (by decide),T_Measures.no "keep" (by decide),fq_Measures_6,fq_Measures_7,fq_Measures_8,fq_Measures_9,upd_same,upd_upd]
    exact q _ upd_same (k1.upd (.inl (.head _)))
def sp_mnum (C:Addr):Sp:=fun vs H Q _=>∃ (x dx:Addr) (m:Ms),vs=[.ref x]∧H x=some (.ins C dx (fsM m))∧∀ p H',H p=none→H' p=some (.lst (m.l.map V.int))→Same H H'→Q (.ref p) H'
theorem own_mnum (D:DefM K C "numbers" "Measures.numbers" s_Measures_numbers) (T_Measures:ClsD K mg "Measures" C at_Measures):OwnM P w K mg base 1 C "numbers" ["self"] (sp_mnum C):=by
  refine D.own sc_Measures_numbers (fun _ _ _ _ _ _ us hl=>match us,hl with|[_],_=>rfl) (fun vs H Q E h=>?_) (fun f cdv A outer s H vs Q E hr h=>?_)
  · obtain ⟨x,dx,m,rfl,_⟩:=h
    rfl
  · obtain ⟨x,dx,m,rfl,e,q⟩:=h
    refine ⟨_,(pss_one (ps_ret (pe_lst (pa_cX (pe_fldK K (pv 0)) (pa_cX (pe_fldK K (pv 0)) (pa_cX (pe_fldK K (pv 0)) (pa_cX (pe_fldK K (pv 0)) (pa_cX (pe_fldK K (pv 0)) (pa_cX (pe_fldK K (pv 0)) (pa_cX (pe_fldK K (pv 0)) (pa_cX (pe_fldK K (pv 0)) (pa_cX (pe_fldK K (pv 0)) (pa_cX (pe_fldK K (pv 0)) pa_nil))))))))))))),?_⟩
    simp (maxSteps:=1000000) only [Nat.reduceSub,HO.ins.injEq,Nat.reduceAdd,tFld,eZ1,tVar,tRet,tCons,tNil,tLst,L2.start,mZ1,mZ0,lZ1,lZ0,List.replicate,gZ0,oZ0,eZ0,V.ref.injEq,true_and,and_assoc,aZ0,e,T_Measures.cl,T_Measures.no "hands" (by decide),T_Measures.no "lag" (by decide),T_Measures.no "miss" (by decide),T_Measures.no "raise_each" (by decide),T_Measures.no "count" (by decide),T_Measures.no "room" (by decide),T_Measures.no "places" (by decide),T_Measures.no "window" (by decide),T_Measures.no "wait" (by decide),T_Measures.no "keep" (by decide),fs_Measures_hands,fs_Measures_lag,fs_Measures_miss,fs_Measures_raise_each,fs_Measures_count,fs_Measures_room,fs_Measures_places,fs_Measures_window,fs_Measures_wait,fs_Measures_keep]
    refine ⟨by rw [sizeLine_eq]; decide,fun p hp=>q p _ hp ?_ (.upd_new hp)⟩
    exact upd_same
end
end K82
namespace K82
open PySem L2
def rAddS:R2:=fun x y H Q=>∃ a b:List Nat,x=.str (Sg a)∧y=.str (Sg b)∧a.length+b.length≤100000∧Q (.str (Sg (a++b))) H
theorem op_addS {X:Cx}:OpR X (binaryOp .Add) rAddS:=op_add_str.weak fun _ _ _ _ ⟨a,b,h1,h2,hl,q⟩=>⟨Sg a,Sg b,h1,h2,by rw [Sg_len,Sg_len,sizeLine_eq]; omega,by rw [S_app]; exact q⟩
theorem log13 {n:Nat} (h:n≤10 ^ 13):((n:Int)).natAbs.log2<1920:=by
  rw [Int.natAbs_natCast]
  have h1:n<2 ^ 44:=Nat.lt_of_le_of_lt h (by decide)
  by_cases z:n=0
  · subst z; decide
  · have:=(Nat.log2_lt z).mpr h1
    omega
def rStrS:List V→Hp→VK→Prop:=fun xs H Q=>(∃ n:Nat,xs=[.int (n:Int)]∧n≤10 ^ 13∧Q (.str (Sg (nT n))) H)∨(∃ z:List Nat,xs=[.str (Sg z)]∧Q (.str (Sg z)) H)∨(xs=[.non]∧Q (.str (Sg (w "None"))) H)
theorem call_strS {X:Cx}:CallR X (.type "str") rStrS:=fun pins s σ H xs us Q I r h=>call_strV pins s σ H xs us Q I r (by
  rcases h with ⟨n,e,hn,q⟩|⟨z,e,q⟩|⟨e,q⟩
  · exact .inl ⟨n,e,log13 hn,by have:=S_num n; rw [← this] at q; exact q⟩
  · exact .inr (.inl ⟨_,e,q⟩)
  · exact .inr (.inr ⟨e,by rw [S_of]; exact q⟩))
theorem nat_eq {a b:Nat}:((a:Int)=(b:Int))=(a=b):=propext ⟨fun h=>by omega,fun h=>by rw [h]⟩
def onV:Option Nat→V
  | none=>.non
  | some n=>.int (n:Int)
def niV (n:Nat):V:=.int (n:Int)
def RD (N:Addr→Prop) (H:Hp) (d:List Nat) (v:V):Prop:=∃ t,v=.ref t∧N t∧H t=some (.tup (d.map niV))
def RF (N:Addr→Prop) (H:Hp):Fld→V→Prop
  | .n k,v=>v=niV k
  | .o p,v=>v=onV p
  | .ds d,v=>∃ q us,v=.ref q∧N q∧H q=some (.lst us)∧Paired (RD N H) d us
  | .nm s,v=>v=.str (Sg s)
  | .sg s,v=>v=.str (Sg s)
section
variable {N N':Addr→Prop} {H H':Hp} {A:List Addr}
theorem RD.keep (k:Keep A H H') (hA:∀ b∈A,¬ N b) {d:List Nat} {v:V} (h:RD N H d v):RD N H' d v:=by
  obtain ⟨t,e,n,h⟩:=h
  exact ⟨t,e,n,k _ _ h fun z=>hA _ z n⟩
theorem RD.mono (m:∀ a,N a→N' a) {d:List Nat} {v:V} (h:RD N H d v):RD N' H d v:=by
  obtain ⟨t,e,n,h⟩:=h
  exact ⟨t,e,m _ n,h⟩
theorem RF.keep (k:Keep A H H') (hA:∀ b∈A,¬ N b):∀ {f:Fld} {v:V},RF N H f v→RF N H' f v
  | .n _,_,h=>h
  | .o _,_,h=>h
  | .ds _,_,⟨q,us,e,n,h,p⟩=>⟨q,us,e,n,k _ _ h fun z=>hA _ z n,paired_imp (fun _ _ x=>x.keep k hA) p⟩
  | .nm _,_,h=>h
  | .sg _,_,h=>h
theorem RF.mono (m:∀ a,N a→N' a):∀ {f:Fld} {v:V},RF N H f v→RF N' H f v
  | .n _,_,h=>h
  | .o _,_,h=>h
  | .ds _,_,⟨q,us,e,n,h,p⟩=>⟨q,us,e,m _ n,h,paired_imp (fun _ _ x=>x.mono m) p⟩
  | .nm _,_,h=>h
  | .sg _,_,h=>h
theorem RD.same (s:Same H H') {d:List Nat} {v:V} (h:RD N H d v):RD N H' d v:=h.keep (A:=[]) s.keep (fun _ z=>nomatch z)
theorem RF.same (s:Same H H') {f:Fld} {v:V} (h:RF N H f v):RF N H' f v:=h.keep (A:=[]) s.keep (fun _ z=>nomatch z)
end
def isN:Fld→Prop
  | .n _=>True
  | .o _=>True
  | _=>False
theorem isN.eq:∀ {f:Fld},isN f→f.Ok→∃ o:Option Nat,fT f=oT o∧okO o∧∀ {N H v},RF N H f v→v=onV o
  | .n k,_,h=>⟨some k,rfl,(fun _ e=>by cases e; exact h),fun h=>h⟩
  | .o p,_,h=>⟨p,rfl,h,fun h=>h⟩
section
variable {P:Program} {w:World} {K:PySem.W.Frag} {mg:Str→Option Value} {base:Heap} {C:Addr}
abbrev s_number_text:Stmt:=stm 25
theorem sc_number_text:FnScope ["number"] ["number"] (defScope s_number_text):=⟨rfl,rfl,rfl,by decide +kernel,rfl,by decide +kernel,by decide +kernel⟩
abbrev s_numbers_text:Stmt:=stm 26
theorem sc_numbers_text:FnScope ["numbers"] ["numbers"] (defScope s_numbers_text):=⟨rfl,rfl,rfl,by decide +kernel,rfl,by decide +kernel,by decide +kernel⟩
theorem cs_numbers_text_0:CScope ["number"] [] { kind:=.function,names:=[(".0", .local),("number", .local),("number_text", .globalImplicit)],isGenerator:=false,isCoroutine:=false,more:=[] } (defScope s_numbers_text):=⟨rfl,by decide +kernel,by decide +kernel,by decide +kernel,by decide +kernel,by decide +kernel⟩
abbrev s_wish_text:Stmt:=stm 27
theorem sc_wish_text:FnScope ["word","what","goal","text"] ["word","what"] (defScope s_wish_text):=⟨rfl,rfl,rfl,by decide +kernel,rfl,by decide +kernel,by decide +kernel⟩
abbrev s_deed_text:Stmt:=stm 28
theorem sc_deed_text:FnScope ["deed"] ["deed"] (defScope s_deed_text):=⟨rfl,rfl,rfl,by decide +kernel,rfl,by decide +kernel,by decide +kernel⟩
theorem cs_deed_text_0:CScope ["delay"] [] { kind:=.function,names:=[(".0", .local),("delay", .local),("str", .globalImplicit)],isGenerator:=false,isCoroutine:=false,more:=[] } (defScope s_deed_text):=⟨rfl,by decide +kernel,by decide +kernel,by decide +kernel,by decide +kernel,by decide +kernel⟩
abbrev s_deeds_text:Stmt:=stm 29
theorem sc_deeds_text:FnScope ["deeds"] ["deeds"] (defScope s_deeds_text):=⟨rfl,rfl,rfl,by decide +kernel,rfl,by decide +kernel,by decide +kernel⟩
theorem cs_deeds_text_0:CScope ["deed"] [] { kind:=.function,names:=[(".0", .local),("deed", .local),("deed_text", .globalImplicit)],isGenerator:=false,isCoroutine:=false,more:=[] } (defScope s_deeds_text):=⟨rfl,by decide +kernel,by decide +kernel,by decide +kernel,by decide +kernel,by decide +kernel⟩
def sp_num:Sp:=fun vs H Q _=>∃ o:Option Nat,vs=[onV o]∧okO o∧Q (.str (Sg (oT o))) H
theorem own_num (D:Def K mg "number_text" s_number_text) (hb:Blt mg) (g_NONE:∃ u,mg "NONE"=some u∧RelV (.str (Str.ofString "none")) u):Own P w K mg base 1 "number_text" ["number"] sp_num:=by
  refine D.own sc_number_text (fun _ _ _ _ _ _ us hl=>match us,hl with|[_],_=>rfl) (fun vs H Q E h=>?_) (fun f cdv A outer s H vs Q E hr h=>?_)
  · obtain ⟨o,rfl,_⟩:=h
    rfl
  · obtain ⟨o,rfl,hs,q⟩:=h
    refine ⟨_,(pss_one (ps_ret (pe_ifExp (pt_cmpR op_isN (pv 0) pe_non (nomark _)) (pe_glb g_NONE) (pe_callTy call_strS rfl (hb _ (by decide)) bt_str (pa_cX (pv 0) pa_nil))))),?_⟩
    cases o with
    | none=>
      simp (maxSteps:=1000000) only [Nat.reduceSub,Nat.reduceAdd,decide_true,if_true,tTest,tOp,tVar,tC,tRet,tIf,tCons,tNil,tCB,L2.start,mZ1,mZ0,lZ1,lZ0,List.replicate,gZ0,oZ0,eZ0,V.bl.injEq,true_and,aZ0,onV]
      rw [S_of]
      exact q
    | some n=>
      simp (maxSteps:=1000000) only [Nat.reduceSub,Nat.reduceAdd,decide_false,cZ0,if_false,Bool.false_eq_true,tTest,tOp,tVar,tC,tRet,tIf,tCons,tNil,tCB,L2.start,mZ1,mZ0,lZ1,lZ0,List.replicate,gZ0,oZ0,eZ0,V.int.injEq,V.bl.injEq,exists_const,and_true,true_and,reduceCtorEq,false_and,or_false,aZ0,onV,rStrS,nat_eq]
      have:=hs n rfl
      exact ⟨by omega,q⟩
def SqB (H:Hp) (p:Addr) (vs:List V):Prop:=H p=some (.lst vs)∨H p=some (.tup vs)
def sp_nums:Sp:=fun vs H Q _=>∃ (p:Addr) (us:List V) (os:List (Option Nat)),vs=[.ref p]∧SqB H p us∧us=os.map onV∧(∀ o∈os,okO o)∧os.length≤10∧∀ H',Same H H'→Q (.str (Sg (jW 32 (os.map oT)))) H'
theorem strs_of {H:Hp} {α:Type} {f:α→List Nat} {as:List α} {vs:List V} (h:Paired (fun a v=>v=.str (Sg (f a))) as vs):vs=((as.map f).map Sg).map V.str:=by
  induction h with
  | nil=>rfl
  | cons h t ih=>rw [mZ1,mZ1,mZ1,h,ih]
theorem own_nums (D:Def K mg "numbers_text" s_numbers_text) (F_number_text:Own P w K mg base 1 "number_text" ["number"] sp_num):Own P w K mg base 2 "numbers_text" ["numbers"] sp_nums:=by
  refine D.own sc_numbers_text (fun _ _ _ _ _ _ us hl=>match us,hl with|[_],_=>rfl) (fun vs H Q E h=>?_) (fun f cdv A outer s H vs Q E hr h=>?_)
  · obtain ⟨p,us,os,rfl,_⟩:=h
    rfl
  · obtain ⟨p,us,os,rfl,ep,rfl,hs,hl,q⟩:=h
    have hsum:=sum_le (l:=os.map oT) (k:=5) fun x hx=>by
      obtain ⟨o,ho,rfl⟩:=List.mem_map.mp hx
      exact oT_len (hs o ho)
    rw [List.length_map] at hsum
    have fin:∀ D vs H',Same H H'→H' D=some (.lst vs)→Paired (fun (o:Option Nat) v=>v=.str (Sg (oT o))) os vs→∃ zs,H' D=some (.lst (List.map V.str zs))∧jLen (Str.ofString " ") zs≤sizeLine∧(joinT (Str.ofString " ") zs).length≤sizeLine∧Q (.str (joinT (Str.ofString " ") zs)) H':=fun D vs H' s' eD p=>by
      rw [strs_of (H:=H) p] at eD
      exact ⟨_,eD,join_ok 32 _ (S_of " ") rfl (by omega) (q _ s')⟩
    rcases ep with ep|ep
    · refine ⟨_,(pss_one (ps_ret (pe_join pe_str (pe_comp ["number"] [] [] rfl cs_numbers_text_0 (pi_listK K (pv 0)) (fun _ _ _ _=>(pg_name (i:=0) cs_numbers_text_0.nd rfl (by first|exact Or.inl rfl|exact Or.inr rfl))) (fun _ _ _ _=>pf_nil) (fun _ _ _ _=>(pe_fn F_number_text hr (pa_cX (pv 0) pa_nil)))) (by constructor <;> rfl)))),?_⟩
      simp (maxSteps:=1000000) only [tComp_eq,Nat.reduceSub,Nat.reduceAdd,iList,eZ1,tVar,tC,tRet,L2.start,mZ1,mZ0,lZ1,lZ0,List.replicate,gZ0,oZ0,eZ0,V.ref.injEq,V.str.injEq,aZ0,tJoin]
      refine ⟨⟨_,SqL.of ep⟩,grow_list (SqL.of ep) (by rw [sizeLine_eq,List.length_map]; omega) os (by simp) (fun _ o v=>v=.str (Sg (oT o))) (fun _ _ _ _ _ h=>h) ?_ ?_⟩
      · rintro D i x o acc H2 hD hx ho s2 eD Nx Y k
        rw [List.getElem?_map,ho] at hx
        cases hx
        simp (maxSteps:=1000000) only [tYes,cSt,List.drop_succ_cons,List.drop_zero,if_true,tVar,gName,tCall,tCons,tNil,mZ0,List.replicate,gZ0,sZ0,oZ0,eZ0,true_and,aZ0]
        exact ⟨o,rfl,hs o (List.mem_of_getElem? ho),k _ _ (.refl _) fun _=>rfl⟩
      · rintro D vs H2 hD s2 eD p
        exact ⟨D,rfl,fin D vs H2 s2 eD p⟩
    · refine ⟨_,(pss_one (ps_ret (pe_join pe_str (pe_comp ["number"] [] [] rfl cs_numbers_text_0 (pi_tupK K (pv 0)) (fun _ _ _ _=>(pg_name (i:=0) cs_numbers_text_0.nd rfl (by first|exact Or.inl rfl|exact Or.inr rfl))) (fun _ _ _ _=>pf_nil) (fun _ _ _ _=>(pe_fn F_number_text hr (pa_cX (pv 0) pa_nil)))) (by constructor <;> rfl)))),?_⟩
      simp (maxSteps:=1000000) only [tComp_eq,Nat.reduceSub,Nat.reduceAdd,eZ1,tVar,tC,tRet,L2.start,mZ1,mZ0,lZ1,lZ0,List.replicate,gZ0,oZ0,eZ0,V.ref.injEq,V.str.injEq,aZ0,tJoin,iTup]
      refine ⟨⟨_,SqT.of ep⟩,grow_tup (SqT.of ep) (by rw [sizeLine_eq,List.length_map]; omega) os (by simp) (fun _ o v=>v=.str (Sg (oT o))) (fun _ _ _ _ _ h=>h) ?_ ?_⟩
      · rintro D i x o acc H2 hD hx ho s2 eD Nx Y k
        rw [List.getElem?_map,ho] at hx
        cases hx
        simp (maxSteps:=1000000) only [tYes,cSt,List.drop_succ_cons,List.drop_zero,if_true,tVar,gName,tCall,tCons,tNil,mZ0,List.replicate,gZ0,sZ0,oZ0,eZ0,true_and,aZ0]
        exact ⟨o,rfl,hs o (List.mem_of_getElem? ho),k _ _ (.refl _) fun _=>rfl⟩
      · rintro D vs H2 hD s2 eD p
        exact ⟨D,rfl,fin D vs H2 s2 eD p⟩
def sp_deed:Sp:=fun vs H Q _=>∃ (v:V) (d:List Nat) (N:Addr→Prop),vs=[v]∧RD N H d v∧okD d∧∀ H',Same H H'→Q (.str (Sg (dT d))) H'
theorem own_deed (D:Def K mg "deed_text" s_deed_text) (hb:Blt mg) (g_NO_DELAYS:∃ u,mg "NO_DELAYS"=some u∧RelV (.str (Str.ofString "-")) u):Own P w K mg base 1 "deed_text" ["deed"] sp_deed:=by
  refine D.own sc_deed_text (fun _ _ _ _ _ _ us hl=>match us,hl with|[_],_=>rfl) (fun vs H Q E h=>?_) (fun f cdv A outer s H vs Q E hr h=>?_)
  · obtain ⟨v,d,N,rfl,_⟩:=h
    rfl
  · obtain ⟨v,d,N,rfl,⟨t,rfl,_,et⟩,hd,q⟩:=h
    refine ⟨_,(pss_one (ps_ret (pe_ifExp (pt_truX (pv 0)) (pe_join pe_str (pe_comp ["delay"] [] [] rfl cs_deed_text_0 (pi_tupK K (pv 0)) (fun _ _ _ _=>(pg_name (i:=0) cs_deed_text_0.nd rfl (by first|exact Or.inl rfl|exact Or.inr rfl))) (fun _ _ _ _=>pf_nil) (fun _ _ _ _=>(pe_callTy call_strS rfl (hb _ (by decide)) bt_str (pa_cX (pv 0) pa_nil)))) (by constructor <;> rfl)) (pe_glb g_NO_DELAYS)))),?_⟩
    by_cases h0:d=[]
    · subst h0
      have et':H t=some (.tup []):=et
      simp (maxSteps:=1000000) only [Option.bind_some,tTruX,truX_r,truO_t,Nat.reduceSub,Nat.reduceAdd,List.isEmpty_nil,Bool.not_true,if_false,Bool.false_eq_true,tVar,tC,tRet,tIf,L2.start,mZ1,mZ0,lZ1,lZ0,List.replicate,gZ0,oZ0,eZ0,aZ0,et']
      have q':=q H (.refl _)
      rw [S_of]
      exact q'
    · have he:(d.map niV).isEmpty=false:=by
        cases d with
        | nil=>exact absurd rfl h0
        | cons _ _=>rfl
      simp (maxSteps:=1000000) only [tComp_eq,Option.bind_some,tTruX,truX_r,truO_t,Nat.reduceSub,Nat.reduceAdd,Bool.not_false,eZ1,if_true,tVar,tC,tRet,tIf,L2.start,mZ1,mZ0,lZ1,lZ0,List.replicate,gZ0,oZ0,eZ0,V.ref.injEq,V.str.injEq,aZ0,et,he,tJoin,iTup]
      have hsum:=dT_sum hd
      refine ⟨⟨_,SqT.of et⟩,grow_tup (SqT.of et) (by rw [sizeLine_eq,List.length_map]; have:=hd.1; omega) d (by simp) (fun _ k v=>v=.str (Sg (nT k))) (fun _ _ _ _ _ h=>h) ?_ ?_⟩
      · rintro D i x k acc H2 hD hx hk s2 eD Nx Y kk
        rw [List.getElem?_map,hk] at hx
        cases hx
        have:=hd.2 k (List.mem_of_getElem? hk)
        simp (maxSteps:=1000000) only [tYes,cSt,List.drop_succ_cons,List.drop_zero,cZ0,if_true,tVar,gName,tCons,tNil,tCB,mZ0,List.replicate,gZ0,sZ0,oZ0,eZ0,V.int.injEq,exists_const,and_true,true_and,reduceCtorEq,false_and,or_false,aZ0,niV,rStrS,nat_eq]
        exact ⟨by omega,kk _ _ (.refl _) fun _=>rfl⟩
      · rintro D vs H2 hD s2 eD p
        rw [strs_of (H:=H) p] at eD
        have q':=q H2 s2
        unfold dT at q'
        rw [if_neg h0] at q'
        exact ⟨D,rfl,_,eD,join_ok 44 _ (S_of ",") rfl (by omega) q'⟩
def sp_deeds:Sp:=fun vs H Q _=>∃ (v:V) (d:List (List Nat)) (N:Addr→Prop),vs=[v]∧RF N H (.ds d) v∧okDs d∧∀ H',Same H H'→Q (.str (Sg (dsT d))) H'
theorem own_deeds (D:Def K mg "deeds_text" s_deeds_text) (g_NONE:∃ u,mg "NONE"=some u∧RelV (.str (Str.ofString "none")) u) (F_deed_text:Own P w K mg base 1 "deed_text" ["deed"] sp_deed):Own P w K mg base 2 "deeds_text" ["deeds"] sp_deeds:=by
  refine D.own sc_deeds_text (fun _ _ _ _ _ _ us hl=>match us,hl with|[_],_=>rfl) (fun vs H Q E h=>?_) (fun f cdv A outer s H vs Q E hr h=>?_)
  · obtain ⟨v,d,N,rfl,_⟩:=h
    rfl
  · obtain ⟨v,d,N,rfl,⟨t,us,rfl,_,et,pu⟩,hd,q⟩:=h
    refine ⟨_,(pss_one (ps_ret (pe_ifExp (pt_truX (pv 0)) (pe_join pe_str (pe_comp ["deed"] [] [] rfl cs_deeds_text_0 (pi_listK K (pv 0)) (fun _ _ _ _=>(pg_name (i:=0) cs_deeds_text_0.nd rfl (by first|exact Or.inl rfl|exact Or.inr rfl))) (fun _ _ _ _=>pf_nil) (fun _ _ _ _=>(pe_fn F_deed_text hr (pa_cX (pv 0) pa_nil)))) (by constructor <;> rfl)) (pe_glb g_NONE)))),?_⟩
    by_cases h0:d=[]
    · subst h0
      cases pu
      simp (maxSteps:=1000000) only [Option.bind_some,tTruX,truX_r,truO_l,Nat.reduceSub,Nat.reduceAdd,List.isEmpty_nil,Bool.not_true,if_false,Bool.false_eq_true,tVar,tC,tRet,tIf,L2.start,mZ1,mZ0,lZ1,lZ0,List.replicate,gZ0,oZ0,eZ0,aZ0,et]
      have q':=q H (.refl _)
      rw [S_of]
      exact q'
    · have he:us.isEmpty=false:=by
        cases pu with
        | nil=>exact absurd rfl h0
        | cons _ _=>rfl
      simp (maxSteps:=1000000) only [tComp_eq,Option.bind_some,tTruX,truX_r,truO_l,Nat.reduceSub,Nat.reduceAdd,Bool.not_false,iList,eZ1,if_true,tVar,tC,tRet,tIf,L2.start,mZ1,mZ0,lZ1,lZ0,List.replicate,gZ0,oZ0,eZ0,V.ref.injEq,V.str.injEq,aZ0,et,he,tJoin]
      have hsum:=dsT_sum hd
      have hlen:=pu.length
      refine ⟨⟨_,SqL.of et⟩,grow_list (SqL.of et) (by rw [sizeLine_eq]; have:=hd.1; omega) d hlen (fun _ k v=>v=.str (Sg (dT k))) (fun _ _ _ _ _ h=>h) ?_ ?_⟩
      · rintro D i x k acc H2 hD hx hk s2 eD Nx Y kk
        obtain ⟨x',hx',hr'⟩:=paired_get pu hk
        rw [hx] at hx'
        cases hx'
        simp (maxSteps:=1000000) only [tYes,cSt,List.drop_succ_cons,List.drop_zero,if_true,tVar,gName,tCall,tCons,tNil,mZ0,List.replicate,gZ0,sZ0,oZ0,eZ0,true_and,aZ0]
        exact ⟨x,k,N,rfl,hr'.same s2,hd.2 k (List.mem_of_getElem? hk),fun H3 s3=>kk _ _ s3 fun _=>rfl⟩
      · rintro D vs H2 hD s2 eD p
        rw [strs_of (H:=H) p] at eD
        have q':=q H2 s2
        unfold dsT at q'
        rw [if_neg h0] at q'
        exact ⟨D,rfl,_,eD,join_ok 47 _ (S_of "/") rfl (by omega) q'⟩
end
end K82
namespace K82
open PySem L2
inductive Wt
  | one (v:List Nat) (f:Fld)
  | put (k:Nat) (s:List Nat)
def isGo (v:List Nat):Prop:=v=w "begin"∨v=w "end"
def isNm (v:List Nat):Prop:=v=w "bind"∨v=w "free"∨v=w "ask"
def Wt.Ok:Wt→Prop
  | .one v f=>(isGo v∧∃ k,f=.n k∧k<100000)∨(isNm v∧∃ s,f=.nm s∧okN s)
  | .put k s=>k<100000∧okS s
def Wt.wd:Wt→List Nat
  | .one v _=>v
  | .put _ _=>w "put"
def Wt.fs:Wt→List Fld
  | .one _ f=>[f]
  | .put k s=>[.n k,.sg s]
def RWt (N:Addr→Prop) (H:Hp):Wt→V→Prop
  | .one _ f,v=>RF N H f v
  | .put k s,v=>∃ q,v=.ref q∧N q∧H q=some (.tup [niV k,.str (Sg s)])
structure Ws where
  t:Nat
  h:Nat
  x:Wt
def Ws.Ok (s:Ws):Prop:=s.t<100000∧s.h<100000∧s.x.Ok
def RWs (N:Addr→Prop) (H:Hp) (s:Ws) (v:V):Prop:=∃ p u,v=.ref p∧N p∧H p=some (.tup [niV s.t,niV s.h,.str (Sg s.x.wd),u])∧RWt N H s.x u
def RR (N:Addr→Prop) (H:Hp) (fs:List Fld) (v:V):Prop:=∃ p us,v=.ref p∧N p∧H p=some (.tup us)∧Paired (RF N H) fs us
section
variable {N N':Addr→Prop} {H H':Hp} {A:List Addr}
theorem RWt.keep (k:Keep A H H') (hA:∀ b∈A,¬ N b):∀ {x:Wt} {v:V},RWt N H x v→RWt N H' x v
  | .one _ _,_,h=>RF.keep k hA h
  | .put _ _,_,⟨q,e,n,h⟩=>⟨q,e,n,k _ _ h fun z=>hA _ z n⟩
theorem RWt.mono (m:∀ a,N a→N' a):∀ {x:Wt} {v:V},RWt N H x v→RWt N' H x v
  | .one _ _,_,h=>RF.mono m h
  | .put _ _,_,⟨q,e,n,h⟩=>⟨q,e,m _ n,h⟩
theorem RWs.keep (k:Keep A H H') (hA:∀ b∈A,¬ N b) {x:Ws} {v:V}:RWs N H x v→RWs N H' x v
  | ⟨p,u,e,n,h,r⟩=>⟨p,u,e,n,k _ _ h fun z=>hA _ z n,r.keep k hA⟩
theorem RWs.mono (m:∀ a,N a→N' a) {x:Ws} {v:V}:RWs N H x v→RWs N' H x v
  | ⟨p,u,e,n,h,r⟩=>⟨p,u,e,m _ n,h,r.mono m⟩
theorem RR.keep (k:Keep A H H') (hA:∀ b∈A,¬ N b) {x:List Fld} {v:V}:RR N H x v→RR N H' x v
  | ⟨p,u,e,n,h,r⟩=>⟨p,u,e,n,k _ _ h fun z=>hA _ z n,paired_imp (fun _ _ y=>y.keep k hA) r⟩
theorem RR.mono (m:∀ a,N a→N' a) {x:List Fld} {v:V}:RR N H x v→RR N' H x v
  | ⟨p,u,e,n,h,r⟩=>⟨p,u,e,m _ n,h,paired_imp (fun _ _ y=>y.mono m) r⟩
theorem RWt.same (s:Same H H') {x:Wt} {v:V} (h:RWt N H x v):RWt N H' x v:=h.keep (A:=[]) s.keep (fun _ z=>nomatch z)
theorem RWs.same (s:Same H H') {x:Ws} {v:V} (h:RWs N H x v):RWs N H' x v:=h.keep (A:=[]) s.keep (fun _ z=>nomatch z)
theorem RR.same (s:Same H H') {x:List Fld} {v:V} (h:RR N H x v):RR N H' x v:=h.keep (A:=[]) s.keep (fun _ z=>nomatch z)
end
theorem S_put:Str.ofString "put"=Sg (w "put"):=S_of _
theorem one_put {v:List Nat} {f:Fld} (h:(Wt.one v f).Ok):v≠w "put":=by
  rcases h with ⟨h|h,_⟩|⟨h|h|h,_⟩ <;> subst h <;> decide
theorem wd_len {x:Wt} (h:x.Ok):x.wd.length≤5:=by
  cases x with
  | one v f=>
    change v.length≤5
    rcases h with ⟨h|h,_⟩|⟨h|h|h,_⟩ <;> subst h <;> decide
  | put k s=>exact (by decide:(w "put").length≤5)
def Wt.words (x:Wt):List (List Nat):=x.wd::x.fs.map fT
theorem jW_cons {c:Nat} {p q:List Nat} {r:List (List Nat)}:jW c (p::q::r)=p++c::jW c (q::r):=by
  simp [jW]
theorem S_nil:Str.empty=Sg []:=rfl
section
variable {P:Program} {w:World} {K:PySem.W.Frag} {mg:Str→Option Value} {base:Heap} {C:Addr}
def sp_wish:Sp:=fun vs H Q _=>∃ (v:V) (x:Wt) (N:Addr→Prop),vs=[.str (Sg x.wd),v]∧RWt N H x v∧x.Ok∧Q (.str (Sg (jW 32 x.words))) H
theorem own_wish (D:Def K mg "wish_text" s_wish_text):Own P w K mg base 1 "wish_text" ["word","what"] sp_wish:=by
  refine D.own sc_wish_text (fun _ _ _ _ _ _ us hl=>match us,hl with|[_,_],_=>rfl) (fun vs H Q E h=>?_) (fun f cdv A outer s H vs Q E hr h=>?_)
  · obtain ⟨v,x,N,rfl,_⟩:=h
    rfl
  · obtain ⟨v,x,N,rfl,hx,ok,q⟩:=h
    have hu:=hr.units
    have hu1:(A.deeper (PyProof.Rows.envOfC "wish_text" (defScope s_wish_text) s.heap.objs.size f cdv)).units+1<cLine:=by omega
    refine ⟨_,(pss_cons (ps_if (pt_cmpR op_ne (pv 0) pe_str (nomark _)) (pss_one (ps_ret (pe_fstrX (pjx_e (pv 0) (pjx_str 1 (by kernel_rfl) (pjx_e (pv 1) pjx_nil)))))) pss_nil) (pss_cons (ps_st (i:=2) sc_wish_text.nd rfl (pe_ix (ix_get hu1) (pv 1) pe_int (fun _ _=>rfl))) (pss_cons (ps_st (i:=3) sc_wish_text.nd rfl (pe_ix (ix_get hu1) (pv 1) pe_int (fun _ _=>rfl))) (pss_one (ps_ret (pe_fstrX (pjx_str 4 (by kernel_rfl) (pjx_e (pv 2) (pjx_str 1 (by kernel_rfl) (pjx_e (pv 3) pjx_nil)))))))))),?_⟩
    have hl:=wd_len ok
    have e32:Str.ofString " "=Sg [32]:=S_of " "
    have eput:=S_put
    cases x with
    | one u g=>
      have hne:=one_put ok
      simp (maxSteps:=1000000) only [rNe_ss,rGet,Nat.reduceSub,Nat.reduceAdd,decide_false,Bool.not_false,tSeq,eZ1,if_true,tIfS,tTest,tOp,tVar,tC,tRet,tAsg,gName,tNext,L2.start,mZ1,mZ0,lZ1,lZ0,List.replicate,List.cons_append,List.nil_append,gZ0,gZ1,sZ0,sZ1,oZ0,eZ0,V.bl.injEq,V.str.injEq,exists_const,reduceCtorEq,false_and,false_or,tFsX,tXs,tXe,tXn,eput,S_eq,Wt.wd,hne,e32]
      rw [S_nil,S_app,S_app,List.nil_append]
      rcases ok with ⟨_,k,rfl,hk⟩|⟨_,z,rfl,hz⟩
      · obtain rfl:v=niV k:=hx
        refine ⟨by rw [Sg_len]; change u.length≤5 at hl; omega,.inl ⟨_,rfl,log13 (by omega),?_⟩⟩
        rw [S_num,S_app]
        have e:u++[32]++nT k=jW 32 (Wt.words (.one u (.n k))):=by simp [Wt.words,Wt.wd,Wt.fs,jW,fT]
        rw [e]
        exact q
      · obtain rfl:v=.str (Sg z):=hx
        refine ⟨by rw [Sg_len]; change u.length≤5 at hl; omega,.inr ⟨_,rfl,by rw [Sg_len]; have:=hz.2.1; omega,?_⟩⟩
        rw [S_app]
        have e:u++[32]++z=jW 32 (Wt.words (.one u (.nm z))):=by simp [Wt.words,Wt.wd,Wt.fs,jW,fT]
        rw [e]
        exact q
    | put k z=>
      obtain ⟨p,rfl,_,ep⟩:=hx
      simp (maxSteps:=1000000) only [rNe_ss,rGet,getO_t,atI_0,atI_1,Nat.reduceSub,Nat.reduceAdd,decide_true,Bool.not_true,tSeq,eZ1,if_false,Bool.false_eq_true,tIfS,tTest,tOp,tVar,tC,tRet,tAsg,gName,tNext,L2.start,mZ1,mZ0,lZ1,lZ0,List.replicate,List.cons_append,List.nil_append,gZ0,gZ1,sZ0,sZ1,oZ0,eZ0,V.int.injEq,V.bl.injEq,V.ref.injEq,V.str.injEq,exists_const,reduceCtorEq,false_and,or_false,false_or,tFsX,tXs,tXe,tXn,eput,Wt.wd,e32,ep,niV]
      have h1:=ok.1
      have h2:=ok.2.2.1
      refine ⟨log13 (by omega),by rw [Sg_len]; omega,?_⟩
      rw [S_nil,S_of "put ", S_num,S_app,S_app,S_app,S_app]
      have e:[]++K82.w "put "++nT k++[32]++z=jW 32 (Wt.words (.put k z)):=by
        have:K82.w "put "=K82.w "put"++[32]:=by decide
        rw [this]
        simp [Wt.words,Wt.wd,Wt.fs,jW,fT]
      rw [e]
      exact q
end
end K82
namespace K82
open PySem L2
def kLn (fs:List Fld):Prop:=∃ a b p,fs=[.n a,.n b,.o p]
def kCh (fs:List Fld):Prop:=∃ t a b p,fs=[.n t,.n a,.n b,.o p]
def kRd (fs:List Fld):Prop:=∃ a b d,fs=[.n a,.n b,.ds d]
def okF (fs:List Fld):Prop:=∀ f∈fs,f.Ok
def rT (k:String) (fs:List Fld):List Nat:=jW 32 (w k::fs.map fT)
def wT (s:Ws):List Nat:=jW 32 (w "wish"::nT s.t::nT s.h::s.x.words)
structure Nt where
  ln:List (List Fld)
  ch:List (List Fld)
  rd:List (List Fld)
  ws:List Ws
structure Nt.Ok (n:Nt):Prop where
  ln:∀ r∈n.ln,kLn r∧okF r
  ch:∀ r∈n.ch,kCh r∧okF r
  rd:∀ r∈n.rd,kRd r∧okF r
  ws:∀ r∈n.ws,r.Ok
  few:n.ln.length+n.ch.length+n.rd.length+n.ws.length≤48
def rowsT (ns:List Nat) (n:Nt):List (List Nat):=rT "measures" (ns.map Fld.n)::(n.ln.map (rT "line")++n.ch.map (rT "change")++n.rd.map (rT "road")++n.ws.map wT)
def LAt {α:Type} (R:Hp→α→V→Prop) (H:Hp) (as:List α) (p:Addr):Prop:=∃ us,H p=some (.lst us)∧Paired (R H) as us
structure NtAt (N:Addr→Prop) (H:Hp) (n:Nt) (l0 l1 l2 l3:Addr):Prop where
  ln:LAt (RR N) H n.ln l0
  ch:LAt (RR N) H n.ch l1
  rd:LAt (RR N) H n.rd l2
  ws:LAt (RWs N) H n.ws l3
theorem NtAt.same {N:Addr→Prop} {H H':Hp} {n:Nt} {l0 l1 l2 l3:Addr} (s:Same H H') (h:NtAt N H n l0 l1 l2 l3):NtAt N H' n l0 l1 l2 l3:=
  ⟨let ⟨us,e,p⟩:=h.ln; ⟨us,s _ _ e,paired_imp (fun _ _ x=>x.same s) p⟩,let ⟨us,e,p⟩:=h.ch; ⟨us,s _ _ e,paired_imp (fun _ _ x=>x.same s) p⟩,let ⟨us,e,p⟩:=h.rd; ⟨us,s _ _ e,paired_imp (fun _ _ x=>x.same s) p⟩,let ⟨us,e,p⟩:=h.ws; ⟨us,s _ _ e,paired_imp (fun _ _ x=>x.same s) p⟩⟩
theorem rT_len {k:String} {fs:List Fld} (hk:(w k).length≤20) (hl:fs.length≤10) (h:okF fs) (h3:fs.length≤4∨∀ f∈fs,(fT f).length≤5):(rT k fs).length≤1000:=by
  unfold rT
  have h1:=jW_len 32 (w k::fs.map fT)
  rw [mZ1,List.sum_cons] at h1
  rcases h3 with h3|h3
  · have h2:=sum_le (l:=fs.map fT) (k:=152) fun x hx=>by
      obtain ⟨f,hf,rfl⟩:=List.mem_map.mp hx
      exact fT_len (h f hf)
    rw [List.length_map] at h2
    omega
  · have h2:=sum_le (l:=fs.map fT) (k:=5) fun x hx=>by
      obtain ⟨f,hf,rfl⟩:=List.mem_map.mp hx
      exact h3 f hf
    rw [List.length_map] at h2
    omega
theorem Wt.okF {x:Wt} (h:x.Ok):K82.okF x.fs:=by
  cases x with
  | one v f=>
    intro g hg
    obtain rfl:g=f:=by simpa [Wt.fs] using hg
    rcases h with ⟨_,k,rfl,hk⟩|⟨_,s,rfl,hs⟩
    · exact hk
    · exact hs
  | put k s=>
    intro g hg
    have:g=.n k∨g=.sg s:=by simpa [Wt.fs] using hg
    rcases this with rfl|rfl
    · exact h.1
    · exact h.2
theorem Wt.fs_len (x:Wt):x.fs.length≤2:=by cases x <;> simp [Wt.fs]
theorem words_sum {x:Wt} (h:x.Ok):(x.words.map fun p=>p.length+1).sum≤400:=by
  unfold Wt.words
  rw [mZ1,List.sum_cons]
  have h1:=wd_len h
  have h2:=sum_le (l:=x.fs.map fT) (k:=152) fun y hy=>by
    obtain ⟨f,hf,rfl⟩:=List.mem_map.mp hy
    exact fT_len (Wt.okF h f hf)
  rw [List.length_map] at h2
  have:=x.fs_len
  omega
theorem wT_len {s:Ws} (h:s.Ok):(wT s).length≤1000:=by
  unfold wT
  have h1:=jW_len 32 (w "wish"::nT s.t::nT s.h::s.x.words)
  rw [mZ1,mZ1,mZ1,List.sum_cons,List.sum_cons,List.sum_cons] at h1
  have h2:=words_sum h.2.2
  have h3:=nT_len5 h.1
  have h4:=nT_len5 h.2.1
  have h5:(w "wish").length=4:=by decide
  omega
theorem kLn.len {fs:List Fld} (h:kLn fs):fs.length≤4:=by obtain ⟨a,b,p,rfl⟩:=h; simp
theorem kCh.len {fs:List Fld} (h:kCh fs):fs.length≤4:=by obtain ⟨t,a,b,p,rfl⟩:=h; simp
theorem kRd.len {fs:List Fld} (h:kRd fs):fs.length≤4:=by obtain ⟨a,b,p,rfl⟩:=h; simp
theorem rows_len {ns:List Nat} {n:Nt} (h:n.Ok) (hn:ns.length=10) (hs:∀ k∈ns,k<100000):∀ r∈rowsT ns n,r.length≤1000:=by
  intro r hr
  unfold rowsT at hr
  rw [List.mem_cons,List.mem_append,List.mem_append,List.mem_append] at hr
  rcases hr with rfl|((hr|hr)|hr)|hr
  · refine rT_len (by decide) (by simp [hn]) (fun f hf=>?_) (.inr fun f hf=>?_)
    · obtain ⟨k,hk,rfl⟩:=List.mem_map.mp hf
      exact hs k hk
    · obtain ⟨k,hk,rfl⟩:=List.mem_map.mp hf
      exact nT_len5 (hs k hk)
  · obtain ⟨x,hx,rfl⟩:=List.mem_map.mp hr
    have:=(h.ln x hx).1.len
    exact rT_len (by decide) (by omega) (h.ln x hx).2 (.inl this)
  · obtain ⟨x,hx,rfl⟩:=List.mem_map.mp hr
    have:=(h.ch x hx).1.len
    exact rT_len (by decide) (by omega) (h.ch x hx).2 (.inl this)
  · obtain ⟨x,hx,rfl⟩:=List.mem_map.mp hr
    have:=(h.rd x hx).1.len
    exact rT_len (by decide) (by omega) (h.rd x hx).2 (.inl this)
  · obtain ⟨x,hx,rfl⟩:=List.mem_map.mp hr
    exact wT_len (h.ws x hx)
theorem rows_few {ns:List Nat} {n:Nt} (h:n.Ok):(rowsT ns n).length≤49:=by
  have:=h.few
  unfold rowsT
  simp only [lZ1,List.length_append,List.length_map]
  omega
theorem rows_sum {ns:List Nat} {n:Nt} (h:n.Ok) (hn:ns.length=10) (hs:∀ k∈ns,k<100000):((rowsT ns n).map fun p=>p.length+1).sum≤100000:=by
  have h1:=sum_le (rows_len h hn hs)
  have h2:=rows_few (ns:=ns) h
  omega
theorem nums_of {N:Addr→Prop} {H:Hp}:∀ {fs:List Fld} {us:List V},Paired (RF N H) fs us→(∀ f∈fs,isN f)→okF fs→∃ os:List (Option Nat),us=os.map onV∧os.map oT=fs.map fT∧(∀ o∈os,okO o)∧os.length=fs.length
  | _,_,.nil,_,_=>⟨[],rfl,rfl,(fun _ z=>nomatch z),rfl⟩
  | f::fs,u::us,.cons h t,hn,ho=>by
    obtain ⟨os,e1,e2,e3,e4⟩:=nums_of t (fun g hg=>hn g (.tail _ hg)) (fun g hg=>ho g (.tail _ hg))
    obtain ⟨o,k1,k2,k3⟩:=isN.eq (hn f (.head _)) (ho f (.head _))
    refine ⟨o::os,by rw [mZ1,k3 h,e1],by rw [mZ1,mZ1,k1,e2],fun x hx=>?_,by simp [e4]⟩
    rcases List.mem_cons.mp hx with rfl|hx
    · exact k2
    · exact e3 x hx
theorem kLn.num {fs:List Fld} (h:kLn fs):∀ f∈fs,isN f:=by
  obtain ⟨a,b,p,rfl⟩:=h
  intro f hf
  simp only [List.mem_cons,List.not_mem_nil,or_false] at hf
  rcases hf with rfl|rfl|rfl <;> trivial
theorem kCh.num {fs:List Fld} (h:kCh fs):∀ f∈fs,isN f:=by
  obtain ⟨t,a,b,p,rfl⟩:=h
  intro f hf
  simp only [List.mem_cons,List.not_mem_nil,or_false] at hf
  rcases hf with rfl|rfl|rfl|rfl <;> trivial
theorem rT_eq {k s:String} {fs:List Fld} (h:fs≠[]) (hs:w s=w k++[32]):w s++jW 32 (fs.map fT)=rT k fs:=by
  unfold rT
  cases fs with
  | nil=>exact absurd rfl h
  | cons f r=>
    rw [mZ1,jW_cons,hs]
    simp
section
variable {P:Program} {w:World} {K:PySem.W.Frag} {mg:Str→Option Value} {base:Heap} {C:Addr}
abbrev s_net_text:Stmt:=stm 30
theorem sc_net_text:FnScope ["measures","lines","changes","roads","wishes","rows"] ["measures","lines","changes","roads","wishes"] (defScope s_net_text):=⟨rfl,rfl,rfl,by decide +kernel,rfl,by decide +kernel,by decide +kernel⟩
theorem cs_net_text_0:CScope ["line"] [] { kind:=.function,names:=[(".0", .local),("line", .local),("numbers_text", .globalImplicit)],isGenerator:=false,isCoroutine:=false,more:=[] } (defScope s_net_text):=⟨rfl,by decide +kernel,by decide +kernel,by decide +kernel,by decide +kernel,by decide +kernel⟩
theorem cs_net_text_1:CScope ["change"] [] { kind:=.function,names:=[(".0", .local),("change", .local),("numbers_text", .globalImplicit)],isGenerator:=false,isCoroutine:=false,more:=[] } (defScope s_net_text):=⟨rfl,by decide +kernel,by decide +kernel,by decide +kernel,by decide +kernel,by decide +kernel⟩
theorem cs_net_text_2:CScope ["road"] [] { kind:=.function,names:=[(".0", .local),("road", .local),("numbers_text", .globalImplicit),("deeds_text", .globalImplicit)],isGenerator:=false,isCoroutine:=false,more:=[] } (defScope s_net_text):=⟨rfl,by decide +kernel,by decide +kernel,by decide +kernel,by decide +kernel,by decide +kernel⟩
theorem cs_net_text_3:CScope ["wish"] [] { kind:=.function,names:=[(".0", .local),("wish", .local),("numbers_text", .globalImplicit),("wish_text", .globalImplicit)],isGenerator:=false,isCoroutine:=false,more:=[] } (defScope s_net_text):=⟨rfl,by decide +kernel,by decide +kernel,by decide +kernel,by decide +kernel,by decide +kernel⟩
def msOk (ns:List Nat) (m:Ms):Prop:=m.l=ns.map Int.ofNat∧ns.length=10∧∀ k∈ns,k<100000
def sp_net (C:Addr):Sp:=fun vs H Q _=>∃ (x dx l0 l1 l2 l3:Addr) (m:Ms) (ns:List Nat) (n:Nt) (N:Addr→Prop),vs=[.ref x,.ref l0,.ref l1,.ref l2,.ref l3]∧H x=some (.ins C dx (fsM m))∧msOk ns m∧n.Ok∧NtAt N H n l0 l1 l2 l3∧∀ H',Same H H'→Q (.str (Sg (jW 10 (rowsT ns n)))) H'
def NS (H:Hp) (x l0 l1 l2 l3:Addr) (rows:List (List Nat)) (σ:St) (H':Hp):Prop:=∃ R,σ=[some (.ref x),some (.ref l0),some (.ref l1),some (.ref l2),some (.ref l3),some (.ref R)]∧H R=none∧Same H H'∧H' R=some (.lst ((rows.map Sg).map V.str))
theorem NS.ext {H:Hp} {x l0 l1 l2 l3:Addr} {rows:List (List Nat)} {H1 H2:Hp} {R D:Addr} {α:Type} {f:α→List Nat} {as:List α} {vs:List V} (hR:H R=none) (s1:Same H H1) (e1:H1 R=some (.lst ((rows.map Sg).map V.str))) (hD:H1 D=none) (s2:Same H1 H2) (eD:H2 D=some (.lst vs)) (p:Paired (fun a v=>v=.str (Sg (f a))) as vs) :
    NS H x l0 l1 l2 l3 (rows++as.map f) [some (.ref x),some (.ref l0),some (.ref l1),some (.ref l2),some (.ref l3),some (.ref R)] (upd H2 R (.lst ((rows.map Sg).map V.str++vs))):=by
  refine ⟨R,rfl,hR,(s1.trans s2).upd hR,?_⟩
  rw [upd_same,strs_of (H:=H) p,List.map_append,List.map_append]
set_option maxHeartbeats 2000000 in
theorem own_net (D:Def K mg "net_text" s_net_text) (T_Measures:ClsD K mg "Measures" C at_Measures) (M_Measures_numbers:OwnM P w K mg base 1 C "numbers" ["self"] (sp_mnum C)) (F_numbers_text:Own P w K mg base 2 "numbers_text" ["numbers"] sp_nums) (F_deeds_text:Own P w K mg base 2 "deeds_text" ["deeds"] sp_deeds) (F_wish_text:Own P w K mg base 1 "wish_text" ["word","what"] sp_wish) :
    Own P w K mg base 3 "net_text" ["measures","lines","changes","roads","wishes"] (sp_net C):=by
  refine D.own sc_net_text (fun _ _ _ _ _ _ us hl=>match us,hl with|[_,_,_,_,_],_=>rfl) (fun vs H Q E h=>?_) (fun f cdv A outer s H vs Q E hr h=>?_)
  · obtain ⟨x,dx,l0,l1,l2,l3,m,ns,n,N,rfl,_⟩:=h
    rfl
  · obtain ⟨x,dx,l0,l1,l2,l3,m,ns,n,N,rfl,ex,⟨em,hns,hnk⟩,ok,at_,q⟩:=h
    have hu:=hr.units
    have hu1:(A.deeper (PyProof.Rows.envOfC "net_text" (defScope s_net_text) s.heap.objs.size f cdv)).units+1<cLine:=by omega
    have few:=ok.few
    have e32:Str.ofString " "=Sg [32]:=S_of " "
    refine ⟨_,(pss_cons (ps_st (i:=5) sc_net_text.nd rfl (pe_lst (pa_cX (pe_op op_addS pe_str (pe_fn F_numbers_text hr (pa_cX (pe_mth0 M_Measures_numbers T_Measures.cl hr (pv 0)) pa_nil))) pa_nil))) (pss_cons (ps_expr (pe_lm PySem.F.slot_list_extend PySem.F.type_list_extend mt_extend (pv 5) (pa_cX (pe_comp ["line"] [] [] rfl cs_net_text_0 (pi_listK K (pv 1)) (fun _ _ _ _=>(pg_name (i:=0) cs_net_text_0.nd rfl (by first|exact Or.inl rfl|exact Or.inr rfl))) (fun _ _ _ _=>pf_nil) (fun _ _ _ _=>(pe_op op_addS pe_str (pe_fn F_numbers_text hr (pa_cX (pv 0) pa_nil))))) pa_nil))) (pss_cons (ps_expr (pe_lm PySem.F.slot_list_extend PySem.F.type_list_extend mt_extend (pv 5) (pa_cX (pe_comp ["change"] [] [] rfl cs_net_text_1 (pi_listK K (pv 2)) (fun _ _ _ _=>(pg_name (i:=0) cs_net_text_1.nd rfl (by first|exact Or.inl rfl|exact Or.inr rfl))) (fun _ _ _ _=>pf_nil) (fun _ _ _ _=>(pe_op op_addS pe_str (pe_fn F_numbers_text hr (pa_cX (pv 0) pa_nil))))) pa_nil))) (pss_cons (ps_expr (pe_lm PySem.F.slot_list_extend PySem.F.type_list_extend mt_extend (pv 5) (pa_cX (pe_comp ["road"] [] [] rfl cs_net_text_2 (pi_listK K (pv 3)) (fun _ _ _ _=>(pg_name (i:=0) cs_net_text_2.nd rfl (by first|exact Or.inl rfl|exact Or.inr rfl))) (fun _ _ _ _=>pf_nil) (fun _ _ _ _=>(pe_op op_addS (pe_op op_addS (pe_op op_addS pe_str (pe_fn F_numbers_text hr (pa_cX (pe_slice sl_TX (pv 0) po_none (po_some pe_int)) pa_nil))) pe_str) (pe_fn F_deeds_text hr (pa_cX (pe_ix (ix_get hu1) (pv 0) pe_int (fun _ _=>rfl)) pa_nil))))) pa_nil))) (pss_cons (ps_expr (pe_lm PySem.F.slot_list_extend PySem.F.type_list_extend mt_extend (pv 5) (pa_cX (pe_comp ["wish"] [] [] rfl cs_net_text_3 (pi_listK K (pv 4)) (fun _ _ _ _=>(pg_name (i:=0) cs_net_text_3.nd rfl (by first|exact Or.inl rfl|exact Or.inr rfl))) (fun _ _ _ _=>pf_nil) (fun _ _ _ _=>(pe_op op_addS (pe_op op_addS (pe_op op_addS pe_str (pe_fn F_numbers_text hr (pa_cX (pe_slice sl_TX (pv 0) po_none (po_some pe_int)) pa_nil))) pe_str) (pe_fn F_wish_text hr (pa_cX (pe_ix (ix_get hu1) (pv 0) pe_int (fun _ _=>rfl)) (pa_cX (pe_ix (ix_get hu1) (pv 0) pe_int (fun _ _=>rfl)) pa_nil)))))) pa_nil))) (pss_one (ps_ret (pe_join pe_str (pv 5) (by constructor <;> rfl))))))))),?_⟩
    refine use1 (NS H x l0 l1 l2 l3 [rT "measures" (ns.map Fld.n)]) ?_ (fun X hX=>?_)
    rotate_left
    · have ew:=S_of "measures "
      simp (maxSteps:=1000000) only [Nat.reduceSub,HO.ins.injEq,Nat.reduceAdd,tMeth,tSeq,eZ1,tOp,tVar,tC,tAsg,gName,tCall,tCons,tNil,tLst,L2.start,mZ1,mZ0,lZ1,lZ0,List.replicate,List.cons_append,List.nil_append,gZ0,sZ0,sZ1,oZ0,eZ0,V.ref.injEq,V.str.injEq,true_and,and_assoc,aZ0,ex,fn_Measures_numbers,rAddS,ew,S_eq]
      refine ⟨x,dx,m,rfl,ex,fun p1 H1 n1 e1 s1=>?_⟩
      have ens:m.l.map V.int=(ns.map some).map onV:=by
        rw [em,List.map_map,List.map_map]
        rfl
      have hoT:(ns.map some).map oT=(ns.map Fld.n).map fT:=by rw [List.map_map,List.map_map]; rfl
      refine ⟨p1,_,ns.map some,rfl,.inl e1,ens,(fun o ho=>?_),by simp [hns],fun H2 s2=>⟨_,rfl,?_,by rw [sizeLine_eq]; decide,fun p hp=>hX _ _ ⟨p,rfl,(s1.trans s2).free hp,(s1.trans s2).upd ((s1.trans s2).free hp),?_⟩⟩⟩
      · obtain ⟨k,hk,rfl⟩:=List.mem_map.mp ho
        intro j ej
        cases ej
        exact hnk k hk
      · have h1:=jW_len 32 ((ns.map some).map oT)
        have h2:=sum_le (l:=(ns.map some).map oT) (k:=5) fun y hy=>by
          rw [hoT] at hy
          obtain ⟨f,hf,rfl⟩:=List.mem_map.mp hy
          obtain ⟨k,hk,rfl⟩:=List.mem_map.mp hf
          exact nT_len5 (hnk k hk)
        rw [List.length_map,List.length_map,hns] at h2
        have h3:(K82.w "measures ").length=9:=by decide
        omega
      · rw [upd_same,hoT,rT_eq (k:="measures") (by cases ns with|nil=>cases hns|cons _ _=>exact fun z=>nomatch z) (by decide)]
        rfl
    rintro σ H1 ⟨R,rfl,hR,s1,e1⟩
    refine use1 (NS H x l0 l1 l2 l3 ([rT "measures" (ns.map Fld.n)]++n.ln.map (rT "line"))) ?_ (fun X hX=>?_)
    rotate_left
    · have hrl:([rT "measures" (ns.map Fld.n)]).length+n.ln.length≤49:=by
        simp only [List.length_append,List.length_map,lZ1,lZ0]
        omega
      generalize [rT "measures" (ns.map Fld.n)]=rows at e1 hX hrl
      have ew:=S_of "line "
      obtain ⟨us,eus,pus⟩:=(at_.same s1).ln
      simp (maxSteps:=1000000) only [tComp_eq,tBL,rExtend,HO.lst.injEq,Nat.reduceAdd,iList,cZ0,tSeq,eZ1,tVar,tCons,tNil,tDrop,lZ1,lZ0,gZ0,gZ1,oZ0,eZ0,V.ref.injEq,and_true,e1,ew]
      refine ⟨⟨_,SqL.of eus⟩,grow_list (SqL.of eus) (by have:=pus.length; rw [sizeLine_eq]; omega) n.ln pus.length (fun _ fs v=>v=.str (Sg (rT "line" fs))) (fun _ _ _ _ _ h=>h) ?_ ?_⟩
      · rintro D i v fs acc H2 hD hx hk s2 eD Nx Y kk
        obtain ⟨v',hv',⟨p,vs,rfl,_,ep,pr⟩⟩:=paired_get pus hk
        rw [hx] at hv'
        cases hv'
        have hfs:=ok.ln fs (List.mem_of_getElem? hk)
        obtain ⟨os,eo,et,oo,ol⟩:=nums_of pr hfs.1.num hfs.2
        simp (maxSteps:=1000000) only [tYes,cSt,List.drop_succ_cons,List.drop_zero,eZ1,if_true,tOp,tVar,tC,gName,tCall,tCons,tNil,mZ0,List.replicate,gZ0,sZ0,oZ0,eZ0,V.str.injEq,true_and,aZ0,rAddS,S_eq]
        have hl4:=hfs.1.len
        refine ⟨p,vs,os,rfl,.inr (s2 _ _ ep),eo,oo,by omega,fun H3 s3=>⟨_,rfl,?_,kk _ _ s3 fun _=>?_⟩⟩
        · have:=rT_len (k:="line") (by decide) (by omega) hfs.2 (.inl hl4)
          rw [← rT_eq (s:="line ") (by obtain ⟨a,b,p,rfl⟩:=hfs.1; exact fun z=>nomatch z) (by decide),← et,List.length_append] at this
          omega
        · rw [et,rT_eq (k:="line") (by obtain ⟨a,b,p,rfl⟩:=hfs.1; exact fun z=>nomatch z) (by decide)]
      · rintro D vs H2 hD s2 eD p
        have eR:=s2 _ _ e1
        simp (maxSteps:=1000000) only [HO.lst.injEq,oZ0,eZ0,V.ref.injEq,eR,eD]
        exact ⟨by have:=p.length; rw [sizeLine_eq]; simp only [List.length_map]; omega,hX _ _ (NS.ext hR s1 e1 hD s2 eD p)⟩
    rintro σ H1 ⟨R,rfl,hR,s1,e1⟩
    refine use1 (NS H x l0 l1 l2 l3 ([rT "measures" (ns.map Fld.n)]++n.ln.map (rT "line")++n.ch.map (rT "change"))) ?_ (fun X hX=>?_)
    rotate_left
    · have hrl:([rT "measures" (ns.map Fld.n)]++n.ln.map (rT "line")).length+n.ch.length≤49:=by
        simp only [List.length_append,List.length_map,lZ1,lZ0]
        omega
      generalize [rT "measures" (ns.map Fld.n)]++n.ln.map (rT "line")=rows at e1 hX hrl
      have ew:=S_of "change "
      obtain ⟨us,eus,pus⟩:=(at_.same s1).ch
      simp (maxSteps:=1000000) only [tComp_eq,tBL,rExtend,HO.lst.injEq,Nat.reduceAdd,iList,cZ0,tSeq,eZ1,tVar,tCons,tNil,tDrop,lZ1,lZ0,gZ0,gZ1,oZ0,eZ0,V.ref.injEq,and_true,e1,ew]
      refine ⟨⟨_,SqL.of eus⟩,grow_list (SqL.of eus) (by have:=pus.length; rw [sizeLine_eq]; omega) n.ch pus.length (fun _ fs v=>v=.str (Sg (rT "change" fs))) (fun _ _ _ _ _ h=>h) ?_ ?_⟩
      · rintro D i v fs acc H2 hD hx hk s2 eD Nx Y kk
        obtain ⟨v',hv',⟨p,vs,rfl,_,ep,pr⟩⟩:=paired_get pus hk
        rw [hx] at hv'
        cases hv'
        have hfs:=ok.ch fs (List.mem_of_getElem? hk)
        obtain ⟨os,eo,et,oo,ol⟩:=nums_of pr hfs.1.num hfs.2
        simp (maxSteps:=1000000) only [tYes,cSt,List.drop_succ_cons,List.drop_zero,eZ1,if_true,tOp,tVar,tC,gName,tCall,tCons,tNil,mZ0,List.replicate,gZ0,sZ0,oZ0,eZ0,V.str.injEq,true_and,aZ0,rAddS,S_eq]
        have hl4:=hfs.1.len
        refine ⟨p,vs,os,rfl,.inr (s2 _ _ ep),eo,oo,by omega,fun H3 s3=>⟨_,rfl,?_,kk _ _ s3 fun _=>?_⟩⟩
        · have:=rT_len (k:="change") (by decide) (by omega) hfs.2 (.inl hl4)
          rw [← rT_eq (s:="change ") (by obtain ⟨t,a,b,p,rfl⟩:=hfs.1; exact fun z=>nomatch z) (by decide),← et,List.length_append] at this
          omega
        · rw [et,rT_eq (k:="change") (by obtain ⟨t,a,b,p,rfl⟩:=hfs.1; exact fun z=>nomatch z) (by decide)]
      · rintro D vs H2 hD s2 eD p
        have eR:=s2 _ _ e1
        simp (maxSteps:=1000000) only [HO.lst.injEq,oZ0,eZ0,V.ref.injEq,eR,eD]
        exact ⟨by have:=p.length; rw [sizeLine_eq]; simp only [List.length_map]; omega,hX _ _ (NS.ext hR s1 e1 hD s2 eD p)⟩
    rintro σ H1 ⟨R,rfl,hR,s1,e1⟩
    refine use1 (NS H x l0 l1 l2 l3 ([rT "measures" (ns.map Fld.n)]++n.ln.map (rT "line")++n.ch.map (rT "change")++n.rd.map (rT "road"))) ?_ (fun X hX=>?_)
    rotate_left
    · have hrl:([rT "measures" (ns.map Fld.n)]++n.ln.map (rT "line")++n.ch.map (rT "change")).length+n.rd.length≤49:=by
        simp only [List.length_append,List.length_map,lZ1,lZ0]
        omega
      generalize [rT "measures" (ns.map Fld.n)]++n.ln.map (rT "line")++n.ch.map (rT "change")=rows at e1 hX hrl
      have ew:=S_of "road "
      obtain ⟨us,eus,pus⟩:=(at_.same s1).rd
      simp (maxSteps:=1000000) only [tComp_eq,tBL,rExtend,HO.lst.injEq,Nat.reduceAdd,iList,cZ0,tSeq,eZ1,tVar,tCons,tNil,tDrop,lZ1,lZ0,gZ0,gZ1,oZ0,eZ0,V.ref.injEq,and_true,e1,ew]
      refine ⟨⟨_,SqL.of eus⟩,grow_list (SqL.of eus) (by have:=pus.length; rw [sizeLine_eq]; omega) n.rd pus.length (fun _ fs v=>v=.str (Sg (rT "road" fs))) (fun _ _ _ _ _ h=>h) ?_ ?_⟩
      · rintro D i v fs acc H2 hD hx hk s2 eD Nx Y kk
        obtain ⟨v',hv',⟨p,vs,rfl,_,ep,pr⟩⟩:=paired_get pus hk
        rw [hx] at hv'
        cases hv'
        have hfs:=ok.rd fs (List.mem_of_getElem? hk)
        obtain ⟨⟨a,b,d,rfl⟩,hfo⟩:=hfs
        obtain ⟨va,vb,vd,rfl,ra,rb,rd⟩:∃ va vb vd,vs=[va,vb,vd]∧RF N H1 (.n a) va∧RF N H1 (.n b) vb∧RF N H1 (.ds d) vd:=by
          cases pr with|cons h1 t=>cases t with|cons h2 t=>cases t with|cons h3 t=>cases t; exact ⟨_,_,_,rfl,h1,h2,h3⟩
        have ha:=hfo (.n a) (.head _)
        have hb':=hfo (.n b) (.tail _ (.head _))
        have hd':okDs d:=hfo (.ds d) (.tail _ (.tail _ (.head _)))
        have ep2:=s2 _ _ ep
        simp (maxSteps:=1000000) only [rGet,HO.tup.injEq,Nat.reduceAdd,tYes,cSt,List.drop_succ_cons,List.drop_zero,tSl,tNoPart,tPart,eZ1,if_true,tOp,tVar,tC,gName,tCall,tCons,tNil,mZ0,lZ1,lZ0,List.replicate,gZ0,sZ0,oZ0,eZ0,V.int.injEq,V.ref.injEq,V.str.injEq,true_and,aZ0,ep2,rAddS,S_eq,rSlTX,e32]
        intro p1 H3 h3 e3
        have s3:Same H2 H3:=by
          rcases h3 with rfl|⟨n1,rfl⟩
          · exact .refl _
          · exact .upd_new n1
        have ecut:cutV [va,vb,vd] none (some 2)=[some a,some b].map onV:=by
          rw [show va=niV a from ra,show vb=niV b from rb]
          rfl
        rw [ecut] at e3
        have ep3:=s3 _ _ ep2
        have l1:=nT_len5 ha
        have l2:=nT_len5 hb'
        have l3:=dsT_len hd'
        have ej:jW 32 ([some a,some b].map oT)=nT a++32::nT b:=by simp [jW,oT]
        refine ⟨p1,_,[some a,some b],rfl,.inr e3,rfl,(fun o ho=>?_),by simp,fun H4 s4=>?_⟩
        · simp only [List.mem_cons,List.not_mem_nil,or_false] at ho
          rcases ho with rfl|rfl <;> (intro j ej; cases ej; assumption)
        have ep4:=s4 _ _ ep3
        rw [ej]
        simp (maxSteps:=1000000) only [getO_t,atI_2,oZ0,eZ0,V.str.injEq,ep4,S_eq]
        have h5:(K82.w "road ").length=5:=by decide
        refine ⟨?_,?_,vd,d,N,rfl,rd.same ((s2.trans s3).trans s4),hd',fun H5 s5=>⟨_,rfl,?_,kk _ _ ((s3.trans s4).trans s5) fun _=>?_⟩⟩
        · rw [h5,List.length_append,lZ1]
          omega
        · rw [List.length_append,h5,List.length_append,lZ1]
          omega
        · simp only [List.length_append,lZ1,lZ0,h5]
          omega
        · congr 2
          have:K82.w "road "=K82.w "road"++[32]:=by decide
          rw [this]
          simp [rT,jW,fT]
      · rintro D vs H2 hD s2 eD p
        have eR:=s2 _ _ e1
        simp (maxSteps:=1000000) only [HO.lst.injEq,oZ0,eZ0,V.ref.injEq,eR,eD]
        exact ⟨by have:=p.length; rw [sizeLine_eq]; simp only [List.length_map]; omega,hX _ _ (NS.ext hR s1 e1 hD s2 eD p)⟩
    rintro σ H1 ⟨R,rfl,hR,s1,e1⟩
    refine use1 (NS H x l0 l1 l2 l3 ([rT "measures" (ns.map Fld.n)]++n.ln.map (rT "line")++n.ch.map (rT "change")++n.rd.map (rT "road")++n.ws.map wT)) ?_ (fun X hX=>?_)
    rotate_left
    · have hrl:([rT "measures" (ns.map Fld.n)]++n.ln.map (rT "line")++n.ch.map (rT "change")++n.rd.map (rT "road")).length+n.ws.length≤49:=by
        simp only [List.length_append,List.length_map,lZ1,lZ0]
        omega
      generalize [rT "measures" (ns.map Fld.n)]++n.ln.map (rT "line")++n.ch.map (rT "change")++n.rd.map (rT "road")=rows at e1 hX hrl
      have ew:=S_of "wish "
      obtain ⟨us,eus,pus⟩:=(at_.same s1).ws
      simp (maxSteps:=1000000) only [tComp_eq,tBL,rExtend,HO.lst.injEq,Nat.reduceAdd,iList,cZ0,tSeq,eZ1,tVar,tCons,tNil,tDrop,lZ1,lZ0,gZ0,gZ1,oZ0,eZ0,V.ref.injEq,and_true,e1,ew]
      refine ⟨⟨_,SqL.of eus⟩,grow_list (SqL.of eus) (by have:=pus.length; rw [sizeLine_eq]; omega) n.ws pus.length (fun _ fs v=>v=.str (Sg (wT fs))) (fun _ _ _ _ _ h=>h) ?_ ?_⟩
      · rintro D i v y acc H2 hD hx hk s2 eD Nx Y kk
        obtain ⟨v',hv',⟨p,u,rfl,_,ep,pr⟩⟩:=paired_get pus hk
        rw [hx] at hv'
        cases hv'
        have hy:=ok.ws y (List.mem_of_getElem? hk)
        have ep2:=s2 _ _ ep
        simp (maxSteps:=1000000) only [rGet,HO.tup.injEq,Nat.reduceAdd,tYes,cSt,List.drop_succ_cons,List.drop_zero,tSl,tNoPart,tPart,eZ1,if_true,tOp,tVar,tC,gName,tCall,tCons,tNil,mZ0,lZ1,lZ0,List.replicate,gZ0,sZ0,oZ0,eZ0,V.int.injEq,V.ref.injEq,V.str.injEq,true_and,aZ0,ep2,rAddS,S_eq,rSlTX,e32]
        intro p1 H3 h3 e3
        have s3:Same H2 H3:=by
          rcases h3 with rfl|⟨n1,rfl⟩
          · exact .refl _
          · exact .upd_new n1
        have ecut:cutV [niV y.t,niV y.h,V.str (Sg y.x.wd),u] none (some 2)=[some y.t,some y.h].map onV:=rfl
        rw [ecut] at e3
        have ep3:=s3 _ _ ep2
        have l1:=nT_len5 hy.1
        have l2:=nT_len5 hy.2.1
        have l3:=words_sum hy.2.2
        have l4:=jW_len 32 y.x.words
        have ej:jW 32 ([some y.t,some y.h].map oT)=nT y.t++32::nT y.h:=by simp [jW,oT]
        refine ⟨p1,_,[some y.t,some y.h],rfl,.inr e3,rfl,(fun o ho=>?_),by simp,fun H4 s4=>?_⟩
        · simp only [List.mem_cons,List.not_mem_nil,or_false] at ho
          rcases ho with rfl|rfl <;> (intro j ej; cases ej)
          · exact hy.1
          · exact hy.2.1
        have ep4:=s4 _ _ ep3
        rw [ej]
        simp (maxSteps:=1000000) only [getO_t,atI_2,atI_3,oZ0,eZ0,V.str.injEq,ep4,S_eq]
        have h5:(K82.w "wish ").length=5:=by decide
        refine ⟨?_,?_,u,y.x,N,rfl,pr.same ((s2.trans s3).trans s4),hy.2.2,_,rfl,?_,kk _ _ (s3.trans s4) fun _=>?_⟩
        · rw [h5,List.length_append,lZ1]
          omega
        · rw [List.length_append,h5,List.length_append,lZ1]
          omega
        · simp only [List.length_append,lZ1,lZ0,h5]
          omega
        · congr 2
          have:K82.w "wish "=K82.w "wish"++[32]:=by decide
          rw [this]
          unfold wT Wt.words
          rw [jW_cons,jW_cons,jW_cons]
          simp
      · rintro D vs H2 hD s2 eD p
        have eR:=s2 _ _ e1
        simp (maxSteps:=1000000) only [HO.lst.injEq,oZ0,eZ0,V.ref.injEq,eR,eD]
        exact ⟨by have:=p.length; rw [sizeLine_eq]; simp only [List.length_map]; omega,hX _ _ (NS.ext hR s1 e1 hD s2 eD p)⟩
    rintro σ H1 ⟨R,rfl,hR,s1,e1⟩
    have e10:Str.ofString "\n"=Sg [10]:=S_of _
    simp (maxSteps:=1000000) only [eZ1,tVar,tC,tRet,gZ0,gZ1,oZ0,eZ0,V.ref.injEq,V.str.injEq,tJoin]
    exact ⟨_,e1,join_ok 10 _ e10 rfl (rows_sum ok hns hnk) (q _ s1)⟩
end
end K82
namespace K82
open PySem L2
section
variable {P:Program} {w:World} {K:PySem.W.Frag} {mg:Str→Option Value} {base:Heap} {C:Addr}
abbrev s_is_text_of:Stmt:=stm 11
theorem sc_is_text_of:FnScope ["thing","most","first","last"] ["thing","most","first","last"] (defScope s_is_text_of):=⟨rfl,rfl,rfl,by decide +kernel,rfl,by decide +kernel,by decide +kernel⟩
theorem cs_is_text_of_0:CScope ["sign"] ["first","last"] { kind:=.function,names:=[(".0", .local),("sign", .local),("first", .free),("last", .free)],isGenerator:=false,isCoroutine:=false,more:=[] } (defScope s_is_text_of):=⟨rfl,by decide +kernel,by decide +kernel,by decide +kernel,by decide +kernel,by decide +kernel⟩
def inC (f l c:Nat):Bool:=decide (f≤c) && decide (c≤l)
def txt (z:Str) (most f l:Nat):Bool:=decide (1≤z.length) && decide (z.length≤most) && z.cps.toList.all (inC f l)
def one (c:Nat):Str:=⟨#[c]⟩
theorem lt_one {a b:Nat}:decide ((one a).cps.toList<(one b).cps.toList)=decide (a<b):=by
  simp [one,List.cons_lt_cons_iff]
def sp_text:Sp:=fun vs H Q _=>∃ (v:V) (m f l:Nat) (t:String),vs=[v,.int m,.str (one f),.str (one l)]∧m≤1000∧tyX H v=some t∧(∀ z,v=.str z→z.length≤100000) ∧
  ∀ H',Same H H'→Q (.bl (match v with | .str z=>txt z m f l|_=>false)) H'
theorem own_text (D:Def K mg "is_text_of" s_is_text_of) (hb:Blt mg):Own P w K mg base 1 "is_text_of" ["thing","most","first","last"] sp_text:=by
  refine D.own sc_is_text_of (fun _ _ _ _ _ _ us hl=>match us,hl with|[_,_,_,_],_=>rfl) (fun vs H Q E h=>?_) (fun fn cdv A outer s H vs Q E hr h=>?_)
  · obtain ⟨v,m,f,l,t,rfl,_⟩:=h
    rfl
  · obtain ⟨v,m,f,l,t,rfl,hm,ht,hz,q⟩:=h
    have hu:=hr.units
    refine ⟨_,(pss_cons (ps_if (@PW.pt _ _ _ (pw_or (pt_not (pt_truX (pe_callB call_isiX rfl (hb _ (by decide)) bt_isinstance (pa_cX (pv 0) (pa_cX (pe_bltn (v:=(.ty "str")) rfl (hb _ (by decide)) bt_str rfl) pa_nil))))) (pw_or1 (pt_not (pt_chain op_le op_le pe_int (pe_callB call_lenX rfl (hb _ (by decide)) bt_len (pa_cX (pv 0) pa_nil)) (pv 1)))))) (pss_one (ps_ret pe_bl)) pss_nil) (pss_one (ps_ret (pe_callB (call_allX rfl) rfl (hb _ (by decide)) bt_all (pa_cX (pe_comp ["sign"] ["first","last"] [2,3] rfl cs_is_text_of_0 (pi_str (pv 0)) (fun _ _ _ _=>(pg_name (i:=0) cs_is_text_of_0.nd rfl (by first|exact Or.inl rfl|exact Or.inr rfl))) (fun _ _ _ _=>pf_nil) (fun _ _ _ _=>(pe_chain op_leS op_leS (pv 1) (pv 0) (pv 2)))) pa_nil))))),?_⟩
    by_cases hv:∃ z,v=.str z
    · obtain ⟨z,rfl⟩:=hv
      have hz':=hz z rfl
      have hzl:z.length≤sizeLine:=by rw [sizeLine_eq]; omega
      simp (maxSteps:=1000000) only [tComp_eq,rAllX,iStr,rIsIX,tyX_s,V.ty.injEq,kT_stst,rLenX,lenX_s',tTruX,truX_b,Nat.reduceSub,Nat.reduceAdd,V.ty.injEq,Bool.not_true,Bool.not_false,cZ0,tSeq,eZ1,if_false,if_true,Bool.false_eq_true,tIfS,tOr,tNot,tTest,tVar,tC,rI0,tRet,tNext,tCons,tNil,tCB,tChain,L2.start,mZ1,mZ0,lZ1,lZ0,List.replicate,gZ0,gZ1,oZ0,eZ0,V.int.injEq,V.bl.injEq,V.str.injEq,and_true,and_assoc,aZ0,hzl]
      have e1:decide (1≤(z.length:Int))=decide (1≤z.length):=by apply decide_eq_decide.mpr; omega
      have e2:decide ((z.length:Int)≤(m:Int))=decide (z.length≤m):=by apply decide_eq_decide.mpr; omega
      rw [e1,e2]
      have q':=q
      simp only [txt] at q'
      by_cases h1:1≤z.length
      · rw [decide_eq_true h1] at q' ⊢
        by_cases h2:z.length≤m
        · rw [decide_eq_true h2] at q' ⊢
          refine iteT (iteF (comp_itvP (by rw [signs_len]; omega) (fun x=>.bl (match x with | .str y=>inC f l (y.cps.getD 0 0)|_=>false)) ?_ ?_ (gName_mono 0)))
          · intro H1 x Q' hx s1 hq
            obtain ⟨c,hc,rfl⟩:=List.mem_map.mp hx
            have ec:(⟨#[c]⟩:Str)=one c:=rfl
            simp only [ec] at hq ⊢
            simp (maxSteps:=1000000) only [rLeS,cSt,List.drop_succ_cons,List.drop_zero,eZ1,tVar,gName,tChain,mZ1,mZ0,List.replicate,List.cons_append,List.nil_append,gZ0,gZ1,sZ0,oZ0,eZ0,V.bl.injEq,V.str.injEq,true_and,mZ1,mZ0,Option.join_some,tChain,lt_one]
            have hq':Q' (.bl (inC f l c)) H1:=hq
            unfold inC at hq'
            by_cases g1:f≤c
            · rw [decide_eq_true g1,Bool.true_and] at hq'
              rw [decide_eq_false (by omega:¬ c<f)]
              have:(!decide (l<c))=decide (c≤l):=by by_cases g2:c≤l <;> simp [g2] <;> omega
              simpa [this] using hq'
            · rw [decide_eq_false g1,Bool.false_and] at hq'
              rw [decide_eq_true (by omega:c<f)]
              simpa using hq'
          · intro D hD
            refine ⟨D,rfl,z.cps.toList.map (inC f l),?_,?_⟩
            · rw [upd_same]
              simp [signs]
            · have e3:(z.cps.toList.map (inC f l)).all id=z.cps.toList.all (inC f l):=by simp [List.all_map]
              rw [e3]
              simpa using q' _ (Same.upd_new hD)
        · rw [decide_eq_false h2] at q' ⊢
          exact iteT (iteT (by simpa using q' H fun _ _ e=>e))
      · rw [decide_eq_false h1] at q' ⊢
        exact iteF (by simpa using q' H fun _ _ e=>e)
    · have q':=q H fun _ _ e=>e
      have hk:kT t "str"=some false:=by
        cases v with
        | non=>cases ht; rfl
        | bl b=>cases ht; rfl
        | int i=>cases ht; rfl
        | str z=>exact absurd ⟨z,rfl⟩ hv
        | ref p=>
          rw [tyX_r] at ht
          cases e:H p with
          | none=>rw [e] at ht; cases ht
          | some o=>
            rw [e] at ht
            cases o <;> first|(cases ht; rfl)|cases ht
        | _=>cases ht
      simp (maxSteps:=1000000) only [tComp_eq,rAllX,iStr,rIsIX,V.ty.injEq,rLenX,tTruX,truX_b,Nat.reduceSub,Nat.reduceAdd,V.ty.injEq,Bool.not_false,cZ0,tSeq,eZ1,if_true,tIfS,tOr,tNot,tTest,tVar,tC,rI0,tRet,tNext,tCons,tNil,tCB,tChain,L2.start,mZ1,mZ0,lZ1,lZ0,List.replicate,gZ0,gZ1,oZ0,eZ0,V.int.injEq,V.bl.injEq,and_true,and_assoc,aZ0,ht,hk]
      cases v <;> first|exact q'|exact absurd ⟨_,rfl⟩ hv
abbrev s_is_name:Stmt:=stm 18
theorem sc_is_name:FnScope ["thing"] ["thing"] (defScope s_is_name):=⟨rfl,rfl,rfl,by decide +kernel,rfl,by decide +kernel,by decide +kernel⟩
abbrev s_is_number:Stmt:=stm 31
theorem sc_is_number:FnScope ["word"] ["word"] (defScope s_is_number):=⟨rfl,rfl,rfl,by decide +kernel,rfl,by decide +kernel,by decide +kernel⟩
theorem cs_is_number_0:CScope ["sign"] [] { kind:=.function,names:=[(".0", .local),("sign", .local),("FIGURES", .globalImplicit)],isGenerator:=false,isCoroutine:=false,more:=[] } (defScope s_is_number):=⟨rfl,by decide +kernel,by decide +kernel,by decide +kernel,by decide +kernel,by decide +kernel⟩
abbrev s_read_number:Stmt:=stm 32
theorem sc_read_number:FnScope ["word","at"] ["word","at"] (defScope s_read_number):=⟨rfl,rfl,rfl,by decide +kernel,rfl,by decide +kernel,by decide +kernel⟩
abbrev s_read_price:Stmt:=stm 33
theorem sc_read_price:FnScope ["word","at"] ["word","at"] (defScope s_read_price):=⟨rfl,rfl,rfl,by decide +kernel,rfl,by decide +kernel,by decide +kernel⟩
abbrev s_read_deed:Stmt:=stm 34
theorem sc_read_deed:FnScope ["word","at"] ["word","at"] (defScope s_read_deed):=⟨rfl,rfl,rfl,by decide +kernel,rfl,by decide +kernel,by decide +kernel⟩
theorem cs_read_deed_0:CScope ["part"] ["at"] { kind:=.function,names:=[(".0", .local),("part", .local),("read_number", .globalImplicit),("at", .free)],isGenerator:=false,isCoroutine:=false,more:=[] } (defScope s_read_deed):=⟨rfl,by decide +kernel,by decide +kernel,by decide +kernel,by decide +kernel,by decide +kernel⟩
abbrev s_read_deeds:Stmt:=stm 35
theorem sc_read_deeds:FnScope ["word","at"] ["word","at"] (defScope s_read_deeds):=⟨rfl,rfl,rfl,by decide +kernel,rfl,by decide +kernel,by decide +kernel⟩
theorem cs_read_deeds_0:CScope ["part"] ["at"] { kind:=.function,names:=[(".0", .local),("part", .local),("read_deed", .globalImplicit),("at", .free)],isGenerator:=false,isCoroutine:=false,more:=[] } (defScope s_read_deeds):=⟨rfl,by decide +kernel,by decide +kernel,by decide +kernel,by decide +kernel,by decide +kernel⟩
abbrev s_read_name:Stmt:=stm 36
theorem sc_read_name:FnScope ["word","at"] ["word","at"] (defScope s_read_name):=⟨rfl,rfl,rfl,by decide +kernel,rfl,by decide +kernel,by decide +kernel⟩
abbrev s_read_signs:Stmt:=stm 37
theorem sc_read_signs:FnScope ["word","at"] ["word","at"] (defScope s_read_signs):=⟨rfl,rfl,rfl,by decide +kernel,rfl,by decide +kernel,by decide +kernel⟩
theorem Sg_cps (l:List Nat):(Sg l).cps.toList=l:=by simp [Sg]
theorem txt_Sg {l:List Nat} {m f t:Nat} (h1:l≠[]) (h2:l.length≤m) (h3:∀ c∈l,f≤c∧c≤t):txt (Sg l) m f t=true:=by
  unfold txt
  have h0:1≤l.length:=by
    cases l with
    | nil=>exact absurd rfl h1
    | cons _ _=>simp
  rw [Sg_len,Sg_cps,decide_eq_true h0,decide_eq_true h2]
  simp only [Bool.true_and]
  rw [List.all_eq_true]
  intro c hc
  have:=h3 c hc
  unfold inC
  simp [this.1,this.2]
def sp_isnum:Sp:=fun vs H Q _=>∃ k:Nat,vs=[.str (Sg (nT k))]∧k<100000∧∀ H',Same H H'→Q (.bl true) H'
theorem own_isnum (D:Def K mg "is_number" s_is_number) (hb:Blt mg) (g_MOST_FIGURES:∃ u,mg "MOST_FIGURES"=some u∧RelV (.int 5) u) (g_FIGURES:∃ u,mg "FIGURES"=some u∧RelV (.str (Str.ofString "0123456789")) u):Own P w K mg base 1 "is_number" ["word"] sp_isnum:=by
  refine D.own sc_is_number (fun _ _ _ _ _ _ us hl=>match us,hl with|[_],_=>rfl) (fun vs H Q E h=>?_) (fun f cdv A outer s H vs Q E hr h=>?_)
  · obtain ⟨k,rfl,_⟩:=h
    rfl
  · obtain ⟨k,rfl,hk,q⟩:=h
    have hu:=hr.units
    have hu1:(A.deeper (PyProof.Rows.envOfC "is_number" (defScope s_is_number) s.heap.objs.size f cdv)).units+1<cLine:=by omega
    refine ⟨_,(pss_cons (ps_if (@PW.pt _ _ _ (pw_or (pt_not (pt_chain op_le op_le pe_int (pe_callB call_lenX rfl (hb _ (by decide)) bt_len (pa_cX (pv 0) pa_nil)) (pe_glb g_MOST_FIGURES))) (pw_or1 (pt_not (pt_truX (pe_callB (call_allX rfl) rfl (hb _ (by decide)) bt_all (pa_cX (pe_comp ["sign"] [] [] rfl cs_is_number_0 (pi_str (pv 0)) (fun _ _ _ _=>(pg_name (i:=0) cs_is_number_0.nd rfl (by first|exact Or.inl rfl|exact Or.inr rfl))) (fun _ _ _ _=>pf_nil) (fun _ _ _ _=>(pe_cmpR op_inS (pv 0) (pe_glb g_FIGURES) rfl))) pa_nil))))))) (pss_one (ps_ret pe_bl)) pss_nil) (pss_one (ps_ret (pe_or (pe_cmpR op_eq (pv 0) pe_str (nomark _)) (pe_one (pe_cmpR op_ne (pe_ix ix_str (pv 0) pe_int (fun _ _=>rfl)) pe_str (nomark _))))))),?_⟩
    obtain ⟨c,r,e,hc⟩:=nT_hd k
    have hl:=nT_len5 hk
    have hl1:1≤(nT k).length:=by rw [e]; simp
    have hz:(Sg (nT k)).length≤sizeLine:=by rw [Sg_len,sizeLine_eq]; omega
    have ef:Str.ofString "0123456789"=Sg (K82.w "0123456789"):=S_of _
    have e0:Str.ofString "0"=Sg [48]:=S_of _
    simp (maxSteps:=1000000) only [tComp_eq,rEq_ss,rAllX,iStr,rLenX,lenX_s',tTruX,truX_b,Nat.reduceSub,Nat.reduceAdd,Bool.not_false,cZ0,tSeq,eZ1,if_true,tIfS,tOr,tNot,tTest,tOp,tVar,tC,rI0,tRet,tNext,tOrV,tCons,tNil,tCB,tChain,L2.start,mZ1,mZ0,lZ1,lZ0,List.replicate,gZ0,oZ0,eZ0,V.int.injEq,V.bl.injEq,V.str.injEq,and_true,aZ0,hz,ef,e0]
    have e1:decide (1≤(((Sg (nT k)).length:Nat):Int))=true:=by rw [Sg_len]; exact decide_eq_true (by omega)
    have e2:decide ((((Sg (nT k)).length:Nat):Int)≤5)=true:=by rw [Sg_len]; exact decide_eq_true (by omega)
    rw [e1,e2]
    have hcs:c≠48∨nT k=[48]:=by
      by_cases h0:k=0
      · subst h0; exact .inr nT_0
      · exact .inl (hc h0)
    refine iteT (iteF (comp_itvP (by rw [signs_len,Sg_len]; omega) (fun _=>.bl true) ?_ ?_ (gName_mono 0)))
    · intro H1 x Q' hx s1 hq
      obtain ⟨d,hd,rfl⟩:=List.mem_map.mp hx
      rw [Sg_cps] at hd
      simp (maxSteps:=1000000) only [cSt,List.drop_succ_cons,List.drop_zero,tOp,tVar,tC,gName,mZ0,List.replicate,gZ0,sZ0,oZ0,eZ0,V.str.injEq,true_and,aZ0,mZ0,rInS]
      have hin:decide (d∈K82.w "0123456789")=true:=by
        have:=nT_dig hd
        have hw:∀ d:Fin 10,(48+d.val)∈K82.w "0123456789":=by decide
        have:=hw ⟨d - 48,by omega⟩
        have e:48+(d - 48)=d:=by omega
        simp only [e] at this
        exact decide_eq_true this
      refine ⟨_,_,rfl,rfl,?_⟩
      rw [hin]
      exact hq
    · intro D hD
      refine ⟨D,rfl,(signs (Sg (nT k))).map (fun _=>true),?_,?_⟩
      · rw [upd_same,List.map_map]
        rfl
      · rw [List.all_map]
        have:((signs (Sg (nT k))).all (id∘fun _=>true))=true:=by rw [List.all_eq_true]; intro _ _; rfl
        rw [this]
        simp (maxSteps:=1000000) only [rNe_ss,Bool.not_true,eZ1,if_false,Bool.false_eq_true,eZ0,V.int.injEq,V.str.injEq,S_eq,rIxS]
        have q':=q (upd H D (.lst ((signs (Sg (nT k))).map fun _=>V.bl true))) (.upd_new hD)
        refine ite2 (fun _=>q') (fun hne=>⟨hz,c,by rw [Sg_cps,e]; exact atI_0,?_⟩)
        have h48:c≠48:=hcs.elim id fun h=>absurd (decide_eq_true h) hne
        have:(!decide (({ cps:=#[c] }:Str)=Sg [48]))=true:=by
          rw [decide_eq_false fun h=>h48 (by have:=S_inj (a:=[c]) h; simpa using this)]
          rfl
        rw [this]
        exact q'
def sp_rd (Kd:Fld→Prop):Sp:=fun vs H Q _=>∃ (f:Fld) (a:V),vs=[.str (Sg (fT f)),a]∧Kd f∧f.Ok∧∀ v H',Same H H'→RF (fun b=>H b=none) H' f v→Q v H'
def kN (f:Fld):Prop:=∃ k,f=.n k
def kO (f:Fld):Prop:=∃ p,f=.o p
def kD (f:Fld):Prop:=∃ d,f=.ds d
def kM (f:Fld):Prop:=∃ s,f=.nm s
def kS (f:Fld):Prop:=∃ s,f=.sg s
theorem own_rnum (D:Def K mg "read_number" s_read_number) (hb:Blt mg) (F_is_number:Own P w K mg base 1 "is_number" ["word"] sp_isnum):Own P w K mg base 2 "read_number" ["word","at"] (sp_rd kN):=by
  refine D.own sc_read_number (fun _ _ _ _ _ _ us hl=>match us,hl with|[_,_],_=>rfl) (fun vs H Q E h=>?_) (fun f cdv A outer s H vs Q E hr h=>?_)
  · obtain ⟨f,a,rfl,_⟩:=h
    rfl
  · obtain ⟨f,a,rfl,⟨k,rfl⟩,hk,q⟩:=h
    refine ⟨_,(pss_cons (ps_if (pt_not (pt_truX (pe_fn F_is_number hr (pa_cX (pv 0) pa_nil)))) (pss_one ps_never) pss_nil) (pss_one (ps_ret (pe_callTy call_intS rfl (hb _ (by decide)) bt_int (pa_cX (pv 0) pa_nil))))),?_⟩
    simp (maxSteps:=1000000) only [tTruX,Nat.reduceSub,Nat.reduceAdd,tNever,cZ0,tSeq,tIfS,tNot,tVar,tRet,tNext,tCall,tCons,tNil,tCB,L2.start,mZ1,mZ0,lZ1,lZ0,List.replicate,gZ0,oZ0,eZ0,V.str.injEq,and_true,aZ0,fT,rIntS]
    have hk':k<100000:=hk
    refine ⟨k,rfl,hk',fun H' s'=>?_⟩
    simp (maxSteps:=1000000) only [truX_b,Bool.not_true,if_false,Bool.false_eq_true,oZ0,eZ0]
    exact ⟨(k:Int),(S_num k).symm,by omega,by omega,q _ _ s' rfl⟩
theorem own_rprice (D:Def K mg "read_price" s_read_price) (g_NONE:∃ u,mg "NONE"=some u∧RelV (.str (Str.ofString "none")) u) (F_read_number:Own P w K mg base 2 "read_number" ["word","at"] (sp_rd kN)):Own P w K mg base 3 "read_price" ["word","at"] (sp_rd kO):=by
  refine D.own sc_read_price (fun _ _ _ _ _ _ us hl=>match us,hl with|[_,_],_=>rfl) (fun vs H Q E h=>?_) (fun f cdv A outer s H vs Q E hr h=>?_)
  · obtain ⟨f,a,rfl,_⟩:=h
    rfl
  · obtain ⟨f,a,rfl,⟨o,rfl⟩,hk,q⟩:=h
    have en:Str.ofString "none"=Sg (K82.w "none"):=S_of _
    refine ⟨_,(pss_one (ps_ret (pe_ifExp (pt_cmpR op_eq (pv 0) (pe_glb g_NONE) (nomark _)) pe_non (pe_fn F_read_number hr (pa_cX (pv 0) (pa_cX (pv 1) pa_nil)))))),?_⟩
    cases o with
    | none=>
      simp (maxSteps:=1000000) only [rEq_ss,Nat.reduceSub,Nat.reduceAdd,decide_true,if_true,tTest,tOp,tVar,tC,tRet,tIf,tCall,tCons,tNil,L2.start,mZ1,mZ0,lZ1,lZ0,List.replicate,gZ0,gZ1,oZ0,eZ0,V.bl.injEq,aZ0,fT,oT,en]
      exact q _ _ (.refl _) rfl
    | some k=>
      have hne:nT k≠K82.w "none":=nT_has (c:=110) (by decide) (by decide)
      simp (maxSteps:=1000000) only [rEq_ss,Nat.reduceSub,Nat.reduceAdd,decide_false,if_false,Bool.false_eq_true,tTest,tOp,tVar,tC,tRet,tIf,tCall,tCons,tNil,L2.start,mZ1,mZ0,lZ1,lZ0,List.replicate,gZ0,gZ1,oZ0,eZ0,V.bl.injEq,aZ0,fT,oT,en,S_eq,hne]
      exact ⟨.n k,a,rfl,⟨k,rfl⟩,hk k rfl,fun v H' s' r=>q v H' s' r⟩
def sp_rdeed:Sp:=fun vs H Q _=>∃ (d:List Nat) (a:V),vs=[.str (Sg (dT d)),a]∧okD d∧∀ v H',Same H H'→RD (fun b=>H b=none) H' d v→Q v H'
theorem niVs_of {d:List Nat} {vs:List V} {R:Hp→Nat→V→Prop} {H:Hp} (hR:∀ k v,R H k v→v=niV k) (p:Paired (R H) d vs):vs=d.map niV:=by
  induction p with
  | nil=>rfl
  | cons h t ih=>rw [mZ1,hR _ _ h,ih]
theorem own_rdeed (D:Def K mg "read_deed" s_read_deed) (hb:Blt mg) (g_NO_DELAYS:∃ u,mg "NO_DELAYS"=some u∧RelV (.str (Str.ofString "-")) u) (F_read_number:Own P w K mg base 2 "read_number" ["word","at"] (sp_rd kN)):Own P w K mg base 3 "read_deed" ["word","at"] sp_rdeed:=by
  refine D.own sc_read_deed (fun _ _ _ _ _ _ us hl=>match us,hl with|[_,_],_=>rfl) (fun vs H Q E h=>?_) (fun f cdv A outer s H vs Q E hr h=>?_)
  · obtain ⟨d,a,rfl,_⟩:=h
    rfl
  · obtain ⟨d,a,rfl,hd,q⟩:=h
    have en:Str.ofString "-"=Sg (K82.w "-"):=S_of _
    have e44:Str.ofString ","=Sg [44]:=S_of _
    refine ⟨_,(pss_one (ps_ret (pe_ifExp (pt_cmpR op_eq (pv 0) (pe_glb g_NO_DELAYS) (nomark _)) (pe_tup pa_nil) (pe_callTy call_tupX rfl (hb _ (by decide)) bt_tuple (pa_cX (pe_comp ["part"] ["at"] [1] rfl cs_read_deed_0 (pi_listK K (pe_splS (pv 0) pe_str (by constructor <;> rfl))) (fun _ _ _ _=>(pg_name (i:=0) cs_read_deed_0.nd rfl (by first|exact Or.inl rfl|exact Or.inr rfl))) (fun _ _ _ _=>pf_nil) (fun _ _ _ _=>(pe_fn F_read_number hr (pa_cX (pv 0) (pa_cX (pv 1) pa_nil))))) pa_nil))))),?_⟩
    by_cases h0:d=[]
    · subst h0
      have e0:dT []=K82.w "-":=rfl
      simp (maxSteps:=1000000) only [tComp_eq,rEq_ss,rTupX,Nat.reduceSub,Nat.reduceAdd,decide_true,iList,cZ0,eZ1,if_true,tTest,tOp,tVar,tC,tRet,tIf,tCons,tNil,tCB,tTup,L2.start,mZ1,mZ0,lZ1,lZ0,List.replicate,gZ0,oZ0,eZ0,V.bl.injEq,and_true,aZ0,e0,en]
      exact ⟨by rw [sizeLine_eq]; decide,fun p hp=>q _ _ (.upd_new hp) ⟨p,rfl,hp,upd_same⟩⟩
    · have hne:=dT_ne h0
      simp (maxSteps:=1000000) only [tComp_eq,rEq_ss,rTupX,Nat.reduceSub,Nat.reduceLT,Nat.reduceAdd,decide_false,iList,cZ0,eZ1,if_false,Bool.false_eq_true,tTest,tOp,tVar,tC,tRet,tIf,tCons,tNil,tCB,tTup,L2.start,mZ1,mZ0,lZ1,lZ0,List.replicate,gZ0,oZ0,eZ0,V.bl.injEq,V.ref.injEq,V.str.injEq,and_true,true_and,aZ0,en,S_eq,hne,tSplS,e44]
      have hl:=dT_len hd
      refine ⟨by omega,?_⟩
      intro p1 n1
      generalize z1:upd H p1 _=H1
      obtain ⟨s1,e1⟩:=new_same z1 n1
      have hge:d.length≤(dT d).length+1:=by
        unfold dT
        rw [if_neg h0]
        have:=jW_ge (c:=44) (l:=d.map nT) (by simpa using h0)
        rwa [List.length_map] at this
      rw [dT_spl h0 (by omega)] at e1
      refine ⟨⟨_,SqL.of e1⟩,grow_list (SqL.of e1) (by have:=hd.1; rw [sizeLine_eq]; simp [wV]; omega) d (by simp [wV]) (fun _ k v=>v=niV k) (fun _ _ _ _ _ h=>h) ?_ ?_⟩
      · rintro D i x k acc H2 hD hx hk s2 eD Nx Y kk
        have ex:x=.str (Sg (nT k)):=by
          unfold wV at hx
          rw [List.getElem?_map,List.getElem?_map,hk] at hx
          exact (Option.some.inj hx).symm
        subst ex
        simp (maxSteps:=1000000) only [tYes,cSt,List.drop_succ_cons,List.drop_zero,if_true,tVar,gName,tCall,tCons,tNil,mZ1,mZ0,List.replicate,List.cons_append,List.nil_append,gZ0,gZ1,sZ0,oZ0,eZ0,true_and,aZ0,Option.join_some]
        exact ⟨.n k,a,rfl,⟨k,rfl⟩,hd.2 k (List.mem_of_getElem? hk),fun v H3 s3 r=>kk _ _ s3 fun _=>r⟩
      · rintro D vs H2 hD s2 eD p
        have evs:vs=d.map niV:=niVs_of (R:=fun _ k v=>v=niV k) (H:=H2) (fun _ _ h=>h) p
        subst evs
        simp (maxSteps:=1000000) only [HO.lst.injEq,oZ0,eZ0,V.ref.injEq,eD]
        exact fun t ht=>q _ _ ((s1.trans s2).upd ((s1.trans s2).free ht)) ⟨t,rfl,(s1.trans s2).free ht,upd_same⟩
theorem own_rdeeds (D:Def K mg "read_deeds" s_read_deeds) (hb:Blt mg) (g_NONE:∃ u,mg "NONE"=some u∧RelV (.str (Str.ofString "none")) u) (F_read_deed:Own P w K mg base 3 "read_deed" ["word","at"] sp_rdeed):Own P w K mg base 4 "read_deeds" ["word","at"] (sp_rd kD):=by
  refine D.own sc_read_deeds (fun _ _ _ _ _ _ us hl=>match us,hl with|[_,_],_=>rfl) (fun vs H Q E h=>?_) (fun f cdv A outer s H vs Q E hr h=>?_)
  · obtain ⟨f,a,rfl,_⟩:=h
    rfl
  · obtain ⟨f,a,rfl,⟨d,rfl⟩,hd,q⟩:=h
    have hd:okDs d:=hd
    have en:Str.ofString "none"=Sg (K82.w "none"):=S_of _
    have e47:Str.ofString "/"=Sg [47]:=S_of _
    refine ⟨_,(pss_one (ps_ret (pe_ifExp (pt_cmpR op_eq (pv 0) (pe_glb g_NONE) (nomark _)) (pe_lst pa_nil) (pe_comp ["part"] ["at"] [1] rfl cs_read_deeds_0 (pi_listK K (pe_splS (pv 0) pe_str (by constructor <;> rfl))) (fun _ _ _ _=>(pg_name (i:=0) cs_read_deeds_0.nd rfl (by first|exact Or.inl rfl|exact Or.inr rfl))) (fun _ _ _ _=>pf_nil) (fun _ _ _ _=>(pe_fn F_read_deed hr (pa_cX (pv 0) (pa_cX (pv 1) pa_nil)))))))),?_⟩
    by_cases h0:d=[]
    · subst h0
      have e0:fT (.ds [])=K82.w "none":=rfl
      simp (maxSteps:=1000000) only [tComp_eq,rEq_ss,Nat.reduceSub,Nat.reduceAdd,decide_true,iList,if_true,tTest,tOp,tVar,tC,tRet,tIf,tNil,tLst,L2.start,mZ1,mZ0,lZ1,lZ0,List.replicate,gZ0,oZ0,eZ0,V.bl.injEq,aZ0,e0,en]
      exact ⟨by rw [sizeLine_eq]; decide,fun p hp=>q _ _ (.upd_new hp) ⟨p,[],rfl,hp,upd_same,.nil⟩⟩
    · have hne:=dsT_ne h0
      have e0:fT (.ds d)=dsT d:=rfl
      simp (maxSteps:=1000000) only [tComp_eq,rEq_ss,Nat.reduceSub,Nat.reduceLT,Nat.reduceAdd,decide_false,iList,cZ0,if_false,Bool.false_eq_true,tTest,tOp,tVar,tC,tRet,tIf,tNil,tLst,L2.start,mZ1,mZ0,lZ1,lZ0,List.replicate,gZ0,oZ0,eZ0,V.bl.injEq,V.ref.injEq,V.str.injEq,and_true,true_and,aZ0,e0,en,S_eq,hne,tSplS,e47]
      have hl:=dsT_len hd
      refine ⟨by omega,?_⟩
      intro p1 n1
      generalize z1:upd H p1 _=H1
      obtain ⟨s1,e1⟩:=new_same z1 n1
      have hge:d.length≤(dsT d).length+1:=by
        unfold dsT
        rw [if_neg h0]
        have:=jW_ge (c:=47) (l:=d.map dT) (by simpa using h0)
        rwa [List.length_map] at this
      rw [dsT_spl h0 (by omega)] at e1
      refine ⟨⟨_,SqL.of e1⟩,grow_list (SqL.of e1) (by have:=hd.1; rw [sizeLine_eq]; simp [wV]; omega) d (by simp [wV]) (RD (fun b=>H b=none)) (fun _ _ _ _ s h=>h.same s) ?_ ?_⟩
      · rintro D i x k acc H2 hD hx hk s2 eD Nx Y kk
        have ex:x=.str (Sg (dT k)):=by
          unfold wV at hx
          rw [List.getElem?_map,List.getElem?_map,hk] at hx
          exact (Option.some.inj hx).symm
        subst ex
        simp (maxSteps:=1000000) only [tYes,cSt,List.drop_succ_cons,List.drop_zero,if_true,tVar,gName,tCall,tCons,tNil,mZ1,mZ0,List.replicate,List.cons_append,List.nil_append,gZ0,gZ1,sZ0,oZ0,eZ0,true_and,aZ0,Option.join_some]
        refine ⟨k,a,rfl,hd.2 k (List.mem_of_getElem? hk),fun v H3 s3 r=>kk _ _ s3 fun z=>?_⟩
        have r1:=r.keep (H':=upd H3 D (.lst z)) (A:=[D]) (Keep.refl.upd (.inl (.head _))) fun b hb hn=>by
          rw [List.mem_singleton] at hb
          subst hb
          rw [eD] at hn
          cases hn
        exact r1.mono fun b hb=>s1.free (s2.free hb)
      · rintro D vs H2 hD s2 eD p
        exact q _ _ (s1.trans s2) ⟨D,vs,rfl,s1.free hD,eD,p⟩
theorem own_isn (D:Def K mg "is_name" s_is_name) (g_MOST_LETTERS:∃ u,mg "MOST_LETTERS"=some u∧RelV (.int 8) u) (F_is_text_of:Own P w K mg base 1 "is_text_of" ["thing","most","first","last"] sp_text):Own P w K mg base 2 "is_name" ["thing"] (fun vs H Q _=>∃ z,vs=[.str (Sg z)]∧okN z∧∀ H',Same H H'→Q (.bl true) H'):=by
  refine D.own sc_is_name (fun _ _ _ _ _ _ us hl=>match us,hl with|[_],_=>rfl) (fun vs H Q E h=>?_) (fun f cdv A outer s H vs Q E hr h=>?_)
  · obtain ⟨z,rfl,_⟩:=h
    rfl
  · obtain ⟨z,rfl,hz,q⟩:=h
    refine ⟨_,(pss_one (ps_ret (pe_fn F_is_text_of hr (pa_cX (pv 0) (pa_cX (pe_glb g_MOST_LETTERS) (pa_cX pe_str (pa_cX pe_str pa_nil))))))),?_⟩
    simp (maxSteps:=1000000) only [Nat.reduceSub,Nat.reduceAdd,tVar,tC,tRet,tCall,tCons,tNil,L2.start,mZ1,mZ0,lZ1,lZ0,List.replicate,gZ0,oZ0,eZ0,aZ0]
    refine ⟨.str (Sg z),8,97,122,"str", ?_,by decide,rfl,(fun z' e=>by cases e; rw [Sg_len]; have:=hz.2.1; omega),fun H' s'=>?_⟩
    · have ea:Str.ofString "a"=one 97:=by decide
      have ez:Str.ofString "z"=one 122:=by decide
      rw [← ea,← ez]
      rfl
    · change Q (.bl (txt (Sg z) 8 97 122)) H'
      rw [txt_Sg hz.1 hz.2.1 hz.2.2]
      exact q H' s'
theorem own_rname (D:Def K mg "read_name" s_read_name) (F_is_name:Own P w K mg base 2 "is_name" ["thing"] (fun vs H Q _=>∃ z,vs=[.str (Sg z)]∧okN z∧∀ H',Same H H'→Q (.bl true) H')):Own P w K mg base 3 "read_name" ["word","at"] (sp_rd kM):=by
  refine D.own sc_read_name (fun _ _ _ _ _ _ us hl=>match us,hl with|[_,_],_=>rfl) (fun vs H Q E h=>?_) (fun f cdv A outer s H vs Q E hr h=>?_)
  · obtain ⟨f,a,rfl,_⟩:=h
    rfl
  · obtain ⟨f,a,rfl,⟨z,rfl⟩,hz,q⟩:=h
    refine ⟨_,(pss_cons (ps_if (pt_not (pt_truX (pe_fn F_is_name hr (pa_cX (pv 0) pa_nil)))) (pss_one ps_never) pss_nil) (pss_one (ps_ret (pv 0)))),?_⟩
    simp (maxSteps:=1000000) only [tTruX,truX_b,Nat.reduceSub,Nat.reduceAdd,tNever,Bool.not_true,cZ0,tSeq,if_false,Bool.false_eq_true,tIfS,tNot,tVar,tRet,tNext,tCall,tCons,tNil,L2.start,mZ1,mZ0,lZ1,lZ0,List.replicate,gZ0,oZ0,eZ0,V.str.injEq,and_true,aZ0,fT]
    exact ⟨z,rfl,hz,fun H' s'=>q _ _ s' rfl⟩
theorem own_rsigns (D:Def K mg "read_signs" s_read_signs) (hb:Blt mg) (F_is_text_of:Own P w K mg base 1 "is_text_of" ["thing","most","first","last"] sp_text):Own P w K mg base 2 "read_signs" ["word","at"] (sp_rd kS):=by
  refine D.own sc_read_signs (fun _ _ _ _ _ _ us hl=>match us,hl with|[_,_],_=>rfl) (fun vs H Q E h=>?_) (fun f cdv A outer s H vs Q E hr h=>?_)
  · obtain ⟨f,a,rfl,_⟩:=h
    rfl
  · obtain ⟨f,a,rfl,⟨z,rfl⟩,hz,q⟩:=h
    have hz:okS z:=hz
    have hzl:(Sg z).length≤sizeLine:=by rw [Sg_len,sizeLine_eq]; have:=hz.2.1; omega
    refine ⟨_,(pss_cons (ps_if (pt_not (pt_truX (pe_fn F_is_text_of hr (pa_cX (pv 0) (pa_cX (pe_callB call_lenX rfl (hb _ (by decide)) bt_len (pa_cX (pv 0) pa_nil)) (pa_cX pe_str (pa_cX pe_str pa_nil))))))) (pss_one ps_never) pss_nil) (pss_one (ps_ret (pv 0)))),?_⟩
    simp (maxSteps:=1000000) only [rLenX,lenX_s',tTruX,Nat.reduceSub,Nat.reduceAdd,tNever,cZ0,tSeq,eZ1,if_true,tIfS,tNot,tVar,tC,tRet,tNext,tCall,tCons,tNil,tCB,L2.start,mZ1,mZ0,lZ1,lZ0,List.replicate,gZ0,oZ0,eZ0,and_true,aZ0,fT,hzl]
    refine ⟨.str (Sg z),(Sg z).length,32,126,"str", ?_,by rw [Sg_len]; have:=hz.2.1; omega,rfl,(fun z' e=>by cases e; rw [Sg_len]; have:=hz.2.1; omega),fun H' s'=>?_⟩
    · have ea:Str.ofString " "=one 32:=by decide
      have ez:Str.ofString "~"=one 126:=by decide
      rw [← ea,← ez]
    · have et:txt (Sg z) (Sg z).length 32 126=true:=txt_Sg hz.1 (by rw [Sg_len]; exact Nat.le_refl _) hz.2.2
      refine ⟨_,rfl,?_⟩
      change if (!txt (Sg z) (Sg z).length 32 126)=true then False else Q (V.str (Sg z)) H'
      rw [et]
      exact q _ _ s' rfl
end
end K82
namespace K82
open PySem L2
theorem op_catTK {X:Cx} {K:PySem.W.Frag} (h:X.K=K:=by rfl):OpR X (binaryOp .Add) (rCatT K):=by subst h; exact op_catT
section
variable {P:Program} {w:World} {K:PySem.W.Frag} {mg:Str→Option Value} {base:Heap} {C:Addr}
abbrev s_read_words:Stmt:=stm 40
theorem sc_read_words:FnScope ["words","readers","at"] ["words","readers","at"] (defScope s_read_words):=⟨rfl,rfl,rfl,by decide +kernel,rfl,by decide +kernel,by decide +kernel⟩
theorem cs_read_words_0:CScope ["reader","word"] ["at"] { kind:=.function,names:=[(".0", .local),("reader", .local),("word", .local),("at", .free)],isGenerator:=false,isCoroutine:=false,more:=[] } (defScope s_read_words):=⟨rfl,by decide +kernel,by decide +kernel,by decide +kernel,by decide +kernel,by decide +kernel⟩
abbrev s_read_measures:Stmt:=stm 41
theorem sc_read_measures:FnScope ["row","words"] ["row"] (defScope s_read_measures):=⟨rfl,rfl,rfl,by decide +kernel,rfl,by decide +kernel,by decide +kernel⟩
abbrev s_read_wish:Stmt:=stm 42
theorem sc_read_wish:FnScope ["row","at","words","whose","what"] ["row","at"] (defScope s_read_wish):=⟨rfl,rfl,rfl,by decide +kernel,rfl,by decide +kernel,by decide +kernel⟩
abbrev s_read_row:Stmt:=stm 43
theorem sc_read_row:FnScope ["row","kind","at"] ["row","kind","at"] (defScope s_read_row):=⟨rfl,rfl,rfl,by decide +kernel,rfl,by decide +kernel,by decide +kernel⟩
theorem FnV.mono {j k:Nat} {ps:List Str} {f:Addr} {sp:Sp} (h:FnV P w K mg base j ps f sp) (hk:j≤k):FnV P w K mg base k ps f sp:=
  let ⟨fd,a,b,F⟩:=h; ⟨fd,a,b,F.mono hk⟩
def Rdr (P:Program) (w:World) (K:PySem.W.Frag) (mg:Str→Option Value) (base:Heap) (f:Fld) (r:V):Prop:=∃ ad Kd,r=.ref ad∧FnV P w K mg base 4 ["word","at"] ad (sp_rd Kd)∧Kd f
def sp_rwords (P:Program) (w:World) (K:PySem.W.Frag) (mg:Str→Option Value) (base:Heap):Sp:=fun vs H Q _=>∃ (pw pr:Addr) (a:V) (κ:Bool) (rs:List V) (fs:List Fld),vs=[.ref pw,.ref pr,a]∧H pw=some (.lst (wV (fs.map fT)))∧Sq κ K H pr rs∧Paired (Rdr P w K mg base) fs rs∧okF fs∧fs.length≤10 ∧
  ∀ p us H',Same H H'→H p=none→H' p=some (.tup us)→Paired (RF (fun b=>H b=none) H') fs us→Q (.ref p) H'
theorem sq_any {κ:Bool} {H:Hp} {p:Addr} {rs:List V} (h:Sq κ K H p rs):SqL K H p rs∨SqT K H p rs:=by
  cases κ
  · exact .inl h
  · exact .inr h
theorem own_rwords (D:Def K mg "read_words" s_read_words) (hb:Blt mg) (hzip:mg "zip"=none):Own P w K mg base 5 "read_words" ["words","readers","at"] (sp_rwords P w K mg base):=by
  refine D.own sc_read_words (fun _ _ _ _ _ _ us hl=>match us,hl with|[_,_,_],_=>rfl) (fun vs H Q E h=>?_) (fun f cdv A outer s H vs Q E hr h=>?_)
  · obtain ⟨pw,pr,a,κ,rs,fs,rfl,_⟩:=h
    rfl
  · obtain ⟨pw,pr,a,κ,rs,fs,rfl,ew,er,hP,ok,hl,q⟩:=h
    have hu:=hr.units
    have hu1:(A.deeper (PyProof.Rows.envOfC "read_words" (defScope s_read_words) s.heap.objs.size f cdv)).units+1<cLine:=by omega
    refine ⟨_,(pss_cons (ps_if (pt_cmpR op_ne (pe_callB call_lenX rfl (hb _ (by decide)) bt_len (pa_cX (pv 0) pa_nil)) (pe_callB (call_lenK K) rfl (hb _ (by decide)) bt_len (pa_cX (pv 1) pa_nil)) (nomark _)) (pss_one ps_never) pss_nil) (pss_one (ps_ret (pe_callTy call_tupX rfl (hb _ (by decide)) bt_tuple (pa_cX (pe_comp ["reader","word"] ["at"] [2] rfl cs_read_words_0 (pi_zipU K rfl hzip (pa_cX (pv 1) (pa_cX (pv 0) pa_nil))) (fun _ _ _ _=>(pg_seqX (n:=2) rfl (pgs_cons (pg_name (i:=0) cs_read_words_0.nd rfl (by first|exact Or.inl rfl|exact Or.inr rfl)) (pgs_cons (pg_name (i:=1) cs_read_words_0.nd rfl (by first|exact Or.inl rfl|exact Or.inr rfl)) pgs_nil)))) (fun _ _ _ _=>pf_nil) (fun _ _ _ _=>(pe_fnV (P:=P) (w:=w) (K:=K) (mg:=mg) (base:=base) (j:=4) (ps:=(["word","at"])) (pv 0) hr (pa_cX (pv 1) (pa_cX (pv 2) pa_nil))))) pa_nil))))),?_⟩
    have hpl:=hP.length
    simp (maxSteps:=1000000) only [tComp_eq,rLenX,lenX_r,lenO_l,Option.bind_some,rTupX,Nat.reduceSub,Nat.reduceAdd,tNever,rLen,cZ0,rNe_ii,tSeq,eZ1,tIfS,tTest,tOp,tVar,tRet,tNext,tCons,tNil,tCB,L2.start,mZ1,mZ0,lZ1,lZ0,List.replicate,gZ0,gZ1,oZ0,eZ0,V.bl.injEq,V.ref.injEq,and_true,and_assoc,aZ0,ew,iZipU]
    refine ⟨rs,sq_any er,?_⟩
    have hlen:(!decide (((wV (fs.map fT)).length:Int)=((rs.length:Nat):Int)))=false:=by
      simp [wV,hpl]
    rw [hlen]
    simp (maxSteps:=1000000) only [if_false,Bool.false_eq_true]
    refine ⟨κ,⟨_,er⟩,⟨_,SqL.of ew⟩,grow_zip er (SqL.of ew) (by simp [wV,hpl]) (by rw [sizeLine_eq]; omega) fs hpl (fun H' f v=>RF (fun b=>H b=none) H' f v) (fun _ _ _ _ s h=>h.same s) ?_ ?_⟩
    · rintro D i x y pp f acc H2 hD hx hy hf s2 eD hp Nx Y kk
      obtain ⟨x',hx',⟨ad,Kd,rfl,F,hk⟩⟩:=paired_get hP hf
      rw [hx] at hx'
      cases hx'
      have ey:y=.str (Sg (fT f)):=by
        unfold wV at hy
        rw [List.getElem?_map,List.getElem?_map,hf] at hy
        exact (Option.some.inj hy).symm
      subst ey
      have epp:upd H2 pp (.tup [.ref ad,.str (Sg (fT f))]) pp=some (.tup [.ref ad,.str (Sg (fT f))]):=upd_same
      have s3:Same H2 (upd H2 pp (.tup [.ref ad,.str (Sg (fT f))])):=.upd_new hp
      generalize upd H2 pp (.tup [.ref ad,.str (Sg (fT f))])=H3 at epp s3 ⊢
      simp (maxSteps:=1000000) only [gSeqX,seqO_t,gCons,gNil,Nat.reduceAdd,tYes,cSt,List.drop_succ_cons,List.drop_zero,cZ0,eZ1,if_true,tVar,gName,tCons,tNil,mZ1,mZ0,lZ1,lZ0,List.replicate,List.cons_append,List.nil_append,gZ0,gZ1,sZ0,sZ1,oZ0,eZ0,V.ref.injEq,true_and,and_assoc,epp,Option.join_some,tFnV]
      refine ⟨_,F,f,a,rfl,hk,ok f (List.mem_of_getElem? hf),fun v H4 s4 r=>kk _ _ (s3.trans s4) fun z=>?_⟩
      have eD3:=s3 _ _ eD
      have r1:=r.keep (H':=upd H4 D (.lst z)) (A:=[D]) (Keep.refl.upd (.inl (.head _))) fun b hb hn=>by
        rw [List.mem_singleton] at hb
        subst hb
        rw [eD3] at hn
        cases hn
      exact r1.mono fun b hb=>s2.free (s3.free hb)
    · rintro D vs H2 hD s2 eD p
      simp (maxSteps:=1000000) only [HO.lst.injEq,oZ0,eZ0,V.ref.injEq,eD]
      exact fun t ht=>q t vs _ (s2.upd (s2.free ht)) (s2.free ht) upd_same (paired_imp (fun _ _ r=>r.same (.upd_new ht)) p)
theorem rT_spl {k:String} {fs:List Fld} (hk:32 ∉ K82.w k) (h:∀ f∈fs,f.Ok∧∀ s,f≠.sg s) {n:Nat} (hn:fs.length≤n):spl 32 n (rT k fs)=K82.w k::fs.map fT:=by
  unfold rT
  refine jW_spl (fun z=>nomatch z) (by simpa using hn) fun x hx=>?_
  rcases List.mem_cons.mp hx with rfl|hx
  · exact hk
  · obtain ⟨f,hf,rfl⟩:=List.mem_map.mp hx
    exact no_32 (h f hf).1 (h f hf).2
theorem rT_ge {k:String} {fs:List Fld}:fs.length≤(rT k fs).length:=by
  have:=jW_ge (c:=32) (l:=K82.w k::fs.map fT) (fun z=>nomatch z)
  rw [lZ1,List.length_map] at this
  unfold rT
  omega
theorem wV_cons {a:List Nat} {l:List (List Nat)}:wV (a::l)=.str (Sg a)::wV l:=rfl
theorem cut_1 {x:V} {xs:List V}:cutV (x::xs) (some 1) none=xs:=by
  have e:HT.sIx (x::xs).length 0 (some 1)=1:=by simp [HT.sIx]
  have e2:HT.sIx (x::xs).length (x::xs).length none=(x::xs).length:=rfl
  simp only [cutV,e,e2]
  simp
def sp_rmeas:Sp:=fun vs H Q _=>∃ ns:List Nat,vs=[.str (Sg (rT "measures" (ns.map Fld.n)))]∧ns.length=10∧(∀ k∈ns,k<100000)∧∀ p H',Same H H'→H' p=some (.tup (ns.map niV))→Q (.ref p) H'
theorem nis_of {N:Addr→Prop} {H:Hp} {ns:List Nat} {us:List V} (p:Paired (RF N H) (ns.map Fld.n) us):us=ns.map niV:=by
  induction ns generalizing us with
  | nil=>cases p; rfl
  | cons k ns ih=>
    cases p with
    | cons h t=>rw [mZ1,ih t,show _=niV k from h]
theorem own_rmeas {a:Addr} {bs:List Addr} {fn:Addr} (D:Def K mg "read_measures" s_read_measures) (hb:Blt mg) (B:BdAt K mg a bs) (g_read_number:∃ u,mg "read_number"=some u∧RelV (.ref fn) u) (Fn:FnV P w K mg base 4 ["word","at"] fn (sp_rd kN)) (F_read_words:Own P w K mg base 5 "read_words" ["words","readers","at"] (sp_rwords P w K mg base)):Own P w K mg base 6 "read_measures" ["row"] sp_rmeas:=by
  have g_BOUNDS:=B.g
  refine D.own sc_read_measures (fun _ _ _ _ _ _ us hl=>match us,hl with|[_],_=>rfl) (fun vs H Q E h=>?_) (fun f cdv A outer s H vs Q E hr h=>?_)
  · obtain ⟨ns,rfl,_⟩:=h
    rfl
  · obtain ⟨ns,rfl,hn,hk,q⟩:=h
    have hu:=hr.units
    have hu1:(A.deeper (PyProof.Rows.envOfC "read_measures" (defScope s_read_measures) s.heap.objs.size f cdv)).units+1<cLine:=by omega
    have e32:Str.ofString " "=Sg [32]:=S_of _
    have okf:okF (ns.map Fld.n):=fun f hf=>by
      obtain ⟨k,hk',rfl⟩:=List.mem_map.mp hf
      exact hk k hk'
    have hrl:(rT "measures" (ns.map Fld.n)).length≤1000:=rT_len (by decide) (by simp [hn]) okf (.inr fun f hf=>by
      obtain ⟨k,hk',rfl⟩:=List.mem_map.mp hf
      exact nT_len5 (hk k hk'))
    refine ⟨_,(pss_cons (ps_st (i:=1) sc_read_measures.nd rfl (pe_splS (pv 0) pe_str (by constructor <;> rfl))) (pss_cons (ps_if (pt_cmpR op_ne (pe_ix (ix_get hu1) (pv 1) pe_int (fun _ _=>rfl)) pe_str (nomark _)) (pss_one ps_never) pss_nil) (pss_one (ps_ret (pe_fn F_read_words hr (pa_cX (pe_slice sl_X (pv 1) (po_some pe_int) po_none) (pa_cX (pe_op op_rep (pe_lst (pa_cX (pe_glb g_read_number) pa_nil)) (pe_callB (call_lenK K) rfl (hb _ (by decide)) bt_len (pa_cX (pe_glb g_BOUNDS) pa_nil))) (pa_cX pe_int pa_nil)))))))),?_⟩
    simp (maxSteps:=1000000) only [rGet,getO_l,rSlX,Nat.reduceSub,upd_same,Nat.reduceAdd,tNever,rLen,tSl,tNoPart,tPart,cZ0,tSeq,eZ1,tIfS,tTest,tOp,tVar,tC,tRet,tAsg,gName,tNext,tCall,tCons,tNil,tCB,tLst,L2.start,mZ1,mZ0,lZ1,lZ0,List.replicate,List.cons_append,List.nil_append,gZ0,gZ1,sZ0,sZ1,oZ0,eZ0,V.int.injEq,V.ref.injEq,V.str.injEq,and_true,aZ0,tSplS,e32]
    refine ⟨_,rfl,32,rfl,by decide,by omega,?_⟩
    rw [rT_spl (by decide) (fun f hf=>⟨okf f hf,fun s e=>by
      obtain ⟨k,hk',rfl⟩:=List.mem_map.mp hf
      cases e⟩) (by have:=rT_ge (k:="measures") (fs:=ns.map Fld.n); omega)]
    intro p1 n1
    generalize z1:upd H p1 _=H1
    obtain ⟨s1,e1⟩:=new_same z1 n1
    have em:Str.ofString "measures"=Sg (K82.w "measures"):=S_of _
    simp (maxSteps:=1000000) only [rNe_ss,atI_0,HO.lst.injEq,decide_true,Bool.not_true,if_false,Bool.false_eq_true,oZ0,eZ0,V.bl.injEq,e1,em,cut_1,wV_cons]
    intro p2 n2
    generalize z2:upd H1 p2 _=H2
    obtain ⟨s2,e2⟩:=new_same z2 n2
    refine ⟨by rw [sizeLine_eq]; decide,?_⟩
    intro p3 n3
    generalize z3:upd H2 p3 _=H3
    obtain ⟨s3,e3⟩:=new_same z3 n3
    refine ⟨_,.inr (B.t H3),?_⟩
    rw [List.length_map,B.l]
    refine ⟨p3,_,_,rfl,rfl,e3,by decide,by decide,by rw [sizeLine_eq]; change 1 * 10≤_; decide,?_⟩
    intro p4 n4
    generalize z4:upd H3 p4 _=H4
    obtain ⟨s4,e4⟩:=new_same z4 n4
    refine ⟨p2,p4,.int 0,false,_,ns.map Fld.n,rfl,(s3.trans s4) _ _ e2,SqL.of e4,?_,okf,by simp [hn],fun p us H' s' hp ep pr=>q p H' ((((s1.trans s2).trans s3).trans s4).trans s') (by rw [ep,nis_of pr])⟩
    have hrep:(List.replicate (Int.toNat ((10:Nat):Int)) [V.ref fn]).flatten=(ns.map Fld.n).map fun _=>V.ref fn:=by
      rw [List.map_map]
      have:ns.map ((fun _=>V.ref fn)∘Fld.n)=List.replicate 10 (V.ref fn):=by
        rw [← hn]
        exact List.map_const' ..
      rw [this]
      rfl
    rw [hrep]
    have:∀ l:List Nat,Paired (Rdr P w K mg base) (l.map Fld.n) ((l.map Fld.n).map fun _=>V.ref fn):=fun l=>by
      induction l with
      | nil=>exact .nil
      | cons k l ih=>exact .cons ⟨fn,kN,rfl,Fn,k,rfl⟩ ih
    exact this ns
structure Fns (P:Program) (w:World) (K:PySem.W.Frag) (mg:Str→Option Value) (base:Heap) (fn fp fd fm fs:Addr):Prop where
  n:FnV P w K mg base 4 ["word","at"] fn (sp_rd kN)
  p:FnV P w K mg base 4 ["word","at"] fp (sp_rd kO)
  d:FnV P w K mg base 4 ["word","at"] fd (sp_rd kD)
  m:FnV P w K mg base 4 ["word","at"] fm (sp_rd kM)
  s:FnV P w K mg base 4 ["word","at"] fs (sp_rd kS)
def KT (K:PySem.W.Frag) (t:Addr) (l:List Addr):Prop:=∀ H,SqT K H t (l.map V.ref)
structure Tabs (K:PySem.W.Frag) (mg:Str→Option Value) (fn fp fd fm fs ar tl tc tr aw tb te tp ti tf ta:Addr):Prop where
  gn:∃ u,mg "read_number"=some u∧RelV (.ref fn) u
  gr:∃ u,mg "ROW_READERS"=some u∧RelV (.ref ar) u
  gw:∃ u,mg "WISH_READERS"=some u∧RelV (.ref aw) u
  kr:KD K ar [("line", .ref tl),("change", .ref tc),("road", .ref tr)]
  kw:KD K aw [("begin", .ref tb),("end", .ref te),("put", .ref tp),("bind", .ref ti),("free", .ref tf),("ask", .ref ta)]
  tl:KT K tl [fn,fn,fp]
  tc:KT K tc [fn,fn,fn,fp]
  tr:KT K tr [fn,fn,fd]
  tb:KT K tb [fn]
  te:KT K te [fn]
  tp:KT K tp [fn,fs]
  ti:KT K ti [fm]
  tf:KT K tf [fm]
  ta:KT K ta [fm]
section
variable {fn fp fd fm fs ar tl tc tr aw tb te tp ti tf ta:Addr}
theorem Tabs.wish (T:Tabs K mg fn fp fd fm fs ar tl tc tr aw tb te tp ti tf ta) (F:Fns P w K mg base fn fp fd fm fs) {x:Wt} (h:x.Ok):∃ t l,PyProof.Rows.KTD.datumAt (Sg x.wd) [("begin", V.ref tb),("end", .ref te),("put", .ref tp),("bind", .ref ti),("free", .ref tf),("ask", .ref ta)]=some (.ref t)∧KT K t l∧Paired (Rdr P w K mg base) x.fs (l.map V.ref):=by
  cases x with
  | one v f=>
    change ∃ t l,PyProof.Rows.KTD.datumAt (Sg v) _=_∧_∧Paired _ [f] _
    rcases h with ⟨h|h,k,rfl,hk⟩|⟨h|h|h,z,rfl,hz⟩ <;> subst h
    · exact ⟨tb,[fn],by rw [← S_of]; rfl,T.tb,.cons ⟨fn,kN,rfl,F.n,k,rfl⟩ .nil⟩
    · exact ⟨te,[fn],by rw [← S_of]; rfl,T.te,.cons ⟨fn,kN,rfl,F.n,k,rfl⟩ .nil⟩
    · exact ⟨ti,[fm],by rw [← S_of]; rfl,T.ti,.cons ⟨fm,kM,rfl,F.m,z,rfl⟩ .nil⟩
    · exact ⟨tf,[fm],by rw [← S_of]; rfl,T.tf,.cons ⟨fm,kM,rfl,F.m,z,rfl⟩ .nil⟩
    · exact ⟨ta,[fm],by rw [← S_of]; rfl,T.ta,.cons ⟨fm,kM,rfl,F.m,z,rfl⟩ .nil⟩
  | put k s=>
    change ∃ t l,PyProof.Rows.KTD.datumAt (Sg (K82.w "put")) _=_∧_∧Paired _ [Fld.n k,Fld.sg s] _
    exact ⟨tp,[fn,fs],by rw [← S_of]; rfl,T.tp,.cons ⟨fn,kN,rfl,F.n,k,rfl⟩ (.cons ⟨fs,kS,rfl,F.s,s,rfl⟩ .nil)⟩
end
theorem wd_no {x:Wt} (h:x.Ok):32 ∉ x.wd:=by
  cases x with
  | one v f=>
    change 32 ∉ v
    rcases h with ⟨h|h,_⟩|⟨h|h|h,_⟩ <;> subst h <;> decide
  | put k s=>exact (by decide:32 ∉ K82.w "put")
theorem wT_spl {s:Ws} (h:s.Ok):spl 32 5 (wT s)=K82.w "wish"::nT s.t::nT s.h::s.x.wd::s.x.fs.map fT:=by
  obtain ⟨t,hh,x⟩:=s
  have hx:x.Ok:=h.2.2
  have n1:32 ∉ nT t:=no_nT (by decide)
  have n2:32 ∉ nT hh:=no_nT (by decide)
  have n3:=wd_no hx
  unfold wT Wt.words
  cases x with
  | one v f=>
    refine jW_spl (fun z=>nomatch z) (by simp [Wt.fs]) fun y hy=>?_
    have nf:32 ∉ fT f:=by
      rcases hx with ⟨_,k,rfl,_⟩|⟨_,z,rfl,hz⟩
      · exact no_nT (by decide)
      · exact fun hm=>by have:=hz.2.2 _ hm; omega
    simp only [Wt.fs,mZ1,mZ0,List.mem_cons,List.not_mem_nil,or_false] at hy
    rcases hy with rfl|rfl|rfl|rfl|rfl
    · decide
    · exact n1
    · exact n2
    · exact n3
    · exact nf
  | put k z=>
    have:=jW_splR (c:=32) (l:=[K82.w "wish", nT t,nT hh,K82.w "put", nT k]) (r:=z) fun y hy=>by
      simp only [List.mem_cons,List.not_mem_nil,or_false] at hy
      rcases hy with rfl|rfl|rfl|rfl|rfl
      · decide
      · exact n1
      · exact n2
      · decide
      · exact no_nT (by decide)
    exact this
theorem cut_13 {a b c:V} {xs:List V}:cutV (a::b::c::xs) (some 1) (some 3)=[b,c]:=by
  have e:HT.sIx (a::b::c::xs).length 0 (some 1)=1:=by simp [HT.sIx]
  have e2:HT.sIx (a::b::c::xs).length (a::b::c::xs).length (some 3)=3:=by simp [HT.sIx]
  simp only [cutV,e,e2]
  simp
theorem cut_4 {a b c d:V} {xs:List V}:cutV (a::b::c::d::xs) (some 4) none=xs:=by
  have e:HT.sIx (a::b::c::d::xs).length 0 (some 4)=4:=by simp [HT.sIx]
  have e2:HT.sIx (a::b::c::d::xs).length (a::b::c::d::xs).length none=(a::b::c::d::xs).length:=rfl
  simp only [cutV,e,e2]
  simp
def sp_rwish:Sp:=fun vs H Q _=>∃ (s:Ws) (a:V),vs=[.str (Sg (wT s)),a]∧s.Ok∧∀ v H',Same H H'→RWs (fun b=>H b=none) H' s v→Q v H'
set_option maxHeartbeats 2000000 in
theorem own_rwish {fn fp fd fm fs ar tl tc tr aw tb te tp ti tf ta:Addr} (D:Def K mg "read_wish" s_read_wish) (hb:Blt mg) (T:Tabs K mg fn fp fd fm fs ar tl tc tr aw tb te tp ti tf ta) (F:Fns P w K mg base fn fp fd fm fs) (F_read_words:Own P w K mg base 5 "read_words" ["words","readers","at"] (sp_rwords P w K mg base)):Own P w K mg base 6 "read_wish" ["row","at"] sp_rwish:=by
  have g_read_number:=T.gn
  have g_WISH_READERS:=T.gw
  refine D.own sc_read_wish (fun _ _ _ _ _ _ us hl=>match us,hl with|[_,_],_=>rfl) (fun vs H Q E h=>?_) (fun f cdv A outer s H vs Q E hr h=>?_)
  · obtain ⟨s,a,rfl,_⟩:=h
    rfl
  · obtain ⟨y,a,rfl,ok,q⟩:=h
    have hu:=hr.units
    have hu1:(A.deeper (PyProof.Rows.envOfC "read_wish" (defScope s_read_wish) s.heap.objs.size f cdv)).units+1<cLine:=by omega
    have e32:Str.ofString " "=Sg [32]:=S_of _
    have eput:=S_put
    have hl:=wT_len ok
    obtain ⟨t,l,ht,kt,pr⟩:=T.wish F ok.2.2
    refine ⟨_,(pss_cons (ps_st (i:=2) sc_read_wish.nd rfl (pe_splM (pv 0) pe_str pe_int (by constructor <;> rfl))) (pss_cons (ps_if (@PW.pt _ _ _ (pw_or (pt_cmpR op_lt (pe_callB call_lenX rfl (hb _ (by decide)) bt_len (pa_cX (pv 2) pa_nil)) pe_int (nomark _)) (pw_or1 (pt_cmpR (op_kNotIn (K:=K)) (pe_ix (ix_get hu1) (pv 2) pe_int (fun _ _=>rfl)) (pe_glb g_WISH_READERS) rfl)))) (pss_one ps_never) pss_nil) (pss_cons (ps_st (i:=3) sc_read_wish.nd rfl (pe_fn F_read_words hr (pa_cX (pe_slice sl_X (pv 2) (po_some pe_int) (po_some pe_int)) (pa_cX (pe_tup (pa_cX (pe_glb g_read_number) (pa_cX (pe_glb g_read_number) pa_nil))) (pa_cX (pv 1) pa_nil))))) (pss_cons (ps_st (i:=4) sc_read_wish.nd rfl (pe_fn F_read_words hr (pa_cX (pe_slice sl_X (pv 2) (po_some pe_int) po_none) (pa_cX (pe_kget (K:=K) (pe_glb g_WISH_READERS) (pe_ix (ix_get hu1) (pv 2) pe_int (fun _ _=>rfl)) (by intro _ _; rfl)) (pa_cX (pv 1) pa_nil))))) (pss_one (ps_ret (pe_op (op_catTK (K:=K)) (pv 3) (pe_tup (pa_cX (pe_ix (ix_get hu1) (pv 2) pe_int (fun _ _=>rfl)) (pa_cX (pe_ifExp (pt_cmpR op_eq (pe_ix (ix_get hu1) (pv 2) pe_int (fun _ _=>rfl)) pe_str (nomark _)) (pv 4) (pe_ix (ix_get hu1) (pv 4) pe_int (fun _ _=>rfl))) pa_nil)))))))))),?_⟩
    simp (maxSteps:=1000000) only [rGet,getO_l,rLenX,lenX_r,lenO_l,Option.bind_some,rSlX,Nat.reduceSub,upd_same,HO.lst.injEq,Nat.reduceAdd,tNever,tSl,tNoPart,tPart,cZ0,tSeq,eZ1,if_true,tIfS,tOr,tTest,tOp,tVar,tC,rI0,tRet,tAsg,gName,tNext,tIf,tCall,tCons,tNil,tCB,tTup,L2.start,mZ1,mZ0,lZ1,lZ0,List.replicate,List.cons_append,List.nil_append,gZ0,gZ1,sZ0,sZ1,oZ0,eZ0,V.int.injEq,V.bl.injEq,V.ref.injEq,V.str.injEq,and_true,aZ0,tSplM,e32]
    refine ⟨_,rfl,32,rfl,5,rfl,by decide,by decide,by omega,?_⟩
    rw [wT_spl ok]
    intro p1 n1
    generalize z1:upd H p1 _=H1
    obtain ⟨s1,e1⟩:=new_same z1 n1
    simp (maxSteps:=1000000) only [atI_3,HO.lst.injEq,eZ1,if_false,Bool.false_eq_true,lZ1,oZ0,eZ0,V.bl.injEq,V.ref.injEq,V.str.injEq,e1,wV_cons,rKNotIn,cut_13]
    rw [if_neg (by intro z; have:=of_decide_eq_true z; omega)]
    refine ⟨_,T.kw,_,ht,?_⟩
    intro p2 n2
    generalize z2:upd H1 p2 _=H2
    obtain ⟨s2,e2⟩:=new_same z2 n2
    refine ⟨by rw [sizeLine_eq]; decide,?_⟩
    intro p3 n3
    generalize z3:upd H2 p3 _=H3
    obtain ⟨s3,e3⟩:=new_same z3 n3
    refine ⟨p2,p3,a,true,_,[.n y.t,.n y.h],rfl,s3 _ _ e2,SqT.of e3,.cons ⟨fn,kN,rfl,F.n,_,rfl⟩ (.cons ⟨fn,kN,rfl,F.n,_,rfl⟩ .nil),(fun f hf=>?_),by simp,fun pw us H4 s4 hpw epw pr1=>?_⟩
    · simp only [List.mem_cons,List.not_mem_nil,or_false] at hf
      rcases hf with rfl|rfl
      · exact ok.1
      · exact ok.2.1
    have eus:us=[niV y.t,niV y.h]:=nis_of (ns:=[y.t,y.h]) pr1
    subst eus
    have s14:=(s2.trans s3).trans s4
    have e14:=s14 _ _ e1
    simp (maxSteps:=1000000) only [rGet,HO.lst.injEq,eZ1,tOp,tVar,tC,gZ0,gZ1,oZ0,eZ0,V.ref.injEq,e14,wV_cons,cut_4,tKGet]
    intro p5 n5
    generalize z5:upd H4 p5 _=H5
    obtain ⟨s5,e5⟩:=new_same z5 n5
    have e15:=s5 _ _ e14
    simp (maxSteps:=1000000) only [getO_l,atI_3,oZ0,eZ0,V.str.injEq,e15,wV_cons]
    refine ⟨_,T.kw,_,ht,p5,t,a,true,_,y.x.fs,rfl,e5,kt H5,pr,Wt.okF ok.2.2,by have:=y.x.fs_len; omega,fun px us H6 s6 hpx epx pr2=>?_⟩
    have e16:=s6 _ _ e15
    have epw6:=(s5.trans s6) _ _ epw
    have sAll:Same H H6:=((s1.trans s14).trans s5).trans s6
    have fresh:∀ b,H5 b=none→H b=none:=fun b hb=>((s1.trans s14).trans s5).free hb
    simp (maxSteps:=1000000) only [rEq_ss,getO_l,atI_3,oZ0,eZ0,V.bl.injEq,V.ref.injEq,e16,wV_cons,eput,S_eq]
    have fin:∀ (v:V) (H7:Hp),Same H6 H7→RWt (fun b=>H b=none) H7 y.x v→∀ pq,H7 pq=none→rCatT K (.ref pw) (.ref pq) (upd H7 pq (.tup [.str (Sg y.x.wd),v])) Q:=fun v H7 s7 r pq hq=>by
      have s8:Same H7 (upd H7 pq (.tup [.str (Sg y.x.wd),v])):=.upd_new hq
      refine ⟨pw,pq,_,_,rfl,rfl,SqT.of (s8 _ _ (s7 _ _ epw6)),SqT.of upd_same,(fun z=>nomatch z),by rw [sizeLine_eq]; change 2+2≤_; decide,(fun z=>nomatch z),fun _ p hp=>q _ _ ?_ ⟨p,v,rfl,?_,upd_same,?_⟩⟩
      · exact ((sAll.trans s7).trans s8).trans (.upd_new hp)
      · exact ((sAll.trans s7).trans s8).free hp
      · exact r.same (s8.trans (.upd_new hp))
    cases hx:y.x with
    | put k z=>
      rw [hx] at pr2 fin
      obtain ⟨v1,v2,rfl,r1,r2⟩:∃ v1 v2,us=[v1,v2]∧RF (fun b=>H5 b=none) H6 (.n k) v1∧RF (fun b=>H5 b=none) H6 (.sg z) v2:=by
        cases pr2 with|cons h1 t=>cases t with|cons h2 t=>cases t; exact ⟨_,_,rfl,h1,h2⟩
      obtain rfl:v1=niV k:=r1
      obtain rfl:v2=.str (Sg z):=r2
      exact iteT ⟨by rw [sizeLine_eq]; decide,fun pq hq=>fin _ _ (.refl _) ⟨px,rfl,fresh _ hpx,epx⟩ pq hq⟩
    | one v g=>
      rw [hx] at pr2 fin
      have hne:=one_put (hx ▸ ok.2.2)
      obtain ⟨v1,rfl,r1⟩:∃ v1,us=[v1]∧RF (fun b=>H5 b=none) H6 g v1:=by
        cases pr2 with|cons h1 t=>cases t; exact ⟨_,rfl,h1⟩
      rw [if_neg (by intro z; exact hne (of_decide_eq_true z))]
      exact ⟨_,epx,_,atI_0,by rw [sizeLine_eq]; decide,fun pq hq=>fin _ _ (.refl _) (r1.mono fresh) pq hq⟩
inductive Rw
  | ln (fs:List Fld)
  | ch (fs:List Fld)
  | rd (fs:List Fld)
  | ws (s:Ws)
def Rw.Ok:Rw→Prop
  | .ln fs=>kLn fs∧okF fs
  | .ch fs=>kCh fs∧okF fs
  | .rd fs=>kRd fs∧okF fs
  | .ws s=>s.Ok
def Rw.kd:Rw→String
  | .ln _=>"line"
  | .ch _=>"change"
  | .rd _=>"road"
  | .ws _=>"wish"
def Rw.T:Rw→List Nat
  | .ln fs=>rT "line" fs
  | .ch fs=>rT "change" fs
  | .rd fs=>rT "road" fs
  | .ws s=>wT s
def RRw (N:Addr→Prop) (H:Hp):Rw→V→Prop
  | .ln fs,v=>RR N H fs v
  | .ch fs,v=>RR N H fs v
  | .rd fs,v=>RR N H fs v
  | .ws s,v=>RWs N H s v
def sp_rrow:Sp:=fun vs H Q _=>∃ (r:Rw) (a:V),vs=[.str (Sg r.T),.str (Str.ofString r.kd),a]∧r.Ok∧∀ v H',Same H H'→RRw (fun b=>H b=none) H' r v→Q v H'
theorem nosg {fs:List Fld} (h:kLn fs∨kCh fs∨kRd fs):∀ f∈fs,∀ s,f≠.sg s:=by
  rcases h with ⟨a,b,p,rfl⟩|⟨t,a,b,p,rfl⟩|⟨a,b,d,rfl⟩ <;> intro f hf s e <;> subst e <;> simp at hf
theorem own_rflat {H:Hp} {Q:VK} {k:String} {g:List Fld} {a:V} {t:Addr} {l:List Addr} {E:XK} (hk:32 ∉ K82.w k) (hkl:(K82.w k).length≤20) (ok:okF g) (hg:kLn g∨kCh g∨kRd g) (kt:KT K t l) (pr:Paired (Rdr P w K mg base) g (l.map V.ref)) (q:∀ v H',Same H H'→RR (fun b=>H b=none) H' g v→Q v H') :
    (rT k g).length≤100000∧∀ p,H p=none→∀ p2,upd H p (.lst (wV (spl 32 ((rT k g).length+1) (rT k g)))) p2=none→sp_rwords P w K mg base [.ref p2,.ref t,a] (upd (upd H p (.lst (wV (spl 32 ((rT k g).length+1) (rT k g))))) p2 (.lst (cutV (wV (spl 32 ((rT k g).length+1) (rT k g))) (some 1) none))) Q E:=by
  have h4:g.length≤4:=by
    rcases hg with h|h|h
    · exact h.len
    · exact h.len
    · exact h.len
  have hl:=rT_len hkl (by omega) ok (.inl h4)
  refine ⟨by omega,fun p1 n1 p2 n2=>?_⟩
  rw [rT_spl hk (fun f hf=>⟨ok f hf,nosg hg f hf⟩) (by have:=rT_ge (k:=k) (fs:=g); omega)] at n2 ⊢
  generalize z1:upd H p1 _=H1 at n2 ⊢
  obtain ⟨s1,e1⟩:=new_same z1 n1
  generalize z2:upd H1 p2 _=H2
  obtain ⟨s2,e2⟩:=new_same z2 n2
  rw [wV_cons,cut_1] at e2
  refine ⟨p2,t,a,true,_,g,rfl,e2,kt H2,pr,ok,by omega,fun p us H3 s3 hp ep pu=>q _ _ ((s1.trans s2).trans s3) ⟨p,us,rfl,(s1.trans s2).free hp,ep,paired_imp (fun _ _ r=>r.mono fun b hb=>(s1.trans s2).free hb) pu⟩⟩
theorem own_rrow {fn fp fd fm fs ar tl tc tr aw tb te tp ti tf ta:Addr} (D:Def K mg "read_row" s_read_row) (T:Tabs K mg fn fp fd fm fs ar tl tc tr aw tb te tp ti tf ta) (F:Fns P w K mg base fn fp fd fm fs) (F_read_words:Own P w K mg base 5 "read_words" ["words","readers","at"] (sp_rwords P w K mg base)) (F_read_wish:Own P w K mg base 6 "read_wish" ["row","at"] sp_rwish):Own P w K mg base 7 "read_row" ["row","kind","at"] sp_rrow:=by
  have g_ROW_READERS:=T.gr
  refine D.own sc_read_row (fun _ _ _ _ _ _ us hl=>match us,hl with|[_,_,_],_=>rfl) (fun vs H Q E h=>?_) (fun f cdv A outer s H vs Q E hr h=>?_)
  · obtain ⟨s,a,rfl,_⟩:=h
    rfl
  · obtain ⟨r,a,rfl,ok,q⟩:=h
    have hu:=hr.units
    have hu1:(A.deeper (PyProof.Rows.envOfC "read_row" (defScope s_read_row) s.heap.objs.size f cdv)).units+1<cLine:=by omega
    have e32:Str.ofString " "=Sg [32]:=S_of _
    refine ⟨_,(pss_cons (ps_if (pt_cmpR op_eq (pv 1) pe_str (nomark _)) (pss_one (ps_ret (pe_fn F_read_wish hr (pa_cX (pv 0) (pa_cX (pv 2) pa_nil))))) pss_nil) (pss_one (ps_ret (pe_fn F_read_words hr (pa_cX (pe_slice sl_X (pe_splS (pv 0) pe_str (by constructor <;> rfl)) (po_some pe_int) po_none) (pa_cX (pe_kget (K:=K) (pe_glb g_ROW_READERS) (pv 1) (by intro _ _; rfl)) (pa_cX (pv 2) pa_nil))))))),?_⟩
    cases r with
    | ws y=>
      simp (maxSteps:=1000000) only [rEq_ss,rSlX,Nat.reduceSub,Nat.reduceAdd,decide_true,tSl,tNoPart,tPart,tSeq,eZ1,if_true,tIfS,tTest,tOp,tVar,tC,tRet,tNext,tCall,tCons,tNil,L2.start,mZ1,mZ0,lZ1,lZ0,List.replicate,gZ0,gZ1,oZ0,eZ0,V.int.injEq,V.bl.injEq,aZ0,Rw.kd,Rw.T]
      exact ⟨y,a,rfl,ok,q⟩
    | ln g=>
      have hne:(Str.ofString "line"=Str.ofString "wish")=False:=by simp; decide
      simp (maxSteps:=1000000) only [rEq_ss,rSlX,Nat.reduceSub,upd_same,HO.lst.injEq,Nat.reduceAdd,decide_false,tSl,tNoPart,tPart,tSeq,eZ1,if_false,Bool.false_eq_true,tIfS,tTest,tOp,tVar,tC,tRet,tNext,tCall,tCons,tNil,L2.start,mZ1,mZ0,lZ1,lZ0,List.replicate,gZ0,gZ1,oZ0,eZ0,V.int.injEq,V.bl.injEq,V.ref.injEq,V.str.injEq,aZ0,Rw.kd,Rw.T,hne,tSplS,e32,tKGet]
      obtain ⟨⟨x,y,o,rfl⟩,okf⟩:=ok
      obtain ⟨z1,z2⟩:=own_rflat (P:=P) (w:=w) (K:=K) (mg:=mg) (base:=base) (k:="line") (a:=a) (E:=E0) (by decide) (by decide) okf (.inl ⟨x,y,o,rfl⟩) T.tl (.cons ⟨fn,kN,rfl,F.n,_,rfl⟩ (.cons ⟨fn,kN,rfl,F.n,_,rfl⟩ (.cons ⟨fp,kO,rfl,F.p,_,rfl⟩ .nil))) q
      exact ⟨_,rfl,32,rfl,by decide,z1,fun p1 n1 p2 n2=>⟨_,T.kr,.ref tl,rfl,z2 p1 n1 p2 n2⟩⟩
    | ch g=>
      have hne:(Str.ofString "change"=Str.ofString "wish")=False:=by simp; decide
      simp (maxSteps:=1000000) only [rEq_ss,rSlX,Nat.reduceSub,upd_same,HO.lst.injEq,Nat.reduceAdd,decide_false,tSl,tNoPart,tPart,tSeq,eZ1,if_false,Bool.false_eq_true,tIfS,tTest,tOp,tVar,tC,tRet,tNext,tCall,tCons,tNil,L2.start,mZ1,mZ0,lZ1,lZ0,List.replicate,gZ0,gZ1,oZ0,eZ0,V.int.injEq,V.bl.injEq,V.ref.injEq,V.str.injEq,aZ0,Rw.kd,Rw.T,hne,tSplS,e32,tKGet]
      obtain ⟨⟨u,x,y,o,rfl⟩,okf⟩:=ok
      obtain ⟨z1,z2⟩:=own_rflat (P:=P) (w:=w) (K:=K) (mg:=mg) (base:=base) (k:="change") (a:=a) (E:=E0) (by decide) (by decide) okf (.inr (.inl ⟨u,x,y,o,rfl⟩)) T.tc (.cons ⟨fn,kN,rfl,F.n,_,rfl⟩ (.cons ⟨fn,kN,rfl,F.n,_,rfl⟩ (.cons ⟨fn,kN,rfl,F.n,_,rfl⟩ (.cons ⟨fp,kO,rfl,F.p,_,rfl⟩ .nil)))) q
      exact ⟨_,rfl,32,rfl,by decide,z1,fun p1 n1 p2 n2=>⟨_,T.kr,.ref tc,rfl,z2 p1 n1 p2 n2⟩⟩
    | rd g=>
      have hne:(Str.ofString "road"=Str.ofString "wish")=False:=by simp; decide
      simp (maxSteps:=1000000) only [rEq_ss,rSlX,Nat.reduceSub,upd_same,HO.lst.injEq,Nat.reduceAdd,decide_false,tSl,tNoPart,tPart,tSeq,eZ1,if_false,Bool.false_eq_true,tIfS,tTest,tOp,tVar,tC,tRet,tNext,tCall,tCons,tNil,L2.start,mZ1,mZ0,lZ1,lZ0,List.replicate,gZ0,gZ1,oZ0,eZ0,V.int.injEq,V.bl.injEq,V.ref.injEq,V.str.injEq,aZ0,Rw.kd,Rw.T,hne,tSplS,e32,tKGet]
      obtain ⟨⟨x,y,d,rfl⟩,okf⟩:=ok
      obtain ⟨z1,z2⟩:=own_rflat (P:=P) (w:=w) (K:=K) (mg:=mg) (base:=base) (k:="road") (a:=a) (E:=E0) (by decide) (by decide) okf (.inr (.inr ⟨x,y,d,rfl⟩)) T.tr (.cons ⟨fn,kN,rfl,F.n,_,rfl⟩ (.cons ⟨fn,kN,rfl,F.n,_,rfl⟩ (.cons ⟨fd,kD,rfl,F.d,_,rfl⟩ .nil))) q
      exact ⟨_,rfl,32,rfl,by decide,z1,fun p1 n1 p2 n2=>⟨_,T.kr,.ref tr,rfl,z2 p1 n1 p2 n2⟩⟩
end
end K82
namespace K82
open PySem L2
def kz:List Str:=["line","change","road","wish"]
def kI:Rw→Nat
  | .ln _=>0
  | .ch _=>1
  | .rd _=>2
  | .ws _=>3
theorem kI_kz (r:Rw):kz[kI r]?=some (Str.ofString r.kd)∧∀ k,k<kI r→kz[k]?≠some (Str.ofString r.kd):=by
  have h1:∀ k:Fin 1,kz[k.val]?≠some (Str.ofString "change"):=by decide
  have h2:∀ k:Fin 2,kz[k.val]?≠some (Str.ofString "road"):=by decide
  have h3:∀ k:Fin 3,kz[k.val]?≠some (Str.ofString "wish"):=by decide
  cases r with
  | ln f=>exact ⟨rfl,fun k hk=>absurd hk (Nat.not_lt_zero _)⟩
  | ch f=>exact ⟨rfl,fun k hk=>h1 ⟨k,hk⟩⟩
  | rd f=>exact ⟨rfl,fun k hk=>h2 ⟨k,hk⟩⟩
  | ws f=>exact ⟨rfl,fun k hk=>h3 ⟨k,hk⟩⟩
theorem kI_lt (r:Rw):kI r<4:=by cases r <;> simp [kI]
theorem tw_jW {p q:List Nat} {r:List (List Nat)} (h:32 ∉ p):(jW 32 (p::q::r)).takeWhile (· != 32)=p:=by
  rw [jW_cons]
  induction p with
  | nil=>rfl
  | cons c p ih=>
    have hc:c≠32:=fun e=>h (by rw [e]; exact .head _)
    rw [List.cons_append,List.takeWhile_cons]
    simp only [bne_iff_ne,ne_eq,hc,not_false_eq_true,if_true]
    rw [ih fun hm=>h (.tail _ hm)]
theorem tw_T {r:Rw} (h:r.Ok):r.T.takeWhile (· != 32)=w r.kd:=by
  cases r with
  | ln f=>obtain ⟨⟨a,b,p,rfl⟩,_⟩:=h; exact tw_jW (by decide)
  | ch f=>obtain ⟨⟨t,a,b,p,rfl⟩,_⟩:=h; exact tw_jW (by decide)
  | rd f=>obtain ⟨⟨a,b,p,rfl⟩,_⟩:=h; exact tw_jW (by decide)
  | ws s=>exact tw_jW (by decide)
theorem T_len {r:Rw} (h:r.Ok):r.T.length≤1000:=by
  cases r with
  | ln f=>have:=h.1.len; exact rT_len (by decide) (by omega) h.2 (.inl this)
  | ch f=>have:=h.1.len; exact rT_len (by decide) (by omega) h.2 (.inl this)
  | rd f=>have:=h.1.len; exact rT_len (by decide) (by omega) h.2 (.inl this)
  | ws s=>exact wT_len h
section
variable {N N':Addr→Prop} {H H':Hp} {A:List Addr}
theorem RRw.keep (k:Keep A H H') (hA:∀ b∈A,¬ N b):∀ {r:Rw} {v:V},RRw N H r v→RRw N H' r v
  | .ln _,_,h=>RR.keep k hA h
  | .ch _,_,h=>RR.keep k hA h
  | .rd _,_,h=>RR.keep k hA h
  | .ws _,_,h=>RWs.keep k hA h
theorem RRw.mono (m:∀ a,N a→N' a):∀ {r:Rw} {v:V},RRw N H r v→RRw N' H r v
  | .ln _,_,h=>RR.mono m h
  | .ch _,_,h=>RR.mono m h
  | .rd _,_,h=>RR.mono m h
  | .ws _,_,h=>RWs.mono m h
theorem RRw.same (s:Same H H') {r:Rw} {v:V} (h:RRw N H r v):RRw N H' r v:=h.keep (A:=[]) s.keep (fun _ z=>nomatch z)
end
def sel (j:Nat) (l:List Rw):List Rw:=l.filter fun r=>decide (kI r=j)
def told (q:Nat→Addr):List (Key × V):=[(Sum.inr "line", .ref (q 0)),(Sum.inr "change", .ref (q 1)),(Sum.inr "road", .ref (q 2)),(Sum.inr "wish", .ref (q 3))]
theorem told_at (q:Nat→Addr) (r:Rw):valV (told q) (Sum.inr (Str.ofString r.kd))=some (.ref (q (kI r))):=by
  cases r <;> rfl
def QL (N:Addr→Prop) (q:Nat→Addr) (l:List Rw) (H:Hp):Prop:=∀ j,j<4→∃ us,H (q j)=some (.lst us)∧Paired (RRw N H) (sel j l) us
def KIn (H1:Hp) (D:Addr) (i:Nat) (acc:List V) (H':Hp):Prop:=∃ p q:Nat→Addr,acc=(List.range i).map (fun j=>V.ref (p j))∧Same H1 H'∧H' D=some (.lst acc) ∧
  (∀ j,j<i→∃ z,kz[j]?=some z∧H' (p j)=some (.tup [.str z,.ref (q j)])∧H' (q j)=some (.lst [])∧q j≠D∧p j≠D∧H1 (q j)=none)∧∀ j k,j<i→k<i→j≠k→q j≠q k
theorem KIn.step {H1 H2:Hp} {D:Addr} {i:Nat} {acc:List V} {z:Str} {x y:Addr} (h:KIn H1 D i acc H2) (hD:H1 D=none) (hz:kz[i]?=some z) (hy:H2 y=none) (hx:upd H2 y (.lst []) x=none) :
    upd (upd H2 y (.lst [])) x (.tup [.str z,.ref y]) D=some (.lst acc)∧KIn H1 D (i+1) (acc++[.ref x]) (upd (upd (upd H2 y (.lst [])) x (.tup [.str z,.ref y])) D (.lst (acc++[.ref x]))):=by
  obtain ⟨p,q,e,s,eD,a,d⟩:=h
  obtain ⟨nxy,nx⟩:=upd_none hx
  have s2:Same H2 (upd H2 y (.lst [])):=.upd_new hy
  have s3:Same (upd H2 y (.lst [])) (upd (upd H2 y (.lst [])) x (.tup [.str z,.ref y])):=.upd_new hx
  have ey3:upd (upd H2 y (.lst [])) x (.tup [.str z,.ref y]) y=some (.lst []):=s3 _ _ upd_same
  have ex3:upd (upd H2 y (.lst [])) x (.tup [.str z,.ref y]) x=some (.tup [.str z,.ref y]):=upd_same
  have eD3:=(s2.trans s3) _ _ eD
  have sA:=(s.trans s2).trans s3
  generalize upd (upd H2 y (.lst [])) x (.tup [.str z,.ref y])=H3 at ey3 ex3 eD3 sA s3
  have yD:y≠D:=fun h=>by rw [h,eD] at hy; cases hy
  have xD:x≠D:=fun h=>by rw [h,eD] at nx; cases nx
  have s23:=s2.trans s3
  refine ⟨eD3,fun j=>if j=i then x else p j,fun j=>if j=i then y else q j,?_,sA.upd hD,upd_same,fun j hj=>?_,fun j k hj hk hjk=>?_⟩
  · rw [List.range_succ,List.map_append,e]
    congr 1
    · apply List.map_congr_left
      intro j hj
      change _=V.ref (if j=i then x else p j)
      rw [if_neg (by have:=List.mem_range.mp hj; omega)]
    · simp
  · by_cases hji:j=i
    · subst hji
      simp only [if_true]
      exact ⟨z,hz,by rw [upd_ne xD]; exact ex3,by rw [upd_ne yD]; exact ey3,yD,xD,s.free hy⟩
    · obtain ⟨z',h1,h2,h3,h4,h5,h6⟩:=a j (by omega)
      simp only [if_neg hji]
      exact ⟨z',h1,by rw [upd_ne h5]; exact s23 _ _ h2,by rw [upd_ne h4]; exact s23 _ _ h3,h4,h5,h6⟩
  · change (if j=i then y else q j)≠(if k=i then y else q k)
    by_cases hji:j=i
    · subst hji
      rw [if_pos rfl,if_neg (Ne.symm hjk)]
      obtain ⟨z',h1,h2,h3,h4,h5,h6⟩:=a k (by omega)
      exact fun h=>by rw [h,h3] at hy; cases hy
    · rw [if_neg hji]
      by_cases hki:k=i
      · subst hki
        rw [if_pos rfl]
        obtain ⟨z',h1,h2,h3,h4,h5,h6⟩:=a j (by omega)
        exact fun h=>by rw [← h,h3] at hy; cases hy
      · rw [if_neg hki]
        exact d j k (by omega) (by omega) hjk
def RIn (H:Hp) (N:Addr→Prop) (q:Nat→Addr) (R T:Addr) (rws:List Rw) (K:PySem.W.Frag) (i:Nat) (σ:St) (H':Hp):Prop:=∃ kl m v3 v4 v5,σ=[some (.ref R),some (.ref T),some (.ref kl),v3,v4,v5]∧Keep [q 0,q 1,q 2,q 3] H H' ∧
  SqT K H' kl ((kz.drop m).map V.str)∧(∀ r∈rws.drop (i - 1),m≤kI r)∧QL N q (rws.take (i - 1)) H'
theorem inKinds {r:Rw} {m:Nat} (h:m≤kI r):inV (.str (Str.ofString r.kd)) ((kz.drop m).map V.str)=true:=by
  have h1:=(kI_kz r).1
  have h2:(kz.drop m)[kI r - m]?=some (Str.ofString r.kd):=by
    rw [List.getElem?_drop,show m+(kI r - m)=kI r by omega]
    exact h1
  have h3:V.str (Str.ofString r.kd)∈(kz.drop m).map V.str:=List.mem_map.mpr ⟨_,List.mem_of_getElem? h2,rfl⟩
  unfold inV
  rw [List.any_eq_true]
  exact ⟨_,h3,by simp [eqV]⟩
theorem cut_kz {r:Rw}:cutV (kz.map V.str) (some ((kI r:Nat):Int)) none=(kz.drop (kI r)).map V.str:=by
  cases r <;> rfl
theorem sqT_upd {K:PySem.W.Frag} {H:Hp} {a b:Addr} {xs ys:List V} {o:HO} (h:SqT K H a xs) (hb:H b=some (.lst ys)):SqT K (upd H b o) a xs:=
  SqT.keep (S:=[b]) (Keep.refl.upd (.inl (.head _))) (fun c hc=>by rw [List.mem_singleton] at hc; subst hc; exact ⟨ys,hb⟩) h
theorem flats (m:Nat):((kz.drop m).map V.str).all flatV=true:=by
  rw [List.all_eq_true]
  intro x hx
  obtain ⟨z,_,rfl⟩:=List.mem_map.mp hx
  rfl
section
variable {P:Program} {w:World} {K:PySem.W.Frag} {mg:Str→Option Value} {base:Heap} {C:Addr}
abbrev s_read_rows:Stmt:=stm 44
theorem sc_read_rows:FnScope ["rows","told","kinds_left","at","row","kind"] ["rows"] (defScope s_read_rows):=⟨rfl,rfl,rfl,by decide +kernel,rfl,by decide +kernel,by decide +kernel⟩
theorem cs_read_rows_0:CScope ["kind"] [] { kind:=.function,names:=[(".0", .local),("kind", .local)],isGenerator:=false,isCoroutine:=false,more:=[] } (defScope s_read_rows):=⟨rfl,by decide +kernel,by decide +kernel,by decide +kernel,by decide +kernel,by decide +kernel⟩
def sp_rrows:Sp:=fun vs H Q _=>∃ (R:Addr) (m:List Nat) (rws:List Rw),vs=[.ref R]∧H R=some (.lst (wV (m::rws.map Rw.T)))∧(∀ r∈rws,r.Ok)∧rws.Pairwise (fun a b=>kI a≤kI b)∧rws.length≤48 ∧
  ∀ T q H',Same H H'→H' T=some (.dK (told q))→(∀ j,j<4→H (q j)=none)→(∀ j k,j<4→k<4→j≠k→q j≠q k)→QL (fun b=>H b=none) q rws H'→Q (.ref T) H'
theorem told_fold (q:Nat→Addr):(told q).foldl (fun m e=>putK m e.1 e.2) []=told q:=by rfl
set_option maxHeartbeats 2000000 in
theorem own_rrows {ak:Addr} (D:Def K mg "read_rows" s_read_rows) (hb:Blt mg) (hen:mg "enumerate"=none) (g_KINDS:∃ u,mg "KINDS"=some u∧RelV (.ref ak) u) (kk:KTs K ak kz) (F_read_row:Own P w K mg base 7 "read_row" ["row","kind","at"] sp_rrow):Own P w K mg base 8 "read_rows" ["rows"] sp_rrows:=by
  refine D.own sc_read_rows (fun _ _ _ _ _ _ us hl=>match us,hl with|[_],_=>rfl) (fun vs H Q E h=>?_) (fun f cdv A outer s H vs Q E hr h=>?_)
  · obtain ⟨R,m,rws,rfl,_⟩:=h
    rfl
  · obtain ⟨R,m,rws,rfl,eR,ok,sorted,few,q⟩:=h
    have hu:=hr.units
    have hu1:(A.deeper (PyProof.Rows.envOfC "read_rows" (defScope s_read_rows) s.heap.objs.size f cdv)).units+1<cLine:=by omega
    have e32:Str.ofString " "=Sg [32]:=S_of _
    refine ⟨_,(pss_cons (ps_st (i:=1) sc_read_rows.nd rfl (pe_callTy (call_dictP rfl) rfl (hb _ (by decide)) bt_dict (pa_cX (pe_comp ["kind"] [] [] rfl cs_read_rows_0 (pi_tupK K (pe_glb g_KINDS)) (fun _ _ _ _=>(pg_name (i:=0) cs_read_rows_0.nd rfl (by first|exact Or.inl rfl|exact Or.inr rfl))) (fun _ _ _ _=>pf_nil) (fun _ _ _ _=>(pe_tup (pa_cX (pv 0) (pa_cX (pe_lst pa_nil) pa_nil))))) pa_nil))) (pss_cons (ps_st (i:=2) sc_read_rows.nd rfl (pe_glb g_KINDS)) (pss_cons (ps_for PassesOwn.never rfl (pi_enum K rfl hen (pa_cX (pv 0) pa_nil)) (pg_seqX (n:=2) rfl (pgs_cons (pg_name (i:=3) sc_read_rows.nd rfl (by first|exact Or.inl rfl|exact Or.inr rfl)) (pgs_cons (pg_name (i:=4) sc_read_rows.nd rfl (by first|exact Or.inl rfl|exact Or.inr rfl)) pgs_nil))) (pss_one (ps_if (pt_cmpR op_gt (pv 3) pe_int (nomark _)) (pss_cons (ps_st (i:=5) sc_read_rows.nd rfl (pe_ix (ix_get hu1) (pe_part1 (pv 4) pe_str (by constructor <;> rfl)) pe_int (fun _ _=>rfl))) (pss_cons (ps_if (pt_cmpR (op_notinK K) (pv 5) (pv 2) rfl) (pss_one ps_never) pss_nil) (pss_cons (ps_st (i:=2) sc_read_rows.nd rfl (pe_slice (sl_tupK K) (pe_glb g_KINDS) (po_some (pe_tix (K:=K) (pe_glb g_KINDS) (pv 5) (by constructor <;> rfl))) po_none)) (pss_one (ps_expr (pe_lm PySem.F.slot_list_append PySem.F.type_list_append mt_append (pe_ix (ix_get hu1) (pv 1) (pv 5) (fun _ _=>rfl)) (pa_cX (pe_fn F_read_row hr (pa_cX (pv 4) (pa_cX (pv 5) (pa_cX (pv 3) pa_nil)))) pa_nil))))))) pss_nil))) (pss_one (ps_ret (pv 1)))))),?_⟩
    refine use1 (fun σ H'=>∃ T q,σ=[some (.ref R),some (.ref T),none,none,none,none]∧Same H H'∧H' T=some (.dK (told q))∧H T=none∧(∀ j,j<4→H (q j)=none∧H' (q j)=some (.lst []))∧(∀ j k,j<4→k<4→j≠k→q j≠q k)) ?_ (fun X hX=>?_)
    rotate_left
    · simp (maxSteps:=1000000) only [tComp_eq,Nat.reduceSub,Nat.reduceAdd,tSeq,tC,tAsg,gName,tCons,tNil,tCB,L2.start,mZ1,mZ0,lZ1,lZ0,List.replicate,List.cons_append,List.nil_append,sZ0,sZ1,eZ0,V.ref.injEq,iTup]
      refine ⟨⟨_,kk.sq⟩,comp_tup (xs:=kz.map V.str) (by rw [sizeLine_eq]; decide) (KIn H) (fun D hD=>⟨fun _=>0,fun _=>0,rfl,.upd_new hD,upd_same,(fun j hj=>absurd hj (Nat.not_lt_zero _)),fun j k hj=>absurd hj (Nat.not_lt_zero _)⟩) ?_ ?_ ?_⟩
      · rintro D i acc H2 hD hi ⟨p,q,e,s2,eD,_⟩
        exact ⟨eD,kk.sq,by rw [e]; simp⟩
      · rintro D i x acc H2 hD hx I
        rw [List.getElem?_map] at hx
        obtain ⟨z,hz,rfl⟩:=Option.map_eq_some_iff.mp hx
        simp (maxSteps:=1000000) only [Nat.reduceAdd,tYes,cSt,List.drop_succ_cons,List.drop_zero,if_true,tVar,gName,tCons,tNil,tLst,tTup,mZ0,lZ1,lZ0,List.replicate,gZ0,sZ0,oZ0,eZ0,true_and,aZ0]
        refine ⟨by rw [sizeLine_eq]; decide,fun y hy=>⟨by rw [sizeLine_eq]; decide,fun x hx=>I.step hD hz hy hx⟩⟩
      · rintro D acc H2 hD ⟨p,q',e,s2,eD,a,dist⟩
        have a0:=a 0 (by decide)
        have a1:=a 1 (by decide)
        have a2:=a 2 (by decide)
        have a3:=a 3 (by decide)
        simp (maxSteps:=1000000) only [cZ0,eZ1,eZ0,V.ref.injEq,and_true,rDictP]
        refine ⟨[p 0,p 1,p 2,p 3],by rw [eD,e]; rfl,told q',?_,(by change 4≤1000; decide),fun T hT=>?_⟩
        · refine .cons ?_ (.cons ?_ (.cons ?_ (.cons ?_ .nil)))
          · obtain ⟨z,h1,h2,_⟩:=a0
            cases h1
            exact h2
          · obtain ⟨z,h1,h2,_⟩:=a1
            cases h1
            exact h2
          · obtain ⟨z,h1,h2,_⟩:=a2
            cases h1
            exact h2
          · obtain ⟨z,h1,h2,_⟩:=a3
            cases h1
            exact h2
        · rw [told_fold]
          refine hX _ _ ⟨T,q',rfl,s2.trans (.upd_new hT),upd_same,s2.free hT,fun j hj=>?_,fun j k hj hk=>dist j k hj hk⟩
          obtain ⟨z,h1,h2,h3,h4,h5,h6⟩:=a j hj
          exact ⟨h6,(Same.upd_new hT) _ _ h3⟩
    rintro σ H1 ⟨T,q',rfl,s1,eT,nT',hq,dist⟩
    have eR1:=s1 _ _ eR
    simp (maxSteps:=1000000) only [tFor_eq,cZ0,tSeq,tVar,tC,tAsg,gName,tCons,tNil,gZ0,sZ0,sZ1,oZ0,eZ0,V.ref.injEq,and_true,iEnum]
    refine ⟨⟨_,SqL.of eR1⟩,for_enum (xs:=wV (m::rws.map Rw.T)) (RIn H1 (fun b=>H1 b=none) q' R T rws K) ⟨ak,0,none,none,none,rfl,.refl,kk.sq,(fun _ _=>Nat.zero_le _),fun j hj=>⟨[],(hq j hj).2,by simp [sel]; exact .nil⟩⟩ ?_ ?_ ?_⟩
    · rintro i σ H2 hi ⟨kl,mm,v3,v4,v5,rfl,k2,_⟩
      refine SqL.of (k2 _ _ eR1 fun hm=>?_)
      have hne:∀ j,j<4→R≠q' j:=fun j hj h=>by
        have:=(hq j hj).1
        rw [← h,eR] at this
        cases this
      simp only [List.mem_cons,List.not_mem_nil,or_false] at hm
      rcases hm with h|h|h|h
      · exact hne 0 (by decide) h
      · exact hne 1 (by decide) h
      · exact hne 2 (by decide) h
      · exact hne 3 (by decide) h
    · rintro i x pp σ H2 hx hp ⟨kl,mm,v3,v4,v5,rfl,k2,skl,hm,ql⟩
      have epp:upd H2 pp (.tup [.int (i:Int),x]) pp=some (.tup [.int (i:Int),x]):=upd_same
      have s3:Same H2 (upd H2 pp (.tup [.int (i:Int),x])):=.upd_new hp
      generalize upd H2 pp (.tup [.int (i:Int),x])=H3 at epp s3 ⊢
      have k3:=k2.trans s3.keep
      have skl3:=s3.seqT skl
      have ql3:QL (fun b=>H1 b=none) q' (rws.take (i - 1)) H3:=fun j hj=>let ⟨us,e,p⟩:=ql j hj; ⟨us,s3 _ _ e,paired_imp (fun _ _ r=>r.same s3) p⟩
      cases i with
      | zero=>
        simp (maxSteps:=1000000) only [gSeqX,tBL,rGet,seqO_t,gCons,gNil,Nat.reduceAdd,tNever,rAppend,tSl,tNoPart,tPart,cZ0,tSeq,eZ1,tIfS,tTest,tOp,tVar,tC,rI0,tAsg,gName,tNext,tCall,tCons,tNil,tDrop,lZ1,lZ0,gZ0,gZ1,sZ0,sZ1,oZ0,eZ0,V.int.injEq,V.bl.injEq,V.ref.injEq,and_true,true_and,and_assoc,aZ0,epp]
        rw [if_neg (by decide)]
        exact ⟨kl,mm,_,_,_,rfl,k3,skl3,hm,ql3⟩
      | succ i=>
        have hxr:∃ r,rws[i]?=some r∧x=.str (Sg r.T):=by
          unfold wV at hx
          rw [mZ1,gZ1,List.getElem?_map,List.getElem?_map] at hx
          cases hr:rws[i]? with
          | none=>rw [hr] at hx; cases hx
          | some r=>rw [hr] at hx; exact ⟨r,rfl,(Option.some.inj hx).symm⟩
        obtain ⟨r,hr',rfl⟩:=hxr
        have okr:=ok r (List.mem_of_getElem? hr')
        have hlr:=T_len okr
        simp (maxSteps:=1000000) only [gSeqX,tBL,rGet,getO_t,seqO_t,gCons,gNil,atI_0,upd_same,Nat.reduceAdd,tNever,rAppend,tSl,tNoPart,tPart,cZ0,tSeq,eZ1,tIfS,tTest,tOp,tVar,tC,rI0,tAsg,gName,tNext,tCall,tCons,tNil,tDrop,lZ1,lZ0,gZ0,gZ1,sZ0,sZ1,oZ0,eZ0,V.int.injEq,V.bl.injEq,V.ref.injEq,V.str.injEq,and_true,true_and,and_assoc,aZ0,epp,tPart1,e32,S_eq]
        rw [if_pos (decide_eq_true (by omega))]
        refine ⟨by omega,?_⟩
        intro ya yb
        rw [tw_T okr,← S_of]
        intro p4 n4
        generalize z4:upd H3 p4 _=H4
        obtain ⟨s4,e4⟩:=new_same z4 n4
        have hmr:mm≤kI r:=hm r (by
          rw [Nat.add_sub_cancel]
          exact List.mem_iff_getElem?.mpr ⟨0,by rw [List.getElem?_drop]; exact hr'⟩)
        refine ⟨kl,_,rfl,.inr (s4.seqT skl3),rfl,flats mm,_,rfl,?_⟩
        rw [inKinds hmr]
        simp (maxSteps:=1000000) only [ne_eq,Bool.not_true,eZ1,if_false,if_true,Bool.false_eq_true,tVar,tC,gZ0,gZ1,oZ0,eZ0,V.int.injEq,V.ref.injEq,V.str.injEq,tTIx]
        refine ⟨kz,kk,kI r,(kI_kz r).1,(kI_kz r).2,?_⟩
        have k4:=k3.trans s4.keep
        have ql4:QL (fun b=>H1 b=none) q' (rws.take i) H4:=fun j hj=>let ⟨us,e,p⟩:=ql3 j hj; ⟨us,s4 _ _ e,paired_imp (fun _ _ r=>r.same s4) p⟩
        have inQ:∀ b,b∈[q' 0,q' 1,q' 2,q' 3]→∃ j,j<4∧b=q' j:=fun b hb=>by
          simp only [List.mem_cons,List.not_mem_nil,or_false] at hb
          rcases hb with h|h|h|h
          · exact ⟨0,by decide,h⟩
          · exact ⟨1,by decide,h⟩
          · exact ⟨2,by decide,h⟩
          · exact ⟨3,by decide,h⟩
        have eT4:H4 T=some (.dK (told q')):=k4 _ _ eT fun hb=>by
          obtain ⟨j,hj,e⟩:=inQ _ hb
          have:=(hq j hj).2
          rw [← e,eT] at this
          cases this
        have hj4:=kI_lt r
        have mq:∀ j,j<4→q' j∈[q' 0,q' 1,q' 2,q' 3]:=fun j hj=>by
          match j,hj with
          | 0,_=>exact .head _
          | 1,_=>exact .tail _ (.head _)
          | 2,_=>exact .tail _ (.tail _ (.head _))
          | 3,_=>exact .tail _ (.tail _ (.tail _ (.head _)))
        have fin:∀ (kl':Addr) (H5:Hp),Same H4 H5→SqT K H5 kl' ((kz.drop (kI r)).map V.str)→∃ x_1,H5 T=some x_1∧∃ x_2,getO x_1 (V.str (Str.ofString r.kd))=some x_2∧∃ p,x_2=V.ref p∧∃ x_3,H5 p=some (HO.lst x_3)∧sp_rrow [V.str (Sg r.T),V.str (Str.ofString r.kd),V.int ((i+1:Nat):Int)] H5 (fun x_4 H1_2=>∃ l,x_2=V.ref l∧∃ x_5,H1_2 l=some (HO.lst x_5)∧x_5.length<sizeLine∧RIn H1 (fun b=>H1 b=none) q' R T rws K (i+1+1) [some (V.ref R),some (V.ref T),some (V.ref kl'),some (V.int ((i+1:Nat):Int)),some (V.str (Sg r.T)),some (V.str (Str.ofString r.kd))] (upd H1_2 l (HO.lst (x_5++[x_4])))) E0:=by
          intro kl' H5 s5 skl5
          have ql5:QL (fun b=>H1 b=none) q' (rws.take i) H5:=fun j hj=>let ⟨us,e,p⟩:=ql4 j hj; ⟨us,s5 _ _ e,paired_imp (fun _ _ r=>r.same s5) p⟩
          obtain ⟨us,eus,pus⟩:=ql5 (kI r) hj4
          have k5:=k4.trans s5.keep
          have old:∀ b,H5 b=none→H1 b=none:=fun b hb=>by
            cases e:H1 b with
            | none=>rfl
            | some o=>
              by_cases hm:b∈[q' 0,q' 1,q' 2,q' 3]
              · obtain ⟨j,hj,ej⟩:=inQ _ hm
                obtain ⟨us',e',_⟩:=ql5 j hj
                rw [ej,e'] at hb
                cases hb
              · rw [k5 _ _ e hm] at hb
                cases hb
          refine ⟨_,s5 _ _ eT4,_,told_at q' r,_,rfl,us,eus,r,_,rfl,okr,fun v H6 s6 rv=>⟨_,rfl,us,s6 _ _ eus,?_,kl',kI r,_,_,_,rfl,?_,?_,?_,?_⟩⟩
          · have h1:=pus.length
            have h2:(sel (kI r) (rws.take i)).length≤(rws.take i).length:=List.length_filter_le ..
            rw [List.length_take] at h2
            rw [sizeLine_eq]
            omega
          · exact (k5.trans s6.keep).upd (.inl (mq _ hj4))
          · exact sqT_upd (s6.seqT skl5) (s6 _ _ eus)
          · rw [Nat.add_sub_cancel]
            have hp:=sorted.sublist (List.drop_sublist i rws)
            have hlt:=(List.getElem?_eq_some_iff.mp hr').1
            rw [List.drop_eq_getElem_cons hlt,List.pairwise_cons] at hp
            have er:rws[i]=r:=(List.getElem?_eq_some_iff.mp hr').2
            rw [er] at hp
            exact hp.1
          · rw [Nat.add_sub_cancel,List.take_add_one,hr',Option.toList_some]
            intro j hj
            obtain ⟨uj,euj,puj⟩:=ql5 j hj
            have kq:Keep [q' (kI r)] H6 (upd H6 (q' (kI r)) (.lst (us++[v]))):=Keep.refl.upd (.inl (.head _))
            have nq:∀ b∈[q' (kI r)],¬ H1 b=none:=fun b hb h=>by
              rw [List.mem_singleton] at hb
              rw [hb,(hq _ hj4).2] at h
              cases h
            have old2:Paired (RRw (fun b=>H1 b=none) (upd H6 (q' (kI r)) (.lst (us++[v])))) (sel j (rws.take i)) uj:=paired_imp (fun _ _ x=>(x.same s6).keep kq nq) puj
            unfold sel at old2 ⊢
            rw [List.filter_append]
            by_cases hjr:kI r=j
            · subst hjr
              rw [eus] at euj
              cases euj
              refine ⟨us++[v],upd_same,paired_app old2 ?_⟩
              simp only [List.filter_cons,decide_true,if_true,List.filter_nil]
              refine .cons ((rv.mono old).keep kq nq) .nil
            · refine ⟨uj,by rw [upd_ne (dist j (kI r) hj hj4 (Ne.symm hjr))]; exact s6 _ _ euj,?_⟩
              simp only [List.filter_cons,decide_eq_false hjr,Bool.false_eq_true,if_false,List.filter_nil,aZ0]
              exact old2
        refine ⟨ak,_,rfl,kk.sq,fun h=>fin ak H4 (.refl _) ?_,fun _ p hp=>fin p _ (.upd_new hp) (SqT.of ?_)⟩
        · rw [← cut_kz,cutV_whole h]
          exact kk.sq
        · rw [upd_same,cut_kz]
    · rintro σ H2 ⟨kl,mm,v3,v4,v5,rfl,k2,skl,hm,ql⟩
      have inQ:∀ b,b∈[q' 0,q' 1,q' 2,q' 3]→∃ j,j<4∧b=q' j:=fun b hb=>by
        simp only [List.mem_cons,List.not_mem_nil,or_false] at hb
        rcases hb with h|h|h|h
        · exact ⟨0,by decide,h⟩
        · exact ⟨1,by decide,h⟩
        · exact ⟨2,by decide,h⟩
        · exact ⟨3,by decide,h⟩
      have eT2:H2 T=some (.dK (told q')):=k2 _ _ eT fun hb=>by
        obtain ⟨j,hj,e⟩:=inQ _ hb
        have:=(hq j hj).2
        rw [← e,eT] at this
        cases this
      simp (maxSteps:=1000000) only [tVar,tRet,gZ0,gZ1,oZ0,eZ0]
      have hlen:(wV (m::rws.map Rw.T)).length - 1=rws.length:=by simp [wV]
      rw [hlen,List.take_length] at ql
      refine q T q' H2 (fun b o e=>?_) eT2 (fun j hj=>(hq j hj).1) dist fun j hj=>?_
      · refine k2 _ _ (s1 _ _ e) fun hb=>?_
        obtain ⟨j,hj,ej⟩:=inQ _ hb
        rw [ej,(hq j hj).1] at e
        cases e
      · obtain ⟨us,e,p⟩:=ql j hj
        exact ⟨us,e,paired_imp (fun _ _ r=>r.mono fun b hb=>s1.free hb) p⟩
end
end K82
namespace K82
open PySem L2
def flat (n:Nt):List Rw:=n.ln.map Rw.ln++n.ch.map Rw.ch++n.rd.map Rw.rd++n.ws.map Rw.ws
theorem rowsT_flat {ns:List Nat} {n:Nt}:rowsT ns n=rT "measures" (ns.map Fld.n)::(flat n).map Rw.T:=by
  unfold rowsT flat
  simp only [List.map_append,List.map_map]
  rfl
theorem flat_ok {n:Nt} (h:n.Ok):∀ r∈flat n,r.Ok:=by
  intro r hr
  unfold flat at hr
  rw [List.mem_append,List.mem_append,List.mem_append] at hr
  rcases hr with ((hr|hr)|hr)|hr <;> obtain ⟨x,hx,rfl⟩:=List.mem_map.mp hr
  · exact h.ln x hx
  · exact h.ch x hx
  · exact h.rd x hx
  · exact h.ws x hx
theorem flat_len {n:Nt} (h:n.Ok):(flat n).length≤48:=by
  have:=h.few
  unfold flat
  simp only [List.length_append,List.length_map]
  omega
theorem pw_const {α:Type} {f:α→Nat} {k:Nat}:∀ {l:List α},(∀ x∈l,f x=k)→l.Pairwise (fun a b=>f a≤f b)
  | [],_=>.nil
  | x::l,h=>.cons (fun y hy=>by rw [h x (.head _),h y (.tail _ hy)]; exact Nat.le_refl _) (pw_const fun y hy=>h y (.tail _ hy))
theorem flat_sorted (n:Nt):(flat n).Pairwise (fun a b=>kI a≤kI b):=by
  have c0:∀ x∈n.ln.map Rw.ln,kI x=0:=fun x hx=>by obtain ⟨y,_,rfl⟩:=List.mem_map.mp hx; rfl
  have c1:∀ x∈n.ch.map Rw.ch,kI x=1:=fun x hx=>by obtain ⟨y,_,rfl⟩:=List.mem_map.mp hx; rfl
  have c2:∀ x∈n.rd.map Rw.rd,kI x=2:=fun x hx=>by obtain ⟨y,_,rfl⟩:=List.mem_map.mp hx; rfl
  have c3:∀ x∈n.ws.map Rw.ws,kI x=3:=fun x hx=>by obtain ⟨y,_,rfl⟩:=List.mem_map.mp hx; rfl
  unfold flat
  rw [List.pairwise_append,List.pairwise_append,List.pairwise_append]
  refine ⟨⟨⟨pw_const c0,pw_const c1,fun a ha b hb=>by rw [c0 a ha,c1 b hb]; decide⟩,pw_const c2,fun a ha b hb=>?_⟩,pw_const c3,fun a ha b hb=>?_⟩
  · rcases List.mem_append.mp ha with ha|ha
    · rw [c0 a ha,c2 b hb]; decide
    · rw [c1 a ha,c2 b hb]; decide
  · rcases List.mem_append.mp ha with ha|ha
    · rcases List.mem_append.mp ha with ha|ha
      · rw [c0 a ha,c3 b hb]; decide
      · rw [c1 a ha,c3 b hb]; decide
    · rw [c2 a ha,c3 b hb]; decide
theorem filter_all {α:Type} {p:α→Bool}:∀ {l:List α},(∀ x∈l,p x=true)→l.filter p=l
  | [],_=>rfl
  | x::l,h=>by rw [List.filter_cons,h x (.head _),if_pos rfl,filter_all fun y hy=>h y (.tail _ hy)]
theorem filter_no {α:Type} {p:α→Bool}:∀ {l:List α},(∀ x∈l,p x=false)→l.filter p=[]
  | [],_=>rfl
  | x::l,h=>by rw [List.filter_cons,h x (.head _),if_neg (by decide),filter_no fun y hy=>h y (.tail _ hy)]
theorem sel_flat (n:Nt):sel 0 (flat n)=n.ln.map Rw.ln∧sel 1 (flat n)=n.ch.map Rw.ch∧sel 2 (flat n)=n.rd.map Rw.rd∧sel 3 (flat n)=n.ws.map Rw.ws:=by
  have c0:∀ x∈n.ln.map Rw.ln,kI x=0:=fun x hx=>by obtain ⟨y,_,rfl⟩:=List.mem_map.mp hx; rfl
  have c1:∀ x∈n.ch.map Rw.ch,kI x=1:=fun x hx=>by obtain ⟨y,_,rfl⟩:=List.mem_map.mp hx; rfl
  have c2:∀ x∈n.rd.map Rw.rd,kI x=2:=fun x hx=>by obtain ⟨y,_,rfl⟩:=List.mem_map.mp hx; rfl
  have c3:∀ x∈n.ws.map Rw.ws,kI x=3:=fun x hx=>by obtain ⟨y,_,rfl⟩:=List.mem_map.mp hx; rfl
  have y:∀ {l:List Rw} {k j:Nat},(∀ x∈l,kI x=k)→k=j→l.filter (fun r=>decide (kI r=j))=l:=fun h e=>filter_all fun x hx=>by rw [h x hx,e]; exact decide_eq_true rfl
  have z:∀ {l:List Rw} {k j:Nat},(∀ x∈l,kI x=k)→k≠j→l.filter (fun r=>decide (kI r=j))=[]:=fun h e=>filter_no fun x hx=>by rw [h x hx]; exact decide_eq_false e
  unfold sel flat
  simp only [List.filter_append]
  refine ⟨?_,?_,?_,?_⟩
  · rw [y c0 rfl,z c1 (by decide),z c2 (by decide),z c3 (by decide)]; simp
  · rw [z c0 (by decide),y c1 rfl,z c2 (by decide),z c3 (by decide)]; simp
  · rw [z c0 (by decide),z c1 (by decide),y c2 rfl,z c3 (by decide)]; simp
  · rw [z c0 (by decide),z c1 (by decide),z c2 (by decide),y c3 rfl]; simp
theorem pair_map {α β γ:Type} {f:α→β} {R:β→γ→Prop}:∀ {l:List α} {m:List γ},Paired R (l.map f) m→Paired (fun a c=>R (f a) c) l m
  | [],_,h=>by cases h; exact .nil
  | a::l,_,h=>by cases h with|cons h t=>exact .cons h (pair_map t)
theorem QL.nt {N:Addr→Prop} {q:Nat→Addr} {n:Nt} {H:Hp} (h:QL N q (flat n) H):NtAt N H n (q 0) (q 1) (q 2) (q 3):=by
  obtain ⟨e0,e1,e2,e3⟩:=sel_flat n
  obtain ⟨u0,a0,p0⟩:=h 0 (by decide)
  obtain ⟨u1,a1,p1⟩:=h 1 (by decide)
  obtain ⟨u2,a2,p2⟩:=h 2 (by decide)
  obtain ⟨u3,a3,p3⟩:=h 3 (by decide)
  rw [e0] at p0
  rw [e1] at p1
  rw [e2] at p2
  rw [e3] at p3
  exact ⟨⟨u0,a0,pair_map (f:=Rw.ln) (R:=RRw N H) p0⟩,⟨u1,a1,pair_map (f:=Rw.ch) (R:=RRw N H) p1⟩,⟨u2,a2,pair_map (f:=Rw.rd) (R:=RRw N H) p2⟩,⟨u3,a3,pair_map (f:=Rw.ws) (R:=RRw N H) p3⟩⟩
theorem pr_rT {k:String} {fs:List Fld} (hk:Pr (w k)) (h:okF fs):Pr (rT k fs):=pr_jW (by decide) fun x hx=>by
  rcases List.mem_cons.mp hx with rfl|hx
  · exact hk
  · obtain ⟨f,hf,rfl⟩:=List.mem_map.mp hx
    exact pr_fT (h f hf)
theorem pr_wd {x:Wt} (h:x.Ok):Pr x.wd:=by
  cases x with
  | one v f=>
    change Pr v
    rcases h with ⟨h|h,_⟩|⟨h|h|h,_⟩ <;> subst h <;> exact pr_w (by decide)
  | put k s=>exact pr_w (by decide)
theorem pr_T {r:Rw} (h:r.Ok):Pr r.T:=by
  cases r with
  | ln f=>exact pr_rT (pr_w (by decide)) h.2
  | ch f=>exact pr_rT (pr_w (by decide)) h.2
  | rd f=>exact pr_rT (pr_w (by decide)) h.2
  | ws s=>
    change Pr (wT s)
    unfold wT
    refine pr_jW (by decide) fun x hx=>?_
    simp only [List.mem_cons,Wt.words] at hx
    rcases hx with rfl|rfl|rfl|rfl|hx
    · exact pr_w (by decide)
    · exact pr_nT
    · exact pr_nT
    · exact pr_wd h.2.2
    · obtain ⟨f,hf,rfl⟩:=List.mem_map.mp hx
      exact pr_fT (Wt.okF h.2.2 f hf)
theorem pr_10 {l:List Nat} (h:Pr l):10 ∉ l:=fun hm=>by have:=h 10 hm; omega
theorem net_spl {ns:List Nat} {n:Nt} (ok:n.Ok) (hk:∀ k∈ns,k<100000) {c:Nat} (hc:(rowsT ns n).length≤c+1):spl 10 c (jW 10 (rowsT ns n))=rowsT ns n:=by
  refine jW_spl (by rw [rowsT_flat]; exact fun z=>nomatch z) hc fun x hx=>?_
  rw [rowsT_flat] at hx
  rcases List.mem_cons.mp hx with rfl|hx
  · exact pr_10 (pr_rT (pr_w (by decide)) fun f hf=>by
      obtain ⟨k,hk',rfl⟩:=List.mem_map.mp hf
      exact hk k hk')
  · obtain ⟨r,hr,rfl⟩:=List.mem_map.mp hx
    exact pr_10 (pr_T (flat_ok ok r hr))
theorem ten {α:Type} {l:List α} (h:l.length=10):∃ a0 a1 a2 a3 a4 a5 a6 a7 a8 a9,l=[a0,a1,a2,a3,a4,a5,a6,a7,a8,a9]:=by
  obtain ⟨b0,u0,rfl,h0⟩:=cons_of h
  obtain ⟨b1,u1,rfl,h1⟩:=cons_of h0
  obtain ⟨b2,u2,rfl,h2⟩:=cons_of h1
  obtain ⟨b3,u3,rfl,h3⟩:=cons_of h2
  obtain ⟨b4,u4,rfl,h4⟩:=cons_of h3
  obtain ⟨b5,u5,rfl,h5⟩:=cons_of h4
  obtain ⟨b6,u6,rfl,h6⟩:=cons_of h5
  obtain ⟨b7,u7,rfl,h7⟩:=cons_of h6
  obtain ⟨b8,u8,rfl,h8⟩:=cons_of h7
  obtain ⟨b9,u9,rfl,h9⟩:=cons_of h8
  obtain rfl:=List.length_eq_zero_iff.mp h9
  exact ⟨_,_,_,_,_,_,_,_,_,_,rfl⟩
section
variable {α:Type} {a0 a1 a2 a3 a4 a5 a6 a7 a8 a9:α}
theorem at4 {l:List α}:atI (a0::a1::a2::a3::a4::l) 4=some a4:=by have:=atI_nat' (l:=a0::a1::a2::a3::a4::l) (n:=4); simpa using this
theorem at5 {l:List α}:atI (a0::a1::a2::a3::a4::a5::l) 5=some a5:=by have:=atI_nat' (l:=a0::a1::a2::a3::a4::a5::l) (n:=5); simpa using this
theorem at6 {l:List α}:atI (a0::a1::a2::a3::a4::a5::a6::l) 6=some a6:=by have:=atI_nat' (l:=a0::a1::a2::a3::a4::a5::a6::l) (n:=6); simpa using this
theorem at7 {l:List α}:atI (a0::a1::a2::a3::a4::a5::a6::a7::l) 7=some a7:=by have:=atI_nat' (l:=a0::a1::a2::a3::a4::a5::a6::a7::l) (n:=7); simpa using this
theorem at8 {l:List α}:atI (a0::a1::a2::a3::a4::a5::a6::a7::a8::l) 8=some a8:=by have:=atI_nat' (l:=a0::a1::a2::a3::a4::a5::a6::a7::a8::l) (n:=8); simpa using this
theorem at9 {l:List α}:atI (a0::a1::a2::a3::a4::a5::a6::a7::a8::a9::l) 9=some a9:=by have:=atI_nat' (l:=a0::a1::a2::a3::a4::a5::a6::a7::a8::a9::l) (n:=9); simpa using this
end
theorem tl0 (q:Nat→Addr):valV (told q) (Sum.inr (Str.ofString "line"))=some (.ref (q 0)):=rfl
theorem tl1 (q:Nat→Addr):valV (told q) (Sum.inr (Str.ofString "change"))=some (.ref (q 1)):=rfl
theorem tl2 (q:Nat→Addr):valV (told q) (Sum.inr (Str.ofString "road"))=some (.ref (q 2)):=rfl
theorem tl3 (q:Nat→Addr):valV (told q) (Sum.inr (Str.ofString "wish"))=some (.ref (q 3)):=rfl
section
variable {P:Program} {w:World} {K:PySem.W.Frag} {mg:Str→Option Value} {base:Heap} {C:Addr}
abbrev s_read_net:Stmt:=stm 45
theorem sc_read_net:FnScope ["text","rows","ten","told","measures"] ["text"] (defScope s_read_net):=⟨rfl,rfl,rfl,by decide +kernel,rfl,by decide +kernel,by decide +kernel⟩
structure Got (C:Addr) (H:Hp) (m:Ms) (n:Nt) (p x dx:Addr) (q:Nat→Addr) (H':Hp):Prop where
  s:Same H H'
  ep:H' p=some (.tup [.ref x,.ref (q 0),.ref (q 1),.ref (q 2),.ref (q 3)])
  ex:H' x=some (.ins C dx (fsM m))
  n:NtAt (fun b=>H b=none) H' n (q 0) (q 1) (q 2) (q 3)
  new:∀ j,j<4→H (q j)=none
  np:H p=none
  nx:H x=none
  d:∀ j k,j<4→k<4→j≠k→q j≠q k
def sp_rnet (C:Addr):Sp:=fun vs H Q _=>∃ (m:Ms) (ns:List Nat) (n:Nt),vs=[.str (Sg (jW 10 (rowsT ns n)))]∧msOk ns m∧inB m.l∧n.Ok∧∀ p x dx q H',Got C H m n p x dx q H'→Q (.ref p) H'
set_option maxHeartbeats 4000000 in
theorem own_rnet (D:Def K mg "read_net" s_read_net) (hb:Blt mg) (T_Measures:ClsD K mg "Measures" C at_Measures) (I_Measures:OwnI P w K mg base 4 C ["self","hands","lag","miss","raise_each","count","room","places","window","wait","keep"] (sp_minit C)) (F_read_measures:Own P w K mg base 6 "read_measures" ["row"] sp_rmeas) (F_read_rows:Own P w K mg base 8 "read_rows" ["rows"] sp_rrows):Own P w K mg base 9 "read_net" ["text"] (sp_rnet C):=by
  refine D.own sc_read_net (fun _ _ _ _ _ _ us hl=>match us,hl with|[_],_=>rfl) (fun vs H Q E h=>?_) (fun f cdv A outer s H vs Q E hr h=>?_)
  · obtain ⟨m,ns,n,rfl,_⟩:=h
    rfl
  · obtain ⟨m,ns,n,rfl,⟨em,hns,hnk⟩,hin,ok,q⟩:=h
    have hu:=hr.units
    have hu1:(A.deeper (PyProof.Rows.envOfC "read_net" (defScope s_read_net) s.heap.objs.size f cdv)).units+1<cLine:=by omega
    have e10:Str.ofString "\n"=Sg [10]:=S_of _
    have hlen:(jW 10 (rowsT ns n)).length≤100000:=Nat.le_trans (jW_len _ _) (rows_sum ok hns hnk)
    have hge:=jW_ge (c:=10) (l:=rowsT ns n) (by rw [rowsT_flat]; exact fun z=>nomatch z)
    refine ⟨_,(pss_cons (ps_if (pt_not (pt_truX (pe_callB call_isiX rfl (hb _ (by decide)) bt_isinstance (pa_cX (pv 0) (pa_cX (pe_bltn (v:=(.ty "str")) rfl (hb _ (by decide)) bt_str rfl) pa_nil))))) (pss_one ps_never) pss_nil) (pss_cons (ps_st (i:=1) sc_read_net.nd rfl (pe_splS (pv 0) pe_str (by constructor <;> rfl))) (pss_cons (ps_st (i:=2) sc_read_net.nd rfl (pe_fn F_read_measures hr (pa_cX (pe_ix (ix_get hu1) (pv 1) pe_int (fun _ _=>rfl)) pa_nil))) (pss_cons (ps_st (i:=3) sc_read_net.nd rfl (pe_fn F_read_rows hr (pa_cX (pv 1) pa_nil))) (pss_cons (ps_st (i:=4) sc_read_net.nd rfl (pe_mak I_Measures hr T_Measures.mgC (pa_cX (pe_ix (ix_get hu1) (pv 2) pe_int (fun _ _=>rfl)) (pa_cX (pe_ix (ix_get hu1) (pv 2) pe_int (fun _ _=>rfl)) (pa_cX (pe_ix (ix_get hu1) (pv 2) pe_int (fun _ _=>rfl)) (pa_cX (pe_ix (ix_get hu1) (pv 2) pe_int (fun _ _=>rfl)) (pa_cX (pe_ix (ix_get hu1) (pv 2) pe_int (fun _ _=>rfl)) (pa_cX (pe_ix (ix_get hu1) (pv 2) pe_int (fun _ _=>rfl)) (pa_cX (pe_ix (ix_get hu1) (pv 2) pe_int (fun _ _=>rfl)) (pa_cX (pe_ix (ix_get hu1) (pv 2) pe_int (fun _ _=>rfl)) (pa_cX (pe_ix (ix_get hu1) (pv 2) pe_int (fun _ _=>rfl)) (pa_cX (pe_ix (ix_get hu1) (pv 2) pe_int (fun _ _=>rfl)) pa_nil)))))))))))) (pss_one (ps_ret (pe_tup (pa_cX (pv 4) (pa_cX (pe_ix (ix_get hu1) (pv 3) pe_str (fun _ _=>rfl)) (pa_cX (pe_ix (ix_get hu1) (pv 3) pe_str (fun _ _=>rfl)) (pa_cX (pe_ix (ix_get hu1) (pv 3) pe_str (fun _ _=>rfl)) (pa_cX (pe_ix (ix_get hu1) (pv 3) pe_str (fun _ _=>rfl)) pa_nil))))))))))))),?_⟩
    simp (maxSteps:=1000000) only [rIsIX,tyX_s,V.ty.injEq,kT_stst,rGet,getO_l,tTruX,truX_b,Nat.reduceSub,upd_same,Nat.reduceAdd,ne_eq,tMake,tNever,V.ty.injEq,Bool.not_true,cZ0,tSeq,eZ1,if_false,Bool.false_eq_true,tIfS,tNot,tOp,tVar,tC,tRet,tAsg,gName,tNext,tCall,tCons,tNil,tCB,tTup,L2.start,mZ1,mZ0,lZ1,lZ0,List.replicate,List.cons_append,List.nil_append,gZ0,gZ1,sZ0,sZ1,oZ0,eZ0,V.ref.injEq,V.str.injEq,and_true,and_assoc,aZ0,tSplS,e10]
    refine ⟨_,rfl,10,rfl,by decide,hlen,?_⟩
    rw [net_spl ok hnk (by omega),rowsT_flat]
    intro p1 n1
    generalize z1:upd H p1 _=H1
    obtain ⟨s1,e1⟩:=new_same z1 n1
    simp (maxSteps:=1000000) only [atI_0,oZ0,eZ0,wV_cons]
    refine ⟨ns,rfl,hns,hnk,fun pt H2 s2 et=>?_⟩
    have e12:=s2 _ _ e1
    refine ⟨p1,_,flat n,rfl,e12,flat_ok ok,flat_sorted n,flat_len ok,fun T q' H3 s3 eT nq dist ql=>?_⟩
    obtain ⟨a0,a1,a2,a3,a4,a5,a6,a7,a8,a9,rfl⟩:=ten hns
    have et3:=s3 _ _ et
    have et3':H3 pt=some (.tup [niV a0,niV a1,niV a2,niV a3,niV a4,niV a5,niV a6,niV a7,niV a8,niV a9]):=et3
    simp (maxSteps:=1000000) only [getO_t,atI_0,atI_1,atI_2,atI_3,oZ0,eZ0,V.ref.injEq,et3',at4,at5,at6,at7,at8,at9]
    intro x dx hx hdx _
    have hm:m=⟨(a0:Int),(a1:Int),(a2:Int),(a3:Int),(a4:Int),(a5:Int),(a6:Int),(a7:Int),(a8:Int),(a9:Int)⟩:=by
      obtain ⟨b0,b1,b2,b3,b4,b5,b6,b7,b8,b9⟩:=m
      simp only [Ms.l,mZ1,mZ0,cZ0,and_true] at em
      obtain ⟨rfl,rfl,rfl,rfl,rfl,rfl,rfl,rfl,rfl,rfl⟩:=em
      rfl
    refine ⟨x,dx,m,by rw [hm]; rfl,upd_same,hin,fun H4 e4 k4=>⟨rfl,?_⟩⟩
    have s4:Same H3 H4:=make_same hx hdx k4
    have eT4:=s4 _ _ eT
    simp (maxSteps:=1000000) only [getO_ds,oZ0,eZ0,eT4,tl0,tl1,tl2,tl3]
    refine ⟨by rw [sizeLine_eq]; decide,fun p hp=>q p x dx q' _ ?_⟩
    have s5:Same H4 (upd H4 p (.tup [.ref x,.ref (q' 0),.ref (q' 1),.ref (q' 2),.ref (q' 3)])):=.upd_new hp
    have s12:=s1.trans s2
    have sA:=(s12.trans s3).trans s4
    refine ⟨sA.trans s5,upd_same,s5 _ _ e4,?_,fun j hj=>s12.free (nq j hj),sA.free hp,(s12.trans s3).free hx,dist⟩
    have n3:=(ql.nt).same (s4.trans s5)
    refine ⟨?_,?_,?_,?_⟩
    · exact let ⟨us,e,p⟩:=n3.ln; ⟨us,e,paired_imp (fun _ _ r=>r.mono fun b hb=>s12.free hb) p⟩
    · exact let ⟨us,e,p⟩:=n3.ch; ⟨us,e,paired_imp (fun _ _ r=>r.mono fun b hb=>s12.free hb) p⟩
    · exact let ⟨us,e,p⟩:=n3.rd; ⟨us,e,paired_imp (fun _ _ r=>r.mono fun b hb=>s12.free hb) p⟩
    · exact let ⟨us,e,p⟩:=n3.ws; ⟨us,e,paired_imp (fun _ _ r=>r.mono fun b hb=>s12.free hb) p⟩
end
end K82
namespace L2
open PySem PySem.Spec PyProof.Rows
section
variable {X:Cx} {pins:List (Addr × Obj)} {σ:St} {H:Hp} {s:Shared} {E:XS}
theorem Inv.fewer (I:Inv X pins σ H s):Inv X [] σ H s:=
  ⟨I.ok,I.os,I.bare,I.base,I.loc,I.cell,I.free,I.freeC,fun p hp=>I.pin p (by rw [aZ0] at hp; exact List.mem_append_left _ hp),I.hok,I.len⟩
theorem Apart.fewer {b:Addr} (a:Apart X pins H b):Apart X [] H b:=
  ⟨a.un,a.up,a.loc,a.cel,fun p hp=>a.pin p (by rw [aZ0] at hp; exact List.mem_append_left _ hp)⟩
theorem XP.fewer {v:Value} (h:XP X pins E v s):XP X [] E v s:=by
  obtain ⟨e,σ',H',rfl,I,he,⟨oe,vs,g,d,tb⟩,q⟩:=h
  exact ⟨e,σ',H',rfl,I.fewer,he,⟨oe,vs,g,d,tb.imp id fun ⟨T,oT,ts,a1,a2,a3,a4,a5,a6⟩=>⟨T,oT,ts,a1,a2,a3,a4,a5,a6.fewer⟩⟩,q⟩
structure NoteF (L:Addr) (fs:List Addr) (e:Addr) (Ts:List Addr) (h h':Heap):Prop where
  keep:∀ b o,h.get? b=some o→b ∉ fs→b≠e→b ∉ Ts→h'.get? b=some o
  slot:∀ b o,h.get? b=some o→b∈fs→∃ sl,h'.get? b=some { o with slots:=sl }
  exc:∀ oe vs,h.get? e=some oe→oe.data=.fields vs→∃ oe' vs' T,h'.get? e=some oe'∧oe'.cls=oe.cls∧oe'.dict=oe.dict∧oe'.data=.fields vs'∧(Six vs→Six vs')∧vs'[1]?=some (.ref T) ∧
    h.objs.size≤T∧T≠e∧∃ oT ts,h'.get? T=some oT∧oT.data=.fields ts∧ts[3]?=some (rawInt L)
  tb:∀ b∈Ts,∃ o,h'.get? b=some o
theorem note_layF {M:Model} {A:Around} {E:Value→Shared→Prop} {s:Shared} {base:Heap} {env:Env} {outer:List Env} {L e:Addr} {oe:Obj} {vs:Array Value} {head:Value} {b:Bool} {Q:Unit→Shared→Prop}
    (hfr:A.frames=some (env::outer)) (hl:s.heap.FunFrames base (env::outer)) (hf:env.frame=some L) (he:s.heap.get? e=some oe) (hd:oe.data=.fields vs) (hsz:1<vs.size)
    (h:∀ h',NoteF L ((env::outer).filterMap (·.frame)) e [] s.heap h'→Q () { s with heap:=h' }) :
    wpAny M A (do let a ← frameOf env; let pl ← entryPlaceOf L b; let x ← EntryCells.newEntry head a .none (rawInt L) .none pl; setField (.ref e) 1 x) Q E s:=by
  have hne:e ∉ (env::outer).filterMap (·.frame):=fun hm=>by
    obtain ⟨_,o,ho,hnf⟩:=hl.mem hm
    rw [he] at ho
    cases ho
    exact hnf vs hd
  refine wpAny_bind (wpAny_frameOf_fun hfr hl hf fun h1 k1=>?_)
  refine wpAny_bind (wpAny_entryPlaceOf fun pl hpl=>?_)
  unfold EntryCells.newEntry newFields
  refine wpAny_bind (wpAny_newObj_type ?_ (hpl.sizeOk5 _ _ _ _ _))
  generalize hTO:({ cls:=.type "traceback", dict:=none,data:=.fields ([head,.ref L,.none,rawInt L,.none]++(if pl.isEmpty then List.replicate 6 Value.none else pl)).toArray }:Obj)=TO
  have e1:h1.get? e=some oe:=(k1.2.1 e hne).trans he
  have nT:h1.objs.size≠e:=Nat.ne_of_gt (Heap.lt_size e1)
  refine wpAny_setField (Heap.get?_push_of_some TO e1) hd hsz (h _ ?_)
  have d3:=Obj.data_mapFields hd (·.setIfInBounds 1 (Value.ref h1.objs.size))
  have e3:=Heap.get?_update_self (Obj.mapFields (·.setIfInBounds 1 (Value.ref h1.objs.size))) (Heap.get?_push_of_some TO e1) (Obj.isFreed_of_fields d3)
  have dT:TO.data=.fields ([head,.ref L,.none,rawInt L,.none]++(if pl.isEmpty then List.replicate 6 Value.none else pl)).toArray:=by rw [← hTO]
  have T3:((h1.push TO).update e (Obj.mapFields (·.setIfInBounds 1 (Value.ref h1.objs.size)))).get? h1.objs.size=some TO:=by
    rw [Heap.get?_update_other _ _ (Ne.symm nT)]
    exact Heap.get?_push_size h1 (by rw [← hTO]; rfl)
  have kk:∀ b o,b≠e→h1.get? b=some o→((h1.push TO).update e (Obj.mapFields (·.setIfInBounds 1 (Value.ref h1.objs.size)))).get? b=some o:=fun b o hb q=>by
    rw [Heap.get?_update_other _ _ (Ne.symm hb)]
    exact Heap.get?_push_of_some _ q
  refine ⟨fun b o q hb hbe _=>kk b o hbe ((k1.2.1 b hb).trans q),fun b o q hb=>?_,fun oe2 vs2 q d2=>?_,fun b hb=>nomatch hb⟩
  · obtain ⟨sl,q2⟩:=k1.2.2 b o q
    exact ⟨sl,kk b _ (fun z=>hne (z ▸ hb)) q2⟩
  · rw [he] at q
    cases q
    rw [hd] at d2
    cases d2
    exact ⟨_,_,h1.objs.size,e3,Obj.cls_mapFields _ _,dict_mapF _ _,d3,six_set,by simp [hsz],by rw [k1.1]; exact Nat.le_refl _,nT,_,_,T3,dT,by simp⟩
def TbZ (X:Cx) (H:Hp) (h:Heap) (e:Addr) (z:Value→Prop):Prop:=∃ oe vs T oT ts v,h.get? e=some oe∧oe.data=.fields vs∧vs[1]?=some (.ref T)∧h.get? T=some oT∧oT.data=.fields ts∧ts[3]?=some v∧z v∧T≠e∧Apart X [] H T
def TbL (X:Cx) (H:Hp) (h:Heap) (e:Addr):Prop:=(∃ oe vs,h.get? e=some oe∧oe.data=.fields vs∧vs[1]?=some .none)∨TbZ X H h e fun _=>True
theorem Tb.fly {e:Addr} {h:Heap} (t:Tb X pins H h e):TbL X H h e:=by
  obtain ⟨oe,vs,g,d,t|⟨T,oT,ts,a1,a2,a3,a4,a5,a6⟩⟩:=t
  · exact .inl ⟨oe,vs,g,d,t⟩
  · exact .inr ⟨oe,vs,T,oT,ts,_,g,d,a1,a2,a3,a4,trivial,a5,a6.fewer⟩
theorem Inv.touch {h':Heap} {T:Addr} (I:Inv X pins σ H s) (hT:Apart X pins H T) (k:∀ b o,b≠T→s.heap.get? b=some o→h'.get? b=some o) (ex:∃ o,h'.get? T=some o):Inv X pins σ H { s with heap:=h' }:=by
  have hok:HOk X.prog X.w H h':=fun a o q=>(I.hok a o q).stay (fun b u hb r=>by
      refine k b u (fun z=>?_) r
      rcases hb with rfl|hb
      · rw [z,hT.un] at q; cases q
      · rw [z,hT.un] at hb; cases hb) (fun _ r=>r) fun _ _ r=>r
  exact I.call (ch:=[T]) (h':=h') (g':=s.gens) (d':=s.drawn) (t':=s.toks)
    ⟨fun b o q n hb hx=>k b o (fun z=>hx (by rw [z]; exact .head _)) q,fun b o q n hb hx=>⟨o.slots,k b o (fun z=>hx (by rw [z]; exact .head _)) q⟩,fun _ _ _ n _=>n,fun b o q hx=>by
      by_cases hb:b=T
      · rw [hb]; exact ex
      · exact ⟨o,k b o hb q⟩,fun _ _ q=>q,fun _ _ _ q=>q,fun _ ps q=>⟨#[],by rw [q]; simp⟩⟩ hok I.bare fun b hb=>by
        rw [List.mem_singleton] at hb
        subst hb
        exact ⟨.inr hT.up,hT.loc,hT.cel,hT.pin⟩
theorem Inv.notedF {h':Heap} {Ts:List Addr} {e C:Addr} {od:Option Addr} (I:Inv X [] σ H s) (he:H e=some (XO e C od)) (N:NoteF X.env.locals (frs X.stack) e Ts s.heap h') (hT:∀ b∈Ts,Apart X [] H b) :
    Inv X [] σ H { s with heap:=h' }∧TbZ X H h' e (·=rawInt X.env.locals):=by
  obtain ⟨oe,vs,ge,c1,c2,c3,c4⟩:=I.xoS he
  obtain ⟨oe',vs',T,ge',e1,e2,e3,e4,e5,e6,e7,oT,ts,t1,t2,t3⟩:=N.exc oe vs ge c3
  have nfr:∀ b o,H b=some o→b ∉ frs X.stack:=fun b o q hb=>by rw [I.stkFree b hb] at q; cases q
  have nts:∀ b o,H b=some o→b ∉ Ts:=fun b o q hb=>by rw [(hT b hb).un] at q; cases q
  have hok:HOk X.prog X.w H h':=fun a o q=>by
    by_cases ha:a=e
    · subst ha
      rw [he] at q
      cases q
      exact XO.mk ge' (e1.trans c1) (e2.trans c2) e3 (e4 c4)
    · refine (I.hok a o q).stay (fun b u hb r=>?_) (fun _ r=>r) fun _ _ r=>r
      rcases hb with rfl|hb
      · exact N.keep b u r (nfr b o q) ha (nts b o q)
      · exact N.keep b u r (nfr b _ hb) (fun z=>by rw [z,he] at hb; cases hb) (nts b _ hb)
  have J:Inv X [] σ H { s with heap:=h',gens:=s.gens,drawn:=s.drawn,toks:=s.toks }:=I.call (ch:=Ts) (h':=h') (g':=s.gens) (d':=s.drawn) (t':=s.toks)
    ⟨fun b o q n hb hx=>N.keep b o q hb (fun z=>by rw [z,he] at n; cases n) hx,fun b o q n hb hx=>N.slot b o q hb,fun _ _ _ n _=>n,fun b o q hx=>by
      by_cases hb:b∈frs X.stack
      · obtain ⟨sl,r⟩:=N.slot b o q hb
        exact ⟨_,r⟩
      · by_cases hbe:b=e
        · exact ⟨_,by rw [hbe]; exact ge'⟩
        · exact ⟨o,N.keep b o q hb hbe hx⟩,fun _ _ q=>q,fun _ _ _ q=>q,fun _ ps q=>⟨#[],by rw [q]; simp⟩⟩ hok I.bare fun b hb=>⟨.inr (hT b hb).up,(hT b hb).loc,(hT b hb).cel,(hT b hb).pin⟩
  exact ⟨J,oe',vs',T,oT,ts,_,ge',e3,e5,t1,t2,t3,rfl,e7,Apart.fresh I e6⟩
theorem note_own {M:Model} {Q:Unit→Shared→Prop} {W:Value→Shared→Prop} {e C:Addr} {od:Option Addr} (I:Inv X [] σ H s) (he:H e=some (XO e C od)) (tb:TbL X H s.heap e) (hst:X.stack=X.env::X.outer) (hf:X.env.frame=some X.env.locals)
    (h:∀ s',Inv X [] σ H s'→TbZ X H s'.heap e (·=rawInt X.env.locals)→Q () s'):wpAny M X.A (noteFrame (.ref e) X.env) Q W s:=by
  have hfr:X.A.frames=some (X.env::X.outer):=by rw [← hst]; exact I.ok.frames
  have hl:s.heap.FunFrames X.base (X.env::X.outer):=by rw [← hst]; exact I.stack
  unfold noteFrame
  simp only [hf]
  rcases tb with ⟨oe,vs,ge,hd,tb⟩|⟨oe,vs,T,oT,ts,v,ge,hd,tb,gT,dT,t3,hv,nT,aT⟩
  · obtain ⟨oe',vs',ge',c1,c2,c3,c4⟩:=I.xo he
    rw [ge] at ge'
    cases ge'
    rw [hd] at c3
    cases c3
    have hsz:1<vs.size:=by omega
    refine wpAny_bind (wpAny_field ge hd tb ?_)
    rw [if_neg (by decide)]
    refine note_layF hfr hl hf ge hd hsz fun h' N=>?_
    obtain ⟨J,T⟩:=I.notedF (h':=h') (Ts:=[]) he (by rw [hst]; exact N) (fun b hb=>nomatch hb)
    exact h _ J T
  · obtain ⟨oe',vs',ge',c1,c2,c3,c4⟩:=I.xo he
    rw [ge] at ge'
    cases ge'
    rw [hd] at c3
    cases c3
    have hsz:1<vs.size:=by omega
    refine wpAny_bind (wpAny_field ge hd tb ?_)
    rw [if_pos (show (Value.ref T != Value.none)=true from by simp)]
    refine wpAny_bind (wpAny_field gT dT t3 ?_)
    by_cases hv':(v == rawInt X.env.locals)=true
    rotate_left
    · rw [if_neg hv']
      refine wpAny_bind (wpAny_setField gT dT (Array.getElem?_eq_some_iff.mp t3).1 ?_)
      have ot:∀ b,b≠T→(s.heap.update T (Obj.mapFields (·.setIfInBounds 3 Value.none))).get? b=s.heap.get? b:=fun b hb=>Heap.get?_update_other _ _ (Ne.symm hb)
      have dT':=Obj.data_mapFields dT (·.setIfInBounds 3 Value.none)
      have gT':=Heap.get?_update_self (Obj.mapFields (·.setIfInBounds 3 Value.none)) gT (Obj.isFreed_of_fields dT')
      have nfr:T ∉ (X.env::X.outer).filterMap (·.frame):=fun hm=>by
        obtain ⟨_,o,ho,hnf⟩:=hl.mem hm
        rw [gT] at ho
        cases ho
        exact hnf ts dT
      refine note_layF hfr (hl.of_keeps fun b o hb hnf=>⟨o,(ot b fun z=>by rw [z,gT] at hb; cases hb; exact hnf ts dT).trans hb,rfl⟩) hf ((ot e (Ne.symm nT)).trans ge) hd hsz fun h' N=>?_
      have N2:NoteF X.env.locals (frs X.stack) e [T] s.heap h':=by
        rw [hst]
        refine ⟨fun b o q hb hbe hx=>N.keep b o ((ot b fun z=>hx (by rw [z]; exact .head _)).trans q) hb hbe (fun z=>nomatch z),fun b o q hb=>N.slot b o ((ot b fun z=>nfr (by rw [← z]; exact hb)).trans q) hb,fun oe2 vs2 q d2=>?_,fun b hb=>?_⟩
        · obtain ⟨oe',vs',T',r1,r2,r3,r4,r5,r6,r7,r8⟩:=N.exc oe2 vs2 ((ot e (Ne.symm nT)).trans q) d2
          exact ⟨oe',vs',T',r1,r2,r3,r4,r5,r6,by rw [Heap.size_update] at r7; exact r7,r8⟩
        · rw [List.mem_singleton] at hb
          subst hb
          exact ⟨_,N.keep b _ gT' nfr nT (fun z=>nomatch z)⟩
      obtain ⟨J,T'⟩:=I.notedF (h':=h') (Ts:=[T]) he N2 (fun b hb=>by rw [List.mem_singleton] at hb; subst hb; exact aT)
      exact h _ J T'
    · rw [if_pos hv']
      exact wpAny_pure (h s I ⟨oe,vs,T,oT,ts,_,ge,hd,tb,gT,dT,t3,eq_of_beq hv',nT,aT⟩)
theorem fly_ok {M:Model} {Q:Unit→Shared→Prop} {W:Value→Shared→Prop} {e:Addr} {z:Value→Prop} (fl:Option Addr) (I:Inv X [] σ H s) (hE:H e≠none) (tb:TbZ X H s.heap e z)
    (h:∀ s',Inv X [] σ H s'→TbZ X H s'.heap e (·=fl.elim .none fun f=>rawInt f)→Q () s'):wpAny M X.A (setFlight (.ref e) fl) Q W s:=by
  obtain ⟨oe,vs,T,oT,ts,v,ge,hd,tb,gT,dT,t3,hv,nT,aT⟩:=tb
  unfold setFlight
  refine wpAny_bind (wpAny_field ge hd tb ?_)
  rw [if_pos (show (Value.ref T != Value.none)=true from by simp)]
  have h3:=(Array.getElem?_eq_some_iff.mp t3).1
  refine wpAny_setField gT dT h3 ?_
  have dT':=Obj.data_mapFields dT (·.setIfInBounds 3 (fl.elim .none fun f=>rawInt f))
  have gT':=Heap.get?_update_self (Obj.mapFields (·.setIfInBounds 3 (fl.elim .none fun f=>rawInt f))) gT (Obj.isFreed_of_fields dT')
  refine h _ (I.touch aT (fun b o hb q=>(Heap.get?_update_other _ _ (Ne.symm hb)).trans q) ⟨_,gT'⟩) ⟨oe,vs,T,_,_,_,(Heap.get?_update_other _ _ nT).trans ge,hd,tb,gT',dT',by simp [h3],rfl,nT,aT⟩
def XPL (X:Cx) (E:XS) (v:Value) (s':Shared):Prop:=∃ e σ' H',v=.ref e∧Inv X [] σ' H' s'∧(∃ C od,H' e=some (XO e C od))∧TbL X H' s'.heap e∧E σ' e H'
theorem XP.fly {v:Value} (h:XP X pins E v s):XPL X E v s:=by
  obtain ⟨e,σ',H',rfl,I,he,tb,q⟩:=h
  exact ⟨e,σ',H',rfl,I.fewer,he,tb.fly,q⟩
def Cx.exc (X:Cx) (E:XS):Cx:=X.wish (XPL X E)
def tXE (E:XS) (t:TEx):TE:=fun σ H Q=>t σ H Q (E σ)
def tSE (E:XS) (t:TSx):TS:=fun D σ H=>t D E σ H
theorem pe_exc {e:Expr} {t:TEx} (h:PEx X e t):PE (X.exc E) e (tXE E t):=fun pins s σ H Q I q=>
  wpAny_mono (h pins s σ H Q (E σ) I.unwish q) (fun _ _ ⟨v,H',I',r,q'⟩=>⟨v,H',I'.wish _,r,q'⟩) fun _ _ z=>(xp_at z).fly
theorem SP.wish {D:Ends} {f:Flow} {s':Shared} {W:Value→Shared→Prop} (h:SP X pins D f s'):SP (X.wish W) pins D f s':=by
  cases f with
  | next=>obtain ⟨σ',H',I,q⟩:=h; exact ⟨σ',H',I.wish _,q⟩
  | brk=>obtain ⟨σ',H',I,q⟩:=h; exact ⟨σ',H',I.wish _,q⟩
  | cont=>obtain ⟨σ',H',I,q⟩:=h; exact ⟨σ',H',I.wish _,q⟩
  | ret u=>obtain ⟨v,σ',H',I,r,q⟩:=h; exact ⟨v,σ',H',I.wish _,r,q⟩
theorem passes_exc (hst:X.stack=X.env::X.outer) (hf:X.env.frame=some X.env.locals):PassesOwn (model X.prog X.w) X.A X.env (XPL X E):=by
  rintro _ s ⟨e,σ,H,rfl,I,⟨C,od,he⟩,tb,q⟩
  unfold notedBy
  refine note_own I he tb hst hf fun s2 I2 tb2=>?_
  unfold cameBackBy
  obtain ⟨oe,vs,T,oT,ts,v,g1,d1,a1,a2⟩:=tb2
  refine wpAny_bind (wpAny_field g1 d1 a1 ?_)
  rw [if_neg (show ¬ ((Value.ref T == Value.none)=true) from by simp)]
  rw [hf]
  refine fly_ok (z:=(·=rawInt X.env.locals)) (some X.env.locals) I2 (by rw [he]; exact fun z=>nomatch z) ⟨oe,vs,T,oT,ts,v,g1,d1,a1,a2⟩ fun s3 I3 tb3=>?_
  obtain ⟨oe,vs,T,oT,ts,v,b1,b2,b3,b4,b5,b6,b7,b8⟩:=tb3
  exact ⟨e,σ,H,rfl,I3,⟨C,od,he⟩,.inr ⟨oe,vs,T,oT,ts,v,b1,b2,b3,b4,b5,b6,trivial,b8⟩,q⟩
theorem passes_ex (hst:X.stack=X.env::X.outer:=by rfl) (hf:X.env.frame=some X.env.locals:=by rfl):PassesOwn (model (X.exc E).prog (X.exc E).w) (X.exc E).A (X.exc E).env (X.exc E).xe:=passes_exc hst hf
theorem ps_exc {st:Stmt} {t:TSx} (h:PSx X st t):PS (X.exc E) st (tSE E t):=fun pins s σ H D I q=>
  wpAny_mono (h pins s σ H D E I.unwish q) (fun _ _ q'=>q'.wish) fun _ _ z=>z.fly
end
section
variable {P:Program} {w:World} {K:PySem.W.Frag} {mg:Str→Option Value} {base:Heap}
theorem fn_ofE {k:Nat} {f:Addr} {name qual:Str} {params:Arguments} {body:List Stmt} {scope:Scope} {dV kV doc pm cdv ct oc:Value} {an od:Option Addr}
    {osl:Array (Option Value)} {N ps:List Str} {sp:Sp} (lk:K.lookup f=some ⟨oc,od,.func (PySem.W.fnOf name qual params body scope dV kV doc pm an cdv ct),osl⟩) (hcd:PySem.W.codeIn K cdv qual=true) (S:FnScope N ps scope)
    (len:∀ vs H Q E,sp vs H Q E→vs.length=ps.length)
    (hbody:∀ (A:Around) (outer:List Env) (s:Shared) (H:Hp) (vs:List V) (Q:VK) (E:XK),Room k (A.deeper (envOfC qual scope s.heap.objs.size f cdv))→sp vs H Q E →
      ∃ t,PSs ((cxOf CX0 P w K mg base N qual scope f cdv A outer s H E).exc fun _ e H'=>E (.ref e) none H') body t∧t { nx:=fun _ H'=>Q .non H',rt:=Q } (start N vs) H) :
    FnOk P w K mg base (CXx P w) (k+1) f (PySem.W.fnOf name qual params body scope dV kV doc pm an cdv ct) ps sp:=by
  refine ⟨len,fun A outer s H args us vs Q E hr e0 hb r hsp=>?_⟩
  have hl:=len _ _ _ _ hsp
  have KX:K.In s.heap:=e0.mod.kin.keeps fun b o e=>(e0.bs b o e).1
  have lim:s.heap.NoLimit:=e0.mod.nolimit.keeps fun b o e=>(e0.bs b o e).1
  have hkind:∀ y∈ps.zip us,scope.names.lookup y.1=some .local∨(scope.names.lookup y.1=some .cell∧((cellsFrom (s.heap.objs.size+1) scope.names []).lookup y.1).isSome=true):=fun ⟨n,v⟩ hy=>by
    rcases S.par n (List.of_mem_zip hy).1 with q|q
    · exact .inl q
    · exact .inr ⟨q,PySem.W.cellsFrom_some _ _ _ (.inl q)⟩
  refine codeAny_call_function hr.depth (KX _ _ lk) rfl S.co S.gen rfl (PySem.W.codeRec_of KX hcd) (hb _ _ _ _ ?_)
  refine wpAny_newFunctionEnv_cells S.kind hkind fun env he s1 x=>?_
  subst he
  refine ⟨lim.keeps x.toInCall.keep,codeAny_func ?_⟩
  obtain ⟨t,ht,hq⟩:=hbody A outer s H vs Q E (hr.deeper _) hsp
  have I:Inv (cxOf CX0 P w K mg base N qual scope f cdv A outer s H E) [] (start N vs) H s1:=inv_start S hr.hd e0 hl r x
  refine wpAny_mono (ht [] s1 (start N vs) H _ (I.wish _) hq) (fun fl s' hs=>?_) fun v s' hs=>?_
  · have hs:=hs.unwish
    have fin:∀ {σ':St} {H':Hp} {v:V} {u:Value},Inv (cxOf CX0 P w K mg base N qual scope f cdv A outer s H E) [] σ' H' s'→RelV v u→Q v H'→CE outer P w H s Q u s':=
      fun {σ' H' v u} J rv q=>⟨v,H',J.os,J.bare,J.base,J.hok,rv,q⟩
    cases fl with
    | ret u=>
      obtain ⟨v,σ',H',J,rv,q⟩:=hs
      exact fin J rv q
    | next=>
      obtain ⟨σ',H',J,q⟩:=hs
      exact fin (v:=V.non) (u:=Value.none) J rfl q
    | brk=>
      obtain ⟨_,_,_,q⟩:=hs
      exact False.elim q
    | cont=>
      obtain ⟨_,_,_,q⟩:=hs
      exact False.elim q
  · obtain ⟨e,σ',H',rfl,J,⟨C,od,he⟩,tb,q⟩:=(hs:XPL (cxOf CX0 P w K mg base N qual scope f cdv A outer s H E) (fun _ e H'=>E (.ref e) none H') v s')
    unfold leaving
    refine wpAny_bind (note_own J he tb rfl rfl fun s2 J2 tb2=>?_)
    refine fly_ok none J2 (by rw [he]; exact fun z=>nomatch z) tb2 fun s3 J3 tb3=>?_
    obtain ⟨oe,vs,T,oT,ts,v,g1,d1,a1,a2,a3,a4,a5,a6,a7⟩:=tb3
    subst a5
    exact ⟨e,H',rfl,J3.os,J3.bare,J3.base,J3.hok,⟨C,od,he⟩,⟨oe,vs,g1,d1,.inr ⟨T,oT,ts,a1,a2,a3,a4,a6,a7.un,a7.up⟩⟩,q⟩
abbrev BodyE (P:Program) (w:World) (K:PySem.W.Frag) (mg:Str→Option Value) (base:Heap) (N:List Str) (qual:Str) (st:Stmt) (f:Addr) (cdv:Value) (k:Nat) (sp:Sp):Prop:=
  ∀ (A:Around) (outer:List Env) (s:Shared) (H:Hp) (vs:List V) (Q:VK) (E:XK),Room k (A.deeper (envOfC qual (defScope st) s.heap.objs.size f cdv))→sp vs H Q E →
    ∃ t,PSs ((cxOf CX0 P w K mg base N qual (defScope st) f cdv A outer s H E).exc fun _ e H'=>E (.ref e) none H') (defBody st) t∧t { nx:=fun _ H'=>Q .non H',rt:=Q } (start N vs) H
theorem Fun.okE {x qual:Str} {st:Stmt} {f:Addr} {fd:FuncData} {N ps:List Str} {k:Nat} {sp:Sp} (F:Fun K x qual st f fd) (S:FnScope N ps (defScope st)) (len:∀ vs H Q E,sp vs H Q E→vs.length=ps.length)
    (hbody:∀ (cdv:Value),BodyE P w K mg base N qual st f cdv k sp):FnOk P w K mg base (CXx P w) (k+1) f fd ps sp:=by
  obtain ⟨oc,od,kV,doc,pm,an,cdv,ct,osl,rfl,lk,hcd⟩:=F.ex
  exact fn_ofE lk hcd S len fun A outer s H vs Q E hr hsp=>hbody cdv A outer s H vs Q E hr hsp
section
variable {x m qual:Str} {C:Addr} {st:Stmt} {N ps:List Str} {k:Nat} {sp:Sp}
theorem Def.ownE (D:Def K mg x st) (S:FnScope N ps (defScope st))
    (hb:∀ (kV doc pm:Value) (an:Option Addr) (cdv ct:Value) (us:List Value),us.length=ps.length→bindArgs (PySem.W.fnOf x x (defArgs st) (defBody st) (defScope st) .none kV doc pm an cdv ct) ⟨us,[]⟩=pure (ps.zip us))
    (len:∀ vs H Q E,sp vs H Q E→vs.length=ps.length) (hbody:∀ (f:Addr) (cdv:Value),BodyE P w K mg base N x st f cdv k sp):OwnX P w K mg base (k+1) x ps sp:=by
  obtain ⟨f,fd,hm,F⟩:=D
  exact ⟨f,fd,hm,F.kp,F.binds hb,F.okE S len (hbody f)⟩
theorem DefI.ownE (D:DefI K C qual st) (S:FnScope N ps (defScope st))
    (hb:∀ (kV doc pm:Value) (an:Option Addr) (cdv ct:Value) (us:List Value),us.length=ps.length→bindArgs (PySem.W.fnOf "__init__" qual (defArgs st) (defBody st) (defScope st) .none kV doc pm an cdv ct) ⟨us,[]⟩=pure (ps.zip us))
    (len:∀ vs H Q E,sp vs H Q E→vs.length=ps.length) (hbody:∀ (f:Addr) (cdv:Value),BodyE P w K mg base N qual st f cdv k sp):OwnIX P w K mg base (k+1) C ps sp:=by
  obtain ⟨f,fd,hm,F⟩:=D
  exact ⟨f,fd,hm,F.binds hb,F.okE S len (hbody f)⟩
end
end
end L2
namespace L2
open PySem PySem.Spec PyProof.Rows
section
variable {X:Cx} {pins:List (Addr × Obj)} {σ:St} {H:Hp} {s:Shared} {E:XS}
def Cx.exn (X:Cx) (E:XS):Cx:=X.wish (XP X [] E)
theorem pe_exn {e:Expr} {t:TEx} (h:PEx X e t):PE (X.exn E) e (tXE E t):=fun pins s σ H Q I q=>
  wpAny_mono (h pins s σ H Q (E σ) I.unwish q) (fun _ _ ⟨v,H',I',r,q'⟩=>⟨v,H',I'.wish _,r,q'⟩) fun _ _ z=>(xp_at z).fewer
theorem FpOk.fewer {b:Addr} (h:FpOk X pins H b):FpOk X [] H b:=
  ⟨h.1,h.2.1,h.2.2.1,h.2.2.2.1,h.2.2.2.2.1,fun p hp=>h.2.2.2.2.2 p (by rw [aZ0] at hp; exact List.mem_append_left _ hp)⟩
def Cx.pinned (X:Cx) (p:Addr × Obj):Cx:={ X with pn:=p::X.pn }
theorem Inv.pinOn {p:Addr × Obj} (I:Inv X [] σ H s) (h:s.heap.get? p.1=some p.2∧H p.1=none∧p.1≠X.env.locals∧p.1 ∉ X.fs∧∀ v,p.2.data≠.cell v):Inv (X.pinned p) [] σ H s:=
  ⟨⟨I.ok.mod,I.ok.kind,I.ok.glob,I.ok.blt,I.ok.above,I.ok.inj,I.ok.has,I.ok.cab,I.ok.hd,I.ok.frames,I.ok.stk,I.ok.exf,I.ok.bs,I.ok.bsz,I.ok.noex,I.ok.exfs,I.ok.funs,I.ok.frf⟩,I.os,I.bare,I.base,I.loc,I.cell,I.free,I.freeC,fun q hq=>by
    rcases List.mem_cons.mp (show q∈p::(X.pn++[]) from hq) with rfl|hq
    · exact h
    · exact I.pin q hq,I.hok,I.len⟩
theorem Inv.pinOff {p:Addr × Obj} (I:Inv (X.pinned p) [] σ H s):Inv X [] σ H s:=
  ⟨⟨I.ok.mod,I.ok.kind,I.ok.glob,I.ok.blt,I.ok.above,I.ok.inj,I.ok.has,I.ok.cab,I.ok.hd,I.ok.frames,I.ok.stk,I.ok.exf,I.ok.bs,I.ok.bsz,I.ok.noex,I.ok.exfs,I.ok.funs,I.ok.frf⟩,I.os,I.bare,I.base,I.loc,I.cell,I.free,I.freeC,fun q hq=>I.pin q (List.mem_cons_of_mem _ hq),I.hok,I.len⟩
theorem Apart.pinOff {p:Addr × Obj} {b:Addr} (a:Apart (X.pinned p) [] H b):Apart X [] H b∧p.1≠b:=
  ⟨⟨a.un,a.up,a.loc,a.cel,fun q hq=>a.pin q (List.mem_cons_of_mem _ hq)⟩,a.pin p List.mem_cons_self⟩
theorem comp_bad {scope:Scope} {N':List Str} {fp:List Addr} {σb:St} {H':Hp} {s':Shared} {e Ce:Addr} {od:Option Addr} {E0:Addr→Hp→Prop} {acc:Value} {Q:Value→Shared→Prop} (I:Inv X pins σ H s) (hst:X.stack=X.env::X.outer) (hfl:X.env.frame=some X.env.locals)
    (hf:∀ b∈fp,FpOk X pins H b) (B:Inv (cxC X scope N' s.heap.objs.size fp s H) [] σb H' s') (hE:H' e=some (XO e Ce od)) (tb:Tb (cxC X scope N' s.heap.objs.size fp s H) [] H' s'.heap e) (q:E0 e H') :
    notedBy (model X.prog X.w) X.A (compEnvC scope (clOf X.env.cells scope.names []) s.heap.objs.size X.env) (fun e s'=>compPost (model X.prog X.w) X.A (X.exc fun _=>E0).xe none Q acc s.heap.objs.size (.error e) s') (.ref e) s':=by
  have If:=I.fewer
  have J:Inv X [] σ H' s':=If.unblock (fun b hb=>(hf b hb).fewer) B (.refl ..)
  obtain ⟨m,hn,_⟩:=B.loc
  obtain ⟨o,es,ep,ho,hod,r⟩:=id hn
  have nL:s.heap.objs.size≠X.env.locals:=Nat.ne_of_gt I.lt
  have nF:s.heap.objs.size ∉ X.fs:=I.nofs (Nat.le_refl _)
  have nC:∀ x c,X.env.cells.lookup x=some c→c≠s.heap.objs.size:=fun x c e=>by
    obtain ⟨_,o,ho,_⟩:=I.cell x c e
    exact Nat.ne_of_lt (Heap.lt_size ho)
  have Jp:Inv (X.pinned (s.heap.objs.size,o)) [] σ H' s':=J.pinOn ⟨ho,B.free,nL,nF,fun v z=>by rw [hod] at z; cases z⟩
  have ap:∀ T,Apart (cxC X scope N' s.heap.objs.size fp s H) [] H' T→Apart (X.pinned (s.heap.objs.size,o)) [] H' T:=fun T a=>by
    have up:s.heap.objs.size≤T:=a.up
    refine ⟨a.un,Nat.le_trans I.sz up,Nat.ne_of_gt (Nat.lt_of_lt_of_le I.lt up),fun x c z h=>?_,fun p hp=>?_⟩
    · obtain ⟨_,oc,hoc,_⟩:=I.cell x c z
      have:=Nat.lt_of_lt_of_le (Heap.lt_size hoc) up
      exact Nat.ne_of_lt this h
    · rcases List.mem_cons.mp (show p∈(s.heap.objs.size,o)::(X.pn++[]) from hp) with rfl|hp
      · exact Ne.symm a.loc
      · exact Nat.ne_of_lt (Nat.lt_of_lt_of_le (Heap.lt_size (If.pin p hp).1) up)
  have tbl:TbL (X.pinned (s.heap.objs.size,o)) H' s'.heap e:=by
    obtain ⟨oe,vs,g,d,t|⟨T,oT,ts,a1,a2,a3,a4,a5,a6⟩⟩:=tb
    · exact .inl ⟨oe,vs,g,d,t⟩
    · exact .inr ⟨oe,vs,T,oT,ts,_,g,d,a1,a2,a3,a4,trivial,a5,ap T a6⟩
  unfold notedBy
  change wpAny (model X.prog X.w) (X.pinned (s.heap.objs.size,o)).A (noteFrame (.ref e) (X.pinned (s.heap.objs.size,o)).env) _ _ s'
  refine note_own Jp hE tbl hst hfl fun s2 J2 tb2=>?_
  have hC:=(J2.pin (s.heap.objs.size,o) List.mem_cons_self)
  refine ⟨m,⟨o,es,ep,hC.1,hod,r⟩,fun h' hs cenv hl=>?_⟩
  have J3:Inv X [] σ H' { s2 with heap:=h' }:=J2.pinOff.turned (t':=s2.toks) (it:=s.heap.objs.size) (fun b o hb e=>(hs.2 b hb).trans e) B.free nL (.inr I.sz) nC (fun p hp=>Nat.ne_of_lt (Heap.lt_size (If.pin p hp).1))
  obtain ⟨oe,vs,T,oT,ts,v,g1,d1,a1,a2,a3,a4,a5,a6,a7⟩:=tb2
  have a8:=a7.pinOff
  have neC:e≠s.heap.objs.size:=fun z=>by rw [z] at hE; rw [show H' s.heap.objs.size=none from B.free] at hE; cases hE
  have tb3:TbZ X H' h' e (fun _=>True):=⟨oe,vs,T,oT,ts,v,(hs.2 e neC).trans g1,d1,a1,(hs.2 T (Ne.symm a8.2)).trans a2,a3,a4,trivial,a6,a8.1⟩
  unfold PySem.passOn
  refine wpAny_bind (wpAny_field ((hs.2 e neC).trans g1) d1 a1 ?_)
  rw [if_neg (show ¬ ((Value.ref T == Value.none)=true) from by simp)]
  refine wpAny_bind (fly_ok (X:=X) cenv.frame J3 (by rw [hE]; exact fun z=>nomatch z) tb3 fun s4 J4 tb4=>?_)
  obtain ⟨oe,vs,T,oT,ts,v,b1,b2,b3,b4,b5,b6,b7,b8⟩:=tb4
  exact wpAny_throw ⟨e,σ,H',rfl,J4,⟨Ce,od,hE⟩,.inr ⟨oe,vs,T,oT,ts,v,b1,b2,b3,b4,b5,b6,trivial,b8⟩,q⟩
end
section
variable {X:Cx} {elt tg iter:Expr} {ifs:List Expr} {scope:Scope} {pos:Pos} {own:List Str} {js:List Nat} {wi:TI} {g:TG} {tc:TT} {te:TE} {E0:Addr→Hp→Prop}
theorem comp_coreE (hc:X.calm=true) (hst:X.stack=X.env::X.outer) (hfl:X.env.frame=some X.env.locals) (S:CScope own (capN X js) scope X.env.scope) (hj:∀ j∈js,∃ x,X.N[j]?=some x) (hi:PI (X.exc fun _=>E0) tg iter wi)
    (hg:∀ C fp s H,PG ((cxC X scope (own++capN X js) C fp s H).exn fun _=>E0) tg g) (ht:∀ C fp s H,PF ((cxC X scope (own++capN X js) C fp s H).exn fun _=>E0) ifs tc) (he:∀ C fp s H,PE ((cxC X scope (own++capN X js) C fp s H).exn fun _=>E0) elt te)
    {pins:List (Addr × Obj)} {σ:St} {H:Hp} {s:Shared} {Q:VK} (I:Inv X pins σ H s) (h:tComp own.length js wi g tc te σ H Q) :
    wpAny (model X.prog X.w) X.A (eval iter X.env) (fun x s1=>wpAny (model X.prog X.w) X.A (pyIter x) (fun it s2=>wpAny (model X.prog X.w) X.A (newList []) (fun acc s3=>
      wpAny (model X.prog X.w) X.A (newFunctionEnv scope X.env.globals (clOf X.env.cells scope.names []) [] X.env.qual none .none (some X.env)) (fun cenv s4=>
        codeAny (model X.prog X.w) X.A (.compStart (.ListComp elt [⟨tg,iter,ifs,0⟩] scope pos) 0 it acc { cenv with scope:=relabel scope X.env }) (compPost (model X.prog X.w) X.A (X.exc fun _=>E0).xe none (EP (X.exc fun _=>E0) pins σ Q) acc cenv.locals) s4) (X.exc fun _=>E0).xe s3) (X.exc fun _=>E0).xe s2) (X.exc fun _=>E0).xe s1) (X.exc fun _=>E0).xe s:=by
  refine thn (hi pins s σ H _ (I.wish _) h) fun v s1 h1=>thn h1 fun itv s2 h2=>?_
  obtain ⟨it,fp,tn,J,H2,e,I2,T,st2,f2,hq⟩:=h2
  subst e
  have I2:=I2.unwish
  refine wpAny_newList ?_ (by simp)
  have I3:=I2.lnew (t':=s2.toks) (ys:=[]) (its:=[]) .nil (by simp)
  have hDn:H2 s2.heap.objs.size=none:=I2.fresh
  generalize hD:s2.heap.objs.size=D at I3 hDn ⊢
  generalize hH3:upd H2 D (.lst [])=H3 at I3
  generalize hs3:({ s2 with heap:=s2.heap.push { cls:=.type "list", data:=.seq ([]:List Value).toArray },toks:=s2.toks }:Shared)=s3 at I3
  have k3:∀ b o,s2.heap.get? b=some o→s3.heap.get? b=some o:=fun b o e=>by rw [← hs3]; exact Heap.get?_push_of_some _ e
  have st3:tn 0 s3.heap:=T.keep _ _ _ st2 fun b _ o e=>k3 b o e
  have fo2:∀ b∈fp,∃ o,s2.heap.get? b=some o:=fun b hb=>(T.obj _ _ st2 b hb).imp fun _ z=>z.1
  have neD:∀ b∈fp,b≠D:=fun b hb=>by
    obtain ⟨o,e⟩:=fo2 b hb
    rw [← hD]
    exact Nat.ne_of_lt (Heap.lt_size e)
  have f3:∀ b∈fp,FpOk X pins H3 b:=fun b hb=>by
    obtain ⟨a0,a1⟩:=f2 b hb
    exact ⟨by rw [← hH3,upd_ne (neD b hb)]; exact a0,a1⟩
  have fo3:∀ b∈fp,∃ o,s3.heap.get? b=some o:=fun b hb=>(fo2 b hb).imp fun o e=>k3 b o e
  obtain ⟨W,⟨m0,w0⟩,turn⟩:=hq D hDn
  rw [hH3] at w0
  refine wpAny_newFunctionEnv S.nocell (by intro y hy; simp at hy) (fun h4 hns4 hsb4=>?_) S.kind
  have k4:∀ b o,s3.heap.get? b=some o→h4.get? b=some o:=fun b o e=>hsb4.extBut b o (Nat.ne_of_lt (Heap.lt_size e)) (Heap.get?_push_of_some _ e)
  have B4:=I3.block (t':=s3.toks+([]:List (Str × Value)).length) S hj f3 fo3 hns4 k4
  have st4:tn 0 h4:=T.keep _ _ _ st3 fun b _ o e=>k4 b o e
  have f4:∀ b∈fp,FpOk (cxC X scope (own++capN X js) s3.heap.objs.size fp s3 H3) pins H3 b:=fun b hb=>by
    obtain ⟨a0,a1,a2,a3,a4,a5⟩:=f3 b hb
    obtain ⟨o,e⟩:=fo3 b hb
    exact ⟨a0,(B4.ok.exf b hb).1,B4.ok.exfs b hb,.inl hb,(B4.ok.exf b hb).2,a5⟩
  have nL:s3.heap.objs.size≠X.env.locals:=Nat.ne_of_gt I3.lt
  have nF:s3.heap.objs.size ∉ X.fs:=I3.nofs (Nat.le_refl _)
  have nC:∀ x c,X.env.cells.lookup x=some c→c≠s3.heap.objs.size:=fun x c e=>by
    obtain ⟨_,o,ho,_⟩:=I3.cell x c e
    exact Nat.ne_of_lt (Heap.lt_size ho)
  have loop:∀ s5:Shared,s5={ s3 with heap:=h4,toks:=s3.toks+([]:List (Str × Value)).length } →
      codeAny (model X.prog X.w) X.A (.compLoop (.ListComp elt [⟨tg,iter,ifs,0⟩] scope pos) 0 (.ref it) (.ref D) (compEnvC scope (clOf X.env.cells scope.names []) s3.heap.objs.size X.env)) (compPost (model X.prog X.w) X.A (X.exc fun _=>E0).xe none (EP (X.exc fun _=>E0) pins σ Q) (.ref D) s3.heap.objs.size) s5:=by
    rintro s5 rfl
    have stat:∀ {H':Hp},(∀ b∈fp,H' b=none)→∀ b∈fp,FpOk (cxC X scope (own++capN X js) s3.heap.objs.size fp s3 H3) pins H' b:=fun hn b hb=>⟨hn b hb,(f4 b hb).2⟩
    have bad:∀ v s',XP (cxC X scope (own++capN X js) s3.heap.objs.size fp s3 H3) [] (fun _=>E0) v s'→notedBy (model X.prog X.w) X.A (compEnvC scope (clOf X.env.cells scope.names []) s3.heap.objs.size X.env) (fun e s'=>compPost (model X.prog X.w) X.A (X.exc fun _=>E0).xe none (EP (X.exc fun _=>E0) pins σ Q) (.ref D) s3.heap.objs.size (.error e) s') v s':=by
      rintro _ s' ⟨e,σb,H',rfl,B,⟨Ce,od,hE⟩,tb,q⟩
      exact comp_bad I3 hst hfl f3 B hE tb q
    refine compLoop_gen rfl (fun n s'=>∃ i acc H',Inv (cxC X scope (own++capN X js) s3.heap.objs.size fp s3 H3) pins (cSt own.length js σ) H' s'∧tn i s'.heap∧(∀ b∈fp,H' b=none)∧W i n acc H') ?_ m0
      ⟨0,[],H3,B4,st4,fun b hb=>(f3 b hb).1,w0⟩
    rintro n s6 ⟨i,acc,H6,B6,st6,fr6,w6⟩
    obtain ⟨hacc,way⟩:=turn i n acc H6 w6
    rcases way with ⟨stop,q⟩|⟨go,hz,Nx,hN,step⟩
    · refine thn (T.done (cxC X scope (own++capN X js) s3.heap.objs.size fp s3 H3) rfl rfl rfl hc i pins s6 _ H6 _ B6 (stat fr6) st6 stop) fun r s7 ⟨hr,B7⟩=>?_
      subst hr
      obtain ⟨m,hm,_⟩:=B7.loc
      exact ⟨m,hm,fun h' hs=>⟨.ref D,H6,(I3.unblock f3 B7 hs).wish _,rfl,q⟩⟩
    · refine thn (T.item (cxC X scope (own++capN X js) s3.heap.objs.size fp s3 H3) rfl rfl rfl hc i pins s6 _ H6 _ B6 (stat fr6) st6 go) fun r s7 ⟨u,hr,h7⟩=>?_
      subst hr
      refine thn h7 fun _ s8 ⟨x,H8,B8,r8,y8,st8,fr8⟩=>?_
      have B8':=B8.pinned (stat fr8) (T.obj _ _ st8)
      have away:∀ {s9:Shared} {σ9:St} {H9:Hp} {acc':List V},Inv (cxC X scope (own++capN X js) s3.heap.objs.size fp s3 H3) (pins++pinsAt fp s8.heap) σ9 H9 s9→σ9.drop own.length=(cSt own.length js σ).drop own.length→Nx acc' H9 →
          ∃ m',m'<n∧∃ i acc H',Inv (cxC X scope (own++capN X js) s3.heap.objs.size fp s3 H3) pins (cSt own.length js σ) H' s9∧tn i s9.heap∧(∀ b∈fp,H' b=none)∧W i m' acc H':=fun {s9 σ9 H9 acc'} B9 hd nx=>by
        obtain ⟨m',hm,w9⟩:=hN acc' H9 nx
        refine ⟨m',hm,i+1,acc',H9,B9.unpinned.weak ?_ ?_,T.keep _ _ _ st8 fun b hb o e=>(B9.pin (b,o) (List.mem_append_right _ (List.mem_append_right _ (mem_pinsAt hb e)))).1,fun b hb=>?_,w9⟩
        · rw [B9.len,B6.len]
        · intro k v hv
          unfold cSt at hv
          have hk:own.length≤k:=by
            rcases Nat.lt_or_ge k own.length with z|z
            · exfalso
              rw [List.getElem?_append_left (by simpa using z),List.getElem?_replicate] at hv
              split at hv <;> cases hv
            · exact z
          have e1:σ9[k]?=(σ9.drop own.length)[k - own.length]?:=by rw [List.getElem?_drop]; congr 1; omega
          rw [e1,hd,List.getElem?_drop]
          have e2:own.length+(k - own.length)=k:=by omega
          rw [e2]
          exact hv
        · obtain ⟨o,e,d⟩:=T.obj _ _ st8 b hb
          exact (B9.pin (b,o) (List.mem_append_right _ (List.mem_append_right _ (mem_pinsAt hb e)))).2.1
      refine wpAny_mono (hg _ _ _ _ _ s8 _ H8 x u _ (B8'.wish _) r8 (step x H8 y8)) (fun _ s9 ⟨σ9,H9,B9,hd9,q9⟩=>?_) fun v s' f=>bad v s' f
      refine wpAny_mono (ht _ _ _ _ _ s9 σ9 H9 _ B9 q9) (fun b s10 ⟨H10,B10,q10⟩=>?_) fun v s' f=>bad v s' f
      cases b with
      | false=>
        rw [if_neg Bool.false_ne_true] at q10 ⊢
        exact away B10.unwish hd9 q10.2
      | true=>
        rw [if_pos rfl] at q10 ⊢
        refine wpAny_mono (he _ _ _ _ _ s10 σ9 H10 _ B10 q10) (fun y s11 ⟨z,H11,B11,r11,q11⟩=>?_) fun v s' f=>bad v s' f
        obtain ⟨hl11,nx⟩:=q11
        have B11:=B11.unwish
        refine wpAny_mono (mt_append (X:=cxC X scope (own++capN X js) s3.heap.objs.size fp s3 H3) _ s11 σ9 H11 (.ref D) [z] (.ref D) [y] (fun _ H12=>Nx (acc++[z]) H12) B11 rfl (.cons r11 .nil) ⟨D,acc,z,rfl,rfl,hl11,hz,nx⟩) (fun _ s12 ⟨_,H12,B12,_,q12⟩=>?_) fun _ _ f=>f.elim
        exact away B12 hd9 q12
  exact codeAny_compStart_list (loop _ rfl) (T.self X.A 0 _ _ _ st4 (loop _ rfl))
theorem pe_compE (own caps:List Str) (js:List Nat) (hc:X.calm=true) {osc:Scope} (S:CScope own caps scope osc) (hi:PI (X.exc fun _=>E0) tg iter wi)
    (hg:∀ C fp s H,PG ((cxC X scope (own++caps) C fp s H).exn fun _=>E0) tg g) (ht:∀ C fp s H,PF ((cxC X scope (own++caps) C fp s H).exn fun _=>E0) ifs tc) (he:∀ C fp s H,PE ((cxC X scope (own++caps) C fp s H).exn fun _=>E0) elt te)
    (hst:X.stack=X.env::X.outer:=by rfl) (hfl:X.env.frame=some X.env.locals:=by rfl) (ho:X.env.scope=osc:=by rfl) (hcp:capN X js=caps:=by rfl) (hj:(js.all fun j=>decide (j<X.N.length))=true:=by rfl)
    (hs:∀ x,foldedSetIterable iter X.env x=pure x:=by intro _; rfl):PE (X.exc fun _=>E0) (.ListComp elt [⟨tg,iter,ifs,0⟩] scope pos) (tComp own.length js wi g tc te):=by
  subst ho
  subst hcp
  intro pins s σ H Q I h
  have I:=I.unwish
  have hfr:∀ y∈scope.names,y.2=.free→∃ c,X.env.cells.lookup y.1=some c:=fun y hy e=>I.ok.has y.1 (S.fr y hy e)
  change wpAny (model X.prog X.w) X.A (eval _ X.env) _ _ s
  rw [eval_ListComp]
  refine wpAny_comprehension_free (use:=none) rfl hs (closureFor_eq hfr) S.kind S.loc ?_
  exact comp_coreE hc hst hfl S (js_ok hj) hi hg ht he I h
end
end L2
namespace L2
open PySem PySem.Spec PyProof.Rows
section
variable {X:Cx} {e:Expr} {tf:TE} {t:TA} {p pos:Pos}
def FnVX (P:Program) (w:World) (K:PySem.W.Frag) (mg:Str→Option Value) (base:Heap) (j:Nat) (ps:List Str) (f:Addr) (sp:Sp):Prop:=∃ fd,PySem.W.keepIn K (.ref f)=true∧Binds K fd ps []∧FnOk P w K mg base (CXx P w) j f fd ps sp
def tFnVX (P:Program) (w:World) (K:PySem.W.Frag) (mg:Str→Option Value) (base:Heap) (j:Nat) (ps:List Str) (tf:TE) (t:TA):TEx:=fun σ H Q E=>tf σ H fun v H1=>∃ f sp,v=.ref f∧FnVX P w K mg base j ps f sp∧t σ H1 fun vs H2=>sp vs H2 Q (xk E)
theorem pex_fnV {P:Program} {w:World} {K:PySem.W.Frag} {mg:Str→Option Value} {base:Heap} {x:Str} {es:List Expr} {j k:Nat} {ps:List Str} (hf:PE X.nox (.Name x p) tf) (hr:Room k X.A) (ha:PA X.nox (e::es) t) (hk:j≤k:=by decide)
    (h1:X.prog=P:=by rfl) (h2:X.w=w:=by rfl) (h3:X.K=K:=by rfl) (h4:X.mg=mg:=by rfl) (h5:X.base=base:=by rfl)
    (he:starEach (e::es) X.env=(false,eval e X.env)::starEach es X.env:=by rfl) (hpl:(backTo pos (starEach es X.env)).any (·.1)=false:=by rfl) :
    PEx X (.Call (.Name x p) (e::es) [] pos) (tFnVX P w K mg base j ps tf t):=by
  subst h1 h2 h3 h4 h5
  intro pins s σ H Q E I h
  refine wpAny_Call_Name_kw (wpAny_mono (hf pins s σ H _ (I.wish _) h) (fun u s1 ⟨v,H1,I1,rv,f,sp,ev,⟨fd,kp,hb,F⟩,q⟩=>?_) fun _ _ z=>False.elim z)
  subst ev
  obtain rfl:u=Value.ref f:=rv
  have I1:=I1.unwish
  refine PySem.W.callWith_K (h₀:=X.base) I.ok.mod.kin kp (wpAny_mono (ha pos pins s1 σ H1 _ (I1.wish _) q) (fun us s2 ⟨vs,H2,I2,r,q2⟩=>⟨I2.unwish.kIn,?_⟩) fun _ _ z=>False.elim z) he hpl
  exact run_fnx F (hr.mono hk) hb I2.unwish r q2
theorem OwnX.fnVX {P:Program} {w:World} {K:PySem.W.Frag} {mg:Str→Option Value} {base:Heap} {j:Nat} {x:Str} {ps:List Str} {sp:Sp} (h:OwnX P w K mg base j x ps sp):∃ f,mg x=some (.ref f)∧FnVX P w K mg base j ps f sp:=let ⟨f,fd,h1,h2,h3,h4⟩:=h; ⟨f,h1,fd,h2,h3,h4⟩
end
end L2
namespace K82
open PySem L2
abbrev s_NoRow___init__:Stmt:=inClass (stm 7) 0
theorem sc_NoRow___init__:FnScope ["self","at"] ["self","at"] (defScope s_NoRow___init__):=⟨rfl,rfl,rfl,by decide +kernel,rfl,by decide +kernel,by decide +kernel⟩
section
variable {P:Program} {w:World} {K:PySem.W.Frag} {mg:Str→Option Value} {base:Heap} {C R cO:Addr}
def dgB (c:Nat):Bool:=decide (48≤c) && decide (c≤57)
theorem dg_eq {c:Nat}:decide (c∈K82.w "0123456789")=dgB c:=by
  have h1:∀ c∈K82.w "0123456789", dgB c=true:=by decide
  have hw:∀ d:Fin 10,(48+d.val)∈K82.w "0123456789":=by decide
  by_cases h:c∈K82.w "0123456789"
  · rw [decide_eq_true h,h1 c h]
  · rw [decide_eq_false h]
    cases e:dgB c with
    | false=>rfl
    | true=>
      unfold dgB at e
      simp only [Bool.and_eq_true,decide_eq_true_eq] at e
      have:=hw ⟨c - 48,by omega⟩
      have e2:48+(c - 48)=c:=by omega
      simp only [e2] at this
      exact absurd this h
def nuB (l:List Nat):Bool:=decide (1≤l.length) && decide (l.length≤5) && l.all dgB && (decide (l=[48]) || decide (l.head?≠some 48))
theorem nT_1 {d:Nat} (h:d<10):nT d=[48+d]:=by
  have:∀ m:Fin 10,nT m.val=[48+m.val]:=by decide +kernel
  exact this ⟨d,h⟩
theorem num_of (n:Nat):∀ l:List Nat,l.length=n→l≠[]→(∀ c∈l,dgB c=true)→(l=[48]∨l.head?≠some 48)→∃ k,k<10 ^ n∧l=nT k∧(l=[48]∨0<k):=by
  induction n with
  | zero=>
    intro l h1 h2
    exact absurd (List.length_eq_zero_iff.mp h1) h2
  | succ n ih=>
    intro l h1 h2 h3 h4
    have hsp:l=l.dropLast++[l.getLast h2]:=(List.dropLast_concat_getLast h2).symm
    have hc:=h3 _ (List.getLast_mem h2)
    generalize l.getLast h2=c at hsp hc
    generalize l.dropLast=r at hsp
    subst hsp
    unfold dgB at hc
    simp only [Bool.and_eq_true,decide_eq_true_eq] at hc
    rw [List.length_append,List.length_singleton] at h1
    have hrl:r.length=n:=by omega
    by_cases hr:r=[]
    · subst hr
      have hn:n=0:=by simpa using hrl.symm
      subst hn
      refine ⟨c - 48,by omega,?_,?_⟩
      · rw [nT_1 (by omega),List.nil_append,show 48+(c - 48)=c by omega]
      · by_cases hz:c=48
        · exact .inl (by rw [hz]; rfl)
        · exact .inr (by omega)
    · have hh:r.head?≠some 48:=by
        rcases h4 with h4|h4
        · exfalso
          have:=congrArg List.length h4
          rw [List.length_append,List.length_singleton,List.length_singleton] at this
          exact hr (List.length_eq_zero_iff.mp (by omega))
        · cases r with
          | nil=>exact absurd rfl hr
          | cons a r=>exact h4
      obtain ⟨k,hk,e,h0⟩:=ih r hrl hr (fun x hx=>h3 x (List.mem_append_left _ hx)) (.inr hh)
      have h0':0<k:=by
        rcases h0 with h0|h0
        · rw [h0] at hh
          exact absurd rfl hh
        · exact h0
      refine ⟨10 * k+(c - 48),by rw [Nat.pow_succ]; omega,?_,.inr (by omega)⟩
      rw [nT_app h0' (by omega),nT_1 (d:=c - 48) (by omega),e,show 48+(c - 48)=c by omega]
theorem nu_num {l:List Nat} (h:nuB l=true):∃ k,k<100000∧l=nT k:=by
  unfold nuB at h
  simp only [Bool.and_eq_true,Bool.or_eq_true,decide_eq_true_eq,List.all_eq_true] at h
  obtain ⟨⟨⟨h1,h2⟩,h3⟩,h4⟩:=h
  obtain ⟨k,hk,e,_⟩:=num_of l.length l rfl (fun z=>by rw [z] at h1; cases h1) h3 h4
  exact ⟨k,Nat.lt_of_lt_of_le hk (Nat.le_trans (Nat.pow_le_pow_right (by decide) h2) (by decide)),e⟩
def sp_isnumT:Sp:=fun vs H Q _=>∃ l:List Nat,vs=[.str (Sg l)]∧l.length≤10000∧∀ H',Same H H'→Q (.bl (nuB l)) H'
set_option maxHeartbeats 4000000 in
theorem own_isnumT (D:Def K mg "is_number" s_is_number) (hb:Blt mg) (g_MOST_FIGURES:∃ u,mg "MOST_FIGURES"=some u∧RelV (.int 5) u) (g_FIGURES:∃ u,mg "FIGURES"=some u∧RelV (.str (Str.ofString "0123456789")) u):Own P w K mg base 1 "is_number" ["word"] sp_isnumT:=by
  refine D.own sc_is_number (fun _ _ _ _ _ _ us hl=>match us,hl with|[_],_=>rfl) (fun vs H Q E h=>?_) (fun f cdv A outer s H vs Q E hr h=>?_)
  · obtain ⟨l,rfl,_⟩:=h
    rfl
  · obtain ⟨l,rfl,hl,q⟩:=h
    have hu:=hr.units
    have hu1:(A.deeper (PyProof.Rows.envOfC "is_number" (defScope s_is_number) s.heap.objs.size f cdv)).units+1<cLine:=by omega
    refine ⟨_,(pss_cons (ps_if (@PW.pt _ _ _ (pw_or (pt_not (pt_chain op_le op_le pe_int (pe_callB call_lenX rfl (hb _ (by decide)) bt_len (pa_cX (pv 0) pa_nil)) (pe_glb g_MOST_FIGURES))) (pw_or1 (pt_not (pt_truX (pe_callB (call_allX rfl) rfl (hb _ (by decide)) bt_all (pa_cX (pe_comp ["sign"] [] [] rfl cs_is_number_0 (pi_str (pv 0)) (fun _ _ _ _=>(pg_name (i:=0) cs_is_number_0.nd rfl (by first|exact Or.inl rfl|exact Or.inr rfl))) (fun _ _ _ _=>pf_nil) (fun _ _ _ _=>(pe_cmpR op_inS (pv 0) (pe_glb g_FIGURES) rfl))) pa_nil))))))) (pss_one (ps_ret pe_bl)) pss_nil) (pss_one (ps_ret (pe_or (pe_cmpR op_eq (pv 0) pe_str (nomark _)) (pe_one (pe_cmpR op_ne (pe_ix ix_str (pv 0) pe_int (fun _ _=>rfl)) pe_str (nomark _))))))),?_⟩
    have hz:(Sg l).length≤sizeLine:=by rw [Sg_len,sizeLine_eq]; omega
    have ef:Str.ofString "0123456789"=Sg (K82.w "0123456789"):=S_of _
    have e0:Str.ofString "0"=Sg [48]:=S_of _
    simp (maxSteps:=1000000) only [tComp_eq,rEq_ss,rAllX,iStr,rLenX,lenX_s',tTruX,truX_b,Nat.reduceSub,Nat.reduceAdd,Bool.not_false,cZ0,tSeq,eZ1,if_true,tIfS,tOr,tNot,tTest,tOp,tVar,tC,rI0,tRet,tNext,tOrV,tCons,tNil,tCB,tChain,L2.start,mZ1,mZ0,lZ1,lZ0,List.replicate,gZ0,oZ0,eZ0,V.int.injEq,V.bl.injEq,V.str.injEq,and_true,aZ0,hz,ef,e0]
    have e1:decide (1≤(((Sg l).length:Nat):Int))=decide (1≤l.length):=by rw [Sg_len]; exact decide_eq_decide.mpr (by omega)
    have e2:decide ((((Sg l).length:Nat):Int)≤5)=decide (l.length≤5):=by rw [Sg_len]; exact decide_eq_decide.mpr (by omega)
    rw [e1,e2]
    have q':=q
    unfold nuB at q'
    by_cases h1:1≤l.length
    · rw [decide_eq_true h1] at q' ⊢
      by_cases h2:l.length≤5
      · rw [decide_eq_true h2] at q' ⊢
        refine iteT (iteF (comp_itvP (by rw [signs_len,Sg_len]; omega) (fun x=>.bl (match x with | .str y=>dgB (y.cps.getD 0 0)|_=>false)) ?_ ?_ (gName_mono 0)))
        · intro H1 x Q' hx s1 hq
          obtain ⟨d,hd,rfl⟩:=List.mem_map.mp hx
          simp (maxSteps:=1000000) only [cSt,List.drop_succ_cons,List.drop_zero,tOp,tVar,tC,gName,mZ0,List.replicate,gZ0,sZ0,oZ0,eZ0,V.str.injEq,true_and,aZ0,mZ0,rInS]
          refine ⟨_,_,rfl,rfl,?_⟩
          rw [dg_eq]
          exact hq
        · intro D hD
          refine ⟨D,rfl,l.map dgB,?_,?_⟩
          · rw [upd_same]
            simp [signs,Sg]
          · have e3:(l.map dgB).all id=l.all dgB:=by simp [List.all_map]
            rw [e3]
            have qf:=fun (H':Hp) (s':Same H H')=>q' H' s'
            cases e4:l.all dgB with
            | false=>
              rw [e4] at qf
              exact iteT (by simpa using qf _ (.upd_new hD))
            | true=>
              rw [e4] at qf
              refine iteF ?_
              simp (maxSteps:=1000000) only [rNe_ss,eZ1,eZ0,V.int.injEq,V.str.injEq,S_eq,rIxS]
              have q2:=qf _ (Same.upd_new (o:=HO.lst ((signs (Sg l)).map (fun x=>V.bl (match x with | .str y=>dgB (y.cps.getD 0 0)|_=>false)))) hD)
              cases l with
              | nil=>exact absurd h1 (by decide)
              | cons c r=>
                refine ite2 (fun h=>?_) fun h=>⟨hz,c,by rw [Sg_cps]; exact atI_0,?_⟩
                · rw [h] at q2
                  simpa using q2
                · have h':=Bool.eq_false_iff.mpr h
                  rw [h'] at q2
                  have e5:(!decide (({ cps:=#[c] }:Str)=Sg [48]))=decide ((c::r).head?≠some 48):=by
                    by_cases hc:c=48
                    · subst hc
                      rw [decide_eq_true (show ({ cps:=#[48] }:Str)=Sg [48] from rfl)]
                      simp
                    · rw [decide_eq_false fun h=>hc (by have:=S_inj (a:=[c]) h; simpa using this)]
                      simp [hc]
                  rw [e5]
                  simpa using q2
      · rw [decide_eq_false h2] at q' ⊢
        exact iteT (iteT (by simpa using q' H fun _ _ e=>e))
    · rw [decide_eq_false h1] at q' ⊢
      exact iteF (by simpa using q' H fun _ _ e=>e)
def NoR (cO:Addr) (t:Int) (e:Addr) (H:Hp):Prop:=∃ dx,H e=some (XO e cO (some dx))∧H dx=some (.xd [("at", .int t)])
def sp_xrow (C:Addr):Sp:=fun vs H Q _=>∃ (e:Addr) (t:Int),vs=[.ref e,.int t]∧t.natAbs.log2<1920∧H e=some (XN e C none)∧∀ dx,H dx=none→dx≠e→Q .non (upd (upd H dx (.xd [("at", .int t)])) e (XN e C (some dx)))
theorem own_xrow {C R:Addr} (D:DefE K C "NoRow.__init__" s_NoRow___init__) (B_RoadError:XB K R) (hc_RoadError:mg "RoadError"=some (.ref R)) (T:XSt K C "at"):OwnE P w K mg base 1 C ["self","at"] (sp_xrow C):=by
  refine D.own sc_NoRow___init__ (fun _ _ _ _ _ _ us hl=>match us,hl with|[_,_],_=>rfl) (fun vs H Q E h=>?_) (fun f cdv A outer s H vs Q E hr h=>?_)
  · obtain ⟨e,t,rfl,_⟩:=h
    rfl
  · obtain ⟨e,t,rfl,ht,he,q⟩:=h
    refine ⟨_,(pss_cons (ps_expr (pe_xinit B_RoadError hc_RoadError (pa_cX (pv 0) (pa_cX (pe_fstr (pj_str 21 (by kernel_rfl) (pj_int (pv 1) pj_nil))) pa_nil)))) (pss_one (ps_xfld (pv 0) (pv 1) rfl))),?_⟩
    simp (maxSteps:=1000000) only [Nat.reduceSub,Nat.reduceAdd,ne_eq,cxOf_K,cZ0,tSeq,eZ1,tVar,tCons,tNil,tDrop,L2.start,mZ1,mZ0,lZ1,lZ0,List.replicate,gZ0,gZ1,oZ0,eZ0,V.int.injEq,V.ref.injEq,and_true,and_assoc,aZ0,tXi,sXf,tFs,tJi,tJn]
    exact ⟨ht,fun x=>⟨C,none,he,T.kin,C,he,T,q⟩⟩
theorem row_fall {E:XK} {H H3:Hp} {c:Addr} {t:Int} (ht:t.natAbs.log2<1920) (s:Same H H3) (qe:∀ e H',Same H H'→NoR c t e H'→E (.ref e) none H') :
    1≤100∧∀ e,H3 e=none→t.natAbs.log2<1920∧∀ dx,upd H3 e (XN e c none) dx=none→¬ dx=e→∃ od,XN e c (some dx)=XN e c od∧E (.ref e) none (upd (upd (upd H3 e (XN e c none)) dx (.xd [(Str.ofString "at", .int t)])) e (XO e c od)):=by
  refine ⟨by decide,fun e he=>⟨ht,fun dx hdx hn=>⟨_,rfl,?_⟩⟩⟩
  obtain ⟨h1,h2⟩:=upd_none hdx
  refine qe e _ (s.trans (((Same.upd_new he).upd h2).upd he)) ⟨dx,upd_same,?_⟩
  rw [upd_ne hn,upd_same]
inductive Kd
  | n
  | p
  | d
  | m
  | s
def dlB (l:List Nat):Bool:=decide (l=K82.w "-") || (spl 44 (l.length+1) l).all nuB
def dsB (l:List Nat):Bool:=decide (l=K82.w "none") || (spl 47 (l.length+1) l).all dlB
def okK:Kd→List Nat→Bool
  | .n,l=>nuB l
  | .p,l=>decide (l=K82.w "none") || nuB l
  | .d,l=>dsB l
  | .m,l=>decide (1≤l.length) && decide (l.length≤8) && l.all (inC 97 122)
  | .s,l=>decide (1≤l.length) && l.all (inC 32 126)
def RvK:Kd→List Nat→V→Prop
  | .n,l,v=>∃ j,l=nT j∧v=niV j
  | _,_,_=>True
def atOk (t:Int):Prop:=0≤t∧t≤1000
theorem atOk.log {t:Int} (h:atOk t):t.natAbs.log2<1920:=by
  have h1:=h.1
  have h2:=h.2
  by_cases h0:t.natAbs=0
  · rw [h0]; decide
  · exact (Nat.log2_lt h0).mpr (Nat.lt_of_lt_of_le (show t.natAbs<2 ^ 10 by omega) (Nat.pow_le_pow_right (by decide) (by decide)))
def sp_rdT (cO:Addr) (k:Kd):Sp:=fun vs H Q E=>∃ (l:List Nat) (t:Int),vs=[.str (Sg l),.int t]∧l.length≤1000∧atOk t∧(okK k l=true→∀ v H',Same H H'→RvK k l v→Q v H')∧(okK k l=false→∀ e H',Same H H'→NoR cO t e H'→E (.ref e) none H')
theorem own_rnumT (D:Def K mg "read_number" s_read_number) (hb:Blt mg) (hc_NoRow:mg "NoRow"=some (.ref cO)) (E_NoRow:OwnE P w K mg base 1 cO ["self","at"] (sp_xrow cO)) (F_is_number:Own P w K mg base 1 "is_number" ["word"] sp_isnumT):OwnX P w K mg base 3 "read_number" ["word","at"] (sp_rdT cO .n):=by
  refine D.ownE sc_read_number (fun _ _ _ _ _ _ us hl=>match us,hl with|[_,_],_=>rfl) (fun vs H Q E h=>?_) (fun f cdv A outer s H vs Q E hr h=>?_)
  · obtain ⟨l,t,rfl,_⟩:=h
    rfl
  · obtain ⟨l,t,rfl,hl,ht,q,qe⟩:=h
    refine ⟨_,(pss_cons (ps_if (pt_not (pt_truX (pe_fn F_is_number hr (pa_cX (pv 0) pa_nil)))) (pss_one (ps_exc (psx_raise (pn_newI E_NoRow hr hc_NoRow (pa_cX (pv 1) pa_nil))))) pss_nil) (pss_one (ps_ret (pe_callTy call_intS rfl (hb _ (by decide)) bt_int (pa_cX (pv 0) pa_nil))))),?_⟩
    simp (maxSteps:=1000000) only [tTruX,Nat.reduceSub,upd_same,upd_upd,Nat.reduceAdd,ne_eq,cZ0,tSeq,eZ1,tIfS,tNot,tVar,tRet,tNext,tCall,tCons,tNil,tCB,L2.start,mZ1,mZ0,lZ1,lZ0,List.replicate,gZ0,gZ1,oZ0,eZ0,V.int.injEq,V.ref.injEq,V.str.injEq,and_true,true_and,and_assoc,aZ0,tRaise,tNewI,tSE,rIntS,sp_xrow]
    refine ⟨l,rfl,by omega,fun H' s'=>?_⟩
    change okK .n l=true→_ at q
    cases e:okK .n l with
    | true=>
      obtain ⟨k,hk,rfl⟩:=nu_num e
      have e':nuB (nT k)=true:=e
      rw [e']
      simp (maxSteps:=1000000) only [truX_b,Bool.not_true,if_false,Bool.false_eq_true,oZ0,eZ0]
      exact ⟨(k:Int),(S_num k).symm,by omega,by omega,q e _ _ s' ⟨k,rfl,rfl⟩⟩
    | false=>
      have e':nuB l=false:=e
      rw [e']
      simp (maxSteps:=1000000) only [truX_b,Bool.not_false,if_true,oZ0,eZ0]
      exact row_fall ht.log s' (qe e)
end
end K82
namespace K82
open PySem L2
section
variable {P:Program} {w:World} {K:PySem.W.Frag} {mg:Str→Option Value} {base:Heap} {C R cO:Addr}
theorem own_rpriceT (D:Def K mg "read_price" s_read_price) (g_NONE:∃ u,mg "NONE"=some u∧RelV (.str (Str.ofString "none")) u) (FX_read_number:OwnX P w K mg base 3 "read_number" ["word","at"] (sp_rdT cO .n)):OwnX P w K mg base 4 "read_price" ["word","at"] (sp_rdT cO .p):=by
  refine D.ownE sc_read_price (fun _ _ _ _ _ _ us hl=>match us,hl with|[_,_],_=>rfl) (fun vs H Q E h=>?_) (fun f cdv A outer s H vs Q E hr h=>?_)
  · obtain ⟨l,t,rfl,_⟩:=h
    rfl
  · obtain ⟨l,t,rfl,hl,ht,q,qe⟩:=h
    have en:Str.ofString "none"=Sg (K82.w "none"):=S_of _
    refine ⟨_,(pss_one (ps_ret (pe_ifExp (pt_cmpR op_eq (pv 0) (pe_glb g_NONE) (nomark _)) pe_non (pe_exc (pex_fn FX_read_number hr (pa_cX (pv 0) (pa_cX (pv 1) pa_nil))))))),?_⟩
    simp (maxSteps:=1000000) only [rEq_ss,Nat.reduceSub,Nat.reduceAdd,tTest,tOp,tVar,tC,tRet,tIf,tCons,tNil,L2.start,mZ1,mZ0,lZ1,lZ0,List.replicate,gZ0,gZ1,oZ0,eZ0,V.bl.injEq,aZ0,tCallx,tXE,en,S_eq]
    refine ite2 (fun h=>?_) fun h=>?_
    · exact q (by change (_ || _)=true; rw [h]; rfl) _ _ (.refl _) trivial
    · have h':=Bool.eq_false_iff.mpr h
      exact ⟨l,t,rfl,hl,ht,fun z v H' s' _=>q (by change (_ || _)=true; rw [show nuB l=true from z,Bool.or_true]) v H' s' trivial,fun z e H' s' n=>qe (by change (_ || _)=false; rw [h',show nuB l=false from z]; rfl) e H' s' n⟩
def sp_rdlT (cO:Addr):Sp:=fun vs H Q E=>∃ (l:List Nat) (t:Int),vs=[.str (Sg l),.int t]∧l.length≤1000∧atOk t∧(dlB l=true→∀ v H',Same H H'→Q v H')∧(dlB l=false→∀ e H',Same H H'→NoR cO t e H'→E (.ref e) none H')
theorem spl_short {c:Nat}:∀ (n:Nat) (l:List Nat),∀ x∈spl c n l,x.length≤l.length
  | 0,l,x,h=>by
    unfold spl at h
    rw [List.mem_singleton] at h
    rw [h]
    exact Nat.le_refl _
  | n+1,l,x,h=>by
    unfold spl at h
    split at h
    · rcases List.mem_cons.mp h with rfl|h
      · exact (List.takeWhile_sublist _).length_le
      · have:=spl_short n _ x h
        rw [List.length_drop] at this
        omega
    · rw [List.mem_singleton] at h
      rw [h]
      exact Nat.le_refl _
theorem wV_get {ws:List (List Nat)} {i:Nat} {x:V} (h:(wV ws)[i]?=some x):∃ y,ws[i]?=some y∧x=.str (Sg y):=by
  unfold wV at h
  rw [List.getElem?_map] at h
  obtain ⟨y,hy,rfl⟩:=Option.map_eq_some_iff.mp h
  exact ⟨y,hy,rfl⟩
theorem paired_fst {α β:Type} {P:α→Prop}:∀ {l:List α} {m:List β},Paired (fun a _=>P a) l m→∀ a∈l,P a
  | _,_,.cons h t,a,ha=>by
    rcases List.mem_cons.mp ha with rfl|ha
    · exact h
    · exact paired_fst t a ha
set_option maxHeartbeats 4000000 in
theorem own_rdeedT (D:Def K mg "read_deed" s_read_deed) (hb:Blt mg) (g_NO_DELAYS:∃ u,mg "NO_DELAYS"=some u∧RelV (.str (Str.ofString "-")) u) (FX_read_number:OwnX P w K mg base 3 "read_number" ["word","at"] (sp_rdT cO .n)):OwnX P w K mg base 4 "read_deed" ["word","at"] (sp_rdlT cO):=by
  refine D.ownE sc_read_deed (fun _ _ _ _ _ _ us hl=>match us,hl with|[_,_],_=>rfl) (fun vs H Q E h=>?_) (fun f cdv A outer s H vs Q E hr h=>?_)
  · obtain ⟨l,t,rfl,_⟩:=h
    rfl
  · obtain ⟨l,t,rfl,hl,ht,q,qe⟩:=h
    have hu:=hr.units
    have hu1:(A.deeper (PyProof.Rows.envOfC "read_deed" (defScope s_read_deed) s.heap.objs.size f cdv)).units+1<cLine:=by omega
    have en:Str.ofString "-"=Sg (K82.w "-"):=S_of _
    have e44:Str.ofString ","=Sg [44]:=S_of _
    refine ⟨_,(pss_one (ps_ret (pe_ifExp (pt_cmpR op_eq (pv 0) (pe_glb g_NO_DELAYS) (nomark _)) (pe_tup pa_nil) (pe_callTy call_tupX rfl (hb _ (by decide)) bt_tuple (pa_cX (pe_compE ["part"] ["at"] [1] rfl cs_read_deed_0 (pi_listK K (pe_splS (pv 0) pe_str (by constructor <;> rfl))) (fun _ _ _ _=>(pg_name (i:=0) cs_read_deed_0.nd rfl (by first|exact Or.inl rfl|exact Or.inr rfl))) (fun _ _ _ _=>pf_nil) (fun _ _ _ _=>(pe_exn (pex_fn FX_read_number hr (pa_cX (pv 0) (pa_cX (pv 1) pa_nil)))))) pa_nil))))),?_⟩
    simp (maxSteps:=1000000) only [tComp_eq,rEq_ss,rTupX,Nat.reduceSub,Nat.reduceLT,Nat.reduceAdd,iList,cZ0,eZ1,tTest,tOp,tVar,tC,tRet,tIf,tCons,tNil,tCB,tTup,L2.start,mZ1,mZ0,lZ1,lZ0,List.replicate,gZ0,oZ0,eZ0,V.bl.injEq,V.ref.injEq,V.str.injEq,and_true,true_and,aZ0,en,S_eq,tSplS,e44]
    refine ite2 (fun h=>?_) fun h=>?_
    · exact ⟨by rw [sizeLine_eq]; decide,fun p hp=>q (by unfold dlB; rw [h]; rfl) _ _ (.upd_new hp)⟩
    · have h':=Bool.eq_false_iff.mpr h
      refine ⟨by omega,?_⟩
      intro p1 n1
      generalize z1:upd H p1 _=H1
      obtain ⟨s1,e1⟩:=new_same z1 n1
      have hsl:=spl_len (c:=44) (l.length+1) l
      refine ⟨⟨_,SqL.of e1⟩,grow_list (SqL.of e1) (by rw [sizeLine_eq]; simp only [wV,List.length_map]; omega) (spl 44 (l.length+1) l) (by simp [wV]) (fun _ x _=>nuB x=true) (fun _ _ _ _ _ h=>h) ?_ ?_⟩
      · rintro D i x k acc H2 hD hx hk s2 eD Nx Y kk
        obtain ⟨y,hy,rfl⟩:=wV_get hx
        rw [hk] at hy
        cases hy
        have hmem:=List.mem_of_getElem? hk
        simp (maxSteps:=1000000) only [tYes,cSt,List.drop_succ_cons,List.drop_zero,if_true,tVar,gName,tCons,tNil,mZ1,mZ0,List.replicate,List.cons_append,List.nil_append,gZ0,gZ1,sZ0,oZ0,eZ0,true_and,Option.join_some,tCallx,tXE]
        refine ⟨k,t,rfl,Nat.le_trans (spl_short _ _ _ hmem) hl,ht,fun z v H3 s3 r=>kk v H3 s3 fun _=>z,fun z e H3 s3 n=>qe ?_ e H3 (s1.trans (s2.trans s3)) n⟩
        unfold dlB
        rw [h',Bool.false_or,List.all_eq_false]
        exact ⟨k,hmem,by rw [show nuB k=false from z]; decide⟩
      · rintro D vs H2 hD s2 eD p
        refine ⟨D,rfl,vs,eD,fun t' ht'=>q ?_ _ _ ((s1.trans s2).trans (.upd_new ht'))⟩
        unfold dlB
        rw [h',Bool.false_or,List.all_eq_true]
        exact paired_fst p
set_option maxHeartbeats 4000000 in
theorem own_rdeedsT (D:Def K mg "read_deeds" s_read_deeds) (hb:Blt mg) (g_NONE:∃ u,mg "NONE"=some u∧RelV (.str (Str.ofString "none")) u) (FX_read_deed:OwnX P w K mg base 4 "read_deed" ["word","at"] (sp_rdlT cO)):OwnX P w K mg base 5 "read_deeds" ["word","at"] (sp_rdT cO .d):=by
  refine D.ownE sc_read_deeds (fun _ _ _ _ _ _ us hl=>match us,hl with|[_,_],_=>rfl) (fun vs H Q E h=>?_) (fun f cdv A outer s H vs Q E hr h=>?_)
  · obtain ⟨l,t,rfl,_⟩:=h
    rfl
  · obtain ⟨l,t,rfl,hl,ht,q,qe⟩:=h
    have hu:=hr.units
    have hu1:(A.deeper (PyProof.Rows.envOfC "read_deeds" (defScope s_read_deeds) s.heap.objs.size f cdv)).units+1<cLine:=by omega
    have en:Str.ofString "none"=Sg (K82.w "none"):=S_of _
    have e47:Str.ofString "/"=Sg [47]:=S_of _
    refine ⟨_,(pss_one (ps_ret (pe_ifExp (pt_cmpR op_eq (pv 0) (pe_glb g_NONE) (nomark _)) (pe_lst pa_nil) (pe_compE ["part"] ["at"] [1] rfl cs_read_deeds_0 (pi_listK K (pe_splS (pv 0) pe_str (by constructor <;> rfl))) (fun _ _ _ _=>(pg_name (i:=0) cs_read_deeds_0.nd rfl (by first|exact Or.inl rfl|exact Or.inr rfl))) (fun _ _ _ _=>pf_nil) (fun _ _ _ _=>(pe_exn (pex_fn FX_read_deed hr (pa_cX (pv 0) (pa_cX (pv 1) pa_nil))))))))),?_⟩
    simp (maxSteps:=1000000) only [tComp_eq,rEq_ss,Nat.reduceSub,Nat.reduceLT,Nat.reduceAdd,iList,cZ0,tTest,tOp,tVar,tC,tRet,tIf,tNil,tLst,L2.start,mZ1,mZ0,lZ1,lZ0,List.replicate,gZ0,oZ0,eZ0,V.bl.injEq,V.ref.injEq,V.str.injEq,and_true,true_and,aZ0,en,S_eq,tSplS,e47]
    refine ite2 (fun h=>?_) fun h=>?_
    · exact ⟨by rw [sizeLine_eq]; decide,fun p hp=>q (by change dsB l=true; unfold dsB; rw [h]; rfl) _ _ (.upd_new hp) trivial⟩
    · have h':=Bool.eq_false_iff.mpr h
      refine ⟨by omega,?_⟩
      intro p1 n1
      generalize z1:upd H p1 _=H1
      obtain ⟨s1,e1⟩:=new_same z1 n1
      have hsl:=spl_len (c:=47) (l.length+1) l
      refine ⟨⟨_,SqL.of e1⟩,grow_list (SqL.of e1) (by rw [sizeLine_eq]; simp only [wV,List.length_map]; omega) (spl 47 (l.length+1) l) (by simp [wV]) (fun _ x _=>dlB x=true) (fun _ _ _ _ _ h=>h) ?_ ?_⟩
      · rintro D i x k acc H2 hD hx hk s2 eD Nx Y kk
        obtain ⟨y,hy,rfl⟩:=wV_get hx
        rw [hk] at hy
        cases hy
        have hmem:=List.mem_of_getElem? hk
        simp (maxSteps:=1000000) only [tYes,cSt,List.drop_succ_cons,List.drop_zero,if_true,tVar,gName,tCons,tNil,mZ1,mZ0,List.replicate,List.cons_append,List.nil_append,gZ0,gZ1,sZ0,oZ0,eZ0,true_and,Option.join_some,tCallx,tXE]
        refine ⟨k,t,rfl,Nat.le_trans (spl_short _ _ _ hmem) hl,ht,fun z v H3 s3=>kk v H3 s3 fun _=>z,fun z e H3 s3 n=>qe ?_ e H3 (s1.trans (s2.trans s3)) n⟩
        change dsB l=false
        unfold dsB
        rw [h',Bool.false_or,List.all_eq_false]
        exact ⟨k,hmem,by rw [show dlB k=false from z]; decide⟩
      · rintro D vs H2 hD s2 eD p
        refine q ?_ _ _ (s1.trans s2) trivial
        change dsB l=true
        unfold dsB
        rw [h',Bool.false_or,List.all_eq_true]
        exact paired_fst p
theorem txt_B {l:List Nat} {m f t:Nat}:txt (Sg l) m f t=(decide (1≤l.length) && decide (l.length≤m) && l.all (inC f t)):=by
  unfold txt
  rw [Sg_len,Sg_cps]
def sp_isnT:Sp:=fun vs H Q _=>∃ l:List Nat,vs=[.str (Sg l)]∧l.length≤1000∧∀ H',Same H H'→Q (.bl (okK .m l)) H'
theorem own_isnT (D:Def K mg "is_name" s_is_name) (g_MOST_LETTERS:∃ u,mg "MOST_LETTERS"=some u∧RelV (.int 8) u) (F_is_text_of:Own P w K mg base 1 "is_text_of" ["thing","most","first","last"] sp_text):Own P w K mg base 2 "is_name" ["thing"] sp_isnT:=by
  refine D.own sc_is_name (fun _ _ _ _ _ _ us hl=>match us,hl with|[_],_=>rfl) (fun vs H Q E h=>?_) (fun f cdv A outer s H vs Q E hr h=>?_)
  · obtain ⟨z,rfl,_⟩:=h
    rfl
  · obtain ⟨z,rfl,hz,q⟩:=h
    refine ⟨_,(pss_one (ps_ret (pe_fn F_is_text_of hr (pa_cX (pv 0) (pa_cX (pe_glb g_MOST_LETTERS) (pa_cX pe_str (pa_cX pe_str pa_nil))))))),?_⟩
    simp (maxSteps:=1000000) only [Nat.reduceSub,Nat.reduceAdd,tVar,tC,tRet,tCall,tCons,tNil,L2.start,mZ1,mZ0,lZ1,lZ0,List.replicate,gZ0,oZ0,eZ0,aZ0]
    refine ⟨.str (Sg z),8,97,122,"str", ?_,by decide,rfl,(fun z' e=>by cases e; rw [Sg_len]; omega),fun H' s'=>?_⟩
    · have ea:Str.ofString "a"=one 97:=by decide
      have ez:Str.ofString "z"=one 122:=by decide
      rw [← ea,← ez]
      rfl
    · change Q (.bl (txt (Sg z) 8 97 122)) H'
      rw [txt_B]
      exact q H' s'
theorem own_rnameT (D:Def K mg "read_name" s_read_name) (hc_NoRow:mg "NoRow"=some (.ref cO)) (E_NoRow:OwnE P w K mg base 1 cO ["self","at"] (sp_xrow cO)) (F_is_name:Own P w K mg base 2 "is_name" ["thing"] sp_isnT):OwnX P w K mg base 3 "read_name" ["word","at"] (sp_rdT cO .m):=by
  refine D.ownE sc_read_name (fun _ _ _ _ _ _ us hl=>match us,hl with|[_,_],_=>rfl) (fun vs H Q E h=>?_) (fun f cdv A outer s H vs Q E hr h=>?_)
  · obtain ⟨l,t,rfl,_⟩:=h
    rfl
  · obtain ⟨l,t,rfl,hl,ht,q,qe⟩:=h
    refine ⟨_,(pss_cons (ps_if (pt_not (pt_truX (pe_fn F_is_name hr (pa_cX (pv 0) pa_nil)))) (pss_one (ps_exc (psx_raise (pn_newI E_NoRow hr hc_NoRow (pa_cX (pv 1) pa_nil))))) pss_nil) (pss_one (ps_ret (pv 0)))),?_⟩
    simp (maxSteps:=1000000) only [tTruX,Nat.reduceSub,upd_same,upd_upd,Nat.reduceAdd,ne_eq,cZ0,tSeq,eZ1,tIfS,tNot,tVar,tRet,tNext,tCall,tCons,tNil,L2.start,mZ1,mZ0,lZ1,lZ0,List.replicate,gZ0,gZ1,oZ0,eZ0,V.int.injEq,V.ref.injEq,and_true,true_and,and_assoc,aZ0,tRaise,tNewI,tSE,sp_xrow]
    refine ⟨l,rfl,hl,fun H' s'=>?_⟩
    cases e:okK .m l with
    | true=>simp (maxSteps:=1000000) only [truX_b,Bool.not_true,if_false,Bool.false_eq_true,oZ0,eZ0]; exact q e _ _ s' trivial
    | false=>
      simp (maxSteps:=1000000) only [truX_b,Bool.not_false,if_true,oZ0,eZ0]
      exact row_fall ht.log s' (qe e)
theorem own_rsignsT (D:Def K mg "read_signs" s_read_signs) (hb:Blt mg) (hc_NoRow:mg "NoRow"=some (.ref cO)) (E_NoRow:OwnE P w K mg base 1 cO ["self","at"] (sp_xrow cO)) (F_is_text_of:Own P w K mg base 1 "is_text_of" ["thing","most","first","last"] sp_text):OwnX P w K mg base 3 "read_signs" ["word","at"] (sp_rdT cO .s):=by
  refine D.ownE sc_read_signs (fun _ _ _ _ _ _ us hl=>match us,hl with|[_,_],_=>rfl) (fun vs H Q E h=>?_) (fun f cdv A outer s H vs Q E hr h=>?_)
  · obtain ⟨l,t,rfl,_⟩:=h
    rfl
  · obtain ⟨z,t,rfl,hl,ht,q,qe⟩:=h
    have hzl:(Sg z).length≤sizeLine:=by rw [Sg_len,sizeLine_eq]; omega
    refine ⟨_,(pss_cons (ps_if (pt_not (pt_truX (pe_fn F_is_text_of hr (pa_cX (pv 0) (pa_cX (pe_callB call_lenX rfl (hb _ (by decide)) bt_len (pa_cX (pv 0) pa_nil)) (pa_cX pe_str (pa_cX pe_str pa_nil))))))) (pss_one (ps_exc (psx_raise (pn_newI E_NoRow hr hc_NoRow (pa_cX (pv 1) pa_nil))))) pss_nil) (pss_one (ps_ret (pv 0)))),?_⟩
    simp (maxSteps:=1000000) only [rLenX,lenX_s',tTruX,Nat.reduceSub,upd_same,upd_upd,Nat.reduceAdd,ne_eq,cZ0,tSeq,eZ1,if_true,tIfS,tNot,tVar,tC,tRet,tNext,tCall,tCons,tNil,tCB,L2.start,mZ1,mZ0,lZ1,lZ0,List.replicate,gZ0,gZ1,oZ0,eZ0,V.int.injEq,V.ref.injEq,and_true,true_and,and_assoc,aZ0,hzl,tRaise,tNewI,tSE,sp_xrow]
    refine ⟨.str (Sg z),(Sg z).length,32,126,"str", ?_,by rw [Sg_len]; omega,rfl,(fun z' e=>by cases e; rw [Sg_len]; omega),fun H' s'=>?_⟩
    · have ea:Str.ofString " "=one 32:=by decide
      have ez:Str.ofString "~"=one 126:=by decide
      rw [← ea,← ez]
    · have et:txt (Sg z) (Sg z).length 32 126=okK .s z:=by
        rw [txt_B,Sg_len,decide_eq_true (Nat.le_refl z.length),Bool.and_true]
        rfl
      refine ⟨_,rfl,?_⟩
      change if (!txt (Sg z) (Sg z).length 32 126)=true then _ else _
      rw [et]
      cases e:okK .s z with
      | true=>exact iteF (q e _ _ s' trivial)
      | false=>exact iteT (row_fall ht.log s' (qe e))
end
end K82
namespace L2
open PySem PySem.Spec PyProof.Rows
section
variable {X:Cx} {pins:List (Addr × Obj)} {σ:St} {H:Hp} {s:Shared} {A:Around} {E:Value→Shared→Prop} {a:Addr} {D:List (Str × V)} {k:Str} {tk:Tok}
theorem kd_notInT {Q:Value→Shared→Prop} (I:Inv X pins σ H s) (T:KD X.K a D) (h:∀ s',Inv X pins σ H s'→Q (.bool (KTD.datumAt k D).isNone) s'):wpAny (model X.prog X.w) A (compareOp .NotIn (.str k tk) (.ref a)) Q E s:=by
  change wpAny _ _ (contains (.ref a) (.str k tk) >>= fun r=>pure (.bool (!r))) Q E s
  refine wpAny_bind ?_
  unfold contains
  refine wpAny_holding ?_
  refine wpAny_bind (wpAny_specialOf (KD.type I T) PySem.F.slot_dict_contains.lookup ?_)
  change wpAny _ _ (if (some (Value.builtin "dict.__contains__") == some Value.none)=true then _ else _) _ _ _
  rw [if_neg (by rw [beq_builtin_none]; exact Bool.false_ne_true)]
  refine wpAny_bind (wpAny_callSpecialUnlessNone?_slot (name:=Str.ofString "__contains__") (KD.type I T) PySem.F.slot_dict_contains (wpAny_call_entry PySem.F.slot_dict_contains (KD.type I T) PySem.F.entry_dict_contains ?_ (PySem.F.args_dict_contains_2 _ _)))
  change wpAny _ _ (dictGet a (.str k tk) >>= _) _ _ _
  refine wpAny_bind (kd_get I T (fun d' v e r=>?_) fun e=>?_)
  · have h':∀ s',Inv X pins σ H s'→Q (.bool false) s':=by
      rw [e] at h
      exact h
    exact wpAny_pure ⟨_,rfl,wpAny_truthy_bool (wpAny_pure (h' _ (I.tok _)))⟩
  · have h':∀ s',Inv X pins σ H s'→Q (.bool true) s':=by
      rw [e] at h
      exact h
    exact wpAny_bind (wpAny_pendingKey_other T.1 (wpAny_pure ⟨_,rfl,wpAny_truthy_bool (wpAny_pure (h' _ (I.tok _)))⟩))
end
section
variable {X:Cx}
def rKNotInT (K:PySem.W.Frag):R2:=fun x y H Q=>∃ a D z,y=.ref a∧KD K a D∧x=.str z∧Q (.bl (KTD.datumAt z D).isNone) H
theorem op_kNotInT {K:PySem.W.Frag} (hK:X.K=K:=by rfl):OpR X (compareOp .NotIn) (rKNotInT K):=by
  subst hK
  intro pins s σ H x y v u Q I rx ry h
  obtain ⟨a,D,z,rfl,T,rfl,q⟩:=h
  obtain ⟨t,rfl⟩:=rx
  obtain rfl:u=Value.ref a:=ry
  exact kd_notInT I T fun s' I'=>⟨.bl _,H,I',rfl,q⟩
end
end L2
namespace K82
open PySem L2
section
variable {P:Program} {w:World} {K:PySem.W.Frag} {mg:Str→Option Value} {base:Heap} {C R cO:Addr}
def okWs (ks:List Kd) (ws:List (List Nat)):Bool:=decide (ws.length=ks.length) && (ks.zip ws).all fun p=>okK p.1 p.2
def RdrT (P:Program) (w:World) (K:PySem.W.Frag) (mg:Str→Option Value) (base:Heap) (cO:Addr) (k:Kd) (r:V):Prop:=∃ ad,r=.ref ad∧FnVX P w K mg base 5 ["word","at"] ad (sp_rdT cO k)
def sp_rwT (P:Program) (w:World) (K:PySem.W.Frag) (mg:Str→Option Value) (base:Heap) (cO:Addr):Sp:=fun vs H Q E=>∃ (pw pr:Addr) (t:Int) (κ:Bool) (rs:List V) (ws:List (List Nat)) (ks:List Kd),vs=[.ref pw,.ref pr,.int t]∧H pw=some (.lst (wV ws))∧Sq κ K H pr rs∧Paired (RdrT P w K mg base cO) ks rs∧(∀ x∈ws,x.length≤1000)∧ks.length≤10∧atOk t ∧
  (okWs ks ws=true→∀ p us H',Same H H'→H p=none→H' p=some (.tup us)→Paired (fun q v=>RvK q.1 q.2 v) (ks.zip ws) us→Q (.ref p) H')∧(okWs ks ws=false→∀ e H',Same H H'→NoR cO t e H'→E (.ref e) none H')
theorem paired_and {α β:Type} {A B:α→β→Prop}:∀ {l:List α} {m:List β},Paired (fun a b=>A a b∧B a b) l m→Paired A l m∧Paired B l m
  | _,_,.nil=>⟨.nil,.nil⟩
  | _,_,.cons h t=>⟨.cons h.1 (paired_and t).1,.cons h.2 (paired_and t).2⟩
set_option maxHeartbeats 4000000 in
theorem own_rwT (D:Def K mg "read_words" s_read_words) (hb:Blt mg) (hzip:mg "zip"=none) (hc_NoRow:mg "NoRow"=some (.ref cO)) (E_NoRow:OwnE P w K mg base 1 cO ["self","at"] (sp_xrow cO)):OwnX P w K mg base 6 "read_words" ["words","readers","at"] (sp_rwT P w K mg base cO):=by
  refine D.ownE sc_read_words (fun _ _ _ _ _ _ us hl=>match us,hl with|[_,_,_],_=>rfl) (fun vs H Q E h=>?_) (fun f cdv A outer s H vs Q E hr h=>?_)
  · obtain ⟨pw,pr,t,κ,rs,ws,ks,rfl,_⟩:=h
    rfl
  · obtain ⟨pw,pr,t,κ,rs,ws,ks,rfl,ew,er,hP,hws,hl,ht,q,qe⟩:=h
    have hu:=hr.units
    have hu1:(A.deeper (PyProof.Rows.envOfC "read_words" (defScope s_read_words) s.heap.objs.size f cdv)).units+1<cLine:=by omega
    refine ⟨_,(pss_cons (ps_if (pt_cmpR op_ne (pe_callB call_lenX rfl (hb _ (by decide)) bt_len (pa_cX (pv 0) pa_nil)) (pe_callB (call_lenK K) rfl (hb _ (by decide)) bt_len (pa_cX (pv 1) pa_nil)) (nomark _)) (pss_one (ps_exc (psx_raise (pn_newI E_NoRow hr hc_NoRow (pa_cX (pv 2) pa_nil))))) pss_nil) (pss_one (ps_ret (pe_callTy call_tupX rfl (hb _ (by decide)) bt_tuple (pa_cX (pe_compE ["reader","word"] ["at"] [2] rfl cs_read_words_0 (pi_zipU K rfl hzip (pa_cX (pv 1) (pa_cX (pv 0) pa_nil))) (fun _ _ _ _=>(pg_seqX (n:=2) rfl (pgs_cons (pg_name (i:=0) cs_read_words_0.nd rfl (by first|exact Or.inl rfl|exact Or.inr rfl)) (pgs_cons (pg_name (i:=1) cs_read_words_0.nd rfl (by first|exact Or.inl rfl|exact Or.inr rfl)) pgs_nil)))) (fun _ _ _ _=>pf_nil) (fun _ _ _ _=>(pe_exn (pex_fnV (P:=P) (w:=w) (K:=K) (mg:=mg) (base:=base) (j:=5) (ps:=(["word","at"])) (pv 0) hr (pa_cX (pv 1) (pa_cX (pv 2) pa_nil)))))) pa_nil))))),?_⟩
    have hpl:=hP.length
    simp (maxSteps:=1000000) only [tComp_eq,rLenX,lenX_r,lenO_l,Option.bind_some,rTupX,Nat.reduceSub,upd_same,upd_upd,Nat.reduceAdd,ne_eq,rLen,cZ0,rNe_ii,tSeq,eZ1,tIfS,tTest,tOp,tVar,tRet,tNext,tCons,tNil,tCB,L2.start,mZ1,mZ0,lZ1,lZ0,List.replicate,gZ0,gZ1,oZ0,eZ0,V.int.injEq,V.bl.injEq,V.ref.injEq,and_true,true_and,and_assoc,aZ0,ew,iZipU,tRaise,tNewI,tSE,sp_xrow]
    refine ⟨rs,sq_any er,?_⟩
    have hwl:(wV ws).length=ws.length:=by simp [wV]
    rw [hwl]
    by_cases hlen:ws.length=ks.length
    · rw [if_neg (by simp; omega)]
      have hzl:(ks.zip ws).length=rs.length:=by rw [List.length_zip]; omega
      refine ⟨κ,⟨_,er⟩,⟨_,SqL.of ew⟩,grow_zip er (SqL.of ew) (by rw [hwl]; omega) (by rw [sizeLine_eq]; omega) (ks.zip ws) hzl (fun _ p v=>okK p.1 p.2=true∧RvK p.1 p.2 v) (fun _ _ _ _ _ h=>h) ?_ ?_⟩
      · rintro D i x y pp pq acc H2 hD hx hy hf s2 eD hp Nx Y kk
        obtain ⟨k,z⟩:=pq
        rw [List.getElem?_zip_eq_some] at hf
        obtain ⟨x',hx',⟨ad,rfl,F⟩⟩:=paired_get hP hf.1
        rw [hx] at hx'
        cases hx'
        obtain ⟨y',hy',rfl⟩:=wV_get hy
        rw [hf.2] at hy'
        cases hy'
        have epp:upd H2 pp (.tup [.ref ad,.str (Sg z)]) pp=some (.tup [.ref ad,.str (Sg z)]):=upd_same
        have s3:Same H2 (upd H2 pp (.tup [.ref ad,.str (Sg z)])):=.upd_new hp
        generalize upd H2 pp (.tup [.ref ad,.str (Sg z)])=H3 at epp s3 ⊢
        simp (maxSteps:=1000000) only [gSeqX,seqO_t,gCons,gNil,Nat.reduceAdd,tYes,cSt,List.drop_succ_cons,List.drop_zero,cZ0,eZ1,if_true,tVar,gName,tCons,tNil,mZ1,mZ0,lZ1,lZ0,List.replicate,List.cons_append,List.nil_append,gZ0,gZ1,sZ0,sZ1,oZ0,eZ0,V.ref.injEq,true_and,and_assoc,epp,Option.join_some,tFnVX,tXE]
        refine ⟨_,F,z,t,rfl,hws z (List.mem_of_getElem? hf.2),ht,fun hk v H4 s4 r=>kk _ _ (s3.trans s4) fun _=>⟨hk,r⟩,fun hk e H4 s4 n=>qe ?_ e H4 (s2.trans (s3.trans s4)) n⟩
        unfold okWs
        rw [Bool.and_eq_false_iff]
        refine .inr (List.all_eq_false.mpr ⟨(k,z),List.mem_iff_getElem?.mpr ⟨i,List.getElem?_zip_eq_some.mpr hf⟩,?_⟩)
        change ¬ okK k z=true
        rw [show okK k z=false from hk]
        decide
      · rintro D vs H2 hD s2 eD p
        simp (maxSteps:=1000000) only [HO.lst.injEq,oZ0,eZ0,V.ref.injEq,eD]
        obtain ⟨p1,p2⟩:=paired_and p
        refine fun t' ht'=>q ?_ t' vs _ (s2.upd (s2.free ht')) (s2.free ht') upd_same p2
        unfold okWs
        rw [decide_eq_true hlen,Bool.true_and,List.all_eq_true]
        exact paired_fst p1
    · rw [if_pos (by simp; omega)]
      refine row_fall ht.log (.refl _) (qe ?_)
      unfold okWs
      rw [decide_eq_false hlen]
      rfl
theorem spl_cons {c:Nat} (n:Nat) (l:List Nat):∃ a r,spl c n l=a::r:=by
  cases n with
  | zero=>exact ⟨_,_,rfl⟩
  | succ n=>
    unfold spl
    split
    · exact ⟨_,_,rfl⟩
    · exact ⟨_,_,rfl⟩
def msB (l:List Nat):Bool:=match spl 32 (l.length+1) l with
  | []=>false
  | a::r=>decide (a=K82.w "measures") && okWs (List.replicate 10 .n) r
def sp_rmT (cO:Addr):Sp:=fun vs H Q E=>∃ (l:List Nat),vs=[.str (Sg l)]∧l.length≤1000∧(msB l=true→∀ (ns:List Nat) p H',(spl 32 (l.length+1) l).tail=ns.map nT→ns.length=10→Same H H'→H' p=some (.tup (ns.map niV))→Q (.ref p) H')∧(msB l=false→∀ e H',Same H H'→NoR cO 0 e H'→E (.ref e) none H')
theorem rv_nums:∀ {ws:List (List Nat)} {us:List V},Paired (fun (q:Kd × List Nat) v=>RvK q.1 q.2 v) ((List.replicate ws.length Kd.n).zip ws) us→∃ ns:List Nat,ws=ns.map nT∧us=ns.map niV
  | [],_,h=>by
    cases h
    exact ⟨[],rfl,rfl⟩
  | z::ws,us,h=>by
    rw [lZ1,List.replicate_succ,List.zip_cons_cons] at h
    cases h with
    | cons h t=>
      obtain ⟨ns,e1,e2⟩:=rv_nums t
      obtain ⟨j,e3,e4⟩:=h
      exact ⟨j::ns,by rw [mZ1,← e1,show z=nT j from e3],by rw [mZ1,← e2,e4]⟩
set_option maxHeartbeats 4000000 in
theorem own_rmT {a:Addr} {bs:List Addr} {fn:Addr} (D:Def K mg "read_measures" s_read_measures) (hb:Blt mg) (B:BdAt K mg a bs) (hc_NoRow:mg "NoRow"=some (.ref cO)) (E_NoRow:OwnE P w K mg base 1 cO ["self","at"] (sp_xrow cO)) (g_read_number:∃ u,mg "read_number"=some u∧RelV (.ref fn) u) (Fn:FnVX P w K mg base 5 ["word","at"] fn (sp_rdT cO .n)) (FX_read_words:OwnX P w K mg base 6 "read_words" ["words","readers","at"] (sp_rwT P w K mg base cO)):OwnX P w K mg base 7 "read_measures" ["row"] (sp_rmT cO):=by
  have g_BOUNDS:=B.g
  refine D.ownE sc_read_measures (fun _ _ _ _ _ _ us hl=>match us,hl with|[_],_=>rfl) (fun vs H Q E h=>?_) (fun f cdv A outer s H vs Q E hr h=>?_)
  · obtain ⟨l,rfl,_⟩:=h
    rfl
  · obtain ⟨l,rfl,hl,q,qe⟩:=h
    have hu:=hr.units
    have hu1:(A.deeper (PyProof.Rows.envOfC "read_measures" (defScope s_read_measures) s.heap.objs.size f cdv)).units+1<cLine:=by omega
    have e32:Str.ofString " "=Sg [32]:=S_of _
    refine ⟨_,(pss_cons (ps_st (i:=1) sc_read_measures.nd rfl (pe_splS (pv 0) pe_str (by constructor <;> rfl))) (pss_cons (ps_if (pt_cmpR op_ne (pe_ix (ix_get hu1) (pv 1) pe_int (fun _ _=>rfl)) pe_str (nomark _)) (pss_one (ps_exc (psx_raise (pn_newI E_NoRow hr hc_NoRow (pa_cX pe_int pa_nil))))) pss_nil) (pss_one (ps_ret (pe_exc (pex_fn FX_read_words hr (pa_cX (pe_slice sl_X (pv 1) (po_some pe_int) po_none) (pa_cX (pe_op op_rep (pe_lst (pa_cX (pe_glb g_read_number) pa_nil)) (pe_callB (call_lenK K) rfl (hb _ (by decide)) bt_len (pa_cX (pe_glb g_BOUNDS) pa_nil))) (pa_cX pe_int pa_nil))))))))),?_⟩
    simp (maxSteps:=1000000) only [rGet,getO_l,rSlX,Nat.reduceSub,upd_same,upd_upd,Nat.reduceAdd,ne_eq,rLen,tSl,tNoPart,tPart,cZ0,tSeq,eZ1,tIfS,tTest,tOp,tVar,tC,tRet,tAsg,gName,tNext,tCons,tNil,tCB,tLst,L2.start,mZ1,mZ0,lZ1,lZ0,List.replicate,List.cons_append,List.nil_append,gZ0,gZ1,sZ0,sZ1,oZ0,eZ0,V.int.injEq,V.ref.injEq,V.str.injEq,and_true,true_and,and_assoc,tSplS,e32,tCallx,tRaise,tNewI,tSE,tXE,sp_xrow]
    refine ⟨_,rfl,32,rfl,by decide,by omega,?_⟩
    have short:=spl_short (c:=32) (l.length+1) l
    obtain ⟨w0,r,er⟩:=spl_cons (c:=32) (l.length+1) l
    unfold msB at q qe
    rw [er] at q qe short ⊢
    dsimp only at q qe
    intro p1 n1
    generalize z1:upd H p1 _=H1
    obtain ⟨s1,e1⟩:=new_same z1 n1
    have em:Str.ofString "measures"=Sg (K82.w "measures"):=S_of _
    simp (maxSteps:=1000000) only [rNe_ss,atI_0,HO.lst.injEq,oZ0,eZ0,V.bl.injEq,e1,em,S_eq,cut_1,wV_cons]
    refine ite2 (fun h=>?_) fun h=>?_
    · refine row_fall (t:=0) (by decide) s1 (qe ?_)
      have hm:decide (w0=K82.w "measures")=false:=by simpa using h
      rw [hm]
      rfl
    · have hm:decide (w0=K82.w "measures")=true:=by simpa using h
      rw [hm,Bool.true_and] at q qe
      intro p2 n2
      generalize z2:upd H1 p2 _=H2
      obtain ⟨s2,e2⟩:=new_same z2 n2
      refine ⟨by rw [sizeLine_eq]; decide,?_⟩
      intro p3 n3
      generalize z3:upd H2 p3 _=H3
      obtain ⟨s3,e3⟩:=new_same z3 n3
      refine ⟨_,.inr (B.t H3),?_⟩
      rw [List.length_map,B.l]
      refine ⟨p3,_,_,rfl,rfl,e3,by decide,by decide,by rw [sizeLine_eq]; change 1 * 10≤_; decide,?_⟩
      intro p4 n4
      generalize z4:upd H3 p4 _=H4
      obtain ⟨s4,e4⟩:=new_same z4 n4
      have sA:=((s1.trans s2).trans s3).trans s4
      refine ⟨p2,p4,0,false,_,r,List.replicate 10 .n,rfl,(s3.trans s4) _ _ e2,SqL.of e4,?_,fun x hx=>Nat.le_trans (short x (.tail _ hx)) hl,by decide,⟨by decide,by decide⟩,fun ok p us H' s' hp ep pr=>?_,fun ok e H' s' n=>qe ok e H' (sA.trans s') n⟩
      · have:∀ n:Nat,Paired (RdrT P w K mg base cO) (List.replicate n Kd.n) (List.replicate n [V.ref fn]).flatten:=fun n=>by
          induction n with
          | zero=>exact .nil
          | succ n ih=>
            rw [List.replicate_succ,List.replicate_succ,List.flatten_cons]
            exact .cons ⟨fn,rfl,Fn⟩ ih
        exact this 10
      · have hlen:r.length=10:=by
          unfold okWs at ok
          rw [Bool.and_eq_true] at ok
          exact of_decide_eq_true ok.1
        obtain ⟨ns,e5,e6⟩:=rv_nums (ws:=r) (by rw [hlen]; exact pr)
        exact q ok ns p H' e5 (by rw [← List.length_map (f:=nT),← e5]; exact hlen) (sA.trans s') (by rw [ep,e6])
structure FnsT (P:Program) (w:World) (K:PySem.W.Frag) (mg:Str→Option Value) (base:Heap) (cO fn fp fd fm fs:Addr):Prop where
  n:FnVX P w K mg base 5 ["word","at"] fn (sp_rdT cO .n)
  p:FnVX P w K mg base 5 ["word","at"] fp (sp_rdT cO .p)
  d:FnVX P w K mg base 5 ["word","at"] fd (sp_rdT cO .d)
  m:FnVX P w K mg base 5 ["word","at"] fm (sp_rdT cO .m)
  s:FnVX P w K mg base 5 ["word","at"] fs (sp_rdT cO .s)
def wk (d:List Nat):Option (List Kd):=if d=K82.w "begin" then some [.n] else if d=K82.w "end" then some [.n] else if d=K82.w "put" then some [.n,.s] else if d=K82.w "bind" then some [.m] else if d=K82.w "free" then some [.m] else if d=K82.w "ask" then some [.m] else none
def wiW:List (List Nat)→Bool
  | _::b::c::d::r=>(match wk d with|some ks=>okWs [.n,.n] [b,c] && okWs ks r|none=>false)
  | _=>false
theorem wiW_few {ws:List (List Nat)} (h:ws.length<4):wiW ws=false:=by
  match ws,h with
  | [],_=>rfl
  | [_],_=>rfl
  | [_,_],_=>rfl
  | [_,_,_],_=>rfl
def wiB (l:List Nat):Bool:=wiW (spl 32 5 l)
section
variable {fn fp fd fm fs ar tl tc tr aw tb te tp ti tf ta:Addr}
abbrev wtab (tb te tp ti tf ta:Addr):List (Str × V):=[("begin", V.ref tb),("end", .ref te),("put", .ref tp),("bind", .ref ti),("free", .ref tf),("ask", .ref ta)]
theorem Tabs.wishT (T:Tabs K mg fn fp fd fm fs ar tl tc tr aw tb te tp ti tf ta) (F:FnsT P w K mg base cO fn fp fd fm fs) (d:List Nat):(wk d=none∧PyProof.Rows.KTD.datumAt (Sg d) (wtab tb te tp ti tf ta)=none)∨(∃ ks t l,wk d=some ks∧ks≠[]∧ks.length≤10∧(d=K82.w "put"∨d≠K82.w "put")∧PyProof.Rows.KTD.datumAt (Sg d) (wtab tb te tp ti tf ta)=some (.ref t)∧KT K t l∧Paired (RdrT P w K mg base cO) ks (l.map V.ref)):=by
  have key:∀ (z:String),(Sg d=Str.ofString z)=(d=K82.w z):=fun z=>by rw [S_of,S_eq]
  unfold wk wtab
  simp only [PyProof.Rows.KTD.datumAt,key,decide_eq_true_eq]
  by_cases h1:d=K82.w "begin"
  · rw [if_pos h1,if_pos h1]
    exact .inr ⟨_,tb,[fn],rfl,(fun z=>nomatch z),by decide,Classical.em _,rfl,T.tb,.cons ⟨fn,rfl,F.n⟩ .nil⟩
  rw [if_neg h1,if_neg h1]
  by_cases h2:d=K82.w "end"
  · rw [if_pos h2,if_pos h2]
    exact .inr ⟨_,te,[fn],rfl,(fun z=>nomatch z),by decide,Classical.em _,rfl,T.te,.cons ⟨fn,rfl,F.n⟩ .nil⟩
  rw [if_neg h2,if_neg h2]
  by_cases h3:d=K82.w "put"
  · rw [if_pos h3,if_pos h3]
    exact .inr ⟨_,tp,[fn,fs],rfl,(fun z=>nomatch z),by decide,Classical.em _,rfl,T.tp,.cons ⟨fn,rfl,F.n⟩ (.cons ⟨fs,rfl,F.s⟩ .nil)⟩
  rw [if_neg h3,if_neg h3]
  by_cases h4:d=K82.w "bind"
  · rw [if_pos h4,if_pos h4]
    exact .inr ⟨_,ti,[fm],rfl,(fun z=>nomatch z),by decide,Classical.em _,rfl,T.ti,.cons ⟨fm,rfl,F.m⟩ .nil⟩
  rw [if_neg h4,if_neg h4]
  by_cases h5:d=K82.w "free"
  · rw [if_pos h5,if_pos h5]
    exact .inr ⟨_,tf,[fm],rfl,(fun z=>nomatch z),by decide,Classical.em _,rfl,T.tf,.cons ⟨fm,rfl,F.m⟩ .nil⟩
  rw [if_neg h5,if_neg h5]
  by_cases h6:d=K82.w "ask"
  · rw [if_pos h6,if_pos h6]
    exact .inr ⟨_,ta,[fm],rfl,(fun z=>nomatch z),by decide,Classical.em _,rfl,T.ta,.cons ⟨fm,rfl,F.m⟩ .nil⟩
  rw [if_neg h6,if_neg h6]
  exact .inl ⟨rfl,rfl⟩
def sp_rwiT (cO:Addr):Sp:=fun vs H Q E=>∃ (l:List Nat) (t:Int),vs=[.str (Sg l),.int t]∧l.length≤1000∧atOk t∧(wiB l=true→∀ v H',Same H H'→Q v H')∧(wiB l=false→∀ e H',Same H H'→NoR cO t e H'→E (.ref e) none H')
theorem paired_zip2 {α:Type} {R:α × List Nat→V→Prop} {k1 k2:α} {b c:List Nat} {us:List V} (h:Paired R ([k1,k2].zip [b,c]) us):∃ v1 v2,us=[v1,v2]:=by
  cases h with|cons _ t=>cases t with|cons _ t=>cases t; exact ⟨_,_,rfl⟩
set_option maxHeartbeats 4000000 in
theorem own_rwiT (D:Def K mg "read_wish" s_read_wish) (hb:Blt mg) (T:Tabs K mg fn fp fd fm fs ar tl tc tr aw tb te tp ti tf ta) (F:FnsT P w K mg base cO fn fp fd fm fs) (hc_NoRow:mg "NoRow"=some (.ref cO)) (E_NoRow:OwnE P w K mg base 1 cO ["self","at"] (sp_xrow cO)) (FX_read_words:OwnX P w K mg base 6 "read_words" ["words","readers","at"] (sp_rwT P w K mg base cO)):OwnX P w K mg base 7 "read_wish" ["row","at"] (sp_rwiT cO):=by
  have g_read_number:=T.gn
  have g_WISH_READERS:=T.gw
  refine D.ownE sc_read_wish (fun _ _ _ _ _ _ us hl=>match us,hl with|[_,_],_=>rfl) (fun vs H Q E h=>?_) (fun f cdv A outer s H vs Q E hr h=>?_)
  · obtain ⟨l,t,rfl,_⟩:=h
    rfl
  · obtain ⟨l,t,rfl,hl,ht,q,qe⟩:=h
    have hu:=hr.units
    have hu1:(A.deeper (PyProof.Rows.envOfC "read_wish" (defScope s_read_wish) s.heap.objs.size f cdv)).units+1<cLine:=by omega
    have e32:Str.ofString " "=Sg [32]:=S_of _
    have eput:=S_put
    refine ⟨_,(pss_cons (ps_st (i:=2) sc_read_wish.nd rfl (pe_splM (pv 0) pe_str pe_int (by constructor <;> rfl))) (pss_cons (ps_if (@PW.pt _ _ _ (pw_or (pt_cmpR op_lt (pe_callB call_lenX rfl (hb _ (by decide)) bt_len (pa_cX (pv 2) pa_nil)) pe_int (nomark _)) (pw_or1 (pt_cmpR (op_kNotInT (K:=K)) (pe_ix (ix_get hu1) (pv 2) pe_int (fun _ _=>rfl)) (pe_glb g_WISH_READERS) rfl)))) (pss_one (ps_exc (psx_raise (pn_newI E_NoRow hr hc_NoRow (pa_cX (pv 1) pa_nil))))) pss_nil) (pss_cons (ps_st (i:=3) sc_read_wish.nd rfl (pe_exc (pex_fn FX_read_words hr (pa_cX (pe_slice sl_X (pv 2) (po_some pe_int) (po_some pe_int)) (pa_cX (pe_tup (pa_cX (pe_glb g_read_number) (pa_cX (pe_glb g_read_number) pa_nil))) (pa_cX (pv 1) pa_nil)))))) (pss_cons (ps_st (i:=4) sc_read_wish.nd rfl (pe_exc (pex_fn FX_read_words hr (pa_cX (pe_slice sl_X (pv 2) (po_some pe_int) po_none) (pa_cX (pe_kget (K:=K) (pe_glb g_WISH_READERS) (pe_ix (ix_get hu1) (pv 2) pe_int (fun _ _=>rfl)) (by intro _ _; rfl)) (pa_cX (pv 1) pa_nil)))))) (pss_one (ps_ret (pe_op (op_catTK (K:=K)) (pv 3) (pe_tup (pa_cX (pe_ix (ix_get hu1) (pv 2) pe_int (fun _ _=>rfl)) (pa_cX (pe_ifExp (pt_cmpR op_eq (pe_ix (ix_get hu1) (pv 2) pe_int (fun _ _=>rfl)) pe_str (nomark _)) (pv 4) (pe_ix (ix_get hu1) (pv 4) pe_int (fun _ _=>rfl))) pa_nil)))))))))),?_⟩
    simp (maxSteps:=1000000) only [rGet,getO_l,rLenX,lenX_r,lenO_l,Option.bind_some,rSlX,Nat.reduceSub,upd_same,upd_upd,HO.lst.injEq,Nat.reduceAdd,ne_eq,tSl,tNoPart,tPart,cZ0,tSeq,eZ1,if_true,tIfS,tOr,tTest,tOp,tVar,tC,rI0,tRet,tAsg,gName,tNext,tIf,tCons,tNil,tCB,tTup,L2.start,mZ1,mZ0,lZ1,lZ0,List.replicate,List.cons_append,List.nil_append,gZ0,gZ1,sZ0,sZ1,oZ0,eZ0,V.int.injEq,V.bl.injEq,V.ref.injEq,V.str.injEq,and_true,true_and,and_assoc,tSplM,e32,tCallx,tRaise,tNewI,tSE,tXE,sp_xrow]
    refine ⟨_,rfl,32,rfl,5,rfl,by decide,by decide,by omega,?_⟩
    have short:=spl_short (c:=32) 5 l
    unfold wiB at q qe
    generalize spl 32 5 l=ws at q qe short ⊢
    intro p1 n1
    generalize z1:upd H p1 _=H1
    obtain ⟨s1,e1⟩:=new_same z1 n1
    by_cases h4:ws.length<4
    · have hwl:decide (((wV ws).length:Int)<4)=true:=decide_eq_true (by simp only [wV,List.length_map]; omega)
      simp (maxSteps:=1000000) only [if_true,hwl]
      exact row_fall ht.log s1 (qe (wiW_few h4))
    · obtain ⟨a,b,c,d,r,rfl⟩:∃ a b c d r,ws=a::b::c::d::r:=by
        match ws,h4 with
        | a::b::c::d::r,_=>exact ⟨a,b,c,d,r,rfl⟩
        | [],h|[_],h|[_,_],h|[_,_,_],h=>exact absurd (by simp) h
      dsimp only [wiW] at q qe
      simp (maxSteps:=1000000) only [atI_3,HO.lst.injEq,eZ1,lZ1,oZ0,eZ0,V.bl.injEq,V.ref.injEq,V.str.injEq,e1,wV_cons,rKNotInT,cut_13]
      rw [if_neg (by intro z; have:=of_decide_eq_true z; omega)]
      refine ⟨_,T.kw,?_⟩
      rcases T.wishT F d with ⟨hw,hd⟩|⟨ks,tt,ll,hw,hks,hk10,hput,hd,kt,pr⟩
      · rw [hw] at qe
        rw [hd]
        exact iteT (row_fall ht.log s1 (qe rfl))
      · rw [hw] at q qe
        dsimp only at q qe
        rw [hd]
        refine iteF ?_
        intro p2 n2
        generalize z2:upd H1 p2 _=H2
        obtain ⟨s2,e2⟩:=new_same z2 n2
        refine ⟨by rw [sizeLine_eq]; decide,?_⟩
        intro p3 n3
        generalize z3:upd H2 p3 _=H3
        obtain ⟨s3,e3⟩:=new_same z3 n3
        have s13:=s1.trans (s2.trans s3)
        have hsh:∀ x∈a::b::c::d::r,x.length≤1000:=fun x hx=>Nat.le_trans (short x hx) hl
        refine ⟨p2,p3,t,true,_,[b,c],[.n,.n],rfl,s3 _ _ e2,SqT.of e3,.cons ⟨fn,rfl,F.n⟩ (.cons ⟨fn,rfl,F.n⟩ .nil),(fun x hx=>hsh x (.tail _ ?_)),by decide,ht,fun ok1 pw us H4 s4 hpw epw pr1=>?_,fun ok1 e H4 s4 n=>qe (by rw [ok1]; rfl) e H4 (s13.trans s4) n⟩
        · simp only [List.mem_cons,List.not_mem_nil,or_false] at hx
          rcases hx with rfl|rfl
          · exact .head _
          · exact .tail _ (.head _)
        obtain ⟨v1,v2,rfl⟩:=paired_zip2 pr1
        rw [ok1,Bool.true_and] at q qe
        have e14:=(s2.trans (s3.trans s4)) _ _ e1
        simp (maxSteps:=1000000) only [rGet,HO.lst.injEq,eZ1,tOp,tVar,tC,gZ0,gZ1,oZ0,eZ0,V.ref.injEq,e14,wV_cons,cut_4,tKGet]
        intro p5 n5
        generalize z5:upd H4 p5 _=H5
        obtain ⟨s5,e5⟩:=new_same z5 n5
        have e15:=s5 _ _ e14
        simp (maxSteps:=1000000) only [getO_l,atI_3,oZ0,eZ0,V.str.injEq,e15,wV_cons]
        have s15:=(s13.trans s4).trans s5
        refine ⟨_,T.kw,_,hd,p5,tt,t,true,_,r,ks,rfl,e5,kt H5,pr,(fun x hx=>hsh x (.tail _ (.tail _ (.tail _ (.tail _ hx))))),hk10,ht,fun ok2 px us H6 s6 hpx epx pr2=>?_,fun ok2 e H6 s6 n=>qe ok2 e H6 (s15.trans s6) n⟩
        have e16:=s6 _ _ e15
        have epw6:=(s5.trans s6) _ _ epw
        simp (maxSteps:=1000000) only [rEq_ss,getO_l,atI_3,oZ0,eZ0,V.bl.injEq,V.ref.injEq,e16,wV_cons,eput,S_eq]
        have sAll:=s15.trans s6
        have fin:∀ (v:V) (pq:Addr),H6 pq=none→rCatT K (.ref pw) (.ref pq) (upd H6 pq (.tup [.str (Sg d),v])) Q:=fun v pq hq=>by
          have s8:Same H6 (upd H6 pq (.tup [.str (Sg d),v])):=.upd_new hq
          exact ⟨pw,pq,_,_,rfl,rfl,SqT.of (s8 _ _ epw6),SqT.of upd_same,(fun z=>nomatch z),by rw [sizeLine_eq]; change 2+2≤_; decide,(fun z=>nomatch z),fun _ p hp=>q ok2 _ _ ((sAll.trans s8).trans (.upd_new hp))⟩
        refine ite2 (fun _=>⟨by rw [sizeLine_eq]; decide,fun pq hq=>fin _ pq hq⟩) fun _=>?_
        obtain ⟨u0,ur,rfl⟩:∃ u0 ur,us=u0::ur:=by
          have hl2:=pr2.length
          unfold okWs at ok2
          rw [Bool.and_eq_true] at ok2
          have hl3:=of_decide_eq_true ok2.1
          rw [List.length_zip] at hl2
          cases us with
          | nil=>
            cases ks with
            | nil=>exact absurd rfl hks
            | cons k ks=>rw [lZ1] at hl2 hl3; rw [lZ0] at hl2; omega
          | cons u0 ur=>exact ⟨u0,ur,rfl⟩
        exact ⟨_,epx,_,atI_0,by rw [sizeLine_eq]; decide,fun pq hq=>fin _ pq hq⟩
end
end
end K82
namespace K82
open PySem L2
section
variable {P:Program} {w:World} {K:PySem.W.Frag} {mg:Str→Option Value} {base:Heap} {C R cO:Addr}
variable {fn fp fd fm fs ar tl tc tr aw tb te tp ti tf ta:Addr}
def rk:Nat→List Kd
  | 0=>[.n,.n,.p]
  | 1=>[.n,.n,.n,.p]
  | _=>[.n,.n,.d]
def kd4:Nat→String
  | 0=>"line"
  | 1=>"change"
  | 2=>"road"
  | _=>"wish"
def roB (j:Nat) (l:List Nat):Bool:=if j=3 then wiB l else okWs (rk j) (spl 32 (l.length+1) l).tail
def sp_rrT (cO:Addr):Sp:=fun vs H Q E=>∃ (l:List Nat) (j:Nat) (t:Int),vs=[.str (Sg l),.str (Str.ofString (kd4 j)),.int t]∧j<4∧l.length≤1000∧atOk t∧(roB j l=true→∀ v H',Same H H'→Q v H')∧(roB j l=false→∀ e H',Same H H'→NoR cO t e H'→E (.ref e) none H')
theorem rflatT {H:Hp} {Q:VK} {l:List Nat} {j:Nat} {t:Int} {tt:Addr} {ll:List Addr} {E:XK} {ks:List Kd} (hl:l.length≤1000) (ht:atOk t) (hks:ks.length≤10) (kt:KT K tt ll) (pr:Paired (RdrT P w K mg base cO) ks (ll.map V.ref)) (q:okWs ks (spl 32 (l.length+1) l).tail=true→∀ v H',Same H H'→Q v H')
    (qe:okWs ks (spl 32 (l.length+1) l).tail=false→∀ e H',Same H H'→NoR cO t e H'→E (.ref e) none H') :
    ∀ p,H p=none→∀ p2,upd H p (.lst (wV (spl 32 (l.length+1) l))) p2=none→sp_rwT P w K mg base cO [.ref p2,.ref tt,.int t] (upd (upd H p (.lst (wV (spl 32 (l.length+1) l)))) p2 (.lst (cutV (wV (spl 32 (l.length+1) l)) (some 1) none))) Q (xk fun e H'=>E (.ref e) none H'):=by
  intro p1 n1 p2 n2
  have short:=spl_short (c:=32) (l.length+1) l
  obtain ⟨w0,r,er⟩:=spl_cons (c:=32) (l.length+1) l
  rw [er] at q qe short n2 ⊢
  generalize z1:upd H p1 _=H1 at n2 ⊢
  obtain ⟨s1,e1⟩:=new_same z1 n1
  generalize z2:upd H1 p2 _=H2
  obtain ⟨s2,e2⟩:=new_same z2 n2
  rw [wV_cons,cut_1] at e2
  exact ⟨p2,tt,t,true,_,r,ks,rfl,e2,kt H2,pr,fun x hx=>Nat.le_trans (short x (.tail _ hx)) hl,hks,ht,fun ok p us H3 s3 hp ep pu=>q ok _ _ ((s1.trans s2).trans s3),fun ok e H3 s3 n=>qe ok e H3 ((s1.trans s2).trans s3) n⟩
set_option maxHeartbeats 4000000 in
theorem own_rrT (D:Def K mg "read_row" s_read_row) (T:Tabs K mg fn fp fd fm fs ar tl tc tr aw tb te tp ti tf ta) (F:FnsT P w K mg base cO fn fp fd fm fs) (FX_read_words:OwnX P w K mg base 6 "read_words" ["words","readers","at"] (sp_rwT P w K mg base cO)) (FX_read_wish:OwnX P w K mg base 7 "read_wish" ["row","at"] (sp_rwiT cO)):OwnX P w K mg base 8 "read_row" ["row","kind","at"] (sp_rrT cO):=by
  have g_ROW_READERS:=T.gr
  refine D.ownE sc_read_row (fun _ _ _ _ _ _ us hl=>match us,hl with|[_,_,_],_=>rfl) (fun vs H Q E h=>?_) (fun f cdv A outer s H vs Q E hr h=>?_)
  · obtain ⟨l,j,t,rfl,_⟩:=h
    rfl
  · obtain ⟨l,j,t,rfl,hj,hl,ht,q,qe⟩:=h
    have hu:=hr.units
    have hu1:(A.deeper (PyProof.Rows.envOfC "read_row" (defScope s_read_row) s.heap.objs.size f cdv)).units+1<cLine:=by omega
    have e32:Str.ofString " "=Sg [32]:=S_of _
    refine ⟨_,(pss_cons (ps_if (pt_cmpR op_eq (pv 1) pe_str (nomark _)) (pss_one (ps_ret (pe_exc (pex_fn FX_read_wish hr (pa_cX (pv 0) (pa_cX (pv 2) pa_nil)))))) pss_nil) (pss_one (ps_ret (pe_exc (pex_fn FX_read_words hr (pa_cX (pe_slice sl_X (pe_splS (pv 0) pe_str (by constructor <;> rfl)) (po_some pe_int) po_none) (pa_cX (pe_kget (K:=K) (pe_glb g_ROW_READERS) (pv 1) (by intro _ _; rfl)) (pa_cX (pv 2) pa_nil)))))))),?_⟩
    match j,hj with
    | 0,_=>
      have hne:(Str.ofString "line"=Str.ofString "wish")=False:=by simp; decide
      simp (maxSteps:=1000000) only [rEq_ss,rSlX,Nat.reduceSub,upd_same,HO.lst.injEq,Nat.reduceAdd,decide_false,tSl,tNoPart,tPart,tSeq,eZ1,if_false,Bool.false_eq_true,tIfS,tTest,tOp,tVar,tC,tRet,tNext,tCons,tNil,L2.start,mZ1,mZ0,lZ1,lZ0,List.replicate,gZ0,gZ1,oZ0,eZ0,V.int.injEq,V.bl.injEq,V.ref.injEq,V.str.injEq,aZ0,kd4,hne,tSplS,e32,tKGet,tCallx,tXE]
      exact ⟨_,rfl,32,rfl,by decide,by omega,fun p1 n1 p2 n2=>⟨_,T.kr,.ref tl,rfl,rflatT (j:=0) hl ht (by decide) T.tl (.cons ⟨fn,rfl,F.n⟩ (.cons ⟨fn,rfl,F.n⟩ (.cons ⟨fp,rfl,F.p⟩ .nil))) q qe p1 n1 p2 n2⟩⟩
    | 1,_=>
      have hne:(Str.ofString "change"=Str.ofString "wish")=False:=by simp; decide
      simp (maxSteps:=1000000) only [rEq_ss,rSlX,Nat.reduceSub,upd_same,HO.lst.injEq,Nat.reduceAdd,decide_false,tSl,tNoPart,tPart,tSeq,eZ1,if_false,Bool.false_eq_true,tIfS,tTest,tOp,tVar,tC,tRet,tNext,tCons,tNil,L2.start,mZ1,mZ0,lZ1,lZ0,List.replicate,gZ0,gZ1,oZ0,eZ0,V.int.injEq,V.bl.injEq,V.ref.injEq,V.str.injEq,aZ0,kd4,hne,tSplS,e32,tKGet,tCallx,tXE]
      exact ⟨_,rfl,32,rfl,by decide,by omega,fun p1 n1 p2 n2=>⟨_,T.kr,.ref tc,rfl,rflatT (j:=1) hl ht (by decide) T.tc (.cons ⟨fn,rfl,F.n⟩ (.cons ⟨fn,rfl,F.n⟩ (.cons ⟨fn,rfl,F.n⟩ (.cons ⟨fp,rfl,F.p⟩ .nil)))) q qe p1 n1 p2 n2⟩⟩
    | 2,_=>
      have hne:(Str.ofString "road"=Str.ofString "wish")=False:=by simp; decide
      simp (maxSteps:=1000000) only [rEq_ss,rSlX,Nat.reduceSub,upd_same,HO.lst.injEq,Nat.reduceAdd,decide_false,tSl,tNoPart,tPart,tSeq,eZ1,if_false,Bool.false_eq_true,tIfS,tTest,tOp,tVar,tC,tRet,tNext,tCons,tNil,L2.start,mZ1,mZ0,lZ1,lZ0,List.replicate,gZ0,gZ1,oZ0,eZ0,V.int.injEq,V.bl.injEq,V.ref.injEq,V.str.injEq,aZ0,kd4,hne,tSplS,e32,tKGet,tCallx,tXE]
      exact ⟨_,rfl,32,rfl,by decide,by omega,fun p1 n1 p2 n2=>⟨_,T.kr,.ref tr,rfl,rflatT (j:=2) hl ht (by decide) T.tr (.cons ⟨fn,rfl,F.n⟩ (.cons ⟨fn,rfl,F.n⟩ (.cons ⟨fd,rfl,F.d⟩ .nil))) q qe p1 n1 p2 n2⟩⟩
    | 3,_=>
      simp (maxSteps:=1000000) only [rEq_ss,rSlX,Nat.reduceSub,Nat.reduceAdd,decide_true,tSl,tNoPart,tPart,tSeq,eZ1,if_true,tIfS,tTest,tOp,tVar,tC,tRet,tNext,tCons,tNil,L2.start,mZ1,mZ0,lZ1,lZ0,List.replicate,gZ0,gZ1,oZ0,eZ0,V.int.injEq,V.bl.injEq,aZ0,kd4,tCallx,tXE]
      exact ⟨l,t,rfl,hl,ht,q,qe⟩
def kIx (l:List Nat):Option Nat:=if l.takeWhile (· != 32)=K82.w "line" then some 0 else if l.takeWhile (· != 32)=K82.w "change" then some 1 else if l.takeWhile (· != 32)=K82.w "road" then some 2 else if l.takeWhile (· != 32)=K82.w "wish" then some 3 else none
def rsF:Nat→Nat→List (List Nat)→Option Nat
  | _,_,[]=>none
  | m,a,l::rest=>match kIx l with
    | none=>some a
    | some j=>if (decide (m≤j) && roB j l)=true then rsF j (a+1) rest else some a
theorem kIx_of {l:List Nat} {j:Nat} (h:kIx l=some j):j<4∧l.takeWhile (· != 32)=K82.w (kd4 j):=by
  unfold kIx at h
  split at h
  · cases h; exact ⟨by decide,by assumption⟩
  · split at h
    · cases h; exact ⟨by decide,by assumption⟩
    · split at h
      · cases h; exact ⟨by decide,by assumption⟩
      · split at h
        · cases h; exact ⟨by decide,by assumption⟩
        · cases h
theorem kz_at {j:Nat} (h:j<4):kz[j]?=some (Str.ofString (kd4 j))∧∀ k,k<j→kz[k]?≠some (Str.ofString (kd4 j)):=by
  have h1:∀ k:Fin 1,kz[k.val]?≠some (Str.ofString "change"):=by decide
  have h2:∀ k:Fin 2,kz[k.val]?≠some (Str.ofString "road"):=by decide
  have h3:∀ k:Fin 3,kz[k.val]?≠some (Str.ofString "wish"):=by decide
  match j,h with
  | 0,_=>exact ⟨rfl,fun k hk=>absurd hk (Nat.not_lt_zero _)⟩
  | 1,_=>exact ⟨rfl,fun k hk=>h1 ⟨k,hk⟩⟩
  | 2,_=>exact ⟨rfl,fun k hk=>h2 ⟨k,hk⟩⟩
  | 3,_=>exact ⟨rfl,fun k hk=>h3 ⟨k,hk⟩⟩
theorem inV_strs {z:Str} {l:List Str}:inV (.str z) (l.map V.str)=decide (z∈l):=by
  unfold inV
  rw [List.any_map]
  by_cases h:z∈l
  · rw [decide_eq_true h,List.any_eq_true]
    exact ⟨z,h,by simp [eqV]⟩
  · rw [decide_eq_false h,List.any_eq_false]
    intro y hy
    simp only [Function.comp,eqV]
    intro e
    exact h (by have:y=z:=by simpa using e
                rw [← this]; exact hy)
theorem kinds_in {l:List Nat} {m:Nat} (hm:m≤3):decide (Sg (l.takeWhile (· != 32))∈kz.drop m)=(match kIx l with|some j=>decide (m≤j)|none=>false):=by
  have key:∀ (z:String),(Sg (l.takeWhile (· != 32))=Str.ofString z)=(l.takeWhile (· != 32)=K82.w z):=fun z=>by rw [S_of,S_eq]
  have d1:K82.w "line"≠K82.w "change"∧K82.w "line"≠K82.w "road"∧K82.w "line"≠K82.w "wish"∧K82.w "change"≠K82.w "road"∧K82.w "change"≠K82.w "wish"∧K82.w "road"≠K82.w "wish":=by decide
  unfold kIx
  generalize hz:l.takeWhile (· != 32)=z at key
  obtain ⟨a1,a2,a3,a4,a5,a6⟩:=d1
  have hdrop:∀ m,m≤3→kz.drop m=([["line","change","road","wish"],["change","road","wish"],["road","wish"],["wish"]]:List (List Str)).getD m []:=by
    intro m hm
    match m,hm with
    | 0,_=>rfl
    | 1,_=>rfl
    | 2,_=>rfl
    | 3,_=>rfl
  rw [hdrop m hm]
  by_cases h1:z=K82.w "line"
  · subst h1
    match m,hm with
    | 0,_=>simp [key,a1,a2,a3]
    | 1,_=>simp [key,a1,a2,a3]
    | 2,_=>simp [key,a1,a2,a3]
    | 3,_=>simp [key,a1,a2,a3]
  by_cases h2:z=K82.w "change"
  · subst h2
    match m,hm with
    | 0,_=>simp [key,h1,a4,a5]
    | 1,_=>simp [key,h1,a4,a5]
    | 2,_=>simp [key,h1,a4,a5]
    | 3,_=>simp [key,h1,a4,a5]
  by_cases h3:z=K82.w "road"
  · subst h3
    match m,hm with
    | 0,_=>simp [key,h1,h2,a6]
    | 1,_=>simp [key,h1,h2,a6]
    | 2,_=>simp [key,h1,h2,a6]
    | 3,_=>simp [key,h1,h2,a6]
  by_cases h4:z=K82.w "wish"
  · subst h4
    match m,hm with
    | 0,_=>simp [key,h1,h2,h3]
    | 1,_=>simp [key,h1,h2,h3]
    | 2,_=>simp [key,h1,h2,h3]
    | 3,_=>simp [key,h1,h2,h3]
  match m,hm with
  | 0,_=>simp [key,h1,h2,h3,h4]
  | 1,_=>simp [key,h1,h2,h3,h4]
  | 2,_=>simp [key,h1,h2,h3,h4]
  | 3,_=>simp [key,h1,h2,h3,h4]
theorem told4 (q:Nat→Addr) {j:Nat} (h:j<4):valV (told q) (Sum.inr (Str.ofString (kd4 j)))=some (.ref (q j)):=by
  match j,h with
  | 0,_=>rfl
  | 1,_=>rfl
  | 2,_=>rfl
  | 3,_=>rfl
theorem cut_kz4 {j:Nat} (h:j<4):cutV (kz.map V.str) (some ((j:Nat):Int)) none=(kz.drop j).map V.str:=by
  match j,h with
  | 0,_=>rfl
  | 1,_=>rfl
  | 2,_=>rfl
  | 3,_=>rfl
end
end K82
namespace K82
open PySem L2
section
variable {P:Program} {w:World} {K:PySem.W.Frag} {mg:Str→Option Value} {base:Heap} {C R cO:Addr}
theorem rsF_cons {m a:Nat} {l:List Nat} {rest:List (List Nat)}:rsF m a (l::rest)=(match kIx l with|none=>some a|some j=>if (decide (m≤j) && roB j l)=true then rsF j (a+1) rest else some a):=rfl
def sp_rsT (cO:Addr):Sp:=fun vs H Q E=>∃ (R:Addr) (l0:List Nat) (rows:List (List Nat)),vs=[.ref R]∧H R=some (.lst (wV (l0::rows)))∧rows.length≤100∧(∀ x∈rows,x.length≤1000) ∧
  (rsF 0 1 rows=none→∀ T q H',Same H H'→H' T=some (.dK (told q))→Q (.ref T) H')∧(∀ a,rsF 0 1 rows=some a→∀ e H',Same H H'→NoR cO ((a:Nat):Int) e H'→E (.ref e) none H')
def RInT (H:Hp) (q:Nat→Addr) (R T:Addr) (rows:List (List Nat)) (K:PySem.W.Frag) (i:Nat) (σ:St) (H':Hp):Prop:=∃ kl m v3 v4 v5,σ=[some (.ref R),some (.ref T),some (.ref kl),v3,v4,v5]∧Keep [q 0,q 1,q 2,q 3] H H' ∧
  SqT K H' kl ((kz.drop m).map V.str)∧m≤3∧rsF m (max i 1) (rows.drop (i - 1))=rsF 0 1 rows∧∀ j,j<4→∃ us,H' (q j)=some (.lst us)∧us.length≤i
set_option maxHeartbeats 4000000 in
theorem own_rsT {ak:Addr} (D:Def K mg "read_rows" s_read_rows) (hb:Blt mg) (hen:mg "enumerate"=none) (g_KINDS:∃ u,mg "KINDS"=some u∧RelV (.ref ak) u) (kk:KTs K ak kz) (hc_NoRow:mg "NoRow"=some (.ref cO)) (E_NoRow:OwnE P w K mg base 1 cO ["self","at"] (sp_xrow cO)) (FX_read_row:OwnX P w K mg base 8 "read_row" ["row","kind","at"] (sp_rrT cO)):OwnX P w K mg base 9 "read_rows" ["rows"] (sp_rsT cO):=by
  refine D.ownE sc_read_rows (fun _ _ _ _ _ _ us hl=>match us,hl with|[_],_=>rfl) (fun vs H Q E h=>?_) (fun f cdv A outer s H vs Q E hr h=>?_)
  · obtain ⟨R,l0,rows,rfl,_⟩:=h
    rfl
  · obtain ⟨R,l0,rows,rfl,eR,few,short,q,qe⟩:=h
    have hu:=hr.units
    have hu1:(A.deeper (PyProof.Rows.envOfC "read_rows" (defScope s_read_rows) s.heap.objs.size f cdv)).units+1<cLine:=by omega
    have e32:Str.ofString " "=Sg [32]:=S_of _
    refine ⟨_,(pss_cons (ps_st (i:=1) sc_read_rows.nd rfl (pe_callTy (call_dictP rfl) rfl (hb _ (by decide)) bt_dict (pa_cX (pe_comp ["kind"] [] [] rfl cs_read_rows_0 (pi_tupK K (pe_glb g_KINDS)) (fun _ _ _ _=>(pg_name (i:=0) cs_read_rows_0.nd rfl (by first|exact Or.inl rfl|exact Or.inr rfl))) (fun _ _ _ _=>pf_nil) (fun _ _ _ _=>(pe_tup (pa_cX (pv 0) (pa_cX (pe_lst pa_nil) pa_nil))))) pa_nil))) (pss_cons (ps_st (i:=2) sc_read_rows.nd rfl (pe_glb g_KINDS)) (pss_cons (ps_for (passes_ex rfl rfl) rfl (pi_enum K rfl hen (pa_cX (pv 0) pa_nil)) (pg_seqX (n:=2) rfl (pgs_cons (pg_name (i:=3) sc_read_rows.nd rfl (by first|exact Or.inl rfl|exact Or.inr rfl)) (pgs_cons (pg_name (i:=4) sc_read_rows.nd rfl (by first|exact Or.inl rfl|exact Or.inr rfl)) pgs_nil))) (pss_one (ps_if (pt_cmpR op_gt (pv 3) pe_int (nomark _)) (pss_cons (ps_st (i:=5) sc_read_rows.nd rfl (pe_ix (ix_get hu1) (pe_part1 (pv 4) pe_str (by constructor <;> rfl)) pe_int (fun _ _=>rfl))) (pss_cons (ps_if (pt_cmpR (op_notinK K) (pv 5) (pv 2) rfl) (pss_one (ps_exc (psx_raise (pn_newI E_NoRow hr hc_NoRow (pa_cX (pv 3) pa_nil))))) pss_nil) (pss_cons (ps_st (i:=2) sc_read_rows.nd rfl (pe_slice (sl_tupK K) (pe_glb g_KINDS) (po_some (pe_tix (K:=K) (pe_glb g_KINDS) (pv 5) (by constructor <;> rfl))) po_none)) (pss_one (ps_expr (pe_lm PySem.F.slot_list_append PySem.F.type_list_append mt_append (pe_ix (ix_get hu1) (pv 1) (pv 5) (fun _ _=>rfl)) (pa_cX (pe_exc (pex_fn FX_read_row hr (pa_cX (pv 4) (pa_cX (pv 5) (pa_cX (pv 3) pa_nil))))) pa_nil))))))) pss_nil))) (pss_one (ps_ret (pv 1)))))),?_⟩
    refine use1 (fun σ H'=>∃ T q,σ=[some (.ref R),some (.ref T),none,none,none,none]∧Same H H'∧H' T=some (.dK (told q))∧H T=none∧(∀ j,j<4→H (q j)=none∧H' (q j)=some (.lst []))∧(∀ j k,j<4→k<4→j≠k→q j≠q k)) ?_ (fun X hX=>?_)
    rotate_left
    · simp (maxSteps:=1000000) only [tComp_eq,Nat.reduceSub,Nat.reduceAdd,tSeq,tC,tAsg,gName,tCons,tNil,tCB,L2.start,mZ1,mZ0,lZ1,lZ0,List.replicate,List.cons_append,List.nil_append,sZ0,sZ1,eZ0,V.ref.injEq,iTup]
      refine ⟨⟨_,kk.sq⟩,comp_tup (xs:=kz.map V.str) (by rw [sizeLine_eq]; decide) (KIn H) (fun D hD=>⟨fun _=>0,fun _=>0,rfl,.upd_new hD,upd_same,(fun j hj=>absurd hj (Nat.not_lt_zero _)),fun j k hj=>absurd hj (Nat.not_lt_zero _)⟩) ?_ ?_ ?_⟩
      · rintro D i acc H2 hD hi ⟨p,q,e,s2,eD,_⟩
        exact ⟨eD,kk.sq,by rw [e]; simp⟩
      · rintro D i x acc H2 hD hx I
        rw [List.getElem?_map] at hx
        obtain ⟨z,hz,rfl⟩:=Option.map_eq_some_iff.mp hx
        simp (maxSteps:=1000000) only [Nat.reduceAdd,tYes,cSt,List.drop_succ_cons,List.drop_zero,if_true,tVar,gName,tCons,tNil,tLst,tTup,mZ0,lZ1,lZ0,List.replicate,gZ0,sZ0,oZ0,eZ0,true_and,aZ0]
        refine ⟨by rw [sizeLine_eq]; decide,fun y hy=>⟨by rw [sizeLine_eq]; decide,fun x hx=>I.step hD hz hy hx⟩⟩
      · rintro D acc H2 hD ⟨p,q',e,s2,eD,a,dist⟩
        have a0:=a 0 (by decide)
        have a1:=a 1 (by decide)
        have a2:=a 2 (by decide)
        have a3:=a 3 (by decide)
        simp (maxSteps:=1000000) only [cZ0,eZ1,eZ0,V.ref.injEq,and_true,rDictP]
        refine ⟨[p 0,p 1,p 2,p 3],by rw [eD,e]; rfl,told q',?_,(by change 4≤1000; decide),fun T hT=>?_⟩
        · refine .cons ?_ (.cons ?_ (.cons ?_ (.cons ?_ .nil)))
          · obtain ⟨z,h1,h2,_⟩:=a0
            cases h1
            exact h2
          · obtain ⟨z,h1,h2,_⟩:=a1
            cases h1
            exact h2
          · obtain ⟨z,h1,h2,_⟩:=a2
            cases h1
            exact h2
          · obtain ⟨z,h1,h2,_⟩:=a3
            cases h1
            exact h2
        · rw [told_fold]
          refine hX _ _ ⟨T,q',rfl,s2.trans (.upd_new hT),upd_same,s2.free hT,fun j hj=>?_,fun j k hj hk=>dist j k hj hk⟩
          obtain ⟨z,h1,h2,h3,h4,h5,h6⟩:=a j hj
          exact ⟨h6,(Same.upd_new hT) _ _ h3⟩
    rintro σ H1 ⟨T,q',rfl,s1,eT,nT',hq,dist⟩
    have eR1:=s1 _ _ eR
    have inQ:∀ b,b∈[q' 0,q' 1,q' 2,q' 3]→∃ j,j<4∧b=q' j:=fun b hb=>by
      simp only [List.mem_cons,List.not_mem_nil,or_false] at hb
      rcases hb with h|h|h|h
      · exact ⟨0,by decide,h⟩
      · exact ⟨1,by decide,h⟩
      · exact ⟨2,by decide,h⟩
      · exact ⟨3,by decide,h⟩
    have mq:∀ j,j<4→q' j∈[q' 0,q' 1,q' 2,q' 3]:=fun j hj=>by
      match j,hj with
      | 0,_=>exact .head _
      | 1,_=>exact .tail _ (.head _)
      | 2,_=>exact .tail _ (.tail _ (.head _))
      | 3,_=>exact .tail _ (.tail _ (.tail _ (.head _)))
    have whole:∀ H',Keep [q' 0,q' 1,q' 2,q' 3] H1 H'→Same H H':=fun H' k b o h=>k b o (s1 b o h) fun hb=>by
      obtain ⟨j,hj,rfl⟩:=inQ b hb
      rw [(hq j hj).1] at h
      cases h
    have eTk:∀ H',Keep [q' 0,q' 1,q' 2,q' 3] H1 H'→H' T=some (.dK (told q')):=fun H' k=>k _ _ eT fun hb=>by
      obtain ⟨j,hj,e⟩:=inQ _ hb
      have:=(hq j hj).2
      rw [← e,eT] at this
      cases this
    simp (maxSteps:=1000000) only [tFor_eq,cZ0,tSeq,tVar,tC,tAsg,gName,tCons,tNil,gZ0,sZ0,sZ1,oZ0,eZ0,V.ref.injEq,and_true,iEnum]
    refine ⟨⟨_,SqL.of eR1⟩,for_enum (xs:=wV (l0::rows)) (RInT H1 q' R T rows K) ⟨ak,0,none,none,none,rfl,.refl,kk.sq,by decide,rfl,fun j hj=>⟨[],(hq j hj).2,Nat.zero_le _⟩⟩ ?_ ?_ ?_⟩
    · rintro i σ H2 hi ⟨kl,mm,v3,v4,v5,rfl,k2,_⟩
      refine SqL.of (k2 _ _ eR1 fun hm=>?_)
      obtain ⟨j,hj,e⟩:=inQ _ hm
      have:=(hq j hj).1
      rw [← e,eR] at this
      cases this
    · rintro i x pp σ H2 hx hp ⟨kl,mm,v3,v4,v5,rfl,k2,skl,hm,ql,us4⟩
      have epp:upd H2 pp (.tup [.int (i:Int),x]) pp=some (.tup [.int (i:Int),x]):=upd_same
      have s3:Same H2 (upd H2 pp (.tup [.int (i:Int),x])):=.upd_new hp
      generalize upd H2 pp (.tup [.int (i:Int),x])=H3 at epp s3 ⊢
      have k3:=k2.trans s3.keep
      have skl3:=s3.seqT skl
      cases i with
      | zero=>
        simp (maxSteps:=1000000) only [gSeqX,tBL,rGet,seqO_t,gCons,gNil,Nat.reduceAdd,rAppend,tSl,tNoPart,tPart,cZ0,tSeq,eZ1,tIfS,tTest,tOp,tVar,tC,rI0,tAsg,gName,tNext,tCons,tNil,tDrop,lZ1,lZ0,gZ0,gZ1,sZ0,sZ1,oZ0,eZ0,V.int.injEq,V.bl.injEq,V.ref.injEq,and_true,true_and,and_assoc,epp]
        rw [if_neg (by decide)]
        exact ⟨kl,mm,_,_,_,rfl,k3,skl3,hm,ql,fun j hj=>let ⟨us,e,p⟩:=us4 j hj; ⟨us,s3 _ _ e,by omega⟩⟩
      | succ i=>
        obtain ⟨l,hl,rfl⟩:=wV_get hx
        rw [gZ1] at hl
        have hmem:=List.mem_of_getElem? hl
        have hlr:=short l hmem
        have hilt:=(List.getElem?_eq_some_iff.mp hl).1
        have hat:atOk (((i+1:Nat):Int)):=⟨by omega,by omega⟩
        have hrest:rows.drop i=l::rows.drop (i+1):=by
          rw [List.drop_eq_getElem_cons hilt,(List.getElem?_eq_some_iff.mp hl).2]
        rw [Nat.add_sub_cancel,hrest,show max (i+1) 1=i+1 by omega] at ql
        rw [rsF_cons] at ql
        simp (maxSteps:=1000000) only [gSeqX,tBL,rGet,getO_t,seqO_t,gCons,gNil,atI_0,upd_same,upd_upd,Nat.reduceAdd,ne_eq,rAppend,tSl,tNoPart,tPart,cZ0,tSeq,eZ1,tIfS,tTest,tOp,tVar,tC,rI0,tAsg,gName,tNext,tCons,tNil,tDrop,lZ1,lZ0,gZ0,gZ1,sZ0,sZ1,oZ0,eZ0,V.int.injEq,V.bl.injEq,V.ref.injEq,V.str.injEq,and_true,true_and,and_assoc,epp,tPart1,e32,S_eq,tCallx,tRaise,tNewI,tSE,tXE,sp_xrow]
        rw [if_pos (decide_eq_true (by omega))]
        refine ⟨by omega,?_⟩
        intro ya yb
        intro p4 n4
        generalize z4:upd H3 p4 _=H4
        obtain ⟨s4,e4⟩:=new_same z4 n4
        have k4:=k3.trans s4.keep
        refine ⟨kl,_,rfl,.inr (s4.seqT skl3),rfl,flats mm,_,rfl,?_⟩
        have hin:inV (.str (Sg (l.takeWhile (· != 32)))) ((kz.drop mm).map V.str)=(match kIx l with|some j=>decide (mm≤j)|none=>false):=by rw [inV_strs,kinds_in hm]; try (cases kIx l <;> rfl)
        cases hk:kIx l with
        | none=>
          rw [hk] at ql hin
          rw [hin]
          exact iteT (row_fall hat.log (whole _ k4) (qe _ ql.symm))
        | some j=>
          rw [hk] at ql hin
          obtain ⟨hj4,hjw⟩:=kIx_of hk
          dsimp only at ql hin
          by_cases hmj':¬ mm≤j
          · rw [decide_eq_false hmj'] at ql hin
            rw [hin]
            exact iteT (row_fall hat.log (whole _ k4) (qe _ ql.symm))
          have hmj:mm≤j:=Decidable.not_not.mp hmj'
          rw [decide_eq_true hmj] at ql hin
          rw [Bool.true_and] at ql
          rw [hin]
          refine iteF ?_
          rw [hjw,← S_of]
          simp (maxSteps:=1000000) only [ne_eq,eZ1,tVar,tC,gZ0,gZ1,oZ0,eZ0,V.int.injEq,V.ref.injEq,V.str.injEq,tTIx]
          refine ⟨kz,kk,j,(kz_at hj4).1,(kz_at hj4).2,?_⟩
          have fin:∀ (kl':Addr) (H5:Hp),Same H4 H5→SqT K H5 kl' ((kz.drop j).map V.str)→∃ x_1,H5 T=some x_1∧∃ x_2,getO x_1 (V.str (Str.ofString (kd4 j)))=some x_2∧∃ p,x_2=V.ref p∧∃ x_3,H5 p=some (HO.lst x_3)∧sp_rrT cO [V.str (Sg l),V.str (Str.ofString (kd4 j)),V.int ((i+1:Nat):Int)] H5 (fun x_4 H1_2=>∃ l_1,x_2=V.ref l_1∧∃ x_5,H1_2 l_1=some (HO.lst x_5)∧x_5.length<sizeLine∧RInT H1 q' R T rows K (i+1+1) [some (V.ref R),some (V.ref T),some (V.ref kl'),some (V.int ((i+1:Nat):Int)),some (V.str (Sg l)),some (V.str (Str.ofString (kd4 j)))] (upd H1_2 l_1 (HO.lst (x_5++[x_4])))) (xk fun e H'=>E (Value.ref e) none H'):=by
            intro kl' H5 s5 skl5
            have k5:=k4.trans s5.keep
            have s35:=s3.trans (s4.trans s5)
            obtain ⟨us,eus,hus⟩:=us4 j hj4
            have eus5:=s35 _ _ eus
            refine ⟨_,eTk _ k5,_,told4 q' hj4,_,rfl,us,eus5,l,j,_,rfl,hj4,hlr,hat,fun ok v H6 s6=>⟨_,rfl,us,s6 _ _ eus5,by rw [sizeLine_eq]; omega,kl',j,_,_,_,rfl,(k5.trans s6.keep).upd (.inl (mq _ hj4)),sqT_upd (s6.seqT skl5) (s6 _ _ eus5),by omega,?_,fun k hk'=>?_⟩,fun ok e H6 s6 n=>qe (i+1) ?_ e H6 ((whole _ k5).trans s6) n⟩
            · rw [ok,if_pos rfl] at ql
              rw [show max (i+1+1) 1=i+1+1 by omega,show i+1+1 - 1=i+1 by omega]
              exact ql
            · obtain ⟨uk,euk,huk⟩:=us4 k hk'
              by_cases hkj:k=j
              · subst hkj
                refine ⟨us++[v],upd_same,?_⟩
                rw [List.length_append,List.length_singleton]
                omega
              · exact ⟨uk,by rw [upd_ne (dist k j hk' hj4 hkj)]; exact (s35.trans s6) _ _ euk,by omega⟩
            · rw [ok,if_neg (by decide)] at ql
              exact ql.symm
          refine ⟨ak,_,rfl,kk.sq,fun h=>fin ak H4 (.refl _) ?_,fun _ p hp=>fin p _ (.upd_new hp) (SqT.of ?_)⟩
          · rw [← cut_kz4 hj4,cutV_whole h]
            exact kk.sq
          · rw [upd_same,cut_kz4 hj4]
    · rintro σ H2 ⟨kl,mm,v3,v4,v5,rfl,k2,skl,hm,ql,us4⟩
      have hql:rsF 0 1 rows=none:=by
        rw [← ql]
        have:rows.drop ((wV (l0::rows)).length - 1)=[]:=by simp [wV]
        rw [this]
        rfl
      simp (maxSteps:=1000000) only [tVar,tRet,gZ0,gZ1,oZ0,eZ0]
      exact q hql _ _ _ (whole _ k2) (eTk _ k2)
end
end K82
namespace K82
open PySem L2
section
variable {P:Program} {w:World} {K:PySem.W.Frag} {mg:Str→Option Value} {base:Heap} {C R cO cM:Addr}
theorem nT_step (n:Nat) (h:¬ n<10):nT n=nT (n / 10)++[48+n % 10]:=by
  have e:=nT_app (n:=n / 10) (d:=n % 10) (by omega) (by omega)
  rw [show 10 * (n / 10)+n % 10=n by omega,nT_1 (d:=n % 10) (by omega)] at e
  exact e
theorem nT_ne (n:Nat):nT n≠[]:=by
  obtain ⟨c,r,e,_⟩:=nT_hd n
  rw [e]
  exact fun z=>nomatch z
theorem nT_inj:∀ {a b:Nat},nT a=nT b→a=b:=by
  intro a
  induction a using Nat.strongRecOn with
  | ind a ih=>
    intro b h
    have one:∀ {l:List Nat} {c d:Nat},l++[c]=[d]→l=[]:=fun {l c d} e=>by
      cases l with
      | nil=>rfl
      | cons x l=>have:=congrArg List.length e; simp at this
    by_cases ha:a<10
    · by_cases hb:b<10
      · rw [nT_1 ha,nT_1 hb] at h
        have:=(List.cons.inj h).1
        omega
      · rw [nT_1 ha,nT_step b hb] at h
        exact absurd (one h.symm) (nT_ne _)
    · by_cases hb:b<10
      · rw [nT_1 hb,nT_step a ha] at h
        exact absurd (one h) (nT_ne _)
      · rw [nT_step a ha,nT_step b hb] at h
        have h1:=List.append_inj' h rfl
        have h2:=ih (a / 10) (by omega) h1.1
        have h3:=(List.cons.inj h1.2).1
        omega
def sp_withinI:Sp:=fun vs H Q _=>∃ i a b:Int,vs=[.int i,.int a,.int b]∧Q (.bl (decide (a≤i) && decide (i≤b))) H
theorem own_withinI (D:Def K mg "is_within" s_is_within) (F_is_whole:Own P w K mg base 1 "is_whole" ["thing"] sp_whole):Own P w K mg base 2 "is_within" ["thing","least","most"] sp_withinI:=by
  refine D.own sc_is_within (fun _ _ _ _ _ _ us hl=>match us,hl with|[_,_,_],_=>rfl) (fun vs H Q E h=>?_) (fun f cdv A outer s H vs Q E hr h=>?_)
  · obtain ⟨v,a,b,rfl,_⟩:=h
    rfl
  · obtain ⟨i,a,b,rfl,q⟩:=h
    refine ⟨_,(pss_one (ps_ret (pe_and (pe_fn F_is_whole hr (pa_cX (pv 0) pa_nil)) (pe_one (pe_chain op_le op_le (pv 1) (pv 0) (pv 2)))))),?_⟩
    simp (maxSteps:=1000000) only [Nat.reduceSub,Nat.reduceAdd,cZ0,eZ1,if_true,tVar,rI0,tRet,tAndV,tCall,tCons,tNil,tChain,L2.start,mZ1,mZ0,lZ1,lZ0,List.replicate,gZ0,gZ1,oZ0,eZ0,V.int.injEq,V.bl.injEq,and_true,aZ0,sp_whole]
    by_cases h1:a≤i
    · simp only [decide_eq_true h1,Bool.true_and] at q
      rw [decide_eq_true h1]
      exact iteT q
    · simp only [decide_eq_false h1,Bool.false_and] at q
      rw [decide_eq_false h1]
      exact iteF q
def offB (ns:List Int):Prop:=ns.length=10∧∃ (i:Nat) (n:Int) (q:String × Int × Int),ns[i]?=some n∧bds[i]?=some q∧¬ (q.2.1≤n∧n≤q.2.2)
theorem bds_few:∀ q∈bds,(Str.ofString q.1).length≤1000∧q.2.1.natAbs.log2<1920∧q.2.2.natAbs.log2<1920:=by decide +kernel
def sp_rbmB (cM:Addr):Sp:=fun vs H _ E=>∃ (p:Addr) (ns:List Int),vs=[.ref p]∧H p=some (.lst (ns.map V.int))∧offB ns∧∀ e H',Same H H'→H' e=some (XO e cM none)→E (.ref e) none H'
def LZ (H:Hp) (p:Addr) (ns:List Int) (i:Nat) (σ:St) (H':Hp):Prop:=Same H H'∧(∀ j,j<i→∀ n (q:String × Int × Int),ns[j]?=some n→bds[j]?=some q→q.2.1≤n∧n≤q.2.2)∧∃ v1 v2 v3 v4 v5,σ=[some (.ref p),v1,v2,v3,v4,v5]
set_option maxHeartbeats 4000000 in
theorem own_rbmB {a:Addr} {bs:List Addr} (D:Def K mg "refuse_bad_measures" s_refuse_bad_measures) (hb:Blt mg) (hzip:mg "zip"=none) (B:BdAt K mg a bs) (hc_BadMeasures:mg "BadMeasures"=some (.ref cM)) (Z_BadMeasures:XPl K cM) (F_is_within:Own P w K mg base 2 "is_within" ["thing","least","most"] sp_withinI):OwnX P w K mg base 3 "refuse_bad_measures" ["numbers"] (sp_rbmB cM):=by
  have g_BOUNDS:=B.g
  refine D.ownE sc_refuse_bad_measures (fun _ _ _ _ _ _ us hl=>match us,hl with|[_],_=>rfl) (fun vs H Q E h=>?_) (fun f cdv A outer s H vs Q E hr h=>?_)
  · obtain ⟨p,ws,rfl,_⟩:=h
    rfl
  · obtain ⟨p,ns,rfl,ep,⟨hl,hoff⟩,qe⟩:=h
    have hu:=hr.units
    have hu1:(A.deeper (PyProof.Rows.envOfC "refuse_bad_measures" (defScope s_refuse_bad_measures) s.heap.objs.size f cdv)).units+1<cLine:=by omega
    refine ⟨_,(pss_one (ps_for (passes_ex rfl rfl) rfl (pi_zip K rfl hzip (pa_cX (pv 0) (pa_cX (pe_glb g_BOUNDS) pa_nil))) (pg_seqX (n:=2) rfl (pgs_cons (pg_name (i:=1) sc_refuse_bad_measures.nd rfl (by first|exact Or.inl rfl|exact Or.inr rfl)) (pgs_cons (pg_name (i:=2) sc_refuse_bad_measures.nd rfl (by first|exact Or.inl rfl|exact Or.inr rfl)) pgs_nil))) (pss_cons (ps_st (i:=3) sc_refuse_bad_measures.nd rfl (pe_ix (ix_tupK K) (pv 2) pe_int (fun _ _=>rfl))) (pss_cons (ps_st (i:=4) sc_refuse_bad_measures.nd rfl (pe_ix (ix_tupK K) (pv 2) pe_int (fun _ _=>rfl))) (pss_cons (ps_st (i:=5) sc_refuse_bad_measures.nd rfl (pe_ix (ix_tupK K) (pv 2) pe_int (fun _ _=>rfl))) (pss_one (ps_if (pt_not (pt_truX (pe_fn F_is_within hr (pa_cX (pv 1) (pa_cX (pv 4) (pa_cX (pv 5) pa_nil)))))) (pss_one (ps_exc (psx_raise (pn_new Z_BadMeasures.ex Z_BadMeasures.kp hc_BadMeasures (pa_cX (pe_fstr (pj_txt (pv 3) (pj_str 24 (by kernel_rfl) (pj_int (pv 4) (pj_str 4 (by kernel_rfl) (pj_int (pv 5) pj_nil)))))) pa_nil))))) pss_nil))))))),?_⟩
    simp (maxSteps:=1000000) only [tFor_eq,Nat.reduceSub,Nat.reduceAdd,cZ0,eZ1,tVar,tC,tCons,tNil,L2.start,mZ1,mZ0,lZ1,lZ0,List.replicate,List.cons_append,List.nil_append,gZ0,oZ0,eZ0,V.ref.injEq,and_true,and_assoc,iZip]
    refine ⟨⟨_,SqL.of ep⟩,⟨_,B.t H⟩,for_zip (xs:=ns.map V.int) (ys:=bs.map V.ref) (by rw [List.length_map,List.length_map,hl,B.l]; exact Nat.le_refl _) (LZ H p ns) ⟨.refl _,(fun j z=>nomatch z),_,_,_,_,_,rfl⟩ ?_ ?_ ?_⟩
    · rintro i σ H' _ ⟨s',_⟩
      exact ⟨SqL.of (s' _ _ ep),B.t H'⟩
    · rintro i x y pp σ H' hx hy np ⟨s',ok',v1,v2,v3,v4,v5,rfl⟩
      rw [List.getElem?_map] at hx hy
      obtain ⟨n,hn,rfl⟩:=Option.map_eq_some_iff.mp hx
      obtain ⟨b,hb',rfl⟩:=Option.map_eq_some_iff.mp hy
      have hi10:i<bds.length:=by
        have:=(List.getElem?_eq_some_iff.mp hn).1
        have h10:bds.length=10:=rfl
        omega
      have hq:bds[i]?=some bds[i]:=List.getElem?_eq_getElem hi10
      have hbt:=B.e i b _ hb' hq
      have epp:upd H' pp (.tup [.int n,.ref b]) pp=some (.tup [.int n,.ref b]):=upd_same
      have s2:Same H (upd H' pp (.tup [.int n,.ref b])):=s'.upd (s'.free np)
      generalize upd H' pp (.tup [.int n,.ref b])=H2 at epp s2 ⊢
      simp (maxSteps:=1000000) only [gSeqX,tTruX,truX_b,seqO_t,gCons,gNil,upd_upd,Nat.reduceAdd,rIxT,cZ0,tSeq,eZ1,tIfS,tNot,tOp,tVar,tC,tAsg,gName,tNext,tCall,tCons,tNil,lZ1,lZ0,gZ0,gZ1,sZ0,sZ1,oZ0,eZ0,V.int.injEq,V.ref.injEq,and_true,true_and,and_assoc,aZ0,epp,tRaise,tNew0,tFs,tJi,tJn,tJs,sp_withinI,tSE]
      obtain ⟨z1,z2,z3⟩:=bds_few _ (List.getElem_mem hi10)
      refine ⟨_,hbt H2,_,rfl,_,hbt H2,_,rfl,_,hbt H2,_,rfl,_,rfl,_,rfl,?_⟩
      by_cases hk:bds[i].2.1≤n∧n≤bds[i].2.2
      · rw [decide_eq_true hk.1,decide_eq_true hk.2]
        refine iteF ⟨s2,fun j hj v qq h1 h2=>?_,_,_,_,_,_,rfl⟩
        by_cases hji:j=i
        · subst hji
          rw [hn] at h1
          rw [hq] at h2
          cases h1
          cases h2
          exact hk
        · exact ok' j (by omega) v qq h1 h2
      · have hkb:(decide (bds[i].2.1≤n) && decide (n≤bds[i].2.2))=false:=by
          rw [Bool.and_eq_false_iff,decide_eq_false_iff_not,decide_eq_false_iff_not]
          exact Decidable.not_and_iff_or_not.mp hk
        rw [hkb]
        exact iteT ⟨_,rfl,z1,_,rfl,z2,_,rfl,z3,fun _=>⟨by decide,fun e he=>qe e _ (s2.upd (s2.free he)) upd_same⟩⟩
    · rintro σ H' ⟨s',ok',_⟩
      obtain ⟨i,n,q,h1,h2,h3⟩:=hoff
      exact absurd (ok' i (by rw [List.length_map]; exact (List.getElem?_eq_some_iff.mp h1).1) n q h1 h2) h3
def sp_minitB (cM:Addr):Sp:=fun vs H _ E=>∃ (x:Addr) (m:Ms),vs=[.ref x,.int m.hands,.int m.lag,.int m.miss,.int m.each,.int m.count,.int m.room,.int m.places,.int m.window,.int m.wait,.int m.keep]∧offB m.l∧∀ e H',Same H H'→H' e=some (XO e cM none)→E (.ref e) none H'
set_option maxHeartbeats 8000000 in
theorem own_minitB (D:DefI K C "Measures.__init__" s_Measures___init__) (FX_refuse_bad_measures:OwnX P w K mg base 3 "refuse_bad_measures" ["numbers"] (sp_rbmB cM)):OwnIX P w K mg base 4 C ["self","hands","lag","miss","raise_each","count","room","places","window","wait","keep"] (sp_minitB cM):=by
  refine D.ownE sc_Measures___init__ (fun _ _ _ _ _ _ us hl=>by
    obtain ⟨b0,u0,rfl,h0⟩:=cons_of hl
    obtain ⟨b1,u1,rfl,h1⟩:=cons_of h0
    obtain ⟨b2,u2,rfl,h2⟩:=cons_of h1
    obtain ⟨b3,u3,rfl,h3⟩:=cons_of h2
    obtain ⟨b4,u4,rfl,h4⟩:=cons_of h3
    obtain ⟨b5,u5,rfl,h5⟩:=cons_of h4
    obtain ⟨b6,u6,rfl,h6⟩:=cons_of h5
    obtain ⟨b7,u7,rfl,h7⟩:=cons_of h6
    obtain ⟨b8,u8,rfl,h8⟩:=cons_of h7
    obtain ⟨b9,u9,rfl,h9⟩:=cons_of h8
    obtain ⟨b10,u10,rfl,h10⟩:=cons_of h9
    obtain rfl:=List.length_eq_zero_iff.mp h10
    rfl) (fun vs H Q E h=>?_) (fun f cdv A outer s H vs Q E hr h=>?_)
  · obtain ⟨x,m,rfl,_⟩:=h
    rfl
  · obtain ⟨x,m,rfl,hi,qe⟩:=h
    refine ⟨_,(pss_cons (ps_expr (pe_exc (pex_fn FX_refuse_bad_measures hr (pa_cX (pe_lst (pa_cX (pv 1) (pa_cX (pv 2) (pa_cX (pv 3) (pa_cX (pv 4) (pa_cX (pv 5) (pa_cX (pv 6) (pa_cX (pv 7) (pa_cX (pv 8) (pa_cX (pv 9) (pa_cX (pv 10) pa_nil))))))))))) pa_nil)))) (pss_cons ps_never (pss_cons ps_never (pss_cons ps_never (pss_cons ps_never (pss_cons ps_never (pss_cons ps_never (pss_cons ps_never (pss_cons ps_never (pss_cons ps_never (pss_one ps_never))))))))))),?_⟩
    obtain ⟨a0,a1,a2,a3,a4,a5,a6,a7,a8,a9⟩:=m
    dsimp only [Ms.l] at hi qe ⊢
    simp (maxSteps:=1000000) only [Nat.reduceSub,Nat.reduceAdd,tNever,tSeq,tVar,tCons,tNil,tDrop,tLst,L2.start,mZ1,mZ0,lZ1,lZ0,List.replicate,gZ0,gZ1,oZ0,eZ0,aZ0,tCallx,tXE]
    refine ⟨by rw [sizeLine_eq]; decide,?_⟩
    intro p1 n1
    generalize z1:upd H p1 _=H1
    obtain ⟨s1,e1⟩:=new_same z1 n1
    exact ⟨p1,[a0,a1,a2,a3,a4,a5,a6,a7,a8,a9],rfl,e1,hi,fun e H2 s2 he=>qe e H2 (s1.trans s2) he⟩
inductive Fal (l:List Nat):Option Nat→Prop
  | row0 (l0:List Nat) (rows:List (List Nat)):spl 10 (l.length+1) l=l0::rows→msB l0=false→Fal l (some 0)
  | row (l0:List Nat) (rows:List (List Nat)) (a:Nat):spl 10 (l.length+1) l=l0::rows→msB l0=true→rsF 0 1 rows=some a→Fal l (some a)
  | ms (l0:List Nat) (rows:List (List Nat)) (ns:List Nat):spl 10 (l.length+1) l=l0::rows→msB l0=true→rsF 0 1 rows=none→(spl 32 (l0.length+1) l0).tail=ns.map nT→offB (ns.map Int.ofNat)→Fal l none
def XFal (cO cM:Addr) (o:Option Nat) (e:Addr) (H:Hp):Prop:=match o with
  | some a=>NoR cO ((a:Nat):Int) e H
  | none=>H e=some (XO e cM none)
def NoTxt (v:V) (H:Hp):Prop:=v=.non∨(∃ i,v=.int i)∨∃ p xs,v=.ref p∧H p=some (.lst xs)
def sp_rnT (cO cM:Addr):Sp:=fun vs H _ E=>(∃ v,vs=[v]∧NoTxt v H∧∀ e H',Same H H'→NoR cO 0 e H'→E (.ref e) none H')∨(∃ (l:List Nat) (o:Option Nat),vs=[.str (Sg l)]∧l.length≤10000∧(spl 10 (l.length+1) l).length≤100∧(∀ x∈spl 10 (l.length+1) l,x.length≤1000)∧Fal l o∧∀ e H',Same H H'→XFal cO cM o e H'→E (.ref e) none H')
set_option maxHeartbeats 4000000 in
theorem own_rnT (D:Def K mg "read_net" s_read_net) (hb:Blt mg) (T_Measures:ClsD K mg "Measures" C at_Measures) (hc_NoRow:mg "NoRow"=some (.ref cO)) (E_NoRow:OwnE P w K mg base 1 cO ["self","at"] (sp_xrow cO)) (IX_Measures:OwnIX P w K mg base 4 C ["self","hands","lag","miss","raise_each","count","room","places","window","wait","keep"] (sp_minitB cM)) (FX_read_measures:OwnX P w K mg base 7 "read_measures" ["row"] (sp_rmT cO)) (FX_read_rows:OwnX P w K mg base 9 "read_rows" ["rows"] (sp_rsT cO)):OwnX P w K mg base 10 "read_net" ["text"] (sp_rnT cO cM):=by
  refine D.ownE sc_read_net (fun _ _ _ _ _ _ us hl=>match us,hl with|[_],_=>rfl) (fun vs H Q E h=>?_) (fun f cdv A outer s H vs Q E hr h=>?_)
  · rcases h with ⟨v,rfl,_⟩|⟨l,o,rfl,_⟩ <;> rfl
  · have hu:=hr.units
    have hu1:(A.deeper (PyProof.Rows.envOfC "read_net" (defScope s_read_net) s.heap.objs.size f cdv)).units+1<cLine:=by omega
    have e10:Str.ofString "\n"=Sg [10]:=S_of _
    refine ⟨_,(pss_cons (ps_if (pt_not (pt_truX (pe_callB call_isiX rfl (hb _ (by decide)) bt_isinstance (pa_cX (pv 0) (pa_cX (pe_bltn (v:=(.ty "str")) rfl (hb _ (by decide)) bt_str rfl) pa_nil))))) (pss_one (ps_exc (psx_raise (pn_newI E_NoRow hr hc_NoRow (pa_cX pe_int pa_nil))))) pss_nil) (pss_cons (ps_st (i:=1) sc_read_net.nd rfl (pe_splS (pv 0) pe_str (by constructor <;> rfl))) (pss_cons (ps_st (i:=2) sc_read_net.nd rfl (pe_exc (pex_fn FX_read_measures hr (pa_cX (pe_ix (ix_get hu1) (pv 1) pe_int (fun _ _=>rfl)) pa_nil)))) (pss_cons (ps_st (i:=3) sc_read_net.nd rfl (pe_exc (pex_fn FX_read_rows hr (pa_cX (pv 1) pa_nil)))) (pss_cons (ps_st (i:=4) sc_read_net.nd rfl (pe_exc (pex_mak IX_Measures hr T_Measures.mgC (pa_cX (pe_ix (ix_get hu1) (pv 2) pe_int (fun _ _=>rfl)) (pa_cX (pe_ix (ix_get hu1) (pv 2) pe_int (fun _ _=>rfl)) (pa_cX (pe_ix (ix_get hu1) (pv 2) pe_int (fun _ _=>rfl)) (pa_cX (pe_ix (ix_get hu1) (pv 2) pe_int (fun _ _=>rfl)) (pa_cX (pe_ix (ix_get hu1) (pv 2) pe_int (fun _ _=>rfl)) (pa_cX (pe_ix (ix_get hu1) (pv 2) pe_int (fun _ _=>rfl)) (pa_cX (pe_ix (ix_get hu1) (pv 2) pe_int (fun _ _=>rfl)) (pa_cX (pe_ix (ix_get hu1) (pv 2) pe_int (fun _ _=>rfl)) (pa_cX (pe_ix (ix_get hu1) (pv 2) pe_int (fun _ _=>rfl)) (pa_cX (pe_ix (ix_get hu1) (pv 2) pe_int (fun _ _=>rfl)) pa_nil))))))))))))) (pss_one ps_never)))))),?_⟩
    rcases h with ⟨v,rfl,hv,qe⟩|⟨l,o,rfl,hl,hrl,hsh,F,qe⟩
    · rcases hv with rfl|⟨i,rfl⟩|⟨p,xs,rfl,ep⟩
      · simp (maxSteps:=1000000) only [rIsIX,tyX_n,V.ty.injEq,kT_Nost,rGet,tTruX,truX_b,Nat.reduceSub,upd_same,upd_upd,Nat.reduceAdd,ne_eq,tNever,V.ty.injEq,Bool.not_false,cZ0,tSeq,eZ1,if_true,tIfS,tNot,tOp,tVar,tC,tAsg,gName,tNext,tCons,tNil,tCB,L2.start,mZ1,mZ0,lZ1,lZ0,List.replicate,List.cons_append,List.nil_append,gZ0,gZ1,sZ0,sZ1,oZ0,eZ0,V.int.injEq,V.ref.injEq,and_true,true_and,and_assoc,tCallx,tMakex,tRaise,tNewI,tSE,tXE,sp_xrow]
        exact row_fall (t:=0) (by decide) (.refl _) qe
      · simp (maxSteps:=1000000) only [rIsIX,tyX_i,V.ty.injEq,kT_inst,rGet,tTruX,truX_b,Nat.reduceSub,upd_same,upd_upd,Nat.reduceAdd,ne_eq,tNever,V.ty.injEq,Bool.not_false,cZ0,tSeq,eZ1,if_true,tIfS,tNot,tOp,tVar,tC,tAsg,gName,tNext,tCons,tNil,tCB,L2.start,mZ1,mZ0,lZ1,lZ0,List.replicate,List.cons_append,List.nil_append,gZ0,gZ1,sZ0,sZ1,oZ0,eZ0,V.int.injEq,V.ref.injEq,and_true,true_and,and_assoc,tCallx,tMakex,tRaise,tNewI,tSE,tXE,sp_xrow]
        exact row_fall (t:=0) (by decide) (.refl _) qe
      · simp (maxSteps:=1000000) only [rIsIX,tyX_r,tyO_l,V.ty.injEq,kT_list,rGet,Option.bind_some,tTruX,truX_b,Nat.reduceSub,upd_same,upd_upd,Nat.reduceAdd,ne_eq,tNever,V.ty.injEq,Bool.not_false,cZ0,tSeq,eZ1,if_true,tIfS,tNot,tOp,tVar,tC,tAsg,gName,tNext,tCons,tNil,tCB,L2.start,mZ1,mZ0,lZ1,lZ0,List.replicate,List.cons_append,List.nil_append,gZ0,gZ1,sZ0,sZ1,oZ0,eZ0,V.int.injEq,V.ref.injEq,and_true,true_and,and_assoc,ep,tCallx,tMakex,tRaise,tNewI,tSE,tXE,sp_xrow]
        exact row_fall (t:=0) (by decide) (.refl _) qe
    · simp (maxSteps:=1000000) only [rIsIX,tyX_s,V.ty.injEq,kT_stst,rGet,getO_l,tTruX,truX_b,Nat.reduceSub,upd_same,upd_upd,Nat.reduceAdd,ne_eq,tNever,V.ty.injEq,Bool.not_true,cZ0,tSeq,eZ1,if_false,Bool.false_eq_true,tIfS,tNot,tOp,tVar,tC,tAsg,gName,tNext,tCons,tNil,tCB,L2.start,mZ1,mZ0,lZ1,lZ0,List.replicate,List.cons_append,List.nil_append,gZ0,gZ1,sZ0,sZ1,oZ0,eZ0,V.int.injEq,V.ref.injEq,V.str.injEq,and_true,true_and,and_assoc,tSplS,e10,tCallx,tMakex,tRaise,tNewI,tSE,tXE,sp_xrow]
      refine ⟨_,rfl,10,rfl,by decide,by omega,?_⟩
      obtain ⟨l0,rows,er⟩:=spl_cons (c:=10) (l.length+1) l
      have hrl':=hrl
      have hsh':=hsh
      rw [er] at hrl' hsh' ⊢
      rw [lZ1] at hrl'
      intro p1 n1
      generalize z1:upd H p1 _=H1
      obtain ⟨s1,e1⟩:=new_same z1 n1
      simp (maxSteps:=1000000) only [atI_0,oZ0,eZ0,wV_cons]
      refine ⟨l0,rfl,hsh' l0 (.head _),fun ok0 ns pt H2 et0 hns s2 et=>?_,fun ok0 e H2 s2 n=>?_⟩
      rotate_left
      · have ho:o=some 0:=by
          cases F with
          | row0 l0' rows' h1 h2=>rfl
          | row l0' rows' a h1 h2 h3=>rw [er] at h1; cases h1; rw [ok0] at h2; cases h2
          | ms l0' rows' ns h1 h2 h3 h4 h5=>rw [er] at h1; cases h1; rw [ok0] at h2; cases h2
        subst ho
        exact qe e H2 (s1.trans s2) n
      have e12:=s2 _ _ e1
      refine ⟨p1,l0,rows,rfl,e12,by omega,fun x hx=>hsh' x (.tail _ hx),fun okr T q' H3 s3 eT=>?_,fun a hra e H3 s3 n=>?_⟩
      rotate_left
      · have ho:o=some a:=by
          cases F with
          | row0 l0' rows' h1 h2=>rw [er] at h1; cases h1; rw [ok0] at h2; cases h2
          | row l0' rows' a' h1 h2 h3=>rw [er] at h1; cases h1; rw [hra] at h3; cases h3; rfl
          | ms l0' rows' ns h1 h2 h3 h4 h5=>rw [er] at h1; cases h1; rw [hra] at h3; cases h3
        subst ho
        exact qe e H3 (s1.trans (s2.trans s3)) n
      obtain ⟨ho,hoff⟩:o=none∧offB (ns.map Int.ofNat):=by
        cases F with
        | row0 l0' rows' h1 h2=>rw [er] at h1; cases h1; rw [ok0] at h2; cases h2
        | row l0' rows' a' h1 h2 h3=>rw [er] at h1; cases h1; rw [okr] at h3; cases h3
        | ms l0' rows' ns' h1 h2 h3 h4 h5=>
          rw [er] at h1
          cases h1
          rw [h4] at et0
          have:ns'=ns:=map_inj (f:=nT) (fun a b h=>nT_inj h) et0
          subst this
          exact ⟨rfl,h5⟩
      subst ho
      obtain ⟨a0,a1,a2,a3,a4,a5,a6,a7,a8,a9,rfl⟩:=ten hns
      have et3:=s3 _ _ et
      have et3':H3 pt=some (.tup [niV a0,niV a1,niV a2,niV a3,niV a4,niV a5,niV a6,niV a7,niV a8,niV a9]):=et3
      simp (maxSteps:=1000000) only [getO_t,atI_0,atI_1,atI_2,atI_3,oZ0,eZ0,V.ref.injEq,et3',at4,at5,at6,at7,at8,at9]
      intro x dx hx hdx _
      have sb:Same H3 (upd (upd H3 dx (.own x)) x (.ins C dx [])):=((Same.refl H3).upd hdx).upd hx
      exact ⟨x,⟨a0,a1,a2,a3,a4,a5,a6,a7,a8,a9⟩,rfl,hoff,fun e H4 s4 he=>qe e H4 (s1.trans (s2.trans (s3.trans (sb.trans s4)))) he⟩
end
end K82
namespace L2
open PySem PySem.Spec PyProof.Rows
section
variable {X:Cx} {j k:Nat} {x:Str} {ps:List Str} {sp:Sp} {p pos:Pos}
theorem pe_fn0 (F:Own X.prog X.w X.K X.mg X.base j x ps sp) (hr:Room k X.A) (hk:j≤k:=by decide) (hg:Gl X x:=by rfl)
    (hdb:(x == ("__debug__":Str))=false:=by decide):PE X (.Call (.Name x p) [] [] pos) (tCall sp [] E0 tNil):=by
  obtain ⟨f,fd,hm,kp,hb,F⟩:=F
  exact pe_call0 F (hr.mono hk) hg hm kp hb .nil pass0 hdb
end
end L2
namespace K82
open PySem L2
def Dr (H:Hp) (pd:Addr):Prop:=∃ a b:Int,H pd=some (.lst [.int a,.int b])
section
variable {P:Program} {w:World} {K:PySem.W.Frag} {mg:Str→Option Value} {base:Heap} {H H':Hp} {pd:Addr}
theorem Dr.same (d:Dr H pd) (s:Same H H'):Dr H' pd:=by
  obtain ⟨a,b,e⟩:=d
  exact ⟨a,b,s _ _ e⟩
abbrev s__law_draw:Stmt:=stm 47
theorem sc__law_draw:FnScope ["_law_cell"] ["_law_cell"] (defScope s__law_draw):=⟨rfl,rfl,rfl,by decide +kernel,rfl,by decide +kernel,by decide +kernel⟩
abbrev s__law_next:Stmt:=stm 48
theorem sc__law_next:FnScope ["_law_draw_here","_law_size","_law_digit","_law_number"] ["_law_draw_here","_law_size"] (defScope s__law_next):=⟨rfl,rfl,rfl,by decide +kernel,rfl,by decide +kernel,by decide +kernel⟩
def sp_draw:Sp:=fun vs H Q _=>∃ c:Int,vs=[.int c]∧∀ (p:Addr) (a b:Int) H',H p=none→H' p=some (.lst [.int a,.int b])→Same H H'→Q (.ref p) H'
theorem own_draw (D:Def K mg "_law_draw" s__law_draw):Own P w K mg base 1 "_law_draw" ["_law_cell"] sp_draw:=by
  refine D.own sc__law_draw (fun _ _ _ _ _ _ us hl=>match us,hl with|[_],_=>rfl) (fun vs H Q E h=>?_) (fun f cdv A outer s H vs Q E hr h=>?_)
  · obtain ⟨c,rfl,_⟩:=h
    rfl
  · obtain ⟨c,rfl,q⟩:=h
    refine ⟨_,(pss_one (ps_ret (pe_lst (pa_cX (pe_op op_mul (pe_op op_fdiv (pv 0) pe_int) (pe_op op_sub pe_int (pe_op op_mod (pv 0) pe_int))) (pa_cX (pv 0) pa_nil))))),?_⟩
    simp (maxSteps:=1000000) only [Nat.reduceSub,Int.reduceLT,Nat.reduceAdd,eZ1,tOp,tVar,tC,rI,rI0,tRet,tCons,tNil,tLst,L2.start,mZ1,mZ0,lZ1,lZ0,List.replicate,gZ0,oZ0,eZ0,V.int.injEq,true_and,aZ0]
    refine ⟨⟨by decide,by decide⟩,.inr ⟨by omega,by omega⟩,by decide,fun p hp=>q p _ _ _ hp upd_same (Same.upd_new hp)⟩
def sp_next:Sp:=fun vs H Q _=>∃ (p:Addr) (a b n:Int),vs=[.ref p,.int n]∧H p=some (.lst [.int a,.int b])∧1≤n∧n<2 ^ 200∧∀ (r a' b':Int),0≤r→r<n→Q (.int r) (upd H p (.lst [.int a',.int b']))
theorem own_next (D:Def K mg "_law_next" s__law_next):Own P w K mg base 1 "_law_next" ["_law_draw_here","_law_size"] sp_next:=by
  refine D.own sc__law_next (fun _ _ _ _ _ _ us hl=>match us,hl with|[_,_],_=>rfl) (fun vs H Q E h=>?_) (fun f cdv A outer s H vs Q E hr h=>?_)
  · obtain ⟨p,a,b,n,rfl,_⟩:=h
    rfl
  · obtain ⟨p,a,b,n,rfl,ep,h1,h2,q⟩:=h
    have hu:=hr.units
    have hu1:(A.deeper (PyProof.Rows.envOfC "_law_next" (defScope s__law_next) s.heap.objs.size f cdv)).units+1<cLine:=by omega
    refine ⟨_,(pss_cons (ps_asg (pe_op op_mod (pe_op op_add (pe_op op_mul (pe_ix (ix_get hu1) (pv 0) pe_int (fun _ _=>rfl)) pe_int) pe_int) pe_int) (pg_sub (pv 0) pe_int (set_x hu1))) (pss_cons (ps_if (pt_cmpR op_gt (pe_ix (ix_get hu1) (pv 0) pe_int (fun _ _=>rfl)) pe_int (nomark _)) (pss_cons (ps_st (i:=2) sc__law_next.nd rfl (pe_op op_mod (pe_ix (ix_get hu1) (pv 0) pe_int (fun _ _=>rfl)) (pv 1))) (pss_cons (ps_asg (pe_op op_fdivW (pe_ix (ix_get hu1) (pv 0) pe_int (fun _ _=>rfl)) (pv 1)) (pg_sub (pv 0) pe_int (set_x hu1))) (pss_one (ps_ret (pv 2))))) pss_nil) (pss_cons (ps_st (i:=3) sc__law_next.nd rfl (pe_op op_mod (pe_op op_mul (pe_ix (ix_get hu1) (pv 0) pe_int (fun _ _=>rfl)) (pe_op op_add (pe_op op_fdiv (pe_ix (ix_get hu1) (pv 0) pe_int (fun _ _=>rfl)) pe_int) pe_int)) pe_int)) (pss_one (ps_ret (pe_op op_mod (pe_op op_mod (pe_op op_mul (pv 3) (pe_op op_add (pe_op op_fdiv (pv 3) pe_int) pe_int)) pe_int) (pv 1))))))),?_⟩
    simp (maxSteps:=1000000) only [ixN_20,ixN_21,rGet,getO_l,rSetX,setO_l,gSub,atI_0,atI_1,Nat.reduceSub,upd_same,upd_upd,Option.map_some,Int.reduceLT,Nat.reduceAdd,tSeq,eZ1,tIfS,tTest,tOp,tVar,tC,rI,rI0,tRet,tAsg,gName,tNext,L2.start,mZ1,mZ0,lZ1,lZ0,List.replicate,List.cons_append,List.nil_append,gZ0,gZ1,sZ0,sZ1,oZ0,eZ0,V.int.injEq,V.bl.injEq,V.ref.injEq,true_and,ep]
    have hb1:0≤(b * 48271+11) % 2147483647∧(b * 48271+11) % 2147483647<2147483647:=⟨Int.emod_nonneg _ (by decide),Int.emod_lt_of_pos _ (by decide)⟩
    generalize (b * 48271+11) % 2147483647=b1 at hb1 ⊢
    refine ⟨.inr ⟨by decide,by decide⟩,?_⟩
    refine ite2 (fun ha=>⟨by omega,cdivw_of (by omega) h2,q (a % n) (a / n) b1 (Int.emod_nonneg _ (by omega)) (Int.emod_lt_of_pos _ (by omega))⟩) (fun ha=>⟨⟨by decide,by decide⟩,.inl ⟨by omega,by omega⟩,⟨by decide,by decide⟩,cmul_mod (by decide) (by decide),by omega,q _ a b1 (Int.emod_nonneg _ (by omega)) (Int.emod_lt_of_pos _ (by omega))⟩)
theorem next_ok {n:Int} {Q:VK} {E:XK} (d:Dr H pd) (h1:1≤n) (h2:n<2 ^ 200) (q:∀ (r:Nat) (H':Hp),(r:Int)<n→Dr H' pd→Keep [pd] H H'→Q (.int (r:Int)) H'):sp_next [.ref pd,.int n] H Q E:=by
  obtain ⟨a,b,e⟩:=d
  refine ⟨pd,a,b,n,rfl,e,h1,h2,fun r a' b' h0 hn=>?_⟩
  have:=q r.toNat (upd H pd (.lst [.int a',.int b'])) (by omega) ⟨a',b',upd_same⟩ (Keep.refl.upd (.inl (.head _)))
  rw [Int.toNat_of_nonneg h0] at this
  exact this
abbrev s__law_good:Stmt:=stm 49
theorem sc__law_good:FnScope ["_law_rows"] [] (defScope s__law_good):=⟨rfl,rfl,rfl,by decide +kernel,rfl,by decide +kernel,by decide +kernel⟩
abbrev s__law_far:Stmt:=stm 50
theorem sc__law_far:FnScope ["_law_some"] [] (defScope s__law_far):=⟨rfl,rfl,rfl,by decide +kernel,rfl,by decide +kernel,by decide +kernel⟩
abbrev s__law_bad:Stmt:=stm 51
theorem sc__law_bad:FnScope ["_law_at","_law_some"] ["_law_at"] (defScope s__law_bad):=⟨rfl,rfl,rfl,by decide +kernel,rfl,by decide +kernel,by decide +kernel⟩
def sV (l:List String):List V:=l.map fun s=>V.str (Str.ofString s)
theorem sV_app {a b:List String}:sV (a++b)=sV a++sV b:=List.map_append
theorem sV_len {a:List String}:(sV a).length=a.length:=List.length_map _
theorem stp0 {i:Nat} {ta:TA} {ts:TS} {D:Ends} {σ:St} {H:Hp} {S:Addr→St} (c:List String) (hta:∀ Q,Q (sV c) H→ta σ H Q) (hS:∀ l,σ.set i (some (.ref l))=S l) (g:c.length≤300) (q:∀ l H2,H2 l=some (.lst (sV c))→Same H H2→H l=none→ts D (S l) H2):tSeq (tAsg (tLst ta) (gName i)) ts D σ H:=by
  refine hta _ ⟨by rw [sV_len,sizeLine_eq]; omega,fun p hp=>?_⟩
  have:=q p _ upd_same (.upd_new hp) hp
  rw [← hS] at this
  exact this
theorem stp {i:Nat} {ta:TA} {ts:TS} {D:Ends} {H H1:Hp} {S:Addr→St} {a new:List String} {l:Addr} (hS:∀ l,(S l)[i]?=some (some (.ref l))∧∀ l',(S l).set i (some (.ref l'))=S l') (hta:∀ Q,Q (sV new) H1→ta (S l) H1 Q) (e1:H1 l=some (.lst (sV a))) (s1:Same H H1) (g:(a++new).length≤300) (q:∀ l H2,H2 l=some (.lst (sV (a++new)))→Same H H2→H l=none→ts D (S l) H2):tSeq (tAsg (tOp rCat (tVar i) (tLst ta)) (gName i)) ts D (S l) H1:=by
  rw [List.length_append] at g
  refine ⟨_,(hS l).1,hta _ ⟨by rw [sV_len,sizeLine_eq]; omega,fun p hp=>⟨l,p,sV a,sV new,rfl,rfl,(Same.upd_new hp) _ _ e1,upd_same,by rw [sV_len,sV_len,sizeLine_eq]; omega,fun p2 hp2=>?_⟩⟩⟩
  have s2:Same H (upd H1 p (.lst (sV new))):=s1.trans (.upd_new hp)
  have:=q p2 _ (by rw [sV_app]; exact upd_same) (s2.trans (.upd_new hp2)) (s2.free hp2)
  rw [← (hS l).2] at this
  exact this
theorem stpR {x:Option V} {ta:TA} {D:Ends} {H H1:Hp} {a new:List String} {l:Addr} (c:List String) (hc:c=a++new) (hta:∀ Q,Q (sV new) H1→ta [x,some (.ref l)] H1 Q) (e1:H1 l=some (.lst (sV a))) (s1:Same H H1) (g:c.length≤300) (q:∀ l H2,H l=none→H2 l=some (.lst (sV c))→Same H H2→D.rt (.ref l) H2):tRet (tOp rCat (tVar 1) (tLst ta)) D [x,some (.ref l)] H1:=by
  subst hc
  rw [List.length_append] at g
  refine ⟨_,rfl,hta _ ⟨by rw [sV_len,sizeLine_eq]; omega,fun p hp=>⟨l,p,sV a,sV new,rfl,rfl,(Same.upd_new hp) _ _ e1,upd_same,by rw [sV_len,sV_len,sizeLine_eq]; omega,fun p2 hp2=>?_⟩⟩⟩
  have s2:Same H (upd H1 p (.lst (sV new))):=s1.trans (.upd_new hp)
  exact q p2 _ (s2.free hp2) (by rw [sV_app]; exact upd_same) (s2.trans (.upd_new hp2))
theorem if_yes {c:TT} {t u ts:TS} {D:Ends} {σ:St} {H:Hp} (hc:∀ Q:Bool→Hp→Prop,Q true H→c σ H Q) (h:t { D with nx:=ts D } σ H):tSeq (tIfS c t u) ts D σ H:=hc _ (by rw [if_pos rfl]; exact h)
theorem if_not {c:TT} {t ts:TS} {D:Ends} {σ:St} {H:Hp} (hc:∀ Q:Bool→Hp→Prop,Q false H→c σ H Q) (h:ts D σ H):tSeq (tIfS c t tNext) ts D σ H:=hc _ (by rw [if_neg (by decide)]; exact h)
theorem is0 {a:Nat} {x1:Option V} {b:Bool} {H:Hp} (e:decide (a=0)=b) (Q:Bool→Hp→Prop) (h:Q b H):tTest (tOp rEq (tVar 0) (tC (.int 0))) [some (.int (a:Int)),x1] H Q:=
  ⟨_,rfl,rfl,_,rfl,by
    have:decide (V.int (a:Int)=.int 0)=b:=by
      rw [← e,decide_eq_decide]
      constructor
      · intro z
        have:=V.int.inj z
        omega
      · rintro rfl
        rfl
    rw [this]
    exact h⟩
theorem stpG {ta:TA} {ts:TS} {D:Ends} {H H1:Hp} {a new:List String} {l:Addr} (c:List String) (hc:c=a++new) (hta:∀ Q,Q (sV new) H1→ta [some (.ref l)] H1 Q) (e1:H1 l=some (.lst (sV a))) (s1:Same H H1) (g:c.length≤300) (q:∀ l H2,H2 l=some (.lst (sV c))→Same H H2→H l=none→ts D [some (.ref l)] H2):tSeq (tAsg (tOp rCat (tVar 0) (tLst ta)) (gName 0)) ts D [some (.ref l)] H1:=by
  subst hc
  exact stp (S:=fun l=>[some (.ref l)]) (fun _=>⟨rfl,fun _=>rfl⟩) hta e1 s1 g q
theorem stpB {x:Option V} {ta:TA} {ts:TS} {D:Ends} {H H1:Hp} {a new:List String} {l:Addr} (c:List String) (hc:c=a++new) (hta:∀ Q,Q (sV new) H1→ta [x,some (.ref l)] H1 Q) (e1:H1 l=some (.lst (sV a))) (s1:Same H H1) (g:c.length≤300) (q:∀ l H2,H2 l=some (.lst (sV c))→Same H H2→H l=none→ts D [x,some (.ref l)] H2):tSeq (tAsg (tOp rCat (tVar 1) (tLst ta)) (gName 1)) ts D [x,some (.ref l)] H1:=by
  subst hc
  exact stp (S:=fun l=>[x,some (.ref l)]) (fun _=>⟨rfl,fun _=>rfl⟩) hta e1 s1 g q
def bg0:List String:=["measures 3 1 9 60 20 3 4 3 30 40","line 0 1 5","line 1 2 none"]
def bg1:List String:=bg0++["change 7 1 2 1000"]
def bg2:List String:=bg1++["change 8 0 1 none","road 0 1 1/-/1,1","road 2 1 none","wish 1 0 begin 2"]
def bg3:List String:=bg2++["wish 2 0 put 2 a ;b ","wish 99999 1 ask eightlet"]
abbrev goodS:List String:=bg3
def bf0:List String:=["line 100000 1 5","line 0 100000 5","line 0 1 100000","line 0 1 +5","line 0 1 -0"]
def bf1:List String:=bf0++["change 100000 1 2 5","change 7 100000 2 5","change 7 1 100000 5","change 7 1 2 100000"]
def bf2:List String:=bf1++["road 100000 1 1","road 0 100000 1","road 0 1 100000","road 0 1 1,100000/2"]
def bf3:List String:=bf2++["road 0 1 2/-/100000","wish 100000 0 ask a","wish 1 100000 ask a"]
def bf4:List String:=bf3++["wish 1 0 begin 100000","wish 1 0 end 100000","wish 1 0 put 100000 a","wish +1 0 ask a"]
abbrev farS:List String:=bf4
def ba0:List String:=[""," ","row","measures","measures 3 1 9 60 20 3 4 3 30 40 1"]
def ba1:List String:=ba0++["measures 3 1 9 60 20 3 4 3 30"]
def ba2:List String:=ba1++["measures 3 1 9 60 20 3 4 3 30 x","measures 03 1 9 60 20 3 4 3 30 40"]
def ba3:List String:=ba2++["Line 0 1 5"]
def bz0:List String:=ba3++["line 0 1 5"," measures 3 1 9 60 20 3 4 3 30 40"]
def bz1:List String:=bz0++["measures 3 1 9 60 20 3 4 3 100000 40","measures 3 1 9 none 20 3 4 3 30 40"]
def bz2:List String:=bz1++["measures 3 -1 9 60 20 3 4 3 30 40","measures 3 1 9 60 20 3 4 +3 30 40"]
def bz:List String:=bz2++["measures 3 1 9 60 20 3 4 3 30 40 "]
def bm0:List String:=ba3++["measures 3 1 9 60 20 3 4 3 30 40","line","line 0 1","line 0 1 5 6"]
def bm1:List String:=bm0++["line 0 1 ","line 0 1 05"]
def bm2:List String:=bm1++["line 0 1 -5","line 0 1 None","line none 1 5","line 0  1 5"]
def bm3:List String:=bm2++["line 0 1 123456","line a 1 5"]
def bm4:List String:=bm3++["change 7 1 2","change 7 1 2 none none","change 7 1 2 "]
def bm5:List String:=bm4++["change none 1 2 5","change 7 1 2 1.5"]
def bm6:List String:=bm5++["road 0 1","road 0 1 ","road 0 1 1/","road 0 1 /1","road 0 1 1,"]
def bm7:List String:=bm6++["road 0 1 ,1","road 0 1 1,-"]
def bm8:List String:=bm7++["road 0 1 1//2","road 0 1 --","road 0 1 01","road 0 1 1 2"]
def bm9:List String:=bm8++["road 0 1 1/none","road none 1 1"]
def bm10:List String:=bm9++["road 0 1 None","road 0 1 1;2","wish 1 0","wish 1 0 begin"]
def bm11:List String:=bm10++["wish 1 0 begin ","wish 1 0 begin 2 3"]
def bm12:List String:=bm11++["wish 1 0 begin none","wish 1 0 Begin 2","wish 1 0 start 2"]
def bm13:List String:=bm12++["wish 1 0 end x","wish 1 0 end 02"]
def bm14:List String:=bm13++["wish 1 0 put 2","wish 1 0 put 2 ","wish 1 0 put  a","wish 1 0 put x a"]
def bm15:List String:=bm14++["wish 1 0 put 2 a\tb"]
def bm16:List String:=bm15++["wish 1 0 bind","wish 1 0 bind Ab","wish 1 0 bind abcdefghi"]
def bm17:List String:=bm16++["wish 1 0 free a b","wish 1 0 ask a1"]
def bm18:List String:=bm17++["wish 1 0 ask ","wish x 0 ask a","wish 1 00 ask a","wish -1 0 ask a"]
def bm19:List String:=bm18++[" wish 1 0 ask a","wish"]
def bn0:List String:=bm19++farS
def br0:List String:=["line 0 1 5","line 1 2 none","line 0 1 5","line 1 2 none","line 0 1 5","line 1 2 none","line 0 1 5","line 1 2 none"]
def br1:List String:=["change 7 1 2 1000","change 1 0 1 none","change 7 1 2 1000","change 1 0 1 none","change 7 1 2 1000","change 1 0 1 none","change 7 1 2 1000","change 1 0 1 none"]
def br2:List String:=["road 0 1 1/-/1,1","road 2 1 none","road 0 1 1/-/1,1","road 2 1 none","road 0 1 1/-/1,1","road 2 1 none","road 0 1 1/-/1,1","road 2 1 none"]
def badS (a:Nat):List String:=if a=0 then bz else bn0++(if 3<a then br0 else [])++(if 5<a then br1 else [])++(if 7<a then br2 else [])
def sp_lst (b:List String):Sp:=fun vs H Q _=>vs=[]∧∀ p H',H p=none→H' p=some (.lst (sV b))→Same H H'→Q (.ref p) H'
set_option maxHeartbeats 4000000 in
theorem own_lgood (D:Def K mg "_law_good" s__law_good):Own P w K mg base 1 "_law_good" [] (sp_lst goodS):=by
  refine D.own sc__law_good (fun _ _ _ _ _ _ us hl=>match us,hl with|[],_=>rfl) (fun vs H Q E h=>?_) (fun f cdv A outer s H vs Q E hr h=>?_)
  · obtain ⟨rfl,_⟩:=h
    rfl
  · obtain ⟨rfl,q⟩:=h
    have hu:=hr.units
    have hu1:(A.deeper (PyProof.Rows.envOfC "_law_good" (defScope s__law_good) s.heap.objs.size f cdv)).units+1<cLine:=by omega
    refine ⟨_,(pss_cons (ps_st (i:=0) sc__law_good.nd rfl (pe_lst (pa_cX pe_str (pa_cX pe_str (pa_cX pe_str pa_nil))))) (pss_cons (ps_st (i:=0) sc__law_good.nd rfl (pe_op op_cat (pv 0) (pe_lst (pa_cX pe_str pa_nil)))) (pss_cons (ps_st (i:=0) sc__law_good.nd rfl (pe_op op_cat (pv 0) (pe_lst (pa_cX pe_str (pa_cX pe_str (pa_cX pe_str (pa_cX pe_str pa_nil))))))) (pss_one (ps_ret (pe_op op_cat (pv 0) (pe_lst (pa_cX pe_str (pa_cX pe_str pa_nil))))))))),?_⟩
    refine stp0 (S:=fun l=>[some (.ref l)]) bg0 (fun _ h=>h) (fun _=>rfl) (by decide) fun l1 H1 e1 s1 f1=>?_
    refine stpG bg1 rfl (fun _ h=>h) e1 s1 (by decide) fun l1 H1 e1 s1 f1=>?_
    refine stpG bg2 rfl (fun _ h=>h) e1 s1 (by decide) fun l1 H1 e1 s1 f1=>?_
    simp (maxSteps:=1000000) only [upd_same,HO.lst.injEq,Nat.reduceAdd,rCat,eZ1,tOp,tVar,tC,tRet,tCons,tNil,tLst,lZ1,lZ0,gZ0,oZ0,eZ0,V.ref.injEq]
    refine ⟨by rw [sizeLine_eq]; decide,?_⟩
    intro p2 n2
    generalize z2:upd H1 p2 _=H2
    obtain ⟨s2,e2⟩:=new_same z2 n2
    refine ⟨_,s2 _ _ e1,by rw [sV_len,sizeLine_eq]; decide,fun p hp=>q p _ ((s1.trans s2).free hp) ?_ ((s1.trans s2).trans (.upd_new hp))⟩
    exact upd_same
set_option maxHeartbeats 4000000 in
theorem own_lfar (D:Def K mg "_law_far" s__law_far):Own P w K mg base 1 "_law_far" [] (sp_lst farS):=by
  refine D.own sc__law_far (fun _ _ _ _ _ _ us hl=>match us,hl with|[],_=>rfl) (fun vs H Q E h=>?_) (fun f cdv A outer s H vs Q E hr h=>?_)
  · obtain ⟨rfl,_⟩:=h
    rfl
  · obtain ⟨rfl,q⟩:=h
    have hu:=hr.units
    have hu1:(A.deeper (PyProof.Rows.envOfC "_law_far" (defScope s__law_far) s.heap.objs.size f cdv)).units+1<cLine:=by omega
    refine ⟨_,(pss_cons (ps_st (i:=0) sc__law_far.nd rfl (pe_lst (pa_cX pe_str (pa_cX pe_str (pa_cX pe_str (pa_cX pe_str (pa_cX pe_str pa_nil))))))) (pss_cons (ps_st (i:=0) sc__law_far.nd rfl (pe_op op_cat (pv 0) (pe_lst (pa_cX pe_str (pa_cX pe_str (pa_cX pe_str (pa_cX pe_str pa_nil))))))) (pss_cons (ps_st (i:=0) sc__law_far.nd rfl (pe_op op_cat (pv 0) (pe_lst (pa_cX pe_str (pa_cX pe_str (pa_cX pe_str (pa_cX pe_str pa_nil))))))) (pss_cons (ps_st (i:=0) sc__law_far.nd rfl (pe_op op_cat (pv 0) (pe_lst (pa_cX pe_str (pa_cX pe_str (pa_cX pe_str pa_nil)))))) (pss_cons (ps_st (i:=0) sc__law_far.nd rfl (pe_op op_cat (pv 0) (pe_lst (pa_cX pe_str (pa_cX pe_str (pa_cX pe_str (pa_cX pe_str pa_nil))))))) (pss_one (ps_ret (pv 0)))))))),?_⟩
    refine stp0 (S:=fun l=>[some (.ref l)]) bf0 (fun _ h=>h) (fun _=>rfl) (by decide) fun l1 H1 e1 s1 f1=>?_
    refine stpG bf1 rfl (fun _ h=>h) e1 s1 (by decide) fun l1 H1 e1 s1 f1=>?_
    refine stpG bf2 rfl (fun _ h=>h) e1 s1 (by decide) fun l1 H1 e1 s1 f1=>?_
    refine stpG bf3 rfl (fun _ h=>h) e1 s1 (by decide) fun l1 H1 e1 s1 f1=>?_
    refine stpG bf4 rfl (fun _ h=>h) e1 s1 (by decide) fun l1 H1 e1 s1 f1=>?_
    simp (maxSteps:=1000000) only [tVar,tRet,gZ0,oZ0,eZ0]
    exact q _ _ f1 e1 s1
def LB (H:Hp) (a:Nat) (b:List String) (L:Nat) (σ:St) (H':Hp):Prop:=∃ l,σ=[some (.int (a:Int)),some (.ref l)]∧H' l=some (.lst (sV b))∧Same H H'∧H l=none∧b.length≤L
def sp_lbad:Sp:=fun vs H Q _=>∃ a:Nat,vs=[.int (a:Int)]∧∀ p H',H p=none→H' p=some (.lst (sV (badS a)))→Same H H'→Q (.ref p) H'
set_option maxHeartbeats 8000000 in
theorem own_lbad (D:Def K mg "_law_bad" s__law_bad) (F__law_far:Own P w K mg base 1 "_law_far" [] (sp_lst farS)):Own P w K mg base 2 "_law_bad" ["_law_at"] sp_lbad:=by
  refine D.own sc__law_bad (fun _ _ _ _ _ _ us hl=>match us,hl with|[_],_=>rfl) (fun vs H Q E h=>?_) (fun f cdv A outer s H vs Q E hr h=>?_)
  · obtain ⟨a,rfl,_⟩:=h
    rfl
  · obtain ⟨a,rfl,q⟩:=h
    have hu:=hr.units
    have hu1:(A.deeper (PyProof.Rows.envOfC "_law_bad" (defScope s__law_bad) s.heap.objs.size f cdv)).units+1<cLine:=by omega
    refine ⟨_,(pss_cons (ps_st (i:=1) sc__law_bad.nd rfl (pe_lst (pa_cX pe_str (pa_cX pe_str (pa_cX pe_str (pa_cX pe_str (pa_cX pe_str pa_nil))))))) (pss_cons (ps_st (i:=1) sc__law_bad.nd rfl (pe_op op_cat (pv 1) (pe_lst (pa_cX pe_str pa_nil)))) (pss_cons (ps_st (i:=1) sc__law_bad.nd rfl (pe_op op_cat (pv 1) (pe_lst (pa_cX pe_str (pa_cX pe_str pa_nil))))) (pss_cons (ps_st (i:=1) sc__law_bad.nd rfl (pe_op op_cat (pv 1) (pe_lst (pa_cX pe_str pa_nil)))) (pss_cons (ps_if (pt_cmpR op_eq (pv 0) pe_int (nomark _)) (pss_cons (ps_st (i:=1) sc__law_bad.nd rfl (pe_op op_cat (pv 1) (pe_lst (pa_cX pe_str (pa_cX pe_str pa_nil))))) (pss_cons (ps_st (i:=1) sc__law_bad.nd rfl (pe_op op_cat (pv 1) (pe_lst (pa_cX pe_str (pa_cX pe_str pa_nil))))) (pss_cons (ps_st (i:=1) sc__law_bad.nd rfl (pe_op op_cat (pv 1) (pe_lst (pa_cX pe_str (pa_cX pe_str pa_nil))))) (pss_one (ps_ret (pe_op op_cat (pv 1) (pe_lst (pa_cX pe_str pa_nil)))))))) pss_nil) (pss_cons (ps_st (i:=1) sc__law_bad.nd rfl (pe_op op_cat (pv 1) (pe_lst (pa_cX pe_str (pa_cX pe_str (pa_cX pe_str (pa_cX pe_str pa_nil))))))) (pss_cons (ps_st (i:=1) sc__law_bad.nd rfl (pe_op op_cat (pv 1) (pe_lst (pa_cX pe_str (pa_cX pe_str pa_nil))))) (pss_cons (ps_st (i:=1) sc__law_bad.nd rfl (pe_op op_cat (pv 1) (pe_lst (pa_cX pe_str (pa_cX pe_str (pa_cX pe_str (pa_cX pe_str pa_nil))))))) (pss_cons (ps_st (i:=1) sc__law_bad.nd rfl (pe_op op_cat (pv 1) (pe_lst (pa_cX pe_str (pa_cX pe_str pa_nil))))) (pss_cons (ps_st (i:=1) sc__law_bad.nd rfl (pe_op op_cat (pv 1) (pe_lst (pa_cX pe_str (pa_cX pe_str (pa_cX pe_str pa_nil)))))) (pss_cons (ps_st (i:=1) sc__law_bad.nd rfl (pe_op op_cat (pv 1) (pe_lst (pa_cX pe_str (pa_cX pe_str pa_nil))))) (pss_cons (ps_st (i:=1) sc__law_bad.nd rfl (pe_op op_cat (pv 1) (pe_lst (pa_cX pe_str (pa_cX pe_str (pa_cX pe_str (pa_cX pe_str (pa_cX pe_str pa_nil)))))))) (pss_cons (ps_st (i:=1) sc__law_bad.nd rfl (pe_op op_cat (pv 1) (pe_lst (pa_cX pe_str (pa_cX pe_str pa_nil))))) (pss_cons (ps_st (i:=1) sc__law_bad.nd rfl (pe_op op_cat (pv 1) (pe_lst (pa_cX pe_str (pa_cX pe_str (pa_cX pe_str (pa_cX pe_str pa_nil))))))) (pss_cons (ps_st (i:=1) sc__law_bad.nd rfl (pe_op op_cat (pv 1) (pe_lst (pa_cX pe_str (pa_cX pe_str pa_nil))))) (pss_cons (ps_st (i:=1) sc__law_bad.nd rfl (pe_op op_cat (pv 1) (pe_lst (pa_cX pe_str (pa_cX pe_str (pa_cX pe_str (pa_cX pe_str pa_nil))))))) (pss_cons (ps_st (i:=1) sc__law_bad.nd rfl (pe_op op_cat (pv 1) (pe_lst (pa_cX pe_str (pa_cX pe_str pa_nil))))) (pss_cons (ps_st (i:=1) sc__law_bad.nd rfl (pe_op op_cat (pv 1) (pe_lst (pa_cX pe_str (pa_cX pe_str (pa_cX pe_str pa_nil)))))) (pss_cons (ps_st (i:=1) sc__law_bad.nd rfl (pe_op op_cat (pv 1) (pe_lst (pa_cX pe_str (pa_cX pe_str pa_nil))))) (pss_cons (ps_st (i:=1) sc__law_bad.nd rfl (pe_op op_cat (pv 1) (pe_lst (pa_cX pe_str (pa_cX pe_str (pa_cX pe_str (pa_cX pe_str pa_nil))))))) (pss_cons (ps_st (i:=1) sc__law_bad.nd rfl (pe_op op_cat (pv 1) (pe_lst (pa_cX pe_str pa_nil)))) (pss_cons (ps_st (i:=1) sc__law_bad.nd rfl (pe_op op_cat (pv 1) (pe_lst (pa_cX pe_str (pa_cX pe_str (pa_cX pe_str pa_nil)))))) (pss_cons (ps_st (i:=1) sc__law_bad.nd rfl (pe_op op_cat (pv 1) (pe_lst (pa_cX pe_str (pa_cX pe_str pa_nil))))) (pss_cons (ps_st (i:=1) sc__law_bad.nd rfl (pe_op op_cat (pv 1) (pe_lst (pa_cX pe_str (pa_cX pe_str (pa_cX pe_str (pa_cX pe_str pa_nil))))))) (pss_cons (ps_st (i:=1) sc__law_bad.nd rfl (pe_op op_cat (pv 1) (pe_lst (pa_cX pe_str (pa_cX pe_str pa_nil))))) (pss_cons (ps_st (i:=1) sc__law_bad.nd rfl (pe_op op_cat (pv 1) (pe_fn0 F__law_far hr))) (pss_cons (ps_if (pt_cmpR op_gt (pv 0) pe_int (nomark _)) (pss_one (ps_st (i:=1) sc__law_bad.nd rfl (pe_op op_cat (pv 1) (pe_op op_rep (pe_lst (pa_cX pe_str (pa_cX pe_str pa_nil))) pe_int)))) pss_nil) (pss_cons (ps_if (pt_cmpR op_gt (pv 0) pe_int (nomark _)) (pss_one (ps_st (i:=1) sc__law_bad.nd rfl (pe_op op_cat (pv 1) (pe_op op_rep (pe_lst (pa_cX pe_str (pa_cX pe_str pa_nil))) pe_int)))) pss_nil) (pss_cons (ps_if (pt_cmpR op_gt (pv 0) pe_int (nomark _)) (pss_one (ps_st (i:=1) sc__law_bad.nd rfl (pe_op op_cat (pv 1) (pe_op op_rep (pe_lst (pa_cX pe_str (pa_cX pe_str pa_nil))) pe_int)))) pss_nil) (pss_one (ps_ret (pv 1)))))))))))))))))))))))))))))))),?_⟩
    refine stp0 (S:=fun l=>[some (.int (a:Int)),some (.ref l)]) ba0 (fun _ h=>h) (fun _=>rfl) (by decide) fun l1 H1 e1 s1 f1=>?_
    refine stpB ba1 rfl (fun _ h=>h) e1 s1 (by decide) fun l1 H1 e1 s1 f1=>?_
    refine stpB ba2 rfl (fun _ h=>h) e1 s1 (by decide) fun l1 H1 e1 s1 f1=>?_
    refine stpB ba3 rfl (fun _ h=>h) e1 s1 (by decide) fun l1 H1 e1 s1 f1=>?_
    have g1:ba3.length≤300:=by decide
    by_cases ha:a=0
    · refine if_yes (is0 (decide_eq_true ha)) ?_
      refine stpB bz0 rfl (fun _ h=>h) e1 s1 (by decide) fun l1 H1 e1 s1 f1=>?_
      refine stpB bz1 rfl (fun _ h=>h) e1 s1 (by decide) fun l1 H1 e1 s1 f1=>?_
      refine stpB bz2 rfl (fun _ h=>h) e1 s1 (by decide) fun l1 H1 e1 s1 f1=>?_
      exact stpR bz rfl (fun _ h=>h) e1 s1 (by decide) fun l H2 n2 e2 s2=>q l H2 n2 (by subst ha; exact e2) s2
    refine if_not (is0 (decide_eq_false ha)) ?_
    refine stpB bm0 rfl (fun _ h=>h) e1 s1 (by decide) fun l1 H1 e1 s1 f1=>?_
    refine stpB bm1 rfl (fun _ h=>h) e1 s1 (by decide) fun l1 H1 e1 s1 f1=>?_
    refine stpB bm2 rfl (fun _ h=>h) e1 s1 (by decide) fun l1 H1 e1 s1 f1=>?_
    refine stpB bm3 rfl (fun _ h=>h) e1 s1 (by decide) fun l1 H1 e1 s1 f1=>?_
    refine stpB bm4 rfl (fun _ h=>h) e1 s1 (by decide) fun l1 H1 e1 s1 f1=>?_
    refine stpB bm5 rfl (fun _ h=>h) e1 s1 (by decide) fun l1 H1 e1 s1 f1=>?_
    refine stpB bm6 rfl (fun _ h=>h) e1 s1 (by decide) fun l1 H1 e1 s1 f1=>?_
    refine stpB bm7 rfl (fun _ h=>h) e1 s1 (by decide) fun l1 H1 e1 s1 f1=>?_
    refine stpB bm8 rfl (fun _ h=>h) e1 s1 (by decide) fun l1 H1 e1 s1 f1=>?_
    refine stpB bm9 rfl (fun _ h=>h) e1 s1 (by decide) fun l1 H1 e1 s1 f1=>?_
    refine stpB bm10 rfl (fun _ h=>h) e1 s1 (by decide) fun l1 H1 e1 s1 f1=>?_
    refine stpB bm11 rfl (fun _ h=>h) e1 s1 (by decide) fun l1 H1 e1 s1 f1=>?_
    refine stpB bm12 rfl (fun _ h=>h) e1 s1 (by decide) fun l1 H1 e1 s1 f1=>?_
    refine stpB bm13 rfl (fun _ h=>h) e1 s1 (by decide) fun l1 H1 e1 s1 f1=>?_
    refine stpB bm14 rfl (fun _ h=>h) e1 s1 (by decide) fun l1 H1 e1 s1 f1=>?_
    refine stpB bm15 rfl (fun _ h=>h) e1 s1 (by decide) fun l1 H1 e1 s1 f1=>?_
    refine stpB bm16 rfl (fun _ h=>h) e1 s1 (by decide) fun l1 H1 e1 s1 f1=>?_
    refine stpB bm17 rfl (fun _ h=>h) e1 s1 (by decide) fun l1 H1 e1 s1 f1=>?_
    refine stpB bm18 rfl (fun _ h=>h) e1 s1 (by decide) fun l1 H1 e1 s1 f1=>?_
    refine stpB bm19 rfl (fun _ h=>h) e1 s1 (by decide) fun l1 H1 e1 s1 f1=>?_
    refine use1 (LB H a bn0 300) ?_ (fun X hX=>?_)
    rotate_left
    · simp (maxSteps:=1000000) only [rCat,tSeq,eZ1,tOp,tVar,tAsg,gName,tCall,tNil,gZ0,gZ1,sZ0,sZ1,oZ0,eZ0,V.ref.injEq,aZ0]
      refine ⟨rfl,fun pf H2 n2 e2 s2=>⟨pf,rfl,_,s2 _ _ e1,_,e2,by rw [sizeLine_eq]; decide,?_⟩⟩
      intro p3 n3
      generalize z3:upd H2 p3 _=H3
      obtain ⟨s3,e3⟩:=new_same z3 n3
      exact hX _ _ ⟨p3,rfl,e3,s1.trans (s2.trans s3),(s1.trans s2).free n3,by decide⟩
    clear s1 e1 f1 g1
    rintro σ H1 ⟨l1,rfl,e1,s1,f1,g1⟩
    refine use1 (LB H a (bn0++(if 3<a then br0 else [])) 308) ?_ (fun X hX=>?_)
    rotate_left
    · by_cases hc:3<a
      · have hc1:decide ((3:Int)<(a:Int))=true:=decide_eq_true (by omega)
        simp (maxSteps:=1000000) only [Nat.reduceAdd,rCat,tSeq,eZ1,if_true,tIfS,tTest,tOp,tVar,tC,rI0,tAsg,gName,tNext,tCons,tNil,tLst,lZ1,lZ0,gZ0,gZ1,sZ0,sZ1,oZ0,eZ0,V.int.injEq,V.bl.injEq,V.ref.injEq,hc1]
        refine ⟨by rw [sizeLine_eq]; decide,?_⟩
        intro p2 n2
        generalize z2:upd H1 p2 _=H2
        obtain ⟨s2,e2⟩:=new_same z2 n2
        refine ⟨p2,4,_,rfl,rfl,e2,by decide,by decide,by rw [sizeLine_eq]; decide,?_⟩
        intro p3 n3
        generalize z3:upd H2 p3 _=H3
        obtain ⟨s3,e3⟩:=new_same z3 n3
        refine ⟨p3,rfl,_,(s2.trans s3) _ _ e1,_,e3,?_,?_⟩
        · rw [sV_len,sizeLine_eq]
          have h8:(List.replicate (Int.toNat 4) [V.str (Str.ofString "line 0 1 5"),V.str (Str.ofString "line 1 2 none")]).flatten.length=8:=by decide
          omega
        intro p4 n4
        generalize z4:upd H3 p4 _=H4
        obtain ⟨s4,e4⟩:=new_same z4 n4
        refine hX _ _ ⟨p4,rfl,?_,s1.trans (s2.trans (s3.trans s4)),(s1.trans (s2.trans s3)).free n4,?_⟩
        · rw [e4,if_pos hc]
          exact congrArg (fun z=>some (HO.lst z)) (sV_app (b:=br0)).symm
        · rw [if_pos hc,List.length_append]
          have h8:br0.length=8:=by decide
          have:=g1
          omega
      · have hc1:decide ((3:Int)<(a:Int))=false:=decide_eq_false (by omega)
        simp (maxSteps:=1000000) only [Nat.reduceAdd,rCat,tSeq,eZ1,if_false,Bool.false_eq_true,tIfS,tTest,tOp,tVar,tC,rI0,tAsg,gName,tNext,tCons,tNil,tLst,lZ1,lZ0,gZ0,gZ1,sZ0,sZ1,oZ0,eZ0,V.int.injEq,V.bl.injEq,V.ref.injEq,hc1]
        refine hX _ _ ⟨l1,rfl,?_,s1,f1,?_⟩
        · rw [if_neg hc,aZ0]
          exact e1
        · rw [if_neg hc,aZ0]
          omega
    clear s1 e1 f1
    rintro σ H1 ⟨l1,rfl,e1,s1,f1,g1⟩
    refine use1 (LB H a (bn0++(if 3<a then br0 else [])++(if 5<a then br1 else [])) 316) ?_ (fun X hX=>?_)
    rotate_left
    · by_cases hc:5<a
      · have hc1:decide ((5:Int)<(a:Int))=true:=decide_eq_true (by omega)
        simp (maxSteps:=1000000) only [Nat.reduceAdd,rCat,tSeq,eZ1,if_true,tIfS,tTest,tOp,tVar,tC,rI0,tAsg,gName,tNext,tCons,tNil,tLst,lZ1,lZ0,gZ0,gZ1,sZ0,sZ1,oZ0,eZ0,V.int.injEq,V.bl.injEq,V.ref.injEq,hc1]
        refine ⟨by rw [sizeLine_eq]; decide,?_⟩
        intro p2 n2
        generalize z2:upd H1 p2 _=H2
        obtain ⟨s2,e2⟩:=new_same z2 n2
        refine ⟨p2,4,_,rfl,rfl,e2,by decide,by decide,by rw [sizeLine_eq]; decide,?_⟩
        intro p3 n3
        generalize z3:upd H2 p3 _=H3
        obtain ⟨s3,e3⟩:=new_same z3 n3
        refine ⟨p3,rfl,_,(s2.trans s3) _ _ e1,_,e3,?_,?_⟩
        · rw [sV_len,sizeLine_eq]
          have h8:(List.replicate (Int.toNat 4) [V.str (Str.ofString "change 7 1 2 1000"),V.str (Str.ofString "change 1 0 1 none")]).flatten.length=8:=by decide
          omega
        intro p4 n4
        generalize z4:upd H3 p4 _=H4
        obtain ⟨s4,e4⟩:=new_same z4 n4
        refine hX _ _ ⟨p4,rfl,?_,s1.trans (s2.trans (s3.trans s4)),(s1.trans (s2.trans s3)).free n4,?_⟩
        · rw [e4,if_pos hc]
          exact congrArg (fun z=>some (HO.lst z)) (sV_app (b:=br1)).symm
        · rw [if_pos hc,List.length_append]
          have h8:br1.length=8:=by decide
          have:=g1
          omega
      · have hc1:decide ((5:Int)<(a:Int))=false:=decide_eq_false (by omega)
        simp (maxSteps:=1000000) only [Nat.reduceAdd,rCat,tSeq,eZ1,if_false,Bool.false_eq_true,tIfS,tTest,tOp,tVar,tC,rI0,tAsg,gName,tNext,tCons,tNil,tLst,lZ1,lZ0,gZ0,gZ1,sZ0,sZ1,oZ0,eZ0,V.int.injEq,V.bl.injEq,V.ref.injEq,hc1]
        refine hX _ _ ⟨l1,rfl,?_,s1,f1,?_⟩
        · rw [if_neg hc,aZ0]
          exact e1
        · rw [if_neg hc,aZ0]
          omega
    clear s1 e1 f1
    rintro σ H1 ⟨l1,rfl,e1,s1,f1,g1⟩
    refine use1 (LB H a (bn0++(if 3<a then br0 else [])++(if 5<a then br1 else [])++(if 7<a then br2 else [])) 324) ?_ (fun X hX=>?_)
    rotate_left
    · by_cases hc:7<a
      · have hc1:decide ((7:Int)<(a:Int))=true:=decide_eq_true (by omega)
        simp (maxSteps:=1000000) only [Nat.reduceAdd,rCat,tSeq,eZ1,if_true,tIfS,tTest,tOp,tVar,tC,rI0,tAsg,gName,tNext,tCons,tNil,tLst,lZ1,lZ0,gZ0,gZ1,sZ0,sZ1,oZ0,eZ0,V.int.injEq,V.bl.injEq,V.ref.injEq,hc1]
        refine ⟨by rw [sizeLine_eq]; decide,?_⟩
        intro p2 n2
        generalize z2:upd H1 p2 _=H2
        obtain ⟨s2,e2⟩:=new_same z2 n2
        refine ⟨p2,4,_,rfl,rfl,e2,by decide,by decide,by rw [sizeLine_eq]; decide,?_⟩
        intro p3 n3
        generalize z3:upd H2 p3 _=H3
        obtain ⟨s3,e3⟩:=new_same z3 n3
        refine ⟨p3,rfl,_,(s2.trans s3) _ _ e1,_,e3,?_,?_⟩
        · rw [sV_len,sizeLine_eq]
          have h8:(List.replicate (Int.toNat 4) [V.str (Str.ofString "road 0 1 1/-/1,1"),V.str (Str.ofString "road 2 1 none")]).flatten.length=8:=by decide
          omega
        intro p4 n4
        generalize z4:upd H3 p4 _=H4
        obtain ⟨s4,e4⟩:=new_same z4 n4
        refine hX _ _ ⟨p4,rfl,?_,s1.trans (s2.trans (s3.trans s4)),(s1.trans (s2.trans s3)).free n4,?_⟩
        · rw [e4,if_pos hc]
          exact congrArg (fun z=>some (HO.lst z)) (sV_app (b:=br2)).symm
        · rw [if_pos hc,List.length_append]
          have h8:br2.length=8:=by decide
          have:=g1
          omega
      · have hc1:decide ((7:Int)<(a:Int))=false:=decide_eq_false (by omega)
        simp (maxSteps:=1000000) only [Nat.reduceAdd,rCat,tSeq,eZ1,if_false,Bool.false_eq_true,tIfS,tTest,tOp,tVar,tC,rI0,tAsg,gName,tNext,tCons,tNil,tLst,lZ1,lZ0,gZ0,gZ1,sZ0,sZ1,oZ0,eZ0,V.int.injEq,V.bl.injEq,V.ref.injEq,hc1]
        refine hX _ _ ⟨l1,rfl,?_,s1,f1,?_⟩
        · rw [if_neg hc,aZ0]
          exact e1
        · rw [if_neg hc,aZ0]
          omega
    clear s1 e1 f1
    rintro σ H1 ⟨l1,rfl,e1,s1,f1,g1⟩
    simp (maxSteps:=1000000) only [tVar,tRet,gZ0,gZ1,oZ0,eZ0]
    refine q _ _ f1 ?_ s1
    unfold badS
    rw [if_neg ha]
    exact e1
end
end K82
namespace L2
open PySem PySem.Spec PyProof.Rows
theorem entry_unchain:entryFor table "proto.unchain"=some Builtin.«proto.unchain»:=entryFor_of_tree (by kernel_rfl)
section
variable {prog:Program} {w:World} {A:Around} {E:Value→Shared→Prop} {s:Shared} {α:Type}
def Lone (hp:Heap) (h:Addr):Prop:=∃ o vs,hp.get? h=some o∧o.data=.fields vs∧vs[2]?=some .none
theorem raiseNew_in {e h:Addr} {oe:Obj} {vs:Array Value} {Q:α→Shared→Prop} (hh:A.handled=some (.ref h)) (hne:h≠e) (L:Lone s.heap h) (he:s.heap.get? e=some oe) (hd:oe.data=.fields vs) (hsz:2<vs.size)
    (q:E (.ref e) { s with heap:=s.heap.update e (Obj.mapFields (·.setIfInBounds 2 (Value.ref h))) }):wpAny (model prog w) A (raiseNew (.ref e):Sem α) Q E s:=by
  obtain ⟨o,hs,g1,g2,g3⟩:=L
  simp only [raiseNew]
  refine wpAny_bind (wpAny_handled ?_)
  rw [hh]
  dsimp only
  have hb:(Value.ref h != Value.ref e)=true:=by
    rw [bne_iff_ne]
    exact fun z=>hne (Value.ref.inj z)
  rw [if_pos hb]
  refine wpAny_bind (wpAny_holding (runValue_entry entry_unchain ?_))
  change wpAny _ _ (field (.ref h) 2 >>= _) _ _ _
  refine wpAny_bind (wpAny_field g1 g2 g3 ?_)
  rw [if_pos (by rfl)]
  refine wpAny_pure ⟨_,rfl,?_⟩
  refine wpAny_bind ?_
  unfold updateField
  refine wpAny_bind (wpAny_load he ?_)
  rw [hd]
  dsimp only
  rw [if_pos hsz]
  exact wpAny_update he (wpAny_throw q)
theorem next_list_endH {it l h:Addr} {i:Nat} {items} {Q:Option Value→Shared→Prop} (hh:A.handled=some (.ref h)) (hL:Lone s.heap h) (hni:h≠it)
    (hit:s.heap.IsListIter it l i) (hl:s.heap.IsList l items) (hx:items[i]?=none)
    (hQ:∀ h',Heap.ExtBut it s.heap h'→Q none { s with heap:=h' }):wpAny (model prog w) A (pyNext (.ref it)) Q E s:=by
  obtain ⟨o,ho,hc,hd⟩:=id hit
  obtain ⟨ol,hol,_,nl,hdl⟩:=hl
  obtain ⟨oh,vh,g1,g2,g3⟩:=hL
  unfold pyNext
  refine wpAny_bind (wpAny_attempt (wpAny_callSpecial?_slot (name:=Str.ofString "__next__") hit.typeIs slot_listiter_next
    (wpAny_call_entry slot_listiter_next hit.typeIs entry_listiter_next ?_ (args_listiter_next _))))
  change wpAny _ _ (field (.ref it) 0 >>= _) _ _ s
  refine wpAny_bind (wpAny_field ho hd (x:=.ref l) rfl ?_)
  change wpAny _ _ (if (Value.ref l == Value.none)=true then _ else _) _ _ s
  rw [if_neg (show ¬ ((Value.ref l == Value.none)=true) from Bool.false_ne_true)]
  change wpAny _ _ (field (.ref it) 1 >>= _) _ _ s
  refine wpAny_bind (wpAny_field ho hd (x:=.int i 0) rfl ?_)
  change wpAny _ _ (seqItems? (.ref l) >>= _) _ _ s
  refine wpAny_bind (wpAny_seqItems hol hdl ?_)
  simp only [Int.toNat_natCast,hx]
  refine wpAny_bind (wpAny_rule (wpAny_bind (wpAny_setField ho hd (by simp) ?_)))
  change wpAny _ _ (newExc (.type "StopIteration") [] >>= _) _ _ _
  refine wpAny_bind ?_
  simp only [newExc,newTuple]
  refine wpAny_bind (wpAny_newObj_type ?_ (by size_fits))
  refine wpAny_bind (m:=firstArgMember _ _) (wpAny_of_eq (a:=Value.none) (by first|rfl|(simp only [firstArgMember]; rfl)) ?_)
  refine wpAny_newObj_type ?_ (by size_fits)
  dsimp only
  have ext:=((Heap.SameBut.update s.heap it (Obj.mapFields (·.setIfInBounds 0 Value.none))).extBut.push { cls:=.type "tuple", data:=.seq #[] })
  generalize (s.heap.update it (Obj.mapFields (·.setIfInBounds 0 Value.none))).push { cls:=.type "tuple", data:=.seq #[] }=h2 at ext ⊢
  generalize hO:({ cls:=Value.type "StopIteration", data:=Data.fields _ }:Obj)=O
  have lt:∀ b o,b≠it→s.heap.get? b=some o→b≠h2.objs.size:=fun b o hb e=>Nat.ne_of_lt (Heap.lt_size (ext b o hb e))
  have gO:(h2.push O).get? h2.objs.size=some O:=Heap.get?_push_size h2 (by rw [← hO]; rfl)
  obtain ⟨vs,hvs,hsz⟩:∃ vs,O.data=.fields vs∧2<vs.size:=by
    rw [← hO]
    exact ⟨_,rfl,by rw [Array.size_append]; change 2<6+_; omega⟩
  have hcO:O.cls=.type "StopIteration":=by rw [← hO]
  refine raiseNew_in (s:={ s with heap:=h2.push O }) hh (lt h oh hni g1) ⟨oh,vh,Heap.get?_push_of_some _ (ext h oh hni g1),g2,g3⟩ gO hvs hsz ?_
  have d5:=Obj.data_mapFields hvs (·.setIfInBounds 2 (Value.ref h))
  refine wpAny_bind (wpAny_isInstance (T:="StopIteration") (b:=true) ⟨_,Heap.get?_update_self _ gO (Obj.isFreed_of_fields d5),(Obj.cls_mapFields _ _).trans hcO⟩ isSubtype_stop ?_)
  exact wpAny_pure (hQ _ fun b o hb e=>(Heap.get?_update_other _ _ (Ne.symm (lt b o hb e))).trans (Heap.get?_push_of_some _ (ext b o hb e)))
theorem walks_listH {h:Addr} (hh:A.handled=some (.ref h)) (I ax:Addr) (hne:ax≠I) (hhI:h≠I) (items:Array Value) :
    Walks prog w A I [I,ax,h] [I] items.size (fun i v=>items[i]?=some v) (fun i hp=>hp.IsListIter I ax i∧hp.IsList ax items∧Lone hp h) where
  sub:=fun b hb=>by simp at hb; simp [hb]
  frame:=fun _ _ _ st hk=>⟨st.1.at fun o e=>hk I (by simp) o e,st.2.1.at fun o e=>hk ax (by simp) o e,let ⟨o,vs,g,r⟩:=st.2.2; ⟨o,vs,hk h (by simp) o g,r⟩⟩
  item:=fun i s Q E hi st hQ=>by
    refine wpAny_pyNext_list_item st.1 st.2.1 (x:=items[i]) (by simp [hi]) fun h' hit' hs'=>?_
    obtain ⟨o,vs,g,r⟩:=st.2.2
    exact hQ _ h' s.toks (by simp [hi]) ⟨hit',st.2.1.extBut hs'.extBut hne,o,vs,hs'.extBut h o hhI g,r⟩ fun b o hb e=>hs'.extBut b o (fun h=>hb (by simp [h])) e
  done:=fun s Q E st hQ=>next_list_endH hh st.2.2 hhI st.1 st.2.1 (by simp) fun h' he'=>hQ h' s.toks fun b o hb e=>he' b o (fun h=>hb (by simp [h])) e
  self:=fun _ _ _ _ st hQ=>wpAny_pyIter_listiter st.1 hQ
end
section
variable {X:Cx} {e:Addr}
def rAnyH (e:Addr):List V→Hp→VK→Prop:=fun xs H Q=>∃ (p:Addr) (bs:List Bool) (C:Addr) (od:Option Addr),xs=[.ref p]∧H p=some (.lst (bs.map V.bl))∧H e=some (XO e C od)∧Q (.bl (bs.any id)) H
theorem call_anyH (hh:X.A.handled=some (.ref e):=by rfl):CallR X (.builtin "any") (rAnyH e):=by
  intro pins s σ H xs us Q I r h
  obtain ⟨p,bs,C,od,rfl,ep,he,q⟩:=h
  obtain ⟨u,rfl,rx⟩:=vals1 r
  cases rx
  obtain ⟨its,rv,pl,hz⟩:=I.list (SqL.of (K:=X.K) ep)
  have ee:=vals_bl rv
  subst ee
  have hne:p≠s.heap.objs.size:=by obtain ⟨o,n,ho,_⟩:=pl; exact Nat.ne_of_lt (Heap.lt_size ho)
  obtain ⟨oe,vs,ge,_,_,c3,c4⟩:=I.xoS he
  have hee:e≠s.heap.objs.size:=Nat.ne_of_lt (Heap.lt_size ge)
  refine call_any_walk (wpAny_pyIter_list pl.isList ?_)
  refine ⟨_,_,_,_,_,_,fun i=>bs.getD i false,rfl,walks_listH (A:=X.A.in1) (h:=e) hh s.heap.objs.size p hne hee (bs.map Value.bool).toArray,⟨⟨_,Heap.get?_push_size _ rfl,rfl,rfl⟩,(pl.keeps fun b o e=>Heap.get?_push_of_some _ e).isList,oe,vs,Heap.get?_push_of_some _ ge,c3,c4.2⟩,truthOf_bools _ _ _ bs,fun h' tk hk=>?_⟩
  refine ⟨.bl (bs.any id),H,I.kept (t':=tk) fun b o e=>hk b o (by simp; exact Nat.ne_of_lt (Heap.lt_size e)) (Heap.get?_push_of_some _ e),?_,q⟩
  change Value.bool _=Value.bool _
  rw [← range_any]
  simp
end
def tTryE (K:PySem.W.Frag) (R:Addr) (i:Nat) (tb:TSx) (ts:Addr→TS):TS:=fun D σ H=>tb D (fun σ' e H'=>(∃ C od,H' e=some (XO e C od)∧XSub K C R)∧ts e (unD i D) (σ'.set i (some (.ref e))) H') σ H
section
variable {X:Cx} {R:Addr} {i:Nat} {x n:Str} {body suite:List Stmt} {b0:Stmt} {tb:TSx} {ts:Addr→TS} {np hpos pos:Pos}
theorem ps_tryE (hN:X.N.Nodup) (hi:X.N[i]?=some n) (hl:X.env.kindOf n=some .local) (hR:XKin X.K R) (hm:X.mg x=some (.ref R)) (hb:PSsx X body tb) (hs:∀ e,PSs (X.within e).nox (b0::suite) (ts e)) (hg:Gl X x:=by rfl)
    (hst:X.stack=X.env::X.outer:=by rfl) (hf:X.env.frame=some X.env.locals:=by rfl) (hdb:(x == ("__debug__":Str))=false:=by decide) :
    PS X (.Try body [.ExceptHandler (some (.Name x np)) (some n) (b0::suite) hpos] [] [] pos) (tTryE X.K R i tb ts):=by
  intro pins s σ H D I h
  refine wpAny_Try_except (wpAny_mono (hb pins s σ H D _ I h) (fun f s1 q=>?_) fun v s1 hx=>?_)
  · cases f with
    | next=>exact wpAny_execs_nil q
    | ret v=>exact q
    | brk=>exact q
    | cont=>exact q
  · obtain ⟨e,σ1,H1,rfl,I1,_,tb1,⟨C,od,he,nm,q,N,bs,bm,hdct,sn,sub,ab,col,dd,k0,k1,k2,k3,k5,ho,hsub⟩,hts⟩:=hx
    refine note_ok I1 he tb1 hst hf fun s2 I2 tb2=>?_
    refine wpAny_handleBy_cons (codeAny_handlers_test (ld_glob (X:=X.within e) (I2.within e) hg hm ?_ hdb)) (by intro z; cases z)
    obtain ⟨oe,vs,g1,c1,c2,c3,c4⟩:=I2.xo he
    obtain ⟨nm',q',N',bs',bm',hdct',sn',sub',ab',col',dd',k0',k1',k2',k3',k5',ho',ht'⟩:=hR
    have hC:=I2.kIn _ _ ho
    have hRE:=I2.kIn _ _ ho'
    have T:=PySem.W.tail_of_in I2.kIn ht'
    have hcB:(Value.ref R::bm').contains (.type "BaseException")=true:=by rw [List.contains_cons,T.hasType (X:="BaseException") (b:=true) rfl,Bool.or_true]
    have f:=tc_notTuple
    have key:∀ s3,Inv X pins σ1 H1 s3→Tb X pins H1 s3.heap e→wpAny (model X.prog X.w) (X.A.mark (some (.ref e))) (setFlight (.ref e) none) (fun _ s4=>wpAny (model X.prog X.w) (X.A.mark (some (.ref e))) (storeName X.env n (.ref e)) (fun _ s5=>
        wpAny (model X.prog X.w) (X.A.mark (some (.ref e))) (execs (b0::suite) X.env) (fun fl s6=>wpAny (model X.prog X.w) X.A (do bindName X.env n .none; unbindBehindTheSuite X.env n hpos) (fun _ s7=>SP X pins D fl s7) X.xe s6) (fun _ _=>False) s5) (fun _ _=>False) s4) (fun _ _=>False) s3:=by
      intro s3 I3 tb3
      refine flight_ok I3 tb3 fun s4 I4=>?_
      refine store_ok (v:=V.ref e) I4 hN hi (.inl hl) rfl (fun s5 I5=>?_) (.inr hl)
      refine wpAny_mono (hs e pins s5 _ H1 (unD i D) ((I5.within e).wish _) hts) (fun fl s6 sp=>?_) fun _ _ z=>z
      cases fl with
      | next=>
        obtain ⟨σ6,H6,I6,d6⟩:=sp
        exact gone_ok (I6.unwish.without I.ok) hN hi hl fun s7 I7=>⟨_,H6,I7,d6⟩
      | brk=>
        obtain ⟨σ6,H6,I6,d6⟩:=sp
        exact gone_ok (I6.unwish.without I.ok) hN hi hl fun s7 I7=>⟨_,H6,I7,d6⟩
      | cont=>
        obtain ⟨σ6,H6,I6,d6⟩:=sp
        exact gone_ok (I6.unwish.without I.ok) hN hi hl fun s7 I7=>⟨_,H6,I7,d6⟩
      | ret u=>
        obtain ⟨v6,σ6,H6,I6,r6,d6⟩:=sp
        exact gone_ok (I6.unwish.without I.ok) hN hi hl fun s7 I7=>⟨v6,_,H6,I7,r6,d6⟩
    have K3:=key s2 I2 tb2
    obtain ⟨hp,g,d,tk,os⟩:=s2
    unfold excMatches
    repeat (first|(with_reducible refine wpAny_loadPart_at g1 ?_; rw [c1])|with_reducible refine wpAny_loadPart_at hRE ?_|(with_reducible refine wpAny_isSubtype_exc hRE ?_; rw [hcB])|(with_reducible refine wpAny_isSubtype_exc hC ?_; rw [hsub])|wp_step)
    rw [if_pos rfl]
    exact codeAny_handlers_suite_as (wpAny_mono K3 (fun _ s4 h4=>wpAny_mono h4 (fun _ s5 h5=>wpAny_mono h5 (fun fl s6 h6=>h6) fun _ _ z=>False.elim z) fun _ _ z=>False.elim z) fun _ _ z=>False.elim z)
end
end L2
namespace K82
open PySem L2
abbrev s__law_refused:Stmt:=stm 52
theorem sc__law_refused:FnScope ["_law_text","_law_word","_law_at","e","_law_other"] ["_law_text","_law_word","_law_at"] (defScope s__law_refused):=⟨rfl,rfl,rfl,by decide +kernel,rfl,by decide +kernel,by decide +kernel⟩
section
variable {P:Program} {w:World} {K:PySem.W.Frag} {mg:Str→Option Value} {base:Heap} {C R cM cR cA cL cW cO:Addr}
structure Er8 (mg:Str→Option Value) (R cM cR cA cL cW cO:Addr):Prop where
  r:mg "RoadError"=some (.ref R)
  m:mg "BadMeasures"=some (.ref cM)
  d:mg "BadRoad"=some (.ref cR)
  a:mg "BadName"=some (.ref cA)
  l:mg "BadLine"=some (.ref cL)
  w:mg "BadWish"=some (.ref cW)
  o:mg "NoRow"=some (.ref cO)
  v:mg "ValueError"=none
structure KitT (K:PySem.W.Frag) (R cM cA cR cL cW cO:Addr):Prop where
  subO:XSub K cO R
  subM:XSub K cM R
  xcO:XC K cO
  xcM:XC K cM
  gt:XGt K cO "at"
  oL:PySem.W.kitOne K (.ref cO) (.ref cL)=some false
  oA:PySem.W.kitOne K (.ref cO) (.ref cA)=some false
  oR:PySem.W.kitOne K (.ref cO) (.ref cR)=some false
  oW:PySem.W.kitOne K (.ref cO) (.ref cW)=some false
  oO:PySem.W.kitOne K (.ref cO) (.ref cO)=some true
  oM:PySem.W.kitOne K (.ref cO) (.ref cM)=some false
  oV:PySem.W.kitOne K (.ref cO) (.type "ValueError")=some true
  mL:PySem.W.kitOne K (.ref cM) (.ref cL)=some false
  mA:PySem.W.kitOne K (.ref cM) (.ref cA)=some false
  mR:PySem.W.kitOne K (.ref cM) (.ref cR)=some false
  mW:PySem.W.kitOne K (.ref cM) (.ref cW)=some false
  mO:PySem.W.kitOne K (.ref cM) (.ref cO)=some false
  mM:PySem.W.kitOne K (.ref cM) (.ref cM)=some true
  mV:PySem.W.kitOne K (.ref cM) (.type "ValueError")=some true
def Refd (v:V) (H:Hp) (wd:String) (t:Int):Prop:=(NoTxt v H∧wd="row"∧t=0)∨∃ (l:List Nat) (o:Option Nat),v=.str (Sg l)∧l.length≤10000∧(spl 10 (l.length+1) l).length≤100∧(∀ x∈spl 10 (l.length+1) l,x.length≤1000)∧Fal l o∧((o=none∧wd="measures")∨∃ a:Nat,o=some a∧wd="row"∧t=(a:Int))
def sp_lrefd:Sp:=fun vs H Q _=>∃ (v:V) (wd:String) (t:Int),vs=[v,.str (Str.ofString wd),.int t]∧Refd v H wd t∧∀ H',Same H H'→Q (.bl true) H'
set_option maxHeartbeats 4000000 in
theorem own_lrefd (D:Def K mg "_law_refused" s__law_refused) (hb:Blt mg) (Z:Er8 mg R cM cR cA cL cW cO) (XR_RoadError:XKin K R) (T:KitT K R cM cA cR cL cW cO) (FX_read_net:OwnX P w K mg base 10 "read_net" ["text"] (sp_rnT cO cM)):Own P w K mg base 11 "_law_refused" ["_law_text","_law_word","_law_at"] sp_lrefd:=by
  refine D.own sc__law_refused (fun _ _ _ _ _ _ us hl=>match us,hl with|[_,_,_],_=>rfl) (fun vs H Q E h=>?_) (fun f cdv A outer s H vs Q E hr h=>?_)
  · obtain ⟨v,wd,t,rfl,_⟩:=h
    rfl
  · obtain ⟨v,wd,t,rfl,hv,q⟩:=h
    have hu:=hr.units
    have hu1:(A.deeper (PyProof.Rows.envOfC "_law_refused" (defScope s__law_refused) s.heap.objs.size f cdv)).units+1<cLine:=by omega
    obtain ⟨hc_RoadError,hc_BadMeasures,hc_BadRoad,hc_BadName,hc_BadLine,hc_BadWish,hc_NoRow,hve⟩:=Z
    refine ⟨_,(pss_cons (ps_tryE (i:=3) sc__law_refused.nd rfl rfl XR_RoadError hc_RoadError (pssx_one (psx_expr (pex_fn FX_read_net hr (pa_cX (pv 0) pa_nil)))) (fun _=>(pss_cons (ps_st (i:=4) sc__law_refused.nd rfl (pe_lst (pa_cX (pe_callB (call_isx K) rfl (hb _ (by decide)) bt_isinstance (pa_cX (pv 3) (pa_cX (pe_cls hc_BadLine) pa_nil))) (pa_cX (pe_callB (call_isx K) rfl (hb _ (by decide)) bt_isinstance (pa_cX (pv 3) (pa_cX (pe_cls hc_BadName) pa_nil))) (pa_cX (pe_callB (call_isx K) rfl (hb _ (by decide)) bt_isinstance (pa_cX (pv 3) (pa_cX (pe_cls hc_BadRoad) pa_nil))) pa_nil))))) (pss_cons (ps_st (i:=4) sc__law_refused.nd rfl (pe_op op_cat (pv 4) (pe_lst (pa_cX (pe_callB (call_isx K) rfl (hb _ (by decide)) bt_isinstance (pa_cX (pv 3) (pa_cX (pe_cls hc_BadWish) pa_nil))) pa_nil)))) (pss_cons (ps_if (@PW.pt _ _ _ (pw_or (pt_truX (pe_callB call_anyH rfl (hb _ (by decide)) bt_any (pa_cX (pv 4) pa_nil))) (pw_or1 (pt_not (pt_truX (pe_callB (call_isx K) rfl (hb _ (by decide)) bt_isinstance (pa_cX (pv 3) (pa_cX (pe_bltn (v:=(.ty "ValueError")) rfl hve bt_ValueError rfl) pa_nil)))))))) (pss_one (ps_ret pe_bl)) pss_nil) (pss_cons (ps_if (pt_cmpR op_eq (pv 1) pe_str (nomark _)) (pss_one (ps_ret (pe_and (pe_callB (call_isx K) rfl (hb _ (by decide)) bt_isinstance (pa_cX (pv 3) (pa_cX (pe_cls hc_BadMeasures) pa_nil))) (pe_one (pe_not (pe_callB (call_isx K) rfl (hb _ (by decide)) bt_isinstance (pa_cX (pv 3) (pa_cX (pe_cls hc_NoRow) pa_nil)))))))) pss_nil) (pss_one (ps_ret (pe_and (pe_callB (call_isx K) rfl (hb _ (by decide)) bt_isinstance (pa_cX (pv 3) (pa_cX (pe_cls hc_NoRow) pa_nil))) (pe_and (pe_not (pe_callB (call_isx K) rfl (hb _ (by decide)) bt_isinstance (pa_cX (pv 3) (pa_cX (pe_cls hc_BadMeasures) pa_nil)))) (pe_one (pe_cmpR op_eq (pe_xattr K (pv 3)) (pv 2) (nomark _))))))))))))) (pss_one (ps_ret pe_bl))),?_⟩
    simp (maxSteps:=1000000) only [rEq_ss,tTruX,truX_b,Nat.reduceSub,upd_same,HO.lst.injEq,Nat.reduceAdd,cxOf_K,rCat,cZ0,tSeq,eZ1,if_true,tIfS,tOr,tNot,tTest,tOp,tVar,tC,tRet,tAsg,gName,tNext,tAndV,tNotV,tCons,tNil,tCB,tLst,L2.start,mZ1,mZ0,lZ1,lZ0,List.replicate,List.cons_append,List.nil_append,gZ0,gZ1,sZ0,sZ1,oZ0,eZ0,V.bl.injEq,V.ref.injEq,and_true,tDropx,tCallx,tXa,unD,rAnyH,tTryE]
    have hrow:(Str.ofString "row"=Str.ofString "measures")=False:=by simp; decide
    rcases hv with ⟨hn,rfl,rfl⟩|⟨l,o,rfl,hl,hrl,hsh,F,hw⟩
    · refine .inl ⟨v,rfl,hn,fun e H1 s1 n=>?_⟩
      obtain ⟨dx,he,hdx⟩:=n
      have hd:XD H1 (some dx):=XD.some hdx
      refine ⟨⟨cO,_,he,T.subO⟩,isx_exc he hd T.xcO T.oL (isx_exc he hd T.xcO T.oA (isx_exc he hd T.xcO T.oR ⟨by rw [sizeLine_eq]; decide,?_⟩))⟩
      intro p2 n2
      generalize z2:upd H1 p2 _=H2
      obtain ⟨s2,e2⟩:=new_same z2 n2
      refine isx_exc (s2 _ _ he) (hd.same s2) T.xcO T.oW ⟨by rw [sizeLine_eq]; decide,?_⟩
      intro p3 n3
      generalize z3:upd H2 p3 _=H3
      obtain ⟨s3,e3⟩:=new_same z3 n3
      refine ⟨_,s3 _ _ e2,by rw [sizeLine_eq]; change 3+1≤_; decide,?_⟩
      intro p4 n4
      generalize z4:upd H3 p4 _=H4
      obtain ⟨s4,e4⟩:=new_same z4 n4
      have t4:=s2.trans (s3.trans s4)
      have he4:=t4 _ _ he
      have hd4:=hd.same t4
      refine ⟨[false,false,false,false],rfl,_,_,he4,iteF (isx_val he4 hd4 T.xcO T.oV ⟨true,rfl,iteF ?_⟩)⟩
      rw [if_neg (by decide)]
      refine isx_exc he4 hd4 T.xcO T.oO ⟨true,rfl,iteT (isx_exc he4 hd4 T.xcO T.oM ⟨false,rfl,iteT ⟨_,_,he4,_,t4 _ _ hdx,_,rfl,T.gt,?_⟩⟩)⟩
      simp (maxSteps:=1000000) only [decide_true,rEq_ii]
      exact q _ (s1.trans t4)
    · refine .inr ⟨l,o,rfl,hl,hrl,hsh,F,fun e H1 s1 n=>?_⟩
      rcases hw with ⟨rfl,rfl⟩|⟨a,rfl,rfl,rfl⟩
      · have he:H1 e=some (XO e cM none):=n
        have hd:XD H1 none:=XD.none
        refine ⟨⟨cM,_,he,T.subM⟩,isx_exc he hd T.xcM T.mL (isx_exc he hd T.xcM T.mA (isx_exc he hd T.xcM T.mR ⟨by rw [sizeLine_eq]; decide,?_⟩))⟩
        intro p2 n2
        generalize z2:upd H1 p2 _=H2
        obtain ⟨s2,e2⟩:=new_same z2 n2
        refine isx_exc (s2 _ _ he) (hd.same s2) T.xcM T.mW ⟨by rw [sizeLine_eq]; decide,?_⟩
        intro p3 n3
        generalize z3:upd H2 p3 _=H3
        obtain ⟨s3,e3⟩:=new_same z3 n3
        refine ⟨_,s3 _ _ e2,by rw [sizeLine_eq]; change 3+1≤_; decide,?_⟩
        intro p4 n4
        generalize z4:upd H3 p4 _=H4
        obtain ⟨s4,e4⟩:=new_same z4 n4
        have t4:=s2.trans (s3.trans s4)
        have he4:=t4 _ _ he
        have hd4:=hd.same t4
        refine ⟨[false,false,false,false],rfl,_,_,he4,iteF (isx_val he4 hd4 T.xcM T.mV ⟨true,rfl,iteF ?_⟩)⟩
        exact iteT (isx_exc he4 hd4 T.xcM T.mM ⟨true,rfl,iteT (isx_exc he4 hd4 T.xcM T.mO ⟨false,rfl,q _ (s1.trans t4)⟩)⟩)
      · obtain ⟨dx,he,hdx⟩:=n
        have hd:XD H1 (some dx):=XD.some hdx
        refine ⟨⟨cO,_,he,T.subO⟩,isx_exc he hd T.xcO T.oL (isx_exc he hd T.xcO T.oA (isx_exc he hd T.xcO T.oR ⟨by rw [sizeLine_eq]; decide,?_⟩))⟩
        intro p2 n2
        generalize z2:upd H1 p2 _=H2
        obtain ⟨s2,e2⟩:=new_same z2 n2
        refine isx_exc (s2 _ _ he) (hd.same s2) T.xcO T.oW ⟨by rw [sizeLine_eq]; decide,?_⟩
        intro p3 n3
        generalize z3:upd H2 p3 _=H3
        obtain ⟨s3,e3⟩:=new_same z3 n3
        refine ⟨_,s3 _ _ e2,by rw [sizeLine_eq]; change 3+1≤_; decide,?_⟩
        intro p4 n4
        generalize z4:upd H3 p4 _=H4
        obtain ⟨s4,e4⟩:=new_same z4 n4
        have t4:=s2.trans (s3.trans s4)
        have he4:=t4 _ _ he
        have hd4:=hd.same t4
        refine ⟨[false,false,false,false],rfl,_,_,he4,iteF (isx_val he4 hd4 T.xcO T.oV ⟨true,rfl,iteF ?_⟩)⟩
        rw [if_neg (by decide)]
        refine isx_exc he4 hd4 T.xcO T.oO ⟨true,rfl,iteT (isx_exc he4 hd4 T.xcO T.oM ⟨false,rfl,iteT ⟨_,_,he4,_,t4 _ _ hdx,_,rfl,T.gt,?_⟩⟩)⟩
        simp (maxSteps:=1000000) only [decide_true,rEq_ii]
        exact q _ (s1.trans t4)
end
end K82
namespace K82
open PySem L2
def rowsOf (ss:List String):List (List Nat):=ss.map K82.w
def mAt:Nat→Nat
  | 0=>0
  | 1=>0
  | 2=>0
  | 3=>0
  | 4=>1
  | 5=>1
  | 6=>2
  | 7=>2
  | _=>3
def chk:Nat→List (List Nat)→Option Nat
  | m,[]=>some m
  | m,l::r=>match kIx l with
    | some j=>if (decide (m≤j) && roB j l)=true then chk j r else none
    | none=>none
theorem rsF_app {rest:List (List Nat)}:∀ (p:List (List Nat)) (m a m':Nat),chk m p=some m'→rsF m a (p++rest)=rsF m' (a+p.length) rest
  | [],m,a,m',h=>by
    cases h
    rfl
  | l::p,m,a,m',h=>by
    rw [List.cons_append,rsF_cons]
    unfold chk at h
    cases e:kIx l with
    | none=>rw [e] at h; cases h
    | some j=>
      rw [e] at h
      dsimp only at h ⊢
      by_cases hc:(decide (m≤j) && roB j l)=true
      · rw [if_pos hc] at h ⊢
        rw [rsF_app p j (a+1) m' h,lZ1]
        congr 1
        omega
      · rw [if_neg hc] at h
        cases h
theorem rsF_bad {m a:Nat} {l:List Nat} {rest:List (List Nat)} (h:rsF m a [l]=some a):rsF m a (l::rest)=some a:=by
  rw [rsF_cons] at h ⊢
  cases e:kIx l with
  | none=>rfl
  | some j=>
    rw [e] at h
    dsimp only at h ⊢
    by_cases hc:(decide (m≤j) && roB j l)=true
    · rw [if_pos hc] at h
      cases h
    · rw [if_neg hc]
def tidyB (s:String):Bool:=decide ((K82.w s).length≤100) && !(K82.w s).contains 10
def okBad (a:Nat) (b:String):Bool:=tidyB b && (if a=0 then !msB (K82.w b) else decide (rsF (mAt a) a [K82.w b]=some a))
theorem bad_all:(List.range 10).all (fun a=>(badS a).all (okBad a))=true:=by decide +kernel
theorem good_tidy:goodS.all tidyB=true:=by decide +kernel
theorem chk_all:(List.range 10).all (fun a=>decide (a=0) || decide (chk 0 (rowsOf (goodS.take a)).tail=some (mAt a)))=true:=by decide +kernel
theorem bad_ok {a:Nat} {b:String} (ha:a<10) (hb:b∈badS a):okBad a b=true:=List.all_eq_true.mp (List.all_eq_true.mp bad_all a (List.mem_range.mpr ha)) b hb
theorem bad_tidy {a:Nat} {b:String} (ha:a<10) (hb:b∈badS a):tidyB b=true:=by
  have:=bad_ok ha hb
  unfold okBad at this
  rw [Bool.and_eq_true] at this
  exact this.1
inductive FalR:List (List Nat)→Option Nat→Prop
  | row0 (l0:List Nat) (rows:List (List Nat)):msB l0=false→FalR (l0::rows) (some 0)
  | row (l0:List Nat) (rows:List (List Nat)) (a:Nat):msB l0=true→rsF 0 1 rows=some a→FalR (l0::rows) (some a)
  | ms (l0:List Nat) (rows:List (List Nat)) (ns:List Nat):msB l0=true→rsF 0 1 rows=none→(spl 32 (l0.length+1) l0).tail=ns.map nT→offB (ns.map Int.ofNat)→FalR (l0::rows) none
theorem sum_le2 {ss:List (List Nat)} (h:∀ x∈ss,x.length≤100):(ss.map fun p=>p.length+1).sum≤101 * ss.length:=by
  induction ss with
  | nil=>simp
  | cons x r ih=>
    have h1:=h x (.head _)
    have h2:=ih fun y hy=>h y (.tail _ hy)
    simp only [mZ1,List.sum_cons,lZ1]
    omega
theorem tidy_of {s:String} (h:tidyB s=true):(K82.w s).length≤100∧10 ∉ K82.w s:=by
  unfold tidyB at h
  simp only [Bool.and_eq_true,decide_eq_true_eq,Bool.not_eq_true'] at h
  refine ⟨h.1,fun hm=>?_⟩
  have:=h.2
  rw [List.contains_iff_mem.mpr hm] at this
  cases this
theorem rows_text {ss:List String} (h20:ss.length≤20) (hne:ss≠[]) (ht:∀ s∈ss,tidyB s=true):(jW 10 (rowsOf ss)).length≤10000∧((rowsOf ss).map fun p=>p.length+1).sum≤100000∧spl 10 ((jW 10 (rowsOf ss)).length+1) (jW 10 (rowsOf ss))=rowsOf ss∧(rowsOf ss).length≤100∧∀ x∈rowsOf ss,x.length≤1000:=by
  have hl:(rowsOf ss).length=ss.length:=List.length_map _
  have hx:∀ x∈rowsOf ss,x.length≤100∧10 ∉ x:=fun x hx=>by
    obtain ⟨s,hs,rfl⟩:=List.mem_map.mp hx
    exact tidy_of (ht s hs)
  have hsum:=sum_le2 fun x h=>(hx x h).1
  have hne':rowsOf ss≠[]:=fun z=>hne (List.map_eq_nil_iff.mp z)
  have h1:=jW_len 10 (rowsOf ss)
  have h2:=jW_ge (c:=10) hne'
  refine ⟨by omega,by omega,jW_spl hne' (by omega) fun x h=>(hx x h).2,by omega,fun x h=>Nat.le_trans (hx x h).1 (by decide)⟩
theorem refd_rows {H:Hp} {ss:List String} {o:Option Nat} {wd:String} {t:Int} (h20:ss.length≤20) (hne:ss≠[]) (ht:∀ s∈ss,tidyB s=true) (F:FalR (rowsOf ss) o) (hw:(o=none∧wd="measures")∨∃ a:Nat,o=some a∧wd="row"∧t=(a:Int)):Refd (.str (Sg (jW 10 (rowsOf ss)))) H wd t:=by
  obtain ⟨a1,a2,a3,a4,a5⟩:=rows_text h20 hne ht
  refine .inr ⟨_,o,rfl,a1,by rw [a3]; exact a4,by rw [a3]; exact a5,?_,hw⟩
  generalize rowsOf ss=rows at F a3
  cases F with
  | row0 l0 rows h=>exact .row0 l0 rows a3 h
  | row l0 rows a h1 h2=>exact .row l0 rows a a3 h1 h2
  | ms l0 rows ns h1 h2 h3 h4=>exact .ms l0 rows ns a3 h1 h2 h3 h4
theorem good_ms:msB (K82.w "measures 3 1 9 60 20 3 4 3 30 40")=true:=by decide +kernel
theorem worse_fal {a:Nat} {b:String} {ss:List String} (ha:a<10) (hb:b∈badS a) (htake:ss.take a=goodS.take a) (hat:ss[a]?=some b):FalR (rowsOf ss) (some a):=by
  obtain ⟨hlt,e⟩:=List.getElem?_eq_some_iff.mp hat
  have hss:ss=goodS.take a++b::ss.drop (a+1):=by
    rw [← htake,← e,List.getElem_cons_drop,List.take_append_drop]
  have ok:=bad_ok ha hb
  unfold okBad at ok
  rw [Bool.and_eq_true] at ok
  by_cases h0:a=0
  · subst h0
    rw [if_pos rfl] at ok
    rw [hss]
    exact .row0 _ _ (by simpa using ok.2)
  · rw [if_neg h0] at ok
    have hr:=of_decide_eq_true ok.2
    have hc:=List.all_eq_true.mp chk_all a (List.mem_range.mpr ha)
    rw [decide_eq_false h0,Bool.false_or] at hc
    have hc:=of_decide_eq_true hc
    obtain ⟨k,rfl⟩:∃ k,a=k+1:=⟨a - 1,by omega⟩
    have hg:goodS.take (k+1)="measures 3 1 9 60 20 3 4 3 30 40"::goodS.tail.take k:=rfl
    rw [hg] at hc hss
    rw [hss]
    have er:rowsOf ("measures 3 1 9 60 20 3 4 3 30 40"::goodS.tail.take k++b::ss.drop (k+1+1))=K82.w "measures 3 1 9 60 20 3 4 3 30 40"::(rowsOf (goodS.tail.take k)++K82.w b::rowsOf (ss.drop (k+1+1))):=by
      unfold rowsOf
      rw [List.cons_append,mZ1,List.map_append,mZ1]
    rw [er]
    refine .row _ _ _ good_ms ?_
    have hl:(rowsOf (goodS.tail.take k)).length=k:=by
      unfold rowsOf
      rw [List.length_map,List.length_take]
      have:goodS.tail.length=9:=by decide
      omega
    have hc':chk 0 (rowsOf (goodS.tail.take k))=some (mAt (k+1)):=hc
    rw [rsF_app _ 0 1 _ hc',hl,Nat.add_comm 1 k]
    exact rsF_bad hr
def outS:List String:=["measures 1 1 9 60 20 3 4 3 30 40","measures 3 33 9 60 20 3 4 3 30 40","measures 3 1 9 60 20 3 4 3 30 10001"]
theorem out_tidy:outS.all tidyB=true:=by decide +kernel
theorem out_ms:outS.all (fun s=>msB (K82.w s))=true:=by decide +kernel
theorem good_rows:rsF 0 1 (rowsOf goodS.tail)=none:=by decide +kernel
theorem row_9:rsF 0 1 (rowsOf (goodS.tail.set 8 ""))=some 9:=by decide +kernel
theorem row_10:rsF 0 1 (rowsOf (goodS.tail++[""]))=some 10:=by decide +kernel
theorem no_row:msB []=false:=by decide +kernel
theorem out_0:(spl 32 ((K82.w "measures 1 1 9 60 20 3 4 3 30 40").length+1) (K82.w "measures 1 1 9 60 20 3 4 3 30 40")).tail=[1,1,9,60,20,3,4,3,30,40].map nT:=by decide +kernel
theorem out_1:(spl 32 ((K82.w "measures 3 33 9 60 20 3 4 3 30 40").length+1) (K82.w "measures 3 33 9 60 20 3 4 3 30 40")).tail=[3,33,9,60,20,3,4,3,30,40].map nT:=by decide +kernel
theorem out_2:(spl 32 ((K82.w "measures 3 1 9 60 20 3 4 3 30 10001").length+1) (K82.w "measures 3 1 9 60 20 3 4 3 30 10001")).tail=[3,1,9,60,20,3,4,3,30,10001].map nT:=by decide +kernel
theorem out_fal {s:String} (h:s∈outS):FalR (rowsOf (s::goodS.tail)) none:=by
  have hm:=List.all_eq_true.mp out_ms s h
  simp only [outS,List.mem_cons,List.not_mem_nil,or_false] at h
  rcases h with rfl|rfl|rfl
  · exact .ms _ _ [1,1,9,60,20,3,4,3,30,40] hm good_rows out_0 ⟨rfl,0,1,_,rfl,rfl,by decide⟩
  · exact .ms _ _ [3,33,9,60,20,3,4,3,30,40] hm good_rows out_1 ⟨rfl,1,33,_,rfl,rfl,by decide⟩
  · exact .ms _ _ [3,1,9,60,20,3,4,3,30,10001] hm good_rows out_2 ⟨rfl,9,10001,_,rfl,rfl,by decide⟩
theorem out_9 {s:String} (h:s∈outS):FalR (rowsOf (s::goodS.tail.set 8 "")) (some 9):=.row _ _ 9 (List.all_eq_true.mp out_ms s h) row_9
theorem good_10:FalR (rowsOf (goodS++[""])) (some 10):=.row _ _ 10 good_ms row_10
theorem refd_empty {H:Hp}:Refd (.str (Sg [])) H "row" 0:=.inr ⟨[],some 0,rfl,by decide,by decide,by decide,.row0 [] [] (by decide) no_row,.inr ⟨0,rfl,rfl,rfl⟩⟩
def ns0:List Nat:=[3,1,9,60,20,3,4,3,30,40]
def m0:Ms:=⟨3,1,9,60,20,3,4,3,30,40⟩
def n0:Nt:={ ln:=[[.n 0,.n 1,.o (some 5)],[.n 1,.n 2,.o none]],ch:=[[.n 7,.n 1,.n 2,.o (some 1000)],[.n 8,.n 0,.n 1,.o none]],rd:=[[.n 0,.n 1,.ds [[1],[],[1,1]]],[.n 2,.n 1,.ds []]],ws:=[⟨1,0,.one (K82.w "begin") (.n 2)⟩,⟨2,0,.put 2 (K82.w "a ;b ")⟩,⟨99999,1,.one (K82.w "ask") (.nm (K82.w "eightlet"))⟩] }
theorem good_T:rowsT ns0 n0=rowsOf goodS:=by decide +kernel
theorem ms0:msOk ns0 m0:=⟨rfl,rfl,by decide⟩
theorem in0:inB m0.l:=by
  refine ⟨rfl,fun i n q h1 h2=>?_⟩
  match i with
  | 0|1|2|3|4|5|6|7|8|9=>cases h1; cases h2; decide
  | k+10=>cases h1
theorem ok_o {p:Option Nat} (h:p.all (fun k=>decide (k<100000))=true):okO p:=fun k e=>by
  subst e
  simpa using h
theorem nt0:n0.Ok:=by
  refine ⟨?_,?_,?_,?_,by decide⟩
  · intro r hr
    simp only [n0,List.mem_cons,List.not_mem_nil,or_false] at hr
    rcases hr with rfl|rfl
    · refine ⟨⟨_,_,_,rfl⟩,fun f hf=>?_⟩
      simp only [List.mem_cons,List.not_mem_nil,or_false] at hf
      rcases hf with rfl|rfl|rfl
      · exact (by decide:0<100000)
      · exact (by decide:1<100000)
      · exact ok_o rfl
    · refine ⟨⟨_,_,_,rfl⟩,fun f hf=>?_⟩
      simp only [List.mem_cons,List.not_mem_nil,or_false] at hf
      rcases hf with rfl|rfl|rfl
      · exact (by decide:1<100000)
      · exact (by decide:2<100000)
      · exact ok_o rfl
  · intro r hr
    simp only [n0,List.mem_cons,List.not_mem_nil,or_false] at hr
    rcases hr with rfl|rfl
    · refine ⟨⟨_,_,_,_,rfl⟩,fun f hf=>?_⟩
      simp only [List.mem_cons,List.not_mem_nil,or_false] at hf
      rcases hf with rfl|rfl|rfl|rfl
      · exact (by decide:7<100000)
      · exact (by decide:1<100000)
      · exact (by decide:2<100000)
      · exact ok_o rfl
    · refine ⟨⟨_,_,_,_,rfl⟩,fun f hf=>?_⟩
      simp only [List.mem_cons,List.not_mem_nil,or_false] at hf
      rcases hf with rfl|rfl|rfl|rfl
      · exact (by decide:8<100000)
      · exact (by decide:0<100000)
      · exact (by decide:1<100000)
      · exact ok_o rfl
  · intro r hr
    simp only [n0,List.mem_cons,List.not_mem_nil,or_false] at hr
    rcases hr with rfl|rfl
    · refine ⟨⟨_,_,_,rfl⟩,fun f hf=>?_⟩
      simp only [List.mem_cons,List.not_mem_nil,or_false] at hf
      rcases hf with rfl|rfl|rfl
      · exact (by decide:0<100000)
      · exact (by decide:1<100000)
      · exact ⟨by decide,fun x hx=>by
          simp only [List.mem_cons,List.not_mem_nil,or_false] at hx
          rcases hx with rfl|rfl|rfl <;> exact ⟨by decide,by decide⟩⟩
    · refine ⟨⟨_,_,_,rfl⟩,fun f hf=>?_⟩
      simp only [List.mem_cons,List.not_mem_nil,or_false] at hf
      rcases hf with rfl|rfl|rfl
      · exact (by decide:2<100000)
      · exact (by decide:1<100000)
      · exact ⟨by decide,fun x hx=>nomatch hx⟩
  · intro r hr
    simp only [n0,List.mem_cons,List.not_mem_nil,or_false] at hr
    rcases hr with rfl|rfl|rfl
    · exact ⟨by decide,by decide,.inl ⟨.inl rfl,2,rfl,by decide⟩⟩
    · exact ⟨by decide,by decide,by decide,by decide,by decide,by decide⟩
    · exact ⟨by decide,by decide,.inr ⟨.inr (.inr rfl),_,rfl,by decide,by decide,by decide⟩⟩
end K82
namespace K82
open PySem L2
abbrev s_law:Stmt:=stm 53
theorem sc_law:FnScope ["_law_script","_law_rows","_law_found","_law_cell","_law_draw_here","_law_at","_law_later","_law_worse","_law_bad_here","_law_out"] ["_law_script"] (defScope s_law):=⟨rfl,rfl,rfl,by decide +kernel,rfl,by decide +kernel,by decide +kernel⟩
section
variable {P:Program} {w:World} {K:PySem.W.Frag} {mg:Str→Option Value} {base:Heap} {C R cO cM:Addr} {H H':Hp}
def sp_law (K:PySem.W.Frag):Sp:=fun vs H Q _=>∃ (a:Addr) (ns:List Int),vs=[.ref a]∧SqL K H a (ns.map V.int)∧ns.length≤63∧∀ H',Q (.bl true) H'
theorem same_keep {S:List Addr} {H H1 H2:Hp} (s:Same H H1) (k:Keep S H1 H2) (n:∀ a∈S,H a=none):Same H H2:=fun b o h=>k b o (s b o h) fun hb=>by
  have:=n b hb
  rw [h] at this
  cases this
theorem sV_strs (ss:List String):sV ss=(ss.map Str.ofString).map V.str:=by
  unfold sV
  rw [List.map_map]
  rfl
theorem strs_Sg (ss:List String):ss.map Str.ofString=(rowsOf ss).map Sg:=by
  unfold rowsOf
  rw [List.map_map]
  exact List.map_congr_left fun s _=>S_of s
theorem join_sV {p:Addr} {ss:List String} (h20:ss.length≤20) (hne:ss≠[]) (ht:∀ s∈ss,tidyB s=true) (ep:H p=some (.lst (sV ss))) :
    ∃ zs:List Str,H p=some (.lst (zs.map V.str))∧jLen (Str.ofString "\n") zs≤sizeLine∧(joinT (Str.ofString "\n") zs).length≤sizeLine∧joinT (Str.ofString "\n") zs=Sg (jW 10 (rowsOf ss)):=by
  rw [sV_strs,strs_Sg] at ep
  obtain ⟨j1,j2,j3⟩:=join_ok (Q:=fun v _=>v=.str (Sg (jW 10 (rowsOf ss)))) (H:=H) 10 (rowsOf ss) (S_of "\n") rfl (rows_text h20 hne ht).2.1 rfl
  exact ⟨_,ep,j1,j2,V.str.inj j3⟩
theorem set_nat {xs:List V} {j:Nat} {v:V} (h:j<xs.length):setO (.lst xs) (.int (j:Int)) v=some (.lst (xs.set j v)):=by
  rw [setO_l]
  have:ixN xs.length (j:Int)=some j:=by
    unfold ixN
    rw [if_pos (by omega),if_pos (by simpa using h)]
    simp
  rw [this]
  rfl
theorem sV_get {l:List String} {k:Nat} {b:String} (h:l[k]?=some b):getO (.lst (sV l)) (.int (k:Int))=some (.str (Str.ofString b)):=by
  change atI (sV l) (k:Int)=_
  rw [atI_nat']
  unfold sV
  rw [List.getElem?_map,h]
  rfl
theorem sV_set {l:List String} {k:Nat} {b:String}:(sV l).set k (.str (Str.ofString b))=sV (l.set k b):=by
  unfold sV
  rw [List.map_set]
theorem bad_len:(List.range 10).all (fun a=>decide (1≤(badS a).length) && decide ((badS a).length≤200))=true:=by decide +kernel
theorem bad_len' {a:Nat} (h:a<10):1≤(badS a).length∧(badS a).length≤200:=by
  have:=List.all_eq_true.mp bad_len a (List.mem_range.mpr h)
  rw [Bool.and_eq_true] at this
  exact ⟨of_decide_eq_true this.1,of_decide_eq_true this.2⟩
theorem bad1_20:20≤(badS 1).length:=by decide +kernel
theorem bad_hd {a:Nat} (h:a<10):(badS a)[0]?=some "":=by
  have:(List.range 10).all (fun a=>decide ((badS a)[0]?=some ""))=true:=by decide +kernel
  exact of_decide_eq_true (List.all_eq_true.mp this a (List.mem_range.mpr h))
theorem set_tidy {ss:List String} {k:Nat} {b:String} (h:∀ s∈ss,tidyB s=true) (hb:tidyB b=true):∀ s∈ss.set k b,tidyB s=true:=fun s hs=>by
  rcases List.mem_or_eq_of_mem_set hs with h1|rfl
  · exact h s h1
  · exact hb
abbrev lσ (sc R:Addr) (v2 v3 v4 v5 v6 v7 v8 v9:Option V):St:=[some (.ref sc),some (.ref R),v2,v3,v4,v5,v6,v7,v8,v9]
def LA (C:Addr) (H:Hp) (sc:Addr) (σ:St) (H':Hp):Prop:=∃ (R p x dx:Addr) (q:Nat→Addr) (H1:Hp),σ=lσ sc R (some (.ref p)) none none none none none none none∧H' R=some (.lst (sV goodS))∧Got C H1 m0 n0 p x dx q H'∧Same H H'
def LBg (H:Hp) (sc:Addr) (σ:St) (H':Hp):Prop:=∃ (R:Addr) (v2:Option V),σ=lσ sc R v2 none none none none none none none∧H' R=some (.lst (sV goodS))∧Same H H'
def LK (H:Hp) (sc R:Addr) (v2:Option V) (σ:St) (H':Hp):Prop:=∃ v3 v4 v5 v6 v7 v8 v9,σ=lσ sc R v2 v3 v4 v5 v6 v7 v8 v9∧Same H H'
def LBg2 (H:Hp) (sc R:Addr) (v2:Option V) (σ:St) (H':Hp):Prop:=LK H sc R v2 σ H'
def I1 (H:Hp) (sc R:Addr) (v2:Option V) (c:Int) (σ:St) (H':Hp):Prop:=∃ (pd:Addr) (a la:Nat) (v7 v8 v9:Option V),σ=lσ sc R v2 (some (.int c)) (some (.ref pd)) (some (.int (a:Int))) (some (.int (la:Int))) v7 v8 v9∧a<10∧la<10∧Dr H' pd∧Same H H'∧H pd=none
structure Wo (H:Hp) (pd pw pb:Addr) (a:Nat) (b:String) (ss:List String) (H':Hp):Prop where
  ew:H' pw=some (.lst (sV ss))
  eb:H' pb=some (.lst (sV (badS a)))
  len:ss.length=10
  take:ss.take a=goodS.take a
  at_:ss[a]?=some b
  mem:b∈badS a
  tidy:∀ s∈ss,tidyB s=true
  dr:Dr H' pd
  s:Same H H'
  nd:H pd=none
  nw:H pw=none
  nb:H pb=none
  dw:pw≠pd
  db:pb≠pd
  bw:pb≠pw
theorem Wo.same {pd pw pb:Addr} {a:Nat} {b:String} {ss:List String} {H H1 H2:Hp} (W:Wo H pd pw pb a b ss H1) (s:Same H1 H2):Wo H pd pw pb a b ss H2:=
  ⟨s _ _ W.ew,s _ _ W.eb,W.len,W.take,W.at_,W.mem,W.tidy,W.dr.same s,W.s.trans s,W.nd,W.nw,W.nb,W.dw,W.db,W.bw⟩
structure W5 (H:Hp) (pd pw pb:Addr) (a:Nat) (ss:List String) (H':Hp):Prop where
  ew:H' pw=some (.lst (sV ss))
  eb:H' pb=some (.lst (sV (badS a)))
  s:Same H H'
  nw:H pw=none
  bw:pb≠pw
theorem W5.same {pd pw pb:Addr} {a:Nat} {ss:List String} {H H1 H2:Hp} (W:W5 H pd pw pb a ss H1) (s:Same H1 H2):W5 H pd pw pb a ss H2:=⟨s _ _ W.ew,s _ _ W.eb,W.s.trans s,W.nw,W.bw⟩
def I8 (H:Hp) (sc R:Addr) (v2:Option V) (c:Int) (σ:St) (H':Hp):Prop:=∃ v4 v5 v6 v7 v8 v9,σ=lσ sc R v2 (some (.int c)) v4 v5 v6 v7 v8 v9∧Same H H'
def I5 (H:Hp) (sc R:Addr) (v2:Option V) (c:Int) (pd pb:Addr) (a:Nat) (σ:St) (H':Hp):Prop:=∃ (v4 v6 v9:Option V) (pw:Addr) (o:String),σ=lσ sc R v2 (some (.int c)) v4 (some (.int (a:Int))) v6 (some (.ref pw)) (some (.ref pb)) v9∧o∈outS∧W5 H pd pw pb a (o::goodS.tail) H'
def I2 (H:Hp) (sc R:Addr) (v2:Option V) (c:Int) (pd:Addr) (a la:Nat) (σ:St) (H':Hp):Prop:=∃ (v9:Option V) (pw pb:Addr) (b:String) (ss:List String),σ=lσ sc R v2 (some (.int c)) (some (.ref pd)) (some (.int (a:Int))) (some (.int (la:Int))) (some (.ref pw)) (some (.ref pb)) v9∧Wo H pd pw pb a b ss H'
set_option maxHeartbeats 8000000 in
theorem law_fn {f:Addr} {fd:FuncData} (F:Fun K "law" "law" s_law f fd) (hb:Blt mg)
    (F__law_draw:Own P w K mg base 1 "_law_draw" ["_law_cell"] sp_draw) (F__law_next:Own P w K mg base 1 "_law_next" ["_law_draw_here","_law_size"] sp_next) (F__law_good:Own P w K mg base 1 "_law_good" [] (sp_lst goodS)) (F__law_bad:Own P w K mg base 2 "_law_bad" ["_law_at"] sp_lbad) (F__law_refused:Own P w K mg base 11 "_law_refused" ["_law_text","_law_word","_law_at"] sp_lrefd)
    (F_net_text:Own P w K mg base 3 "net_text" ["measures","lines","changes","roads","wishes"] (sp_net C)) (F_read_net:Own P w K mg base 9 "read_net" ["text"] (sp_rnet C)):FnOk P w K mg base CX0 12 f fd ["_law_script"] (sp_law K):=by
  refine F.ok sc_law (fun vs H Q E h=>?_) (fun cdv A outer s H vs Q E hr h=>?_)
  · obtain ⟨a,ns,rfl,_⟩:=h
    rfl
  · obtain ⟨sc,is,rfl,hS,h63,q⟩:=h
    have hu:=hr.units
    have hu1:(A.deeper (PyProof.Rows.envOfC "law" (defScope s_law) s.heap.objs.size f cdv)).units+1<cLine:=by omega
    refine ⟨_,(pss_cons (ps_st (i:=1) sc_law.nd rfl (pe_fn0 F__law_good hr)) (pss_cons (ps_st (i:=2) sc_law.nd rfl (pe_fn F_read_net hr (pa_cX (pe_join pe_str (pv 1) (by constructor <;> rfl)) pa_nil))) (pss_cons (ps_if (pt_cmpR op_ne (pe_fn F_net_text hr (pa_cX (pe_ix (ix_get hu1) (pv 2) pe_int (fun _ _=>rfl)) (pa_cX (pe_ix (ix_get hu1) (pv 2) pe_int (fun _ _=>rfl)) (pa_cX (pe_ix (ix_get hu1) (pv 2) pe_int (fun _ _=>rfl)) (pa_cX (pe_ix (ix_get hu1) (pv 2) pe_int (fun _ _=>rfl)) (pa_cX (pe_ix (ix_get hu1) (pv 2) pe_int (fun _ _=>rfl)) pa_nil)))))) (pe_join pe_str (pv 1) (by constructor <;> rfl)) (nomark _)) (pss_one (ps_ret pe_bl)) pss_nil) (pss_cons (ps_for PassesOwn.never rfl (pi_listK K (pe_slice (sl_listK K) (pv 0) po_none (po_some pe_int))) (pg_name (i:=3) sc_law.nd rfl (by first|exact Or.inl rfl|exact Or.inr rfl)) (pss_cons (ps_st (i:=4) sc_law.nd rfl (pe_fn F__law_draw hr (pa_cX (pv 3) pa_nil))) (pss_cons (ps_st (i:=5) sc_law.nd rfl (pe_fn F__law_next hr (pa_cX (pv 4) (pa_cX pe_int pa_nil)))) (pss_cons (ps_st (i:=6) sc_law.nd rfl (pe_fn F__law_next hr (pa_cX (pv 4) (pa_cX pe_int pa_nil)))) (pss_cons (ps_st (i:=7) sc_law.nd rfl (pe_callTy call_listX rfl (hb _ (by decide)) bt_list (pa_cX (pv 1) pa_nil))) (pss_cons (ps_st (i:=8) sc_law.nd rfl (pe_fn F__law_bad hr (pa_cX (pv 5) pa_nil))) (pss_cons (ps_asg (pe_ix (ix_get hu1) (pv 8) (pe_fn F__law_next hr (pa_cX (pv 4) (pa_cX (pe_callB call_lenX rfl (hb _ (by decide)) bt_len (pa_cX (pv 8) pa_nil)) pa_nil))) (fun _ _=>rfl)) (pg_sub (pv 7) (pv 5) (set_x hu1))) (pss_cons (ps_if (pt_cmpR op_gt (pv 6) (pv 5) (nomark _)) (pss_one (ps_asg (pe_ix (ix_get hu1) (pe_fn F__law_bad hr (pa_cX pe_int pa_nil)) (pe_fn F__law_next hr (pa_cX (pv 4) (pa_cX pe_int pa_nil))) (fun _ _=>rfl)) (pg_sub (pv 7) (pv 6) (set_x hu1)))) pss_nil) (pss_cons (ps_if (pt_not (pt_truX (pe_fn F__law_refused hr (pa_cX (pe_join pe_str (pv 7) (by constructor <;> rfl)) (pa_cX pe_str (pa_cX (pv 5) pa_nil)))))) (pss_one (ps_ret pe_bl)) pss_nil) (pss_cons (ps_st (i:=9) sc_law.nd rfl (pe_lst (pa_cX pe_str (pa_cX pe_str pa_nil)))) (pss_cons (ps_st (i:=9) sc_law.nd rfl (pe_op op_cat (pv 9) (pe_lst (pa_cX pe_str pa_nil)))) (pss_cons (ps_st (i:=7) sc_law.nd rfl (pe_op op_cat (pe_lst (pa_cX (pe_ix (ix_get hu1) (pv 9) (pe_fn F__law_next hr (pa_cX (pv 4) (pa_cX pe_int pa_nil))) (fun _ _=>rfl)) pa_nil)) (pe_slice sl_X (pv 1) (po_some pe_int) po_none))) (pss_cons (ps_if (pt_not (pt_truX (pe_fn F__law_refused hr (pa_cX (pe_join pe_str (pv 7) (by constructor <;> rfl)) (pa_cX pe_str (pa_cX pe_int pa_nil)))))) (pss_one (ps_ret pe_bl)) pss_nil) (pss_cons (ps_asg (pe_ix (ix_get hu1) (pv 8) pe_int (fun _ _=>rfl)) (pg_sub (pv 7) pe_int (set_x hu1))) (pss_cons (ps_if (pt_not (pt_truX (pe_fn F__law_refused hr (pa_cX (pe_join pe_str (pv 7) (by constructor <;> rfl)) (pa_cX pe_str (pa_cX pe_int pa_nil)))))) (pss_one (ps_ret pe_bl)) pss_nil) (pss_one (ps_if (pt_not (pt_truX (pe_fn F__law_refused hr (pa_cX (pe_ix (ix_get hu1) (pe_lst (pa_cX pe_non (pa_cX pe_int (pa_cX (pv 1) (pa_cX pe_str pa_nil))))) (pe_op op_mod (pv 3) pe_int) (fun _ _=>rfl)) (pa_cX pe_str (pa_cX pe_int pa_nil)))))) (pss_one (ps_ret pe_bl)) pss_nil))))))))))))))))) (pss_one (ps_ret (pe_fn F__law_refused hr (pa_cX (pe_join pe_str (pe_op op_cat (pv 1) (pe_lst (pa_cX pe_str pa_nil))) (by constructor <;> rfl)) (pa_cX pe_str (pa_cX pe_int pa_nil)))))))))),?_⟩
    have gt:∀ s∈goodS,tidyB s=true:=List.all_eq_true.mp good_tidy
    refine use2 (LA C H sc) ?_ (fun X hX=>?_)
    rotate_left
    · simp (maxSteps:=1000000) only [Nat.reduceSub,Nat.reduceAdd,tSeq,eZ1,tVar,tC,tAsg,gName,tCall,tCons,tNil,L2.start,mZ1,mZ0,lZ1,lZ0,List.replicate,List.cons_append,List.nil_append,gZ0,gZ1,sZ0,sZ1,oZ0,eZ0,V.ref.injEq,V.str.injEq,true_and,aZ0,sp_lst,tJoin]
      intro R H1 n1 e1 s1
      obtain ⟨zs,ez,j1,j2,j3⟩:=join_sV (by decide) (by decide) gt e1
      refine ⟨zs,ez,j1,j2,?_⟩
      rw [j3,← good_T]
      exact ⟨m0,ns0,n0,rfl,ms0,in0,nt0,fun p x dx q' H2 g=>hX _ _ ⟨R,p,x,dx,q',H1,rfl,g.s _ _ e1,g,s1.trans g.s⟩⟩
    rintro σ H1 ⟨R,p,x,dx,q',H0,rfl,eR,g,s1⟩
    have ep:=g.ep
    refine use1 (LBg H sc) ?_ (fun X hX=>?_)
    rotate_left
    · simp (maxSteps:=1000000) only [rGet,getO_t,atI_0,atI_1,atI_2,atI_3,tSeq,eZ1,tIfS,tTest,tOp,tVar,tC,tRet,tNext,tCall,tCons,tNil,gZ0,gZ1,oZ0,eZ0,V.ref.injEq,V.str.injEq,aZ0,ep,tJoin]
      refine ⟨_,at4,x,dx,q' 0,q' 1,q' 2,q' 3,m0,ns0,n0,_,rfl,g.ex,ms0,nt0,g.n,fun H2 s2=>?_⟩
      obtain ⟨zs,ez,j1,j2,j3⟩:=join_sV (by decide) (by decide) gt (s2 _ _ eR)
      refine ⟨zs,ez,j1,j2,?_⟩
      rw [j3,good_T]
      simp (maxSteps:=1000000) only [rNe_ss,decide_true,Bool.not_true,if_false,Bool.false_eq_true,eZ0,V.bl.injEq]
      exact hX _ _ ⟨R,_,rfl,s2 _ _ eR,s1.trans s2⟩
    clear ep g
    rintro σ H1 ⟨R,v2,rfl,eR,s1⟩
    have nR:∀ b,H1 b=none→b≠R:=fun b hb z=>by rw [z,eR] at hb; cases hb
    have hS1:=s1.seq hS
    obtain ⟨cs,hcs⟩:=cutV_map is none (some 24)
    refine use1 (LBg2 H1 sc R v2) ?_ (fun X hX=>?_)
    rotate_left
    · simp (maxSteps:=1000000) only [tFor_eq,iList,tSl,rSlL,tNoPart,tPart,tSeq,eZ1,tVar,tC,gZ0,oZ0,eZ0,V.int.injEq,V.ref.injEq]
      refine ⟨_,hS1,?_⟩
      rw [hcs]
      intro p2 n2
      generalize z2:upd H1 p2 _=H2
      obtain ⟨s2,e2⟩:=new_same z2 n2
      refine ⟨⟨_,SqL.of e2⟩,for_list (xs:=cs.map V.int) (fun _=>LK H2 sc R v2) ⟨_,_,_,_,_,_,_,rfl,.refl _⟩ ?_ ?_ ?_⟩
      · rintro i σ H3 _ ⟨v3,v4,v5,v6,v7,v8,v9,rfl,s3⟩
        exact SqL.of (s3 _ _ e2)
      · rintro i cv σ H3 hcv ⟨v3,v4,v5,v6,v7,v8,v9,rfl,s3⟩
        rw [List.getElem?_map] at hcv
        obtain ⟨c,hc,rfl⟩:=Option.map_eq_some_iff.mp hcv
        have eR3:=(s2.trans s3) _ _ eR
        dsimp only [gName]
        refine use3 (I1 H3 sc R v2 c) ?_ (fun X1 hX1=>?_)
        rotate_left
        · simp (maxSteps:=1000000) only [cZ0,tSeq,tVar,tC,tAsg,gName,tCall,tCons,tNil,gZ0,gZ1,sZ0,sZ1,oZ0,eZ0,V.int.injEq,and_true,aZ0,sp_draw]
          intro pd xa xb H4 n4 e4 s4
          refine next_ok ⟨xa,xb,e4⟩ (by decide) (by decide) fun a H5 ha d5 k5=>next_ok d5 (by decide) (by decide) fun la H6 hla d6 k6=>hX1 _ _ ⟨pd,a,la,_,_,_,rfl,by omega,by omega,d6,?_,n4⟩
          have npd:∀ b∈[pd],H3 b=none:=fun b hb=>by rw [List.mem_singleton] at hb; rw [hb]; exact n4
          exact same_keep (same_keep s4 k5 npd) k6 npd
        rintro σ H4 ⟨pd,a,la,v7,v8,v9,rfl,ha,hla,dr,s4,npd⟩
        have eR4:=s4 _ _ eR3
        refine use3 (I2 H3 sc R v2 c pd a la) ?_ (fun X1 hX1=>?_)
        rotate_left
        · simp (maxSteps:=1000000) only [rGet,rLenX,lenX_r,rSetX,rListX,seqO_l,gSub,cZ0,tSeq,eZ1,tOp,tVar,tAsg,gName,tCall,tCons,tNil,tCB,gZ0,gZ1,sZ0,sZ1,oZ0,eZ0,V.int.injEq,V.ref.injEq,and_true,aZ0,eR4,sp_lbad]
          intro pw nw
          refine ⟨a,rfl,fun pb H5 nb eb s5=>?_⟩
          have s45:Same H4 H5:=(Same.upd_new nw).trans s5
          have ew:H5 pw=some (.lst (sV goodS)):=s5 _ _ upd_same
          obtain ⟨xa,xb,epd⟩:=id dr
          have hwd:pw≠pd:=fun h=>by rw [h,epd] at nw; cases nw
          have hbd:pb≠pd:=fun h=>by rw [h,(Same.upd_new nw) _ _ epd] at nb; cases nb
          have hbw:pb≠pw:=fun h=>by rw [h,upd_same] at nb; cases nb
          obtain ⟨l1,l2⟩:=bad_len' ha
          refine ⟨(badS a).length,by rw [eb]; change some (sV (badS a)).length=_; rw [sV_len],next_ok (dr.same s45) (by omega) (by omega) fun k H6 hk d6 k6=>?_⟩
          have nm:∀ b,b≠pd→b ∉ [pd]:=fun b hb h=>hb (List.mem_singleton.mp h)
          have hkb:k<(badS a).length:=by omega
          have hget:(badS a)[k]?=some (badS a)[k]:=List.getElem?_eq_getElem hkb
          have hmem:(badS a)[k]∈badS a:=List.getElem_mem hkb
          generalize (badS a)[k]=b at hget hmem
          have s6:Same H3 H6:=same_keep (s4.trans s45) k6 fun b hb=>by rw [List.mem_singleton] at hb; rw [hb]; exact npd
          have nw3:H3 pw=none:=s4.free nw
          have nb3:H3 pb=none:=s4.free ((Same.upd_new nw).free nb)
          have hl10:goodS.length=10:=by decide
          refine ⟨_,k6 _ _ eb (nm _ hbd),_,sV_get hget,_,k6 _ _ ew (nm _ hwd),_,set_nat (by rw [sV_len,hl10]; exact ha),hX1 _ _ ⟨_,pw,pb,b,goodS.set a b,rfl,⟨?_,?_,?_,?_,?_,hmem,set_tidy gt (bad_tidy ha hmem),?_,s6.upd nw3,npd,nw3,nb3,hwd,hbd,hbw⟩⟩⟩
          · rw [upd_same,sV_set]
          · rw [upd_ne hbw]
            exact k6 _ _ eb (nm _ hbd)
          · rw [List.length_set,hl10]
          · rw [List.take_set_of_le (Nat.le_refl _)]
          · rw [List.getElem?_set_self (by rw [hl10]; exact ha)]
          · obtain ⟨ya,yb,ey⟩:=d6
            exact ⟨ya,yb,by rw [upd_ne (Ne.symm hwd)]; exact ey⟩
        clear s4 npd dr eR4
        rintro σ H4 ⟨v9,pw,pb,b,ss,rfl,W⟩
        refine use1 (I2 H3 sc R v2 c pd a la) ?_ (fun X1 hX1=>?_)
        rotate_left
        · by_cases hal:a<la
          · have hc1:decide ((a:Int)<(la:Int))=true:=decide_eq_true (by omega)
            simp (maxSteps:=1000000) only [rGet,rSetX,gSub,cZ0,tSeq,eZ1,if_true,tIfS,tTest,tOp,tVar,tC,rI0,tAsg,tNext,tCall,tCons,tNil,gZ0,gZ1,oZ0,eZ0,V.int.injEq,V.bl.injEq,V.ref.injEq,and_true,aZ0,hc1,sp_lbad]
            refine ⟨1,rfl,fun p1 H5 n5 e5 s5=>next_ok (W.dr.same s5) (by decide) (by decide) fun k H6 hk d6 k6=>?_⟩
            obtain ⟨xa,xb,epd⟩:=W.dr
            have hpd:p1≠pd:=fun h=>by rw [h,epd] at n5; cases n5
            have nm:∀ b,b≠pd→b ∉ [pd]:=fun b hb h=>hb (List.mem_singleton.mp h)
            have hkb:k<(badS 1).length:=Nat.lt_of_lt_of_le (by omega) bad1_20
            have hget:(badS 1)[k]?=some (badS 1)[k]:=List.getElem?_eq_getElem hkb
            have hmem:(badS 1)[k]∈badS 1:=List.getElem_mem hkb
            generalize (badS 1)[k]=b1 at hget hmem
            have s6:Same H3 H6:=same_keep (W.s.trans s5) k6 fun b hb=>by rw [List.mem_singleton] at hb; rw [hb]; exact W.nd
            refine ⟨_,k6 _ _ e5 (nm _ hpd),_,sV_get hget,_,k6 _ _ (s5 _ _ W.ew) (nm _ W.dw),_,set_nat (by rw [sV_len,W.len]; exact hla),hX1 _ _ ⟨_,pw,pb,b,ss.set la b1,rfl,⟨?_,?_,?_,?_,?_,W.mem,set_tidy W.tidy (bad_tidy (by decide) hmem),?_,s6.upd W.nw,W.nd,W.nw,W.nb,W.dw,W.db,W.bw⟩⟩⟩
            · rw [upd_same,sV_set]
            · rw [upd_ne W.bw]
              exact k6 _ _ (s5 _ _ W.eb) (nm _ W.db)
            · rw [List.length_set,W.len]
            · rw [List.take_set_of_le (Nat.le_of_lt hal),W.take]
            · rw [List.getElem?_set_ne (Nat.ne_of_gt hal)]
              exact W.at_
            · obtain ⟨ya,yb,ey⟩:=d6
              exact ⟨ya,yb,by rw [upd_ne (Ne.symm W.dw)]; exact ey⟩
          · have hc1:decide ((a:Int)<(la:Int))=false:=decide_eq_false (by omega)
            simp (maxSteps:=1000000) only [rGet,rSetX,gSub,tSeq,eZ1,if_false,Bool.false_eq_true,tIfS,tTest,tOp,tVar,tC,rI0,tAsg,tNext,tCall,tCons,tNil,gZ0,gZ1,oZ0,eZ0,V.int.injEq,V.bl.injEq,V.ref.injEq,aZ0,hc1]
            exact hX1 _ _ ⟨_,pw,pb,b,ss,rfl,W⟩
        clear W
        rintro σ H4 ⟨v9,pw,pb,b,ss,rfl,W⟩
        have ew:=W.ew
        have hss:ss≠[]:=fun z=>by have:=W.len; rw [z] at this; cases this
        refine use1 (I2 H3 sc R v2 c pd a la) ?_ (fun X1 hX1=>?_)
        rotate_left
        · simp (maxSteps:=1000000) only [tTruX,tSeq,eZ1,tIfS,tNot,tVar,tC,tRet,tNext,tCall,tCons,tNil,gZ0,gZ1,oZ0,eZ0,V.ref.injEq,V.str.injEq,aZ0,tJoin]
          obtain ⟨zs,ez,j1,j2,j3⟩:=join_sV (by rw [W.len]; decide) hss W.tidy ew
          refine ⟨zs,ez,j1,j2,?_⟩
          rw [j3]
          refine ⟨_,"row", _,rfl,refd_rows (by rw [W.len]; decide) hss W.tidy (worse_fal ha W.mem W.take W.at_) (.inr ⟨a,rfl,rfl,rfl⟩),fun H5 s5=>⟨true,rfl,iteF (hX1 _ _ ⟨_,pw,pb,b,ss,rfl,W.same s5⟩)⟩⟩
        clear W ew hss
        rintro σ H4 ⟨v9,pw,pb,b,ss,rfl,W⟩
        have eb:=W.eb
        have eR4:=W.s _ _ eR3
        have hbd:=W.db
        have W1:=W
        clear W
        refine use3 (I5 H3 sc R v2 c pd pb a) ?_ (fun X1 hX1=>?_)
        rotate_left
        · simp (maxSteps:=1000000) only [rGet,rSlX,upd_same,HO.lst.injEq,Nat.reduceAdd,tSl,tNoPart,tPart,rCat,tSeq,eZ1,tOp,tVar,tC,tAsg,gName,tCall,tCons,tNil,tLst,lZ1,lZ0,gZ0,gZ1,sZ0,sZ1,oZ0,eZ0,V.int.injEq,V.ref.injEq,aZ0]
          refine ⟨by rw [sizeLine_eq]; decide,?_⟩
          intro p5 n5
          generalize z5:upd H4 p5 _=H5
          obtain ⟨s5,e5⟩:=new_same z5 n5
          refine ⟨by rw [sizeLine_eq]; decide,?_⟩
          intro p6 n6
          generalize z6:upd H5 p6 _=H6
          obtain ⟨s6,e6⟩:=new_same z6 n6
          refine ⟨_,s6 _ _ e5,by rw [sizeLine_eq]; decide,?_⟩
          intro p7 n7
          generalize z7:upd H6 p7 _=H7
          obtain ⟨s7,e7⟩:=new_same z7 n7
          have s47:=s5.trans (s6.trans s7)
          obtain ⟨xa,xb,epd⟩:=W1.dr
          have hpd:p7≠pd:=fun h=>by rw [h,(s5.trans s6) _ _ epd] at n7; cases n7
          have nm:∀ b,b≠pd→b ∉ [pd]:=fun b hb h=>hb (List.mem_singleton.mp h)
          refine next_ok (W1.dr.same s47) (by decide) (by decide) fun k H8 hk d8 k8=>?_
          have hk3:k<outS.length:=by change k<3; omega
          have hget:outS[k]?=some outS[k]:=List.getElem?_eq_getElem hk3
          have hmem:outS[k]∈outS:=List.getElem_mem hk3
          generalize outS[k]=o at hget hmem
          have e7':H7 p7=some (.lst (sV outS)):=e7
          have hRd:R≠pd:=fun h=>by rw [h,epd] at eR4; cases eR4
          have eR8:=k8 _ _ (s47 _ _ eR4) (nm _ hRd)
          have eb8:=k8 _ _ (s47 _ _ eb) (nm _ hbd)
          refine ⟨_,k8 _ _ e7' (nm _ hpd),_,sV_get hget,by rw [sizeLine_eq]; decide,?_⟩
          intro p9 n9
          generalize z9:upd H8 p9 _=H9
          obtain ⟨s9,e9⟩:=new_same z9 n9
          have eR9:=s9 _ _ eR8
          simp (maxSteps:=1000000) only [HO.lst.injEq,oZ0,eZ0,eR9]
          rw [show cutV (sV goodS) (some 1) none=sV goodS.tail from cut_1]
          intro p10 n10
          generalize z10:upd H9 p10 _=H10
          obtain ⟨s10,e10⟩:=new_same z10 n10
          refine ⟨_,s10 _ _ e9,by rw [sV_len,sizeLine_eq]; change 1+9≤16777216; decide,?_⟩
          intro p11 n11
          generalize z11:upd H10 p11 _=H11
          obtain ⟨s11,e11⟩:=new_same z11 n11
          have s38:Same H3 H8:=same_keep (W1.s.trans s47) k8 fun b hb=>by rw [List.mem_singleton] at hb; rw [hb]; exact W1.nd
          have s310:=s38.trans (s9.trans s10)
          have eb10:=(s9.trans s10) _ _ eb8
          exact hX1 _ _ ⟨_,_,_,p11,o,rfl,hmem,e11,s11 _ _ eb10,s310.trans s11,s310.free n11,fun h=>by rw [h,n11] at eb10; cases eb10⟩
        clear eb eR4 hbd W1
        rintro σ H4 ⟨v4,v6,v9,pw,o,rfl,ho,W⟩
        have ot:tidyB o=true:=List.all_eq_true.mp out_tidy o ho
        have gt5:∀ s∈o::goodS.tail,tidyB s=true:=fun s hs=>by
          rcases List.mem_cons.mp hs with rfl|h
          · exact ot
          · exact gt s (.tail _ h)
        have h20:(o::goodS.tail).length≤20:=by change 10≤20; decide
        refine use1 (I5 H3 sc R v2 c pd pb a) ?_ (fun X1 hX1=>?_)
        rotate_left
        · simp (maxSteps:=1000000) only [tTruX,tSeq,eZ1,tIfS,tNot,tVar,tC,tRet,tNext,tCall,tCons,tNil,gZ0,gZ1,oZ0,eZ0,V.ref.injEq,V.str.injEq,aZ0,tJoin]
          obtain ⟨zs,ez,j1,j2,j3⟩:=join_sV h20 (by simp) gt5 W.ew
          refine ⟨zs,ez,j1,j2,?_⟩
          rw [j3]
          refine ⟨_,"measures", _,rfl,refd_rows h20 (by simp) gt5 (out_fal ho) (.inl ⟨rfl,rfl⟩),fun H5 s5=>⟨true,rfl,iteF (hX1 _ _ ⟨_,_,_,pw,o,rfl,ho,W.same s5⟩)⟩⟩
        clear W gt5 ot ho
        rintro σ H4 ⟨v4,v6,v9,pw,o,rfl,ho,W⟩
        have ot:tidyB o=true:=List.all_eq_true.mp out_tidy o ho
        have gt5:∀ s∈o::goodS.tail.set 8 "", tidyB s=true:=fun s hs=>by
          rcases List.mem_cons.mp hs with rfl|h
          · exact ot
          · exact set_tidy (fun s h=>gt s (.tail _ h)) (by decide) s h
        refine use2 (I8 H3 sc R v2 c) ?_ (fun X1 hX1=>?_)
        rotate_left
        · have ew:=W.ew
          have eb:=W.eb
          simp (maxSteps:=1000000) only [rGet,getO_l,tTruX,rSetX,setO_l,gSub,upd_same,tSeq,eZ1,tIfS,tNot,tOp,tVar,tC,tRet,tAsg,tNext,tCall,tCons,tNil,gZ0,gZ1,oZ0,eZ0,V.ref.injEq,V.str.injEq,aZ0,ew,eb,tJoin]
          have hx:(sV (o::goodS.tail)).set 9 (.str (Str.ofString ""))=sV (o::goodS.tail.set 8 ""):=sV_set
          refine ⟨_,sV_get (k:=0) (bad_hd ha),_,set_nat (xs:=sV (o::goodS.tail)) (j:=9) (by rw [sV_len]; change 9<10; decide),?_⟩
          rw [hx]
          have h20:(o::goodS.tail.set 8 "").length≤20:=by change 10≤20; decide
          obtain ⟨zs,ez,j1,j2,j3⟩:=join_sV (H:=upd H4 pw (.lst (sV (o::goodS.tail.set 8 "")))) (p:=pw) h20 (by simp) gt5 upd_same
          refine ⟨zs,by rw [upd_same] at ez; exact Option.some.inj ez,j1,j2,?_⟩
          rw [j3]
          exact ⟨_,"row", 9,rfl,refd_rows h20 (by simp) gt5 (out_9 ho) (.inr ⟨9,rfl,rfl,rfl⟩),fun H5 s5=>⟨true,rfl,iteF (hX1 _ _ ⟨_,_,_,_,_,_,rfl,(W.s.upd W.nw).trans s5⟩)⟩⟩
        rintro σ H5 ⟨v4',v5',v6',v7',v8',v9',rfl,s5⟩
        have eR5:=s5 _ _ eR3
        simp (maxSteps:=1000000) only [rGet,getO_l,tTruX,upd_same,Int.reduceLT,Nat.reduceAdd,eZ1,tIfS,tNot,tOp,tVar,tC,rI,tRet,tNext,tCall,tCons,tNil,tLst,lZ1,lZ0,gZ0,gZ1,oZ0,eZ0,V.int.injEq,V.ref.injEq,true_and,aZ0]
        refine ⟨by rw [sizeLine_eq]; decide,fun pl nl=>?_⟩
        have s6:Same H5 (upd H5 pl (.lst [.non,.int 7,.ref R,.str (Str.ofString "")])):=.upd_new nl
        have fin:∀ v:V,Refd v (upd H5 pl (.lst [.non,.int 7,.ref R,.str (Str.ofString "")])) "row" 0→sp_lrefd [v,.str (Str.ofString "row"),.int 0] (upd H5 pl (.lst [.non,.int 7,.ref R,.str (Str.ofString "")])) (fun x H'=>∃ k,truX H' x=some k∧if (!k)=true then Q (V.bl false) H' else LK H2 sc R v2 (lσ sc R v2 (some (.int c)) v4' v5' v6' v7' v8' v9') H') E0:=fun v r=>
          ⟨v,"row", 0,rfl,r,fun H7 s7=>⟨true,rfl,iteF ⟨_,_,_,_,_,_,_,rfl,(s3.trans s5).trans (s6.trans s7)⟩⟩⟩
        rw [atI_pos (by omega)]
        have h4:c % 4=0∨c % 4=1∨c % 4=2∨c % 4=3:=by omega
        rcases h4 with h|h|h|h
        · rw [h]; exact ⟨_,rfl,fin _ (.inl ⟨.inl rfl,rfl,rfl⟩)⟩
        · rw [h]; exact ⟨_,rfl,fin _ (.inl ⟨.inr (.inl ⟨7,rfl⟩),rfl,rfl⟩)⟩
        · rw [h]; exact ⟨_,rfl,fin _ (.inl ⟨.inr (.inr ⟨R,_,rfl,s6 _ _ eR5⟩),rfl,rfl⟩)⟩
        · rw [h]; exact ⟨_,rfl,fin _ (by rw [S_of]; exact refd_empty)⟩
      · rintro σ H3 ⟨v3,v4,v5,v6,v7,v8,v9,rfl,s3⟩
        exact hX _ _ ⟨_,_,_,_,_,_,_,rfl,s2.trans s3⟩
    rintro σ H2 ⟨v3,v4,v5,v6,v7,v8,v9,rfl,s2⟩
    have eR2:=s2 _ _ eR
    simp (maxSteps:=1000000) only [upd_same,HO.lst.injEq,Nat.reduceAdd,rCat,eZ1,tOp,tVar,tC,tRet,tCall,tCons,tNil,tLst,lZ1,lZ0,gZ0,gZ1,oZ0,eZ0,V.ref.injEq,V.str.injEq,aZ0,tJoin]
    refine ⟨by rw [sizeLine_eq]; decide,?_⟩
    intro p3 n3
    generalize z3:upd H2 p3 _=H3
    obtain ⟨s3,e3⟩:=new_same z3 n3
    refine ⟨_,s3 _ _ eR2,by rw [sV_len,sizeLine_eq]; decide,?_⟩
    intro p4 n4
    generalize z4:upd H3 p4 _=H4
    obtain ⟨s4,e4⟩:=new_same z4 n4
    have gt1:∀ s∈goodS++[""],tidyB s=true:=fun s hs=>by
      rcases List.mem_append.mp hs with h|h
      · exact gt s h
      · rw [List.mem_singleton.mp h]; decide
    have e4':H4 p4=some (.lst (sV (goodS++[""]))):=by rw [e4,sV_app]; rfl
    obtain ⟨zs,ez,j1,j2,j3⟩:=join_sV (by decide) (by decide) gt1 e4'
    have ez':sV goodS++[V.str (Str.ofString "")]=zs.map V.str:=by rw [e4] at ez; exact HO.lst.inj (Option.some.inj ez)
    refine ⟨zs,ez',j1,j2,?_⟩
    rw [j3]
    exact ⟨_,"row", 10,rfl,refd_rows (by decide) (by decide) gt1 good_10 (.inr ⟨10,rfl,rfl,rfl⟩),fun H5 _=>q H5⟩
end
end K82
namespace K82
open PySem L2
section
variable {P:Program} {w:World} {K:PySem.W.Frag} {mg:Str→Option Value} {C:Addr}
theorem mk_Measures {h:Heap} (X:K.In h) (G:h.Ns mainGlobals mg) {C f0 f1:Addr} {od0 an0 od1 an1:Option Addr} {sl0 sl1:Array (Option Value)} {oc0 kV0 dc0 pm0 cd0 ct0 oc1 kV1 dc1 pm1 cd1 ct1:Value}
    (aC:PySem.W.nsIn K mainGlobals "Measures"=some (some (.ref C))) (pg:PySem.W.plainGet K C Str.empty=true) (hd:PySem.W.hasDictIn K C=true) (po:PySem.W.plainOver K C=true) (sa:PySem.W.findIn K (.ref C) "__setattr__"=some (some (.builtin "object.__setattr__")))
    (n0:PySem.W.findIn K (.ref C) "hands"=some none) (n1:PySem.W.findIn K (.ref C) "lag"=some none) (n2:PySem.W.findIn K (.ref C) "miss"=some none) (n3:PySem.W.findIn K (.ref C) "raise_each"=some none) (n4:PySem.W.findIn K (.ref C) "count"=some none) (n5:PySem.W.findIn K (.ref C) "room"=some none) (n6:PySem.W.findIn K (.ref C) "places"=some none) (n7:PySem.W.findIn K (.ref C) "window"=some none) (n8:PySem.W.findIn K (.ref C) "wait"=some none) (n9:PySem.W.findIn K (.ref C) "keep"=some none) (mk:PySem.W.makesIn K C=true) (kc:PySem.W.keepIn K (.ref C)=true)
    (a0:PySem.W.findIn K (.ref C) "__init__"=some (some (.ref f0))) (i0:PySem.W.isFn K (.ref f0)=true) (l0:K.lookup f0=some ⟨oc0,od0,.func (PySem.W.fnOf "__init__" "Measures.__init__" (defArgs s_Measures___init__) (defBody s_Measures___init__) (defScope s_Measures___init__) .none kV0 dc0 pm0 an0 cd0 ct0),sl0⟩) (c0:PySem.W.codeIn K cd0 "Measures.__init__"=true) (k0:PySem.W.keepIn K (.ref f0)=true)
    (a1:PySem.W.findIn K (.ref C) "numbers"=some (some (.ref f1))) (i1:PySem.W.isFn K (.ref f1)=true) (l1:K.lookup f1=some ⟨oc1,od1,.func (PySem.W.fnOf "numbers" "Measures.numbers" (defArgs s_Measures_numbers) (defBody s_Measures_numbers) (defScope s_Measures_numbers) .none kV1 dc1 pm1 an1 cd1 ct1),sl1⟩) (c1:PySem.W.codeIn K cd1 "Measures.numbers"=true) (k1:PySem.W.keepIn K (.ref f1)=true)
   :∃ C,ClsD K mg "Measures" C at_Measures∧DefI K C "Measures.__init__" s_Measures___init__∧DefM K C "numbers" "Measures.numbers" s_Measures_numbers:=by
  refine ⟨C,⟨PySem.W.mg_of X G aC,⟨pg,hd,po,sa⟩,fun f hf=>?_⟩,defI_mk a0 i0 l0 c0 k0 mk kc,defM_mk a1 i1 l1 c1 k1⟩
  simp only [List.mem_cons,List.not_mem_nil,or_false] at hf
  rcases hf with rfl|rfl|rfl|rfl|rfl|rfl|rfl|rfl|rfl|rfl
  · exact n0
  · exact n1
  · exact n2
  · exact n3
  · exact n4
  · exact n5
  · exact n6
  · exact n7
  · exact n8
  · exact n9
theorem glb_str {h:Heap} (X:K.In h) (G:h.Ns mainGlobals mg) {x z:Str} {t:PySem.Tok} (a:PySem.W.nsIn K mainGlobals x=some (some (.str z t))):∃ u,mg x=some u∧RelV (.str z) u:=
  ⟨_,PySem.W.mg_of X G a,t,rfl⟩
theorem tup3 {b:Addr} {od:Option Addr} {n:Nat} {sl:Array (Option Value)} {x:Str} {i j:Int} {t0 t1 t2:Tok} (l:K.lookup b=some ⟨.type "tuple", od,.seq #[.str x t0,.int i t1,.int j t2] n,sl⟩):∀ H,SqT K H b [.str x,.int i,.int j]:=
  fun H=>.inr ⟨_,_,n,l,rfl,rfl,by rw [sizeLine_eq]; change 3≤16777216; decide,.cons ⟨t0,rfl⟩ (.cons ⟨t1,rfl⟩ (.cons ⟨t2,rfl⟩ .nil))⟩
theorem bdAt_mk {h:Heap} (X:K.In h) (G:h.Ns mainGlobals mg) {a b0 b1 b2 b3 b4 b5 b6 b7 b8 b9:Addr} {od:Option Addr} {n:Nat} {sl:Array (Option Value)} (e:PySem.W.nsIn K mainGlobals "BOUNDS"=some (some (.ref a)))
    (l:K.lookup a=some ⟨.type "tuple", od,.seq #[.ref b0,.ref b1,.ref b2,.ref b3,.ref b4,.ref b5,.ref b6,.ref b7,.ref b8,.ref b9] n,sl⟩)
    (t0:∀ H,SqT K H b0 [.str (Str.ofString "hands"),.int 2,.int 12]) (t1:∀ H,SqT K H b1 [.str (Str.ofString "lag"),.int 1,.int 32]) (t2:∀ H,SqT K H b2 [.str (Str.ofString "miss"),.int 1,.int 400]) (t3:∀ H,SqT K H b3 [.str (Str.ofString "raise"),.int 1,.int 1000]) (t4:∀ H,SqT K H b4 [.str (Str.ofString "count"),.int 0,.int 60])
    (t5:∀ H,SqT K H b5 [.str (Str.ofString "room"),.int 1,.int 16]) (t6:∀ H,SqT K H b6 [.str (Str.ofString "places"),.int 1,.int 16]) (t7:∀ H,SqT K H b7 [.str (Str.ofString "window"),.int 1,.int 60]) (t8:∀ H,SqT K H b8 [.str (Str.ofString "wait"),.int 1,.int 10000]) (t9:∀ H,SqT K H b9 [.str (Str.ofString "keep"),.int 0,.int 10000]):∃ a bs,BdAt K mg a bs:=by
  refine ⟨a,[b0,b1,b2,b3,b4,b5,b6,b7,b8,b9],⟨_,PySem.W.mg_of X G e,rfl⟩,fun H=>.inr ⟨_,_,n,l,rfl,rfl,by rw [sizeLine_eq]; change 10≤16777216; decide,.cons rfl (.cons rfl (.cons rfl (.cons rfl (.cons rfl (.cons rfl (.cons rfl (.cons rfl (.cons rfl (.cons rfl .nil)))))))))⟩,?_,rfl⟩
  intro i b q h1 h2 H
  match i with
  | 0=>cases h1; cases h2; exact t0 H
  | 1=>cases h1; cases h2; exact t1 H
  | 2=>cases h1; cases h2; exact t2 H
  | 3=>cases h1; cases h2; exact t3 H
  | 4=>cases h1; cases h2; exact t4 H
  | 5=>cases h1; cases h2; exact t5 H
  | 6=>cases h1; cases h2; exact t6 H
  | 7=>cases h1; cases h2; exact t7 H
  | 8=>cases h1; cases h2; exact t8 H
  | 9=>cases h1; cases h2; exact t9 H
  | k+10=>cases h1
section
variable {t:Addr} {od:Option Addr} {n:Nat} {sl:Array (Option Value)} {f1 f2 f3 f4:Addr}
theorem kt1 (l:K.lookup t=some ⟨.type "tuple", od,.seq #[.ref f1] n,sl⟩):KT K t [f1]:=fun H=>.inr ⟨_,_,n,l,rfl,rfl,by rw [sizeLine_eq]; change 1≤16777216; decide,.cons rfl .nil⟩
theorem kt2 (l:K.lookup t=some ⟨.type "tuple", od,.seq #[.ref f1,.ref f2] n,sl⟩):KT K t [f1,f2]:=fun H=>.inr ⟨_,_,n,l,rfl,rfl,by rw [sizeLine_eq]; change 2≤16777216; decide,.cons rfl (.cons rfl .nil)⟩
theorem kt3 (l:K.lookup t=some ⟨.type "tuple", od,.seq #[.ref f1,.ref f2,.ref f3] n,sl⟩):KT K t [f1,f2,f3]:=fun H=>.inr ⟨_,_,n,l,rfl,rfl,by rw [sizeLine_eq]; change 3≤16777216; decide,.cons rfl (.cons rfl (.cons rfl .nil))⟩
theorem kt4 (l:K.lookup t=some ⟨.type "tuple", od,.seq #[.ref f1,.ref f2,.ref f3,.ref f4] n,sl⟩):KT K t [f1,f2,f3,f4]:=fun H=>.inr ⟨_,_,n,l,rfl,rfl,by rw [sizeLine_eq]; change 4≤16777216; decide,.cons rfl (.cons rfl (.cons rfl (.cons rfl .nil)))⟩
theorem kinds_mk {h:Heap} {ak:Addr} {t0 t1 t2 t3:Tok} (X:K.In h) (G:h.Ns mainGlobals mg) (e:PySem.W.nsIn K mainGlobals "KINDS"=some (some (.ref ak))) (l:K.lookup ak=some ⟨.type "tuple", none,.seq #[.str "line" t0,.str "change" t1,.str "road" t2,.str "wish" t3] n,sl⟩):∃ ak,(∃ u,mg "KINDS"=some u∧RelV (.ref ak) u)∧KTs K ak kz:=
  ⟨ak,⟨_,PySem.W.mg_of X G e,rfl⟩,_,_,n,l,rfl,rfl,rfl,by rw [sizeLine_eq]; change 4≤16777216; decide,.cons ⟨t0,rfl⟩ (.cons ⟨t1,rfl⟩ (.cons ⟨t2,rfl⟩ (.cons ⟨t3,rfl⟩ .nil)))⟩
end
theorem tabs_mk {h:Heap} (X:K.In h) (G:h.Ns mainGlobals mg) {fn fp fd fm fs ar tl tc tr aw tb te tp ti tf ta:Addr} {h0 h1 h2 g0 g1 g2 g3 g4 g5:Int} {t0 t1 t2 u0 u1 u2 u3 u4 u5:Tok} {ep ep':Nat}
    (en:PySem.W.nsIn K mainGlobals "read_number"=some (some (.ref fn))) (ep1:PySem.W.nsIn K mainGlobals "read_price"=some (some (.ref fp))) (ed:PySem.W.nsIn K mainGlobals "read_deeds"=some (some (.ref fd))) (em:PySem.W.nsIn K mainGlobals "read_name"=some (some (.ref fm))) (es:PySem.W.nsIn K mainGlobals "read_signs"=some (some (.ref fs)))
    (er:PySem.W.nsIn K mainGlobals "ROW_READERS"=some (some (.ref ar))) (ew:PySem.W.nsIn K mainGlobals "WISH_READERS"=some (some (.ref aw)))
    (lr:K.lookup ar=some ⟨.type "dict", none,.dict #[⟨h0,.str "line" t0,.ref tl⟩,⟨h1,.str "change" t1,.ref tc⟩,⟨h2,.str "road" t2,.ref tr⟩] ep,#[]⟩)
    (lw:K.lookup aw=some ⟨.type "dict", none,.dict #[⟨g0,.str "begin" u0,.ref tb⟩,⟨g1,.str "end" u1,.ref te⟩,⟨g2,.str "put" u2,.ref tp⟩,⟨g3,.str "bind" u3,.ref ti⟩,⟨g4,.str "free" u4,.ref tf⟩,⟨g5,.str "ask" u5,.ref ta⟩] ep',#[]⟩)
    (nr:(ar == sysModules)=false) (nw:(aw == sysModules)=false)
    (k1:KT K tl [fn,fn,fp]) (k2:KT K tc [fn,fn,fn,fp]) (k3:KT K tr [fn,fn,fd]) (k4:KT K tb [fn]) (k5:KT K te [fn]) (k6:KT K tp [fn,fs]) (k7:KT K ti [fm]) (k8:KT K tf [fm]) (k9:KT K ta [fm]) :
    ∃ fn fp fd fm fs ar tl tc tr aw tb te tp ti tf ta,Tabs K mg fn fp fd fm fs ar tl tc tr aw tb te tp ti tf ta∧mg "read_number"=some (.ref fn)∧mg "read_price"=some (.ref fp)∧mg "read_deeds"=some (.ref fd)∧mg "read_name"=some (.ref fm)∧mg "read_signs"=some (.ref fs):=
  ⟨fn,fp,fd,fm,fs,ar,tl,tc,tr,aw,tb,te,tp,ti,tf,ta,⟨⟨_,PySem.W.mg_of X G en,rfl⟩,⟨_,PySem.W.mg_of X G er,rfl⟩,⟨_,PySem.W.mg_of X G ew,rfl⟩,
    ⟨nr,_,_,_,lr,⟨rfl,rfl,rfl⟩,rfl,.cons rfl rfl (.cons rfl rfl (.cons rfl rfl .nil))⟩,⟨nw,_,_,_,lw,⟨rfl,rfl,rfl⟩,rfl,.cons rfl rfl (.cons rfl rfl (.cons rfl rfl (.cons rfl rfl (.cons rfl rfl (.cons rfl rfl .nil)))))⟩,k1,k2,k3,k4,k5,k6,k7,k8,k9⟩,
    PySem.W.mg_of X G en,PySem.W.mg_of X G ep1,PySem.W.mg_of X G ed,PySem.W.mg_of X G em,PySem.W.mg_of X G es⟩
theorem FnVX.up {base:Heap} {j k:Nat} {ps:List Str} {f:Addr} {sp:Sp} (h:FnVX P w K mg base j ps f sp) (hk:j≤k):FnVX P w K mg base k ps f sp:=let ⟨fd,h1,h2,h3⟩:=h; ⟨fd,h1,h2,h3.mono hk⟩
theorem fnv_at {base:Heap} {j k:Nat} {x:Str} {ps:List Str} {sp:Sp} {f:Addr} (h:Own P w K mg base j x ps sp) (e:mg x=some (.ref f)) (hk:j≤k):FnV P w K mg base k ps f sp:=by
  obtain ⟨g,e',F⟩:=h.fnV
  rw [e] at e'
  cases e'
  exact FnV.mono F hk
theorem fnx_at {base:Heap} {j k:Nat} {x:Str} {ps:List Str} {sp:Sp} {f:Addr} (h:OwnX P w K mg base j x ps sp) (e:mg x=some (.ref f)) (hk:j≤k):FnVX P w K mg base k ps f sp:=by
  obtain ⟨g,e',F⟩:=h.fnVX
  rw [e] at e'
  cases e'
  exact FnVX.up F hk
def kitB (K:PySem.W.Frag) (cM cA cR cL cW cO:Addr):Bool:=
  PySem.W.kitOne K (.ref cO) (.ref cL) == some false && PySem.W.kitOne K (.ref cO) (.ref cA) == some false && PySem.W.kitOne K (.ref cO) (.ref cR) == some false && PySem.W.kitOne K (.ref cO) (.ref cW) == some false && PySem.W.kitOne K (.ref cO) (.ref cO) == some true && PySem.W.kitOne K (.ref cO) (.ref cM) == some false && PySem.W.kitOne K (.ref cO) (.type "ValueError") == some true &&
  PySem.W.kitOne K (.ref cM) (.ref cL) == some false && PySem.W.kitOne K (.ref cM) (.ref cA) == some false && PySem.W.kitOne K (.ref cM) (.ref cR) == some false && PySem.W.kitOne K (.ref cM) (.ref cW) == some false && PySem.W.kitOne K (.ref cM) (.ref cO) == some false && PySem.W.kitOne K (.ref cM) (.ref cM) == some true && PySem.W.kitOne K (.ref cM) (.type "ValueError") == some true
theorem kit_of {R cM cA cR cL cW cO:Addr} (O:XCls K mg "NoRow" cO R) (g:XGt K cO "at") (M:XCls K mg "BadMeasures" cM R) (b:kitB K cM cA cR cL cW cO=true):KitT K R cM cA cR cL cW cO:=by
  unfold kitB at b
  simp only [Bool.and_eq_true,beq_iff_eq] at b
  obtain ⟨⟨⟨⟨⟨⟨⟨⟨⟨⟨⟨⟨⟨b1,b2⟩,b3⟩,b4⟩,b5⟩,b6⟩,b7⟩,b8⟩,b9⟩,b10⟩,b11⟩,b12⟩,b13⟩,b14⟩:=b
  exact ⟨O.sub,M.sub,O.xc,M.xc,g,b1,b2,b3,b4,b5,b6,b7,b8,b9,b10,b11,b12,b13,b14⟩
theorem er_mk {h:Heap} (X:K.In h) (G:h.Ns mainGlobals mg) {R cM cR cA cL cW cO:Addr} (a0:PySem.W.nsIn K mainGlobals "RoadError"=some (some (.ref R))) (a1:PySem.W.nsIn K mainGlobals "BadMeasures"=some (some (.ref cM))) (a3:PySem.W.nsIn K mainGlobals "BadRoad"=some (some (.ref cR))) (a7:PySem.W.nsIn K mainGlobals "BadName"=some (some (.ref cA)))
    (a8:PySem.W.nsIn K mainGlobals "BadLine"=some (some (.ref cL))) (a9:PySem.W.nsIn K mainGlobals "BadWish"=some (some (.ref cW))) (aA:PySem.W.nsIn K mainGlobals "NoRow"=some (some (.ref cO))) (aB:PySem.W.nsIn K mainGlobals "ValueError"=some none):Er8 mg R cM cR cA cL cW cO:=
  ⟨PySem.W.mg_of X G a0,PySem.W.mg_of X G a1,PySem.W.mg_of X G a3,PySem.W.mg_of X G a7,PySem.W.mg_of X G a8,PySem.W.mg_of X G a9,PySem.W.mg_of X G aA,PySem.W.mg_none_of X G aB⟩
structure Ex (K:PySem.W.Frag) (mg:Str→Option Value) (R cM cR cA cL cW cO:Addr):Prop where
  e:Er8 mg R cM cR cA cL cW cO
  xr:XKin K R
  xb:XB K R
  m:XCls K mg "BadMeasures" cM R
  mp:XPl K cM
  o:XCls K mg "NoRow" cO R∧XGt K cO "at"∧XSt K cO "at"∧DefE K cO "NoRow.__init__" s_NoRow___init__
  kit:kitB K cM cA cR cL cW cO=true
structure Dfs (K:PySem.W.Frag) (mg:Str→Option Value) (C:Addr):Prop where
  d1:Def K mg "is_whole" s_is_whole
  d2:Def K mg "is_within" s_is_within
  d3:Def K mg "refuse_bad_measures" s_refuse_bad_measures
  d4:DefI K C "Measures.__init__" s_Measures___init__
  d5:DefM K C "numbers" "Measures.numbers" s_Measures_numbers
  d6:Def K mg "is_text_of" s_is_text_of
  d7:Def K mg "is_name" s_is_name
  d8:Def K mg "number_text" s_number_text
  d9:Def K mg "numbers_text" s_numbers_text
  d10:Def K mg "wish_text" s_wish_text
  d11:Def K mg "deed_text" s_deed_text
  d12:Def K mg "deeds_text" s_deeds_text
  d13:Def K mg "net_text" s_net_text
  d14:Def K mg "is_number" s_is_number
  d15:Def K mg "read_number" s_read_number
  d16:Def K mg "read_price" s_read_price
  d17:Def K mg "read_deed" s_read_deed
  d18:Def K mg "read_deeds" s_read_deeds
  d19:Def K mg "read_name" s_read_name
  d20:Def K mg "read_signs" s_read_signs
  d21:Def K mg "read_words" s_read_words
  d22:Def K mg "read_measures" s_read_measures
  d23:Def K mg "read_wish" s_read_wish
  d24:Def K mg "read_row" s_read_row
  d25:Def K mg "read_rows" s_read_rows
  d26:Def K mg "read_net" s_read_net
structure Gls (mg:Str→Option Value):Prop where
  none:∃ u,mg "NONE"=some u∧RelV (.str (Str.ofString "none")) u
  nod:∃ u,mg "NO_DELAYS"=some u∧RelV (.str (Str.ofString "-")) u
  mf:∃ u,mg "MOST_FIGURES"=some u∧RelV (.int 5) u
  fig:∃ u,mg "FIGURES"=some u∧RelV (.str (Str.ofString "0123456789")) u
  ml:∃ u,mg "MOST_LETTERS"=some u∧RelV (.int 8) u
theorem last {fa a ak fn fp fd fm fs ar tl tc tr aw tb te tp ti tf ta R cM cR cA cL cW cO:Addr} {bs:List Addr} (D:Dfs K mg C) (G:Gls mg) (Z:Ex K mg R cM cR cA cL cW cO)
    (L1:Def K mg "_law_draw" s__law_draw) (L2:Def K mg "_law_next" s__law_next) (L3:Def K mg "_law_good" s__law_good) (L4:Def K mg "_law_far" s__law_far) (L5:Def K mg "_law_bad" s__law_bad) (L6:Def K mg "_law_refused" s__law_refused) (DE:Def K mg "law" s_law)
    (T:ClsD K mg "Measures" C at_Measures) (B:BdAt K mg a bs) (Tb:Tabs K mg fn fp fd fm fs ar tl tc tr aw tb te tp ti tf ta) (e1:mg "read_number"=some (.ref fn)) (e2:mg "read_price"=some (.ref fp)) (e3:mg "read_deeds"=some (.ref fd)) (e4:mg "read_name"=some (.ref fm)) (e5:mg "read_signs"=some (.ref fs))
    (gk:∃ u,mg "KINDS"=some u∧RelV (.ref ak) u) (kk:KTs K ak kz) (hb:Blt mg) (hzip:mg "zip"=none) (hen:mg "enumerate"=none) (hmg:mg "law"=some (.ref fa)) :
    ∃ fd:FuncData,(∀ (s:Shared) (u:Value),BindsTo s fd ⟨[u],[]⟩ [("_law_script", u)])∧∀ base:Heap,K.In base→base.Ns mainGlobals mg→FnOk P w K mg base CX0 12 fa fd ["_law_script"] (sp_law K):=by
  obtain ⟨f,fd',hm,F⟩:=DE
  have e:=hmg.symm.trans hm
  cases e
  refine ⟨fd',?_,fun base _ _=>?_⟩
  · obtain ⟨oc,od,kV,doc,pm,an,cdv,ct,osl,rfl,lk,hcd⟩:=F.ex
    exact fun s u=>.of_eq rfl
  · have wh:=own_whole (P:=P) (w:=w) (base:=base) D.d1 hb
    have mk:=own_minit D.d4 T (own_rbm D.d3 hb hzip B (own_within D.d2 wh))
    have mn:=own_mnum (P:=P) (w:=w) (base:=base) D.d5 T
    have tx:=own_text (P:=P) (w:=w) (base:=base) D.d6 hb
    have nt:=own_net D.d13 T mn (own_nums D.d9 (own_num (P:=P) (w:=w) (base:=base) D.d8 hb G.none)) (own_deeds D.d12 G.none (own_deed (P:=P) (w:=w) (base:=base) D.d11 hb G.nod)) (own_wish (P:=P) (w:=w) (base:=base) D.d10)
    have re:=by
      have rn:=own_rnum D.d15 hb (own_isnum (P:=P) (w:=w) (base:=base) D.d14 hb G.mf G.fig)
      have Fs:Fns P w K mg base fn fp fd fm fs:=⟨fnv_at rn e1 (by decide),fnv_at (own_rprice D.d16 G.none rn) e2 (by decide),fnv_at (own_rdeeds D.d18 hb G.none (own_rdeed D.d17 hb G.nod rn)) e3 (by decide),fnv_at (own_rname D.d19 (own_isn D.d7 G.ml tx)) e4 (by decide),fnv_at (own_rsigns D.d20 hb tx) e5 (by decide)⟩
      have rw':=own_rwords (P:=P) (w:=w) (base:=base) D.d21 hb hzip
      have rm:=own_rmeas D.d22 hb B Tb.gn Fs.n rw'
      have rr:=own_rrows D.d25 hb hen gk kk (own_rrow D.d24 Tb Fs rw' (own_rwish D.d23 hb Tb Fs rw'))
      exact own_rnet D.d26 hb T mk rm rr
    have ro:=own_xrow (P:=P) (w:=w) (mg:=mg) (base:=base) Z.o.2.2.2 Z.xb Z.e.1 Z.o.2.2.1
    have hO:=Z.o.1.mg
    have rt:=by
      have rn:=own_rnumT D.d15 hb hO ro (own_isnumT (P:=P) (w:=w) (base:=base) D.d14 hb G.mf G.fig)
      have Fs:FnsT P w K mg base cO fn fp fd fm fs:=⟨fnx_at rn e1 (by decide),fnx_at (own_rpriceT D.d16 G.none rn) e2 (by decide),fnx_at (own_rdeedsT D.d18 hb G.none (own_rdeedT D.d17 hb G.nod rn)) e3 (by decide),fnx_at (own_rnameT D.d19 hO ro (own_isnT D.d7 G.ml tx)) e4 (by decide),fnx_at (own_rsignsT D.d20 hb hO ro tx) e5 (by decide)⟩
      have rw':=own_rwT (P:=P) (w:=w) (base:=base) D.d21 hb hzip hO ro
      have rm:=own_rmT D.d22 hb B hO ro Tb.gn Fs.n rw'
      have rr:=own_rsT D.d25 hb hen gk kk hO ro (own_rrT D.d24 Tb Fs rw' (own_rwiT D.d23 hb Tb Fs hO ro rw'))
      exact own_rnT D.d26 hb T hO ro (own_minitB D.d4 (own_rbmB D.d3 hb hzip B Z.m.mg Z.mp (own_withinI D.d2 wh))) rm rr
    have nx:=own_next (P:=P) (w:=w) (base:=base) L2
    have dr:=own_draw (P:=P) (w:=w) (base:=base) L1
    exact law_fn F hb dr nx (own_lgood L3) (own_lbad L5 (own_lfar L4)) (own_lrefd L6 hb Z.e Z.xr (kit_of Z.o.1 Z.o.2.1 Z.m Z.kit) rt) nt re
end
end K82
namespace PySem.W.Fast
def tw11160728170221491728:Nat:=0
def tw9448102549571570002:Nat:=0
def tw11990194447298565194:Nat:=0
def tw10593837668904133109:Nat:=0
def tw11420063220997225898:Nat:=0
def tw6054021070957741447:Nat:=0
def tw11726272776985919475:Nat:=0
def tw13236628726212223894:Nat:=0
def tw4364408485429652735:Nat:=0
def tw9672489803318700830:Nat:=0
def tw4503361594964638576:Nat:=0
def tw779106815270562533:Nat:=0
def tw16852079824188611070:Nat:=0
def tw5485494936391231643:Nat:=0
def tw3605326970216807533:Nat:=0
def tw15837715933410862417:Nat:=0
def tw15816626158683243387:Nat:=0
def tw18286781608080903296:Nat:=0
def tw15215045855972893610:Nat:=0
def tw8276350687557392999:Nat:=0
def tw6696554562463585218:Nat:=0
def tw11652181569347514512:Nat:=0
def tw1638435610364888883:Nat:=0
def tw14266586476558375144:Nat:=0
def tw11117679892965410003:Nat:=0
def tw13686027410369780658:Nat:=0
def tw8842858789739906751:Nat:=0
def tw14366065460833426157:Nat:=0
def tw2405406911166747612:Nat:=0
def tw14523677636852353492:Nat:=0
def tw18008765654193417669:Nat:=0
def tw14801932954414746009:Nat:=0
def tw4120457498941412339:Nat:=0
def tw4334799908217624036:Nat:=0
def tw2349652358875369742:Nat:=0
def tw14667691290041990490:Nat:=0
def tw12707767379713331704:Nat:=0
def tw10398263100552208101:Nat:=0
def tw9056920593759401392:Nat:=0
def tw9336424779022178703:Nat:=0
def tw8992169867594920598:Nat:=0
def tw13257359822268152852:Nat:=0
def tw13714645161029829399:Nat:=0
def tw17014181249107479728:Nat:=0
def tw4775068223182048653:Nat:=0
def tw7518100997977163449:Nat:=0
def tw2792807910490062475:Nat:=0
def tw496849286484435667:Nat:=0
def tw346782695923552590:Nat:=0
def tw15675505485582100645:Nat:=0
def tw9344826978452612500:Nat:=0
def tw890242765057452503:Nat:=0
def tw13801927489776172894:Nat:=0
def tw13541359899341377685:Nat:=0
end PySem.W.Fast
open PySem PySem.W PyProof.Rows
set_option maxHeartbeats 0 in
theorem PySem.Challenge.cw_roadnet_k82_rows_that_are_none_holds : PySem.Challenge.rw_roadnet_k82_rows_that_are_none.Holds := by
  w_on; o_law; k_head; (case hw=>w_witness2)
  k_fill
  refine L2.walk_ofK (l:=PySem.Challenge.rw_roadnet_k82_rows_that_are_none) (n:=63) (k:=12) (x:="_law_script") (CX:=L2.CX0) (sp:=K82.sp_law) rfl (by decide) rfl ⟨rfl,by decide,by decide⟩ (fun w h Y=>PySem.W.kIn_of Y) ?F (fun _ _ a ns hl _ hS=>⟨a,ns,rfl,hS,hl,fun _=>rfl⟩) fun _ _ _ _ z=>z
  case F=>
    intro w mg fa h KX G hmg
    have D_is_whole:L2.Def (L2.KOf KX) mg "is_whole" K82.s_is_whole:=by
      dsimp only [L2.KOf]
      refine' L2.def_mk KX G ?a ?l ?c ?k
      (case a=>k_is); (case l=>k_is); (case c=>k_is); (case k=>k_is)
    have D_is_within:L2.Def (L2.KOf KX) mg "is_within" K82.s_is_within:=by
      dsimp only [L2.KOf]
      refine' L2.def_mk KX G ?a ?l ?c ?k
      (case a=>k_is); (case l=>k_is); (case c=>k_is); (case k=>k_is)
    have D_refuse_bad_measures:L2.Def (L2.KOf KX) mg "refuse_bad_measures" K82.s_refuse_bad_measures:=by
      dsimp only [L2.KOf]
      refine' L2.def_mk KX G ?a ?l ?c ?k
      (case a=>k_is); (case l=>k_is); (case c=>k_is); (case k=>k_is)
    have D_is_text_of:L2.Def (L2.KOf KX) mg "is_text_of" K82.s_is_text_of:=by
      dsimp only [L2.KOf]
      refine' L2.def_mk KX G ?a ?l ?c ?k
      (case a=>k_is); (case l=>k_is); (case c=>k_is); (case k=>k_is)
    have D_is_name:L2.Def (L2.KOf KX) mg "is_name" K82.s_is_name:=by
      dsimp only [L2.KOf]
      refine' L2.def_mk KX G ?a ?l ?c ?k
      (case a=>k_is); (case l=>k_is); (case c=>k_is); (case k=>k_is)
    have D_number_text:L2.Def (L2.KOf KX) mg "number_text" K82.s_number_text:=by
      dsimp only [L2.KOf]
      refine' L2.def_mk KX G ?a ?l ?c ?k
      (case a=>k_is); (case l=>k_is); (case c=>k_is); (case k=>k_is)
    have D_numbers_text:L2.Def (L2.KOf KX) mg "numbers_text" K82.s_numbers_text:=by
      dsimp only [L2.KOf]
      refine' L2.def_mk KX G ?a ?l ?c ?k
      (case a=>k_is); (case l=>k_is); (case c=>k_is); (case k=>k_is)
    have D_wish_text:L2.Def (L2.KOf KX) mg "wish_text" K82.s_wish_text:=by
      dsimp only [L2.KOf]
      refine' L2.def_mk KX G ?a ?l ?c ?k
      (case a=>k_is); (case l=>k_is); (case c=>k_is); (case k=>k_is)
    have D_deed_text:L2.Def (L2.KOf KX) mg "deed_text" K82.s_deed_text:=by
      dsimp only [L2.KOf]
      refine' L2.def_mk KX G ?a ?l ?c ?k
      (case a=>k_is); (case l=>k_is); (case c=>k_is); (case k=>k_is)
    have D_deeds_text:L2.Def (L2.KOf KX) mg "deeds_text" K82.s_deeds_text:=by
      dsimp only [L2.KOf]
      refine' L2.def_mk KX G ?a ?l ?c ?k
      (case a=>k_is); (case l=>k_is); (case c=>k_is); (case k=>k_is)
    have D_net_text:L2.Def (L2.KOf KX) mg "net_text" K82.s_net_text:=by
      dsimp only [L2.KOf]
      refine' L2.def_mk KX G ?a ?l ?c ?k
      (case a=>k_is); (case l=>k_is); (case c=>k_is); (case k=>k_is)
    have D_is_number:L2.Def (L2.KOf KX) mg "is_number" K82.s_is_number:=by
      dsimp only [L2.KOf]
      refine' L2.def_mk KX G ?a ?l ?c ?k
      (case a=>k_is); (case l=>k_is); (case c=>k_is); (case k=>k_is)
    have D_read_number:L2.Def (L2.KOf KX) mg "read_number" K82.s_read_number:=by
      dsimp only [L2.KOf]
      refine' L2.def_mk KX G ?a ?l ?c ?k
      (case a=>k_is); (case l=>k_is); (case c=>k_is); (case k=>k_is)
    have D_read_price:L2.Def (L2.KOf KX) mg "read_price" K82.s_read_price:=by
      dsimp only [L2.KOf]
      refine' L2.def_mk KX G ?a ?l ?c ?k
      (case a=>k_is); (case l=>k_is); (case c=>k_is); (case k=>k_is)
    have D_read_deed:L2.Def (L2.KOf KX) mg "read_deed" K82.s_read_deed:=by
      dsimp only [L2.KOf]
      refine' L2.def_mk KX G ?a ?l ?c ?k
      (case a=>k_is); (case l=>k_is); (case c=>k_is); (case k=>k_is)
    have D_read_deeds:L2.Def (L2.KOf KX) mg "read_deeds" K82.s_read_deeds:=by
      dsimp only [L2.KOf]
      refine' L2.def_mk KX G ?a ?l ?c ?k
      (case a=>k_is); (case l=>k_is); (case c=>k_is); (case k=>k_is)
    have D_read_name:L2.Def (L2.KOf KX) mg "read_name" K82.s_read_name:=by
      dsimp only [L2.KOf]
      refine' L2.def_mk KX G ?a ?l ?c ?k
      (case a=>k_is); (case l=>k_is); (case c=>k_is); (case k=>k_is)
    have D_read_signs:L2.Def (L2.KOf KX) mg "read_signs" K82.s_read_signs:=by
      dsimp only [L2.KOf]
      refine' L2.def_mk KX G ?a ?l ?c ?k
      (case a=>k_is); (case l=>k_is); (case c=>k_is); (case k=>k_is)
    have D_read_words:L2.Def (L2.KOf KX) mg "read_words" K82.s_read_words:=by
      dsimp only [L2.KOf]
      refine' L2.def_mk KX G ?a ?l ?c ?k
      (case a=>k_is); (case l=>k_is); (case c=>k_is); (case k=>k_is)
    have D_read_measures:L2.Def (L2.KOf KX) mg "read_measures" K82.s_read_measures:=by
      dsimp only [L2.KOf]
      refine' L2.def_mk KX G ?a ?l ?c ?k
      (case a=>k_is); (case l=>k_is); (case c=>k_is); (case k=>k_is)
    have D_read_wish:L2.Def (L2.KOf KX) mg "read_wish" K82.s_read_wish:=by
      dsimp only [L2.KOf]
      refine' L2.def_mk KX G ?a ?l ?c ?k
      (case a=>k_is); (case l=>k_is); (case c=>k_is); (case k=>k_is)
    have D_read_row:L2.Def (L2.KOf KX) mg "read_row" K82.s_read_row:=by
      dsimp only [L2.KOf]
      refine' L2.def_mk KX G ?a ?l ?c ?k
      (case a=>k_is); (case l=>k_is); (case c=>k_is); (case k=>k_is)
    have D_read_rows:L2.Def (L2.KOf KX) mg "read_rows" K82.s_read_rows:=by
      dsimp only [L2.KOf]
      refine' L2.def_mk KX G ?a ?l ?c ?k
      (case a=>k_is); (case l=>k_is); (case c=>k_is); (case k=>k_is)
    have D_read_net:L2.Def (L2.KOf KX) mg "read_net" K82.s_read_net:=by
      dsimp only [L2.KOf]
      refine' L2.def_mk KX G ?a ?l ?c ?k
      (case a=>k_is); (case l=>k_is); (case c=>k_is); (case k=>k_is)
    have D__law_draw:L2.Def (L2.KOf KX) mg "_law_draw" K82.s__law_draw:=by
      dsimp only [L2.KOf]
      refine' L2.def_mk KX G ?a ?l ?c ?k
      (case a=>k_is); (case l=>k_is); (case c=>k_is); (case k=>k_is)
    have D__law_next:L2.Def (L2.KOf KX) mg "_law_next" K82.s__law_next:=by
      dsimp only [L2.KOf]
      refine' L2.def_mk KX G ?a ?l ?c ?k
      (case a=>k_is); (case l=>k_is); (case c=>k_is); (case k=>k_is)
    have D__law_good:L2.Def (L2.KOf KX) mg "_law_good" K82.s__law_good:=by
      dsimp only [L2.KOf]
      refine' L2.def_mk KX G ?a ?l ?c ?k
      (case a=>k_is); (case l=>k_is); (case c=>k_is); (case k=>k_is)
    have D__law_far:L2.Def (L2.KOf KX) mg "_law_far" K82.s__law_far:=by
      dsimp only [L2.KOf]
      refine' L2.def_mk KX G ?a ?l ?c ?k
      (case a=>k_is); (case l=>k_is); (case c=>k_is); (case k=>k_is)
    have D__law_bad:L2.Def (L2.KOf KX) mg "_law_bad" K82.s__law_bad:=by
      dsimp only [L2.KOf]
      refine' L2.def_mk KX G ?a ?l ?c ?k
      (case a=>k_is); (case l=>k_is); (case c=>k_is); (case k=>k_is)
    have D__law_refused:L2.Def (L2.KOf KX) mg "_law_refused" K82.s__law_refused:=by
      dsimp only [L2.KOf]
      refine' L2.def_mk KX G ?a ?l ?c ?k
      (case a=>k_is); (case l=>k_is); (case c=>k_is); (case k=>k_is)
    have D_law:L2.Def (L2.KOf KX) mg "law" K82.s_law:=by
      dsimp only [L2.KOf]
      refine' L2.def_mk KX G ?a ?l ?c ?k
      (case a=>k_is); (case l=>k_is); (case c=>k_is); (case k=>k_is)
    have Z_Measures:∃ C,L2.ClsD (L2.KOf KX) mg "Measures" C K82.at_Measures∧L2.DefI (L2.KOf KX) C "Measures.__init__" K82.s_Measures___init__∧L2.DefM (L2.KOf KX) C "numbers" "Measures.numbers" K82.s_Measures_numbers:=by
      dsimp only [L2.KOf]
      refine' K82.mk_Measures KX G ?aC ?pg ?hd ?po ?sa ?n0 ?n1 ?n2 ?n3 ?n4 ?n5 ?n6 ?n7 ?n8 ?n9 ?mk ?kc ?a0 ?i0 ?l0 ?c0 ?k0 ?a1 ?i1 ?l1 ?c1 ?k1
      (case aC=>k_is)
      (case pg=>k_is)
      (case hd=>k_is)
      (case po=>k_is)
      (case sa=>k_is)
      (case n0=>k_is)
      (case n1=>k_is)
      (case n2=>k_is)
      (case n3=>k_is)
      (case n4=>k_is)
      (case n5=>k_is)
      (case n6=>k_is)
      (case n7=>k_is)
      (case n8=>k_is)
      (case n9=>k_is)
      (case mk=>k_is)
      (case kc=>k_is)
      (case a0=>k_is)
      (case i0=>k_is)
      (case l0=>k_is)
      (case c0=>k_is)
      (case k0=>k_is)
      (case a1=>k_is)
      (case i1=>k_is)
      (case l1=>k_is)
      (case c1=>k_is)
      (case k1=>k_is)
    obtain ⟨C_Measures,T_Measures,DI_Measures,DM_Measures_numbers⟩:=Z_Measures
    have hb:L2.Blt mg:=by
      refine' L2.blt_mk (K:=L2.KOf KX) KX G ?b1 ?b2 ?b3 ?b4 ?b5 ?b6 ?b7 ?b8 ?b9 ?b10 ?b11 ?b12 ?b13
      all_goals (dsimp only [L2.KOf]; k_is)
    have hzip:mg "zip"=none:=by
      have z:PySem.W.nsIn (L2.KOf KX) mainGlobals "zip"=some none:=by
        dsimp only [L2.KOf]
        k_is
      exact PySem.W.mg_none_of KX G z
    have hen:mg "enumerate"=none:=by
      have z:PySem.W.nsIn (L2.KOf KX) mainGlobals "enumerate"=some none:=by
        dsimp only [L2.KOf]
        k_is
      exact PySem.W.mg_none_of KX G z
    have g1:∃ u,mg "NONE"=some u∧L2.RelV (.str (Str.ofString "none")) u:=by
      refine' K82.glb_str KX G ?a
      (case a=>k_is)
    have g2:∃ u,mg "NO_DELAYS"=some u∧L2.RelV (.str (Str.ofString "-")) u:=by
      refine' K82.glb_str KX G ?a
      (case a=>k_is)
    have g3:∃ u,mg "MOST_FIGURES"=some u∧L2.RelV (.int 5) u:=by
      refine' L2.glb_mk KX G ?a
      (case a=>k_is)
    have g4:∃ u,mg "FIGURES"=some u∧L2.RelV (.str (Str.ofString "0123456789")) u:=by
      refine' K82.glb_str KX G ?a
      (case a=>k_is)
    have g5:∃ u,mg "MOST_LETTERS"=some u∧L2.RelV (.int 8) u:=by
      refine' L2.glb_mk KX G ?a
      (case a=>k_is)
    have gB:∃ a bs,K82.BdAt (L2.KOf KX) mg a bs:=by
      dsimp only [L2.KOf]
      refine' K82.bdAt_mk KX G ?e ?l (K82.tup3 ?l0) (K82.tup3 ?l1) (K82.tup3 ?l2) (K82.tup3 ?l3) (K82.tup3 ?l4) (K82.tup3 ?l5) (K82.tup3 ?l6) (K82.tup3 ?l7) (K82.tup3 ?l8) (K82.tup3 ?l9)
      (case e=>k_is)
      (case l=>k_is)
      (case l0=>k_is)
      (case l1=>k_is)
      (case l2=>k_is)
      (case l3=>k_is)
      (case l4=>k_is)
      (case l5=>k_is)
      (case l6=>k_is)
      (case l7=>k_is)
      (case l8=>k_is)
      (case l9=>k_is)
    obtain ⟨pa,bs,gB⟩:=gB
    have gK:∃ ak,(∃ u,mg "KINDS"=some u∧L2.RelV (.ref ak) u)∧L2.KTs (L2.KOf KX) ak K82.kz:=by
      dsimp only [L2.KOf]
      refine' K82.kinds_mk KX G ?e ?l
      (case e=>k_is)
      (case l=>k_is)
    obtain ⟨ak,gK,kk⟩:=gK
    have Z:∃ R cM cR cA cL cW cO,K82.Ex (L2.KOf KX) mg R cM cR cA cL cW cO:=by
      dsimp only [L2.KOf]
      refine' ⟨_,_,_,_,_,_,_,K82.er_mk KX G ?a0 ?a1 ?a3 ?a7 ?a8 ?a9 ?aA ?aB,L2.xkin_of ?r,⟨?y1,?y2,?y3⟩,L2.xcls_mk KX G ?m1 ?m2,⟨?m3,?m4⟩,L2.bears_mk KX G ?x1 ?x2 ?x3 ?x4 ?x5 ?x6 ?x7 ?x8 ?x9,?q1⟩
      (case a0=>k_is)
      (case a1=>k_is)
      (case a3=>k_is)
      (case a7=>k_is)
      (case a8=>k_is)
      (case a9=>k_is)
      (case aA=>k_is)
      (case aB=>k_is)
      (case r=>kernel_rfl)
      (case y1=>k_is)
      (case y2=>k_is)
      (case y3=>k_is)
      (case m1=>k_is); (case m2=>kernel_rfl); (case m3=>kernel_rfl); (case m4=>kernel_rfl)
      (case x1=>k_is); (case x2=>kernel_rfl); (case x3=>k_is); (case x4=>k_is); (case x5=>k_is); (case x6=>k_is); (case x7=>k_is); (case x8=>k_is); (case x9=>k_is)
      (case q1=>kernel_rfl)
    obtain ⟨R,cM,cR,cA,cL,cW,cO,Z⟩:=Z
    have gT:∃ fn fp fd fm fs ar tl tc tr aw tb te tp ti tf ta,K82.Tabs (L2.KOf KX) mg fn fp fd fm fs ar tl tc tr aw tb te tp ti tf ta∧mg "read_number"=some (.ref fn)∧mg "read_price"=some (.ref fp)∧mg "read_deeds"=some (.ref fd)∧mg "read_name"=some (.ref fm)∧mg "read_signs"=some (.ref fs):=by
      dsimp only [L2.KOf]
      refine' K82.tabs_mk KX G ?en ?ep1 ?ed ?em ?es ?er ?ew ?lr ?lw ?nr ?nw (K82.kt3 ?k1) (K82.kt4 ?k2) (K82.kt3 ?k3) (K82.kt1 ?k4) (K82.kt1 ?k5) (K82.kt2 ?k6) (K82.kt1 ?k7) (K82.kt1 ?k8) (K82.kt1 ?k9)
      (case en=>k_is)
      (case ep1=>k_is)
      (case ed=>k_is)
      (case em=>k_is)
      (case es=>k_is)
      (case er=>k_is)
      (case ew=>k_is)
      (case lr=>k_is)
      (case lw=>k_is)
      (case nr=>rfl)
      (case nw=>rfl)
      (case k1=>k_is)
      (case k2=>k_is)
      (case k3=>k_is)
      (case k4=>k_is)
      (case k5=>k_is)
      (case k6=>k_is)
      (case k7=>k_is)
      (case k8=>k_is)
      (case k9=>k_is)
    obtain ⟨fn,fp,fd,fm,fs,ar,tl,tc,tr,aw,tb,te,tp,ti,tf,ta,gT,e1,e2,e3,e4,e5⟩:=gT
    exact K82.last ⟨D_is_whole,D_is_within,D_refuse_bad_measures,DI_Measures,DM_Measures_numbers,D_is_text_of,D_is_name,D_number_text,D_numbers_text,D_wish_text,D_deed_text,D_deeds_text,D_net_text,D_is_number,D_read_number,D_read_price,D_read_deed,D_read_deeds,D_read_name,D_read_signs,D_read_words,D_read_measures,D_read_wish,D_read_row,D_read_rows,D_read_net⟩ ⟨g1,g2,g3,g4,g5⟩ Z D__law_draw D__law_next D__law_good D__law_far D__law_bad D__law_refused D_law T_Measures gB gT e1 e2 e3 e4 e5 gK kk hb hzip hen hmg
#print axioms PySem.Challenge.cw_roadnet_k82_rows_that_are_none_holds
