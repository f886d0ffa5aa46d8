import PyProof.Rows.All
import Wide.All
import OpenK.AllK
import Wide.FinOn
import Lean
import PyProof.EqAt
import PyProof.EqKinds
import PyProof.TupleCall
import PyProof.NeData
import PyProof.EqLayable
import PyProof.ConsumeWalk
import PyProof.StrWalks
import PyProof.FString5
import PyProof.CallStr
import KE.KDictList
import KE.KDictSum
import PyProof.Rows.SortWalk
import PyProof.ListRange
import PyProof.EnumFor
import PyProof.EnumMake
import PyProof.EnumStmt
import PyProof.DictWalks
import PyProof.DictItems
import KE.KEqDict
import PyProof.Claim2Refuses
import KE.KDictLaws
import PyProof.Rows.SetFrom
import PyProof.SetRoads
import KE.KNest
import KE.KLam
import KE.KNestM
import PySem.Challenge.RW_roadnet_k15_whole_least
set_option Elab.async false
set_option linter.all false
set_option maxRecDepth 100000
universe u v
theorem gZ0 {α:Type u} {a:α} {l:List α}:(a::l)[0]?=some a:=rfl
theorem gZ1 {α:Type u} {a:α} {l:List α} {i:Nat}:(a::l)[i+1]?=l[i]?:=rfl
theorem sZ0 {α:Type u} {x:α} {xs:List α} {a:α}:(x::xs).set 0 a=a::xs:=rfl
theorem sZ1 {α:Type u} {x:α} {xs:List α} {n:Nat} {a:α}:(x::xs).set (n+1) a=x::xs.set n a:=rfl
theorem lZ0 {α:Type u}:([]:List α).length=0:=rfl
theorem lZ1 {α:Type u} {a:α} {l:List α}:(a::l).length=l.length+1:=rfl
theorem oZ0 {α:Type u} (a b:α):(some a=some b)=(a=b):=Option.some.injEq a b
theorem aZ0 {α:Type u} (l:List α):l++[]=l:=List.append_nil l
theorem mZ0 {α:Type u} {β:Type v} {f:α→β}:[].map f=[]:=rfl
theorem mZ1 {α:Type u} {β:Type v} {f:α→β} {a:α} {l:List α}:(a::l).map f=f a::l.map f:=rfl
theorem eZ1 {α:Sort u} {p:α→Prop} {b:Prop}:(∃ x,b∧p x)↔b∧∃ x,p x:=exists_and_left
theorem cZ0 {α:Type u} (a:α) (l:List α) (b:α) (m:List α):(a::l=b::m)=(a=b∧l=m):=List.cons.injEq a l b m
theorem eZ0 {α:Sort u} {p:α→Prop} {b:α}:(∃ a,b=a∧p a)↔p b:=exists_eq_left'
namespace L2
open PySem PySem.Spec PyProof.Rows
abbrev Key:=Sum Int Str
def keyIs:Key→Value→Bool
  | .inl k,v=>Value.isInt k v
  | .inr x,v=>Value.isStrOf x v
def keyH (w:World):Key→Int
  | .inl k=>hashInt k
  | .inr x=>hashStr w x
theorem keyIs_shape:∀ {k:Key} {v:Value},keyIs k v=true→(∃ i t,k=Sum.inl i∧v=Value.int i t)∨(∃ x t,k=Sum.inr x∧v=Value.str x t)
  | .inl i,v,h=>by
    obtain ⟨t,e⟩:=Value.isInt_shape (k:=i) (v:=v) h
    exact .inl ⟨i,t,rfl,e⟩
  | .inr x,v,h=>by
    obtain ⟨t,e⟩:=Value.isStrOf_shape (x:=x) (v:=v) h
    exact .inr ⟨x,t,rfl,e⟩
theorem keyIs_int (i:Int) (t:Tok):keyIs (.inl i) (.int i t)=true:=by simp [keyIs,Value.isInt]
theorem keyIs_str (x:Str) (t:Tok):keyIs (.inr x) (.str x t)=true:=by simp [keyIs,Value.isStrOf]
theorem key_ll (a b:Int):decide ((Sum.inl a:Key)=Sum.inl b)=(a == b):=by
  by_cases e:a=b
  · subst e; simp
  · have h:¬ (Sum.inl a:Key)=Sum.inl b:=fun q=>e (Sum.inl.inj q)
    rw [decide_eq_false h]
    exact (beq_eq_false_iff_ne.mpr e).symm
theorem key_rr (a b:Str):decide ((Sum.inr a:Key)=Sum.inr b)=decide (a=b):=by
  by_cases e:a=b
  · subst e; simp
  · have h:¬ (Sum.inr a:Key)=Sum.inr b:=fun q=>e (Sum.inr.inj q)
    rw [decide_eq_false h,decide_eq_false e]
theorem key_lr (a:Int) (b:Str):decide ((Sum.inl a:Key)=Sum.inr b)=false:=decide_eq_false (fun q=>nomatch q)
theorem key_rl (a:Str) (b:Int):decide ((Sum.inr a:Key)=Sum.inl b)=false:=decide_eq_false (fun q=>nomatch q)
def mixKind (prog:Program) (w:World):PySem.KeyKind prog w Key where
  is:=keyIs
  hash:=keyH w
  inj:=fun v a b ha hb=>by
    rcases keyIs_shape ha with ⟨i,t,rfl,rfl⟩|⟨x,t,rfl,rfl⟩
    · rcases keyIs_shape hb with ⟨j,u,rfl,e⟩|⟨y,u,rfl,e⟩
      · injection e with e1 _; rw [e1]
      · exact nomatch e
    · rcases keyIs_shape hb with ⟨j,u,rfl,e⟩|⟨y,u,rfl,e⟩
      · exact nomatch e
      · injection e with e1 _; rw [e1]
  byValue:=fun k v h=>by
    rcases keyIs_shape h with ⟨i,t,rfl,rfl⟩|⟨x,t,rfl,rfl⟩ <;> rfl
  pyHash:=fun hv h=>by
    rcases keyIs_shape hv with ⟨i,t,rfl,rfl⟩|⟨x,t,rfl,rfl⟩
    · exact wpAny_pyHash_int h
    · exact wpAny_pyHash_str h
  eqBool:=fun hu hv h=>by
    rcases keyIs_shape hu with ⟨i,t,rfl,rfl⟩|⟨x,t,rfl,rfl⟩
    · rcases keyIs_shape hv with ⟨j,u,rfl,rfl⟩|⟨y,u,rfl,rfl⟩
      · rw [key_ll] at h; exact wpAny_eqBool_int h
      · rw [key_lr] at h; exact SeqAt.EqAt.int_str i t y u _ _ _ _ h
    · rcases keyIs_shape hv with ⟨j,u,rfl,rfl⟩|⟨y,u,rfl,rfl⟩
      · rw [key_rl] at h; exact SeqAt.EqAt.str_int x t j u _ _ _ _ h
      · rw [key_rr] at h; exact wpAny_eqBool_str h
  «strs»:=fun k x t v h=>by
    rcases keyIs_shape h with ⟨i,u,rfl,e⟩|⟨y,u,rfl,e⟩
    · exact nomatch e
    · injection e with e1 _
      subst e1
      cases v <;> rfl
theorem mixKind_int (prog:Program) (w:World) (i:Int) (t:Tok):(mixKind prog w).is (.inl i) (.int i t)=true:=keyIs_int i t
theorem mixKind_str (prog:Program) (w:World) (x:Str) (t:Tok):(mixKind prog w).is (.inr x) (.str x t)=true:=keyIs_str x t
inductive V where
  | non|bl (b:Bool)|int (i:Int)|str (x:Str)|byt (b:Array UInt8)|flt (b:UInt64)|ref (a:Addr)|ty (n:String)
  deriving DecidableEq
def RelV:V→Value→Prop
  | .non,u=>u=Value.none
  | .bl b,u=>u=Value.bool b
  | .int i,u=>∃ t,u=Value.int i t
  | .str x,u=>∃ t,u=Value.str x t
  | .byt b,u=>∃ t,u=Value.bytes b t
  | .flt b,u=>∃ t,u=Value.float b t
  | .ref a,u=>u=Value.ref a
  | .ty n,u=>u=Value.type n
abbrev Vals:List V→List Value→Prop:=Paired RelV
theorem Vals.length {xs:List V} {us:List Value} (r:Vals xs us):xs.length=us.length:=Paired.length r
theorem Vals.get:∀ {xs:List V} {us:List Value} {i:Nat} {x:V},Vals xs us→xs[i]?=some x→∃ u,us[i]?=some u∧RelV x u
  | _,_,_,_,.nil,e=>by simp at e
  | _,_,0,_,.cons r _,e=>by simp at e; subst e; exact ⟨_,rfl,r⟩
  | _,_,i+1,x,.cons _ t,e=>by
    obtain ⟨u,h1,h2⟩:=Vals.get (i:=i) (x:=x) t (by simpa using e)
    exact ⟨u,by simpa using h1,h2⟩
theorem Vals.set {x:V} {u:Value} (r:RelV x u):∀ {xs:List V} {us:List Value} (i:Nat),Vals xs us→Vals (xs.set i x) (us.set i u)
  | _,_,_,.nil=>.nil
  | _,_,0,.cons _ t=>.cons r t
  | _,_,i+1,.cons q t=>.cons q (Vals.set r i t)
theorem Vals.append:∀ {xs ys:List V} {us ws:List Value},Vals xs us→Vals ys ws→Vals (xs++ys) (us++ws)
  | _,_,_,_,.nil,s=>s
  | _,_,_,_,.cons r t,s=>.cons r (Vals.append t s)
theorem Vals.take:∀ {xs:List V} {us:List Value} (n:Nat),Vals xs us→Vals (xs.take n) (us.take n)
  | _,_,0,_=>.nil
  | _,_,_+1,.nil=>.nil
  | _,_,n+1,.cons r t=>.cons r (Vals.take n t)
theorem Vals.drop:∀ {xs:List V} {us:List Value} (n:Nat),Vals xs us→Vals (xs.drop n) (us.drop n)
  | _,_,0,r=>r
  | _,_,_+1,.nil=>.nil
  | _,_,n+1,.cons _ t=>Vals.drop n t
def RelO:Option V→Option Value→Prop
  | some v,some u=>RelV v u
  | none,none=>True
  | _,_=>False
def KV {κ:Type}:List (κ × V)→List (κ × Value)→Prop:=Paired fun (p:κ × V) (q:κ × Value)=>p.1=q.1∧RelV p.2 q.2
def kV:Key→V
  | .inl i=>.int i
  | .inr x=>.str x
inductive HO where
  | lst (xs:List V)
  | tup (xs:List V)
  | dK (kvs:List (Key × V))|dT (kvs:List (List Key × V))
  | set (S:Int→Bool) (n:Nat)
  | ins (C dx:Addr) (fs:List (Str × V))
  | own (x:Addr)
  | xd (fs:List (Str × V))
  | met (f x:Addr)
  | rng (lo hi:Int)
  | frz (o:Obj) (u:HO)
  | tbl (ps:Array Value)
  | ext (φ:Heap→Prop)
abbrev Hp:=Addr→Option HO
def upd (H:Hp) (a:Addr) (o:HO):Hp:=fun b=>if b=a then some o else H b
theorem upd_same {H:Hp} {a:Addr} {o:HO}:upd H a o a=some o:=by unfold upd; rw [if_pos rfl]
theorem upd_ne {H:Hp} {a b:Addr} {o:HO} (h:b≠a):upd H a o b=H b:=by unfold upd; rw [if_neg h]
theorem upd_upd {H:Hp} {a:Addr} {o u:HO}:upd (upd H a o) a u=upd H a u:=by
  funext b; unfold upd; split <;> rfl
theorem ne_of {H:Hp} {a b:Addr} {o u:HO} (h:H a=some o) (h':H b=some u) (d:o≠u):a≠b:=by
  intro e; subst e; rw [h] at h'; exact d (Option.some.inj h')
theorem ne_of_none {H:Hp} {a b:Addr} {o:HO} (h:H a=some o) (h':H b=none):a≠b:=by
  intro e; subst e; rw [h] at h'; cases h'
section
variable (P:Program) (w:World)
def ObjOk (H:Hp) (h:Heap) (a:Addr):HO→Prop
  | .lst xs=>xs.length≤sizeLine∧∃ (its:List Value) (n:Nat),Vals xs its∧h.get? a=some { cls:=.type "list", data:=.seq its.toArray n }
  | .tup xs=>xs.length≤sizeLine∧∃ its:List Value,Vals xs its∧IsTup h a its.toArray
  | .dK kvs=>kvs.length≤sizeLine∧(a == sysModules)=false∧∃ vs,KV kvs vs∧h.DictOf (mixKind P w) a vs
  | .dT kvs=>kvs.length≤sizeLine∧(a == sysModules)=false∧∃ xs:List (List Key × Addr × Value),
      Paired (fun (p:List Key × V) (q:List Key × Addr × Value)=>p.1=q.1∧H q.2.1=some (.tup (p.1.map kV))∧RelV p.2 q.2.2) kvs xs ∧
      ∃ o es ep,h.get? a=some o∧o.ExactDict∧o.data=.dict es ep∧es.toList=xs.map (entryOfKey (tupleKind (mixKind P w)))∧(xs.map (·.1)).Nodup
  | .set S n=>h.SetOf (intKind P w) a S n
  | .ins C dx fs=>H dx=some (.own a)∧fs.length≤1000∧dx≠a∧h.get? a=some (PySem.W.instObj C dx) ∧
      ∃ mA,h.Ns1 dx mA∧(∀ f,RelO (fs.lookup f) (mA f))∧PySem.Within mA (fs.map (·.1))
  | .own _=>∃ o,h.get? a=some o
  | .xd fs=>∃ mA,h.Ns1 a mA∧∀ f,RelO (fs.lookup f) (mA f)
  | .rng lo hi=>∃ t u v,h.get? a=some { cls:=.type "range", data:=.fields #[.int lo t,.int hi u,.int 1 v] }
  | .frz o u=>h.get? a=some o∧ObjOk H h a u
  | .tbl ps=>h.get? a=some { cls:=.none,data:=.fields ps }
  | .met f x=>h.get? a=some (PySem.W.methodObj (.ref f) (.ref x))
  | .ext φ=>φ h∧(∃ o,h.get? a=some o)∧∀ h1 h2:Heap,φ h1→(∀ o,h1.get? a=some o→h2.get? a=some o)→φ h2
def HOk (H:Hp) (h:Heap):Prop:=∀ a o,H a=some o→ObjOk P w H h a o
end
section
variable {P:Program} {w:World} {H H':Hp} {h h':Heap} {a:Addr} {o:HO}
theorem ObjOk.lt (x:ObjOk P w H h a o):a<h.objs.size:=by
  cases o with
  | lst xs=>obtain ⟨_,_,_,_,e⟩:=x; exact Heap.lt_size e
  | tup xs=>obtain ⟨_,_,_,p⟩:=x; exact p.lt
  | dK kvs=>obtain ⟨_,_,_,_,o,_,_,e,_⟩:=x; exact Heap.lt_size e
  | dT kvs=>obtain ⟨_,_,_,_,o,_,_,e,_⟩:=x; exact Heap.lt_size e
  | set S n=>obtain ⟨o,_,_,_,e,_⟩:=x; exact Heap.lt_size e
  | ins C dx fs=>obtain ⟨_,_,_,e,_⟩:=x; exact Heap.lt_size e
  | own y=>obtain ⟨_,e⟩:=x; exact Heap.lt_size e
  | xd fs=>obtain ⟨_,⟨_,_,_,e,_⟩,_⟩:=x; exact Heap.lt_size e
  | rng lo hi=>obtain ⟨_,_,_,e⟩:=x; exact Heap.lt_size e
  | frz ob u=>obtain ⟨e,_⟩:=x; exact Heap.lt_size e
  | tbl ps=>exact Heap.lt_size (show h.get? a=some _ from x)
  | met f y=>exact Heap.lt_size (show h.get? a=some _ from x)
  | ext φ=>obtain ⟨_,⟨_,e⟩,_⟩:=x; exact Heap.lt_size e
theorem Paired.mapP {α β:Type} {F G:α→β→Prop}:∀ {l₁:List α} {l₂:List β},Paired F l₁ l₂→(∀ a b,F a b→G a b)→Paired G l₁ l₂
  | _,_,.nil,_=>.nil
  | _,_,.cons r t,f=>.cons (f _ _ r) (Paired.mapP t f)
theorem ObjOk.stay (x:ObjOk P w H h a o) (k:∀ b u,(b=a∨H b=some (.own a))→h.get? b=some u→h'.get? b=some u)
    (ho:∀ b,H b=some (.own a)→H' b=some (.own a)) (ht:∀ b xs,H b=some (.tup xs)→H' b=some (.tup xs)):ObjOk P w H' h' a o:=by
  induction o with
  | lst xs=>obtain ⟨z,its,n,r,e⟩:=x; exact ⟨z,its,n,r,k _ _ (.inl rfl) e⟩
  | tup xs=>obtain ⟨z,its,r,ob,e,c⟩:=x; exact ⟨z,its,r,ob,k _ _ (.inl rfl) e,c⟩
  | dK kvs=>obtain ⟨z,y,vs,r,ob,es,ep,e,c⟩:=x; exact ⟨z,y,vs,r,ob,es,ep,k _ _ (.inl rfl) e,c⟩
  | dT kvs=>
    obtain ⟨z,y,xs,r,ob,es,ep,e,c⟩:=x
    exact ⟨z,y,xs,Paired.mapP r fun p q z=>⟨z.1,ht _ _ z.2.1,z.2.2⟩,ob,es,ep,k _ _ (.inl rfl) e,c⟩
  | set S n=>obtain ⟨ob,es,ep,t,e,c⟩:=x; exact ⟨ob,es,ep,t,k _ _ (.inl rfl) e,c⟩
  | ins C dx fs=>
    obtain ⟨d,z,ne,e,mA,⟨od,es,ep,e2,c⟩,r⟩:=x
    exact ⟨ho _ d,z,ne,k _ _ (.inl rfl) e,mA,⟨od,es,ep,k _ _ (.inr d) e2,c⟩,r⟩
  | own y=>obtain ⟨ob,e⟩:=x; exact ⟨ob,k _ _ (.inl rfl) e⟩
  | xd fs=>obtain ⟨mA,⟨od,es,ep,e,c⟩,r⟩:=x; exact ⟨mA,⟨od,es,ep,k _ _ (.inl rfl) e,c⟩,r⟩
  | rng lo hi=>obtain ⟨t,u,v,e⟩:=x; exact ⟨t,u,v,k _ _ (.inl rfl) e⟩
  | frz ob u ih=>obtain ⟨e,q⟩:=x; exact ⟨k _ _ (.inl rfl) e,ih q⟩
  | tbl ps=>
    have e:h.get? a=some { cls:=.none,data:=.fields ps }:=x
    show h'.get? a=some { cls:=.none,data:=.fields ps }
    exact k a _ (.inl rfl) e
  | met f y=>
    have e:h.get? a=some (PySem.W.methodObj (.ref f) (.ref y)):=x
    show h'.get? a=some (PySem.W.methodObj (.ref f) (.ref y))
    exact k a _ (.inl rfl) e
  | ext φ=>obtain ⟨p,⟨o,e⟩,st⟩:=x; exact ⟨st _ _ p fun o q=>k _ _ (.inl rfl) q,⟨o,k _ _ (.inl rfl) e⟩,st⟩
theorem HOk.lt (x:HOk P w H h) (e:H a=some o):a<h.objs.size:=(x a o e).lt
theorem HOk.fresh (x:HOk P w H h) (e:h.objs.size≤a):H a=none:=by
  cases q:H a with
  | none=>rfl
  | some u=>exact absurd (Nat.lt_of_lt_of_le (x.lt q) e) (Nat.lt_irrefl _)
theorem HOk.kept (x:HOk P w H h) (k:∀ b u,h.get? b=some u→h'.get? b=some u):HOk P w H h':=fun a o e=>
  (x a o e).stay (fun b u _ q=>k b u q) (fun _ q=>q) fun _ _ q=>q
theorem HOk.laid (x:HOk P w H h) (k:∀ b u,h.get? b=some u→h'.get? b=some u) (hp:h.objs.size≤a) (new:ObjOk P w (upd H a o) h' a o):HOk P w (upd H a o) h':=fun b u e=>by
  have hn:=x.fresh hp
  by_cases hb:b=a
  · subst hb; rw [upd_same] at e; cases e; exact new
  · rw [upd_ne hb] at e
    exact (x b u e).stay (fun c v _ q=>k c v q) (fun c q=>by rw [upd_ne (ne_of_none q hn)]; exact q) fun c xs q=>by rw [upd_ne (ne_of_none q hn)]; exact q
end
def Rd (H:Hp) (a:Addr) (u:HO):Prop:=H a=some u∨∃ o,H a=some (.frz o u)
theorem Rd.ok {P:Program} {w:World} {H:Hp} {h:Heap} {a:Addr} {u:HO} (r:Rd H a u) (x:HOk P w H h):ObjOk P w H h a u:=by
  rcases r with r|⟨o,r⟩
  · exact x a u r
  · obtain ⟨_,q⟩:=x a _ r
    exact q
def Mut:Option HO→Prop
  | some (.lst _)=>True
  | some (.dK _)=>True
  | some (.dT _)=>True
  | some (.set _ _)=>True
  | some (.ins _ _ _)=>True
  | some (.ext _)=>True
  | _=>False
section
variable {P:Program} {w:World} {H:Hp} {h h':Heap} {x e:Addr} {o':HO}
theorem HOk.write (ok:HOk P w H h) (mu:Mut (H x)) (he:e=x∨H e=some (.own x)) (k:∀ b u,b≠e→h.get? b=some u→h'.get? b=some u) (heo:∃ u,h'.get? e=some u)
    (new:ObjOk P w (upd H x o') h' x o'):HOk P w (upd H x o') h':=fun b u q=>by
  have nown:∀ c y,H c=some (.own y)→c≠x:=fun c y r z=>by subst z; rw [r] at mu; exact mu
  have ntup:∀ c xs,H c=some (.tup xs)→c≠x:=fun c xs r z=>by subst z; rw [r] at mu; exact mu
  by_cases hb:b=x
  · subst hb; rw [upd_same] at q; cases q; exact new
  · rw [upd_ne hb] at q
    by_cases hbe:b=e
    · have q':H b=some (.own x):=by
        rcases he with z|z
        · exact absurd (hbe.trans z) hb
        · rw [hbe]; exact z
      rw [q] at q'; cases q'
      obtain ⟨v,hv⟩:=heo
      exact ⟨v,by rw [hbe]; exact hv⟩
    · refine (ok b u q).stay (fun c v hc r=>k c v ?_ r) (fun c r=>by rw [upd_ne (nown c b r)]; exact r) fun c xs r=>by rw [upd_ne (ntup c xs r)]; exact r
      rcases hc with rfl|hc
      · exact hbe
      · rintro rfl
        rcases he with z|z
        · exact nown c b hc z
        · rw [hc] at z; cases z; exact hb rfl
end
structure Un (fs ex:List Addr) (H H':Hp) (h h':Heap):Prop where
  keep:∀ b o,h.get? b=some o→H b=none→b ∉ fs→b ∉ ex→h'.get? b=some o
  slot:∀ b o,h.get? b=some o→H b=none→b∈fs→b ∉ ex→∃ sl,h'.get? b=some { o with slots:=sl }
  free:∀ b o,h.get? b=some o→H b=none→b ∉ ex→H' b=none
  there:∀ b o,h.get? b=some o→b ∉ ex→∃ o',h'.get? b=some o'
  tups:∀ b xs,H b=some (.tup xs)→H' b=some (.tup xs)
  frzs:∀ b o u,H b=some (.frz o u)→H' b=some (.frz o u)
  tbls:∀ b ps,H b=some (.tbl ps)→∃ more,H' b=some (.tbl (ps++more))
section
variable {fs fs' ex ex':List Addr} {H H1 H2:Hp} {h h1 h2 h':Heap} {a x e:Addr} {o:HO}
theorem Un.any (u:Un fs ex H H1 h h1) {b:Addr} {ob:Obj} (q:h.get? b=some ob) (n:H b=none) (hx:b ∉ ex):∃ sl,h1.get? b=some { ob with slots:=sl }:=by
  by_cases hb:b∈fs
  · exact u.slot b ob q n hb hx
  · exact ⟨ob.slots,u.keep b ob q n hb hx⟩
theorem Un.kept (k:∀ b u,h.get? b=some u→h'.get? b=some u):Un fs ex H H h h':=
  ⟨fun b ob q _ _ _=>k b ob q,fun b ob q _ _ _=>⟨ob.slots,k b ob q⟩,fun _ _ _ n _=>n,fun b ob q _=>⟨ob,k b ob q⟩,fun _ _ q=>q,fun _ _ _ q=>q,fun _ ps q=>⟨#[],by rw [q]; simp⟩⟩
theorem Un.refl:Un fs ex H H h h:=Un.kept fun _ _ q=>q
theorem Un.laid (k:∀ b u,h.get? b=some u→h'.get? b=some u) (hp:h.objs.size≤a) (hn:H a=none):Un fs ex H (upd H a o) h h' where
  keep:=fun b u q _ _ _=>k b u q
  slot:=fun b u q _ _ _=>⟨u.slots,k b u q⟩
  free:=fun b u q n _=>by rw [upd_ne (Nat.ne_of_lt (Nat.lt_of_lt_of_le (Heap.lt_size q) hp))]; exact n
  there:=fun b u q _=>⟨u,k b u q⟩
  tups:=fun b xs q=>by rw [upd_ne (ne_of_none q hn)]; exact q
  frzs:=fun b u xs q=>by rw [upd_ne (ne_of_none q hn)]; exact q
  tbls:=fun b ps q=>⟨#[],by rw [upd_ne (ne_of_none q hn),q]; simp⟩
theorem Un.write (mu:Mut (H x)) (he:e=x∨H e=some (.own x)) (k:∀ b u,b≠e→h.get? b=some u→h'.get? b=some u) (heo:∃ u,h'.get? e=some u):Un fs ex H (upd H x o) h h':=by
  have hx:∀ b,H b=none→b≠x:=fun b n z=>by subst z; rw [n] at mu; exact mu
  have hb:∀ b,H b=none→b≠e:=fun b n z=>by
    subst z
    rcases he with r|r
    · exact hx b n r
    · rw [n] at r; cases r
  have hm:∀ b u,H b=some u→¬ Mut (some u)→b≠x:=fun b u q nm z=>by subst z; rw [q] at mu; exact nm mu
  refine ⟨fun b u q n _ _=>k b u (hb b n) q,fun b u q n _ _=>⟨u.slots,k b u (hb b n) q⟩,fun b u q n _=>by rw [upd_ne (hx b n)]; exact n,fun b u q _=>?_,
    fun b xs q=>by rw [upd_ne (hm b _ q fun z=>z)]; exact q,fun b u xs q=>by rw [upd_ne (hm b _ q fun z=>z)]; exact q,fun b ps q=>⟨#[],by rw [upd_ne (hm b _ q fun z=>z),q]; simp⟩⟩
  by_cases hbe:b=e
  · subst hbe; exact heo
  · exact ⟨u,k b u hbe q⟩
end
def trk (h:Heap) (H:Hp):List Addr:=(List.range h.objs.size).filter fun a=>(H a).isSome
def hidT (h:Heap) (H:Hp):Heap:=PySem.W.hideAll h (trk h H)
theorem hidT_size (h:Heap) (H:Hp):(hidT h H).objs.size=h.objs.size:=PySem.W.hideAll_size _ _
theorem hidT_get {h:Heap} {H:Hp} {b:Addr} {o:Obj} (e:h.get? b=some o) (n:H b=none):(hidT h H).get? b=some o:=
  PySem.W.hideAll_get _ e fun hm=>by
    have q:(H b).isSome=true:=(List.mem_filter.mp hm).2
    rw [n] at q; simp at q
theorem of_hidT {h:Heap} {H:Hp} {b:Addr} {o:Obj} (e:(hidT h H).get? b=some o):h.get? b=some o∧H b=none:=by
  have e':h.get? b=some o:=PySem.W.of_hideAll (trk h H) e
  refine ⟨e',?_⟩
  cases q:H b with
  | none=>rfl
  | some x=>
    have hm:b∈trk h H:=List.mem_filter.mpr ⟨List.mem_range.mpr (Heap.lt_size e'),by simp [q]⟩
    have z:(hidT h H).get? b=none:=PySem.W.hideAll_none (trk h H) hm
    rw [z] at e; cases e
def allNews (g h:Heap) (L:Addr):List (Addr × Obj):=(List.range h.objs.size).filterMap fun a=>if a=L∨(g.get? a).isSome=true then none else (h.get? a).map fun o=>(a,o)
def rest (g h:Heap) (L d:Addr):List (Addr × Obj):=(allNews g h L).filter fun p=>decide (p.1≠d)
structure Mod (K:PySem.W.Frag) (mg:Str→Option Value) (base:Heap):Prop where
  kin:K.In base
  glob:base.Ns mainGlobals mg
  blt:∃ mb,base.Ns builtinsNs mb∧∀ x:Str,x≠"__name__"→mb x=bootBuiltins x
  nolimit:base.NoLimit
structure Cx where
  prog:Program
  w:World
  K:PySem.W.Frag
  mg:Str→Option Value
  base:Heap
  A:Around
  N:List Str
  s₀:Shared
  H₀:Hp
  env:Env
  outer:List Env
  stack:List Env
  ex:List Addr
  fn:Str→Bool
  calm:Bool
  pn:List (Addr × Obj)
  xe:Value→Shared→Prop
def frs (l:List Env):List Addr:=l.filterMap (·.frame)
abbrev Cx.fs (X:Cx):List Addr:=frs X.outer
def Vis (sc:Scope) (x:Str):Prop:=sc.names.lookup x=some .local∨sc.names.lookup x=some .cell∨sc.names.lookup x=some .free
def Loc (sc:Scope) (x:Str):Prop:=sc.names.lookup x=some .local∨sc.names.lookup x=some .cell
def Look (env:Env) (h:Heap) (m:Str→Option Value) (x:Str) (u:Value):Prop:=
  (env.kindOf x=some .local∧m x=some u)∨((env.kindOf x=some .cell∨env.kindOf x=some .free)∧∃ c,env.cells.lookup x=some c∧h.IsCell c (some u))
structure Cx.Ok (X:Cx):Prop where
  mod:Mod X.K X.mg X.base
  kind:X.env.scope.kind=.function
  glob:X.env.globals=mainGlobals
  blt:X.env.builtins=builtinsNs
  above:X.s₀.heap.objs.size≤X.env.locals
  inj:∀ x y c,X.env.cells.lookup x=some c→X.env.cells.lookup y=some c→x=y
  has:∀ x,(X.env.kindOf x=some .cell∨X.env.kindOf x=some .free)→∃ c,X.env.cells.lookup x=some c
  cab:∀ x c,X.fn x=true→X.env.cells.lookup x=some c→X.s₀.heap.objs.size≤c
  hd:X.calm=true→X.A.handled=none
  frames:X.A.frames=some X.stack
  stk:X.stack=X.outer∨(X.stack=X.env::X.outer∧X.env.frame=some X.env.locals)
  exf:∀ b∈X.ex,b≠X.env.locals∧∀ x c,X.env.cells.lookup x=some c→c≠b
  bs:∀ b o,X.base.get? b=some o→X.s₀.heap.get? b=some o∧X.H₀ b=none
  bsz:X.base.objs.size≤X.s₀.heap.objs.size
  noex:∀ b o,X.base.get? b=some o→b ∉ X.ex
  exfs:∀ b∈X.ex,b ∉ X.fs
  funs:X.s₀.heap.FunFrames X.base X.outer
  frf:∀ b∈X.fs,X.H₀ b=none
structure Inv (X:Cx) (pins:List (Addr × Obj)) (σ:List (Option V)) (H:Hp) (s:Shared):Prop where
  ok:X.Ok
  os:s.os=X.s₀.os
  bare:AllBare s.gens
  base:Un X.fs X.ex X.H₀ H X.s₀.heap s.heap
  loc:∃ m,s.heap.Ns X.env.locals m∧∀ (i:Nat) (x:Str) (v:V),X.N[i]?=some x→σ[i]?=some (some v)→Vis X.env.scope x→∃ u,RelV v u∧Look X.env s.heap m x u
  cell:∀ x c,X.env.cells.lookup x=some c→∃ v,s.heap.IsCell c v
  free:H X.env.locals=none
  freeC:∀ x c,X.env.cells.lookup x=some c→H c=none
  pin:∀ p∈X.pn++pins,s.heap.get? p.1=some p.2∧H p.1=none∧p.1≠X.env.locals∧p.1 ∉ X.fs∧∀ v,p.2.data≠.cell v
  hok:HOk X.prog X.w H s.heap
  len:σ.length=X.N.length
section
variable {X:Cx} {pins:List (Addr × Obj)} {σ:List (Option V)} {H H':Hp} {s:Shared} {h':Heap}
theorem Cx.Ok.nofr (ok:X.Ok) {b:Addr} {o:Obj} (e:X.base.get? b=some o):b ∉ X.fs:=fun hb=>by
  have:=(ok.funs.mem hb).1
  rw [e] at this; cases this
theorem Inv.bs (I:Inv X pins σ H s):∀ b o,X.base.get? b=some o→s.heap.get? b=some o∧H b=none:=fun b o e=>
  ⟨I.base.keep b o (I.ok.bs b o e).1 (I.ok.bs b o e).2 (I.ok.nofr e) (I.ok.noex b o e),I.base.free b o (I.ok.bs b o e).1 (I.ok.bs b o e).2 (I.ok.noex b o e)⟩
theorem Inv.bk (I:Inv X pins σ H s):∀ b o,X.base.get? b=some o→s.heap.get? b=some o:=fun b o e=>(I.bs b o e).1
theorem Inv.mod (I:Inv X pins σ H s):Mod X.K X.mg X.base:=I.ok.mod
theorem Inv.kIn (I:Inv X pins σ H s):X.K.In s.heap:=I.ok.mod.kin.keeps I.bk
theorem Inv.lt (I:Inv X pins σ H s):X.env.locals<s.heap.objs.size:=let ⟨_,hn,_⟩:=I.loc; hn.lt
theorem Inv.sz (I:Inv X pins σ H s):X.s₀.heap.objs.size≤s.heap.objs.size:=Nat.le_trans I.ok.above (Nat.le_of_lt I.lt)
theorem Inv.nofs (I:Inv X pins σ H s) {a:Addr} (h:s.heap.objs.size≤a):a ∉ X.fs:=fun hb=>by
  obtain ⟨_,o,ho,_⟩:=I.ok.funs.mem hb
  exact absurd (Nat.lt_of_lt_of_le (Heap.lt_size ho) (Nat.le_trans I.sz h)) (Nat.lt_irrefl _)
theorem Inv.cne (I:Inv X pins σ H s):∀ x c,X.env.cells.lookup x=some c→c≠X.env.locals:=fun x c e z=>by
  obtain ⟨v,o,ho,hd⟩:=I.cell x c e
  obtain ⟨m,⟨o',es,ep,ho',hd',_⟩,_⟩:=I.loc
  rw [z,ho'] at ho; cases ho; rw [hd'] at hd; cases hd
theorem Inv.funs (I:Inv X pins σ H s):s.heap.FunFrames X.base X.outer:=by
  have all:∀ (l:List Env),(∀ b∈frs l,b∈X.fs)→X.s₀.heap.FunFrames X.base l→s.heap.FunFrames X.base l:=by
    intro l
    induction l with
    | nil=>intro _ _; trivial
    | cons env r ih=>
      intro hs hl
      obtain ⟨hk,⟨L,o,hf,hn,ho,hd⟩,hr⟩:=hl
      have hL:L∈X.fs:=hs L (by unfold frs; rw [List.filterMap_cons,hf]; exact List.mem_cons_self)
      obtain ⟨sl,e⟩:=I.base.slot L o ho (I.ok.frf L hL) hL fun z=>I.ok.exfs L z hL
      exact ⟨hk,⟨L,_,hf,hn,e,hd⟩,ih (fun b hb=>hs b (by unfold frs; rw [List.filterMap_cons,hf]; exact List.mem_cons_of_mem _ hb)) hr⟩
  exact all X.outer (fun _ hb=>hb) I.ok.funs
theorem Inv.stack (I:Inv X pins σ H s):s.heap.FunFrames X.base X.stack:=by
  rcases I.ok.stk with e|⟨e,hf⟩
  · rw [e]; exact I.funs
  · rw [e]
    obtain ⟨m,hn,_⟩:=I.loc
    refine .cons (by rw [I.ok.kind]; decide) hf hn ?_ I.funs
    exact Heap.get?_none_of_le (Nat.le_trans I.ok.bsz I.ok.above)
theorem Inv.stkSub (I:Inv X pins σ H s):∀ b∈frs X.stack,b∈X.env.locals::X.fs:=fun b hb=>by
  rcases I.ok.stk with e|⟨e,hf⟩
  · rw [e] at hb; exact List.mem_cons_of_mem _ hb
  · rw [e] at hb
    unfold frs at hb
    rw [List.filterMap_cons,hf] at hb
    exact hb
theorem Inv.stkFree (I:Inv X pins σ H s):∀ b∈frs X.stack,H b=none:=fun b hb=>by
  rcases List.mem_cons.mp (I.stkSub b hb) with e|hb
  · rw [e]; exact I.free
  · obtain ⟨_,o,ho,_⟩:=I.ok.funs.mem hb
    exact I.base.free b o ho (I.ok.frf b hb) fun z=>I.ok.exfs b z hb
theorem Inv.step {g':Array GenState} {t':Nat} {d':Drawn} {ch:List Addr} (I:Inv X pins σ H s)
    (hch:∀ b∈ch,(b∈X.ex∨X.s₀.heap.objs.size≤b)∧b≠X.env.locals∧(∀ x c,X.env.cells.lookup x=some c→c≠b)∧∀ p∈X.pn++pins,p.1≠b)
    (keep:∀ b o,b≠X.env.locals→b ∉ X.fs→b ∉ ch→s.heap.get? b=some o→H b=none→h'.get? b=some o)
    (slot:∀ b o,b≠X.env.locals→b∈X.fs→b ∉ ch→s.heap.get? b=some o→H b=none→∃ sl,h'.get? b=some { o with slots:=sl }) (free:∀ b o,b ∉ ch→s.heap.get? b=some o→H b=none→H' b=none)
    (there:∀ b o,b ∉ ch→s.heap.get? b=some o→∃ o',h'.get? b=some o')
    (tups:∀ b xs,H b=some (.tup xs)→H' b=some (.tup xs)) (frzs:∀ b o u,H b=some (.frz o u)→H' b=some (.frz o u)) (tbls:∀ b ps,H b=some (.tbl ps)→∃ more,H' b=some (.tbl (ps++more)))
    (ns:∀ m,s.heap.Ns X.env.locals m→h'.Ns X.env.locals m) (hok:HOk X.prog X.w H' h') (hg:AllBare g') :
    Inv X pins σ H' { s with heap:=h',gens:=g',drawn:=d',toks:=t' }:=by
  have neL:∀ b o,X.s₀.heap.get? b=some o→b≠X.env.locals:=fun b o e=>Nat.ne_of_lt (Nat.lt_of_lt_of_le (Heap.lt_size e) I.ok.above)
  have neC:∀ b o,X.s₀.heap.get? b=some o→b ∉ X.ex→b ∉ ch:=fun b o e hx hb=>by
    rcases (hch b hb).1 with z|z
    · exact hx z
    · exact absurd (Nat.lt_of_lt_of_le (Heap.lt_size e) z) (Nat.lt_irrefl _)
  have cellK:∀ x c,X.env.cells.lookup x=some c→∀ v,s.heap.IsCell c v→h'.IsCell c v:=fun x c e v ⟨o,ho,hd⟩=>by
    have nch:c ∉ ch:=fun z=>(hch c z).2.2.1 x c e rfl
    by_cases hc:c∈X.fs
    · obtain ⟨sl,q⟩:=slot c o (I.cne x c e) hc nch ho (I.freeC x c e)
      exact ⟨_,q,hd⟩
    · exact ⟨o,keep c o (I.cne x c e) hc nch ho (I.freeC x c e),hd⟩
  refine ⟨I.ok,I.os,hg,⟨fun b o e n hb hx=>?_,fun b o e n hb hx=>?_,fun b o e n hx=>?_,fun b o e hx=>?_,fun b xs e=>tups b xs (I.base.tups b xs e),fun b o xs e=>frzs b o xs (I.base.frzs b o xs e),fun b ps e=>?_⟩,?_,fun x c e=>?_,?_,fun x c e=>?_,fun p hp=>?_,hok,I.len⟩
  · exact keep b o (neL b o e) hb (neC b o e hx) (I.base.keep b o e n hb hx) (I.base.free b o e n hx)
  · obtain ⟨sl,e1⟩:=I.base.slot b o e n hb hx
    obtain ⟨sl',e2⟩:=slot b _ (neL b o e) hb (neC b o e hx) e1 (I.base.free b o e n hx)
    exact ⟨sl',e2⟩
  · obtain ⟨o',e1⟩:=I.base.there b o e hx
    exact free b o' (neC b o e hx) e1 (I.base.free b o e n hx)
  · obtain ⟨o',e1⟩:=I.base.there b o e hx
    exact there b o' (neC b o e hx) e1
  · obtain ⟨m1,e1⟩:=I.base.tbls b ps e
    obtain ⟨m2,e2⟩:=tbls b _ e1
    exact ⟨m1++m2,by rw [e2,Array.append_assoc]⟩
  · obtain ⟨m,hn,hl⟩:=I.loc
    refine ⟨m,ns m hn,fun i x v e1 e2 e3=>?_⟩
    obtain ⟨u,r,l⟩:=hl i x v e1 e2 e3
    refine ⟨u,r,?_⟩
    rcases l with l|⟨k,c,e,z⟩
    · exact .inl l
    · exact .inr ⟨k,c,e,cellK x c e _ z⟩
  · obtain ⟨v,z⟩:=I.cell x c e
    exact ⟨v,cellK x c e v z⟩
  · obtain ⟨m,⟨o,_,_,ho,_⟩,_⟩:=I.loc
    exact free _ o (fun z=>(hch _ z).2.1 rfl) ho I.free
  · obtain ⟨v,o,ho,hd⟩:=I.cell x c e
    exact free c o (fun z=>(hch c z).2.2.1 x c e rfl) ho (I.freeC x c e)
  · obtain ⟨e,n,ne,nf,d⟩:=I.pin p hp
    have nch:p.1 ∉ ch:=fun z=>(hch p.1 z).2.2.2 p hp rfl
    exact ⟨keep p.1 p.2 ne nf nch e n,free p.1 p.2 nch e n,ne,nf,d⟩
theorem Inv.un {t':Nat} (I:Inv X pins σ H s) (u:Un X.fs [] H H' s.heap h') (hok:HOk X.prog X.w H' h'):Inv X pins σ H' { s with heap:=h',toks:=t' }:=by
  obtain ⟨m,⟨o,es,ep,ho,r⟩,_⟩:=id I.loc
  obtain ⟨sl,hL⟩:=u.any ho I.free (by simp)
  exact I.step (g':=s.gens) (d':=s.drawn) (ch:=[]) (fun _ z=>nomatch z) (fun b o _ hb _ e n=>u.keep b o e n hb (by simp)) (fun b o _ hb _ e n=>u.slot b o e n hb (by simp)) (fun b o _ e n=>u.free b o e n (by simp)) (fun b o _ e=>u.there b o e (by simp)) u.tups u.frzs u.tbls (fun m' hm=>by
    obtain ⟨o',es',ep',ho',r'⟩:=hm
    rw [ho] at ho'; cases ho'
    exact ⟨_,es',ep',hL,r'⟩) hok I.bare
theorem Inv.call {g':Array GenState} {t':Nat} {d':Drawn} {ch:List Addr} (I:Inv X pins σ H s) (u:Un (frs X.stack) ch H H' s.heap h') (hok:HOk X.prog X.w H' h') (hg:AllBare g')
    (hch:∀ b∈ch,(b∈X.ex∨X.s₀.heap.objs.size≤b)∧b≠X.env.locals∧(∀ x c,X.env.cells.lookup x=some c→c≠b)∧∀ p∈X.pn++pins,p.1≠b) :
    Inv X pins σ H' { s with heap:=h',gens:=g',drawn:=d',toks:=t' }:=by
  obtain ⟨m,⟨o,es,ep,ho,r⟩,_⟩:=id I.loc
  obtain ⟨sl,hL⟩:=u.any ho I.free fun z=>(hch _ z).2.1 rfl
  exact I.step (ch:=ch) hch (fun b o hL hb hc e n=>u.keep b o e n (fun z=>(List.mem_cons.mp (I.stkSub b z)).elim hL hb) hc) (fun b o _ _ hc e n=>u.any e n hc) (fun b o hc e n=>u.free b o e n hc) (fun b o hc e=>u.there b o e hc) u.tups u.frzs u.tbls (fun m' hm=>by
    obtain ⟨o',es',ep',ho',r'⟩:=hm
    rw [ho] at ho'; cases ho'
    exact ⟨_,es',ep',hL,r'⟩) hok hg
theorem Inv.turned {t':Nat} {it:Addr} (I:Inv X pins σ H s) (k:∀ b o,b≠it→s.heap.get? b=some o→h'.get? b=some o) (hn:H it=none) (hL:it≠X.env.locals)
    (h1:it∈X.ex∨X.s₀.heap.objs.size≤it) (h2:∀ x c,X.env.cells.lookup x=some c→c≠it) (h3:∀ p∈X.pn++pins,p.1≠it):Inv X pins σ H { s with heap:=h',toks:=t' }:=by
  have nit:∀ b u,H b=some u→b≠it:=fun b u e z=>by rw [z,hn] at e; cases e
  refine I.step (g':=s.gens) (d':=s.drawn) (ch:=[it]) (fun b hb=>?_) (fun b o _ _ hc e _=>k b o (fun z=>hc (by simp [z])) e) (fun b o _ _ hc e _=>⟨o.slots,k b o (fun z=>hc (by simp [z])) e⟩) (fun _ _ _ _ n=>n)
    (fun b o hc e=>⟨o,k b o (fun z=>hc (by simp [z])) e⟩) (fun _ _ e=>e) (fun _ _ _ e=>e) (fun b ps e=>⟨#[],by rw [e]; simp⟩) (fun m hm=>?_) (fun b u e=>?_) I.bare
  · have e:b=it:=by simpa using hb
    subst e
    exact ⟨h1,hL,h2,h3⟩
  · obtain ⟨o,es,ep,ho,r⟩:=hm
    exact ⟨o,es,ep,k _ o (Ne.symm hL) ho,r⟩
  · refine (I.hok b u e).stay (fun c v hc q=>k c v ?_ q) (fun _ q=>q) fun _ _ q=>q
    rcases hc with z|z
    · rw [z]; exact nit b u e
    · exact nit c _ z
theorem Inv.tok (I:Inv X pins σ H s) (t:Nat):Inv X pins σ H { s with toks:=t }:=I.un (h':=s.heap) (t':=t) Un.refl I.hok
theorem Inv.kept {t':Nat} (I:Inv X pins σ H s) (k:∀ b u,s.heap.get? b=some u→h'.get? b=some u):Inv X pins σ H { s with heap:=h',toks:=t' }:=I.un (Un.kept k) (I.hok.kept k)
theorem Inv.laid {a:Addr} {o:HO} {t':Nat} (I:Inv X pins σ H s) (k:∀ b u,s.heap.get? b=some u→h'.get? b=some u) (hp:s.heap.objs.size≤a) (new:ObjOk X.prog X.w (upd H a o) h' a o) :
    Inv X pins σ (upd H a o) { s with heap:=h',toks:=t' }:=I.un (Un.laid k hp (I.hok.fresh hp)) (I.hok.laid k hp new)
theorem Inv.write {x e:Addr} {o:HO} {t':Nat} (I:Inv X pins σ H s) (mu:Mut (H x)) (he:e=x∨H e=some (.own x)) (k:∀ b u,b≠e→s.heap.get? b=some u→h'.get? b=some u) (heo:∃ u,h'.get? e=some u)
    (new:ObjOk X.prog X.w (upd H x o) h' x o):Inv X pins σ (upd H x o) { s with heap:=h',toks:=t' }:=I.un (Un.write mu he k heo) (I.hok.write mu he k heo new)
theorem Inv.weak {σ':List (Option V)} (I:Inv X pins σ H s) (hl:σ'.length=σ.length) (w:∀ (i:Nat) v,σ'[i]?=some (some v)→σ[i]?=some (some v)):Inv X pins σ' H s:=
  ⟨I.ok,I.os,I.bare,I.base,let ⟨m,hn,hl'⟩:=I.loc; ⟨m,hn,fun i x v e1 e2 e3=>hl' i x v e1 (w i v e2) e3⟩,I.cell,I.free,I.freeC,I.pin,I.hok,hl.trans I.len⟩
theorem Inv.pins_of {pins':List (Addr × Obj)} (I:Inv X pins σ H s) (h:∀ p∈pins',s.heap.get? p.1=some p.2∧H p.1=none∧p.1≠X.env.locals∧p.1 ∉ X.fs∧∀ v,p.2.data≠.cell v):Inv X pins' σ H s:=
  ⟨I.ok,I.os,I.bare,I.base,I.loc,I.cell,I.free,I.freeC,fun p hp=>(List.mem_append.mp hp).elim (fun z=>I.pin p (List.mem_append_left _ z)) (h p),I.hok,I.len⟩
theorem nodup_ix {N:List Str} (hN:N.Nodup) {i j:Nat} {x:Str} (a:N[i]?=some x) (b:N[j]?=some x):i=j:=by
  obtain ⟨h1,e1⟩:=List.getElem?_eq_some_iff.mp a
  obtain ⟨h2,e2⟩:=List.getElem?_eq_some_iff.mp b
  exact (List.getElem_inj hN).mp (e1.trans e2.symm)
theorem store_ok2 {M:Model} {A:Around} {E:Value→Shared→Prop} {i:Nat} {x:Str} {v:V} {u:Value} {Q:Unit→Shared→Prop} (I:Inv X pins σ H s) (hN:X.N.Nodup) (hi:X.N[i]?=some x) (hx:Loc X.env.scope x) (r:RelV v u)
    (h:∀ s',Inv X pins (σ.set i (some v)) H s'→(∃ a,Heap.SameBut a s.heap s'.heap∧(a=X.env.locals∨X.env.cells.lookup x=some a))→Q () s') (hf:X.fn x=true∨X.env.scope.names.lookup x=some .local:=by first|exact .inl rfl|exact .inr rfl|assumption):wpAny M A (storeName X.env x u) Q E s:=by
  obtain ⟨m,hn,hl⟩:=id I.loc
  have hcls:(X.env.scope.kind == .class || (X.env.scope.kind == .module && X.env.locals != X.env.globals))=false:=by rw [I.ok.kind]; rfl
  have hiσ:i<σ.length:=by rw [I.len]; exact (List.getElem?_eq_some_iff.mp hi).1
  have cne:=I.cne
  have tracked:∀ {a:Addr} {h':Heap},(∃ o,s.heap.get? a=some o∧H a=none)→Heap.SameBut a s.heap h'→HOk X.prog X.w H h':=fun {a h'} ha hs b ob e=>by
    obtain ⟨_,_,hfree⟩:=ha
    refine (I.hok b ob e).stay (fun c w' hc q=>(hs.2 c ?_).trans q) (fun _ q=>q) fun _ _ q=>q
    rintro rfl
    rcases hc with rfl|hc
    · rw [hfree] at e; cases e
    · rw [hfree] at hc; cases hc
  rcases hx with hk|hk
  · refine wpAny_storeName_local hk hn (fun h' hn' hs=>?_) hcls
    obtain ⟨oL,_,_,hoL,_⟩:=id hn
    refine h _ ⟨I.ok,I.os,I.bare,⟨fun b o e n hb hx=>?_,fun b o e n hb hx=>?_,I.base.free,fun b o e hx=>?_,I.base.tups,I.base.frzs,I.base.tbls⟩,⟨_,hn',fun j y v' e1 e2 e3=>?_⟩,fun y c e=>?_,I.free,I.freeC,fun p hp=>?_,tracked ⟨oL,hoL,I.free⟩ hs,by simpa using I.len⟩ ⟨_,hs,.inl rfl⟩
    · exact (hs.2 b (Nat.ne_of_lt (Nat.lt_of_lt_of_le (Heap.lt_size e) I.ok.above))).trans (I.base.keep b o e n hb hx)
    · obtain ⟨sl,e1⟩:=I.base.slot b o e n hb hx
      exact ⟨sl,(hs.2 b (Nat.ne_of_lt (Nat.lt_of_lt_of_le (Heap.lt_size e) I.ok.above))).trans e1⟩
    · obtain ⟨o',e1⟩:=I.base.there b o e hx
      exact ⟨o',(hs.2 b (Nat.ne_of_lt (Nat.lt_of_lt_of_le (Heap.lt_size e) I.ok.above))).trans e1⟩
    · by_cases hj:j=i
      · subst hj
        rw [hi] at e1; cases e1
        rw [List.getElem?_set_self hiσ] at e2
        cases e2
        exact ⟨u,r,.inl ⟨hk,by simp⟩⟩
      · rw [List.getElem?_set_ne (Ne.symm hj)] at e2
        obtain ⟨u',r',q⟩:=hl j y v' e1 e2 e3
        refine ⟨u',r',?_⟩
        rcases q with ⟨k,e⟩|⟨k,c,e,z⟩
        · refine .inl ⟨k,?_⟩
          have:y≠x:=fun e=>hj (nodup_ix hN e1 (e ▸ hi))
          simp [this,e]
        · exact .inr ⟨k,c,e,z.sameBut hs (cne y c e)⟩
    · obtain ⟨w',z⟩:=I.cell y c e
      exact ⟨w',z.sameBut hs (cne y c e)⟩
    · obtain ⟨e,n,ne,nf,d⟩:=I.pin p hp
      exact ⟨(hs.2 p.1 ne).trans e,n,ne,nf,d⟩
  · have hfn:X.fn x=true:=by
      rcases hf with z|z
      · exact z
      · rw [z] at hk; cases hk
    obtain ⟨c,hc⟩:=I.ok.has x (.inl hk)
    obtain ⟨w',z⟩:=I.cell x c hc
    refine wpAny_storeName_cell I.ok.kind hk hc z (fun h' hc' hs=>?_)
    obtain ⟨oc,hoc,hocd⟩:=id z
    refine h { s with heap:=h' } ⟨I.ok,I.os,I.bare,⟨fun b o e n hb hx=>?_,fun b o e n hb hx=>?_,I.base.free,fun b o e hx=>?_,I.base.tups,I.base.frzs,I.base.tbls⟩,⟨m,hn.sameBut hs (Ne.symm (cne x c hc)),fun j y v' e1 e2 e3=>?_⟩,fun y c' e=>?_,I.free,I.freeC,fun p hp=>?_,tracked ⟨oc,hoc,I.freeC x c hc⟩ hs,by simpa using I.len⟩ ⟨c,hs,.inr hc⟩
    · exact (hs.2 b (Nat.ne_of_lt (Nat.lt_of_lt_of_le (Heap.lt_size e) (I.ok.cab x c hfn hc)))).trans (I.base.keep b o e n hb hx)
    · obtain ⟨sl,e1⟩:=I.base.slot b o e n hb hx
      exact ⟨sl,(hs.2 b (Nat.ne_of_lt (Nat.lt_of_lt_of_le (Heap.lt_size e) (I.ok.cab x c hfn hc)))).trans e1⟩
    · obtain ⟨o',e1⟩:=I.base.there b o e hx
      exact ⟨o',(hs.2 b (Nat.ne_of_lt (Nat.lt_of_lt_of_le (Heap.lt_size e) (I.ok.cab x c hfn hc)))).trans e1⟩
    · by_cases hj:j=i
      · subst hj
        rw [hi] at e1; cases e1
        rw [List.getElem?_set_self hiσ] at e2
        cases e2
        exact ⟨u,r,.inr ⟨.inl hk,c,hc,hc'⟩⟩
      · rw [List.getElem?_set_ne (Ne.symm hj)] at e2
        obtain ⟨u',r',q⟩:=hl j y v' e1 e2 e3
        refine ⟨u',r',?_⟩
        rcases q with q|⟨k,c',e,z'⟩
        · exact .inl q
        · refine .inr ⟨k,c',e,z'.sameBut hs ?_⟩
          rintro rfl
          exact hj (nodup_ix hN e1 (I.ok.inj _ _ _ e hc ▸ hi))
    · by_cases hcc:c'=c
      · subst hcc; exact ⟨_,hc'⟩
      · obtain ⟨w2,z2⟩:=I.cell y c' e
        exact ⟨w2,z2.sameBut hs hcc⟩
    · obtain ⟨e,n,ne,nf,d⟩:=I.pin p hp
      refine ⟨(hs.2 p.1 ?_).trans e,n,ne,nf,d⟩
      intro q
      rw [q,hoc] at e
      have q':oc=p.2:=Option.some.inj e
      exact d w' (by rw [← q']; exact hocd)
theorem store_ok {M:Model} {A:Around} {E:Value→Shared→Prop} {i:Nat} {x:Str} {v:V} {u:Value} {Q:Unit→Shared→Prop} (I:Inv X pins σ H s) (hN:X.N.Nodup) (hi:X.N[i]?=some x) (hx:Loc X.env.scope x) (r:RelV v u)
    (h:∀ s',Inv X pins (σ.set i (some v)) H s'→Q () s') (hf:X.fn x=true∨X.env.scope.names.lookup x=some .local:=by first|exact .inl rfl|exact .inr rfl|assumption):wpAny M A (storeName X.env x u) Q E s:=
  store_ok2 I hN hi hx r (fun s' I' _=>h s' I') hf
theorem Inv.call' {s':Shared} {ch:List Addr} (I:Inv X pins σ H s) (ho:s'.os=s.os) (u:Un (frs X.stack) ch H H' s.heap s'.heap) (hok:HOk X.prog X.w H' s'.heap) (hg:AllBare s'.gens)
    (hch:∀ b∈ch,(b∈X.ex∨X.s₀.heap.objs.size≤b)∧b≠X.env.locals∧(∀ x c,X.env.cells.lookup x=some c→c≠b)∧∀ p∈X.pn++pins,p.1≠b):Inv X pins σ H' s':=by
  obtain ⟨h',g',d',t',o'⟩:=s'
  have e:o'=s.os:=ho
  subst e
  exact I.call (g':=g') (t':=t') (d':=d') u hok hg hch
end
abbrev XK:=Value→Option Addr→Hp→Prop
abbrev St:=List (Option V)
abbrev VK:=V→Hp→Prop
abbrev TE:=St→Hp→VK→Prop
abbrev TT:=St→Hp→(Bool→Hp→Prop)→Prop
abbrev TA:=St→Hp→(List V→Hp→Prop)→Prop
structure Ends where
  nx:St→Hp→Prop
  rt:VK
  bk:St→Hp→Prop:=fun _ _=>False
  ct:St→Hp→Prop:=fun _ _=>False
abbrev TS:=Ends→St→Hp→Prop
def EP (X:Cx) (pins:List (Addr × Obj)) (σ:St) (Q:VK) (u:Value) (s':Shared):Prop:=∃ v H',Inv X pins σ H' s'∧RelV v u∧Q v H'
def TP (X:Cx) (pins:List (Addr × Obj)) (σ:St) (Q:Bool→Hp→Prop) (b:Bool) (s':Shared):Prop:=∃ H',Inv X pins σ H' s'∧Q b H'
def AP (X:Cx) (pins:List (Addr × Obj)) (σ:St) (Q:List V→Hp→Prop) (us:List Value) (s':Shared):Prop:=∃ vs H',Inv X pins σ H' s'∧Vals vs us∧Q vs H'
def SP (X:Cx) (pins:List (Addr × Obj)) (D:Ends) (f:Flow) (s':Shared):Prop:=
  match f with
  | .next=>∃ σ' H',Inv X pins σ' H' s'∧D.nx σ' H'
  | .brk=>∃ σ' H',Inv X pins σ' H' s'∧D.bk σ' H'
  | .cont=>∃ σ' H',Inv X pins σ' H' s'∧D.ct σ' H'
  | .ret u=>∃ v σ' H',Inv X pins σ' H' s'∧RelV v u∧D.rt v H'
def PE (X:Cx) (e:Expr) (t:TE):Prop:=
  ∀ (pins:List (Addr × Obj)) (s:Shared) (σ:St) (H:Hp) (Q:VK),Inv X pins σ H s→t σ H Q→wpAny (model X.prog X.w) X.A (eval e X.env) (EP X pins σ Q) X.xe s
def PT (X:Cx) (e:Expr) (t:TT):Prop:=
  ∀ (pins:List (Addr × Obj)) (s:Shared) (σ:St) (H:Hp) (Q:Bool→Hp→Prop),Inv X pins σ H s→t σ H Q→wpAny (model X.prog X.w) X.A (isTrue e X.env (eval e X.env)) (TP X pins σ Q) X.xe s
def PW (X:Cx) (e:Expr) (t:TT):Prop:=
  ∀ (whole:Sem Value) (pins:List (Addr × Obj)) (s:Shared) (σ:St) (H:Hp) (Q:Bool→Hp→Prop),Inv X pins σ H s→t σ H Q→wpAny (model X.prog X.w) X.A (isTrue e X.env whole) (TP X pins σ Q) X.xe s
theorem PW.pt {X:Cx} {e:Expr} {t:TT} (h:PW X e t):PT X e t:=h _
def PA (X:Cx) (es:List Expr) (t:TA):Prop:=
  ∀ (pos:Pos) (pins:List (Addr × Obj)) (s:Shared) (σ:St) (H:Hp) (Q:List V→Hp→Prop),Inv X pins σ H s→t σ H Q→wpAny (model X.prog X.w) X.A (spliced (backTo pos (starEach es X.env))) (AP X pins σ Q) X.xe s
def PS (X:Cx) (st:Stmt) (t:TS):Prop:=
  ∀ (pins:List (Addr × Obj)) (s:Shared) (σ:St) (H:Hp) (D:Ends),Inv X pins σ H s→t D σ H→wpAny (model X.prog X.w) X.A (exec st X.env) (SP X pins D) X.xe s
def PSs (X:Cx) (st:List Stmt) (t:TS):Prop:=
  ∀ (pins:List (Addr × Obj)) (s:Shared) (σ:St) (H:Hp) (D:Ends),Inv X pins σ H s→t D σ H→wpAny (model X.prog X.w) X.A (execs st X.env) (SP X pins D) X.xe s
theorem thn {α:Type} {t:Sem α} {Q Q':α→Shared→Prop} {M:Model} {A:Around} {E:Value→Shared→Prop} {s:Shared} (h:wpAny M A t Q E s) (hQ:∀ a s,Q a s→Q' a s):wpAny M A t Q' E s:=wpAny_mono h hQ fun _ _ x=>x
section
variable {X:Cx}
def tVar (i:Nat):TE:=fun σ H Q=>∃ v,σ[i]?=some (some v)∧Q v H
def tC (v:V):TE:=fun _ H Q=>Q v H
theorem pe_var {i:Nat} {x:Str} {pos:Pos} (hN:X.N[i]?=some x) (hv:Vis X.env.scope x) (hd:(x == ("__debug__":Str))=false:=by decide) (hcd:(x == ("__classdict__":Str))=false:=by decide):PE X (.Name x pos) (tVar i):=by
  intro pins s σ H Q I h
  obtain ⟨v,e,h⟩:=h
  obtain ⟨m,hn,hl⟩:=I.loc
  obtain ⟨u,r,l⟩:=hl i x v hN e hv
  have fin:EP X pins σ Q u s:=⟨v,H,I,r,h⟩
  rcases l with ⟨hk,hm⟩|⟨hk,c,hc,hcell⟩
  · exact wpAny_Name (wpAny_loadName_local I.ok.kind hk hn hm fin) hd
  · rcases hk with hk|hk
    · exact wpAny_Name (wpAny_loadName_cell I.ok.kind hk hc hcell fin) hd
    · exact wpAny_Name (wpAny_loadName_free I.ok.kind hk hc hcell fin hcd) hd
theorem pe_int {i j pos}:PE X (.Constant (.int i) j pos) (tC (.int i)):=fun _ _ _ H _ I h=>wpAny_Constant_int ⟨.int i,H,I.tok _,⟨_,rfl⟩,h⟩
theorem pe_bl {b j pos}:PE X (.Constant (.bool b) j pos) (tC (.bl b)):=fun _ _ _ H _ I h=>Constant_bool ⟨.bl b,H,I,rfl,h⟩
theorem pe_non {j pos}:PE X (.Constant .none j pos) (tC .non):=fun _ _ _ H _ I h=>Constant_none ⟨.non,H,I,rfl,h⟩
def Gl (X:Cx) (x:Str):Prop:=X.env.kindOf x=some .globalImplicit
theorem ld_glob {E:Value→Shared→Prop} {pins:List (Addr × Obj)} {s:Shared} {σ:St} {H:Hp} {x:Str} {u:Value} {pos:Pos} {Q:Value→Shared→Prop} (I:Inv X pins σ H s) (hg:Gl X x) (hm:X.mg x=some u) (h:Q u s)
    (hd:(x == ("__debug__":Str))=false:=by decide):wpAny (model X.prog X.w) X.A (eval (.Name x pos) X.env) Q E s:=
  Calls.Name_function_global I.ok.kind hg (Calls.loadGlobal_global (by rw [I.ok.glob]; exact I.mod.glob.keeps I.bk) hm h) hd
theorem ld_blt {E:Value→Shared→Prop} {pins:List (Addr × Obj)} {s:Shared} {σ:St} {H:Hp} {x:Str} {u:Value} {pos:Pos} {Q:Value→Shared→Prop} (I:Inv X pins σ H s) (hg:Gl X x) (hm:X.mg x=none) (hv:bootBuiltins x=some u) (h:Q u s)
    (hn:x≠"__name__":=by decide) (hd:(x == ("__debug__":Str))=false:=by decide):wpAny (model X.prog X.w) X.A (eval (.Name x pos) X.env) Q E s:=by
  obtain ⟨mb,h1,h2⟩:=I.mod.blt
  exact Calls.Name_function_global I.ok.kind hg (Calls.loadGlobal_builtin (by rw [I.ok.glob]; exact I.mod.glob.keeps I.bk) hm (by rw [I.ok.blt]; exact h1.keeps I.bk) ((h2 x hn).trans hv) h) hd
variable {a b:Expr} {ta tb:TE} {pos:Pos}
variable {tA tB':TT} {rest:List Expr}
def tAnd (t u:TT):TT:=fun σ H Q=>t σ H fun c H1=>if c=true then u σ H1 Q else Q false H1
def tOr (t u:TT):TT:=fun σ H Q=>t σ H fun c H1=>if c=true then Q true H1 else u σ H1 Q
def tNot (t:TT):TT:=fun σ H Q=>t σ H fun c H1=>Q (!c) H1
theorem pw_and1 (ha:PT X a tA):PW X (.BoolOp .And [a] pos) tA:=by
  intro wh pins s σ H Q I h
  refine isTrue_and (thn (ha pins s σ H Q I h) fun c s1 e=>?_)
  cases c with
  | true=>exact isTrue_and_nil e
  | false=>exact e
theorem pw_or1 (ha:PT X a tA):PW X (.BoolOp .Or [a] pos) tA:=by
  intro wh pins s σ H Q I h
  refine isTrue_or (thn (ha pins s σ H Q I h) fun c s1 e=>?_)
  cases c with
  | false=>exact isTrue_or_nil e
  | true=>exact e
theorem pw_and (ha:PT X a tA) (hb:PW X (.BoolOp .And (b::rest) pos) tB'):PW X (.BoolOp .And (a::b::rest) pos) (tAnd tA tB'):=by
  intro wh pins s σ H Q I h
  refine isTrue_and (thn (ha pins s σ H _ I h) fun c s1 ⟨H1,I1,q1⟩=>?_)
  cases c with
  | true=>exact hb wh pins s1 σ H1 Q I1 q1
  | false=>exact ⟨H1,I1,q1⟩
theorem pw_or (ha:PT X a tA) (hb:PW X (.BoolOp .Or (b::rest) pos) tB'):PW X (.BoolOp .Or (a::b::rest) pos) (tOr tA tB'):=by
  intro wh pins s σ H Q I h
  refine isTrue_or (thn (ha pins s σ H _ I h) fun c s1 ⟨H1,I1,q1⟩=>?_)
  cases c with
  | true=>exact ⟨H1,I1,q1⟩
  | false=>exact hb wh pins s1 σ H1 Q I1 q1
theorem pt_not (ha:PT X a tA):PT X (.UnaryOp .Not a pos) (tNot tA):=by
  intro pins s σ H Q I h
  exact isTrue_not (ha pins s σ H (fun c H1=>Q (!c) H1) I h)
def tAndV (ta tb:TE):TE:=fun σ H Q=>ta σ H fun x H1=>∃ c,x=.bl c∧if c=true then tb σ H1 Q else Q (.bl false) H1
def tOrV (ta tb:TE):TE:=fun σ H Q=>ta σ H fun x H1=>∃ c,x=.bl c∧if c=true then Q (.bl true) H1 else tb σ H1 Q
def tNotV (ta:TE):TE:=fun σ H Q=>ta σ H fun x H1=>∃ c,x=.bl c∧Q (.bl (!c)) H1
theorem pe_one {op} {t:TE} (h:PE X a t):PE X (.BoolOp op [a] pos) t:=fun pins s σ H Q I hw=>BoolOp_one (h pins s σ H Q I hw)
theorem pe_or (ha:PE X a ta) (hb:PE X (.BoolOp .Or (b::rest) pos) tb):PE X (.BoolOp .Or (a::b::rest) pos) (tOrV ta tb):=by
  intro pins s σ H Q I h
  refine BoolOp_or (thn (ha pins s σ H _ I h) fun v s1 ⟨x,H1,I1,r1,q1⟩=>?_)
  obtain ⟨c,rfl,q1⟩:=q1
  cases r1
  refine wpAny_truthy_bool ?_
  cases c with
  | false=>exact hb pins s1 σ H1 Q I1 q1
  | true=>exact ⟨.bl true,H1,I1,rfl,q1⟩
def tIf (t:TT) (ta tb:TE):TE:=fun σ H Q=>t σ H fun c H1=>if c=true then ta σ H1 Q else tb σ H1 Q
theorem pe_ifExp {c:Expr} (hc:PT X c tA) (ha:PE X a ta) (hb:PE X b tb):PE X (.IfExp c a b pos) (tIf tA ta tb):=by
  intro pins s σ H Q I h
  refine wpAny_IfExp (thn (hc pins s σ H _ I h) fun d s1 ⟨H1,I1,q1⟩=>?_)
  cases d with
  | true=>exact ha pins s1 σ H1 Q I1 q1
  | false=>exact hb pins s1 σ H1 Q I1 q1
end
def SqL (K:PySem.W.Frag) (H:Hp) (a:Addr) (xs:List V):Prop:=
  Rd H a (.lst xs) ∨
    ∃ (o:Obj) (its:Array Value) (n:Nat),K.lookup a=some o∧o.cls=.type "list"∧o.dict=none∧o.data=.seq its n∧its.size≤sizeLine∧Vals xs its.toList
def SqT (K:PySem.W.Frag) (H:Hp) (a:Addr) (xs:List V):Prop:=
  Rd H a (.tup xs) ∨
    ∃ (o:Obj) (its:Array Value) (n:Nat),K.lookup a=some o∧o.cls=.type "tuple"∧o.data=.seq its n∧its.size≤sizeLine∧Vals xs its.toList
def absV:Value→Option V
  | .none=>some .non
  | .bool b=>some (.bl b)
  | .int i _=>some (.int i)
  | .str x _=>some (.str x)
  | .bytes b _=>some (.byt b)
  | .float b _=>some (.flt b)
  | .ref a=>some (.ref a)
  | .type n=>some (.ty n)
  | _=>none
theorem RelV.abs {x:V} {u:Value} (r:RelV x u):absV u=some x:=by
  cases x with
  | non=>cases r; rfl
  | bl _=>cases r; rfl
  | int _=>obtain ⟨t,rfl⟩:=r; rfl
  | str _=>obtain ⟨t,rfl⟩:=r; rfl
  | byt _=>obtain ⟨t,rfl⟩:=r; rfl
  | flt _=>obtain ⟨t,rfl⟩:=r; rfl
  | ref _=>cases r; rfl
  | ty _=>cases r; rfl
theorem RelV.inj {x y:V} {u:Value} (r:RelV x u) (q:RelV y u):x=y:=Option.some.inj (r.abs.symm.trans q.abs)
theorem Vals.inj:∀ {xs ys:List V} {us:List Value},Vals xs us→Vals ys us→xs=ys
  | _,_,_,.nil,.nil=>rfl
  | _,_,_,.cons r t,.cons r' t'=>by rw [r.inj r',Vals.inj t t']
section
variable {X:Cx} {pins:List (Addr × Obj)} {σ:St} {H:Hp} {s:Shared} {a:Addr} {xs ys:List V}
theorem SqL.of {K:PySem.W.Frag} (h:H a=some (.lst xs)):SqL K H a xs:=.inl (.inl h)
theorem SqT.of {K:PySem.W.Frag} (h:H a=some (.tup xs)):SqT K H a xs:=.inl (.inl h)
theorem Inv.list (I:Inv X pins σ H s) (h:SqL X.K H a xs):∃ its:List Value,Vals xs its∧PlainL s.heap a its.toArray∧xs.length≤sizeLine:=by
  rcases h with h|⟨o,its,n,hk,hc,hd,hs,hz,r⟩
  · obtain ⟨z,its,n,r,e⟩:=h.ok I.hok
    exact ⟨its,r,⟨_,n,e,rfl,rfl,rfl⟩,z⟩
  · refine ⟨its.toList,r,⟨o,n,I.kIn a o hk,hc,hd,by simpa using hs⟩,?_⟩
    have e:=r.length
    simp only [Array.length_toList] at e
    omega
theorem Inv.tuple (I:Inv X pins σ H s) (h:SqT X.K H a xs):∃ its:List Value,Vals xs its∧IsTup s.heap a its.toArray∧xs.length≤sizeLine:=by
  rcases h with h|⟨o,its,n,hk,hc,hs,hz,r⟩
  · obtain ⟨z,its,r,p⟩:=h.ok I.hok
    exact ⟨its,r,p,z⟩
  · refine ⟨its.toList,r,⟨o,I.kIn a o hk,hc,n,by simpa using hs⟩,?_⟩
    have e:=r.length
    simp only [Array.length_toList] at e
    omega
theorem Inv.list_inj (I:Inv X pins σ H s) (h:SqL X.K H a xs) (h':SqL X.K H a ys):xs=ys:=by
  obtain ⟨its,r,⟨o,n,e,_,_,d⟩,_⟩:=I.list h
  obtain ⟨its',r',⟨o',n',e',_,_,d'⟩,_⟩:=I.list h'
  rw [e] at e'; cases e'
  rw [d] at d'
  injection d' with d1 _
  have:its=its':=by simpa using congrArg Array.toList d1
  subst this
  exact r.inj r'
theorem Inv.tuple_inj (I:Inv X pins σ H s) (h:SqT X.K H a xs) (h':SqT X.K H a ys):xs=ys:=by
  obtain ⟨its,r,⟨o,e,_,n,d⟩,_⟩:=I.tuple h
  obtain ⟨its',r',⟨o',e',_,n',d'⟩,_⟩:=I.tuple h'
  rw [e] at e'; cases e'
  rw [d] at d'
  injection d' with d1 _
  have:its=its':=by simpa using congrArg Array.toList d1
  subst this
  exact r.inj r'
end
abbrev Cx.wish (X:Cx) (E:Value→Shared→Prop):Cx:={ X with xe:=E }
abbrev Cx.nox (X:Cx):Cx:=X.wish fun _ _=>False
theorem Cx.Ok.wish {X:Cx} (ok:X.Ok) (E:Value→Shared→Prop):(X.wish E).Ok:=
  ⟨ok.mod,ok.kind,ok.glob,ok.blt,ok.above,ok.inj,ok.has,ok.cab,ok.hd,ok.frames,ok.stk,ok.exf,ok.bs,ok.bsz,ok.noex,ok.exfs,ok.funs,ok.frf⟩
theorem Cx.Ok.unwish {X:Cx} {E:Value→Shared→Prop} (ok:(X.wish E).Ok):X.Ok:=
  ⟨ok.mod,ok.kind,ok.glob,ok.blt,ok.above,ok.inj,ok.has,ok.cab,ok.hd,ok.frames,ok.stk,ok.exf,ok.bs,ok.bsz,ok.noex,ok.exfs,ok.funs,ok.frf⟩
section
variable {X:Cx} {pins:List (Addr × Obj)} {σ:St} {H:Hp} {s:Shared} {E:Value→Shared→Prop}
theorem Inv.wish (I:Inv X pins σ H s) (E:Value→Shared→Prop):Inv (X.wish E) pins σ H s:=⟨I.ok.wish E,I.os,I.bare,I.base,I.loc,I.cell,I.free,I.freeC,I.pin,I.hok,I.len⟩
theorem Inv.unwish (I:Inv (X.wish E) pins σ H s):Inv X pins σ H s:=⟨I.ok.unwish,I.os,I.bare,I.base,I.loc,I.cell,I.free,I.freeC,I.pin,I.hok,I.len⟩
theorem SP.unwish {D:Ends} {f:Flow} {s':Shared} (h:SP (X.wish E) pins D f s'):SP X pins D f s':=by
  cases f with
  | next=>obtain ⟨σ',H',I,q⟩:=h; exact ⟨σ',H',I.unwish,q⟩
  | brk=>obtain ⟨σ',H',I,q⟩:=h; exact ⟨σ',H',I.unwish,q⟩
  | cont=>obtain ⟨σ',H',I,q⟩:=h; exact ⟨σ',H',I.unwish,q⟩
  | ret u=>obtain ⟨v,σ',H',I,r,q⟩:=h; exact ⟨v,σ',H',I.unwish,r,q⟩
theorem PSs.nox {st:List Stmt} {t:TS} (h:PSs X.nox st t):PSs X st t:=fun pins s σ H D I hw=>
  wpAny_mono (h pins s σ H D (I.wish _) hw) (fun _ _ q=>q.unwish) fun _ _ z=>False.elim z
end
section
variable {X:Cx} {st:Stmt} {rest:List Stmt} {t u:TS} {e:Expr} {te:TE} {pos:Pos}
def tNext:TS:=fun D σ H=>D.nx σ H
def tSeq (t u:TS):TS:=fun D σ H=>t { D with nx:=u D } σ H
theorem pss_nil:PSs X [] tNext:=fun _ _ σ H _ I h=>wpAny_execs_nil ⟨σ,H,I,h⟩
theorem pss_cons (h1:PS X st t) (h2:PSs X rest u):PSs X (st::rest) (tSeq t u):=by
  intro pins s σ H D I h
  refine wpAny_execs_cons (thn (h1 pins s σ H { D with nx:=u D } I h) fun f s1 q=>?_)
  cases f with
  | next=>
    obtain ⟨σ',H',I',q⟩:=q
    exact h2 pins s1 σ' H' D I' q
  | ret v=>exact q
  | brk=>exact q
  | cont=>exact q
theorem pss_one (h1:PS X st t):PSs X [st] t:=by
  intro pins s σ H D I h
  refine wpAny_execs_cons (thn (h1 pins s σ H D I h) fun f s1 q=>?_)
  cases f with
  | next=>exact wpAny_execs_nil q
  | ret v=>exact q
  | brk=>exact q
  | cont=>exact q
theorem Inv.quiet {pins:List (Addr × Obj)} {σ:St} {H:Hp} {s:Shared} (I:Inv X pins σ H s):interactive X.env=false:=by simp [interactive,I.ok.kind]
def tDrop (te:TE):TS:=fun D σ H=>te σ H fun _ H1=>D.nx σ H1
theorem ps_expr (he:PE X e te) (hs:swapsWith e none pos.line X.env=pure false:=by rfl):PS X (.Expr e pos) (tDrop te):=by
  intro pins s σ H D I h
  exact wpAny_Expr_any (thn (he pins s σ H _ I h) fun v s1 ⟨x,H1,I1,r1,q1⟩=>⟨σ,H1,I1,q1⟩) I.quiet hs
def tRet (te:TE):TS:=fun D σ H=>te σ H D.rt
theorem ps_ret (he:PE X e te):PS X (.Return (some e) pos) (tRet te):=by
  intro pins s σ H D I h
  exact wpAny_Return_some (thn (he pins s σ H _ I h) fun v s1 ⟨x,H1,I1,r1,q1⟩=>⟨x,σ,H1,I1,r1,q1⟩)
def tRetN:TS:=fun D _ H=>D.rt .non H
def tIfS (c:TT) (t u:TS):TS:=fun D σ H=>c σ H fun b H1=>if b=true then t D σ H1 else u D σ H1
theorem ps_if {c:Expr} {a b:List Stmt} {tc:TT} (hc:PT X c tc) (ha:PSs X a t) (hb:PSs X b u):PS X (.If c a b pos) (tIfS tc t u):=by
  intro pins s σ H D I h
  refine wpAny_If (thn (hc pins s σ H _ I h) fun d s1 ⟨H1,I1,q1⟩=>?_)
  cases d with
  | true=>exact ha pins s1 σ H1 D I1 q1
  | false=>exact hb pins s1 σ H1 D I1 q1
def tNever:TS:=fun _ _ _=>False
end
abbrev TG:=V→St→Hp→(St→Hp→Prop)→Prop
abbrev TGs:=List V→St→Hp→(St→Hp→Prop)→Prop
def PG (X:Cx) (target:Expr) (t:TG):Prop:=
  ∀ (pins:List (Addr × Obj)) (s:Shared) (σ:St) (H:Hp) (v:V) (u:Value) (Q:St→Hp→Prop),Inv X pins σ H s→RelV v u→t v σ H Q →
    wpAny (model X.prog X.w) X.A (assign target X.env u) (fun _ s'=>∃ σ' H',Inv X pins σ' H' s'∧Q σ' H') X.xe s
def PGs (X:Cx) (ts:List Expr) (t:TGs):Prop:=
  ∀ (pins:List (Addr × Obj)) (s:Shared) (σ:St) (H:Hp) (vs:List V) (us:List Value) (Q:St→Hp→Prop),Inv X pins σ H s→Vals vs us→t vs σ H Q →
    wpAny (model X.prog X.w) X.A (assignInOrder ((assignEach ts X.env).map (·.2)) us) (fun _ s'=>∃ σ' H',Inv X pins σ' H' s'∧Q σ' H') X.xe s
abbrev TSet:=V→V→V→Hp→(Hp→Prop)→Prop
def PSet (X:Cx) (t:TSet):Prop:=
  ∀ (pins:List (Addr × Obj)) (s:Shared) (σ:St) (H:Hp) (o i v:V) (ov iv u:Value) (Q:Hp→Prop),Inv X pins σ H s→RelV o ov→RelV i iv→RelV v u→t o i v H Q →
    wpAny (model X.prog X.w) X.A (setItem ov iv u) (fun _ s'=>∃ H',Inv X pins σ H' s'∧Q H') X.xe s
section
variable {X:Cx} {pos:Pos}
def gName (i:Nat):TG:=fun v σ H Q=>Q (σ.set i (some v)) H
theorem pg_name {i:Nat} {x:Str} (hN:X.N.Nodup) (hi:X.N[i]?=some x) (hx:Loc X.env.scope x) (hf:X.fn x=true∨X.env.scope.names.lookup x=some .local:=by first|exact .inl rfl|exact .inr rfl|assumption):PG X (.Name x pos) (gName i):=by
  intro pins s σ H v u Q I r h
  exact wpAny_assign_Name (store_ok I hN hi hx r (fun s' I'=>⟨_,H,I',h⟩) hf)
def gNil:TGs:=fun vs σ H Q=>vs=[]∧Q σ H
def gCons (t:TG) (u:TGs):TGs:=fun vs σ H Q=>∃ v r,vs=v::r∧t v σ H fun σ' H'=>u r σ' H' Q
theorem pgs_nil:PGs X [] gNil:=by
  intro pins s σ H vs us Q I r h
  obtain ⟨e,h⟩:=h
  subst e
  cases r
  exact assignInOrder_nil ⟨σ,H,I,h⟩
theorem pgs_cons {e:Expr} {es:List Expr} {t:TG} {u:TGs} (h1:PG X e t) (h2:PGs X es u)
    (hs:(assignEach (e::es) X.env).map (·.2)=assign e X.env::(assignEach es X.env).map (·.2):=by rfl):PGs X (e::es) (gCons t u):=by
  intro pins s σ H vs us Q I r h
  obtain ⟨v,vr,e1,h⟩:=h
  subst e1
  cases r with
  | cons r rr=>
    rw [hs]
    refine assignInOrder_cons (thn (h1 pins s σ H _ _ _ I r h) fun _ s1 ⟨σ1,H1,I1,q1⟩=>?_)
    exact h2 pins s1 σ1 H1 _ _ Q I1 rr q1
def gTup (K:PySem.W.Frag) (n:Nat) (t:TGs):TG:=fun v σ H Q=>∃ a xs,v=.ref a∧SqT K H a xs∧xs.length=n∧t xs σ H Q
theorem pg_tup {es:List Expr} {k:Nat} {t:TGs} {n:Nat} (hc:X.calm=true) (h:PGs X es t)
    (hn:(assignEach es X.env).length=n:=by rfl) (hst:(assignEach es X.env).findIdx? (·.1)=none:=by rfl):PG X (.Tuple es k pos) (gTup X.K n t):=by
  intro pins s σ H v u Q I r hw
  obtain ⟨a,xs,e1,hq,hl,hw⟩:=hw
  subst e1
  cases r
  obtain ⟨its,rv,ht,hz⟩:=I.tuple hq
  refine assign_Tuple_tuple (I.ok.hd hc) ht (by simp [hn,← hl,rv.length]) hst fun h' hx=>?_
  have I1:Inv X pins σ H { s with heap:=h' }:=I.kept (t':=s.toks) fun b o e=>hx b o (Nat.ne_of_lt (Heap.lt_size e)) e
  exact h pins _ σ H xs _ Q I1 (by simpa using rv) hw
def gSub (to ti:TE) (t:TSet):TG:=fun v σ H Q=>to σ H fun o H1=>ti σ H1 fun i H2=>t o i v H2 fun H3=>Q σ H3
theorem pg_sub {o i:Expr} {to ti:TE} {t:TSet} (ho:PE X o to) (hi:PE X i ti) (hs:PSet X t)
    (ha:∀ v,assign (.Subscript o i pos) X.env v=(do
      let ov ← holding [v] (eval o X.env)
      let iv ← holding [v,ov] (eval i X.env)
      standAt pos
      holding [v,ov,iv] (setItem ov iv v)
      release [v,ov,iv] []):=by intro _; rfl):PG X (.Subscript o i pos) (gSub to ti t):=by
  intro pins s σ H v u Q I r h
  rw [ha]
  refine wpAny_bind (wpAny_holding (thn (ho pins s σ H _ I h) fun ov s1 ⟨x,H1,I1,r1,q1⟩=>?_))
  refine wpAny_bind (wpAny_holding (thn (hi pins s1 σ H1 _ I1 q1) fun iv s2 ⟨y,H2,I2,r2,q2⟩=>?_))
  refine wpAny_bind (wpAny_standAt (wpAny_bind (wpAny_holding (thn (hs pins s2 σ H2 x y v ov iv u _ I2 r1 r2 r q2) fun _ s3 ⟨H3,I3,q3⟩=>?_))))
  exact wpAny_release ⟨σ,H3,I3,q3⟩
def tAsg (te:TE) (g:TG):TS:=fun D σ H=>te σ H fun x H1=>g x σ H1 D.nx
theorem ps_asg {tg e:Expr} {te:TE} {g:TG} (he:PE X e te) (hg:PG X tg g) (hs:swapsWithSole [tg] e pos.line X.env=pure false:=by rfl) (hw:swappedStores [tg] e X.env=pure none:=by rfl)
    (h1:(assignEach [tg] X.env).map (·.2)=[assign tg X.env]:=by rfl):PS X (.Assign [tg] e pos) (tAsg te g):=by
  intro pins s σ H D I h
  refine wpAny_Assign_stores (thn (he pins s σ H _ I h) fun v s1 ⟨x,H1,I1,r1,q1⟩=>?_) hs hw
  rw [h1]
  exact thn (hg pins s1 σ H1 x v _ I1 r1 q1) fun _ s2 q=>q
theorem ps_set {i:Nat} {x:Str} {e:Expr} {te:TE} {pos':Pos} (hN:X.N.Nodup) (hi:X.N[i]?=some x) (hx:Loc X.env.scope x) (he:PE X e te) (hs:swapsWith e (some (.Name x pos')) pos.line X.env=pure false:=by rfl) (hf:X.fn x=true∨X.env.scope.names.lookup x=some .local:=by first|exact .inl rfl|exact .inr rfl|assumption) :
    PS X (.Assign [.Name x pos'] e pos) (tAsg te (gName i)):=by
  intro pins s σ H D I h
  refine wpAny_Assign_Name (thn (he pins s σ H _ I h) fun v s1 ⟨y,H1,I1,r1,q1⟩=>?_) hs
  exact store_ok I1 hN hi hx r1 (fun s2 I2=>⟨_,H1,I2,q1⟩) hf
theorem ps_st {i:Nat} {x:Str} {e:Expr} {te:TE} {pos':Pos} (hN:X.N.Nodup) (hi:X.N[i]?=some x) (he:PE X e te) (hx:Loc X.env.scope x:=by first|exact Or.inl rfl|exact Or.inr rfl) (hs:swapsWith e (some (.Name x pos')) pos.line X.env=pure false:=by rfl) (hf:X.fn x=true∨X.env.scope.names.lookup x=some .local:=by first|exact .inl rfl|exact .inr rfl|assumption) :
    PS X (.Assign [.Name x pos'] e pos) (tAsg te (gName i)):=ps_set hN hi hx he hs hf
end
section
variable {X:Cx} {pos:Pos}
def tWhile (c:TT) (tb:TS):TS:=fun D σ H=>∃ W:Nat→St→Hp→Prop,(∃ m,W m σ H)∧∀ m σ H,W m σ H →
  c σ H fun b H1=>if b=true then ∃ N:St→Hp→Prop,(∀ σ' H',N σ' H'→∃ m',m'<m∧W m' σ' H')∧tb { D with nx:=N,ct:=N,bk:=D.nx } σ H1 else D.nx σ H1
theorem ps_while {c:Expr} {body:List Stmt} {tc:TT} {tb:TS} (hp:PassesOwn (model X.prog X.w) X.A X.env X.xe) (hc:PT X c tc) (hb:PSs X body tb):PS X (.While c body [] pos) (tWhile tc tb):=by
  intro pins s σ H D I h
  obtain ⟨W,⟨m0,w0⟩,turn⟩:=h
  refine wpAny_While (codeAny_whileLoop (fun n s'=>∃ σ' H',Inv X pins σ' H' s'∧W n σ' H') ?_ m0 ⟨σ,H,I,w0⟩)
  rintro n s1 ⟨σ1,H1,I1,w1⟩
  refine wpAny_passesOwn hp (thn (hc pins s1 σ1 H1 _ I1 (turn n σ1 H1 w1)) fun b s2 ⟨H2,I2,q2⟩=>?_)
  cases b with
  | true=>
    obtain ⟨N,hN,q2⟩:=q2
    rw [if_pos rfl]
    refine wpAny_passesOwn hp (thn (hb pins s2 σ1 H2 _ I2 q2) fun f s3 q3=>?_)
    cases f with
    | next=>
      obtain ⟨σ3,H3,I3,n3⟩:=q3
      obtain ⟨m',hm,w3⟩:=hN σ3 H3 n3
      exact ⟨m',hm,σ3,H3,I3,w3⟩
    | cont=>
      obtain ⟨σ3,H3,I3,n3⟩:=q3
      obtain ⟨m',hm,w3⟩:=hN σ3 H3 n3
      exact ⟨m',hm,σ3,H3,I3,w3⟩
    | brk=>exact q3
    | ret v=>exact q3
  | false=>
    rw [if_neg Bool.false_ne_true]
    exact wpAny_execs_nil ⟨σ1,H2,I2,q2⟩
end
structure It where
  go:Nat→Hp→Prop
  yld:Nat→Hp→V→Hp→Prop
  stop:Nat→Hp→Prop
def FpOk (X:Cx) (pins:List (Addr × Obj)) (H:Hp) (b:Addr):Prop:=
  H b=none∧b≠X.env.locals∧b ∉ X.fs∧(b∈X.ex∨X.s₀.heap.objs.size≤b)∧(∀ x c,X.env.cells.lookup x=some c→c≠b)∧∀ p∈X.pn++pins,p.1≠b
theorem Inv.fpOk {X:Cx} {pins:List (Addr × Obj)} {σ:St} {H H':Hp} {s:Shared} {b:Addr} (I:Inv X pins σ H s) (hb:s.heap.objs.size≤b) (hn:H' b=none):FpOk X pins H' b:=by
  refine ⟨hn,Nat.ne_of_gt (Nat.lt_of_lt_of_le I.lt hb),I.nofs hb,.inr (Nat.le_trans I.sz hb),fun x c e z=>?_,fun p hp z=>?_⟩
  · obtain ⟨v,q⟩:=I.cell x c e
    exact absurd (Nat.lt_of_lt_of_le q.lt (by rw [z]; exact hb)) (Nat.lt_irrefl _)
  · exact absurd (Nat.lt_of_lt_of_le (Heap.lt_size (I.pin p hp).1) (by rw [z]; exact hb)) (Nat.lt_irrefl _)
structure Turn (P:Program) (w:World) (K:PySem.W.Frag) (tg:Expr) (J:It) (fp:List Addr) (it:Addr) (tn:Nat→Heap→Prop):Prop where
  mem:it∈fp
  obj:∀ i h,tn i h→∀ b∈fp,∃ o,h.get? b=some o∧∀ v,o.data≠.cell v
  keep:∀ i h h',tn i h→(∀ b∈fp,∀ o,h.get? b=some o→h'.get? b=some o)→tn i h'
  item:∀ (X:Cx),X.prog=P→X.w=w→X.K=K→X.calm=true→∀ (i:Nat) (pins:List (Addr × Obj)) (s:Shared) (σ:St) (H:Hp) (E:Value→Shared→Prop),Inv X pins σ H s→(∀ b∈fp,FpOk X pins H b)→tn i s.heap→J.go i H →
    wpAny (model P w) X.A (pyNext (.ref it)) (fun r s1=>∃ u,r=some u ∧
      wpAny (model P w) X.A (letOwnedTupleGo tg (.ref it) u) (fun _ s2=>∃ x H',Inv X pins σ H' s2∧RelV x u∧J.yld i H x H'∧tn (i+1) s2.heap∧∀ b∈fp,H' b=none) E s1) E s
  done:∀ (X:Cx),X.prog=P→X.w=w→X.K=K→X.calm=true→∀ (i:Nat) (pins:List (Addr × Obj)) (s:Shared) (σ:St) (H:Hp) (E:Value→Shared→Prop),Inv X pins σ H s→(∀ b∈fp,FpOk X pins H b)→tn i s.heap→J.stop i H →
    wpAny (model P w) X.A (pyNext (.ref it)) (fun r s1=>r=none∧Inv X pins σ H s1) E s
  self:∀ (A:Around) (i:Nat) (s:Shared) (Q:Value→Shared→Prop) (E:Value→Shared→Prop),tn i s.heap→Q (.ref it) s→wpAny (model P w) A (pyIter (.ref it)) Q E s
abbrev TI:=St→Hp→(It→Hp→Prop)→Prop
def PIE (X:Cx) (pins:List (Addr × Obj)) (σ:St) (tg:Expr) (R:It→Hp→Prop) (itv:Value) (s2:Shared):Prop:=
  ∃ (it:Addr) (fp:List Addr) (tn:Nat→Heap→Prop) (J:It) (H':Hp),itv=.ref it∧Inv X pins σ H' s2∧Turn X.prog X.w X.K tg J fp it tn∧tn 0 s2.heap∧(∀ b∈fp,FpOk X pins H' b)∧R J H'
def PI (X:Cx) (tg iter:Expr) (wi:TI):Prop:=
  ∀ (pins:List (Addr × Obj)) (s:Shared) (σ:St) (H:Hp) (R:It→Hp→Prop),Inv X pins σ H s→wi σ H R →
    wpAny (model X.prog X.w) X.A (eval iter X.env) (fun v s1=>wpAny (model X.prog X.w) X.A (pyIter v) (PIE X pins σ tg R) X.xe s1) X.xe s
theorem go_of {M:Model} {A:Around} {E:Value→Shared→Prop} {s:Shared} {tg:Expr} {it:Addr} {u:Value} {o:Obj} {n:String} {vs:Array Value} {Q:Unit→Shared→Prop} (ho:s.heap.get? it=some o) (hc:o.cls=.type n) (hd:o.data=.fields vs)
    (hn:["enumerate","zip","dict_itemiterator","dict_reverseitemiterator","odict_iterator","itertools.zip_longest","itertools.pairwise"].contains n=false) (hQ:Q () s):wpAny M A (letOwnedTupleGo tg (.ref it) u) Q E s:=by
  unfold letOwnedTupleGo
  cases tg <;> first
    | exact wpAny_pure hQ
    | (cases u <;> first
        | exact wpAny_pure hQ
        | (refine wpAny_bind (wpAny_load ho ?_)
           rw [hc,hd]
           show wpAny M A (if (["enumerate","zip","dict_itemiterator","dict_reverseitemiterator","odict_iterator","itertools.zip_longest","itertools.pairwise"].contains n && vs[0]? == some (rawInt _))=true then _ else _) Q E s
           rw [if_neg (by intro h; rw [hn,Bool.false_and] at h; cases h)]
           exact wpAny_pure hQ))
def Itl (K:PySem.W.Frag) (a:Addr):It:=
  ⟨fun i H=>∃ xs x,SqL K H a xs∧xs[i]?=some x,fun i H x H'=>H'=H∧∀ xs,SqL K H a xs→xs[i]?=some x,fun i H=>∃ xs,SqL K H a xs∧xs.length≤i⟩
def Itt (K:PySem.W.Frag) (a:Addr):It:=
  ⟨fun i H=>∃ xs x,SqT K H a xs∧xs[i]?=some x,fun i H x H'=>H'=H∧∀ xs,SqT K H a xs→xs[i]?=some x,fun i H=>∃ xs,SqT K H a xs∧xs.length≤i⟩
def Itr (lo:Int) (n:Nat):It:=⟨fun i _=>i<n,fun i H x H'=>H'=H∧x=.int (lo+i),fun i _=>n≤i⟩
theorem turn_list {P:Program} {w:World} {K:PySem.W.Frag} {tg:Expr} (a it:Addr):Turn P w K tg (Itl K a) [it] it (fun i h=>h.IsListIter it a i) where
  mem:=by simp
  obj:=fun i h st b hb=>by
    have e:b=it:=by simpa using hb
    subst e
    obtain ⟨o,e,c,d⟩:=st
    exact ⟨o,e,fun v z=>by rw [d] at z; cases z⟩
  keep:=fun i h h' st k=>st.at fun o e=>k it (by simp) o e
  item:=by
    intro X hP hw hK hc i pins s σ H E I hf st hg
    subst hP hw hK
    obtain ⟨xs,x,hq,hx⟩:=hg
    obtain ⟨its,rv,p,hz⟩:=I.list hq
    obtain ⟨u,hu,ru⟩:=rv.get hx
    obtain ⟨f0,f1,f2,f3,f4,f5⟩:=hf it (by simp)
    refine wpAny_pyNext_list_item st p.isList (x:=u) (by simpa using hu) fun h' st' sb=>?_
    have I1:Inv X pins σ H { s with heap:=h' }:=I.turned (t':=s.toks) (fun b o hb e=>(sb.2 b hb).trans e) f0 f1 f3 f4 f5
    obtain ⟨o,e,c,d⟩:=id st'
    exact ⟨u,rfl,go_of (s:={ s with heap:=h' }) e c d (by decide) ⟨x,H,I1,ru,⟨rfl,fun ys hy=>by rw [I.list_inj hy hq]; exact hx⟩,st',fun b hb=>(hf b hb).1⟩⟩
  done:=by
    intro X hP hw hK hc i pins s σ H E I hf st hg
    subst hP hw hK
    obtain ⟨xs,hq,hx⟩:=hg
    obtain ⟨its,rv,p,hz⟩:=I.list hq
    obtain ⟨f0,f1,f2,f3,f4,f5⟩:=hf it (by simp)
    have hl:=rv.length
    exact wpAny_pyNext_list_end (I.ok.hd hc) st p.isList (by simp; omega) fun h' eb=>⟨rfl,I.turned (t':=s.toks) (fun b o hb e=>eb b o hb e) f0 f1 f3 f4 f5⟩
  self:=fun _ _ _ _ _ st h=>wpAny_pyIter_listiter st h
theorem turn_tuple {P:Program} {w:World} {K:PySem.W.Frag} {tg:Expr} (a it:Addr):Turn P w K tg (Itt K a) [it] it (fun i h=>h.IsTupleIter it a i) where
  mem:=by simp
  obj:=fun i h st b hb=>by
    have e:b=it:=by simpa using hb
    subst e
    obtain ⟨o,e,c,d⟩:=st
    exact ⟨o,e,fun v z=>by rw [d] at z; cases z⟩
  keep:=fun i h h' st k=>st.at fun o e=>k it (by simp) o e
  item:=by
    intro X hP hw hK hc i pins s σ H E I hf st hg
    subst hP hw hK
    obtain ⟨xs,x,hq,hx⟩:=hg
    obtain ⟨its,rv,p,hz⟩:=I.tuple hq
    obtain ⟨u,hu,ru⟩:=rv.get hx
    obtain ⟨f0,f1,f2,f3,f4,f5⟩:=hf it (by simp)
    refine wpAny_pyNext_tuple_item st (show s.heap.IsTuple a its.toArray from p) (x:=u) (by simpa using hu) fun h' st' sb=>?_
    have I1:Inv X pins σ H { s with heap:=h' }:=I.turned (t':=s.toks) (fun b o hb e=>(sb.2 b hb).trans e) f0 f1 f3 f4 f5
    obtain ⟨o,e,c,d⟩:=id st'
    exact ⟨u,rfl,go_of (s:={ s with heap:=h' }) e c d (by decide) ⟨x,H,I1,ru,⟨rfl,fun ys hy=>by rw [I.tuple_inj hy hq]; exact hx⟩,st',fun b hb=>(hf b hb).1⟩⟩
  done:=by
    intro X hP hw hK hc i pins s σ H E I hf st hg
    subst hP hw hK
    obtain ⟨xs,hq,hx⟩:=hg
    obtain ⟨its,rv,p,hz⟩:=I.tuple hq
    obtain ⟨f0,f1,f2,f3,f4,f5⟩:=hf it (by simp)
    have hl:=rv.length
    exact wpAny_pyNext_tuple_end (I.ok.hd hc) st (show s.heap.IsTuple a its.toArray from p) (by simp; omega) fun h' eb=>⟨rfl,I.turned (t':=s.toks) (fun b o hb e=>eb b o hb e) f0 f1 f3 f4 f5⟩
  self:=fun _ _ _ _ _ st h=>wpAny_pyIter_tupleiter st h
theorem turn_range {P:Program} {w:World} {K:PySem.W.Frag} {tg:Expr} (it:Addr) (lo:Int) (n:Nat):Turn P w K tg (Itr lo n) [it] it (fun i h=>IsRangeIter h it (lo+(i:Nat) * 1) ((n:Int) - (i:Nat)) 1) where
  mem:=by simp
  obj:=fun i h st b hb=>by
    have e:b=it:=by simpa using hb
    subst e
    exact ⟨_,st,fun v z=>by
      have z':Data.fields _=Data.cell v:=z
      cases z'⟩
  keep:=fun i h h' st k=>k it (by simp) _ st
  item:=by
    intro X hP hw hK hc i pins s σ H E I hf st hg
    subst hP hw hK
    obtain ⟨f0,f1,f2,f3,f4,f5⟩:=hf it (by simp)
    have W:=Walks.range (prog:=X.prog) (w:=X.w) (I.ok.hd hc) it lo 1 n
    refine W.item i s _ _ hg st fun v h' tk hv st' kk=>?_
    obtain ⟨t,rfl⟩:=hv
    have I1:Inv X pins σ H { s with heap:=h',toks:=tk }:=I.turned (fun b o hb e=>kk b o (by simpa using hb) e) f0 f1 f3 f4 f5
    refine ⟨_,rfl,go_of (s:={ s with heap:=h',toks:=tk }) (n:="range_iterator") st' rfl rfl (by decide) ⟨.int (lo+i),H,I1,⟨t,?_⟩,⟨rfl,rfl⟩,st',fun b hb=>(hf b hb).1⟩⟩
    rw [Int.mul_one]
  done:=by
    intro X hP hw hK hc i pins s σ H E I hf st hg
    subst hP hw hK
    obtain ⟨f0,f1,f2,f3,f4,f5⟩:=hf it (by simp)
    exact wpAny_pyNext_range_end (I.ok.hd hc) st (by have:n≤i:=hg; omega) fun h' eb=>⟨rfl,I.turned (t':=s.toks) (fun b o hb e=>eb b o hb e) f0 f1 f3 f4 f5⟩
  self:=fun _ _ _ _ _ st h=>wpAny_pyIter_rangeiter st h
section
variable {X:Cx} {tg:Expr}
def iList (K:PySem.W.Frag) (tl:TE):TI:=fun σ H R=>tl σ H fun x H1=>∃ a,x=.ref a∧(∃ xs,SqL K H1 a xs)∧R (Itl K a) H1
def iTup (K:PySem.W.Frag) (tl:TE):TI:=fun σ H R=>tl σ H fun x H1=>∃ a,x=.ref a∧(∃ xs,SqT K H1 a xs)∧R (Itt K a) H1
theorem pi_list {l:Expr} {tl:TE} (hl:PE X l tl):PI X tg l (iList X.K tl):=by
  intro pins s σ H R I h
  refine thn (hl pins s σ H _ I h) fun v s1 ⟨x,H1,I1,r1,q1⟩=>?_
  obtain ⟨a,e,⟨xs,hq⟩,q⟩:=q1
  subst e
  cases r1
  obtain ⟨its,rv,p,hz⟩:=I1.list hq
  refine wpAny_pyIter_list p.isList ?_
  refine ⟨s1.heap.objs.size,[s1.heap.objs.size],_,_,H1,rfl,I1.kept (t':=s1.toks) fun b o e=>Heap.get?_push_of_some _ e,turn_list a _,⟨_,Heap.get?_push_size _ rfl,rfl,rfl⟩,fun b hb=>?_,q⟩
  have e:b=s1.heap.objs.size:=by simpa using hb
  subst e
  exact I1.fpOk (Nat.le_refl _) (I1.hok.fresh (Nat.le_refl _))
theorem pi_tup {l:Expr} {tl:TE} (hl:PE X l tl):PI X tg l (iTup X.K tl):=by
  intro pins s σ H R I h
  refine thn (hl pins s σ H _ I h) fun v s1 ⟨x,H1,I1,r1,q1⟩=>?_
  obtain ⟨a,e,⟨xs,hq⟩,q⟩:=q1
  subst e
  cases r1
  obtain ⟨its,rv,p,hz⟩:=I1.tuple hq
  refine wpAny_pyIter_tuple (show s1.heap.IsTuple a its.toArray from p) ?_
  refine ⟨s1.heap.objs.size,[s1.heap.objs.size],_,_,H1,rfl,I1.kept (t':=s1.toks) fun b o e=>Heap.get?_push_of_some _ e,turn_tuple a _,⟨_,Heap.get?_push_size _ rfl,rfl,rfl⟩,fun b hb=>?_,q⟩
  have e:b=s1.heap.objs.size:=by simpa using hb
  subst e
  exact I1.fpOk (Nat.le_refl _) (I1.hok.fresh (Nat.le_refl _))
theorem range_it {pins:List (Addr × Obj)} {σ:St} {H:Hp} {s:Shared} {R:It→Hp→Prop} {E:Value→Shared→Prop} {lo hi:Int} {t u v:Tok} {tk:Nat} (I:Inv X pins σ H s) (h1 : -(2 ^ 62)≤lo) (h2:lo<2 ^ 62) (h3 : -(2 ^ 62)≤hi) (h4:hi<2 ^ 62)
    (q:R (Itr lo (hi - lo).toNat) H):wpAny (model X.prog X.w) X.A (pyIter (.ref s.heap.objs.size)) (PIE X pins σ tg R) E { s with heap:=s.heap.push { cls:=.type "range", data:=.fields #[.int lo t,.int hi u,.int 1 v] },toks:=tk }:=by
  refine wpAny_pyIter_range (IsRange.new ..) (small_one h1 h2 h3 h4) ?_
  have I1:Inv X pins σ H { s with heap:=s.heap.push { cls:=.type "range", data:=.fields #[.int lo t,.int hi u,.int 1 v] },toks:=tk }:=I.kept fun b o e=>Heap.get?_push_of_some _ e
  refine ⟨(s.heap.push { cls:=.type "range", data:=.fields #[.int lo t,.int hi u,.int 1 v] }).objs.size,[(s.heap.push { cls:=.type "range", data:=.fields #[.int lo t,.int hi u,.int 1 v] }).objs.size],_,_,H,rfl,
    I1.kept (t':=tk) fun b o e=>Heap.get?_push_of_some _ e,turn_range _ lo (hi - lo).toNat,?_,fun b hb=>?_,q⟩
  · have e1:lo+((0:Nat):Int) * 1=lo:=by simp
    have e2:(((hi - lo).toNat:Nat):Int) - ((0:Nat):Int)=Builtin.Range.rangeSize lo hi 1:=by rw [rangeSize_one]; split <;> omega
    show IsRangeIter _ _ (lo+((0:Nat):Int) * 1) ((((hi - lo).toNat:Nat):Int) - ((0:Nat):Int)) 1
    rw [e1,e2]
    exact Heap.get?_push_size _ rfl
  · have e:b=(s.heap.push { cls:=.type "range", data:=.fields #[.int lo t,.int hi u,.int 1 v] }).objs.size:=by simpa using hb
    subst e
    exact I1.fpOk (Nat.le_refl _) (I1.hok.fresh (Nat.le_refl _))
def iRng1 (ta:TA):TI:=fun σ H R=>ta σ H fun vs H1=>∃ j:Int,vs=[.int j] ∧ -(2 ^ 62)≤j∧j<2 ^ 62∧R (Itr 0 j.toNat) H1
def iRng2 (ta:TA):TI:=fun σ H R=>ta σ H fun vs H1=>∃ i j:Int,vs=[.int i,.int j]∧(-(2 ^ 62)≤i∧i<2 ^ 62 ∧ -(2 ^ 62)≤j∧j<2 ^ 62)∧R (Itr i (j - i).toNat) H1
theorem pi_range1 {a:Expr} {ta:TA} {p pos:Pos} (hg:Gl X "range") (hm:X.mg "range"=none) (ha:PA X [a] ta) (hs:starEach [a] X.env=[(false,eval a X.env)]:=by rfl):PI X tg (.Call (.Name "range" p) [a] [] pos) (iRng1 ta):=by
  intro pins s σ H R I h
  refine Call_ (ld_blt I hg hm boot_range (PyProof.Rows.callWith_type1 (thn (ha pos pins s σ H _ I h) fun us s1 ⟨vs,H1,I1,r1,q1⟩=>?_) hs rfl))
  obtain ⟨j,e,q1,q2,q⟩:=q1
  subst e
  cases r1 with
  | cons r rr=>
    cases rr
    obtain ⟨t,rfl⟩:=r
    exact call_range_1 (range_it I1 (by omega) (by omega) q1 q2 (by simpa using q))
theorem pi_range2 {a b:Expr} {ta:TA} {p pos:Pos} (hg:Gl X "range") (hm:X.mg "range"=none) (ha:PA X [a,b] ta) (hs:starEach [a,b] X.env=[(false,eval a X.env),(false,eval b X.env)]:=by rfl) (hs2:starEach [b] X.env=[(false,eval b X.env)]:=by rfl) :
    PI X tg (.Call (.Name "range" p) [a,b] [] pos) (iRng2 ta):=by
  intro pins s σ H R I h
  refine Call_ (ld_blt I hg hm boot_range (PyProof.Rows.callWith_type1 (thn (ha pos pins s σ H _ I h) fun us s1 ⟨vs,H1,I1,r1,q1⟩=>?_) (by rw [hs,hs2]) (by rw [hs2]; rfl)))
  obtain ⟨i,j,e,⟨q1,q2,q3,q4⟩,q⟩:=q1
  subst e
  cases r1 with
  | cons r rr=>
    cases rr with
    | cons r' rr=>
      cases rr
      obtain ⟨t,rfl⟩:=r
      obtain ⟨t',rfl⟩:=r'
      exact call_range_2 (range_it I1 q1 q2 q3 q4 q)
def tFor (wi:TI) (g:TG) (tb:TS):TS:=fun D σ H=>wi σ H fun J H1=>∃ W:Nat→Nat→St→Hp→Prop,(∃ m,W 0 m σ H1)∧∀ i m σ H,W i m σ H →
  (J.stop i H∧D.nx σ H)∨(J.go i H∧∃ N:St→Hp→Prop,(∀ σ' H',N σ' H'→∃ m',m'<m∧W (i+1) m' σ' H')∧∀ x H',J.yld i H x H'→g x σ H' fun σ2 H2=>tb { D with nx:=N,ct:=N,bk:=D.nx } σ2 H2)
def pinsAt (fp:List Addr) (h:Heap):List (Addr × Obj):=fp.filterMap fun b=>(h.get? b).map fun o=>(b,o)
theorem mem_pinsAt {fp:List Addr} {h:Heap} {b:Addr} {o:Obj} (hb:b∈fp) (e:h.get? b=some o):(b,o)∈pinsAt fp h:=List.mem_filterMap.mpr ⟨b,hb,by rw [e]; rfl⟩
theorem of_pinsAt {fp:List Addr} {h:Heap} {p:Addr × Obj} (hp:p∈pinsAt fp h):p.1∈fp∧h.get? p.1=some p.2:=by
  obtain ⟨b,hb,e⟩:=List.mem_filterMap.mp hp
  cases q:h.get? b with
  | none=>rw [q] at e; cases e
  | some o=>
    rw [q] at e
    have e':(b,o)=p:=Option.some.inj e
    subst e'
    exact ⟨hb,q⟩
theorem Inv.pinned {pins:List (Addr × Obj)} {σ:St} {H:Hp} {s:Shared} {fp:List Addr} (I:Inv X pins σ H s) (hf:∀ b∈fp,FpOk X pins H b) (ho:∀ b∈fp,∃ o,s.heap.get? b=some o∧∀ v,o.data≠.cell v):Inv X (pins++pinsAt fp s.heap) σ H s:=
  I.pins_of fun p hp=>(List.mem_append.mp hp).elim (fun z=>I.pin p (List.mem_append_right _ z)) fun z=>by
    obtain ⟨hb,e⟩:=of_pinsAt z
    obtain ⟨f0,f1,f2,_⟩:=hf p.1 hb
    obtain ⟨o,e',d⟩:=ho p.1 hb
    rw [e] at e'; cases e'
    exact ⟨e,f0,f1,f2,d⟩
theorem Inv.unpinned {pins pl:List (Addr × Obj)} {σ:St} {H:Hp} {s:Shared} (I:Inv X (pins++pl) σ H s):Inv X pins σ H s:=I.pins_of fun p hp=>I.pin p (List.mem_append_right _ (List.mem_append_left _ hp))
theorem ps_for {iter:Expr} {body:List Stmt} {wi:TI} {g:TG} {tb:TS} {pos:Pos} (hp:PassesOwn (model X.prog X.w) X.A X.env X.xe) (hc:X.calm=true) (hi:PI X tg iter wi) (hg:PG X tg g) (hb:PSs X body tb)
    (hs:∀ x,foldedSetIterable iter X.env x=pure x:=by intro _; rfl):PS X (.For tg iter body [] pos) (tFor wi g tb):=by
  intro pins s σ H D I h
  refine wpAny_For (thn (hi pins s σ H _ I h) fun v s1 h1=>thn h1 fun itv s2 h2=>?_) hs
  obtain ⟨it,fp,tn,J,H2,e,I2,T,st2,f2,W,⟨m0,w0⟩,turn⟩:=h2
  subst e
  have stat:∀ {H':Hp},(∀ b∈fp,H' b=none)→∀ b∈fp,FpOk X pins H' b:=fun hn b hb=>⟨hn b hb,(f2 b hb).2⟩
  refine codeAny_forLoop_any (fun n s'=>∃ i σ' H',Inv X pins σ' H' s'∧tn i s'.heap∧(∀ b∈fp,H' b=none)∧W i n σ' H') ?_ m0 ⟨0,σ,H2,I2,st2,fun b hb=>(f2 b hb).1,w0⟩
  rintro n s3 ⟨i,σ3,H3,I3,st3,fr3,w3⟩
  rcases turn i n σ3 H3 w3 with ⟨stop,qn⟩|⟨go,N,hN,step⟩
  · refine wpAny_passesOwn hp (thn (T.done X rfl rfl rfl hc i pins s3 σ3 H3 X.xe I3 (stat fr3) st3 stop) fun r s4 ⟨hr,I4⟩=>?_)
    subst hr
    exact wpAny_execs_nil ⟨σ3,H3,I4,qn⟩
  · refine wpAny_passesOwn hp (thn (T.item X rfl rfl rfl hc i pins s3 σ3 H3 X.xe I3 (stat fr3) st3 go) fun r s4 ⟨u,hr,h4⟩=>?_)
    subst hr
    refine wpAny_passesOwn hp (thn h4 fun _ s5 ⟨x,H5,I5,r5,y5,st5,fr5⟩=>?_)
    have I5':=I5.pinned (stat fr5) (T.obj _ _ st5)
    refine wpAny_passesOwn hp (thn (hg _ s5 σ3 H5 x u _ I5' r5 (step x H5 y5)) fun _ s6 ⟨σ6,H6,I6,q6⟩=>?_)
    refine wpAny_passesOwn hp (thn (hb _ s6 σ6 H6 _ I6 q6) fun f s7 q7=>?_)
    have again:∀ {σ7:St} {H7:Hp},Inv X (pins++pinsAt fp s5.heap) σ7 H7 s7→N σ7 H7→∃ m,m<n∧∃ i σ' H',Inv X pins σ' H' s7∧tn i s7.heap∧(∀ b∈fp,H' b=none)∧W i m σ' H':=fun {σ7 H7} I7 n7=>by
      obtain ⟨m',hm,w7⟩:=hN σ7 H7 n7
      refine ⟨m',hm,i+1,σ7,H7,I7.unpinned,T.keep _ _ _ st5 fun b hb o e=>(I7.pin (b,o) (List.mem_append_right _ (List.mem_append_right _ (mem_pinsAt hb e)))).1,fun b hb=>?_,w7⟩
      obtain ⟨o,e,d⟩:=T.obj _ _ st5 b hb
      exact (I7.pin (b,o) (List.mem_append_right _ (List.mem_append_right _ (mem_pinsAt hb e)))).2.1
    cases f with
    | next=>obtain ⟨σ7,H7,I7,n7⟩:=q7; exact again I7 n7
    | cont=>obtain ⟨σ7,H7,I7,n7⟩:=q7; exact again I7 n7
    | brk=>obtain ⟨σ7,H7,I7,q7⟩:=q7; exact ⟨σ7,H7,I7.unpinned,q7⟩
    | ret v=>obtain ⟨x7,σ7,H7,I7,r7,q7⟩:=q7; exact ⟨x7,σ7,H7,I7.unpinned,r7,q7⟩
end
theorem for_list {K:PySem.W.Frag} {a:Addr} {xs:List V} {g:TG} {tb:TS} {D:Ends} {σ:St} {H:Hp} (Pv:Nat→St→Hp→Prop) (h0:Pv 0 σ H) (hl:∀ i σ H,i≤xs.length→Pv i σ H→SqL K H a xs)
    (hs:∀ i x σ H,xs[i]?=some x→Pv i σ H→g x σ H fun σ2 H2=>tb { D with nx:=Pv (i+1),ct:=Pv (i+1),bk:=D.nx } σ2 H2) (hd:∀ σ H,Pv xs.length σ H→D.nx σ H) :
    ∃ W:Nat→Nat→St→Hp→Prop,(∃ m,W 0 m σ H)∧∀ i m σ H,W i m σ H →
      ((Itl K a).stop i H∧D.nx σ H)∨((Itl K a).go i H∧∃ N:St→Hp→Prop,(∀ σ' H',N σ' H'→∃ m',m'<m∧W (i+1) m' σ' H')∧∀ x H',(Itl K a).yld i H x H'→g x σ H' fun σ2 H2=>tb { D with nx:=N,ct:=N,bk:=D.nx } σ2 H2):=by
  refine ⟨fun i m σ H=>m=xs.length - i∧i≤xs.length∧Pv i σ H,⟨xs.length,by simp,Nat.zero_le _,h0⟩,?_⟩
  rintro i m σ H ⟨rfl,hi,p⟩
  have q:=hl i σ H hi p
  by_cases hlt:i<xs.length
  · refine .inr ⟨⟨xs,xs[i],q,by simp [hlt]⟩,Pv (i+1),fun σ' H' p'=>⟨xs.length - (i+1),by omega,rfl,hlt,p'⟩,fun x H' y=>?_⟩
    obtain ⟨e,y⟩:=y
    subst e
    exact hs i x σ _ (y xs q) p
  · have e:i=xs.length:=by omega
    subst e
    exact .inl ⟨⟨xs,q,Nat.le_refl _⟩,hd σ H p⟩
theorem for_tup {K:PySem.W.Frag} {a:Addr} {xs:List V} {g:TG} {tb:TS} {D:Ends} {σ:St} {H:Hp} (Pv:Nat→St→Hp→Prop) (h0:Pv 0 σ H) (hl:∀ i σ H,i≤xs.length→Pv i σ H→SqT K H a xs)
    (hs:∀ i x σ H,xs[i]?=some x→Pv i σ H→g x σ H fun σ2 H2=>tb { D with nx:=Pv (i+1),ct:=Pv (i+1),bk:=D.nx } σ2 H2) (hd:∀ σ H,Pv xs.length σ H→D.nx σ H) :
    ∃ W:Nat→Nat→St→Hp→Prop,(∃ m,W 0 m σ H)∧∀ i m σ H,W i m σ H →
      ((Itt K a).stop i H∧D.nx σ H)∨((Itt K a).go i H∧∃ N:St→Hp→Prop,(∀ σ' H',N σ' H'→∃ m',m'<m∧W (i+1) m' σ' H')∧∀ x H',(Itt K a).yld i H x H'→g x σ H' fun σ2 H2=>tb { D with nx:=N,ct:=N,bk:=D.nx } σ2 H2):=by
  refine ⟨fun i m σ H=>m=xs.length - i∧i≤xs.length∧Pv i σ H,⟨xs.length,by simp,Nat.zero_le _,h0⟩,?_⟩
  rintro i m σ H ⟨rfl,hi,p⟩
  have q:=hl i σ H hi p
  by_cases hlt:i<xs.length
  · refine .inr ⟨⟨xs,xs[i],q,by simp [hlt]⟩,Pv (i+1),fun σ' H' p'=>⟨xs.length - (i+1),by omega,rfl,hlt,p'⟩,fun x H' y=>?_⟩
    obtain ⟨e,y⟩:=y
    subst e
    exact hs i x σ _ (y xs q) p
  · have e:i=xs.length:=by omega
    subst e
    exact .inl ⟨⟨xs,q,Nat.le_refl _⟩,hd σ H p⟩
theorem for_range {lo:Int} {n:Nat} {g:TG} {tb:TS} {D:Ends} {σ:St} {H:Hp} (Pv:Nat→St→Hp→Prop) (h0:Pv 0 σ H)
    (hs:∀ i σ H,i<n→Pv i σ H→g (.int (lo+i)) σ H fun σ2 H2=>tb { D with nx:=Pv (i+1),ct:=Pv (i+1),bk:=D.nx } σ2 H2) (hd:∀ σ H,Pv n σ H→D.nx σ H) :
    ∃ W:Nat→Nat→St→Hp→Prop,(∃ m,W 0 m σ H)∧∀ i m σ H,W i m σ H →
      ((Itr lo n).stop i H∧D.nx σ H)∨((Itr lo n).go i H∧∃ N:St→Hp→Prop,(∀ σ' H',N σ' H'→∃ m',m'<m∧W (i+1) m' σ' H')∧∀ x H',(Itr lo n).yld i H x H'→g x σ H' fun σ2 H2=>tb { D with nx:=N,ct:=N,bk:=D.nx } σ2 H2):=by
  refine ⟨fun i m σ H=>m=n - i∧i≤n∧Pv i σ H,⟨n,by simp,Nat.zero_le _,h0⟩,?_⟩
  rintro i m σ H ⟨rfl,hi,p⟩
  by_cases hlt:i<n
  · refine .inr ⟨hlt,Pv (i+1),fun σ' H' p'=>⟨n - (i+1),by omega,rfl,hlt,p'⟩,fun x H' y=>?_⟩
    obtain ⟨e,y⟩:=y
    subst e y
    exact hs i σ _ hlt p
  · have e:i=n:=by omega
    subst e
    exact .inl ⟨Nat.le_refl _,hd σ H p⟩
theorem while_by {c:TT} {tb:TS} {D:Ends} {σ:St} {H:Hp} (Pv:St→Hp→Prop) (μ:St→Hp→Nat) (h0:Pv σ H)
    (hs:∀ σ H,Pv σ H→c σ H fun b H1=>if b=true then tb { D with nx:=fun σ' H'=>Pv σ' H'∧μ σ' H'<μ σ H,ct:=fun σ' H'=>Pv σ' H'∧μ σ' H'<μ σ H,bk:=D.nx } σ H1 else D.nx σ H1)
    (mono:∀ σ H Q Q',(∀ b H1,Q b H1→Q' b H1)→c σ H Q→c σ H Q'):tWhile c tb D σ H:=by
  refine ⟨fun m σ H=>m=μ σ H∧Pv σ H,⟨_,rfl,h0⟩,?_⟩
  rintro m σ H ⟨rfl,p⟩
  refine mono σ H _ _ (fun b H1 q=>?_) (hs σ H p)
  cases b with
  | true=>exact ⟨_,fun σ' H' ⟨p',l⟩=>⟨_,l,rfl,p'⟩,q⟩
  | false=>exact q
abbrev R2:=V→V→Hp→VK→Prop
def OpR (X:Cx) (f:Value→Value→Sem Value) (r:R2):Prop:=
  ∀ (pins:List (Addr × Obj)) (s:Shared) (σ:St) (H:Hp) (x y:V) (v u:Value) (Q:VK),Inv X pins σ H s→RelV x v→RelV y u→r x y H Q →
    wpAny (model X.prog X.w) X.A (f v u) (EP X pins σ Q) X.xe s
def UnR (X:Cx) (f:Value→Sem Value) (r:V→Hp→VK→Prop):Prop:=
  ∀ (pins:List (Addr × Obj)) (s:Shared) (σ:St) (H:Hp) (x:V) (v:Value) (Q:VK),Inv X pins σ H s→RelV x v→r x H Q →
    wpAny (model X.prog X.w) X.A (f v) (EP X pins σ Q) X.xe s
def CallR (X:Cx) (f:Value) (r:List V→Hp→VK→Prop):Prop:=
  ∀ (pins:List (Addr × Obj)) (s:Shared) (σ:St) (H:Hp) (xs:List V) (us:List Value) (Q:VK),Inv X pins σ H s→Vals xs us→r xs H Q →
    wpAny (model X.prog X.w) X.A (call f us) (EP X pins σ Q) X.xe s
def TruR (X:Cx) (r:V→Hp→(Bool→Hp→Prop)→Prop):Prop:=
  ∀ (pins:List (Addr × Obj)) (s:Shared) (σ:St) (H:Hp) (x:V) (v:Value) (Q:Bool→Hp→Prop),Inv X pins σ H s→RelV x v→r x H Q →
    wpAny (model X.prog X.w) X.A (truthy v) (TP X pins σ Q) X.xe s
def tOp (r:R2) (ta tb:TE):TE:=fun σ H Q=>ta σ H fun x H1=>tb σ H1 fun y H2=>r x y H2 Q
def tUn (r:V→Hp→VK→Prop) (ta:TE):TE:=fun σ H Q=>ta σ H fun x H1=>r x H1 Q
def rI (C:Int→Int→Prop) (g:Int→Int→V):R2:=fun x y H Q=>∃ i j,x=.int i∧y=.int j∧C i j∧Q (g i j) H
def rI0 (g:Int→Int→V):R2:=fun x y H Q=>∃ i j,x=.int i∧y=.int j∧Q (g i j) H
def rU (g:Int→V):V→Hp→VK→Prop:=fun x H Q=>∃ i,x=.int i∧Q (g i) H
section
variable {X:Cx} {a b c:Expr} {ta tb tc:TE} {pos:Pos}
theorem binT (ha:PE X a ta) (hb:PE X b tb) {pins:List (Addr × Obj)} {s:Shared} {σ:St} {H:Hp} {R:V→V→Hp→Prop} (I:Inv X pins σ H s)
    (h:ta σ H fun x H1=>tb σ H1 fun y H2=>R x y H2) {Q:Value→Shared→Prop} {f:Value→Value→Sem Value}
    (hf:∀ v u s2 x y H2,Inv X pins σ H2 s2→RelV x v→RelV y u→R x y H2→wpAny (model X.prog X.w) X.A (f v u) Q X.xe s2) :
    wpAny (model X.prog X.w) X.A (eval a X.env) (fun v s₁=>wpAny (model X.prog X.w) X.A (eval b X.env) (fun u s₂=>wpAny (model X.prog X.w) X.A (f v u) Q X.xe s₂) X.xe s₁) X.xe s:=by
  refine thn (ha pins s σ H _ I h) fun v s1 ⟨x,H1,I1,r1,q1⟩=>?_
  refine thn (hb pins s1 σ H1 _ I1 q1) fun u s2 ⟨y,H2,I2,r2,q2⟩=>?_
  exact hf v u s2 x y H2 I2 r1 r2 q2
theorem pe_op {op:Operator} {r:R2} (ho:OpR X (binaryOp op) r) (ha:PE X a ta) (hb:PE X b tb):PE X (.BinOp a op b pos) (tOp r ta tb):=by
  intro pins s σ H Q I h
  exact wpAny_BinOp (binT ha hb I h fun v u s2 x y H2 I2 rx ry q=>ho pins s2 σ H2 x y v u Q I2 rx ry q)
theorem pe_un {op:UnaryOp} {r:V→Hp→VK→Prop} (ho:UnR X (unaryOp op) r) (ha:PE X a ta):PE X (.UnaryOp op a pos) (tUn r ta):=by
  intro pins s σ H Q I h
  exact UnaryOp_ (thn (ha pins s σ H _ I h) fun v s1 ⟨x,H1,I1,r1,q1⟩=>ho pins s1 σ H1 x v Q I1 r1 q1)
theorem opI {f:Value→Value→Sem Value} {C:Int→Int→Prop} {g:Int→Int→Int}
    (rule:∀ (i j:Int) (t u:Tok) (s:Shared) (Q:Value→Shared→Prop) (E:Value→Shared→Prop),C i j→Q (.int (g i j) s.toks) { s with toks:=s.toks+1 }→wpAny (model X.prog X.w) X.A (f (.int i t) (.int j u)) Q E s) :
    OpR X f (rI C fun i j=>.int (g i j)):=by
  intro pins s σ H x y v u Q I rx ry h
  obtain ⟨i,j,rfl,rfl,hc,q⟩:=h
  obtain ⟨t,rfl⟩:=rx
  obtain ⟨t',rfl⟩:=ry
  exact rule i j t t' s _ _ hc ⟨.int (g i j),H,I.tok _,⟨_,rfl⟩,q⟩
theorem opI0 {f:Value→Value→Sem Value} {g:Int→Int→Int}
    (rule:∀ (i j:Int) (t u:Tok) (s:Shared) (Q:Value→Shared→Prop) (E:Value→Shared→Prop),Q (.int (g i j) s.toks) { s with toks:=s.toks+1 }→wpAny (model X.prog X.w) X.A (f (.int i t) (.int j u)) Q E s) :
    OpR X f (rI0 fun i j=>.int (g i j)):=by
  intro pins s σ H x y v u Q I rx ry h
  obtain ⟨i,j,rfl,rfl,q⟩:=h
  obtain ⟨t,rfl⟩:=rx
  obtain ⟨t',rfl⟩:=ry
  exact rule i j t t' s _ _ ⟨.int (g i j),H,I.tok _,⟨_,rfl⟩,q⟩
theorem opB0 {f:Value→Value→Sem Value} {g:Int→Int→Bool}
    (rule:∀ (i j:Int) (t u:Tok) (s:Shared) (Q:Value→Shared→Prop) (E:Value→Shared→Prop),Q (.bool (g i j)) s→wpAny (model X.prog X.w) X.A (f (.int i t) (.int j u)) Q E s) :
    OpR X f (rI0 fun i j=>.bl (g i j)):=by
  intro pins s σ H x y v u Q I rx ry h
  obtain ⟨i,j,rfl,rfl,q⟩:=h
  obtain ⟨t,rfl⟩:=rx
  obtain ⟨t',rfl⟩:=ry
  exact rule i j t t' s _ _ ⟨.bl (g i j),H,I,rfl,q⟩
def CDiv (i j:Int):Prop:=0<j∧j<1073741824
def CPow (i j:Int):Prop:=0≤j∧j≤1000000∧i.natAbs<2 ^ 64
def CMul (i j:Int):Prop:=(-(2 ^ 64)<i∧i<2 ^ 64)∨(-(2 ^ 64)<j∧j<2 ^ 64)
theorem CMul.ok {i j:Int} (h:CMul i j):IntMulOk i j:=by
  rcases h with ⟨h1,h2⟩|⟨h1,h2⟩
  · exact .of_left (intBits_le_64 h1 h2)
  · exact .of_right (intBits_le_64 h1 h2)
theorem two_pow_nn (k:Nat):(0:Int)≤2 ^ k:=by
  rw [two_pow_cast]
  exact Int.natCast_nonneg _
theorem op_add:OpR X (binaryOp .Add) (rI0 fun i j=>.int (i+j)):=opI0 fun _ _ _ _ _ _ _ q=>add_int q
theorem op_sub:OpR X (binaryOp .Sub) (rI0 fun i j=>.int (i - j)):=opI0 fun _ _ _ _ _ _ _ q=>sub_int q
theorem op_mul:OpR X (binaryOp .Mult) (rI CMul fun i j=>.int (i * j)):=opI fun _ _ _ _ _ _ _ hc q=>mul_int q hc.ok
theorem op_fdiv:OpR X (binaryOp .FloorDiv) (rI CDiv fun i j=>.int (i / j)):=opI fun i j _ _ _ _ _ hc q=>by
  have h1:(0:Int)<j:=hc.1
  have h2:j<1073741824:=hc.2
  exact floordiv_int (by omega) (by rw [Int.fdiv_eq_ediv_of_nonneg i (by omega)]; exact q) (.inl (PyProof.noPylong_small (by omega)))
theorem op_mod:OpR X (binaryOp .Mod) (rI (fun _ j=>0<j) fun i j=>.int (i % j)):=opI fun i j _ _ _ _ _ hc q=>by
  have h1:(0:Int)<j:=hc
  exact mod_int' (by omega) (by rw [Int.fmod_eq_emod_of_nonneg i (by omega)]; exact q)
theorem op_shl:OpR X (binaryOp .LShift) (rI CPow fun i j=>.int (i * 2 ^ j.toNat)):=opI fun _ _ _ _ _ _ _ hc q=>lshift_int_small hc.1 hc.2.1 hc.2.2 q
theorem op_shr:OpR X (binaryOp .RShift) (rI (fun _ j=>0≤j) fun i j=>.int (i / 2 ^ j.toNat)):=opI fun i j _ _ _ _ _ hc q=>
  rshift_int hc (by rw [Int.fdiv_eq_ediv_of_nonneg i (two_pow_nn _)]; exact q)
theorem unI {f:Value→Sem Value} {g:Int→Int}
    (rule:∀ (i:Int) (t:Tok) (s:Shared) (Q:Value→Shared→Prop) (E:Value→Shared→Prop),Q (.int (g i) s.toks) { s with toks:=s.toks+1 }→wpAny (model X.prog X.w) X.A (f (.int i t)) Q E s) :
    UnR X f (rU fun i=>.int (g i)):=by
  intro pins s σ H x v Q I rx h
  obtain ⟨i,rfl,q⟩:=h
  obtain ⟨t,rfl⟩:=rx
  exact rule i t s _ _ ⟨.int (g i),H,I.tok _,⟨_,rfl⟩,q⟩
theorem un_neg:UnR X (unaryOp .USub) (rU fun i=>.int (-i)):=unI fun _ _ _ _ _ q=>neg_int q
end
def scal:V→V→Bool
  | .non,.non=>true | .non,.int _=>true | .int _,.non=>true | .non,.bl _=>true | .bl _,.non=>true | .non,.str _=>true | .str _,.non=>true
  | .int _,.int _=>true | .bl _,.bl _=>true | .str _,.str _=>true | .byt _,.byt _=>true
  | .int _,.str _=>true | .str _,.int _=>true | .bl _,.str _=>true | .str _,.bl _=>true
  | _,_=>false
def rEq:R2:=fun x y H Q=>scal x y=true∧Q (.bl (decide (x=y))) H
def rNe:R2:=fun x y H Q=>scal x y=true∧Q (.bl (!decide (x=y))) H
theorem dec_int {i j:Int}:decide (V.int i=V.int j)=(i == j):=by
  rw [Bool.eq_iff_iff]
  simp
theorem dec_bl {i j:Bool}:decide (V.bl i=V.bl j)=(i == j):=by
  rw [Bool.eq_iff_iff]
  simp
theorem dec_str {i j:Str}:decide (V.str i=V.str j)=(i == j):=by
  rw [Bool.eq_iff_iff]
  simp
theorem dec_byt {i j:Array UInt8}:decide (V.byt i=V.byt j)=(i.toList == j.toList):=by
  rw [Bool.eq_iff_iff]
  cases i
  cases j
  simp
section
variable {X:Cx} {a b c:Expr} {ta tb tc:TE} {pos:Pos}
theorem fin_bl {pins:List (Addr × Obj)} {σ:St} {H:Hp} {s:Shared} {Q:VK} {k k':Bool} (I:Inv X pins σ H s) (q:Q (.bl k) H) (e:k=k'):EP X pins σ Q (.bool k') s:=by
  subst e
  exact ⟨.bl k,H,I,rfl,q⟩
theorem op_eq:OpR X (compareOp .Eq) rEq:=by
  intro pins s σ H x y v u Q I rx ry h
  obtain ⟨hs,q⟩:=h
  cases x with
  | non=>
    cases rx
    cases y with
    | non=>cases ry; exact PySem.EqNone.eq_none_none (fin_bl I q (by simp))
    | bl j=>cases ry; exact PySem.EqNone.eq_none_bool (fin_bl I q (by simp))
    | int j=>obtain ⟨t',rfl⟩:=ry; exact PySem.EqNone.eq_none_int (fin_bl I q (by simp))
    | str j=>obtain ⟨t',rfl⟩:=ry; exact PySem.EqNone.eq_none_str (fin_bl I q (by simp))
    | _=>exact absurd (show false=true from hs) Bool.false_ne_true
  | bl i=>
    cases rx
    cases y with
    | non=>cases ry; exact PySem.EqNone.eq_bool_none (fin_bl I q (by simp))
    | bl j=>cases ry; exact eq_bool (fin_bl I q dec_bl)
    | str j=>obtain ⟨t',rfl⟩:=ry; exact PySem.EqMixed.eq_bool_str (fin_bl I q (by simp))
    | _=>exact absurd (show false=true from hs) Bool.false_ne_true
  | int i=>
    obtain ⟨t,rfl⟩:=rx
    cases y with
    | non=>cases ry; exact PySem.EqNone.eq_int_none (fin_bl I q (by simp))
    | int j=>obtain ⟨t',rfl⟩:=ry; exact eq_int (fin_bl I q dec_int)
    | str j=>obtain ⟨t',rfl⟩:=ry; exact PySem.EqMixed.eq_int_str (fin_bl I q (by simp))
    | _=>exact absurd (show false=true from hs) Bool.false_ne_true
  | str i=>
    obtain ⟨t,rfl⟩:=rx
    cases y with
    | non=>cases ry; exact PySem.EqNone.eq_str_none (fin_bl I q (by simp))
    | bl j=>cases ry; exact PySem.EqMixed.eq_str_bool (fin_bl I q (by simp))
    | int j=>obtain ⟨t',rfl⟩:=ry; exact PySem.EqMixed.eq_str_int (fin_bl I q (by simp))
    | str j=>obtain ⟨t',rfl⟩:=ry; exact eq_str (fin_bl I q dec_str)
    | _=>exact absurd (show false=true from hs) Bool.false_ne_true
  | byt i=>
    obtain ⟨t,rfl⟩:=rx
    cases y with
    | byt j=>obtain ⟨t',rfl⟩:=ry; exact PySem.W.eq_bytes (fin_bl I q dec_byt)
    | _=>exact absurd (show false=true from hs) Bool.false_ne_true
  | _=>cases y <;> exact absurd (show false=true from hs) Bool.false_ne_true
theorem op_ne:OpR X (compareOp .NotEq) rNe:=by
  intro pins s σ H x y v u Q I rx ry h
  obtain ⟨hs,q⟩:=h
  cases x with
  | non=>
    cases rx
    cases y with
    | non=>cases ry; exact PySem.EqNone.ne_none_none (fin_bl I q (by simp))
    | bl j=>cases ry; exact PySem.EqNone.ne_none_bool (fin_bl I q (by simp))
    | int j=>obtain ⟨t',rfl⟩:=ry; exact PySem.EqNone.ne_none_int (fin_bl I q (by simp))
    | str j=>obtain ⟨t',rfl⟩:=ry; exact PySem.EqNone.ne_none_str (fin_bl I q (by simp))
    | _=>exact absurd (show false=true from hs) Bool.false_ne_true
  | bl i=>
    cases rx
    cases y with
    | non=>cases ry; exact PySem.EqNone.ne_bool_none (fin_bl I q (by simp))
    | bl j=>cases ry; exact ne_bool (fin_bl I q (congrArg not dec_bl))
    | str j=>obtain ⟨t',rfl⟩:=ry; exact PySem.EqMixed.ne_bool_str (fin_bl I q (by simp))
    | _=>exact absurd (show false=true from hs) Bool.false_ne_true
  | int i=>
    obtain ⟨t,rfl⟩:=rx
    cases y with
    | non=>cases ry; exact PySem.EqNone.ne_int_none (fin_bl I q (by simp))
    | int j=>obtain ⟨t',rfl⟩:=ry; exact ne_int (fin_bl I q (congrArg not dec_int))
    | str j=>obtain ⟨t',rfl⟩:=ry; exact PySem.EqMixed.ne_int_str (fin_bl I q (by simp))
    | _=>exact absurd (show false=true from hs) Bool.false_ne_true
  | str i=>
    obtain ⟨t,rfl⟩:=rx
    cases y with
    | non=>cases ry; exact PySem.EqNone.ne_str_none (fin_bl I q (by simp))
    | bl j=>cases ry; exact PySem.EqMixed.ne_str_bool (fin_bl I q (by simp))
    | int j=>obtain ⟨t',rfl⟩:=ry; exact PySem.EqMixed.ne_str_int (fin_bl I q (by simp))
    | str j=>obtain ⟨t',rfl⟩:=ry; exact ne_str (fin_bl I q (congrArg not dec_str))
    | _=>exact absurd (show false=true from hs) Bool.false_ne_true
  | byt i=>
    obtain ⟨t,rfl⟩:=rx
    cases y with
    | byt j=>obtain ⟨t',rfl⟩:=ry; exact PySem.W.ne_bytes (fin_bl I q (congrArg not dec_byt))
    | _=>exact absurd (show false=true from hs) Bool.false_ne_true
  | _=>cases y <;> exact absurd (show false=true from hs) Bool.false_ne_true
theorem op_lt:OpR X (compareOp .Lt) (rI0 fun i j=>.bl (decide (i<j))):=opB0 fun _ _ _ _ _ _ _ q=>lt_int q
theorem op_gt:OpR X (compareOp .Gt) (rI0 fun i j=>.bl (decide (j<i))):=opB0 fun _ _ _ _ _ _ _ q=>gt_int q
theorem op_ge:OpR X (compareOp .GtE) (rI0 fun i j=>.bl (decide (j≤i))):=opB0 fun _ _ _ _ _ _ _ q=>ge_int q
theorem op_isN:OpR X (compareOp .Is) (fun x y H Q=>y=.non∧Q (.bl (decide (x=.non))) H):=by
  intro pins s σ H x y v u Q I rx ry h
  obtain ⟨rfl,q⟩:=h
  cases ry
  refine is_none_gen (fin_bl I q ?_)
  cases x <;> first
    | (cases rx; rfl)
    | (obtain ⟨t,rfl⟩:=rx; rfl)
theorem op_notN:OpR X (compareOp .IsNot) (fun x y H Q=>y=.non∧Q (.bl (!decide (x=.non))) H):=by
  intro pins s σ H x y v u Q I rx ry h
  obtain ⟨rfl,q⟩:=h
  cases ry
  refine isnot_none_gen (fin_bl I q ?_)
  cases x <;> first
    | (cases rx; rfl)
    | (obtain ⟨t,rfl⟩:=rx; rfl)
theorem nomark (b:Expr) {op:CmpOp} (h:op≠.In:=by decide) (h2:op≠.NotIn:=by decide):behindInMarks op b=false:=by
  have e1:(op == CmpOp.In)=false:=by cases op <;> first|rfl|exact absurd rfl h
  have e2:(op == CmpOp.NotIn)=false:=by cases op <;> first|rfl|exact absurd rfl h2
  cases b <;> simp [behindInMarks,e1,e2]
theorem pe_cmpR {op:CmpOp} {r:R2} (ho:OpR X (compareOp op) r) (ha:PE X a ta) (hb:PE X b tb) (hm:behindInMarks op b=false):PE X (.Compare a [op] [b] pos) (tOp r ta tb):=by
  intro pins s σ H Q I h
  exact wpAny_Compare1 (binT ha hb I h fun v u s2 x y H2 I2 rx ry q=>ho pins s2 σ H2 x y v u Q I2 rx ry q) hm
def tTest (t:TE):TT:=fun σ H Q=>t σ H fun x H'=>∃ k,x=.bl k∧Q k H'
theorem pt_cmpR {op:CmpOp} {r:R2} (ho:OpR X (compareOp op) r) (ha:PE X a ta) (hb:PE X b tb) (hm:behindInMarks op b=false):PT X (.Compare a [op] [b] pos) (tTest (tOp r ta tb)):=by
  intro pins s σ H Q I h
  refine wpAny_isTrue_Compare1 (thn (ha pins s σ H _ I h) fun v s1 ⟨x,H1,I1,r1,q1⟩=>thn (hb pins s1 σ H1 _ I1 q1) fun u s2 ⟨y,H2,I2,r2,q2⟩=>
    thn (ho pins s2 σ H2 x y v u _ I2 r1 r2 q2) fun c s3 ⟨z,H3,I3,r3,k,e,q3⟩=>?_) hm
  subst e
  cases r3
  exact wpAny_truthy_bool ⟨H3,I3,q3⟩
def tChain (r r':R2) (ta tb tc:TE):TE:=fun σ H Q=>ta σ H fun x H1=>tb σ H1 fun y H2=>r x y H2 fun z H3=>∃ k,z=.bl k ∧
  (if k=true then tc σ H3 fun w' H4=>r' y w' H4 Q else Q (.bl false) H3)
def TruV (K:PySem.W.Frag) (x:V) (H:Hp) (k:Bool):Prop:=
  match x with
  | .non=>k=false
  | .bl b=>k=b
  | .int i=>k=(i != 0)
  | .str y=>y.length≤sizeLine∧k=((y.length:Int) != 0)
  | .byt y=>y.size≤sizeLine∧k=((y.size:Int) != 0)
  | .ref p=>(∃ xs,SqL K H p xs∧k=!xs.isEmpty)∨(∃ xs,SqT K H p xs∧k=!xs.isEmpty)∨∃ kvs,H p=some (.dK kvs)∧k=!kvs.isEmpty
  | _=>False
theorem isEmpty_kv {κ:Type} {kvs:List (κ × V)} {vs:List (κ × Value)} (r:KV kvs vs):(!vs.isEmpty)=!kvs.isEmpty:=by
  cases r <;> rfl
theorem isEmpty_of {xs:List V} {its:List Value} (r:Vals xs its):(!its.toArray.isEmpty)=!xs.isEmpty:=by
  cases r <;> simp
theorem line63:(sizeLine:Nat)<2 ^ 63:=by rw [sizeLine_eq]; decide
theorem tru_ok:TruR X (fun x H Q=>∃ k,TruV X.K x H k∧Q k H):=by
  intro pins s σ H x v Q I rx h
  obtain ⟨k,e,q⟩:=h
  have hl:=line63
  have hs:sizeLine=16777216:=sizeLine_eq
  cases x with
  | non=>
    cases rx
    have e':k=false:=e
    subst e'
    exact truthy_none ⟨H,I,q⟩
  | bl b=>
    cases rx
    have e':k=b:=e
    subst e'
    exact wpAny_truthy_bool ⟨H,I,q⟩
  | int i=>
    obtain ⟨t,rfl⟩:=rx
    have e':k=(i != 0):=e
    subst e'
    exact PySem.P.truthy_int ⟨H,I,q⟩
  | str y=>
    obtain ⟨t,rfl⟩:=rx
    obtain ⟨hy,e'⟩:y.length≤sizeLine∧k=((y.length:Int) != 0):=e
    subst e'
    exact PySem.P.truthy_str (by omega) ⟨H,I.tok _,q⟩
  | byt y=>
    obtain ⟨t,rfl⟩:=rx
    obtain ⟨hy,e'⟩:y.size≤sizeLine∧k=((y.size:Int) != 0):=e
    subst e'
    exact PySem.W.truthy_bytes (by omega) ⟨H,I.tok _,q⟩
  | ref p=>
    cases rx
    have e':(∃ xs,SqL X.K H p xs∧k=!xs.isEmpty)∨(∃ xs,SqT X.K H p xs∧k=!xs.isEmpty)∨∃ kvs,H p=some (.dK kvs)∧k=!kvs.isEmpty:=e
    rcases e' with ⟨xs,hx,e'⟩|⟨xs,hx,e'⟩|⟨kvs,hx,e'⟩
    · subst e'
      obtain ⟨its,r,pl,hz⟩:=I.list hx
      have hlen:=r.length
      exact wpAny_truthy_list pl.isList (by simp only [List.size_toArray]; omega) ⟨H,I.tok _,by rw [isEmpty_of r]; exact q⟩
    · subst e'
      obtain ⟨its,r,pl,hz⟩:=I.tuple hx
      have hlen:=r.length
      exact truthy_tuple pl (by simp only [List.size_toArray]; omega) ⟨H,I.tok _,by rw [isEmpty_of r]; exact q⟩
    · subst e'
      obtain ⟨hz,hS,vs,r,m⟩:kvs.length≤sizeLine∧(p == sysModules)=false∧∃ vs,KV kvs vs∧s.heap.DictOf (mixKind X.prog X.w) p vs:=I.hok p _ hx
      have hlen:kvs.length=vs.length:=Paired.length r
      exact wpAny_truthy_dict hS m (by omega) ⟨H,I.tok _,by rw [isEmpty_kv r]; exact q⟩
  | _=>exact (show False from e).elim
theorem vals1 {x:V} {us:List Value} (r:Vals [x] us):∃ u,us=[u]∧RelV x u:=by
  cases r with
  | cons r1 r2=>cases r2; exact ⟨_,rfl,r1⟩
theorem vals2 {x y:V} {us:List Value} (r:Vals [x,y] us):∃ u w',us=[u,w']∧RelV x u∧RelV y w':=by
  cases r with
  | cons r1 r2=>
    cases r2 with
    | cons r3 r4=>cases r4; exact ⟨_,_,rfl,r1,r3⟩
theorem call_max2 (hc:X.calm=true):CallR X (.builtin "max") (fun xs H Q=>∃ i j,xs=[.int i,.int j]∧Q (.int (if j > i then j else i)) H):=by
  intro pins s σ H xs us Q I r h
  obtain ⟨i,j,rfl,q⟩:=h
  obtain ⟨u,w',rfl,⟨t,rfl⟩,⟨t',rfl⟩⟩:=vals2 r
  refine max_two_ints (I.ok.hd hc) fun h' tk k=>⟨_,H,I.kept k,?_,q⟩
  by_cases hj:j > i
  · rw [if_pos hj,if_pos hj]; exact ⟨_,rfl⟩
  · rw [if_neg hj,if_neg hj]; exact ⟨_,rfl⟩
theorem call_min2 (hc:X.calm=true):CallR X (.builtin "min") (fun xs H Q=>∃ i j,xs=[.int i,.int j]∧Q (.int (if j<i then j else i)) H):=by
  intro pins s σ H xs us Q I r h
  obtain ⟨i,j,rfl,q⟩:=h
  obtain ⟨u,w',rfl,⟨t,rfl⟩,⟨t',rfl⟩⟩:=vals2 r
  refine min_two_ints (I.ok.hd hc) fun h' tk k=>⟨_,H,I.kept k,?_,q⟩
  by_cases hj:j<i
  · rw [if_pos hj,if_pos hj]; exact ⟨_,rfl⟩
  · rw [if_neg hj,if_neg hj]; exact ⟨_,rfl⟩
end
structure ObjM (h:Heap) (x dx C:Addr) (mA:Str→Option Value):Prop where
  obj:h.get? x=some (PySem.W.instObj C dx)
  ns:h.Ns1 dx mA
  ne:dx≠x
theorem lookIn_ns {h:Heap} {dx:Addr} {mA:Str→Option Value} (n:h.Ns1 dx mA):∃ od,h.get? dx=some od∧∀ name,PySem.W.lookIn name od=some (mA name):=by
  obtain ⟨o,es,ep,ho,hd,hk,_,hm⟩:=n
  refine ⟨o,ho,fun name=>?_⟩
  have e:=hm name
  unfold nsFind findBy at e
  rw [← Array.find?_toList] at e
  unfold PySem.W.lookIn
  rw [hd]
  dsimp only
  split
  · rename_i y q
    rw [q] at e
    exact congrArg some e
  · rename_i q
    rw [q] at e
    have a:es.toList.any (·.refKey)=false:=by
      rw [List.any_eq_false]
      intro y hy
      obtain ⟨z,t,hkey⟩:=hk y (Array.mem_toList_iff.mp hy)
      simp [DictEntry.refKey,hkey]
    have a':¬ es.toList.any (·.refKey)=true:=by rw [a]; exact Bool.false_ne_true
    rw [if_neg a']
    exact congrArg some e
theorem ObjM.look {h:Heap} {x dx C:Addr} {mA:Str→Option Value} (I:ObjM h x dx C mA):∃ od,PySem.W.InstAt h x (PySem.W.instObj C dx) C (some od)∧∀ name,PySem.W.lookIn name od=some (mA name):=
  let ⟨od,ho,hl⟩:=lookIn_ns I.ns
  ⟨od,⟨I.obj,rfl,rfl,ho⟩,hl⟩
section
variable {prog:Program} {w:World} {A:Around} {E:Value→Shared→Prop} {s:Shared} {K:PySem.W.Frag} {x dx C f:Addr} {mA:Str→Option Value} {name:Str} {v:Value}
theorem get_map {expr:Bool} {Q:Value→Shared→Prop} (X:K.In s.heap) (I:ObjM s.heap x dx C mA) (hg:PySem.W.plainGet K C name=true) (hh:PySem.W.hasDictIn K C=true)
    (ha:PySem.W.findIn K (.ref C) name=some none) (hv:mA name=some v) (hv':PySem.W.handedIn v=true) (h:Q v { s with toks:=s.toks+1 }) :
    wpAny (model prog w) A (getAttr (.ref x) name expr) Q E s:=by
  obtain ⟨od,J,hl⟩:=I.look
  exact PySem.W.get_value X J (PySem.W.plainGet_of hg).1 (PySem.W.findObj_own hh ha rfl (by rw [hl,hv])) hv' h
theorem get_meth {pl:Sem Bool} {Q:Value × List Value→Shared→Prop} (X:K.In s.heap) (I:ObjM s.heap x dx C mA) (hg:PySem.W.plainGet K C name=true)
    (hf:PySem.W.findIn K (.ref C) name=some (some (.ref f))) (ht:PySem.W.isFn K (.ref f)=true) (hv:mA name=none) (h:Q (.ref f,[.ref x]) s) :
    wpAny (model prog w) A (getMethod (.ref x) name pl) Q E s:=by
  obtain ⟨od,J,hl⟩:=I.look
  exact PySem.W.method_fn X J (PySem.W.plainGet_of hg).1 (PySem.W.plainGet_of hg).2 hf (beq_iff_eq.mp ht) (by show (PySem.W.lookIn name od).map (·.isSome)=some false; rw [hl,hv]; rfl) h
theorem set_map {ns:List Str} {Q:Unit→Shared→Prop} (X:K.In s.heap) (I:ObjM s.heap x dx C mA)
    (hs:PySem.W.findIn K (.ref C) "__setattr__"=some (some (.builtin "object.__setattr__"))) (hp:PySem.W.plainOver K C=true) (ht:PySem.W.takerIn K C name=some none) (hh:PySem.W.hasDictIn K C=true)
    (hw:PySem.Within mA ns) (hsz:ns.length≤sizeLine)
    (h:∀ h',ObjM h' x dx C (fun y=>if y=name then some v else mA y)→Heap.SameBut dx s.heap h'→Q () { s with heap:=h',toks:=s.toks+2 }) :
    wpAny (model prog w) A (setAttr (.ref x) name v) Q E s:=by
  obtain ⟨od,J,hl⟩:=I.look
  refine PySem.W.set_plain X J hs (PySem.W.osa_open (s:={ s with toks:=s.toks+1 }) (r:=none) X J hp ht fun b=>?_)
  obtain ⟨cd,hc,hd'⟩:=PySem.W.any_some hh
  have hx:s.heap.get? x=some ⟨.ref C,some dx,.plain,#[]⟩:=I.obj
  refine wpAny_bind (wpAny_pure (wpAny_bind (wpAny_bind (wpAny_loadPart hx (wpAny_bind (PySem.W.Looks.here (s:={ s with toks:=s.toks+1 }) (PySem.W.looks_clsIn X hc) ?_))))))
  rw [hd']
  refine wpAny_pure (a:=some dx) (wpAny_bind (wpAny_pure (wpAny_bind ?_)))
  refine wpAny_nsSet1 (s:={ s with toks:=s.toks+1 }) I.ns fun h' hn2 hs2=>?_
  obtain ⟨oD,esD,epD,hoD,hdD,hcD⟩:=hn2.count (PySem.Within.cons name v hw)
  refine wpAny_bind (wpAny_lookBehind hoD (by rw [hdD]; exact pastItsLine_dict (Nat.le_trans hcD (by rw [lZ1]; omega))) ?_)
  exact wpAny_pure (h _ ⟨(hs2.2 _ (Ne.symm I.ne)).trans I.obj,hn2,I.ne⟩ hs2)
theorem make_map {R:Result→Shared→Prop} {vs:List Value} {kw:List (Str × Value)} (X:K.In s.heap) (hm:PySem.W.makesIn K C=true)
    (hi:PySem.W.findIn K (.ref C) "__init__"=some (some (.ref f))) (hf:PySem.W.typeIn K (.ref f)=some (.type "function"))
    (h:codeAny (model prog w) (A.under (.builtin "type.__call__" ⟨.ref C::vs,kw⟩)) (.call (.ref f) ⟨.ref (s.heap.objs.size+1)::vs,kw⟩) (PySem.W.InitBack (s.heap.objs.size+1) R)
      { s with heap:=(s.heap.push PySem.W.emptyDict).push (PySem.W.instObj C s.heap.objs.size) }) :
    codeAny (model prog w) A (.call (.ref C) ⟨vs,kw⟩) R s:=by
  obtain ⟨hh,g,d,t,os⟩:=s
  exact PySem.W.make_core (PySem.W.makes_of X hm) (PySem.W.looks_findIn X hi) (fun self=>PySem.W.bind_fn X self hf) (.inl rfl) h
end
def putF (f:Str) (v:V):List (Str × V)→List (Str × V)
  | []=>[(f,v)]
  | (g,x)::r=>if g=f then (g,v)::r else (g,x)::putF f v r
theorem lookup_putF (f g:Str) (v:V):∀ fs:List (Str × V),(putF f v fs).lookup g=if g=f then some v else fs.lookup g
  | []=>by
    show List.lookup g [(f,v)]=_
    by_cases h:g=f
    · have hb:(g == f)=true:=beq_iff_eq.mpr h
      simp only [List.lookup,hb,if_pos h]
    · have hb:(g == f)=false:=beq_eq_false_iff_ne.mpr h
      simp only [List.lookup,hb,if_neg h]
  | (k,x)::r=>by
    have ih:=lookup_putF f g v r
    rw [show putF f v ((k,x)::r)=(if k=f then (k,v)::r else (k,x)::putF f v r) from rfl]
    by_cases hk:k=f
    · rw [if_pos hk]
      by_cases h:g=k
      · have hb:(g == k)=true:=beq_iff_eq.mpr h
        simp only [List.lookup,hb,if_pos (h.trans hk)]
      · have hb:(g == k)=false:=beq_eq_false_iff_ne.mpr h
        simp only [List.lookup,hb,if_neg (fun e:g=f=>h (e.trans hk.symm))]
    · rw [if_neg hk]
      by_cases h:g=k
      · have hb:(g == k)=true:=beq_iff_eq.mpr h
        simp only [List.lookup,hb,if_neg (fun e:g=f=>hk (h.symm.trans e))]
      · have hb:(g == k)=false:=beq_eq_false_iff_ne.mpr h
        simp only [List.lookup,hb]
        exact ih
theorem keys_putF (f:Str) (v:V):∀ fs:List (Str × V),f∈(putF f v fs).map (·.1)∧∀ g,g∈fs.map (·.1)→g∈(putF f v fs).map (·.1)
  | []=>⟨by simp [putF],fun g h=>by simp at h⟩
  | (k,x)::r=>by
    obtain ⟨i1,i2⟩:=keys_putF f v r
    rw [show putF f v ((k,x)::r)=(if k=f then (k,v)::r else (k,x)::putF f v r) from rfl]
    by_cases hk:k=f
    · rw [if_pos hk]
      subst hk
      exact ⟨by simp,fun g h=>by simpa using h⟩
    · rw [if_neg hk]
      refine ⟨?_,fun g h=>?_⟩
      · rw [mZ1]
        exact List.mem_cons_of_mem _ i1
      · rw [mZ1] at h ⊢
        rcases List.mem_cons.mp h with e|e
        · exact List.mem_cons.mpr (.inl e)
        · exact List.mem_cons_of_mem _ (i2 g e)
theorem length_putF (f:Str) (v:V):∀ fs:List (Str × V),(putF f v fs).length≤fs.length+1
  | []=>by simp [putF]
  | (k,x)::r=>by
    have ih:=length_putF f v r
    rw [show putF f v ((k,x)::r)=(if k=f then (k,v)::r else (k,x)::putF f v r) from rfl]
    by_cases hk:k=f
    · rw [if_pos hk,lZ1,lZ1]; omega
    · rw [if_neg hk,lZ1,lZ1]; omega
theorem RelO.some_of {v:V} {o:Option Value} (r:RelO (some v) o):∃ u,o=some u∧RelV v u:=by
  cases o with
  | none=>exact (show False from r).elim
  | some u=>exact ⟨u,rfl,r⟩
theorem RelO.none_of {o:Option Value} (r:RelO none o):o=none:=by
  cases o with
  | none=>rfl
  | some u=>exact (show False from r).elim
theorem handed_of {v:V} {u:Value} (r:RelV v u):PySem.W.handedIn u=true:=by
  cases v with
  | non=>cases (show u=Value.none from r); rfl
  | bl b=>cases (show u=Value.bool b from r); rfl
  | int i=>obtain ⟨t,e⟩:=(show ∃ t,u=Value.int i t from r); cases e; rfl
  | str x=>obtain ⟨t,e⟩:=(show ∃ t,u=Value.str x t from r); cases e; rfl
  | byt b=>obtain ⟨t,e⟩:=(show ∃ t,u=Value.bytes b t from r); cases e; rfl
  | flt b=>obtain ⟨t,e⟩:=(show ∃ t,u=Value.float b t from r); cases e; rfl
  | ref a=>cases (show u=Value.ref a from r); rfl
  | ty n=>cases (show u=Value.type n from r); rfl
section
variable {P:Program} {w:World} {H H':Hp} {h h':Heap} {a C dx:Addr} {fs fs':List (Str × V)}
theorem ins_get (hok:HOk P w H h) (e:H a=some (.ins C dx fs)):∃ mA,ObjM h a dx C mA∧(∀ f,RelO (fs.lookup f) (mA f))∧PySem.Within mA (fs.map (·.1))∧fs.length≤1000∧H dx=some (.own a):=by
  obtain ⟨d,z,ne,ob,mA,n,r,q⟩:=(show ObjOk P w H h a (.ins C dx fs) from hok a _ e)
  exact ⟨mA,⟨ob,n,ne⟩,r,q,z,d⟩
end
structure Cls (K:PySem.W.Frag) (C:Addr):Prop where
  pg:PySem.W.plainGet K C Str.empty=true
  hd:PySem.W.hasDictIn K C=true
  po:PySem.W.plainOver K C=true
  sa:PySem.W.findIn K (.ref C) "__setattr__"=some (some (.builtin "object.__setattr__"))
theorem Cls.get {K:PySem.W.Frag} {C:Addr} (c:Cls K C) (f:Str):PySem.W.plainGet K C f=true:=c.pg
def NoAttr (K:PySem.W.Frag) (C:Addr) (f:Str):Prop:=PySem.W.findIn K (.ref C) f=some none
theorem NoAttr.taker {K:PySem.W.Frag} {C:Addr} {f:Str} (n:NoAttr K C f):PySem.W.takerIn K C f=some none:=by
  unfold PySem.W.takerIn
  rw [show PySem.W.findIn K (.ref C) f=some none from n]
  rfl
structure Con (K:PySem.W.Frag) (C:Addr) (f:Str) (v:V) (u:Value):Prop where
  at_:PySem.W.findIn K (.ref C) f=some (some u)
  rel:RelV v u
  get:PySem.W.specialIn K u "__get__"=some none
  cp:PySem.W.copiedNames.contains f=false
structure Meth (K:PySem.W.Frag) (C:Addr) (m:Str) (f:Addr):Prop where
  at_:PySem.W.findIn K (.ref C) m=some (some (.ref f))
  fn:PySem.W.isFn K (.ref f)=true
  kp:PySem.W.keepIn K (.ref f)=true
section
variable {X:Cx} {pins:List (Addr × Obj)} {σ:St} {H:Hp} {s:Shared} {a C dx:Addr} {fs:List (Str × V)} {f:Str} {v:V} {A:Around} {E:Value→Shared→Prop}
theorem getattr_ok {b:Bool} {Q:Value→Shared→Prop} (I:Inv X pins σ H s) (e:H a=some (.ins C dx fs)) (c:Cls X.K C) (n:NoAttr X.K C f) (l:fs.lookup f=some v)
    (h:∀ u s',Inv X pins σ H s'→RelV v u→Q u s'):wpAny (model X.prog X.w) A (getAttr (.ref a) f b) Q E s:=by
  obtain ⟨mA,O,r,_,_,_⟩:=ins_get I.hok e
  obtain ⟨u,hu,ru⟩:=RelO.some_of (v:=v) (o:=mA f) (by rw [← l]; exact r f)
  exact get_map I.kIn O (c.get f) c.hd n hu (handed_of ru) (h u _ (I.tok _) ru)
theorem getmeth_ok {m:Str} {g:Addr} {pl:Sem Bool} {Q:Value × List Value→Shared→Prop} (I:Inv X pins σ H s) (e:H a=some (.ins C dx fs)) (c:Cls X.K C) (k:Meth X.K C m g) (l:fs.lookup m=none)
    (h:Q (.ref g,[.ref a]) s):wpAny (model X.prog X.w) A (getMethod (.ref a) m pl) Q E s:=by
  obtain ⟨mA,O,r,_,_,_⟩:=ins_get I.hok e
  have hn:mA m=none:=RelO.none_of (by rw [← l]; exact r m)
  exact get_meth I.kIn O (c.get m) k.at_ k.fn hn h
theorem setattr_ok {y:V} {u:Value} {Q:Unit→Shared→Prop} (I:Inv X pins σ H s) (e:H a=some (.ins C dx fs)) (c:Cls X.K C) (n:NoAttr X.K C f) (hl:fs.length<1000) (ry:RelV y u)
    (h:∀ s',Inv X pins σ (upd H a (.ins C dx (putF f y fs))) s'→Q () s'):wpAny (model X.prog X.w) A (setAttr (.ref a) f u) Q E s:=by
  obtain ⟨mA,O,r,wi,_,ho⟩:=ins_get I.hok e
  have hz:(fs.map (·.1)).length≤sizeLine:=by rw [List.length_map,sizeLine_eq]; omega
  refine set_map I.kIn O c.sa c.po n.taker c.hd wi hz fun h' O' sb=>h _ ?_
  have hd:∃ o,h'.get? dx=some o:=let ⟨o,_,_,e',_⟩:=O'.ns; ⟨o,e'⟩
  refine I.write (x:=a) (e:=dx) (by rw [e]; exact True.intro) (.inr ho) (fun b q hb z=>(sb.2 b hb).trans z) hd ?_
  refine ⟨by rw [upd_ne O.ne]; exact ho,?_,O.ne,O'.obj,_,O'.ns,fun g=>?_,fun g hg=>?_⟩
  · have:=length_putF f y fs; omega
  · show RelO ((putF f y fs).lookup g) (if g=f then some u else mA g)
    rw [lookup_putF]
    by_cases q:g=f
    · rw [if_pos q,if_pos q]; exact ry
    · rw [if_neg q,if_neg q]; exact r g
  · by_cases q:g=f
    · rw [q]; exact (keys_putF f y fs).1
    · refine (keys_putF f y fs).2 g (wi g fun z=>hg ?_)
      show (if g=f then some u else mA g)=none
      rw [if_neg q]; exact z
theorem Inv.made (I:Inv X pins σ H s):Inv X pins σ (upd (upd H s.heap.objs.size (.own (s.heap.objs.size+1))) (s.heap.objs.size+1) (.ins C s.heap.objs.size []))
    { s with heap:=(s.heap.push PySem.W.emptyDict).push (PySem.W.instObj C s.heap.objs.size) }:=by
  have e1:(s.heap.push PySem.W.emptyDict).get? s.heap.objs.size=some PySem.W.emptyDict:=Heap.get?_push_size s.heap rfl
  have e2:((s.heap.push PySem.W.emptyDict).push (PySem.W.instObj C s.heap.objs.size)).get? (s.heap.objs.size+1)=some (PySem.W.instObj C s.heap.objs.size):=by
    have:=Heap.get?_push_size (s.heap.push PySem.W.emptyDict) (o:=PySem.W.instObj C s.heap.objs.size) rfl
    rwa [Heap.size_push] at this
  have e3:(s.heap.push PySem.W.emptyDict).Ns s.heap.objs.size (fun _=>none):=⟨PySem.W.emptyDict,#[],_,e1,rfl,(fun e he=>absurd he (by simp)),fun _=>rfl⟩
  have I1:=I.laid (a:=s.heap.objs.size) (o:=.own (s.heap.objs.size+1)) (h':=s.heap.push PySem.W.emptyDict) (t':=s.toks) (fun b u q=>Heap.get?_push_of_some _ q) (Nat.le_refl _) ⟨_,e1⟩
  refine I1.laid (a:=s.heap.objs.size+1) (o:=.ins C s.heap.objs.size []) (t':=s.toks) (fun b u q=>Heap.get?_push_of_some _ q) (Nat.le_of_eq (Heap.size_push _ _)) ?_
  have ne:s.heap.objs.size≠s.heap.objs.size+1:=Nat.ne_of_lt (Nat.lt_succ_self _)
  refine ⟨by rw [upd_ne ne,upd_same],Nat.zero_le _,ne,e2,fun _=>none,(Heap.Ns1.of_empty e3).at fun o q=>Heap.get?_push_of_some _ q,fun _=>True.intro,fun y hy=>absurd rfl hy⟩
theorem attr_of {prog:Program} {w:World} {env:Env} {e:Expr} {f:Str} {pos:Pos} {s:Shared} {Q:Value→Shared→Prop} (hb:attributeBase e f env (eval e env)=eval e env)
    (h:wpAny (model prog w) A (eval e env) (fun o s₁=>wpAny (model prog w) A (getAttr o f true) Q E s₁) E s):wpAny (model prog w) A (eval (.Attribute e f pos) env) Q E s:=
  Attribute_any_ h (by rw [arm_eval_Attribute,hb])
end
def tFld (K:PySem.W.Frag) (ta:TE) (f:Str):TE:=fun σ H Q=>ta σ H fun x H1=>∃ a C dx fs v,x=.ref a∧H1 a=some (.ins C dx fs)∧Cls K C∧NoAttr K C f∧fs.lookup f=some v∧Q v H1
def sFld (K:PySem.W.Frag) (ta tv:TE) (f:Str):TS:=fun D σ H=>tv σ H fun y H1=>ta σ H1 fun x H2=>∃ a C dx fs,x=.ref a∧H2 a=some (.ins C dx fs)∧Cls K C∧NoAttr K C f∧fs.length<1000 ∧
  D.nx σ (upd H2 a (.ins C dx (putF f y fs)))
section
variable {X:Cx} {o e value:Expr} {f:Str} {pos pos' tpos:Pos} {ta tv:TE}
theorem pe_fld (he:PE X e ta) (hb:attributeBase e f X.env (eval e X.env)=eval e X.env):PE X (.Attribute e f pos) (tFld X.K ta f):=by
  intro pins s σ H Q I h
  refine attr_of hb (thn (he pins s σ H _ I h) fun u s1 ⟨x,H1,I1,rx,a,C,dx,fs,v,ex,ea,c,n,l,q⟩=>?_)
  subst ex
  obtain rfl:u=Value.ref a:=rx
  exact getattr_ok I1 ea c n l fun u' s2 I2 ru=>⟨v,H1,I2,ru,q⟩
theorem ps_fld (ha:PE X o ta) (hv:PE X value tv) (hs:swapsWith value (some (.Attribute o f pos')) pos.line X.env=pure false):PS X (.Assign [.Attribute o f pos'] value pos) (sFld X.K ta tv f):=by
  intro pins s σ H D I h
  refine plainObj_wpAny_Assign_Attribute (thn (hv pins s σ H _ I h) fun u s1 ⟨y,H1,I1,ry,q⟩=>thn (ha pins s1 σ H1 _ I1 q) fun ov s2 ⟨x,H2,I2,rx,a,C,dx,fs,ex,ea,c,n,l,q2⟩=>?_) hs
  subst ex
  obtain rfl:ov=Value.ref a:=rx
  exact setattr_ok I2 ea c n l ry fun s3 I3=>⟨σ,_,I3,q2⟩
end
section
variable {X:Cx} {pins:List (Addr × Obj)} {σ:St} {H:Hp} {s:Shared} {A:Around} {E:Value→Shared→Prop} {Q:Value→Shared→Prop} {c:Value} {b:Bool}
inductive TyOf (K:PySem.W.Frag) (H:Hp):V→Value→Prop where
  | non:TyOf K H .non (.type "NoneType")
  | bl (x:Bool):TyOf K H (.bl x) (.type "bool")
  | int (i:Int):TyOf K H (.int i) (.type "int")
  | str (x:Str):TyOf K H (.str x) (.type "str")
  | flt (x:UInt64):TyOf K H (.flt x) (.type "float")
  | lst {a:Addr} {xs:List V} (e:H a=some (.lst xs)):TyOf K H (.ref a) (.type "list")
  | frz {a:Addr} {o:Obj} {xs:List V} (e:H a=some (.frz o (.lst xs))):TyOf K H (.ref a) (.type "list")
  | tup {a:Addr} {xs:List V} (e:H a=some (.tup xs)):TyOf K H (.ref a) (.type "tuple")
  | dK {a:Addr} {kvs:List (Key × V)} (e:H a=some (.dK kvs)):TyOf K H (.ref a) (.type "dict")
  | dT {a:Addr} {kvs:List (List Key × V)} (e:H a=some (.dT kvs)):TyOf K H (.ref a) (.type "dict")
  | ins {a C dx:Addr} {fs:List (Str × V)} (e:H a=some (.ins C dx fs)) (cl:Cls K C) (ha:PySem.W.findIn K (.ref C) "__class__"=some (some (.builtin "object.__class__")))
      (hn:PySem.W.specialIn K (.builtin "object.__class__") "__get__"=some (some (.builtin "getset_descriptor.__get__"))) (htk:PySem.W.takesIn K (.builtin "object.__class__")=some true)
      (hm:PySem.W.mroIn K C (.type "object")=some true):TyOf K H (.ref a) (.ref C)
end
structure Room (k:Nat) (A:Around):Prop where
  hd:A.handled=none
  dp:A.depth+3 * k+5<recursionLimit
  un:A.units+16 * k+200<cLine
theorem Room.mono {j k:Nat} {A:Around} (r:Room k A) (h:j≤k):Room j A:=⟨r.hd,by have:=r.dp; omega,by have:=r.un; omega⟩
theorem Room.deeper {k:Nat} {A:Around} (r:Room (k+1) A) (env:Env):Room k (A.deeper env):=
  ⟨r.hd,by have:=r.dp; show A.depth+1+3 * k+5<_; omega,by have:=r.un; show A.units+3+16 * k+200<_; omega⟩
theorem make_depth {A:Around} {C:Addr} {us:List Value} {kw:List (Str × Value)}:(A.under (.builtin "type.__call__" ⟨.ref C::us,kw⟩)).depth=A.depth+1:=by
  first|rfl|simp [Around.under,Code.weight,Code.isCreation,Code.isGuard,Code.isCaller,Code.frames,Code.isFrame,guardIds]
theorem make_units {A:Around} {C:Addr} {us:List Value} {kw:List (Str × Value)}:(A.under (.builtin "type.__call__" ⟨.ref C::us,kw⟩)).units=A.units+1:=by
  first|rfl|simp [Around.under,Code.cUnits,Code.frames,Code.isFrame]
theorem Room.make {k:Nat} {A:Around} (r:Room (k+1) A) (C:Addr) (us:List Value) (kw:List (Str × Value)):Room k (A.under (.builtin "type.__call__" ⟨.ref C::us,kw⟩)):=
  ⟨r.hd,by have:=r.dp; rw [make_depth]; omega,by have:=r.un; rw [make_units]; omega⟩
theorem Room.depth {k:Nat} {A:Around} (r:Room k A):A.depth<recursionLimit:=by have:=r.dp; omega
theorem Room.units {k:Nat} {A:Around} (r:Room k A):A.units+64<cLine:=by have:=r.un; omega
def tNil:TA:=fun _ H Q=>Q [] H
def tCons (ta:TE) (tr:TA):TA:=fun σ H Q=>ta σ H fun x H1=>tr σ H1 fun xs H2=>Q (x::xs) H2
section
variable {X:Cx} {e:Expr} {es:List Expr} {te:TE} {t:TA} {pos:Pos}
theorem pa_nil:PA X [] tNil:=fun _ _ _ _ H Q I h=>Calls.spliced_nil ⟨[],H,I,.nil,h⟩
theorem pa_cons (ha:PE X e te) (hr:PA X es t) (hs:starEach (e::es) X.env=(false,eval e X.env)::starEach es X.env:=by rfl):PA X (e::es) (tCons te t):=by
  intro pos pins s σ H Q I h
  rw [hs]
  show wpAny _ _ (spliced ((false,eval e X.env)::backTo pos (starEach es X.env))) _ _ s
  refine Calls.spliced_cons (thn (ha pins s σ H _ I h) fun u s1 ⟨x,H1,I1,r1,q1⟩=>?_)
  exact thn (hr pos pins s1 σ H1 _ I1 q1) fun us s2 ⟨xs,H2,I2,r2,q2⟩=>⟨x::xs,H2,I2,.cons r1 r2,q2⟩
def tTup (t:TA):TE:=fun σ H Q=>t σ H fun xs H1=>xs.length≤sizeLine∧∀ p,H1 p=none→Q (.ref p) (upd H1 p (.tup xs))
def tLst (t:TA):TE:=fun σ H Q=>t σ H fun xs H1=>xs.length≤sizeLine∧∀ p,H1 p=none→Q (.ref p) (upd H1 p (.lst xs))
theorem pe_tup {x1} (h:PA X es t):PE X (.Tuple es x1 pos) (tTup t):=by
  intro pins s σ H Q I hq
  refine wpAny_Tuple_spliced (thn (h pos pins s σ H _ I hq) fun us s1 ⟨xs,H1,I1,r,z,q⟩=>⟨by rw [← r.length]; exact z,?_⟩)
  have hf:H1 s1.heap.objs.size=none:=I1.hok.fresh (Nat.le_refl _)
  refine ⟨.ref s1.heap.objs.size,upd H1 s1.heap.objs.size (.tup xs),I1.laid (t':=s1.toks) (fun b u e=>Heap.get?_push_of_some _ e) (Nat.le_refl _) ?_,rfl,q _ hf⟩
  exact ⟨z,us,r,⟨_,Heap.get?_push_size _ rfl,rfl,_,rfl⟩⟩
theorem pe_lst (h:PA X es t):PE X (.List es pos) (tLst t):=by
  intro pins s σ H Q I hq
  refine wpAny_List_spliced (thn (h pos pins s σ H _ I hq) fun us s1 ⟨xs,H1,I1,r,z,q⟩=>⟨by rw [← r.length]; exact z,?_⟩)
  have hf:H1 s1.heap.objs.size=none:=I1.hok.fresh (Nat.le_refl _)
  refine ⟨.ref s1.heap.objs.size,upd H1 s1.heap.objs.size (.lst xs),I1.laid (t':=s1.toks) (fun b u e=>Heap.get?_push_of_some _ e) (Nat.le_refl _) ?_,rfl,q _ hf⟩
  exact ⟨z,us,0,r,Heap.get?_push_size _ rfl⟩
end
abbrev Sp:=List V→Hp→VK→XK→Prop
abbrev CXT:=List Env→Hp→Shared→XK→Value→Shared→Prop
structure Env0 (P:Program) (w:World) (K:PySem.W.Frag) (mg:Str→Option Value) (base:Heap) (A:Around) (outer:List Env) (s:Shared) (H:Hp):Prop where
  frames:A.frames=some outer
  mod:Mod K mg base
  bs:∀ b o,base.get? b=some o→s.heap.get? b=some o∧H b=none
  bsz:base.objs.size≤s.heap.objs.size
  funs:s.heap.FunFrames base outer
  frf:∀ b∈frs outer,H b=none
  hok:HOk P w H s.heap
  bare:AllBare s.gens
def CE (outer:List Env) (P:Program) (w:World) (H:Hp) (s:Shared) (Q:VK) (u:Value) (s':Shared):Prop:=
  ∃ v H',s'.os=s.os∧AllBare s'.gens∧Un (frs outer) [] H H' s.heap s'.heap∧HOk P w H' s'.heap∧RelV v u∧Q v H'
def CR (CX:CXT) (outer:List Env) (P:Program) (w:World) (H:Hp) (s:Shared) (Q:VK) (E:XK) (r:Result) (s':Shared):Prop:=
  match r with
  | .ok (.ret u)=>CE outer P w H s Q u s'
  | .ok _=>False
  | .error e=>CX outer H s E e s'
structure FnOk (P:Program) (w:World) (K:PySem.W.Frag) (mg:Str→Option Value) (base:Heap) (CX:CXT) (k:Nat) (f:Addr) (fd:FuncData) (ps:List Str) (sp:Sp):Prop where
  len:∀ vs H Q E,sp vs H Q E→vs.length=ps.length
  run:∀ (A:Around) (outer:List Env) (s:Shared) (H:Hp) (args:Args) (us:List Value) (vs:List V) (Q:VK) (E:XK),Room k A→Env0 P w K mg base A outer s H→BindsTo s fd args (ps.zip us)→Vals vs us→sp vs H Q E →
    codeAny (model P w) A (.call (.ref f) args) (CR CX outer P w H s Q E) s
theorem Env0.make {P:Program} {w:World} {K:PySem.W.Frag} {mg:Str→Option Value} {base:Heap} {A:Around} {outer:List Env} {s:Shared} {H:Hp} (e:Env0 P w K mg base A outer s H) (C:Addr) (us:List Value) (kw:List (Str × Value)) :
    Env0 P w K mg base (A.under (.builtin "type.__call__" ⟨.ref C::us,kw⟩)) outer s H:=⟨by first|exact e.frames|(simpa [Around.under,Code.envs,Code.isFrame,pushEnvs] using e.frames),e.mod,e.bs,e.bsz,e.funs,e.frf,e.hok,e.bare⟩
section
variable {X:Cx} {pins:List (Addr × Obj)} {σ:St} {H:Hp} {s s':Shared}
theorem Inv.env0 (I:Inv X pins σ H s):Env0 X.prog X.w X.K X.mg X.base X.A X.stack s H:=
  ⟨I.ok.frames,I.ok.mod,I.bs,Nat.le_trans I.ok.bsz I.sz,I.stack,I.stkFree,I.hok,I.bare⟩
theorem Inv.after {Q:VK} {u:Value} (I:Inv X pins σ H s) (h:CE X.stack X.prog X.w H s Q u s'):EP X pins σ Q u s':=by
  obtain ⟨v,H',os,bare,un,hok,r,q⟩:=h
  obtain ⟨hh,g,d,t,os'⟩:=s'
  obtain rfl:os'=s.os:=os
  exact ⟨v,H',I.call (h':=hh) (g':=g) (d':=d) (t':=t) (ch:=[]) un hok bare (fun b z=>absurd z (by simp)),r,q⟩
end
def tCall (sp:Sp) (dvs:List V) (E:XK) (t:TA):TE:=fun σ H Q=>t σ H fun vs H1=>sp (vs++dvs) H1 Q E
def tMeth (C:Addr) (m:Str) (sp:Sp) (dvs:List V) (E:XK) (ta:TE) (t:TA):TE:=fun σ H Q=>ta σ H fun x H1=>∃ a dx fs,x=.ref a∧H1 a=some (.ins C dx fs)∧fs.lookup m=none ∧
  t σ H1 fun vs H2=>sp (x::(vs++dvs)) H2 Q E
def tMake (C:Addr) (sp:Sp) (dvs:List V) (E:XK) (t:TA):TE:=fun σ H Q=>t σ H fun vs H1=>∀ x dx,H1 x=none→H1 dx=none→dx≠x →
  sp (.ref x::(vs++dvs)) (upd (upd H1 dx (.own x)) x (.ins C dx [])) (fun v H2=>v=.non∧Q (.ref x) H2) E
def Binds (K:PySem.W.Frag) (fd:FuncData) (ps:List Str) (ds:List Value):Prop:=
  ∀ (s:Shared) (us:List Value),K.In s.heap→(us++ds).length=ps.length→BindsTo s fd ⟨us,[]⟩ (ps.zip (us++ds))
theorem Binds.all {K:PySem.W.Frag} {fd:FuncData} {ps:List Str} (h:∀ us:List Value,us.length=ps.length→bindArgs fd ⟨us,[]⟩=pure (ps.zip us)):Binds K fd ps []:=fun s us _ hl=>by
  rw [aZ0] at hl ⊢
  exact .of_eq (h us hl)
def Passes (CX:CXT) (X:Cx) (E:XK):Prop:=∀ (pins:List (Addr × Obj)) (σ:St) (H:Hp) (s:Shared) (e:Value) (s':Shared),Inv X pins σ H s→CX X.stack H s E e s'→X.xe e s'
section
variable {X:Cx} {CX:CXT} {k:Nat} {f C:Addr} {fd:FuncData} {ps:List Str} {sp:Sp} {dvs:List V} {ds:List Value} {E:XK} {x m:Str} {p pos apos:Pos} {e o:Expr} {es:List Expr} {ta:TE} {t:TA}
theorem run_fn {pins:List (Addr × Obj)} {σ:St} {H:Hp} {s:Shared} {Q:VK} {us:List Value} {vs:List V} (F:FnOk X.prog X.w X.K X.mg X.base CX k f fd ps sp) (hr:Room k X.A) (hb:Binds X.K fd ps ds) (hd:Vals dvs ds) (hx:Passes CX X E)
    (I:Inv X pins σ H s) (r:Vals vs us) (h:sp (vs++dvs) H Q E):wpAny (model X.prog X.w) X.A (call (.ref f) us) (EP X pins σ Q) X.xe s:=by
  have r2:Vals (vs++dvs) (us++ds):=r.append hd
  have hl:(us++ds).length=ps.length:=by rw [← r2.length]; exact F.len _ _ _ _ h
  refine wpAny_call (codeAny_mono (F.run X.A X.stack s H ⟨us,[]⟩ (us++ds) (vs++dvs) Q E hr I.env0 (hb s us I.kIn hl) r2 h) fun r s' hq=>?_)
  cases r with
  | error e=>exact hx pins σ H s e s' I hq
  | ok fl=>
    cases fl with
    | ret u=>exact I.after hq
    | next=>exact False.elim hq
    | brk=>exact False.elim hq
    | cont=>exact False.elim hq
theorem pe_call (F:FnOk X.prog X.w X.K X.mg X.base CX k f fd ps sp) (hr:Room k X.A) (hg:Gl X x) (hm:X.mg x=some (.ref f)) (hk:PySem.W.keepIn X.K (.ref f)=true) (hb:Binds X.K fd ps ds) (hd:Vals dvs ds) (hx:Passes CX X E)
    (ha:PA X (e::es) t) (hdb:(x == ("__debug__":Str))=false:=by decide) (he:starEach (e::es) X.env=(false,eval e X.env)::starEach es X.env:=by rfl) (hpl:(backTo pos (starEach es X.env)).any (·.1)=false:=by rfl) :
    PE X (.Call (.Name x p) (e::es) [] pos) (tCall sp dvs E t):=by
  intro pins s σ H Q I h
  refine wpAny_Call_Name_kw (ld_glob I hg hm ?_ hdb)
  refine PySem.W.callWith_K (h₀:=X.base) I.ok.mod.kin hk (thn (ha pos pins s σ H _ I h) fun us s1 ⟨vs,H1,I1,r,q⟩=>⟨I1.kIn,?_⟩) he hpl
  exact run_fn F hr hb hd hx I1 r q
theorem pe_meth {pl:Sem Bool} (he:PE X o ta) (c:Cls X.K C) (hm:Meth X.K C m f) (F:FnOk X.prog X.w X.K X.mg X.base CX k f fd ps sp) (hr:Room k X.A) (hb:Binds X.K fd ps ds) (hd:Vals dvs ds) (hx:Passes CX X E) (ha:PA X (e::es) t)
    (hst:starEach (e::es) X.env=(false,eval e X.env)::starEach es X.env:=by rfl) (hpl:(backTo pos (starEach es X.env)).any (·.1)=false:=by rfl)
    (ht:eval (.Call (.Attribute o m apos) (e::es) [] pos) X.env=(do
      let ov ← eval o X.env
      standAt apos.atName
      let (f,first) ← holding [ov] (getMethod ov m pl)
      callWith pos f first (backTo pos (starEach (e::es) X.env)) (backToKw pos (keywordEach [] X.env))):=by rfl) :
    PE X (.Call (.Attribute o m apos) (e::es) [] pos) (tMeth C m sp dvs E ta t):=by
  intro pins s σ H Q I h
  refine PySem.W.methodCall_KW (pl:=pl) (thn (he pins s σ H _ I h) fun u s1 ⟨x,H1,I1,rx,a,dx,fs,ex,ea,l,q⟩=>?_) ht
  subst ex
  obtain rfl:u=Value.ref a:=rx
  refine getmeth_ok I1 ea c hm l ?_
  refine PySem.W.callWith_K (first:=[.ref a]) (h₀:=X.base) I.ok.mod.kin hm.kp (thn (ha pos pins s1 σ H1 _ I1 q) fun us s2 ⟨vs,H2,I2,r,q2⟩=>⟨I2.kIn,?_⟩) hst hpl
  exact run_fn (us:=.ref a::us) (vs:=.ref a::vs) F hr hb hd hx I2 (.cons rfl r) q2
theorem pe_meth0 {pl:Sem Bool} (he:PE X o ta) (c:Cls X.K C) (hm:Meth X.K C m f) (F:FnOk X.prog X.w X.K X.mg X.base CX k f fd ps sp) (hr:Room k X.A) (hb:Binds X.K fd ps ds) (hd:Vals dvs ds) (hx:Passes CX X E)
    (ht:eval (.Call (.Attribute o m apos) [] [] pos) X.env=(do
      let ov ← eval o X.env
      standAt apos.atName
      let (f,first) ← holding [ov] (getMethod ov m pl)
      callWith pos f first (backTo pos (starEach [] X.env)) (backToKw pos (keywordEach [] X.env))):=by rfl) :
    PE X (.Call (.Attribute o m apos) [] [] pos) (tMeth C m sp dvs E ta tNil):=by
  intro pins s σ H Q I h
  refine PySem.W.methodCall_KW (pl:=pl) (thn (he pins s σ H _ I h) fun u s1 ⟨x,H1,I1,rx,a,dx,fs,ex,ea,l,q⟩=>?_) ht
  subst ex
  obtain rfl:u=Value.ref a:=rx
  refine getmeth_ok I1 ea c hm l ?_
  exact PySem.W.callWith_K0 (first:=[.ref a]) I1.kIn hm.kp (run_fn (us:=[.ref a]) (vs:=[.ref a]) F hr hb hd hx I1 (.cons rfl .nil) q)
structure Mk (K:PySem.W.Frag) (C f:Addr):Prop where
  makes:PySem.W.makesIn K C=true
  init:PySem.W.findIn K (.ref C) "__init__"=some (some (.ref f))
  fn:PySem.W.isFn K (.ref f)=true
  kp:PySem.W.keepIn K (.ref C)=true
theorem run_make {pins:List (Addr × Obj)} {σ:St} {H:Hp} {s:Shared} {Q:VK} {us:List Value} {vs:List V} (M:Mk X.K C f) (F:FnOk X.prog X.w X.K X.mg X.base CX k f fd ps sp) (hr:Room (k+1) X.A) (hb:Binds X.K fd ps ds) (hd:Vals dvs ds)
    (hx:Passes CX X E) (I:Inv X pins σ H s) (r:Vals vs us)
    (h:∀ x dx,H x=none→H dx=none→dx≠x→sp (.ref x::(vs++dvs)) (upd (upd H dx (.own x)) x (.ins C dx [])) (fun v H2=>v=.non∧Q (.ref x) H2) E) :
    wpAny (model X.prog X.w) X.A (call (.ref C) us) (EP X pins σ Q) X.xe s:=by
  have hq:=h (s.heap.objs.size+1) s.heap.objs.size (I.hok.fresh (Nat.le_succ _)) (I.hok.fresh (Nat.le_refl _)) (Nat.ne_of_lt (Nat.lt_succ_self _))
  have I2:=Inv.made (C:=C) I
  have r2:Vals (V.ref (s.heap.objs.size+1)::(vs++dvs)) (Value.ref (s.heap.objs.size+1)::(us++ds)):=.cons rfl (r.append hd)
  have hl:(Value.ref (s.heap.objs.size+1)::us++ds).length=ps.length:=by
    have e:=r2.length
    rw [F.len _ _ _ _ hq] at e
    exact e.symm
  refine wpAny_call (make_map (f:=f) I.kIn M.makes M.init (beq_iff_eq.mp M.fn) (codeAny_mono (F.run _ X.stack _ _ ⟨Value.ref (s.heap.objs.size+1)::us,[]⟩ (Value.ref (s.heap.objs.size+1)::(us++ds)) _ _ E (hr.make C us [])
    (I2.env0.make C us []) (hb _ (Value.ref (s.heap.objs.size+1)::us) I2.kIn hl) r2 hq) fun r s' hq'=>?_))
  cases r with
  | error e=>exact hx pins σ _ _ e s' I2 hq'
  | ok fl=>
    cases fl with
    | ret u=>
      obtain ⟨v,H',I3,rv,ev,q3⟩:=I2.after hq'
      subst ev
      exact ⟨rv,⟨V.ref (s.heap.objs.size+1),H',I3,rfl,q3⟩⟩
    | next=>exact False.elim hq'
    | brk=>exact False.elim hq'
    | cont=>exact False.elim hq'
theorem pe_make (M:Mk X.K C f) (F:FnOk X.prog X.w X.K X.mg X.base CX k f fd ps sp) (hr:Room (k+1) X.A) (hg:Gl X x) (hm:X.mg x=some (.ref C)) (hb:Binds X.K fd ps ds) (hd:Vals dvs ds) (hx:Passes CX X E)
    (ha:PA X (e::es) t) (hdb:(x == ("__debug__":Str))=false:=by decide) (he:starEach (e::es) X.env=(false,eval e X.env)::starEach es X.env:=by rfl) (hpl:(backTo pos (starEach es X.env)).any (·.1)=false:=by rfl) :
    PE X (.Call (.Name x p) (e::es) [] pos) (tMake C sp dvs E t):=by
  intro pins s σ H Q I h
  refine wpAny_Call_Name_kw (ld_glob I hg hm ?_ hdb)
  refine PySem.W.callWith_K (h₀:=X.base) I.ok.mod.kin M.kp (thn (ha pos pins s σ H _ I h) fun us s1 ⟨vs,H1,I1,r,q⟩=>⟨I1.kIn,?_⟩) he hpl
  exact run_make M F hr hb hd hx I1 r q
end
section
variable {X:Cx} {CX:CXT} {k:Nat} {f C:Addr} {fd:FuncData} {ps ks:List Str} {sp:Sp} {E:XK} {x m:Str} {p pos apos kpos:Pos} {e o:Expr} {es:List Expr} {kws:List Keyword} {te ta:TE} {t tk:TA} {nm:Option Str}
structure KBinds (K:PySem.W.Frag) (fd:FuncData) (ps ks:List Str) (g:List Value→List Value→List Value) (gV:List V→List V→List V):Prop where
  to:∀ (s:Shared) (us ws:List Value),K.In s.heap→(g us ws).length=ps.length→BindsTo s fd ⟨us,ks.zip ws⟩ (ps.zip (g us ws))
  rel:∀ {vs:List V} {us:List Value} {zs:List V} {ws:List Value},Vals vs us→Vals zs ws→Vals (gV vs zs) (g us ws)
variable {g:List Value→List Value→List Value} {gV:List V→List V→List V}
end
structure FnScope (N P:List Str) (sc:Scope):Prop where
  kind:sc.kind=.function
  co:sc.isCoroutine=false
  gen:sc.isGenerator=false
  nd:N.Nodup
  pre:N.take P.length=P
  par:∀ x∈P,sc.names.lookup x=some .local∨sc.names.lookup x=some .cell
  nofree:∀ y∈sc.names,y.2≠.free
theorem bindL_out {kindOf:Str→Option NameKind} {x:Str}:∀ {binds:List (Str × Value)} {m:Str→Option Value},(∀ v,(x,v) ∉ binds)→bindL kindOf binds m x=m x
  | [],_,_=>rfl
  | (n,v)::r,m,h=>by
    unfold bindL
    rw [bindL_out fun w hw=>h w (List.mem_cons_of_mem _ hw)]
    split
    · have:x≠n:=by rintro rfl; exact h v List.mem_cons_self
      simp [this]
    · rfl
theorem bindC_out {kindOf:Str→Option NameKind} {x:Str}:∀ {binds:List (Str × Value)} {m:Str→Option Value},(∀ v,(x,v) ∉ binds)→bindC kindOf binds m x=m x
  | [],_,_=>rfl
  | (n,v)::r,m,h=>by
    unfold bindC
    rw [bindC_out fun w hw=>h w (List.mem_cons_of_mem _ hw)]
    split
    · rfl
    · have:x≠n:=by rintro rfl; exact h v List.mem_cons_self
      simp [this]
theorem bindL_get {kindOf:Str→Option NameKind} {x:Str} {v:Value}:∀ {P:List Str} {vs:List Value} {i:Nat} {m:Str→Option Value},P.Nodup→P[i]?=some x→vs[i]?=some v→kindOf x=some .local →
    bindL kindOf (P.zip vs) m x=some v
  | [],_,_,_,_,h,_,_=>by simp at h
  | _::_,[],_,_,_,_,h,_=>by simp at h
  | p::P,w::vs,0,m,nd,h1,h2,hk=>by
    simp at h1 h2; subst h1; subst h2
    show bindL kindOf ((p,w)::P.zip vs) m p=_
    unfold bindL
    rw [bindL_out fun v hv=>(List.nodup_cons.mp nd).1 (List.of_mem_zip hv).1,if_pos hk]
    simp
  | p::P,w::vs,i+1,m,nd,h1,h2,hk=>by
    show bindL kindOf ((p,w)::P.zip vs) m x=_
    unfold bindL
    exact bindL_get (i:=i) (List.nodup_cons.mp nd).2 (by simpa using h1) (by simpa using h2) hk
theorem bindC_get {kindOf:Str→Option NameKind} {x:Str} {v:Value}:∀ {P:List Str} {vs:List Value} {i:Nat} {m:Str→Option Value},P.Nodup→P[i]?=some x→vs[i]?=some v→kindOf x≠some .local →
    bindC kindOf (P.zip vs) m x=some v
  | [],_,_,_,_,h,_,_=>by simp at h
  | _::_,[],_,_,_,_,h,_=>by simp at h
  | p::P,w::vs,0,m,nd,h1,h2,hk=>by
    simp at h1 h2; subst h1; subst h2
    show bindC kindOf ((p,w)::P.zip vs) m p=_
    unfold bindC
    rw [bindC_out fun v hv=>(List.nodup_cons.mp nd).1 (List.of_mem_zip hv).1,if_neg hk]
    simp
  | p::P,w::vs,i+1,m,nd,h1,h2,hk=>by
    show bindC kindOf ((p,w)::P.zip vs) m x=_
    unfold bindC
    exact bindC_get (i:=i) (List.nodup_cons.mp nd).2 (by simpa using h1) (by simpa using h2) hk
def start (N:List Str) (vs:List V):St:=vs.map some++List.replicate (N.length - vs.length) none
def cxOf (CX:CXT) (P:Program) (w:World) (K:PySem.W.Frag) (mg:Str→Option Value) (base:Heap) (N:List Str) (qual:Str) (scope:Scope) (f:Addr) (cd:Value) (A:Around) (outer:List Env) (s:Shared) (H:Hp) (E:XK):Cx where
  prog:=P
  w:=w
  K:=K
  mg:=mg
  base:=base
  A:=A.deeper (envOfC qual scope s.heap.objs.size f cd)
  N:=N
  s₀:=s
  H₀:=H
  env:=envOfC qual scope s.heap.objs.size f cd
  outer:=outer
  stack:=envOfC qual scope s.heap.objs.size f cd::outer
  ex:=[]
  calm:=true
  fn:=fun _=>true
  pn:=[]
  xe:=fun e s'=>wpAny (model P w) (A.deeper (envOfC qual scope s.heap.objs.size f cd)) (leaving (envOfC qual scope s.heap.objs.size f cd) e) (fun _ s''=>CX outer H s E e s'') (fun e' s''=>CX outer H s E e' s'') s'
theorem cell_has {sc:Scope} {n:Nat} {x:Str} (h:sc.names.lookup x=some .cell):∃ c,(cellsFrom n sc.names []).lookup x=some c:=by
  have q:=PySem.W.cellsFrom_some sc.names n [] (.inl h)
  exact Option.isSome_iff_exists.mp q
theorem inv_start {CX:CXT} {P:Program} {w:World} {K:PySem.W.Frag} {mg:Str→Option Value} {base:Heap} {N ps:List Str} {qual:Str} {scope:Scope} {f:Addr} {cd:Value} {A:Around} {outer:List Env} {s s1:Shared} {H:Hp} {E:XK} {us:List Value} {vs:List V}
    (S:FnScope N ps scope) (hd:A.handled=none) (e0:Env0 P w K mg base A outer s H) (hl:vs.length=ps.length) (r:Vals vs us)
    (x:InCallC s s.heap.objs.size (bindL (envOfC qual scope s.heap.objs.size f cd).kindOf (ps.zip us) fun _=>none) (cellsFrom (s.heap.objs.size+1) scope.names []) (bindC (envOfC qual scope s.heap.objs.size f cd).kindOf (ps.zip us) fun _=>none) s1) :
    Inv (cxOf CX P w K mg base N qual scope f cd A outer s H E) [] (start N vs) H s1:=by
  have hpl:ps.length≤N.length:=by have:=congrArg List.length S.pre; rw [List.length_take] at this; omega
  obtain ⟨h1,tk,rfl,hk⟩:=x.done
  have noA:∀ b:Addr,b ∉ (cxOf CX P w K mg base N qual scope f cd A outer s H E).ex:=fun b z=>absurd (show b∈([]:List Addr) from z) (by simp)
  refine ⟨⟨e0.mod,S.kind,rfl,rfl,Nat.le_refl _,fun y z c h1 h2=>?_,fun y hy=>?_,fun y c _ h=>?_,fun _=>hd,Around.frames_deeper e0.frames,.inr ⟨rfl,rfl⟩,fun b z=>absurd z (noA b),e0.bs,e0.bsz,fun b _ _=>noA b,fun b z=>absurd z (noA b),e0.funs,e0.frf⟩,
    rfl,e0.bare,Un.kept hk,⟨_,x.toInCall.ns,fun i y v h1 h2 h3=>?_⟩,fun y c h=>⟨_,x.cell y c h⟩,e0.hok.fresh (Nat.le_refl _),fun y c h=>?_,fun p hp=>absurd (show p∈([]:List (Addr × Obj)) from hp) (by simp),e0.hok.kept hk,?_⟩
  · exact name_of_addr x.apart (PySem.mem_of_lookup h1) (PySem.mem_of_lookup h2)
  · have hy:scope.names.lookup y=some .cell∨scope.names.lookup y=some .free:=hy
    rcases hy with hy|hy
    · exact cell_has hy
    · exact absurd rfl (S.nofree _ (PySem.mem_of_lookup hy))
  · exact Nat.le_of_lt (x.above y c (PySem.mem_of_lookup h))
  · have hi:i<vs.length:=by
      unfold start at h2
      by_cases hi:i<vs.length
      · exact hi
      · rw [List.getElem?_append_right (by simpa using hi)] at h2
        rw [List.getElem?_replicate] at h2
        split at h2 <;> cases h2
    have ha:vs[i]?=some v:=by
      unfold start at h2
      rw [List.getElem?_append_left (by simpa using hi),List.getElem?_map] at h2
      cases e:vs[i]? with
      | none=>rw [e] at h2; cases h2
      | some a=>rw [e] at h2; cases h2; rfl
    obtain ⟨u,hu,rv⟩:=r.get ha
    have hp:ps[i]?=some y:=by
      rw [← S.pre,List.getElem?_take_of_lt (by omega)]; exact h1
    have ndP:ps.Nodup:=by rw [← S.pre]; exact S.nd.sublist (List.take_sublist _ _)
    refine ⟨u,rv,?_⟩
    rcases S.par y (List.mem_of_getElem? hp) with k|k
    · exact .inl ⟨k,bindL_get ndP hp hu k⟩
    · obtain ⟨c,e⟩:=cell_has (n:=s.heap.objs.size+1) k
      refine .inr ⟨.inl k,c,e,?_⟩
      have q:=x.cell y c e
      rw [bindC_get ndP hp hu (by show scope.names.lookup y≠_; rw [k]; decide)] at q
      exact q
  · exact e0.hok.fresh (Nat.le_of_lt (x.above y c (PySem.mem_of_lookup h)))
  · unfold start
    show _=N.length
    rw [List.length_append,List.length_map,List.length_replicate]
    omega
theorem fn_of {CX:CXT} {P:Program} {w:World} {K:PySem.W.Frag} {mg:Str→Option Value} {base:Heap} {k:Nat} {f:Addr} {name qual:Str} {params:Arguments} {body:List Stmt} {scope:Scope} {dV kV doc pm cdv ct oc:Value} {an od:Option Addr}
    {osl:Array (Option Value)} {N ps:List Str} {sp:Sp} (lk:K.lookup f=some ⟨oc,od,.func (PySem.W.fnOf name qual params body scope dV kV doc pm an cdv ct),osl⟩) (hcd:PySem.W.codeIn K cdv qual=true) (S:FnScope N ps scope)
    (len:∀ vs H Q E,sp vs H Q E→vs.length=ps.length)
    (hbody:∀ (A:Around) (outer:List Env) (s:Shared) (H:Hp) (vs:List V) (Q:VK) (E:XK),Room k (A.deeper (envOfC qual scope s.heap.objs.size f cdv))→sp vs H Q E →
      ∃ t,PSs (cxOf CX P w K mg base N qual scope f cdv A outer s H E) body t∧t { nx:=fun _ H'=>Q .non H',rt:=Q } (start N vs) H) :
    FnOk P w K mg base CX (k+1) f (PySem.W.fnOf name qual params body scope dV kV doc pm an cdv ct) ps sp:=by
  refine ⟨len,fun A outer s H args us vs Q E hr e0 hb r hsp=>?_⟩
  have hl:=len _ _ _ _ hsp
  have KX:K.In s.heap:=e0.mod.kin.keeps fun b o e=>(e0.bs b o e).1
  have lim:s.heap.NoLimit:=e0.mod.nolimit.keeps fun b o e=>(e0.bs b o e).1
  have hkind:∀ y∈ps.zip us,scope.names.lookup y.1=some .local∨(scope.names.lookup y.1=some .cell∧((cellsFrom (s.heap.objs.size+1) scope.names []).lookup y.1).isSome=true):=fun ⟨n,v⟩ hy=>by
    rcases S.par n (List.of_mem_zip hy).1 with q|q
    · exact .inl q
    · exact .inr ⟨q,PySem.W.cellsFrom_some _ _ _ (.inl q)⟩
  refine codeAny_call_function hr.depth (KX _ _ lk) rfl S.co S.gen rfl (PySem.W.codeRec_of KX hcd) (hb _ _ _ _ ?_)
  refine wpAny_newFunctionEnv_cells S.kind hkind fun env he s1 x=>?_
  subst he
  refine ⟨lim.keeps x.toInCall.keep,codeAny_func ?_⟩
  obtain ⟨t,ht,hq⟩:=hbody A outer s H vs Q E (hr.deeper _) hsp
  have I:Inv (cxOf CX P w K mg base N qual scope f cdv A outer s H E) [] (start N vs) H s1:=inv_start S hr.hd e0 hl r x
  refine wpAny_mono (ht [] s1 (start N vs) H _ I hq) (fun fl s' hs=>?_) fun e s' hs=>hs
  have fin:∀ {σ':St} {H':Hp} {v:V} {u:Value},Inv (cxOf CX P w K mg base N qual scope f cdv A outer s H E) [] σ' H' s'→RelV v u→Q v H'→CE outer P w H s Q u s':=
    fun {σ' H' v u} J rv q=>⟨v,H',J.os,J.bare,J.base,J.hok,rv,q⟩
  cases fl with
  | ret u=>
    obtain ⟨v,σ',H',J,rv,q⟩:=hs
    exact fin J rv q
  | next=>
    obtain ⟨σ',H',J,q⟩:=hs
    exact fin (v:=V.non) (u:=Value.none) J rfl q
  | brk=>
    obtain ⟨_,_,_,q⟩:=hs
    exact False.elim q
  | cont=>
    obtain ⟨_,_,_,q⟩:=hs
    exact False.elim q
section
variable {X:Cx} {x:Str} {p pos:Pos} {e:Expr} {es:List Expr} {t:TA} {id T:String} {r:List V→Hp→VK→Prop}
def tCB (r:List V→Hp→VK→Prop) (t:TA):TE:=fun σ H Q=>t σ H fun vs H1=>r vs H1 Q
theorem pe_callB (hc:CallR X (.builtin id) r) (hg:Gl X x) (hm:X.mg x=none) (hv:bootBuiltins x=some (.builtin id)) (ha:PA X (e::es) t) (hn:x≠"__name__":=by decide) (hdb:(x == ("__debug__":Str))=false:=by decide)
    (he:starEach (e::es) X.env=(false,eval e X.env)::starEach es X.env:=by rfl) (hpl:(backTo pos (starEach es X.env)).any (·.1)=false:=by rfl):PE X (.Call (.Name x p) (e::es) [] pos) (tCB r t):=by
  intro pins s σ H Q I h
  refine wpAny_Call_Name_kw (ld_blt I hg hm hv ?_ hn hdb)
  exact PyProof.Rows.callWith_builtin1 (thn (ha pos pins s σ H _ I h) fun us s1 ⟨vs,H1,I1,r1,q1⟩=>hc pins s1 σ H1 vs us Q I1 r1 q1) he hpl
theorem pe_callTy (hc:CallR X (.type T) r) (hg:Gl X x) (hm:X.mg x=none) (hv:bootBuiltins x=some (.type T)) (ha:PA X (e::es) t) (hn:x≠"__name__":=by decide) (hdb:(x == ("__debug__":Str))=false:=by decide)
    (he:starEach (e::es) X.env=(false,eval e X.env)::starEach es X.env:=by rfl) (hpl:(backTo pos (starEach es X.env)).any (·.1)=false:=by rfl):PE X (.Call (.Name x p) (e::es) [] pos) (tCB r t):=by
  intro pins s σ H Q I h
  refine wpAny_Call_Name_kw (ld_blt I hg hm hv ?_ hn hdb)
  exact PyProof.Rows.callWith_type1 (thn (ha pos pins s σ H _ I h) fun us s1 ⟨vs,H1,I1,r1,q1⟩=>hc pins s1 σ H1 vs us Q I1 r1 q1) he hpl
end
end L2
namespace HT
open PySem PyProof.Rows
def lexLt:List Int→List Int→Bool
  | [],[]=>false
  | [],_::_=>true
  | _::_,[]=>false
  | x::xs,y::ys=>if x=y then lexLt xs ys else decide (x<y)
theorem lexLt_cons (x y:Int) (xs ys:List Int):lexLt (x::xs) (y::ys)=if x=y then lexLt xs ys else decide (x<y):=rfl
theorem lexLt_nil_nil:lexLt [] []=false:=rfl
theorem lexLt_nil_cons (y:Int) (ys:List Int):lexLt [] (y::ys)=true:=rfl
theorem lexLt_cons_nil (x:Int) (xs:List Int):lexLt (x::xs) []=false:=rfl
theorem eqAt_int (A:Around) (s:Shared) (a:Int) (t:Tok) (c:Int) (u:Tok):∃ e,SeqAt.EqAt A s (.int a t) (.int c u) e∧(e=true↔a=c):=
  ⟨(a == c),SeqAt.EqAt.int_int a t c u,by simp⟩
theorem rcLt_int (A:Around) (s:Shared) (a:Int) (t:Tok) (c:Int) (u:Tok) (prog:Program) (w:World) (E:Value→Shared→Prop) (Q:Value→Shared→Prop) (h:Q (.bool (decide (a<c))) s) :
    wpAny (model prog w) A (richCompare .Lt (.int a t) (.int c u)) Q E s:=
  (PyProof.Rows.lt_int h:wpAny (model prog w) A (compareOp .Lt (.int a t) (.int c u)) Q E s)
section
open PySem.SeqAt
open PySem.AutoSeq1 (wpAny_loadPart')
open PySem.MeetsSeq PySem.MeetsSeq2 PySem.MeetsSeq3
theorem tuple_lt_ints (l b:Addr) (items items2:Array Value) (n n2:Nat) (dd dd2:Option Addr) (sl sl2:Array (Option Value)) (ns ms:List Int) (hi:IntsAre items.toList ns) (hj:IntsAre items2.toList ms) :
    Meets (Builtin.«tuple.__lt__» ⟨[.ref l,.ref b],[]⟩)
      (fun _ R s=>s.heap.get? l=some { cls:=.type "tuple", dict:=dd,data:=.seq items n,slots:=sl }∧s.heap.get? b=some { cls:=.type "tuple", dict:=dd2,data:=.seq items2 n2,slots:=sl2 } ∧
        R (.ok (.ret (.bool (lexLt ns ms)))) s):=
  .of_wp fun prog w A R s h=>by
    obtain ⟨hp,g,d,tk,os⟩:=s; obtain ⟨hl,hb,h⟩:=h
    have f2:=AutoSeq1.sub_tuple_tuple
    have z1:items.size=ns.length:=by rw [← hi.length]; simp
    have z2:items2.size=ms.length:=by rw [← hj.length]; simp
    wp_walk using wpAny_loadPart' hl,wpAny_loadPart' hb,wpAny_forIn_list _ (fun rest b s'=>b.1=none∧s'=⟨hp,g,d,tk,os⟩∧∃ (vs ws:List Value) (ns' ms':List Int),rest=vs.zip ws ∧
      IntsAre vs ns'∧IntsAre ws ms'∧ns'.length+items2.size=ms'.length+items.size∧R (.ok (.ret (.bool (lexLt ns' ms')))) ⟨hp,g,d,tk,os⟩) _
    case turn=>
      rintro ⟨y,x⟩ rest b s' ⟨hb',rfl,vs,ws,ns',ms',hz,hvi,hwi,hlen,hR⟩
      cases hvi with
      | nil=>rw [List.zip_nil_left] at hz; cases hz
      | cons a t hvi'=>
        cases hwi with
        | nil=>rw [List.zip_nil_right] at hz; cases hz
        | cons c u hwi'=>
          rw [List.zip_cons_cons] at hz
          injection hz with hyx hrest
          injection hyx with hy hx
          subst hy hx
          rw [lexLt_cons] at hR
          simp only [lZ1] at hlen
          obtain ⟨e,he,hiff⟩:=eqAt_int A.in1 ⟨hp,g,d,tk,os⟩ a t c u
          refine wpAny_bind (he prog w _ _ ?_)
          cases e with
          | true=>
            rw [if_pos (hiff.mp rfl)] at hR
            wp_walk
            exact ⟨rfl,rfl,_,_,_,_,hrest,hvi',hwi',by omega,hR⟩
          | false=>
            rw [if_neg (fun q=>absurd (hiff.mpr q) Bool.false_ne_true)] at hR
            have hri:=rcLt_int A.in1 ⟨hp,g,d,tk,os⟩ a t c u prog w
            wp_walk using hri
            exact ⟨_,rfl,by simpa using hR⟩
    case fin=>
      rintro ⟨b1,b2⟩ s' ⟨hb',rfl,vs,ws,ns',ms',hz,hvi,hwi,hlen,hR⟩
      simp only at hb'
      subst hb'
      have hv:lexLt ns' ms'=decide (items.size<items2.size):=by
        cases hvi with
        | nil=>
          cases hwi with
          | nil=>
            simp only [lZ0] at hlen
            rw [lexLt_nil_nil]
            exact (decide_eq_false (by omega)).symm
          | cons c u hw=>
            simp only [lZ0,lZ1] at hlen
            rw [lexLt_nil_cons]
            exact (decide_eq_true (by omega)).symm
        | cons a t hv=>
          cases hwi with
          | nil=>
            simp only [lZ0,lZ1] at hlen
            rw [lexLt_cons_nil]
            exact (decide_eq_false (by omega)).symm
          | cons c u hw=>
            rw [List.zip_cons_cons] at hz
            cases hz
      rw [hv] at hR
      wp_walk
      exact ⟨_,rfl,by simpa [Builtin.Tuple.tupleCompareSizes] using hR⟩
    case h=>
      exact ⟨rfl,rfl,items.toList,items2.toList,ns,ms,rfl,hi,hj,by omega,h⟩
end
section
variable {prog:Program} {w:World} {A:Around} {E:Value→Shared→Prop} {s:Shared}
theorem lt_tupInts {l b:Addr} {items items2:Array Value} {ns ms:List Int} {Q:Value→Shared→Prop} (hl:IsTup s.heap l items) (hb:IsTup s.heap b items2) (hi:IntsAre items.toList ns) (hj:IntsAre items2.toList ms)
    (hu:A.units<cLine) (h:Q (.bool (lexLt ns ms)) s):wpAny (model prog w) A (compareOp .Lt (.ref l) (.ref b)) Q E s:=by
  obtain ⟨⟨cls,dd,data,sl⟩,ho,hc,n,hd⟩:=id hl
  obtain ⟨⟨cls2,dd2,data2,sl2⟩,ho2,hc2,n2,hd2⟩:=id hb
  simp only at hc hd hc2 hd2
  subst hc hd hc2 hd2
  exact richCompare_meets_room (op:=.Lt) ⟨_,ho,rfl⟩ ⟨_,ho2,rfl⟩ PySem.F.slot_tuple_lt PySem.F.entry_tuple_lt (PySem.F.args_tuple_lt_2 _ _) (tuple_lt_ints l b items items2 n n2 dd dd2 sl sl2 ns ms hi hj)
    ⟨ho,ho2,show Value.bool (lexLt ns ms)≠Value.notImplemented∧Q (.bool (lexLt ns ms)) s from ⟨(fun x=>nomatch x),h⟩⟩ hu
def sIx (n d:Nat):Option Int→Nat
  | none=>d
  | some v=>if v<0 then (v+(n:Int)).toNat else min v.toNat n
theorem sIx_le (n d:Nat) (hd:d≤n) (o:Option Int):sIx n d o≤n:=by
  cases o with
  | none=>exact hd
  | some v=>
    show (if v<0 then (v+(n:Int)).toNat else min v.toNat n)≤n
    by_cases hv:v<0
    · rw [if_pos hv]; omega
    · rw [if_neg hv]; exact Nat.min_le_right _ _
theorem clip_eq (v:Int) (n d:Nat):(if v<0 then max (v+(n:Int)) 0 else min v (n:Int))=((sIx n d (some v):Nat):Int):=by
  show (if v<0 then max (v+(n:Int)) 0 else min v (n:Int))=(((if v<0 then (v+(n:Int)).toNat else min v.toNat n):Nat):Int)
  by_cases hv:v<0
  · simp only [if_pos hv]; omega
  · simp only [if_neg hv]; omega
theorem adjust_gen (lo hi:Option Int) (n:Nat):Builtin.Slice.sliceAdjust lo hi 1 (n:Int)=(((sIx n 0 lo:Nat):Int),((sIx n n hi:Nat):Int)):=by
  have h1:¬ ((1:Int)<0):=by omega
  unfold Builtin.Slice.sliceAdjust
  simp only [h1,if_false]
  refine Prod.ext ?_ ?_
  · cases lo with
    | none=>rfl
    | some v=>exact clip_eq v n 0
  · cases hi with
    | none=>rfl
    | some v=>exact clip_eq v n n
theorem places_gen (i j:Nat):Builtin.Slice.slicePlaces (i:Int) (j:Int) 1=j - i:=by
  unfold Builtin.Slice.slicePlaces
  have h1:(1:Int) > 0:=by omega
  simp only [h1,if_true,Int.ediv_one]
  split <;> omega
theorem slicePart_ {v:Value} {o:Option Int} {Q:Option Int→Shared→Prop} (p:IsPart v o) (h:Q o s):wpAny (model prog w) A (Builtin.Slice.slicePartIndex v) Q E s:=by
  cases p with
  | none=>exact slicePart_none h
  | int i t=>exact slicePart_int h
theorem sliceApplied_gen {sl:Addr} {vl vu:Value} {lo hi:Option Int} {n:Nat} {Q:Int × Int × Nat→Shared→Prop} (hs:s.heap.IsSliceOf sl vl vu .none) (pl:IsPart vl lo) (pu:IsPart vu hi)
    (h:Q (((sIx n 0 lo:Nat):Int),1,sIx n n hi - sIx n 0 lo) s):wpAny (model prog w) A (Builtin.Slice.sliceApplied (.ref sl) (pure (n:Int))) Q E s:=by
  obtain ⟨os,hos,hcs,hds⟩:=id hs
  unfold Builtin.Slice.sliceApplied Builtin.Slice.sliceFields
  refine wpAny_bind (wpAny_bind (wpAny_field hos hds (x:=vl) rfl (wpAny_bind (wpAny_field hos hds (x:=vu) rfl (wpAny_bind (wpAny_field hos hds (x:=.none) rfl (wpAny_pure ?_)))))))
  refine wpAny_bind (slicePart_none ?_)
  show wpAny _ _ (if ((1:Int) == 0)=true then _ else _) _ _ s
  rw [if_neg (by decide)]
  refine wpAny_bind (slicePart_ pl (wpAny_bind (slicePart_ pu (wpAny_bind (wpAny_pure ?_)))))
  show wpAny _ _ (match Builtin.Slice.sliceAdjust lo hi 1 (n:Int) with|(lo,hi)=>pure (lo,(1:Int),Builtin.Slice.slicePlaces lo hi 1)) _ _ s
  rw [adjust_gen lo hi n]
  show wpAny _ _ (pure (((sIx n 0 lo:Nat):Int),(1:Int),Builtin.Slice.slicePlaces ((sIx n 0 lo:Nat):Int) ((sIx n n hi:Nat):Int) 1)) _ _ s
  rw [places_gen]
  exact wpAny_pure h
theorem pick_gen (xs:Array Value) (i k:Nat):((List.range k).filterMap fun (m:Nat)=>xs[((i:Int)+(m:Int) * 1).toNat]?).toArray=((xs.toList.drop i).take k).toArray:=by
  have e:(fun (m:Nat)=>xs[((i:Int)+(m:Int) * 1).toNat]?)=fun m=>xs[i+m]?:=by
    funext m
    have:((i:Int)+(m:Int) * 1).toNat=i+m:=by omega
    rw [this]
  rw [e]
  have:=pick_run xs i k
  rw [List.filterMap_map] at this
  have e2:((fun x=>xs[x]?)∘fun x=>i+x)=fun m=>xs[i+m]?:=rfl
  rw [e2] at this
  rw [this]
theorem getItem_tuple_cut {t sl:Addr} {items:Array Value} {vl vu:Value} {lo hi:Option Int} {Q:Value→Shared→Prop} (ht:IsTup s.heap t items) (hs:s.heap.IsSliceOf sl vl vu .none) (pl:IsPart vl lo) (pu:IsPart vu hi)
    (hw:¬ (sIx items.size 0 lo=0∧sIx items.size items.size hi=items.size))
    (h:Q (.ref s.heap.objs.size) { s with heap:=s.heap.push { cls:=.type "tuple", data:=.seq ((items.toList.drop (sIx items.size 0 lo)).take (sIx items.size items.size hi - sIx items.size 0 lo)).toArray } })
    (hsz:items.size≤sizeLine):wpAny (model prog w) A (getItem (.ref t) (.ref sl)) Q E s:=by
  have htake:sizeOk (.seq ((items.toList.drop (sIx items.size 0 lo)).take (sIx items.size items.size hi - sIx items.size 0 lo)).toArray):=by
    show ((items.toList.drop (sIx items.size 0 lo)).take (sIx items.size items.size hi - sIx items.size 0 lo)).toArray.size≤sizeLine
    rw [List.size_toArray,List.length_take,List.length_drop,Array.length_toList]
    omega
  have hj:sIx items.size items.size hi≤items.size:=sIx_le _ _ (Nat.le_refl _) hi
  obtain ⟨os,hos,hcs,hds⟩:=id hs
  have hTs:s.TypeIs (.ref sl) "slice":=⟨os,hos,hcs⟩
  unfold getItem
  try with_reducible refine wpAny_holding ?_
  first|refine wpAny_bind (wpAny_pure ?_)|skip
  refine wpAny_bind (wpAny_sequenceKey ht.typeIs (by decide) ?_)
  refine wpAny_bind (wpAny_callSpecial?_slot (name:=Str.ofString "__getitem__") ht.typeIs PyProof.Rows.slot_tuple_getitem
    (wpAny_call_entry PyProof.Rows.slot_tuple_getitem ht.typeIs entry_tuple_getitem ?_ (args_tuple_getitem _ _)))
  show wpAny _ _ (Builtin.Tuple.tupleItemsOf (.ref t) >>= _) _ _ s
  refine wpAny_bind (tupleItemsOf_ ht ?_)
  refine wpAny_bind (wpAny_typeOf hTs ?_)
  rw [if_pos (by decide)]
  refine wpAny_bind (sliceApplied_gen hs pl pu ?_)
  have hno:¬ ((((sIx items.size 0 lo:Nat):Int) == 0 && (1:Int) == 1 && (sIx items.size items.size hi - sIx items.size 0 lo) == items.size)=true):=by
    intro q
    rw [Bool.and_eq_true,Bool.and_eq_true] at q
    have q1:((sIx items.size 0 lo:Nat):Int)=0:=eq_of_beq q.1.1
    have q2:sIx items.size items.size hi - sIx items.size 0 lo=items.size:=eq_of_beq q.2
    exact hw ⟨by omega,by omega⟩
  show wpAny _ _ (if (((sIx items.size 0 lo:Nat):Int) == 0 && (1:Int) == 1 && (sIx items.size items.size hi - sIx items.size 0 lo) == items.size)=true then _ else _) _ _ s
  rw [if_neg hno,pick_gen]
  first
    | exact wpAny_bind (m:=Builtin.Tuple.tupleExact _) (wpAny_newObj_type (wpAny_pure ⟨_,rfl,wpAny_pure h⟩) htake)
    | exact wpAny_bind (m:=Builtin.Tuple.tupleExact _) (wpAny_newObj_type (wpAny_bind (wpAny_pure (wpAny_pure ⟨_,rfl,wpAny_pure h⟩))) htake)
    | exact wpAny_bind (wpAny_bind (m:=Builtin.Tuple.tupleExact _) (wpAny_newObj_type (wpAny_pure (wpAny_pure ⟨_,rfl,wpAny_pure h⟩)) htake))
    | exact wpAny_bind (wpAny_bind (m:=Builtin.Tuple.tupleExact _) (wpAny_newObj_type (wpAny_pure ⟨_,rfl,wpAny_pure h⟩) htake))
end
end HT
namespace L2
open PySem PySem.Spec PyProof.Rows
abbrev TO:=St→Hp→(Option Int→Hp→Prop)→Prop
def PO (X:Cx) (e:Option Expr) (t:TO):Prop:=
  ∀ (pins:List (Addr × Obj)) (s:Shared) (σ:St) (H:Hp) (Q:Option Int→Hp→Prop),Inv X pins σ H s→t σ H Q →
    wpAny (model X.prog X.w) X.A (evalPart e X.env) (fun u s'=>∃ o H',Inv X pins σ H' s'∧IsPart u o∧Q o H') X.xe s
def tNoPart:TO:=fun _ H Q=>Q none H
def tPart (t:TE):TO:=fun σ H Q=>t σ H fun x H1=>∃ i,x=.int i∧Q (some i) H1
theorem intsAre_of {ns:List Int}:∀ {us:List Value},Vals (ns.map V.int) us→IntsAre us ns:=by
  induction ns with
  | nil=>intro us r; rw [mZ0] at r; cases r; exact .nil
  | cons n ns ih=>
    intro us r
    rw [mZ1] at r
    cases r with
    | cons r1 r2=>
      obtain ⟨t,e⟩:=r1
      subst e
      exact .cons n t (ih r2)
section
variable {X:Cx} {e:Expr} {te:TE} {lo hi:Option Expr} {tl th:TO} {pos p2:Pos}
theorem po_none:PO X none tNoPart:=by
  intro pins s σ H Q I h
  rw [evalPart_none]
  exact wpAny_pure ⟨none,H,I,.none,h⟩
theorem po_some (h:PE X e te):PO X (some e) (tPart te):=by
  intro pins s σ H Q I hw
  rw [evalPart_some]
  refine thn (h pins s σ H _ I hw) fun u s1 ⟨x,H1,I1,r1,q1⟩=>?_
  obtain ⟨i,rfl,q⟩:=q1
  obtain ⟨t,rfl⟩:=r1
  exact ⟨some i,H1,I1,.int i t,q⟩
def SlR (X:Cx) (r:V→Option Int→Option Int→Hp→VK→Prop):Prop:=
  ∀ (pins:List (Addr × Obj)) (s:Shared) (σ:St) (H:Hp) (x:V) (v vl vu:Value) (lo hi:Option Int) (sl:Addr) (Q:VK),Inv X pins σ H s→RelV x v→s.heap.IsSliceOf sl vl vu .none→IsPart vl lo→IsPart vu hi→r x lo hi H Q →
    ∃ T id,typeLookup (.type T) "__getitem__"=pure (some (.builtin id))∧s.TypeIs v T∧wpAny (model X.prog X.w) X.A (getItem v (.ref sl)) (EP X pins σ Q) X.xe s
def tSl (r:V→Option Int→Option Int→Hp→VK→Prop) (te:TE) (tl th:TO):TE:=fun σ H Q=>te σ H fun x H1=>tl σ H1 fun l H2=>th σ H2 fun u H3=>r x l u H3 Q
theorem pe_slice {r:V→Option Int→Option Int→Hp→VK→Prop} (hr:SlR X r) (he:PE X e te) (hl:PO X lo tl) (hu:PO X hi th):PE X (.Subscript e (.Slice lo hi none p2) pos) (tSl r te tl th):=by
  intro pins s σ H Q I h
  refine Subscript_ (thn (he pins s σ H _ I h) fun v s1 ⟨x,H1,I1,r1,q1⟩=>?_)
  refine wpAny_Slice (thn (hl pins s1 σ H1 _ I1 q1) fun vl s2 ⟨l,H2,I2,pl,q2⟩=>thn (hu pins s2 σ H2 _ I2 q2) fun vu s3 ⟨u,H3,I3,pu,q3⟩=>?_)
  rw [evalPart_none]
  refine wpAny_pure ?_
  have I4:Inv X pins σ H3 { s3 with heap:=s3.heap.push { cls:=.type "slice", data:=.fields #[vl,vu,.none] } }:=I3.kept (t':=s3.toks) fun b ob q=>Heap.get?_push_of_some _ q
  obtain ⟨T,id,hT,ht,hg⟩:=hr pins { s3 with heap:=s3.heap.push { cls:=.type "slice", data:=.fields #[vl,vu,.none] } } σ H3 x v vl vu l u s3.heap.objs.size Q I4 r1 (Heap.IsSliceOf.new ..) pl pu q3
  show wpAny (model X.prog X.w) X.A (subscriptTail e (.Slice lo hi none p2) v (.ref s3.heap.objs.size)) (EP X pins σ Q) X.xe { s3 with heap:=s3.heap.push { cls:=.type "slice", data:=.fields #[vl,vu,.none] } }
  exact tail_any (ops:=[.ref s3.heap.objs.size,v]) ht hT hg (by with_unfolding_all rfl)
def cutV (xs:List V) (lo hi:Option Int):List V:=(xs.drop (HT.sIx xs.length 0 lo)).take (HT.sIx xs.length xs.length hi - HT.sIx xs.length 0 lo)
theorem cutV_length (xs:List V) (lo hi:Option Int):(cutV xs lo hi).length≤xs.length:=by
  unfold cutV
  rw [List.length_take,List.length_drop]
  omega
def rSlT (K:PySem.W.Frag):V→Option Int→Option Int→Hp→VK→Prop:=fun x lo hi H Q=>∃ a xs,x=.ref a∧SqT K H a xs ∧
  ¬ (HT.sIx xs.length 0 lo=0∧HT.sIx xs.length xs.length hi=xs.length)∧∀ p,H p=none→Q (.ref p) (upd H p (.tup (cutV xs lo hi)))
theorem sl_tup:SlR X (rSlT X.K):=by
  intro pins s σ H x v vl vu lo hi sl Q I rx hs pl pu h
  obtain ⟨a,xs,rfl,hx,hw,q⟩:=h
  cases rx
  obtain ⟨its,r,ht,hz⟩:=I.tuple hx
  have hlen:its.toArray.size=xs.length:=by rw [List.size_toArray]; exact r.length.symm
  refine ⟨"tuple", _,PyProof.Rows.slot_tuple_getitem.lookup,ht.typeIs,?_⟩
  refine HT.getItem_tuple_cut ht hs pl pu (by rw [hlen]; exact hw) ?_ (by rw [hlen]; exact hz)
  rw [hlen]
  refine ⟨.ref s.heap.objs.size,_,I.laid (t':=s.toks) (o:=.tup (cutV xs lo hi)) (fun b ob q=>Heap.get?_push_of_some _ q) (Nat.le_refl _) ?_,rfl,q _ (I.hok.fresh (Nat.le_refl _))⟩
  exact ⟨Nat.le_trans (cutV_length xs lo hi) hz,_,(r.drop (HT.sIx xs.length 0 lo)).take (HT.sIx xs.length xs.length hi - HT.sIx xs.length 0 lo),IsTup.new _ _⟩
end
def ixN (n:Nat) (i:Int):Option Nat:=if 0≤i then (if i<n then some i.toNat else none) else if -(n:Int)≤i then some (i+n).toNat else none
def atI {α:Type} (xs:List α) (i:Int):Option α:=(ixN xs.length i).bind fun j=>xs[j]?
theorem ixN_seq {n:Nat} {i:Int} {j:Nat} (h:ixN n i=some j):seqIndex? i n=some j∧j<n ∧ -(n:Int)≤i∧i<n:=by
  unfold ixN at h
  by_cases h0:0≤i
  · rw [if_pos h0] at h
    by_cases h1:i<n
    · rw [if_pos h1] at h
      have e:i.toNat=j:=Option.some.inj h
      exact ⟨by rw [seqIndex_of h0 h1,e],by omega,by omega,h1⟩
    · rw [if_neg h1] at h; cases h
  · rw [if_neg h0] at h
    by_cases h1 : -(n:Int)≤i
    · rw [if_pos h1] at h
      have e:(i+n).toNat=j:=Option.some.inj h
      exact ⟨by rw [seqIndex_neg (by omega) h1,e],by omega,h1,by omega⟩
    · rw [if_neg h1] at h; cases h
theorem atI_get {α:Type} {xs:List α} {i:Int} {v:α} (h:atI xs i=some v):∃ j,seqIndex? i xs.length=some j∧xs[j]?=some v∧j<xs.length ∧ -(xs.length:Int)≤i∧i<xs.length:=by
  unfold atI at h
  cases e:ixN xs.length i with
  | none=>rw [e] at h; cases h
  | some j=>
    rw [e] at h
    obtain ⟨h1,h2,h3,h4⟩:=ixN_seq e
    exact ⟨j,h1,h,h2,h3,h4⟩
theorem atI_nat {α:Type} {xs:List α} {j:Nat} {v:α} (h:xs[j]?=some v):atI xs (j:Int)=some v:=by
  have hj:j<xs.length:=(List.getElem?_eq_some_iff.mp h).1
  have e:ixN xs.length (j:Int)=some j:=by
    unfold ixN
    rw [if_pos (by omega),if_pos (by omega)]; simp
  unfold atI; rw [e]; exact h
def PlainIx (b:Expr):Prop:=∀ o i,subscripted b false o i=operate [o,i] (getItem o i)
def IxR (X:Cx) (r:R2):Prop:=
  ∀ (value slice:Expr) (pins:List (Addr × Obj)) (s:Shared) (σ:St) (H:Hp) (x y:V) (v u:Value) (Q:VK),Inv X pins σ H s→RelV x v→RelV y u→r x y H Q →
    subscripted slice false v u=operate [v,u] (getItem v u)→wpAny (model X.prog X.w) X.A (subscriptTail value slice v u) (EP X pins σ Q) X.xe s
def MtR (X:Cx) (id:String) (r:V→List V→Hp→VK→Prop):Prop:=
  ∀ (pins:List (Addr × Obj)) (s:Shared) (σ:St) (H:Hp) (x:V) (xs:List V) (v:Value) (us:List Value) (Q:VK),Inv X pins σ H s→RelV x v→Vals xs us→r x xs H Q →
    wpAny (model X.prog X.w) X.A (call (.builtin id) (v::us)) (EP X pins σ Q) X.xe s
section
variable {X:Cx} {a b:Expr} {ta tb:TE} {pos:Pos}
theorem pe_ix {r:R2} (hr:IxR X r) (ha:PE X a ta) (hb:PE X b tb) (hs:PlainIx b):PE X (.Subscript a b pos) (tOp r ta tb):=by
  intro pins s σ H Q I h
  exact Subscript_ (binT ha hb I h fun v u s2 x y H2 I2 rx ry q=>hr a b pins s2 σ H2 x y v u Q I2 rx ry q (hs _ _))
def rIxL (K:PySem.W.Frag):R2:=fun x y H Q=>∃ p xs i v,x=.ref p∧y=.int i∧SqL K H p xs∧atI xs i=some v∧Q v H
def rIxT (K:PySem.W.Frag):R2:=fun x y H Q=>∃ p xs i v,x=.ref p∧y=.int i∧SqT K H p xs∧atI xs i=some v∧Q v H
theorem ix_list:IxR X (rIxL X.K):=by
  intro value slice pins s σ H x y v u Q I rx ry h hs
  obtain ⟨p,xs,i,z,rfl,rfl,hq,he,q⟩:=h
  cases rx
  obtain ⟨t,rfl⟩:=ry
  obtain ⟨its,r,pl,hz⟩:=I.list hq
  obtain ⟨j,h1,h2,h3,h4,h5⟩:=atI_get he
  obtain ⟨w,ew,rw'⟩:=r.get h2
  have hl:=r.length
  have hn:=line63
  have fin:EP X pins σ Q w s:=⟨z,H,I,rw',q⟩
  by_cases h0:0≤i
  · have hj:i.toNat=j:=by
      rw [seqIndex_of h0 h5] at h1
      exact Option.some.inj h1
    exact item_listR pl.isList h0 (by omega) (by rw [hj]; simpa using ew) fin hs
  · have hj:(i+(its.toArray.size:Int)).toNat=j:=by
      rw [seqIndex_neg (by omega) h4] at h1
      rw [List.size_toArray,← hl]
      exact Option.some.inj h1
    exact subscriptTail_builtinR (x:=w) pl.isList.typeIs slot_list_getitem.lookup
      (wpAny_getItem_list_neg (Q:=fun r s'=>r=w∧EP X pins σ Q r s') pl.isList (by omega) (by rw [List.size_toArray] <;> omega) (by omega) (by rw [hj]; simpa using ew) ⟨rfl,fin⟩) hs
theorem ix_tup:IxR X (rIxT X.K):=by
  intro value slice pins s σ H x y v u Q I rx ry h hs
  obtain ⟨p,xs,i,z,rfl,rfl,hq,he,q⟩:=h
  cases rx
  obtain ⟨t,rfl⟩:=ry
  obtain ⟨its,r,pl,hz⟩:=I.tuple hq
  obtain ⟨j,h1,h2,h3,h4,h5⟩:=atI_get he
  obtain ⟨w,ew,rw'⟩:=r.get h2
  have hl:=r.length
  have hn:=line63
  have fin:EP X pins σ Q w s:=⟨z,H,I,rw',q⟩
  exact subscriptTail_builtinR (x:=w) pl.typeIs slot_tuple_getitem.lookup
    (getItem_tuple (j:=j) (Q:=fun r s'=>r=w∧EP X pins σ Q r s') pl (by omega) (by omega) (by rw [List.size_toArray,← hl]; exact h1) (by simpa using ew) ⟨rfl,fin⟩) hs
theorem mapSeq_set (its:List Value) (n j:Nat) (u:Value):Obj.mapSeq (·.setIfInBounds j u) { cls:=.type "list", data:=.seq its.toArray n }={ cls:=.type "list", data:=.seq (its.set j u).toArray n }:=by
  simp [Obj.mapSeq]
theorem Inv.lst {pins:List (Addr × Obj)} {σ:St} {H:Hp} {s:Shared} {p:Addr} {xs:List V} (I:Inv X pins σ H s) (h:H p=some (.lst xs)) :
    ∃ (its:List Value) (n:Nat),Vals xs its∧s.heap.get? p=some { cls:=.type "list", data:=.seq its.toArray n }∧xs.length≤sizeLine:=by
  obtain ⟨z,its,n,r,e⟩:=I.hok p _ h
  exact ⟨its,n,r,e,z⟩
theorem Inv.lstUpd {pins:List (Addr × Obj)} {σ:St} {H:Hp} {s:Shared} {p:Addr} {xs ys:List V} {its its':List Value} {n n':Nat} {f:Obj→Obj} (I:Inv X pins σ H s) (h:H p=some (.lst xs))
    (ho:s.heap.get? p=some { cls:=.type "list", data:=.seq its.toArray n }) (hf:f { cls:=.type "list", data:=.seq its.toArray n }={ cls:=.type "list", data:=.seq its'.toArray n' }) (r:Vals ys its') (hz:ys.length≤sizeLine) (t:Nat) :
    Inv X pins σ (upd H p (.lst ys)) { s with heap:=s.heap.update p f,toks:=t }:=by
  have e:(s.heap.update p f).get? p=some { cls:=.type "list", data:=.seq its'.toArray n' }:=by
    rw [Heap.get?_update_self f ho (by rw [hf] <;> rfl),hf]
  refine I.write (x:=p) (e:=p) (by rw [h]; trivial) (.inl rfl) (fun b u hb q=>(Heap.get?_update_other _ _ (Ne.symm hb)).trans q) ⟨_,e⟩ ?_
  exact ⟨hz,its',n',r,e⟩
def rSetL:V→V→V→Hp→(Hp→Prop)→Prop:=fun o i v H Q=>∃ p xs k j,o=.ref p∧i=.int k∧H p=some (.lst xs)∧ixN xs.length k=some j∧Q (upd H p (.lst (xs.set j v)))
theorem set_list:PSet X rSetL:=by
  intro pins s σ H o i v ov iv u Q I ro ri rv h
  obtain ⟨p,xs,k,j,rfl,rfl,hp,hj,q⟩:=h
  cases ro
  obtain ⟨t,rfl⟩:=ri
  obtain ⟨its,n,r,ho,hz⟩:=I.lst hp
  obtain ⟨h1,h2,h3,h4⟩:=ixN_seq hj
  have hl:=r.length
  have hn:=line63
  have I':Inv X pins σ (upd H p (.lst (xs.set j v))) { s with heap:=s.heap.update p (Obj.mapSeq (·.setIfInBounds j u)) }:=
    I.lstUpd hp ho (mapSeq_set its n j u) (r.set rv j) (by rw [List.length_set]; exact hz) s.toks
  by_cases h0:0≤k
  · have hk:k.toNat=j:=by
      rw [seqIndex_of h0 h4] at h1
      exact Option.some.inj h1
    exact PySem.W.ki_setAt ho h0 (by omega) (by rw [List.size_toArray,← hl]; exact h4) (by rw [hk]; exact ⟨_,I',q⟩)
  · have hk:(k+(its.toArray.size:Int)).toNat=j:=by
      rw [seqIndex_neg (by omega) h3] at h1
      rw [List.size_toArray,← hl]
      exact Option.some.inj h1
    exact PySem.W.ki_setBack ho (by omega) (by rw [List.size_toArray,← hl]; exact h3) (by omega) (by rw [hk]; exact ⟨_,I',q⟩)
theorem slice_bounds (lo hi:Option Int) (n:Nat):(sliceBounds lo hi none n).1=((HT.sIx n 0 lo:Nat):Int)∧(sliceBounds lo hi none n).2.1=((HT.sIx n n hi:Nat):Int)∧(sliceBounds lo hi none n).2.2=1:=by
  refine ⟨?_,?_,rfl⟩
  · cases lo with
    | none=>simp [sliceBounds,HT.sIx]
    | some i=>
      simp only [sliceBounds,HT.sIx,Option.getD_none,show (1:Int) > 0 by decide,if_true]
      by_cases h:i<0
      · simp only [h,if_true] <;> omega
      · simp only [h,if_false] <;> omega
  · cases hi with
    | none=>simp [sliceBounds,HT.sIx]
    | some i=>
      simp only [sliceBounds,HT.sIx,Option.getD_none,show (1:Int) > 0 by decide,if_true]
      by_cases h:i<0
      · simp only [h,if_true] <;> omega
      · simp only [h,if_false] <;> omega
theorem slicePick_cut (its:List Value) (lo hi:Option Int):slicePick its.toArray lo hi none=((its.drop (HT.sIx its.length 0 lo)).take (HT.sIx its.length its.length hi - HT.sIx its.length 0 lo)).toArray:=by
  obtain ⟨h1,h2,h3⟩:=slice_bounds lo hi its.toArray.size
  unfold slicePick
  rw [h1,h2,h3]
  simp only [sliceRange_one,pick_run,List.size_toArray] <;> rfl
def rSlL (K:PySem.W.Frag):V→Option Int→Option Int→Hp→VK→Prop:=fun x lo hi H Q=>∃ a xs,x=.ref a∧SqL K H a xs∧∀ p,H p=none→Q (.ref p) (upd H p (.lst (cutV xs lo hi)))
theorem sl_list:SlR X (rSlL X.K):=by
  intro pins s σ H x v vl vu lo hi sl Q I rx hs pl pu h
  obtain ⟨a,xs,rfl,hx,q⟩:=h
  cases rx
  obtain ⟨its,r,ht,hz⟩:=I.list hx
  have hlen:=r.length
  refine ⟨"list", _,slot_list_getitem.lookup,ht.isList.typeIs,?_⟩
  refine wpAny_getItem_list_slice ht.isList hs pl pu .none (by simp) ?_ (by rw [List.size_toArray] <;> omega)
  rw [slicePick_cut,← hlen]
  refine ⟨.ref s.heap.objs.size,_,I.laid (t':=s.toks) (o:=.lst (cutV xs lo hi)) (fun b ob q=>Heap.get?_push_of_some _ q) (Nat.le_refl _) ?_,rfl,q _ (I.hok.fresh (Nat.le_refl _))⟩
  exact ⟨Nat.le_trans (cutV_length xs lo hi) hz,_,0,(r.drop (HT.sIx xs.length 0 lo)).take (HT.sIx xs.length xs.length hi - HT.sIx xs.length 0 lo),Heap.get?_push_size _ rfl⟩
def flatV:V→Bool
  | .non=>true
  | .bl _=>true
  | .int _=>true
  | .str _=>true
  | _=>false
def eqV:V→V→Bool
  | .non,.non=>true
  | .bl a,.bl b=>a == b
  | .bl a,.int b=>(if a then 1 else 0) == b
  | .int a,.bl b=>a == (if b then 1 else 0)
  | .int a,.int b=>a == b
  | .str a,.str b=>a == b
  | _,_=>false
theorem eqAt_V {A:Around} {s:Shared} {y x:V} {u v:Value} (ry:RelV y u) (rx:RelV x v) (fy:flatV y=true) (fx:flatV x=true):SeqAt.EqAt A s u v (eqV y x):=by
  cases y with
  | non=>
    cases ry
    cases x with
    | non=>cases rx; exact SeqAt.EqAt.same _
    | bl b=>cases rx; exact SeqAt.EqAt.none_bool b
    | int b=>obtain ⟨t,rfl⟩:=rx; exact SeqAt.EqAt.none_int b t
    | str b=>obtain ⟨t,rfl⟩:=rx; exact SeqAt.EqAt.none_str b t
    | _=>exact absurd (show false=true from fx) Bool.false_ne_true
  | bl a=>
    cases ry
    cases x with
    | non=>cases rx; exact SeqAt.EqAt.bool_none a
    | bl b=>cases rx; exact SeqAt.EqAt.bool_bool a b
    | int b=>obtain ⟨t,rfl⟩:=rx; exact SeqAt.EqAt.bool_int a b t
    | str b=>obtain ⟨t,rfl⟩:=rx; exact SeqAt.EqAt.bool_str a b t
    | _=>exact absurd (show false=true from fx) Bool.false_ne_true
  | int a=>
    obtain ⟨t',rfl⟩:=ry
    cases x with
    | non=>cases rx; exact SeqAt.EqAt.int_none a t'
    | bl b=>cases rx; exact SeqAt.EqAt.int_bool a t' b
    | int b=>obtain ⟨t,rfl⟩:=rx; exact SeqAt.EqAt.int_int a t' b t
    | str b=>obtain ⟨t,rfl⟩:=rx; exact SeqAt.EqAt.int_str a t' b t
    | _=>exact absurd (show false=true from fx) Bool.false_ne_true
  | str a=>
    obtain ⟨t',rfl⟩:=ry
    cases x with
    | non=>cases rx; exact SeqAt.EqAt.str_none a t'
    | bl b=>cases rx; exact SeqAt.EqAt.str_bool a t' b
    | int b=>obtain ⟨t,rfl⟩:=rx; exact SeqAt.EqAt.str_int a t' b t
    | str b=>obtain ⟨t,rfl⟩:=rx; exact SeqAt.EqAt.str_str a t' b t
    | _=>exact absurd (show false=true from fx) Bool.false_ne_true
  | _=>exact absurd (show false=true from fy) Bool.false_ne_true
def eqU (x:V) (u:Value):Bool:=match u with
  | .none=>eqV .non x
  | .bool b=>eqV (.bl b) x
  | .int i _=>eqV (.int i) x
  | .str z _=>eqV (.str z) x
  | _=>false
theorem eqU_of {x y:V} {u:Value} (r:RelV y u) (f:flatV y=true):eqU x u=eqV y x:=by
  cases y with
  | non=>cases r; rfl
  | bl b=>cases r; rfl
  | int i=>obtain ⟨t,rfl⟩:=r; rfl
  | str z=>obtain ⟨t,rfl⟩:=r; rfl
  | _=>exact absurd (show false=true from f) Bool.false_ne_true
theorem any_eqU {x:V}:∀ {xs:List V} {us:List Value},Vals xs us→xs.all flatV=true→us.any (eqU x)=xs.any fun y=>eqV y x
  | _,_,.nil,_=>rfl
  | y::xs,u::us,.cons r t,f=>by
    rw [List.all_cons,Bool.and_eq_true] at f
    rw [List.any_cons,List.any_cons,eqU_of r f.1,any_eqU t f.2]
theorem mem_eqAt {A:Around} {s:Shared} {x:V} {v:Value} (rx:RelV x v) (fx:flatV x=true):∀ {xs:List V} {us:List Value},Vals xs us→xs.all flatV=true→∀ u∈us,SeqAt.EqAt A s u v (eqU x u)
  | _,_,.nil,_=>fun u hu=>by cases hu
  | y::xs,u::us,.cons r t,f=>fun u' hu=>by
    rw [List.all_cons,Bool.and_eq_true] at f
    rcases List.mem_cons.mp hu with rfl|hu
    · rw [eqU_of r f.1]; exact eqAt_V r rx f.1 fx
    · exact mem_eqAt rx fx t f.2 u' hu
def inV (x:V) (xs:List V):Bool:=xs.any fun y=>eqV y x
def rIn (K:PySem.W.Frag) (neg:Bool):R2:=fun x y H Q=>∃ p xs,y=.ref p∧(SqL K H p xs∨SqT K H p xs)∧flatV x=true∧xs.all flatV=true∧Q (.bl (if neg then !inV x xs else inV x xs)) H
theorem op_in_seq:OpR X (compareOp .In) (rIn X.K false):=by
  intro pins s σ H x y v u Q I rx ry h
  obtain ⟨p,xs,rfl,hq,fx,fs,q⟩:=h
  cases ry
  rcases hq with hq|hq
  · obtain ⟨its,r,pl,hz⟩:=I.list hq
    refine SeqAt.in_listAt (eqU x) pl.isList (fun w hw=>mem_eqAt rx fx r fs w (by simpa using hw)) ⟨.bl _,H,I,rfl,?_⟩
    rw [show its.toArray.any (eqU x)=its.any (eqU x) by simp,any_eqU r fs]
    exact q
  · obtain ⟨its,r,pl,hz⟩:=I.tuple hq
    refine SeqAt.in_tupleAt (eqU x) pl (fun w hw=>mem_eqAt rx fx r fs w (by simpa using hw)) ⟨.bl _,H,I,rfl,?_⟩
    rw [show its.toArray.any (eqU x)=its.any (eqU x) by simp,any_eqU r fs]
    exact q
theorem op_notIn_seq:OpR X (compareOp .NotIn) (rIn X.K true):=by
  intro pins s σ H x y v u Q I rx ry h
  obtain ⟨p,xs,rfl,hq,fx,fs,q⟩:=h
  cases ry
  rcases hq with hq|hq
  · obtain ⟨its,r,pl,hz⟩:=I.list hq
    refine SeqAt.notIn_listAt (eqU x) pl.isList (fun w hw=>mem_eqAt rx fx r fs w (by simpa using hw)) ⟨.bl _,H,I,rfl,?_⟩
    rw [show its.toArray.any (eqU x)=its.any (eqU x) by simp,any_eqU r fs]
    exact q
  · obtain ⟨its,r,pl,hz⟩:=I.tuple hq
    refine SeqAt.notIn_tupleAt (eqU x) pl (fun w hw=>mem_eqAt rx fx r fs w (by simpa using hw)) ⟨.bl _,H,I,rfl,?_⟩
    rw [show its.toArray.any (eqU x)=its.any (eqU x) by simp,any_eqU r fs]
    exact q
theorem call_len_seq:CallR X (.builtin "len") (fun xs H Q=>∃ p ys,xs=[.ref p]∧(SqL X.K H p ys∨SqT X.K H p ys)∧Q (.int ys.length) H):=by
  intro pins s σ H xs us Q I r h
  obtain ⟨p,ys,rfl,hq,q⟩:=h
  obtain ⟨u,rfl,rx⟩:=vals1 r
  cases rx
  have hn:=line63
  rcases hq with hq|hq
  · obtain ⟨its,r',pl,hz⟩:=I.list hq
    have hlen:=r'.length
    exact Calls.call_len_list pl.isList (by simp only [List.size_toArray] <;> omega) ⟨.int ys.length,H,I.tok _,⟨s.toks+1,by rw [List.size_toArray,hlen]⟩,q⟩
  · obtain ⟨its,r',pl,hz⟩:=I.tuple hq
    have hlen:=r'.length
    exact len_tuple pl (by simp only [List.size_toArray] <;> omega) ⟨.int ys.length,H,I.tok _,⟨s.toks+1,by rw [List.size_toArray,hlen]⟩,q⟩
theorem call_len_str:CallR X (.builtin "len") (fun xs H Q=>∃ z,xs=[.str z]∧z.length≤sizeLine∧Q (.int z.length) H):=by
  intro pins s σ H xs us Q I r h
  obtain ⟨z,rfl,hz,q⟩:=h
  obtain ⟨u,rfl,t,rfl⟩:=vals1 r
  have hn:=line63
  exact len_str (by omega) ⟨.int z.length,H,I.tok _,⟨_,rfl⟩,q⟩
theorem call_list_of:CallR X (.type "list") (fun xs H Q=>∃ p ys,xs=[.ref p]∧(SqL X.K H p ys∨SqT X.K H p ys)∧∀ l,H l=none→Q (.ref l) (upd H l (.lst ys))):=by
  intro pins s σ H xs us Q I r h
  obtain ⟨p,ys,rfl,hq,q⟩:=h
  obtain ⟨u,rfl,rx⟩:=vals1 r
  cases rx
  have fin:∀ (its:List Value),Vals ys its→ys.length≤sizeLine→∀ (h':Heap) (c':Nat),(∀ b o',s.heap.get? b=some o'→h'.get? b=some o') →
      h'.get? s.heap.objs.size=some { cls:=.type "list", dict:=none,data:=.seq its.toArray c',slots:=#[] }→EP X pins σ Q (.ref s.heap.objs.size) { s with heap:=h' }:=fun its r' hz h' c' kp e=>
    ⟨.ref s.heap.objs.size,_,I.laid (t':=s.toks) kp (Nat.le_refl _) (show ObjOk X.prog X.w _ h' _ (.lst ys) from ⟨hz,its,c',r',e⟩),rfl,q _ (I.hok.fresh (Nat.le_refl _))⟩
  rcases hq with hq|hq
  · obtain ⟨its,r',pl,hz⟩:=I.list hq
    have hlen:=r'.length
    obtain ⟨o,ho,hc,n,hd⟩:=pl.isList
    exact call_list_seq p (.inl rfl) ho hc hd (fun h' c' kp e=>fin its r' hz h' c' kp e) (by simp only [List.size_toArray] <;> omega)
  · obtain ⟨its,r',pl,hz⟩:=I.tuple hq
    have hlen:=r'.length
    obtain ⟨o,ho,hc,n,hd⟩:=pl
    exact call_list_seq p (.inr rfl) ho hc hd (fun h' c' kp e=>fin its r' hz h' c' kp e) (by simp only [List.size_toArray] <;> omega)
def tyV (K:PySem.W.Frag) (T:String) (x:V) (H:Hp):Prop:=match x with
  | .str _=>T="str"
  | .int _=>T="int"
  | .ref p=>(T="list"∧∃ xs,SqL K H p xs)∨(T="tuple"∧∃ o,K.lookup p=some o∧o.cls=.type "tuple"∧o.dict=none) ∨
      (T="dict"∧((∃ kvs,H p=some (.dK kvs))∨∃ kvs,H p=some (.dT kvs)))∨(T="set"∧∃ S n,H p=some (.set S n))
  | _=>False
theorem tyV_is {pins:List (Addr × Obj)} {σ:St} {H:Hp} {s:Shared} {T:String} {x:V} {v:Value} (I:Inv X pins σ H s) (r:RelV x v) (ty:tyV X.K T x H) :
    s.TypeIs v T∧∀ a,v=.ref a→∃ ob,s.heap.get? a=some ob∧ob.dict=none:=by
  cases x with
  | str z=>
    obtain ⟨t,rfl⟩:=r
    cases (show T="str" from ty)
    exact ⟨typeIs_str s z t,fun _ e=>nomatch e⟩
  | int i=>
    obtain ⟨t,rfl⟩:=r
    cases (show T="int" from ty)
    exact ⟨typeIs_int s i t,fun _ e=>nomatch e⟩
  | ref p=>
    cases r
    rcases ty with ⟨rfl,xs,hq⟩|⟨rfl,o,hk,hc,hd⟩|⟨rfl,hk⟩|⟨rfl,S,n,hk⟩
    · obtain ⟨its,_,pl,_⟩:=I.list hq
      refine ⟨pl.isList.typeIs,fun a e=>?_⟩
      cases e
      obtain ⟨o,n,e,c,hd,_⟩:=pl
      exact ⟨o,e,hd⟩
    · refine ⟨⟨o,I.kIn p o hk,hc⟩,fun a e=>?_⟩
      cases e
      exact ⟨o,I.kIn _ o hk,hd⟩
    · have z:∃ o,s.heap.get? p=some o∧o.ExactDict:=by
        rcases hk with ⟨kvs,hk⟩|⟨kvs,hk⟩
        · obtain ⟨_,_,_,_,o,_,_,e,ex,_⟩:=I.hok p _ hk
          exact ⟨o,e,ex⟩
        · obtain ⟨_,_,_,_,o,_,_,e,ex,_⟩:=I.hok p _ hk
          exact ⟨o,e,ex⟩
      obtain ⟨o,e,ex⟩:=z
      refine ⟨⟨o,e,ex.1⟩,fun a e2=>?_⟩
      cases e2
      exact ⟨o,e,ex.2.1⟩
    · obtain ⟨o,_,_,_,e,ex,_⟩:=I.hok p _ hk
      refine ⟨⟨o,e,ex.1⟩,fun a e2=>?_⟩
      cases e2
      exact ⟨o,e,ex.2.1⟩
  | _=>exact False.elim ty
def tBM0 (K:PySem.W.Frag) (T:String) (r:V→List V→Hp→VK→Prop) (to:TE):TE:=fun σ H Q=>to σ H fun x H1=>tyV K T x H1∧r x [] H1 Q
def tBM (K:PySem.W.Frag) (T:String) (r:V→List V→Hp→VK→Prop) (to:TE) (t:TA):TE:=fun σ H Q=>to σ H fun x H1=>tyV K T x H1∧t σ H1 fun xs H2=>r x xs H2 Q
variable {o e:Expr} {es:List Expr} {to:TE} {t:TA} {name:Str} {apos cpos:Pos} {T id:String} {r:V→List V→Hp→VK→Prop}
end
def MtM (X:Cx) (id:String) (r:V→List V→Hp→VK→Prop):Prop:=
  ∀ (pins:List (Addr × Obj)) (s:Shared) (σ:St) (H:Hp) (x:V) (xs:List V) (v:Value) (us:List Value) (Q:VK),Inv X pins σ H s→RelV x v→Vals xs us→r x xs H Q →
    wpAny (model X.prog X.w) X.A (call (.builtin id) (v::us)) (EP X pins σ Q) X.xe s
theorem Vals.one:∀ {x:V} {us:List Value},Vals [x] us→∃ u,us=[u]∧RelV x u
  | _,_,.cons r .nil=>⟨_,rfl,r⟩
section
variable {X:Cx} {pins:List (Addr × Obj)} {σ:St} {H:Hp} {s:Shared} {l b:Addr} {xs ys zs:List V}
theorem Inv.lset {its its':List Value} {n:Nat} {f:Array Value→Array Value} {t':Nat} (I:Inv X pins σ H s) (hH:H l=some (.lst xs))
    (e:s.heap.get? l=some { cls:=.type "list", data:=.seq its.toArray n }) (hf:f its.toArray=its'.toArray) (hv:Vals ys its') (hz:ys.length≤sizeLine) :
    Inv X pins σ (upd H l (.lst ys)) { s with heap:=s.heap.update l (Obj.mapSeq f),toks:=t' }:=by
  have q:=PySem.IsL.update e f
  rw [hf] at q
  refine I.write (x:=l) (e:=l) (by rw [hH]; exact trivial) (.inl rfl) (fun b' u hb hu=>(Heap.get?_update_other s.heap (Obj.mapSeq f) (Ne.symm hb)).trans hu) ⟨_,q⟩ ?_
  exact ⟨hz,its',_,hv,q⟩
theorem Inv.lnew {its:List Value} {t':Nat} (I:Inv X pins σ H s) (hv:Vals ys its) (hz:ys.length≤sizeLine) :
    Inv X pins σ (upd H s.heap.objs.size (.lst ys)) { s with heap:=s.heap.push { cls:=.type "list", data:=.seq its.toArray },toks:=t' }:=
  I.laid (fun _ _ q=>Heap.get?_push_of_some _ q) (Nat.le_refl _) ⟨hz,its,0,hv,Heap.get?_push_size _ rfl⟩
theorem Inv.fresh (I:Inv X pins σ H s):H s.heap.objs.size=none:=I.hok.fresh (Nat.le_refl _)
theorem Inv.lstM (I:Inv X pins σ H s) (hH:H l=some (.lst xs)):xs.length≤sizeLine∧∃ (its:List Value) (n:Nat),Vals xs its∧xs.length=its.length∧s.heap.get? l=some { cls:=.type "list", data:=.seq its.toArray n }:=by
  obtain ⟨z,its,n,r,e⟩:=I.hok l _ hH
  exact ⟨z,its,n,r,r.length,e⟩
end
section
variable {X:Cx}
def rAppend:V→List V→Hp→VK→Prop:=fun x vs H Q=>∃ l xs y,x=.ref l∧vs=[y]∧H l=some (.lst xs)∧xs.length<sizeLine∧Q .non (upd H l (.lst (xs++[y])))
theorem mt_append:MtM X "list.append" rAppend:=by
  intro pins s σ H x vs v us Q I rx rv h
  obtain ⟨l,xs,y,rfl,rfl,hH,hz,q⟩:=h
  cases rx
  obtain ⟨u,rfl,ru⟩:=rv.one
  obtain ⟨z,its,n,r,hl,e⟩:=I.lstM hH
  refine call_meets F.slot_list_append ⟨_,e,rfl⟩ F.entry_list_append (F.args_list_append_2 _ _) (PySem.list_append l its.toArray n u (by rw [List.size_toArray]; omega)) ⟨e,?_⟩
  refine ⟨.non,_,I.lset (its':=its++[u]) hH e (by simp) (r.append (.cons ru .nil)) ?_,rfl,q⟩
  rw [List.length_append,List.length_singleton]
  omega
def rCat:R2:=fun x y H Q=>∃ l b xs zs,x=.ref l∧y=.ref b∧H l=some (.lst xs)∧H b=some (.lst zs)∧xs.length+zs.length≤sizeLine∧∀ p,H p=none→Q (.ref p) (upd H p (.lst (xs++zs)))
theorem op_cat:OpR X (binaryOp .Add) rCat:=by
  intro pins s σ H x y v u Q I rx ry h
  obtain ⟨l,b,xs,zs,rfl,rfl,hH,hB,hz,q⟩:=h
  cases rx
  cases ry
  obtain ⟨z,its,n,r,hl,e⟩:=I.lstM hH
  obtain ⟨z2,its2,n2,r2,hl2,e2⟩:=I.lstM hB
  refine PySem.P.add_list e e2 ?_ (by rw [List.size_toArray,List.size_toArray]; omega)
  have ea:its.toArray++its2.toArray=(its++its2).toArray:=by simp
  rw [ea]
  exact ⟨.ref _,_,I.lnew (t':=s.toks) (r.append r2) (by rw [List.length_append]; omega),rfl,q _ I.fresh⟩
end
section
variable {prog:Program} {w:World} {A:Around} {E:Value→Shared→Prop} {s:Shared}
end
section
variable {X:Cx}
end
end L2
namespace Att
open PySem PySem.W PySem.Calls PyProof.Rows
theorem ints_of_wellAll {P:Params} {h:Heap}:∀ (ns:List Int) (vs:List Value),WellAll P h vs (ns.map WData.int)→IntsAre vs ns:=by
  intro ns
  induction ns with
  | nil=>
    intro vs w
    rw [mZ0] at w
    cases w
    exact .nil
  | cons n ns ih=>
    intro vs w
    rw [mZ1] at w
    cases w with
    | cons a b=>
      cases a
      exact .cons _ _ (ih _ b)
theorem script_of {l:OpenLaw} {n:Nat} (hn:l.most=some n) {P:Params} {h:Heap} {args:List WData} {vals:List Value}
    (hpre:l.row.toRowW.claim.pre args=true) (hwl:WellAll P h vals args) :
    ∃ a vs ns,vals=[Value.ref a]∧args=[WData.list (ns.map WData.int)]∧h.get? a=some { cls:=.type "list", data:=.seq vs.toArray }∧IntsAre vs ns∧ns.length≤n:=by
  have hsh:WShape.hasAll [] args [.list .int]=true:=(pre_splitW hpre).1
  have hc:l.pre.holds [] { args:=args }=true:=(pre_splitW hpre).2
  obtain ⟨d,r,rfl,h1,h2⟩:=hasAllW_cons hsh
  obtain rfl:=hasAllW_nil h2
  obtain ⟨xs,rfl,h3⟩:=hasW_list h1
  obtain ⟨ns,rfl⟩:=items_int h3
  have hlen:ns.length≤n:=by
    unfold OpenLaw.pre at hc
    have h4:(WTm.not (.lt (.lit (.int (n:Int))) (.len (.arg 0)))).holds [] { args:=[.list (ns.map .int)] }=true:=by
      have h4:=(holds_andW hc).1
      rw [hn] at h4
      exact h4
    have h5:=condW_of h4 (w_not (w_lt w_lit (w_len_list (w_arg rfl))))
    rw [List.length_map] at h5
    refine Nat.le_of_not_lt fun q=>?_
    have q':(n:Int)<((ns.length:Nat):Int):=by omega
    first
      | (rw [decide_eq_true q'] at h5; exact absurd h5 (by decide))
      | (simp at h5; omega)
  cases hwl with
  | cons w1 w2=>
    cases w2
    cases w1 with
    | list ho hall=>exact ⟨_,_,ns,rfl,rfl,ho,ints_of_wellAll ns _ hall,hlen⟩
theorem post_true (l:OpenLaw) (args:List WData):l.row.toRowW.claim.post args (.bool true) args=true:=
  postW_of (r:=l.row.toRowW) (X:=(true == true))
    (show WShape.has [] (.bool true) .bool=true by first|rfl|decide|simp [WShape.has,WShape.arms,WShape.armsAll])
    (show (WTm.eq .res (.lit (.bool true))).value [] { args:=args,res:=some (.bool true),after:=args }=some (.bool (true == true)) from w_eq_bool (w_res rfl) w_lit) rfl
theorem attach_call {l:OpenLaw} {n:Nat} {q:Program} {loose:List Str} {XP:(Str→Option Value)→Heap→Prop} {YP:World→Heap→Prop} {d:DefRec}
    (hn:l.most=some n) (hdf:d.params.defaults=[])
    (call:∀ (w:World) (s₀ s₁:Shared) (mg mb:Str→Option Value) (fa:Addr) (o:Obj) (pm cd doc:Value) (a:Addr) (vs:List Value) (ns:List Int),
      Ground q loose [] XP w s₀ mg mb s₁.heap→YP w s₁.heap →
      s₁.heap.get? fa=some o→o.data=.func (docDef d.name d.params d.body d.scope pm cd doc)→s₁.heap.CodeRec cd d.name→mg d.name=some (.ref fa) →
      s₁.heap.get? a=some { cls:=.type "list", data:=.seq vs.toArray }→IntsAre vs ns→ns.length≤n→s₁.gens=#[] →
      codeAny (model l.prog w) callerA (.call (.ref fa) ⟨[.ref a],[]⟩) (fun r s'=>r=.ok (.ret (.bool true))∧OldK s₁.heap s'.heap∧s'.os=s₁.os∧AllBare s'.gens) s₁) :
    WalkO q loose XP YP l.row.toRowW d [] (fun f vs=>PySem.call f vs):=by
  intro w s₀ s₁ mg mb G Y fa o pm cd doc dV kV ho hd hcd hD hmg hg args vals as hpre hlay hrd hwl hlo
  obtain rfl:dV=.none:=Dflts.none hD hdf
  obtain rfl:kV=.none:=Dflts.noKw hD
  obtain ⟨a,vs,ns,rfl,rfl,hobj,hints,hlen⟩:=script_of hn hpre hwl
  refine enter_call (codeAny_mono (call w s₀ s₁ mg mb fa o pm cd doc a vs ns G Y ho (fd_plain hd) hcd hmg hobj hints hlen hg) fun r s' hq=>?_)
  obtain ⟨rfl,h2,h3,h4⟩:=hq
  exact ⟨.inl ⟨.bool true,.bool true,[],rfl,fun _=>rfl,.bool true,post_true l _,fun _=>⟨List.Pairwise.nil,fun _ hm=>(nomatch hm)⟩⟩,h2,h3,h4⟩
section
variable {prog:Program} {w:World} {A:Around} {E:Value→Shared→Prop} {s:Shared} {K:Frag}
def ledger (h:Heap) (L d:Addr):List (Addr × Obj):=(List.range h.objs.size).filterMap fun a=>if a=L∨a=d then none else (h.get? a).map fun o=>(a,o)
end
end Att
namespace L2
open PySem PySem.Spec PyProof.Rows
theorem vals_ints:∀ {vs:List Value} {ns:List Int},IntsAre vs ns→Vals (ns.map V.int) vs
  | _,_,.nil=>.nil
  | _,_,.cons n t h=>.cons ⟨t,rfl⟩ (vals_ints h)
abbrev KOf {K:PySem.W.Frag} {h:Heap} (_:K.In h):PySem.W.Frag:=K
def inClass (s:Stmt) (j:Nat):Stmt:=match s with
  | .ClassDef _ _ _ body _ _ _ _ _ _ _=>body.getD j (.Pass ⟨0,0,0,0⟩)
  | _=>.Pass ⟨0,0,0,0⟩
def defArgs (s:Stmt):Arguments:=match s with
  | .FunctionDef _ a _ _ _ _ _ _ _ _=>a
  | _=>{ posonlyargs:=[],args:=[],vararg:=none,kwonlyargs:=[],kw_defaults:=[],kwarg:=none,defaults:=[] }
def defBody (s:Stmt):List Stmt:=match s with
  | .FunctionDef _ _ b _ _ _ _ _ _ _=>b
  | _=>[]
def defScope (s:Stmt):Scope:=match s with
  | .FunctionDef _ _ _ _ _ _ sc _ _ _=>sc
  | _=>{ kind:=.function,names:=[],isGenerator:=false,isCoroutine:=false }
abbrev CX0:CXT:=fun _ _ _ _ _ _=>False
abbrev E0:XK:=fun _ _ _=>False
theorem pass0 {X:Cx}:Passes CX0 X E0:=fun _ _ _ _ _ _ _ h=>h.elim
structure Fun (K:PySem.W.Frag) (x qual:Str) (st:Stmt) (f:Addr) (fd:FuncData):Prop where
  ex:∃ (oc:Value) (od:Option Addr) (kV doc pm:Value) (an:Option Addr) (cdv ct:Value) (osl:Array (Option Value)),
    fd=PySem.W.fnOf x qual (defArgs st) (defBody st) (defScope st) .none kV doc pm an cdv ct∧K.lookup f=some ⟨oc,od,.func fd,osl⟩∧PySem.W.codeIn K cdv qual=true
  kp:PySem.W.keepIn K (.ref f)=true
section
variable {P:Program} {w:World} {K:PySem.W.Frag} {mg:Str→Option Value} {base:Heap}
theorem Fun.ok {x qual:Str} {st:Stmt} {f:Addr} {fd:FuncData} {N ps:List Str} {k:Nat} {sp:Sp} (F:Fun K x qual st f fd) (S:FnScope N ps (defScope st)) (len:∀ vs H Q E,sp vs H Q E→vs.length=ps.length)
    (hbody:∀ (cdv:Value) (A:Around) (outer:List Env) (s:Shared) (H:Hp) (vs:List V) (Q:VK) (E:XK),Room k (A.deeper (envOfC qual (defScope st) s.heap.objs.size f cdv))→sp vs H Q E →
      ∃ t,PSs (cxOf CX0 P w K mg base N qual (defScope st) f cdv A outer s H E).nox (defBody st) t∧t { nx:=fun _ H'=>Q .non H',rt:=Q } (start N vs) H):FnOk P w K mg base CX0 (k+1) f fd ps sp:=by
  obtain ⟨oc,od,kV,doc,pm,an,cdv,ct,osl,rfl,lk,hcd⟩:=F.ex
  refine fn_of lk hcd S len fun A outer s H vs Q E hr hsp=>?_
  obtain ⟨t,h,q⟩:=hbody cdv A outer s H vs Q E hr hsp
  exact ⟨t,h.nox,q⟩
theorem Fun.binds {x qual:Str} {st:Stmt} {f:Addr} {fd:FuncData} {ps:List Str} (F:Fun K x qual st f fd)
    (h:∀ (kV doc pm:Value) (an:Option Addr) (cdv ct:Value) (us:List Value),us.length=ps.length→bindArgs (PySem.W.fnOf x qual (defArgs st) (defBody st) (defScope st) .none kV doc pm an cdv ct) ⟨us,[]⟩=pure (ps.zip us)):Binds K fd ps []:=by
  obtain ⟨oc,od,kV,doc,pm,an,cdv,ct,osl,rfl,lk,hcd⟩:=F.ex
  exact .all (h kV doc pm an cdv ct)
theorem fun_mk {x qual:Str} {st:Stmt} {f:Addr} {oc:Value} {od an:Option Addr} {osl:Array (Option Value)} {kV doc pm cdv ct:Value} (l:K.lookup f=some ⟨oc,od,.func (PySem.W.fnOf x qual (defArgs st) (defBody st) (defScope st) .none kV doc pm an cdv ct),osl⟩)
    (c:PySem.W.codeIn K cdv qual=true) (k:PySem.W.keepIn K (.ref f)=true):Fun K x qual st f (PySem.W.fnOf x qual (defArgs st) (defBody st) (defScope st) .none kV doc pm an cdv ct):=⟨⟨oc,od,kV,doc,pm,an,cdv,ct,osl,rfl,l,c⟩,k⟩
end
section
variable {X:Cx}
theorem pv (i:Nat) {x:Str} {pos:Pos} (hN:X.N[i]?=some x:=by rfl) (hv:Vis X.env.scope x:=by first|exact Or.inl rfl|exact Or.inr (Or.inl rfl)|exact Or.inr (Or.inr rfl)) (hd:(x == ("__debug__":Str))=false:=by decide)
    (hcd:(x == ("__classdict__":Str))=false:=by decide):PE X (.Name x pos) (tVar i):=pe_var hN hv hd hcd
end
theorem iteF {A B:Prop} (h:B):if false=true then A else B:=by
  rw [if_neg Bool.false_ne_true]
  exact h
theorem iteT {A B:Prop} (h:A):if true=true then A else B:=by
  rw [if_pos rfl]
  exact h
theorem ite2 {c A B:Prop} [Decidable c] (h1:c→A) (h2:¬ c→B):if c then A else B:=by
  by_cases h:c
  · rw [if_pos h]
    exact h1 h
  · rw [if_neg h]
    exact h2 h
def Same (H H':Hp):Prop:=∀ b o,H b=some o→H' b=some o
theorem Same.refl (H:Hp):Same H H:=fun _ _ h=>h
theorem Same.trans {H H1 H2:Hp} (a:Same H H1) (b:Same H1 H2):Same H H2:=fun c o h=>b c o (a c o h)
theorem Same.seq {K:PySem.W.Frag} {H H':Hp} {a:Addr} {xs:List V} (e:Same H H') (h:SqL K H a xs):SqL K H' a xs:=by
  rcases h with (h|⟨o,h⟩)|h
  · exact .inl (.inl (e _ _ h))
  · exact .inl (.inr ⟨o,e _ _ h⟩)
  · exact .inr h
section
variable {κ:Type} [DecidableEq κ]
def valV (kvs:List (κ × V)) (k:κ):Option V:=(kvs.find? fun kv=>decide (kv.1=k)).map (·.2)
def putK (kvs:List (κ × V)) (k:κ) (v:V):List (κ × V):=
  if (kvs.any fun kv=>decide (kv.1=k))=true then kvs.map (fun kv=>if kv.1=k then (kv.1,v) else kv) else kvs++[(k,v)]
def dropK (kvs:List (κ × V)) (k:κ):List (κ × V):=kvs.filter fun kv=>decide (kv.1≠k)
theorem valV_nil {k:κ}:valV ([]:List (κ × V)) k=none:=rfl
theorem valV_pos {p:κ × V} {r:List (κ × V)} {k:κ} (e:p.1=k):valV (p::r) k=some p.2:=by simp [valV,List.find?_cons,e]
theorem valV_neg {p:κ × V} {r:List (κ × V)} {k:κ} (e:¬ p.1=k):valV (p::r) k=valV r k:=by simp [valV,List.find?_cons,e]
theorem valV_any (k:κ):∀ kvs:List (κ × V),(kvs.any fun kv=>decide (kv.1=k))=(valV kvs k).isSome
  | []=>rfl
  | p::r=>by
    rw [List.any_cons]
    by_cases e:p.1=k
    · simp only [valV_pos e,decide_eq_true e,Bool.true_or,Option.isSome_some]
    · rw [valV_neg e,decide_eq_false e,Bool.false_or]; exact valV_any k r
theorem valV_map (k j:κ) (y:V):∀ kvs:List (κ × V),valV (kvs.map fun kv=>if kv.1=k then (kv.1,y) else kv) j=(valV kvs j).map fun x=>if j=k then y else x
  | []=>rfl
  | p::r=>by
    have ih:=valV_map k j y r
    rw [mZ1]
    by_cases h:p.1=k
    · rw [if_pos h]
      by_cases e:p.1=j
      · rw [valV_pos (p:=(p.1,y)) e,valV_pos e,Option.map_some,if_pos (e.symm.trans h)]
      · rw [valV_neg (p:=(p.1,y)) e,valV_neg e,ih]
    · rw [if_neg h]
      by_cases e:p.1=j
      · rw [valV_pos (p:=p) e,valV_pos e,Option.map_some,if_neg (fun z=>h (e.trans z))]
      · rw [valV_neg (p:=p) e,valV_neg e,ih]
theorem valV_snoc (k j:κ) (y:V):∀ kvs:List (κ × V),valV kvs k=none→valV (kvs++[(k,y)]) j=if j=k then some y else valV kvs j
  | [],_=>by
    by_cases e:k=j
    · rw [if_pos e.symm]; exact valV_pos (p:=(k,y)) e
    · rw [if_neg (fun z=>e z.symm)]; exact valV_neg (p:=(k,y)) e
  | p::r,hn=>by
    rw [List.cons_append]
    have hk:¬ p.1=k:=fun z=>by rw [valV_pos z] at hn; cases hn
    rw [valV_neg hk] at hn
    have ih:=valV_snoc k j y r hn
    by_cases e:p.1=j
    · rw [valV_pos e,valV_pos e,if_neg (fun z=>hk (e.trans z))]
    · rw [valV_neg e,valV_neg e,ih]
theorem valV_put (kvs:List (κ × V)) (k j:κ) (y:V):valV (putK kvs k y) j=if j=k then some y else valV kvs j:=by
  unfold putK
  by_cases a:(kvs.any fun kv=>decide (kv.1=k))=true
  · rw [if_pos a,valV_map]
    rw [valV_any] at a
    by_cases e:j=k
    · obtain ⟨x,hx⟩:=Option.isSome_iff_exists.mp a
      rw [if_pos e,e,hx,Option.map_some,if_pos rfl]
    · rw [if_neg e]
      cases valV kvs j with
      | none=>rfl
      | some x=>rw [Option.map_some,if_neg e]
  · rw [if_neg a]
    refine valV_snoc k j y kvs ?_
    rw [valV_any] at a
    cases q:valV kvs k with
    | none=>rfl
    | some x=>rw [q] at a; exact (a rfl).elim
theorem length_putK (kvs:List (κ × V)) (k:κ) (v:V):(putK kvs k v).length≤kvs.length+1:=by
  unfold putK
  split
  · rw [List.length_map]; omega
  · rw [List.length_append,lZ1,lZ0]; omega
theorem putK_new {kvs:List (κ × V)} {k:κ} (v:V) (h:valV kvs k=none):putK kvs k v=kvs++[(k,v)]:=by
  unfold putK
  rw [valV_any,h]
  exact if_neg (by decide)
theorem RelO.isSome_eq {o:Option V} {u:Option Value} (r:RelO o u):o.isSome=u.isSome:=by
  cases o with
  | none=>cases u with
    | none=>rfl
    | some _=>exact (show False from r).elim
  | some _=>cases u with
    | none=>exact (show False from r).elim
    | some _=>rfl
theorem RelO.getD {o:Option V} {u:Option Value} {d:V} {d':Value} (r:RelO o u) (rd:RelV d d'):RelV (o.getD d) (u.getD d'):=by
  cases o with
  | none=>cases u with
    | none=>exact rd
    | some _=>exact (show False from r).elim
  | some _=>cases u with
    | none=>exact (show False from r).elim
    | some _=>exact r
theorem KV.val {kvs:List (κ × V)} {vs:List (κ × Value)} (r:KV kvs vs) (k:κ):RelO (valV kvs k) (valueAt vs k):=by
  unfold KV at r
  induction r with
  | nil=>exact True.intro
  | @cons p q ps qs h t ih=>
    obtain ⟨h1,h2⟩:=h
    by_cases e:p.1=k
    · have e':q.1=k:=h1.symm.trans e
      have b:valueAt (q::qs) k=some q.2:=by simp [valueAt,List.find?_cons,e']
      rw [valV_pos e,b]; exact h2
    · have e':¬ q.1=k:=fun z=>e (h1.trans z)
      have b:valueAt (q::qs) k=valueAt qs k:=by simp [valueAt,List.find?_cons,e']
      rw [valV_neg e,b]; exact ih
theorem KV.any {kvs:List (κ × V)} {vs:List (κ × Value)} (r:KV kvs vs) (k:κ):(kvs.any fun kv=>decide (kv.1=k))=vs.any fun kv=>decide (kv.1=k):=by
  unfold KV at r
  induction r with
  | nil=>rfl
  | cons h t ih=>rw [List.any_cons,List.any_cons,ih,h.1]
theorem KV.repl {kvs:List (κ × V)} {vs:List (κ × Value)} (r:KV kvs vs) (k:κ) {y:V} {u:Value} (ry:RelV y u) :
    KV (kvs.map fun kv=>if kv.1=k then (kv.1,y) else kv) (vs.map fun kv=>if kv.1=k then (kv.1,u) else kv):=by
  unfold KV at r ⊢
  induction r with
  | nil=>exact .nil
  | @cons p q ps qs h t ih=>
    rw [mZ1,mZ1]
    refine .cons ?_ ih
    obtain ⟨h1,h2⟩:=h
    by_cases e:p.1=k
    · rw [if_pos e,if_pos (h1.symm.trans e)]; exact ⟨h1,ry⟩
    · rw [if_neg e,if_neg (fun z=>e (h1.trans z))]; exact ⟨h1,h2⟩
theorem KV.put {kvs:List (κ × V)} {vs:List (κ × Value)} (r:KV kvs vs) (k:κ) {y:V} {u:Value} (ry:RelV y u):KV (putK kvs k y) (stored vs k u):=by
  unfold putK stored
  rw [r.any k]
  by_cases e:(vs.any fun kv=>decide (kv.1=k))=true
  · rw [if_pos e,if_pos e]; exact r.repl k ry
  · rw [if_neg e,if_neg e]; exact Paired.snoc r ⟨rfl,ry⟩
theorem KV.drop {kvs:List (κ × V)} {vs:List (κ × Value)} (r:KV kvs vs) (k:κ):KV (dropK kvs k) (without vs k):=by
  unfold KV at r ⊢
  unfold dropK without
  induction r with
  | nil=>exact .nil
  | @cons p q ps qs h t ih=>
    obtain ⟨h1,h2⟩:=h
    rw [List.filter_cons,List.filter_cons]
    by_cases e:p.1=k
    · have a:¬ decide (p.1≠k)=true:=by simp [e]
      have b:¬ decide (q.1≠k)=true:=by simp [h1.symm.trans e]
      rw [if_neg a,if_neg b]; exact ih
    · have e':¬ q.1=k:=fun z=>e (h1.trans z)
      have a:decide (p.1≠k)=true:=by simp [e]
      have b:decide (q.1≠k)=true:=by simp [e']
      rw [if_pos a,if_pos b]; exact .cons ⟨h1,h2⟩ ih
theorem KV.keys {kvs:List (κ × V)} {vs:List (κ × Value)} (r:KV kvs vs):kvs.map (·.1)=vs.map (·.1):=by
  unfold KV at r
  induction r with
  | nil=>rfl
  | cons h t ih=>rw [mZ1,mZ1,ih,h.1]
theorem KV.length {kvs:List (κ × V)} {vs:List (κ × Value)} (r:KV kvs vs):kvs.length=vs.length:=Paired.length r
theorem dropK_le (kvs:List (κ × V)) (k:κ):(dropK kvs k).length≤kvs.length:=List.length_filter_le _ _
end
theorem kV_is {P:Program} {w:World} {k:Key} {u:Value} (r:RelV (kV k) u):(mixKind P w).is k u=true:=by
  cases k with
  | inl i=>obtain ⟨t,e⟩:=(show ∃ t,u=Value.int i t from r); subst e; exact mixKind_int P w i t
  | inr x=>obtain ⟨t,e⟩:=(show ∃ t,u=Value.str x t from r); subst e; exact mixKind_str P w x t
theorem items_are {P:Program} {w:World}:∀ {ks:List Key} {us:List Value},Vals (ks.map kV) us→ItemsAre (mixKind P w) ks us
  | [],_,r=>by rw [mZ0] at r; cases r; exact .nil
  | k::ks,_,r=>by
    rw [mZ1] at r
    cases r with
    | cons h t=>exact .cons (kV_is h) (items_are t)
abbrev KT (H:Hp):List (List Key × V)→List (List Key × Addr × Value)→Prop:=Paired fun p q=>p.1=q.1∧H q.2.1=some (.tup (p.1.map kV))∧RelV p.2 q.2.2
theorem KT.val {H:Hp} {kvs:List (List Key × V)} {xs:List (List Key × Addr × Value)} (r:KT H kvs xs) (k:List Key):RelO (valV kvs k) ((atKey xs k).map (·.2)):=by
  induction r with
  | nil=>exact True.intro
  | @cons p q ps qs h t ih=>
    obtain ⟨h1,_,h2⟩:=h
    by_cases e:p.1=k
    · have e':q.1=k:=h1.symm.trans e
      have b:atKey (q::qs) k=some q.2:=by simp [atKey,List.find?_cons,e']
      rw [valV_pos e,b]; exact h2
    · have e':¬ q.1=k:=fun z=>e (h1.trans z)
      have b:atKey (q::qs) k=atKey qs k:=by simp [atKey,List.find?_cons,e']
      rw [valV_neg e,b]; exact ih
theorem KT.repl {H:Hp} {kvs:List (List Key × V)} {xs:List (List Key × Addr × Value)} (r:KT H kvs xs) (k:List Key) {y:V} {u:Value} (ry:RelV y u) :
    KT H (kvs.map fun kv=>if kv.1=k then (kv.1,y) else kv) (xs.map (putAt k u)):=by
  induction r with
  | nil=>exact .nil
  | @cons p q ps qs h t ih=>
    rw [mZ1,mZ1]
    refine .cons ?_ ih
    obtain ⟨h1,h2,h3⟩:=h
    unfold putAt
    by_cases e:p.1=k
    · rw [if_pos e,if_pos (h1.symm.trans e)]; exact ⟨h1,h2,ry⟩
    · rw [if_neg e,if_neg (fun z=>e (h1.trans z))]; exact ⟨h1,h2,h3⟩
theorem KT.put {H:Hp} {kvs:List (List Key × V)} {xs:List (List Key × Addr × Value)} (r:KT H kvs xs) (k:List Key) {b:Addr} {y:V} {u:Value} (hb:H b=some (.tup (k.map kV))) (ry:RelV y u) :
    KT H (putK kvs k y) (storedH xs k b u):=by
  have e:(kvs.any fun kv=>decide (kv.1=k))=(atKey xs k).isSome:=by
    rw [valV_any,(r.val k).isSome_eq,Option.isSome_map]
  unfold putK storedH
  rw [e]
  by_cases q:(atKey xs k).isSome=true
  · rw [if_pos q,if_pos q]; exact r.repl k ry
  · rw [if_neg q,if_neg q]; exact Paired.snoc r ⟨rfl,hb,ry⟩
theorem KT.keeps {H H':Hp} {kvs:List (List Key × V)} {xs:List (List Key × Addr × Value)} (r:KT H kvs xs) (ht:∀ b ys,H b=some (.tup ys)→H' b=some (.tup ys)):KT H' kvs xs:=
  Paired.mapP r fun _ _ z=>⟨z.1,ht _ _ z.2.1,z.2.2⟩
section
variable {P:Program} {w:World} {H:Hp} {h:Heap} {a:Addr}
theorem rd_of {u:HO} (ok:HOk P w H h) (e:Rd H a u):ObjOk P w H h a u:=e.ok ok
theorem dk_rd {kvs:List (Key × V)} (ok:HOk P w H h) (e:Rd H a (.dK kvs)):kvs.length≤sizeLine∧(a == sysModules)=false∧∃ vs,KV kvs vs∧h.DictOf (mixKind P w) a vs:=
  show ObjOk P w H h a (.dK kvs) from rd_of ok e
theorem dk_of {kvs:List (Key × V)} (ok:HOk P w H h) (e:H a=some (.dK kvs)):kvs.length≤sizeLine∧(a == sysModules)=false∧∃ vs,KV kvs vs∧h.DictOf (mixKind P w) a vs:=dk_rd ok (.inl e)
theorem key_of {ks:List Key} (ok:HOk P w H h) (e:H a=some (.tup (ks.map kV))):(tupleKind (mixKind P w)).is h ks a:=by
  obtain ⟨_,its,r,o,h1,h2,n,h3⟩:=(show ObjOk P w H h a (.tup (ks.map kV)) from ok a _ e)
  exact ⟨o,its.toArray,n,h1,h2,h3,by simpa using items_are r⟩
theorem dt_rd {kvs:List (List Key × V)} (ok:HOk P w H h) (e:Rd H a (.dT kvs)):kvs.length≤sizeLine∧(a == sysModules)=false ∧
    ∃ xs,KT H kvs xs∧h.DictOfH (tupleKind (mixKind P w)) a xs:=by
  obtain ⟨z,y,xs,r,o,es,ep,h1,h2,h3,h4,h5⟩:=(show ObjOk P w H h a (.dT kvs) from rd_of ok e)
  refine ⟨z,y,xs,r,o,es,ep,h1,h2,h3,h4,fun x hx=>?_,h5⟩
  have all:∀ {l:List (List Key × V)} {m:List (List Key × Addr × Value)},KT H l m→∀ x∈m,(tupleKind (mixKind P w)).is h x.1 x.2.1:=by
    intro l m q
    induction q with
    | nil=>intro x hx; exact nomatch hx
    | @cons p q ps qs hq t ih=>
      intro x hx
      rcases List.mem_cons.mp hx with e|hx
      · subst e
        exact key_of ok (by rw [← hq.1]; exact hq.2.1)
      · exact ih x hx
  exact all r x hx
theorem dt_of {kvs:List (List Key × V)} (ok:HOk P w H h) (e:H a=some (.dT kvs)):kvs.length≤sizeLine∧(a == sysModules)=false ∧
    ∃ xs,KT H kvs xs∧h.DictOfH (tupleKind (mixKind P w)) a xs:=dt_rd ok (.inl e)
end
def DGet (H:Hp) (a:Addr) (y:V) (r:Option V):Prop:=
  (∃ kvs k,Rd H a (.dK kvs)∧y=kV k∧r=valV kvs k)∨∃ kvs k b,Rd H a (.dT kvs)∧y=.ref b∧H b=some (.tup (k.map kV))∧r=valV kvs k
def DPut (H:Hp) (a:Addr) (y v:V) (H':Hp):Prop:=
  (∃ kvs k,H a=some (.dK kvs)∧y=kV k∧kvs.length<sizeLine∧H'=upd H a (.dK (putK kvs k v))) ∨
  ∃ kvs k b,H a=some (.dT kvs)∧y=.ref b∧H b=some (.tup (k.map kV))∧kvs.length<sizeLine∧H'=upd H a (.dT (putK kvs k v))
theorem DGet.t {H:Hp} {a b:Addr} {kvs:List (List Key × V)} {k:List Key} (e:H a=some (.dT kvs)) (eb:H b=some (.tup (k.map kV))):DGet H a (.ref b) (valV kvs k):=.inr ⟨kvs,k,b,.inl e,rfl,eb,rfl⟩
theorem DPut.t {H:Hp} {a b:Addr} {kvs:List (List Key × V)} {k:List Key} {v:V} (e:H a=some (.dT kvs)) (eb:H b=some (.tup (k.map kV))) (hl:kvs.length<sizeLine) :
    DPut H a (.ref b) v (upd H a (.dT (putK kvs k v))):=.inr ⟨kvs,k,b,e,rfl,eb,hl,rfl⟩
section
variable {X:Cx} {pins:List (Addr × Obj)} {σ:St} {H:Hp} {s:Shared} {a:Addr} {y v:V} {u r:Value} {o:Option V} {A:Around} {E:Value→Shared→Prop}
theorem Inv.big (I:Inv X pins σ H s):sysModules<s.heap.objs.size:=by
  have h:mainGlobals<s.heap.objs.size:=(I.mod.glob.keeps I.bk).lt
  exact Nat.lt_trans (by decide) h
theorem d_getItem {Q:Value→Shared→Prop} (hu:A.units+1<cLine) (I:Inv X pins σ H s) (g:DGet H a y (some v)) (ry:RelV y u) (h:∀ w' s',Inv X pins σ H s'→RelV v w'→Q w' s') :
    wpAny (model X.prog X.w) A (getItem (.ref a) u) Q E s:=by
  rcases g with ⟨kvs,k,e,ey,l⟩|⟨kvs,k,b,e,ey,eb,l⟩
  · subst ey
    obtain ⟨z,hd,vs,rel,dd⟩:=dk_rd I.hok e
    obtain ⟨w',hw,rw'⟩:=RelO.some_of (v:=v) (o:=valueAt vs k) (by rw [l]; exact rel.val k)
    exact wpAny_getItem_of (kV_is ry) dd.mapOf hw (h w' _ (I.tok _) rw')
  · subst ey
    cases (show u=Value.ref b from ry)
    obtain ⟨z,hd,xs,rel,dd⟩:=dt_rd I.hok e
    obtain ⟨w',hw,rw'⟩:=RelO.some_of (v:=v) (o:=(atKey xs k).map (·.2)) (by rw [l]; exact rel.val k)
    obtain ⟨p,hp,hp2⟩:=Option.map_eq_some_iff.mp hw
    refine wpAny_getItem_heap (tupleKind_room_in1 hu) (key_of I.hok eb) dd hp ?_
    rw [hp2]
    exact h w' _ (I.tok _) rw'
theorem d_in {Q:Value→Shared→Prop} (hu:A.units+1<cLine) (I:Inv X pins σ H s) (g:DGet H a y o) (ry:RelV y u) (h:∀ s',Inv X pins σ H s'→Q (.bool o.isSome) s') :
    wpAny (model X.prog X.w) A (compareOp .In u (.ref a)) Q E s:=by
  rcases g with ⟨kvs,k,e,ey,l⟩|⟨kvs,k,b,e,ey,eb,l⟩
  · subst ey
    obtain ⟨z,hd,vs,rel,dd⟩:=dk_rd I.hok e
    refine wpAny_in_of (kV_is ry) hd dd.mapOf ?_
    rw [← (rel.val k).isSome_eq,← l]
    exact h _ (I.tok _)
  · subst ey
    cases (show u=Value.ref b from ry)
    obtain ⟨z,hd,xs,rel,dd⟩:=dt_rd I.hok e
    refine wpAny_in_heap (tupleKind_room_in1 hu) (key_of I.hok eb) hd dd ?_
    have q:=(rel.val k).isSome_eq
    rw [Option.isSome_map] at q
    rw [← q,← l]
    exact h _ (I.tok _)
theorem d_notIn {Q:Value→Shared→Prop} (hu:A.units+1<cLine) (I:Inv X pins σ H s) (g:DGet H a y o) (ry:RelV y u) (h:∀ s',Inv X pins σ H s'→Q (.bool (!o.isSome)) s') :
    wpAny (model X.prog X.w) A (compareOp .NotIn u (.ref a)) Q E s:=by
  rcases g with ⟨kvs,k,e,ey,l⟩|⟨kvs,k,b,e,ey,eb,l⟩
  · subst ey
    obtain ⟨z,hd,vs,rel,dd⟩:=dk_rd I.hok e
    refine wpAny_notIn_of (kV_is ry) hd dd.mapOf ?_
    rw [← (rel.val k).isSome_eq,← l]
    exact h _ (I.tok _)
  · subst ey
    cases (show u=Value.ref b from ry)
    obtain ⟨z,hd,xs,rel,dd⟩:=dt_rd I.hok e
    refine wpAny_notIn_heap (tupleKind_room_in1 hu) (key_of I.hok eb) hd dd ?_
    have q:=(rel.val k).isSome_eq
    rw [Option.isSome_map] at q
    rw [← q,← l]
    exact h _ (I.tok _)
theorem d_write {h':Heap} {t':Nat} {ob:HO} (I:Inv X pins σ H s) (mu:Mut (H a)) (hs:Heap.SameBut a s.heap h') (he:∃ q,h'.get? a=some q) (new:ObjOk X.prog X.w (upd H a ob) h' a ob) :
    Inv X pins σ (upd H a ob) { s with heap:=h',toks:=t' }:=
  I.write (x:=a) (e:=a) mu (.inl rfl) (fun b q hb z=>(hs.2 b hb).trans z) he new
theorem dk_new {P:Program} {w:World} {H':Hp} {h':Heap} {kvs:List (Key × V)} {vs:List (Key × Value)} (z:kvs.length≤sizeLine) (hd:(a == sysModules)=false) (rel:KV kvs vs) (dd:h'.DictOf (mixKind P w) a vs) :
    ObjOk P w H' h' a (.dK kvs):=⟨z,hd,vs,rel,dd⟩
theorem d_setItem {H':Hp} {Q:Unit→Shared→Prop} (hu:A.units+1<cLine) (I:Inv X pins σ H s) (g:DPut H a y v H') (ry:RelV y u) (rv:RelV v r) (h:∀ s',Inv X pins σ H' s'→Q () s') :
    wpAny (model X.prog X.w) A (setItem (.ref a) u r) Q E s:=by
  rcases g with ⟨kvs,k,e,ey,l,eH⟩|⟨kvs,k,b,e,ey,eb,l,eH⟩
  · subst ey eH
    obtain ⟨z,hd,vs,rel,dd⟩:=dk_of I.hok e
    have hz:vs.length≤sizeLine:=by rw [← rel.length]; exact z
    have hl:(putK kvs k v).length≤sizeLine:=by have:=length_putK kvs k v; omega
    refine wpAny_setItem_pairs (hsz:=hz) (kV_is ry) dd fun h' dd' hs=>h _ ?_
    have he:∃ q,h'.get? a=some q:=let ⟨q,_,_,hq,_⟩:=dd'; ⟨q,hq⟩
    exact d_write I (by rw [e]; exact True.intro) hs he (dk_new hl hd (rel.put k rv) dd')
  · subst ey eH
    cases (show u=Value.ref b from ry)
    obtain ⟨z,hd,xs,rel,dd⟩:=dt_of I.hok e
    have hz:xs.length≤sizeLine:=by rw [← Paired.length rel]; exact z
    have hl:(putK kvs k v).length≤sizeLine:=by have:=length_putK kvs k v; omega
    refine wpAny_setItem_heap (hsz:=hz) (tupleKind_room_in1 hu) (key_of I.hok eb) dd fun h' dd' hs=>h _ ?_
    obtain ⟨q,es,ep,hq,h2,h3,h4,_,h5⟩:=dd'
    refine d_write I (by rw [e]; exact True.intro) hs ⟨q,hq⟩ ⟨hl,hd,_,(rel.put k eb rv).keeps fun c ys ec=>?_,q,es,ep,hq,h2,h3,h4,h5⟩
    rw [upd_ne (ne_of ec e (fun z=>nomatch z))]
    exact ec
end
section
variable {X:Cx} {pins:List (Addr × Obj)} {σ:St} {H:Hp} {s:Shared} {a:Addr} {kvs:List (Key × V)} {k:Key} {u:Value} {A:Around} {E:Value→Shared→Prop}
theorem d_pop {v:V} {more:List Value} {Q:Value→Shared→Prop} (I:Inv X pins σ H s) (e:H a=some (.dK kvs)) (ry:RelV (kV k) u) (l:valV kvs k=some v) (hm:more=[]∨∃ x,more=[x])
    (h:∀ w' s',Inv X pins σ (upd H a (.dK (dropK kvs k))) s'→RelV v w'→Q w' s'):wpAny (model X.prog X.w) A (call (.builtin "dict.pop") (.ref a::u::more)) Q E s:=by
  obtain ⟨z,hd,vs,rel,dd⟩:=dk_of I.hok e
  obtain ⟨w',hw,rw'⟩:=RelO.some_of (v:=v) (o:=valueAt vs k) (by rw [← l]; exact rel.val k)
  have hp:(keyPart u).isSome=true:=by
    cases k with
    | inl i=>obtain ⟨t,q⟩:=(show ∃ t,u=Value.int i t from ry); subst q; rfl
    | inr x=>obtain ⟨t,q⟩:=(show ∃ t,u=Value.str x t from ry); subst q; rfl
  have ha:argsOk "dict.pop" ⟨.ref a::u::more,[]⟩:=by
    rcases hm with q|⟨x,q⟩
    · subst q; exact PySem.F.args_dict_pop_2 _ _
    · subst q; exact PySem.F.args_dict_pop_3 _ _ _
  refine call_meetsIn PySem.F.slot_dict_pop dd.typeIs PySem.F.entry_dict_pop ha (meets_dict_pop_there (mixKind X.prog X.w) a (kV_is ry) more hm hp)
    ⟨vs,w',dd,by rw [← rel.length]; exact z,hw,fun h' dd' hs=>h w' _ ?_ rw'⟩
  have he:∃ q,h'.get? a=some q:=let ⟨q,_,_,hq,_⟩:=dd'; ⟨q,hq⟩
  exact d_write I (by rw [e]; exact True.intro) hs he (dk_new (Nat.le_trans (dropK_le kvs k) z) hd (rel.drop k) dd')
theorem d_popD {r:Value} {Q:Value→Shared→Prop} (I:Inv X pins σ H s) (e:H a=some (.dK kvs)) (ry:RelV (kV k) u) (l:valV kvs k=none) (h:∀ s',Inv X pins σ H s'→Q r s') :
    wpAny (model X.prog X.w) A (call (.builtin "dict.pop") [.ref a,u,r]) Q E s:=by
  obtain ⟨z,hd,vs,rel,dd⟩:=dk_of I.hok e
  have hn:valueAt vs k=none:=RelO.none_of (by rw [← l]; exact rel.val k)
  have hp:(keyPart u).isSome=true:=by
    cases k with
    | inl i=>obtain ⟨t,q⟩:=(show ∃ t,u=Value.int i t from ry); subst q; rfl
    | inr x=>obtain ⟨t,q⟩:=(show ∃ t,u=Value.str x t from ry); subst q; rfl
  exact call_meetsIn PySem.F.slot_dict_pop dd.typeIs PySem.F.entry_dict_pop (PySem.F.args_dict_pop_3 _ _ _) (meets_dict_pop_default (mixKind X.prog X.w) a (kV_is ry) hd hp r) ⟨vs,dd,hn,h _ (I.tok _)⟩
theorem d_len {Q:Value→Shared→Prop} (I:Inv X pins σ H s) (e:Rd H a (.dK kvs)) (h:∀ t s',Inv X pins σ H s'→Q (.int kvs.length t) s'):wpAny (model X.prog X.w) A (call (.builtin "len") [.ref a]) Q E s:=by
  obtain ⟨z,hd,vs,rel,dd⟩:=dk_rd I.hok e
  refine call_len_dict hd dd (by rw [← rel.length]; rw [sizeLine_eq] at z; omega) ?_
  rw [← rel.length]
  exact h _ _ (I.tok _)
end
def NoSl (i:Expr):Prop:=∀ ov iv,subscripted i false ov iv=operate [ov,iv] (getItem ov iv)
theorem subD_of {prog:Program} {w:World} {A:Around} {E:Value→Shared→Prop} {s:Shared} {env:Env} {value slice:Expr} {pos:Pos} {T id:String} {Q:Value→Shared→Prop}
    (hl:typeLookup (.type T) "__getitem__"=pure (some (.builtin id))) (hs:NoSl slice)
    (h:wpAny (model prog w) A (eval value env) (fun o s₁=>wpAny (model prog w) A (eval slice env) (fun i s₂=>s₂.TypeIs o T∧wpAny (model prog w) A (getItem o i) Q E s₂) E s₁) E s) :
    wpAny (model prog w) A (eval (.Subscript value slice pos) env) Q E s:=by
  refine Subscript_ (wpAny_mono h (fun o s₁ h₁=>wpAny_mono h₁ (fun i s₂ h₂=>?_) fun _ _ x=>x) fun _ _ x=>x)
  obtain ⟨hT,h₂⟩:=h₂
  unfold subscriptTail
  refine wpAny_bind ?_
  rw [getitemInPython_of_ne hT.not_modules]
  refine wpAny_bind (wpAny_specialOf hT hl ?_)
  have fin:wpAny (model prog w) A (subscripted slice false o i) (fun r s₃=>wpAny (model prog w) A (letTemporaryGo value o r >>= fun _=>pure r) Q E s₃) E s₂:=by
    rw [hs o i]
    exact wpAny_operating (wpAny_mono h₂ (fun r s₃ h₃=>wpAny_bind (wpAny_letTemporaryGo (wpAny_pure h₃))) fun _ _ x=>x)
  first
    | exact wpAny_pure (wpAny_bind fin)
    | exact wpAny_bind (wpAny_pure (wpAny_bind fin))
    | exact wpAny_bind fin
theorem dict_typeIs {X:Cx} {pins:List (Addr × Obj)} {σ:St} {H:Hp} {s:Shared} {a:Addr} {y:V} {o:Option V} (I:Inv X pins σ H s) (g:DGet H a y o):s.TypeIs (.ref a) "dict":=by
  rcases g with ⟨kvs,k,e,_,_⟩|⟨kvs,k,b,e,_,_,_⟩
  · obtain ⟨_,_,vs,_,dd⟩:=dk_rd I.hok e
    exact dd.typeIs
  · obtain ⟨_,_,xs,_,dd⟩:=dt_rd I.hok e
    exact dd.typeIs
def tDGet (td ty:TE):TE:=fun σ H Q=>td σ H fun x H1=>ty σ H1 fun y H2=>∃ a v,x=.ref a∧DGet H2 a y (some v)∧Q v H2
def sDPut (td ty tv:TE):TS:=fun D σ H=>tv σ H fun v H1=>td σ H1 fun x H2=>ty σ H2 fun y H3=>∃ a H4,x=.ref a∧DPut H3 a y v H4∧D.nx σ H4
section
variable {X:Cx} {o i e value:Expr} {pos pos' tpos:Pos} {td ty tv:TE}
theorem pe_dget (hu:X.A.units+1<cLine) (ho:PE X o td) (hi:PE X i ty) (hs:NoSl i):PE X (.Subscript o i pos) (tDGet td ty):=by
  intro pins s σ H Q I h
  refine subD_of PySem.F.slot_dict_getitem.lookup hs (thn (ho pins s σ H _ I h) fun u s1 ⟨x,H1,I1,rx,q1⟩=>thn (hi pins s1 σ H1 _ I1 q1) fun iv s2 ⟨y,H2,I2,ry,a,v,ex,g,q2⟩=>?_)
  subst ex
  obtain rfl:u=Value.ref a:=rx
  exact ⟨dict_typeIs I2 g,d_getItem hu I2 g ry fun w' s3 I3 rw'=>⟨v,H2,I3,rw',q2⟩⟩
theorem ps_dput (hu:X.A.units+1<cLine) (ho:PE X o td) (hi:PE X i ty) (hv:PE X value tv) (hs:swapsWith value (some (.Subscript o i pos')) pos.line X.env=pure false) :
    PS X (.Assign [.Subscript o i pos'] value pos) (sDPut td ty tv):=by
  intro pins s σ H D I h
  refine wpAny_Assign_Subscript (thn (hv pins s σ H _ I h) fun r s1 ⟨v,H1,I1,rv,q1⟩=>thn (ho pins s1 σ H1 _ I1 q1) fun u s2 ⟨x,H2,I2,rx,q2⟩=>thn (hi pins s2 σ H2 _ I2 q2) fun iv s3 ⟨y,H3,I3,ry,a,H4,ex,g,q3⟩=>?_) hs
  subst ex
  obtain rfl:u=Value.ref a:=rx
  exact d_setItem hu I3 g ry rv fun s4 I4=>⟨σ,H4,I4,q3⟩
end
theorem dk_empty {P:Program} {w:World} {H:Hp} (h:Heap) (hb:sysModules<h.objs.size):ObjOk P w H (h.push { cls:=.type "dict", data:=.dict #[] }) h.objs.size (.dK []):=
  ⟨Nat.zero_le _,beq_eq_false_iff_ne.mpr (Ne.symm (Nat.ne_of_lt hb)),[],.nil,Heap.DictOf.new h⟩
theorem dt_empty {P:Program} {w:World} {H:Hp} (h:Heap) (hb:sysModules<h.objs.size):ObjOk P w H (h.push { cls:=.type "dict", data:=.dict #[] }) h.objs.size (.dT []):=
  ⟨Nat.zero_le _,beq_eq_false_iff_ne.mpr (Ne.symm (Nat.ne_of_lt hb)),[],.nil,_,#[],0,Heap.get?_push_size _ rfl,⟨rfl,rfl,rfl⟩,rfl,rfl,List.nodup_nil⟩
def tDNewK:TE:=fun _ H Q=>∀ p,H p=none→Q (.ref p) (upd H p (.dK []))
def tDNewT:TE:=fun _ H Q=>∀ p,H p=none→Q (.ref p) (upd H p (.dT []))
section
variable {X:Cx} {pos:Pos}
theorem pe_dnewK:PE X (.Dict [] [] pos) tDNewK:=fun pins s σ H Q I h=>
  wpAny_Dict_empty ⟨.ref s.heap.objs.size,_,I.laid (a:=s.heap.objs.size) (o:=.dK []) (t':=s.toks) (fun _ _ q=>Heap.get?_push_of_some _ q) (Nat.le_refl _) (dk_empty s.heap I.big),rfl,h _ (I.hok.fresh (Nat.le_refl _))⟩
theorem pe_dnewT:PE X (.Dict [] [] pos) tDNewT:=fun pins s σ H Q I h=>
  wpAny_Dict_empty ⟨.ref s.heap.objs.size,_,I.laid (a:=s.heap.objs.size) (o:=.dT []) (t':=s.toks) (fun _ _ q=>Heap.get?_push_of_some _ q) (Nat.le_refl _) (dt_empty s.heap I.big),rfl,h _ (I.hok.fresh (Nat.le_refl _))⟩
end
def tPairs:List (TE × TE)→St→Hp→(List (V × V)→Hp→Prop)→Prop
  | [],_,H,Q=>Q [] H
  | (tk,tv)::r,σ,H,Q=>tk σ H fun x H1=>tv σ H1 fun y H2=>tPairs r σ H2 fun ps H3=>Q ((x,y)::ps) H3
def mergeK (kvs more:List (Key × V)):List (Key × V):=more.foldl (fun acc kv=>putK acc kv.1 kv.2) kvs
def tDisp (trs:List (TE × TE)):TE:=fun σ H Q=>∀ p,H p=none→tPairs trs σ (upd H p (.dK [])) fun ps H2=>H2 p=some (.dK [])∧∃ kvs:List (Key × V),ps=kvs.map (fun kv=>(kV kv.1,kv.2))∧kvs.length≤15∧Q (.ref p) (upd H2 p (.dK (mergeK [] kvs)))
structure M1 (X:Cx) (o:Expr) (m:Str) (apos:Pos) (e:Expr) (cpos:Pos):Prop where
  base:attributeBase o m X.env (eval o X.env)=eval o X.env
  few:((backTo cpos (starEach [e] X.env)).all (fun x=>!x.1) && (backToKw cpos (keywordEach [] X.env)).all (fun x=>x.1.isSome)
    && decide (([e]:List Expr).length+([]:List Keyword).length+(if ([]:List Keyword).isEmpty then 0 else 1)<30))=true
  line:(apos.endLine == cpos.line)=true
  trees:backTo cpos (starEach [e] X.env)=[(false,eval e X.env)]
structure M2 (X:Cx) (o:Expr) (m:Str) (apos:Pos) (e f:Expr) (cpos:Pos):Prop where
  base:attributeBase o m X.env (eval o X.env)=eval o X.env
  few:((backTo cpos (starEach [e,f] X.env)).all (fun x=>!x.1) && (backToKw cpos (keywordEach [] X.env)).all (fun x=>x.1.isSome)
    && decide (([e,f]:List Expr).length+([]:List Keyword).length+(if ([]:List Keyword).isEmpty then 0 else 1)<30))=true
  line:(apos.endLine == cpos.line)=true
  trees:backTo cpos (starEach [e,f] X.env)=[(false,eval e X.env),(false,eval f X.env)]
def IsD (H:Hp) (a:Addr):Prop:=(∃ kvs,Rd H a (.dK kvs))∨∃ kvs,Rd H a (.dT kvs)
theorem isD_at {X:Cx} {pins:List (Addr × Obj)} {σ:St} {H:Hp} {s:Shared} {a:Addr} (I:Inv X pins σ H s) (d:IsD H a) :
    s.TypeIs (.ref a) "dict"∧(∀ b,Value.ref a=.ref b→∃ ob,s.heap.get? b=some ob∧ob.dict=none)∧(a == sysModules)=false:=by
  rcases d with ⟨kvs,e⟩|⟨kvs,e⟩
  · obtain ⟨_,hd,vs,_,dd⟩:=dk_rd I.hok e
    refine ⟨dd.typeIs,fun b q=>?_,hd⟩
    cases q
    obtain ⟨ob,_,_,h1,h2,_⟩:=dd
    exact ⟨ob,h1,h2.2.1⟩
  · obtain ⟨_,hd,xs,_,dd⟩:=dt_rd I.hok e
    refine ⟨dd.typeIs,fun b q=>?_,hd⟩
    cases q
    obtain ⟨ob,_,_,h1,h2,_⟩:=dd
    exact ⟨ob,h1,h2.2.1⟩
section
variable {X:Cx} {pins:List (Addr × Obj)} {σ:St} {H:Hp} {s:Shared} {a:Addr} {y d:V} {u r:Value} {o:Option V} {A:Around} {E:Value→Shared→Prop}
theorem d_get1 {Q:Value→Shared→Prop} (hu:A.units+1<cLine) (I:Inv X pins σ H s) (g:DGet H a y o) (ry:RelV y u) (h:∀ w' s',Inv X pins σ H s'→RelV (o.getD .non) w'→Q w' s') :
    wpAny (model X.prog X.w) A (call (.builtin "dict.get") [.ref a,u]) Q E s:=by
  rcases g with ⟨kvs,k,e,ey,l⟩|⟨kvs,k,b,e,ey,eb,l⟩
  · subst ey
    obtain ⟨z,hd,vs,rel,dd⟩:=dk_rd I.hok e
    refine call_meetsIn PySem.F.slot_dict_get dd.typeIs PySem.F.entry_dict_get (PySem.F.args_dict_get_2 _ _) (meets_dict_get (mixKind X.prog X.w) a (kV_is ry) hd) ⟨_,dd.mapOf,h _ _ (I.tok _) ?_⟩
    rw [l]
    exact (rel.val k).getD rfl
  · subst ey
    cases (show u=Value.ref b from ry)
    obtain ⟨z,hd,xs,rel,dd⟩:=dt_rd I.hok e
    refine call_meetsIn PySem.F.slot_dict_get dd.typeIs PySem.F.entry_dict_get (PySem.F.args_dict_get_2 _ _) (meetsH_dict_get (tupleKind (mixKind X.prog X.w)) a b hd) ⟨tupleKind_room_in1 hu,k,xs,key_of I.hok eb,dd,h _ _ (I.tok _) ?_⟩
    rw [l]
    exact (rel.val k).getD rfl
theorem d_get2 {Q:Value→Shared→Prop} (hu:A.units+1<cLine) (I:Inv X pins σ H s) (g:DGet H a y o) (ry:RelV y u) (rd:RelV d r) (h:∀ w' s',Inv X pins σ H s'→RelV (o.getD d) w'→Q w' s') :
    wpAny (model X.prog X.w) A (call (.builtin "dict.get") [.ref a,u,r]) Q E s:=by
  rcases g with ⟨kvs,k,e,ey,l⟩|⟨kvs,k,b,e,ey,eb,l⟩
  · subst ey
    obtain ⟨z,hd,vs,rel,dd⟩:=dk_rd I.hok e
    refine call_meetsIn PySem.F.slot_dict_get dd.typeIs PySem.F.entry_dict_get (PySem.F.args_dict_get_3 _ _ _) (meets_dict_get_default (mixKind X.prog X.w) a (kV_is ry) hd r) ⟨_,dd.mapOf,h _ _ (I.tok _) ?_⟩
    rw [l]
    exact (rel.val k).getD rd
  · subst ey
    cases (show u=Value.ref b from ry)
    obtain ⟨z,hd,xs,rel,dd⟩:=dt_rd I.hok e
    refine call_meetsIn PySem.F.slot_dict_get dd.typeIs PySem.F.entry_dict_get (PySem.F.args_dict_get_3 _ _ _) (meetsH_dict_get_default (tupleKind (mixKind X.prog X.w)) a b hd r) ⟨tupleKind_room_in1 hu,k,xs,key_of I.hok eb,dd,h _ _ (I.tok _) ?_⟩
    rw [l]
    exact (rel.val k).getD rd
end
def tDGet1 (td ty:TE):TE:=fun σ H Q=>td σ H fun x H1=>∃ a,x=.ref a∧IsD H1 a∧ty σ H1 fun y H2=>∃ o,DGet H2 a y o∧Q (o.getD .non) H2
def tDGet2 (td ty tx:TE):TE:=fun σ H Q=>td σ H fun x H1=>∃ a,x=.ref a∧IsD H1 a∧ty σ H1 fun y H2=>tx σ H2 fun z H3=>∃ o,DGet H3 a y o∧Q (o.getD z) H3
def tDPop2 (td ty tx:TE):TE:=fun σ H Q=>td σ H fun x H1=>∃ a,x=.ref a∧IsD H1 a∧ty σ H1 fun y H2=>tx σ H2 fun z H3=>∃ kvs k,H3 a=some (.dK kvs)∧y=kV k ∧
  (∀ v,valV kvs k=some v→Q v (upd H3 a (.dK (dropK kvs k))))∧(valV kvs k=none→Q z H3)
section
variable {X:Cx} {o e f:Expr} {apos cpos:Pos} {td ty tx:TE}
theorem pe_dget1 (hu:X.A.units+1<cLine) (ho:PE X o td) (he:PE X e ty) (m:M1 X o "get" apos e cpos):PE X (.Call (.Attribute o "get" apos) [e] [] cpos) (tDGet1 td ty):=by
  intro pins s σ H Q I h
  refine wpAny_Call_method m.base m.few m.line PySem.F.plainAttrs_dict PySem.F.slot_dict_get PySem.F.type_dict_get (thn (ho pins s σ H _ I h) fun u s1 ⟨x,H1,I1,rx,a,ex,d,q1⟩=>?_)
  subst ex
  obtain rfl:u=Value.ref a:=rx
  obtain ⟨t1,t2,_⟩:=isD_at I1 d
  refine ⟨t1,t2,?_⟩
  rw [m.trees]
  refine Calls.callWith_builtin rfl (Calls.evalArgs_plain (Calls.spliced_cons (thn (he pins s1 σ H1 _ I1 q1) fun iv s2 ⟨y,H2,I2,ry,ov,g,q2⟩=>Calls.spliced_nil ?_)))
  exact d_get1 hu I2 g ry fun w' s3 I3 rw'=>⟨_,H2,I3,rw',q2⟩
theorem pe_dget2 (hu:X.A.units+1<cLine) (ho:PE X o td) (he:PE X e ty) (hf:PE X f tx) (m:M2 X o "get" apos e f cpos):PE X (.Call (.Attribute o "get" apos) [e,f] [] cpos) (tDGet2 td ty tx):=by
  intro pins s σ H Q I h
  refine wpAny_Call_method m.base m.few m.line PySem.F.plainAttrs_dict PySem.F.slot_dict_get PySem.F.type_dict_get (thn (ho pins s σ H _ I h) fun u s1 ⟨x,H1,I1,rx,a,ex,d,q1⟩=>?_)
  subst ex
  obtain rfl:u=Value.ref a:=rx
  obtain ⟨t1,t2,_⟩:=isD_at I1 d
  refine ⟨t1,t2,?_⟩
  rw [m.trees]
  refine Calls.callWith_builtin rfl (Calls.evalArgs_plain (Calls.spliced_cons (thn (he pins s1 σ H1 _ I1 q1) fun iv s2 ⟨y,H2,I2,ry,q2⟩=>
    Calls.spliced_cons (thn (hf pins s2 σ H2 _ I2 q2) fun fv s3 ⟨z,H3,I3,rz,ov,g,q3⟩=>Calls.spliced_nil ?_))))
  exact d_get2 hu I3 g ry rz fun w' s4 I4 rw'=>⟨_,H3,I4,rw',q3⟩
theorem pe_dpop2 (ho:PE X o td) (he:PE X e ty) (hf:PE X f tx) (m:M2 X o "pop" apos e f cpos):PE X (.Call (.Attribute o "pop" apos) [e,f] [] cpos) (tDPop2 td ty tx):=by
  intro pins s σ H Q I h
  refine wpAny_Call_method m.base m.few m.line PySem.F.plainAttrs_dict PySem.F.slot_dict_pop PySem.F.type_dict_pop (thn (ho pins s σ H _ I h) fun u s1 ⟨x,H1,I1,rx,a,ex,d,q1⟩=>?_)
  subst ex
  obtain rfl:u=Value.ref a:=rx
  obtain ⟨t1,t2,_⟩:=isD_at I1 d
  refine ⟨t1,t2,?_⟩
  rw [m.trees]
  refine Calls.callWith_builtin rfl (Calls.evalArgs_plain (Calls.spliced_cons (thn (he pins s1 σ H1 _ I1 q1) fun iv s2 ⟨y,H2,I2,ry,q2⟩=>
    Calls.spliced_cons (thn (hf pins s2 σ H2 _ I2 q2) fun fv s3 ⟨z,H3,I3,rz,kvs,k,ea,ey,q3,q4⟩=>Calls.spliced_nil ?_))))
  subst ey
  cases l:valV kvs k with
  | some v=>exact d_pop I3 ea ry l (.inr ⟨fv,rfl⟩) fun w' s4 I4 rw'=>⟨v,_,I4,rw',q3 v l⟩
  | none=>exact d_popD I3 ea ry l fun s4 I4=>⟨z,H3,I4,rz,q4 l⟩
end
section
variable {X:Cx} {pins:List (Addr × Obj)} {σ:St} {H:Hp} {s:Shared} {a:Addr} {kvs:List (Key × V)} {A:Around} {E:Value→Shared→Prop}
end
section
variable {X:Cx} {pins:List (Addr × Obj)} {σ:St} {H:Hp} {s:Shared} {a:Addr} {y:V} {u:Value} {A:Around} {E:Value→Shared→Prop}
end
section
variable {κ:Type} [DecidableEq κ]
theorem valV_not {kvs:List (κ × V)} {k:κ} (h:valV kvs k=none):¬ k∈kvs.map (·.1):=by
  intro m
  obtain ⟨p,hp,e⟩:=List.mem_map.mp m
  have q:(kvs.any fun kv=>decide (kv.1=k))=true:=List.any_eq_true.mpr ⟨p,hp,decide_eq_true e⟩
  rw [valV_any,h] at q
  exact absurd q (by simp)
theorem nd_snoc:∀ {l:List κ} {k:κ},l.Nodup→¬ k∈l→(l++[k]).Nodup
  | [],k,_,_=>by simp
  | a::r,k,h,hk=>by
    obtain ⟨h1,h2⟩:=List.nodup_cons.mp h
    show (a::(r++[k])).Nodup
    refine List.nodup_cons.mpr ⟨fun m=>?_,nd_snoc h2 fun m=>hk (List.mem_cons.mpr (Or.inr m))⟩
    rcases List.mem_append.mp m with q|q
    · exact h1 q
    · exact hk (List.mem_cons.mpr (Or.inl (List.mem_singleton.mp q).symm))
theorem nd_putK {kvs:List (κ × V)} {k:κ} (v:V) (hn:(kvs.map (·.1)).Nodup) (h:valV kvs k=none):((putK kvs k v).map (·.1)).Nodup:=by
  rw [putK_new v h,List.map_append]
  exact nd_snoc hn (valV_not h)
theorem dropK_pos {p:κ × V} {r:List (κ × V)} {k:κ} (e:p.1=k):dropK (p::r) k=dropK r k:=by
  unfold dropK
  rw [List.filter_cons,if_neg (by simp [e])]
theorem dropK_neg {p:κ × V} {r:List (κ × V)} {k:κ} (e:¬ p.1=k):dropK (p::r) k=p::dropK r k:=by
  unfold dropK
  rw [List.filter_cons,if_pos (by simp [e])]
end
section
variable {prog:Program} {w:World} {A:Around} {R:Result→Shared→Prop} {s:Shared}
abbrev testsOf (ifs:List Expr) (env:Env):Sem Bool:=
  forIn ifs true fun c r=>if r=true then do let ok ← isTrue c env (eval c env); pure (ForInStep.yield ok) else pure (ForInStep.yield r)
theorem compLoop_gen {elt target iter:Expr} {ifs:List Expr} {scope:Scope} {pos:Pos} {it acc:Value} {env:Env} {nE:Value→Shared→Prop} (hE:nE=notedBy (model prog w) A env fun e s'=>R (.error e) s') (I:Nat→Shared→Prop)
    (turn:∀ n s,I n s→wpAny (model prog w) A (pyNext it) (fun r s1=>match r with
      | none=>R (.ok .next) s1
      | some v=>wpAny (model prog w) A (letOwnedTupleGo target it v) (fun _ s1b=>wpAny (model prog w) A (assign target env v) (fun _ s2=>
          wpAny (model prog w) A (testsOf ifs env) (fun ok s3=>
            if ok=true then wpAny (model prog w) A (eval elt env) (fun x s4=>
              wpAny (model prog w) A (call (.builtin "list.append") [acc,x]) (fun _ s5=>∃ m,m<n∧I m s5) nE s4) nE s3
            else ∃ m,m<n∧I m s3) nE s2) nE s1b) nE s1) nE s)
    (n:Nat) (h:I n s) :
    codeAny (model prog w) A (.compLoop (.ListComp elt [⟨target,iter,ifs,0⟩] scope pos) 0 it acc env) R s:=by
  subst hE
  refine codeAny_loop rfl I (fun n s hI=>?_) n h
  show wpAny _ A ((compTurn (.ListComp elt [⟨target,iter,ifs,0⟩] scope pos) 0 it acc env).onRaise (fun x=>do noteFrame x env; theTreesLotGoes x)) _ _ s
  refine wpAny_noted ?_
  rw [compTurn_list]
  refine wpAny_bind (wpAny_standAt (wpAny_bind (wpAny_mono (turn n s hI) (fun r s1 h1=>?_) fun _ _ h'=>h')))
  cases r with
  | none=>exact wpAny_pure h1
  | some v=>
    refine wpAny_bind (wpAny_mono h1 (fun _ s1b h1b=>?_) fun _ _ h'=>h')
    refine wpAny_bind (wpAny_mono h1b (fun _ s2 h2=>wpAny_bind (wpAny_mono h2 (fun ok s3 h3=>?_) fun _ _ h'=>h')) fun _ _ h'=>h')
    cases ok with
    | false=>exact wpAny_pure ⟨rfl,h3⟩
    | true=>
      exact wpAny_bind (wpAny_bind (wpAny_mono h3 (fun x s4 h4=>wpAny_bind (wpAny_mono h4 (fun _ s5 h5=>wpAny_pure (wpAny_pure ⟨rfl,h5⟩)) fun _ _ h'=>h')) fun _ _ h'=>h'))
end
def clOf (cells:List (Str × Addr)):List (Str × NameKind)→List (Str × Addr)→List (Str × Addr)
  | [],acc=>acc
  | (n,k)::r,acc=>clOf cells r (if k == NameKind.free then (n,(cells.lookup n).getD 0)::acc else acc)
theorem closure_forIn (env:Env):∀ (names:List (Str × NameKind)) (acc:List (Str × Addr)),(∀ y∈names,y.2=.free→∃ c,env.cells.lookup y.1=some c) →
    (forIn names acc fun x (r:List (Str × Addr))=>match x with
      | (name,kind)=>if (kind == NameKind.free)=true then (do let a ← cellOf env name; pure (ForInStep.yield ((name,a)::r))) else pure (ForInStep.yield r):Sem (List (Str × Addr)))=pure (clOf env.cells names acc)
  | [],acc,_=>by simp [clOf]
  | (n,k)::r,acc,h=>by
    have ih:=fun acc=>closure_forIn env r acc fun y hy=>h y (List.mem_cons_of_mem _ hy)
    rw [List.forIn_cons]
    unfold clOf
    by_cases hk:k=.free
    · subst hk
      obtain ⟨c,e⟩:=h (n,.free) List.mem_cons_self rfl
      simp only [beq_self_eq_true,if_true,cellOf,e,Option.getD_some,pure_bind]
      exact ih _
    · have hb:(k == NameKind.free)=false:=by simpa using hk
      simp only [hb,Bool.false_eq_true,if_false,pure_bind]
      exact ih _
theorem closureFor_eq {scope:Scope} {env:Env} (h:∀ y∈scope.names,y.2=.free→∃ c,env.cells.lookup y.1=some c):closureFor scope env=pure (clOf env.cells scope.names []):=by
  have e:=closure_forIn env scope.names [] h
  unfold closureFor
  first
    | (rw [e]; rfl)
    | (simp only [bind_pure]; exact e)
    | (show (_ >>= _)=_; rw [e]; rfl)
theorem clOf_lookup {cells:List (Str × Addr)} {x:Str} {c:Addr}:∀ (names:List (Str × NameKind)) (acc:List (Str × Addr)),(∀ y∈names,y.2=.free→∃ c,cells.lookup y.1=some c) →
    (∀ d,acc.lookup x=some d→cells.lookup x=some d)→(clOf cells names acc).lookup x=some c→cells.lookup x=some c
  | [],acc,_,ha,e=>ha c e
  | (n,k)::r,acc,h,ha,e=>by
    unfold clOf at e
    refine clOf_lookup r _ (fun y hy=>h y (List.mem_cons_of_mem _ hy)) (fun d hd=>?_) e
    by_cases hk:k=.free
    · subst hk
      obtain ⟨c',e'⟩:=h (n,.free) List.mem_cons_self rfl
      have e2:cells.lookup n=some c':=e'
      rw [if_pos (beq_self_eq_true _),e2] at hd
      cases hx:x == n with
      | true=>
        have:x=n:=eq_of_beq hx
        subst this
        simp only [List.lookup_cons,hx,Option.getD_some] at hd
        rw [e2]
        exact hd
      | false=>
        simp only [List.lookup_cons,hx] at hd
        exact ha d hd
    · have hb:¬ (k == NameKind.free)=true:=by simpa using hk
      rw [if_neg hb] at hd
      exact ha d hd
theorem clOf_keeps {cells:List (Str × Addr)} {x:Str}:∀ (names:List (Str × NameKind)) (acc:List (Str × Addr)),(acc.lookup x).isSome=true→((clOf cells names acc).lookup x).isSome=true
  | [],_,h=>h
  | (n,k)::r,acc,h=>by
    unfold clOf
    refine clOf_keeps r _ ?_
    by_cases hk:(k == NameKind.free)=true
    · rw [if_pos hk]
      cases hx:x == n with
      | true=>simp only [List.lookup_cons,hx,Option.isSome_some]
      | false=>simp only [List.lookup_cons,hx]; exact h
    · rw [if_neg hk]; exact h
theorem clOf_has {cells:List (Str × Addr)} {x:Str}:∀ (names:List (Str × NameKind)) (acc:List (Str × Addr)),(x,NameKind.free)∈names→((clOf cells names acc).lookup x).isSome=true
  | (n,k)::r,acc,h=>by
    unfold clOf
    rcases List.mem_cons.mp h with e|h
    · cases e
      refine clOf_keeps r _ ?_
      rw [if_pos (beq_self_eq_true _)]
      simp only [List.lookup_cons,beq_self_eq_true,Option.isSome_some]
    · exact clOf_has r _ h
theorem relab_lookup {env:Env} (x:Str):∀ names:List (Str × NameKind),
    (names.map fun (n,k)=>if (k == NameKind.free && env.scope.kind == .function && env.kindOf n == some .cell) then (n,NameKind.cell) else (n,k)).lookup x =
      (names.lookup x).map fun k=>if (k == NameKind.free && env.scope.kind == .function && env.kindOf x == some .cell) then NameKind.cell else k
  | []=>rfl
  | (n,k)::r=>by
    have ih:=relab_lookup (env:=env) x r
    rw [mZ1]
    cases hx:x == n with
    | true=>
      have:x=n:=eq_of_beq hx
      subst this
      show List.lookup x ((if (k == NameKind.free && env.scope.kind == .function && env.kindOf x == some .cell)=true then (x,NameKind.cell) else (x,k))::_)=_
      by_cases hc:(k == NameKind.free && env.scope.kind == .function && env.kindOf x == some .cell)=true
      · rw [if_pos hc]; simp only [List.lookup_cons,hx,Option.map_some]; rw [if_pos hc]
      · rw [if_neg hc]; simp only [List.lookup_cons,hx,Option.map_some]; rw [if_neg hc]
    | false=>
      show List.lookup x ((if (k == NameKind.free && env.scope.kind == .function && env.kindOf n == some .cell)=true then (n,NameKind.cell) else (n,k))::_)=_
      by_cases hc:(k == NameKind.free && env.scope.kind == .function && env.kindOf n == some .cell)=true
      · rw [if_pos hc]; simp only [List.lookup_cons,hx]; exact ih
      · rw [if_neg hc]; simp only [List.lookup_cons,hx]; exact ih
structure CScope (own caps:List Str) (scope osc:Scope):Prop where
  kind:scope.kind=.function
  nocell:∀ y∈scope.names,y.2≠.cell
  loc:∀ y∈scope.names,y.2=.local→scope.names.lookup y.1=some .local
  fr:∀ y∈scope.names,y.2=.free→osc.names.lookup y.1=some .cell∨osc.names.lookup y.1=some .free
  cap:∀ x∈caps,scope.names.lookup x=some .free
  nd:(own++caps).Nodup
def cxC (X:Cx) (scope:Scope) (N':List Str) (C:Addr) (fp:List Addr) (s:Shared) (H:Hp):Cx where
  prog:=X.prog
  w:=X.w
  K:=X.K
  mg:=X.mg
  base:=X.base
  A:=X.A
  N:=N'
  s₀:=s
  H₀:=H
  env:=compEnvC scope (clOf X.env.cells scope.names []) C X.env
  outer:=X.stack
  stack:=X.stack
  ex:=fp
  fn:=fun _=>false
  calm:=X.calm
  pn:=X.pn
  xe:=fun _ _=>False
def cSt (n:Nat) (js:List Nat) (σ:St):St:=List.replicate n none++js.map fun j=>(σ[j]?).join
def PF (X:Cx) (ifs:List Expr) (t:TT):Prop:=
  ∀ (pins:List (Addr × Obj)) (s:Shared) (σ:St) (H:Hp) (Q:Bool→Hp→Prop),Inv X pins σ H s→t σ H Q→wpAny (model X.prog X.w) X.A (testsOf ifs X.env) (TP X pins σ Q) X.xe s
def tYes:TT:=fun _ H Q=>Q true H
theorem pf_nil {X:Cx}:PF X [] tYes:=fun pins s σ H Q I h=>by
  show wpAny _ _ (forIn [] true _) _ _ s
  rw [List.forIn_nil]
  exact wpAny_pure ⟨H,I,h⟩
def tComp (n:Nat) (js:List Nat) (wi:TI) (g:TG) (tc:TT) (te:TE):TE:=fun σ H Q=>wi σ H fun J H1=>∀ D,H1 D=none→∃ W:Nat→Nat→List V→Hp→Prop,(∃ m,W 0 m [] (upd H1 D (.lst [])))∧∀ i m acc H,W i m acc H →
  H D=some (.lst acc)∧((J.stop i H∧Q (.ref D) H)∨(J.go i H∧acc.length<sizeLine∧∃ Nx:List V→Hp→Prop,(∀ acc' H',Nx acc' H'→∃ m',m'<m∧W (i+1) m' acc' H') ∧
    ∀ x H',J.yld i H x H'→g x (cSt n js σ) H' fun σ2 H2=>σ2.drop n=(cSt n js σ).drop n∧tc σ2 H2 fun b H3=>if b=true then te σ2 H3 fun v H4=>H4 D=some (.lst acc)∧Nx (acc++[v]) (upd H4 D (.lst (acc++[v]))) else H3 D=some (.lst acc)∧Nx acc H3))
section
variable {X:Cx} {pins:List (Addr × Obj)} {σ:St} {H:Hp} {s:Shared}
abbrev capN (X:Cx) (js:List Nat):List Str:=js.map fun j=>(X.N[j]?).getD Str.empty
theorem js_ok {X:Cx} {js:List Nat} (h:(js.all fun j=>decide (j<X.N.length))=true):∀ j∈js,∃ x,X.N[j]?=some x:=fun j hj=>by
  have:=of_decide_eq_true (List.all_eq_true.mp h j hj)
  exact ⟨X.N[j],List.getElem?_eq_getElem this⟩
theorem Inv.block {scope:Scope} {own:List Str} {js:List Nat} {fp:List Addr} {h':Heap} {t':Nat} {m:Str→Option Value} (I:Inv X pins σ H s) (S:CScope own (capN X js) scope X.env.scope) (hj:∀ j∈js,∃ x,X.N[j]?=some x)
    (hf:∀ b∈fp,FpOk X pins H b) (hfo:∀ b∈fp,∃ o,s.heap.get? b=some o) (hn:h'.Ns s.heap.objs.size m) (hk:∀ b o,s.heap.get? b=some o→h'.get? b=some o) :
    Inv (cxC X scope (own++capN X js) s.heap.objs.size fp s H) pins (cSt own.length js σ) H { s with heap:=h',toks:=t' }:=by
  have hfr:∀ y∈scope.names,y.2=.free→∃ c,X.env.cells.lookup y.1=some c:=fun y hy e=>I.ok.has y.1 (S.fr y hy e)
  have hcl:∀ x c,(clOf X.env.cells scope.names []).lookup x=some c→X.env.cells.lookup x=some c:=fun x c e=>clOf_lookup scope.names [] hfr (fun d z=>nomatch z) e
  have hlt:∀ b o,s.heap.get? b=some o→b≠s.heap.objs.size:=fun b o e=>Nat.ne_of_lt (Heap.lt_size e)
  have nstk:∀ b,b≠X.env.locals→b ∉ X.fs→b ∉ frs X.stack:=fun b h1 h2 hb=>(List.mem_cons.mp (I.stkSub b hb)).elim h1 h2
  have hrl:∀ x,(relabel scope X.env).names.lookup x=(scope.names.lookup x).map fun k=>if (k == NameKind.free && X.env.scope.kind == .function && X.env.kindOf x == some .cell) then NameKind.cell else k:=fun x=>relab_lookup x scope.names
  refine ⟨⟨I.ok.mod,S.kind,I.ok.glob,I.ok.blt,Nat.le_refl _,fun x y c h1 h2=>I.ok.inj x y c (hcl x c h1) (hcl y c h2),fun x hx=>?_,(fun x c z=>nomatch z),I.ok.hd,I.ok.frames,.inl rfl,fun b hb=>?_,I.bs,Nat.le_trans I.ok.bsz I.sz,fun b o e hb=>?_,fun b hb=>?_,I.stack,I.stkFree⟩,
    rfl,I.bare,Un.kept hk,⟨m,hn,fun i x v h1 h2 h3=>?_⟩,fun x c e=>?_,I.hok.fresh (Nat.le_refl _),fun x c e=>I.freeC x c (hcl x c e),fun p hp=>?_,I.hok.kept hk,?_⟩
  · have hx':(relabel scope X.env).names.lookup x=some .cell∨(relabel scope X.env).names.lookup x=some .free:=hx
    rw [hrl] at hx'
    cases e:scope.names.lookup x with
    | none=>rw [e] at hx'; rcases hx' with z|z <;> cases z
    | some k=>
      have hm:(x,k)∈scope.names:=PySem.mem_of_lookup e
      have hkf:k=.free:=by
        rw [e] at hx'
        cases k with
        | free=>rfl
        | cell=>exact absurd rfl (S.nocell _ hm)
        | _=>exfalso; revert hx'; simp
      subst hkf
      exact Option.isSome_iff_exists.mp (clOf_has scope.names [] hm)
  · obtain ⟨o,e⟩:=hfo b hb
    obtain ⟨_,_,_,_,f4,_⟩:=hf b hb
    exact ⟨hlt b o e,fun x c z=>f4 x c (hcl x c z)⟩
  · obtain ⟨_,_,_,f3,_⟩:=hf b hb
    rcases f3 with z|z
    · exact I.ok.noex b o e z
    · exact absurd (Nat.lt_of_lt_of_le (Heap.lt_size (I.ok.bs b o e).1) z) (Nat.lt_irrefl _)
  · obtain ⟨_,f1,f2,_⟩:=hf b hb
    exact nstk b f1 f2
  ·
    have h1':(own++capN X js)[i]?=some x:=h1
    have hi:own.length≤i:=by
      rcases Nat.lt_or_ge i own.length with z|z
      · exfalso
        unfold cSt at h2
        rw [List.getElem?_append_left (by simpa using z),List.getElem?_replicate] at h2
        split at h2 <;> cases h2
      · exact z
    rw [List.getElem?_append_right hi] at h1'
    unfold cSt at h2
    rw [List.getElem?_append_right (by simpa using hi),List.length_replicate,List.getElem?_map] at h2
    unfold capN at h1'
    rw [List.getElem?_map] at h1'
    cases ej:js[i - own.length]? with
    | none=>rw [ej] at h2; cases h2
    | some j=>
      rw [ej] at h1' h2
      obtain ⟨y,ey⟩:=hj j (List.mem_of_getElem? ej)
      have exy:y=x:=by
        have z:some ((X.N[j]?).getD Str.empty)=some x:=h1'
        rw [ey] at z
        exact Option.some.inj z
      subst exy
      have es:σ[j]?=some (some v):=by
        have z:some ((σ[j]?).join)=some (some v):=h2
        cases q:σ[j]? with
        | none=>rw [q] at z; cases z
        | some o=>rw [q] at z; cases o with
          | none=>cases z
          | some v'=>cases z; rfl
      have hcap:y∈capN X js:=List.mem_map.mpr ⟨j,List.mem_of_getElem? ej,by rw [ey]; rfl⟩
      have hfree:scope.names.lookup y=some .free:=S.cap y hcap
      have hm:(y,NameKind.free)∈scope.names:=PySem.mem_of_lookup hfree
      have ho:=S.fr _ hm rfl
      obtain ⟨m0,hn0,hl0⟩:=I.loc
      obtain ⟨u,r,l⟩:=hl0 j y v ey es (ho.elim (fun z=>.inr (.inl z)) fun z=>.inr (.inr z))
      refine ⟨u,r,.inr ⟨?_,?_⟩⟩
      · show (relabel scope X.env).names.lookup y=_∨(relabel scope X.env).names.lookup y=_
        rw [hrl,hfree,Option.map_some]
        by_cases hcc:(NameKind.free == NameKind.free && X.env.scope.kind == .function && X.env.kindOf y == some .cell)=true
        · rw [if_pos hcc]; exact .inl rfl
        · rw [if_neg hcc]; exact .inr rfl
      · rcases l with ⟨k,_⟩|⟨_,c,e,z⟩
        · have k':X.env.scope.names.lookup y=some .local:=k
          rcases ho with z|z <;> (rw [k'] at z; cases z)
        · obtain ⟨c',e'⟩:=Option.isSome_iff_exists.mp (clOf_has (cells:=X.env.cells) scope.names [] hm)
          have:=hcl y c' e'
          rw [e] at this
          cases this
          refine ⟨c,e',?_⟩
          obtain ⟨oc,ho',hd⟩:=z
          exact ⟨oc,hk c oc ho',hd⟩
  · obtain ⟨v,o,ho,hd⟩:=I.cell x c (hcl x c e)
    exact ⟨v,o,hk c o ho,hd⟩
  · obtain ⟨e,n,ne,nf,d⟩:=I.pin p hp
    exact ⟨hk _ _ e,n,hlt _ _ e,nstk p.1 ne nf,d⟩
  · unfold cSt
    show _=(own++capN X js).length
    simp
theorem Inv.unblock {scope:Scope} {N':List Str} {fp:List Addr} {σb:St} {H':Hp} {s':Shared} {h':Heap} (I:Inv X pins σ H s) (hf:∀ b∈fp,FpOk X pins H b)
    (B:Inv (cxC X scope N' s.heap.objs.size fp s H) pins σb H' s') (hs:Heap.SameBut s.heap.objs.size s'.heap h'):Inv X pins σ H' { s' with heap:=h' }:=by
  have hlt:∀ b o,s.heap.get? b=some o→b≠s.heap.objs.size:=fun b o e=>Nat.ne_of_lt (Heap.lt_size e)
  have hu:Un (frs X.stack) fp H H' s.heap s'.heap:=B.base
  have hfree:H' s.heap.objs.size=none:=B.free
  refine I.call' (s':={ s' with heap:=h' }) (ch:=fp) B.os ⟨fun b o e n hb hx=>?_,fun b o e n hb hx=>?_,hu.free,fun b o e hx=>?_,hu.tups,hu.frzs,hu.tbls⟩ (fun b u e=>?_) B.bare fun b hb=>?_
  · exact (hs.2 b (hlt b o e)).trans (hu.keep b o e n hb hx)
  · obtain ⟨sl,z⟩:=hu.slot b o e n hb hx
    exact ⟨sl,(hs.2 b (hlt b o e)).trans z⟩
  · obtain ⟨o',z⟩:=hu.there b o e hx
    exact ⟨o',(hs.2 b (hlt b o e)).trans z⟩
  · refine (B.hok b u e).stay (fun c v hc q=>(hs.2 c ?_).trans q) (fun _ q=>q) fun _ _ q=>q
    rintro rfl
    rcases hc with z|z
    · rw [← z,hfree] at e; cases e
    · rw [hfree] at z; cases z
  · obtain ⟨_,f1,f2,f3,f4,f5⟩:=hf b hb
    exact ⟨f3,f1,f4,f5⟩
end
section
variable {X:Cx} {elt tg iter:Expr} {ifs:List Expr} {scope:Scope} {pos:Pos} {own:List Str} {js:List Nat} {wi:TI} {g:TG} {tc:TT} {te:TE}
theorem comp_core (hc:X.calm=true) (S:CScope own (capN X js) scope X.env.scope) (hj:∀ j∈js,∃ x,X.N[j]?=some x) (hi:PI X tg iter wi)
    (hg:∀ C fp s H,PG (cxC X scope (own++capN X js) C fp s H) tg g) (ht:∀ C fp s H,PF (cxC X scope (own++capN X js) C fp s H) ifs tc) (he:∀ C fp s H,PE (cxC X scope (own++capN X js) C fp s H) elt te)
    {pins:List (Addr × Obj)} {σ:St} {H:Hp} {s:Shared} {Q:VK} (I:Inv X pins σ H s) (h:tComp own.length js wi g tc te σ H Q) {RR:Value→Addr→Result→Shared→Prop}
    (hRR:∀ D C s' m H',s'.heap.Ns C m→H' C=none→C≠X.env.locals→C ∉ X.fs→(∀ x c,X.env.cells.lookup x=some c→c≠C)→X.s₀.heap.objs.size≤C→(∀ p∈X.pn++pins,p.1≠C)→(∀ h',Heap.SameBut C s'.heap h'→Inv X pins σ H' { s' with heap:=h' })→Q (.ref D) H'→RR (.ref D) C (.ok .next) s') :
    wpAny (model X.prog X.w) X.A (eval iter X.env) (fun x s1=>wpAny (model X.prog X.w) X.A (pyIter x) (fun it s2=>wpAny (model X.prog X.w) X.A (newList []) (fun acc s3=>
      wpAny (model X.prog X.w) X.A (newFunctionEnv scope X.env.globals (clOf X.env.cells scope.names []) [] X.env.qual none .none (some X.env)) (fun cenv s4=>
        codeAny (model X.prog X.w) X.A (.compStart (.ListComp elt [⟨tg,iter,ifs,0⟩] scope pos) 0 it acc { cenv with scope:=relabel scope X.env }) (RR acc cenv.locals) s4) X.xe s3) X.xe s2) X.xe s1) X.xe s:=by
  refine thn (hi pins s σ H _ I h) fun v s1 h1=>thn h1 fun itv s2 h2=>?_
  obtain ⟨it,fp,tn,J,H2,e,I2,T,st2,f2,hq⟩:=h2
  subst e
  refine wpAny_newList ?_ (by simp)
  have I3:=I2.lnew (t':=s2.toks) (ys:=[]) (its:=[]) .nil (by simp)
  have hDn:H2 s2.heap.objs.size=none:=I2.fresh
  generalize hD:s2.heap.objs.size=D at I3 hDn ⊢
  generalize hH3:upd H2 D (.lst [])=H3 at I3
  generalize hs3:({ s2 with heap:=s2.heap.push { cls:=.type "list", data:=.seq ([]:List Value).toArray },toks:=s2.toks }:Shared)=s3 at I3
  have k3:∀ b o,s2.heap.get? b=some o→s3.heap.get? b=some o:=fun b o e=>by rw [← hs3]; exact Heap.get?_push_of_some _ e
  have st3:tn 0 s3.heap:=T.keep _ _ _ st2 fun b _ o e=>k3 b o e
  have fo2:∀ b∈fp,∃ o,s2.heap.get? b=some o:=fun b hb=>(T.obj _ _ st2 b hb).imp fun _ z=>z.1
  have neD:∀ b∈fp,b≠D:=fun b hb=>by
    obtain ⟨o,e⟩:=fo2 b hb
    rw [← hD]
    exact Nat.ne_of_lt (Heap.lt_size e)
  have f3:∀ b∈fp,FpOk X pins H3 b:=fun b hb=>by
    obtain ⟨a0,a1⟩:=f2 b hb
    exact ⟨by rw [← hH3,upd_ne (neD b hb)]; exact a0,a1⟩
  have fo3:∀ b∈fp,∃ o,s3.heap.get? b=some o:=fun b hb=>(fo2 b hb).imp fun o e=>k3 b o e
  obtain ⟨W,⟨m0,w0⟩,turn⟩:=hq D hDn
  rw [hH3] at w0
  refine wpAny_newFunctionEnv S.nocell (by intro y hy; simp at hy) (fun h4 hns4 hsb4=>?_) S.kind
  have k4:∀ b o,s3.heap.get? b=some o→h4.get? b=some o:=fun b o e=>hsb4.extBut b o (Nat.ne_of_lt (Heap.lt_size e)) (Heap.get?_push_of_some _ e)
  have B4:=I3.block (t':=s3.toks+([]:List (Str × Value)).length) S hj f3 fo3 hns4 k4
  have st4:tn 0 h4:=T.keep _ _ _ st3 fun b _ o e=>k4 b o e
  have f4:∀ b∈fp,FpOk (cxC X scope (own++capN X js) s3.heap.objs.size fp s3 H3) pins H3 b:=fun b hb=>by
    obtain ⟨a0,a1,a2,a3,a4,a5⟩:=f3 b hb
    obtain ⟨o,e⟩:=fo3 b hb
    exact ⟨a0,(B4.ok.exf b hb).1,B4.ok.exfs b hb,.inl hb,(B4.ok.exf b hb).2,a5⟩
  have nL:s3.heap.objs.size≠X.env.locals:=Nat.ne_of_gt I3.lt
  have nF:s3.heap.objs.size ∉ X.fs:=I3.nofs (Nat.le_refl _)
  have nC:∀ x c,X.env.cells.lookup x=some c→c≠s3.heap.objs.size:=fun x c e=>by
    obtain ⟨_,o,ho,_⟩:=I3.cell x c e
    exact Nat.ne_of_lt (Heap.lt_size ho)
  have loop:∀ s5:Shared,s5={ s3 with heap:=h4,toks:=s3.toks+([]:List (Str × Value)).length } →
      codeAny (model X.prog X.w) X.A (.compLoop (.ListComp elt [⟨tg,iter,ifs,0⟩] scope pos) 0 (.ref it) (.ref D) (compEnvC scope (clOf X.env.cells scope.names []) s3.heap.objs.size X.env)) (RR (.ref D) s3.heap.objs.size) s5:=by
    rintro s5 rfl
    have stat:∀ {H':Hp},(∀ b∈fp,H' b=none)→∀ b∈fp,FpOk (cxC X scope (own++capN X js) s3.heap.objs.size fp s3 H3) pins H' b:=fun hn b hb=>⟨hn b hb,(f4 b hb).2⟩
    refine compLoop_gen rfl (fun n s'=>∃ i acc H',Inv (cxC X scope (own++capN X js) s3.heap.objs.size fp s3 H3) pins (cSt own.length js σ) H' s'∧tn i s'.heap∧(∀ b∈fp,H' b=none)∧W i n acc H') ?_ m0
      ⟨0,[],H3,B4,st4,fun b hb=>(f3 b hb).1,w0⟩
    rintro n s6 ⟨i,acc,H6,B6,st6,fr6,w6⟩
    obtain ⟨hacc,way⟩:=turn i n acc H6 w6
    rcases way with ⟨stop,q⟩|⟨go,hz,Nx,hN,step⟩
    · refine thn (T.done (cxC X scope (own++capN X js) s3.heap.objs.size fp s3 H3) rfl rfl rfl hc i pins s6 _ H6 _ B6 (stat fr6) st6 stop) fun r s7 ⟨hr,B7⟩=>?_
      subst hr
      obtain ⟨m,hm,_⟩:=B7.loc
      exact hRR D _ s7 m H6 hm B7.free nL nF nC I3.sz (fun p hp=>Nat.ne_of_lt (Heap.lt_size (I3.pin p hp).1)) (fun h' hs=>I3.unblock f3 B7 hs) q
    · refine thn (T.item (cxC X scope (own++capN X js) s3.heap.objs.size fp s3 H3) rfl rfl rfl hc i pins s6 _ H6 _ B6 (stat fr6) st6 go) fun r s7 ⟨u,hr,h7⟩=>?_
      subst hr
      refine thn h7 fun _ s8 ⟨x,H8,B8,r8,y8,st8,fr8⟩=>?_
      have B8':=B8.pinned (stat fr8) (T.obj _ _ st8)
      have away:∀ {s9:Shared} {σ9:St} {H9:Hp} {acc':List V},Inv (cxC X scope (own++capN X js) s3.heap.objs.size fp s3 H3) (pins++pinsAt fp s8.heap) σ9 H9 s9→σ9.drop own.length=(cSt own.length js σ).drop own.length→Nx acc' H9 →
          ∃ m',m'<n∧∃ i acc H',Inv (cxC X scope (own++capN X js) s3.heap.objs.size fp s3 H3) pins (cSt own.length js σ) H' s9∧tn i s9.heap∧(∀ b∈fp,H' b=none)∧W i m' acc H':=fun {s9 σ9 H9 acc'} B9 hd nx=>by
        obtain ⟨m',hm,w9⟩:=hN acc' H9 nx
        refine ⟨m',hm,i+1,acc',H9,B9.unpinned.weak ?_ ?_,T.keep _ _ _ st8 fun b hb o e=>(B9.pin (b,o) (List.mem_append_right _ (List.mem_append_right _ (mem_pinsAt hb e)))).1,fun b hb=>?_,w9⟩
        · rw [B9.len,B6.len]
        · intro k v hv
          unfold cSt at hv
          have hk:own.length≤k:=by
            rcases Nat.lt_or_ge k own.length with z|z
            · exfalso
              rw [List.getElem?_append_left (by simpa using z),List.getElem?_replicate] at hv
              split at hv <;> cases hv
            · exact z
          have e1:σ9[k]?=(σ9.drop own.length)[k - own.length]?:=by rw [List.getElem?_drop]; congr 1; omega
          rw [e1,hd,List.getElem?_drop]
          have e2:own.length+(k - own.length)=k:=by omega
          rw [e2]
          exact hv
        · obtain ⟨o,e,d⟩:=T.obj _ _ st8 b hb
          exact (B9.pin (b,o) (List.mem_append_right _ (List.mem_append_right _ (mem_pinsAt hb e)))).2.1
      refine wpAny_mono (hg _ _ _ _ _ s8 _ H8 x u _ B8' r8 (step x H8 y8)) (fun _ s9 ⟨σ9,H9,B9,hd9,q9⟩=>?_) fun _ _ f=>f.elim
      refine wpAny_mono (ht _ _ _ _ _ s9 σ9 H9 _ B9 q9) (fun b s10 ⟨H10,B10,q10⟩=>?_) fun _ _ f=>f.elim
      cases b with
      | false=>
        rw [if_neg Bool.false_ne_true] at q10 ⊢
        exact away B10 hd9 q10.2
      | true=>
        rw [if_pos rfl] at q10 ⊢
        refine wpAny_mono (he _ _ _ _ _ s10 σ9 H10 _ B10 q10) (fun y s11 ⟨z,H11,B11,r11,q11⟩=>?_) fun _ _ f=>f.elim
        obtain ⟨hl11,nx⟩:=q11
        refine wpAny_mono (mt_append (X:=cxC X scope (own++capN X js) s3.heap.objs.size fp s3 H3) _ s11 σ9 H11 (.ref D) [z] (.ref D) [y] (fun _ H12=>Nx (acc++[z]) H12) B11 rfl (.cons r11 .nil) ⟨D,acc,z,rfl,rfl,hl11,hz,nx⟩) (fun _ s12 ⟨_,H12,B12,_,q12⟩=>?_) fun _ _ f=>f.elim
        exact away B12 hd9 q12
  exact codeAny_compStart_list (loop _ rfl) (T.self X.A 0 _ _ _ st4 (loop _ rfl))
theorem pe_comp (own caps:List Str) (js:List Nat) (hc:X.calm=true) {osc:Scope} (S:CScope own caps scope osc) (hi:PI X tg iter wi)
    (hg:∀ C fp s H,PG (cxC X scope (own++caps) C fp s H) tg g) (ht:∀ C fp s H,PF (cxC X scope (own++caps) C fp s H) ifs tc) (he:∀ C fp s H,PE (cxC X scope (own++caps) C fp s H) elt te)
    (ho:X.env.scope=osc:=by rfl) (hcp:capN X js=caps:=by rfl) (hj:(js.all fun j=>decide (j<X.N.length))=true:=by rfl)
    (hs:∀ x,foldedSetIterable iter X.env x=pure x:=by intro _; rfl):PE X (.ListComp elt [⟨tg,iter,ifs,0⟩] scope pos) (tComp own.length js wi g tc te):=by
  subst ho
  subst hcp
  intro pins s σ H Q I h
  have hfr:∀ y∈scope.names,y.2=.free→∃ c,X.env.cells.lookup y.1=some c:=fun y hy e=>I.ok.has y.1 (S.fr y hy e)
  rw [eval_ListComp]
  refine wpAny_comprehension_free (use:=none) rfl hs (closureFor_eq hfr) S.kind S.loc ?_
  refine comp_core hc S (js_ok hj) hi hg ht he I h (RR:=fun acc C=>compPost (model X.prog X.w) X.A X.xe none (EP X pins σ Q) acc C) ?_
  intro D C s' m H' hn hf h1 h2 h3 h4 h5 hI hq
  exact ⟨m,hn,fun h' hs'=>⟨.ref D,H',hI h' hs',rfl,hq⟩⟩
theorem ps_setC {i:Nat} {x:Str} {pos' spos:Pos} (own caps:List Str) (js:List Nat) (hc:X.calm=true) (hN:X.N.Nodup) (hxi:X.N[i]?=some x) (hx:Loc X.env.scope x)
    {osc:Scope} (S:CScope own caps scope osc) (hi:PI X tg iter wi)
    (hg:∀ C fp s H,PG (cxC X scope (own++caps) C fp s H) tg g) (ht:∀ C fp s H,PF (cxC X scope (own++caps) C fp s H) ifs tc) (he:∀ C fp s H,PE (cxC X scope (own++caps) C fp s H) elt te)
    (hsw:swapsWith (.ListComp elt [⟨tg,iter,ifs,0⟩] scope pos) (some (.Name x pos')) spos.line X.env=pure true)
    (ho:X.env.scope=osc:=by rfl) (hcp:capN X js=caps:=by rfl) (hj:(js.all fun j=>decide (j<X.N.length))=true:=by rfl)
    (hf:X.fn x=true∨X.env.scope.names.lookup x=some .local:=by first|exact .inl rfl|exact .inr rfl|assumption)
    (hs:∀ x,foldedSetIterable iter X.env x=pure x:=by intro _; rfl):PS X (.Assign [.Name x pos'] (.ListComp elt [⟨tg,iter,ifs,0⟩] scope pos) spos) (tAsg (tComp own.length js wi g tc te) (gName i)):=by
  subst ho
  subst hcp
  intro pins s σ H D0 I h
  have hfr:∀ y∈scope.names,y.2=.free→∃ c,X.env.cells.lookup y.1=some c:=fun y hy e=>I.ok.has y.1 (S.fr y hy e)
  have h':tComp own.length js wi g tc te σ H (fun v H1=>D0.nx (σ.set i (some v)) H1):=h
  unfold exec
  refine wpAny_bind (wpAny_standAt (wpAny_bind (wpAny_of_eq (show swapsWithSole _ _ _ _=_ from hsw) ?_)))
  simp only [if_true]
  unfold evalThenUse
  refine wpAny_bind (wpAny_bind ?_)
  refine wpAny_comprehension_free (use:=some _) (Q:=fun _ s'=>wpAny _ _ (pure PUnit.unit) (fun _ s''=>wpAny _ _ (pure Flow.next) (SP X pins D0) X.xe s'') X.xe s') rfl hs (closureFor_eq hfr) S.kind S.loc ?_
  refine comp_core hc S (js_ok hj) hi hg ht he I h' (RR:=fun acc C=>compPost (model X.prog X.w) X.A X.xe (some _) _ acc C) ?_
  intro D C s' m H' hn hfree h1 h2 h3 h4 h5 hI hq
  have I':Inv X pins σ H' s':=hI s'.heap (.refl ..)
  obtain ⟨o,es,ep,ho,hod,r⟩:=id hn
  show wpAny _ _ (assign (.Name x pos') X.env (.ref D)) _ _ s'
  refine wpAny_assign_Name (store_ok2 I' hN hxi hx (v:=.ref D) rfl (fun s2 I2 ⟨a,hsa,ha⟩=>?_) hf)
  have hCa:C≠a:=by
    rcases ha with z|z
    · rw [z]; exact h1
    · exact (h3 x a z).symm
  refine ⟨m,hn.sameBut hsa hCa,fun h'' hs''=>wpAny_pure (wpAny_pure ?_)⟩
  refine ⟨_,H',?_,hq⟩
  exact I2.turned (t':=s2.toks) (it:=C) (fun b o hb e=>(hs''.2 b hb).trans e) hfree (Ne.symm h1 |>.symm) (.inr h4) h3 h5
end
mutual
inductive Has (K:PySem.W.Frag) (H:Hp):V→PyData→Prop
  | non:Has K H .non .none
  | bl (b:Bool):Has K H (.bl b) (.bool b)
  | int (i:Int):Has K H (.int i) (.int i)
  | str (x:Str):Has K H (.str x) (.str x)
  | lst {a:Addr} {xs:List V} {ds:List PyData}:SqL K H a xs→HasAll K H xs ds→Has K H (.ref a) (.list ds)
  | tup {a:Addr} {xs:List V} {ds:List PyData}:SqT K H a xs→HasAll K H xs ds→Has K H (.ref a) (.tuple ds)
inductive HasAll (K:PySem.W.Frag) (H:Hp):List V→List PyData→Prop
  | nil:HasAll K H [] []
  | cons {x:V} {xs:List V} {d:PyData} {ds:List PyData}:Has K H x d→HasAll K H xs ds→HasAll K H (x::xs) (d::ds)
end
section
variable {X:Cx} {pins:List (Addr × Obj)} {σ:St} {H:Hp} {s:Shared}
mutual
theorem Has.reads (I:Inv X pins σ H s):∀ {x:V} {d:PyData} {u:Value},Has X.K H x d→RelV x u→∃ as,Reads s.heap u d as
  | _,_,_,.non,r=>by cases r; exact ⟨_,.none⟩
  | _,_,_,.bl b,r=>by cases r; exact ⟨_,.bool b⟩
  | _,_,_,.int i,r=>by obtain ⟨t,rfl⟩:=r; exact ⟨_,.int i t⟩
  | _,_,_,.str x,r=>by obtain ⟨t,rfl⟩:=r; exact ⟨_,.str x t⟩
  | _,_,_,.lst h hs,r=>by
    cases r
    obtain ⟨its,rv,⟨o,n,ho,hc,hd,hs'⟩,hz⟩:=I.list h
    obtain ⟨as,ra⟩:=HasAll.reads I hs rv
    exact ⟨_,.list ho hc hs' ra⟩
  | _,_,_,.tup h hs,r=>by
    cases r
    obtain ⟨its,rv,⟨o,ho,hc,n,hs'⟩,hz⟩:=I.tuple h
    obtain ⟨as,ra⟩:=HasAll.reads I hs rv
    exact ⟨_,.tuple ho hc hs' ra⟩
theorem HasAll.reads (I:Inv X pins σ H s):∀ {xs:List V} {ds:List PyData} {us:List Value},HasAll X.K H xs ds→Vals xs us→∃ as,ReadsAll s.heap us ds as
  | _,_,_,.nil,r=>by cases r; exact ⟨_,.nil⟩
  | _,_,_,.cons h hs,.cons r rs=>by
    obtain ⟨as,ra⟩:=Has.reads I h r
    obtain ⟨bs,rb⟩:=HasAll.reads I hs rs
    exact ⟨_,.cons ra rb⟩
end
end
def rEqD (K:PySem.W.Frag):R2:=fun x y H Q=>∃ d e,Has K H x d∧Has K H y e∧SeqAt.shaped d=true∧SeqAt.shaped e=true∧Q (.bl (PyData.eqv d e)) H
section
variable {X:Cx}
theorem op_eqD (hu:X.A.units+64<cLine):OpR X (compareOp .Eq) (rEqD X.K):=by
  intro pins s σ H x y v u Q I rx ry h
  obtain ⟨d,e,hd,he,sd,se,q⟩:=h
  obtain ⟨as,ra⟩:=hd.reads I rx
  obtain ⟨bs,rb⟩:=he.reads I ry
  exact SeqAt.compareEq_reads ra rb (SeqAt.canLay_of_shaped sd) (SeqAt.canLay_of_shaped se) (SeqAt.room_of_shaped sd hu) ⟨.bl _,H,I,rfl,q⟩
def clsV:V→Value
  | .ty n=>.type n
  | .ref a=>.ref a
  | _=>.none
end
end L2
namespace L2
open PySem PySem.Spec PyProof.Rows
def Def (K:PySem.W.Frag) (mg:Str→Option Value) (x:Str) (st:Stmt):Prop:=∃ f fd,mg x=some (.ref f)∧Fun K x x st f fd
def Own (P:Program) (w:World) (K:PySem.W.Frag) (mg:Str→Option Value) (base:Heap) (k:Nat) (x:Str) (ps:List Str) (sp:Sp):Prop:=
  ∃ f fd,mg x=some (.ref f)∧PySem.W.keepIn K (.ref f)=true∧Binds K fd ps []∧FnOk P w K mg base CX0 k f fd ps sp
theorem Def.own {P:Program} {w:World} {K:PySem.W.Frag} {mg:Str→Option Value} {base:Heap} {x:Str} {st:Stmt} {N ps:List Str} {k:Nat} {sp:Sp} (D:Def K mg x st) (S:FnScope N ps (defScope st))
    (hb:∀ (kV doc pm:Value) (an:Option Addr) (cdv ct:Value) (us:List Value),us.length=ps.length→bindArgs (PySem.W.fnOf x x (defArgs st) (defBody st) (defScope st) .none kV doc pm an cdv ct) ⟨us,[]⟩=pure (ps.zip us))
    (len:∀ vs H Q E,sp vs H Q E→vs.length=ps.length)
    (hbody:∀ (f:Addr) (cdv:Value) (A:Around) (outer:List Env) (s:Shared) (H:Hp) (vs:List V) (Q:VK) (E:XK),Room k (A.deeper (envOfC x (defScope st) s.heap.objs.size f cdv))→sp vs H Q E →
      ∃ t,PSs (cxOf CX0 P w K mg base N x (defScope st) f cdv A outer s H E).nox (defBody st) t∧t { nx:=fun _ H'=>Q .non H',rt:=Q } (start N vs) H):Own P w K mg base (k+1) x ps sp:=by
  obtain ⟨f,fd,hm,F⟩:=D
  exact ⟨f,fd,hm,F.kp,F.binds hb,F.ok S len (hbody f)⟩
theorem def_mk {K:PySem.W.Frag} {h:Heap} {mg:Str→Option Value} (X:K.In h) (G:h.Ns mainGlobals mg) {x:Str} {st:Stmt} {f:Addr} {oc:Value} {od an:Option Addr} {osl:Array (Option Value)} {kV doc pm cdv ct:Value}
    (a:PySem.W.nsIn K mainGlobals x=some (some (.ref f)))
    (l:K.lookup f=some ⟨oc,od,.func (PySem.W.fnOf x x (defArgs st) (defBody st) (defScope st) .none kV doc pm an cdv ct),osl⟩) (c:PySem.W.codeIn K cdv x=true) (k:PySem.W.keepIn K (.ref f)=true):Def K mg x st:=
  ⟨f,_,PySem.W.mg_of X G a,fun_mk l c k⟩
section
variable {X:Cx} {j k:Nat} {x:Str} {ps:List Str} {sp:Sp} {p pos:Pos} {e:Expr} {es:List Expr} {t:TA}
theorem pe_fn (F:Own X.prog X.w X.K X.mg X.base j x ps sp) (hr:Room k X.A) (ha:PA X (e::es) t) (hk:j≤k:=by decide) (hg:Gl X x:=by rfl)
    (hdb:(x == ("__debug__":Str))=false:=by decide) (he:starEach (e::es) X.env=(false,eval e X.env)::starEach es X.env:=by rfl) (hpl:(backTo pos (starEach es X.env)).any (·.1)=false:=by rfl) :
    PE X (.Call (.Name x p) (e::es) [] pos) (tCall sp [] E0 t):=by
  obtain ⟨f,fd,hm,kp,hb,F⟩:=F
  exact pe_call F (hr.mono hk) hg hm kp hb .nil pass0 ha hdb he hpl
end
def Blt (mg:Str→Option Value):Prop:=∀ x:Str,x∈(["len","any","all","max","min","isinstance","list","tuple","int","bool","str","dict","range"]:List Str)→mg x=none
theorem blt_mk {K:PySem.W.Frag} {h:Heap} {mg:Str→Option Value} (X:K.In h) (G:h.Ns mainGlobals mg) (z0:PySem.W.nsIn K mainGlobals "len"=some none) (z1:PySem.W.nsIn K mainGlobals "any"=some none) (z2:PySem.W.nsIn K mainGlobals "all"=some none) (z3:PySem.W.nsIn K mainGlobals "max"=some none) (z4:PySem.W.nsIn K mainGlobals "min"=some none) (z5:PySem.W.nsIn K mainGlobals "isinstance"=some none) (z6:PySem.W.nsIn K mainGlobals "list"=some none) (z7:PySem.W.nsIn K mainGlobals "tuple"=some none) (z8:PySem.W.nsIn K mainGlobals "int"=some none) (z9:PySem.W.nsIn K mainGlobals "bool"=some none) (z10:PySem.W.nsIn K mainGlobals "str"=some none) (z11:PySem.W.nsIn K mainGlobals "dict"=some none) (z12:PySem.W.nsIn K mainGlobals "range"=some none):Blt mg:=by
  intro x hx
  simp only [List.mem_cons,List.not_mem_nil,or_false] at hx
  rcases hx with rfl|rfl|rfl|rfl|rfl|rfl|rfl|rfl|rfl|rfl|rfl|rfl|rfl
  · exact PySem.W.mg_none_of X G z0
  · exact PySem.W.mg_none_of X G z1
  · exact PySem.W.mg_none_of X G z2
  · exact PySem.W.mg_none_of X G z3
  · exact PySem.W.mg_none_of X G z4
  · exact PySem.W.mg_none_of X G z5
  · exact PySem.W.mg_none_of X G z6
  · exact PySem.W.mg_none_of X G z7
  · exact PySem.W.mg_none_of X G z8
  · exact PySem.W.mg_none_of X G z9
  · exact PySem.W.mg_none_of X G z10
  · exact PySem.W.mg_none_of X G z11
  · exact PySem.W.mg_none_of X G z12
theorem bt_len:bootBuiltins "len"=some (.builtin "len"):=by decide +kernel
theorem bt_max:bootBuiltins "max"=some (.builtin "max"):=by decide +kernel
theorem bt_min:bootBuiltins "min"=some (.builtin "min"):=by decide +kernel
theorem bt_list:bootBuiltins "list"=some (.type "list"):=by decide +kernel
end L2
namespace HT
open PySem PySem.Spec PyProof.Rows
section
variable {prog:Program} {w:World} {A:Around} {E:Value→Shared→Prop} {s:Shared}
theorem getItem_tuple_whole {t sl:Addr} {items:Array Value} {vl vu:Value} {lo hi:Option Int} {Q:Value→Shared→Prop} (ht:IsTup s.heap t items) (hs:s.heap.IsSliceOf sl vl vu .none) (pl:IsPart vl lo) (pu:IsPart vu hi)
    (hw:sIx items.size 0 lo=0∧sIx items.size items.size hi=items.size)
    (h:Q (.ref t) s):wpAny (model prog w) A (getItem (.ref t) (.ref sl)) Q E s:=by
  obtain ⟨os,hos,hcs,hds⟩:=id hs
  have hTs:s.TypeIs (.ref sl) "slice":=⟨os,hos,hcs⟩
  unfold getItem
  try with_reducible refine wpAny_holding ?_
  first|refine wpAny_bind (wpAny_pure ?_)|skip
  refine wpAny_bind (wpAny_sequenceKey ht.typeIs (by decide) ?_)
  refine wpAny_bind (wpAny_callSpecial?_slot (name:=Str.ofString "__getitem__") ht.typeIs PyProof.Rows.slot_tuple_getitem
    (wpAny_call_entry PyProof.Rows.slot_tuple_getitem ht.typeIs entry_tuple_getitem ?_ (args_tuple_getitem _ _)))
  show wpAny _ _ (Builtin.Tuple.tupleItemsOf (.ref t) >>= _) _ _ s
  refine wpAny_bind (tupleItemsOf_ ht ?_)
  refine wpAny_bind (wpAny_typeOf hTs ?_)
  rw [if_pos (by decide)]
  refine wpAny_bind (sliceApplied_gen hs pl pu ?_)
  have hyes:(((sIx items.size 0 lo:Nat):Int) == 0 && (1:Int) == 1 && (sIx items.size items.size hi - sIx items.size 0 lo) == items.size)=true:=by
    rw [hw.1,hw.2]; simp
  show wpAny _ _ (if (((sIx items.size 0 lo:Nat):Int) == 0 && (1:Int) == 1 && (sIx items.size items.size hi - sIx items.size 0 lo) == items.size)=true then _ else _) _ _ s
  rw [if_pos hyes]
  unfold Builtin.Tuple.tupleIsExact
  refine wpAny_bind (wpAny_bind (wpAny_typeOf ht.typeIs (wpAny_pure ?_)))
  rw [if_pos (by decide)]
  exact wpAny_bind (wpAny_rule (wpAny_pure ⟨_,rfl,wpAny_pure h⟩))
end
end HT
namespace L2
open PySem PySem.Spec PyProof.Rows
section
variable {X:Cx}
def rSlW (K:PySem.W.Frag):V→Option Int→Option Int→Hp→VK→Prop:=fun x lo hi H Q=>∃ a xs,x=.ref a∧SqT K H a xs∧((HT.sIx xs.length 0 lo=0∧HT.sIx xs.length xs.length hi=xs.length)→Q (.ref a) H) ∧
  (¬ (HT.sIx xs.length 0 lo=0∧HT.sIx xs.length xs.length hi=xs.length)→∀ p,H p=none→Q (.ref p) (upd H p (.tup (cutV xs lo hi))))
theorem sl_tupW:SlR X (rSlW X.K):=by
  intro pins s σ H x v vl vu lo hi sl Q I rx hs pl pu h
  obtain ⟨a,xs,rfl,hx,q1,q2⟩:=h
  by_cases hw:HT.sIx xs.length 0 lo=0∧HT.sIx xs.length xs.length hi=xs.length
  · cases rx
    obtain ⟨its,r,ht,hz⟩:=I.tuple hx
    have hlen:its.toArray.size=xs.length:=by rw [List.size_toArray]; exact r.length.symm
    refine ⟨"tuple", _,PyProof.Rows.slot_tuple_getitem.lookup,ht.typeIs,?_⟩
    exact HT.getItem_tuple_whole ht hs pl pu (by rw [hlen]; exact hw) ⟨.ref a,H,I,rfl,q1 hw⟩
  · exact sl_tup pins s σ H _ v vl vu lo hi sl Q I rx hs pl pu ⟨a,xs,rfl,hx,hw,q2 hw⟩
end
end L2
namespace L2
open PySem PySem.Spec PyProof.Rows
section
variable {X:Cx} (K:PySem.W.Frag)
theorem ix_listK (h:X.K=K:=by rfl):IxR X (rIxL K):=by subst h; exact ix_list
theorem sl_listK (h:X.K=K:=by rfl):SlR X (rSlL K):=by subst h; exact sl_list
def rLen (K:PySem.W.Frag):List V→Hp→VK→Prop:=fun xs H Q=>∃ p ys,xs=[.ref p]∧(SqL K H p ys∨SqT K H p ys)∧Q (.int ys.length) H
theorem call_lenK (h:X.K=K:=by rfl):CallR X (.builtin "len") (rLen K):=by subst h; exact call_len_seq
def rListOf (K:PySem.W.Frag):List V→Hp→VK→Prop:=fun xs H Q=>∃ p ys,xs=[.ref p]∧(SqL K H p ys∨SqT K H p ys)∧∀ l,H l=none→Q (.ref l) (upd H l (.lst ys))
def rTupOf (K:PySem.W.Frag):List V→Hp→VK→Prop:=fun xs H Q=>∃ p ys,xs=[.ref p]∧((SqL K H p ys∧∀ l,H l=none→Q (.ref l) (upd H l (.tup ys)))∨(SqT K H p ys∧Q (.ref p) H))
def rAny (K:PySem.W.Frag):List V→Hp→VK→Prop:=fun xs H Q=>∃ (p:Addr) (bs:List Bool),xs=[.ref p]∧SqL K H p (bs.map V.bl)∧Q (.bl (bs.any id)) H
def rAll (K:PySem.W.Frag):List V→Hp→VK→Prop:=fun xs H Q=>∃ (p:Addr) (bs:List Bool),xs=[.ref p]∧SqL K H p (bs.map V.bl)∧Q (.bl (bs.all id)) H
def rIsI (K:PySem.W.Frag):List V→Hp→VK→Prop:=fun xs H Q=>∃ x c t b,xs=[x,c]∧(∃ n,c=.ty n)∧TyOf K H x t∧PySem.W.kitOne K t (clsV c)=some b∧Q (.bl b) H
theorem pi_listK {tg l:Expr} {tl:TE} (hl:PE X l tl) (h:X.K=K:=by rfl):PI X tg l (iList K tl):=by subst h; exact pi_list hl
theorem pi_tupK {tg l:Expr} {tl:TE} (hl:PE X l tl) (h:X.K=K:=by rfl):PI X tg l (iTup K tl):=by subst h; exact pi_tup hl
def tTru (K:PySem.W.Frag) (ta:TE):TT:=fun σ H Q=>ta σ H fun x H'=>∃ k,TruV K x H' k∧Q k H'
theorem pg_tupK {es:List Expr} {k:Nat} {t:TGs} {n:Nat} {pos:Pos} (hc:X.calm=true) (hg:PGs X es t)
    (hn:(assignEach es X.env).length=n:=by rfl) (hst:(assignEach es X.env).findIdx? (·.1)=none:=by rfl) (h:X.K=K:=by rfl):PG X (.Tuple es k pos) (gTup K n t):=by
  subst h; exact pg_tup hc hg hn hst
theorem pe_fldK {e:Expr} {ta:TE} {f:Str} {pos:Pos} (he:PE X e ta) (hb:attributeBase e f X.env (eval e X.env)=eval e X.env:=by rfl) (h:X.K=K:=by rfl):PE X (.Attribute e f pos) (tFld K ta f):=by subst h; exact pe_fld he hb
end
end L2
namespace L2
open PySem PySem.Spec PyProof.Rows
def CompW (n:Nat) (js:List Nat) (g:TG) (tc:TT) (te:TE) (σ:St) (Q:VK) (J:It) (H1:Hp):Prop:=
  ∀ D,H1 D=none→∃ W:Nat→Nat→List V→Hp→Prop,(∃ m,W 0 m [] (upd H1 D (.lst [])))∧∀ i m acc H,W i m acc H →
    H D=some (.lst acc)∧((J.stop i H∧Q (.ref D) H)∨(J.go i H∧acc.length<sizeLine∧∃ Nx:List V→Hp→Prop,(∀ acc' H',Nx acc' H'→∃ m',m'<m∧W (i+1) m' acc' H') ∧
      ∀ x H',J.yld i H x H'→g x (cSt n js σ) H' fun σ2 H2=>σ2.drop n=(cSt n js σ).drop n∧tc σ2 H2 fun b H3=>if b=true then te σ2 H3 fun v H4=>H4 D=some (.lst acc)∧Nx (acc++[v]) (upd H4 D (.lst (acc++[v]))) else H3 D=some (.lst acc)∧Nx acc H3))
section
variable {n:Nat} {js:List Nat} {g:TG} {tc:TT} {te:TE} {σ:St} {Q:VK} {H1:Hp}
theorem comp_list {K:PySem.W.Frag} {a:Addr} {xs:List V} (hz:xs.length≤sizeLine) (Pv:Addr→Nat→List V→Hp→Prop) (h0:∀ D,H1 D=none→Pv D 0 [] (upd H1 D (.lst [])))
    (hl:∀ D i acc H,H1 D=none→i≤xs.length→Pv D i acc H→H D=some (.lst acc)∧SqL K H a xs∧acc.length≤i)
    (hs:∀ D i x acc H,H1 D=none→xs[i]?=some x→Pv D i acc H→g x (cSt n js σ) H fun σ2 H2=>σ2.drop n=(cSt n js σ).drop n∧tc σ2 H2 fun b H3=>if b=true then te σ2 H3 fun v H4=>H4 D=some (.lst acc)∧Pv D (i+1) (acc++[v]) (upd H4 D (.lst (acc++[v]))) else H3 D=some (.lst acc)∧Pv D (i+1) acc H3)
    (hd:∀ D acc H,H1 D=none→Pv D xs.length acc H→Q (.ref D) H):CompW n js g tc te σ Q (Itl K a) H1:=by
  intro D hD
  refine ⟨fun i m acc H=>m=xs.length - i∧i≤xs.length∧Pv D i acc H,⟨xs.length,by simp,Nat.zero_le _,h0 D hD⟩,?_⟩
  rintro i m acc H ⟨rfl,hi,p⟩
  obtain ⟨e1,q,e3⟩:=hl D i acc H hD hi p
  refine ⟨e1,?_⟩
  by_cases hlt:i<xs.length
  · refine .inr ⟨⟨xs,xs[i],q,by simp [hlt]⟩,by omega,Pv D (i+1),fun acc' H' p'=>⟨xs.length - (i+1),by omega,rfl,hlt,p'⟩,fun x H' y=>?_⟩
    obtain ⟨e,y⟩:=y
    subst e
    exact hs D i x acc _ hD (y xs q) p
  · have e:i=xs.length:=by omega
    subst e
    exact .inl ⟨⟨xs,q,Nat.le_refl _⟩,hd D acc H hD p⟩
theorem comp_range {lo:Int} {m:Nat} (hz:m≤sizeLine) (Pv:Addr→Nat→List V→Hp→Prop) (h0:∀ D,H1 D=none→Pv D 0 [] (upd H1 D (.lst [])))
    (hl:∀ D i acc H,H1 D=none→i≤m→Pv D i acc H→H D=some (.lst acc)∧acc.length≤i)
    (hs:∀ D i acc H,H1 D=none→i<m→Pv D i acc H→g (.int (lo+i)) (cSt n js σ) H fun σ2 H2=>σ2.drop n=(cSt n js σ).drop n∧tc σ2 H2 fun b H3=>if b=true then te σ2 H3 fun v H4=>H4 D=some (.lst acc)∧Pv D (i+1) (acc++[v]) (upd H4 D (.lst (acc++[v]))) else H3 D=some (.lst acc)∧Pv D (i+1) acc H3)
    (hd:∀ D acc H,H1 D=none→Pv D m acc H→Q (.ref D) H):CompW n js g tc te σ Q (Itr lo m) H1:=by
  intro D hD
  refine ⟨fun i k acc H=>k=m - i∧i≤m∧Pv D i acc H,⟨m,by simp,Nat.zero_le _,h0 D hD⟩,?_⟩
  rintro i k acc H ⟨rfl,hi,p⟩
  obtain ⟨e1,e3⟩:=hl D i acc H hD hi p
  refine ⟨e1,?_⟩
  by_cases hlt:i<m
  · refine .inr ⟨hlt,by omega,Pv D (i+1),fun acc' H' p'=>⟨m - (i+1),by omega,rfl,hlt,p'⟩,fun x H' y=>?_⟩
    obtain ⟨e,y⟩:=y
    subst e y
    exact hs D i acc _ hD hlt p
  · have e:i=m:=by omega
    subst e
    exact .inl ⟨Nat.le_refl _,hd D acc H hD p⟩
theorem Same.upd_new {H:Hp} {a:Addr} {o:HO} (h:H a=none):Same H (upd H a o):=fun b u e=>by
  rw [upd_ne (ne_of_none e h)]
  exact e
theorem Same.upd {H0 H:Hp} {a:Addr} {o:HO} (e:Same H0 H) (h:H0 a=none):Same H0 (upd H a o):=fun b u q=>by
  rw [upd_ne (ne_of_none q h)]
  exact e b u q
end
theorem cxOf_K {CX:CXT} {P:Program} {w:World} {K:PySem.W.Frag} {mg:Str→Option Value} {base:Heap} {N:List Str} {qual:Str} {scope:Scope} {f:Addr} {cd:Value} {A:Around} {outer:List Env} {s:Shared} {H:Hp} {E:XK} :
    (cxOf CX P w K mg base N qual scope f cd A outer s H E).K=K:=rfl
theorem cxC_K {X:Cx} {scope:Scope} {N':List Str} {C:Addr} {fp:List Addr} {s:Shared} {H:Hp}:(cxC X scope N' C fp s H).K=X.K:=rfl
theorem upd_none {H:Hp} {p a:Addr} {o:HO} (h:upd H p o a=none):a≠p∧H a=none:=by
  unfold upd at h
  split at h
  · cases h
  · rename_i z; exact ⟨z,h⟩
section
variable {H:Hp} {Q:VK} {i j:Int} {b c:Bool} {x y:Str}
theorem rEq_ii:rEq (.int i) (.int j) H Q=Q (.bl (decide (i=j))) H:=by simp [rEq,scal]
theorem rNe_ii:rNe (.int i) (.int j) H Q=Q (.bl (!decide (i=j))) H:=by simp [rNe,scal]
theorem rEq_bb:rEq (.bl b) (.bl c) H Q=Q (.bl (decide (b=c))) H:=by simp [rEq,scal]
theorem rNe_bb:rNe (.bl b) (.bl c) H Q=Q (.bl (!decide (b=c))) H:=by simp [rNe,scal]
theorem cmul_mod {a m b:Int} (h0:0<m) (h1:m≤2147483648):CMul (a % m) b:=by
  have h2:=Int.emod_nonneg a (show m≠0 by omega)
  have h3:=Int.emod_lt_of_pos a h0
  exact .inl ⟨by omega,by omega⟩
theorem atI_in {α:Type} {xs:List α} {k:Int} (h0:0≤k) (h1:k<xs.length):∃ v,v∈xs∧atI xs k=some v:=by
  obtain ⟨n,rfl⟩:=Int.eq_ofNat_of_zero_le h0
  have hn:n<xs.length:=by omega
  exact ⟨xs[n],List.getElem_mem hn,atI_nat (List.getElem?_eq_getElem hn)⟩
end
theorem truV_bl {K:PySem.W.Frag} {H:Hp} {b k:Bool}:TruV K (.bl b) H k=(k=b):=rfl
theorem clsV_ty {n:String}:clsV (.ty n)=.type n:=rfl
def ForW (g:TG) (tb:TS) (D:Ends) (σ:St) (J:It) (H1:Hp):Prop:=∃ W:Nat→Nat→St→Hp→Prop,(∃ m,W 0 m σ H1)∧∀ i m σ H,W i m σ H →
  (J.stop i H∧D.nx σ H)∨(J.go i H∧∃ N:St→Hp→Prop,(∀ σ' H',N σ' H'→∃ m',m'<m∧W (i+1) m' σ' H')∧∀ x H',J.yld i H x H'→g x σ H' fun σ2 H2=>tb { D with nx:=N,ct:=N,bk:=D.nx } σ2 H2)
theorem tFor_eq {wi:TI} {g:TG} {tb:TS} {D:Ends} {σ:St} {H:Hp}:tFor wi g tb D σ H=wi σ H fun J H1=>ForW g tb D σ J H1:=rfl
theorem tComp_eq {n:Nat} {js:List Nat} {wi:TI} {g:TG} {tc:TT} {te:TE} {σ:St} {H:Hp} {Q:VK}:tComp n js wi g tc te σ H Q=wi σ H fun J H1=>CompW n js g tc te σ Q J H1:=rfl
theorem new_same {H H':Hp} {p:Addr} {o:HO} (h:upd H p o=H') (hp:H p=none):Same H H'∧H' p=some o:=by
  subst h
  exact ⟨Same.upd_new hp,upd_same⟩
end L2
namespace L2
open PySem PySem.Spec PyProof.Rows
def TupI (H:Hp) (x:V) (d:List Int):Prop:=∃ t,x=.ref t∧H t=some (.tup (d.map V.int))
abbrev DeedsX (H:Hp) (xs:List V) (ds:List (List Int)):Prop:=Paired (TupI H) xs ds
def DeedsAt (H:Hp) (a:Addr) (ds:List (List Int)):Prop:=∃ xs,H a=some (.lst xs)∧DeedsX H xs ds
section
variable {H H':Hp} {x:V} {d:List Int} {xs ys:List V} {ds es:List (List Int)} {a:Addr} {o:HO}
theorem paired_append {α β:Type} {F:α→β→Prop}:∀ {l1 m1:List α} {l2 m2:List β},Paired F l1 l2→Paired F m1 m2→Paired F (l1++m1) (l2++m2)
  | _,_,_,_,.nil,s=>s
  | _,_,_,_,.cons r t,s=>.cons r (paired_append t s)
theorem paired_get {α β:Type} {F:α→β→Prop}:∀ {l1:List α} {l2:List β} {i:Nat} {x:α},Paired F l1 l2→l1[i]?=some x→∃ y,l2[i]?=some y∧F x y
  | _,_,_,_,.nil,e=>by simp at e
  | _,_,0,_,.cons r _,e=>by simp at e; subst e; exact ⟨_,rfl,r⟩
  | _,_,i+1,x,.cons _ t,e=>by
    obtain ⟨u,h1,h2⟩:=paired_get (i:=i) (x:=x) t (by simpa using e)
    exact ⟨u,by simpa using h1,h2⟩
theorem cutV_map (d:List Int) (lo hi:Option Int):∃ e:List Int,cutV (d.map V.int) lo hi=e.map V.int:=by
  unfold cutV
  exact ⟨(d.drop (HT.sIx (d.map V.int).length 0 lo)).take (HT.sIx (d.map V.int).length (d.map V.int).length hi - HT.sIx (d.map V.int).length 0 lo),by rw [List.map_take,List.map_drop]⟩
end
end L2
namespace L2
open PySem PySem.Spec PyProof.Rows
def DefM (K:PySem.W.Frag) (C:Addr) (m qual:Str) (st:Stmt):Prop:=∃ f fd,Meth K C m f∧Fun K m qual st f fd
def DefI (K:PySem.W.Frag) (C:Addr) (qual:Str) (st:Stmt):Prop:=∃ f fd,Mk K C f∧Fun K "__init__" qual st f fd
def OwnM (P:Program) (w:World) (K:PySem.W.Frag) (mg:Str→Option Value) (base:Heap) (k:Nat) (C:Addr) (m:Str) (ps:List Str) (sp:Sp):Prop:=
  ∃ f fd,Meth K C m f∧Binds K fd ps []∧FnOk P w K mg base CX0 k f fd ps sp
def OwnI (P:Program) (w:World) (K:PySem.W.Frag) (mg:Str→Option Value) (base:Heap) (k:Nat) (C:Addr) (ps:List Str) (sp:Sp):Prop:=
  ∃ f fd,Mk K C f∧Binds K fd ps []∧FnOk P w K mg base CX0 k f fd ps sp
structure ClsD (K:PySem.W.Frag) (mg:Str→Option Value) (x:Str) (C:Addr) (attrs:List Str):Prop where
  mgC:mg x=some (.ref C)
  cl:Cls K C
  no:∀ f∈attrs,NoAttr K C f
section
variable {P:Program} {w:World} {K:PySem.W.Frag} {mg:Str→Option Value} {base:Heap} {C:Addr} {m qual:Str} {st:Stmt} {N ps:List Str} {k:Nat} {sp:Sp}
theorem DefM.own (D:DefM K C m qual st) (S:FnScope N ps (defScope st))
    (hb:∀ (kV doc pm:Value) (an:Option Addr) (cdv ct:Value) (us:List Value),us.length=ps.length→bindArgs (PySem.W.fnOf m qual (defArgs st) (defBody st) (defScope st) .none kV doc pm an cdv ct) ⟨us,[]⟩=pure (ps.zip us))
    (len:∀ vs H Q E,sp vs H Q E→vs.length=ps.length)
    (hbody:∀ (f:Addr) (cdv:Value) (A:Around) (outer:List Env) (s:Shared) (H:Hp) (vs:List V) (Q:VK) (E:XK),Room k (A.deeper (envOfC qual (defScope st) s.heap.objs.size f cdv))→sp vs H Q E →
      ∃ t,PSs (cxOf CX0 P w K mg base N qual (defScope st) f cdv A outer s H E).nox (defBody st) t∧t { nx:=fun _ H'=>Q .non H',rt:=Q } (start N vs) H):OwnM P w K mg base (k+1) C m ps sp:=by
  obtain ⟨f,fd,hm,F⟩:=D
  exact ⟨f,fd,hm,F.binds hb,F.ok S len (hbody f)⟩
theorem DefI.own (D:DefI K C qual st) (S:FnScope N ps (defScope st))
    (hb:∀ (kV doc pm:Value) (an:Option Addr) (cdv ct:Value) (us:List Value),us.length=ps.length→bindArgs (PySem.W.fnOf "__init__" qual (defArgs st) (defBody st) (defScope st) .none kV doc pm an cdv ct) ⟨us,[]⟩=pure (ps.zip us))
    (len:∀ vs H Q E,sp vs H Q E→vs.length=ps.length)
    (hbody:∀ (f:Addr) (cdv:Value) (A:Around) (outer:List Env) (s:Shared) (H:Hp) (vs:List V) (Q:VK) (E:XK),Room k (A.deeper (envOfC qual (defScope st) s.heap.objs.size f cdv))→sp vs H Q E →
      ∃ t,PSs (cxOf CX0 P w K mg base N qual (defScope st) f cdv A outer s H E).nox (defBody st) t∧t { nx:=fun _ H'=>Q .non H',rt:=Q } (start N vs) H):OwnI P w K mg base (k+1) C ps sp:=by
  obtain ⟨f,fd,hm,F⟩:=D
  exact ⟨f,fd,hm,F.binds hb,F.ok S len (hbody f)⟩
theorem defM_mk {f:Addr} {oc:Value} {od an:Option Addr} {osl:Array (Option Value)} {kV doc pm cdv ct:Value} (a:PySem.W.findIn K (.ref C) m=some (some (.ref f))) (i:PySem.W.isFn K (.ref f)=true)
    (l:K.lookup f=some ⟨oc,od,.func (PySem.W.fnOf m qual (defArgs st) (defBody st) (defScope st) .none kV doc pm an cdv ct),osl⟩) (c:PySem.W.codeIn K cdv qual=true) (k:PySem.W.keepIn K (.ref f)=true):DefM K C m qual st:=
  ⟨f,_,⟨a,i,k⟩,fun_mk l c k⟩
theorem defI_mk {f:Addr} {oc:Value} {od an:Option Addr} {osl:Array (Option Value)} {kV doc pm cdv ct:Value} (a:PySem.W.findIn K (.ref C) "__init__"=some (some (.ref f))) (i:PySem.W.isFn K (.ref f)=true)
    (l:K.lookup f=some ⟨oc,od,.func (PySem.W.fnOf "__init__" qual (defArgs st) (defBody st) (defScope st) .none kV doc pm an cdv ct),osl⟩) (c:PySem.W.codeIn K cdv qual=true) (k:PySem.W.keepIn K (.ref f)=true)
    (mk:PySem.W.makesIn K C=true) (kc:PySem.W.keepIn K (.ref C)=true):DefI K C qual st:=
  ⟨f,_,⟨mk,a,i,kc⟩,fun_mk l c k⟩
end
section
variable {X:Cx} {j k:Nat} {C:Addr} {x m:Str} {ps:List Str} {sp:Sp} {p pos apos:Pos} {o e:Expr} {es:List Expr} {ta:TE} {t:TA}
theorem pe_mth {pl:Sem Bool} (M:OwnM X.prog X.w X.K X.mg X.base j C m ps sp) (c:Cls X.K C) (hr:Room k X.A) (he:PE X o ta) (ha:PA X (e::es) t) (hk:j≤k:=by decide)
    (hst:starEach (e::es) X.env=(false,eval e X.env)::starEach es X.env:=by rfl) (hpl:(backTo pos (starEach es X.env)).any (·.1)=false:=by rfl)
    (ht:eval (.Call (.Attribute o m apos) (e::es) [] pos) X.env=(do
      let ov ← eval o X.env
      standAt apos.atName
      let (f,first) ← holding [ov] (getMethod ov m pl)
      callWith pos f first (backTo pos (starEach (e::es) X.env)) (backToKw pos (keywordEach [] X.env))):=by rfl) :
    PE X (.Call (.Attribute o m apos) (e::es) [] pos) (tMeth C m sp [] E0 ta t):=by
  obtain ⟨f,fd,hm,hb,F⟩:=M
  exact pe_meth (pl:=pl) he c hm F (hr.mono hk) hb .nil pass0 ha hst hpl ht
theorem pe_mak (M:OwnI X.prog X.w X.K X.mg X.base j C ps sp) (hr:Room k X.A) (hm:X.mg x=some (.ref C)) (ha:PA X (e::es) t) (hk:j+1≤k:=by decide) (hg:Gl X x:=by rfl)
    (hdb:(x == ("__debug__":Str))=false:=by decide) (he:starEach (e::es) X.env=(false,eval e X.env)::starEach es X.env:=by rfl) (hpl:(backTo pos (starEach es X.env)).any (·.1)=false:=by rfl) :
    PE X (.Call (.Name x p) (e::es) [] pos) (tMake C sp [] E0 t):=by
  obtain ⟨f,fd,hk',hb,F⟩:=M
  exact pe_make hk' F (hr.mono hk) hg hm hb .nil pass0 ha hdb he hpl
def rIsB:R2:=fun x y H Q=>∃ a b,x=.bl a∧y=.bl b∧Q (.bl (decide (a=b))) H
def rIsntB:R2:=fun x y H Q=>∃ a b,x=.bl a∧y=.bl b∧Q (.bl (!decide (a=b))) H
end
def tDGs (td:TE) (x:Str):TE:=fun σ H Q=>td σ H fun d H1=>∃ a kvs v,d=.ref a∧H1 a=some (.dK kvs)∧valV kvs (Sum.inr x:Key)=some v∧Q v H1
def sDPs (td tv:TE) (x:Str):TS:=fun D σ H=>tv σ H fun v H1=>td σ H1 fun d H2=>∃ a kvs,d=.ref a∧H2 a=some (.dK kvs)∧kvs.length<sizeLine∧D.nx σ (upd H2 a (.dK (putK kvs (Sum.inr x:Key) v)))
section
variable {X:Cx} {o value:Expr} {td tv:TE} {x:Str} {j:Nat} {pos pos' cpos:Pos}
end
end L2
namespace L2
open PySem PySem.Spec PyProof.Rows
section
variable {X:Cx}
end
end L2
namespace K04
def Run (c:List Bool) (k:Nat):Prop:=∃ i,i+k≤c.length∧∀ j,j<k→c[i+j]?=some true
end K04
namespace L2
open PySem PySem.Spec PyProof.Rows
def optV:Option Int→V
  | some n=>.int n
  | none=>.non
def Keep (S:List Addr) (H H':Hp):Prop:=∀ b o,H b=some o→b ∉ S→H' b=some o
section
variable {S T:List Addr} {H H1 H2:Hp} {a b:Addr} {o:HO}
theorem Keep.refl:Keep S H H:=fun _ _ h _=>h
theorem Keep.trans (k:Keep S H H1) (j:Keep S H1 H2):Keep S H H2:=fun b o h n=>j b o (k b o h n) n
theorem Same.keep (s:Same H H1):Keep S H H1:=fun b o h _=>s b o h
theorem Keep.same (k:Keep S H H1) (s:Same H1 H2):Keep S H H2:=fun b o h n=>s b o (k b o h n)
theorem Keep.mono (k:Keep S H H1) (h:∀ b∈S,b∈T):Keep T H H1:=fun b o e n=>k b o e fun z=>n (h b z)
theorem Keep.upd (k:Keep S H H1) (h:a∈S∨H a=none):Keep S H (upd H1 a o):=fun b u e n=>by
  rw [upd_ne]
  · exact k b u e n
  · rintro rfl
    rcases h with z|z
    · exact n z
    · rw [z] at e; cases e
theorem Keep.free (k:Keep S H H1) (h:H1 b=none) (hb:b ∉ S):H b=none:=by
  cases e:H b with
  | none=>rfl
  | some o=>rw [k b o e hb] at h; cases h
end
inductive LetV (H:Hp):V→PyData→Prop
  | str {t:Str} (ok:PyData.strOk t=true):LetV H (.str t) (.str t)
  | int (n:Int):LetV H (.int n) (.int n)
  | lst {p:Addr} {n:Int}:H p=some (.lst [.int n])→LetV H (.ref p) (.list [.int n])
  | tup {p:Addr} {t:Str} {n:Int} (ok:PyData.strOk t=true):H p=some (.tup [.str t,.int n])→LetV H (.ref p) (.tuple [.str t,.int n])
section
variable {S:List Addr} {H H':Hp} {x:V} {d:PyData} {b:Addr}
end
section
variable {S:List Addr} {H H':Hp}
end
def PairV (H:Hp) (x:V) (p:Int × PyData):Prop:=∃ t y,x=.ref t∧H t=some (.tup [.int p.1,y])∧LetV H y p.2
def PairsX (H:Hp) (xs:List V) (us:List (Int × PyData)):Prop:=Paired (PairV H) xs us
section
variable {S:List Addr} {H H':Hp} {xs:List V} {us:List (Int × PyData)} {b:Addr}
end
def del (ds:List (List Int)) (z:Int):List Int:=if ds=[] then [1] else ds.getD (z.toNat % ds.length) []
def rf (l:Addr) (ls la:Option Int) (u:Addr):List (Str × V):=[("deeds", .ref l),("last_sent", optV ls),("last_asked", optV la),("underway", .ref u)]
section
variable {l u:Addr} {ls la:Option Int}
end
structure RoadAt (C:Addr) (H:Hp) (x dx l u:Addr) (ds:List (List Int)) (ls la:Option Int) (us:List (Int × PyData)):Prop where
  ins:H x=some (.ins C dx (rf l ls la u))
  deeds:DeedsAt H l ds
  und:∃ xs,H u=some (.lst xs)∧PairsX H xs us
  ne:l≠u
section
variable {S:List Addr} {C:Addr} {H H':Hp} {x dx l u:Addr} {ds:List (List Int)} {ls la:Option Int} {us:List (Int × PyData)}
end
end L2
namespace L2
open PySem PySem.Spec PyProof.Rows
end L2
namespace L2
open PySem PySem.Spec PyProof.Rows
mutual
inductive Im (H:Hp):V→PyData→Prop
  | non:Im H .non .none
  | bl (b:Bool):Im H (.bl b) (.bool b)
  | int (n:Int):Im H (.int n) (.int n)
  | str {t:Str} (ok:PyData.strOk t=true):Im H (.str t) (.str t)
  | tup {p:Addr} {xs:List V} {ds:List PyData}:H p=some (.tup xs)→Ims H xs ds→xs.length≤1000→Im H (.ref p) (.tuple ds)
inductive Ims (H:Hp):List V→List PyData→Prop
  | nil:Ims H [] []
  | cons {x:V} {xs:List V} {d:PyData} {ds:List PyData}:Im H x d→Ims H xs ds→Ims H (x::xs) (d::ds)
end
def NoT (H:Hp) (b:Addr):Prop:=∀ xs,H b≠some (.tup xs)
section
variable {S:List Addr} {H H':Hp} {b:Addr}
theorem NoT.of_ins {C dx:Addr} {fs:List (Str × V)} (h:H b=some (.ins C dx fs)):NoT H b:=fun xs e=>by rw [h] at e; cases e
theorem NoT.of_lst {xs:List V} (h:H b=some (.lst xs)):NoT H b:=fun xs e=>by rw [h] at e; cases e
theorem NoT.of_dK {kvs:List (Key × V)} (h:H b=some (.dK kvs)):NoT H b:=fun xs e=>by rw [h] at e; cases e
mutual
theorem Im.keep (k:Keep S H H') (hs:∀ b∈S,NoT H b):∀ {x:V} {d:PyData},Im H x d→Im H' x d
  | _,_,.non=>.non
  | _,_,.bl b=>.bl b
  | _,_,.int n=>.int n
  | _,_,.str ok=>.str ok
  | _,_,.tup h hx hl=>.tup (k _ _ h fun z=>hs _ z _ h) (Ims.keep k hs hx) hl
theorem Ims.keep (k:Keep S H H') (hs:∀ b∈S,NoT H b):∀ {xs:List V} {ds:List PyData},Ims H xs ds→Ims H' xs ds
  | _,_,.nil=>.nil
  | _,_,.cons r t=>.cons (Im.keep k hs r) (Ims.keep k hs t)
end
mutual
theorem Im.has {K:PySem.W.Frag}:∀ {x:V} {d:PyData},Im H x d→Has K H x d
  | _,_,.non=>.non
  | _,_,.bl b=>.bl b
  | _,_,.int n=>.int n
  | _,_,.str _=>.str _
  | _,_,.tup h hx _=>.tup (SqT.of h) (Ims.has hx)
theorem Ims.has {K:PySem.W.Frag}:∀ {xs:List V} {ds:List PyData},Ims H xs ds→HasAll K H xs ds
  | _,_,.nil=>.nil
  | _,_,.cons r t=>.cons (Im.has r) (Ims.has t)
end
mutual
theorem Im.refl:∀ {x:V} {d:PyData},Im H x d→PyData.eqv d d=true
  | _,_,.non=>by simp [PyData.eqv]
  | _,_,.bl b=>by simp [PyData.eqv]
  | _,_,.int n=>by simp [PyData.eqv]
  | _,_,.str _=>by simp [PyData.eqv]
  | _,_,.tup _ hx _=>by rw [PyData.eqv]; exact Ims.refl hx
theorem Ims.refl:∀ {xs:List V} {ds:List PyData},Ims H xs ds→PyData.eqvAll ds ds=true
  | _,_,.nil=>by simp [PyData.eqvAll]
  | _,_,.cons r t=>by rw [PyData.eqvAll,Im.refl r,Ims.refl t]; rfl
end
mutual
theorem Im.lay:∀ {x:V} {d:PyData},Im H x d→PyData.canLay0 d=true
  | _,_,.non=>by simp [PyData.canLay0]
  | _,_,.bl b=>by simp [PyData.canLay0]
  | _,_,.int n=>by simp [PyData.canLay0]
  | _,_,.str ok=>by simp [PyData.canLay0,ok]
  | _,_,.tup _ hx _=>by rw [PyData.canLay0]; exact Ims.lay hx
theorem Ims.lay:∀ {xs:List V} {ds:List PyData},Ims H xs ds→PyData.canLayAll0 ds=true
  | _,_,.nil=>by simp [PyData.canLayAll0]
  | _,_,.cons r t=>by rw [PyData.canLayAll0,Im.lay r,Ims.lay t]; rfl
end
theorem shaped_of {d:PyData} (h:PyData.canLay0 d=true) (hd:d.depth≤64):SeqAt.shaped d=true:=by
  unfold SeqAt.shaped
  rw [h,decide_eq_true hd]; rfl
end
theorem ints_vals:∀ {ns:List Int} {us:List Value},Vals (ns.map V.int) us→IntsAre us ns
  | [],_,.nil=>.nil
  | _::_,_,.cons ⟨_,rfl⟩ r=>.cons _ _ (ints_vals r)
section
variable {X:Cx}
end
section
variable {X:Cx} {j k:Nat} {C:Addr} {x m:Str} {ps:List Str} {sp:Sp} {p pos apos:Pos} {o:Expr} {ta:TE}
theorem pe_mth0 {pl:Sem Bool} (M:OwnM X.prog X.w X.K X.mg X.base j C m ps sp) (c:Cls X.K C) (hr:Room k X.A) (he:PE X o ta) (hk:j≤k:=by decide)
    (ht:eval (.Call (.Attribute o m apos) [] [] pos) X.env=(do
      let ov ← eval o X.env
      standAt apos.atName
      let (f,first) ← holding [ov] (getMethod ov m pl)
      callWith pos f first (backTo pos (starEach [] X.env)) (backToKw pos (keywordEach [] X.env))):=by rfl) :
    PE X (.Call (.Attribute o m apos) [] [] pos) (tMeth C m sp [] E0 ta tNil):=by
  obtain ⟨f,fd,hm,hb,F⟩:=M
  exact pe_meth0 (pl:=pl) he c hm F (hr.mono hk) hb .nil pass0 ht
end
def pd (p:Int × PyData):PyData:=.tuple [.int p.1,p.2]
section
variable {S:List Addr} {H H':Hp}
end
def tk (s:Int × List PyData) (p:Int × PyData):Int × List PyData:=if p.1=s.1 then (s.1+1,s.2++[p.2]) else s
end L2
namespace L2
open PySem PySem.Spec PyProof.Rows
section
variable {X:Cx}
theorem OpR.weak {f:Value→Value→Sem Value} {r r':R2} (h:OpR X f r) (w:∀ x y H Q,r' x y H Q→r x y H Q):OpR X f r':=
  fun pins s σ H x y v u Q I rx ry q=>h pins s σ H x y v u Q I rx ry (w _ _ _ _ q)
theorem CallR.weak {f:Value} {r r':List V→Hp→VK→Prop} (h:CallR X f r) (w:∀ xs H Q,r' xs H Q→r xs H Q):CallR X f r':=
  fun pins s σ H xs us Q I rs q=>h pins s σ H xs us Q I rs (w _ _ _ q)
theorem SlR.weak {r r':V→Option Int→Option Int→Hp→VK→Prop} (h:SlR X r) (w:∀ x l u H Q,r' x l u H Q→r x l u H Q):SlR X r':=
  fun pins s σ H x v vl vu lo hi sl Q I rx hs pl pu q=>h pins s σ H x v vl vu lo hi sl Q I rx hs pl pu (w _ _ _ _ _ q)
def getO:HO→V→Option V
  | .lst xs,.int i=>atI xs i
  | .tup xs,.int i=>atI xs i
  | .dK kvs,.int i=>valV kvs (Sum.inl i)
  | .dK kvs,.str x=>valV kvs (Sum.inr x)
  | _,_=>none
theorem getO_l {xs:List V} {i:Int}:getO (.lst xs) (.int i)=atI xs i:=rfl
theorem getO_t {xs:List V} {i:Int}:getO (.tup xs) (.int i)=atI xs i:=rfl
theorem getO_di {kvs:List (Key × V)} {i:Int}:getO (.dK kvs) (.int i)=valV kvs (Sum.inl i):=rfl
def rGet:R2:=fun x y H Q=>∃ p o v,x=.ref p∧H p=some o∧getO o y=some v∧Q v H
theorem ix_dict (hu:X.A.units+1<cLine):IxR X (fun x y H Q=>∃ a v,x=.ref a∧DGet H a y (some v)∧Q v H):=by
  intro value slice pins s σ H x y v u Q I rx ry h hs
  obtain ⟨a,z,rfl,g,q⟩:=h
  cases rx
  exact tail_any (dict_typeIs I g) PySem.F.slot_dict_getitem.lookup (d_getItem hu I g ry fun w' s3 I3 rw'=>⟨z,H,I3,rw',q⟩) hs
theorem ix_get (hu:X.A.units+1<cLine):IxR X rGet:=by
  intro value slice pins s σ H x y v u Q I rx ry h hs
  obtain ⟨p,o,z,rfl,e,g,q⟩:=h
  cases o with
  | lst xs=>cases y <;> first|exact ix_list value slice pins s σ H _ _ v u Q I rx ry ⟨p,xs,_,z,rfl,rfl,SqL.of e,g,q⟩ hs|cases g
  | tup xs=>cases y <;> first|exact ix_tup value slice pins s σ H _ _ v u Q I rx ry ⟨p,xs,_,z,rfl,rfl,SqT.of e,g,q⟩ hs|cases g
  | dK kvs=>
    cases y with
    | int i=>exact ix_dict hu value slice pins s σ H _ _ v u Q I rx ry ⟨p,z,rfl,.inl ⟨kvs,Sum.inl i,.inl e,rfl,g.symm⟩,q⟩ hs
    | str x=>exact ix_dict hu value slice pins s σ H _ _ v u Q I rx ry ⟨p,z,rfl,.inl ⟨kvs,Sum.inr x,.inl e,rfl,g.symm⟩,q⟩ hs
    | _=>cases g
  | _=>cases y <;> cases g
def lenO:HO→Option Nat
  | .lst xs=>some xs.length
  | .tup xs=>some xs.length
  | .dK kvs=>some kvs.length
  | _=>none
def lenX (H:Hp):V→Option Nat
  | .ref p=>(H p).bind lenO
  | .str z=>if z.length≤sizeLine then some z.length else none
  | _=>none
theorem lenX_r {H:Hp} {p:Addr}:lenX H (.ref p)=(H p).bind lenO:=rfl
theorem lenO_l {xs:List V}:lenO (.lst xs)=some xs.length:=rfl
def rLenX:List V→Hp→VK→Prop:=fun xs H Q=>∃ x n,xs=[x]∧lenX H x=some n∧Q (.int n) H
theorem call_lenX:CallR X (.builtin "len") rLenX:=by
  intro pins s σ H xs us Q I r h
  obtain ⟨x,n,rfl,g,q⟩:=h
  cases x with
  | ref p=>
    cases e:H p with
    | none=>rw [lenX_r,e] at g; cases g
    | some o=>
      rw [lenX_r,e] at g
      cases o with
      | lst xs=>cases g; exact call_len_seq pins s σ H _ us Q I r ⟨p,xs,rfl,.inl (SqL.of e),q⟩
      | tup xs=>cases g; exact call_len_seq pins s σ H _ us Q I r ⟨p,xs,rfl,.inr (SqT.of e),q⟩
      | dK kvs=>
        cases g
        obtain ⟨u,rfl,rx⟩:=vals1 r
        cases rx
        exact d_len I (.inl e) fun t s' I'=>⟨.int _,H,I',⟨t,rfl⟩,q⟩
      | _=>cases g
  | str z=>
    have g':(if z.length≤sizeLine then some z.length else none)=some n:=g
    split at g'
    · cases g'
      rename_i hz
      exact call_len_str pins s σ H _ us Q I r ⟨z,rfl,hz,q⟩
    · cases g'
  | _=>cases g
def truO:HO→Option Bool
  | .lst xs=>some (!xs.isEmpty)
  | .tup xs=>some (!xs.isEmpty)
  | .dK kvs=>some (!kvs.isEmpty)
  | _=>none
def truX (H:Hp):V→Option Bool
  | .non=>some false
  | .bl b=>some b
  | .int i=>some (i != 0)
  | .ref p=>(H p).bind truO
  | _=>none
theorem truX_b {H:Hp} {b:Bool}:truX H (.bl b)=some b:=rfl
theorem truX_r {H:Hp} {p:Addr}:truX H (.ref p)=(H p).bind truO:=rfl
def tTruX (ta:TE):TT:=fun σ H Q=>ta σ H fun x H'=>∃ k,truX H' x=some k∧Q k H'
theorem tru_x:TruR X (fun x H Q=>∃ k,truX H x=some k∧Q k H):=by
  intro pins s σ H x v Q I rx h
  obtain ⟨k,g,q⟩:=h
  refine tru_ok pins s σ H x v Q I rx ⟨k,?_,q⟩
  cases x with
  | non=>cases g; rfl
  | bl b=>cases g; rfl
  | int i=>cases g; rfl
  | ref p=>
    cases e:H p with
    | none=>rw [truX_r,e] at g; cases g
    | some o=>
      rw [truX_r,e] at g
      cases o with
      | lst xs=>cases g; exact .inl ⟨xs,SqL.of e,rfl⟩
      | tup xs=>cases g; exact .inr (.inl ⟨xs,SqT.of e,rfl⟩)
      | dK kvs=>cases g; exact .inr (.inr ⟨kvs,e,rfl⟩)
      | _=>cases g
  | _=>cases g
theorem pt_truX {a:Expr} {ta:TE} (ha:PE X a ta) (he:∀ whole,isTrue a X.env whole=(do let v ← whole; standAt a.pos; holding [v] (truthy v)):=by intro _; rfl):PT X a (tTruX ta):=by
  intro pins s σ H Q I h
  exact isTrue_plain (thn (ha pins s σ H _ I h) fun v s1 ⟨x,H1,I1,r1,q1⟩=>tru_x pins s1 σ H1 x v Q I1 r1 q1) (he _)
def inO:HO→V→Option Bool
  | .lst xs,x=>if flatV x=true∧xs.all flatV=true then some (inV x xs) else none
  | .tup xs,x=>if flatV x=true∧xs.all flatV=true then some (inV x xs) else none
  | .dK kvs,.int i=>some (valV kvs (Sum.inl i)).isSome
  | .dK kvs,.str z=>some (valV kvs (Sum.inr z)).isSome
  | _,_=>none
theorem inO_di {kvs:List (Key × V)} {i:Int}:inO (.dK kvs) (.int i)=some (valV kvs (Sum.inl i)).isSome:=rfl
def rInX:R2:=fun x y H Q=>∃ p o b,y=.ref p∧H p=some o∧inO o x=some b∧Q (.bl b) H
def rNotInX:R2:=fun x y H Q=>∃ p o b,y=.ref p∧H p=some o∧inO o x=some b∧Q (.bl (!b)) H
theorem op_inX (hu:X.A.units+1<cLine):OpR X (compareOp .In) rInX:=by
  intro pins s σ H x y v u Q I rx ry h
  obtain ⟨p,o,b,rfl,e,g,q⟩:=h
  cases o with
  | lst xs=>
    have g':(if flatV x=true∧xs.all flatV=true then some (inV x xs) else none)=some b:=g
    split at g'
    · rename_i hz
      cases g'
      exact op_in_seq pins s σ H _ _ v u Q I rx ry ⟨p,xs,rfl,.inl (SqL.of e),hz.1,hz.2,q⟩
    · cases g'
  | tup xs=>
    have g':(if flatV x=true∧xs.all flatV=true then some (inV x xs) else none)=some b:=g
    split at g'
    · rename_i hz
      cases g'
      exact op_in_seq pins s σ H _ _ v u Q I rx ry ⟨p,xs,rfl,.inr (SqT.of e),hz.1,hz.2,q⟩
    · cases g'
  | dK kvs=>
    cases ry
    cases x with
    | int i=>cases g; exact d_in hu I (.inl ⟨kvs,Sum.inl i,.inl e,rfl,rfl⟩) rx fun s' I'=>⟨.bl _,H,I',rfl,q⟩
    | str z=>cases g; exact d_in hu I (.inl ⟨kvs,Sum.inr z,.inl e,rfl,rfl⟩) rx fun s' I'=>⟨.bl _,H,I',rfl,q⟩
    | _=>cases g
  | _=>cases x <;> cases g
theorem op_notinX (hu:X.A.units+1<cLine):OpR X (compareOp .NotIn) rNotInX:=by
  intro pins s σ H x y v u Q I rx ry h
  obtain ⟨p,o,b,rfl,e,g,q⟩:=h
  cases o with
  | lst xs=>
    have g':(if flatV x=true∧xs.all flatV=true then some (inV x xs) else none)=some b:=g
    split at g'
    · rename_i hz
      cases g'
      exact op_notIn_seq pins s σ H _ _ v u Q I rx ry ⟨p,xs,rfl,.inl (SqL.of e),hz.1,hz.2,q⟩
    · cases g'
  | tup xs=>
    have g':(if flatV x=true∧xs.all flatV=true then some (inV x xs) else none)=some b:=g
    split at g'
    · rename_i hz
      cases g'
      exact op_notIn_seq pins s σ H _ _ v u Q I rx ry ⟨p,xs,rfl,.inr (SqT.of e),hz.1,hz.2,q⟩
    · cases g'
  | dK kvs=>
    cases ry
    cases x with
    | int i=>cases g; exact d_notIn hu I (.inl ⟨kvs,Sum.inl i,.inl e,rfl,rfl⟩) rx fun s' I'=>⟨.bl _,H,I',rfl,q⟩
    | str z=>cases g; exact d_notIn hu I (.inl ⟨kvs,Sum.inr z,.inl e,rfl,rfl⟩) rx fun s' I'=>⟨.bl _,H,I',rfl,q⟩
    | _=>cases g
  | _=>cases x <;> cases g
def setO:HO→V→V→Option HO
  | .lst xs,.int k,v=>(ixN xs.length k).map fun j=>.lst (xs.set j v)
  | .dK kvs,.int i,v=>if kvs.length<sizeLine then some (.dK (putK kvs (Sum.inl i) v)) else none
  | .dK kvs,.str z,v=>if kvs.length<sizeLine then some (.dK (putK kvs (Sum.inr z) v)) else none
  | _,_,_=>none
theorem setO_l {xs:List V} {k:Int} {v:V}:setO (.lst xs) (.int k) v=(ixN xs.length k).map fun j=>.lst (xs.set j v):=rfl
def rSetX:V→V→V→Hp→(Hp→Prop)→Prop:=fun o i v H Q=>∃ p ob ob',o=.ref p∧H p=some ob∧setO ob i v=some ob'∧Q (upd H p ob')
theorem set_x (hu:X.A.units+1<cLine):PSet X rSetX:=by
  intro pins s σ H o i v ov iv u Q I ro ri rv h
  obtain ⟨p,ob,ob',rfl,e,g,q⟩:=h
  cases ob with
  | lst xs=>
    cases i with
    | int k=>
      cases z:ixN xs.length k with
      | none=>rw [setO_l,z] at g; cases g
      | some j=>
        rw [setO_l,z] at g
        cases g
        exact set_list pins s σ H _ _ v ov iv u Q I ro ri rv ⟨p,xs,k,j,rfl,rfl,e,z,q⟩
    | _=>cases g
  | dK kvs=>
    cases ro
    cases i with
    | int k=>
      have g':(if kvs.length<sizeLine then some (HO.dK (putK kvs (Sum.inl k) v)) else none)=some ob':=g
      split at g'
      · rename_i hz
        cases g'
        exact d_setItem hu I (.inl ⟨kvs,Sum.inl k,e,rfl,hz,rfl⟩) ri rv fun s' I'=>⟨_,I',q⟩
      · cases g'
    | str k=>
      have g':(if kvs.length<sizeLine then some (HO.dK (putK kvs (Sum.inr k) v)) else none)=some ob':=g
      split at g'
      · rename_i hz
        cases g'
        exact d_setItem hu I (.inl ⟨kvs,Sum.inr k,e,rfl,hz,rfl⟩) ri rv fun s' I'=>⟨_,I',q⟩
      · cases g'
    | _=>cases g
  | _=>cases i <;> cases g
def rSlTX:V→Option Int→Option Int→Hp→VK→Prop:=fun x lo hi H Q=>∃ a xs,x=.ref a∧H a=some (.tup xs)∧∀ p H',(H'=H∨(H p=none∧H'=upd H p (.tup (cutV xs lo hi))))→H' p=some (.tup (cutV xs lo hi))→Q (.ref p) H'
theorem cutV_whole {xs:List V} {lo hi:Option Int} (h:HT.sIx xs.length 0 lo=0∧HT.sIx xs.length xs.length hi=xs.length):cutV xs lo hi=xs:=by
  unfold cutV
  rw [h.1,h.2]
  simp
theorem sl_TX:SlR X rSlTX:=sl_tupW.weak fun _ lo hi H Q ⟨a,xs,e,h,q⟩=>⟨a,xs,e,SqT.of h,fun w=>q a H (.inl rfl) (by rw [cutV_whole w]; exact h),fun _ p hp=>q p _ (.inr ⟨hp,rfl⟩) upd_same⟩
def seqO:HO→Option (List V)
  | .lst xs=>some xs
  | .tup xs=>some xs
  | _=>none
theorem seqO_t {xs:List V}:seqO (.tup xs)=some xs:=rfl
theorem seqO_of {K:PySem.W.Frag} {H:Hp} {p:Addr} {o:HO} {ys:List V} (h:H p=some o) (g:seqO o=some ys):SqL K H p ys∨SqT K H p ys:=by
  cases o with
  | lst xs=>cases g; exact .inl (SqL.of h)
  | tup xs=>cases g; exact .inr (SqT.of h)
  | _=>cases g
def rListX:List V→Hp→VK→Prop:=fun xs H Q=>∃ p o ys,xs=[.ref p]∧H p=some o∧seqO o=some ys∧∀ l,H l=none→Q (.ref l) (upd H l (.lst ys))
theorem call_listX:CallR X (.type "list") rListX:=call_list_of.weak fun _ _ _ ⟨p,o,ys,e,h,g,q⟩=>⟨p,ys,e,seqO_of h g,q⟩
def Dt (H:Hp) (v:V) (d:PyData):Prop:=(∀ K:PySem.W.Frag,Has K H v d)∧PyData.canLay0 d=true∧PyData.eqv d d=true
theorem Im.dt {H:Hp} {v:V} {d:PyData} (h:Im H v d):Dt H v d:=⟨fun _=>h.has,h.lay,h.refl⟩
theorem Dt.has {K:PySem.W.Frag} {H:Hp} {v:V} {d:PyData} (h:Dt H v d):Has K H v d:=h.1 K
theorem Dt.lay {H:Hp} {v:V} {d:PyData} (h:Dt H v d):PyData.canLay0 d=true:=h.2.1
def rEqX:R2:=fun x y H Q=>∃ d e,Dt H x d∧Dt H y e∧d.depth≤60∧e.depth≤60∧Q (.bl (PyData.eqv d e)) H
theorem op_eqX (hu:X.A.units+64<cLine):OpR X (compareOp .Eq) rEqX:=(op_eqD hu).weak fun _ _ _ _ ⟨d,e,h1,h2,d1,d2,q⟩=>⟨d,e,h1.has,h2.has,shaped_of h1.lay (by omega),shaped_of h2.lay (by omega),q⟩
def tBL (r:V→List V→Hp→VK→Prop) (to:TE) (t:TA):TE:=fun σ H Q=>to σ H fun x H1=>∃ p xs,x=.ref p∧H1 p=some (.lst xs)∧t σ H1 fun xs H2=>r x xs H2 Q
theorem pe_lm {o e:Expr} {es:List Expr} {to:TE} {t:TA} {name:Str} {apos cpos:Pos} {id:String} {r:V→List V→Hp→VK→Prop}
    (slot:Slot "list" name id) (hty:typeOf (.builtin id)=pure (.type "method_descriptor")) (hm:MtR X id r) (ho:PE X o to) (ha:PA X (e::es) t)
    (hbase:attributeBase o name X.env (eval o X.env)=eval o X.env:=by rfl)
    (hfew:((backTo cpos (starEach (e::es) X.env)).all (fun x=>!x.1) && (backToKw cpos (keywordEach [] X.env)).all (fun x=>x.1.isSome)
      && decide ((e::es).length+([]:List Keyword).length+(if ([]:List Keyword).isEmpty then 0 else 1)<30))=true:=by rfl)
    (hline:(apos.endLine == cpos.line)=true:=by rfl) (hs:starEach (e::es) X.env=(false,eval e X.env)::starEach es X.env:=by rfl) (hplain:(backTo cpos (starEach es X.env)).any (·.1)=false:=by rfl) :
    PE X (.Call (.Attribute o name apos) (e::es) [] cpos) (tBL r to t):=by
  intro pins s σ H Q I h
  refine wpAny_Call_method_late hbase hfew hline rfl (thn (ho pins s σ H _ I h) fun v s1 ⟨x,H1,I1,r1,p,xs,ex,ep,q1⟩=>?_)
  subst ex
  obtain ⟨h1,h2⟩:=tyV_is I1 r1 (show tyV X.K "list" (.ref p) H1 from .inl ⟨rfl,xs,SqL.of ep⟩)
  refine ⟨"list", id,PySem.F.plainAttrs_list,slot,hty,h1,h2,?_⟩
  have hA:=ha cpos pins s1 σ H1 _ I1 q1
  rw [hs] at hA ⊢
  refine Calls.callWith_builtin (by show (false || (backTo cpos (starEach es X.env)).any (·.1))=false; rw [hplain] <;> rfl) (Calls.evalArgs_plain ?_)
  exact thn hA fun us s2 ⟨vs,H2,I2,r2,q2⟩=>hm pins s2 σ H2 _ vs v us Q I2 r1 r2 q2
theorem use1 {t1 R:TS} {D:Ends} {σ:St} {H:Hp} (Pm:St→Hp→Prop) (key:∀ σ' H',Pm σ' H'→R D σ' H') (go:∀ R':TS,(∀ σ' H',Pm σ' H'→R' D σ' H')→tSeq t1 R' D σ H):tSeq t1 R D σ H:=go R key
theorem use2 {t1 t2 R:TS} {D:Ends} {σ:St} {H:Hp} (Pm:St→Hp→Prop) (key:∀ σ' H',Pm σ' H'→R D σ' H') (go:∀ R':TS,(∀ σ' H',Pm σ' H'→R' D σ' H')→tSeq t1 (tSeq t2 R') D σ H):tSeq t1 (tSeq t2 R) D σ H:=go R key
theorem use3 {t1 t2 t3 R:TS} {D:Ends} {σ:St} {H:Hp} (Pm:St→Hp→Prop) (key:∀ σ' H',Pm σ' H'→R D σ' H') (go:∀ R':TS,(∀ σ' H',Pm σ' H'→R' D σ' H')→tSeq t1 (tSeq t2 (tSeq t3 R')) D σ H):tSeq t1 (tSeq t2 (tSeq t3 R)) D σ H:=go R key
theorem use6 {t1 t2 t3 t4 t5 t6 R:TS} {D:Ends} {σ:St} {H:Hp} (Pm:St→Hp→Prop) (key:∀ σ' H',Pm σ' H'→R D σ' H') (go:∀ R':TS,(∀ σ' H',Pm σ' H'→R' D σ' H')→tSeq t1 (tSeq t2 (tSeq t3 (tSeq t4 (tSeq t5 (tSeq t6 R'))))) D σ H):tSeq t1 (tSeq t2 (tSeq t3 (tSeq t4 (tSeq t5 (tSeq t6 R))))) D σ H:=go R key
theorem ims_ints {H:Hp}:∀ ns:List Int,Ims H (ns.map V.int) (ns.map PyData.int)
  | []=>.nil
  | n::ns=>.cons (.int n) (ims_ints ns)
theorem noT1 {H:Hp} {b:Addr} (h:NoT H b):∀ c∈[b],NoT H c:=fun c hc=>by rw [List.mem_singleton] at hc; subst hc; exact h
theorem atI_0 {α:Type} {a:α} {l:List α}:atI (a::l) 0=some a:=by simp [atI,ixN]
theorem atI_1 {α:Type} {a b:α} {l:List α}:atI (a::b::l) 1=some b:=by
  simp only [atI,ixN,lZ1]
  rw [if_pos (by decide),if_pos (by omega)]
  rfl
theorem atI_2 {α:Type} {a b c:α} {l:List α}:atI (a::b::c::l) 2=some c:=by
  simp only [atI,ixN,lZ1]
  rw [if_pos (by decide),if_pos (by omega)]
  rfl
theorem atI_nat' {α:Type} {l:List α} {n:Nat}:atI l (n:Int)=l[n]?:=by
  unfold atI ixN
  rw [if_pos (by omega)]
  split
  · simp
  · rw [List.getElem?_eq_none (by omega)]; rfl
theorem atI_pos {α:Type} {l:List α} {k:Int} (h0:0≤k):atI l k=l[k.toNat]?:=by
  obtain ⟨n,rfl⟩:=Int.eq_ofNat_of_zero_le h0
  exact atI_nat'
def kT:String→String→Option Bool
  | "NoneType","int"=>some false
  | "NoneType","bool"=>some false
  | "NoneType","str"=>some false
  | "NoneType","list"=>some false
  | "NoneType","tuple"=>some false
  | "NoneType","dict"=>some false
  | "bool","int"=>some true
  | "bool","bool"=>some true
  | "bool","str"=>some false
  | "bool","list"=>some false
  | "bool","tuple"=>some false
  | "bool","dict"=>some false
  | "int","int"=>some true
  | "int","bool"=>some false
  | "int","str"=>some false
  | "int","list"=>some false
  | "int","tuple"=>some false
  | "int","dict"=>some false
  | "str","int"=>some false
  | "str","bool"=>some false
  | "str","str"=>some true
  | "str","list"=>some false
  | "str","tuple"=>some false
  | "str","dict"=>some false
  | "list","int"=>some false
  | "list","bool"=>some false
  | "list","str"=>some false
  | "list","list"=>some true
  | "list","tuple"=>some false
  | "list","dict"=>some false
  | "tuple","int"=>some false
  | "tuple","bool"=>some false
  | "tuple","str"=>some false
  | "tuple","list"=>some false
  | "tuple","tuple"=>some true
  | "tuple","dict"=>some false
  | "dict","int"=>some false
  | "dict","bool"=>some false
  | "dict","str"=>some false
  | "dict","list"=>some false
  | "dict","tuple"=>some false
  | "dict","dict"=>some true
  | _,_=>none
theorem setO_di' {kvs:List (Key × V)} {i:Int} {v:V}:setO (.dK kvs) (.int i) v=if kvs.length<sizeLine then some (.dK (putK kvs (Sum.inl i) v)) else none:=rfl
theorem inO_l' {xs:List V} {x:V}:inO (.lst xs) x=if flatV x=true∧xs.all flatV=true then some (inV x xs) else none:=rfl
end
end L2
namespace L2
open PySem PySem.Spec PyProof.Rows
section
variable {X:Cx}
theorem vals_of:∀ {xs:List V} {us:List Value},xs.length=us.length→(∀ (j:Nat) (x:V) (u:Value),xs[j]?=some x→us[j]?=some u→RelV x u)→Vals xs us
  | [],[],_,_=>.nil
  | [],_::_,h,_=>nomatch h
  | _::_,[],h,_=>nomatch h
  | x::xs,u::us,h,f=>.cons (f 0 x u rfl rfl) (vals_of (by simpa using h) fun j y v e1 e2=>f (j+1) y v (by simpa using e1) (by simpa using e2))
theorem keyIs_rel {k:Key} {v:Value} (h:keyIs k v=true):RelV (kV k) v:=by
  rcases keyIs_shape h with ⟨i,t,rfl,rfl⟩|⟨x,t,rfl,rfl⟩
  · exact ⟨t,rfl⟩
  · exact ⟨t,rfl⟩
theorem keys_vals {kvs:List (Key × V)} {vs:List (Key × Value)} {us:List Value} (rel:KV kvs vs) (hl:us.length=vs.length) (hv:∀ (j:Nat) (v:Value),us[j]?=some v→∃ k x,vs[j]?=some (k,x)∧keyIs k v=true):Vals (kvs.map fun q=>kV q.1) us:=by
  have hk:=rel.keys
  refine vals_of (by rw [List.length_map,rel.length,hl]) fun j x u e1 e2=>?_
  obtain ⟨k,y,e3,e4⟩:=hv j u e2
  rw [List.getElem?_map] at e1
  obtain ⟨q,hq,rfl⟩:=Option.map_eq_some_iff.mp e1
  have:(kvs.map (·.1))[j]?=(vs.map (·.1))[j]?:=by rw [hk]
  rw [List.getElem?_map,List.getElem?_map,hq,e3] at this
  have hkq:q.1=k:=by simpa using this
  rw [hkq]
  exact keyIs_rel e4
def rListD:List V→Hp→VK→Prop:=fun xs H Q=>∃ p kvs,xs=[.ref p]∧H p=some (.dK kvs)∧∀ l,H l=none→Q (.ref l) (upd H l (.lst (kvs.map fun q=>kV q.1)))
theorem call_listD (hc:X.calm=true):CallR X (.type "list") rListD:=by
  intro pins s σ H xs us Q I r h
  obtain ⟨p,kvs,rfl,e,q⟩:=h
  obtain ⟨u,rfl,rx⟩:=vals1 r
  cases rx
  obtain ⟨hz,hS,vs,rel,dd⟩:=dk_of I.hok e
  obtain ⟨ep,hat⟩:=dd.dictAt
  refine PySem.W.kdl_call (PySem.W.kdl_dict (knd:=mixKind X.prog X.w) (kvs:=vs) (ep:=ep) hS) (I.ok.hd hc) hat (by rw [← rel.length]; exact hz) fun h' tk acc' c' hk hD hacc=>?_
  have hn:=I.hok.fresh (Nat.le_refl s.heap.objs.size)
  refine ⟨.ref s.heap.objs.size,_,I.laid (o:=.lst (kvs.map fun q=>kV q.1)) hk (Nat.le_refl _) ?_,rfl,q _ hn⟩
  refine ⟨by rw [List.length_map]; exact hz,acc'.toList,c',?_,by rw [Array.toArray_toList]; exact hD⟩
  exact keys_vals rel (by rw [Array.length_toList]; exact hacc.1) fun j v e=>hacc.2 j v (by rw [← Array.getElem?_toList]; exact e)
theorem draw_list {prog:Program} {w:World} {A:Around} {E:Value→Shared→Prop} {it l:Addr} {items:Array Value} (hne:l≠it):∀ (n i:Nat) (s:Shared) (Q:List Value→Shared→Prop),s.heap.IsListIter it l i→s.heap.IsList l items→i+n≤items.size →
    (∀ h',h'.IsListIter it l (i+n)→Heap.SameBut it s.heap h'→Q ((items.toList.drop i).take n) { s with heap:=h' })→wpAny (model prog w) A (draw (.ref it) n) Q E s
  | 0,i,s,Q,hit,_,_,hQ=>by
    show wpAny _ _ (pure []) Q E s
    exact wpAny_pure (by simpa using hQ s.heap hit (Heap.SameBut.refl ..))
  | n+1,i,s,Q,hit,ht,hle,hQ=>by
    have hlt:i<items.size:=by omega
    show wpAny _ _ (pyNext (.ref it) >>= _) Q E s
    refine wpAny_bind (wpAny_pyNext_list_item hit ht (x:=items[i]) (by simp [hlt]) fun h₁ hit₁ hs₁=>?_)
    have ht1:h₁.IsList l items:=by
      obtain ⟨o,ho,r⟩:=ht
      exact ⟨o,hs₁.extBut _ _ hne ho,r⟩
    refine wpAny_bind (wpAny_holding (draw_list hne n (i+1) _ _ hit₁ ht1 (by omega) fun h₂ hit₂ hs₂=>wpAny_pure ?_))
    have hd:items.toList.drop i=items[i]::items.toList.drop (i+1):=by simp [List.drop_eq_getElem_cons,hlt]
    have:=hQ h₂ (by rw [show i+(n+1)=i+1+n by omega]; exact hit₂) (hs₁.trans hs₂)
    rw [hd,List.take_succ_cons] at this
    exact this
theorem unpackItems_list {prog:Program} {w:World} {A:Around} {E:Value→Shared→Prop} {s:Shared} {t:Addr} {items:Array Value} {Q:List Value→Shared→Prop} (hh:A.handled=none) (ht:s.heap.IsList t items)
    (hQ:∀ h',Heap.ExtBut s.heap.objs.size s.heap h'→Q items.toList { s with heap:=h' }):wpAny (model prog w) A (unpackItems (.ref t) items.size none) Q E s:=by
  have hlt:t≠s.heap.objs.size:=by obtain ⟨o,ho,_⟩:=ht; exact Nat.ne_of_lt (Heap.lt_size ho)
  unfold unpackItems
  refine wpAny_bind ?_
  · unfold notIterableAtAll
    refine wpAny_bind (wpAny_specialOf ht.typeIs PySem.F.slot_list_iter.lookup ?_)
    refine wpAny_pure ?_
    simp only [Bool.false_eq_true,if_false]
    refine wpAny_bind (wpAny_holding (wpAny_pyIter_list ht ?_))
    have ht0:∀ o',(s.heap.push o').IsList t items:=fun o'=>by
      obtain ⟨o,ho,r⟩:=ht
      exact ⟨o,Heap.get?_push_of_some _ ho,r⟩
    refine wpAny_bind (wpAny_holding (draw_list hlt items.size 0 _ _ ⟨_,Heap.get?_push_size _ rfl,rfl,rfl⟩ (ht0 _) (by omega) fun h₁ hit₁ hs₁=>?_))
    have hall:List.take items.size (List.drop 0 items.toList)=items.toList:=by
      rw [List.drop_zero]; exact List.take_of_length_le (by simp)
    rw [hall]
    rw [if_neg (by simp)]
    have ht₁:h₁.IsList t items:=by
      obtain ⟨o,ho,r⟩:=ht0 _
      exact ⟨o,hs₁.extBut _ _ hlt ho,r⟩
    refine wpAny_bind (wpAny_holding (wpAny_pyNext_list_end hh hit₁ ht₁ (by simp) fun h₂ he₂=>?_))
    simp only [Option.isSome_none,Bool.false_eq_true,if_false]
    refine wpAny_pure (hQ h₂ fun b o hb e=>he₂ b o hb (hs₁.extBut b o hb (Heap.get?_push_of_some _ e)))
theorem assign_Tuple_list {prog:Program} {w:World} {A:Around} {E:Value→Shared→Prop} {s:Shared} {env:Env} {elts:List Expr} {x1} {pos:Pos} {t:Addr} {items:Array Value} {Q:Unit→Shared→Prop} (hh:A.handled=none) (ht:s.heap.IsList t items)
    (hn:(assignEach elts env).length=items.size) (hstar:(assignEach elts env).findIdx? (·.1)=none)
    (h:∀ h',Heap.ExtBut s.heap.objs.size s.heap h'→wpAny (model prog w) A (assignInOrder ((assignEach elts env).map (·.2)) items.toList) Q E { s with heap:=h' }) :
    wpAny (model prog w) A (assign (.Tuple elts x1 pos) env (.ref t)) Q E s:=by
  rw [assign_Tuple]
  refine wpAny_bind (wpAny_standAt ?_)
  unfold unpack
  rw [hn,hstar]
  exact wpAny_bind (wpAny_holding (unpackItems_list hh ht h))
def gSeqX (n:Nat) (t:TGs):TG:=fun v σ H Q=>∃ a o xs,v=.ref a∧H a=some o∧seqO o=some xs∧xs.length=n∧t xs σ H Q
theorem pg_seqX {es:List Expr} {k:Nat} {t:TGs} {n:Nat} {pos:Pos} (hc:X.calm=true) (hg:PGs X es t)
    (hn:(assignEach es X.env).length=n:=by rfl) (hst:(assignEach es X.env).findIdx? (·.1)=none:=by rfl):PG X (.Tuple es k pos) (gSeqX n t):=by
  intro pins s σ H v u Q I rv q
  obtain ⟨a,o,xs,e,hx,g,hl,q⟩:=q
  cases o with
  | tup ys=>cases g; exact pg_tupK (K:=X.K) (k:=k) (pos:=pos) hc hg hn hst rfl pins s σ H v u Q I rv ⟨a,_,e,SqT.of hx,hl,q⟩
  | lst ys=>
    cases g
    subst e
    cases rv
    obtain ⟨its,r,ht,hz⟩:=I.list (SqL.of (K:=X.K) hx)
    refine assign_Tuple_list (I.ok.hd hc) ht.isList (by simp [hn,← hl,r.length]) hst fun h' hx'=>?_
    have I1:Inv X pins σ H { s with heap:=h' }:=I.kept (t':=s.toks) fun b o e=>hx' b o (Nat.ne_of_lt (Heap.lt_size e)) e
    exact hg pins _ σ H _ _ Q I1 (by simpa using r) q
  | _=>cases g
end
end L2
namespace L2
open PySem PySem.Spec PyProof.Rows
theorem bt_sorted:bootBuiltins "sorted"=some (.builtin "sorted"):=by decide +kernel
section
variable {X:Cx}
theorem ints_to_vals:∀ {ns:List Int} {us:List Value},IntsAre us ns→Vals (ns.map V.int) us
  | _,_,.nil=>.nil
  | _,_,.cons i t r=>.cons ⟨t,rfl⟩ (ints_to_vals r)
theorem sort_fin {pins:List (Addr × Obj)} {σ:St} {H:Hp} {s:Shared} {h':Heap} {tk:Nat} {a:Addr} {ns:List Int} {out:Array Value} {n:Nat} {Q:VK} (I:Inv X pins σ H s) (hk:∀ b o,s.heap.get? b=some o→h'.get? b=some o) (ha:s.heap.objs.size≤a) (ho:h'.get? a=some (seqObj "list" out n))
    (hI:IntsAre out.toList ns) (hl:ns.length≤1000) (q:∀ l,H l=none→Q (.ref l) (upd H l (.lst (ns.map V.int)))):EP X pins σ Q (.ref a) { s with heap:=h',toks:=tk }:=by
  have hn:=I.hok.fresh ha
  refine ⟨.ref a,_,I.laid (o:=.lst (ns.map V.int)) hk ha ?_,rfl,q _ hn⟩
  refine ⟨by rw [List.length_map,sizeLine_eq]; omega,out.toList,n,?_,by simpa [seqObj] using ho⟩
  exact ints_to_vals hI
def rSortL:List V→Hp→VK→Prop:=fun xs H Q=>∃ (p:Addr) (ns:List Int),xs=[.ref p]∧H p=some (.lst (ns.map V.int))∧ns.length<64∧∀ ms:List Int,ms.Perm ns→ms.Pairwise (·≤·)→∀ l,H l=none→Q (.ref l) (upd H l (.lst (ms.map V.int)))
theorem call_sortL:CallR X (.builtin "sorted") rSortL:=by
  intro pins s σ H xs us Q I r h
  obtain ⟨p,ns,rfl,e,h64,q⟩:=h
  obtain ⟨u,rfl,rx⟩:=vals1 r
  cases rx
  obtain ⟨its,rv,pl,hz⟩:=I.list (SqL.of (K:=X.K) e)
  have hl:=rv.length
  rw [List.length_map] at hl
  refine sorted_ints pl.isList (ints_vals rv) (by omega) fun out ns' a1 a2 a3=>?_
  obtain ⟨n,hn⟩:=sortedAll_at s.heap its out
  exact sort_fin I (fun b o e=>sortedAll_old e) (Nat.le_succ _) hn a1 (by rw [a2.length_eq]; omega) (q ns' a2 a3)
end
end L2
namespace L2
open PySem PySem.Spec PyProof.Rows
section
variable {X:Cx}
end
end L2
namespace L2
open PySem PySem.Spec PyProof.Rows
section
variable {X:Cx} {pins:List (Addr × Obj)} {σ:St} {H:Hp} {s:Shared} {d:Addr} {kvs:List (Key × V)}
theorem Inv.frz (I:Inv X pins σ H s) (e:H d=some (.dK kvs)):∃ o,s.heap.get? d=some o∧Inv X pins σ (upd H d (.frz o (.dK kvs))) s:=by
  obtain ⟨hz,hS,vs,rel,o,es,ep,ho,r⟩:=I.hok d _ e
  refine ⟨o,ho,I.un (t':=s.toks) (h':=s.heap) ⟨fun b o q _ _ _=>q,fun b o q _ _ _=>⟨o.slots,q⟩,fun b o _ n _=>?_,fun b o q _=>⟨o,q⟩,fun b xs q=>?_,fun b o u q=>?_,fun b ps q=>?_⟩ fun b u q=>?_⟩
  · rw [upd_ne (Ne.symm (ne_of_none e n))]; exact n
  · rw [upd_ne (ne_of q e (by intro z; cases z))]; exact q
  · rw [upd_ne (ne_of q e (by intro z; cases z))]; exact q
  · exact ⟨#[],by rw [upd_ne (ne_of q e (by intro z; cases z)),q]; simp⟩
  · by_cases hb:b=d
    · subst hb
      rw [upd_same] at q
      cases q
      exact ⟨ho,hz,hS,vs,rel,o,es,ep,ho,r⟩
    · rw [upd_ne hb] at q
      exact (I.hok b u q).stay (fun _ _ _ r=>r) (fun c r=>by rw [upd_ne (ne_of r e (by intro z; cases z))]; exact r) fun c xs r=>by rw [upd_ne (ne_of r e (by intro z; cases z))]; exact r
theorem Inv.unf {o:Obj} (I:Inv X pins σ H s) (e:H d=some (.frz o (.dK kvs))) (hn:∀ o u,X.H₀ d≠some (.frz o u)):Inv X pins σ (upd H d (.dK kvs)) s:=by
  have ne:∀ {b:Addr},H b=none→b≠d:=fun h z=>by rw [z,e] at h; cases h
  refine ⟨I.ok,I.os,I.bare,⟨I.base.keep,I.base.slot,fun b o q n hx=>?_,I.base.there,fun b xs q=>?_,fun b o u q=>?_,fun b ps q=>?_⟩,I.loc,I.cell,?_,fun x c h=>?_,fun p hp=>?_,fun b u q=>?_,I.len⟩
  · have:=I.base.free b o q n hx
    rw [upd_ne (ne this)]; exact this
  · have:=I.base.tups b xs q
    rw [upd_ne (ne_of this e (by intro z; cases z))]; exact this
  · have:=I.base.frzs b o u q
    have hb:b≠d:=fun z=>hn o u (z ▸ q)
    rw [upd_ne hb]; exact this
  · obtain ⟨more,this⟩:=I.base.tbls b ps q
    exact ⟨more,by rw [upd_ne (ne_of this e (by intro z; cases z))]; exact this⟩
  · rw [upd_ne (ne I.free)]; exact I.free
  · rw [upd_ne (ne (I.freeC x c h))]; exact I.freeC x c h
  · obtain ⟨h1,h2,h3⟩:=I.pin p hp
    exact ⟨h1,by rw [upd_ne (ne h2)]; exact h2,h3⟩
  · by_cases hb:b=d
    · subst hb
      rw [upd_same] at q
      cases q
      exact (I.hok b _ e).2
    · rw [upd_ne hb] at q
      exact (I.hok b u q).stay (fun _ _ _ r=>r) (fun c r=>by rw [upd_ne (ne_of r e (by intro z; cases z))]; exact r) fun c xs r=>by rw [upd_ne (ne_of r e (by intro z; cases z))]; exact r
def epOf (o:Obj):Nat:=match o.data with
  | .dict _ ep=>ep
  | _=>0
theorem frz_at {P:Program} {w:World} {h:Heap} {o:Obj} (ok:HOk P w H h) (e:H d=some (.frz o (.dK kvs))):h.get? d=some o∧(d == sysModules)=false∧kvs.length≤sizeLine∧∃ vs,KV kvs vs∧h.DictAt (mixKind P w) d vs (epOf o):=by
  obtain ⟨ho,hz,hS,vs,rel,o',es,ep,ho',hx,hd,r⟩:=ok d _ e
  rw [ho] at ho'
  cases ho'
  have:epOf o=ep:=by unfold epOf; rw [hd]
  rw [this]
  exact ⟨ho,hS,hz,vs,rel,o,es,ho,hx,hd,r⟩
theorem is_kV {P:Program} {w:World} {k:Key} {u:Value} (h:(mixKind P w).is k u=true):RelV (kV k) u:=by
  rcases keyIs_shape (show keyIs k u=true from h) with ⟨i,t,rfl,rfl⟩|⟨x,t,rfl,rfl⟩
  · exact ⟨t,rfl⟩
  · exact ⟨t,rfl⟩
theorem KV.at {vs:List (Key × Value)} (r:KV kvs vs) {i:Nat} {p:Key × V} (h:kvs[i]?=some p):∃ u,vs[i]?=some (p.1,u)∧RelV p.2 u:=by
  obtain ⟨q,hq,h1,h2⟩:=paired_get r h
  exact ⟨q.2,by rw [hq,h1],h2⟩
end
def ItP (d:Addr) (o:Obj) (kvs:List (Key × V)):It:=⟨fun i H=>i<kvs.length∧H d=some (.frz o (.dK kvs)),fun i H x H'=>∃ p q,x=.ref p∧H p=none∧kvs[i]?=some q∧H'=upd H p (.tup [kV q.1,q.2]),fun i H=>i=kvs.length∧H d=some (.frz o (.dK kvs))⟩
section
variable {P:Program} {w:World} {K:PySem.W.Frag} {tg:Expr} {d it:Addr} {o:Obj} {kvs:List (Key × V)}
theorem entry_dict_itemiterator_iter:entryFor table "dict_itemiterator.__iter__"=some Builtin.«dict_keyiterator.__iter__»:=
  entryFor_alias (id':="dict_keyiterator.__iter__") (by kernel_rfl) rfl (by decide +kernel) (by kernel_rfl)
theorem wpAny_pyIter_itemiter {prog:Program} {w:World} {A:Around} {E:Value→Shared→Prop} {s:Shared} {i n ep:Nat} {ok ov:Value} {Q:Value→Shared→Prop} (hit:IsItemIter s.heap it d i n ep ok ov) (h:Q (.ref it) s):wpAny (model prog w) A (pyIter (.ref it)) Q E s:=by
  have hT:s.TypeIs (.ref it) "dict_itemiterator":=⟨_,hit,rfl⟩
  refine wpAny_pyIter_slot hT F.slot_dict_itemiterator_iter (wpAny_call_entry F.slot_dict_itemiterator_iter hT entry_dict_itemiterator_iter ?_ (F.args_dict_itemiterator_iter_1 _))
  change wpAny _ _ (ret (.ref it)) _ _ s
  exact wpAny_pure ⟨_,rfl,"dict_itemiterator", _,hT,F.slot_dict_itemiterator_next.lookup,h⟩
theorem turn_ditem {elts:List Expr} {x1} {tpos:Pos}:Turn P w K (.Tuple elts x1 tpos) (ItP d o kvs) [it] it (fun i h=>∃ ok ov,IsItemIter h it d i kvs.length (epOf o) ok ov) where
  mem:=by simp
  obj:=fun i h st b hb=>by
    have e:b=it:=by simpa using hb
    subst e
    obtain ⟨ok,ov,e⟩:=st
    exact ⟨_,e,fun v z=>by cases z⟩
  keep:=fun i h h' st k=>by
    obtain ⟨ok,ov,e⟩:=st
    exact ⟨ok,ov,k it (by simp) _ e⟩
  item:=by
    intro X hP hw hK hc i pins s σ H E I hf st hg
    subst hP hw hK
    obtain ⟨ok,ov,st⟩:=st
    obtain ⟨hi,hd⟩:=hg
    obtain ⟨ho,hS,hz,vs,rel,hat⟩:=frz_at I.hok hd
    have fe:=hf it (by simp)
    have hx:kvs[i]?=some kvs[i]:=List.getElem?_eq_getElem hi
    generalize kvs[i]=q at hx
    obtain ⟨u,hu,ru⟩:=rel.at hx
    have hl:=rel.length
    rw [hl] at st
    refine wpAny_pyNext_items_item st hat hu fun key h' hkey eo ht hsz hk=>?_
    have hH:H s.heap.objs.size=none:=I.hok.fresh (Nat.le_refl _)
    have ne:∀ b o,s.heap.get? b=some o→b≠s.heap.objs.size:=fun b o q=>Nat.ne_of_lt (Heap.lt_size q)
    have nx:∀ b,b ∉ [it]→b≠it:=fun b hb=>fun z=>hb (by simp [z])
    have I1:Inv X pins σ (upd H s.heap.objs.size (.tup [kV q.1,q.2])) { s with heap:=h',gens:=s.gens,drawn:=s.drawn,toks:=s.toks }:=I.call (ch:=[it]) (h':=h') (g':=s.gens) (d':=s.drawn) (t':=s.toks)
      ⟨fun b o q n hb hb2=>hk b o (nx b hb2) q,fun b o q n hb hb2=>⟨o.slots,hk b o (nx b hb2) q⟩,fun b o q n hb2=>by rw [upd_ne (ne b o q)]; exact n,fun b o q hb2=>⟨o,hk b o (nx b hb2) q⟩,
        fun b ys q=>by rw [upd_ne (ne_of_none q hH)]; exact q,fun b o ys q=>by rw [upd_ne (ne_of_none q hH)]; exact q,fun b ps q=>⟨#[],by rw [upd_ne (ne_of_none q hH),q]; simp⟩⟩
      (fun b o q'=>by
        by_cases hb:b=s.heap.objs.size
        · subst hb
          rw [upd_same] at q'
          cases q'
          exact ⟨by rw [sizeLine_eq]; show 2≤16777216; decide,[key,u],.cons (is_kV hkey) (.cons ru .nil),⟨_,ht,rfl,0,rfl⟩⟩
        · rw [upd_ne hb] at q'
          refine (I.hok b o q').stay (fun c v hc r=>?_) (fun c r=>by rw [upd_ne (ne_of_none r hH)]; exact r) fun c ys r=>by rw [upd_ne (ne_of_none r hH)]; exact r
          have hcn:H c≠none:=by
            rcases hc with rfl|hc
            · rw [q']; exact fun z=>nomatch z
            · rw [hc]; exact fun z=>nomatch z
          exact hk c v (fun z=>hcn (z ▸ fe.1)) r) I.bare
      (fun b hb=>by
        have F:FpOk X pins H b:=hf b hb
        exact ⟨F.2.2.2.1,F.2.1,F.2.2.2.2.1,F.2.2.2.2.2⟩)
    refine ⟨_,rfl,wpAny_letOwnedTupleGo_items (s:={ s with heap:=h' }) eo fun h2 e2 sb=>?_⟩
    have nep:∀ b∈[it],upd H s.heap.objs.size (.tup [kV q.1,q.2]) b=none:=fun b hb=>by
      have e':b=it:=by simpa using hb
      subst e'
      rw [upd_ne (ne _ _ st)]
      exact fe.1
    have I2:Inv X pins σ (upd H s.heap.objs.size (.tup [kV q.1,q.2])) { s with heap:=h2 }:=I1.turned (t':=s.toks) (fun b o hb q=>(sb.2 b hb).trans q) (nep it (by simp)) fe.2.1 fe.2.2.2.1 fe.2.2.2.2.1 fe.2.2.2.2.2
    rw [← hl] at e2
    exact ⟨.ref s.heap.objs.size,_,I2,rfl,⟨_,q,rfl,hH,hx,rfl⟩,⟨_,_,e2⟩,nep⟩
  done:=by
    intro X hP hw hK hc i pins s σ H E I hf st hg
    subst hP hw hK
    obtain ⟨ok,ov,st⟩:=st
    obtain ⟨hi,hd⟩:=hg
    obtain ⟨ho,hS,hz,vs,rel,hat⟩:=frz_at I.hok hd
    obtain ⟨f0,f1,f2,f3,f4,f5⟩:=hf it (by simp)
    have hl:=rel.length
    rw [hl] at st
    exact wpAny_pyNext_items_end (I.ok.hd hc) st hat (List.getElem?_eq_none (by omega)) fun h' eb=>⟨rfl,I.turned (t':=s.toks) (fun b o hb e=>eb b o hb e) f0 f1 f3 f4 f5⟩
  self:=fun _ _ _ _ _ st h=>by
    obtain ⟨ok,ov,st⟩:=st
    exact wpAny_pyIter_itemiter st h
end
section
variable {X:Cx}
def iDItem (td:TE):TI:=fun σ H R=>td σ H fun x H1=>∃ d kvs,x=.ref d∧H1 d=some (.dK kvs)∧∀ o,R (ItP d o kvs) (upd H1 d (.frz o (.dK kvs)))
theorem pi_ditem {elts:List Expr} {x1} {tpos:Pos} {o:Expr} {td:TE} {apos cpos:Pos} (hl:PE X o td) (hbase:attributeBase o "items" X.env (eval o X.env)=eval o X.env:=by rfl) (hline:(apos.endLine == cpos.line)=true:=by rfl):PI X (.Tuple elts x1 tpos) (.Call (.Attribute o "items" apos) [] [] cpos) (iDItem td):=by
  intro pins s σ H R I h
  refine wpAny_Call_method0_late hbase hline (thn (hl pins s σ H _ I h) fun v s1 ⟨x,H1,I1,r1,q1⟩=>?_)
  obtain ⟨d,kvs,rfl,hd,q⟩:=q1
  cases r1
  obtain ⟨h1,h2,_⟩:=isD_at I1 (.inl ⟨kvs,.inl hd⟩)
  obtain ⟨hz,hS,vs,rel,dd⟩:=dk_of I1.hok hd
  refine ⟨"dict", _,PySem.F.plainAttrs_dict,PySem.F.slot_dict_items,PySem.F.type_dict_items,h1,h2,Calls.callWith_builtin rfl (PySem.evalArgs_none ?_)⟩
  refine call_meetsIn PySem.F.slot_dict_items dd.typeIs PySem.F.entry_dict_items (PySem.F.args_dict_items_1 _) (PySem.meets_dict_items (mixKind X.prog X.w) d hS) ⟨⟨vs,dd⟩,?_⟩
  obtain ⟨ob,ho,I2⟩:=I1.frz hd
  obtain ⟨_,_,_,vs2,rel2,hat⟩:=frz_at I2.hok upd_same
  have I3:Inv X pins σ (upd H1 d (.frz ob (.dK kvs))) { s1 with heap:=s1.heap.push { cls:=.type "dict_items", data:=.fields #[.ref d] } }:=I2.kept (t':=s1.toks) fun b o e=>Heap.get?_push_of_some _ e
  refine wpAny_pyIter_items (s:={ s1 with heap:=s1.heap.push { cls:=.type "dict_items", data:=.fields #[.ref d] } }) ⟨_,Heap.get?_push_size _ rfl,rfl,rfl⟩ (hat.push _) ?_
  refine ⟨_,[_],_,_,_,rfl,I3.kept (t':=s1.toks) fun b o e=>Heap.get?_push_of_some _ e,turn_ditem (o:=ob),⟨.none,.none,?_⟩,fun b hb=>?_,q ob⟩
  · rw [rel2.length]
    exact Heap.get?_push_size _ rfl
  · have e:=List.mem_singleton.mp hb
    subst e
    exact I3.fpOk (Nat.le_refl _) (I3.hok.fresh (Nat.le_refl _))
def Unf (H H' H'':Hp):Prop:=H''=H'∨∃ d o kvs,H' d=some (.frz o (.dK kvs))∧(∀ o u,H d≠some (.frz o u))∧H''=upd H' d (.dK kvs)
theorem Inv.unfs {pins:List (Addr × Obj)} {σ σ':St} {H H' H'':Hp} {s s':Shared} (I:Inv X pins σ H s) (I':Inv X pins σ' H' s') (u:Unf H H' H''):Inv X pins σ' H'' s':=by
  rcases u with rfl|⟨d,o,kvs,e,hn,rfl⟩
  · exact I'
  · exact I'.unf e fun o u z=>hn o u (I.base.frzs d o u z)
def tUnf (t:TS):TS:=fun D σ H=>t { nx:=fun σ' H'=>∃ H'',Unf H H' H''∧D.nx σ' H'',rt:=fun v H'=>∃ H'',Unf H H' H''∧D.rt v H'',bk:=D.bk,ct:=D.ct } σ H
theorem ps_unf {st:Stmt} {t:TS} (h:PS X st t):PS X st (tUnf t):=by
  intro pins s σ H D I q
  refine thn (h pins s σ H _ I q) fun f s' hs=>?_
  cases f with
  | next=>
    obtain ⟨σ',H',I',H'',u,q⟩:=hs
    exact ⟨σ',H'',I.unfs I' u,q⟩
  | brk=>exact hs
  | cont=>exact hs
  | ret v=>
    obtain ⟨v',σ',H',I',rv,H'',u,q⟩:=hs
    exact ⟨v',σ',H'',I.unfs I' u,rv,q⟩
theorem Unf.of {H H':Hp} {d:Addr} {o:Obj} {kvs kvs0:List (Key × V)} (e:H' d=some (.frz o (.dK kvs))) (e0:H d=some (.dK kvs0)):Unf H H' (upd H' d (.dK kvs)):=.inr ⟨d,o,kvs,e,(fun o u z=>by rw [e0] at z; cases z),rfl⟩
end
theorem for_itp {d:Addr} {o:Obj} {kvs:List (Key × V)} {g:TG} {tb:TS} {D:Ends} {σ:St} {H:Hp} (Pv:Nat→St→Hp→Prop) (h0:Pv 0 σ H) (hf:∀ i σ H,Pv i σ H→H d=some (.frz o (.dK kvs)))
    (hs:∀ i q p σ H,kvs[i]?=some q→Pv i σ H→H p=none→g (.ref p) σ (upd H p (.tup [kV q.1,q.2])) fun σ2 H2=>tb { D with nx:=Pv (i+1),ct:=Pv (i+1),bk:=D.nx } σ2 H2) (hd:∀ σ H,Pv kvs.length σ H→D.nx σ H):ForW g tb D σ (ItP d o kvs) H:=by
  refine ⟨fun i m σ H=>m=kvs.length - i∧i≤kvs.length∧Pv i σ H,⟨kvs.length,by simp,Nat.zero_le _,h0⟩,?_⟩
  rintro i m σ H ⟨rfl,hi,p⟩
  have hh:=hf i σ H p
  by_cases hlt:i<kvs.length
  · refine .inr ⟨⟨hlt,hh⟩,Pv (i+1),fun σ' H' p'=>⟨kvs.length - (i+1),by omega,rfl,hlt,p'⟩,fun x H' y=>?_⟩
    obtain ⟨a,q,rfl,ha,hq,rfl⟩:=y
    exact hs i q a σ H hq p ha
  · have e:i=kvs.length:=by omega
    subst e
    exact .inl ⟨⟨rfl,hh⟩,hd σ H p⟩
end L2
namespace L2
open PySem PySem.Spec PyProof.Rows
def keyV:V→Option Key
  | .int i=>some (.inl i)
  | .str x=>some (.inr x)
  | _=>none
theorem keyV_i {i:Int}:keyV (.int i)=some (.inl i):=rfl
theorem keyV_k {y:V} {k:Key} (h:keyV y=some k):y=kV k:=by
  cases y <;> simp [keyV] at h <;> (subst h; rfl)
def tDGX1 (td ty:TE):TE:=fun σ H Q=>td σ H fun x H1=>∃ a kvs,x=.ref a∧H1 a=some (.dK kvs)∧ty σ H1 fun y H2=>∃ kvs2 k,H2 a=some (.dK kvs2)∧keyV y=some k∧Q ((valV kvs2 k).getD .non) H2
section
variable {X:Cx} {o e f:Expr} {td ty tx:TE} {apos cpos:Pos}
theorem pe_dgX1 (hu:X.A.units+1<cLine) (ho:PE X o td) (he:PE X e ty) (m:M1 X o "get" apos e cpos):PE X (.Call (.Attribute o "get" apos) [e] [] cpos) (tDGX1 td ty):=by
  intro pins s σ H Q I h
  refine wpAny_Call_method m.base m.few m.line PySem.F.plainAttrs_dict PySem.F.slot_dict_get PySem.F.type_dict_get (thn (ho pins s σ H _ I h) fun u s1 ⟨x,H1,I1,rx,a,kvs,ex,ed,q1⟩=>?_)
  subst ex
  obtain rfl:u=Value.ref a:=rx
  obtain ⟨t1,t2,_⟩:=isD_at I1 (.inl ⟨kvs,.inl ed⟩)
  refine ⟨t1,t2,?_⟩
  rw [m.trees]
  refine Calls.callWith_builtin rfl (Calls.evalArgs_plain (Calls.spliced_cons (thn (he pins s1 σ H1 _ I1 q1) fun iv s2 ⟨y,H2,I2,ry,kvs2,k,ed2,hk,q2⟩=>Calls.spliced_nil ?_)))
  exact d_get1 hu I2 (.inl ⟨kvs2,k,.inl ed2,keyV_k hk,rfl⟩) ry fun w' s3 I3 rw'=>⟨_,H2,I3,rw',q2⟩
end
end L2
namespace L2
open PySem PySem.Spec PyProof.Rows
section
variable {X:Cx} {o e f:Expr} {td ty tx:TE} {apos cpos:Pos}
def tDSD (td ty tx:TE):TE:=fun σ H Q=>td σ H fun x H1=>∃ a kvs,x=.ref a∧H1 a=some (.dK kvs)∧ty σ H1 fun y H2=>tx σ H2 fun z H3=>∃ kvs2 k,H3 a=some (.dK kvs2)∧keyV y=some k∧kvs2.length<sizeLine ∧
  (∀ v,valV kvs2 k=some v→Q v H3)∧(valV kvs2 k=none→Q z (upd H3 a (.dK (putK kvs2 k z))))
theorem pe_dsd (ho:PE X o td) (he:PE X e ty) (hf:PE X f tx) (m:M2 X o "setdefault" apos e f cpos):PE X (.Call (.Attribute o "setdefault" apos) [e,f] [] cpos) (tDSD td ty tx):=by
  intro pins s σ H Q I h
  refine wpAny_Call_method m.base m.few m.line PySem.F.plainAttrs_dict PySem.F.slot_dict_setdefault PySem.F.type_dict_setdefault (thn (ho pins s σ H _ I h) fun u s1 ⟨x,H1,I1,rx,a,kvs,ex,ed,q1⟩=>?_)
  subst ex
  obtain rfl:u=Value.ref a:=rx
  obtain ⟨t1,t2,_⟩:=isD_at I1 (.inl ⟨kvs,.inl ed⟩)
  refine ⟨t1,t2,?_⟩
  rw [m.trees]
  refine Calls.callWith_builtin rfl (Calls.evalArgs_plain (Calls.spliced_cons (thn (he pins s1 σ H1 _ I1 q1) fun iv s2 ⟨y,H2,I2,ry,q2⟩=>
    Calls.spliced_cons (thn (hf pins s2 σ H2 _ I2 q2) fun fv s3 ⟨z,H3,I3,rz,kvs2,k,ed3,hk,hl,h1,h2⟩=>Calls.spliced_nil ?_))))
  have ey:=keyV_k hk
  subst ey
  obtain ⟨hz,hd,vs,rel,dd⟩:=dk_of I3.hok ed3
  have hln:=rel.length
  refine call_meetsIn PySem.F.slot_dict_setdefault dd.typeIs PySem.F.entry_dict_setdefault (PySem.F.args_dict_setdefault_3 _ _ _) (kt_meets_setdefault (mixKind X.prog X.w) a (kV_is ry) hd fv) ⟨vs,dd,by omega,fun v hv=>?_,fun hn h' dd' hs=>?_⟩
  · have rv:=rel.val k
    rw [hv] at rv
    cases hval:valV kvs2 k with
    | none=>rw [hval] at rv; exact absurd rv (by simp [RelO])
    | some w0=>
      rw [hval] at rv
      exact ⟨w0,H3,I3.tok _,rv,h1 w0 hval⟩
  · have hval:valV kvs2 k=none:=by
      have rv:=rel.val k
      rw [hn] at rv
      cases hval:valV kvs2 k with
      | none=>rfl
      | some w0=>rw [hval] at rv; exact absurd rv (by simp [RelO])
    have hex:∃ q,h'.get? a=some q:=let ⟨q,_,_,hq,_⟩:=dd'; ⟨q,hq⟩
    have hpl:=length_putK kvs2 k z
    exact ⟨z,_,d_write I3 (by rw [ed3]; exact True.intro) hs hex (dk_new (by omega) hd (rel.put k rz) dd'),rz,h2 hval⟩
end
section
variable {X:Cx}
def rSortD:List V→Hp→VK→Prop:=fun xs H Q=>∃ (d:Addr) (kvs:List (Key × V)) (ns:List Int),xs=[.ref d]∧H d=some (.dK kvs)∧kvs.map (·.1)=ns.map Sum.inl∧ns.length<64∧∀ ms:List Int,ms.Perm ns→ms.Pairwise (·≤·)→∀ l,H l=none→Q (.ref l) (upd H l (.lst (ms.map V.int)))
theorem call_sortD (hc:X.calm=true):CallR X (.builtin "sorted") rSortD:=by
  intro pins s σ H xs us Q I r h
  obtain ⟨d,kvs,ns,rfl,ed,hk,h64,q⟩:=h
  obtain ⟨u,rfl,rx⟩:=vals1 r
  cases rx
  obtain ⟨hz,hS,vs,rel,dd⟩:=dk_of I.hok ed
  obtain ⟨ep,hat⟩:=dd.dictAt
  have hlen:vs.length=ns.length:=by rw [← rel.length,← List.length_map (f:=(·.1)) (as:=kvs),hk,List.length_map]
  refine Calls.call_function_entry kind_sorted plain_sorted entry_sorted (args_sorted1 _) ?_
  unfold Builtin.«sorted»
  refine wpAny_bind (m:=checkCount "sorted" 1 1 _) (wpAny_pure ?_)
  refine wpAny_bind (PySem.W.kdu_collect (A:=X.A.in1) (PySem.W.kdl_dict (knd:=mixKind X.prog X.w) (kvs:=vs) (ep:=ep) hS) (I.ok.hd hc) hat (by rw [← rel.length]; exact hz) fun h' tk acc hk' hacc=>?_)
  have hvals:=keys_vals rel (us:=acc.toList) (by rw [Array.length_toList]; exact hacc.1) fun j v e=>hacc.2 j v (by rw [← Array.getElem?_toList]; exact e)
  have hkm:(kvs.map fun q=>kV q.1)=ns.map V.int:=by
    have:(kvs.map (·.1)).map kV=(ns.map Sum.inl).map kV:=by rw [hk]
    rw [List.map_map,List.map_map] at this
    exact this
  rw [hkm] at hvals
  have hla:acc.toList.length=ns.length:=by rw [← hvals.length,List.length_map]
  refine wpAny_bind (wpAny_newList ?_ (by rw [hla,sizeLine_eq]; omega))
  have ho:(h'.push (seqObj "list" acc.toList.toArray 0)).get? h'.objs.size=some (seqObj "list" acc.toList.toArray 0):=Heap.get?_push_size _ rfl
  refine wpAny_bind (wpAny_holding (wpAny_call_entry slot_list_sort (s:={ s with heap:=h'.push (seqObj "list" acc.toList.toArray 0),toks:=tk }) ⟨_,ho,rfl⟩ entry_list_sort (list_sort_tree ho (ints_vals hvals) (by omega) fun out ns' a1 a2 a3=>⟨_,rfl,?_⟩) (args_list_sort _)))
  refine wpAny_pure ⟨_,rfl,?_⟩
  obtain ⟨n,hn⟩:=sortedHeap_at (out:=out) ho
  have I':Inv X pins σ H { s with heap:=h',toks:=tk }:=I.kept hk'
  refine sort_fin (s:={ s with heap:=h',toks:=tk }) I' (fun b o e'=>?_) (Nat.le_refl _) hn a1 (by rw [a2.length_eq]; omega) (q ns' a2 a3)
  have hlt:=Heap.lt_size e'
  rw [sortedHeap_old (Nat.ne_of_lt hlt) (by rw [size_push']; exact Nat.lt_succ_of_lt hlt)]
  exact Heap.get?_push_of_some _ e'
end
section
variable {prog:Program} {w:World} {A:Around} {E:Value→Shared→Prop} {s:Shared}
theorem minLoopT {I S:Addr} {fp wr:List Addr} {n:Nat} {Pn:Nat→Value→Prop} {St:Nat→Heap→Prop} {R:Result→Shared→Prop} {bt:Nat→Nat→Bool} {T:Heap→Prop} (W:Walks prog w A.in1 I fp wr n Pn St)
    (cmp:∀ i j vi vj (s:Shared) (Q E:Value→Shared→Prop),T s.heap→Pn i vi→Pn j vj→Q (.bool (bt i j)) s→wpAny (model prog w) A.in1 (richCompare .Lt vi vj) Q E s) (hSf:S ∉ fp) (kT:∀ h h':Heap,T h→(∀ b o,b ∉ wr→b≠S→h.get? b=some o→h'.get? b=some o)→T h') :
    ∀ (k j:Nat) (s:Shared) (vb:Value) (c:Nat),n - (j+1)=k→j+1≤n→St (j+1) s.heap→T s.heap→Pn (argBest bt j) vb→s.heap.get? S=some { cls:=.type "list", dict:=none,data:=.seq #[vb,vb] c,slots:=#[] } →
      (∀ v h' tk,Pn (argBest bt (n - 1)) v→(∀ b o,b ∉ wr→b≠S→s.heap.get? b=some o→h'.get? b=some o)→R (.ok (.ret v)) { s with heap:=h',toks:=tk })→codeAny (model prog w) A (.builtin "min.loop" ⟨[.ref I,.none,.ref S],[]⟩) R s:=by
  have nw:S ∉ wr:=fun z=>hSf (W.sub S z)
  have nm:(toString "min"++toString ".loop":String)="min.loop":=by decide
  intro k; induction k with
  | zero=>
    intro j s vb c ek hj hst hT hPb hS hR
    have en:j+1=n:=by omega
    refine codeAny_builtin F.entry_min_loop ?_; rw [Around.under_plainId F.plain_min_loop _]
    show wpAny _ A.in1 (seqItems? (.ref S) >>= fun a=>_) _ _ s
    refine wpAny_bind (wpAny_seqItems hS rfl ?_); show wpAny _ A.in1 (tryCatch (pyNext (.ref I)) _ >>= fun a=>_) _ _ s
    refine wpAny_bind (wpAny_tryCatch (W.done s _ _ (en ▸ hst) fun h2 tk kk=>?_))
    have hS2:=kk S _ nw hS
    show wpAny _ A.in1 (updateSeq S (fun _=>#[]) >>= fun a=>_) _ _ _
    refine wpAny_bind (wpAny_updateSeq hS2 rfl (wpAny_bind (wpAny_letGo (wpAny_pure ?_))))
    exact hR vb _ tk (by rw [← en]; exact hPb) fun b o h1 h2 q=>(Heap.get?_update_other _ _ (Ne.symm h2)).trans (kk b o h1 q)
  | succ k ih=>
    intro j s vb c ek hj hst hT hPb hS hR
    have lt:j+1<n:=by omega
    refine codeAny_builtin F.entry_min_loop ?_; rw [Around.under_plainId F.plain_min_loop _]
    show wpAny _ A.in1 (seqItems? (.ref S) >>= fun a=>_) _ _ s
    refine wpAny_bind (wpAny_seqItems hS rfl ?_); show wpAny _ A.in1 (tryCatch (pyNext (.ref I)) _ >>= fun a=>_) _ _ s
    refine wpAny_bind (wpAny_tryCatch (W.item (j+1) s _ _ lt hst fun v h2 tk hP st2 kk=>?_))
    have hS2:=kk S _ nw hS
    have hT2:T h2:=kT _ _ hT fun b o h1 _ q=>kk b o h1 q
    show wpAny _ A.in1 (tryCatch (holding [v,v] (richCompare .Lt v vb >>= fun a=>_)) _ >>= fun a=>_) _ _ _
    refine wpAny_bind (wpAny_tryCatch (wpAny_holding (wpAny_bind (cmp (j+1) (argBest bt j) v vb _ _ _ hT2 hP hPb ?_))))
    refine wpAny_bind (wpAny_holding (wpAny_truthy_bool ?_)); refine wpAny_bind (wpAny_letGo (wpAny_pure ?_))
    cases hb:bt (j+1) (argBest bt j) with
    | true=>
      simp only [if_true]; refine wpAny_bind (wpAny_updateSeq hS2 rfl (wpAny_bind (wpAny_letGo ?_))); rw [nm]
      have ku:∀ b o,b≠S→h2.get? b=some o→(h2.update S (fun o=>{ o with data:=.seq #[v,v] (c+1) })).get? b=some o:=fun b o hb q=>(Heap.get?_update_other _ _ (Ne.symm hb)).trans q
      refine wpAny_pure ⟨plainId_quiet F.plain_min_loop _,ih (j+1) _ v _ (by omega) lt (W.frame _ _ _ st2 fun b hbf o q=>(Heap.get?_update_other _ _ (fun z:S=b=>hSf (by rw [z]; exact hbf))).trans q) (kT _ _ hT2 fun b o _ hb q=>(Heap.get?_update_other _ _ (Ne.symm hb)).trans q) (by simp only [argBest,hb,if_true]; exact hP) (Heap.get?_update_self _ hS2 rfl) fun v' h3 tk3 hP' kk3=>?_⟩
      exact hR v' h3 tk3 hP' fun b o h1 h2' q=>kk3 b o h1 h2' ((Heap.get?_update_other _ _ (Ne.symm h2')).trans (kk b o h1 q))
    | false=>
      simp only [Bool.false_eq_true,if_false]; refine wpAny_bind (wpAny_letGo ?_); rw [nm]
      refine wpAny_pure ⟨plainId_quiet F.plain_min_loop _,ih (j+1) _ vb c (by omega) lt st2 hT2 (by simp only [argBest,hb,Bool.false_eq_true,if_false]; exact hPb) hS2 fun v' h3 tk3 hP' kk3=>?_⟩
      exact hR v' h3 tk3 hP' fun b o h1 h2' q=>kk3 b o h1 h2' (kk b o h1 q)
theorem min_two_tups {x y:Addr} {its jts:Array Value} {ns ms:List Int} {Q:Value→Shared→Prop} (hh:A.handled=none) (hu:A.units+10<cLine) (hx:IsTup s.heap x its) (hy:IsTup s.heap y jts) (hi:IntsAre its.toList ns) (hj:IntsAre jts.toList ms)
    (h:∀ h' tk,(∀ c o,s.heap.get? c=some o→h'.get? c=some o)→Q (if HT.lexLt ms ns=true then .ref y else .ref x) { s with heap:=h',toks:=tk }) :
    wpAny (model prog w) A (call (.builtin "min") [.ref x,.ref y]) Q E s:=by
  have nm:(toString "min"++toString ".loop":String)="min.loop":=by decide
  have kt:∀ {h1 h2:Heap} {a:Addr} {ts:Array Value},IsTup h1 a ts→(∀ o,h1.get? a=some o→h2.get? a=some o)→IsTup h2 a ts:=fun z k=>by
    obtain ⟨o,e,c,n,d⟩:=z
    exact ⟨o,k o e,c,n,d⟩
  have lx:x<s.heap.objs.size:=by obtain ⟨o,e,_⟩:=hx; exact Heap.lt_size e
  have ly:y<s.heap.objs.size:=by obtain ⟨o,e,_⟩:=hy; exact Heap.lt_size e
  refine (call_function_tree F.kind_min F.plain_min F.entry_min (F.args_min2 (.ref x) (.ref y)) ?_)
  show wpAny _ A.in1 (Builtin.Builtins.bindParams "min" ["key","default"] 0 ⟨[],[]⟩ >>= fun p=>_) _ _ s
  refine wpAny_bind (wpAny_of_eq (rfl:Builtin.Builtins.bindParams "min" ["key","default"] 0 ⟨[],[]⟩=pure [none,none]) ?_)
  show wpAny _ A.in1 (newTuple [.ref x,.ref y] >>= fun p=>_) _ _ s
  refine wpAny_bind (wpAny_newObj_type ?_)
  generalize hh1:s.heap.push { cls:=.type "tuple", data:=.seq #[.ref x,.ref y] }=h1
  have z1:h1.objs.size=s.heap.objs.size+1:=by rw [← hh1]; exact Heap.size_push ..
  have k1:∀ b o,s.heap.get? b=some o→h1.get? b=some o:=fun b o q=>by rw [← hh1]; exact Heap.get?_push_of_some _ q
  have hT:h1.IsTuple s.heap.objs.size #[.ref x,.ref y]:=by rw [← hh1]; exact ⟨_,Heap.get?_push_size _ rfl,rfl,0,rfl⟩
  refine wpAny_bind (wpAny_pyIter_tuple (s:={ s with heap:=h1 }) hT ?_)
  refine wpAny_bind (wpAny_newObj_type ?_)
  rw [nm]
  show wpAny _ A.in1 (again (Code.builtin "min.loop" ⟨[.ref h1.objs.size,.none,.ref (h1.push { cls:=.type "tuple_iterator", data:=.fields #[.ref s.heap.objs.size,.int 0 0] }).objs.size],[]⟩)) _ _ _
  generalize hh2:h1.push { cls:=.type "tuple_iterator", data:=.fields #[.ref s.heap.objs.size,.int 0 0] }=h2
  have z2:h2.objs.size=s.heap.objs.size+2:=by rw [← hh2,Heap.size_push,z1]
  have k2:∀ b o,h1.get? b=some o→h2.get? b=some o:=fun b o q=>by rw [← hh2]; exact Heap.get?_push_of_some _ q
  have hit:h2.IsTupleIter h1.objs.size s.heap.objs.size 0:=by rw [← hh2]; exact ⟨_,Heap.get?_push_size _ rfl,rfl,rfl⟩
  have hT2:h2.IsTuple s.heap.objs.size #[.ref x,.ref y]:=by
    obtain ⟨o,e,c,n,d⟩:=hT
    exact ⟨o,k2 _ _ e,c,n,d⟩
  have W:=Walks.tuple (prog:=prog) (w:=w) (A:=A.in1) hh h1.objs.size s.heap.objs.size (show s.heap.objs.size≠h1.objs.size by rw [z1]; exact Nat.ne_of_lt (Nat.lt_succ_self _)) #[.ref x,.ref y]
  have itm:∀ {i:Nat} {v:Value},(#[Value.ref x,Value.ref y]:Array Value)[i]?=some v→(i=0∧v=.ref x)∨(i=1∧v=.ref y):=fun {i v} e=>by
    match i,e with
    | 0,e=>simp at e; exact .inl ⟨rfl,e.symm⟩
    | 1,e=>simp at e; exact .inr ⟨rfl,e.symm⟩
    | i+2,e=>simp at e
  let val:Nat→List Int:=fun i=>if i=0 then ns else ms
  let T:Heap→Prop:=fun h=>IsTup h x its∧IsTup h y jts
  have cmp:∀ i j vi vj (s:Shared) (Q E:Value→Shared→Prop),T s.heap→(#[Value.ref x,Value.ref y]:Array Value)[i]?=some vi→(#[Value.ref x,Value.ref y]:Array Value)[j]?=some vj→Q (.bool (HT.lexLt (val i) (val j))) s→wpAny (model prog w) A.in1 (richCompare .Lt vi vj) Q E s:=fun i j vi vj s Q E hTs ei ej hq=>by
    have hu2:A.in1.units<cLine:=by show A.units+1<cLine; omega
    rcases itm ei with ⟨rfl,rfl⟩|⟨rfl,rfl⟩ <;> rcases itm ej with ⟨rfl,rfl⟩|⟨rfl,rfl⟩
    · exact HT.lt_tupInts hTs.1 hTs.1 hi hi hu2 hq
    · exact HT.lt_tupInts hTs.1 hTs.2 hi hj hu2 hq
    · exact HT.lt_tupInts hTs.2 hTs.1 hj hi hu2 hq
    · exact HT.lt_tupInts hTs.2 hTs.2 hj hj hu2 hq
  refine wpAny_pure ⟨plainId_quiet F.plain_min_loop _,?_⟩
  have hSf:h2.objs.size ∉ [h1.objs.size,s.heap.objs.size]:=by simp; rw [z1,z2]; constructor <;> omega
  have nw:h2.objs.size ∉ [h1.objs.size]:=by simp; rw [z1,z2]; omega
  refine codeAny_builtin F.entry_min_loop ?_; rw [Around.under_plainId F.plain_min_loop _]
  show wpAny _ A.in1 (seqItems? (.ref h2.objs.size) >>= fun a=>_) _ _ _
  have hS:(h2.push (seqObj "list" #[] 0)).get? h2.objs.size=some { cls:=.type "list", dict:=none,data:=.seq #[] 0,slots:=#[] }:=Heap.get?_push_size _ rfl
  have k3:∀ b o,h2.get? b=some o→(h2.push (seqObj "list" #[] 0)).get? b=some o:=fun b o q=>Heap.get?_push_of_some _ q
  refine wpAny_bind (wpAny_seqItems (s:={ s with heap:=h2.push (seqObj "list" #[] 0) }) hS rfl ?_); show wpAny _ A.in1 (tryCatch (pyNext (.ref h1.objs.size)) _ >>= fun a=>_) _ _ _
  refine wpAny_bind (wpAny_tryCatch (W.item 0 { s with heap:=h2.push (seqObj "list" #[] 0) } _ _ (Nat.zero_lt_succ 1) ⟨hit.at fun o q=>k3 _ _ q,hT2.at fun o q=>k3 _ _ q⟩ fun v h4 tk hP st4 kk=>?_))
  have hS4:=kk h2.objs.size _ nw hS
  show wpAny _ A.in1 (updateSeq h2.objs.size (fun _=>#[v,v]) >>= fun a=>_) _ _ _
  refine wpAny_bind (wpAny_updateSeq hS4 rfl ?_); rw [nm]
  have away1:∀ {b:Addr},b<s.heap.objs.size→b≠h1.objs.size:=fun q=>by rw [z1]; exact Nat.ne_of_lt (Nat.lt_succ_of_lt q)
  have away2:∀ {b:Addr},b<s.heap.objs.size→b≠h2.objs.size:=fun q=>by rw [z2]; exact Nat.ne_of_lt (Nat.lt_of_lt_of_le q (Nat.le_add_right _ 2))
  have c3:∀ b o,s.heap.get? b=some o→b≠h1.objs.size∧b≠h2.objs.size∧(h2.push (seqObj "list" #[] 0)).get? b=some o:=fun b o q=>by
    have:=Heap.lt_size q
    exact ⟨away1 this,away2 this,k3 _ _ (k2 _ _ (k1 _ _ q))⟩
  have hTT:T (h2.push (seqObj "list" #[] 0)):=⟨kt hx fun o q=>(c3 _ _ q).2.2,kt hy fun o q=>(c3 _ _ q).2.2⟩
  have kT:∀ h h':Heap,T h→(∀ b o,b ∉ [h1.objs.size]→b≠h2.objs.size→h.get? b=some o→h'.get? b=some o)→T h':=fun h h' ⟨t1,t2⟩ k=>⟨kt t1 fun o q=>k _ _ (by simp; exact away1 lx) (away2 lx) q,kt t2 fun o q=>k _ _ (by simp; exact away1 ly) (away2 ly) q⟩
  have up:∀ b o,b≠h2.objs.size→h4.get? b=some o→∀ g,(h4.update h2.objs.size g).get? b=some o:=fun b o hb q g=>(Heap.get?_update_other _ _ (Ne.symm hb)).trans q
  refine wpAny_pure ⟨plainId_quiet F.plain_min_loop _,minLoopT (T:=T) (bt:=fun i j=>HT.lexLt (val i) (val j)) W cmp hSf kT 1 0 _ v _ rfl (Nat.le_add_left 1 1) (W.frame _ _ _ st4 fun b hbf o q=>up b o (fun z=>hSf (by rw [← z]; exact hbf)) q _) (kT _ _ (kT _ _ hTT fun b o h1 _ q=>kk b o h1 q) fun b o _ hb q=>up b o hb q _) hP (Heap.get?_update_self _ hS4 rfl) fun v' h5 tk5 hP' kk5=>?_⟩
  have hv:v'=if HT.lexLt ms ns=true then .ref y else .ref x:=by
    have e:argBest (fun i j=>HT.lexLt (val i) (val j)) 1=if HT.lexLt ms ns=true then 1 else 0:=rfl
    have hP2:(#[Value.ref x,Value.ref y]:Array Value)[argBest (fun i j=>HT.lexLt (val i) (val j)) 1]?=some v':=hP'
    rw [e] at hP2
    by_cases hl:HT.lexLt ms ns=true
    · rw [if_pos hl] at hP2 ⊢
      simp at hP2
      exact hP2.symm
    · rw [if_neg hl] at hP2 ⊢
      simp at hP2
      exact hP2.symm
  subst hv
  refine h h5 tk5 fun c o q=>?_
  obtain ⟨n1,n2,q3⟩:=c3 c o q
  exact kk5 c o (by simp; exact n1) n2 (up c o n2 (kk c o (by simp; exact n1) q3) _)
end
section
variable {X:Cx}
def rMinT:List V→Hp→VK→Prop:=fun xs H Q=>∃ (a b:Addr) (ns ms:List Int),xs=[.ref a,.ref b]∧H a=some (.tup (ns.map V.int))∧H b=some (.tup (ms.map V.int))∧Q (if HT.lexLt ms ns=true then .ref b else .ref a) H
theorem call_minT (hc:X.calm=true) (hu:X.A.units+64<cLine):CallR X (.builtin "min") rMinT:=by
  intro pins s σ H xs us Q I r h
  obtain ⟨a,b,ns,ms,rfl,ha,hb,q⟩:=h
  obtain ⟨u,v,rfl,rx,ry⟩:=vals2 r
  cases rx
  cases ry
  obtain ⟨its,r1,p1,z1⟩:=I.tuple (SqT.of (K:=X.K) ha)
  obtain ⟨jts,r2,p2,z2⟩:=I.tuple (SqT.of (K:=X.K) hb)
  refine min_two_tups (I.ok.hd hc) (by omega) p1 p2 (by simpa using intsAre_of r1) (by simpa using intsAre_of r2) fun h' tk k=>?_
  refine ⟨if HT.lexLt ms ns=true then .ref b else .ref a,H,I.kept k,?_,q⟩
  split <;> rfl
end
end L2
namespace L2
open PySem
def noStar:Expr→Bool
  | .Starred ..=>false
  | _=>true
theorem star_cons {e:Expr} {es:List Expr} {env:Env} (h:noStar e=true):starEach (e::es) env=(false,eval e env)::starEach es env:=by
  cases e <;> first|rfl|cases h
section
variable {X:Cx} {e:Expr} {es:List Expr} {te:TE} {t:TA}
theorem pa_cX (ha:PE X e te) (hr:PA X es t) (h:noStar e=true:=by rfl):PA X (e::es) (tCons te t):=pa_cons ha hr (star_cons h)
end
structure WSs (X:Cx) (sts:List Stmt) (t:TS):Prop where
  h:PSs X sts t
structure WS (X:Cx) (st:Stmt) (t:TS):Prop where
  h:PS X st t
section
variable {X:Cx} {st:Stmt} {rest:List Stmt} {t u:TS}
end
end L2
namespace L2
open PySem PySem.Spec PyProof.Rows
theorem bt_set:bootBuiltins "set"=some (.type "set"):=by decide +kernel
def SetO (a:Addr) (n:Nat):HO:=.ext fun h=>∃ o es ep t,h.get? a=some o∧o.ExactSet∧o.data=.set es ep t∧t.fits es.size=true∧es.size=n
theorem setO_ok {P:Program} {w:World} {H:Hp} {h:Heap} {a:Addr} {n:Nat} {o:Obj} {es:Array (Int × Value)} {ep:Nat} {t:SetTable} (e:h.get? a=some o) (x:o.ExactSet) (d:o.data=.set es ep t) (f:t.fits es.size=true) (z:es.size=n):ObjOk P w H h a (SetO a n):=
  ⟨⟨o,es,ep,t,e,x,d,f,z⟩,⟨o,e⟩,fun h1 h2 ⟨o,es,ep,t,e,x,d,f,z⟩ k=>⟨o,es,ep,t,k o e,x,d,f,z⟩⟩
def fm (ns:List Int):List Int:=ns.foldl step_dedup []
theorem fm_met (ns:List Int):firstMet (fun i=>ns.getD i 0) ns.length=fm ns:=by
  unfold firstMet fm
  congr 1
  apply List.ext_getElem
  · simp
  · intro i h1 h2
    simp [List.getElem?_eq_getElem h2]
theorem fold_nd:∀ (ns acc:List Int),(acc++ns).Nodup→ns.foldl step_dedup acc=acc++ns
  | [],acc,_=>by simp
  | x::r,acc,h=>by
    have hx:acc.any (· == x)=false:=by
      rw [Bool.eq_false_iff]
      intro z
      obtain ⟨y,hy,e⟩:=List.any_eq_true.mp z
      have e:=eq_of_beq e
      subst e
      rw [List.nodup_append] at h
      exact h.2.2 y hy y (.head _) rfl
    rw [List.foldl_cons]
    unfold step_dedup
    rw [hx]
    simp only [Bool.false_eq_true,if_false]
    have e:acc++x::r=(acc++[x])++r:=by simp
    rw [e] at h ⊢
    exact fold_nd r (acc++[x]) h
theorem fm_nd {ns:List Int} (h:ns.Nodup):fm ns=ns:=(fold_nd ns [] (by simpa using h)).trans (by simp)
def rSet:List V→Hp→VK→Prop:=fun xs H Q=>∃ (p:Addr) (ns:List Int),xs=[.ref p]∧H p=some (.lst (ns.map V.int))∧ns.length≤1000∧∀ l,H l=none→Q (.ref l) (upd H l (SetO l (fm ns).length))
section
variable {X:Cx}
theorem call_setX (hc:X.calm=true):CallR X (.type "set") rSet:=by
  intro pins s σ H xs us Q I r h
  obtain ⟨p,ns,rfl,hp,hl,q⟩:=h
  obtain ⟨u,rfl,rx⟩:=vals1 r
  cases rx
  obtain ⟨its,rv,pl,hz⟩:=I.list (SqL.of hp)
  have hi:=intsAre_of rv
  have hlen:its.length=ns.length:=hi.length
  refine PySem.call_set_list (items:=its.toArray) (ns:=ns) (I.ok.hd hc) pl.isList (by simpa using hi) (by rw [List.size_toArray]; unfold scanBound; omega) fun h' tk hS hk=>?_
  rw [show its.toArray.size=ns.length by rw [List.size_toArray,hlen],fm_met] at hS
  obtain ⟨o,es,ep,t,ho,hex,hd,hel,hmem,hlt,hf,hn⟩:=hS
  exact ⟨.ref s.heap.objs.size,_,I.laid (t':=tk) (fun b u e=>hk b u (Heap.lt_size e) e) (Nat.le_refl _) (setO_ok ho hex hd hf hn),rfl,q _ (I.hok.fresh (Nat.le_refl _))⟩
def rLenS:List V→Hp→VK→Prop:=fun xs H Q=>∃ (p:Addr) (n:Nat),xs=[.ref p]∧H p=some (SetO p n)∧n≤100000∧Q (.int n) H
theorem call_lenS:CallR X (.builtin "len") rLenS:=by
  intro pins s σ H xs us Q I r h
  obtain ⟨p,n,rfl,hp,hl,q⟩:=h
  obtain ⟨u,rfl,rx⟩:=vals1 r
  cases rx
  obtain ⟨⟨o,es,ep,t,e,x,d,f,z⟩,_⟩:=I.hok p _ hp
  subst z
  exact call_len_set e x d f (by omega) ⟨.int es.size,H,I.tok _,⟨_,rfl⟩,q⟩
end
end L2
namespace L2
open PySem PySem.Spec PyProof.Rows PySem.W
def FnO (f:Addr) (fd:FuncData):HO:=.ext fun h=>∃ o,h.get? f=some o∧o.data=.func fd
def CodeO (c:Addr) (qual:Str):HO:=.ext fun h=>h.CodeRec (.ref c) qual
def CellO (c:Addr) (v:V):HO:=.ext fun h=>∃ u,RelV v u∧h.IsCell c (some u)
section
variable {P:Program} {w:World} {H H':Hp} {h h':Heap} {f c:Addr} {fd:FuncData} {qual:Str} {v:V}
theorem fnO_ok {o:Obj} (e:h.get? f=some o) (d:o.data=.func fd):ObjOk P w H h f (FnO f fd):=⟨⟨o,e,d⟩,⟨o,e⟩,fun h1 h2 ⟨o,e,d⟩ k=>⟨o,k o e,d⟩⟩
theorem codeO_ok (e:h.CodeRec (.ref c) qual):ObjOk P w H h c (CodeO c qual):=by
  refine ⟨e,?_,fun h1 h2 x k=>?_⟩
  · obtain ⟨c',o,vs,t,e1,e2,_⟩:=e
    cases e1
    exact ⟨o,e2⟩
  · obtain ⟨c',o,vs,t,e1,e2,r⟩:=x
    cases e1
    exact ⟨c,o,vs,t,rfl,k o e2,r⟩
theorem cellO_ok {u:Value} (r:RelV v u) (e:h.IsCell c (some u)):ObjOk P w H h c (CellO c v):=by
  refine ⟨⟨u,r,e⟩,?_,fun h1 h2 x k=>?_⟩
  · obtain ⟨o,e1,_⟩:=e
    exact ⟨o,e1⟩
  · obtain ⟨u,r,o,e1,e2⟩:=x
    exact ⟨u,r,o,k o e1,e2⟩
end
def IsFn (H:Hp) (f:Addr):Prop:=∃ fd,H f=some (FnO f fd)
def Runs (P:Program) (w:World) (K:PySem.W.Frag) (mg:Str→Option Value) (base:Heap) (k:Nat) (f:Addr) (vs:List V) (H:Hp) (Q:VK):Prop:=
  ∀ (A:Around) (outer:List Env) (s:Shared) (us:List Value),Room k A→Env0 P w K mg base A outer s H→Vals vs us→codeAny (model P w) A (.call (.ref f) ⟨us,[]⟩) (CR CX0 outer P w H s Q E0) s
def tClo (P:Program) (w:World) (K:PySem.W.Frag) (mg:Str→Option Value) (base:Heap) (k:Nat) (tf:TE) (t:TA):TE:=fun σ H Q=>tf σ H fun v H0=>∃ f,v=.ref f∧IsFn H0 f∧t σ H0 fun vs H1=>IsFn H1 f∧Runs P w K mg base k f vs H1 Q
section
variable {X:Cx} {k:Nat}
theorem IsFn.at {pins:List (Addr × Obj)} {σ:St} {H:Hp} {s:Shared} {f:Addr} (I:Inv X pins σ H s) (h:IsFn H f):FnAt f s.heap:=by
  obtain ⟨fd,e⟩:=h
  obtain ⟨⟨o,e1,d⟩,_⟩:=I.hok f _ e
  obtain ⟨oc,od,dd,sl⟩:=o
  cases d
  exact ⟨_,_,_,_,e1⟩
theorem pe_clo {P:Program} {w:World} {K:PySem.W.Frag} {mg:Str→Option Value} {base:Heap} {x:Str} {p pos:Pos} {e:Expr} {es:List Expr} {tf:TE} {t:TA} (hf:PE X (.Name x p) tf) (hr:Room k X.A) (ha:PA X (e::es) t)
    (h1:X.prog=P:=by rfl) (h2:X.w=w:=by rfl) (h3:X.K=K:=by rfl) (h4:X.mg=mg:=by rfl) (h5:X.base=base:=by rfl)
    (he:starEach (e::es) X.env=(false,eval e X.env)::starEach es X.env:=by rfl) (hpl:(backTo pos (starEach es X.env)).any (·.1)=false:=by rfl) :
    PE X (.Call (.Name x p) (e::es) [] pos) (tClo P w K mg base k tf t):=by
  subst h1 h2 h3 h4 h5
  intro pins s σ H Q I h
  refine wpAny_Call_Name_kw (thn (hf pins s σ H _ I h) fun u s1 ⟨v,H1,I1,rv,f,ev,hfn,q⟩=>?_)
  subst ev
  obtain rfl:u=Value.ref f:=rv
  refine callWith_F (hfn.at I1) (thn (ha pos pins s1 σ H1 _ I1 q) fun us s2 ⟨vs,H2,I2,r2,hfn2,q2⟩=>⟨hfn2.at I2,?_⟩) he hpl
  refine wpAny_call (codeAny_mono (q2 X.A X.stack s2 us hr I2.env0 r2) fun r s' hq=>?_)
  cases r with
  | error e=>exact pass0 pins σ H2 s2 e s' I2 hq
  | ok fl=>
    cases fl with
    | ret u=>exact I2.after hq
    | next=>exact False.elim hq
    | brk=>exact False.elim hq
    | cont=>exact False.elim hq
end
theorem lookup_nd {β:Type} {x:Str} {u:β}:∀ {l:List (Str × β)},(l.map (·.1)).Nodup→(x,u)∈l→l.lookup x=some u
  | p::r,nd,h=>by
    rw [mZ1,List.nodup_cons] at nd
    obtain ⟨y,v⟩:=p
    rw [List.lookup_cons]
    rcases List.mem_cons.mp h with e|h
    · cases e
      rw [beq_self_eq_true]
    · have hn:x≠y:=fun z=>nd.1 (List.mem_map.mpr ⟨(x,u),h,z⟩)
      rw [beq_eq_false_iff_ne.mpr hn]
      exact lookup_nd nd.2 h
structure CloScope (N ps fr:List Str) (sc:Scope):Prop where
  kind:sc.kind=.function
  co:sc.isCoroutine=false
  gen:sc.isGenerator=false
  nd:N.Nodup
  pre:N.take ps.length=ps
  post:N.drop (N.length - fr.length)=fr
  room:ps.length+fr.length≤N.length
  par:∀ x∈ps,sc.names.lookup x=some .local
  nocell:∀ y∈sc.names,y.2≠.cell
  free:∀ y∈sc.names,y.2=.free→y.1∈fr
  frk:∀ x∈fr,sc.names.lookup x=some .free
def startC (N:List Str) (vs ws:List V):St:=vs.map some++List.replicate (N.length - vs.length - ws.length) none++ws.map some
def er (cs:List Addr) (H:Hp):Hp:=fun b=>if b∈cs then none else H b
def rs (cs:List Addr) (H H':Hp):Hp:=fun b=>if b∈cs then H b else H' b
def cxX (CX:CXT) (P:Program) (w:World) (K:PySem.W.Frag) (mg:Str→Option Value) (base:Heap) (N:List Str) (qual:Str) (scope:Scope) (f:Addr) (cd:Value) (cl:List (Str × Addr)) (A:Around) (outer:List Env) (s:Shared) (H:Hp) (E:XK):Cx where
  prog:=P
  w:=w
  K:=K
  mg:=mg
  base:=base
  A:=A.deeper (envX qual scope s.heap.objs.size f cd cl)
  N:=N
  s₀:=s
  H₀:=H
  env:=envX qual scope s.heap.objs.size f cd cl
  outer:=outer
  stack:=envX qual scope s.heap.objs.size f cd cl::outer
  ex:=[]
  calm:=true
  fn:=fun _=>false
  pn:=[]
  xe:=fun e s'=>wpAny (model P w) (A.deeper (envX qual scope s.heap.objs.size f cd cl)) (leaving (envX qual scope s.heap.objs.size f cd cl) e) (fun _ s''=>CX outer H s E e s'') (fun e' s''=>CX outer H s E e' s'') s'
section
variable {P:Program} {w:World} {H H':Hp} {h h':Heap} {cs:List Addr} {b:Addr}
theorem er_in (hb:b∈cs):er cs H b=none:=if_pos hb
theorem er_out (hb:b ∉ cs):er cs H b=H b:=if_neg hb
theorem rs_in (hb:b∈cs):rs cs H H' b=H b:=if_pos hb
theorem rs_out (hb:b ∉ cs):rs cs H H' b=H' b:=if_neg hb
theorem er_some {o:HO} (e:er cs H b=some o):b ∉ cs∧H b=some o:=by
  by_cases hb:b∈cs
  · rw [er_in hb] at e; cases e
  · rw [er_out hb] at e; exact ⟨hb,e⟩
theorem er_none (e:H b=none):er cs H b=none:=by
  by_cases hb:b∈cs
  · exact er_in hb
  · rw [er_out hb]; exact e
theorem rs_er:rs cs H (er cs H)=H:=by
  funext b
  by_cases hb:b∈cs
  · rw [rs_in hb]
  · rw [rs_out hb,er_out hb]
def AreCells (H:Hp) (cs:List Addr):Prop:=∀ c∈cs,∃ v,H c=some (CellO c v)
theorem AreCells.not {o:HO} (hc:AreCells H cs) (e:H b=some o) (hn:∀ φ,o≠.ext φ):b ∉ cs:=fun z=>by
  obtain ⟨v,e2⟩:=hc b z
  rw [e] at e2
  exact hn _ (Option.some.inj e2)
theorem HOk.er (x:HOk P w H h) (hc:AreCells H cs):HOk P w (er cs H) h:=fun a o e=>by
  obtain ⟨ha,e'⟩:=er_some e
  refine (x a o e').stay (fun _ _ _ q=>q) (fun b q=>?_) fun b xs q=>?_
  · rw [er_out (hc.not q (fun φ z=>by cases z))]; exact q
  · rw [er_out (hc.not q (fun φ z=>by cases z))]; exact q
end
section
variable {P:Program} {w:World} {K:PySem.W.Frag} {mg:Str→Option Value} {base:Heap} {f c':Addr} {qual:Str} {scope:Scope} {cl:List (Str × Addr)} {N ps fr:List Str} {vs ws:List V} {H:Hp} {A:Around} {outer:List Env} {s:Shared} {us:List Value}
theorem inv_clo {h₁:Heap} {tk:Nat} (hd:A.handled=none) (e0:Env0 P w K mg base A outer s H) (r:Vals vs us) (S:CloScope N ps fr scope) (hcs:AreCells H (cl.map (·.2)))
    (hfr:Paired (fun x v=>∃ c,cl.lookup x=some c∧H c=some (CellO c v)) fr ws) (inj:∀ x y c,cl.lookup x=some c→cl.lookup y=some c→x=y) (len:vs.length=ps.length)
    (hns:h₁.Ns s.heap.objs.size (fun x=>(ps.zip us).reverse.lookup x)) (hk₁:∀ b o,s.heap.get? b=some o→h₁.get? b=some o) :
    Inv (cxX CX0 P w K mg base N qual scope f (.ref c') cl A outer s (er (cl.map (·.2)) H) E0) [] (startC N vs ws) (er (cl.map (·.2)) H) { s with heap:=h₁,toks:=tk }:=by
  have hul:us.length=ps.length:=by rw [← r.length]; exact len
  have hwl:fr.length=ws.length:=hfr.length
  have noA:∀ b:Addr,b ∉ (cxX CX0 P w K mg base N qual scope f (.ref c') cl A outer s (er (cl.map (·.2)) H) E0).ex:=fun b z=>absurd (show b∈([]:List Addr) from z) (by simp)
  have memC:∀ {x c},cl.lookup x=some c→c∈cl.map (·.2):=fun {x c} e=>List.mem_map.mpr ⟨(x,c),PySem.mem_of_lookup e,rfl⟩
  have cellOf:∀ c∈cl.map (·.2),∃ u,s.heap.IsCell c (some u)∧H c≠none:=fun c hc=>by
    obtain ⟨v,e⟩:=hcs c hc
    obtain ⟨⟨u,_,q⟩,_⟩:=e0.hok c _ e
    exact ⟨u,q,by rw [e]; simp⟩
  have ndP:ps.Nodup:=by rw [← S.pre]; exact S.nd.sublist (List.take_sublist _ _)
  refine ⟨⟨e0.mod,S.kind,rfl,rfl,Nat.le_refl _,fun y z c h1 h2=>inj y z c h1 h2,fun y hy=>?_,fun y c h _=>absurd h Bool.false_ne_true,fun _=>hd,Around.frames_deeper e0.frames,.inr ⟨rfl,rfl⟩,fun b z=>absurd z (noA b),fun b o e=>⟨(e0.bs b o e).1,er_none (e0.bs b o e).2⟩,e0.bsz,fun b _ _=>noA b,fun b z=>absurd z (noA b),e0.funs,fun b hb=>er_none (e0.frf b hb)⟩,
    rfl,e0.bare,Un.kept hk₁,⟨_,hns,fun i y v h1 h2 h3=>?_⟩,fun y c h=>?_,er_none (e0.hok.fresh (Nat.le_refl _)),fun y c h=>er_in (memC h),fun p hp=>absurd (show p∈([]:List (Addr × Obj)) from hp) (by simp),(e0.hok.er hcs).kept hk₁,?_⟩
  · have hy:scope.names.lookup y=some .cell∨scope.names.lookup y=some .free:=hy
    rcases hy with hy|hy
    · exact absurd rfl (S.nocell _ (PySem.mem_of_lookup hy))
    · have hm:=S.free _ (PySem.mem_of_lookup hy) rfl
      obtain ⟨i,hi,e⟩:=List.mem_iff_getElem.mp hm
      obtain ⟨v,_,c,hc,_⟩:=paired_get hfr (List.getElem?_eq_some_iff.mpr ⟨hi,e⟩)
      exact ⟨c,hc⟩
  · have h1:N[i]?=some y:=h1
    have h3:Vis scope y:=h3
    unfold startC at h2
    by_cases hi:i<vs.length
    · rw [List.append_assoc,List.getElem?_append_left (by simpa using hi),List.getElem?_map] at h2
      cases e:vs[i]? with
      | none=>rw [e] at h2; cases h2
      | some a=>
        rw [e] at h2
        cases h2
        obtain ⟨u,hu,rv⟩:=r.get e
        have hp:ps[i]?=some y:=by rw [← S.pre,List.getElem?_take_of_lt (by omega)]; exact h1
        refine ⟨u,rv,.inl ⟨S.par y (List.mem_of_getElem? hp),?_⟩⟩
        show List.lookup y (ps.zip us).reverse=some u
        refine lookup_nd ?_ ?_
        · rw [List.map_reverse,List.map_fst_zip (by omega)]
          exact List.pairwise_reverse.mpr (ndP.imp fun h z=>h z.symm)
        · rw [List.mem_reverse]
          refine List.mem_of_getElem? (i:=i) ?_
          rw [List.getElem?_zip_eq_some]
          exact ⟨hp,hu⟩
    · by_cases hj:i<N.length - ws.length
      · rw [List.append_assoc,List.getElem?_append_right (by simpa using hi),List.getElem?_append_left (by rw [List.length_replicate,List.length_map]; have:=S.room; omega),List.getElem?_replicate] at h2
        split at h2 <;> cases h2
      · rw [List.getElem?_append_right (by rw [List.length_append,List.length_map,List.length_replicate]; have:=S.room; omega),List.getElem?_map] at h2
        rw [show i - (vs.map some++List.replicate (N.length - vs.length - ws.length) (none:Option V)).length=i - (N.length - ws.length) by rw [List.length_append,List.length_map,List.length_replicate]; have:=S.room; omega] at h2
        cases e:ws[i - (N.length - ws.length)]? with
        | none=>rw [e] at h2; cases h2
        | some a=>
          rw [e] at h2
          cases h2
          have hy:fr[i - (N.length - ws.length)]?=some y:=by
            rw [← S.post,List.getElem?_drop,← h1]
            congr 1
            omega
          obtain ⟨v',hv',c,hc,eH⟩:=paired_get hfr hy
          rw [e] at hv'
          cases hv'
          obtain ⟨⟨u,rv,o,ho,hod⟩,_⟩:=e0.hok c _ eH
          exact ⟨u,rv,.inr ⟨.inr (S.frk y (List.mem_of_getElem? hy)),c,hc,o,hk₁ _ _ ho,hod⟩⟩
  · obtain ⟨u,⟨o,e,d⟩,_⟩:=cellOf c (memC h)
    exact ⟨_,o,hk₁ _ _ e,d⟩
  · unfold startC
    show _=N.length
    rw [List.length_append,List.length_append,List.length_map,List.length_replicate,List.length_map]
    have:=S.room
    omega
theorem ce_clo {s':Shared} {σ':St} {H':Hp} {v:V} {u:Value} {Q:VK} (e0:Env0 P w K mg base A outer s H) (hcs:AreCells H (cl.map (·.2))) (J:Inv (cxX CX0 P w K mg base N qual scope f (.ref c') cl A outer s (er (cl.map (·.2)) H) E0) [] σ' H' s') (rv:RelV v u)
    (q:Q v (rs (cl.map (·.2)) H H')):CE outer P w H s Q u s':=by
  have cellOf:∀ c∈cl.map (·.2),∃ u,s.heap.IsCell c (some u)∧H c≠none:=fun c hc=>by
    obtain ⟨v,e⟩:=hcs c hc
    obtain ⟨⟨u,_,q⟩,_⟩:=e0.hok c _ e
    exact ⟨u,q,by rw [e]; simp⟩
  have un:Un (frs outer) [] (er (cl.map (·.2)) H) H' s.heap s'.heap:=J.base
  have cN:∀ c∈cl.map (·.2),H' c=none:=fun c hc=>by
    obtain ⟨u,⟨o,e,_⟩,_⟩:=cellOf c hc
    exact un.free c o e (er_in hc) (by simp)
  have cK:∀ c∈cl.map (·.2),∀ o,s.heap.get? c=some o→s'.heap.get? c=some o:=fun c hc o e=>by
    obtain ⟨u,_,hne⟩:=cellOf c hc
    exact un.keep c o e (er_in hc) (fun z=>hne (e0.frf c z)) (by simp)
  have out:∀ {b:Addr} {o:HO},H b=some o→(∀ φ,o≠.ext φ)→b ∉ cl.map (·.2):=fun e n=>hcs.not e n
  refine ⟨v,rs (cl.map (·.2)) H H',J.os,J.bare,⟨fun b o e n hb hx=>un.keep b o e (er_none n) hb hx,fun b o e n hb hx=>un.slot b o e (er_none n) hb hx,fun b o e n hx=>?_,un.there,fun b xs e=>?_,fun b o u e=>?_,fun b ps e=>?_⟩,fun b o e=>?_,rv,q⟩
  · by_cases hb:b∈cl.map (·.2)
    · rw [rs_in hb]; exact n
    · rw [rs_out hb]; exact un.free b o e (er_none n) hx
  · have hb:=out e (fun φ z=>by cases z)
    rw [rs_out hb]
    exact un.tups b xs (by rw [er_out hb]; exact e)
  · have hb:=out e (fun φ z=>by cases z)
    rw [rs_out hb]
    exact un.frzs b o u (by rw [er_out hb]; exact e)
  · have hb:=out e (fun φ z=>by cases z)
    rw [rs_out hb]
    exact un.tbls b ps (by rw [er_out hb]; exact e)
  · have keepO:∀ {c:Addr} {x:HO},H' c=some x→rs (cl.map (·.2)) H H' c=some x:=fun {c x} e=>by
      by_cases hb:c∈cl.map (·.2)
      · rw [cN c hb] at e; cases e
      · rw [rs_out hb]; exact e
    by_cases hb:b∈cl.map (·.2)
    · rw [rs_in hb] at e
      obtain ⟨v,ev⟩:=hcs b hb
      rw [e] at ev
      cases ev
      have:=e0.hok b _ e
      obtain ⟨⟨u,ru,o,eo,d⟩,_⟩:=this
      exact cellO_ok ru ⟨o,cK b hb o eo,d⟩
    · rw [rs_out hb] at e
      exact (J.hok b o e).stay (fun _ _ _ q=>q) (fun c q=>keepO q) fun c xs q=>keepO q
end
theorem clo_runs {P:Program} {w:World} {K:PySem.W.Frag} {mg:Str→Option Value} {base:Heap} {k:Nat} {f c':Addr} {name qual:Str} {params:Arguments} {body:List Stmt} {scope:Scope} {cl:List (Str × Addr)} {doc pm ctv:Value} {N ps fr:List Str} {vs ws:List V} {H:Hp} {Q:VK}
    (hf:H f=some (FnO f (fnX name qual params body scope cl .none .none doc pm none (.ref c') ctv))) (hc:H c'=some (CodeO c' qual)) (S:CloScope N ps fr scope)
    (hcs:AreCells H (cl.map (·.2))) (hfr:Paired (fun x v=>∃ c,cl.lookup x=some c∧H c=some (CellO c v)) fr ws) (inj:∀ x y c,cl.lookup x=some c→cl.lookup y=some c→x=y)
    (hbind:∀ us:List Value,us.length=ps.length→bindArgs (fnX name qual params body scope cl .none .none doc pm none (.ref c') ctv) ⟨us,[]⟩=pure (ps.zip us)) (len:vs.length=ps.length)
    (hbody:∀ (A:Around) (outer:List Env) (s:Shared),Room k (A.deeper (envX qual scope s.heap.objs.size f (.ref c') cl)) →
      ∃ t,PSs (cxX CX0 P w K mg base N qual scope f (.ref c') cl A outer s (er (cl.map (·.2)) H) E0).nox body t∧t { nx:=fun _ H'=>Q .non (rs (cl.map (·.2)) H H'),rt:=fun v H'=>Q v (rs (cl.map (·.2)) H H') } (startC N vs ws) (er (cl.map (·.2)) H)) :
    Runs P w K mg base (k+1) f vs H Q:=by
  intro A outer s us hr e0 r
  have lim:s.heap.NoLimit:=e0.mod.nolimit.keeps fun b o e=>(e0.bs b o e).1
  obtain ⟨⟨o,ho,hd⟩,_⟩:=e0.hok f _ hf
  have hcd:s.heap.CodeRec (.ref c') qual:=(e0.hok c' _ hc).1
  have hul:us.length=ps.length:=by rw [← r.length]; exact len
  refine codeAny_call_def (fd:=fnX name qual params body scope cl .none .none doc pm none (.ref c') ctv) (body:=body) (binds:=ps.zip us) hr.depth ho hd lim hcd rfl (.of_eq (hbind us hul)) S.nocell (fun y hy=>S.par y.1 (List.of_mem_zip (by exact hy)).1) (fun h₁ hns hk₁=>?_) S.co S.gen S.kind
  show wpAny (model P w) (A.deeper (envX qual scope s.heap.objs.size f (.ref c') cl)) (execs body (envX qual scope s.heap.objs.size f (.ref c') cl)) _ _ _
  obtain ⟨t,ht,hq⟩:=hbody A outer s (hr.deeper _)
  have I:=inv_clo (f:=f) (c':=c') (qual:=qual) (tk:=s.toks+(ps.zip us).length) hr.hd e0 r S hcs hfr inj len hns hk₁
  refine wpAny_mono (ht.nox [] _ (startC N vs ws) _ _ I hq) (fun fl s' hs=>?_) fun e s' hs=>?_
  · cases fl with
    | ret u=>
      obtain ⟨v,σ',H',J,rv,q⟩:=hs
      exact ce_clo e0 hcs J rv q
    | next=>
      obtain ⟨σ',H',J,q⟩:=hs
      exact ce_clo (v:=V.non) (u:=Value.none) e0 hcs J rfl q
    | brk=>
      obtain ⟨_,_,_,q⟩:=hs
      exact False.elim q
    | cont=>
      obtain ⟨_,_,_,q⟩:=hs
      exact False.elim q
  · exact hs
def CloAt (H:Hp) (g qual:Str) (gp:Arguments) (gb:List Stmt) (gsc:Scope) (fr:List Str) (f:Addr) (ws:List V):Prop:=∃ c' doc pm ctv cl,H f=some (FnO f (fnX g qual gp gb gsc cl .none .none doc pm none (.ref c') ctv))∧H c'=some (CodeO c' qual) ∧
  AreCells H (cl.map (·.2))∧Paired (fun x v=>∃ c,cl.lookup x=some c∧H c=some (CellO c v)) fr ws∧∀ x y c,cl.lookup x=some c→cl.lookup y=some c→x=y
section
variable {S:List Addr} {H H':Hp} {g qual:Str} {gp:Arguments} {gb:List Stmt} {gsc:Scope} {fr:List Str} {f:Addr} {ws:List V}
theorem CloAt.keep (h:CloAt H g qual gp gb gsc fr f ws) (k:Keep S H H') (hs:∀ b∈S,∀ φ,H b≠some (.ext φ)):CloAt H' g qual gp gb gsc fr f ws:=by
  obtain ⟨c',doc,pm,ctv,cl,h1,h2,h3,h4,h5⟩:=h
  have kk:∀ b φ,H b=some (.ext φ)→H' b=some (.ext φ):=fun b φ e=>k b _ e fun z=>hs b z φ e
  refine ⟨c',doc,pm,ctv,cl,kk _ _ h1,kk _ _ h2,fun c hc=>?_,Paired.mapP h4 fun x v ⟨c,e1,e2⟩=>⟨c,e1,kk _ _ e2⟩,h5⟩
  obtain ⟨v,e⟩:=h3 c hc
  exact ⟨v,kk _ _ e⟩
theorem CloAt.same (h:CloAt H g qual gp gb gsc fr f ws) (s:Same H H'):CloAt H' g qual gp gb gsc fr f ws:=h.keep (S:=[]) s.keep (fun _ z=>nomatch z)
theorem CloAt.isFn (h:CloAt H g qual gp gb gsc fr f ws):IsFn H f:=by
  obtain ⟨c',doc,pm,ctv,cl,h1,_⟩:=h
  exact ⟨_,h1⟩
theorem CloAt.runs {P:Program} {w:World} {K:PySem.W.Frag} {mg:Str→Option Value} {base:Heap} {k:Nat} {N ps:List Str} {vs:List V} {Q:VK} (h:CloAt H g qual gp gb gsc fr f ws) (S:CloScope N ps fr gsc)
    (hbind:∀ (cl:List (Str × Addr)) (doc pm ctv:Value) (c':Addr) (us:List Value),us.length=ps.length→bindArgs (fnX g qual gp gb gsc cl .none .none doc pm none (.ref c') ctv) ⟨us,[]⟩=pure (ps.zip us)) (len:vs.length=ps.length)
    (hbody:∀ (cs:List Addr) (cl:List (Str × Addr)) (c':Addr) (A:Around) (outer:List Env) (s:Shared),AreCells H cs→Room k (A.deeper (envX qual gsc s.heap.objs.size f (.ref c') cl)) →
      ∃ t,PSs (cxX CX0 P w K mg base N qual gsc f (.ref c') cl A outer s (er cs H) E0).nox gb t∧t { nx:=fun _ H'=>Q .non (rs cs H H'),rt:=fun v H'=>Q v (rs cs H H') } (startC N vs ws) (er cs H)):Runs P w K mg base (k+1) f vs H Q:=by
  obtain ⟨c',doc,pm,ctv,cl,h1,h2,h3,h4,h5⟩:=h
  exact clo_runs h1 h2 S h3 h4 h5 (hbind cl doc pm ctv c') len fun A outer s hr=>hbody _ cl c' A outer s h3 hr
end
end L2
namespace L2
open PySem PySem.Spec PyProof.Rows PySem.W
theorem HOk.track {P:Program} {w:World} {H:Hp} {h:Heap} {a:Addr} {o:HO} (x:HOk P w H h) (hn:H a=none) (new:ObjOk P w (upd H a o) h a o):HOk P w (upd H a o) h:=fun b u e=>by
  by_cases hb:b=a
  · subst hb; rw [upd_same] at e; cases e; exact new
  · rw [upd_ne hb] at e
    exact (x b u e).stay (fun c v _ q=>q) (fun c q=>by rw [upd_ne (ne_of_none q hn)]; exact q) fun c xs q=>by rw [upd_ne (ne_of_none q hn)]; exact q
def TabOk (H:Hp) (P:Addr) (pos:Pos) (qual:Str):Prop:=H P=some (.tbl #[])∨∃ c',H P=some (.tbl #[rawInt pos.line,rawInt pos.col,.ref c'])∧H c'=some (CodeO c' qual)
theorem TabOk.keep {S:List Addr} {H H':Hp} {P:Addr} {pos:Pos} {qual:Str} (h:TabOk H P pos qual) (k:Keep S H H') (hs:∀ b∈S,(∀ ps,H b≠some (.tbl ps))∧∀ φ,H b≠some (.ext φ)):TabOk H' P pos qual:=by
  rcases h with e|⟨c',e1,e2⟩
  · exact .inl (k _ _ e fun z=>(hs _ z).1 _ e)
  · exact .inr ⟨c',k _ _ e1 fun z=>(hs _ z).1 _ e1,k _ _ e2 fun z=>(hs _ z).2 _ e2⟩
theorem TabOk.same {H H':Hp} {P:Addr} {pos:Pos} {qual:Str} (h:TabOk H P pos qual) (s:Same H H'):TabOk H' P pos qual:=h.keep (S:=[]) s.keep (fun _ z=>nomatch z)
structure TabA (X:Cx) (c P:Addr):Prop where
  code:X.env.code=.ref c
  hd:CodeHd X.base c P
  bm:X.base.BuiltinsAt X.mg P
  ne:mainGlobals≠P
theorem codeRec_push {h:Heap} {c:Addr} {qual:Str} {o:Obj} (x:h.CodeRec (.ref c) qual):(h.push o).CodeRec (.ref c) qual:=by
  obtain ⟨c',ob,vs,t,e1,e2,r⟩:=x
  cases e1
  exact ⟨c,ob,vs,t,rfl,Heap.get?_push_of_some _ e2,r⟩
section
variable {X:Cx} {pins:List (Addr × Obj)} {σ:St} {H:Hp} {s:Shared}
theorem make_ok {E:Value→Shared→Prop} {c P:Addr} {name qual:Str} {params:Arguments} {body:List Stmt} {scope:Scope} {clos:List (Str × Addr)} {pos:Pos} {fl:Nat} {Q:VK} (I:Inv X pins σ H s) (T:TabA X c P) (hcl:closureFor scope X.env=pure clos) (hT:TabOk H P pos qual)
    (h:∀ f c' doc pm ctv H',H f=none→H' f=some (FnO f (fnX name qual params body scope clos .none .none doc pm none (.ref c') ctv))→H' c'=some (CodeO c' qual)→TabOk H' P pos qual→Keep [P] H H'→Q (.ref f) H') :
    wpAny (model X.prog X.w) X.A (makeFunction name qual params (.stmts body) scope X.env [] [] [] pos fl) (EP X pins σ Q) E s:=by
  have hg:s.heap.Ns mainGlobals X.mg:=I.mod.glob.keeps I.bk
  rcases hT with e|⟨c',e,e2⟩
  · have hP:s.heap.get? P=some (tabObj #[]):=I.hok P _ e
    refine makeFunction_K (ps:=#[]) hcl I.ok.glob hg T.code (T.hd.keeps I.bk) hP trivial rfl T.ne (T.bm.keeps I.bk) fun c' ctv doc h' tk hx hge hlt hrec hP'=>?_
    have hf:s.heap.objs.size≤h'.objs.size:=Nat.le_of_lt (Nat.lt_of_le_of_lt hge hlt)
    have nc:H c'=none:=I.hok.fresh hge
    have nf:H h'.objs.size=none:=I.hok.fresh hf
    have ncP:c'≠P:=fun z=>by rw [z,e] at nc; cases nc
    have nfP:h'.objs.size≠P:=fun z=>by rw [z,e] at nf; cases nf
    have nfc:h'.objs.size≠c':=Nat.ne_of_gt hlt
    have hP2:h'.get? P=some (tabObj #[rawInt pos.line,rawInt pos.col,.ref c']):=hP'
    let fd:=fnX name qual params body scope clos .none .none doc ((X.mg "__name__").getD .none) none (.ref c') ctv
    let H1:=upd (upd (upd H P (.tbl #[rawInt pos.line,rawInt pos.col,.ref c'])) c' (CodeO c' qual)) h'.objs.size (FnO h'.objs.size fd)
    have eP:H1 P=some (.tbl #[rawInt pos.line,rawInt pos.col,.ref c']):=by
      show upd _ _ _ P=_
      rw [upd_ne (Ne.symm nfP),upd_ne (Ne.symm ncP),upd_same]
    have ec:H1 c'=some (CodeO c' qual):=by
      show upd _ _ _ c'=_
      rw [upd_ne (Ne.symm nfc),upd_same]
    have ef:H1 h'.objs.size=some (FnO h'.objs.size fd):=upd_same
    have eo:∀ b,b≠P→b≠c'→b≠h'.objs.size→H1 b=H b:=fun b h1 h2 h3=>by
      show upd _ _ _ b=_
      rw [upd_ne h3,upd_ne h2,upd_ne h1]
    have lo:∀ b o,s.heap.get? b=some o→b≠c'∧b≠h'.objs.size:=fun b o q=>⟨Nat.ne_of_lt (Nat.lt_of_lt_of_le (Heap.lt_size q) hge),Nat.ne_of_lt (Nat.lt_of_lt_of_le (Heap.lt_size q) hf)⟩
    have kp:∀ b o,b≠P→s.heap.get? b=some o→(h'.push (fnMade name qual params body scope clos doc ((X.mg "__name__").getD .none) c' ctv)).get? b=some o:=fun b o hb q=>Heap.get?_push_of_some _ (hx b o hb q)
    have tr:∀ b o,H b=some o→b≠c'∧b≠h'.objs.size:=fun b o q=>⟨ne_of_none q nc,ne_of_none q nf⟩
    refine ⟨.ref h'.objs.size,H1,I.call' (ch:=[]) rfl ?_ ?_ I.bare (fun b z=>absurd z (by simp)),rfl,h _ c' doc _ ctv H1 nf ef ec (.inr ⟨c',eP,ec⟩) fun b o q n=>?_⟩
    · refine ⟨fun b o q n _ _=>kp b o (fun z=>by rw [z,e] at n; cases n) q,fun b o q n _ _=>⟨o.slots,kp b o (fun z=>by rw [z,e] at n; cases n) q⟩,fun b o q n _=>?_,fun b o q _=>?_,fun b xs q=>?_,fun b o u q=>?_,fun b ps q=>?_⟩
      · rw [eo b (fun z=>by rw [z,e] at n; cases n) (lo b o q).1 (lo b o q).2]; exact n
      · by_cases hb:b=P
        · subst hb; exact ⟨_,Heap.get?_push_of_some _ hP2⟩
        · exact ⟨o,kp b o hb q⟩
      · rw [eo b (fun z=>by rw [z,e] at q; cases q) (tr b _ q).1 (tr b _ q).2]; exact q
      · rw [eo b (fun z=>by rw [z,e] at q; cases q) (tr b _ q).1 (tr b _ q).2]; exact q
      · by_cases hb:b=P
        · subst hb
          rw [e] at q
          cases q
          exact ⟨#[rawInt pos.line,rawInt pos.col,.ref c'],by rw [Array.empty_append]; exact eP⟩
        · rw [eo b hb (tr b _ q).1 (tr b _ q).2]
          exact ⟨#[],by rw [Array.append_empty]; exact q⟩
    · intro b o q
      by_cases hb1:b=h'.objs.size
      · subst hb1
        rw [ef] at q
        cases q
        exact fnO_ok (Heap.get?_push_size _ rfl) rfl
      · by_cases hb2:b=c'
        · subst hb2
          rw [ec] at q
          cases q
          exact codeO_ok (codeRec_push hrec)
        · by_cases hb3:b=P
          · subst hb3
            rw [eP] at q
            cases q
            exact Heap.get?_push_of_some _ hP2
          · rw [eo b hb3 hb2 hb1] at q
            refine (I.hok b o q).stay (fun d u hd z=>kp d u ?_ z) (fun d z=>?_) fun d xs z=>?_
            · rcases hd with rfl|hd
              · exact hb3
              · exact fun z=>by rw [z,e] at hd; cases hd
            · rw [eo d (fun y=>by rw [y,e] at z; cases z) (tr d _ z).1 (tr d _ z).2]; exact z
            · rw [eo d (fun y=>by rw [y,e] at z; cases z) (tr d _ z).1 (tr d _ z).2]; exact z
    · rw [eo b (fun z=>n (by rw [z]; exact .head _)) (tr b _ q).1 (tr b _ q).2]; exact q
  · have hP:s.heap.get? P=some (tabObj #[rawInt pos.line,rawInt pos.col,.ref c']):=I.hok P _ e
    refine makeFunction_hit (ps:=#[rawInt pos.line,rawInt pos.col,.ref c']) (cv:=.ref c') hcl I.ok.glob hg T.code (T.hd.keeps I.bk) hP (by simp [TriplesOk,rawInt]) (by simp [codeAmong,rawInt]) (T.bm.keeps I.bk) fun ctv doc h' tk hk hsz=>?_
    have nf:H h'.objs.size=none:=I.hok.fresh hsz
    have s1:Same H (upd H h'.objs.size (FnO h'.objs.size (fnX name qual params body scope clos .none .none doc ((X.mg "__name__").getD .none) none (.ref c') ctv))):=Same.upd_new nf
    refine ⟨.ref h'.objs.size,_,I.laid (t':=tk) (fun b u q=>Heap.get?_push_of_some _ (hk b u q)) hsz (fnO_ok (Heap.get?_push_size _ rfl) rfl),rfl,h _ c' doc _ ctv _ nf upd_same (s1 _ _ e2) (.inr ⟨c',s1 _ _ e,s1 _ _ e2⟩) s1.keep⟩
end
def withC:List (Addr × V)→Hp→Hp
  | [],H=>H
  | p::r,H=>upd (withC r H) p.1 (CellO p.1 p.2)
section
variable {P:Program} {w:World} {fs:List Addr} {H H':Hp} {h h':Heap}
theorem withC_out {b:Addr}:∀ {cvs:List (Addr × V)},b ∉ cvs.map (·.1)→withC cvs H b=H b
  | [],_=>rfl
  | p::r,hb=>by
    rw [mZ1,List.mem_cons,not_or] at hb
    rw [withC,upd_ne hb.1,withC_out hb.2]
theorem withC_in {c:Addr} {v:V}:∀ {cvs:List (Addr × V)},(cvs.map (·.1)).Nodup→(c,v)∈cvs→withC cvs H c=some (CellO c v)
  | p::r,nd,hm=>by
    rw [mZ1,List.nodup_cons] at nd
    rcases List.mem_cons.mp hm with rfl|hm
    · rw [withC,upd_same]
    · rw [withC,upd_ne (fun z=>nd.1 (by rw [← z]; exact List.mem_map.mpr ⟨_,hm,rfl⟩)),withC_in nd.2 hm]
theorem withC_ok (x:HOk P w H' h'):∀ {cvs:List (Addr × V)},(cvs.map (·.1)).Nodup→(∀ p∈cvs,H' p.1=none∧∃ u,RelV p.2 u∧h'.IsCell p.1 (some u))→HOk P w (withC cvs H') h'
  | [],_,_=>x
  | p::r,nd,hp=>by
    rw [mZ1,List.nodup_cons] at nd
    obtain ⟨n,u,rv,ec⟩:=hp p (.head _)
    refine (withC_ok x nd.2 fun q hq=>hp q (.tail _ hq)).track ?_ (cellO_ok rv ec)
    rw [withC_out nd.1]; exact n
theorem withC_un (x:Un fs [] H H' h h') {cvs:List (Addr × V)} (hp:∀ p∈cvs,H' p.1=none∧h.objs.size≤p.1):Un fs [] H (withC cvs H') h h':=by
  have out:∀ {b:Addr} {o:HO},H' b=some o→withC cvs H' b=some o:=fun {b o} e=>by
    rw [withC_out]; · exact e
    · intro z
      obtain ⟨p,hm,rfl⟩:=List.mem_map.mp z
      rw [(hp p hm).1] at e; cases e
  refine ⟨x.keep,x.slot,fun b o e n hx=>?_,x.there,fun b xs e=>out (x.tups b xs e),fun b o u e=>out (x.frzs b o u e),fun b ps e=>?_⟩
  · rw [withC_out]; · exact x.free b o e n hx
    · intro z
      obtain ⟨p,hm,rfl⟩:=List.mem_map.mp z
      exact absurd (Heap.lt_size e) (Nat.not_lt.mpr (hp p hm).2)
  · obtain ⟨m,q⟩:=x.tbls b ps e
    exact ⟨m,out q⟩
end
theorem paired_of_map {α β γ:Type} {F:γ→β→Prop} {g:α→γ}:∀ {l:List α} {m:List β},Paired F (l.map g) m→Paired (fun a b=>F (g a) b) l m
  | [],[],_=>.nil
  | _::_,_::_,.cons r t=>.cons r (paired_of_map t)
theorem paired_to_map {α β γ:Type} {F:γ→β→Prop} {g:α→γ}:∀ {l:List α} {m:List β},Paired (fun a b=>F (g a) b) l m→Paired F (l.map g) m
  | [],[],_=>.nil
  | _::_,_::_,.cons r t=>.cons r (paired_to_map t)
theorem paired_imp_mem {α β:Type} {F G:α→β→Prop}:∀ {l:List α} {m:List β},Paired F l m→(∀ a b,a∈l→F a b→G a b)→Paired G l m
  | _,_,.nil,_=>.nil
  | _,_,.cons r t,f=>.cons (f _ _ (.head _) r) (paired_imp_mem t fun a b h=>f a b (.tail _ h))
def cvsOf:List (Str × Addr)→List V→List (Addr × V)
  | q::l,v::m=>(q.2,v)::cvsOf l m
  | _,_=>[]
theorem cvs_fst {F:Str × Addr→V→Prop}:∀ {l:List (Str × Addr)} {m:List V},Paired F l m→(cvsOf l m).map (·.1)=l.map (·.2)
  | _,_,.nil=>rfl
  | _,_,.cons r t=>by rw [cvsOf,mZ1,mZ1,cvs_fst t]
theorem cvs_mem {F:Str × Addr→V→Prop} {p:Addr × V}:∀ {l:List (Str × Addr)} {m:List V},Paired F l m→p∈cvsOf l m→∃ q,q∈l∧p.1=q.2∧F q p.2
  | _,_,.nil,h=>nomatch h
  | _,_,.cons r t,h=>by
    rw [cvsOf] at h
    rcases List.mem_cons.mp h with rfl|h
    · exact ⟨_,.head _,rfl,r⟩
    · obtain ⟨q,h1,h2,h3⟩:=cvs_mem t h
      exact ⟨q,.tail _ h1,h2,h3⟩
theorem cvs_pair {F:Str × Addr→V→Prop}:∀ {l:List (Str × Addr)} {m:List V},Paired F l m→Paired (fun q v=>(q.2,v)∈cvsOf l m) l m
  | _,_,.nil=>.nil
  | _,_,.cons r t=>.cons (by rw [cvsOf]; exact .head _) (Paired.mapP (cvs_pair t) fun q v h=>by rw [cvsOf]; exact .tail _ h)
theorem sel_pair {N:List Str} {vs:List V} {n:Nat} (h1:n≤N.length) (h2:n≤vs.length):∀ {js:List Nat},(∀ j∈js,j<n)→Paired (fun y v=>∃ j,j<n∧N[j]?=some y∧vs[j]?=some v) (js.filterMap (N[·]?)) (js.filterMap (vs[·]?))
  | [],_=>.nil
  | j::js,h=>by
    have hj:=h j (.head _)
    have e1:N[j]?=some N[j]:=List.getElem?_eq_getElem (by omega)
    have e2:vs[j]?=some vs[j]:=List.getElem?_eq_getElem (by omega)
    rw [List.filterMap_cons_some e1,List.filterMap_cons_some e2]
    exact .cons ⟨j,hj,e1,e2⟩ (sel_pair h1 h2 fun i hi=>h i (.tail _ hi))
theorem nodup_snd {R:List (Str × Addr)} (h1:(R.map (·.1)).Nodup) (inj:∀ p q,p∈R→q∈R→p.2=q.2→p.1=q.1):(R.map (·.2)).Nodup:=by
  induction R with
  | nil=>exact List.nodup_nil
  | cons p r ih=>
    rw [mZ1,List.nodup_cons] at h1 ⊢
    refine ⟨fun z=>?_,ih h1.2 fun a b ha hb=>inj a b (.tail _ ha) (.tail _ hb)⟩
    obtain ⟨q,hq,e⟩:=List.mem_map.mp z
    exact h1.1 (List.mem_map.mpr ⟨q,hq,inj q p (.tail _ hq) (.head _) e⟩)
def sp_mk (P:Addr) (pos:Pos) (g qual:Str) (gp:Arguments) (gb:List Stmt) (gsc:Scope) (fr:List Str) (sel:List V→List V) (n:Nat):Sp:=fun vs H Q _=>vs.length=n∧TabOk H P pos qual ∧
  ∀ f H',H f=none→CloAt H' g qual gp gb gsc fr f (sel vs)→TabOk H' P pos qual→Keep [P] H H'→Q (.ref f) H'
theorem Def.maker {Pg:Program} {w:World} {K:PySem.W.Frag} {mg:Str→Option Value} {base:Heap} {x g:Str} {st:Stmt} {N ps fr:List Str} {k i:Nat} {gp:Arguments} {gb:List Stmt} {gsc:Scope} {pos p2 p3:Pos} {c P:Addr} {js:List Nat} {cl:Addr→List (Str × Addr)} {sel:List V→List V}
    (D:Def K mg x st) (S:FnScope N ps (defScope st)) (hb:∀ (kV doc pm:Value) (an:Option Addr) (cdv ct:Value) (us:List Value),us.length=ps.length→bindArgs (PySem.W.fnOf x x (defArgs st) (defBody st) (defScope st) .none kV doc pm an cdv ct) ⟨us,[]⟩=pure (ps.zip us))
    (KX:K.In base) (G:base.Ns mainGlobals mg) (hbo:defBody st=[.FunctionDef g gp gb [] none [] gsc none g pos,.Return (some (.Name g p2)) p3])
    (hi:N[i]?=some g) (hig:ps.length≤i) (hgl:(defScope st).names.lookup g=some .local) (hd0:gp.defaults=[]) (hk0:gp.kw_defaults=[]) (ha:∀ env,annTrees gp none env=[])
    (ht:tabIn K x=some (c,P)) (hd:CodeHd base c P) (bm:base.BuiltinsAt mg P) (ne:mainGlobals≠P)
    (hcl:∀ L f cdv,closureFor gsc (envOfC x (defScope st) L f cdv)=pure (cl L))
    (hkn:∀ L,(cl L).map (·.1)=fr) (hnd:fr.Nodup) (hsub:∀ L q,q∈cl L→(cellsFrom (L+1) (defScope st).names []).lookup q.1=some q.2)
    (hjs:fr=js.filterMap (N[·]?)) (hjl:∀ j∈js,j<ps.length) (hsel:∀ vs:List V,vs.length=ps.length→sel vs=js.filterMap (vs[·]?)) (hgc:∀ y∈fr,(defScope st).names.lookup y=some .cell) (hdb:(g == ("__debug__":Str))=false:=by decide) (hcdb:(g == ("__classdict__":Str))=false:=by decide) :
    Own Pg w K mg base (k+1) x ps (sp_mk P pos g (x++".<locals>."++g) gp gb gsc fr sel ps.length):=by
  obtain ⟨f0,fd,hm,F⟩:=D
  refine ⟨f0,fd,hm,F.kp,F.binds hb,?_⟩
  obtain ⟨oc,od,kV,doc,pm,an,cdv,ct,osl,rfl,lk,hcd⟩:=F.ex
  have hcode:cdv=.ref c:=law_code KX G ht hm (KX _ _ lk) rfl
  subst hcode
  refine ⟨fun vs H Q E h=>h.1,fun A outer s H args us vs Q E hr e0 hbd r hsp=>?_⟩
  obtain ⟨hl,hT,q⟩:=hsp
  have KX':K.In s.heap:=e0.mod.kin.keeps fun b o e=>(e0.bs b o e).1
  have lim:s.heap.NoLimit:=e0.mod.nolimit.keeps fun b o e=>(e0.bs b o e).1
  have hkind:∀ y∈ps.zip us,(defScope st).names.lookup y.1=some .local∨((defScope st).names.lookup y.1=some .cell∧((cellsFrom (s.heap.objs.size+1) (defScope st).names []).lookup y.1).isSome=true):=fun ⟨n,v⟩ hy=>by
    rcases S.par n (List.of_mem_zip hy).1 with q|q
    · exact .inl q
    · exact .inr ⟨q,PySem.W.cellsFrom_some _ _ _ (.inl q)⟩
  refine codeAny_call_function hr.depth (KX' _ _ lk) rfl S.co S.gen rfl (PySem.W.codeRec_of KX' hcd) (hbd _ _ _ _ ?_)
  refine wpAny_newFunctionEnv_cells S.kind hkind fun env he s1 xx=>?_
  subst he
  refine ⟨lim.keeps xx.toInCall.keep,codeAny_func ?_⟩
  have I:Inv (cxOf CX0 Pg w K mg base N x (defScope st) f0 (.ref c) A outer s H E) [] (start N vs) H s1:=inv_start S hr.hd e0 hl r xx
  have T:TabA (cxOf CX0 Pg w K mg base N x (defScope st) f0 (.ref c) A outer s H E) c P:=⟨rfl,hd,bm,ne⟩
  have hqn:qualnameIn (envOfC x (defScope st) s.heap.objs.size f0 (.ref c)) g g=x++".<locals>."++g:=by
    unfold qualnameIn
    rw [if_neg]
    · rfl
    · show ¬ ((defScope st).names.lookup g == some .globalExplicit)=true
      rw [hgl]
      decide
  have hpl:ps.length≤N.length:=by have:=congrArg List.length S.pre; rw [List.length_take] at this; omega
  have hiσ:i<(start N vs).length:=by rw [show (start N vs).length=N.length from I.len]; exact (List.getElem?_eq_some_iff.mp hi).1
  have main:wpAny (model Pg w) (A.deeper (envOfC x (defScope st) s.heap.objs.size f0 (.ref c))) (execs (defBody st) (envOfC x (defScope st) s.heap.objs.size f0 (.ref c)))
      (fun fl s'=>∃ u v H',fl=.ret u∧Inv (cxOf CX0 Pg w K mg base N x (defScope st) f0 (.ref c) A outer s H E) [] ((start N vs).set i (some v)) H' s'∧RelV v u ∧
        ∃ f c' doc pm ctv,v=.ref f∧H f=none∧H' f=some (FnO f (fnX g (x++".<locals>."++g) gp gb gsc (cl s.heap.objs.size) .none .none doc pm none (.ref c') ctv))∧H' c'=some (CodeO c' (x++".<locals>."++g))∧TabOk H' P pos (x++".<locals>."++g)∧Keep [P] H H')
      (cxOf CX0 Pg w K mg base N x (defScope st) f0 (.ref c) A outer s H E).xe s1:=by
    rw [hbo]
    refine wpAny_execs_cons (nestDef_K hd0 hk0 (ha _) ?_)
    rw [hqn]
    refine thn (make_ok (Q:=fun v H'=>∃ f c' doc pm ctv,v=.ref f∧H f=none∧H' f=some (FnO f (fnX g (x++".<locals>."++g) gp gb gsc (cl s.heap.objs.size) .none .none doc pm none (.ref c') ctv))∧H' c'=some (CodeO c' (x++".<locals>."++g))∧TabOk H' P pos (x++".<locals>."++g)∧Keep [P] H H') I T (hcl _ _ _) hT fun f c' doc pm ctv H' h1 h2 h3 h4 h5=>⟨f,c',doc,pm,ctv,rfl,h1,h2,h3,h4,h5⟩) fun u s2 ⟨v,H2,I2,rv,fa⟩=>?_
    refine store_ok I2 S.nd hi (.inl hgl) rv (fun s3 I3=>?_) (.inl rfl)
    refine wpAny_execs_cons (wpAny_Return_some (thn (pe_var (X:=cxOf CX0 Pg w K mg base N x (defScope st) f0 (.ref c) A outer s H E) (pos:=p2) hi (.inl hgl) hdb hcdb [] s3 _ H2 (fun v' H'=>v'=v∧H'=H2) I3 ⟨v,by rw [List.getElem?_set_self hiσ],rfl,rfl⟩) fun u' s4 ⟨v',H4,I4,rv',e1,e2⟩=>?_))
    subst e1 e2
    exact ⟨u',v',H4,rfl,I4,rv',fa⟩
  refine wpAny_mono main (fun fl s' hs=>?_) fun e s' hs=>hs
  obtain ⟨u,v,H',rfl,J,rv,f,c',doc2,pm2,ctv,rfl,h1,h2,h3,h4,h5⟩:=hs
  show CE outer Pg w H s Q u s'
  have hsp2:Paired (fun y v=>∃ j,j<ps.length∧N[j]?=some y∧vs[j]?=some v) fr (sel vs):=by
    rw [hjs,hsel vs hl]
    exact sel_pair hpl (by omega) hjl
  have hcp:Paired (fun q v=>∃ j,j<ps.length∧N[j]?=some q.1∧vs[j]?=some v) (cl s.heap.objs.size) (sel vs):=by
    rw [← hkn s.heap.objs.size] at hsp2
    exact paired_of_map hsp2
  have inE:∀ q∈cl s.heap.objs.size,(envOfC x (defScope st) s.heap.objs.size f0 (.ref c)).cells.lookup q.1=some q.2:=fun q hq=>hsub _ q hq
  have inj:∀ p q,p∈cl s.heap.objs.size→q∈cl s.heap.objs.size→p.2=q.2→p.1=q.1:=fun p q hp hq e=>J.ok.inj p.1 q.1 p.2 (inE p hp) (by rw [e]; exact inE q hq)
  have nd1:((cl s.heap.objs.size).map (·.1)).Nodup:=by rw [hkn]; exact hnd
  have nd2:=nodup_snd nd1 inj
  have lk2:∀ q∈cl s.heap.objs.size,(cl s.heap.objs.size).lookup q.1=some q.2:=fun q hq=>lookup_nd nd1 hq
  have above:∀ q∈cl s.heap.objs.size,s.heap.objs.size≤q.2:=fun q hq=>Nat.le_of_lt (xx.above q.1 q.2 (PySem.mem_of_lookup (inE q hq)))
  have good:∀ p∈cvsOf (cl s.heap.objs.size) (sel vs),(H' p.1=none∧∃ u,RelV p.2 u∧s'.heap.IsCell p.1 (some u))∧s.heap.objs.size≤p.1:=fun p hp=>by
    obtain ⟨q,hq,e,j,hj,e1,e2⟩:=cvs_mem hcp hp
    rw [e]
    refine ⟨⟨J.freeC q.1 q.2 (inE q hq),?_⟩,above q hq⟩
    obtain ⟨m,_,hloc⟩:=J.loc
    have hcell:(defScope st).names.lookup q.1=some .cell:=hgc q.1 (by rw [← hkn s.heap.objs.size]; exact List.mem_map.mpr ⟨q,hq,rfl⟩)
    have hσ:((start N vs).set i (some (.ref f)))[j]?=some (some p.2):=by
      rw [List.getElem?_set_ne (by omega)]
      unfold start
      rw [List.getElem?_append_left (by rw [List.length_map]; omega),List.getElem?_map,e2]
      rfl
    obtain ⟨u,ru,lo⟩:=hloc j q.1 p.2 e1 hσ (.inr (.inl hcell))
    rcases lo with ⟨hk,_⟩|⟨_,c2,hc2,hic⟩
    · have hk:(defScope st).names.lookup q.1=some .local:=hk
      rw [hcell] at hk; cases hk
    · have e3:=(inE q hq).symm.trans hc2
      cases e3
      exact ⟨u,ru,hic⟩
  have hfst:=cvs_fst hcp
  have out:∀ {b:Addr} {o:HO},H' b=some o→withC (cvsOf (cl s.heap.objs.size) (sel vs)) H' b=some o:=fun {b o} e=>by
    rw [withC_out]; · exact e
    · intro z
      obtain ⟨p,hm,rfl⟩:=List.mem_map.mp z
      rw [(good p hm).1.1] at e; cases e
  have ndc:((cvsOf (cl s.heap.objs.size) (sel vs)).map (·.1)).Nodup:=by rw [hfst]; exact nd2
  refine ⟨.ref f,withC (cvsOf (cl s.heap.objs.size) (sel vs)) H',J.os,J.bare,withC_un J.base (fun p hp=>⟨(good p hp).1.1,(good p hp).2⟩),withC_ok J.hok ndc (fun p hp=>(good p hp).1),rv,?_⟩
  refine q f _ h1 ⟨c',doc2,pm2,ctv,cl s.heap.objs.size,out h2,out h3,?_,?_,?_⟩ ?_ ?_
  · intro c2 hc2
    rw [← hfst] at hc2
    obtain ⟨p,hp,rfl⟩:=List.mem_map.mp hc2
    exact ⟨p.2,withC_in ndc hp⟩
  · rw [← hkn s.heap.objs.size]
    refine paired_to_map (paired_imp_mem (cvs_pair hcp) fun q v hq hm=>⟨q.2,lk2 q hq,withC_in ndc hm⟩)
  · intro y z c2 e1 e2
    exact J.ok.inj y z c2 (inE (y,c2) (PySem.mem_of_lookup e1)) (inE (z,c2) (PySem.mem_of_lookup e2))
  · rcases h4 with e|⟨c2,e1,e2⟩
    · exact .inl (out e)
    · exact .inr ⟨c2,out e1,out e2⟩
  · exact fun b o e n=>out (h5 b o e n)
theorem law_callT {P:Program} {w:World} {K:PySem.W.Frag} {mg mb:Str→Option Value} {k:Nat} {fa a c Pt:Addr} {fd:FuncData} {x:Str} {sp:Sp} {s₁:Shared} {vs:List Value} {ns:List Int}
    (KX:K.In s₁.heap) (hns:s₁.heap.Ns mainGlobals mg) (hb:s₁.heap.Ns builtinsNs mb) (hbb:∀ x:Str,x≠"__name__"→mb x=bootBuiltins x) (hlim:s₁.heap.NoLimit) (hg:s₁.gens=#[])
    (ha:s₁.heap.get? a=some { cls:=.type "list", data:=.seq vs.toArray }) (hi:IntsAre vs ns) (hl:ns.length≤sizeLine) (hr:Room k callerA)
    (hCd:CodeHd s₁.heap c Pt) (hPt:s₁.heap.get? Pt=some (tabObj #[])) (hKP:K.lookup Pt=none)
    (hbm:∃ bm ob,mg "__builtins__"=some (.ref bm)∧bm≠builtinsNs∧s₁.heap.get? bm=some ob∧ob.cls=.type "module"∧ob.dict=some builtinsNs∧ob.data=.plain)
    (F:∀ base:Heap,K.In base→base.Ns mainGlobals mg→CodeHd base c Pt→base.BuiltinsAt mg Pt→mainGlobals≠Pt→FnOk P w K mg base CX0 k fa fd [x] sp) (hbind:∀ (s:Shared) (u:Value),BindsTo s fd ⟨[u],[]⟩ [(x,u)])
    (hsp:∀ H:Hp,H Pt=some (.tbl #[])→SqL K H a (ns.map V.int)→sp [.ref a] H (fun v _=>v=.bl true) fun _ _ _=>False) :
    codeAny (model P w) callerA (.call (.ref fa) ⟨[.ref a],[]⟩) (fun r s'=>r=.ok (.ret (.bool true))∧OldK s₁.heap s'.heap∧s'.os=s₁.os∧AllBare s'.gens) s₁:=by
  have rv:=vals_ints hi
  have lenV:=hi.length
  have naP:a≠Pt:=fun z=>by rw [z,hPt] at ha; cases ha
  have core:∀ H:Hp,H Pt=some (.tbl #[])→SqL K H a (ns.map V.int)→HOk P w H s₁.heap→(∀ b,H b≠none→b=a∨b=Pt)→(H a≠none→K.lookup a=none)→(H a=none∨∃ o xs,H a=some (.frz o (.lst xs))) →
      codeAny (model P w) callerA (.call (.ref fa) ⟨[.ref a],[]⟩) (fun r s'=>r=.ok (.ret (.bool true))∧OldK s₁.heap s'.heap∧s'.os=s₁.os∧AllBare s'.gens) s₁:=by
    intro H hHP hS hok hA hK hO
    have base_of:∀ {b:Addr} {o:Obj},s₁.heap.get? b=some o→H b=none→(hidT s₁.heap H).get? b=some o:=fun e n=>hidT_get e n
    have not:∀ {b:Addr} {o:Obj},s₁.heap.get? b=some o→o≠{ cls:=.type "list", data:=.seq vs.toArray }→o≠tabObj #[]→H b=none:=fun {b o} e n1 n2=>by
      cases q:H b with
      | none=>rfl
      | some u=>
        rcases hA b (by rw [q]; simp) with e'|e'
        · subst e'; rw [ha] at e; cases e; exact absurd rfl n1
        · subst e'; rw [hPt] at e; cases e; exact absurd rfl n2
    have nsK:∀ {b:Addr} {m:Str→Option Value},s₁.heap.Ns b m→(hidT s₁.heap H).Ns b m:=fun {b m} ⟨o,es,ep,e,d,r⟩=>⟨o,es,ep,base_of e (not e (fun z=>by rw [z] at d; cases d) (fun z=>by rw [z] at d; cases d)),d,r⟩
    have hKb:K.In (hidT s₁.heap H):=fun b o e=>base_of (KX b o e) (by
      cases q:H b with
      | none=>rfl
      | some u=>
        rcases hA b (by rw [q]; simp) with e'|e'
        · subst e'; rw [hK (by rw [q]; simp)] at e; cases e
        · subst e'; rw [hKP] at e; cases e)
    have hM:Mod K mg (hidT s₁.heap H):=⟨hKb,nsK hns,⟨mb,nsK hb,hbb⟩,let ⟨mc,h1,h2⟩:=hlim; ⟨mc,nsK h1,h2⟩⟩
    have e0:Env0 P w K mg (hidT s₁.heap H) callerA [] s₁ H:=⟨rfl,hM,fun b o e=>of_hidT e,Nat.le_of_eq (hidT_size _ _),trivial,fun b hb=>absurd (show b∈([]:List Addr) from hb) (by simp),hok,.of_eq hg⟩
    have hCb:CodeHd (hidT s₁.heap H) c Pt:=by
      obtain ⟨o,fs,file,tf,flags,tg,inF,text,tt,e1,e2,r⟩:=hCd
      exact ⟨o,fs,file,tf,flags,tg,inF,text,tt,base_of e1 (not e1 (fun z=>by rw [z] at e2; exact absurd (Value.type.inj e2) (by decide)) (fun z=>by rw [z] at e2; cases e2)),e2,r⟩
    have hgP:mainGlobals≠Pt:=fun z=>by
      obtain ⟨o,es,ep,e,d,_⟩:=hns
      rw [z,hPt] at e; cases e; cases d
    have hBb:(hidT s₁.heap H).BuiltinsAt mg Pt:=by
      obtain ⟨bm,ob,b1,b2,b3,b4,b5,b6⟩:=hbm
      refine ⟨bm,ob,b1,b2,fun z=>?_,fun z=>?_,base_of b3 (not b3 (fun z=>by rw [z] at b4; exact absurd (Value.type.inj b4) (by decide)) (fun z=>by rw [z] at b4; cases b4)),b4,b5,b6⟩
      · obtain ⟨o,es,ep,e,d,_⟩:=hns
        rw [z] at b3
        rw [b3] at e; cases e
        rw [b6] at d; cases d
      · rw [z,hPt] at b3; cases b3; cases b4
    refine codeAny_mono ((F _ hKb (nsK hns) hCb hBb hgP).run callerA [] s₁ H ⟨[.ref a],[]⟩ [.ref a] [.ref a] _ _ hr e0 (hbind s₁ (.ref a)) (.cons rfl .nil) (hsp H hHP hS)) fun r s' h=>?_
    cases r with
    | error e=>exact False.elim h
    | ok fl=>
      cases fl with
      | next=>exact False.elim h
      | brk=>exact False.elim h
      | cont=>exact False.elim h
      | ret u=>
        obtain ⟨v,H',os,bare,un,hok',r',q⟩:=h
        have q':v=.bl true:=q
        subst q'
        obtain rfl:u=Value.bool true:=r'
        refine ⟨rfl,⟨fun b o e=>?_,fun b o e=>un.there b o e (by simp)⟩,os,bare⟩
        cases q:H b with
        | none=>exact .inl (un.keep b o e q (by intro z; exact absurd (show b∈([]:List Addr) from z) (by simp)) (by simp))
        | some u=>
          rcases hA b (by rw [q]; simp) with e'|e'
          · subst e'
            rcases hO with z|⟨ob,xs,z⟩
            · rw [q] at z; cases z
            · have z2:=un.frzs b ob _ z
              obtain ⟨e1,_⟩:=hok b _ z
              obtain ⟨e2,_⟩:=hok' b _ z2
              rw [e] at e1; cases e1
              exact .inl e2
          · subst e'
            obtain ⟨more,z⟩:=un.tbls b _ hHP
            have z2:s'.heap.get? b=some { cls:=.none,data:=.fields (#[]++more) }:=hok' b _ z
            rw [hPt] at e
            cases e
            exact .inr (.inl ⟨(hCd.tab hPt).isCodeTable,rfl,#[],more,rfl,z2⟩)
  cases hk:K.lookup a with
  | some o=>
    have e:=KX a o hk
    rw [ha] at e
    cases e
    refine core (fun b=>if b=Pt then some (.tbl #[]) else none) (if_pos rfl) (.inr ⟨_,vs.toArray,_,hk,rfl,rfl,rfl,by rw [List.size_toArray,lenV]; exact hl,by simpa using rv⟩) (fun b u z=>?_) (fun b z=>?_) (fun z=>absurd (if_neg naP) z) (.inl (if_neg naP))
    · by_cases hb:b=Pt
      · have z':=(if_pos hb).symm.trans z
        cases z'
        subst hb
        exact hPt
      · have z':=(if_neg hb).symm.trans z
        cases z'
    · by_cases hb:b=Pt
      · exact .inr hb
      · exact absurd (if_neg hb) z
  | none=>
    refine core (fun b=>if b=Pt then some (.tbl #[]) else if b=a then some (.frz { cls:=.type "list", data:=.seq vs.toArray } (.lst (ns.map V.int))) else none) (if_pos rfl) (.inl (.inr ⟨{ cls:=.type "list", data:=.seq vs.toArray },(if_neg naP).trans (if_pos rfl)⟩)) (fun b u z=>?_) (fun b z=>?_) (fun _=>hk) (.inr ⟨_,_,(if_neg naP).trans (if_pos rfl)⟩)
    · by_cases hb:b=Pt
      · have z':=(if_pos hb).symm.trans z
        cases z'
        subst hb
        exact hPt
      · have z1:=(if_neg hb).symm.trans z
        by_cases hb:b=a
        · have z':=(if_pos hb).symm.trans z1
          cases z'
          subst hb
          exact ⟨ha,by rw [List.length_map]; exact hl,vs,_,rv,ha⟩
        · have z':=(if_neg hb).symm.trans z1
          cases z'
    · by_cases hb:b=Pt
      · exact .inr hb
      · by_cases hb2:b=a
        · exact .inl hb2
        · exact absurd ((if_neg hb).trans (if_neg hb2)) z
theorem walk_ofT {l:PySem.W.OpenLaw} {n k:Nat} {q:Program} {loose:List Str} {XP:(Str→Option Value)→Heap→Prop} {YP:World→Heap→Prop} {d:DefRec} {K:Params→PySem.W.Frag} {sp:PySem.W.Frag→Sp} {x:Str} {c Pt:Addr}
    (hn:l.most=some n) (hn2:n≤sizeLine) (hdf:d.params.defaults=[]) (hr:Room k callerA)
    (hY:∀ (w:World) (h:Heap),YP w h→(K w.params).In h∧h.get? Pt=some (tabObj #[])) (hcd:∀ p,codeHdIn (K p) c Pt=true) (hkp:∀ p,(K p).lookup Pt=none)
    (F:∀ (w:World) (mg:Str→Option Value) (fa:Addr) (h:Heap),(K w.params).In h→h.Ns mainGlobals mg→mg d.name=some (.ref fa) →
      ∃ fd:FuncData,(∀ (s:Shared) (u:Value),BindsTo s fd ⟨[u],[]⟩ [(x,u)]) ∧
        ∀ base:Heap,(K w.params).In base→base.Ns mainGlobals mg→CodeHd base c Pt→base.BuiltinsAt mg Pt→mainGlobals≠Pt→FnOk l.prog w (K w.params) mg base CX0 k fa fd [x] (sp (K w.params)))
    (hsp:∀ (K:PySem.W.Frag) (H:Hp) (a:Addr) (ns:List Int),ns.length≤n→H Pt=some (.tbl #[])→SqL K H a (ns.map V.int)→sp K [.ref a] H (fun v _=>v=.bl true) fun _ _ _=>False) :
    PySem.W.WalkO q loose XP YP l.row.toRowW d [] (fun f vs=>PySem.call f vs):=by
  refine Att.attach_call hn hdf fun w s₀ s₁ mg mb fa o pm cd doc a vs ns G Y ho hd hcd' hmg hobj hints hlen hg=>?_
  obtain ⟨KX,hPt⟩:=hY w _ Y
  obtain ⟨fd,hb,hF⟩:=F w mg fa _ KX G.T.g hmg
  exact law_callT KX G.T.g G.T.b G.T.builtins G.T.nolimit hg hobj hints (Nat.le_trans hlen hn2) hr (codeHd_of_K KX (hcd w.params)) hPt (hkp w.params) G.T.bmain hF hb fun H hP hS=>hsp _ H a ns hlen hP hS
end L2
namespace L2
open PySem PySem.Spec PyProof.Rows PySem.W
section
variable {X:Cx} {pins:List (Addr × Obj)} {σ:St} {H:Hp} {s:Shared}
end
section
variable {S:List Addr} {H H':Hp} {g qual:Str} {gp:Arguments} {gb:Expr} {gsc:Scope} {fr:List Str} {f:Addr} {ws:List V}
end
end L2
namespace K15
open PySem L2
def stm (i:Nat):Stmt:=PySem.Challenge.pw_roadnet_k15_whole_least.main.body.getD i (.Pass ⟨0,0,0,0⟩)
section
variable {P:Program} {w:World} {K:PySem.W.Frag} {mg:Str→Option Value} {base:Heap} {C:Addr}
abbrev at_Ways:List Str:=["me","own","last_reports","line_prices","marks","ways"]
def fs_Ways (a0 a1 a2 a3 a4 a5:V):List (Str × V):=[("me", a0),("own", a1),("last_reports", a2),("line_prices", a3),("marks", a4),("ways", a5)]
section
variable {a0 a1 a2 a3 a4 a5:V}
theorem fs_Ways_me:(fs_Ways a0 a1 a2 a3 a4 a5).lookup ("me":Str)=some a0:=rfl
theorem fs_Ways_own:(fs_Ways a0 a1 a2 a3 a4 a5).lookup ("own":Str)=some a1:=rfl
theorem fs_Ways_last_reports:(fs_Ways a0 a1 a2 a3 a4 a5).lookup ("last_reports":Str)=some a2:=rfl
theorem fs_Ways_line_prices:(fs_Ways a0 a1 a2 a3 a4 a5).lookup ("line_prices":Str)=some a3:=rfl
theorem fs_Ways_marks:(fs_Ways a0 a1 a2 a3 a4 a5).lookup ("marks":Str)=some a4:=rfl
theorem fs_Ways_ways:(fs_Ways a0 a1 a2 a3 a4 a5).lookup ("ways":Str)=some a5:=rfl
theorem fn_Ways_raise_own:(fs_Ways a0 a1 a2 a3 a4 a5).lookup ("raise_own":Str)=none:=rfl
theorem fn_Ways_settle:(fs_Ways a0 a1 a2 a3 a4 a5).lookup ("settle":Str)=none:=rfl
theorem fn_Ways_may_take:(fs_Ways a0 a1 a2 a3 a4 a5).lookup ("may_take":Str)=none:=rfl
theorem fn_Ways_best_way:(fs_Ways a0 a1 a2 a3 a4 a5).lookup ("best_way":Str)=none:=rfl
theorem fn_Ways_better_mark:(fs_Ways a0 a1 a2 a3 a4 a5).lookup ("better_mark":Str)=none:=rfl
theorem fn_Ways_report_of:(fs_Ways a0 a1 a2 a3 a4 a5).lookup ("report_of":Str)=none:=rfl
theorem fn_Ways_next_of:(fs_Ways a0 a1 a2 a3 a4 a5).lookup ("next_of":Str)=none:=rfl
theorem fn_Ways_price_of:(fs_Ways a0 a1 a2 a3 a4 a5).lookup ("price_of":Str)=none:=rfl
theorem fn_Ways_mark_of:(fs_Ways a0 a1 a2 a3 a4 a5).lookup ("mark_of":Str)=none:=rfl
theorem fl_Ways:((fs_Ways a0 a1 a2 a3 a4 a5).length<1000)=True:=by simp [fs_Ways]
theorem fp_Ways_own {v:V}:putF "own" v (fs_Ways a0 a1 a2 a3 a4 a5)=fs_Ways a0 v a2 a3 a4 a5:=by with_unfolding_all rfl
theorem fq_Ways_0 {v:V}:putF "me" v ([]:List (Str × V))=([("me", v)]:List (Str × V)):=by with_unfolding_all rfl
theorem fq_Ways_1 {v:V}:putF "own" v ([("me", a0)]:List (Str × V))=([("me", a0),("own", v)]:List (Str × V)):=by with_unfolding_all rfl
theorem fq_Ways_2 {v:V}:putF "last_reports" v ([("me", a0),("own", a1)]:List (Str × V))=([("me", a0),("own", a1),("last_reports", v)]:List (Str × V)):=by with_unfolding_all rfl
theorem fq_Ways_3 {v:V}:putF "line_prices" v ([("me", a0),("own", a1),("last_reports", a2)]:List (Str × V))=([("me", a0),("own", a1),("last_reports", a2),("line_prices", v)]:List (Str × V)):=by with_unfolding_all rfl
theorem fq_Ways_4 {v:V}:putF "marks" v ([("me", a0),("own", a1),("last_reports", a2),("line_prices", a3)]:List (Str × V))=([("me", a0),("own", a1),("last_reports", a2),("line_prices", a3),("marks", v)]:List (Str × V)):=by with_unfolding_all rfl
theorem fq_Ways_5 {v:V}:putF "ways" v ([("me", a0),("own", a1),("last_reports", a2),("line_prices", a3),("marks", a4)]:List (Str × V))=fs_Ways a0 a1 a2 a3 a4 v:=by with_unfolding_all rfl
end
abbrev s_better:Stmt:=stm 1
theorem sc_better:FnScope ["one","other"] ["one","other"] (defScope s_better):=⟨rfl,rfl,rfl,by decide +kernel,rfl,by decide +kernel,by decide +kernel⟩
abbrev s_Ways___init__:Stmt:=inClass (stm 2) 0
theorem sc_Ways___init__:FnScope ["self","me"] ["self","me"] (defScope s_Ways___init__):=⟨rfl,rfl,rfl,by decide +kernel,rfl,by decide +kernel,by decide +kernel⟩
abbrev s_Ways_raise_own:Stmt:=inClass (stm 2) 1
theorem sc_Ways_raise_own:FnScope ["self"] ["self"] (defScope s_Ways_raise_own):=⟨rfl,rfl,rfl,by decide +kernel,rfl,by decide +kernel,by decide +kernel⟩
abbrev s_Ways_priced:Stmt:=inClass (stm 2) 3
theorem sc_Ways_priced:FnScope ["self","neighbour","price"] ["self","neighbour","price"] (defScope s_Ways_priced):=⟨rfl,rfl,rfl,by decide +kernel,rfl,by decide +kernel,by decide +kernel⟩
abbrev s_Ways_next_of:Stmt:=inClass (stm 2) 10
theorem sc_Ways_next_of:FnScope ["self","goal","way"] ["self","goal"] (defScope s_Ways_next_of):=⟨rfl,rfl,rfl,by decide +kernel,rfl,by decide +kernel,by decide +kernel⟩
abbrev s_Ways_price_of:Stmt:=inClass (stm 2) 11
theorem sc_Ways_price_of:FnScope ["self","goal","way"] ["self","goal"] (defScope s_Ways_price_of):=⟨rfl,rfl,rfl,by decide +kernel,rfl,by decide +kernel,by decide +kernel⟩
abbrev s_Ways_mark_of:Stmt:=inClass (stm 2) 12
theorem sc_Ways_mark_of:FnScope ["self","goal"] ["self","goal"] (defScope s_Ways_mark_of):=⟨rfl,rfl,rfl,by decide +kernel,rfl,by decide +kernel,by decide +kernel⟩
abbrev s_Ways_report_of:Stmt:=inClass (stm 2) 9
theorem sc_Ways_report_of:FnScope ["self","goal","way","generation"] ["self","goal"] (defScope s_Ways_report_of):=⟨rfl,rfl,rfl,by decide +kernel,rfl,by decide +kernel,by decide +kernel⟩
abbrev s_Ways_better_mark:Stmt:=inClass (stm 2) 7
theorem sc_Ways_better_mark:FnScope ["self","goal","mark"] ["self","goal","mark"] (defScope s_Ways_better_mark):=⟨rfl,rfl,rfl,by decide +kernel,rfl,by decide +kernel,by decide +kernel⟩
abbrev s_Ways_may_take:Stmt:=inClass (stm 2) 5
theorem sc_Ways_may_take:FnScope ["self","goal","neighbour","report","mark"] ["self","goal","neighbour","report"] (defScope s_Ways_may_take):=⟨rfl,rfl,rfl,by decide +kernel,rfl,by decide +kernel,by decide +kernel⟩
abbrev s_Ways_best_way:Stmt:=inClass (stm 2) 6
theorem sc_Ways_best_way:FnScope ["self","goal","least","neighbour","report","choice"] ["self","goal"] (defScope s_Ways_best_way):=⟨rfl,rfl,rfl,by decide +kernel,rfl,by decide +kernel,by decide +kernel⟩
abbrev s_Ways_settle:Stmt:=inClass (stm 2) 4
theorem sc_Ways_settle:FnScope ["self","goal","way"] ["self"] (defScope s_Ways_settle):=⟨rfl,rfl,rfl,by decide +kernel,rfl,by decide +kernel,by decide +kernel⟩
abbrev s_Ways_heard:Stmt:=inClass (stm 2) 2
theorem sc_Ways_heard:FnScope ["self","neighbour","reports","goal","generation","price","by_neighbours"] ["self","neighbour","reports"] (defScope s_Ways_heard):=⟨rfl,rfl,rfl,by decide +kernel,rfl,by decide +kernel,by decide +kernel⟩
abbrev s_Ways_reports:Stmt:=inClass (stm 2) 8
theorem sc_Ways_reports:FnScope ["self"] ["self"] (defScope s_Ways_reports):=⟨rfl,rfl,rfl,by decide +kernel,rfl,by decide +kernel,by decide +kernel⟩
theorem cs_Ways_reports_0:CScope ["goal"] ["self"] { kind:=.function,names:=[(".0", .local),("goal", .local),("self", .free)],isGenerator:=false,isCoroutine:=false,more:=[] } (defScope s_Ways_reports):=⟨rfl,by decide +kernel,by decide +kernel,by decide +kernel,by decide +kernel,by decide +kernel⟩
abbrev Mk:=Int × Int
def bet (a b:Mk):Bool:=if a.1=b.1 then decide (a.2<b.2) else decide (b.1<a.1)
theorem valV_mem {kvs:List (Key × V)} {k:Key} {v:V} (h:valV kvs k=some v):k∈kvs.map (·.1):=by
  rw [valV,Option.map_eq_some_iff] at h
  obtain ⟨q,hq,_⟩:=h
  have h2:=List.find?_some hq
  exact List.mem_map.mpr ⟨q,List.mem_of_find?_eq_some hq,of_decide_eq_true h2⟩
theorem valV_of_mem {kvs:List (Key × V)} {k:Key} (h:k∈kvs.map (·.1)):∃ v,valV kvs k=some v:=by
  induction kvs with
  | nil=>cases h
  | cons p r ih=>
    by_cases e:p.1=k
    · exact ⟨_,valV_pos e⟩
    · rw [valV_neg e]
      rcases List.mem_cons.mp h with z|z
      · exact absurd z.symm e
      · exact ih z
theorem putK_keys {kvs:List (Key × V)} {k:Key} {v u:V} (h:valV kvs k=some u):(putK kvs k v).map (·.1)=kvs.map (·.1):=by
  unfold putK
  rw [valV_any,h]
  simp only [Option.isSome_some,if_true,List.map_map]
  apply List.map_congr_left
  intro q _
  show (if q.1=k then (q.1,v) else q).1=q.1
  split <;> rfl
theorem nd_put {kvs:List (Key × V)} {k:Key} {v:V} (hn:(kvs.map (·.1)).Nodup):((putK kvs k v).map (·.1)).Nodup:=by
  cases h:valV kvs k with
  | none=>exact nd_putK v hn h
  | some u=>rw [putK_keys h]; exact hn
theorem putK_key {kvs:List (Key × V)} {k:Key} {v:V} {q:Key × V} (h:q∈putK kvs k v):q.1=k∨q.1∈kvs.map (·.1):=by
  cases e:valV kvs k with
  | none=>
    rw [putK_new v e] at h
    rcases List.mem_append.mp h with h|h
    · exact .inr (List.mem_map_of_mem h)
    · rw [List.mem_singleton] at h
      exact .inl (by rw [h])
  | some u=>
    have:q.1∈(putK kvs k v).map (·.1):=List.mem_map_of_mem h
    rw [putK_keys e] at this
    exact .inr this
theorem nd_le {α:Type} [DecidableEq α]:∀ {l1 l2:List α},l1.Nodup→(∀ x∈l1,x∈l2)→l1.length≤l2.length
  | [],_,_,_=>Nat.zero_le _
  | a::r,l2,hn,h=>by
    rw [List.nodup_cons] at hn
    have ha:=h a (.head _)
    have:=nd_le (l2:=l2.erase a) hn.2 fun x hx=>(List.mem_erase_of_ne (fun e=>by subst e; exact hn.1 hx)).mpr (h x (.tail _ hx))
    rw [List.length_erase_of_mem ha] at this
    have:0<l2.length:=List.length_pos_of_mem ha
    simp only [lZ1]
    omega
structure DM {α:Type} (dom:List Int) (kvs:List (Key × V)) (f:Int→Option α) (R:V→α→Prop):Prop where
  no:∀ k,f k=none→valV kvs (Sum.inl k)=none
  so:∀ k a,f k=some a→∃ v,valV kvs (Sum.inl k)=some v∧R v a
  nd:(kvs.map (·.1)).Nodup
  ks:∀ q∈kvs,∃ k∈dom,q.1=Sum.inl k
section
variable {α:Type} {dom:List Int} {kvs:List (Key × V)} {f:Int→Option α} {R R':V→α→Prop}
theorem DM.mono (h:DM dom kvs f R) (m:∀ v a,R v a→R' v a):DM dom kvs f R':=⟨h.no,fun k a e=>by obtain ⟨v,h1,h2⟩:=h.so k a e; exact ⟨v,h1,m v a h2⟩,h.nd,h.ks⟩
theorem DM.nil:DM dom [] (fun _=>(none:Option α)) R:=⟨fun _ _=>valV_nil,(fun k a e=>nomatch e),List.nodup_nil,(fun q hq=>nomatch hq)⟩
theorem DM.put (h:DM dom kvs f R) {k:Int} {v:V} {a:α} (hk:k∈dom) (r:R v a):DM dom (putK kvs (Sum.inl k) v) (fun j=>if j=k then some a else f j) R:=by
  refine ⟨fun j e=>?_,fun j b e=>?_,nd_put h.nd,fun q hq=>?_⟩
  · split at e
    · cases e
    · next hj=>rw [valV_put,if_neg (fun z=>hj (Sum.inl.inj z))]; exact h.no j e
  · split at e
    · next hj=>cases e; subst hj; exact ⟨v,by rw [valV_put,if_pos rfl],r⟩
    · next hj=>rw [valV_put,if_neg (fun z=>hj (Sum.inl.inj z))]; exact h.so j b e
  · rcases putK_key hq with z|z
    · exact ⟨k,hk,z⟩
    · obtain ⟨q2,h1,h2⟩:=List.mem_map.mp z
      obtain ⟨j,hj,e⟩:=h.ks q2 h1
      exact ⟨j,hj,by rw [← h2]; exact e⟩
theorem DM.len (h:DM dom kvs f R):kvs.length≤dom.length:=by
  have:=nd_le (l2:=dom.map (Sum.inl:Int→Key)) h.nd fun k hk=>by
    obtain ⟨q,hq,rfl⟩:=List.mem_map.mp hk
    obtain ⟨j,hj,e⟩:=h.ks q hq
    rw [e]
    exact List.mem_map_of_mem hj
  rw [List.length_map,List.length_map] at this
  exact this
theorem DM.key (h:DM dom kvs f R) {k:Int}:(Sum.inl k:Key)∈kvs.map (·.1)↔f k≠none:=by
  constructor
  · intro hm e
    obtain ⟨v,hv⟩:=valV_of_mem hm
    rw [h.no k e] at hv
    cases hv
  · intro e
    cases hf:f k with
    | none=>exact absurd hf e
    | some a=>
      obtain ⟨v,hv,_⟩:=h.so k a hf
      exact valV_mem hv
end
abbrev Rp:=Int × Option Int
structure WSt where
  me:Int
  own:Int
  rep:Int→Option (Int→Option Rp)
  lp:Int→Option (Option Int)
  mar:Int→Option Mk
  wy:Int→Option (Option (Int × Int × Int))
structure WA where
  x:Addr
  dx:Addr
  pr:Addr
  pp:Addr
  pm:Addr
  pw:Addr
  ins:List (Int × Addr)
def ads (a:WA):List Addr:=[a.pr,a.pp,a.pm,a.pw]++a.ins.map (·.2)
def rkv (l:List (Int × Addr)):List (Key × V):=l.map fun q=>(Sum.inl q.1,V.ref q.2)
def RMk (H:Hp) (v:V) (m:Mk):Prop:=∃ t,v=.ref t∧H t=some (.tup [.int m.1,.int m.2])
def RRp (H:Hp) (v:V) (m:Rp):Prop:=∃ t,v=.ref t∧H t=some (.tup [.int m.1,optV m.2])
def RWy (H:Hp) (v:V):Option (Int × Int × Int)→Prop
  | none=>v=.non
  | some m=>∃ t,v=.ref t∧H t=some (.tup [.int m.1,.int m.2.1,.int m.2.2])
def RLp (v:V) (o:Option Int):Prop:=v=optV o
structure WaysAt (C:Addr) (dom:List Int) (H:Hp) (a:WA) (st:WSt):Prop where
  inst:H a.x=some (.ins C a.dx (fs_Ways (.int st.me) (.int st.own) (.ref a.pr) (.ref a.pp) (.ref a.pm) (.ref a.pw)))
  hr:H a.pr=some (.dK (rkv a.ins))
  rnd:(a.ins.map (·.1)).Nodup
  rdm:∀ q∈a.ins,q.1∈dom∧q.1≠st.me
  rin:∀ q∈a.ins,∃ f kvs,st.rep q.1=some f∧H q.2=some (.dK kvs)∧DM dom kvs f (RRp H)
  rno:∀ k,k ∉ a.ins.map (·.1)→st.rep k=none
  hp:∃ kvs,H a.pp=some (.dK kvs)∧DM dom kvs st.lp RLp
  hm:∃ kvs,H a.pm=some (.dK kvs)∧DM dom kvs st.mar (RMk H)
  hw:∃ kvs,H a.pw=some (.dK kvs)∧DM dom kvs st.wy (RWy H)
  nd:(ads a).Nodup
  msub:∀ k,st.rep k=none→st.mar k=none∧st.wy k=none
  dlen:dom.length≤20
section
variable {dom:List Int} {S:List Addr} {H H':Hp} {a:WA} {st:WSt}
theorem RMk.keep {v:V} {m:Mk} (h:RMk H v m) (k:Keep S H H') (hs:∀ b∈S,NoT H b):RMk H' v m:=by
  obtain ⟨t,h1,h2⟩:=h
  exact ⟨t,h1,k _ _ h2 fun z=>hs t z _ h2⟩
theorem RRp.keep {v:V} {m:Rp} (h:RRp H v m) (k:Keep S H H') (hs:∀ b∈S,NoT H b):RRp H' v m:=by
  obtain ⟨t,h1,h2⟩:=h
  exact ⟨t,h1,k _ _ h2 fun z=>hs t z _ h2⟩
theorem RWy.keep {v:V} {m:Option (Int × Int × Int)} (h:RWy H v m) (k:Keep S H H') (hs:∀ b∈S,NoT H b):RWy H' v m:=by
  cases m with
  | none=>exact h
  | some m=>
    obtain ⟨t,h1,h2⟩:=h
    exact ⟨t,h1,k _ _ h2 fun z=>hs t z _ h2⟩
theorem WaysAt.keep (Y:WaysAt C dom H a st) (k:Keep S H H') (hs:∀ b∈S,NoT H b) (n1:a.x ∉ S) (n2:∀ b∈ads a,b ∉ S):WaysAt C dom H' a st:=by
  have m1:a.pr∈ads a:=by simp [ads]
  have m2:a.pp∈ads a:=by simp [ads]
  have m3:a.pm∈ads a:=by simp [ads]
  have m4:a.pw∈ads a:=by simp [ads]
  refine ⟨k _ _ Y.inst n1,k _ _ Y.hr (n2 _ m1),Y.rnd,Y.rdm,fun q hq=>?_,Y.rno,?_,?_,?_,Y.nd,Y.msub,Y.dlen⟩
  · obtain ⟨f,kvs,h1,h2,h3⟩:=Y.rin q hq
    refine ⟨f,kvs,h1,k _ _ h2 (n2 _ ?_),h3.mono fun v a h=>h.keep k hs⟩
    unfold ads
    exact List.mem_append_right _ (List.mem_map_of_mem hq)
  · obtain ⟨kvs,h1,h2⟩:=Y.hp
    exact ⟨kvs,k _ _ h1 (n2 _ m2),h2⟩
  · obtain ⟨kvs,h1,h2⟩:=Y.hm
    exact ⟨kvs,k _ _ h1 (n2 _ m3),h2.mono fun v a h=>h.keep k hs⟩
  · obtain ⟨kvs,h1,h2⟩:=Y.hw
    exact ⟨kvs,k _ _ h1 (n2 _ m4),h2.mono fun v a h=>h.keep k hs⟩
theorem WaysAt.same (Y:WaysAt C dom H a st) (s:Same H H'):WaysAt C dom H' a st:=Y.keep (S:=[]) s.keep (fun _ z=>nomatch z) (by simp) (fun _ _=>by simp)
theorem WaysAt.noT (Y:WaysAt C dom H a st):∀ b∈ads a,NoT H b:=fun b hb=>by
  unfold ads at hb
  simp only [List.cons_append,List.nil_append,List.mem_cons] at hb
  rcases hb with rfl|rfl|rfl|rfl|hb
  · exact .of_dK Y.hr
  · obtain ⟨kvs,h1,_⟩:=Y.hp; exact .of_dK h1
  · obtain ⟨kvs,h1,_⟩:=Y.hm; exact .of_dK h1
  · obtain ⟨kvs,h1,_⟩:=Y.hw; exact .of_dK h1
  · obtain ⟨q,hq,rfl⟩:=List.mem_map.mp hb
    obtain ⟨f,kvs,_,h2,_⟩:=Y.rin q hq
    exact .of_dK h2
theorem WaysAt.dic (Y:WaysAt C dom H a st):∀ b∈ads a,∃ kvs,H b=some (.dK kvs):=fun b hb=>by
  unfold ads at hb
  simp only [List.cons_append,List.nil_append,List.mem_cons] at hb
  rcases hb with rfl|rfl|rfl|rfl|hb
  · exact ⟨_,Y.hr⟩
  · obtain ⟨kvs,h1,_⟩:=Y.hp; exact ⟨_,h1⟩
  · obtain ⟨kvs,h1,_⟩:=Y.hm; exact ⟨_,h1⟩
  · obtain ⟨kvs,h1,_⟩:=Y.hw; exact ⟨_,h1⟩
  · obtain ⟨q,hq,rfl⟩:=List.mem_map.mp hb
    obtain ⟨f,kvs,_,h2,_⟩:=Y.rin q hq
    exact ⟨_,h2⟩
theorem WaysAt.xn (Y:WaysAt C dom H a st):a.x ∉ ads a:=fun z=>by
  obtain ⟨kvs,h⟩:=Y.dic _ z
  rw [Y.inst] at h
  cases h
theorem WaysAt.ne4 (Y:WaysAt C dom H a st):a.pr≠a.pp∧a.pr≠a.pm∧a.pr≠a.pw∧a.pp≠a.pm∧a.pp≠a.pw∧a.pm≠a.pw:=by
  have:=Y.nd
  unfold ads at this
  simp only [List.cons_append,List.nil_append,List.nodup_cons,List.mem_cons,not_or] at this
  exact ⟨this.1.1,this.1.2.1,this.1.2.2.1,this.2.1.1,this.2.1.2.1,this.2.2.1.1⟩
end
def markOf (st:WSt) (g:Int):Option Mk:=if g=st.me then some (st.own,0) else st.mar g
def wayOf (st:WSt) (g:Int):Option (Int × Int × Int):=(st.wy g).join
def priceOf (st:WSt) (g:Int):Option Int:=if g=st.me then some 0 else (wayOf st g).map (·.2.1)
def nextOf (st:WSt) (g:Int):Option Int:=(wayOf st g).map (·.2.2)
def genOf (st:WSt) (g:Int):Int:=match wayOf st g with
  | none=>((markOf st g).map (·.1)).getD 0
  | some w=>w.1
end
end K15
namespace K15
open PySem L2
section
variable {P:Program} {w:World} {K:PySem.W.Frag} {mg:Str→Option Value} {base:Heap} {C:Addr}
def sp_better:Sp:=fun vs H Q _=>∃ (a b:Addr) (m n:Mk),vs=[.ref a,.ref b]∧H a=some (.tup [.int m.1,.int m.2])∧H b=some (.tup [.int n.1,.int n.2])∧Q (.bl (bet m n)) H
theorem own_better (D:Def K mg "better" s_better):Own P w K mg base 1 "better" ["one","other"] sp_better:=by
  refine D.own sc_better (fun _ _ _ _ _ _ us hl=>match us,hl with|[_,_],_=>rfl) (fun vs H Q E h=>?_) (fun f cdv A outer s H vs Q E hr h=>?_)
  · obtain ⟨a,b,m,n,rfl,_⟩:=h
    rfl
  · obtain ⟨a,b,m,n,rfl,ea,eb,q⟩:=h
    have hu:=hr.units
    have hu1:(A.deeper (PyProof.Rows.envOfC "better" (defScope s_better) s.heap.objs.size f cdv)).units+1<cLine:=by omega
    refine ⟨_,(@pss_cons _ _ _ _ _ (@ps_if _ _ _ _ _ _ _ _ (@pt_cmpR _ _ _ _ _ _ _ _ op_ne (@pe_ix _ _ _ _ _ _ _ (ix_get hu1) (@pv _ 0 _ _ (by rfl) (by first|exact Or.inl rfl|exact Or.inr (Or.inl rfl)|exact Or.inr (Or.inr rfl)) (by decide) (by decide)) (@pe_int _ _ _ _) (fun _ _=>rfl)) (@pe_ix _ _ _ _ _ _ _ (ix_get hu1) (@pv _ 1 _ _ (by rfl) (by first|exact Or.inl rfl|exact Or.inr (Or.inl rfl)|exact Or.inr (Or.inr rfl)) (by decide) (by decide)) (@pe_int _ _ _ _) (fun _ _=>rfl)) (nomark _)) (@pss_one _ _ _ (@ps_ret _ _ _ _ (@pe_cmpR _ _ _ _ _ _ _ _ op_gt (@pe_ix _ _ _ _ _ _ _ (ix_get hu1) (@pv _ 0 _ _ (by rfl) (by first|exact Or.inl rfl|exact Or.inr (Or.inl rfl)|exact Or.inr (Or.inr rfl)) (by decide) (by decide)) (@pe_int _ _ _ _) (fun _ _=>rfl)) (@pe_ix _ _ _ _ _ _ _ (ix_get hu1) (@pv _ 1 _ _ (by rfl) (by first|exact Or.inl rfl|exact Or.inr (Or.inl rfl)|exact Or.inr (Or.inr rfl)) (by decide) (by decide)) (@pe_int _ _ _ _) (fun _ _=>rfl)) (nomark _)))) (@pss_nil _)) (@pss_one _ _ _ (@ps_ret _ _ _ _ (@pe_cmpR _ _ _ _ _ _ _ _ op_lt (@pe_ix _ _ _ _ _ _ _ (ix_get hu1) (@pv _ 0 _ _ (by rfl) (by first|exact Or.inl rfl|exact Or.inr (Or.inl rfl)|exact Or.inr (Or.inr rfl)) (by decide) (by decide)) (@pe_int _ _ _ _) (fun _ _=>rfl)) (@pe_ix _ _ _ _ _ _ _ (ix_get hu1) (@pv _ 1 _ _ (by rfl) (by first|exact Or.inl rfl|exact Or.inr (Or.inl rfl)|exact Or.inr (Or.inr rfl)) (by decide) (by decide)) (@pe_int _ _ _ _) (fun _ _=>rfl)) (nomark _))))),?_⟩
    simp (maxSteps:=1000000) only [rGet,getO_t,atI_0,atI_1,Nat.reduceSub,Nat.reduceAdd,rNe_ii,tSeq,eZ1,tIfS,tTest,tOp,tVar,tC,rI0,tRet,tNext,L2.start,mZ1,mZ0,lZ1,lZ0,List.replicate,gZ0,gZ1,oZ0,eZ0,V.int.injEq,V.bl.injEq,V.ref.injEq,aZ0,ea,eb]
    unfold bet at q
    by_cases h:m.1=n.1
    · rw [if_pos h] at q
      simp only [h,decide_true,Bool.not_true,Bool.false_eq_true,if_false]
      exact q
    · rw [if_neg h] at q
      simp only [h,decide_false,Bool.not_false,if_true]
      exact q
def sp_winit (C:Addr):Sp:=fun vs H Q _=>∃ (dom:List Int) (x dx:Addr) (me:Int),vs=[.ref x,.int me]∧H x=some (.ins C dx [])∧dom.length≤20∧∀ a H',a.x=x→a.ins=[]→(∀ b∈ads a,H b=none)→WaysAt C dom H' a ⟨me,0,fun _=>none,fun _=>none,fun _=>none,fun _=>none⟩→Keep [x] H H'→Q .non H'
set_option maxHeartbeats 2000000 in
theorem own_winit (D:DefI K C "Ways.__init__" s_Ways___init__) (T_Ways:ClsD K mg "Ways" C at_Ways):OwnI P w K mg base 1 C ["self","me"] (sp_winit C):=by
  refine D.own sc_Ways___init__ (fun _ _ _ _ _ _ us hl=>match us,hl with|[_,_],_=>rfl) (fun vs H Q E h=>?_) (fun f cdv A outer s H vs Q E hr h=>?_)
  · obtain ⟨dom,x,dx,me,rfl,_⟩:=h
    rfl
  · obtain ⟨dom,x,dx,me,rfl,e,hd,q⟩:=h
    refine ⟨_,(@pss_cons _ _ _ _ _ (@ps_fld _ _ _ _ _ _ _ _ (@pv _ 0 _ _ (by rfl) (by first|exact Or.inl rfl|exact Or.inr (Or.inl rfl)|exact Or.inr (Or.inr rfl)) (by decide) (by decide)) (@pv _ 1 _ _ (by rfl) (by first|exact Or.inl rfl|exact Or.inr (Or.inl rfl)|exact Or.inr (Or.inr rfl)) (by decide) (by decide)) rfl) (@pss_cons _ _ _ _ _ (@ps_fld _ _ _ _ _ _ _ _ (@pv _ 0 _ _ (by rfl) (by first|exact Or.inl rfl|exact Or.inr (Or.inl rfl)|exact Or.inr (Or.inr rfl)) (by decide) (by decide)) (@pe_int _ _ _ _) rfl) (@pss_cons _ _ _ _ _ (@ps_fld _ _ _ _ _ _ _ _ (@pv _ 0 _ _ (by rfl) (by first|exact Or.inl rfl|exact Or.inr (Or.inl rfl)|exact Or.inr (Or.inr rfl)) (by decide) (by decide)) (@pe_dnewK _ _) rfl) (@pss_cons _ _ _ _ _ (@ps_fld _ _ _ _ _ _ _ _ (@pv _ 0 _ _ (by rfl) (by first|exact Or.inl rfl|exact Or.inr (Or.inl rfl)|exact Or.inr (Or.inr rfl)) (by decide) (by decide)) (@pe_dnewK _ _) rfl) (@pss_cons _ _ _ _ _ (@ps_fld _ _ _ _ _ _ _ _ (@pv _ 0 _ _ (by rfl) (by first|exact Or.inl rfl|exact Or.inr (Or.inl rfl)|exact Or.inr (Or.inr rfl)) (by decide) (by decide)) (@pe_dnewK _ _) rfl) (@pss_one _ _ _ (@ps_fld _ _ _ _ _ _ _ _ (@pv _ 0 _ _ (by rfl) (by first|exact Or.inl rfl|exact Or.inr (Or.inl rfl)|exact Or.inr (Or.inr rfl)) (by decide) (by decide)) (@pe_dnewK _ _) rfl))))))),?_⟩
    simp (maxSteps:=1000000) only [tDNewK,Nat.reduceSub,upd_same,upd_upd,Nat.reduceLT,HO.ins.injEq,Nat.reduceAdd,sFld,cxOf_K,tSeq,eZ1,tVar,tC,L2.start,mZ1,mZ0,lZ1,lZ0,List.replicate,gZ0,gZ1,oZ0,eZ0,V.ref.injEq,true_and,and_assoc,aZ0,e,T_Ways.cl,T_Ways.no "me" (by decide),T_Ways.no "own" (by decide),fq_Ways_0,fq_Ways_1]
    generalize z0:upd H x _=H0
    have e0:=(congrFun z0.symm x).trans upd_same
    have k0:Keep [x] H H0:=by rw [← z0]; exact Keep.refl.upd (.inl (.head _))
    intro p1 n1
    generalize z1:upd H0 p1 _=H1
    obtain ⟨s1,e1⟩:=new_same z1 n1
    have ex1:=s1 _ _ e0
    simp (maxSteps:=1000000) only [Nat.reduceLT,HO.ins.injEq,Nat.reduceAdd,eZ1,lZ1,lZ0,oZ0,eZ0,true_and,and_assoc,ex1,T_Ways.cl,T_Ways.no "last_reports" (by decide),fq_Ways_2]
    have nx1:p1≠x:=Ne.symm (ne_of_none e0 n1)
    generalize z2:upd H1 x _=H2
    have e2:=(congrFun z2.symm x).trans upd_same
    have k2:Keep [x] H1 H2:=by rw [← z2]; exact Keep.refl.upd (.inl (.head _))
    have e12:=k2 _ _ e1 (by simpa using nx1)
    intro p3 n3
    generalize z3:upd H2 p3 _=H3
    obtain ⟨s3,e3⟩:=new_same z3 n3
    have ex3:=s3 _ _ e2
    simp (maxSteps:=1000000) only [Nat.reduceLT,HO.ins.injEq,Nat.reduceAdd,eZ1,lZ1,lZ0,oZ0,eZ0,true_and,and_assoc,ex3,T_Ways.cl,T_Ways.no "line_prices" (by decide),fq_Ways_3]
    have nx3:p3≠x:=Ne.symm (ne_of_none e2 n3)
    generalize z4:upd H3 x _=H4
    have e4:=(congrFun z4.symm x).trans upd_same
    have k4:Keep [x] H3 H4:=by rw [← z4]; exact Keep.refl.upd (.inl (.head _))
    have e14:=k4 _ _ (s3 _ _ e12) (by simpa using nx1)
    have e34:=k4 _ _ e3 (by simpa using nx3)
    intro p5 n5
    generalize z5:upd H4 p5 _=H5
    obtain ⟨s5,e5⟩:=new_same z5 n5
    have ex5:=s5 _ _ e4
    simp (maxSteps:=1000000) only [Nat.reduceLT,HO.ins.injEq,Nat.reduceAdd,eZ1,lZ1,lZ0,oZ0,eZ0,true_and,and_assoc,ex5,T_Ways.cl,T_Ways.no "marks" (by decide),fq_Ways_4]
    have nx5:p5≠x:=Ne.symm (ne_of_none e4 n5)
    generalize z6:upd H5 x _=H6
    have e6:=(congrFun z6.symm x).trans upd_same
    have k6:Keep [x] H5 H6:=by rw [← z6]; exact Keep.refl.upd (.inl (.head _))
    have e16:=k6 _ _ (s5 _ _ e14) (by simpa using nx1)
    have e36:=k6 _ _ (s5 _ _ e34) (by simpa using nx3)
    have e56:=k6 _ _ e5 (by simpa using nx5)
    intro p7 n7
    generalize z7:upd H6 p7 _=H7
    obtain ⟨s7,e7⟩:=new_same z7 n7
    have ex7:=s7 _ _ e6
    simp (maxSteps:=1000000) only [Nat.reduceLT,HO.ins.injEq,Nat.reduceAdd,eZ1,lZ1,lZ0,oZ0,eZ0,true_and,and_assoc,ex7,T_Ways.cl,T_Ways.no "ways" (by decide),fq_Ways_5]
    have nx7:p7≠x:=Ne.symm (ne_of_none e6 n7)
    have k67:Keep [x] H (upd H7 x (.ins C dx (fs_Ways (.int me) (.int 0) (.ref p1) (.ref p3) (.ref p5) (.ref p7)))):=((((((((k0.same s1).trans k2).same s3).trans k4).same s5).trans k6).same s7).upd (.inl (.head _)))
    have f7:H p7=none:=((((((k0.same s1).trans k2).same s3).trans k4).same s5).trans k6).free n7 (by simpa using nx7)
    have f5:H p5=none:=((((k0.same s1).trans k2).same s3).trans k4).free n5 (by simpa using nx5)
    have f3:H p3=none:=((k0.same s1).trans k2).free n3 (by simpa using nx3)
    have f1:H p1=none:=k0.free n1 (by simpa using nx1)
    refine q ⟨x,dx,p1,p3,p5,p7,[]⟩ _ rfl rfl (fun b hb=>?_) ⟨upd_same,by rw [upd_ne nx1]; exact s7 _ _ e16,List.nodup_nil,(fun q hq=>nomatch hq),(fun q hq=>nomatch hq),(fun k _=>rfl),⟨[],by rw [upd_ne nx3]; exact s7 _ _ e36,DM.nil⟩,⟨[],by rw [upd_ne nx5]; exact s7 _ _ e56,DM.nil⟩,⟨[],by rw [upd_ne nx7]; exact e7,DM.nil⟩,?_,(fun k _=>⟨rfl,rfl⟩),hd⟩ k67
    · simp only [ads,mZ0,aZ0,List.mem_cons,List.not_mem_nil,or_false] at hb
      rcases hb with rfl|rfl|rfl|rfl
      · exact f1
      · exact f3
      · exact f5
      · exact f7
    · have a1:p1≠p3:=ne_of_none e12 n3
      have a2:p1≠p5:=ne_of_none e14 n5
      have a3:p1≠p7:=ne_of_none e16 n7
      have a4:p3≠p5:=ne_of_none e34 n5
      have a5:p3≠p7:=ne_of_none e36 n7
      have a6:p5≠p7:=ne_of_none e56 n7
      simp [ads,a1,a2,a3,a4,a5,a6]
def sp_raise (C:Addr):Sp:=fun vs H Q _=>∃ (dom:List Int) (a:WA) (st:WSt),vs=[.ref a.x]∧WaysAt C dom H a st∧∀ H',WaysAt C dom H' a { st with own:=st.own+1 }→Keep [a.x] H H'→Q .non H'
theorem own_raise (D:DefM K C "raise_own" "Ways.raise_own" s_Ways_raise_own) (T_Ways:ClsD K mg "Ways" C at_Ways):OwnM P w K mg base 1 C "raise_own" ["self"] (sp_raise C):=by
  refine D.own sc_Ways_raise_own (fun _ _ _ _ _ _ us hl=>match us,hl with|[_],_=>rfl) (fun vs H Q E h=>?_) (fun f cdv A outer s H vs Q E hr h=>?_)
  · obtain ⟨dom,a,st,rfl,_⟩:=h
    rfl
  · obtain ⟨dom,a,st,rfl,Y,q⟩:=h
    have ex:=Y.inst
    refine ⟨_,(@pss_one _ _ _ (@ps_fld _ _ _ _ _ _ _ _ (@pv _ 0 _ _ (by rfl) (by first|exact Or.inl rfl|exact Or.inr (Or.inl rfl)|exact Or.inr (Or.inr rfl)) (by decide) (by decide)) (@pe_op _ _ _ _ _ _ _ _ op_add (@pe_fldK _ K _ _ _ _ (@pv _ 0 _ _ (by rfl) (by first|exact Or.inl rfl|exact Or.inr (Or.inl rfl)|exact Or.inr (Or.inr rfl)) (by decide) (by decide)) (by rfl) (by rfl)) (@pe_int _ _ _ _)) rfl)),?_⟩
    simp (maxSteps:=1000000) only [Nat.reduceSub,HO.ins.injEq,Nat.reduceAdd,tFld,sFld,cxOf_K,eZ1,tOp,tVar,tC,rI0,L2.start,mZ1,mZ0,lZ1,lZ0,List.replicate,gZ0,oZ0,eZ0,V.int.injEq,V.ref.injEq,true_and,and_assoc,aZ0,ex,T_Ways.cl,T_Ways.no "own" (by decide),fs_Ways_own,fl_Ways,fp_Ways_own]
    have k:Keep [a.x] H (upd H a.x (.ins C a.dx (fs_Ways (.int st.me) (.int (st.own+1)) (.ref a.pr) (.ref a.pp) (.ref a.pm) (.ref a.pw)))):=Keep.refl.upd (.inl (.head _))
    have hnT:∀ b∈[a.x],NoT H b:=noT1 fun xs z=>by rw [ex] at z; cases z
    have hout:∀ b∈ads a,b ∉ [a.x]:=fun b hb z=>by
      rw [List.mem_singleton] at z
      subst z
      exact Y.xn hb
    have m1:a.pr∈ads a:=by simp [ads]
    have m2:a.pp∈ads a:=by simp [ads]
    have m3:a.pm∈ads a:=by simp [ads]
    have m4:a.pw∈ads a:=by simp [ads]
    refine q _ ⟨upd_same,k _ _ Y.hr (hout _ m1),Y.rnd,Y.rdm,fun q hq=>?_,Y.rno,?_,?_,?_,Y.nd,Y.msub,Y.dlen⟩ k
    · obtain ⟨f,kvs,h1,h2,h3⟩:=Y.rin q hq
      exact ⟨f,kvs,h1,k _ _ h2 (hout _ (by unfold ads; exact List.mem_append_right _ (List.mem_map_of_mem hq))),h3.mono fun v a h=>h.keep k hnT⟩
    · obtain ⟨kvs,h1,h2⟩:=Y.hp
      exact ⟨kvs,k _ _ h1 (hout _ m2),h2⟩
    · obtain ⟨kvs,h1,h2⟩:=Y.hm
      exact ⟨kvs,k _ _ h1 (hout _ m3),h2.mono fun v a h=>h.keep k hnT⟩
    · obtain ⟨kvs,h1,h2⟩:=Y.hw
      exact ⟨kvs,k _ _ h1 (hout _ m4),h2.mono fun v a h=>h.keep k hnT⟩
theorem mem_pr (a:WA):a.pr∈ads a:=by simp [ads]
theorem mem_pp (a:WA):a.pp∈ads a:=by simp [ads]
theorem mem_pm (a:WA):a.pm∈ads a:=by simp [ads]
theorem mem_pw (a:WA):a.pw∈ads a:=by simp [ads]
theorem mem_in {a:WA} {q:Int × Addr} (h:q∈a.ins):q.2∈ads a:=by unfold ads; exact List.mem_append_right _ (List.mem_map_of_mem h)
theorem out4 {a:WA} {H:Hp} {dom:List Int} {st:WSt} (Y:WaysAt C dom H a st) {q:Int × Addr} (h:q∈a.ins):q.2≠a.pr∧q.2≠a.pp∧q.2≠a.pm∧q.2≠a.pw:=by
  have:=Y.nd
  unfold ads at this
  simp only [List.cons_append,List.nil_append,List.nodup_cons,List.mem_cons,not_or] at this
  have hm:q.2∈a.ins.map (·.2):=List.mem_map_of_mem h
  exact ⟨fun z=>this.1.2.2.2 (z ▸ hm),fun z=>this.2.1.2.2 (z ▸ hm),fun z=>this.2.2.1.2 (z ▸ hm),fun z=>this.2.2.2.1 (z ▸ hm)⟩
def sp_priced (C:Addr):Sp:=fun vs H Q _=>∃ (dom:List Int) (a:WA) (st:WSt) (nb:Int) (o:Option Int),vs=[.ref a.x,.int nb,optV o]∧WaysAt C dom H a st∧nb∈dom∧∀ H',WaysAt C dom H' a { st with lp:=fun j=>if j=nb then some o else st.lp j }→Keep [a.pp] H H'→Q .non H'
theorem own_priced (D:DefM K C "priced" "Ways.priced" s_Ways_priced) (T_Ways:ClsD K mg "Ways" C at_Ways):OwnM P w K mg base 1 C "priced" ["self","neighbour","price"] (sp_priced C):=by
  refine D.own sc_Ways_priced (fun _ _ _ _ _ _ us hl=>match us,hl with|[_,_,_],_=>rfl) (fun vs H Q E h=>?_) (fun f cdv A outer s H vs Q E hr h=>?_)
  · obtain ⟨dom,a,st,nb,o,rfl,_⟩:=h
    rfl
  · obtain ⟨dom,a,st,nb,o,rfl,Y,hnb,q⟩:=h
    have hu:=hr.units
    have hu1:(A.deeper (PyProof.Rows.envOfC "Ways.priced" (defScope s_Ways_priced) s.heap.objs.size f cdv)).units+1<cLine:=by omega
    have ex:=Y.inst
    obtain ⟨kvs,hpp,hdm⟩:=Y.hp
    have hln:kvs.length<sizeLine:=by have:=hdm.len; have:=Y.dlen; rw [sizeLine_eq]; omega
    refine ⟨_,(@pss_one _ _ _ (@ps_asg _ _ _ _ _ _ (@pv _ 2 _ _ (by rfl) (by first|exact Or.inl rfl|exact Or.inr (Or.inl rfl)|exact Or.inr (Or.inr rfl)) (by decide) (by decide)) (@pg_sub _ _ _ _ _ _ _ (@pe_fldK _ K _ _ _ _ (@pv _ 0 _ _ (by rfl) (by first|exact Or.inl rfl|exact Or.inr (Or.inl rfl)|exact Or.inr (Or.inr rfl)) (by decide) (by decide)) (by rfl) (by rfl)) (@pv _ 1 _ _ (by rfl) (by first|exact Or.inl rfl|exact Or.inr (Or.inl rfl)|exact Or.inr (Or.inr rfl)) (by decide) (by decide)) (@set_x _ hu1) (by intro _; rfl)) (by rfl) (by rfl) (by rfl))),?_⟩
    simp (maxSteps:=1000000) only [rSetX,setO_di',gSub,Nat.reduceSub,HO.ins.injEq,Nat.reduceAdd,tFld,eZ1,if_true,tVar,tAsg,L2.start,mZ1,mZ0,lZ1,lZ0,List.replicate,gZ0,gZ1,oZ0,eZ0,V.ref.injEq,true_and,and_assoc,aZ0,ex,hpp,hln,T_Ways.cl,T_Ways.no "line_prices" (by decide),fs_Ways_line_prices]
    have k:Keep [a.pp] H (upd H a.pp (.dK (putK kvs (Sum.inl nb) (optV o)))):=Keep.refl.upd (.inl (.head _))
    have hnT:∀ b∈[a.pp],NoT H b:=noT1 (.of_dK hpp)
    obtain ⟨n1,n2,n3,n4,n5,n6⟩:=Y.ne4
    refine q _ ⟨k _ _ Y.inst (by simp; exact fun z=>Y.xn (z ▸ mem_pp a)),k _ _ Y.hr (by simp; exact n1),Y.rnd,Y.rdm,fun q hq=>?_,Y.rno,⟨_,upd_same,hdm.put hnb rfl⟩,?_,?_,Y.nd,Y.msub,Y.dlen⟩ k
    · obtain ⟨f,kvs,h1,h2,h3⟩:=Y.rin q hq
      exact ⟨f,kvs,h1,k _ _ h2 (by simp; exact (out4 Y hq).2.1),h3.mono fun v a h=>h.keep k hnT⟩
    · obtain ⟨kvs,h1,h2⟩:=Y.hm
      exact ⟨kvs,k _ _ h1 (by simp; exact Ne.symm n4),h2.mono fun v a h=>h.keep k hnT⟩
    · obtain ⟨kvs,h1,h2⟩:=Y.hw
      exact ⟨kvs,k _ _ h1 (by simp; exact Ne.symm n5),h2.mono fun v a h=>h.keep k hnT⟩
theorem way_get {H:Hp} {a:WA} {st:WSt} {dom:List Int} {kvs:List (Key × V)} (h:DM dom kvs st.wy (RWy H)) (g:Int):∃ v,(valV kvs (Sum.inl g)).getD .non=v∧RWy H v (wayOf st g):=by
  unfold wayOf
  cases e:st.wy g with
  | none=>exact ⟨.non,by rw [h.no g e]; rfl,rfl⟩
  | some o=>
    obtain ⟨v,h1,h2⟩:=h.so g o e
    exact ⟨v,by rw [h1]; rfl,h2⟩
def sp_nextof (C:Addr):Sp:=fun vs H Q _=>∃ (dom:List Int) (a:WA) (st:WSt) (g:Int),vs=[.ref a.x,.int g]∧WaysAt C dom H a st∧Q (optV (nextOf st g)) H
theorem own_nextof (D:DefM K C "next_of" "Ways.next_of" s_Ways_next_of) (T_Ways:ClsD K mg "Ways" C at_Ways):OwnM P w K mg base 1 C "next_of" ["self","goal"] (sp_nextof C):=by
  refine D.own sc_Ways_next_of (fun _ _ _ _ _ _ us hl=>match us,hl with|[_,_],_=>rfl) (fun vs H Q E h=>?_) (fun f cdv A outer s H vs Q E hr h=>?_)
  · obtain ⟨dom,a,st,g,rfl,_⟩:=h
    rfl
  · obtain ⟨dom,a,st,g,rfl,Y,q⟩:=h
    have hu:=hr.units
    have hu1:(A.deeper (PyProof.Rows.envOfC "Ways.next_of" (defScope s_Ways_next_of) s.heap.objs.size f cdv)).units+1<cLine:=by omega
    have ex:=Y.inst
    obtain ⟨kvs,hpw,hdm⟩:=Y.hw
    obtain ⟨v,hv,rw'⟩:=way_get (a:=a) hdm g
    refine ⟨_,(@pss_cons _ _ _ _ _ (@ps_set _ _ 2 _ _ _ _ sc_Ways_next_of.nd rfl (by first|exact Or.inl rfl|exact Or.inr rfl) (@pe_dgX1 _ _ _ _ _ _ _ hu1 (@pe_fldK _ K _ _ _ _ (@pv _ 0 _ _ (by rfl) (by first|exact Or.inl rfl|exact Or.inr (Or.inl rfl)|exact Or.inr (Or.inr rfl)) (by decide) (by decide)) (by rfl) (by rfl)) (@pv _ 1 _ _ (by rfl) (by first|exact Or.inl rfl|exact Or.inr (Or.inl rfl)|exact Or.inr (Or.inr rfl)) (by decide) (by decide)) (by constructor <;> rfl)) (by rfl) (by first|exact .inl rfl|exact .inr rfl|assumption)) (@pss_one _ _ _ (@ps_ret _ _ _ _ (@pe_ifExp _ _ _ _ _ _ _ _ (@pt_cmpR _ _ _ _ _ _ _ _ op_isN (@pv _ 2 _ _ (by rfl) (by first|exact Or.inl rfl|exact Or.inr (Or.inl rfl)|exact Or.inr (Or.inr rfl)) (by decide) (by decide)) (@pe_non _ _ _) (nomark _)) (@pe_non _ _ _) (@pe_ix _ _ _ _ _ _ _ (ix_get hu1) (@pv _ 2 _ _ (by rfl) (by first|exact Or.inl rfl|exact Or.inr (Or.inl rfl)|exact Or.inr (Or.inr rfl)) (by decide) (by decide)) (@pe_int _ _ _ _) (fun _ _=>rfl)))))),?_⟩
    simp (maxSteps:=1000000) only [rGet,Nat.reduceSub,HO.dK.injEq,HO.ins.injEq,Nat.reduceAdd,tFld,tSeq,eZ1,tTest,tOp,tVar,tC,tRet,tAsg,gName,tIf,L2.start,mZ1,mZ0,lZ1,lZ0,List.replicate,List.cons_append,List.nil_append,gZ0,gZ1,sZ0,sZ1,oZ0,eZ0,V.bl.injEq,V.ref.injEq,true_and,and_assoc,ex,hpw,tDGX1,keyV_i,hv,T_Ways.cl,T_Ways.no "ways" (by decide),fs_Ways_ways]
    unfold nextOf at q
    cases e:wayOf st g with
    | none=>
      rw [e] at rw' q
      have rw':v=.non:=rw'
      subst rw'
      simp (maxSteps:=1000000) only [decide_true,if_true,exists_const,reduceCtorEq,false_and]
      exact q
    | some o=>
      rw [e] at rw' q
      obtain ⟨t,rfl,ht⟩:=rw'
      simp (maxSteps:=1000000) only [getO_t,atI_2,decide_false,if_false,Bool.false_eq_true,oZ0,eZ0,V.ref.injEq,reduceCtorEq,ht]
      exact q
def sp_priceof (C:Addr):Sp:=fun vs H Q _=>∃ (dom:List Int) (a:WA) (st:WSt) (g:Int),vs=[.ref a.x,.int g]∧WaysAt C dom H a st∧Q (optV (priceOf st g)) H
theorem own_priceof (D:DefM K C "price_of" "Ways.price_of" s_Ways_price_of) (T_Ways:ClsD K mg "Ways" C at_Ways):OwnM P w K mg base 1 C "price_of" ["self","goal"] (sp_priceof C):=by
  refine D.own sc_Ways_price_of (fun _ _ _ _ _ _ us hl=>match us,hl with|[_,_],_=>rfl) (fun vs H Q E h=>?_) (fun f cdv A outer s H vs Q E hr h=>?_)
  · obtain ⟨dom,a,st,g,rfl,_⟩:=h
    rfl
  · obtain ⟨dom,a,st,g,rfl,Y,q⟩:=h
    have hu:=hr.units
    have hu1:(A.deeper (PyProof.Rows.envOfC "Ways.price_of" (defScope s_Ways_price_of) s.heap.objs.size f cdv)).units+1<cLine:=by omega
    have ex:=Y.inst
    obtain ⟨kvs,hpw,hdm⟩:=Y.hw
    obtain ⟨v,hv,rw'⟩:=way_get (a:=a) hdm g
    refine ⟨_,(@pss_cons _ _ _ _ _ (@ps_if _ _ _ _ _ _ _ _ (@pt_cmpR _ _ _ _ _ _ _ _ op_eq (@pv _ 1 _ _ (by rfl) (by first|exact Or.inl rfl|exact Or.inr (Or.inl rfl)|exact Or.inr (Or.inr rfl)) (by decide) (by decide)) (@pe_fldK _ K _ _ _ _ (@pv _ 0 _ _ (by rfl) (by first|exact Or.inl rfl|exact Or.inr (Or.inl rfl)|exact Or.inr (Or.inr rfl)) (by decide) (by decide)) (by rfl) (by rfl)) (nomark _)) (@pss_one _ _ _ (@ps_ret _ _ _ _ (@pe_int _ _ _ _))) (@pss_nil _)) (@pss_cons _ _ _ _ _ (@ps_set _ _ 2 _ _ _ _ sc_Ways_price_of.nd rfl (by first|exact Or.inl rfl|exact Or.inr rfl) (@pe_dgX1 _ _ _ _ _ _ _ hu1 (@pe_fldK _ K _ _ _ _ (@pv _ 0 _ _ (by rfl) (by first|exact Or.inl rfl|exact Or.inr (Or.inl rfl)|exact Or.inr (Or.inr rfl)) (by decide) (by decide)) (by rfl) (by rfl)) (@pv _ 1 _ _ (by rfl) (by first|exact Or.inl rfl|exact Or.inr (Or.inl rfl)|exact Or.inr (Or.inr rfl)) (by decide) (by decide)) (by constructor <;> rfl)) (by rfl) (by first|exact .inl rfl|exact .inr rfl|assumption)) (@pss_one _ _ _ (@ps_ret _ _ _ _ (@pe_ifExp _ _ _ _ _ _ _ _ (@pt_cmpR _ _ _ _ _ _ _ _ op_isN (@pv _ 2 _ _ (by rfl) (by first|exact Or.inl rfl|exact Or.inr (Or.inl rfl)|exact Or.inr (Or.inr rfl)) (by decide) (by decide)) (@pe_non _ _ _) (nomark _)) (@pe_non _ _ _) (@pe_ix _ _ _ _ _ _ _ (ix_get hu1) (@pv _ 2 _ _ (by rfl) (by first|exact Or.inl rfl|exact Or.inr (Or.inl rfl)|exact Or.inr (Or.inr rfl)) (by decide) (by decide)) (@pe_int _ _ _ _) (fun _ _=>rfl))))))),?_⟩
    simp (maxSteps:=1000000) only [rGet,Nat.reduceSub,HO.dK.injEq,HO.ins.injEq,Nat.reduceAdd,tFld,rEq_ii,tSeq,eZ1,tIfS,tTest,tOp,tVar,tC,tRet,tAsg,gName,tNext,tIf,L2.start,mZ1,mZ0,lZ1,lZ0,List.replicate,List.cons_append,List.nil_append,gZ0,gZ1,sZ0,sZ1,oZ0,eZ0,V.bl.injEq,V.ref.injEq,true_and,and_assoc,ex,hpw,tDGX1,keyV_i,hv,T_Ways.cl,T_Ways.no "me" (by decide),T_Ways.no "ways" (by decide),fs_Ways_me,fs_Ways_ways]
    unfold priceOf at q
    refine ite2 (fun hg=>?_) (fun hg=>?_)
    · rw [if_pos (of_decide_eq_true hg)] at q
      exact q
    · rw [if_neg (fun z=>hg (decide_eq_true z))] at q
      cases e:wayOf st g with
      | none=>
        rw [e] at rw' q
        have rw':v=.non:=rw'
        subst rw'
        exact iteT q
      | some o=>
        rw [e] at rw' q
        obtain ⟨t,rfl,ht⟩:=rw'
        simp (maxSteps:=1000000) only [getO_t,atI_1,decide_false,if_false,Bool.false_eq_true,oZ0,eZ0,V.ref.injEq,reduceCtorEq,ht]
        exact q
def RMo (H:Hp) (v:V):Option Mk→Prop
  | none=>v=.non
  | some m=>RMk H v m
def sp_markof (C:Addr):Sp:=fun vs H Q _=>∃ (dom:List Int) (a:WA) (st:WSt) (g:Int),vs=[.ref a.x,.int g]∧WaysAt C dom H a st∧∀ v H',Same H H'→RMo H' v (markOf st g)→Q v H'
theorem own_markof (D:DefM K C "mark_of" "Ways.mark_of" s_Ways_mark_of) (T_Ways:ClsD K mg "Ways" C at_Ways):OwnM P w K mg base 1 C "mark_of" ["self","goal"] (sp_markof C):=by
  refine D.own sc_Ways_mark_of (fun _ _ _ _ _ _ us hl=>match us,hl with|[_,_],_=>rfl) (fun vs H Q E h=>?_) (fun f cdv A outer s H vs Q E hr h=>?_)
  · obtain ⟨dom,a,st,g,rfl,_⟩:=h
    rfl
  · obtain ⟨dom,a,st,g,rfl,Y,q⟩:=h
    have hu:=hr.units
    have hu1:(A.deeper (PyProof.Rows.envOfC "Ways.mark_of" (defScope s_Ways_mark_of) s.heap.objs.size f cdv)).units+1<cLine:=by omega
    have ex:=Y.inst
    obtain ⟨kvs,hpm,hdm⟩:=Y.hm
    refine ⟨_,(@pss_cons _ _ _ _ _ (@ps_if _ _ _ _ _ _ _ _ (@pt_cmpR _ _ _ _ _ _ _ _ op_eq (@pv _ 1 _ _ (by rfl) (by first|exact Or.inl rfl|exact Or.inr (Or.inl rfl)|exact Or.inr (Or.inr rfl)) (by decide) (by decide)) (@pe_fldK _ K _ _ _ _ (@pv _ 0 _ _ (by rfl) (by first|exact Or.inl rfl|exact Or.inr (Or.inl rfl)|exact Or.inr (Or.inr rfl)) (by decide) (by decide)) (by rfl) (by rfl)) (nomark _)) (@pss_one _ _ _ (@ps_ret _ _ _ _ (@pe_tup _ _ _ _ _ (@pa_cX _ _ _ _ _ (@pe_fldK _ K _ _ _ _ (@pv _ 0 _ _ (by rfl) (by first|exact Or.inl rfl|exact Or.inr (Or.inl rfl)|exact Or.inr (Or.inr rfl)) (by decide) (by decide)) (by rfl) (by rfl)) (@pa_cX _ _ _ _ _ (@pe_int _ _ _ _) (@pa_nil _) (by rfl)) (by rfl))))) (@pss_nil _)) (@pss_one _ _ _ (@ps_ret _ _ _ _ (@pe_dgX1 _ _ _ _ _ _ _ hu1 (@pe_fldK _ K _ _ _ _ (@pv _ 0 _ _ (by rfl) (by first|exact Or.inl rfl|exact Or.inr (Or.inl rfl)|exact Or.inr (Or.inr rfl)) (by decide) (by decide)) (by rfl) (by rfl)) (@pv _ 1 _ _ (by rfl) (by first|exact Or.inl rfl|exact Or.inr (Or.inl rfl)|exact Or.inr (Or.inr rfl)) (by decide) (by decide)) (by constructor <;> rfl))))),?_⟩
    simp (maxSteps:=1000000) only [Nat.reduceSub,HO.dK.injEq,HO.ins.injEq,Nat.reduceAdd,tFld,rEq_ii,tSeq,eZ1,tIfS,tTest,tOp,tVar,tC,tRet,tNext,tCons,tNil,tTup,L2.start,mZ1,mZ0,lZ1,lZ0,List.replicate,gZ0,gZ1,oZ0,eZ0,V.bl.injEq,V.ref.injEq,true_and,and_assoc,aZ0,ex,hpm,tDGX1,keyV_i,T_Ways.cl,T_Ways.no "me" (by decide),T_Ways.no "own" (by decide),T_Ways.no "marks" (by decide),fs_Ways_me,fs_Ways_own,fs_Ways_marks]
    unfold markOf at q
    refine ite2 (fun hg=>⟨by decide,?_⟩) (fun hg=>?_)
    · rw [if_pos (of_decide_eq_true hg)] at q
      intro p1 n1
      generalize z1:upd H p1 _=H1
      obtain ⟨s1,e1⟩:=new_same z1 n1
      exact q _ _ s1 ⟨p1,rfl,e1⟩
    · rw [if_neg (fun z=>hg (decide_eq_true z))] at q
      cases e:st.mar g with
      | none=>
        rw [hdm.no g e]
        rw [e] at q
        exact q _ _ (Same.refl _) rfl
      | some o=>
        obtain ⟨v,h1,h2⟩:=hdm.so g o e
        rw [h1]
        rw [e] at q
        exact q _ _ (Same.refl _) h2
end
end K15
namespace K15
open PySem L2
section
variable {P:Program} {w:World} {K:PySem.W.Frag} {mg:Str→Option Value} {base:Heap} {C:Addr}
def okM (m:Option Mk) (r:Mk):Bool:=match m with
  | none=>true
  | some m0=>bet r m0
def mayT (st:WSt) (g nb:Int) (r:Rp):Bool:=match st.lp nb,r.2 with
  | some (some _),some p=>okM (st.mar g) (r.1,p)
  | _,_=>false
structure Rd3 (C:Addr) (dom:List Int) (H:Hp) (a:WA) (st:WSt):Prop where
  inst:H a.x=some (.ins C a.dx (fs_Ways (.int st.me) (.int st.own) (.ref a.pr) (.ref a.pp) (.ref a.pm) (.ref a.pw)))
  hp:∃ kvs,H a.pp=some (.dK kvs)∧DM dom kvs st.lp RLp
  hm:∃ kvs,H a.pm=some (.dK kvs)∧DM dom kvs st.mar (RMk H)
def sp_may (C:Addr):Sp:=fun vs H Q _=>∃ (dom:List Int) (a:WA) (st:WSt) (g nb:Int) (t:Addr) (r:Rp),vs=[.ref a.x,.int g,.int nb,.ref t]∧Rd3 C dom H a st∧H t=some (.tup [.int r.1,optV r.2])∧Q (.bl (mayT st g nb r)) H
theorem own_may (D:DefM K C "may_take" "Ways.may_take" s_Ways_may_take) (hb:Blt mg) (T_Ways:ClsD K mg "Ways" C at_Ways) (F_better:Own P w K mg base 1 "better" ["one","other"] sp_better):OwnM P w K mg base 2 C "may_take" ["self","goal","neighbour","report"] (sp_may C):=by
  refine D.own sc_Ways_may_take (fun _ _ _ _ _ _ us hl=>match us,hl with|[_,_,_,_],_=>rfl) (fun vs H Q E h=>?_) (fun f cdv A outer s H vs Q E hr h=>?_)
  · obtain ⟨dom,a,st,g,nb,t,r,rfl,_⟩:=h
    rfl
  · obtain ⟨dom,a,st,g,nb,t,r,rfl,R,ht,q⟩:=h
    have hu:=hr.units
    have hu1:(A.deeper (PyProof.Rows.envOfC "Ways.may_take" (defScope s_Ways_may_take) s.heap.objs.size f cdv)).units+1<cLine:=by omega
    have ex:=R.inst
    obtain ⟨k1,hpp,d1⟩:=R.hp
    obtain ⟨k2,hpm,d2⟩:=R.hm
    refine ⟨_,(@pss_cons _ _ _ _ _ (@ps_if _ _ _ _ _ _ _ _ (@PW.pt _ _ _ (@pw_or _ _ _ _ _ _ _ (@pt_cmpR _ _ _ _ _ _ _ _ op_isN (@pe_dgX1 _ _ _ _ _ _ _ hu1 (@pe_fldK _ K _ _ _ _ (@pv _ 0 _ _ (by rfl) (by first|exact Or.inl rfl|exact Or.inr (Or.inl rfl)|exact Or.inr (Or.inr rfl)) (by decide) (by decide)) (by rfl) (by rfl)) (@pv _ 2 _ _ (by rfl) (by first|exact Or.inl rfl|exact Or.inr (Or.inl rfl)|exact Or.inr (Or.inr rfl)) (by decide) (by decide)) (by constructor <;> rfl)) (@pe_non _ _ _) (nomark _)) (@pw_or1 _ _ _ _ (@pt_cmpR _ _ _ _ _ _ _ _ op_isN (@pe_ix _ _ _ _ _ _ _ (ix_get hu1) (@pv _ 3 _ _ (by rfl) (by first|exact Or.inl rfl|exact Or.inr (Or.inl rfl)|exact Or.inr (Or.inr rfl)) (by decide) (by decide)) (@pe_int _ _ _ _) (fun _ _=>rfl)) (@pe_non _ _ _) (nomark _))))) (@pss_one _ _ _ (@ps_ret _ _ _ _ (@pe_bl _ _ _ _))) (@pss_nil _)) (@pss_cons _ _ _ _ _ (@ps_set _ _ 4 _ _ _ _ sc_Ways_may_take.nd rfl (by first|exact Or.inl rfl|exact Or.inr rfl) (@pe_dgX1 _ _ _ _ _ _ _ hu1 (@pe_fldK _ K _ _ _ _ (@pv _ 0 _ _ (by rfl) (by first|exact Or.inl rfl|exact Or.inr (Or.inl rfl)|exact Or.inr (Or.inr rfl)) (by decide) (by decide)) (by rfl) (by rfl)) (@pv _ 1 _ _ (by rfl) (by first|exact Or.inl rfl|exact Or.inr (Or.inl rfl)|exact Or.inr (Or.inr rfl)) (by decide) (by decide)) (by constructor <;> rfl)) (by rfl) (by first|exact .inl rfl|exact .inr rfl|assumption)) (@pss_one _ _ _ (@ps_ret _ _ _ _ (@pe_or _ _ _ _ _ _ _ (@pe_cmpR _ _ _ _ _ _ _ _ op_isN (@pv _ 4 _ _ (by rfl) (by first|exact Or.inl rfl|exact Or.inr (Or.inl rfl)|exact Or.inr (Or.inr rfl)) (by decide) (by decide)) (@pe_non _ _ _) (nomark _)) (@pe_one _ _ _ _ _ (@pe_fn _ _ _ _ _ _ _ _ _ _ _ F_better hr (@pa_cX _ _ _ _ _ (@pv _ 3 _ _ (by rfl) (by first|exact Or.inl rfl|exact Or.inr (Or.inl rfl)|exact Or.inr (Or.inr rfl)) (by decide) (by decide)) (@pa_cX _ _ _ _ _ (@pv _ 4 _ _ (by rfl) (by first|exact Or.inl rfl|exact Or.inr (Or.inl rfl)|exact Or.inr (Or.inr rfl)) (by decide) (by decide)) (@pa_nil _) (by rfl)) (by rfl)) (by decide) (by rfl) (by decide) (by rfl) (by rfl)))))))),?_⟩
    simp (maxSteps:=1000000) only [rGet,getO_t,atI_1,Nat.reduceSub,HO.dK.injEq,HO.ins.injEq,Nat.reduceAdd,tFld,tSeq,eZ1,if_true,tIfS,tOr,tTest,tOp,tVar,tC,tRet,tAsg,gName,tNext,tOrV,tCall,tCons,tNil,L2.start,mZ1,mZ0,lZ1,lZ0,List.replicate,List.cons_append,List.nil_append,gZ0,gZ1,sZ0,sZ1,oZ0,eZ0,V.bl.injEq,V.ref.injEq,true_and,and_assoc,aZ0,ex,hpp,hpm,tDGX1,keyV_i,ht,T_Ways.cl,T_Ways.no "line_prices" (by decide),T_Ways.no "marks" (by decide),fs_Ways_line_prices,fs_Ways_marks]
    unfold mayT at q
    have lp:∃ o:Option Int,(valV k1 (Sum.inl nb)).getD .non=optV o∧(st.lp nb).join=o:=by
      cases e:st.lp nb with
      | none=>exact ⟨none,by rw [d1.no nb e]; rfl,rfl⟩
      | some o=>
        obtain ⟨v,h1,h2⟩:=d1.so nb o e
        have h2:v=optV o:=h2
        exact ⟨o,by rw [h1,h2]; rfl,rfl⟩
    obtain ⟨o,ho,hj⟩:=lp
    rw [ho]
    cases o with
    | none=>
      have:(match st.lp nb,r.2 with|some (some _),some p=>okM (st.mar g) (r.1,p)|_,_=>false)=false:=by
        cases e:st.lp nb with
        | none=>rfl
        | some o=>rw [e] at hj; simp only [Option.join_some] at hj; subst hj; rfl
      rw [this] at q
      exact iteT q
    | some l=>
      have el:st.lp nb=some (some l):=by
        cases e:st.lp nb with
        | none=>rw [e] at hj; cases hj
        | some o=>rw [e] at hj; simp only [Option.join_some] at hj; rw [hj]
      rw [el] at q
      cases ep:r.2 with
      | none=>
        rw [ep] at q
        refine iteF (iteT q)
      | some p=>
        rw [ep] at q ht
        refine iteF (iteF ?_)
        unfold okM at q
        cases em:st.mar g with
        | none=>
          rw [em] at q
          rw [d2.no g em,Option.getD_none]
          exact iteT q
        | some m=>
          rw [em] at q
          obtain ⟨v,h1,t2,rfl,h2⟩:=d2.so g m em
          rw [h1,Option.getD_some]
          exact iteF ⟨t,t2,(r.1,p),m,rfl,ht,h2,q⟩
def cnd (st:WSt) (g:Int) (f:Int→Option Rp) (nb:Int):Option (List Int):=match f nb with
  | some (gen,some p)=>match st.lp nb with
    | some (some l)=>if okM (st.mar g) (gen,p)=true then some [p+l,-gen,nb] else none
    | _=>none
  | _=>none
theorem cnd_may {st:WSt} {g nb:Int} {f:Int→Option Rp} {r:Rp} (h:f nb=some r):(mayT st g nb r=true→∃ p l,r.2=some p∧st.lp nb=some (some l)∧cnd st g f nb=some [p+l,-r.1,nb])∧(mayT st g nb r=false→cnd st g f nb=none):=by
  obtain ⟨gen,pr⟩:=r
  unfold mayT cnd
  rw [h]
  cases pr with
  | none=>
    refine ⟨fun z=>?_,fun _=>rfl⟩
    dsimp only at z
    split at z
    · next e=>cases e
    · cases z
  | some p=>
    cases e:st.lp nb with
    | none=>exact ⟨(fun z=>nomatch z),fun _=>rfl⟩
    | some o=>
      cases o with
      | none=>exact ⟨(fun z=>nomatch z),fun _=>rfl⟩
      | some l=>
        refine ⟨fun z=>⟨p,l,rfl,rfl,if_pos z⟩,fun z=>if_neg ?_⟩
        intro y
        rw [show okM (st.mar g) (gen,p)=false from z] at y
        cases y
def Lst (st:WSt) (g:Int) (f:Int→Option Rp) (ks:List Int):Option (List Int)→Prop
  | none=>∀ nb∈ks,cnd st g f nb=none
  | some c=>∃ a b nb,c=[a,b,nb]∧nb∈ks∧cnd st g f nb=some c∧∀ nb'∈ks,∀ c',cnd st g f nb'=some c'→HT.lexLt c' c=false
def Best (st:WSt) (g:Int) (r:Option (Int × Int × Int)):Prop:=∃ f,st.rep g=some f∧match r with
  | none=>∀ nb,cnd st g f nb=none
  | some w=>cnd st g f w.2.2=some [w.2.1,-w.1,w.2.2]∧∀ nb' c',cnd st g f nb'=some c'→HT.lexLt c' [w.2.1,-w.1,w.2.2]=false
theorem lt3 {a b c d e f:Int}:HT.lexLt [a,b,c] [d,e,f]=true↔a<d∨(a=d∧(b<e∨(b=e∧c<f))):=by
  simp only [HT.lexLt_cons,HT.lexLt_nil_nil]
  by_cases h1:a=d
  · by_cases h2:b=e
    · by_cases h3:c=f
      · simp [h1,h2,h3]
      · simp [h1,h2,h3]
    · simp [h1,h2]
  · simp [h1]
theorem cnd3 {st:WSt} {g nb:Int} {f:Int→Option Rp} {c:List Int} (h:cnd st g f nb=some c):∃ x y,c=[x,y,nb]:=by
  unfold cnd at h
  split at h
  · split at h
    · split at h
      · cases h; exact ⟨_,_,rfl⟩
      · cases h
    · cases h
  · cases h
theorem Lst.step {st:WSt} {g nb:Int} {f:Int→Option Rp} {ks:List Int} {o:Option (List Int)} (h:Lst st g f ks o) :
    (cnd st g f nb=none→Lst st g f (ks++[nb]) o)∧∀ c,cnd st g f nb=some c→Lst st g f (ks++[nb]) (some (match o with|none=>c|some c0=>if HT.lexLt c c0=true then c else c0)):=by
  refine ⟨fun hn=>?_,fun c hc=>?_⟩
  · cases o with
    | none=>
      intro m hm
      rcases List.mem_append.mp hm with z|z
      · exact h m z
      · rw [List.mem_singleton] at z; subst z; exact hn
    | some c=>
      obtain ⟨a,b,n0,rfl,h1,h2,h3⟩:=h
      refine ⟨a,b,n0,rfl,List.mem_append_left _ h1,h2,fun m hm c' hc'=>?_⟩
      rcases List.mem_append.mp hm with z|z
      · exact h3 m z c' hc'
      · rw [List.mem_singleton] at z; subst z; rw [hn] at hc'; cases hc'
  · obtain ⟨x,y,rfl⟩:=cnd3 hc
    cases o with
    | none=>
      refine ⟨x,y,nb,rfl,by simp,hc,fun m hm c' hc'=>?_⟩
      rcases List.mem_append.mp hm with z|z
      · rw [h m z] at hc'; cases hc'
      · rw [List.mem_singleton] at z; subst z
        rw [hc] at hc'; cases hc'
        rw [Bool.eq_false_iff]
        intro q
        have:=lt3.mp q
        omega
    | some c0=>
      obtain ⟨a,b,n0,rfl,h1,h2,h3⟩:=h
      dsimp only
      by_cases hl:HT.lexLt [x,y,nb] [a,b,n0]=true
      · rw [if_pos hl]
        refine ⟨x,y,nb,rfl,by simp,hc,fun m hm c' hc'=>?_⟩
        obtain ⟨u,v,rfl⟩:=cnd3 hc'
        rw [Bool.eq_false_iff]
        intro q
        have q1:=lt3.mp q
        have q2:=lt3.mp hl
        rcases List.mem_append.mp hm with z|z
        · have q3:=h3 m z _ hc'
          rw [Bool.eq_false_iff] at q3
          exact q3 (lt3.mpr (by omega))
        · rw [List.mem_singleton] at z; subst z
          rw [hc] at hc'
          cases hc'
          omega
      · rw [if_neg hl]
        refine ⟨a,b,n0,rfl,List.mem_append_left _ h1,h2,fun m hm c' hc'=>?_⟩
        rcases List.mem_append.mp hm with z|z
        · exact h3 m z c' hc'
        · rw [List.mem_singleton] at z; subst z
          rw [hc] at hc'
          cases hc'
          exact Bool.eq_false_iff.mpr hl
theorem valV_at {kvs:List (Key × V)} (hn:(kvs.map (·.1)).Nodup) {q:Key × V} (h:q∈kvs):valV kvs q.1=some q.2:=by
  induction kvs with
  | nil=>cases h
  | cons z r ih=>
    rw [mZ1,List.nodup_cons] at hn
    rcases List.mem_cons.mp h with rfl|hm
    · exact valV_pos rfl
    · rw [valV_neg (fun e=>hn.1 (by rw [e]; exact List.mem_map_of_mem hm))]
      exact ih hn.2 hm
def RLs (H:Hp) (v:V):Option (List Int)→Prop
  | none=>v=.non
  | some c=>∃ t,v=.ref t∧H t=some (.tup (c.map V.int))
def sp_bway (C:Addr):Sp:=fun vs H Q _=>∃ (dom:List Int) (a:WA) (st:WSt) (g:Int),vs=[.ref a.x,.int g]∧WaysAt C dom H a st∧st.rep g≠none∧∀ v r H',Same H H'→Best st g r→RWy H' v r→Q v H'
def Lq (C:Addr) (dom:List Int) (H:Hp) (a:WA) (st:WSt) (g:Int) (f:Int→Option Rp) (pd:Addr) (o:Obj) (kvs:List (Key × V)) (i:Nat) (σ:St) (H':Hp):Prop:=∃ v c v3 v4 v5 ks,σ=[some (.ref a.x),some (.int g),some v,v3,v4,v5]∧H' pd=some (.frz o (.dK kvs))∧Keep [pd] H H'∧(kvs.take i).map (·.1)=(ks:List Int).map Sum.inl∧Lst st g f ks c∧RLs H' v c
theorem rep_of {dom:List Int} {H:Hp} {a:WA} {st:WSt} (Y:WaysAt C dom H a st) {g:Int} (h:st.rep g≠none):∃ q∈a.ins,q.1=g:=by
  by_cases hm:g∈a.ins.map (·.1)
  · obtain ⟨q,hq,e⟩:=List.mem_map.mp hm
    exact ⟨q,hq,e⟩
  · exact absurd (Y.rno g hm) h
theorem rkv_get {l:List (Int × Addr)} (hn:(l.map (·.1)).Nodup) {q:Int × Addr} (h:q∈l):valV (rkv l) (Sum.inl q.1)=some (.ref q.2):=by
  induction l with
  | nil=>cases h
  | cons p r ih=>
    rw [mZ1,List.nodup_cons] at hn
    rw [show rkv (p::r)=(Sum.inl p.1,V.ref p.2)::rkv r from rfl]
    rcases List.mem_cons.mp h with rfl|h
    · exact valV_pos rfl
    · rw [valV_neg (fun z=>hn.1 (by rw [Sum.inl.inj z]; exact List.mem_map_of_mem h))]
      exact ih hn.2 h
theorem rkv_no {l:List (Int × Addr)} {k:Int} (h:k ∉ l.map (·.1)):valV (rkv l) (Sum.inl k)=none:=by
  induction l with
  | nil=>exact valV_nil
  | cons p r ih=>
    rw [mZ1,List.mem_cons,not_or] at h
    rw [show rkv (p::r)=(Sum.inl p.1,V.ref p.2)::rkv r from rfl,valV_neg (fun z=>h.1 (Sum.inl.inj z).symm)]
    exact ih h.2
set_option maxHeartbeats 4000000 in
theorem own_bway (D:DefM K C "best_way" "Ways.best_way" s_Ways_best_way) (hb:Blt mg) (T_Ways:ClsD K mg "Ways" C at_Ways) (M_Ways_may_take:OwnM P w K mg base 2 C "may_take" ["self","goal","neighbour","report"] (sp_may C)):OwnM P w K mg base 3 C "best_way" ["self","goal"] (sp_bway C):=by
  refine D.own sc_Ways_best_way (fun _ _ _ _ _ _ us hl=>match us,hl with|[_,_],_=>rfl) (fun vs H Q E h=>?_) (fun f cdv A outer s H vs Q E hr h=>?_)
  · obtain ⟨dom,a,st,g,rfl,_⟩:=h
    rfl
  · obtain ⟨dom,a,st,g,rfl,Y,hg,q⟩:=h
    have hu:=hr.units
    have hu1:(A.deeper (PyProof.Rows.envOfC "Ways.best_way" (defScope s_Ways_best_way) s.heap.objs.size f cdv)).units+1<cLine:=by omega
    obtain ⟨q0,hq0,rfl⟩:=rep_of Y hg
    obtain ⟨fr,kvs,hrep,hpd,hdm⟩:=Y.rin q0 hq0
    have ex:=Y.inst
    have hpr:=Y.hr
    have hget:=rkv_get Y.rnd hq0
    obtain ⟨x1,x2,x3,x4⟩:=out4 Y hq0
    have xx:a.x≠q0.2:=fun z=>Y.xn (z ▸ mem_in hq0)
    obtain ⟨kp,hpp,dmp⟩:=Y.hp
    obtain ⟨km,hpm,dmm⟩:=Y.hm
    have kl:=hdm.len
    have dl:=Y.dlen
    have noTpd:∀ b∈[q0.2],NoT H b:=noT1 (.of_dK hpd)
    refine ⟨_,(@pss_cons _ _ _ _ _ (@ps_set _ _ 2 _ _ _ _ sc_Ways_best_way.nd rfl (by first|exact Or.inl rfl|exact Or.inr rfl) (@pe_non _ _ _) (by rfl) (by first|exact .inl rfl|exact .inr rfl|assumption)) (@pss_cons _ _ _ _ _ (@ps_unf _ _ _ (@ps_for _ _ _ _ _ _ _ _ PassesOwn.never rfl (@pi_ditem _ _ _ _ _ _ _ _ (@pe_ix _ _ _ _ _ _ _ (ix_get hu1) (@pe_fldK _ K _ _ _ _ (@pv _ 0 _ _ (by rfl) (by first|exact Or.inl rfl|exact Or.inr (Or.inl rfl)|exact Or.inr (Or.inr rfl)) (by decide) (by decide)) (by rfl) (by rfl)) (@pv _ 1 _ _ (by rfl) (by first|exact Or.inl rfl|exact Or.inr (Or.inl rfl)|exact Or.inr (Or.inr rfl)) (by decide) (by decide)) (fun _ _=>rfl)) (by rfl) (by rfl)) (@pg_seqX _ _ _ _ 2 _ rfl (@pgs_cons _ _ _ _ _ (@pg_name _ _ 3 _ sc_Ways_best_way.nd rfl (by first|exact Or.inl rfl|exact Or.inr rfl) (by first|exact .inl rfl|exact .inr rfl|assumption)) (@pgs_cons _ _ _ _ _ (@pg_name _ _ 4 _ sc_Ways_best_way.nd rfl (by first|exact Or.inl rfl|exact Or.inr rfl) (by first|exact .inl rfl|exact .inr rfl|assumption)) (@pgs_nil _) (by rfl)) (by rfl)) (by rfl) (by rfl)) (@pss_one _ _ _ (@ps_if _ _ _ _ _ _ _ _ (@pt_truX _ _ _ (@pe_mth _ _ _ _ _ _ _ _ _ _ _ _ _ _ _ M_Ways_may_take T_Ways.cl hr (@pv _ 0 _ _ (by rfl) (by first|exact Or.inl rfl|exact Or.inr (Or.inl rfl)|exact Or.inr (Or.inr rfl)) (by decide) (by decide)) (@pa_cX _ _ _ _ _ (@pv _ 1 _ _ (by rfl) (by first|exact Or.inl rfl|exact Or.inr (Or.inl rfl)|exact Or.inr (Or.inr rfl)) (by decide) (by decide)) (@pa_cX _ _ _ _ _ (@pv _ 3 _ _ (by rfl) (by first|exact Or.inl rfl|exact Or.inr (Or.inl rfl)|exact Or.inr (Or.inr rfl)) (by decide) (by decide)) (@pa_cX _ _ _ _ _ (@pv _ 4 _ _ (by rfl) (by first|exact Or.inl rfl|exact Or.inr (Or.inl rfl)|exact Or.inr (Or.inr rfl)) (by decide) (by decide)) (@pa_nil _) (by rfl)) (by rfl)) (by rfl)) (by decide) (by rfl) (by rfl) (by rfl)) (by intro _; rfl)) (@pss_cons _ _ _ _ _ (@ps_set _ _ 5 _ _ _ _ sc_Ways_best_way.nd rfl (by first|exact Or.inl rfl|exact Or.inr rfl) (@pe_tup _ _ _ _ _ (@pa_cX _ _ _ _ _ (@pe_op _ _ _ _ _ _ _ _ op_add (@pe_ix _ _ _ _ _ _ _ (ix_get hu1) (@pv _ 4 _ _ (by rfl) (by first|exact Or.inl rfl|exact Or.inr (Or.inl rfl)|exact Or.inr (Or.inr rfl)) (by decide) (by decide)) (@pe_int _ _ _ _) (fun _ _=>rfl)) (@pe_ix _ _ _ _ _ _ _ (ix_get hu1) (@pe_fldK _ K _ _ _ _ (@pv _ 0 _ _ (by rfl) (by first|exact Or.inl rfl|exact Or.inr (Or.inl rfl)|exact Or.inr (Or.inr rfl)) (by decide) (by decide)) (by rfl) (by rfl)) (@pv _ 3 _ _ (by rfl) (by first|exact Or.inl rfl|exact Or.inr (Or.inl rfl)|exact Or.inr (Or.inr rfl)) (by decide) (by decide)) (fun _ _=>rfl))) (@pa_cX _ _ _ _ _ (@pe_un _ _ _ _ _ _ un_neg (@pe_ix _ _ _ _ _ _ _ (ix_get hu1) (@pv _ 4 _ _ (by rfl) (by first|exact Or.inl rfl|exact Or.inr (Or.inl rfl)|exact Or.inr (Or.inr rfl)) (by decide) (by decide)) (@pe_int _ _ _ _) (fun _ _=>rfl))) (@pa_cX _ _ _ _ _ (@pv _ 3 _ _ (by rfl) (by first|exact Or.inl rfl|exact Or.inr (Or.inl rfl)|exact Or.inr (Or.inr rfl)) (by decide) (by decide)) (@pa_nil _) (by rfl)) (by rfl)) (by rfl))) (by rfl) (by first|exact .inl rfl|exact .inr rfl|assumption)) (@pss_one _ _ _ (@ps_set _ _ 2 _ _ _ _ sc_Ways_best_way.nd rfl (by first|exact Or.inl rfl|exact Or.inr rfl) (@pe_ifExp _ _ _ _ _ _ _ _ (@pt_cmpR _ _ _ _ _ _ _ _ op_isN (@pv _ 2 _ _ (by rfl) (by first|exact Or.inl rfl|exact Or.inr (Or.inl rfl)|exact Or.inr (Or.inr rfl)) (by decide) (by decide)) (@pe_non _ _ _) (nomark _)) (@pv _ 5 _ _ (by rfl) (by first|exact Or.inl rfl|exact Or.inr (Or.inl rfl)|exact Or.inr (Or.inr rfl)) (by decide) (by decide)) (@pe_callB _ _ _ _ _ _ _ _ _ (call_minT rfl hu) rfl (hb _ (by decide)) bt_min (@pa_cX _ _ _ _ _ (@pv _ 2 _ _ (by rfl) (by first|exact Or.inl rfl|exact Or.inr (Or.inl rfl)|exact Or.inr (Or.inr rfl)) (by decide) (by decide)) (@pa_cX _ _ _ _ _ (@pv _ 5 _ _ (by rfl) (by first|exact Or.inl rfl|exact Or.inr (Or.inl rfl)|exact Or.inr (Or.inr rfl)) (by decide) (by decide)) (@pa_nil _) (by rfl)) (by rfl)) (by decide) (by decide) (by rfl) (by rfl))) (by rfl) (by first|exact .inl rfl|exact .inr rfl|assumption)))) (@pss_nil _))) (by intro _; rfl))) (@pss_cons _ _ _ _ _ (@ps_if _ _ _ _ _ _ _ _ (@pt_cmpR _ _ _ _ _ _ _ _ op_isN (@pv _ 2 _ _ (by rfl) (by first|exact Or.inl rfl|exact Or.inr (Or.inl rfl)|exact Or.inr (Or.inr rfl)) (by decide) (by decide)) (@pe_non _ _ _) (nomark _)) (@pss_one _ _ _ (@ps_ret _ _ _ _ (@pe_non _ _ _))) (@pss_nil _)) (@pss_one _ _ _ (@ps_ret _ _ _ _ (@pe_tup _ _ _ _ _ (@pa_cX _ _ _ _ _ (@pe_un _ _ _ _ _ _ un_neg (@pe_ix _ _ _ _ _ _ _ (ix_get hu1) (@pv _ 2 _ _ (by rfl) (by first|exact Or.inl rfl|exact Or.inr (Or.inl rfl)|exact Or.inr (Or.inr rfl)) (by decide) (by decide)) (@pe_int _ _ _ _) (fun _ _=>rfl))) (@pa_cX _ _ _ _ _ (@pe_ix _ _ _ _ _ _ _ (ix_get hu1) (@pv _ 2 _ _ (by rfl) (by first|exact Or.inl rfl|exact Or.inr (Or.inl rfl)|exact Or.inr (Or.inr rfl)) (by decide) (by decide)) (@pe_int _ _ _ _) (fun _ _=>rfl)) (@pa_cX _ _ _ _ _ (@pe_ix _ _ _ _ _ _ _ (ix_get hu1) (@pv _ 2 _ _ (by rfl) (by first|exact Or.inl rfl|exact Or.inr (Or.inl rfl)|exact Or.inr (Or.inr rfl)) (by decide) (by decide)) (@pe_int _ _ _ _) (fun _ _=>rfl)) (@pa_nil _) (by rfl)) (by rfl)) (by rfl)))))))),?_⟩
    simp (maxSteps:=1000000) only [tFor_eq,rGet,getO_di,Nat.reduceSub,HO.dK.injEq,HO.ins.injEq,Nat.reduceAdd,tFld,tSeq,eZ1,tIfS,tTest,tOp,tUn,tVar,tC,rU,tRet,tAsg,gName,tNext,tCons,tNil,tTup,L2.start,mZ1,mZ0,lZ1,lZ0,List.replicate,List.cons_append,List.nil_append,gZ0,gZ1,sZ0,sZ1,oZ0,eZ0,V.bl.injEq,V.ref.injEq,true_and,and_assoc,ex,hpr,hget,hpd,tUnf,iDItem,T_Ways.cl,T_Ways.no "last_reports" (by decide),fs_Ways_last_reports]
    intro o
    have rd3:∀ {H':Hp},Keep [q0.2] H H'→Rd3 C dom H' a st:=fun k=>⟨k _ _ ex (by simp; exact xx),⟨kp,k _ _ hpp (by simp; exact Ne.symm x2),dmp⟩,⟨km,k _ _ hpm (by simp; exact Ne.symm x3),dmm.mono fun v m h=>h.keep k noTpd⟩⟩
    refine for_itp (Lq C dom H a st q0.1 fr q0.2 o kvs) ⟨.non,none,none,none,none,[],rfl,upd_same,Keep.refl.upd (.inl (.head _)),rfl,(fun nb hn=>nomatch hn),rfl⟩ ?_ ?_ ?_
    · rintro i σ H' ⟨v,c,v3,v4,v5,ks,rfl,hf,_⟩
      exact hf
    · rintro i kv p σ H1 hkv ⟨v,c,v3,v4,v5,ks,rfl,hf,k1,hks,hL,hv⟩ hp
      obtain ⟨nb,hnb,ek⟩:=hdm.ks kv (List.mem_of_getElem? hkv)
      have hval:valV kvs (Sum.inl nb)=some kv.2:=by
        have:(kvs.map (·.1)).Nodup:=hdm.nd
        rw [← ek]
        exact valV_at this (List.mem_of_getElem? hkv)
      have hfr:fr nb≠none:=fun z=>by rw [hdm.no nb z] at hval; cases hval
      obtain ⟨r,hr'⟩:∃ r,fr nb=some r:=by
        cases e:fr nb with
        | none=>exact absurd e hfr
        | some r=>exact ⟨r,rfl⟩
      obtain ⟨v',hv1,t,ev',ht⟩:=hdm.so nb r hr'
      rw [hval] at hv1
      have hv1':kv.2=.ref t:=(Option.some.inj hv1).trans ev'
      have ht1:=k1 _ _ ht (by simp; exact ne_of ht hpd (by intro z; cases z))
      have ekv:kV kv.1=.int nb:=by rw [ek]; rfl
      rw [ekv,hv1']
      generalize z2:upd H1 p _=H2
      obtain ⟨s2,e2⟩:=new_same z2 hp
      have ex2:=s2 _ _ (k1 _ _ ex (by simp; exact xx))
      simp (maxSteps:=1000000) only [gSeqX,rGet,tTruX,seqO_t,gCons,gNil,HO.ins.injEq,Nat.reduceAdd,tMeth,tFld,cZ0,tSeq,eZ1,tIfS,tTest,tOp,tUn,tVar,tC,rI0,rU,tAsg,gName,tNext,tIf,tCons,tNil,tCB,tTup,lZ1,lZ0,gZ0,gZ1,sZ0,sZ1,oZ0,eZ0,V.bl.injEq,V.ref.injEq,true_and,and_assoc,aZ0,e2,ex2,fn_Ways_may_take]
      have k2:Keep [q0.2] H H2:=fun b o e hn=>s2 _ _ (k1 _ _ e hn)
      have ht2:=s2 _ _ ht1
      have R2:=rd3 k2
      have hks2:(kvs.take (i+1)).map (·.1)=(ks++[nb]).map Sum.inl:=by
        rw [List.take_succ,hkv,List.map_append,hks,List.map_append,Option.toList_some,mZ1,mZ0,ek]
        rfl
      have hv2:RLs H2 v c:=by
        cases c with
        | none=>exact hv
        | some c=>
          obtain ⟨t3,h1,h2⟩:=hv
          exact ⟨t3,h1,s2 _ _ h2⟩
      have hf2:=s2 _ _ hf
      refine ⟨dom,a,st,q0.1,nb,t,r,rfl,R2,ht2,?_⟩
      obtain ⟨cy,cn⟩:=cnd_may (st:=st) (g:=q0.1) hr'
      obtain ⟨st1,st2⟩:=hL.step (nb:=nb)
      cases hm:mayT st q0.1 nb r with
      | false=>
        simp (maxSteps:=1000000) only [truX_b,if_false,Bool.false_eq_true,oZ0,eZ0]
        exact ⟨v,c,_,_,_,ks++[nb],rfl,hf2,k2,hks2,st1 (cn hm),hv2⟩
      | true=>
        obtain ⟨pp,ll,hp1,hl1,hc⟩:=cy hm
        have hst:=st2 _ hc
        have hpp2:=k2 _ _ hpp (by simp; exact Ne.symm x2)
        obtain ⟨lv,hlv,rlv⟩:=dmp.so nb _ hl1
        have rlv:lv=.int ll:=rlv
        subst rlv
        rw [hp1] at ht2
        simp (maxSteps:=1000000) only [getO_t,getO_di,truX_b,atI_0,atI_1,HO.ins.injEq,eZ1,if_true,oZ0,eZ0,V.int.injEq,V.ref.injEq,true_and,and_assoc,ht2,ex2,hpp2,hlv,T_Ways.cl,T_Ways.no "line_prices" (by decide),fs_Ways_line_prices,optV]
        refine ⟨by decide,?_⟩
        intro p3 n3
        generalize z3:upd H2 p3 _=H3
        obtain ⟨s3,e3⟩:=new_same z3 n3
        have k3:Keep [q0.2] H H3:=fun b o e hn=>s3 _ _ (k2 _ _ e hn)
        have hf3:=s3 _ _ hf2
        cases c with
        | none=>
          have hv2:v=.non:=hv2
          subst hv2
          simp (maxSteps:=1000000) only [decide_true,if_true]
          exact ⟨_,_,_,_,_,ks++[nb],rfl,hf3,k3,hks2,hst,⟨p3,rfl,e3⟩⟩
        | some c=>
          obtain ⟨t3,rfl,h3⟩:=hv2
          have h33:=s3 _ _ h3
          simp (maxSteps:=1000000) only [decide_false,if_false,Bool.false_eq_true,reduceCtorEq]
          refine ⟨t3,p3,c,[pp+ll,-r.1,nb],rfl,h33,e3,?_⟩
          refine ⟨_,_,_,_,_,ks++[nb],rfl,hf3,k3,hks2,hst,?_⟩
          dsimp only
          by_cases hl:HT.lexLt [pp+ll,-r.1,nb] c=true
          · rw [if_pos hl,if_pos hl]
            exact ⟨p3,rfl,e3⟩
          · rw [if_neg hl,if_neg hl]
            exact ⟨t3,rfl,h33⟩
    · rintro σ H1 ⟨v,c,v3,v4,v5,ks,rfl,hf,k1,hks,hL,hv⟩
      rw [List.take_length] at hks
      refine ⟨_,Unf.of hf hpd,?_⟩
      generalize z2:upd H1 q0.2 _=H2
      have sH:Same H H2:=fun b o' e=>by
        rw [← z2]
        by_cases hb':b=q0.2
        · subst hb'
          rw [upd_same,← e,hpd]
        · rw [upd_ne hb']
          exact k1 _ _ e (by simp; exact hb')
      have allk:∀ nb,nb∈ks↔fr nb≠none:=fun nb=>by
        rw [← hdm.key,hks,List.mem_map]
        constructor
        · exact fun h=>⟨nb,h,rfl⟩
        · rintro ⟨m,hm,e⟩
          cases e
          exact hm
      have noc:∀ nb,nb ∉ ks→cnd st q0.1 fr nb=none:=fun nb h=>by
        have:fr nb=none:=by
          by_cases z:fr nb=none
          · exact z
          · exact absurd ((allk nb).mpr z) h
        unfold cnd
        rw [this]
      cases c with
      | none=>
        have hv:v=.non:=hv
        subst hv
        simp (maxSteps:=1000000) only [decide_true,if_true,gZ0,gZ1,oZ0,eZ0,exists_const,reduceCtorEq,false_and]
        refine q .non none H2 sH ⟨fr,hrep,fun nb=>?_⟩ rfl
        by_cases hn:nb∈ks
        · exact hL nb hn
        · exact noc nb hn
      | some c=>
        obtain ⟨t3,rfl,h3⟩:=hv
        obtain ⟨x,y,nb,rfl,hn,hc,hall⟩:=hL
        have h32:H2 t3=some (.tup [.int x,.int y,.int nb]):=by
          rw [← z2,upd_ne (ne_of h3 hf (by intro z; cases z))]
          exact h3
        simp (maxSteps:=1000000) only [getO_t,atI_0,atI_1,atI_2,decide_false,if_false,Bool.false_eq_true,gZ0,gZ1,oZ0,eZ0,V.int.injEq,V.ref.injEq,reduceCtorEq,h32]
        refine ⟨by decide,?_⟩
        intro p4 n4
        generalize z4:upd H2 p4 _=H4
        obtain ⟨s4,e4⟩:=new_same z4 n4
        refine q _ (some (-y,x,nb)) H4 (sH.trans s4) ⟨fr,hrep,?_,fun nb' c' hc'=>?_⟩ ⟨p4,rfl,e4⟩
        · rw [Int.neg_neg]; exact hc
        · rw [Int.neg_neg]
          by_cases hn':nb'∈ks
          · exact hall nb' hn' c' hc'
          · rw [noc nb' hn'] at hc'; cases hc'
end
end K15
namespace K15
open PySem L2
section
variable {P:Program} {w:World} {K:PySem.W.Frag} {mg:Str→Option Value} {base:Heap} {C:Addr}
def newM (o:Option Mk) (m:Mk):Mk:=match o with
  | none=>m
  | some m0=>if bet m m0=true then m else m0
def nmar (o:Option Mk):Option (Int × Int × Int)→Option Mk
  | none=>o
  | some w=>some (newM o (w.1,w.2.1))
section
variable {dom:List Int} {H:Hp} {a:WA} {st:WSt}
theorem WaysAt.setM (Y:WaysAt C dom H a st) {g:Int} {kvs:List (Key × V)} {v:V} {m:Mk} (hpm:H a.pm=some (.dK kvs)) (hdm:DM dom kvs st.mar (RMk H)) (hg:g∈dom) (hr:st.rep g≠none) (hv:RMk H v m):WaysAt C dom (upd H a.pm (.dK (putK kvs (Sum.inl g) v))) a { st with mar:=fun j=>if j=g then some m else st.mar j }:=by
  have k:Keep [a.pm] H (upd H a.pm (.dK (putK kvs (Sum.inl g) v))):=Keep.refl.upd (.inl (.head _))
  have hnT:∀ b∈[a.pm],NoT H b:=noT1 (.of_dK hpm)
  obtain ⟨n1,n2,n3,n4,n5,n6⟩:=Y.ne4
  refine ⟨k _ _ Y.inst (by simp; exact fun z=>Y.xn (z ▸ mem_pm a)),k _ _ Y.hr (by simp; exact n2),Y.rnd,Y.rdm,fun q hq=>?_,Y.rno,?_,⟨_,upd_same,(hdm.put hg hv).mono fun v m h=>h.keep k hnT⟩,?_,Y.nd,fun j hj=>?_,Y.dlen⟩
  · obtain ⟨f,kvs,h1,h2,h3⟩:=Y.rin q hq
    exact ⟨f,kvs,h1,k _ _ h2 (by simp; exact (out4 Y hq).2.2.1),h3.mono fun v a h=>h.keep k hnT⟩
  · obtain ⟨kvs,h1,h2⟩:=Y.hp
    exact ⟨kvs,k _ _ h1 (by simp; exact n4),h2⟩
  · obtain ⟨kvs,h1,h2⟩:=Y.hw
    exact ⟨kvs,k _ _ h1 (by simp; exact Ne.symm n6),h2.mono fun v a h=>h.keep k hnT⟩
  · have hjg:j≠g:=fun z=>hr (z ▸ hj)
    dsimp only
    rw [if_neg hjg]
    exact Y.msub j hj
theorem WaysAt.setW (Y:WaysAt C dom H a st) {g:Int} {kvs:List (Key × V)} {v:V} {m:Option (Int × Int × Int)} (hpw:H a.pw=some (.dK kvs)) (hdm:DM dom kvs st.wy (RWy H)) (hg:g∈dom) (hr:st.rep g≠none) (hv:RWy H v m):WaysAt C dom (upd H a.pw (.dK (putK kvs (Sum.inl g) v))) a { st with wy:=fun j=>if j=g then some m else st.wy j }:=by
  have k:Keep [a.pw] H (upd H a.pw (.dK (putK kvs (Sum.inl g) v))):=Keep.refl.upd (.inl (.head _))
  have hnT:∀ b∈[a.pw],NoT H b:=noT1 (.of_dK hpw)
  obtain ⟨n1,n2,n3,n4,n5,n6⟩:=Y.ne4
  refine ⟨k _ _ Y.inst (by simp; exact fun z=>Y.xn (z ▸ mem_pw a)),k _ _ Y.hr (by simp; exact n3),Y.rnd,Y.rdm,fun q hq=>?_,Y.rno,?_,?_,⟨_,upd_same,(hdm.put hg hv).mono fun v m h=>h.keep k hnT⟩,Y.nd,fun j hj=>?_,Y.dlen⟩
  · obtain ⟨f,kvs,h1,h2,h3⟩:=Y.rin q hq
    exact ⟨f,kvs,h1,k _ _ h2 (by simp; exact (out4 Y hq).2.2.2),h3.mono fun v a h=>h.keep k hnT⟩
  · obtain ⟨kvs,h1,h2⟩:=Y.hp
    exact ⟨kvs,k _ _ h1 (by simp; exact n5),h2⟩
  · obtain ⟨kvs,h1,h2⟩:=Y.hm
    exact ⟨kvs,k _ _ h1 (by simp; exact n6),h2.mono fun v a h=>h.keep k hnT⟩
  · have hjg:j≠g:=fun z=>hr (z ▸ hj)
    dsimp only
    rw [if_neg hjg]
    exact Y.msub j hj
end
def sp_bmark (C:Addr):Sp:=fun vs H Q _=>∃ (dom:List Int) (a:WA) (st:WSt) (g:Int) (t:Addr) (m:Mk),vs=[.ref a.x,.int g,.ref t]∧WaysAt C dom H a st∧H t=some (.tup [.int m.1,.int m.2])∧g∈dom∧st.rep g≠none ∧
  ∀ H',WaysAt C dom H' a { st with mar:=fun j=>if j=g then some (newM (st.mar g) m) else st.mar j }→Keep [a.pm] H H'→Q .non H'
theorem own_bmark (D:DefM K C "better_mark" "Ways.better_mark" s_Ways_better_mark) (hb:Blt mg) (T_Ways:ClsD K mg "Ways" C at_Ways) (F_better:Own P w K mg base 1 "better" ["one","other"] sp_better):OwnM P w K mg base 2 C "better_mark" ["self","goal","mark"] (sp_bmark C):=by
  refine D.own sc_Ways_better_mark (fun _ _ _ _ _ _ us hl=>match us,hl with|[_,_,_],_=>rfl) (fun vs H Q E h=>?_) (fun f cdv A outer s H vs Q E hr h=>?_)
  · obtain ⟨dom,a,st,g,t,m,rfl,_⟩:=h
    rfl
  · obtain ⟨dom,a,st,g,t,m,rfl,Y,ht,hg,hrp,q⟩:=h
    have hu:=hr.units
    have hu1:(A.deeper (PyProof.Rows.envOfC "Ways.better_mark" (defScope s_Ways_better_mark) s.heap.objs.size f cdv)).units+1<cLine:=by omega
    have ex:=Y.inst
    obtain ⟨kvs,hpm,hdm⟩:=Y.hm
    have hln:kvs.length<sizeLine:=by have:=hdm.len; have:=Y.dlen; rw [sizeLine_eq]; omega
    refine ⟨_,(@pss_one _ _ _ (@ps_if _ _ _ _ _ _ _ _ (@PW.pt _ _ _ (@pw_or _ _ _ _ _ _ _ (@pt_cmpR _ _ _ _ _ _ _ _ (op_notinX hu1) (@pv _ 1 _ _ (by rfl) (by first|exact Or.inl rfl|exact Or.inr (Or.inl rfl)|exact Or.inr (Or.inr rfl)) (by decide) (by decide)) (@pe_fldK _ K _ _ _ _ (@pv _ 0 _ _ (by rfl) (by first|exact Or.inl rfl|exact Or.inr (Or.inl rfl)|exact Or.inr (Or.inr rfl)) (by decide) (by decide)) (by rfl) (by rfl)) rfl) (@pw_or1 _ _ _ _ (@pt_truX _ _ _ (@pe_fn _ _ _ _ _ _ _ _ _ _ _ F_better hr (@pa_cX _ _ _ _ _ (@pv _ 2 _ _ (by rfl) (by first|exact Or.inl rfl|exact Or.inr (Or.inl rfl)|exact Or.inr (Or.inr rfl)) (by decide) (by decide)) (@pa_cX _ _ _ _ _ (@pe_ix _ _ _ _ _ _ _ (ix_get hu1) (@pe_fldK _ K _ _ _ _ (@pv _ 0 _ _ (by rfl) (by first|exact Or.inl rfl|exact Or.inr (Or.inl rfl)|exact Or.inr (Or.inr rfl)) (by decide) (by decide)) (by rfl) (by rfl)) (@pv _ 1 _ _ (by rfl) (by first|exact Or.inl rfl|exact Or.inr (Or.inl rfl)|exact Or.inr (Or.inr rfl)) (by decide) (by decide)) (fun _ _=>rfl)) (@pa_nil _) (by rfl)) (by rfl)) (by decide) (by rfl) (by decide) (by rfl) (by rfl)) (by intro _; rfl))))) (@pss_one _ _ _ (@ps_asg _ _ _ _ _ _ (@pv _ 2 _ _ (by rfl) (by first|exact Or.inl rfl|exact Or.inr (Or.inl rfl)|exact Or.inr (Or.inr rfl)) (by decide) (by decide)) (@pg_sub _ _ _ _ _ _ _ (@pe_fldK _ K _ _ _ _ (@pv _ 0 _ _ (by rfl) (by first|exact Or.inl rfl|exact Or.inr (Or.inl rfl)|exact Or.inr (Or.inr rfl)) (by decide) (by decide)) (by rfl) (by rfl)) (@pv _ 1 _ _ (by rfl) (by first|exact Or.inl rfl|exact Or.inr (Or.inl rfl)|exact Or.inr (Or.inr rfl)) (by decide) (by decide)) (@set_x _ hu1) (by intro _; rfl)) (by rfl) (by rfl) (by rfl))) (@pss_nil _))),?_⟩
    simp (maxSteps:=1000000) only [rGet,getO_di,tTruX,rNotInX,inO_di,rSetX,setO_di',gSub,Nat.reduceSub,HO.ins.injEq,Nat.reduceAdd,tFld,eZ1,if_true,tIfS,tOr,tTest,tOp,tVar,tAsg,tNext,tCall,tCons,tNil,L2.start,mZ1,mZ0,lZ1,lZ0,List.replicate,gZ0,gZ1,oZ0,eZ0,V.bl.injEq,V.ref.injEq,true_and,and_assoc,aZ0,ex,hpm,T_Ways.cl,T_Ways.no "marks" (by decide),fs_Ways_marks]
    have set1:=Y.setM hpm hdm hg hrp ⟨t,rfl,ht⟩
    have k:Keep [a.pm] H (upd H a.pm (.dK (putK kvs (Sum.inl g) (.ref t)))):=Keep.refl.upd (.inl (.head _))
    unfold newM at q
    cases em:st.mar g with
    | none=>
      rw [em] at q
      have hn:=hdm.no g em
      simp (maxSteps:=1000000) only [Bool.not_false,if_true,oZ0,eZ0,reduceCtorEq,false_and,exists_false,hn,Option.isSome_none,hln]
      exact q _ set1 k
    | some m0=>
      rw [em] at q
      obtain ⟨v,h1,t2,rfl,h2⟩:=hdm.so g m0 em
      simp (maxSteps:=1000000) only [Option.isSome_some,Bool.not_true,if_false,Bool.false_eq_true,oZ0,eZ0,h1,Option.isSome_some]
      refine ⟨t,t2,m,m0,rfl,ht,h2,?_⟩
      dsimp only at q
      by_cases hbt:bet m m0=true
      · rw [if_pos hbt] at q
        rw [hbt]
        simp (maxSteps:=1000000) only [truX_b,setO_di',HO.ins.injEq,eZ1,if_true,oZ0,eZ0,V.ref.injEq,true_and,and_assoc,ex,hpm,hln,T_Ways.cl,T_Ways.no "marks" (by decide),fs_Ways_marks]
        exact q _ set1 k
      · rw [if_neg hbt] at q
        rw [Bool.eq_false_iff.mpr hbt]
        simp (maxSteps:=1000000) only [truX_b,if_false,Bool.false_eq_true,oZ0,eZ0]
        have e:(fun j=>if j=g then some m0 else st.mar j)=st.mar:=by
          funext j
          split
          · next z=>rw [z,em]
          · rfl
        rw [e] at q
        exact q H Y Keep.refl
structure Stl (st st':WSt):Prop where
  me:st'.me=st.me
  own:st'.own=st.own
  rep:st'.rep=st.rep
  lp:st'.lp=st.lp
  old:∀ g,st.rep g=none→st'.wy g=st.wy g∧st'.mar g=st.mar g
  new:∀ g,st.rep g≠none→∃ r,Best st g r∧st'.wy g=some r∧st'.mar g=nmar (st.mar g) r
theorem cnd_cg {st st':WSt} {g:Int} {f:Int→Option Rp} (h2:st'.lp=st.lp) (h3:st'.mar g=st.mar g) (nb:Int):cnd st' g f nb=cnd st g f nb:=by
  unfold cnd
  rw [h2,h3]
theorem Best.cg {st st':WSt} {g:Int} {r:Option (Int × Int × Int)} (h:Best st' g r) (h1:st'.rep=st.rep) (h2:st'.lp=st.lp) (h3:st'.mar g=st.mar g):Best st g r:=by
  obtain ⟨f,hf,hr⟩:=h
  refine ⟨f,by rw [← h1]; exact hf,?_⟩
  cases r with
  | none=>exact fun nb=>by rw [← cnd_cg h2 h3]; exact hr nb
  | some w=>exact ⟨by rw [← cnd_cg h2 h3]; exact hr.1,fun nb c hc=>hr.2 nb c (by rw [cnd_cg h2 h3]; exact hc)⟩
def sp_settle (C:Addr):Sp:=fun vs H Q _=>∃ (dom:List Int) (a:WA) (st:WSt),vs=[.ref a.x]∧WaysAt C dom H a st∧∀ st' H',Stl st st'→WaysAt C dom H' a st'→Keep [a.pm,a.pw] H H'→Q .non H'
def Ls (C:Addr) (dom:List Int) (H:Hp) (a:WA) (st:WSt) (pl:Addr) (gs:List Int) (i:Nat) (σ:St) (H':Hp):Prop:=∃ st' v1 v2,σ=[some (.ref a.x),v1,v2]∧H' pl=some (.lst (gs.map V.int))∧WaysAt C dom H' a st'∧Keep [a.pm,a.pw] H H'∧st'.me=st.me∧st'.own=st.own∧st'.rep=st.rep∧st'.lp=st.lp ∧
  (∀ g,g ∉ gs.take i→st'.wy g=st.wy g∧st'.mar g=st.mar g)∧∀ g∈gs.take i,∃ r,Best st g r∧st'.wy g=some r∧st'.mar g=nmar (st.mar g) r
set_option maxHeartbeats 4000000 in
theorem own_settle (D:DefM K C "settle" "Ways.settle" s_Ways_settle) (hb:Blt mg) (hsorted:mg "sorted"=none) (T_Ways:ClsD K mg "Ways" C at_Ways) (M_Ways_best_way:OwnM P w K mg base 3 C "best_way" ["self","goal"] (sp_bway C)) (M_Ways_better_mark:OwnM P w K mg base 2 C "better_mark" ["self","goal","mark"] (sp_bmark C)):OwnM P w K mg base 4 C "settle" ["self"] (sp_settle C):=by
  refine D.own sc_Ways_settle (fun _ _ _ _ _ _ us hl=>match us,hl with|[_],_=>rfl) (fun vs H Q E h=>?_) (fun f cdv A outer s H vs Q E hr h=>?_)
  · obtain ⟨dom,a,st,rfl,_⟩:=h
    rfl
  · obtain ⟨dom,a,st,rfl,Y,q⟩:=h
    have hu:=hr.units
    have hu1:(A.deeper (PyProof.Rows.envOfC "Ways.settle" (defScope s_Ways_settle) s.heap.objs.size f cdv)).units+1<cLine:=by omega
    have ex:=Y.inst
    have hpr:=Y.hr
    have hil:a.ins.length≤dom.length:=by
      have:=nd_le (l2:=dom) Y.rnd fun k hk=>by
        obtain ⟨q,hq,rfl⟩:=List.mem_map.mp hk
        exact (Y.rdm q hq).1
      rw [List.length_map] at this
      exact this
    have dl:=Y.dlen
    refine ⟨_,(@pss_one _ _ _ (@ps_for _ _ _ _ _ _ _ _ PassesOwn.never rfl (@pi_listK _ K _ _ _ (@pe_callB _ _ _ _ _ _ _ _ _ (call_sortD rfl) rfl hsorted bt_sorted (@pa_cX _ _ _ _ _ (@pe_fldK _ K _ _ _ _ (@pv _ 0 _ _ (by rfl) (by first|exact Or.inl rfl|exact Or.inr (Or.inl rfl)|exact Or.inr (Or.inr rfl)) (by decide) (by decide)) (by rfl) (by rfl)) (@pa_nil _) (by rfl)) (by decide) (by decide) (by rfl) (by rfl)) (by rfl)) (@pg_name _ _ 1 _ sc_Ways_settle.nd rfl (by first|exact Or.inl rfl|exact Or.inr rfl) (by first|exact .inl rfl|exact .inr rfl|assumption)) (@pss_cons _ _ _ _ _ (@ps_set _ _ 2 _ _ _ _ sc_Ways_settle.nd rfl (by first|exact Or.inl rfl|exact Or.inr rfl) (@pe_mth _ _ _ _ _ _ _ _ _ _ _ _ _ _ _ M_Ways_best_way T_Ways.cl hr (@pv _ 0 _ _ (by rfl) (by first|exact Or.inl rfl|exact Or.inr (Or.inl rfl)|exact Or.inr (Or.inr rfl)) (by decide) (by decide)) (@pa_cX _ _ _ _ _ (@pv _ 1 _ _ (by rfl) (by first|exact Or.inl rfl|exact Or.inr (Or.inl rfl)|exact Or.inr (Or.inr rfl)) (by decide) (by decide)) (@pa_nil _) (by rfl)) (by decide) (by rfl) (by rfl) (by rfl)) (by rfl) (by first|exact .inl rfl|exact .inr rfl|assumption)) (@pss_cons _ _ _ _ _ (@ps_asg _ _ _ _ _ _ (@pv _ 2 _ _ (by rfl) (by first|exact Or.inl rfl|exact Or.inr (Or.inl rfl)|exact Or.inr (Or.inr rfl)) (by decide) (by decide)) (@pg_sub _ _ _ _ _ _ _ (@pe_fldK _ K _ _ _ _ (@pv _ 0 _ _ (by rfl) (by first|exact Or.inl rfl|exact Or.inr (Or.inl rfl)|exact Or.inr (Or.inr rfl)) (by decide) (by decide)) (by rfl) (by rfl)) (@pv _ 1 _ _ (by rfl) (by first|exact Or.inl rfl|exact Or.inr (Or.inl rfl)|exact Or.inr (Or.inr rfl)) (by decide) (by decide)) (@set_x _ hu1) (by intro _; rfl)) (by rfl) (by rfl) (by rfl)) (@pss_one _ _ _ (@ps_if _ _ _ _ _ _ _ _ (@pt_cmpR _ _ _ _ _ _ _ _ op_notN (@pv _ 2 _ _ (by rfl) (by first|exact Or.inl rfl|exact Or.inr (Or.inl rfl)|exact Or.inr (Or.inr rfl)) (by decide) (by decide)) (@pe_non _ _ _) (nomark _)) (@pss_one _ _ _ (@ps_expr _ _ _ _ (@pe_mth _ _ _ _ _ _ _ _ _ _ _ _ _ _ _ M_Ways_better_mark T_Ways.cl hr (@pv _ 0 _ _ (by rfl) (by first|exact Or.inl rfl|exact Or.inr (Or.inl rfl)|exact Or.inr (Or.inr rfl)) (by decide) (by decide)) (@pa_cX _ _ _ _ _ (@pv _ 1 _ _ (by rfl) (by first|exact Or.inl rfl|exact Or.inr (Or.inl rfl)|exact Or.inr (Or.inr rfl)) (by decide) (by decide)) (@pa_cX _ _ _ _ _ (@pe_tup _ _ _ _ _ (@pa_cX _ _ _ _ _ (@pe_ix _ _ _ _ _ _ _ (ix_get hu1) (@pv _ 2 _ _ (by rfl) (by first|exact Or.inl rfl|exact Or.inr (Or.inl rfl)|exact Or.inr (Or.inr rfl)) (by decide) (by decide)) (@pe_int _ _ _ _) (fun _ _=>rfl)) (@pa_cX _ _ _ _ _ (@pe_ix _ _ _ _ _ _ _ (ix_get hu1) (@pv _ 2 _ _ (by rfl) (by first|exact Or.inl rfl|exact Or.inr (Or.inl rfl)|exact Or.inr (Or.inr rfl)) (by decide) (by decide)) (@pe_int _ _ _ _) (fun _ _=>rfl)) (@pa_nil _) (by rfl)) (by rfl))) (@pa_nil _) (by rfl)) (by rfl)) (by decide) (by rfl) (by rfl) (by rfl)) (by rfl))) (@pss_nil _))))) (by intro _; rfl))),?_⟩
    simp (maxSteps:=1000000) only [tFor_eq,Nat.reduceSub,HO.dK.injEq,HO.ins.injEq,Nat.reduceAdd,tFld,iList,cZ0,eZ1,tVar,tCons,tNil,tCB,L2.start,mZ1,mZ0,lZ1,lZ0,List.replicate,List.cons_append,List.nil_append,gZ0,oZ0,eZ0,V.ref.injEq,and_true,true_and,and_assoc,ex,rSortD,hpr,T_Ways.cl,T_Ways.no "last_reports" (by decide),fs_Ways_last_reports]
    refine ⟨a.ins.map (·.1),?_,by rw [List.length_map]; omega,fun gs hperm hsrt=>?_⟩
    · unfold rkv
      rw [List.map_map,List.map_map]
      rfl
    intro p1 n1
    generalize z1:upd H p1 _=H1
    obtain ⟨s1,e1⟩:=new_same z1 n1
    have hnd:gs.Nodup:=hperm.nodup_iff.mpr Y.rnd
    have hmem:∀ g,g∈gs↔st.rep g≠none:=fun g=>by
      rw [hperm.mem_iff]
      constructor
      · intro h
        obtain ⟨q,hq,rfl⟩:=List.mem_map.mp h
        obtain ⟨f,_,h1,_⟩:=Y.rin q hq
        rw [h1]
        simp
      · intro h
        obtain ⟨q,hq,e⟩:=rep_of Y h
        rw [← e]
        exact List.mem_map_of_mem hq
    refine ⟨⟨_,SqL.of e1⟩,for_list (xs:=gs.map V.int) (Ls C dom H a st p1 gs) ⟨st,none,none,rfl,e1,Y.same s1,s1.keep,rfl,rfl,rfl,rfl,(fun g _=>⟨rfl,rfl⟩),(fun g hg=>nomatch hg)⟩ ?_ ?_ ?_⟩
    · rintro i σ H' hi ⟨st',v1,v2,rfl,el,_⟩
      exact SqL.of el
    · rintro i gv σ H2 hgv ⟨st',v1,v2,rfl,el,Y2,k2,c1,c2,c3,c4,c5,c6⟩
      rw [List.getElem?_map] at hgv
      obtain ⟨g,hg,rfl⟩:=Option.map_eq_some_iff.mp hgv
      have hgm:g∈gs:=List.mem_of_getElem? hg
      have hrp:st'.rep g≠none:=by rw [c3]; exact (hmem g).mp hgm
      have hgd:g∈dom:=by
        obtain ⟨q,hq,e⟩:=rep_of Y2 hrp
        rw [← e]
        exact (Y2.rdm q hq).1
      have hno:g ∉ gs.take i:=fun hm=>by
        obtain ⟨j,hj⟩:=List.getElem?_of_mem hm
        rw [List.getElem?_take] at hj
        split at hj
        · next hji=>
          have hil:i<gs.length:=(List.getElem?_eq_some_iff.mp hg).1
          have:=(List.getElem?_inj hil hnd).mp (hg.trans hj.symm)
          omega
        · cases hj
      have etk:gs.take (i+1)=gs.take i++[g]:=by rw [List.take_succ,hg]; rfl
      have ex2:=Y2.inst
      simp (maxSteps:=1000000) only [rGet,rSetX,gSub,HO.ins.injEq,Nat.reduceAdd,tMeth,tFld,tSeq,eZ1,tIfS,tTest,tOp,tVar,tC,tAsg,gName,tNext,tCons,tNil,tDrop,tTup,lZ1,lZ0,gZ0,gZ1,sZ0,sZ1,oZ0,eZ0,V.bl.injEq,V.ref.injEq,true_and,and_assoc,aZ0,ex2,fn_Ways_best_way]
      refine ⟨dom,a,st',g,rfl,Y2,hrp,fun v r H3 s3 hB hv=>?_⟩
      have Y3:=Y2.same s3
      have ex3:=Y3.inst
      obtain ⟨kvs,hpw,hdm⟩:=Y3.hw
      have hln:kvs.length<sizeLine:=by have:=hdm.len; rw [sizeLine_eq]; omega
      simp (maxSteps:=1000000) only [setO_di',HO.ins.injEq,eZ1,if_true,oZ0,eZ0,V.ref.injEq,true_and,and_assoc,ex3,hpw,hln,T_Ways.cl,T_Ways.no "ways" (by decide),fs_Ways_ways]
      have Y4:=Y3.setW hpw hdm hgd hrp hv
      have k4:Keep [a.pw] H3 (upd H3 a.pw (.dK (putK kvs (Sum.inl g) v))):=Keep.refl.upd (.inl (.head _))
      have hBst:Best st g r:=hB.cg c3 c4 (c5 g hno).2
      generalize upd H3 a.pw (.dK (putK kvs (Sum.inl g) v))=H4 at Y4 k4 ⊢
      have hpl:∀ b∈ads a,p1≠b:=fun b hb' z=>by
        obtain ⟨kv,hk⟩:=Y2.dic b hb'
        rw [← z,el] at hk
        cases hk
      have el4:=k4 _ _ (s3 _ _ el) (by simp; exact hpl _ (mem_pw a))
      have k24:Keep [a.pm,a.pw] H H4:=fun b o e hn=>by
        have hn':=hn
        simp only [List.mem_cons,List.not_mem_nil,or_false,not_or] at hn'
        exact k4 _ _ (s3 _ _ (k2 _ _ e hn)) (by simp; exact hn'.2)
      cases r with
      | none=>
        have hv:v=.non:=hv
        subst hv
        simp (maxSteps:=1000000) only [decide_true,Bool.not_true,if_false,Bool.false_eq_true,exists_const,reduceCtorEq,false_and]
        refine ⟨_,_,_,rfl,el4,Y4,k24,c1,c2,c3,c4,fun j hj=>?_,fun j hj=>?_⟩
        · rw [etk,List.mem_append,List.mem_singleton,not_or] at hj
          dsimp only
          rw [if_neg hj.2]
          exact c5 j hj.1
        · rw [etk] at hj
          rcases List.mem_append.mp hj with z|z
          · have hjg:j≠g:=fun y=>hno (y ▸ z)
            dsimp only
            rw [if_neg hjg]
            exact c6 j z
          · rw [List.mem_singleton] at z
            subst z
            exact ⟨none,hBst,by dsimp only; rw [if_pos rfl],(c5 j hno).2⟩
      | some ww=>
        obtain ⟨t,rfl,ht⟩:=hv
        have ht4:=k4 _ _ ht (by simp; exact fun z=>by rw [z,hpw] at ht; cases ht)
        have ex4:=Y4.inst
        simp (maxSteps:=1000000) only [getO_t,atI_0,atI_1,HO.ins.injEq,decide_false,Bool.not_false,eZ1,if_true,oZ0,eZ0,V.ref.injEq,true_and,reduceCtorEq,and_assoc,ht4,ex4,fn_Ways_better_mark]
        refine ⟨by decide,?_⟩
        intro p5 n5
        generalize z5:upd H4 p5 _=H5
        obtain ⟨s5,e5⟩:=new_same z5 n5
        refine ⟨dom,a,_,g,p5,(ww.1,ww.2.1),rfl,Y4.same s5,e5,hgd,hrp,fun H6 Y6 k6=>?_⟩
        refine ⟨_,_,_,rfl,k6 _ _ (s5 _ _ el4) (by simp; exact hpl _ (mem_pm a)),Y6,fun b o e hn=>?_,c1,c2,c3,c4,fun j hj=>?_,fun j hj=>?_⟩
        · have hn':=hn
          simp only [List.mem_cons,List.not_mem_nil,or_false,not_or] at hn'
          exact k6 _ _ (s5 _ _ (k24 _ _ e hn)) (by simp; exact hn'.1)
        · rw [etk,List.mem_append,List.mem_singleton,not_or] at hj
          dsimp only
          rw [if_neg hj.2,if_neg hj.2]
          exact c5 j hj.1
        · rw [etk] at hj
          rcases List.mem_append.mp hj with z|z
          · have hjg:j≠g:=fun y=>hno (y ▸ z)
            dsimp only
            rw [if_neg hjg,if_neg hjg]
            exact c6 j z
          · rw [List.mem_singleton] at z
            subst z
            refine ⟨some ww,hBst,by dsimp only; rw [if_pos rfl],?_⟩
            dsimp only
            rw [if_pos rfl,(c5 j hno).2]
            rfl
    · rintro σ H2 ⟨st',v1,v2,rfl,el,Y2,k2,c1,c2,c3,c4,c5,c6⟩
      rw [List.take_of_length_le (by simp)] at c5 c6
      simp (maxSteps:=1000000) only []
      exact q st' H2 ⟨c1,c2,c3,c4,fun g hg=>c5 g fun z=>(hmem g).mp z hg,fun g hg=>c6 g ((hmem g).mpr hg)⟩ Y2 k2
end
end K15
namespace K15
open PySem L2
section
variable {P:Program} {w:World} {K:PySem.W.Frag} {mg:Str→Option Value} {base:Heap} {C:Addr}
abbrev Rw:=Int × Int × Option Int
def RRow (H:Hp) (v:V) (r:Rw):Prop:=∃ t,v=.ref t∧H t=some (.tup [.int r.1,.int r.2.1,optV r.2.2])
theorem RRow.keep {S:List Addr} {H H':Hp} {v:V} {r:Rw} (h:RRow H v r) (k:Keep S H H') (hs:∀ b∈S,NoT H b):RRow H' v r:=by
  obtain ⟨t,h1,h2⟩:=h
  exact ⟨t,h1,k _ _ h2 fun z=>hs t z _ h2⟩
def hear1 (me nb:Int) (rep:Int→Option (Int→Option Rp)) (r:Rw):Int→Option (Int→Option Rp):=if r.1=me then rep else fun k=>if k=r.1 then some (fun m=>if m=nb then some (r.2.1,r.2.2) else ((rep r.1).getD (fun _=>none)) m) else rep k
def hearS (st:WSt) (nb:Int) (rs:List Rw):WSt:={ st with rep:=rs.foldl (hear1 st.me nb) st.rep }
theorem hear_none {me nb:Int} {rep:Int→Option (Int→Option Rp)} {r:Rw} {k:Int} (h:hear1 me nb rep r k=none):rep k=none:=by
  unfold hear1 at h
  by_cases h1:r.1=me
  · rw [if_pos h1] at h; exact h
  · rw [if_neg h1] at h
    by_cases h2:k=r.1
    · rw [if_pos h2] at h; cases h
    · rw [if_neg h2] at h; exact h
theorem nodup_snd2 {l:List (Int × Addr)} (h:(l.map (·.2)).Nodup) {q q':Int × Addr} (h1:q∈l) (h2:q'∈l) (e:q.2=q'.2):q=q':=by
  induction l with
  | nil=>cases h1
  | cons p r ih=>
    rw [mZ1,List.nodup_cons] at h
    rcases List.mem_cons.mp h1 with rfl|h1' <;> rcases List.mem_cons.mp h2 with rfl|h2'
    · rfl
    · exact absurd (by rw [e]; exact List.mem_map_of_mem h2') h.1
    · exact absurd (by rw [← e]; exact List.mem_map_of_mem h1') h.1
    · exact ih h.2 h1' h2'
section
variable {dom:List Int} {H:Hp} {a:WA} {st:WSt}
theorem WaysAt.setR (Y:WaysAt C dom H a st) {q:Int × Addr} (hq:q∈a.ins) {f:Int→Option Rp} {kvs:List (Key × V)} {nb:Int} {v:V} {m:Rp} (hf:st.rep q.1=some f) (hpd:H q.2=some (.dK kvs)) (hdm:DM dom kvs f (RRp H)) (hnb:nb∈dom) (hv:RRp H v m) :
    WaysAt C dom (upd H q.2 (.dK (putK kvs (Sum.inl nb) v))) a { st with rep:=fun k=>if k=q.1 then some (fun j=>if j=nb then some m else f j) else st.rep k }:=by
  have k:Keep [q.2] H (upd H q.2 (.dK (putK kvs (Sum.inl nb) v))):=Keep.refl.upd (.inl (.head _))
  have hnT:∀ b∈[q.2],NoT H b:=noT1 (.of_dK hpd)
  obtain ⟨x1,x2,x3,x4⟩:=out4 Y hq
  have nds:(a.ins.map (·.2)).Nodup:=by
    have:=Y.nd
    unfold ads at this
    exact (List.nodup_append.mp this).2.1
  refine ⟨k _ _ Y.inst (by simp; exact fun z=>Y.xn (z ▸ mem_in hq)),k _ _ Y.hr (by simp; exact Ne.symm x1),Y.rnd,Y.rdm,fun q' hq'=>?_,fun j hj=>?_,?_,?_,?_,Y.nd,fun j hj=>?_,Y.dlen⟩
  · by_cases e:q'.1=q.1
    · have e2:q'=q:=by
        have h1:=rkv_get Y.rnd hq'
        have h2:=rkv_get Y.rnd hq
        rw [e,h2] at h1
        have h3:V.ref q.2=V.ref q'.2:=Option.some.inj h1
        injection h3 with h4
        exact Prod.ext e h4.symm
      subst e2
      exact ⟨_,_,by dsimp only; rw [if_pos rfl],upd_same,(hdm.put hnb hv).mono fun v a h=>h.keep k hnT⟩
    · obtain ⟨f',kvs',h1,h2,h3⟩:=Y.rin q' hq'
      have hne:q'.2≠q.2:=fun z=>e (congrArg Prod.fst (nodup_snd2 nds hq' hq z))
      exact ⟨f',kvs',by dsimp only; rw [if_neg e]; exact h1,k _ _ h2 (by simp; exact hne),h3.mono fun v a h=>h.keep k hnT⟩
  · have:j≠q.1:=fun z=>hj (z ▸ List.mem_map_of_mem hq)
    dsimp only
    rw [if_neg this]
    exact Y.rno j hj
  · obtain ⟨kvs,h1,h2⟩:=Y.hp
    exact ⟨kvs,k _ _ h1 (by simp; exact Ne.symm x2),h2⟩
  · obtain ⟨kvs,h1,h2⟩:=Y.hm
    exact ⟨kvs,k _ _ h1 (by simp; exact Ne.symm x3),h2.mono fun v a h=>h.keep k hnT⟩
  · obtain ⟨kvs,h1,h2⟩:=Y.hw
    exact ⟨kvs,k _ _ h1 (by simp; exact Ne.symm x4),h2.mono fun v a h=>h.keep k hnT⟩
  · dsimp only at hj
    split at hj
    · cases hj
    · exact Y.msub j hj
theorem WaysAt.addR (Y:WaysAt C dom H a st) {g:Int} {p:Addr} (hg:g∈dom) (hme:g≠st.me) (hno:g ∉ a.ins.map (·.1)) (hp:H p=some (.dK [])) (hpa:p ∉ ads a) :
    WaysAt C dom (upd H a.pr (.dK (rkv (a.ins++[(g,p)])))) { a with ins:=a.ins++[(g,p)] } { st with rep:=fun k=>if k=g then some (fun _=>none) else st.rep k }:=by
  have k:Keep [a.pr] H (upd H a.pr (.dK (rkv (a.ins++[(g,p)])))):=Keep.refl.upd (.inl (.head _))
  have hnT:∀ b∈[a.pr],NoT H b:=noT1 (.of_dK Y.hr)
  obtain ⟨n1,n2,n3,n4,n5,n6⟩:=Y.ne4
  have hppr:p≠a.pr:=fun z=>hpa (z ▸ mem_pr a)
  refine ⟨k _ _ Y.inst (by simp; exact fun z=>Y.xn (z ▸ mem_pr a)),upd_same,?_,fun q hq=>?_,fun q hq=>?_,fun j hj=>?_,?_,?_,?_,?_,fun j hj=>?_,Y.dlen⟩
  · show ((a.ins++[(g,p)]).map (·.1)).Nodup
    rw [List.map_append,List.nodup_append]
    refine ⟨Y.rnd,by simp,fun c hc d hd=>?_⟩
    simp at hd
    subst hd
    exact fun z=>hno (z ▸ hc)
  · rcases List.mem_append.mp hq with z|z
    · exact Y.rdm q z
    · rw [List.mem_singleton] at z
      subst z
      exact ⟨hg,hme⟩
  · rcases List.mem_append.mp hq with z|z
    · obtain ⟨f,kvs,h1,h2,h3⟩:=Y.rin q z
      have hne:q.1≠g:=fun y=>hno (y ▸ List.mem_map_of_mem z)
      exact ⟨f,kvs,by dsimp only; rw [if_neg hne]; exact h1,k _ _ h2 (by simp; exact (out4 Y z).1),h3.mono fun v a h=>h.keep k hnT⟩
    · rw [List.mem_singleton] at z
      subst z
      exact ⟨fun _=>none,[],by dsimp only; rw [if_pos rfl],k _ _ hp (by simp; exact hppr),DM.nil⟩
  · have hj':j ∉ (a.ins++[(g,p)]).map (·.1):=hj
    rw [List.map_append,List.mem_append,not_or] at hj'
    have:j≠g:=fun z=>hj'.2 (by simp [z])
    dsimp only
    rw [if_neg this]
    exact Y.rno j hj'.1
  · obtain ⟨kvs,h1,h2⟩:=Y.hp
    exact ⟨kvs,k _ _ h1 (by simp; exact Ne.symm n1),h2⟩
  · obtain ⟨kvs,h1,h2⟩:=Y.hm
    exact ⟨kvs,k _ _ h1 (by simp; exact Ne.symm n2),h2.mono fun v a h=>h.keep k hnT⟩
  · obtain ⟨kvs,h1,h2⟩:=Y.hw
    exact ⟨kvs,k _ _ h1 (by simp; exact Ne.symm n3),h2.mono fun v a h=>h.keep k hnT⟩
  · have e:ads { a with ins:=a.ins++[(g,p)] }=ads a++[p]:=by
      unfold ads
      simp
    rw [e,List.nodup_append]
    refine ⟨Y.nd,by simp,fun c hc d hd=>?_⟩
    rw [List.mem_singleton] at hd
    subst hd
    exact fun z=>hpa (z ▸ hc)
  · dsimp only at hj
    split at hj
    · cases hj
    · exact Y.msub j hj
end
def sp_heard (C:Addr):Sp:=fun vs H Q _=>∃ (dom:List Int) (a:WA) (st:WSt) (nb:Int) (pl:Addr) (xs:List V) (rs:List Rw),vs=[.ref a.x,.int nb,.ref pl]∧WaysAt C dom H a st∧H pl=some (.lst xs)∧Paired (RRow H) xs rs∧nb∈dom∧(∀ r∈rs,r.1∈dom) ∧
  ∀ a' H',WaysAt C dom H' a' (hearS st nb rs)→a'.x=a.x→(∀ b∈ads a,b∈ads a')→(∀ b∈ads a',b∈ads a∨H b=none)→Keep (ads a) H H'→Q .non H'
def Lh (C:Addr) (dom:List Int) (H:Hp) (a:WA) (st:WSt) (nb:Int) (pl:Addr) (xs:List V) (rs:List Rw) (i:Nat) (σ:St) (H':Hp):Prop:=∃ a' v3 v4 v5 v6,σ=[some (.ref a.x),some (.int nb),some (.ref pl),v3,v4,v5,v6]∧H' pl=some (.lst xs)∧WaysAt C dom H' a' (hearS st nb (rs.take i))∧a'.x=a.x∧(∀ b∈ads a,b∈ads a')∧(∀ b∈ads a',b∈ads a∨H b=none)∧Keep (ads a) H H'
set_option maxHeartbeats 4000000 in
theorem own_heard (D:DefM K C "heard" "Ways.heard" s_Ways_heard) (T_Ways:ClsD K mg "Ways" C at_Ways):OwnM P w K mg base 1 C "heard" ["self","neighbour","reports"] (sp_heard C):=by
  refine D.own sc_Ways_heard (fun _ _ _ _ _ _ us hl=>match us,hl with|[_,_,_],_=>rfl) (fun vs H Q E h=>?_) (fun f cdv A outer s H vs Q E hr h=>?_)
  · obtain ⟨dom,a,st,nb,pl,xs,rs,rfl,_⟩:=h
    rfl
  · obtain ⟨dom,a,st,nb,pl,xs,rs,rfl,Y,epl,hxs,hnb,hgd,q⟩:=h
    have hu:=hr.units
    have hu1:(A.deeper (PyProof.Rows.envOfC "Ways.heard" (defScope s_Ways_heard) s.heap.objs.size f cdv)).units+1<cLine:=by omega
    have hxl:=hxs.length
    refine ⟨_,(@pss_one _ _ _ (@ps_for _ _ _ _ _ _ _ _ PassesOwn.never rfl (@pi_listK _ K _ _ _ (@pv _ 2 _ _ (by rfl) (by first|exact Or.inl rfl|exact Or.inr (Or.inl rfl)|exact Or.inr (Or.inr rfl)) (by decide) (by decide)) (by rfl)) (@pg_seqX _ _ _ _ 3 _ rfl (@pgs_cons _ _ _ _ _ (@pg_name _ _ 3 _ sc_Ways_heard.nd rfl (by first|exact Or.inl rfl|exact Or.inr rfl) (by first|exact .inl rfl|exact .inr rfl|assumption)) (@pgs_cons _ _ _ _ _ (@pg_name _ _ 4 _ sc_Ways_heard.nd rfl (by first|exact Or.inl rfl|exact Or.inr rfl) (by first|exact .inl rfl|exact .inr rfl|assumption)) (@pgs_cons _ _ _ _ _ (@pg_name _ _ 5 _ sc_Ways_heard.nd rfl (by first|exact Or.inl rfl|exact Or.inr rfl) (by first|exact .inl rfl|exact .inr rfl|assumption)) (@pgs_nil _) (by rfl)) (by rfl)) (by rfl)) (by rfl) (by rfl)) (@pss_one _ _ _ (@ps_if _ _ _ _ _ _ _ _ (@pt_cmpR _ _ _ _ _ _ _ _ op_ne (@pv _ 3 _ _ (by rfl) (by first|exact Or.inl rfl|exact Or.inr (Or.inl rfl)|exact Or.inr (Or.inr rfl)) (by decide) (by decide)) (@pe_fldK _ K _ _ _ _ (@pv _ 0 _ _ (by rfl) (by first|exact Or.inl rfl|exact Or.inr (Or.inl rfl)|exact Or.inr (Or.inr rfl)) (by decide) (by decide)) (by rfl) (by rfl)) (nomark _)) (@pss_cons _ _ _ _ _ (@ps_set _ _ 6 _ _ _ _ sc_Ways_heard.nd rfl (by first|exact Or.inl rfl|exact Or.inr rfl) (@pe_dsd _ _ _ _ _ _ _ _ _ (@pe_fldK _ K _ _ _ _ (@pv _ 0 _ _ (by rfl) (by first|exact Or.inl rfl|exact Or.inr (Or.inl rfl)|exact Or.inr (Or.inr rfl)) (by decide) (by decide)) (by rfl) (by rfl)) (@pv _ 3 _ _ (by rfl) (by first|exact Or.inl rfl|exact Or.inr (Or.inl rfl)|exact Or.inr (Or.inr rfl)) (by decide) (by decide)) (@pe_dnewK _ _) (by constructor <;> rfl)) (by rfl) (by first|exact .inl rfl|exact .inr rfl|assumption)) (@pss_one _ _ _ (@ps_asg _ _ _ _ _ _ (@pe_tup _ _ _ _ _ (@pa_cX _ _ _ _ _ (@pv _ 4 _ _ (by rfl) (by first|exact Or.inl rfl|exact Or.inr (Or.inl rfl)|exact Or.inr (Or.inr rfl)) (by decide) (by decide)) (@pa_cX _ _ _ _ _ (@pv _ 5 _ _ (by rfl) (by first|exact Or.inl rfl|exact Or.inr (Or.inl rfl)|exact Or.inr (Or.inr rfl)) (by decide) (by decide)) (@pa_nil _) (by rfl)) (by rfl))) (@pg_sub _ _ _ _ _ _ _ (@pv _ 6 _ _ (by rfl) (by first|exact Or.inl rfl|exact Or.inr (Or.inl rfl)|exact Or.inr (Or.inr rfl)) (by decide) (by decide)) (@pv _ 1 _ _ (by rfl) (by first|exact Or.inl rfl|exact Or.inr (Or.inl rfl)|exact Or.inr (Or.inr rfl)) (by decide) (by decide)) (@set_x _ hu1) (by intro _; rfl)) (by rfl) (by rfl) (by rfl)))) (@pss_nil _))) (by intro _; rfl))),?_⟩
    simp (maxSteps:=1000000) only [tFor_eq,Nat.reduceSub,Nat.reduceAdd,iList,tVar,L2.start,mZ1,mZ0,lZ1,lZ0,List.replicate,List.cons_append,List.nil_append,gZ0,gZ1,oZ0,eZ0,V.ref.injEq]
    refine ⟨⟨_,SqL.of epl⟩,for_list (xs:=xs) (Lh C dom H a st nb pl xs rs) ⟨a,none,none,none,none,rfl,epl,Y,rfl,(fun b hb'=>hb'),(fun b hb'=>.inl hb'),Keep.refl⟩ ?_ ?_ ?_⟩
    · rintro i σ H' hi ⟨a',v3,v4,v5,v6,rfl,el,_⟩
      exact SqL.of el
    · rintro i rv σ H1 hrv ⟨a',v3,v4,v5,v6,rfl,el,Y1,hax,hsb,hads,k1⟩
      obtain ⟨r,hri,hrow⟩:=paired_get hxs hrv
      obtain ⟨t,rfl,ht⟩:=hrow.keep k1 Y.noT
      have hgr:=hgd r (List.mem_of_getElem? hri)
      have etk:rs.take (i+1)=rs.take i++[r]:=by rw [List.take_succ,hri]; rfl
      have est:hearS st nb (rs.take (i+1))={ hearS st nb (rs.take i) with rep:=hear1 st.me nb (hearS st nb (rs.take i)).rep r }:=by
        unfold hearS
        rw [etk,List.foldl_append]
        rfl
      have hme:(hearS st nb (rs.take i)).me=st.me:=rfl
      have ex1:H1 a.x=some (.ins C a'.dx (fs_Ways (.int st.me) (.int st.own) (.ref a'.pr) (.ref a'.pp) (.ref a'.pm) (.ref a'.pw))):=by rw [← hax]; exact Y1.inst
      simp (maxSteps:=1000000) only [gSeqX,rSetX,seqO_t,gCons,gNil,gSub,HO.ins.injEq,Nat.reduceAdd,tFld,cZ0,rNe_ii,tSeq,eZ1,tIfS,tTest,tOp,tVar,tAsg,gName,tNext,tCons,tNil,tTup,lZ1,lZ0,gZ0,gZ1,sZ0,sZ1,oZ0,eZ0,V.bl.injEq,V.ref.injEq,true_and,and_assoc,ht,ex1,T_Ways.cl,T_Ways.no "me" (by decide),fs_Ways_me]
      by_cases hg:r.1=st.me
      · simp only [hg,decide_true,Bool.not_true,Bool.false_eq_true,if_false]
        refine ⟨a',_,_,_,_,rfl,el,?_,hax,hsb,hads,k1⟩
        rw [est]
        unfold hear1
        rw [if_pos hg]
        exact Y1
      · simp only [hg,decide_false,Bool.not_false,if_true]
        have hpr:=Y1.hr
        simp (maxSteps:=1000000) only [tDNewK,HO.dK.injEq,HO.ins.injEq,tFld,eZ1,tVar,gZ0,gZ1,oZ0,eZ0,V.ref.injEq,true_and,and_assoc,ex1,tDSD,hpr,keyV_i,T_Ways.cl,T_Ways.no "last_reports" (by decide),fs_Ways_last_reports]
        intro p2 n2
        generalize z2:upd H1 p2 _=H2
        obtain ⟨s2,e2⟩:=new_same z2 n2
        have Y2:=Y1.same s2
        have hpr2:=Y2.hr
        have hil:a'.ins.length≤dom.length:=by
          have:=nd_le (l2:=dom) Y1.rnd fun k hk=>by
            obtain ⟨q,hq,rfl⟩:=List.mem_map.mp hk
            exact (Y1.rdm q hq).1
          rw [List.length_map] at this
          exact this
        have dl:=Y.dlen
        have hpl:∀ b∈ads a',pl≠b:=fun b hb' z=>by
          obtain ⟨kv,hk⟩:=Y1.dic b hb'
          rw [← z,el] at hk
          cases hk
        have hkp:(rkv a'.ins).length<sizeLine:=by unfold rkv; rw [List.length_map,sizeLine_eq]; omega
        have hfr:∀ {b:Addr},H1 b=none→b ∉ ads a→H b=none:=fun h hn=>k1.free h hn
        have hnA:∀ {b:Addr},H1 b=none→b ∉ ads a':=fun {b} h z=>by
          obtain ⟨kv2,hk2⟩:=Y1.dic b z
          rw [h] at hk2; cases hk2
        have ht2:=s2 _ _ ht
        refine ⟨_,hpr2,hkp,fun v hv=>?_,fun hv=>?_⟩
        · have hrp:r.1∈a'.ins.map (·.1):=by
            by_cases z:r.1∈a'.ins.map (·.1)
            · exact z
            · rw [rkv_no z] at hv; cases hv
          obtain ⟨q1,hq1,eq1⟩:=List.mem_map.mp hrp
          rw [← eq1,rkv_get Y2.rnd hq1] at hv
          cases hv
          obtain ⟨f1,kvs,hf1,hpd,hdm⟩:=Y2.rin q1 hq1
          have hln:kvs.length<sizeLine:=by have:=hdm.len; rw [sizeLine_eq]; omega
          refine ⟨by decide,?_⟩
          intro p3 n3
          generalize z3:upd H2 p3 _=H3
          obtain ⟨s3,e3⟩:=new_same z3 n3
          have hpd3:=s3 _ _ hpd
          simp (maxSteps:=1000000) only [setO_di',if_true,oZ0,eZ0,V.ref.injEq,hpd3,hln]
          have Y3:=(Y2.same s3).setR hq1 hf1 hpd3 (hdm.mono fun v a h=>h.keep (S:=[]) s3.keep (fun _ z=>nomatch z)) hnb (v:=.ref p3) (m:=(r.2.1,r.2.2)) ⟨p3,rfl,e3⟩
          have mq:=mem_in hq1
          refine ⟨a',_,_,_,_,rfl,?_,?_,hax,hsb,hads,fun b o e hn=>?_⟩
          · rw [upd_ne (hpl _ mq)]
            exact s3 _ _ (s2 _ _ el)
          · rw [est]
            have er:(fun k=>if k=q1.1 then some (fun j=>if j=nb then some (r.2.1,r.2.2) else f1 j) else (hearS st nb (rs.take i)).rep k)=hear1 st.me nb (hearS st nb (rs.take i)).rep r:=by
              unfold hear1
              rw [if_neg hg]
              funext k
              rw [← eq1,hf1]
              rfl
            rw [er] at Y3
            exact Y3
          · have hb2:b≠q1.2:=fun z=>by
              rcases hads _ mq with y|y
              · exact hn (z ▸ y)
              · rw [← z,e] at y; cases y
            rw [upd_ne hb2]
            exact s3 _ _ (s2 _ _ (k1 _ _ e hn))
        · have hrp:r.1 ∉ a'.ins.map (·.1):=fun z=>by
            obtain ⟨q1,hq1,eq1⟩:=List.mem_map.mp z
            rw [← eq1,rkv_get Y2.rnd hq1] at hv
            cases hv
          have ek:putK (rkv a'.ins) (Sum.inl r.1) (.ref p2)=rkv (a'.ins++[(r.1,p2)]):=by
            rw [putK_new _ hv]
            unfold rkv
            rw [List.map_append]
            rfl
          rw [ek]
          have YA:=Y2.addR hgr hg hrp e2 (hnA n2)
          have kA:Keep [a'.pr] H2 (upd H2 a'.pr (.dK (rkv (a'.ins++[(r.1,p2)])))):=Keep.refl.upd (.inl (.head _))
          generalize upd H2 a'.pr (.dK (rkv (a'.ins++[(r.1,p2)])))=H3 at YA kA ⊢
          have npr:p2≠a'.pr:=fun z=>hnA n2 (z ▸ mem_pr a')
          have e23:=kA _ _ e2 (by simp; exact npr)
          refine ⟨by decide,?_⟩
          intro p4 n4
          generalize z4:upd H3 p4 _=H4
          obtain ⟨s4,e4⟩:=new_same z4 n4
          have e24:=s4 _ _ e23
          have hln:(0:Nat)<sizeLine:=by decide
          simp (maxSteps:=1000000) only [setO_di',if_true,lZ0,oZ0,eZ0,e24,hln]
          have hq1:(r.1,p2)∈({ a' with ins:=a'.ins++[(r.1,p2)] }:WA).ins:=by
            show (r.1,p2)∈a'.ins++[(r.1,p2)]
            simp
          have hf1:({ (hearS st nb (rs.take i)) with rep:=fun k=>if k=r.1 then some (fun _=>none) else (hearS st nb (rs.take i)).rep k }:WSt).rep (r.1,p2).1=some (fun _=>none):=if_pos rfl
          have Y4:=(YA.same s4).setR hq1 hf1 e24 DM.nil hnb (v:=.ref p4) (m:=(r.2.1,r.2.2)) ⟨p4,rfl,e4⟩
          have eads:ads ({ a' with ins:=a'.ins++[(r.1,p2)] }:WA)=ads a'++[p2]:=by unfold ads; simp
          refine ⟨{ a' with ins:=a'.ins++[(r.1,p2)] },_,_,_,_,rfl,?_,?_,hax,?_,?_,fun b o e hn=>?_⟩
          · rw [upd_ne (fun z=>by rw [z,n2] at el; cases el)]
            exact s4 _ _ (kA _ _ (s2 _ _ el) (by simp; exact hpl _ (mem_pr a')))
          · rw [est]
            have er:(fun k=>if k=(r.1,p2).1 then some (fun j=>if j=nb then some (r.2.1,r.2.2) else none) else (if k=r.1 then some (fun _=>none) else (hearS st nb (rs.take i)).rep k))=hear1 st.me nb (hearS st nb (rs.take i)).rep r:=by
              unfold hear1
              rw [if_neg hg]
              funext k
              dsimp only
              by_cases hk:k=r.1
              · rw [if_pos hk,if_pos hk,Y1.rno r.1 hrp]
                rfl
              · rw [if_neg hk,if_neg hk,if_neg hk]
            dsimp only at Y4 er
            rw [er] at Y4
            exact Y4
          · intro b hb'
            rw [eads]
            exact List.mem_append_left _ (hsb b hb')
          · intro b hb'
            rw [eads] at hb'
            rcases List.mem_append.mp hb' with z|z
            · exact hads b z
            · rw [List.mem_singleton] at z
              subst z
              exact .inr (k1.free n2 fun y=>hnA n2 (hsb _ y))
          · have hb2:b≠p2:=fun z=>by
              have:=k1 _ _ e hn
              rw [z,n2] at this
              cases this
            have hb3:b≠a'.pr:=fun z=>by
              rcases hads _ (mem_pr a') with y|y
              · exact hn (z ▸ y)
              · rw [← z,e] at y; cases y
            rw [upd_ne hb2]
            exact s4 _ _ (kA _ _ (s2 _ _ (k1 _ _ e hn)) (by simp; exact hb3))
    · rintro σ H1 ⟨a',v3,v4,v5,v6,rfl,el,Y1,hax,hsb,hads,k1⟩
      rw [hxl,List.take_length] at Y1
      simp (maxSteps:=1000000) only []
      exact q a' H1 Y1 hax hsb hads k1
end
end K15
namespace K15
open PySem L2
section
variable {P:Program} {w:World} {K:PySem.W.Frag} {mg:Str→Option Value} {base:Heap} {C:Addr}
theorem _root_.L2.Same.fr {H H':Hp} {b:Addr} (s:Same H H') (h:H' b=none):H b=none:=by
  cases z:H b with
  | none=>rfl
  | some o=>rw [s _ _ z] at h; cases h
def rowOf (st:WSt) (g:Int):Rw:=(g,genOf st g,priceOf st g)
def sp_repof (C:Addr):Sp:=fun vs H Q _=>∃ (dom:List Int) (a:WA) (st:WSt) (g:Int),vs=[.ref a.x,.int g]∧WaysAt C dom H a st∧markOf st g≠none∧∀ v H',Same H H'→RRow H' v (rowOf st g)→Q v H'
theorem own_repof (D:DefM K C "report_of" "Ways.report_of" s_Ways_report_of) (T_Ways:ClsD K mg "Ways" C at_Ways) (M_Ways_mark_of:OwnM P w K mg base 1 C "mark_of" ["self","goal"] (sp_markof C)) (M_Ways_price_of:OwnM P w K mg base 1 C "price_of" ["self","goal"] (sp_priceof C)):OwnM P w K mg base 2 C "report_of" ["self","goal"] (sp_repof C):=by
  refine D.own sc_Ways_report_of (fun _ _ _ _ _ _ us hl=>match us,hl with|[_,_],_=>rfl) (fun vs H Q E h=>?_) (fun f cdv A outer s H vs Q E hr h=>?_)
  · obtain ⟨dom,a,st,g,rfl,_⟩:=h
    rfl
  · obtain ⟨dom,a,st,g,rfl,Y,hmk,q⟩:=h
    have hu:=hr.units
    have hu1:(A.deeper (PyProof.Rows.envOfC "Ways.report_of" (defScope s_Ways_report_of) s.heap.objs.size f cdv)).units+1<cLine:=by omega
    have ex:=Y.inst
    obtain ⟨kvs,hpw,hdm⟩:=Y.hw
    obtain ⟨v,hv,rw'⟩:=way_get (a:=a) hdm g
    refine ⟨_,(@pss_cons _ _ _ _ _ (@ps_set _ _ 2 _ _ _ _ sc_Ways_report_of.nd rfl (by first|exact Or.inl rfl|exact Or.inr rfl) (@pe_dgX1 _ _ _ _ _ _ _ hu1 (@pe_fldK _ K _ _ _ _ (@pv _ 0 _ _ (by rfl) (by first|exact Or.inl rfl|exact Or.inr (Or.inl rfl)|exact Or.inr (Or.inr rfl)) (by decide) (by decide)) (by rfl) (by rfl)) (@pv _ 1 _ _ (by rfl) (by first|exact Or.inl rfl|exact Or.inr (Or.inl rfl)|exact Or.inr (Or.inr rfl)) (by decide) (by decide)) (by constructor <;> rfl)) (by rfl) (by first|exact .inl rfl|exact .inr rfl|assumption)) (@pss_cons _ _ _ _ _ (@ps_set _ _ 3 _ _ _ _ sc_Ways_report_of.nd rfl (by first|exact Or.inl rfl|exact Or.inr rfl) (@pe_ifExp _ _ _ _ _ _ _ _ (@pt_cmpR _ _ _ _ _ _ _ _ op_isN (@pv _ 2 _ _ (by rfl) (by first|exact Or.inl rfl|exact Or.inr (Or.inl rfl)|exact Or.inr (Or.inr rfl)) (by decide) (by decide)) (@pe_non _ _ _) (nomark _)) (@pe_ix _ _ _ _ _ _ _ (ix_get hu1) (@pe_mth _ _ _ _ _ _ _ _ _ _ _ _ _ _ _ M_Ways_mark_of T_Ways.cl hr (@pv _ 0 _ _ (by rfl) (by first|exact Or.inl rfl|exact Or.inr (Or.inl rfl)|exact Or.inr (Or.inr rfl)) (by decide) (by decide)) (@pa_cX _ _ _ _ _ (@pv _ 1 _ _ (by rfl) (by first|exact Or.inl rfl|exact Or.inr (Or.inl rfl)|exact Or.inr (Or.inr rfl)) (by decide) (by decide)) (@pa_nil _) (by rfl)) (by decide) (by rfl) (by rfl) (by rfl)) (@pe_int _ _ _ _) (fun _ _=>rfl)) (@pe_ix _ _ _ _ _ _ _ (ix_get hu1) (@pv _ 2 _ _ (by rfl) (by first|exact Or.inl rfl|exact Or.inr (Or.inl rfl)|exact Or.inr (Or.inr rfl)) (by decide) (by decide)) (@pe_int _ _ _ _) (fun _ _=>rfl))) (by rfl) (by first|exact .inl rfl|exact .inr rfl|assumption)) (@pss_one _ _ _ (@ps_ret _ _ _ _ (@pe_tup _ _ _ _ _ (@pa_cX _ _ _ _ _ (@pv _ 1 _ _ (by rfl) (by first|exact Or.inl rfl|exact Or.inr (Or.inl rfl)|exact Or.inr (Or.inr rfl)) (by decide) (by decide)) (@pa_cX _ _ _ _ _ (@pv _ 3 _ _ (by rfl) (by first|exact Or.inl rfl|exact Or.inr (Or.inl rfl)|exact Or.inr (Or.inr rfl)) (by decide) (by decide)) (@pa_cX _ _ _ _ _ (@pe_mth _ _ _ _ _ _ _ _ _ _ _ _ _ _ _ M_Ways_price_of T_Ways.cl hr (@pv _ 0 _ _ (by rfl) (by first|exact Or.inl rfl|exact Or.inr (Or.inl rfl)|exact Or.inr (Or.inr rfl)) (by decide) (by decide)) (@pa_cX _ _ _ _ _ (@pv _ 1 _ _ (by rfl) (by first|exact Or.inl rfl|exact Or.inr (Or.inl rfl)|exact Or.inr (Or.inr rfl)) (by decide) (by decide)) (@pa_nil _) (by rfl)) (by decide) (by rfl) (by rfl) (by rfl)) (@pa_nil _) (by rfl)) (by rfl)) (by rfl))))))),?_⟩
    simp (maxSteps:=1000000) only [rGet,Nat.reduceSub,HO.dK.injEq,HO.ins.injEq,Nat.reduceAdd,tMeth,tFld,tSeq,eZ1,tTest,tOp,tVar,tC,tRet,tAsg,gName,tIf,tCons,tNil,tTup,L2.start,mZ1,mZ0,lZ1,lZ0,List.replicate,List.cons_append,List.nil_append,gZ0,gZ1,sZ0,sZ1,oZ0,eZ0,V.bl.injEq,V.ref.injEq,true_and,and_assoc,aZ0,ex,hpw,tDGX1,keyV_i,hv,T_Ways.cl,T_Ways.no "ways" (by decide),fs_Ways_ways,fn_Ways_price_of,fn_Ways_mark_of]
    have fin:∀ H1,Same H H1→sp_priceof C [.ref a.x,.int g] H1 (fun x H2=>3≤sizeLine∧∀ p,H2 p=none→Q (.ref p) (upd H2 p (.tup [.int g,.int (genOf st g),x]))) E0:=fun H1 s1=>by
      refine ⟨dom,a,st,g,rfl,Y.same s1,by decide,fun p hp=>q _ _ (s1.trans (Same.upd_new hp)) ⟨p,rfl,upd_same⟩⟩
    cases e:wayOf st g with
    | none=>
      rw [e] at rw'
      have rw':v=.non:=rw'
      subst rw'
      refine iteT ⟨dom,a,st,g,rfl,Y,fun mv H1 s1 hm=>?_⟩
      cases em:markOf st g with
      | none=>exact absurd em hmk
      | some m=>
        rw [em] at hm
        obtain ⟨t,rfl,ht⟩:=hm
        have ex1:=s1 _ _ ex
        simp (maxSteps:=1000000) only [getO_t,atI_0,HO.ins.injEq,eZ1,oZ0,eZ0,V.ref.injEq,true_and,and_assoc,ht,ex1,fn_Ways_price_of]
        have eg:genOf st g=m.1:=by unfold genOf; rw [e,em]; rfl
        have:=fin H1 s1
        rw [eg] at this
        exact this
    | some o=>
      rw [e] at rw'
      obtain ⟨t,rfl,ht⟩:=rw'
      simp (maxSteps:=1000000) only [getO_t,atI_0,decide_false,if_false,Bool.false_eq_true,oZ0,eZ0,V.ref.injEq,reduceCtorEq,ht]
      have eg:genOf st g=o.1:=by unfold genOf; rw [e]
      have:=fin H (Same.refl _)
      rw [eg] at this
      exact this
def sp_reports (C:Addr):Sp:=fun vs H Q _=>∃ (dom:List Int) (a:WA) (st:WSt),vs=[.ref a.x]∧WaysAt C dom H a st∧∀ (p:Addr) (xs:List V) (gs:List Int) (H':Hp),H p=none→Same H H'→H' p=some (.lst xs)→Paired (RRow H') xs (gs.map (rowOf st))→gs.Pairwise (·≤·)→gs.Nodup→(∀ g,g∈gs↔g=st.me∨st.mar g≠none)→Q (.ref p) H'
theorem keys_ints {α:Type} {dom:List Int} {kvs:List (Key × V)} {f:Int→Option α} {R:V→α→Prop} (h:DM dom kvs f R):∃ ks:List Int,kvs.map (·.1)=ks.map Sum.inl∧ks.Nodup∧∀ k,k∈ks↔f k≠none:=by
  have:∃ ks:List Int,kvs.map (·.1)=ks.map Sum.inl:=by
    have hk:=h.ks
    clear h
    induction kvs with
    | nil=>exact ⟨[],rfl⟩
    | cons q r ih=>
      obtain ⟨ks,e⟩:=ih fun q hq=>hk q (.tail _ hq)
      obtain ⟨k,_,e2⟩:=hk q (.head _)
      exact ⟨k::ks,by rw [mZ1,mZ1,e,e2]⟩
  obtain ⟨ks,e⟩:=this
  refine ⟨ks,e,?_,fun k=>?_⟩
  · have:=h.nd
    rw [e] at this
    unfold List.Nodup at this ⊢
    rw [List.pairwise_map] at this
    exact this.imp fun h z=>h (by rw [z])
  · rw [← h.key,e,List.mem_map]
    constructor
    · exact fun h=>⟨k,h,rfl⟩
    · rintro ⟨m,hm,e⟩
      cases e
      exact hm
set_option maxHeartbeats 4000000 in
theorem own_reports (D:DefM K C "reports" "Ways.reports" s_Ways_reports) (hb:Blt mg) (hsorted:mg "sorted"=none) (T_Ways:ClsD K mg "Ways" C at_Ways) (M_Ways_report_of:OwnM P w K mg base 2 C "report_of" ["self","goal"] (sp_repof C)):OwnM P w K mg base 3 C "reports" ["self"] (sp_reports C):=by
  refine D.own sc_Ways_reports (fun _ _ _ _ _ _ us hl=>match us,hl with|[_],_=>rfl) (fun vs H Q E h=>?_) (fun f cdv A outer s H vs Q E hr h=>?_)
  · obtain ⟨dom,a,st,rfl,_⟩:=h
    rfl
  · obtain ⟨dom,a,st,rfl,Y,q⟩:=h
    have ex:=Y.inst
    obtain ⟨kvs,hpm,hdm⟩:=Y.hm
    obtain ⟨ks,hks,hkn,hkm⟩:=keys_ints hdm
    have hkl:ks.length≤20:=by
      have h1:=congrArg List.length hks
      rw [List.length_map,List.length_map] at h1
      have:=hdm.len
      have:=Y.dlen
      omega
    refine ⟨_,(@pss_one _ _ _ (@ps_ret _ _ _ _ (@pe_comp _ _ _ _ _ _ _ _ _ _ _ ["goal"] ["self"] [0] rfl _ cs_Ways_reports_0 (@pi_listK _ K _ _ _ (@pe_callB _ _ _ _ _ _ _ _ _ call_sortL rfl hsorted bt_sorted (@pa_cX _ _ _ _ _ (@pe_op _ _ _ _ _ _ _ _ op_cat (@pe_lst _ _ _ _ (@pa_cX _ _ _ _ _ (@pe_fldK _ K _ _ _ _ (@pv _ 0 _ _ (by rfl) (by first|exact Or.inl rfl|exact Or.inr (Or.inl rfl)|exact Or.inr (Or.inr rfl)) (by decide) (by decide)) (by rfl) (by rfl)) (@pa_nil _) (by rfl))) (@pe_callTy _ _ _ _ _ _ _ _ _ (call_listD rfl) rfl (hb _ (by decide)) bt_list (@pa_cX _ _ _ _ _ (@pe_fldK _ K _ _ _ _ (@pv _ 0 _ _ (by rfl) (by first|exact Or.inl rfl|exact Or.inr (Or.inl rfl)|exact Or.inr (Or.inr rfl)) (by decide) (by decide)) (by rfl) (by rfl)) (@pa_nil _) (by rfl)) (by decide) (by decide) (by rfl) (by rfl))) (@pa_nil _) (by rfl)) (by decide) (by decide) (by rfl) (by rfl)) (by rfl)) (fun _ _ _ _=>(@pg_name _ _ 0 _ cs_Ways_reports_0.nd rfl (by first|exact Or.inl rfl|exact Or.inr rfl) (by first|exact .inl rfl|exact .inr rfl|assumption))) (fun _ _ _ _=>(@pf_nil _)) (fun _ _ _ _=>(@pe_mth _ _ _ _ _ _ _ _ _ _ _ _ _ _ _ M_Ways_report_of T_Ways.cl hr (@pv _ 1 _ _ (by rfl) (by first|exact Or.inl rfl|exact Or.inr (Or.inl rfl)|exact Or.inr (Or.inr rfl)) (by decide) (by decide)) (@pa_cX _ _ _ _ _ (@pv _ 0 _ _ (by rfl) (by first|exact Or.inl rfl|exact Or.inr (Or.inl rfl)|exact Or.inr (Or.inr rfl)) (by decide) (by decide)) (@pa_nil _) (by rfl)) (by decide) (by rfl) (by rfl) (by rfl))) (by rfl) (by rfl) (by rfl) (by intro _; rfl)))),?_⟩
    simp (maxSteps:=1000000) only [tComp_eq,rSortL,rListD,Nat.reduceSub,upd_same,HO.lst.injEq,HO.ins.injEq,Nat.reduceAdd,tFld,iList,rCat,cZ0,eZ1,tOp,tVar,tRet,tCons,tNil,tCB,tLst,L2.start,mZ1,mZ0,lZ1,lZ0,List.replicate,gZ0,oZ0,eZ0,V.ref.injEq,and_true,true_and,and_assoc,aZ0,ex,T_Ways.cl,T_Ways.no "me" (by decide),fs_Ways_me]
    refine ⟨by decide,?_⟩
    intro p1 n1
    generalize z1:upd H p1 _=H1
    obtain ⟨s1,e1⟩:=new_same z1 n1
    have ex1:=s1 _ _ ex
    have hpm1:=s1 _ _ hpm
    simp (maxSteps:=1000000) only [HO.dK.injEq,HO.ins.injEq,eZ1,oZ0,eZ0,V.ref.injEq,true_and,and_assoc,ex1,hpm1,T_Ways.cl,T_Ways.no "marks" (by decide),fs_Ways_marks]
    intro p2 n2
    generalize z2:upd H1 p2 _=H2
    obtain ⟨s2,e2⟩:=new_same z2 n2
    have e12:=s2 _ _ e1
    simp (maxSteps:=1000000) only [HO.lst.injEq,Nat.reduceAdd,lZ1,lZ0,List.cons_append,List.nil_append,oZ0,eZ0,e12]
    have ekl:kvs.map (fun q=>kV q.1)=ks.map V.int:=by
      have:(kvs.map (·.1)).map kV=(ks.map Sum.inl).map kV:=by rw [hks]
      rw [List.map_map,List.map_map] at this
      exact this
    rw [ekl]
    refine ⟨by rw [sizeLine_eq,List.length_map]; omega,?_⟩
    have ecat:[V.int st.me]++ks.map V.int=(st.me::ks).map V.int:=rfl
    intro p3 n3
    generalize z3:upd H2 p3 _=H3
    obtain ⟨s3,e3⟩:=new_same z3 n3
    refine ⟨st.me::ks,rfl,by simp; omega,fun gs hp hs=>?_⟩
    intro p4 n4
    generalize z4:upd H3 p4 _=H4
    obtain ⟨s4,e4⟩:=new_same z4 n4
    have hme:st.mar st.me=none:=by
      refine (Y.msub st.me ?_).1
      refine Y.rno _ fun z=>?_
      obtain ⟨q0,hq0,e⟩:=List.mem_map.mp z
      exact (Y.rdm q0 hq0).2 e
    have hnd:gs.Nodup:=hp.nodup_iff.mpr (List.nodup_cons.mpr ⟨fun z=>(hkm _).mp z hme,hkn⟩)
    have hgm:∀ g,g∈gs↔g=st.me∨st.mar g≠none:=fun g=>by rw [hp.mem_iff,List.mem_cons,hkm]
    have hgl:gs.length≤21:=by have:=hp.length_eq; rw [this]; simp; omega
    have Y4:=(((Y.same s1).same s2).same s3).same s4
    refine ⟨⟨_,SqL.of e4⟩,comp_list (xs:=gs.map V.int) (by rw [sizeLine_eq,List.length_map]; omega) (fun D i acc H'=>Same H4 H'∧H' D=some (.lst acc)∧Paired (RRow H') acc ((gs.take i).map (rowOf st))) (fun D hD=>⟨Same.upd_new hD,upd_same,.nil⟩) ?_ ?_ ?_⟩
    · rintro D i acc H5 hD hi ⟨s5,e5,h5⟩
      have:=h5.length
      rw [List.length_map,List.length_take] at this
      exact ⟨e5,SqL.of (s5 _ _ e4),by omega⟩
    · rintro D i x acc H5 hD hx ⟨s5,e5,h5⟩
      rw [List.getElem?_map] at hx
      obtain ⟨g,hg,rfl⟩:=Option.map_eq_some_iff.mp hx
      have ex5:=(Y4.same s5).inst
      have etk:gs.take (i+1)=gs.take i++[g]:=by rw [List.take_succ,hg]; rfl
      simp (maxSteps:=1000000) only [upd_same,HO.ins.injEq,tMeth,tYes,cSt,List.drop_succ_cons,List.drop_zero,eZ1,if_true,tVar,gName,tCons,tNil,mZ1,mZ0,List.replicate,List.cons_append,List.nil_append,gZ0,gZ1,sZ0,oZ0,eZ0,V.ref.injEq,true_and,and_assoc,aZ0,mZ1,mZ0,Option.join_some,ex5,fn_Ways_report_of]
      have hmk:markOf st g≠none:=by
        unfold markOf
        rcases (hgm g).mp (List.mem_of_getElem? hg) with z|z
        · rw [if_pos z]; simp
        · split
          · simp
          · exact z
      refine ⟨dom,a,st,g,rfl,Y4.same s5,hmk,fun v H6 s6 hrow=>⟨s6 _ _ e5,(s5.trans s6).upd hD,?_⟩⟩
      have e6:=s6 _ _ e5
      have kD:Keep [D] H6 (upd H6 D (.lst (acc++[v]))):=Keep.refl.upd (.inl (.head _))
      have hnT:∀ b∈[D],NoT H6 b:=noT1 (.of_lst e6)
      rw [etk,List.map_append]
      exact paired_append (Paired.mapP h5 fun v r h=>(h.keep (S:=[]) s6.keep (fun _ z=>nomatch z)).keep kD hnT) (.cons (hrow.keep kD hnT) .nil)
    · rintro D acc H5 hD ⟨s5,e5,h5⟩
      rw [List.take_of_length_le (by simp)] at h5
      refine q D acc gs H5 ?_ ((((s1.trans s2).trans s3).trans s4).trans s5) e5 h5 hs hnd hgm
      exact s1.fr (s2.fr (s3.fr (s4.fr hD)))
end
end K15
namespace K15
open PySem L2 PySem.W
abbrev s__law_cell_at:Stmt:=stm 5
theorem sc__law_cell_at:FnScope ["_law_script","_law_k"] ["_law_script","_law_k"] (defScope s__law_cell_at):=⟨rfl,rfl,rfl,by decide +kernel,rfl,by decide +kernel,by decide +kernel⟩
abbrev s__law_mixed:Stmt:=stm 6
theorem sc__law_mixed:FnScope ["_law_cell","_law_k","_law_number"] ["_law_cell","_law_k"] (defScope s__law_mixed):=⟨rfl,rfl,rfl,by decide +kernel,rfl,by decide +kernel,by decide +kernel⟩
section
variable {P:Program} {w:World} {K:PySem.W.Frag} {mg:Str→Option Value} {base:Heap}
def sp_mixed:Sp:=fun vs H Q _=>∃ c k:Int,vs=[.int c,.int k]∧0≤k∧k≤1000∧∀ r:Int,0≤r→r<2147483648→Q (.int r) H
theorem own_mixed (D:Def K mg "_law_mixed" s__law_mixed):Own P w K mg base 1 "_law_mixed" ["_law_cell","_law_k"] sp_mixed:=by
  refine D.own sc__law_mixed (fun _ _ _ _ _ _ us hl=>match us,hl with|[_,_],_=>rfl) (fun vs H Q E h=>?_) (fun f cdv A outer s H vs Q E hr h=>?_)
  · obtain ⟨c,k,rfl,_⟩:=h
    rfl
  · obtain ⟨c,k,rfl,hk0,hk1,q⟩:=h
    refine ⟨_,(pss_cons (ps_if (PW.pt (pw_and (pt_cmpR op_ge (pv 0) (pe_op op_shl pe_int pe_int) (nomark _)) (pw_and (pt_cmpR op_eq (pe_op op_mod (pv 0) pe_int) pe_int (nomark _)) (pw_and1 (pt_cmpR op_gt (pe_op op_shr (pv 0) (pe_op op_add pe_int (pe_op op_mul pe_int (pv 1)))) pe_int (nomark _))))))
      (pss_one (ps_ret (pe_op op_mod (pe_op op_shr (pv 0) (pe_op op_add pe_int (pe_op op_mul pe_int (pv 1)))) pe_int)))
      pss_nil)
      (pss_cons (ps_st (i:=2) sc__law_mixed.nd rfl (pe_op op_mod (pe_op op_mul (pe_op op_add (pe_op op_add (pv 0) (pe_op op_mul pe_int (pv 1))) pe_int) pe_int) pe_int))
      (pss_cons (ps_st (i:=2) sc__law_mixed.nd rfl (pe_op op_mod (pe_op op_mul (pv 2) (pe_op op_add (pe_op op_fdiv (pv 2) pe_int) pe_int)) pe_int))
      (pss_one (ps_ret (pe_op op_mod (pe_op op_mul (pv 2) (pe_op op_add (pe_op op_add (pe_op op_fdiv (pv 2) pe_int) pe_int) (pv 1))) pe_int)))))),?_⟩
    have fin:∀ a m:Int,0<m→m≤2147483648→Q (.int (a % m)) H:=fun a m h0 h1=>q _ (Int.emod_nonneg _ (by omega)) (Int.lt_of_lt_of_le (Int.emod_lt_of_pos _ h0) h1)
    simp only [tDGs,sDPs,rIsB,rIsntB,tMeth,tMake,tDGet,sDPut,tFld,sFld,tDisp,tPairs,tNever,decide_true,decide_false,truV_bl,clsV_ty,V.ty.injEq,exists_eq',exists_eq,Bool.not_true,Bool.not_false,Bool.not_not,rLen,rListOf,rTupOf,rAny,rAll,rIsI,tTru,iRng1,iRng2,iList,tYes,cSt,List.drop_succ_cons,List.drop_zero,cxOf_K,cxC_K,  tBM,tBM0,rAppend,tSl,rSlL,tNoPart,tPart,rIxL,rIxT,rCat,cZ0,rEq_ii,rNe_ii,rEq_bb,rNe_bb,tSeq,eZ1,if_false,if_true,reduceIte,Bool.false_eq_true,tIfS,tAnd,tOr,tNot,tTest,tOp,tUn,tVar,tC,rI,rI0,rU,tRet,tRetN,tAsg,gName,tNext,tAndV,tOrV,tNotV,tIf,tCall,tCons,tNil,tCB,tDrop,tLst,tTup,tChain,L2.start,mZ1,mZ0,lZ1,lZ0,List.replicate,List.cons_append,List.nil_append,gZ0,gZ1,sZ0,sZ1,oZ0,eZ0,exists_eq_left,V.int.injEq,V.bl.injEq,V.ref.injEq,V.str.injEq,exists_const,and_true,true_and,reduceCtorEq,false_and,exists_false,or_false,false_or,and_assoc,aZ0]
    repeat' (first|refine ⟨?_,?_⟩|split)
    all_goals first
      | exact fin _ _ (by decide) (by decide)
      | exact Or.inl ⟨by decide,by decide⟩
      | exact Or.inr ⟨by decide,by decide⟩
      | exact cmul_mod (by decide) (by decide)
      | decide
      | omega
def sp_cell (K:PySem.W.Frag):Sp:=fun vs H Q _=>∃ (a:Addr) (ns:List Int) (k:Int),vs=[.ref a,.int k]∧0≤k∧SqL K H a (ns.map V.int)∧∀ r:Int,Q (.int r) H
theorem own_cell (D:Def K mg "_law_cell_at" s__law_cell_at) (hb:Blt mg):Own P w K mg base 1 "_law_cell_at" ["_law_script","_law_k"] (sp_cell K):=by
  refine D.own sc__law_cell_at (fun _ _ _ _ _ _ us hl=>match us,hl with|[_,_],_=>rfl) (fun vs H Q E h=>?_) (fun f cdv A outer s H vs Q E hr h=>?_)
  · obtain ⟨a,ns,k,rfl,_⟩:=h
    rfl
  · obtain ⟨a,ns,k,rfl,hk,hS,q⟩:=h
    refine ⟨_,(pss_cons (ps_if (pt_cmpR op_lt (pv 1) (pe_callB (call_lenK K) rfl (hb _ (by decide)) bt_len (pa_cons (pv 0) pa_nil)) (nomark _))
      (pss_one (ps_ret (pe_ix (ix_listK K) (pv 0) (pv 1) (fun _ _=>rfl))))
      pss_nil)
      (pss_one (ps_ret pe_int))),?_⟩
    simp only [tDGs,sDPs,rIsB,rIsntB,tMeth,tMake,tDGet,sDPut,tFld,sFld,tDisp,tPairs,tNever,decide_true,decide_false,truV_bl,clsV_ty,V.ty.injEq,exists_eq',exists_eq,Bool.not_true,Bool.not_false,Bool.not_not,rLen,rListOf,rTupOf,rAny,rAll,rIsI,tTru,iRng1,iRng2,iList,tYes,cSt,List.drop_succ_cons,List.drop_zero,cxOf_K,cxC_K,  tBM,tBM0,rAppend,tSl,rSlL,tNoPart,tPart,rIxL,rIxT,rCat,cZ0,rEq_ii,rNe_ii,rEq_bb,rNe_bb,tSeq,eZ1,if_false,if_true,reduceIte,Bool.false_eq_true,tIfS,tAnd,tOr,tNot,tTest,tOp,tUn,tVar,tC,rI,rI0,rU,tRet,tRetN,tAsg,gName,tNext,tAndV,tOrV,tNotV,tIf,tCall,tCons,tNil,tCB,tDrop,tLst,tTup,tChain,L2.start,mZ1,mZ0,lZ1,lZ0,List.replicate,List.cons_append,List.nil_append,gZ0,gZ1,sZ0,sZ1,oZ0,eZ0,exists_eq_left,V.int.injEq,V.bl.injEq,V.ref.injEq,V.str.injEq,exists_const,and_true,true_and,reduceCtorEq,false_and,exists_false,or_false,false_or,and_assoc,aZ0]
    refine ⟨_,.inl hS,ite2 (fun h=>?_) (fun _=>q 0)⟩
    have h':=of_decide_eq_true h
    obtain ⟨v,hv,ev⟩:=atI_in (xs:=ns.map V.int) hk h'
    obtain ⟨z,_,rfl⟩:=List.mem_map.mp hv
    exact ⟨_,hS,_,ev,q z⟩
end
end K15
namespace K15
open PySem L2 PySem.W
abbrev s__law_next:Stmt:=stm 15
theorem sc__law_next:FnScope ["_law_one","_law_there"] ["_law_one"] (defScope s__law_next):=⟨rfl,rfl,rfl,by decide +kernel,rfl,by decide +kernel,by decide +kernel⟩
abbrev s__law_next__law_there:Stmt:=(defBody s__law_next).getD 0 (.Pass ⟨0,0,0,0⟩)
theorem sc__law_next__law_there:CloScope ["_law_goal","_law_one"] ["_law_goal"] ["_law_one"] (defScope s__law_next__law_there):=⟨rfl,rfl,rfl,by decide +kernel,rfl,rfl,by decide,by decide +kernel,by decide +kernel,by decide +kernel,by decide +kernel⟩
abbrev s_chain:Stmt:=stm 3
theorem sc_chain:FnScope ["next_ofs","start","goal","hands","next_of","hand","was_met"] ["next_ofs","start","goal"] (defScope s_chain):=⟨rfl,rfl,rfl,by decide +kernel,rfl,by decide +kernel,by decide +kernel⟩
section
variable {P:Program} {w:World} {K:PySem.W.Frag} {mg:Str→Option Value} {base:Heap} {C:Addr}
abbrev gS:Stmt:=s__law_next__law_there
abbrev qN:Str:="_law_next"++".<locals>."++"_law_there"
def CloN (H:Hp) (f x:Addr):Prop:=CloAt H "_law_there" qN (defArgs gS) (defBody gS) (defScope gS) ["_law_one"] f [.ref x]
theorem clo_next (T_Ways:ClsD K mg "Ways" C at_Ways) (M_Ways_next_of:OwnM P w K mg base 1 C "next_of" ["self","goal"] (sp_nextof C)) {H:Hp} {f:Addr} {g:Int} {dom:List Int} {a:WA} {st:WSt} {Q:VK} (h:CloN H f a.x) (Y:WaysAt C dom H a st) (q:Q (optV (nextOf st g)) H):Runs P w K mg base 2 f [.int g] H Q:=by
  unfold CloN at h
  refine h.runs sc__law_next__law_there (fun _ _ _ _ _ us hl=>match us,hl with|[_],_=>rfl) rfl fun cs cl c' A outer s hcs hr=>?_
  refine ⟨_,(@pss_one _ _ _ (@ps_ret _ _ _ _ (@pe_mth _ _ _ _ _ _ _ _ _ _ _ _ _ _ _ M_Ways_next_of T_Ways.cl hr (@pv _ 1 _ _ (by rfl) (by first|exact Or.inl rfl|exact Or.inr (Or.inl rfl)|exact Or.inr (Or.inr rfl)) (by decide) (by decide)) (@pa_cX _ _ _ _ _ (@pv _ 0 _ _ (by rfl) (by first|exact Or.inl rfl|exact Or.inr (Or.inl rfl)|exact Or.inr (Or.inr rfl)) (by decide) (by decide)) (@pa_nil _) (by rfl)) (by decide) (by rfl) (by rfl) (by rfl)))),?_⟩
  have k:Keep cs H (er cs H):=fun b o e hn=>by rw [er_out hn]; exact e
  have hnT:∀ b∈cs,NoT H b:=fun b hb xs z=>by
    obtain ⟨v,e⟩:=hcs b hb
    rw [e] at z
    cases z
  have Y2:WaysAt C dom (er cs H) a st:=Y.keep k hnT (hcs.not Y.inst (fun φ z=>by cases z)) fun b hb=>by
    obtain ⟨kv,e⟩:=Y.dic b hb
    exact hcs.not e (fun φ z=>by cases z)
  have ex:=Y2.inst
  simp (maxSteps:=1000000) only [Nat.reduceSub,HO.ins.injEq,Nat.reduceAdd,tMeth,eZ1,tVar,tRet,tCons,tNil,mZ1,mZ0,lZ1,lZ0,List.replicate,List.cons_append,List.nil_append,gZ0,gZ1,oZ0,eZ0,V.ref.injEq,true_and,and_assoc,aZ0,ex,L2.startC,fn_Ways_next_of]
  refine ⟨dom,a,st,g,rfl,Y2,?_⟩
  show Q _ (rs cs H (er cs H))
  rw [rs_er]
  exact q
abbrev nPos:Pos:=⟨179,4,180,42⟩
variable {c Pt:Addr}
theorem own_lnext (D:Def K mg "_law_next" s__law_next) (KX:K.In base) (G:base.Ns mainGlobals mg) (ht:tabIn K "_law_next"=some (c,Pt)) (hd:CodeHd base c Pt) (bm:base.BuiltinsAt mg Pt) (ne:mainGlobals≠Pt) :
    Own P w K mg base 1 "_law_next" ["_law_one"] (sp_mk Pt nPos "_law_there" qN (defArgs gS) (defBody gS) (defScope gS) ["_law_one"] id 1):=by
  refine Def.maker (N:=["_law_one","_law_there"]) (i:=1) (js:=[0]) (cl:=fun L=>[("_law_one", L+1)]) (k:=0) (pos:=nPos) (p2:=⟨181,11,181,21⟩) (p3:=⟨181,4,181,21⟩) D sc__law_next (fun _ _ _ _ _ _ us hl=>match us,hl with|[_],_=>rfl) KX G rfl rfl (by decide) rfl rfl rfl (fun _=>rfl) ht hd bm ne ?_ (fun _=>rfl) (by decide) ?_ rfl (by decide) ?_ ?_
  · intro L f cdv
    rfl
  · intro L q hq
    simp only [List.mem_cons,List.not_mem_nil,or_false] at hq
    subst hq
    rfl
  · intro vs hl
    match vs,hl with
    | [_],_=>rfl
  · decide +kernel
structure Hs (C:Addr) (dom:List Int) (H:Hp) (as:List WA) (sts:List WSt):Prop where
  at_:∀ (i:Nat) a st,as[i]?=some a→sts[i]?=some st→WaysAt C dom H a st∧st.me=(i:Int)
  len:as.length=sts.length
theorem Hs.same {dom:List Int} {H H':Hp} {as:List WA} {sts:List WSt} (h:Hs C dom H as sts) (s:Same H H'):Hs C dom H' as sts:=⟨fun i a st e1 e2=>⟨(h.at_ i a st e1 e2).1.same s,(h.at_ i a st e1 e2).2⟩,h.len⟩
def nxS (sts:List WSt) (g h:Int):Option Int:=match sts[h.toNat]? with
  | some st=>nextOf st g
  | none=>none
theorem nodup_len:∀ (n:Nat) (l:List Int),l.Nodup→(∀ x∈l,0≤x∧x<(n:Int))→l.length≤n
  | 0,[],_,_=>Nat.le_refl _
  | 0,x::_,_,h=>by have:=h x (.head _); omega
  | n+1,l,nd,h=>by
    by_cases hm:(n:Int)∈l
    · have e:=List.length_erase_of_mem hm
      have hp:0<l.length:=List.length_pos_of_mem hm
      have:=nodup_len n (l.erase (n:Int)) (nd.erase _) fun x hx=>by
        have h1:=(nd.mem_erase_iff).mp hx
        have h2:=h x h1.2
        have:=h1.1
        omega
      omega
    · have:=nodup_len n l nd fun x hx=>by
        have h2:=h x hx
        have:x≠(n:Int):=fun z=>hm (z ▸ hx)
        omega
      omega
def sp_chain (C:Addr):Sp:=fun vs H Q _=>∃ (pf:Addr) (fs:List Addr) (dom:List Int) (as:List WA) (sts:List WSt) (st goal:Int) (ord:Int→Int→Prop),vs=[.ref pf,.int st,.int goal]∧H pf=some (.lst (fs.map V.ref))∧fs.length=as.length∧(∀ (i:Nat) f a,fs[i]?=some f→as[i]?=some a→CloN H f a.x)∧Hs C dom H as sts∧sts.length≤20∧0≤st∧st<sts.length ∧
  (∀ h x,nxS sts goal h=some x→0≤x∧x<sts.length∧ord x h)∧(∀ x y z,ord x y→ord y z→ord x z)∧(∀ x,¬ ord x x) ∧
  ∀ (p:Addr) (L:List Int) (H':Hp),H p=none→H' p=some (.lst (L.map V.int))→L.Nodup→L[0]?=some st→L.length≤20→Same H H'→Q (.ref p) H'
def Wch (H:Hp) (pf p:Addr) (st goal:Int) (n:Nat) (ord:Int→Int→Prop) (m:Nat) (σ:St) (H':Hp):Prop:=∃ v4 v5 v6 ini l,σ=[some (.ref pf),some (.int st),some (.int goal),some (.ref p),v4,v5,v6]∧Same H H'∧H' p=some (.lst ((ini++[l]).map V.int))∧(ini++[l]).Pairwise (fun a b=>ord b a)∧(∀ x∈ini++[l],0≤x∧x<(n:Int))∧(ini++[l])[0]?=some st∧m+ini.length+1=n
theorem inV_int {h:Int}:∀ {acc:List Int},inV (.int h) (acc.map V.int)=decide (h∈acc)
  | []=>rfl
  | x::r=>by
    have ih:=inV_int (h:=h) (acc:=r)
    unfold inV at ih ⊢
    rw [mZ1,List.any_cons,ih]
    by_cases e:h=x
    · subst e; simp [eqV]
    · simp [eqV,e,Ne.symm e]
theorem flat_ints:∀ acc:List Int,(acc.map V.int).all flatV=true
  | []=>rfl
  | _::r=>by rw [mZ1,List.all_cons,flat_ints r]; rfl
theorem in_ints {h:Int} {L:List Int}:inO (.lst (L.map V.int)) (.int h)=some (decide (h∈L)):=by
  rw [inO_l',if_pos ⟨rfl,flat_ints L⟩,inV_int]
theorem at_last (ini:List Int) (l:Int):atI ((ini++[l]).map V.int) (-1)=some (.int l):=by
  unfold atI ixN
  rw [if_neg (by decide),if_pos (by rw [List.length_map,List.length_append]; simp; omega)]
  simp
  rw [show (-1+((ini.length:Int)+1)).toNat=ini.length by omega]
  simp
set_option maxHeartbeats 4000000 in
theorem own_chain (D:Def K mg "chain" s_chain) (T_Ways:ClsD K mg "Ways" C at_Ways) (M_Ways_next_of:OwnM P w K mg base 1 C "next_of" ["self","goal"] (sp_nextof C)):Own P w K mg base 3 "chain" ["next_ofs","start","goal"] (sp_chain C):=by
  refine D.own sc_chain (fun _ _ _ _ _ _ us hl=>match us,hl with|[_,_,_],_=>rfl) (fun vs H Q E h=>?_) (fun f cdv A outer s H vs Q E hr h=>?_)
  · obtain ⟨pf,fs,dom,as,sts,st,goal,ord,rfl,_⟩:=h
    rfl
  · obtain ⟨pf,fs,dom,as,sts,st,goal,ord,rfl,efs,hfl,hclo,hH,hsl,h0,h1,hnx,htr,hir,q⟩:=h
    have hu:=hr.units
    have hu1:(A.deeper (PyProof.Rows.envOfC "chain" (defScope s_chain) s.heap.objs.size f cdv)).units+1<cLine:=by omega
    refine ⟨_,(@pss_cons _ _ _ _ _ (@ps_set _ _ 3 _ _ _ _ sc_chain.nd rfl (by first|exact Or.inl rfl|exact Or.inr rfl) (@pe_lst _ _ _ _ (@pa_cX _ _ _ _ _ (@pv _ 1 _ _ (by rfl) (by first|exact Or.inl rfl|exact Or.inr (Or.inl rfl)|exact Or.inr (Or.inr rfl)) (by decide) (by decide)) (@pa_nil _) (by rfl))) (by rfl) (by first|exact .inl rfl|exact .inr rfl|assumption)) (@pss_cons _ _ _ _ _ (@ps_while _ _ _ _ _ _ PassesOwn.never (@pt_cmpR _ _ _ _ _ _ _ _ op_ne (@pe_ix _ _ _ _ _ _ _ (ix_get hu1) (@pv _ 3 _ _ (by rfl) (by first|exact Or.inl rfl|exact Or.inr (Or.inl rfl)|exact Or.inr (Or.inr rfl)) (by decide) (by decide)) (@pe_un _ _ _ _ _ _ un_neg (@pe_int _ _ _ _)) (fun _ _=>rfl)) (@pv _ 2 _ _ (by rfl) (by first|exact Or.inl rfl|exact Or.inr (Or.inl rfl)|exact Or.inr (Or.inr rfl)) (by decide) (by decide)) (nomark _)) (@pss_cons _ _ _ _ _ (@ps_set _ _ 4 _ _ _ _ sc_chain.nd rfl (by first|exact Or.inl rfl|exact Or.inr rfl) (@pe_ix _ _ _ _ _ _ _ (ix_get hu1) (@pv _ 0 _ _ (by rfl) (by first|exact Or.inl rfl|exact Or.inr (Or.inl rfl)|exact Or.inr (Or.inr rfl)) (by decide) (by decide)) (@pe_ix _ _ _ _ _ _ _ (ix_get hu1) (@pv _ 3 _ _ (by rfl) (by first|exact Or.inl rfl|exact Or.inr (Or.inl rfl)|exact Or.inr (Or.inr rfl)) (by decide) (by decide)) (@pe_un _ _ _ _ _ _ un_neg (@pe_int _ _ _ _)) (fun _ _=>rfl)) (fun _ _=>rfl)) (by rfl) (by first|exact .inl rfl|exact .inr rfl|assumption)) (@pss_cons _ _ _ _ _ (@ps_set _ _ 5 _ _ _ _ sc_chain.nd rfl (by first|exact Or.inl rfl|exact Or.inr rfl) (@pe_clo _ _ P w K mg base _ _ _ _ _ _ _ (@pv _ 4 _ _ (by rfl) (by first|exact Or.inl rfl|exact Or.inr (Or.inl rfl)|exact Or.inr (Or.inr rfl)) (by decide) (by decide)) hr (@pa_cX _ _ _ _ _ (@pv _ 2 _ _ (by rfl) (by first|exact Or.inl rfl|exact Or.inr (Or.inl rfl)|exact Or.inr (Or.inr rfl)) (by decide) (by decide)) (@pa_nil _) (by rfl)) (by rfl) (by rfl) (by rfl) (by rfl) (by rfl) (by rfl) (by rfl)) (by rfl) (by first|exact .inl rfl|exact .inr rfl|assumption)) (@pss_cons _ _ _ _ _ (@ps_if _ _ _ _ _ _ _ _ (@pt_cmpR _ _ _ _ _ _ _ _ op_isN (@pv _ 5 _ _ (by rfl) (by first|exact Or.inl rfl|exact Or.inr (Or.inl rfl)|exact Or.inr (Or.inr rfl)) (by decide) (by decide)) (@pe_non _ _ _) (nomark _)) (@pss_one _ _ _ (@ps_ret _ _ _ _ (@pv _ 3 _ _ (by rfl) (by first|exact Or.inl rfl|exact Or.inr (Or.inl rfl)|exact Or.inr (Or.inr rfl)) (by decide) (by decide)))) (@pss_nil _)) (@pss_cons _ _ _ _ _ (@ps_set _ _ 6 _ _ _ _ sc_chain.nd rfl (by first|exact Or.inl rfl|exact Or.inr rfl) (@pe_cmpR _ _ _ _ _ _ _ _ (op_inX hu1) (@pv _ 5 _ _ (by rfl) (by first|exact Or.inl rfl|exact Or.inr (Or.inl rfl)|exact Or.inr (Or.inr rfl)) (by decide) (by decide)) (@pv _ 3 _ _ (by rfl) (by first|exact Or.inl rfl|exact Or.inr (Or.inl rfl)|exact Or.inr (Or.inr rfl)) (by decide) (by decide)) rfl) (by rfl) (by first|exact .inl rfl|exact .inr rfl|assumption)) (@pss_cons _ _ _ _ _ (@ps_expr _ _ _ _ (@pe_lm _ _ _ _ _ _ _ _ _ _ _ PySem.F.slot_list_append PySem.F.type_list_append mt_append (@pv _ 3 _ _ (by rfl) (by first|exact Or.inl rfl|exact Or.inr (Or.inl rfl)|exact Or.inr (Or.inr rfl)) (by decide) (by decide)) (@pa_cX _ _ _ _ _ (@pv _ 5 _ _ (by rfl) (by first|exact Or.inl rfl|exact Or.inr (Or.inl rfl)|exact Or.inr (Or.inr rfl)) (by decide) (by decide)) (@pa_nil _) (by rfl)) (by rfl) (by rfl) (by rfl) (by rfl) (by rfl)) (by rfl)) (@pss_one _ _ _ (@ps_if _ _ _ _ _ _ _ _ (@pt_truX _ _ _ (@pv _ 6 _ _ (by rfl) (by first|exact Or.inl rfl|exact Or.inr (Or.inl rfl)|exact Or.inr (Or.inr rfl)) (by decide) (by decide)) (by intro _; rfl)) (@pss_one _ _ _ (@ps_ret _ _ _ _ (@pv _ 3 _ _ (by rfl) (by first|exact Or.inl rfl|exact Or.inr (Or.inl rfl)|exact Or.inr (Or.inr rfl)) (by decide) (by decide)))) (@pss_nil _))))))))) (@pss_one _ _ _ (@ps_ret _ _ _ _ (@pv _ 3 _ _ (by rfl) (by first|exact Or.inl rfl|exact Or.inr (Or.inl rfl)|exact Or.inr (Or.inr rfl)) (by decide) (by decide)))))),?_⟩
    simp (maxSteps:=1000000) only [Nat.reduceSub,Nat.reduceAdd,tSeq,tVar,tAsg,gName,tCons,tNil,tLst,L2.start,mZ1,mZ0,lZ1,lZ0,List.replicate,List.cons_append,List.nil_append,gZ0,gZ1,sZ0,sZ1,oZ0,eZ0]
    refine ⟨by decide,?_⟩
    intro p1 n1
    generalize z1:upd H p1 _=H1
    obtain ⟨s1,e1⟩:=new_same z1 n1
    have hal:=hH.len
    have done:∀ ini l H',Same H H'→H' p1=some (.lst ((ini++[l]).map V.int))→(ini++[l]).Pairwise (fun a b=>ord b a)→(∀ x∈ini++[l],0≤x∧x<(sts.length:Int))→(ini++[l])[0]?=some st→Q (.ref p1) H':=fun ini l H' s' e' hpw hrg hst0=>by
      have hnd:(ini++[l]).Nodup:=hpw.imp fun h z=>by subst z; exact hir _ h
      exact q p1 _ H' n1 e' hnd hst0 (Nat.le_trans (nodup_len _ _ hnd hrg) hsl) s'
    refine ⟨Wch H pf p1 st goal sts.length ord,⟨sts.length - 1,none,none,none,[],st,rfl,s1,e1,by simp,(fun x hx=>by rw [List.nil_append,List.mem_singleton] at hx; subst hx; exact ⟨h0,h1⟩),rfl,by simp; omega⟩,?_⟩
    rintro m σ H2 ⟨v4,v5,v6,ini,l,rfl,s2,e2,hpw,hrg,hst0,hm⟩
    have hl1:=at_last ini l
    simp (maxSteps:=1000000) only [tBL,rGet,getO_l,tTruX,truX_b,rInX,tClo,rAppend,cZ0,rNe_ii,tSeq,eZ1,tIfS,tTest,tOp,tUn,tVar,tC,rU,tRet,tAsg,gName,tNext,tCons,tNil,tDrop,gZ0,gZ1,sZ0,sZ1,oZ0,eZ0,V.int.injEq,V.bl.injEq,V.ref.injEq,and_true,true_and,e2,hl1]
    by_cases hlg:l=goal
    · simp only [hlg,decide_true,Bool.not_true,Bool.false_eq_true,if_false]
      subst hlg
      exact done ini l H2 s2 e2 hpw hrg hst0
    · simp only [hlg,decide_false,Bool.not_false,if_true]
      have hlr:=hrg l (by simp)
      have hli:l.toNat<sts.length:=by omega
      have e_st:sts[l.toNat]?=some sts[l.toNat]:=List.getElem?_eq_getElem hli
      have e_a:as[l.toNat]?=some (as[l.toNat]'(by omega)):=List.getElem?_eq_getElem _
      have e_f:fs[l.toNat]?=some (fs[l.toNat]'(by omega)):=List.getElem?_eq_getElem _
      generalize sts[l.toNat]=sl at e_st
      generalize as[l.toNat]=al at e_a
      generalize fs[l.toNat]=fl at e_f
      have hY:=(hH.at_ _ _ _ e_a e_st).1
      have hC:=hclo _ _ _ e_f e_a
      have hC2:CloN H2 fl al.x:=hC.same s2
      have hat:atI (fs.map V.ref) l=some (.ref fl):=by rw [atI_pos hlr.1,List.getElem?_map,e_f]; rfl
      have efs2:=s2 _ _ efs
      have enx:nxS sts goal l=nextOf sl goal:=by unfold nxS; rw [e_st]
      refine ⟨fun σ' H'=>1≤m∧Wch H pf p1 st goal sts.length ord (m - 1) σ' H',fun σ' H' z=>⟨m - 1,by omega,z.2⟩,?_⟩
      simp (maxSteps:=1000000) only [getO_l,oZ0,eZ0,V.ref.injEq,efs2,hat]
      refine ⟨hC2.isFn,hC2.isFn,clo_next T_Ways M_Ways_next_of hC2 (hY.same s2) ?_⟩
      cases en:nextOf sl goal with
      | none=>exact iteT (done ini l H2 s2 e2 hpw hrg hst0)
      | some x=>
        obtain ⟨x0,x1,hox⟩:=hnx l x (by rw [enx,en])
        have hall:∀ y∈ini++[l],ord x y:=fun y hy=>by
          rcases List.mem_append.mp hy with z|z
          · exact htr _ _ _ hox ((List.pairwise_append.mp hpw).2.2 y z l (by simp))
          · rw [List.mem_singleton] at z; subst z; exact hox
        have hxn:x ∉ ini++[l]:=fun z=>hir x (hall x z)
        have hpw2:(ini++[l]++[x]).Pairwise (fun a b=>ord b a):=by
          rw [List.pairwise_append]
          exact ⟨hpw,by simp,fun y hy z hz=>by rw [List.mem_singleton] at hz; subst hz; exact hall y hy⟩
        have hrg2:∀ y∈ini++[l]++[x],0≤y∧y<(sts.length:Int):=fun y hy=>by
          rcases List.mem_append.mp hy with z|z
          · exact hrg y z
          · rw [List.mem_singleton] at z; subst z; exact ⟨x0,x1⟩
        have hnd2:(ini++[l]++[x]).Nodup:=hpw2.imp fun h z=>by subst z; exact hir _ h
        have hl2:=nodup_len _ _ hnd2 hrg2
        simp only [List.length_append,List.length_singleton] at hl2
        have hin:inO (.lst ((ini++[l]).map V.int)) (.int x)=some false:=by rw [in_ints,decide_eq_false hxn]
        simp only [optV]
        simp (maxSteps:=1000000) only [HO.lst.injEq,decide_false,if_false,Bool.false_eq_true,oZ0,eZ0,reduceCtorEq,e2,hin]
        refine ⟨by rw [sizeLine_eq,List.length_map,List.length_append,List.length_singleton]; omega,by omega,_,_,_,ini++[l],x,rfl,s2.upd n1,?_,hpw2,hrg2,?_,?_⟩
        · rw [upd_same,List.map_append (l₂:=[x])]
          rfl
        · rw [List.getElem?_append_left (by simp)]
          exact hst0
        · rw [List.length_append,List.length_singleton]
          omega
end
end K15
namespace L2
open PySem PySem.Spec PyProof.Rows
end L2
namespace K15
open PySem L2
theorem bet_iff {a b:Mk}:bet a b=true↔b.1<a.1∨(a.1=b.1∧a.2<b.2):=by
  unfold bet
  by_cases h:a.1=b.1
  · rw [if_pos h]; simp [h]
  · rw [if_neg h]; simp [h]
theorem nbet_iff {a b:Mk}:bet a b=false↔¬ (b.1<a.1∨(a.1=b.1∧a.2<b.2)):=by
  rw [← bet_iff,Bool.eq_false_iff]
theorem bet_irr {a:Mk}:bet a a=false:=nbet_iff.mpr (by omega)
theorem nbet_trans {a b c:Mk} (h1:bet a b=false) (h2:bet b c=false):bet a c=false:=by
  rw [nbet_iff] at *; omega
theorem bet_up {a b c:Mk} (h1:bet a b=true) (h2:bet a c=false):bet c b=true:=by
  rw [nbet_iff] at h2; rw [bet_iff] at *; omega
theorem bet_tr {a b c:Mk} (h1:bet a b=true) (h2:bet b c=true):bet a c=true:=by
  rw [bet_iff] at *; omega
def leM (o o':Option Mk):Prop:=∀ m,o=some m→∃ m',o'=some m'∧bet m m'=false
theorem leM.refl {o:Option Mk}:leM o o:=fun m e=>⟨m,e,bet_irr⟩
theorem leM.trans {a b c:Option Mk} (h1:leM a b) (h2:leM b c):leM a c:=fun m e=>by
  obtain ⟨m1,e1,b1⟩:=h1 m e
  obtain ⟨m2,e2,b2⟩:=h2 m1 e1
  exact ⟨m2,e2,nbet_trans b1 b2⟩
structure One (sts:List WSt) (i:Nat) (st:WSt):Prop where
  me:st.me=(i:Int)
  rm:st.rep st.me=none
  ms:∀ g,st.rep g=none→st.mar g=none∧st.wy g=none
  rp:∀ g f nb gen p,st.rep g=some f→f nb=some (gen,some p)→0≤nb∧nb<sts.length∧nb≠(i:Int)∧∃ sn m,sts[nb.toNat]?=some sn∧markOf sn g=some m∧bet (gen,p) m=false
  lp:∀ nb l,st.lp nb=some (some l)→1≤l
  wm:∀ g w,wayOf st g=some w→∃ m,st.mar g=some m∧bet (w.1,w.2.1) m=false
  wn:∀ g w,wayOf st g=some w→0≤w.2.2∧w.2.2<sts.length∧w.2.2≠(i:Int)∧∃ sn mn mi,sts[w.2.2.toNat]?=some sn∧st.mar g=some mi∧markOf sn g=some mn∧bet mn mi=true
def Net (sts:List WSt):Prop:=∀ i st,sts[i]?=some st→One sts i st
theorem Net.set {sts:List WSt} (N:Net sts) {i:Nat} {st st':WSt} (hi:sts[i]?=some st) (mono:∀ g,leM (markOf st g) (markOf st' g)) (h:One sts i st'):Net (sts.set i st'):=by
  have hlt:i<sts.length:=(List.getElem?_eq_some_iff.mp hi).1
  have self:(sts.set i st')[i]?=some st':=List.getElem?_set_self hlt
  have at_:∀ {nb:Int} {sn:WSt} {g:Int} {m:Mk},0≤nb→sts[nb.toNat]?=some sn→markOf sn g=some m→∃ sn' m',(sts.set i st')[nb.toNat]?=some sn'∧markOf sn' g=some m'∧bet m m'=false:=fun {nb sn g m} h0 h1 h2=>by
    by_cases e:nb.toNat=i
    · rw [e,hi] at h1
      cases h1
      obtain ⟨m',e1,e2⟩:=mono g m h2
      exact ⟨st',m',by rw [e]; exact self,e1,e2⟩
    · exact ⟨sn,m,by rw [List.getElem?_set_ne (Ne.symm e)]; exact h1,h2,bet_irr⟩
  intro j sj hj
  have lift:∀ {k:Nat} {s:WSt},One sts k s→One (sts.set i st') k s:=fun {k s} O=>by
    refine ⟨O.me,O.rm,O.ms,fun g f nb gen p h1 h2=>?_,O.lp,O.wm,fun g w hw=>?_⟩
    · obtain ⟨a,b,c,sn,m,e1,e2,e3⟩:=O.rp g f nb gen p h1 h2
      obtain ⟨sn',m',f1,f2,f3⟩:=at_ a e1 e2
      exact ⟨a,by rw [List.length_set]; exact b,c,sn',m',f1,f2,nbet_trans e3 f3⟩
    · obtain ⟨a,b,c,sn,mn,mi,e1,e2,e3,e4⟩:=O.wn g w hw
      obtain ⟨sn',m',f1,f2,f3⟩:=at_ a e1 e3
      exact ⟨a,by rw [List.length_set]; exact b,c,sn',m',mi,f1,e2,f2,bet_up e4 f3⟩
  by_cases e:j=i
  · subst e
    rw [self] at hj
    cases hj
    exact lift h
  · rw [List.getElem?_set_ne (Ne.symm e)] at hj
    exact lift (N j sj hj)
theorem mono_own {st st':WSt} (h1:st'.me=st.me) (h2:st.own≤st'.own) (h3:∀ g,leM (st.mar g) (st'.mar g)):∀ g,leM (markOf st g) (markOf st' g):=fun g=>by
  unfold markOf
  rw [h1]
  split
  · intro m e
    cases e
    exact ⟨_,rfl,nbet_iff.mpr (by dsimp only; omega)⟩
  · exact h3 g
theorem One.raise {sts:List WSt} {i:Nat} {st:WSt} (O:One sts i st):One sts i { st with own:=st.own+1 }∧∀ g,leM (markOf st g) (markOf { st with own:=st.own+1 } g):=
  ⟨⟨O.me,O.rm,O.ms,O.rp,O.lp,O.wm,O.wn⟩,mono_own rfl (by dsimp only; omega) fun g=>.refl⟩
theorem One.price {sts:List WSt} {i:Nat} {st:WSt} {nb:Int} {o:Option Int} (O:One sts i st) (h:∀ l,o=some l→1≤l):One sts i { st with lp:=fun j=>if j=nb then some o else st.lp j }∧∀ g,leM (markOf st g) (markOf { st with lp:=fun j=>if j=nb then some o else st.lp j } g):=by
  refine ⟨⟨O.me,O.rm,O.ms,O.rp,fun j l e=>?_,O.wm,O.wn⟩,mono_own rfl (Int.le_refl _) fun g=>.refl⟩
  dsimp only at e
  split at e
  · exact h l (Option.some.inj e)
  · exact O.lp j l e
def Told (sts:List WSt) (i:Nat) (rows:List Rw):Prop:=∀ r∈rows,0≤r.1∧r.1<sts.length∧∀ p,r.2.2=some p→∃ s m,sts[i]?=some s∧markOf s r.1=some m∧bet (r.2.1,p) m=false
theorem told_rows {sts:List WSt} {i:Nat} {st:WSt} (N:Net sts) (hi:sts[i]?=some st) {gs:List Int} (hr:∀ g∈gs,0≤g∧g<sts.length):Told sts i (gs.map (rowOf st)):=fun r hr'=>by
  obtain ⟨g,hg,rfl⟩:=List.mem_map.mp hr'
  obtain ⟨a,b⟩:=hr g hg
  refine ⟨a,b,fun p hp=>⟨st,?_⟩⟩
  have O:=N i st hi
  unfold rowOf at hp ⊢
  dsimp only at hp ⊢
  unfold priceOf at hp
  by_cases hme:g=st.me
  · rw [if_pos hme] at hp
    cases hp
    have hw:wayOf st g=none:=by
      unfold wayOf
      rw [(O.ms g (by rw [hme]; exact O.rm)).2]
      rfl
    have hmk:markOf st g=some (st.own,0):=by unfold markOf; rw [if_pos hme]
    refine ⟨(st.own,0),hi,hmk,?_⟩
    unfold genOf
    rw [hw,hmk]
    exact bet_irr
  · rw [if_neg hme] at hp
    cases hw:wayOf st g with
    | none=>rw [hw] at hp; cases hp
    | some w=>
      rw [hw] at hp
      cases hp
      obtain ⟨m,e1,e2⟩:=O.wm g w hw
      refine ⟨m,hi,by unfold markOf; rw [if_neg hme]; exact e1,?_⟩
      unfold genOf
      rw [hw]
      exact e2
theorem hear_src1 {me nb:Int} {rep:Int→Option (Int→Option Rp)} {r:Rw} {g m:Int} {f:Int→Option Rp} {x:Rp} (h:hear1 me nb rep r g=some f) (hf:f m=some x):(∃ f0,rep g=some f0∧f0 m=some x)∨(m=nb∧r.1=g∧r.2=x):=by
  unfold hear1 at h
  split at h
  · exact .inl ⟨f,h,hf⟩
  · dsimp only at h
    split at h
    · next e=>
      cases h
      dsimp only at hf
      split at hf
      · next e2=>cases hf; exact .inr ⟨e2,e.symm,rfl⟩
      · cases hr:rep r.1 with
        | none=>rw [hr] at hf; cases hf
        | some f0=>rw [hr] at hf; rw [e]; exact .inl ⟨f0,hr,hf⟩
    · exact .inl ⟨f,h,hf⟩
theorem hear_src {me nb:Int}:∀ {rows:List Rw} {rep:Int→Option (Int→Option Rp)} {g m:Int} {f:Int→Option Rp} {x:Rp},rows.foldl (hear1 me nb) rep g=some f→f m=some x→(∃ f0,rep g=some f0∧f0 m=some x)∨(m=nb∧∃ r∈rows,r.1=g∧r.2=x)
  | [],_,_,_,f,_,h,hf=>.inl ⟨f,h,hf⟩
  | r::rs,_,_,_,_,_,h,hf=>by
    rw [List.foldl_cons] at h
    rcases hear_src h hf with ⟨f1,h1,h2⟩|⟨h1,r',h2,h3⟩
    · rcases hear_src1 h1 h2 with z|⟨z1,z2⟩
      · exact .inl z
      · exact .inr ⟨z1,r,.head _,z2⟩
    · exact .inr ⟨h1,r',.tail _ h2,h3⟩
theorem hear_nil {me nb:Int}:∀ {rows:List Rw} {rep:Int→Option (Int→Option Rp)} {g:Int},rows.foldl (hear1 me nb) rep g=none→rep g=none
  | [],_,_,h=>h
  | _::_,_,_,h=>hear_none (hear_nil (by rw [List.foldl_cons] at h; exact h))
theorem hear_me {me nb:Int}:∀ {rows:List Rw} {rep:Int→Option (Int→Option Rp)},rep me=none→rows.foldl (hear1 me nb) rep me=none
  | [],_,h=>h
  | r::rs,rep,h=>by
    rw [List.foldl_cons]
    refine hear_me ?_
    unfold hear1
    split
    · exact h
    · next e=>dsimp only; rw [if_neg (Ne.symm e)]; exact h
theorem One.heard {sts:List WSt} {i:Nat} {st:WSt} {nb:Int} {rows:List Rw} (O:One sts i st) (n0:0≤nb) (n1:nb<sts.length) (n2:nb≠(i:Int)) (T:Told sts nb.toNat rows):One sts i (hearS st nb rows)∧∀ g,leM (markOf st g) (markOf (hearS st nb rows) g):=by
  refine ⟨⟨O.me,hear_me O.rm,fun g h=>O.ms g (hear_nil h),fun g f m gen p h1 h2=>?_,O.lp,O.wm,O.wn⟩,fun g=>.refl⟩
  rcases hear_src h1 h2 with ⟨f0,e1,e2⟩|⟨rfl,r,hr,e1,e2⟩
  · exact O.rp g f0 m gen p e1 e2
  · obtain ⟨_,_,c⟩:=T r hr
    obtain ⟨s,mk,f1,f2,f3⟩:=c p (by rw [e2])
    rw [e1] at f2
    rw [e2] at f3
    exact ⟨n0,n1,n2,s,mk,f1,f2,f3⟩
theorem newM_old {o:Option Mk} {m:Mk}:leM o (some (newM o m)):=fun m0 e=>by
  subst e
  unfold newM
  dsimp only
  split
  · next h=>exact ⟨_,rfl,nbet_iff.mpr (by rw [bet_iff] at h; omega)⟩
  · exact ⟨_,rfl,bet_irr⟩
theorem newM_new {o:Option Mk} {m:Mk}:bet m (newM o m)=false:=by
  unfold newM
  split
  · exact bet_irr
  · split
    · exact bet_irr
    · next h=>exact Bool.eq_false_iff.mpr h
theorem One.settle {sts:List WSt} {i:Nat} {st st':WSt} (O:One sts i st) (S:Stl st st'):One sts i st'∧∀ g,leM (markOf st g) (markOf st' g):=by
  have way:∀ g w,wayOf st' g=some w→Best st g (some w)∧st'.mar g=some (newM (st.mar g) (w.1,w.2.1)):=fun g w hw=>by
    by_cases h:st.rep g=none
    · unfold wayOf at hw
      rw [(S.old g h).1,(O.ms g h).2] at hw
      cases hw
    · obtain ⟨r,h1,h2,h3⟩:=S.new g h
      unfold wayOf at hw
      rw [h2] at hw
      have:r=some w:=hw
      subst this
      exact ⟨h1,h3⟩
  refine ⟨⟨by rw [S.me]; exact O.me,by rw [S.rep,S.me]; exact O.rm,fun g h=>?_,by rw [S.rep]; exact O.rp,by rw [S.lp]; exact O.lp,fun g w hw=>?_,fun g w hw=>?_⟩,mono_own S.me (by rw [S.own]; exact Int.le_refl _) fun g=>?_⟩
  · rw [S.rep] at h
    rw [(S.old g h).1,(S.old g h).2]
    exact O.ms g h
  · exact ⟨_,(way g w hw).2,newM_new⟩
  · obtain ⟨⟨f,hf,hc,_⟩,hm⟩:=way g w hw
    unfold cnd at hc
    split at hc
    · next gen p hp=>
      split at hc
      · next l hl=>
        split at hc
        · next hok=>
          simp only [oZ0,cZ0,and_true] at hc
          obtain ⟨h1,h2⟩:=hc
          obtain ⟨a,b,c,sn,m,e1,e2,e3⟩:=O.rp g f _ _ _ hf hp
          have l1:=O.lp _ _ hl
          refine ⟨a,b,c,sn,m,_,e1,hm,e2,bet_up (a:=(gen,p)) ?_ e3⟩
          unfold newM
          have:bet (gen,p) (w.1,w.2.1)=true:=bet_iff.mpr (by dsimp only; omega)
          split
          · exact this
          · next m0 e0=>
            split
            · exact this
            · rw [e0] at hok; exact hok
        · cases hc
      · cases hc
    · cases hc
  · by_cases h:st.rep g=none
    · rw [(S.old g h).2]; exact .refl
    · obtain ⟨r,_,_,h3⟩:=S.new g h
      rw [h3]
      cases r with
      | none=>exact .refl
      | some w=>exact newM_old
end K15
namespace LW
abbrev Mk:=Int × Int
def bt (a b:Mk):Prop:=b.1<a.1∨(a.1=b.1∧a.2<b.2)
def okm (m:Option Mk) (r:Mk):Prop:=∀ x,m=some x→bt r x
def ge (m:Option Mk) (r:Mk):Prop:=∃ x,m=some x∧¬ bt r x
theorem ge_not {m:Option Mk} {γ p q:Int} (h:ge m (γ,p)) (o:okm m (γ,q)) (hq:p≤q):False:=by
  obtain ⟨x,e,hx⟩:=h
  have:=o x e
  unfold bt at *
  simp only at *
  omega
structure Run (n d:Nat) (gen:Nat→Int) (c:Nat→Nat→Option Int) (st:Nat→Nat→Nat→Nat) (way:Nat→Nat→Option (Int × Int × Nat)) (mark:Nat→Nat→Option Mk) (T1 N:Nat):Prop where
  gm:∀ t,gen t≤gen (t+1)
  lp:∀ i b l,c i b=some l→1≤l
  src:∀ t i γ p b,t<N→i<n→i≠d→way t i=some (γ,p,b)→b<n∧b≠i∧∃ s q l,s<t∧(if b=d then (γ,q)=(gen s,0) else ∃ b',way s b=some (γ,q,b'))∧1≤l∧p=q+l∧okm (mark t i) (γ,q)∧(T1≤t→c i b=some l∧s=st t i b)
  top:∀ t i b l γ q,t<N→i<n→i≠d→b<n→T1≤t→c i b=some l→(if b=d then (γ,q)=(gen (st t i b),0) else ∃ b',way (st t i b) b=some (γ,q,b'))→okm (mark t i) (γ,q)→∃ γ' p' b',way t i=some (γ',p',b')∧(p'<q+l∨(p'=q+l∧γ≤γ'))
  m0:∀ i,mark 0 i=none
  mw:∀ t i w,t<N→i<n→i≠d→way t i=some w→(bt (w.1,w.2.1) ((mark t i).getD (w.1,w.2.1))∨mark t i=none)∧mark (t+1) i=some (w.1,w.2.1)∨mark (t+1) i=mark t i∧ge (mark t i) (w.1,w.2.1)
  mn:∀ t i,t<N→i<n→i≠d→way t i=none→mark (t+1) i=mark t i
  sl:∀ t i b l,T1≤t→t<N→c i b=some l→st t i b<t∧t≤st t i b+3∧(t+1<N→st t i b≤st (t+1) i b)
section
variable {n d:Nat} {gen:Nat→Int} {c:Nat→Nat→Option Int} {st:Nat→Nat→Nat→Nat} {way:Nat→Nat→Option (Int × Int × Nat)} {mark:Nat→Nat→Option Mk} {T1 N:Nat}
theorem Run.gmono (R:Run n d gen c st way mark T1 N) {a b:Nat} (h:a≤b):gen a≤gen b:=by
  induction h with
  | refl=>exact Int.le_refl _
  | step _ ih=>exact Int.le_trans ih (R.gm _)
theorem Run.mup1 (R:Run n d gen c st way mark T1 N) {t i:Nat} {r:Mk} (hN:t<N) (hi:i<n) (hd:i≠d) (h:ge (mark t i) r):ge (mark (t+1) i) r:=by
  cases e:way t i with
  | none=>rw [R.mn t i hN hi hd e]; exact h
  | some w=>
    rcases R.mw t i w hN hi hd e with ⟨h1,h2⟩|⟨h1,_⟩
    · obtain ⟨x,ex,hx⟩:=h
      rw [ex] at h1
      rcases h1 with h1|h1
      · refine ⟨_,h2,?_⟩
        unfold bt at *
        simp only [Option.getD_some] at *
        omega
      · cases h1
    · rw [h1]; exact h
theorem Run.mup (R:Run n d gen c st way mark T1 N) {t u i:Nat} {r:Mk} (hi:i<n) (hd:i≠d) (h:ge (mark t i) r) (hu:t≤u):u≤N→ge (mark u i) r:=by
  induction hu with
  | refl=>exact fun _=>h
  | step _ ih=>exact fun hN=>R.mup1 hN hi hd (ih (Nat.le_of_lt hN))
theorem Run.wge (R:Run n d gen c st way mark T1 N) {t i:Nat} {γ p:Int} {b:Nat} (hN:t<N) (hi:i<n) (hd:i≠d) (e:way t i=some (γ,p,b)):ge (mark (t+1) i) (γ,p):=by
  rcases R.mw t i _ hN hi hd e with ⟨_,h2⟩|⟨h1,h2⟩
  · exact ⟨_,h2,by unfold bt; simp⟩
  · rw [h1]; exact h2
theorem Run.wgen (R:Run n d gen c st way mark T1 N):∀ t i γ p b,t<N→i<n→i≠d→way t i=some (γ,p,b)→γ≤gen t:=by
  intro t
  induction t using Nat.strongRecOn with
  | ind t ih=>
    intro i γ p b hN hi hd e
    obtain ⟨hb,_,s,q,l,hs,ho,_⟩:=R.src t i γ p b hN hi hd e
    by_cases hbd:b=d
    · rw [if_pos hbd] at ho
      have:γ=gen s:=congrArg Prod.fst ho
      rw [this]
      exact R.gmono (by omega)
    · rw [if_neg hbd] at ho
      obtain ⟨b',e'⟩:=ho
      exact Int.le_trans (ih s hs b γ q b' (by omega) hb hbd e') (R.gmono (by omega))
theorem pig:∀ (n:Nat) (S:List Nat),S.Nodup→(∀ x∈S,x<n)→S.length≤n
  | 0,[],_,_=>Nat.le_refl _
  | 0,x::_,_,h=>absurd (h x (.head _)) (by omega)
  | n+1,S,hn,h=>by
    by_cases hm:n∈S
    · have:=pig n (S.erase n) (hn.erase n) (fun x hx=>by
        have h1:=h x (List.mem_of_mem_erase hx)
        have h2:x≠n:=((hn.mem_erase_iff).mp hx).1
        omega)
      rw [List.length_erase_of_mem hm] at this
      omega
    · have:=pig n S hn (fun x hx=>by
        have h1:=h x hx
        have h2:x≠n:=fun e=>hm (e ▸ hx)
        omega)
      omega
theorem pigeon {n d:Nat} (S:List Nat) (hn:S.Nodup) (h:∀ x∈S,x<n∧x≠d) (hd:d<n):S.length+1≤n:=
  pig n (d::S) (List.nodup_cons.mpr ⟨fun z=>(h d z).2 rfl,hn⟩) (fun x hx=>by
    rcases List.mem_cons.mp hx with rfl|hx
    · exact hd
    · exact (h x hx).1)
theorem Run.old (R:Run n d gen c st way mark T1 N) {g:Int} {T0:Nat} (hT:T1≤T0) (hg:∀ t,T0≤t→g≤gen t) (hd:d<n) :
    ∀ (k t i:Nat) (γ p:Int) (b:Nat) (S:List Nat),t<N→i<n→i≠d→way t i=some (γ,p,b)→γ<g→T0+3 * k≤t→S.Nodup→(∀ x∈S,x<n∧x≠d∧∃ u q,t<u∧u<N∧p≤q∧okm (mark u x) (γ,q))→S.length+k+2≤n:=by
  intro k
  induction k with
  | zero=>
    intro t i γ p b S hN hi hid e hγ ht hS hx
    have hni:i ∉ S:=fun z=>by
      obtain ⟨_,_,u,q,hu,huN,hq,ok⟩:=hx i z
      exact ge_not (R.mup hi hid (R.wge hN hi hid e) hu (by omega)) ok hq
    have:=pigeon (n:=n) (d:=d) (i::S) (List.nodup_cons.mpr ⟨hni,hS⟩) (fun x h=>by
      rcases List.mem_cons.mp h with rfl|h
      · exact ⟨hi,hid⟩
      · exact ⟨(hx x h).1,(hx x h).2.1⟩) hd
    rw [lZ1] at this
    omega
  | succ k ih=>
    intro t i γ p b S hN hi hid e hγ ht hS hx
    have hni:i ∉ S:=fun z=>by
      obtain ⟨_,_,u,q,hu,huN,hq,ok⟩:=hx i z
      exact ge_not (R.mup hi hid (R.wge hN hi hid e) hu (by omega)) ok hq
    obtain ⟨hb,_,s,q,l,hs,ho,hl,hp,ok,hT1⟩:=R.src t i γ p b hN hi hid e
    obtain ⟨hc,est⟩:=hT1 (by omega)
    obtain ⟨_,h3,_⟩:=R.sl t i b l (by omega) hN hc
    by_cases hbd:b=d
    · rw [if_pos hbd] at ho
      have h1:γ=gen s:=congrArg Prod.fst ho
      have:=hg s (by omega)
      omega
    · rw [if_neg hbd] at ho
      obtain ⟨b',e'⟩:=ho
      have:=ih s b γ q b' (i::S) (by omega) hb hbd e' hγ (by omega) (List.nodup_cons.mpr ⟨hni,hS⟩) (fun x h=>by
        rcases List.mem_cons.mp h with rfl|h
        · exact ⟨hi,hid,t,q,hs,hN,Int.le_refl _,ok⟩
        · obtain ⟨a1,a2,u,q',hu,huN,hq',ok'⟩:=hx x h
          exact ⟨a1,a2,u,q',by omega,huN,by omega,ok'⟩)
      rw [lZ1] at this
      omega
structure Raise (gen:Nat→Int) (g:Int) (T0:Nat):Prop where
  on:∀ t,T0≤t→g≤gen t
  no:∀ t,t<T0→gen t<g
theorem Run.fresh (R:Run n d gen c st way mark T1 N) {g:Int} {T0:Nat} (hT:T1≤T0) (G:Raise gen g T0) (hd:d<n) {t i:Nat} {γ p:Int} {b:Nat} (hN:t<N) (hi:i<n) (hid:i≠d) (e:way t i=some (γ,p,b)) (ht:T0+3 * (n - 1)≤t):g≤γ:=by
  by_cases h:g≤γ
  · exact h
  · have:=R.old hT G.on hd (n - 1) t i γ p b [] hN hi hid e (by omega) ht List.nodup_nil (fun _ z=>nomatch z)
    rw [lZ0] at this
    omega
structure Dist (n d:Nat) (c:Nat→Nat→Option Int) (D:Nat→Option Int):Prop where
  d0:D d=some 0
  pos:∀ i y,D i=some y→0≤y
  tri:∀ i b l x,i<n→b<n→c i b=some l→D b=some x→∃ y,D i=some y∧y≤l+x
  hop:∀ i y,i<n→i≠d→D i=some y→∃ b l x,b<n∧c i b=some l∧D b=some x∧y=l+x
variable {D:Nat→Option Int} {g:Int} {T0:Nat}
theorem Run.low (R:Run n d gen c st way mark T1 N) (hT:T1≤T0) (G:Raise gen g T0) (hD:Dist n d c D):∀ t i γ p b,t<N→i<n→i≠d→way t i=some (γ,p,b)→g≤γ→∃ y,D i=some y∧y≤p:=by
  intro t
  induction t using Nat.strongRecOn with
  | ind t ih=>
    intro i γ p b hN hi hid e hγ
    have ht:T0≤t:=by
      by_cases h:T0≤t
      · exact h
      · have h1:=G.no t (by omega)
        have h2:=R.wgen t i γ p b hN hi hid e
        omega
    obtain ⟨hb,_,s,q,l,hs,ho,hl,hp,ok,hT1⟩:=R.src t i γ p b hN hi hid e
    obtain ⟨hc,est⟩:=hT1 (by omega)
    by_cases hbd:b=d
    · rw [if_pos hbd] at ho
      have h1:q=0:=congrArg Prod.snd ho
      obtain ⟨y,e1,e2⟩:=hD.tri i b l 0 hi hb hc (by rw [hbd]; exact hD.d0)
      exact ⟨y,e1,by omega⟩
    · rw [if_neg hbd] at ho
      obtain ⟨b',e'⟩:=ho
      obtain ⟨x,e1,e2⟩:=ih s hs b γ q b' (by omega) hb hbd e' hγ
      obtain ⟨y,e3,e4⟩:=hD.tri i b l x hi hb hc e1
      exact ⟨y,e3,by omega⟩
theorem Run.mwas (R:Run n d gen c st way mark T1 N) {i:Nat} (hi:i<n) (hid:i≠d):∀ t m,t≤N→mark t i=some m→∃ u b,u<t∧way u i=some (m.1,m.2,b):=by
  intro t
  induction t with
  | zero=>intro m _ h; rw [R.m0] at h; cases h
  | succ t ih=>
    intro m hN h
    cases e:way t i with
    | none=>
      rw [R.mn t i hN hi hid e] at h
      obtain ⟨u,b,h1,h2⟩:=ih m (by omega) h
      exact ⟨u,b,by omega,h2⟩
    | some w=>
      rcases R.mw t i w hN hi hid e with ⟨_,h2⟩|⟨h1,_⟩
      · rw [h2] at h
        cases h
        exact ⟨t,w.2.2,by omega,e⟩
      · rw [h1] at h
        obtain ⟨u,b,h1,h2⟩:=ih m (by omega) h
        exact ⟨u,b,by omega,h2⟩
theorem Run.mgen (R:Run n d gen c st way mark T1 N) {i t:Nat} {m:Mk} (hN:t<N) (hi:i<n) (hid:i≠d) (h:mark (t+1) i=some m):m.1≤gen t:=by
  obtain ⟨u,b,h1,h2⟩:=R.mwas hi hid _ _ hN h
  exact Int.le_trans (R.wgen u i _ _ _ (by omega) hi hid h2) (R.gmono (by omega))
theorem Run.mlow (R:Run n d gen c st way mark T1 N) (hT:T1≤T0) (G:Raise gen g T0) (hD:Dist n d c D) {i t:Nat} {m:Mk} (hN:t≤N) (hi:i<n) (hid:i≠d) (h:mark t i=some m) (hg:g≤m.1):∃ y,D i=some y∧y≤m.2:=by
  obtain ⟨u,b,hu,h2⟩:=R.mwas hi hid _ _ hN h
  exact R.low hT G hD u i _ _ _ (by omega) hi hid h2 hg
def nr (D:Nat→Option Int) (i j:Nat):Bool:=match D j,D i with
  | some x,some y=>decide (x<y)
  | _,_=>false
def rk (n:Nat) (D:Nat→Option Int) (i:Nat):Nat:=((List.range n).filter (nr D i)).length
theorem flt_le {p q:Nat→Bool}:∀ {l:List Nat},(∀ x∈l,p x=true→q x=true)→(l.filter p).length≤(l.filter q).length
  | [],_=>Nat.le_refl _
  | a::l,h=>by
    have ih:=flt_le (p:=p) (q:=q) (l:=l) fun x hx=>h x (.tail _ hx)
    rw [List.filter_cons,List.filter_cons]
    by_cases hp:p a=true
    · rw [if_pos hp,if_pos (h a (.head _) hp),lZ1,lZ1]
      omega
    · rw [if_neg hp]
      by_cases hq:q a=true
      · rw [if_pos hq,lZ1]
        omega
      · rw [if_neg hq]
        exact ih
theorem flt_lt {p q:Nat→Bool} {z:Nat}:∀ {l:List Nat},(∀ x∈l,p x=true→q x=true)→z∈l→q z=true→p z=false→(l.filter p).length<(l.filter q).length
  | a::l,h,hz,h1,h2=>by
    rw [List.filter_cons,List.filter_cons]
    rcases List.mem_cons.mp hz with rfl|hz
    · rw [if_neg (by rw [h2]; decide),if_pos h1,lZ1]
      have:=flt_le (p:=p) (q:=q) (l:=l) fun x hx=>h x (.tail _ hx)
      omega
    · have ih:=flt_lt (l:=l) (fun x hx=>h x (.tail _ hx)) hz h1 h2
      by_cases hp:p a=true
      · rw [if_pos hp,if_pos (h a (.head _) hp),lZ1,lZ1]
        omega
      · rw [if_neg hp]
        by_cases hq:q a=true
        · rw [if_pos hq,lZ1]
          omega
        · rw [if_neg hq]
          exact ih
theorem rk_lt {b i:Nat} {x y:Int} (hb:b<n) (h1:D b=some x) (h2:D i=some y) (h:x<y):rk n D b<rk n D i:=by
  refine flt_lt (z:=b) (fun j _ hj=>?_) (List.mem_range.mpr hb) ?_ ?_
  · unfold nr at *
    rw [h1] at hj
    rw [h2]
    cases e:D j with
    | none=>rw [e] at hj; cases hj
    | some v=>
      rw [e] at hj
      have:=of_decide_eq_true hj
      exact decide_eq_true (by omega)
  · unfold nr
    rw [h1,h2]
    exact decide_eq_true h
  · unfold nr
    rw [h1]
    exact decide_eq_false (by omega)
theorem rk_n {i:Nat} (hi:i<n):rk n D i+1≤n:=by
  have:=flt_lt (p:=nr D i) (q:=fun _=>true) (z:=i) (l:=List.range n) (fun _ _ _=>rfl) (List.mem_range.mpr hi) rfl (by
    unfold nr
    cases D i with
    | none=>rfl
    | some y=>exact decide_eq_false (by omega))
  have h2:((List.range n).filter fun _=>true).length=n:=by
    rw [List.filter_eq_self.mpr (fun _ _=>rfl),List.length_range]
  unfold rk
  omega
theorem Run.conv (R:Run n d gen c st way mark T1 N) (hT:T1≤T0) (G:Raise gen g T0) (hD:Dist n d c D) (hd:d<n) {g':Int} {Ta Tb:Nat} (h0:T0+3 * (n - 1)≤Ta) (hw:∀ t,Ta≤t→t<Tb→gen t=g') (hg:g≤g') :
    ∀ (k i:Nat) (y:Int),rk n D i=k→i<n→i≠d→D i=some y→∀ t,t<N→Ta+3 * k≤t→t<Tb→∃ b,way t i=some (g',y,b):=by
  intro k
  induction k using Nat.strongRecOn with
  | ind k ih=>
    intro i y hk hi hid hy t hN ht htb
    obtain ⟨b,l,x,hb,hc,hx,rfl⟩:=hD.hop i y hi hid hy
    have hl:=R.lp i b l hc
    have hr:=rk_lt (n:=n) hb hx hy (by omega)
    obtain ⟨s1,s2,_⟩:=R.sl t i b l (by omega) hN hc
    have hoff:(if b=d then (g',x)=(gen (st t i b),0) else ∃ b',way (st t i b) b=some (g',x,b')):=by
      by_cases hbd:b=d
      · rw [if_pos hbd,hw _ (by omega) (by omega)]
        rw [hbd,hD.d0] at hx
        cases hx
        rfl
      · rw [if_neg hbd]
        exact ih _ (by omega) b x rfl hb hbd hx _ (by omega) (by omega) (by omega)
    have hok:okm (mark t i) (g',x):=fun m hm=>by
      have h1:m.1≤gen t:=by
        cases t with
        | zero=>rw [R.m0] at hm; cases hm
        | succ t=>exact Int.le_trans (R.mgen (by omega) hi hid hm) (R.gm t)
      rw [hw t (by omega) htb] at h1
      by_cases h2:m.1<g'
      · exact .inl h2
      · obtain ⟨y',e1,e2⟩:=R.mlow hT G hD (by omega) hi hid hm (by omega)
        rw [hy] at e1
        cases e1
        exact .inr ⟨by simp only; omega,by simp only; omega⟩
    obtain ⟨γ',p',b',hwy,hp⟩:=R.top t i b l g' x hN hi hid hb (by omega) hc hoff hok
    obtain ⟨y',e1,e2⟩:=R.low hT G hD t i γ' p' b' hN hi hid hwy (R.fresh hT G hd (by omega) hi hid hwy (by omega))
    rw [hy] at e1
    cases e1
    have h3:=R.wgen t i γ' p' b' hN hi hid hwy
    rw [hw t (by omega) htb] at h3
    refine ⟨b',?_⟩
    rw [hwy,show γ'=g' by omega,show p'=l+x by omega]
def Set (n d:Nat) (D:Nat→Option Int) (way:Nat→Nat→Option (Int × Int × Nat)) (mark:Nat→Nat→Option Mk) (g:Int) (t:Nat):Prop:=∀ i y,i<n→i≠d→D i=some y→∃ γ b,way t i=some (γ,y,b)∧mark (t+1) i=some (γ,y)∧g≤γ
def Up (n d:Nat) (D:Nat→Option Int) (way:Nat→Nat→Option (Int × Int × Nat)) (t:Nat):Prop:=∀ i y γ b γ' p' b',i<n→i≠d→D i=some y→way t i=some (γ,y,b)→way (t+1) i=some (γ',p',b')→γ≤γ'
theorem up_all {a e:Nat} (hU:∀ u,a≤u→u<e→Up n d D way u) (hS:∀ u,a≤u→u≤e→Set n d D way mark g u) {i:Nat} {y:Int} (hi:i<n) (hid:i≠d) (hy:D i=some y) {u:Nat} (hu:a≤u):∀ {v:Nat},u≤v→v≤e→∀ γ b γ' b',way u i=some (γ,y,b)→way v i=some (γ',y,b')→γ≤γ':=by
  intro v hv
  induction hv with
  | refl=>intro _ γ b γ' b' h1 h2; rw [h1] at h2; cases h2; exact Int.le_refl _
  | @step v hv ih=>
    intro hve γ b γ' b' h1 h2
    have hv':u≤v:=hv
    obtain ⟨γ1,b1,e1,_,_⟩:=hS v (by omega) (by omega) i y hi hid hy
    exact Int.le_trans (ih (by omega) γ b γ1 b1 h1 e1) (hU v (by omega) (by omega) i y γ1 b1 γ' y b' hi hid hy e1 h2)
theorem Run.stay (R:Run n d gen c st way mark T1 N) (hT:T1≤T0) (G:Raise gen g T0) (hD:Dist n d c D) (hd:d<n) {T3 t:Nat} (hN:t+1<N) (h0:T0+3 * (n - 1)≤T3) (h3:T3+3≤t) (hS:∀ u,T3≤u→u≤t→Set n d D way mark g u) (hU:∀ u,T3≤u→u<t→Up n d D way u):Set n d D way mark g (t+1)∧Up n d D way t:=by
  have key:∀ i y,i<n→i≠d→D i=some y→∃ γ b γ' b',way t i=some (γ,y,b)∧way (t+1) i=some (γ',y,b')∧γ≤γ'∧mark (t+2) i=some (γ',y)∧g≤γ':=fun i y hi hid hy=>by
    obtain ⟨γ,b,e,em,hγ⟩:=hS t (by omega) (Nat.le_refl _) i y hi hid hy
    obtain ⟨hb,_,s,q,l,hs,ho,hl,hp,ok,hT1⟩:=R.src t i γ y b (by omega) hi hid e
    obtain ⟨hc,est⟩:=hT1 (by omega)
    obtain ⟨s1,s2,s3⟩:=R.sl t i b l (by omega) (by omega) hc
    have s3:=s3 hN
    obtain ⟨s4,s5,_⟩:=R.sl (t+1) i b l (by omega) hN hc
    have hoff:∃ γ1,γ≤γ1∧(if b=d then (γ1,q)=(gen (st (t+1) i b),0) else ∃ b',way (st (t+1) i b) b=some (γ1,q,b')):=by
      by_cases hbd:b=d
      · rw [if_pos hbd] at ho
        refine ⟨gen (st (t+1) i b),?_,?_⟩
        · have h1:γ=gen s:=congrArg Prod.fst ho
          rw [h1,est]
          exact R.gmono s3
        · rw [if_pos hbd]
          have h1:q=0:=congrArg Prod.snd ho
          rw [h1]
      · rw [if_neg hbd] at ho
        obtain ⟨b',e'⟩:=ho
        obtain ⟨x,e1,e2⟩:=R.low hT G hD s b γ q b' (by omega) hb hbd e' hγ
        obtain ⟨y',e3,e4⟩:=hD.tri i b l x hi hb hc e1
        rw [hy] at e3
        cases e3
        have hxq:x=q:=by omega
        subst hxq
        obtain ⟨γ1,b1,e5,_,_⟩:=hS (st (t+1) i b) (by omega) (by omega) b x hb hbd e1
        refine ⟨γ1,up_all hU hS hb hbd e1 (u:=s) (by omega) (by omega) (by omega) γ b' γ1 b1 e' e5,?_⟩
        rw [if_neg hbd]
        exact ⟨b1,e5⟩
    obtain ⟨γ1,hg1,hoff⟩:=hoff
    have hok:okm (mark (t+1) i) (γ1,q):=fun m hm=>by
      rw [em] at hm
      cases hm
      unfold bt
      simp only
      omega
    obtain ⟨γ',p',b',hwy,hp'⟩:=R.top (t+1) i b l γ1 q hN hi hid hb (by omega) hc hoff hok
    obtain ⟨y',e1,e2⟩:=R.low hT G hD (t+1) i γ' p' b' hN hi hid hwy (R.fresh hT G hd (by omega) hi hid hwy (by omega))
    rw [hy] at e1
    cases e1
    have hpy:p'=y:=by omega
    subst hpy
    refine ⟨γ,b,γ',b',e,hwy,by omega,?_,by omega⟩
    rcases R.mw (t+1) i _ hN hi hid hwy with ⟨_,h2⟩|⟨h1,h2⟩
    · exact h2
    · rw [h1,em]
      obtain ⟨m,hm,hb2⟩:=h2
      rw [em] at hm
      cases hm
      unfold bt at hb2
      simp only at hb2
      rw [show γ=γ' by omega]
  refine ⟨fun i y hi hid hy=>?_,fun i y γ b γ' p' b' hi hid hy h1 h2=>?_⟩
  · obtain ⟨γ,b,γ',b',_,h2,_,h4,h5⟩:=key i y hi hid hy
    exact ⟨γ',b',h2,h4,h5⟩
  · obtain ⟨γ2,b2,γ3,b3,h3,h4,h5,_⟩:=key i y hi hid hy
    rw [h1] at h3
    rw [h2] at h4
    cases h3
    cases h4
    exact h5
theorem Run.settled (R:Run n d gen c st way mark T1 N) (hT:T1≤T0) (G:Raise gen g T0) (hD:Dist n d c D) (hd:d<n) {g':Int} {Ta Tb:Nat} (h0:T0+3 * (n - 1)≤Ta) (hw:∀ t,Ta≤t→t<Tb→gen t=g') (hg:g≤g') (hab:Ta+3 * (n - 1)+4≤Tb) :
    ∀ t,Ta+3 * (n - 1)≤t→t<N→Set n d D way mark g t∧(∀ u,Ta+3 * (n - 1)≤u→u≤t→Set n d D way mark g u)∧∀ u,Ta+3 * (n - 1)≤u→u<t→Up n d D way u:=by
  have win:∀ t,t<N→Ta+3 * (n - 1)≤t→t<Tb→∀ i y,i<n→i≠d→D i=some y→∃ b,way t i=some (g',y,b):=fun t hN ht htb i y hi hid hy=>R.conv hT G hD hd h0 hw hg _ i y rfl hi hid hy t hN (by
    have:=rk_n (n:=n) (D:=D) hi
    omega) htb
  have ws:∀ t,t<N→Ta+3 * (n - 1)≤t→t<Tb→Set n d D way mark g t:=fun t hN ht htb i y hi hid hy=>by
    obtain ⟨b,e⟩:=win t hN ht htb i y hi hid hy
    refine ⟨g',b,e,?_,hg⟩
    obtain ⟨m,em,hm⟩:=R.wge hN hi hid e
    have h1:=R.mgen hN hi hid em
    rw [hw t (by omega) htb] at h1
    unfold bt at hm
    simp only at hm
    obtain ⟨y',e1,e2⟩:=R.mlow hT G hD (by omega) hi hid em (by omega)
    rw [hy] at e1
    cases e1
    rw [em]
    obtain ⟨m1,m2⟩:=m
    simp only at *
    rw [show m1=g' by omega,show m2=y by omega]
  intro t ht
  induction ht with
  | refl=>
    intro hN
    refine ⟨ws _ hN (Nat.le_refl _) (by omega),fun u h1 h2=>?_,fun u h1 h2=>by omega⟩
    have:u=Ta+3 * (n - 1):=by omega
    rw [this]
    exact ws _ hN (Nat.le_refl _) (by omega)
  | @step t ht ih=>
    have ht':Ta+3 * (n - 1)≤t:=ht
    intro hN
    obtain ⟨i1,i2,i3⟩:=ih (by omega)
    have step:Set n d D way mark g (t+1)∧Up n d D way t:=by
      by_cases hb:t+1<Tb
      · refine ⟨ws _ hN (by omega) hb,fun i y γ b γ' p' b' hi hid hy h1 h2=>?_⟩
        obtain ⟨b1,e1⟩:=win t (by omega) ht' (by omega) i y hi hid hy
        obtain ⟨b2,e2⟩:=win (t+1) hN (by omega) hb i y hi hid hy
        rw [h1] at e1
        rw [h2] at e2
        cases e1
        cases e2
        exact Int.le_refl _
      · exact R.stay hT G hD hd (T3:=Ta+3 * (n - 1)) hN (by omega) (by omega) i2 i3
    refine ⟨step.1,fun u h1 h2=>?_,fun u h1 h2=>?_⟩
    · by_cases hu:u≤t
      · exact i2 u h1 hu
      · have:u=t+1:=by omega
        rw [this]; exact step.1
    · by_cases hu:u<t
      · exact i3 u h1 hu
      · have:u=t:=by omega
        rw [this]; exact step.2
theorem Run.least (R:Run n d gen c st way mark T1 N) (hT:T1≤T0) (G:Raise gen g T0) (hD:Dist n d c D) (hd:d<n) {g':Int} {Ta Tb:Nat} (h0:T0+3 * (n - 1)≤Ta) (hw:∀ t,Ta≤t→t<Tb→gen t=g') (hg:g≤g') (hab:Ta+3 * (n - 1)+4≤Tb) {t i:Nat} (hN:t<N) (ht:Ta+3 * (n - 1)≤t) (hi:i<n) (hid:i≠d) :
    (D i=none∧way t i=none)∨∃ y γ b l x,D i=some y∧way t i=some (γ,y,b)∧b<n∧c i b=some l∧D b=some x∧l+x=y:=by
  cases hy:D i with
  | none=>
    refine .inl ⟨rfl,?_⟩
    cases e:way t i with
    | none=>rfl
    | some w=>
      obtain ⟨γ,p,b⟩:=w
      obtain ⟨y,e1,_⟩:=R.low hT G hD t i γ p b hN hi hid e (R.fresh hT G hd (by omega) hi hid e (by omega))
      rw [hy] at e1
      cases e1
  | some y=>
    obtain ⟨γ,b,e,_,hγ⟩:=(R.settled hT G hD hd h0 hw hg hab t ht hN).1 i y hi hid hy
    obtain ⟨hb,_,s,q,l,hs,ho,hl,hp,ok,hT1⟩:=R.src t i γ y b (by omega) hi hid e
    obtain ⟨hc,est⟩:=hT1 (by omega)
    refine .inr ⟨y,γ,b,l,?_⟩
    by_cases hbd:b=d
    · rw [if_pos hbd] at ho
      have h1:q=0:=congrArg Prod.snd ho
      exact ⟨0,rfl,e,hb,hc,by rw [hbd]; exact hD.d0,by omega⟩
    · rw [if_neg hbd] at ho
      obtain ⟨b',e'⟩:=ho
      obtain ⟨x,e1,e2⟩:=R.low hT G hD s b γ q b' (by omega) hb hbd e' hγ
      obtain ⟨y',e3,e4⟩:=hD.tri i b l x hi hb hc e1
      rw [hy] at e3
      cases e3
      exact ⟨x,rfl,e,hb,hc,e1,by omega⟩
end
end LW
namespace LW
inductive Wk (c:Nat→Nat→Option Int) (k:Nat):Nat→Nat→Int→Prop
  | one {a b:Nat} {l:Int}:c a b=some l→Wk c k a b l
  | cons {a p b:Nat} {l x:Int}:c a p=some l→p<k→Wk c k p b x→Wk c k a b (l+x)
abbrev Tb:=Nat→Nat→Option Int
section
variable {n:Nat} {c:Nat→Nat→Option Int}
structure Lines (n:Nat) (c:Nat→Nat→Option Int):Prop where
  lp:∀ i b l,c i b=some l→1≤l
  rng:∀ i b l,c i b=some l→i<n∧b<n∧i≠b
theorem Wk.pos (h:Lines n c) {k a b:Nat} {x:Int} (w:Wk c k a b x):1≤x:=by
  induction w with
  | one e=>exact h.lp _ _ _ e
  | cons e _ _ ih=>have:=h.lp _ _ _ e; omega
theorem Wk.app {k a m b:Nat} {x y:Int} (w:Wk c k a m x) (hm:m<k) (v:Wk c k m b y):Wk c k a b (x+y):=by
  induction w with
  | one e=>exact .cons e hm v
  | cons e p _ ih=>
    rw [Int.add_assoc]
    exact .cons e p (ih hm v)
theorem Wk.split (h:Lines n c) {k a b:Nat} {x:Int} (w:Wk c (k+1) a b x):Wk c k a b x∨∃ u v,Wk c k a k u∧Wk c k k b v∧u+v≤x:=by
  induction w with
  | one e=>exact .inl (.one e)
  | @cons a p b l x e hp _ ih=>
    by_cases hpk:p<k
    · rcases ih with ih|⟨u,v,h1,h2,h3⟩
      · exact .inl (.cons e hpk ih)
      · exact .inr ⟨l+u,v,.cons e hpk h1,h2,by omega⟩
    · have:p=k:=by omega
      subst this
      rcases ih with ih|⟨u,v,h1,h2,h3⟩
      · exact .inr ⟨l,x,.one e,ih,Int.le_refl _⟩
      · have:=h1.pos h
        exact .inr ⟨l,v,.one e,h2,by omega⟩
structure Snd (n:Nat) (c:Nat→Nat→Option Int) (L:Tb):Prop where
  dg:∀ a,a<n→L a a=some 0
  w:∀ a b y,a<n→b<n→a≠b→L a b=some y→Wk c n a b y
def Le (n:Nat) (L L0:Tb):Prop:=∀ a b y,a<n→b<n→L0 a b=some y→∃ y',L a b=some y'∧y'≤y
theorem Le.refl {L:Tb}:Le n L L:=fun _ _ y _ _ h=>⟨y,h,Int.le_refl _⟩
def Cpl (n:Nat) (c:Nat→Nat→Option Int) (k:Nat) (L:Tb):Prop:=∀ a b x,a<n→b<n→Wk c k a b x→∃ y,L a b=some y∧y≤x
def Dn (n m a b:Nat) (L0 L:Tb):Prop:=∀ a' b' u v,a'<n→b'<n→(a'<a∨(a'=a∧b'<b))→L0 a' m=some u→L0 m b'=some v→∃ y,L a' b'=some y∧y≤u+v
structure Ph (n:Nat) (c:Nat→Nat→Option Int) (m a b:Nat) (L0 L:Tb):Prop where
  cp:Cpl n c m L0
  sn:Snd n c L
  le:Le n L L0
  dn:Dn n m a b L0 L
def put (L:Tb) (a b:Nat) (y:Int):Tb:=fun a' b'=>if a'=a∧b'=b then some y else L a' b'
theorem Ph.skip {m a b:Nat} {L0 L:Tb} (P:Ph n c m a b L0 L) (hm:m<n) (ha:a<n) (h:∀ u v,L a m=some u→L m b=some v→∃ y,L a b=some y∧y≤u+v):Ph n c m a (b+1) L0 L:=by
  refine ⟨P.cp,P.sn,P.le,fun a' b' u v h1 h2 h3 h4 h5=>?_⟩
  by_cases e:a'=a∧b'=b
  · obtain ⟨rfl,rfl⟩:=e
    obtain ⟨u',e1,e2⟩:=P.le _ _ _ h1 hm h4
    obtain ⟨v',e3,e4⟩:=P.le _ _ _ hm h2 h5
    obtain ⟨y,e5,e6⟩:=h u' v' e1 e3
    exact ⟨y,e5,by omega⟩
  · exact P.dn a' b' u v h1 h2 (by omega) h4 h5
theorem Ph.put {m a b:Nat} {L0 L:Tb} {u v:Int} (hl:Lines n c) (P:Ph n c m a b L0 L) (hm:m<n) (ha:a<n) (hb:b<n) (h1:L a m=some u) (h2:L m b=some v) (h3:∀ y,L a b=some y→u+v<y):Ph n c m a (b+1) L0 (put L a b (u+v)):=by
  have hu:0≤u∧(a=m→u=0)∧(a≠m→Wk c n a m u):=by
    by_cases e:a=m
    · subst e
      rw [P.sn.dg a ha] at h1
      cases h1
      exact ⟨by decide,fun _=>rfl,fun z=>absurd rfl z⟩
    · have w:=P.sn.w _ _ _ ha hm e h1
      have:=w.pos hl
      exact ⟨by omega,fun z=>absurd z e,fun _=>w⟩
  have hv:0≤v∧(m=b→v=0)∧(m≠b→Wk c n m b v):=by
    by_cases e:m=b
    · subst e
      rw [P.sn.dg m hm] at h2
      cases h2
      exact ⟨by decide,fun _=>rfl,fun z=>absurd rfl z⟩
    · have w:=P.sn.w _ _ _ hm hb e h2
      have:=w.pos hl
      exact ⟨by omega,fun z=>absurd z e,fun _=>w⟩
  have hab:a≠b:=fun e=>by
    subst e
    have:=h3 0 (P.sn.dg a ha)
    omega
  have ham:a≠m:=fun e=>by
    subst e
    have:=h3 v h2
    have:=hu.2.1 rfl
    omega
  have hmb:m≠b:=fun e=>by
    subst e
    have:=h3 u h1
    have:=hv.2.1 rfl
    omega
  refine ⟨P.cp,⟨fun x hx=>?_,fun x y z hx hy hxy hz=>?_⟩,fun x y z hx hy hz=>?_,fun a' b' u' v' g1 g2 g3 g4 g5=>?_⟩
  · unfold LW.put
    rw [if_neg (by omega)]
    exact P.sn.dg x hx
  · unfold LW.put at hz
    by_cases e:x=a∧y=b
    · rw [if_pos e] at hz
      obtain ⟨rfl,rfl⟩:=e
      cases hz
      exact (hu.2.2 ham).app hm (hv.2.2 hmb)
    · rw [if_neg e] at hz
      exact P.sn.w x y z hx hy hxy hz
  · obtain ⟨z',e1,e2⟩:=P.le x y z hx hy hz
    unfold LW.put
    by_cases e:x=a∧y=b
    · obtain ⟨rfl,rfl⟩:=e
      have:=h3 z' e1
      exact ⟨u+v,if_pos ⟨rfl,rfl⟩,by omega⟩
    · exact ⟨z',by rw [if_neg e]; exact e1,e2⟩
  · unfold LW.put
    by_cases e:a'=a∧b'=b
    · obtain ⟨rfl,rfl⟩:=e
      obtain ⟨u2,e1,e2⟩:=P.le _ _ _ g1 hm g4
      obtain ⟨v2,e3,e4⟩:=P.le _ _ _ hm g2 g5
      rw [h1] at e1
      rw [h2] at e3
      cases e1
      cases e3
      exact ⟨u+v,if_pos ⟨rfl,rfl⟩,by omega⟩
    · obtain ⟨y,e1,e2⟩:=P.dn a' b' u' v' g1 g2 (by omega) g4 g5
      exact ⟨y,by rw [if_neg e]; exact e1,e2⟩
theorem Ph.row {m a:Nat} {L0 L:Tb} (P:Ph n c m a n L0 L):Ph n c m (a+1) 0 L0 L:=
  ⟨P.cp,P.sn,P.le,fun a' b' u v h1 h2 h3=>P.dn a' b' u v h1 h2 (by omega)⟩
theorem Ph.start {m:Nat} {L:Tb} (h1:Cpl n c m L) (h2:Snd n c L):Ph n c m 0 0 L L:=⟨h1,h2,.refl,fun a' b' u v _ _ h=>by omega⟩
theorem Ph.done {m:Nat} {L0 L:Tb} (hl:Lines n c) (P:Ph n c m n 0 L0 L) (hm:m<n):Cpl n c (m+1) L:=fun a b x ha hb w=>by
  rcases w.split hl with w|⟨u,v,w1,w2,h⟩
  · obtain ⟨y,e,hy⟩:=P.cp a b x ha hb w
    obtain ⟨y',e',hy'⟩:=P.le _ _ _ ha hb e
    exact ⟨y',e',by omega⟩
  · obtain ⟨u',e1,h1⟩:=P.cp a m u ha hm w1
    obtain ⟨v',e2,h2⟩:=P.cp m b v hm hb w2
    obtain ⟨y,e3,h3⟩:=P.dn a b u' v' ha hb (by omega) e1 e2
    exact ⟨y,e3,by omega⟩
theorem first {L:Tb} (hl:Lines n c) (h1:∀ a,a<n→L a a=some 0) (h2:∀ a b,a<n→b<n→a≠b→L a b=c a b):Snd n c L∧Cpl n c 0 L:=by
  refine ⟨⟨h1,fun a b y ha hb hab e=>.one (by rw [← h2 a b ha hb hab]; exact e)⟩,fun a b x ha hb w=>?_⟩
  cases w with
  | one e=>
    have:=hl.rng _ _ _ e
    exact ⟨x,by rw [h2 a b ha hb this.2.2]; exact e,Int.le_refl _⟩
  | cons _ h _=>omega
theorem dist {L:Tb} (hl:Lines n c) (S:Snd n c L) (C:Cpl n c n L) {d:Nat} (hd:d<n):Dist n d c fun i=>if i<n then L i d else none:=by
  have low:∀ i y,i<n→L i d=some y→(i=d∧y=0)∨(i≠d∧Wk c n i d y):=fun i y hi e=>by
    by_cases h:i=d
    · subst h
      rw [S.dg i hi] at e
      cases e
      exact .inl ⟨rfl,rfl⟩
    · exact .inr ⟨h,S.w i d y hi hd h e⟩
  have tri:∀ i b l x,i<n→b<n→c i b=some l→L b d=some x→∃ y,L i d=some y∧y≤l+x:=fun i b l x hi hb hc hx=>by
    rcases low b x hb hx with ⟨rfl,rfl⟩|⟨_,w⟩
    · obtain ⟨y,e,h⟩:=C i b l hi hb (.one hc)
      exact ⟨y,e,by omega⟩
    · exact C i d (l+x) hi hd (.cons hc hb w)
  refine ⟨by rw [if_pos hd]; exact S.dg d hd,fun i y e=>?_,fun i b l x hi hb hc hx=>?_,fun i y hi hid e=>?_⟩
  · by_cases hi:i<n
    · rw [if_pos hi] at e
      rcases low i y hi e with ⟨_,rfl⟩|⟨_,w⟩
      · decide
      · have:=w.pos hl
        omega
    · rw [if_neg hi] at e
      cases e
  · rw [if_pos hb] at hx
    rw [if_pos hi]
    exact tri i b l x hi hb hc hx
  · rw [if_pos hi] at e
    rcases low i y hi e with ⟨h,_⟩|⟨_,w⟩
    · exact absurd h hid
    · cases w with
      | one hc=>exact ⟨d,y,0,hd,hc,by rw [if_pos hd]; exact S.dg d hd,by omega⟩
      | @cons _ p _ l x hc hp w=>
        obtain ⟨x',e1,h1⟩:=C p d x hp hd w
        obtain ⟨y',e2,h2⟩:=tri i p l x' hi hp hc e1
        rw [e] at e2
        cases e2
        exact ⟨p,l,x',hp,hc,by rw [if_pos hp]; exact e1,by omega⟩
end
end LW
namespace K15
open PySem L2
def rp (st:WSt) (g nb:Int):Option Rp:=(st.rep g).bind (· nb)
structure Sys (n ev N:Nat) (c:Nat→Nat→Option Int) (σ:Nat→Nat→Nat→Option Nat) (hs ps:Nat→Nat→WSt):Prop where
  ev0:0<ev
  me:∀ t i,t<N→i<n→(ps t i).me=(i:Int)
  own:∀ t i,t<N→i<n→(hs t i).own=((t / ev:Nat):Int)
  stl:∀ t i,t<N→i<n→Stl (ps t i) (hs t i)
  m0:∀ i,0<N→i<n→∀ g,(ps 0 i).mar g=none
  pm:∀ t i,t+1<N→i<n→∀ g,(ps (t+1) i).mar g=(hs t i).mar g
  ms:∀ t i,t<N→i<n→∀ g,(ps t i).rep g=none→(ps t i).mar g=none∧(ps t i).wy g=none
  rm:∀ t i,t<N→i<n→(ps t i).rep (i:Int)=none
  rep:∀ t i (d:Nat) nb x,t<N→i<n→d<n→d≠i→rp (ps t i) (d:Int) nb=some x→∃ (b s:Nat),nb=(b:Int)∧b<n∧b≠i∧σ t i b=some s∧s<t∧x=(genOf (hs s b) (d:Int),priceOf (hs s b) (d:Int))
  rep':∀ t i (d b s:Nat),t<N→i<n→d<n→d≠i→b<n→b≠i→σ t i b=some s→(d=b∨(hs s b).mar (d:Int)≠none)→rp (ps t i) (d:Int) (b:Int)=some (genOf (hs s b) (d:Int),priceOf (hs s b) (d:Int))
  lp:∀ t i nb l,t<N→i<n→(ps t i).lp nb=some (some l)→1≤l
  lpc:∀ t i (b:Nat),13≤t→t<N→i<n→b<n→b≠i→(ps t i).lp (b:Int)=some (c i b)
  ln:LW.Lines n c
  sl:∀ t i b l,13≤t→t<N→c i b=some l→∃ s,σ t i b=some s∧s<t∧t≤s+3
  past:∀ t i b s,t<N→σ t i b=some s→s<t
  wn:∀ t i g w,t<N→i<n→wayOf (hs t i) g=some w→0≤w.2.2
  sm:∀ t i b s,t+1<N→σ t i b=some s→∃ s',σ (t+1) i b=some s'∧s≤s'
section
variable {n ev N:Nat} {c:Nat→Nat→Option Int} {σ:Nat→Nat→Nat→Option Nat} {hs ps:Nat→Nat→WSt}
def wayD (hs:Nat→Nat→WSt) (d t i:Nat):Option (Int × Int × Nat):=(wayOf (hs t i) (d:Int)).map fun w=>(w.1,w.2.1,w.2.2.toNat)
def markD (hs:Nat→Nat→WSt) (d t i:Nat):Option Mk:=match t with
  | 0=>none
  | t+1=>(hs t i).mar (d:Int)
theorem Sys.mark (S:Sys n ev N c σ hs ps) {t i d:Nat} (ht:t<N) (hi:i<n):(ps t i).mar (d:Int)=markD hs d t i:=by
  cases t with
  | zero=>exact S.m0 i ht hi _
  | succ t=>exact S.pm t i ht hi _
theorem Sys.hme (S:Sys n ev N c σ hs ps) {t i:Nat} (ht:t<N) (hi:i<n):(hs t i).me=(i:Int):=by rw [(S.stl t i ht hi).me,S.me t i ht hi]
theorem Sys.off (S:Sys n ev N c σ hs ps) {s b d:Nat} {γ q:Int} (hs':s<N) (hb:b<n):(γ,some q)=(genOf (hs s b) (d:Int),priceOf (hs s b) (d:Int))↔(if b=d then (γ,q)=((((s / ev:Nat):Int)),(0:Int)) else ∃ b',wayD hs d s b=some (γ,q,b')):=by
  by_cases hbd:b=d
  · subst hbd
    rw [if_pos rfl]
    have hw:wayOf (hs s b) (b:Int)=none:=by
      unfold wayOf
      rw [((S.stl s b hs' hb).old _ (S.rm s b hs' hb)).1,(S.ms s b hs' hb _ (S.rm s b hs' hb)).2]
      rfl
    unfold genOf priceOf
    rw [hw,if_pos (S.hme hs' hb).symm]
    unfold markOf
    rw [if_pos (S.hme hs' hb).symm,S.own s b hs' hb]
    dsimp only [Option.map,Option.getD]
    constructor
    · intro h; cases h; rfl
    · intro h; cases h; rfl
  · rw [if_neg hbd]
    have hne:¬ ((d:Int)=(hs s b).me):=by rw [S.hme hs' hb]; omega
    unfold genOf priceOf wayD
    rw [if_neg hne]
    cases hw:wayOf (hs s b) (d:Int) with
    | none=>
      constructor
      · intro h; cases h
      · rintro ⟨b',h⟩; cases h
    | some w=>
      constructor
      · intro h; cases h; exact ⟨_,rfl⟩
      · rintro ⟨b',h⟩; cases h; rfl
theorem okM_iff {m:Option Mk} {r:Mk}:okM m r=true↔LW.okm m r:=by
  unfold LW.okm
  cases m with
  | none=>exact ⟨fun _ x h=>(by cases h),fun _=>rfl⟩
  | some x=>
    constructor
    · intro h y e
      cases e
      exact bet_iff.mp h
    · intro h
      exact bet_iff.mpr (h x rfl)
theorem Sys.run (S:Sys n ev N c σ hs ps) {d:Nat} (hd:d<n):LW.Run n d (fun t=>((t / ev:Nat):Int)) c (fun t i b=>(σ t i b).getD 0) (wayD hs d) (markD hs d) 13 N:=by
  have hdi:∀ i:Nat,i≠d→d≠i:=fun i h e=>h e.symm
  have best:∀ t i w,t<N→i<n→i≠d→wayOf (hs t i) (d:Int)=some w→∃ f,(ps t i).rep (d:Int)=some f∧Best (ps t i) (d:Int) (some w)∧(hs t i).mar (d:Int)=some (newM (markD hs d t i) (w.1,w.2.1)):=fun t i w ht hi hid e=>by
    have T:=S.stl t i ht hi
    cases hr:(ps t i).rep (d:Int) with
    | none=>
      unfold wayOf at e
      rw [(T.old _ hr).1,(S.ms t i ht hi _ hr).2] at e
      cases e
    | some f=>
      obtain ⟨r,h1,h2,h3⟩:=T.new (d:Int) (by rw [hr]; exact fun z=>nomatch z)
      unfold wayOf at e
      rw [h2] at e
      have e':r=some w:=e
      subst e'
      refine ⟨f,rfl,h1,?_⟩
      rw [h3,← S.mark ht hi]
      rfl
  refine ⟨fun t=>?_,S.ln.lp,fun t i γ p b ht hi hid e=>?_,fun t i b l γ q ht hi hid hb h13 hc ho ok=>?_,fun i=>rfl,fun t i w ht hi hid e=>?_,fun t i ht hi hid e=>?_,fun t i b l h13 ht hc=>?_⟩
  · have:t / ev≤(t+1) / ev:=Nat.div_le_div_right (Nat.le_succ t)
    exact Int.ofNat_le.mpr this
  ·
    unfold wayD at e
    cases hw:wayOf (hs t i) (d:Int) with
    | none=>rw [hw] at e; cases e
    | some w=>
      rw [hw] at e
      obtain ⟨f,hr,hB,_⟩:=best t i w ht hi hid hw
      obtain ⟨f',hr',hc,_⟩:=hB
      rw [hr] at hr'
      cases hr'
      unfold cnd at hc
      cases hf:f w.2.2 with
      | none=>rw [hf] at hc; cases hc
      | some x=>
        obtain ⟨γ0,o⟩:=x
        rw [hf] at hc
        cases o with
        | none=>cases hc
        | some q=>
          dsimp only at hc
          cases hl:(ps t i).lp w.2.2 with
          | none=>rw [hl] at hc; cases hc
          | some o=>
            rw [hl] at hc
            cases o with
            | none=>cases hc
            | some l=>
              dsimp only at hc
              by_cases hok:okM ((ps t i).mar (d:Int)) (γ0,q)=true
              · rw [if_pos hok] at hc
                injection hc with hc
                injection hc with h1 hc
                injection hc with h2 _
                obtain ⟨b0,s,e1,hb0,hbi,hσ,hst,hx⟩:=S.rep t i d w.2.2 (γ0,some q) ht hi hd (hdi i hid) (by unfold rp; rw [hr]; exact hf)
                have hγ:γ0=w.1:=by omega
                subst hγ
                have e3:γ=w.1∧p=w.2.1∧b=w.2.2.toNat:=by
                  cases e
                  exact ⟨rfl,rfl,rfl⟩
                obtain ⟨rfl,rfl,rfl⟩:=e3
                have hb:w.2.2.toNat=b0:=by rw [e1]; rfl
                rw [hb]
                refine ⟨hb0,hbi,s,q,l,hst,(S.off (by omega) hb0).mp hx,S.lp t i _ l ht hi hl,by omega,?_,fun h13=>⟨?_,by rw [hσ]; rfl⟩⟩
                · rw [← S.mark ht hi]
                  exact okM_iff.mp hok
                · have:=S.lpc t i b0 h13 ht hi hb0 hbi
                  rw [e1,this] at hl
                  exact Option.some.inj hl
              · rw [if_neg hok] at hc
                cases hc
  ·
    have hbi:b≠i:=fun z=>by
      have:=(S.ln.rng i b l hc).2.2
      omega
    obtain ⟨s,hσ,hst,hs3⟩:=S.sl t i b l h13 ht hc
    rw [hσ] at ho
    have hrow:=(S.off (s:=s) (d:=d) (by omega) hb).mpr ho
    have hmk:d=b∨(hs s b).mar (d:Int)≠none:=by
      by_cases hbd:b=d
      · exact .inl hbd.symm
      · rw [if_neg hbd] at ho
        obtain ⟨b',e⟩:=ho
        unfold wayD at e
        cases hw:wayOf (hs s b) (d:Int) with
        | none=>rw [show (some s).getD 0=s from rfl,hw] at e; cases e
        | some w=>
          obtain ⟨_,_,_,hm⟩:=best s b w (by omega) hb hbd hw
          rw [hm]
          exact .inr fun z=>nomatch z
    have hr:=S.rep' t i d b s ht hi hd (hdi i hid) hb hbi hσ hmk
    rw [← hrow] at hr
    unfold rp at hr
    cases hf:(ps t i).rep (d:Int) with
    | none=>rw [hf] at hr; cases hr
    | some f=>
      rw [hf] at hr
      have hfb:f (b:Int)=some (γ,some q):=hr
      have hl:=S.lpc t i b h13 ht hi hb hbi
      rw [hc] at hl
      have hcn:cnd (ps t i) (d:Int) f (b:Int)=some [q+l,-γ,(b:Int)]:=by
        unfold cnd
        rw [hfb,hl]
        dsimp only
        rw [if_pos]
        rw [S.mark ht hi]
        exact okM_iff.mpr ok
      obtain ⟨r,hB,h2,_⟩:=(S.stl t i ht hi).new (d:Int) (by rw [hf]; exact fun z=>nomatch z)
      obtain ⟨f',hf',hm⟩:=hB
      rw [hf] at hf'
      cases hf'
      cases r with
      | none=>
        have:=hm (b:Int)
        rw [hcn] at this
        cases this
      | some w=>
        have h3:=hm.2 _ _ hcn
        have h4:¬ (q+l<w.2.1∨(q+l=w.2.1∧(-γ < -w.1∨(-γ = -w.1∧(b:Int)<w.2.2)))):=fun z=>by
          rw [lt3.mpr z] at h3
          cases h3
        refine ⟨w.1,w.2.1,w.2.2.toNat,?_,by omega⟩
        unfold wayD wayOf
        rw [h2]
        rfl
  ·
    unfold wayD at e
    cases hw:wayOf (hs t i) (d:Int) with
    | none=>rw [hw] at e; cases e
    | some w'=>
      rw [hw] at e
      cases e
      obtain ⟨_,_,_,hm⟩:=best t i w' ht hi hid hw
      change ((_∨_)∧(hs t i).mar (d:Int)=_)∨((hs t i).mar (d:Int)=_∧_)
      rw [hm]
      cases hmk:markD hs d t i with
      | none=>exact .inl ⟨.inr rfl,rfl⟩
      | some m0=>
        unfold newM
        dsimp only
        by_cases hb:bet (w'.1,w'.2.1) m0=true
        · rw [if_pos hb]
          exact .inl ⟨.inl (bet_iff.mp hb),rfl⟩
        · rw [if_neg hb]
          exact .inr ⟨rfl,m0,rfl,fun z=>hb (bet_iff.mpr z)⟩
  ·
    unfold wayD at e
    have hw:wayOf (hs t i) (d:Int)=none:=by
      cases hw:wayOf (hs t i) (d:Int) with
      | none=>rfl
      | some w=>rw [hw] at e; cases e
    change (hs t i).mar (d:Int)=_
    have T:=S.stl t i ht hi
    rw [← S.mark ht hi]
    by_cases hr:(ps t i).rep (d:Int)=none
    · exact (T.old _ hr).2
    · obtain ⟨r,_,h2,h3⟩:=T.new _ hr
      unfold wayOf at hw
      rw [h2] at hw
      have:r=none:=hw
      rw [h3,this]
      rfl
  · obtain ⟨s,hσ,h1,h2⟩:=S.sl t i b l h13 ht hc
    rw [hσ]
    refine ⟨h1,h2,fun hN=>?_⟩
    obtain ⟨s',e,h⟩:=S.sm t i b s hN hσ
    rw [e]
    exact h
theorem div_of {t ev k:Nat} (h0:0<ev) (h1:ev * k≤t) (h2:t<ev * (k+1)):t / ev=k:=by
  apply Nat.le_antisymm
  · have:=(Nat.div_lt_iff_lt_mul h0).mpr (show t<(k+1) * ev by rw [Nat.mul_comm]; exact h2)
    omega
  · exact (Nat.le_div_iff_mul_le h0).mpr (by rw [Nat.mul_comm]; exact h1)
theorem Sys.least (S:Sys n ev N c σ hs ps) (hev:4 * (n+1)≤ev) {L:LW.Tb} (hS:LW.Snd n c L) (hC:LW.Cpl n c n L) {t i d:Nat} (ht:t<N) (h:13+2 * ev+8 * n≤t) (hi:i<n) (hd:d<n) :
    priceOf (hs t i) (d:Int)=L i d∧(i=d∨L i d=none→nextOf (hs t i) (d:Int)=none)∧(i≠d→∀ y,L i d=some y→∃ (b:Nat) (l x:Int),nextOf (hs t i) (d:Int)=some (b:Int)∧b<n∧b≠i∧c i b=some l∧L b d=some x∧l+x=y):=by
  have h0:=S.ev0
  by_cases hid:i=d
  · subst hid
    have hw:wayOf (hs t i) (i:Int)=none:=by
      unfold wayOf
      rw [((S.stl t i ht hi).old _ (S.rm t i ht hi)).1,(S.ms t i ht hi _ (S.rm t i ht hi)).2]
      rfl
    refine ⟨?_,fun _=>?_,fun z=>absurd rfl z⟩
    · unfold priceOf
      rw [if_pos (S.hme ht hi).symm,hS.dg i hi]
    · unfold nextOf
      rw [hw]
      rfl
  have key:∃ k,13≤ev * k∧ev * k≤12+ev:=by
    refine ⟨(12+ev) / ev,?_,Nat.mul_div_le _ _⟩
    have:=Nat.lt_mul_div_succ (12+ev) h0
    rw [Nat.mul_succ] at this
    omega
  obtain ⟨k,k1,k2⟩:=key
  have e1:ev * (k+1)=ev * k+ev:=Nat.mul_succ _ _
  have e2:ev * (k+1+1)=ev * (k+1)+ev:=Nat.mul_succ _ _
  have G:LW.Raise (fun t=>((t / ev:Nat):Int)) (k:Int) (ev * k):=⟨fun u hu=>Int.ofNat_le.mpr ((Nat.le_div_iff_mul_le h0).mpr (by rw [Nat.mul_comm]; exact hu)),fun u hu=>Int.ofNat_lt.mpr ((Nat.div_lt_iff_lt_mul h0).mpr (by rw [Nat.mul_comm]; exact hu))⟩
  have hw:∀ u,ev * (k+1)≤u→u<ev * (k+1+1)→((u / ev:Nat):Int)=((k+1:Nat):Int):=fun u h1 h2=>by rw [div_of h0 h1 h2]
  have hne:¬ ((d:Int)=(hs t i).me):=by rw [S.hme ht hi]; omega
  have Z:=(S.run hd).least k1 G (LW.dist S.ln hS hC hd) hd (g':=((k+1:Nat):Int)) (Ta:=ev * (k+1)) (Tb:=ev * (k+1+1)) (by omega) hw (Int.ofNat_le.mpr (by omega)) (by omega) ht (by omega) hi hid
  rcases Z with ⟨z1,z2⟩|⟨y,γ,b,l,x,z1,z2,z3,z4,z5,z6⟩
  · rw [if_pos hi] at z1
    have hw:wayOf (hs t i) (d:Int)=none:=by
      unfold wayD at z2
      cases hw:wayOf (hs t i) (d:Int) with
      | none=>rfl
      | some w=>rw [hw] at z2; cases z2
    refine ⟨?_,fun _=>?_,fun _ y hy=>?_⟩
    · unfold priceOf
      rw [if_neg hne,hw,z1]
      rfl
    · unfold nextOf
      rw [hw]
      rfl
    · rw [z1] at hy
      cases hy
  · rw [if_pos hi] at z1
    rw [if_pos z3] at z5
    unfold wayD at z2
    cases hw:wayOf (hs t i) (d:Int) with
    | none=>rw [hw] at z2; cases z2
    | some w=>
      rw [hw] at z2
      have hp:w.2.1=y∧w.2.2.toNat=b:=by
        cases z2
        exact ⟨rfl,rfl⟩
      have hn:=S.wn t i _ w ht hi hw
      refine ⟨?_,fun h=>?_,fun _ y' hy=>?_⟩
      · unfold priceOf
        rw [if_neg hne,hw,z1,← hp.1]
        rfl
      · rcases h with h|h
        · exact absurd h hid
        · rw [z1] at h
          cases h
      · rw [z1] at hy
        cases hy
        refine ⟨b,l,x,?_,z3,fun z=>(S.ln.rng i b l z4).2.2 z.symm,z4,z5,z6⟩
        unfold nextOf
        rw [hw,← hp.2]
        change some w.2.2=_
        rw [Int.toNat_of_nonneg hn]
end
end K15
namespace K15
open PySem L2
structure Rws (st:WSt) (rows:List Rw):Prop where
  ex:∃ gs:List Int,rows=gs.map (rowOf st)∧gs.Nodup∧∀ g,g∈gs↔g=st.me∨st.mar g≠none
def repo (st:WSt) (g:Int):Option Rp:=if g=st.me∨st.mar g≠none then some (genOf st g,priceOf st g) else none
theorem rp_hear1 {me nb:Int} {rep:Int→Option (Int→Option Rp)} {r:Rw} (g m:Int):((hear1 me nb rep r) g).bind (· m)=if r.1≠me∧g=r.1∧m=nb then some r.2 else (rep g).bind (· m):=by
  unfold hear1
  by_cases h1:r.1=me
  · rw [if_pos h1,if_neg (fun z=>z.1 h1)]
  · rw [if_neg h1]
    by_cases h2:g=r.1
    · rw [if_pos h2]
      change (if m=nb then some (r.2.1,r.2.2) else ((rep r.1).getD fun _=>none) m)=_
      by_cases h3:m=nb
      · rw [if_pos h3,if_pos ⟨h1,h2,h3⟩]
      · rw [if_neg h3,if_neg (fun z=>h3 z.2.2),h2]
        cases rep r.1 <;> rfl
    · rw [if_neg h2,if_neg (fun z=>h2 z.2.1)]
theorem rp_hears {me nb:Int} {st:WSt} (g m:Int):∀ (gs:List Int) (rep:Int→Option (Int→Option Rp)),(((gs.map (rowOf st)).foldl (hear1 me nb) rep) g).bind (· m)=if g≠me∧m=nb∧g∈gs then some (genOf st g,priceOf st g) else (rep g).bind (· m)
  | [],rep=>by rw [if_neg (fun z=>nomatch z.2.2)]; rfl
  | a::gs,rep=>by
    rw [mZ1,List.foldl_cons,rp_hears g m gs,rp_hear1]
    change _=if g≠me∧m=nb∧g∈a::gs then _ else _
    by_cases h:g≠me∧m=nb∧g∈gs
    · rw [if_pos h,if_pos ⟨h.1,h.2.1,.tail _ h.2.2⟩]
    · rw [if_neg h]
      change (if a≠me∧g=a∧m=nb then some (genOf st a,priceOf st a) else _)=_
      by_cases h2:a≠me∧g=a∧m=nb
      · obtain ⟨h3,h4,h5⟩:=h2
        subst h4
        rw [if_pos ⟨h3,rfl,h5⟩,if_pos ⟨h3,h5,.head _⟩]
      · rw [if_neg h2,if_neg]
        rintro ⟨z1,z2,z3⟩
        rcases List.mem_cons.mp z3 with rfl|z3
        · exact h2 ⟨z1,rfl,z2⟩
        · exact h ⟨z1,z2,z3⟩
theorem rp_hearS {st s':WSt} {nb:Int} {rows:List Rw} (R:Rws s' rows) {g:Int} (hg:g≠st.me) (m:Int):rp (hearS st nb rows) g m=if m=nb∧(g=s'.me∨s'.mar g≠none) then some (genOf s' g,priceOf s' g) else rp st g m:=by
  obtain ⟨gs,rfl,_,hm⟩:=R.ex
  unfold rp hearS
  rw [rp_hears]
  by_cases h:m=nb∧g∈gs
  · rw [if_pos ⟨hg,h.1,h.2⟩,if_pos ⟨h.1,(hm g).mp h.2⟩]
  · rw [if_neg (fun z=>h z.2),if_neg (fun z=>h ⟨z.1,(hm g).mpr z.2⟩)]
structure Hrd (n:Nat) (hs:Nat→Nat→WSt) (sta:Nat→Nat→Option Nat) (cur:Nat→WSt):Prop where
  me:∀ b,b<n→(cur b).me=(b:Int)
  at_:∀ (a b:Nat) (g:Int),a<n→b<n→a≠b→g≠(b:Int)→rp (cur b) g (a:Int)=(sta a b).bind fun s=>repo (hs s a) g
  only:∀ (b:Nat) (g nb:Int),b<n→g≠(b:Int)→rp (cur b) g nb≠none→∃ a:Nat,nb=(a:Int)∧a<n∧a≠b
def setS (sta:Nat→Nat→Option Nat) (a b s:Nat):Nat→Nat→Option Nat:=fun x y=>if x=a∧y=b then some s else sta x y
def setC (cur:Nat→WSt) (b:Nat) (st:WSt):Nat→WSt:=fun x=>if x=b then st else cur x
theorem Hrd.hear {n:Nat} {hs:Nat→Nat→WSt} {sta:Nat→Nat→Option Nat} {cur:Nat→WSt} (X:Hrd n hs sta cur) {a b s:Nat} {rows:List Rw} (ha:a<n) (hb:b<n) (hab:a≠b) (R:Rws (hs s a) rows) (hme:∀ u,(hs u a).me=(a:Int)) (hup:∀ s0 g,sta a b=some s0→(hs s0 a).mar g≠none→(hs s a).mar g≠none) :
    Hrd n hs (setS sta a b s) (setC cur b (hearS (cur b) (a:Int) rows)):=by
  refine ⟨fun y hy=>?_,fun x y g hx hy hxy hg=>?_,fun y g nb hy hg h=>?_⟩
  · unfold setC
    by_cases e:y=b
    · subst e; rw [if_pos rfl]; exact X.me y hy
    · rw [if_neg e]; exact X.me y hy
  · unfold setC setS
    by_cases e:y=b
    · subst e
      rw [if_pos rfl,rp_hearS R (by rw [X.me y hy]; exact hg)]
      by_cases e2:x=a
      · subst e2
        rw [if_pos (show x=x∧y=y from ⟨rfl,rfl⟩)]
        change _=repo (hs s x) g
        unfold repo
        by_cases h:g=(hs s x).me∨(hs s x).mar g≠none
        · rw [if_pos ⟨rfl,h⟩,if_pos h]
        · rw [if_neg (fun z=>h z.2),if_neg h,X.at_ x y g hx hy hxy hg]
          cases hst:sta x y with
          | none=>rfl
          | some s0=>
            change repo (hs s0 x) g=none
            unfold repo
            rw [if_neg]
            rintro (z|z)
            · exact h (.inl (by rw [z,hme s0,hme s]))
            · exact h (.inr (hup s0 g hst z))
      · rw [if_neg (fun z=>e2 (by have:=z.1; omega)),if_neg (fun z=>e2 z.1)]
        exact X.at_ x y g hx hy hxy hg
    · rw [if_neg e,if_neg (fun z=>e z.2)]
      exact X.at_ x y g hx hy hxy hg
  · unfold setC at h
    by_cases e:y=b
    · subst e
      rw [if_pos rfl,rp_hearS R (by rw [X.me y hy]; exact hg)] at h
      by_cases e2:nb=(a:Int)∧(g=(hs s a).me∨(hs s a).mar g≠none)
      · exact ⟨a,e2.1,ha,hab⟩
      · rw [if_neg e2] at h
        exact X.only y g nb hy hg h
    · rw [if_neg e] at h
      exact X.only y g nb hy hg h
theorem Hrd.same {n:Nat} {hs:Nat→Nat→WSt} {sta:Nat→Nat→Option Nat} {cur cur':Nat→WSt} (X:Hrd n hs sta cur) (h:∀ b,b<n→(cur' b).me=(cur b).me∧(cur' b).rep=(cur b).rep):Hrd n hs sta cur':=by
  have e:∀ b g nb,b<n→rp (cur' b) g nb=rp (cur b) g nb:=fun b g nb hb=>by unfold rp; rw [(h b hb).2]
  exact ⟨fun b hb=>by rw [(h b hb).1]; exact X.me b hb,fun a b g ha hb hab hg=>by rw [e b g _ hb]; exact X.at_ a b g ha hb hab hg,fun b g nb hb hg z=>X.only b g nb hb hg (by rw [← e b g nb hb]; exact z)⟩
end K15
namespace K15
open PySem L2
abbrev Ltr:=Nat × Nat × Nat × List Rw
structure LtOk (n u:Nat) (hs:Nat→Nat→WSt) (l:Ltr):Prop where
  a:l.1<n
  b:l.2.1<n
  ab:l.1≠l.2.1
  s:l.2.2.1<u
  u:u≤l.2.2.1+2
  r:Rws (hs l.2.2.1 l.1) l.2.2.2
structure Fly (n t T:Nat) (hs:Nat→Nat→WSt) (ln lo:Nat→Nat→Nat→Prop) (P:Nat→Nat→Prop) (lt:Nat→List Ltr) (sta:Nat→Nat→Option Nat):Prop where
  ok:∀ u l,l∈lt u→LtOk n u hs l
  old:∀ u l,l∈lt u→l.2.2.1≤T
  del:∀ s a b,(s<T∨(s=T∧P a b))→a<n→b<n→a≠b→ln s a b→lo s a b∨(∃ s',sta a b=some s'∧s≤s')∨∃ u rows,t≤u∧u≤s+2∧(a,b,s,rows)∈lt u
  sn:∀ a b s,sta a b=some s→s<t
  two:∀ s a b,s+1<T→lo s a b→lo (s+1) a b→False
section
variable {n t:Nat} {hs:Nat→Nat→WSt} {ln lo:Nat→Nat→Nat→Prop} {P:Nat→Nat→Prop} {lt:Nat→List Ltr} {sta:Nat→Nat→Option Nat}
theorem fly0:Fly n 0 0 hs ln lo (fun _ _=>False) (fun _=>[]) (fun _ _=>none):=by
  refine ⟨fun _ _ h=>?_,fun _ _ h=>?_,fun s a b h=>?_,fun _ _ _ h=>?_,fun s _ _ h=>?_⟩
  · cases h
  · cases h
  · rcases h with h|⟨_,h⟩
    · omega
    · exact h.elim
  · cases h
  · omega
structure Com (n t:Nat) (hs:Nat→Nat→WSt) (ls:List Ltr) (sta0 sta:Nat→Nat→Option Nat) (cur0 cur:Nat→WSt) (k:Nat):Prop where
  X:Hrd n hs sta cur
  up:∀ a b s,sta0 a b=some s→∃ s',sta a b=some s'∧s≤s'
  dn:∀ j l,j<k→ls[j]?=some l→∃ s',sta l.1 l.2.1=some s'∧l.2.2.1≤s'
  sn:∀ a b s,sta a b=some s→s<t
  kp:∀ i,i<n→(cur i).me=(cur0 i).me∧(cur i).own=(cur0 i).own∧(cur i).lp=(cur0 i).lp∧(cur i).mar=(cur0 i).mar∧(cur i).wy=(cur0 i).wy
variable {ls:List Ltr} {sta0:Nat→Nat→Option Nat} {cur0 cur:Nat→WSt} {k:Nat}
theorem Com.start (X:Hrd n hs sta cur) (sn:∀ a b s,sta a b=some s→s<t):Com n t hs ls sta sta cur cur 0:=
  ⟨X,fun _ _ s h=>⟨s,h,Nat.le_refl _⟩,fun _ _ h=>by omega,sn,fun _ _=>⟨rfl,rfl,rfl,rfl,rfl⟩⟩
theorem Com.skip (C:Com n t hs ls sta0 sta cur0 cur k) {l:Ltr} (hl:ls[k]?=some l) {s0:Nat} (h:sta l.1 l.2.1=some s0) (hs0:l.2.2.1≤s0):Com n t hs ls sta0 sta cur0 cur (k+1):=
  ⟨C.X,C.up,fun j l' hj e=>by
    by_cases h2:j<k
    · exact C.dn j l' h2 e
    · have:j=k:=by omega
      subst this
      rw [hl] at e
      cases e
      exact ⟨s0,h,hs0⟩,C.sn,C.kp⟩
theorem Com.hear (C:Com n t hs ls sta0 sta cur0 cur k) {l:Ltr} (hl:ls[k]?=some l) (O:LtOk n t hs l) (hnew:∀ s0,sta l.1 l.2.1=some s0→s0<l.2.2.1) (hme:∀ u,(hs u l.1).me=(l.1:Int)) (hup:∀ s0 s1 g,s0≤s1→s1<t→(hs s0 l.1).mar g≠none→(hs s1 l.1).mar g≠none) :
    Com n t hs ls sta0 (setS sta l.1 l.2.1 l.2.2.1) cur0 (setC cur l.2.1 (hearS (cur l.2.1) (l.1:Int) l.2.2.2)) (k+1):=by
  have st':∀ a b s,sta a b=some s→∃ s',setS sta l.1 l.2.1 l.2.2.1 a b=some s'∧s≤s':=fun a b s h=>by
    unfold setS
    by_cases e:a=l.1∧b=l.2.1
    · obtain ⟨rfl,rfl⟩:=e
      exact ⟨_,if_pos ⟨rfl,rfl⟩,Nat.le_of_lt (hnew s h)⟩
    · exact ⟨s,by rw [if_neg e]; exact h,Nat.le_refl _⟩
  refine ⟨C.X.hear O.a O.b O.ab O.r hme (fun s0 g h z=>hup s0 _ g (Nat.le_of_lt (hnew s0 h)) O.s z),fun a b s h=>?_,fun j l' hj e=>?_,fun a b s h=>?_,fun i hi=>?_⟩
  · obtain ⟨s1,h1,h2⟩:=C.up a b s h
    obtain ⟨s2,h3,h4⟩:=st' a b s1 h1
    exact ⟨s2,h3,by omega⟩
  · by_cases h2:j<k
    · obtain ⟨s1,h1,h3⟩:=C.dn j l' h2 e
      obtain ⟨s2,h4,h5⟩:=st' _ _ s1 h1
      exact ⟨s2,h4,by omega⟩
    · have:j=k:=by omega
      subst this
      rw [hl] at e
      cases e
      exact ⟨_,by unfold setS; exact if_pos ⟨rfl,rfl⟩,Nat.le_refl _⟩
  · unfold setS at h
    by_cases e:a=l.1∧b=l.2.1
    · rw [if_pos e] at h
      cases h
      exact O.s
    · rw [if_neg e] at h
      exact C.sn a b s h
  · unfold setC
    by_cases e:i=l.2.1
    · subst e
      rw [if_pos rfl]
      exact C.kp _ hi
    · rw [if_neg e]
      exact C.kp i hi
def popL (lt:Nat→List Ltr) (t:Nat):Nat→List Ltr:=fun u=>if u=t then [] else lt u
theorem Fly.come (F:Fly n t t hs ln lo (fun _ _=>False) lt sta0) (C:Com n t hs (lt t) sta0 sta cur0 cur (lt t).length) :
    Fly n (t+1) t hs ln lo (fun _ _=>False) (popL lt t) sta:=by
  have sub:∀ u l,l∈popL lt t u→l∈lt u∧u≠t:=fun u l h=>by
    unfold popL at h
    by_cases e:u=t
    · rw [if_pos e] at h; cases h
    · rw [if_neg e] at h; exact ⟨h,e⟩
  refine ⟨fun u l h=>F.ok u l (sub u l h).1,fun u l h=>F.old u l (sub u l h).1,fun s a b h ha hb hab hl=>?_,fun a b s h=>Nat.lt_succ_of_lt (C.sn a b s h),F.two⟩
  rcases F.del s a b h ha hb hab hl with z|⟨s',z1,z2⟩|⟨u,rows,z1,z2,z3⟩
  · exact .inl z
  · obtain ⟨s2,h1,h2⟩:=C.up a b s' z1
    exact .inr (.inl ⟨s2,h1,by omega⟩)
  · by_cases e:u=t
    · subst e
      obtain ⟨j,hj,ej⟩:=List.mem_iff_getElem.mp z3
      obtain ⟨s',h1,h2⟩:=C.dn j (a,b,s,rows) hj (by rw [List.getElem?_eq_getElem hj,ej])
      exact .inr (.inl ⟨s',h1,h2⟩)
    · refine .inr (.inr ⟨u,rows,by omega,z2,?_⟩)
      unfold popL
      rw [if_neg e]
      exact z3
theorem Fly.stale (F:Fly n (t+1) t hs ln lo (fun _ _=>False) lt sta) {a b:Nat} (h3:3≤t) (ha:a<n) (hb:b<n) (hab:a≠b) (h1:ln (t - 2) a b) (h2:ln (t - 3) a b) (hsn:∀ s,sta a b=some s→s<t):∃ s,sta a b=some s∧s<t∧t≤s+3:=by
  rcases F.del (t - 2) a b (.inl (by omega)) ha hb hab h1 with z|⟨s',z1,z2⟩|⟨u,rows,z1,z2,z3⟩
  · rcases F.del (t - 3) a b (.inl (by omega)) ha hb hab h2 with y|⟨s',y1,y2⟩|⟨u,rows,y1,y2,y3⟩
    · exact (F.two (t - 3) a b (by omega) y (by rw [show t - 3+1=t - 2 by omega]; exact z)).elim
    · exact ⟨s',y1,hsn s' y1,by omega⟩
    · omega
  · exact ⟨s',z1,hsn s' z1,by omega⟩
  · omega
def addL (lt:Nat→List Ltr) (u:Nat) (l:Ltr):Nat→List Ltr:=fun v=>if v=u then lt v++[l] else lt v
theorem mem_add {u v:Nat} {l l':Ltr}:l'∈addL lt u l v↔l'∈lt v∨(v=u∧l'=l):=by
  unfold addL
  by_cases e:v=u
  · rw [if_pos e,List.mem_append,List.mem_singleton]
    exact ⟨fun h=>h.imp id fun z=>⟨e,z⟩,fun h=>h.imp id fun z=>z.2⟩
  · rw [if_neg e]
    exact ⟨.inl,fun h=>h.elim id fun z=>absurd z.1 e⟩
theorem Fly.lay (F:Fly n (t+1) t hs ln lo P lt sta) {u a b:Nat} {rows:List Rw} (hu:u=t+1∨u=t+2) (ha:a<n) (hb:b<n) (hab:a≠b) (R:Rws (hs t a) rows):Fly n (t+1) t hs ln lo (fun x y=>P x y∨(x=a∧y=b)) (addL lt u (a,b,t,rows)) sta:=by
  refine ⟨fun v l h=>?_,fun v l h=>?_,fun s x y h hx hy hxy hl=>?_,F.sn,F.two⟩
  · rcases mem_add.mp h with z|⟨rfl,rfl⟩
    · exact F.ok v l z
    · exact ⟨ha,hb,hab,by dsimp only; omega,by dsimp only; omega,R⟩
  · rcases mem_add.mp h with z|⟨rfl,rfl⟩
    · exact F.old v l z
    · exact Nat.le_refl _
  · have new:s=t→x=a→y=b→∃ v rows',t+1≤v∧v≤s+2∧(x,y,s,rows')∈addL lt u (a,b,t,rows) v:=by
      rintro rfl rfl rfl
      exact ⟨u,rows,by omega,by omega,mem_add.mpr (.inr ⟨rfl,rfl⟩)⟩
    have oldc:(s<t∨(s=t∧P x y))→lo s x y∨(∃ s',sta x y=some s'∧s≤s')∨∃ v rows',t+1≤v∧v≤s+2∧(x,y,s,rows')∈addL lt u (a,b,t,rows) v:=fun z=>by
      rcases F.del s x y z hx hy hxy hl with w|w|⟨v,r',w1,w2,w3⟩
      · exact .inl w
      · exact .inr (.inl w)
      · exact .inr (.inr ⟨v,r',w1,w2,mem_add.mpr (.inl w3)⟩)
    rcases h with h|⟨h,h'|⟨h1,h2⟩⟩
    · exact oldc (.inl h)
    · exact oldc (.inr ⟨h,h'⟩)
    · exact .inr (.inr (new h h1 h2))
theorem Fly.none (F:Fly n (t+1) t hs ln lo P lt sta) {a b:Nat} (h:ln t a b→lo t a b):Fly n (t+1) t hs ln lo (fun x y=>P x y∨(x=a∧y=b)) lt sta:=
  ⟨F.ok,F.old,fun s x y h' hx hy hxy hl=>by
    rcases h' with h'|⟨rfl,h'|⟨rfl,rfl⟩⟩
    · exact F.del s x y (.inl h') hx hy hxy hl
    · exact F.del s x y (.inr ⟨rfl,h'⟩) hx hy hxy hl
    · exact .inl (h hl),F.sn,F.two⟩
theorem Fly.next (F:Fly n (t+1) t hs ln lo P lt sta) (hP:∀ a b,a<n→b<n→a≠b→P a b) (h2:∀ s a b,s+1=t→lo s a b→lo t a b→False):Fly n (t+1) (t+1) hs ln lo (fun _ _=>False) lt sta:=
  ⟨F.ok,fun u l h=>Nat.le_succ_of_le (F.old u l h),fun s a b h ha hb hab hl=>by
    rcases h with h|⟨_,h⟩
    · by_cases e:s<t
      · exact F.del s a b (.inl e) ha hb hab hl
      · exact F.del s a b (.inr ⟨by omega,hP a b ha hb hab⟩) ha hb hab hl
    · exact h.elim,F.sn,fun s a b h z1 z2=>by
    by_cases e:s+1<t
    · exact F.two s a b e z1 z2
    · have:s+1=t:=by omega
      exact h2 s a b this z1 (by rw [← this]; exact z2)⟩
end
end K15
namespace K15
open PySem L2
def ext {α:Type} (f:Nat→α) (t:Nat) (x:α):Nat→α:=fun u=>if u=t then x else f u
theorem ext_lt {α:Type} {f:Nat→α} {t u:Nat} {x:α} (h:u<t):ext f t x u=f u:=if_neg (by omega)
theorem ext_at {α:Type} {f:Nat→α} {t:Nat} {x:α}:ext f t x t=x:=if_pos rfl
section
variable {n ev t:Nat} {c:Nat→Nat→Option Int} {σ:Nat→Nat→Nat→Option Nat} {hs ps:Nat→Nat→WSt}
theorem sys0 (h:0<ev) (ln:LW.Lines n c):Sys n ev 0 c σ hs ps where
  ev0:=h
  me:=fun t _ h=>by omega
  own:=fun t _ h=>by omega
  stl:=fun t _ h=>by omega
  m0:=fun _ h=>by omega
  pm:=fun t _ h=>by omega
  ms:=fun t _ h=>by omega
  rm:=fun t _ h=>by omega
  rep:=fun t _ _ _ _ h=>by omega
  rep':=fun t _ _ _ _ h=>by omega
  lp:=fun t _ _ _ h=>by omega
  lpc:=fun t _ _ _ h=>by omega
  ln:=ln
  sl:=fun t _ _ _ _ h=>by omega
  past:=fun t _ _ _ h=>by omega
  wn:=fun t _ _ _ h=>by omega
  sm:=fun t _ _ _ h=>by omega
structure Turn (n ev t:Nat) (c:Nat→Nat→Option Int) (σ:Nat→Nat→Nat→Option Nat) (hs:Nat→Nat→WSt) (sta:Nat→Nat→Option Nat) (pst hst:Nat→WSt):Prop where
  X:Hrd n hs sta pst
  sn:∀ a b s,sta a b=some s→s<t
  own:∀ i,i<n→(hst i).own=((t / ev:Nat):Int)
  stl:∀ i,i<n→Stl (pst i) (hst i)
  m0:t=0→∀ i,i<n→∀ g,(pst i).mar g=none
  pm:∀ u,u+1=t→∀ i,i<n→∀ g,(pst i).mar g=(hs u i).mar g
  ms:∀ i,i<n→∀ g,(pst i).rep g=none→(pst i).mar g=none∧(pst i).wy g=none
  rm:∀ i,i<n→(pst i).rep (i:Int)=none
  lp:∀ i nb l,i<n→(pst i).lp nb=some (some l)→1≤l
  lpc:∀ i (b:Nat),13≤t→i<n→b<n→b≠i→(pst i).lp (b:Int)=some (c i b)
  sl:∀ i b l,13≤t→c i b=some l→∃ s,sta b i=some s∧s<t∧t≤s+3
  wn:∀ i g w,i<n→wayOf (hst i) g=some w→0≤w.2.2
  sm:∀ u,u+1=t→∀ i b s,σ u i b=some s→∃ s',sta b i=some s'∧s≤s'
theorem Sys.ext (S:Sys n ev t c σ hs ps) {sta:Nat→Nat→Option Nat} {pst hst:Nat→WSt} (T:Turn n ev t c σ hs sta pst hst) :
    Sys n ev (t+1) c (K15.ext σ t fun i b=>sta b i) (K15.ext hs t hst) (K15.ext ps t pst):=by
  have cs:∀ {u:Nat},u<t+1→u<t∨u=t:=fun h=>by omega
  refine ⟨S.ev0,fun u i hu hi=>?_,fun u i hu hi=>?_,fun u i hu hi=>?_,fun i h0 hi g=>?_,fun u i hu hi g=>?_,fun u i hu hi=>?_,fun u i hu hi=>?_,fun u i d nb x hu hi hd hdi e=>?_,fun u i d b s hu hi hd hdi hb hbi e h=>?_,fun u i nb l hu hi e=>?_,fun u i b h13 hu hi hb hbi=>?_,S.ln,fun u i b l h13 hu e=>?_,fun u i b s hu e=>?_,fun u i g w hu hi e=>?_,fun u i b s hu e=>?_⟩
  · rcases cs hu with h|rfl
    · rw [ext_lt h]; exact S.me u i h hi
    · rw [ext_at]; exact T.X.me i hi
  · rcases cs hu with h|rfl
    · rw [ext_lt h]; exact S.own u i h hi
    · rw [ext_at]; exact T.own i hi
  · rcases cs hu with h|rfl
    · rw [ext_lt h,ext_lt h]; exact S.stl u i h hi
    · rw [ext_at,ext_at]; exact T.stl i hi
  · rcases cs h0 with h|h
    · rw [ext_lt h]; exact S.m0 i h hi g
    · subst h; rw [ext_at]; exact T.m0 rfl i hi g
  · rcases cs hu with h|h
    · rw [ext_lt h,ext_lt (by omega)]; exact S.pm u i h hi g
    · rw [h,ext_at,ext_lt (by omega)]; exact T.pm u h i hi g
  · rcases cs hu with h|rfl
    · rw [ext_lt h]; exact S.ms u i h hi
    · rw [ext_at]; exact T.ms i hi
  · rcases cs hu with h|rfl
    · rw [ext_lt h]; exact S.rm u i h hi
    · rw [ext_at]; exact T.rm i hi
  · rcases cs hu with h|rfl
    · rw [ext_lt h] at e
      obtain ⟨b,s,e1,e2,e3,e4,e5,e6⟩:=S.rep u i d nb x h hi hd hdi e
      exact ⟨b,s,e1,e2,e3,by rw [ext_lt h]; exact e4,e5,by rw [ext_lt (by omega)]; exact e6⟩
    · rw [ext_at] at e
      obtain ⟨b,rfl,hb,hbi⟩:=T.X.only i (d:Int) nb hi (by omega) (by rw [e]; exact fun z=>nomatch z)
      rw [T.X.at_ b i _ hb hi hbi (by omega)] at e
      cases hs':sta b i with
      | none=>rw [hs'] at e; cases e
      | some s=>
        rw [hs'] at e
        have e:repo (hs s b) (d:Int)=some x:=e
        have hst:=T.sn b i s hs'
        refine ⟨b,s,rfl,hb,hbi,by rw [ext_at]; exact hs',hst,?_⟩
        rw [ext_lt hst]
        unfold repo at e
        split at e
        · exact (Option.some.inj e).symm
        · cases e
  · rcases cs hu with h'|rfl
    · rw [ext_lt h'] at e
      have hsu:s<u:=S.past u i b s h' e
      have es:K15.ext hs t hst s=hs s:=ext_lt (by omega)
      rw [es] at h ⊢
      rw [ext_lt h']
      exact S.rep' u i d b s h' hi hd hdi hb hbi e h
    · rw [ext_at] at e
      have hst:=T.sn b i s e
      rw [ext_lt hst] at h ⊢
      rw [ext_at,T.X.at_ b i _ hb hi hbi (by omega),e]
      change repo (hs s b) (d:Int)=_
      unfold repo
      rw [if_pos]
      rcases h with h|h
      · exact .inl (by rw [S.hme hst hb,h])
      · exact .inr h
  · rcases cs hu with h|rfl
    · rw [ext_lt h] at e; exact S.lp u i nb l h hi e
    · rw [ext_at] at e; exact T.lp i nb l hi e
  · rcases cs hu with h|rfl
    · rw [ext_lt h]; exact S.lpc u i b h13 h hi hb hbi
    · rw [ext_at]; exact T.lpc i b h13 hi hb hbi
  · rcases cs hu with h|rfl
    · rw [ext_lt h]; exact S.sl u i b l h13 h e
    · rw [ext_at]; exact T.sl i b l h13 e
  · rcases cs hu with h|rfl
    · rw [ext_lt h] at e; exact S.past u i b s h e
    · rw [ext_at] at e; exact T.sn b i s e
  · rcases cs hu with h|rfl
    · rw [ext_lt h] at e; exact S.wn u i g w h hi e
    · rw [ext_at] at e; exact T.wn i g w hi e
  · rcases cs hu with h|h
    · rw [ext_lt (by omega)] at e
      rw [ext_lt h]
      exact S.sm u i b s h e
    · rw [ext_lt (by omega)] at e
      rw [h,ext_at]
      exact T.sm u h i b s e
end
end K15
namespace K15
open PySem L2 PySem.W
abbrev s__law_price:Stmt:=stm 7
theorem sc__law_price:FnScope ["_law_number"] ["_law_number"] (defScope s__law_price):=⟨rfl,rfl,rfl,by decide +kernel,rfl,by decide +kernel,by decide +kernel⟩
abbrev s__law_first_lines:Stmt:=stm 8
theorem sc__law_first_lines:FnScope ["_law_cell","_law_many","_law_found","_law_a","_law_b"] ["_law_cell","_law_many"] (defScope s__law_first_lines):=⟨rfl,rfl,rfl,by decide +kernel,rfl,by decide +kernel,by decide +kernel⟩
section
variable {P:Program} {w:World} {K:PySem.W.Frag} {mg:Str→Option Value} {base:Heap}
def okP (o:Option Int):Prop:=∀ l,o=some l→1≤l∧l≤1000
def sp_lprice:Sp:=fun vs H Q _=>∃ r:Int,vs=[.int r]∧0≤r∧r<2147483648∧∀ (o:Option Int) H',Same H H'→okP o→Q (optV o) H'
theorem own_lprice (D:Def K mg "_law_price" s__law_price):Own P w K mg base 1 "_law_price" ["_law_number"] sp_lprice:=by
  refine D.own sc__law_price (fun _ _ _ _ _ _ us hl=>match us,hl with|[_],_=>rfl) (fun vs H Q E h=>?_) (fun f cdv A outer s H vs Q E hr h=>?_)
  · obtain ⟨r,rfl,_⟩:=h
    rfl
  · obtain ⟨r,rfl,r0,r1,q⟩:=h
    have hu:=hr.units
    have hu1:(A.deeper (PyProof.Rows.envOfC "_law_price" (defScope s__law_price) s.heap.objs.size f cdv)).units+1<cLine:=by omega
    refine ⟨_,(@pss_one _ _ _ (@ps_ret _ _ _ _ (@pe_ix _ _ _ _ _ _ _ (ix_get hu1) (@pe_lst _ _ _ _ (@pa_cX _ _ _ _ _ (@pe_op _ _ _ _ _ _ _ _ op_add (@pe_int _ _ _ _) (@pe_op _ _ _ _ _ _ _ _ op_mod (@pe_op _ _ _ _ _ _ _ _ op_fdiv (@pv _ 0 _ _ (by rfl) (by first|exact Or.inl rfl|exact Or.inr (Or.inl rfl)|exact Or.inr (Or.inr rfl)) (by decide) (by decide)) (@pe_int _ _ _ _)) (@pe_int _ _ _ _))) (@pa_cX _ _ _ _ _ (@pe_op _ _ _ _ _ _ _ _ op_add (@pe_int _ _ _ _) (@pe_op _ _ _ _ _ _ _ _ op_mod (@pe_op _ _ _ _ _ _ _ _ op_fdiv (@pv _ 0 _ _ (by rfl) (by first|exact Or.inl rfl|exact Or.inr (Or.inl rfl)|exact Or.inr (Or.inr rfl)) (by decide) (by decide)) (@pe_int _ _ _ _)) (@pe_int _ _ _ _))) (@pa_cX _ _ _ _ _ (@pe_op _ _ _ _ _ _ _ _ op_add (@pe_int _ _ _ _) (@pe_op _ _ _ _ _ _ _ _ op_mod (@pe_op _ _ _ _ _ _ _ _ op_fdiv (@pv _ 0 _ _ (by rfl) (by first|exact Or.inl rfl|exact Or.inr (Or.inl rfl)|exact Or.inr (Or.inr rfl)) (by decide) (by decide)) (@pe_int _ _ _ _)) (@pe_int _ _ _ _))) (@pa_cX _ _ _ _ _ (@pe_non _ _ _) (@pa_nil _) (by rfl)) (by rfl)) (by rfl)) (by rfl))) (@pe_op _ _ _ _ _ _ _ _ op_mod (@pv _ 0 _ _ (by rfl) (by first|exact Or.inl rfl|exact Or.inr (Or.inl rfl)|exact Or.inr (Or.inr rfl)) (by decide) (by decide)) (@pe_int _ _ _ _)) (fun _ _=>rfl)))),?_⟩
    simp (maxSteps:=1000000) only [rGet,getO_l,Nat.reduceSub,upd_same,Int.reduceLT,Nat.reduceAdd,eZ1,tOp,tVar,tC,rI,rI0,tRet,tCons,tNil,tLst,L2.start,mZ1,mZ0,lZ1,lZ0,List.replicate,gZ0,oZ0,eZ0,V.int.injEq,V.ref.injEq,true_and,aZ0]
    refine ⟨⟨by decide,by decide⟩,⟨by decide,by decide⟩,⟨by decide,by decide⟩,by rw [sizeLine_eq]; omega,?_⟩
    intro p1 n1
    generalize z1:upd H p1 _=H1
    obtain ⟨s1,e1⟩:=new_same z1 n1
    obtain ⟨v,hv,ev⟩:=atI_in (xs:=[V.int (1+r / 4 % 9),V.int (1+r / 4 % 9),V.int (1+r / 4 % 1000),V.non]) (k:=r % 4) (by omega) (by simp only [lZ1,lZ0]; omega)
    refine ⟨v,ev,?_⟩
    have h9:okP (some (1+r / 4 % 9)):=fun l e=>by cases e; omega
    have h1000:okP (some (1+r / 4 % 1000)):=fun l e=>by cases e; omega
    simp only [List.mem_cons,List.not_mem_nil,or_false] at hv
    rcases hv with rfl|rfl|rfl|rfl
    · exact q (some _) H1 s1 h9
    · exact q (some _) H1 s1 h9
    · exact q (some _) H1 s1 h1000
    · exact q none H1 s1 (fun _ e=>nomatch e)
theorem putK_le {α:Type} [DecidableEq α] {kvs:List (α × V)} {k:α} {v:V}:(putK kvs k v).length≤kvs.length+1:=by
  unfold putK
  split
  · rw [List.length_map]; omega
  · rw [List.length_append]; simp
def LnD (H:Hp) (p:Addr) (n i j:Nat) (m:Nat→Nat→Option Int):Prop:=∃ kvs,H p=some (.dT kvs)∧kvs.length≤5 * i+j∧∀ a b:Nat,a<b→b<n→(a<i∨(a=i∧b<j))→valV kvs [Sum.inl (a:Int),Sum.inl (b:Int)]=some (optV (m a b))∧okP (m a b)
def sp_flines:Sp:=fun vs H Q _=>∃ (c:Int) (n:Nat),vs=[.int c,.int (n:Int)]∧2≤n∧n≤4∧∀ p m H',H p=none→Same H H'→LnD H' p n n 0 m→Q (.ref p) H'
def Lfa (c:Int) (n:Nat) (p:Addr) (H:Hp) (i:Nat) (σ:St) (H':Hp):Prop:=∃ v3 v4 m,σ=[some (.int c),some (.int (n:Int)),some (.ref p),v3,v4]∧LnD H' p n i 0 m∧Keep [p] H H'
def Lfb (c:Int) (n:Nat) (p:Addr) (H:Hp) (i:Nat) (j:Nat) (σ:St) (H':Hp):Prop:=∃ v4 m,σ=[some (.int c),some (.int (n:Int)),some (.ref p),some (.int (i:Int)),v4]∧LnD H' p n i (i+1+j) m∧Keep [p] H H'
set_option maxHeartbeats 4000000 in
theorem own_flines (D:Def K mg "_law_first_lines" s__law_first_lines) (hb:Blt mg) (F__law_mixed:Own P w K mg base 1 "_law_mixed" ["_law_cell","_law_k"] sp_mixed) (F__law_price:Own P w K mg base 1 "_law_price" ["_law_number"] sp_lprice):Own P w K mg base 2 "_law_first_lines" ["_law_cell","_law_many"] sp_flines:=by
  refine D.own sc__law_first_lines (fun _ _ _ _ _ _ us hl=>match us,hl with|[_,_],_=>rfl) (fun vs H Q E h=>?_) (fun f cdv A outer s H vs Q E hr h=>?_)
  · obtain ⟨c,n,rfl,_⟩:=h
    rfl
  · obtain ⟨c,n,rfl,n2,n4,q⟩:=h
    have hu:=hr.units
    have hu1:(A.deeper (PyProof.Rows.envOfC "_law_first_lines" (defScope s__law_first_lines) s.heap.objs.size f cdv)).units+1<cLine:=by omega
    refine ⟨_,(@pss_cons _ _ _ _ _ (@ps_set _ _ 2 _ _ _ _ sc__law_first_lines.nd rfl (by first|exact Or.inl rfl|exact Or.inr rfl) (@pe_dnewT _ _) (by rfl) (by first|exact .inl rfl|exact .inr rfl|assumption)) (@pss_cons _ _ _ _ _ (@ps_for _ _ _ _ _ _ _ _ PassesOwn.never rfl (@pi_range1 _ _ _ _ _ _ rfl (hb _ (by decide)) (@pa_cX _ _ _ _ _ (@pv _ 1 _ _ (by rfl) (by first|exact Or.inl rfl|exact Or.inr (Or.inl rfl)|exact Or.inr (Or.inr rfl)) (by decide) (by decide)) (@pa_nil _) (by rfl)) (by rfl)) (@pg_name _ _ 3 _ sc__law_first_lines.nd rfl (by first|exact Or.inl rfl|exact Or.inr rfl) (by first|exact .inl rfl|exact .inr rfl|assumption)) (@pss_one _ _ _ (@ps_for _ _ _ _ _ _ _ _ PassesOwn.never rfl (@pi_range2 _ _ _ _ _ _ _ rfl (hb _ (by decide)) (@pa_cX _ _ _ _ _ (@pe_op _ _ _ _ _ _ _ _ op_add (@pv _ 3 _ _ (by rfl) (by first|exact Or.inl rfl|exact Or.inr (Or.inl rfl)|exact Or.inr (Or.inr rfl)) (by decide) (by decide)) (@pe_int _ _ _ _)) (@pa_cX _ _ _ _ _ (@pv _ 1 _ _ (by rfl) (by first|exact Or.inl rfl|exact Or.inr (Or.inl rfl)|exact Or.inr (Or.inr rfl)) (by decide) (by decide)) (@pa_nil _) (by rfl)) (by rfl)) (by rfl) (by rfl)) (@pg_name _ _ 4 _ sc__law_first_lines.nd rfl (by first|exact Or.inl rfl|exact Or.inr rfl) (by first|exact .inl rfl|exact .inr rfl|assumption)) (@pss_one _ _ _ (@ps_dput _ _ _ _ _ _ _ _ _ hu1 (@pv _ 2 _ _ (by rfl) (by first|exact Or.inl rfl|exact Or.inr (Or.inl rfl)|exact Or.inr (Or.inr rfl)) (by decide) (by decide)) (@pe_tup _ _ _ _ _ (@pa_cX _ _ _ _ _ (@pv _ 3 _ _ (by rfl) (by first|exact Or.inl rfl|exact Or.inr (Or.inl rfl)|exact Or.inr (Or.inr rfl)) (by decide) (by decide)) (@pa_cX _ _ _ _ _ (@pv _ 4 _ _ (by rfl) (by first|exact Or.inl rfl|exact Or.inr (Or.inl rfl)|exact Or.inr (Or.inr rfl)) (by decide) (by decide)) (@pa_nil _) (by rfl)) (by rfl))) (@pe_fn _ _ _ _ _ _ _ _ _ _ _ F__law_price hr (@pa_cX _ _ _ _ _ (@pe_fn _ _ _ _ _ _ _ _ _ _ _ F__law_mixed hr (@pa_cX _ _ _ _ _ (@pv _ 0 _ _ (by rfl) (by first|exact Or.inl rfl|exact Or.inr (Or.inl rfl)|exact Or.inr (Or.inr rfl)) (by decide) (by decide)) (@pa_cX _ _ _ _ _ (@pe_op _ _ _ _ _ _ _ _ op_add (@pe_op _ _ _ _ _ _ _ _ op_mul (@pe_int _ _ _ _) (@pv _ 3 _ _ (by rfl) (by first|exact Or.inl rfl|exact Or.inr (Or.inl rfl)|exact Or.inr (Or.inr rfl)) (by decide) (by decide))) (@pv _ 4 _ _ (by rfl) (by first|exact Or.inl rfl|exact Or.inr (Or.inl rfl)|exact Or.inr (Or.inr rfl)) (by decide) (by decide))) (@pa_nil _) (by rfl)) (by rfl)) (by decide) (by rfl) (by decide) (by rfl) (by rfl)) (@pa_nil _) (by rfl)) (by decide) (by rfl) (by decide) (by rfl) (by rfl)) rfl)) (by intro _; rfl))) (by intro _; rfl)) (@pss_one _ _ _ (@ps_ret _ _ _ _ (@pv _ 2 _ _ (by rfl) (by first|exact Or.inl rfl|exact Or.inr (Or.inl rfl)|exact Or.inr (Or.inr rfl)) (by decide) (by decide)))))),?_⟩
    simp (maxSteps:=1000000) only [tFor_eq,Nat.reduceSub,Nat.reduceAdd,iRng1,cZ0,tSeq,tVar,tAsg,gName,tCons,tNil,L2.start,mZ1,mZ0,lZ1,lZ0,List.replicate,List.cons_append,List.nil_append,gZ0,gZ1,sZ0,sZ1,oZ0,eZ0,V.int.injEq,and_true,tDNewT]
    intro p1 n1
    generalize z1:upd H p1 _=H1
    obtain ⟨s1,e1⟩:=new_same z1 n1
    refine ⟨by omega,by omega,for_range (n:=((n:Int)).toNat) (Lfa c n p1 H1) ⟨_,_,fun _ _=>none,rfl,⟨[],e1,by simp,fun a b _ _ h=>by omega⟩,.refl⟩ ?_ ?_⟩
    · rintro i σ H2 hi ⟨v3,v4,m,rfl,hL,k2⟩
      simp (maxSteps:=1000000) only [tFor_eq,iRng2,cZ0,eZ1,tOp,tVar,tC,rI0,gName,tCons,tNil,gZ0,gZ1,sZ0,sZ1,oZ0,eZ0,V.int.injEq,and_true,and_assoc,Int.zero_add]
      refine ⟨by omega,by omega,by omega,by omega,for_range (n:=((n:Int) - ((i:Int)+1)).toNat) (Lfb c n p1 H1 i) ⟨_,m,rfl,?_,k2⟩ ?_ ?_⟩
      · obtain ⟨kvs,a1,a2,a3⟩:=hL
        exact ⟨kvs,a1,by omega,fun a b h1 h2 h3=>a3 a b h1 h2 (by omega)⟩
      · rintro j σ H3 hj ⟨v4',m3,rfl,hL3,k3⟩
        simp (maxSteps:=1000000) only [Nat.reduceAdd,sDPut,eZ1,tOp,tVar,tC,rI,rI0,gName,tCall,tCons,tNil,tTup,lZ1,lZ0,gZ0,gZ1,sZ0,sZ1,oZ0,eZ0,V.int.injEq,V.ref.injEq,aZ0,sDPut]
        refine ⟨.inl ⟨by omega,by omega⟩,c,_,rfl,by omega,by omega,fun r r0 r1=>⟨r,rfl,r0,r1,fun o H4 s4 ho=>⟨by rw [sizeLine_eq]; omega,?_⟩⟩⟩
        intro p5 n5
        generalize z5:upd H4 p5 _=H5
        obtain ⟨s5,e5⟩:=new_same z5 n5
        obtain ⟨kvs,a1,a2,a3⟩:=hL3
        have a1':=(s4.trans s5) _ _ a1
        refine ⟨_,DPut.t (k:=[Sum.inl (i:Int),Sum.inl ((i:Int)+1+(j:Int))]) a1' e5 (by rw [sizeLine_eq]; omega),_,fun a b=>if a=i∧b=i+1+j then o else m3 a b,rfl,⟨_,upd_same,Nat.le_trans putK_le (by omega),fun a b h1 h2 h3=>?_⟩,((k3.same s4).same s5).upd (.inl (.head _))⟩
        rw [valV_put]
        dsimp only
        by_cases e:a=i∧b=i+1+j
        · obtain ⟨rfl,rfl⟩:=e
          rw [if_pos (show a=a∧a+1+j=a+1+j from ⟨rfl,rfl⟩)]
          refine ⟨if_pos ?_,ho⟩
          rw [show (((a+1+j:Nat)):Int)=(a:Int)+1+(j:Int) by omega]
        · rw [if_neg e,if_neg]
          · exact a3 a b h1 h2 (by omega)
          · intro z
            injection z with z1 z2
            injection z2 with z2 _
            have y1:=Sum.inl.inj z1
            have y2:=Sum.inl.inj z2
            exact e (by omega)
      · rintro σ H3 ⟨v4',m3,rfl,hL3,k3⟩
        refine ⟨_,_,m3,rfl,?_,k3⟩
        obtain ⟨kvs,a1,a2,a3⟩:=hL3
        exact ⟨kvs,a1,by omega,fun a b h1 h2 h3=>a3 a b h1 h2 (by omega)⟩
    · rintro σ H2 ⟨v3,v4,m,rfl,hL,k2⟩
      simp (maxSteps:=1000000) only [tVar,tRet,gZ0,gZ1,oZ0,eZ0]
      refine q p1 m H2 n1 (fun b o e=>k2 b o (s1 _ _ e) fun z=>?_) ?_
      · rw [List.mem_singleton] at z
        rw [z,n1] at e
        cases e
      · rw [show ((n:Int)).toNat=n from rfl] at hL
        exact hL
end
end K15
namespace K15
open PySem L2 PySem.W
abbrev s__law_least:Stmt:=stm 13
theorem sc__law_least:FnScope ["_law_lines","_law_many","_law_least_here","_law_a","_law_b","_law_m","_law_whole"] ["_law_lines","_law_many"] (defScope s__law_least):=⟨rfl,rfl,rfl,by decide +kernel,rfl,by decide +kernel,by decide +kernel⟩
section
variable {P:Program} {w:World} {K:PySem.W.Frag} {mg:Str→Option Value} {base:Heap}
def cOf (n:Nat) (m:Nat→Nat→Option Int) (i b:Nat):Option Int:=if i<n∧b<n∧i≠b then m (min i b) (max i b) else none
def TbD (H:Hp) (p:Addr) (n:Nat) (D:Nat→Nat→Prop) (L:LW.Tb) (k:Nat):Prop:=∃ kvs,H p=some (.dT kvs)∧kvs.length≤k∧∀ a b:Nat,a<n→b<n→D a b→valV kvs [Sum.inl (a:Int),Sum.inl (b:Int)]=some (optV (L a b))
def sp_lleast:Sp:=fun vs H Q _=>∃ (pl:Addr) (n:Nat) (m:Nat→Nat→Option Int),vs=[.ref pl,.int (n:Int)]∧2≤n∧n≤4∧LnD H pl n n 0 m∧∀ p L H',H p=none→Same H H'→TbD H' p n (fun _ _=>True) L 1000→LW.Snd n (cOf n m) L→LW.Cpl n (cOf n m) n L→Q (.ref p) H'
def sl6 (pl:Addr) (n:Nat) (p:Addr) (v3 v4 v5 v6:Option V):St:=[some (.ref pl),some (.int (n:Int)),some (.ref p),v3,v4,v5,v6]
def Lla (m:Nat→Nat→Option Int) (pl:Addr) (n:Nat) (p:Addr) (H:Hp) (i:Nat) (σ:St) (H':Hp):Prop:=∃ v3 v4 L,σ=sl6 pl n p v3 v4 none none∧TbD H' p n (fun a _=>a<i) L (6 * i)∧(∀ a b,a<i→b<n→L a b=if a=b then some 0 else cOf n m a b)∧Keep [p] H H'
def Llb (m:Nat→Nat→Option Int) (pl:Addr) (n:Nat) (p:Addr) (H:Hp) (i j:Nat) (σ:St) (H':Hp):Prop:=∃ v4 L,σ=sl6 pl n p (some (.int (i:Int))) v4 none none∧TbD H' p n (fun a b=>a<i∨(a=i∧b<j∧a≠b)) L (6 * i+j)∧(∀ a b,(a<i∨(a=i∧b<j∧a≠b))→b<n→L a b=if a=b then some 0 else cOf n m a b)∧Keep [p] H H'
theorem TbD.same {H H':Hp} {p:Addr} {n k:Nat} {D:Nat→Nat→Prop} {L:LW.Tb} (T:TbD H p n D L k) (s:Same H H'):TbD H' p n D L k:=by
  obtain ⟨kvs,a1,a2,a3⟩:=T
  exact ⟨kvs,s _ _ a1,a2,a3⟩
theorem TbD.get {H:Hp} {p t:Addr} {n k a b:Nat} {L:LW.Tb} {o:Option Int} (T:TbD H p n (fun _ _=>True) L k) (ha:a<n) (hb:b<n) (e:H t=some (.tup [.int (a:Int),.int (b:Int)])) (h:L a b=o):DGet H p (.ref t) (some (optV o)):=by
  obtain ⟨kvs,a1,_,a3⟩:=T
  have g:=DGet.t (k:=[Sum.inl (a:Int),Sum.inl (b:Int)]) a1 e
  rw [a3 a b ha hb trivial,h] at g
  exact g
theorem TbD.put {H:Hp} {p t:Addr} {n k i j:Nat} {L:LW.Tb} (T:TbD H p n (fun _ _=>True) L k) (hk:k≤500) (e:H t=some (.tup [.int (i:Int),.int (j:Int)])) (w:Int):∃ H',DPut H p (.ref t) (.int w) H'∧TbD H' p n (fun _ _=>True) (LW.put L i j w) (k+1)∧Keep [p] H H':=by
  obtain ⟨kvs,a1,a2,a3⟩:=T
  refine ⟨_,DPut.t (k:=[Sum.inl (i:Int),Sum.inl (j:Int)]) a1 e (by rw [sizeLine_eq]; omega),⟨_,upd_same,Nat.le_trans putK_le (by omega),fun a b ha hb h=>?_⟩,Keep.refl.upd (.inl (.head _))⟩
  rw [valV_put]
  unfold LW.put
  by_cases e:a=i∧b=j
  · rw [e.1,e.2,if_pos (rfl:[Sum.inl (i:Int),Sum.inl (j:Int)]=[Sum.inl (i:Int),Sum.inl (j:Int)]),if_pos (show i=i∧j=j from ⟨rfl,rfl⟩)]
    rfl
  · rw [if_neg e,if_neg]
    · exact a3 a b ha hb trivial
    · intro z
      injection z with z1 z2
      injection z2 with z2 _
      have y1:=Sum.inl.inj z1
      have y2:=Sum.inl.inj z2
      exact e (by omega)
def sl7 (pl:Addr) (n:Nat) (p:Addr) (v3 v4 v5 v6:Option V):St:=[some (.ref pl),some (.int (n:Int)),some (.ref p),v3,v4,v5,v6]
def Lm (c:Nat→Nat→Option Int) (pl:Addr) (n:Nat) (p:Addr) (H:Hp) (k:Nat) (σ:St) (H':Hp):Prop:=∃ v3 v4 v5 v6 L,σ=sl7 pl n p v3 v4 v5 v6∧TbD H' p n (fun _ _=>True) L (100+16 * k)∧LW.Snd n c L∧LW.Cpl n c k L∧Keep [p] H H'
def La (c:Nat→Nat→Option Int) (pl:Addr) (n:Nat) (p:Addr) (H:Hp) (k i:Nat) (σ:St) (H':Hp):Prop:=∃ v3 v4 v6 L0 L,σ=sl7 pl n p v3 v4 (some (.int (k:Int))) v6∧TbD H' p n (fun _ _=>True) L (100+16 * k+4 * i)∧LW.Ph n c k i 0 L0 L∧Keep [p] H H'
def Lb (c:Nat→Nat→Option Int) (pl:Addr) (n:Nat) (p:Addr) (H:Hp) (k i j:Nat) (σ:St) (H':Hp):Prop:=∃ v4 v6 L0 L,σ=sl7 pl n p (some (.int (i:Int))) v4 (some (.int (k:Int))) v6∧TbD H' p n (fun _ _=>True) L (100+16 * k+4 * i+j)∧LW.Ph n c k i j L0 L∧Keep [p] H H'
set_option maxHeartbeats 4000000 in
theorem own_lleast (D:Def K mg "_law_least" s__law_least) (hb:Blt mg):Own P w K mg base 1 "_law_least" ["_law_lines","_law_many"] sp_lleast:=by
  refine D.own sc__law_least (fun _ _ _ _ _ _ us hl=>match us,hl with|[_,_],_=>rfl) (fun vs H Q E h=>?_) (fun f cdv A outer s H vs Q E hr h=>?_)
  · obtain ⟨pl,n,m,rfl,_⟩:=h
    rfl
  · obtain ⟨pl,n,m,rfl,n2,n4,hL,q⟩:=h
    have hu:=hr.units
    have hu1:(A.deeper (PyProof.Rows.envOfC "_law_least" (defScope s__law_least) s.heap.objs.size f cdv)).units+1<cLine:=by omega
    refine ⟨_,(@pss_cons _ _ _ _ _ (@ps_set _ _ 2 _ _ _ _ sc__law_least.nd rfl (by first|exact Or.inl rfl|exact Or.inr rfl) (@pe_dnewT _ _) (by rfl) (by first|exact .inl rfl|exact .inr rfl|assumption)) (@pss_cons _ _ _ _ _ (@ps_for _ _ _ _ _ _ _ _ PassesOwn.never rfl (@pi_range1 _ _ _ _ _ _ rfl (hb _ (by decide)) (@pa_cX _ _ _ _ _ (@pv _ 1 _ _ (by rfl) (by first|exact Or.inl rfl|exact Or.inr (Or.inl rfl)|exact Or.inr (Or.inr rfl)) (by decide) (by decide)) (@pa_nil _) (by rfl)) (by rfl)) (@pg_name _ _ 3 _ sc__law_least.nd rfl (by first|exact Or.inl rfl|exact Or.inr rfl) (by first|exact .inl rfl|exact .inr rfl|assumption)) (@pss_cons _ _ _ _ _ (@ps_for _ _ _ _ _ _ _ _ PassesOwn.never rfl (@pi_range1 _ _ _ _ _ _ rfl (hb _ (by decide)) (@pa_cX _ _ _ _ _ (@pv _ 1 _ _ (by rfl) (by first|exact Or.inl rfl|exact Or.inr (Or.inl rfl)|exact Or.inr (Or.inr rfl)) (by decide) (by decide)) (@pa_nil _) (by rfl)) (by rfl)) (@pg_name _ _ 4 _ sc__law_least.nd rfl (by first|exact Or.inl rfl|exact Or.inr rfl) (by first|exact .inl rfl|exact .inr rfl|assumption)) (@pss_one _ _ _ (@ps_dput _ _ _ _ _ _ _ _ _ hu1 (@pv _ 2 _ _ (by rfl) (by first|exact Or.inl rfl|exact Or.inr (Or.inl rfl)|exact Or.inr (Or.inr rfl)) (by decide) (by decide)) (@pe_tup _ _ _ _ _ (@pa_cX _ _ _ _ _ (@pv _ 3 _ _ (by rfl) (by first|exact Or.inl rfl|exact Or.inr (Or.inl rfl)|exact Or.inr (Or.inr rfl)) (by decide) (by decide)) (@pa_cX _ _ _ _ _ (@pv _ 4 _ _ (by rfl) (by first|exact Or.inl rfl|exact Or.inr (Or.inl rfl)|exact Or.inr (Or.inr rfl)) (by decide) (by decide)) (@pa_nil _) (by rfl)) (by rfl))) (@pe_dget1 _ _ _ _ _ _ _ hu1 (@pv _ 0 _ _ (by rfl) (by first|exact Or.inl rfl|exact Or.inr (Or.inl rfl)|exact Or.inr (Or.inr rfl)) (by decide) (by decide)) (@pe_tup _ _ _ _ _ (@pa_cX _ _ _ _ _ (@pe_callB _ _ _ _ _ _ _ _ _ (call_min2 rfl) rfl (hb _ (by decide)) bt_min (@pa_cX _ _ _ _ _ (@pv _ 3 _ _ (by rfl) (by first|exact Or.inl rfl|exact Or.inr (Or.inl rfl)|exact Or.inr (Or.inr rfl)) (by decide) (by decide)) (@pa_cX _ _ _ _ _ (@pv _ 4 _ _ (by rfl) (by first|exact Or.inl rfl|exact Or.inr (Or.inl rfl)|exact Or.inr (Or.inr rfl)) (by decide) (by decide)) (@pa_nil _) (by rfl)) (by rfl)) (by decide) (by decide) (by rfl) (by rfl)) (@pa_cX _ _ _ _ _ (@pe_callB _ _ _ _ _ _ _ _ _ (call_max2 rfl) rfl (hb _ (by decide)) bt_max (@pa_cX _ _ _ _ _ (@pv _ 3 _ _ (by rfl) (by first|exact Or.inl rfl|exact Or.inr (Or.inl rfl)|exact Or.inr (Or.inr rfl)) (by decide) (by decide)) (@pa_cX _ _ _ _ _ (@pv _ 4 _ _ (by rfl) (by first|exact Or.inl rfl|exact Or.inr (Or.inl rfl)|exact Or.inr (Or.inr rfl)) (by decide) (by decide)) (@pa_nil _) (by rfl)) (by rfl)) (by decide) (by decide) (by rfl) (by rfl)) (@pa_nil _) (by rfl)) (by rfl))) (by constructor <;> rfl)) rfl)) (by intro _; rfl)) (@pss_one _ _ _ (@ps_dput _ _ _ _ _ _ _ _ _ hu1 (@pv _ 2 _ _ (by rfl) (by first|exact Or.inl rfl|exact Or.inr (Or.inl rfl)|exact Or.inr (Or.inr rfl)) (by decide) (by decide)) (@pe_tup _ _ _ _ _ (@pa_cX _ _ _ _ _ (@pv _ 3 _ _ (by rfl) (by first|exact Or.inl rfl|exact Or.inr (Or.inl rfl)|exact Or.inr (Or.inr rfl)) (by decide) (by decide)) (@pa_cX _ _ _ _ _ (@pv _ 3 _ _ (by rfl) (by first|exact Or.inl rfl|exact Or.inr (Or.inl rfl)|exact Or.inr (Or.inr rfl)) (by decide) (by decide)) (@pa_nil _) (by rfl)) (by rfl))) (@pe_int _ _ _ _) rfl))) (by intro _; rfl)) (@pss_cons _ _ _ _ _ (@ps_for _ _ _ _ _ _ _ _ PassesOwn.never rfl (@pi_range1 _ _ _ _ _ _ rfl (hb _ (by decide)) (@pa_cX _ _ _ _ _ (@pv _ 1 _ _ (by rfl) (by first|exact Or.inl rfl|exact Or.inr (Or.inl rfl)|exact Or.inr (Or.inr rfl)) (by decide) (by decide)) (@pa_nil _) (by rfl)) (by rfl)) (@pg_name _ _ 5 _ sc__law_least.nd rfl (by first|exact Or.inl rfl|exact Or.inr rfl) (by first|exact .inl rfl|exact .inr rfl|assumption)) (@pss_one _ _ _ (@ps_for _ _ _ _ _ _ _ _ PassesOwn.never rfl (@pi_range1 _ _ _ _ _ _ rfl (hb _ (by decide)) (@pa_cX _ _ _ _ _ (@pv _ 1 _ _ (by rfl) (by first|exact Or.inl rfl|exact Or.inr (Or.inl rfl)|exact Or.inr (Or.inr rfl)) (by decide) (by decide)) (@pa_nil _) (by rfl)) (by rfl)) (@pg_name _ _ 3 _ sc__law_least.nd rfl (by first|exact Or.inl rfl|exact Or.inr rfl) (by first|exact .inl rfl|exact .inr rfl|assumption)) (@pss_one _ _ _ (@ps_for _ _ _ _ _ _ _ _ PassesOwn.never rfl (@pi_range1 _ _ _ _ _ _ rfl (hb _ (by decide)) (@pa_cX _ _ _ _ _ (@pv _ 1 _ _ (by rfl) (by first|exact Or.inl rfl|exact Or.inr (Or.inl rfl)|exact Or.inr (Or.inr rfl)) (by decide) (by decide)) (@pa_nil _) (by rfl)) (by rfl)) (@pg_name _ _ 4 _ sc__law_least.nd rfl (by first|exact Or.inl rfl|exact Or.inr rfl) (by first|exact .inl rfl|exact .inr rfl|assumption)) (@pss_one _ _ _ (@ps_if _ _ _ _ _ _ _ _ (@PW.pt _ _ _ (@pw_and _ _ _ _ _ _ _ (@pt_cmpR _ _ _ _ _ _ _ _ op_notN (@pe_dget _ _ _ _ _ _ hu1 (@pv _ 2 _ _ (by rfl) (by first|exact Or.inl rfl|exact Or.inr (Or.inl rfl)|exact Or.inr (Or.inr rfl)) (by decide) (by decide)) (@pe_tup _ _ _ _ _ (@pa_cX _ _ _ _ _ (@pv _ 3 _ _ (by rfl) (by first|exact Or.inl rfl|exact Or.inr (Or.inl rfl)|exact Or.inr (Or.inr rfl)) (by decide) (by decide)) (@pa_cX _ _ _ _ _ (@pv _ 5 _ _ (by rfl) (by first|exact Or.inl rfl|exact Or.inr (Or.inl rfl)|exact Or.inr (Or.inr rfl)) (by decide) (by decide)) (@pa_nil _) (by rfl)) (by rfl))) (by intro _ _; rfl)) (@pe_non _ _ _) (nomark _)) (@pw_and1 _ _ _ _ (@pt_cmpR _ _ _ _ _ _ _ _ op_notN (@pe_dget _ _ _ _ _ _ hu1 (@pv _ 2 _ _ (by rfl) (by first|exact Or.inl rfl|exact Or.inr (Or.inl rfl)|exact Or.inr (Or.inr rfl)) (by decide) (by decide)) (@pe_tup _ _ _ _ _ (@pa_cX _ _ _ _ _ (@pv _ 5 _ _ (by rfl) (by first|exact Or.inl rfl|exact Or.inr (Or.inl rfl)|exact Or.inr (Or.inr rfl)) (by decide) (by decide)) (@pa_cX _ _ _ _ _ (@pv _ 4 _ _ (by rfl) (by first|exact Or.inl rfl|exact Or.inr (Or.inl rfl)|exact Or.inr (Or.inr rfl)) (by decide) (by decide)) (@pa_nil _) (by rfl)) (by rfl))) (by intro _ _; rfl)) (@pe_non _ _ _) (nomark _))))) (@pss_cons _ _ _ _ _ (@ps_set _ _ 6 _ _ _ _ sc__law_least.nd rfl (by first|exact Or.inl rfl|exact Or.inr rfl) (@pe_op _ _ _ _ _ _ _ _ op_add (@pe_dget _ _ _ _ _ _ hu1 (@pv _ 2 _ _ (by rfl) (by first|exact Or.inl rfl|exact Or.inr (Or.inl rfl)|exact Or.inr (Or.inr rfl)) (by decide) (by decide)) (@pe_tup _ _ _ _ _ (@pa_cX _ _ _ _ _ (@pv _ 3 _ _ (by rfl) (by first|exact Or.inl rfl|exact Or.inr (Or.inl rfl)|exact Or.inr (Or.inr rfl)) (by decide) (by decide)) (@pa_cX _ _ _ _ _ (@pv _ 5 _ _ (by rfl) (by first|exact Or.inl rfl|exact Or.inr (Or.inl rfl)|exact Or.inr (Or.inr rfl)) (by decide) (by decide)) (@pa_nil _) (by rfl)) (by rfl))) (by intro _ _; rfl)) (@pe_dget _ _ _ _ _ _ hu1 (@pv _ 2 _ _ (by rfl) (by first|exact Or.inl rfl|exact Or.inr (Or.inl rfl)|exact Or.inr (Or.inr rfl)) (by decide) (by decide)) (@pe_tup _ _ _ _ _ (@pa_cX _ _ _ _ _ (@pv _ 5 _ _ (by rfl) (by first|exact Or.inl rfl|exact Or.inr (Or.inl rfl)|exact Or.inr (Or.inr rfl)) (by decide) (by decide)) (@pa_cX _ _ _ _ _ (@pv _ 4 _ _ (by rfl) (by first|exact Or.inl rfl|exact Or.inr (Or.inl rfl)|exact Or.inr (Or.inr rfl)) (by decide) (by decide)) (@pa_nil _) (by rfl)) (by rfl))) (by intro _ _; rfl))) (by rfl) (by first|exact .inl rfl|exact .inr rfl|assumption)) (@pss_one _ _ _ (@ps_if _ _ _ _ _ _ _ _ (@PW.pt _ _ _ (@pw_or _ _ _ _ _ _ _ (@pt_cmpR _ _ _ _ _ _ _ _ op_isN (@pe_dget _ _ _ _ _ _ hu1 (@pv _ 2 _ _ (by rfl) (by first|exact Or.inl rfl|exact Or.inr (Or.inl rfl)|exact Or.inr (Or.inr rfl)) (by decide) (by decide)) (@pe_tup _ _ _ _ _ (@pa_cX _ _ _ _ _ (@pv _ 3 _ _ (by rfl) (by first|exact Or.inl rfl|exact Or.inr (Or.inl rfl)|exact Or.inr (Or.inr rfl)) (by decide) (by decide)) (@pa_cX _ _ _ _ _ (@pv _ 4 _ _ (by rfl) (by first|exact Or.inl rfl|exact Or.inr (Or.inl rfl)|exact Or.inr (Or.inr rfl)) (by decide) (by decide)) (@pa_nil _) (by rfl)) (by rfl))) (by intro _ _; rfl)) (@pe_non _ _ _) (nomark _)) (@pw_or1 _ _ _ _ (@pt_cmpR _ _ _ _ _ _ _ _ op_lt (@pv _ 6 _ _ (by rfl) (by first|exact Or.inl rfl|exact Or.inr (Or.inl rfl)|exact Or.inr (Or.inr rfl)) (by decide) (by decide)) (@pe_dget _ _ _ _ _ _ hu1 (@pv _ 2 _ _ (by rfl) (by first|exact Or.inl rfl|exact Or.inr (Or.inl rfl)|exact Or.inr (Or.inr rfl)) (by decide) (by decide)) (@pe_tup _ _ _ _ _ (@pa_cX _ _ _ _ _ (@pv _ 3 _ _ (by rfl) (by first|exact Or.inl rfl|exact Or.inr (Or.inl rfl)|exact Or.inr (Or.inr rfl)) (by decide) (by decide)) (@pa_cX _ _ _ _ _ (@pv _ 4 _ _ (by rfl) (by first|exact Or.inl rfl|exact Or.inr (Or.inl rfl)|exact Or.inr (Or.inr rfl)) (by decide) (by decide)) (@pa_nil _) (by rfl)) (by rfl))) (by intro _ _; rfl)) (nomark _))))) (@pss_one _ _ _ (@ps_dput _ _ _ _ _ _ _ _ _ hu1 (@pv _ 2 _ _ (by rfl) (by first|exact Or.inl rfl|exact Or.inr (Or.inl rfl)|exact Or.inr (Or.inr rfl)) (by decide) (by decide)) (@pe_tup _ _ _ _ _ (@pa_cX _ _ _ _ _ (@pv _ 3 _ _ (by rfl) (by first|exact Or.inl rfl|exact Or.inr (Or.inl rfl)|exact Or.inr (Or.inr rfl)) (by decide) (by decide)) (@pa_cX _ _ _ _ _ (@pv _ 4 _ _ (by rfl) (by first|exact Or.inl rfl|exact Or.inr (Or.inl rfl)|exact Or.inr (Or.inr rfl)) (by decide) (by decide)) (@pa_nil _) (by rfl)) (by rfl))) (@pv _ 6 _ _ (by rfl) (by first|exact Or.inl rfl|exact Or.inr (Or.inl rfl)|exact Or.inr (Or.inr rfl)) (by decide) (by decide)) rfl)) (@pss_nil _)))) (@pss_nil _))) (by intro _; rfl))) (by intro _; rfl))) (by intro _; rfl)) (@pss_one _ _ _ (@ps_ret _ _ _ _ (@pv _ 2 _ _ (by rfl) (by first|exact Or.inl rfl|exact Or.inr (Or.inl rfl)|exact Or.inr (Or.inr rfl)) (by decide) (by decide))))))),?_⟩
    simp (maxSteps:=1000000) only [tFor_eq,Nat.reduceSub,Nat.reduceAdd,iRng1,cZ0,tSeq,tVar,tAsg,gName,tCons,tNil,L2.start,mZ1,mZ0,lZ1,lZ0,List.replicate,List.cons_append,List.nil_append,gZ0,gZ1,sZ0,sZ1,oZ0,eZ0,V.int.injEq,and_true,tDNewT]
    intro p1 n1
    generalize z1:upd H p1 _=H1
    obtain ⟨s1,e1⟩:=new_same z1 n1
    obtain ⟨kl,hkl,_,hlv⟩:=hL
    have hpl:pl≠p1:=fun z=>by rw [z,n1] at hkl; cases hkl
    have ekl:∀ {H'},Keep [p1] H1 H'→H' pl=some (.dT kl):=fun k=>k _ _ (s1 _ _ hkl) (by rw [List.mem_singleton]; exact hpl)
    have hval:∀ i j:Nat,i<n→j<n→i≠j→(valV kl [Sum.inl (if (j:Int)<(i:Int) then (j:Int) else (i:Int)),Sum.inl (if (j:Int) > (i:Int) then (j:Int) else (i:Int))]).getD .non=optV (cOf n m i j):=fun i j hi hj hij=>by
      unfold cOf
      rw [if_pos (show i<n∧j<n∧i≠j from ⟨hi,hj,hij⟩)]
      by_cases h:i<j
      · rw [if_neg (show ¬ ((j:Int)<(i:Int)) by omega),if_pos (show (j:Int) > (i:Int) by omega),(hlv i j h hj (.inl hi)).1,Nat.min_eq_left (by omega),Nat.max_eq_right (by omega)]
        rfl
      · rw [if_pos (show (j:Int)<(i:Int) by omega),if_neg (show ¬ ((j:Int) > (i:Int)) by omega),(hlv j i (by omega) hi (.inl hj)).1,Nat.min_eq_right (by omega),Nat.max_eq_left (by omega)]
        rfl
    refine ⟨by omega,by omega,for_range (n:=((n:Int)).toNat) (Lla m pl n p1 H1) ⟨_,_,fun _ _=>none,rfl,⟨[],e1,by simp,fun a b _ _ h=>absurd h (by omega)⟩,fun a b h=>absurd h (by omega),.refl⟩ ?_ ?_⟩
    · rintro i σ H2 hi ⟨v3,v4,L,rfl,hT,hv,k2⟩
      have hi':i<n:=by omega
      simp (maxSteps:=1000000) only [tFor_eq,iRng1,cZ0,tSeq,tVar,gName,tCons,tNil,gZ0,gZ1,sZ0,sZ1,oZ0,eZ0,V.int.injEq,and_true,sl6,Int.zero_add]
      refine ⟨by omega,by omega,for_range (n:=((n:Int)).toNat) (Llb m pl n p1 H1 i) ⟨_,L,rfl,?_,?_,k2⟩ ?_ ?_⟩
      · obtain ⟨kvs,a1,a2,a3⟩:=hT
        exact ⟨kvs,a1,by omega,fun a b ha hb h=>a3 a b ha hb (by omega)⟩
      · exact fun a b h hb=>hv a b (by omega) hb
      · rintro j σ H3 hj ⟨v4',L3,rfl,hT3,hv3,k3⟩
        have hj':j<n:=by omega
        simp (maxSteps:=1000000) only [Nat.reduceAdd,sDPut,cZ0,eZ1,tVar,gName,tCons,tNil,tCB,tTup,lZ1,lZ0,gZ0,gZ1,sZ0,sZ1,oZ0,eZ0,V.int.injEq,V.ref.injEq,and_true,and_assoc,sl6,Int.zero_add,sDPut,tDGet1]
        refine ⟨.inr ⟨_,.inl (ekl k3)⟩,by rw [sizeLine_eq]; omega,?_⟩
        intro p4 n4
        generalize z4:upd H3 p4 _=H4
        obtain ⟨s4,e4⟩:=new_same z4 n4
        refine ⟨_,DGet.t (k:=[Sum.inl (if (j:Int)<(i:Int) then (j:Int) else (i:Int)),Sum.inl (if (j:Int) > (i:Int) then (j:Int) else (i:Int))]) (s4 _ _ (ekl k3)) e4,by rw [sizeLine_eq]; omega,?_⟩
        intro p5 n5
        generalize z5:upd H4 p5 _=H5
        obtain ⟨s5,e5⟩:=new_same z5 n5
        obtain ⟨kvs,a1,a2,a3⟩:=hT3
        refine ⟨_,DPut.t (k:=[Sum.inl (i:Int),Sum.inl (j:Int)]) ((s4.trans s5) _ _ a1) e5 (by rw [sizeLine_eq]; omega),_,fun a b=>if a=i∧b=j then cOf n m i j else L3 a b,rfl,⟨_,upd_same,Nat.le_trans putK_le (by omega),fun a b ha hb h=>?_⟩,fun a b h hb=>?_,((k3.same s4).same s5).upd (.inl (.head _))⟩
        · rw [valV_put]
          dsimp only
          by_cases e:a=i∧b=j
          · obtain ⟨rfl,rfl⟩:=e
            rw [if_pos (rfl:[Sum.inl (a:Int),Sum.inl (b:Int)]=[Sum.inl (a:Int),Sum.inl (b:Int)]),hval a b ha hb (by omega),if_pos (show a=a∧b=b from ⟨rfl,rfl⟩)]
          · rw [if_neg e,if_neg]
            · exact a3 a b ha hb (by omega)
            · intro z
              injection z with z1 z2
              injection z2 with z2 _
              have y1:=Sum.inl.inj z1
              have y2:=Sum.inl.inj z2
              exact e (by omega)
        · dsimp only
          by_cases e:a=i∧b=j
          · obtain ⟨rfl,rfl⟩:=e
            rw [if_pos (show a=a∧b=b from ⟨rfl,rfl⟩),if_neg (by omega)]
          · rw [if_neg e]
            exact hv3 a b (by omega) hb
      · rintro σ H3 ⟨v4',L3,rfl,hT3,hv3,k3⟩
        simp (maxSteps:=1000000) only [Nat.reduceAdd,sDPut,eZ1,tVar,tC,tCons,tNil,tTup,lZ1,lZ0,gZ0,gZ1,oZ0,eZ0,V.ref.injEq,sl6,sDPut]
        refine ⟨by rw [sizeLine_eq]; omega,?_⟩
        intro p4 n4
        generalize z4:upd H3 p4 _=H4
        obtain ⟨s4,e4⟩:=new_same z4 n4
        obtain ⟨kvs,a1,a2,a3⟩:=hT3
        refine ⟨_,DPut.t (k:=[Sum.inl (i:Int),Sum.inl (i:Int)]) (s4 _ _ a1) e4 (by rw [sizeLine_eq]; omega),_,_,fun a b=>if a=i∧b=i then some 0 else L3 a b,rfl,⟨_,upd_same,Nat.le_trans putK_le (by omega),fun a b ha hb h=>?_⟩,fun a b h hb=>?_,(k3.same s4).upd (.inl (.head _))⟩
        · rw [valV_put]
          dsimp only
          by_cases e:a=i∧b=i
          · rw [e.1,e.2,if_pos (rfl:[Sum.inl (i:Int),Sum.inl (i:Int)]=[Sum.inl (i:Int),Sum.inl (i:Int)]),if_pos (show i=i∧i=i from ⟨rfl,rfl⟩)]
            rfl
          · rw [if_neg e,if_neg]
            · exact a3 a b ha hb (by omega)
            · intro z
              injection z with z1 z2
              injection z2 with z2 _
              have y1:=Sum.inl.inj z1
              have y2:=Sum.inl.inj z2
              exact e (by omega)
        · dsimp only
          by_cases e:a=i∧b=i
          · rw [e.1,e.2,if_pos (show i=i∧i=i from ⟨rfl,rfl⟩),if_pos rfl]
          · rw [if_neg e]
            exact hv3 a b (by omega) hb
    · rintro σ H2 ⟨v3,v4,L,rfl,hT,hv,k2⟩
      have hc:LW.Lines n (cOf n m):=by
        refine ⟨fun i b l e=>?_,fun i b l e=>?_⟩
        · unfold cOf at e
          split at e
          · next h=>
            by_cases h2:i<b
            · rw [Nat.min_eq_left (by omega),Nat.max_eq_right (by omega)] at e
              exact ((hlv i b h2 h.2.1 (.inl h.1)).2 l e).1
            · rw [Nat.min_eq_right (by omega),Nat.max_eq_left (by omega)] at e
              exact ((hlv b i (by omega) h.1 (.inl h.2.1)).2 l e).1
          · cases e
        · unfold cOf at e
          split at e
          · next h=>exact h
          · cases e
      have hF:=LW.first (L:=L) hc (fun a ha=>by rw [hv a a ha ha,if_pos rfl]) (fun a b ha hb hab=>by rw [hv a b ha hb,if_neg hab])
      simp (maxSteps:=1000000) only [tFor_eq,iRng1,cZ0,tSeq,tVar,tCons,tNil,gZ0,gZ1,oZ0,eZ0,V.int.injEq,and_true,sl6]
      refine ⟨by omega,by omega,for_range (n:=((n:Int)).toNat) (Lm (cOf n m) pl n p1 H1) ⟨_,_,_,_,L,rfl,?_,hF.1,hF.2,k2⟩ ?_ ?_⟩
      · obtain ⟨kvs,a1,a2,a3⟩:=hT
        exact ⟨kvs,a1,by omega,fun a b ha hb _=>a3 a b ha hb ha⟩
      · rintro k σ H3 hk ⟨v3',v4',v5',v6',L3,rfl,hT3,hS3,hC3,k3⟩
        simp (maxSteps:=1000000) only [tFor_eq,iRng1,cZ0,tVar,gName,tCons,tNil,gZ0,gZ1,sZ0,sZ1,oZ0,eZ0,V.int.injEq,and_true,sl7,Int.zero_add]
        refine ⟨by omega,by omega,for_range (n:=((n:Int)).toNat) (La (cOf n m) pl n p1 H1 k) ⟨_,_,_,L3,L3,rfl,hT3,.start hC3 hS3,k3⟩ ?_ ?_⟩
        · rintro i σ H4 hi ⟨v3',v4',v6',L0,L4,rfl,hT4,hP4,k4⟩
          simp (maxSteps:=1000000) only [tFor_eq,iRng1,cZ0,tVar,gName,tCons,tNil,gZ0,gZ1,sZ0,sZ1,oZ0,eZ0,V.int.injEq,and_true,sl7,Int.zero_add]
          refine ⟨by omega,by omega,for_range (n:=((n:Int)).toNat) (Lb (cOf n m) pl n p1 H1 k i) ⟨_,_,L0,L4,rfl,hT4,hP4,k4⟩ ?_ ?_⟩
          · rintro j σ H5 hj ⟨v4',v6',L0,L5,rfl,hT5,hP5,k5⟩
            have hk':k<n:=by omega
            have hi':i<n:=by omega
            have hj':j<n:=by omega
            have skip:∀ {H'} {v4 v6:Option V},Same H5 H'→(∀ u v,L5 i k=some u→L5 k j=some v→∃ y,L5 i j=some y∧y≤u+v)→Lb (cOf n m) pl n p1 H1 k i (j+1) (sl7 pl n p1 (some (.int (i:Int))) v4 (some (.int (k:Int))) v6) H':=fun s h=>by
              obtain ⟨kvs,a1,a2,a3⟩:=hT5
              exact ⟨_,_,L0,L5,rfl,⟨kvs,s _ _ a1,by omega,a3⟩,hP5.skip hk' hi' h,k5.same s⟩
            simp (maxSteps:=1000000) only [Nat.reduceAdd,tDGet,sDPut,tSeq,eZ1,if_false,if_true,Bool.false_eq_true,tIfS,tAnd,tOr,tTest,tOp,tVar,tC,rI0,tAsg,gName,tNext,tCons,tNil,tTup,lZ1,lZ0,gZ0,gZ1,sZ0,sZ1,oZ0,eZ0,V.int.injEq,V.bl.injEq,V.ref.injEq,true_and,sl7,Int.zero_add,tDGet,sDPut]
            refine ⟨by rw [sizeLine_eq]; omega,?_⟩
            intro p6 n6
            generalize z6:upd H5 p6 _=H6
            obtain ⟨s6,e6⟩:=new_same z6 n6
            cases hu:L5 i k with
            | none=>
              refine ⟨_,(hT5.same s6).get hi' hk' e6 hu,?_⟩
              rw [if_neg (by simp [optV])]
              exact skip s6 (fun u v h _=>by rw [hu] at h; cases h)
            | some u=>
              refine ⟨_,(hT5.same s6).get hi' hk' e6 hu,?_⟩
              rw [if_pos (by simp [optV])]
              refine ⟨by rw [sizeLine_eq]; omega,?_⟩
              intro p7 n7
              generalize z7:upd H6 p7 _=H7
              obtain ⟨s7,e7⟩:=new_same z7 n7
              have s67:=s6.trans s7
              cases hw:L5 k j with
              | none=>
                refine ⟨_,(hT5.same s67).get hk' hj' e7 hw,?_⟩
                rw [if_neg (by simp [optV])]
                exact skip s67 (fun u v _ h=>by rw [hw] at h; cases h)
              | some v=>
                refine ⟨_,(hT5.same s67).get hk' hj' e7 hw,?_⟩
                rw [if_pos (by simp [optV])]
                refine ⟨by rw [sizeLine_eq]; omega,?_⟩
                intro p8 n8
                generalize z8:upd H7 p8 _=H8
                obtain ⟨s8,e8⟩:=new_same z8 n8
                have s68:=s67.trans s8
                refine ⟨_,(hT5.same s68).get hi' hk' e8 hu,by rw [sizeLine_eq]; omega,?_⟩
                intro p9 n9
                generalize z9:upd H8 p9 _=H9
                obtain ⟨s9,e9⟩:=new_same z9 n9
                have s69:=s68.trans s9
                refine ⟨_,(hT5.same s69).get hk' hj' e9 hw,u,rfl,v,rfl,?_⟩
                have putE:∀ {Ha:Hp} (t:Addr),Same H5 Ha→Ha t=some (.tup [.int (i:Int),.int (j:Int)])→(∀ y,L5 i j=some y→u+v<y)→∃ x,DPut Ha p1 (.ref t) (.int (u+v)) x∧Lb (cOf n m) pl n p1 H1 k i (j+1) (sl7 pl n p1 (some (.int (i:Int))) (some (.int (j:Int))) (some (.int (k:Int))) (some (.int (u+v)))) x:=fun {Ha} t s e h=>by
                  obtain ⟨Hb,d1,d2,d3⟩:=(hT5.same s).put (by omega) e (u+v)
                  obtain ⟨kvs,b1,b2,b3⟩:=d2
                  exact ⟨Hb,d1,_,_,L0,LW.put L5 i j (u+v),rfl,⟨kvs,b1,by omega,b3⟩,hP5.put hc hk' hi' hj' hu hw h,(k5.same s).trans d3⟩
                refine ⟨by rw [sizeLine_eq]; omega,?_⟩
                intro p10 n10
                generalize z10:upd H9 p10 _=H10
                obtain ⟨s10,e10⟩:=new_same z10 n10
                have s60:=s69.trans s10
                cases hy:L5 i j with
                | none=>
                  refine ⟨_,(hT5.same s60).get hi' hj' e10 hy,?_⟩
                  rw [if_pos (by simp [optV])]
                  refine ⟨by rw [sizeLine_eq]; omega,?_⟩
                  intro p11 n11
                  generalize z11:upd H10 p11 _=H11
                  obtain ⟨s11,e11⟩:=new_same z11 n11
                  exact putE _ (s60.trans s11) e11 (fun y h=>by rw [hy] at h; cases h)
                | some y=>
                  refine ⟨_,(hT5.same s60).get hi' hj' e10 hy,?_⟩
                  rw [if_neg (by simp [optV])]
                  refine ⟨by rw [sizeLine_eq]; omega,?_⟩
                  intro p11 n11
                  generalize z11:upd H10 p11 _=H11
                  obtain ⟨s11,e11⟩:=new_same z11 n11
                  have s61:=s60.trans s11
                  refine ⟨_,(hT5.same s61).get hi' hj' e11 hy,y,rfl,?_⟩
                  by_cases hlt:u+v<y
                  · rw [if_pos (decide_eq_true hlt)]
                    refine ⟨by rw [sizeLine_eq]; omega,?_⟩
                    intro p12 n12
                    generalize z12:upd H11 p12 _=H12
                    obtain ⟨s12,e12⟩:=new_same z12 n12
                    exact putE _ (s61.trans s12) e12 (fun y' h=>by rw [hy] at h; cases h; exact hlt)
                  · rw [if_neg (by simpa using hlt)]
                    exact skip s61 (fun u' v' h1 h2=>by
                      rw [hu] at h1
                      rw [hw] at h2
                      cases h1
                      cases h2
                      exact ⟨y,hy,by omega⟩)
          · rintro σ H5 ⟨v4',v6',L0,L5,rfl,hT5,hP5,k5⟩
            obtain ⟨kvs,a1,a2,a3⟩:=hT5
            exact ⟨_,_,_,L0,L5,rfl,⟨kvs,a1,by omega,a3⟩,hP5.row,k5⟩
        · rintro σ H4 ⟨v3',v4',v6',L0,L4,rfl,hT4,hP4,k4⟩
          obtain ⟨kvs,a1,a2,a3⟩:=hT4
          exact ⟨_,_,_,_,L4,rfl,⟨kvs,a1,by omega,a3⟩,hP4.sn,hP4.done hc (by omega),k4⟩
      · rintro σ H3 ⟨v3',v4',v5',v6',L3,rfl,hT3,hS3,hC3,k3⟩
        simp (maxSteps:=1000000) only [tVar,tRet,gZ0,gZ1,oZ0,eZ0,sl7]
        obtain ⟨kvs,a1,a2,a3⟩:=hT3
        refine q p1 L3 H3 n1 (fun b o e=>k3 b o (s1 _ _ e) fun z=>?_) ⟨kvs,a1,by omega,a3⟩ hS3 hC3
        rw [List.mem_singleton] at z
        rw [z,n1] at e
        cases e
end
end K15
namespace K15
open PySem L2 PySem.W
abbrev s__law_all_least:Stmt:=stm 14
theorem sc__law_all_least:FnScope ["_law_hands","_law_lines","_law_many","_law_least_here","_law_me","_law_goal","_law_there","_law_line"] ["_law_hands","_law_lines"] (defScope s__law_all_least):=⟨rfl,rfl,rfl,by decide +kernel,rfl,by decide +kernel,by decide +kernel⟩
section
variable {P:Program} {w:World} {K:PySem.W.Frag} {mg:Str→Option Value} {base:Heap} {C:Addr}
def domN (n:Nat):List Int:=(List.range n).map fun (i:Nat)=>(i:Int)
theorem mem_domN {n:Nat} {g:Int}:g∈domN n↔0≤g∧g<(n:Int):=by
  unfold domN
  rw [List.mem_map]
  constructor
  · rintro ⟨i,hi,rfl⟩
    have:=List.mem_range.mp hi
    omega
  · rintro ⟨h0,h1⟩
    exact ⟨g.toNat,List.mem_range.mpr (by omega),by omega⟩
structure Hnd (C:Addr) (n:Nat) (H:Hp) (ph:Addr) (as:List WA) (sts:List WSt):Prop where
  hs:Hs C (domN n) H as sts
  n1:sts.length=n
  n2:2≤n∧n≤4
  eph:H ph=some (.lst (as.map fun a=>V.ref a.x))
  dis:∀ (i j:Nat) a b,i≠j→as[i]?=some a→as[j]?=some b→a.x≠b.x∧∀ z∈ads a,z ∉ ads b
  net:Net sts
theorem Hnd.same {n:Nat} {H H':Hp} {ph:Addr} {as:List WA} {sts:List WSt} (B:Hnd C n H ph as sts) (s:Same H H'):Hnd C n H' ph as sts:=⟨B.hs.same s,B.n1,B.n2,s _ _ B.eph,B.dis,B.net⟩
def sp_allleast (C:Addr):Sp:=fun vs H Q _=>∃ (ph pl:Addr) (n:Nat) (as:List WA) (sts:List WSt) (m:Nat→Nat→Option Int),vs=[.ref ph,.ref pl]∧Hnd C n H ph as sts∧LnD H pl n n 0 m ∧
  (∀ L,LW.Snd n (cOf n m) L→LW.Cpl n (cOf n m) n L→∀ i d st,i<n→d<n→sts[i]?=some st→priceOf st (d:Int)=L i d∧(i=d∨L i d=none→nextOf st (d:Int)=none)∧(i≠d→∀ y,L i d=some y→∃ (b:Nat) (l x:Int),nextOf st (d:Int)=some (b:Int)∧b<n∧b≠i∧cOf n m i b=some l∧L b d=some x∧l+x=y))∧∀ H',Same H H'→Q (.bl true) H'
theorem LnD.get {H:Hp} {pl t:Addr} {n i b:Nat} {m:Nat→Nat→Option Int} (hL:LnD H pl n n 0 m) (hi:i<n) (hb:b<n) (hib:i≠b) (e:H t=some (.tup [.int (if (b:Int)<(i:Int) then (b:Int) else (i:Int)),.int (if (b:Int) > (i:Int) then (b:Int) else (i:Int))])):DGet H pl (.ref t) (some (optV (cOf n m i b))):=by
  obtain ⟨kl,hkl,_,hlv⟩:=hL
  have g:=DGet.t (k:=[Sum.inl (if (b:Int)<(i:Int) then (b:Int) else (i:Int)),Sum.inl (if (b:Int) > (i:Int) then (b:Int) else (i:Int))]) hkl e
  have hv:valV kl [Sum.inl (if (b:Int)<(i:Int) then (b:Int) else (i:Int)),Sum.inl (if (b:Int) > (i:Int) then (b:Int) else (i:Int))]=some (optV (cOf n m i b)):=by
    unfold cOf
    rw [if_pos (show i<n∧b<n∧i≠b from ⟨hi,hb,hib⟩)]
    by_cases h:i<b
    · rw [if_neg (show ¬ ((b:Int)<(i:Int)) by omega),if_pos (show (b:Int) > (i:Int) by omega),(hlv i b h hb (.inl hi)).1,Nat.min_eq_left (by omega),Nat.max_eq_right (by omega)]
    · rw [if_pos (show (b:Int)<(i:Int) by omega),if_neg (show ¬ ((b:Int) > (i:Int)) by omega),(hlv b i (by omega) hi (.inl hb)).1,Nat.min_eq_right (by omega),Nat.max_eq_left (by omega)]
  rw [hv] at g
  exact g
theorem LnD.same {H H':Hp} {pl:Addr} {n i j:Nat} {m:Nat→Nat→Option Int} (hL:LnD H pl n i j m) (s:Same H H'):LnD H' pl n i j m:=by
  obtain ⟨kl,h1,h2⟩:=hL
  exact ⟨kl,s _ _ h1,h2⟩
theorem Hnd.at_ {n:Nat} {H:Hp} {ph:Addr} {as:List WA} {sts:List WSt} (B:Hnd C n H ph as sts) {i:Nat} (h1:i<n):∃ a st,as[i]?=some a∧sts[i]?=some st∧WaysAt C (domN n) H a st∧st.me=(i:Int)∧atI (as.map fun a=>V.ref a.x) (i:Int)=some (.ref a.x):=by
  have l1:i<sts.length:=by rw [B.n1]; omega
  have l2:i<as.length:=by rw [B.hs.len]; exact l1
  have e1:=List.getElem?_eq_getElem l1
  have e2:=List.getElem?_eq_getElem l2
  obtain ⟨Y,me⟩:=B.hs.at_ _ _ _ e2 e1
  exact ⟨_,_,e2,e1,Y,me,by rw [atI_pos (by omega),List.getElem?_map,Int.toNat_natCast,e2]; rfl⟩
def Pa (ph pl p:Addr) (n:Nat) (H:Hp) (i:Nat) (σ:St) (H':Hp):Prop:=∃ v4 v5 v6 v7,σ=[some (.ref ph),some (.ref pl),some (.int (n:Int)),some (.ref p),v4,v5,v6,v7]∧Same H H'
def Pb (ph pl p:Addr) (n:Nat) (H:Hp) (i j:Nat) (σ:St) (H':Hp):Prop:=∃ v5 v6 v7,σ=[some (.ref ph),some (.ref pl),some (.int (n:Int)),some (.ref p),some (.int (i:Int)),v5,v6,v7]∧Same H H'
set_option maxHeartbeats 4000000 in
theorem own_allleast (D:Def K mg "_law_all_least" s__law_all_least) (hb:Blt mg) (T_Ways:ClsD K mg "Ways" C at_Ways) (M_Ways_price_of:OwnM P w K mg base 1 C "price_of" ["self","goal"] (sp_priceof C)) (M_Ways_next_of:OwnM P w K mg base 1 C "next_of" ["self","goal"] (sp_nextof C)) (F__law_least:Own P w K mg base 1 "_law_least" ["_law_lines","_law_many"] sp_lleast):Own P w K mg base 2 "_law_all_least" ["_law_hands","_law_lines"] (sp_allleast C):=by
  refine D.own sc__law_all_least (fun _ _ _ _ _ _ us hl=>match us,hl with|[_,_],_=>rfl) (fun vs H Q E h=>?_) (fun f cdv A outer s H vs Q E hr h=>?_)
  · obtain ⟨ph,pl,n,as,sts,m,rfl,_⟩:=h
    rfl
  · obtain ⟨ph,pl,n,as,sts,m,rfl,B,hL,hA,q⟩:=h
    have hu:=hr.units
    have hu1:(A.deeper (PyProof.Rows.envOfC "_law_all_least" (defScope s__law_all_least) s.heap.objs.size f cdv)).units+1<cLine:=by omega
    have eph:=B.eph
    have lph:(as.map fun a=>V.ref a.x).length=n:=by rw [List.length_map,B.hs.len,B.n1]
    refine ⟨_,(@pss_cons _ _ _ _ _ (@ps_set _ _ 2 _ _ _ _ sc__law_all_least.nd rfl (by first|exact Or.inl rfl|exact Or.inr rfl) (@pe_callB _ _ _ _ _ _ _ _ _ call_lenX rfl (hb _ (by decide)) bt_len (@pa_cX _ _ _ _ _ (@pv _ 0 _ _ (by rfl) (by first|exact Or.inl rfl|exact Or.inr (Or.inl rfl)|exact Or.inr (Or.inr rfl)) (by decide) (by decide)) (@pa_nil _) (by rfl)) (by decide) (by decide) (by rfl) (by rfl)) (by rfl) (by first|exact .inl rfl|exact .inr rfl|assumption)) (@pss_cons _ _ _ _ _ (@ps_set _ _ 3 _ _ _ _ sc__law_all_least.nd rfl (by first|exact Or.inl rfl|exact Or.inr rfl) (@pe_fn _ _ _ _ _ _ _ _ _ _ _ F__law_least hr (@pa_cX _ _ _ _ _ (@pv _ 1 _ _ (by rfl) (by first|exact Or.inl rfl|exact Or.inr (Or.inl rfl)|exact Or.inr (Or.inr rfl)) (by decide) (by decide)) (@pa_cX _ _ _ _ _ (@pv _ 2 _ _ (by rfl) (by first|exact Or.inl rfl|exact Or.inr (Or.inl rfl)|exact Or.inr (Or.inr rfl)) (by decide) (by decide)) (@pa_nil _) (by rfl)) (by rfl)) (by decide) (by rfl) (by decide) (by rfl) (by rfl)) (by rfl) (by first|exact .inl rfl|exact .inr rfl|assumption)) (@pss_cons _ _ _ _ _ (@ps_for _ _ _ _ _ _ _ _ PassesOwn.never rfl (@pi_range1 _ _ _ _ _ _ rfl (hb _ (by decide)) (@pa_cX _ _ _ _ _ (@pv _ 2 _ _ (by rfl) (by first|exact Or.inl rfl|exact Or.inr (Or.inl rfl)|exact Or.inr (Or.inr rfl)) (by decide) (by decide)) (@pa_nil _) (by rfl)) (by rfl)) (@pg_name _ _ 4 _ sc__law_all_least.nd rfl (by first|exact Or.inl rfl|exact Or.inr rfl) (by first|exact .inl rfl|exact .inr rfl|assumption)) (@pss_one _ _ _ (@ps_for _ _ _ _ _ _ _ _ PassesOwn.never rfl (@pi_range1 _ _ _ _ _ _ rfl (hb _ (by decide)) (@pa_cX _ _ _ _ _ (@pv _ 2 _ _ (by rfl) (by first|exact Or.inl rfl|exact Or.inr (Or.inl rfl)|exact Or.inr (Or.inr rfl)) (by decide) (by decide)) (@pa_nil _) (by rfl)) (by rfl)) (@pg_name _ _ 5 _ sc__law_all_least.nd rfl (by first|exact Or.inl rfl|exact Or.inr rfl) (by first|exact .inl rfl|exact .inr rfl|assumption)) (@pss_cons _ _ _ _ _ (@ps_if _ _ _ _ _ _ _ _ (@pt_cmpR _ _ _ _ _ _ _ _ op_ne (@pe_mth _ _ _ _ _ _ _ _ _ _ _ _ _ _ _ M_Ways_price_of T_Ways.cl hr (@pe_ix _ _ _ _ _ _ _ (ix_get hu1) (@pv _ 0 _ _ (by rfl) (by first|exact Or.inl rfl|exact Or.inr (Or.inl rfl)|exact Or.inr (Or.inr rfl)) (by decide) (by decide)) (@pv _ 4 _ _ (by rfl) (by first|exact Or.inl rfl|exact Or.inr (Or.inl rfl)|exact Or.inr (Or.inr rfl)) (by decide) (by decide)) (fun _ _=>rfl)) (@pa_cX _ _ _ _ _ (@pv _ 5 _ _ (by rfl) (by first|exact Or.inl rfl|exact Or.inr (Or.inl rfl)|exact Or.inr (Or.inr rfl)) (by decide) (by decide)) (@pa_nil _) (by rfl)) (by decide) (by rfl) (by rfl) (by rfl)) (@pe_dget _ _ _ _ _ _ hu1 (@pv _ 3 _ _ (by rfl) (by first|exact Or.inl rfl|exact Or.inr (Or.inl rfl)|exact Or.inr (Or.inr rfl)) (by decide) (by decide)) (@pe_tup _ _ _ _ _ (@pa_cX _ _ _ _ _ (@pv _ 4 _ _ (by rfl) (by first|exact Or.inl rfl|exact Or.inr (Or.inl rfl)|exact Or.inr (Or.inr rfl)) (by decide) (by decide)) (@pa_cX _ _ _ _ _ (@pv _ 5 _ _ (by rfl) (by first|exact Or.inl rfl|exact Or.inr (Or.inl rfl)|exact Or.inr (Or.inr rfl)) (by decide) (by decide)) (@pa_nil _) (by rfl)) (by rfl))) (by intro _ _; rfl)) (nomark _)) (@pss_one _ _ _ (@ps_ret _ _ _ _ (@pe_bl _ _ _ _))) (@pss_nil _)) (@pss_cons _ _ _ _ _ (@ps_set _ _ 6 _ _ _ _ sc__law_all_least.nd rfl (by first|exact Or.inl rfl|exact Or.inr rfl) (@pe_mth _ _ _ _ _ _ _ _ _ _ _ _ _ _ _ M_Ways_next_of T_Ways.cl hr (@pe_ix _ _ _ _ _ _ _ (ix_get hu1) (@pv _ 0 _ _ (by rfl) (by first|exact Or.inl rfl|exact Or.inr (Or.inl rfl)|exact Or.inr (Or.inr rfl)) (by decide) (by decide)) (@pv _ 4 _ _ (by rfl) (by first|exact Or.inl rfl|exact Or.inr (Or.inl rfl)|exact Or.inr (Or.inr rfl)) (by decide) (by decide)) (fun _ _=>rfl)) (@pa_cX _ _ _ _ _ (@pv _ 5 _ _ (by rfl) (by first|exact Or.inl rfl|exact Or.inr (Or.inl rfl)|exact Or.inr (Or.inr rfl)) (by decide) (by decide)) (@pa_nil _) (by rfl)) (by decide) (by rfl) (by rfl) (by rfl)) (by rfl) (by first|exact .inl rfl|exact .inr rfl|assumption)) (@pss_one _ _ _ (@ps_if _ _ _ _ _ _ _ _ (@PW.pt _ _ _ (@pw_or _ _ _ _ _ _ _ (@pt_cmpR _ _ _ _ _ _ _ _ op_eq (@pv _ 4 _ _ (by rfl) (by first|exact Or.inl rfl|exact Or.inr (Or.inl rfl)|exact Or.inr (Or.inr rfl)) (by decide) (by decide)) (@pv _ 5 _ _ (by rfl) (by first|exact Or.inl rfl|exact Or.inr (Or.inl rfl)|exact Or.inr (Or.inr rfl)) (by decide) (by decide)) (nomark _)) (@pw_or1 _ _ _ _ (@pt_cmpR _ _ _ _ _ _ _ _ op_isN (@pe_dget _ _ _ _ _ _ hu1 (@pv _ 3 _ _ (by rfl) (by first|exact Or.inl rfl|exact Or.inr (Or.inl rfl)|exact Or.inr (Or.inr rfl)) (by decide) (by decide)) (@pe_tup _ _ _ _ _ (@pa_cX _ _ _ _ _ (@pv _ 4 _ _ (by rfl) (by first|exact Or.inl rfl|exact Or.inr (Or.inl rfl)|exact Or.inr (Or.inr rfl)) (by decide) (by decide)) (@pa_cX _ _ _ _ _ (@pv _ 5 _ _ (by rfl) (by first|exact Or.inl rfl|exact Or.inr (Or.inl rfl)|exact Or.inr (Or.inr rfl)) (by decide) (by decide)) (@pa_nil _) (by rfl)) (by rfl))) (by intro _ _; rfl)) (@pe_non _ _ _) (nomark _))))) (@pss_one _ _ _ (@ps_if _ _ _ _ _ _ _ _ (@pt_cmpR _ _ _ _ _ _ _ _ op_notN (@pv _ 6 _ _ (by rfl) (by first|exact Or.inl rfl|exact Or.inr (Or.inl rfl)|exact Or.inr (Or.inr rfl)) (by decide) (by decide)) (@pe_non _ _ _) (nomark _)) (@pss_one _ _ _ (@ps_ret _ _ _ _ (@pe_bl _ _ _ _))) (@pss_nil _))) (@pss_cons _ _ _ _ _ (@ps_set _ _ 7 _ _ _ _ sc__law_all_least.nd rfl (by first|exact Or.inl rfl|exact Or.inr rfl) (@pe_dget _ _ _ _ _ _ hu1 (@pv _ 1 _ _ (by rfl) (by first|exact Or.inl rfl|exact Or.inr (Or.inl rfl)|exact Or.inr (Or.inr rfl)) (by decide) (by decide)) (@pe_tup _ _ _ _ _ (@pa_cX _ _ _ _ _ (@pe_callB _ _ _ _ _ _ _ _ _ (call_min2 rfl) rfl (hb _ (by decide)) bt_min (@pa_cX _ _ _ _ _ (@pv _ 4 _ _ (by rfl) (by first|exact Or.inl rfl|exact Or.inr (Or.inl rfl)|exact Or.inr (Or.inr rfl)) (by decide) (by decide)) (@pa_cX _ _ _ _ _ (@pv _ 6 _ _ (by rfl) (by first|exact Or.inl rfl|exact Or.inr (Or.inl rfl)|exact Or.inr (Or.inr rfl)) (by decide) (by decide)) (@pa_nil _) (by rfl)) (by rfl)) (by decide) (by decide) (by rfl) (by rfl)) (@pa_cX _ _ _ _ _ (@pe_callB _ _ _ _ _ _ _ _ _ (call_max2 rfl) rfl (hb _ (by decide)) bt_max (@pa_cX _ _ _ _ _ (@pv _ 4 _ _ (by rfl) (by first|exact Or.inl rfl|exact Or.inr (Or.inl rfl)|exact Or.inr (Or.inr rfl)) (by decide) (by decide)) (@pa_cX _ _ _ _ _ (@pv _ 6 _ _ (by rfl) (by first|exact Or.inl rfl|exact Or.inr (Or.inl rfl)|exact Or.inr (Or.inr rfl)) (by decide) (by decide)) (@pa_nil _) (by rfl)) (by rfl)) (by decide) (by decide) (by rfl) (by rfl)) (@pa_nil _) (by rfl)) (by rfl))) (by intro _ _; rfl)) (by rfl) (by first|exact .inl rfl|exact .inr rfl|assumption)) (@pss_cons _ _ _ _ _ (@ps_if _ _ _ _ _ _ _ _ (@PW.pt _ _ _ (@pw_or _ _ _ _ _ _ _ (@pt_cmpR _ _ _ _ _ _ _ _ op_isN (@pv _ 7 _ _ (by rfl) (by first|exact Or.inl rfl|exact Or.inr (Or.inl rfl)|exact Or.inr (Or.inr rfl)) (by decide) (by decide)) (@pe_non _ _ _) (nomark _)) (@pw_or1 _ _ _ _ (@pt_cmpR _ _ _ _ _ _ _ _ op_isN (@pe_dget _ _ _ _ _ _ hu1 (@pv _ 3 _ _ (by rfl) (by first|exact Or.inl rfl|exact Or.inr (Or.inl rfl)|exact Or.inr (Or.inr rfl)) (by decide) (by decide)) (@pe_tup _ _ _ _ _ (@pa_cX _ _ _ _ _ (@pv _ 6 _ _ (by rfl) (by first|exact Or.inl rfl|exact Or.inr (Or.inl rfl)|exact Or.inr (Or.inr rfl)) (by decide) (by decide)) (@pa_cX _ _ _ _ _ (@pv _ 5 _ _ (by rfl) (by first|exact Or.inl rfl|exact Or.inr (Or.inl rfl)|exact Or.inr (Or.inr rfl)) (by decide) (by decide)) (@pa_nil _) (by rfl)) (by rfl))) (by intro _ _; rfl)) (@pe_non _ _ _) (nomark _))))) (@pss_one _ _ _ (@ps_ret _ _ _ _ (@pe_bl _ _ _ _))) (@pss_nil _)) (@pss_one _ _ _ (@ps_if _ _ _ _ _ _ _ _ (@pt_cmpR _ _ _ _ _ _ _ _ op_ne (@pe_op _ _ _ _ _ _ _ _ op_add (@pv _ 7 _ _ (by rfl) (by first|exact Or.inl rfl|exact Or.inr (Or.inl rfl)|exact Or.inr (Or.inr rfl)) (by decide) (by decide)) (@pe_dget _ _ _ _ _ _ hu1 (@pv _ 3 _ _ (by rfl) (by first|exact Or.inl rfl|exact Or.inr (Or.inl rfl)|exact Or.inr (Or.inr rfl)) (by decide) (by decide)) (@pe_tup _ _ _ _ _ (@pa_cX _ _ _ _ _ (@pv _ 6 _ _ (by rfl) (by first|exact Or.inl rfl|exact Or.inr (Or.inl rfl)|exact Or.inr (Or.inr rfl)) (by decide) (by decide)) (@pa_cX _ _ _ _ _ (@pv _ 5 _ _ (by rfl) (by first|exact Or.inl rfl|exact Or.inr (Or.inl rfl)|exact Or.inr (Or.inr rfl)) (by decide) (by decide)) (@pa_nil _) (by rfl)) (by rfl))) (by intro _ _; rfl))) (@pe_dget _ _ _ _ _ _ hu1 (@pv _ 3 _ _ (by rfl) (by first|exact Or.inl rfl|exact Or.inr (Or.inl rfl)|exact Or.inr (Or.inr rfl)) (by decide) (by decide)) (@pe_tup _ _ _ _ _ (@pa_cX _ _ _ _ _ (@pv _ 4 _ _ (by rfl) (by first|exact Or.inl rfl|exact Or.inr (Or.inl rfl)|exact Or.inr (Or.inr rfl)) (by decide) (by decide)) (@pa_cX _ _ _ _ _ (@pv _ 5 _ _ (by rfl) (by first|exact Or.inl rfl|exact Or.inr (Or.inl rfl)|exact Or.inr (Or.inr rfl)) (by decide) (by decide)) (@pa_nil _) (by rfl)) (by rfl))) (by intro _ _; rfl)) (nomark _)) (@pss_one _ _ _ (@ps_ret _ _ _ _ (@pe_bl _ _ _ _))) (@pss_nil _))))))))) (by intro _; rfl))) (by intro _; rfl)) (@pss_one _ _ _ (@ps_ret _ _ _ _ (@pe_bl _ _ _ _)))))),?_⟩
    simp (maxSteps:=1000000) only [tFor_eq,rLenX,lenX_r,lenO_l,Option.bind_some,Nat.reduceSub,Nat.reduceAdd,iRng1,cZ0,tSeq,eZ1,tVar,tAsg,gName,tCall,tCons,tNil,tCB,L2.start,mZ1,mZ0,lZ1,lZ0,List.replicate,List.cons_append,List.nil_append,gZ0,gZ1,sZ0,sZ1,oZ0,eZ0,V.int.injEq,and_true,aZ0,eph,lph]
    have hn:=B.n2
    refine ⟨pl,n,m,rfl,hn.1,hn.2,hL,fun p L H1 np s1 T1 S1 C1=>?_⟩
    refine ⟨by omega,by omega,for_range (n:=((n:Int)).toNat) (Pa ph pl p n H1) ⟨_,_,_,_,rfl,.refl _⟩ ?_ ?_⟩
    · rintro i σ H2 hi ⟨v4,v5,v6,v7,rfl,s2⟩
      have hi':i<n:=by omega
      simp (maxSteps:=1000000) only [tFor_eq,iRng1,cZ0,tVar,gName,tCons,tNil,gZ0,gZ1,sZ0,sZ1,oZ0,eZ0,V.int.injEq,and_true,Int.zero_add]
      refine ⟨by omega,by omega,for_range (n:=((n:Int)).toNat) (Pb ph pl p n H1 i) ⟨_,_,_,rfl,s2⟩ ?_ ?_⟩
      · rintro j σ H3 hj ⟨v5',v6',v7',rfl,s3⟩
        have hj':j<n:=by omega
        have B3:=B.same (s1.trans s3)
        obtain ⟨a,st,ea,es,Y,hme,xa⟩:=B3.at_ hi'
        have ex:=Y.inst
        have A1:=hA L S1 C1 i j st hi' hj' es
        simp (maxSteps:=1000000) only [rGet,getO_l,HO.ins.injEq,Nat.reduceAdd,tMeth,tDGet,cZ0,rEq_ii,tSeq,eZ1,if_true,tIfS,tOr,tTest,tOp,tVar,tC,rI0,tRet,tAsg,gName,tNext,tCons,tNil,tCB,tTup,lZ1,lZ0,gZ0,gZ1,sZ0,sZ1,oZ0,eZ0,V.int.injEq,V.bl.injEq,V.ref.injEq,and_true,true_and,and_assoc,aZ0,Int.zero_add,tDGet,B3.eph,xa,ex,fn_Ways_price_of]
        refine ⟨_,a,st,(j:Int),rfl,Y,by rw [sizeLine_eq]; omega,?_⟩
        intro p4 n4
        generalize z4:upd H3 p4 _=H4
        obtain ⟨s4,e4⟩:=new_same z4 n4
        have s34:=s3.trans s4
        refine ⟨_,(T1.same s34).get hi' hj' e4 rfl,?_⟩
        rw [A1.1]
        have hne:∀ (o:Option Int) (Ha:Hp) (Φ:VK),Φ (.bl false) Ha→rNe (optV o) (optV o) Ha Φ:=fun o Ha Φ h=>by
          cases o with
          | none=>exact ⟨rfl,h⟩
          | some v=>exact ⟨rfl,by rw [decide_eq_true (rfl:optV (some v)=optV (some v))]; exact h⟩
        refine hne _ _ _ ⟨false,rfl,?_⟩
        rw [if_neg (by decide)]
        have B4:=B3.same s4
        have Y4:=Y.same s4
        have ex4:=Y4.inst
        have done:∀ {Ha:Hp} {v5 v6 v7:Option V},Same H4 Ha→Pb ph pl p n H1 i (j+1) [some (V.ref ph),some (V.ref pl),some (V.int (n:Int)),some (V.ref p),some (V.int (i:Int)),v5,v6,v7] Ha:=fun sa=>⟨_,_,_,rfl,s34.trans sa⟩
        simp (maxSteps:=1000000) only [getO_l,HO.ins.injEq,eZ1,oZ0,eZ0,V.ref.injEq,true_and,and_assoc,B4.eph,xa,ex4,fn_Ways_next_of]
        refine ⟨_,a,st,(j:Int),rfl,Y4,?_⟩
        dsimp only
        by_cases hij:i=j
        · rw [if_pos (decide_eq_true (by omega)),A1.2.1 (.inl hij),if_neg (by simp [optV])]
          exact done (.refl _)
        · rw [if_neg (by simp; omega)]
          refine ⟨by rw [sizeLine_eq]; omega,?_⟩
          intro p5 n5
          generalize z5:upd H4 p5 _=H5
          obtain ⟨s5,e5⟩:=new_same z5 n5
          cases hLij:L i j with
          | none=>
            refine ⟨_,(T1.same (s34.trans s5)).get hi' hj' e5 hLij,?_⟩
            rw [if_pos (by simp [optV]),A1.2.1 (.inr hLij),if_neg (by simp [optV])]
            exact done s5
          | some y=>
            obtain ⟨b,l,x,g1,g2,g3,g4,g5,g6⟩:=A1.2.2 hij y hLij
            refine ⟨_,(T1.same (s34.trans s5)).get hi' hj' e5 hLij,?_⟩
            rw [if_neg (by simp [optV]),g1]
            refine ⟨(b:Int),rfl,(b:Int),rfl,by rw [sizeLine_eq]; omega,?_⟩
            intro p6 n6
            generalize z6:upd H5 p6 _=H6
            obtain ⟨s6,e6⟩:=new_same z6 n6
            have s36:=(s34.trans s5).trans s6
            have gl:=((hL.same s1).same s36).get hi' g2 (Ne.symm g3) e6
            rw [g4] at gl
            refine ⟨_,gl,?_⟩
            rw [if_neg (by simp [optV])]
            refine ⟨by rw [sizeLine_eq]; omega,?_⟩
            intro p7 n7
            generalize z7:upd H6 p7 _=H7
            obtain ⟨s7,e7⟩:=new_same z7 n7
            have s37:=s36.trans s7
            refine ⟨_,(T1.same s37).get g2 hj' e7 g5,?_⟩
            rw [if_neg (by simp [optV])]
            refine ⟨by rw [sizeLine_eq]; omega,?_⟩
            intro p8 n8
            generalize z8:upd H7 p8 _=H8
            obtain ⟨s8,e8⟩:=new_same z8 n8
            have s38:=s37.trans s8
            refine ⟨_,(T1.same s38).get g2 hj' e8 g5,l,rfl,x,rfl,by rw [sizeLine_eq]; omega,?_⟩
            intro p9 n9
            generalize z9:upd H8 p9 _=H9
            obtain ⟨s9,e9⟩:=new_same z9 n9
            refine ⟨_,(T1.same (s38.trans s9)).get hi' hj' e9 hLij,?_⟩
            rw [g6]
            refine hne (some y) _ _ ⟨false,rfl,?_⟩
            rw [if_neg (by decide)]
            exact done ((((s5.trans s6).trans s7).trans s8).trans s9)
      · rintro σ H3 ⟨v5',v6',v7',rfl,s3⟩
        exact ⟨_,_,_,_,rfl,s3⟩
    · rintro σ H2 ⟨v4,v5,v6,v7,rfl,s2⟩
      simp (maxSteps:=1000000) only [tC,tRet]
      exact q _ (s1.trans s2)
end
end K15
namespace L2
open PySem PySem.Spec PyProof.Rows
section
variable {prog:Program} {w:World} {A:Around} {E:Value→Shared→Prop} {s:Shared}
def RawD (h:Heap) (d:Addr) (es:Array DictEntry) (ep:Nat):Prop:=∃ o,h.get? d=some o∧o.ExactDict∧o.data=.dict es ep
theorem RawD.typeIs {d:Addr} {es:Array DictEntry} {ep:Nat} (x:RawD s.heap d es ep):s.TypeIs (.ref d) "dict":=let ⟨o,ho,hc,_⟩:=x; ⟨o,ho,hc.1⟩
theorem RawD.at' {h h':Heap} {d:Addr} {es:Array DictEntry} {ep:Nat} (x:RawD h d es ep) (e:∀ o,h.get? d=some o→h'.get? d=some o):RawD h' d es ep:=let ⟨o,ho,r⟩:=x; ⟨o,e o ho,r⟩
end
section
variable {X:Cx}
end
end L2
namespace L2
open PySem PySem.Spec PyProof.Rows
section
variable {prog:Program} {w:World} {A:Around} {E:Value→Shared→Prop} {s:Shared}
theorem keys_iter {d:Addr} {es:Array DictEntry} {ep:Nat} {Q:Value→Shared→Prop} (hS:(d == sysModules)=false) (hm:RawD s.heap d es ep)
    (hQ:Q (.ref s.heap.objs.size) { s with heap:=s.heap.push { cls:=.type "dict_keyiterator", data:=.fields #[.ref d,.int 0 0,.int es.size 0,.int ep 0] } }):wpAny (model prog w) A (pyIter (.ref d)) Q E s:=by
  obtain ⟨o,go,_,dat⟩:=id hm
  have ty:=hm.typeIs
  refine wpAny_pyIter_slot ty F.slot_dict_iter (wpAny_call_entry F.slot_dict_iter ty F.entry_dict_iter ?_ (F.args_dict_iter_1 _))
  unfold Builtin.«dict.__iter__»
  refine wpAny_bind ?_
  unfold Builtin.Dict.dictSlotNone
  refine wpAny_bind (wpAny_notOrdered_dict ty ?_)
  change wpAny _ _ (pure (Value.ref d)) _ _ s
  refine wpAny_pure ?_
  change wpAny _ _ (Builtin.Dict.showsAll d >>= _) _ _ s
  unfold Builtin.Dict.showsAll
  rw [if_neg (by rw [hS]; exact Bool.false_ne_true)]
  refine wpAny_bind (wpAny_pure ?_)
  refine wpAny_bind (wpAny_dictEntries go dat ?_)
  refine wpAny_bind (wpAny_dictEpoch go dat ?_)
  refine wpAny_bind (wpAny_newObj_type (wpAny_pure ⟨_,rfl,"dict_keyiterator", _,⟨_,Heap.get?_push_size _ rfl,rfl⟩,F.slot_dict_keyiterator_next.lookup,?_⟩))
  simpa [rawInt] using hQ
theorem keys_item {it d:Addr} {i ep:Nat} {es:Array DictEntry} {e:DictEntry} {Q:Option Value→Shared→Prop} (hit:s.heap.IsKeyIter it d i es.size ep) (hm:RawD s.heap d es ep) (hx:es[i]?=some e)
    (hQ:∀ h',h'.IsKeyIter it d (i+1) es.size ep→Heap.SameBut it s.heap h'→Q (some e.key) { s with heap:=h' }):wpAny (model prog w) A (pyNext (.ref it)) Q E s:=by
  obtain ⟨o,ho,hc,hd⟩:=id hit
  obtain ⟨od,god,_,dd⟩:=id hm
  unfold pyNext
  refine wpAny_bind (wpAny_attempt (wpAny_callSpecial?_slot (name:=Str.ofString "__next__") hit.typeIs F.slot_dict_keyiterator_next (wpAny_call_entry F.slot_dict_keyiterator_next hit.typeIs F.entry_dict_keyiterator_next ?_ (F.args_dict_keyiterator_next_1 _))))
  refine wpAny_bind (wpAny_pure ?_)
  refine wpAny_bind ?_
  refine wpAny_bind ?_
  first|(refine wpAny_bind (wpAny_typeNameOfWhole_keyiter hit.typeIs (wpAny_pure ?_)))|(refine wpAny_bind (wpAny_typeNameOf_keyiter hit.typeIs (wpAny_pure ?_)))
  refine wpAny_bind (wpAny_fieldsOf ho hd ?_)
  have own:Builtin.Dict_items.ownsTuple "dict_keyiterator"=false:=by decide
  simp only [own,Bool.false_eq_true,if_false]
  change wpAny _ _ (if (Value.ref d == Value.none)=true then _ else _) _ _ s
  rw [if_neg (show ¬ ((Value.ref d == Value.none)=true) from Bool.false_ne_true)]
  refine wpAny_bind (wpAny_pure ?_)
  refine wpAny_bind (wpAny_dictEntries god dd ?_)
  rw [if_neg (by simp)]
  refine wpAny_bind (wpAny_pure ?_)
  refine wpAny_bind (wpAny_dictEpoch god dd ?_)
  rw [if_neg (by simp)]
  refine wpAny_pure ?_
  have hlt:i<es.size:=(Array.getElem?_eq_some_iff.mp hx).1
  have hval:es[i].key=e.key:=by rw [(Array.getElem?_eq_some_iff.mp hx).2]
  simp only [show ¬ ((i:Int)<0) from by omega,if_false,Int.toNat_natCast,Array.getElem?_eq_getElem hlt]
  refine wpAny_bind ?_
  first|(refine wpAny_bind (wpAny_typeNameOfWhole_keyiter hit.typeIs (wpAny_pure ?_)))|(refine wpAny_bind (wpAny_typeNameOf_keyiter hit.typeIs (wpAny_pure ?_)))
  refine wpAny_bind (wpAny_isOneOf_keyiter hit.typeIs ?_)
  change wpAny _ _ (setField (.ref it) 1 (rawInt ((i:Int)+1)) >>= _) _ _ s
  refine wpAny_bind (wpAny_setField ho hd (by simp) ?_)
  have hit2:(s.heap.update it (Obj.mapFields (·.setIfInBounds 1 (rawInt ((i:Int)+1))))).IsKeyIter it d (i+1) es.size ep:=⟨_,Heap.get?_update_self _ ho (Obj.isFreed_of_fields (Obj.data_mapFields hd _)),(Obj.cls_mapFields ..).trans hc,by rw [Obj.data_mapFields hd]; simp [rawInt]⟩
  refine wpAny_bind (wpAny_holding ?_)
  refine wpAny_bind (wpAny_isOneOf_keyiter (s:={ s with heap:=s.heap.update it (Obj.mapFields (·.setIfInBounds 1 (rawInt ((i:Int)+1)))) }) hit2.typeIs ?_)
  change wpAny _ _ (pure es[i].key) _ _ _
  exact wpAny_pure (wpAny_pure ⟨_,rfl,wpAny_pure (by rw [hval]; exact hQ _ hit2 (Heap.SameBut.update ..))⟩)
theorem keys_end {it d:Addr} {ep:Nat} {es:Array DictEntry} {Q:Option Value→Shared→Prop} (hh:A.handled=none) (hit:s.heap.IsKeyIter it d es.size es.size ep) (hm:RawD s.heap d es ep)
    (hQ:∀ h',Heap.ExtBut it s.heap h'→Q none { s with heap:=h' }):wpAny (model prog w) A (pyNext (.ref it)) Q E s:=by
  obtain ⟨o,ho,hc,hd⟩:=id hit
  obtain ⟨od,god,_,dd⟩:=id hm
  unfold pyNext
  refine wpAny_bind (wpAny_attempt (wpAny_callSpecial?_slot (name:=Str.ofString "__next__") hit.typeIs F.slot_dict_keyiterator_next (wpAny_call_entry F.slot_dict_keyiterator_next hit.typeIs F.entry_dict_keyiterator_next ?_ (F.args_dict_keyiterator_next_1 _))))
  refine wpAny_bind (wpAny_pure ?_)
  refine wpAny_bind ?_
  refine wpAny_bind ?_
  first|(refine wpAny_bind (wpAny_typeNameOfWhole_keyiter hit.typeIs (wpAny_pure ?_)))|(refine wpAny_bind (wpAny_typeNameOf_keyiter hit.typeIs (wpAny_pure ?_)))
  refine wpAny_bind (wpAny_fieldsOf ho hd ?_)
  have own:Builtin.Dict_items.ownsTuple "dict_keyiterator"=false:=by decide
  simp only [own,Bool.false_eq_true,if_false]
  change wpAny _ _ (if (Value.ref d == Value.none)=true then _ else _) _ _ s
  rw [if_neg (show ¬ ((Value.ref d == Value.none)=true) from Bool.false_ne_true)]
  refine wpAny_bind (wpAny_pure ?_)
  refine wpAny_bind (wpAny_dictEntries god dd ?_)
  rw [if_neg (by simp)]
  refine wpAny_bind (wpAny_pure ?_)
  refine wpAny_bind (wpAny_dictEpoch god dd ?_)
  rw [if_neg (by simp)]
  refine wpAny_pure ?_
  simp only [show ¬ ((es.size:Int)<0) from by omega,if_false,Int.toNat_natCast,Array.getElem?_eq_none (Nat.le_refl es.size)]
  refine wpAny_bind ?_
  first|(refine wpAny_bind (wpAny_typeNameOfWhole_keyiter hit.typeIs (wpAny_pure ?_)))|(refine wpAny_bind (wpAny_typeNameOf_keyiter hit.typeIs (wpAny_pure ?_)))
  change wpAny _ _ (setField (.ref it) 0 .none >>= _) _ _ s
  refine wpAny_bind (wpAny_setField ho hd (by simp) ?_)
  change wpAny _ _ (newExc (.type "StopIteration") [] >>= _) _ _ _
  refine wpAny_bind ?_
  simp only [newExc,newTuple]
  refine wpAny_bind (wpAny_newObj_type ?_ (by size_fits))
  refine wpAny_bind (m:=firstArgMember _ _) (wpAny_of_eq (a:=Value.none) (by first|rfl|(simp only [firstArgMember]; rfl)) ?_)
  refine wpAny_newObj_type ?_ (by size_fits)
  simp only [raiseNew]
  refine wpAny_bind (wpAny_handled ?_)
  rw [show A.in1.handled=none from hh]
  refine wpAny_bind (wpAny_pure (wpAny_throw ?_))
  refine wpAny_bind (wpAny_isInstance (T:="StopIteration") (b:=true) ⟨_,Heap.get?_push_size _ rfl,rfl⟩ isSubtype_stop ?_)
  exact wpAny_pure (hQ _ (((Heap.SameBut.update ..).extBut.push _).push _))
theorem walks_keys (hh:A.handled=none) (I d:Addr) (hne:d≠I) (es:Array DictEntry) (ep:Nat):Walks prog w A I [I,d] [I] es.size (fun i v=>∃ e,es[i]?=some e∧v=e.key) (fun i h=>h.IsKeyIter I d i es.size ep∧RawD h d es ep) where
  sub:=fun b hb=>by simp at hb; simp [hb]
  frame:=fun _ _ _ st hk=>⟨(let ⟨o,ho,r⟩:=st.1; ⟨o,hk I (by simp) o ho,r⟩),st.2.at' fun o e=>hk d (by simp) o e⟩
  item:=fun i s Q E hi st hQ=>by
    have hx:es[i]?=some es[i]:=Array.getElem?_eq_getElem hi
    refine keys_item st.1 st.2 hx fun h' hit' sb=>?_
    exact hQ _ h' s.toks ⟨_,hx,rfl⟩ ⟨hit',st.2.at' fun o e=>sb.extBut _ _ hne e⟩ fun b o hb e=>sb.extBut b o (fun q=>hb (by simp [q])) e
  done:=fun s Q E st hQ=>keys_end hh st.1 st.2 fun h' eb=>hQ h' s.toks fun b o hb e=>eb b o (fun q=>hb (by simp [q])) e
  self:=fun _ _ _ _ st hQ=>wpAny_pyIter_keyiter st.1 hQ
theorem src_keys {d:Addr} {es:Array DictEntry} {ep:Nat} (hS:(d == sysModules)=false):PySem.W.KdlSrc prog w "dict" d d es.size (fun i v=>∃ e,es[i]?=some e∧v=e.key) (fun h=>RawD h d es ep) where
  type:=fun _ hm=>hm.typeIs
  there:=fun _ hm=>⟨(let ⟨_,ho,_⟩:=hm; Heap.lt_size ho),(let ⟨_,ho,_⟩:=hm; Heap.lt_size ho)⟩
  keep:=fun _ _ hm hk=>hm.at' fun o e=>hk d (.inr rfl) o e
  notList:=by decide
  notTuple:=by decide
  hint:=fun _ _ _ _ hm hq=>PySem.W.kdl_hint_dict hm.typeIs hq
  iter:=fun _ _ hh hm=>⟨_,_,(fun _ _ hq=>keys_iter hS hm hq),walks_keys hh _ d (Nat.ne_of_lt (let ⟨_,ho,_⟩:=hm; Heap.lt_size ho)) es ep,⟨⟨_,Heap.get?_push_size _ rfl,rfl,rfl⟩,hm.at' fun o e=>Heap.get?_push_of_some _ e⟩⟩
end
section
variable {X:Cx}
theorem kt_keys {P:Program} {w:World} {H:Hp}:∀ {l:List (List Key × V)} {m:List (List Key × Addr × Value)},KT H l m→Vals ((m.map fun q=>q.2.1).map V.ref) (m.map ((fun x:DictEntry=>x.key)∘entryOfKey (tupleKind (mixKind P w))))∧Paired (fun (p:List Key × V) a=>H a=some (.tup (p.1.map kV))) l (m.map fun q=>q.2.1)
  | _,_,.nil=>⟨.nil,.nil⟩
  | _,_,.cons q t=>⟨.cons rfl (kt_keys t).1,.cons q.2.1 (kt_keys (P:=P) (w:=w) t).2⟩
def rListT:List V→Hp→VK→Prop:=fun xs H Q=>∃ p kvs,xs=[.ref p]∧H p=some (.dT kvs)∧∀ (as:List Addr) l,H l=none→Paired (fun (e:List Key × V) a=>H a=some (.tup (e.1.map kV))) kvs as→Q (.ref l) (upd H l (.lst (as.map V.ref)))
theorem call_listT (hc:X.calm=true):CallR X (.type "list") rListT:=by
  intro pins s σ H xs us Q I r h
  obtain ⟨d,kvs,rfl,ed,q⟩:=h
  obtain ⟨u,rfl,rx⟩:=vals1 r
  cases rx
  obtain ⟨hz,hS,ms,rel,o,es,ep,h1,h2,h3,h4,h5⟩:=(show ObjOk X.prog X.w H s.heap d (.dT kvs) from I.hok d _ ed)
  have hm:RawD s.heap d es ep:=⟨o,h1,h2,h3⟩
  obtain ⟨rv,rp⟩:=kt_keys (P:=X.prog) (w:=X.w) rel
  have hlk:ms.length=kvs.length:=by have:=Paired.length rp; simpa using this.symm
  have hl:es.size=kvs.length:=by
    rw [← hlk,← Array.length_toList,h4,List.length_map]
  refine PySem.W.kdl_call (src_keys hS) (I.ok.hd hc) hm (by rw [hl]; exact hz) fun h' tk acc' c' hk hD hacc=>?_
  have hn:=I.hok.fresh (Nat.le_refl s.heap.objs.size)
  refine ⟨.ref s.heap.objs.size,_,I.laid (o:=.lst ((ms.map fun q=>q.2.1).map V.ref)) hk (Nat.le_refl _) ?_,rfl,q _ _ hn rp⟩
  refine ⟨by rw [List.length_map,List.length_map,hlk]; exact hz,acc'.toList,c',?_,by rw [Array.toArray_toList]; exact hD⟩
  have e:acc'.toList=es.toList.map (·.key):=by
    apply List.ext_getElem?
    intro j
    rw [List.getElem?_map,Array.getElem?_toList,Array.getElem?_toList]
    cases hj:acc'[j]? with
    | none=>
      have:acc'.size≤j:=by simpa using hj
      rw [hacc.1] at this
      rw [Array.getElem?_eq_none this]
      rfl
    | some v=>
      obtain ⟨e,he,rfl⟩:=hacc.2 j v hj
      rw [he]
      rfl
  rw [e,h4]
  simpa only [List.map_map] using rv
def rInDT:R2:=fun x y H Q=>∃ a o,y=.ref a∧DGet H a x o∧Q (.bl o.isSome) H
theorem op_inDT (hu:X.A.units+1<cLine):OpR X (compareOp .In) rInDT:=by
  intro pins s σ H x y v u Q I rx ry h
  obtain ⟨a,o,rfl,g,q⟩:=h
  obtain rfl:u=Value.ref a:=ry
  exact d_in hu I g rx fun s' I'=>⟨.bl o.isSome,H,I',rfl,q⟩
end
end L2
namespace K15
open PySem L2 PySem.W
abbrev s__law_changes:Stmt:=stm 9
theorem sc__law_changes:FnScope ["_law_cells","_law_many","_law_lines","_law_views","_law_cell","_law_number","_law_a","_law_b","_law_turn","_law_price_here","_law_one","_law_other","_law_k"] ["_law_cells","_law_many"] (defScope s__law_changes):=⟨rfl,rfl,rfl,by decide +kernel,rfl,by decide +kernel,by decide +kernel⟩
section
variable {P:Program} {w:World} {K:PySem.W.Frag} {mg:Str→Option Value} {base:Heap}
def CgD (H:Hp) (p:Addr) (n B:Nat):Prop:=∃ kvs,H p=some (.dT kvs)∧kvs.length≤B∧∀ e∈kvs,∃ (t a b:Nat) (o:Option Int),e=([Sum.inl (t:Int),Sum.inl (a:Int),Sum.inl (b:Int)],optV o)∧1≤t∧t≤9∧a<b∧b<n∧okP o
def VwD (H:Hp) (p:Addr) (B:Nat):Prop:=∃ kvs,H p=some (.dT kvs)∧kvs.length≤B
theorem putK_mem {α:Type} [DecidableEq α] {kvs:List (α × V)} {k:α} {v:V} {e:α × V} (h:e∈putK kvs k v):e=(k,v)∨e∈kvs:=by
  unfold putK at h
  split at h
  · obtain ⟨q,hq,rfl⟩:=List.mem_map.mp h
    by_cases hk:q.1=k
    · rw [if_pos hk]; exact .inl (by rw [hk])
    · rw [if_neg hk]; exact .inr hq
  · rcases List.mem_append.mp h with h|h
    · exact .inr h
    · exact .inl (List.mem_singleton.mp h)
theorem oth {n:Nat} {me d:Int} (n2:2≤n) (n4:n≤4) (m0:0≤me) (m1:me<n) (d0:0≤d) (d1:d<n - 1):0≤(me+1+d) % n∧(me+1+d) % n<n∧(me+1+d) % n≠me:=by
  have:n=2∨n=3∨n=4:=by omega
  rcases this with rfl|rfl|rfl <;> omega
def sp_changes:Sp:=fun vs H Q _=>∃ (pc:Addr) (cs:List Int) (n:Nat),vs=[.ref pc,.int (n:Int)]∧H pc=some (.lst (cs.map V.int))∧cs.length≤63∧2≤n∧n≤4 ∧
  ∀ p a b H',Same H H'→H a=none→H b=none→a≠b→H' p=some (.tup [.ref a,.ref b])→CgD H' a n 63→VwD H' b 126→Q (.ref p) H'
def Lga (pc:Addr) (n:Nat) (pa pb:Addr) (H:Hp) (i:Nat) (σ:St) (H':Hp):Prop:=∃ v4 v5 v6 v7 v8 v9 v10 v11 v12,σ=[some (.ref pc),some (.int (n:Int)),some (.ref pa),some (.ref pb),v4,v5,v6,v7,v8,v9,v10,v11,v12]∧CgD H' pa n i∧VwD H' pb (2 * i)∧Keep [pa,pb] H H'
set_option maxHeartbeats 4000000 in
theorem own_changes (D:Def K mg "_law_changes" s__law_changes) (hb:Blt mg) (F__law_mixed:Own P w K mg base 1 "_law_mixed" ["_law_cell","_law_k"] sp_mixed) (F__law_price:Own P w K mg base 1 "_law_price" ["_law_number"] sp_lprice):Own P w K mg base 2 "_law_changes" ["_law_cells","_law_many"] sp_changes:=by
  refine D.own sc__law_changes (fun _ _ _ _ _ _ us hl=>match us,hl with|[_,_],_=>rfl) (fun vs H Q E h=>?_) (fun f cdv A outer s H vs Q E hr h=>?_)
  · obtain ⟨pc,cs,n,rfl,_⟩:=h
    rfl
  · obtain ⟨pc,cs,n,rfl,ec,lc,m2,m4,q⟩:=h
    have hu:=hr.units
    have hu1:(A.deeper (PyProof.Rows.envOfC "_law_changes" (defScope s__law_changes) s.heap.objs.size f cdv)).units+1<cLine:=by omega
    refine ⟨_,(@pss_cons _ _ _ _ _ (@ps_set _ _ 2 _ _ _ _ sc__law_changes.nd rfl (by first|exact Or.inl rfl|exact Or.inr rfl) (@pe_dnewT _ _) (by rfl) (by first|exact .inl rfl|exact .inr rfl|assumption)) (@pss_cons _ _ _ _ _ (@ps_set _ _ 3 _ _ _ _ sc__law_changes.nd rfl (by first|exact Or.inl rfl|exact Or.inr rfl) (@pe_dnewT _ _) (by rfl) (by first|exact .inl rfl|exact .inr rfl|assumption)) (@pss_cons _ _ _ _ _ (@ps_for _ _ _ _ _ _ _ _ PassesOwn.never rfl (@pi_listK _ K _ _ _ (@pv _ 0 _ _ (by rfl) (by first|exact Or.inl rfl|exact Or.inr (Or.inl rfl)|exact Or.inr (Or.inr rfl)) (by decide) (by decide)) (by rfl)) (@pg_name _ _ 4 _ sc__law_changes.nd rfl (by first|exact Or.inl rfl|exact Or.inr rfl) (by first|exact .inl rfl|exact .inr rfl|assumption)) (@pss_cons _ _ _ _ _ (@ps_set _ _ 5 _ _ _ _ sc__law_changes.nd rfl (by first|exact Or.inl rfl|exact Or.inr rfl) (@pe_fn _ _ _ _ _ _ _ _ _ _ _ F__law_mixed hr (@pa_cX _ _ _ _ _ (@pv _ 4 _ _ (by rfl) (by first|exact Or.inl rfl|exact Or.inr (Or.inl rfl)|exact Or.inr (Or.inr rfl)) (by decide) (by decide)) (@pa_cX _ _ _ _ _ (@pe_int _ _ _ _) (@pa_nil _) (by rfl)) (by rfl)) (by decide) (by rfl) (by decide) (by rfl) (by rfl)) (by rfl) (by first|exact .inl rfl|exact .inr rfl|assumption)) (@pss_cons _ _ _ _ _ (@ps_set _ _ 6 _ _ _ _ sc__law_changes.nd rfl (by first|exact Or.inl rfl|exact Or.inr rfl) (@pe_op _ _ _ _ _ _ _ _ op_mod (@pv _ 5 _ _ (by rfl) (by first|exact Or.inl rfl|exact Or.inr (Or.inl rfl)|exact Or.inr (Or.inr rfl)) (by decide) (by decide)) (@pv _ 1 _ _ (by rfl) (by first|exact Or.inl rfl|exact Or.inr (Or.inl rfl)|exact Or.inr (Or.inr rfl)) (by decide) (by decide))) (by rfl) (by first|exact .inl rfl|exact .inr rfl|assumption)) (@pss_cons _ _ _ _ _ (@ps_set _ _ 7 _ _ _ _ sc__law_changes.nd rfl (by first|exact Or.inl rfl|exact Or.inr rfl) (@pe_op _ _ _ _ _ _ _ _ op_mod (@pe_op _ _ _ _ _ _ _ _ op_add (@pe_op _ _ _ _ _ _ _ _ op_add (@pv _ 6 _ _ (by rfl) (by first|exact Or.inl rfl|exact Or.inr (Or.inl rfl)|exact Or.inr (Or.inr rfl)) (by decide) (by decide)) (@pe_int _ _ _ _)) (@pe_op _ _ _ _ _ _ _ _ op_mod (@pe_op _ _ _ _ _ _ _ _ op_fdiv (@pv _ 5 _ _ (by rfl) (by first|exact Or.inl rfl|exact Or.inr (Or.inl rfl)|exact Or.inr (Or.inr rfl)) (by decide) (by decide)) (@pe_int _ _ _ _)) (@pe_op _ _ _ _ _ _ _ _ op_sub (@pv _ 1 _ _ (by rfl) (by first|exact Or.inl rfl|exact Or.inr (Or.inl rfl)|exact Or.inr (Or.inr rfl)) (by decide) (by decide)) (@pe_int _ _ _ _)))) (@pv _ 1 _ _ (by rfl) (by first|exact Or.inl rfl|exact Or.inr (Or.inl rfl)|exact Or.inr (Or.inr rfl)) (by decide) (by decide))) (by rfl) (by first|exact .inl rfl|exact .inr rfl|assumption)) (@pss_cons _ _ _ _ _ (@ps_set _ _ 8 _ _ _ _ sc__law_changes.nd rfl (by first|exact Or.inl rfl|exact Or.inr rfl) (@pe_op _ _ _ _ _ _ _ _ op_add (@pe_int _ _ _ _) (@pe_op _ _ _ _ _ _ _ _ op_mod (@pe_op _ _ _ _ _ _ _ _ op_fdiv (@pv _ 5 _ _ (by rfl) (by first|exact Or.inl rfl|exact Or.inr (Or.inl rfl)|exact Or.inr (Or.inr rfl)) (by decide) (by decide)) (@pe_int _ _ _ _)) (@pe_int _ _ _ _))) (by rfl) (by first|exact .inl rfl|exact .inr rfl|assumption)) (@pss_cons _ _ _ _ _ (@ps_set _ _ 9 _ _ _ _ sc__law_changes.nd rfl (by first|exact Or.inl rfl|exact Or.inr rfl) (@pe_fn _ _ _ _ _ _ _ _ _ _ _ F__law_price hr (@pa_cX _ _ _ _ _ (@pe_fn _ _ _ _ _ _ _ _ _ _ _ F__law_mixed hr (@pa_cX _ _ _ _ _ (@pv _ 4 _ _ (by rfl) (by first|exact Or.inl rfl|exact Or.inr (Or.inl rfl)|exact Or.inr (Or.inr rfl)) (by decide) (by decide)) (@pa_cX _ _ _ _ _ (@pe_int _ _ _ _) (@pa_nil _) (by rfl)) (by rfl)) (by decide) (by rfl) (by decide) (by rfl) (by rfl)) (@pa_nil _) (by rfl)) (by decide) (by rfl) (by decide) (by rfl) (by rfl)) (by rfl) (by first|exact .inl rfl|exact .inr rfl|assumption)) (@pss_cons _ _ _ _ _ (@ps_dput _ _ _ _ _ _ _ _ _ hu1 (@pv _ 2 _ _ (by rfl) (by first|exact Or.inl rfl|exact Or.inr (Or.inl rfl)|exact Or.inr (Or.inr rfl)) (by decide) (by decide)) (@pe_tup _ _ _ _ _ (@pa_cX _ _ _ _ _ (@pv _ 8 _ _ (by rfl) (by first|exact Or.inl rfl|exact Or.inr (Or.inl rfl)|exact Or.inr (Or.inr rfl)) (by decide) (by decide)) (@pa_cX _ _ _ _ _ (@pe_callB _ _ _ _ _ _ _ _ _ (call_min2 rfl) rfl (hb _ (by decide)) bt_min (@pa_cX _ _ _ _ _ (@pv _ 6 _ _ (by rfl) (by first|exact Or.inl rfl|exact Or.inr (Or.inl rfl)|exact Or.inr (Or.inr rfl)) (by decide) (by decide)) (@pa_cX _ _ _ _ _ (@pv _ 7 _ _ (by rfl) (by first|exact Or.inl rfl|exact Or.inr (Or.inl rfl)|exact Or.inr (Or.inr rfl)) (by decide) (by decide)) (@pa_nil _) (by rfl)) (by rfl)) (by decide) (by decide) (by rfl) (by rfl)) (@pa_cX _ _ _ _ _ (@pe_callB _ _ _ _ _ _ _ _ _ (call_max2 rfl) rfl (hb _ (by decide)) bt_max (@pa_cX _ _ _ _ _ (@pv _ 6 _ _ (by rfl) (by first|exact Or.inl rfl|exact Or.inr (Or.inl rfl)|exact Or.inr (Or.inr rfl)) (by decide) (by decide)) (@pa_cX _ _ _ _ _ (@pv _ 7 _ _ (by rfl) (by first|exact Or.inl rfl|exact Or.inr (Or.inl rfl)|exact Or.inr (Or.inr rfl)) (by decide) (by decide)) (@pa_nil _) (by rfl)) (by rfl)) (by decide) (by decide) (by rfl) (by rfl)) (@pa_nil _) (by rfl)) (by rfl)) (by rfl))) (@pv _ 9 _ _ (by rfl) (by first|exact Or.inl rfl|exact Or.inr (Or.inl rfl)|exact Or.inr (Or.inr rfl)) (by decide) (by decide)) rfl) (@pss_one _ _ _ (@ps_for _ _ _ _ _ _ _ _ PassesOwn.never rfl (@pi_tupK _ K _ _ _ (@pe_tup _ _ _ _ _ (@pa_cX _ _ _ _ _ (@pe_tup _ _ _ _ _ (@pa_cX _ _ _ _ _ (@pv _ 6 _ _ (by rfl) (by first|exact Or.inl rfl|exact Or.inr (Or.inl rfl)|exact Or.inr (Or.inr rfl)) (by decide) (by decide)) (@pa_cX _ _ _ _ _ (@pv _ 7 _ _ (by rfl) (by first|exact Or.inl rfl|exact Or.inr (Or.inl rfl)|exact Or.inr (Or.inr rfl)) (by decide) (by decide)) (@pa_cX _ _ _ _ _ (@pe_int _ _ _ _) (@pa_nil _) (by rfl)) (by rfl)) (by rfl))) (@pa_cX _ _ _ _ _ (@pe_tup _ _ _ _ _ (@pa_cX _ _ _ _ _ (@pv _ 7 _ _ (by rfl) (by first|exact Or.inl rfl|exact Or.inr (Or.inl rfl)|exact Or.inr (Or.inr rfl)) (by decide) (by decide)) (@pa_cX _ _ _ _ _ (@pv _ 6 _ _ (by rfl) (by first|exact Or.inl rfl|exact Or.inr (Or.inl rfl)|exact Or.inr (Or.inr rfl)) (by decide) (by decide)) (@pa_cX _ _ _ _ _ (@pe_int _ _ _ _) (@pa_nil _) (by rfl)) (by rfl)) (by rfl))) (@pa_nil _) (by rfl)) (by rfl))) (by rfl)) (@pg_seqX _ _ _ _ 3 _ rfl (@pgs_cons _ _ _ _ _ (@pg_name _ _ 10 _ sc__law_changes.nd rfl (by first|exact Or.inl rfl|exact Or.inr rfl) (by first|exact .inl rfl|exact .inr rfl|assumption)) (@pgs_cons _ _ _ _ _ (@pg_name _ _ 11 _ sc__law_changes.nd rfl (by first|exact Or.inl rfl|exact Or.inr rfl) (by first|exact .inl rfl|exact .inr rfl|assumption)) (@pgs_cons _ _ _ _ _ (@pg_name _ _ 12 _ sc__law_changes.nd rfl (by first|exact Or.inl rfl|exact Or.inr rfl) (by first|exact .inl rfl|exact .inr rfl|assumption)) (@pgs_nil _) (by rfl)) (by rfl)) (by rfl)) (by rfl) (by rfl)) (@pss_one _ _ _ (@ps_dput _ _ _ _ _ _ _ _ _ hu1 (@pv _ 3 _ _ (by rfl) (by first|exact Or.inl rfl|exact Or.inr (Or.inl rfl)|exact Or.inr (Or.inr rfl)) (by decide) (by decide)) (@pe_tup _ _ _ _ _ (@pa_cX _ _ _ _ _ (@pe_op _ _ _ _ _ _ _ _ op_add (@pv _ 8 _ _ (by rfl) (by first|exact Or.inl rfl|exact Or.inr (Or.inl rfl)|exact Or.inr (Or.inr rfl)) (by decide) (by decide)) (@pe_op _ _ _ _ _ _ _ _ op_mod (@pe_fn _ _ _ _ _ _ _ _ _ _ _ F__law_mixed hr (@pa_cX _ _ _ _ _ (@pv _ 4 _ _ (by rfl) (by first|exact Or.inl rfl|exact Or.inr (Or.inl rfl)|exact Or.inr (Or.inr rfl)) (by decide) (by decide)) (@pa_cX _ _ _ _ _ (@pv _ 12 _ _ (by rfl) (by first|exact Or.inl rfl|exact Or.inr (Or.inl rfl)|exact Or.inr (Or.inr rfl)) (by decide) (by decide)) (@pa_nil _) (by rfl)) (by rfl)) (by decide) (by rfl) (by decide) (by rfl) (by rfl)) (@pe_int _ _ _ _))) (@pa_cX _ _ _ _ _ (@pv _ 10 _ _ (by rfl) (by first|exact Or.inl rfl|exact Or.inr (Or.inl rfl)|exact Or.inr (Or.inr rfl)) (by decide) (by decide)) (@pa_cX _ _ _ _ _ (@pv _ 11 _ _ (by rfl) (by first|exact Or.inl rfl|exact Or.inr (Or.inl rfl)|exact Or.inr (Or.inr rfl)) (by decide) (by decide)) (@pa_nil _) (by rfl)) (by rfl)) (by rfl))) (@pv _ 8 _ _ (by rfl) (by first|exact Or.inl rfl|exact Or.inr (Or.inl rfl)|exact Or.inr (Or.inr rfl)) (by decide) (by decide)) rfl)) (by intro _; rfl))))))))) (by intro _; rfl)) (@pss_one _ _ _ (@ps_ret _ _ _ _ (@pe_tup _ _ _ _ _ (@pa_cX _ _ _ _ _ (@pv _ 2 _ _ (by rfl) (by first|exact Or.inl rfl|exact Or.inr (Or.inl rfl)|exact Or.inr (Or.inr rfl)) (by decide) (by decide)) (@pa_cX _ _ _ _ _ (@pv _ 3 _ _ (by rfl) (by first|exact Or.inl rfl|exact Or.inr (Or.inl rfl)|exact Or.inr (Or.inr rfl)) (by decide) (by decide)) (@pa_nil _) (by rfl)) (by rfl)))))))),?_⟩
    simp (maxSteps:=1000000) only [tFor_eq,Nat.reduceSub,Nat.reduceAdd,iList,tSeq,tVar,tAsg,gName,L2.start,mZ1,mZ0,lZ1,lZ0,List.replicate,List.cons_append,List.nil_append,gZ0,sZ0,sZ1,oZ0,eZ0,V.ref.injEq,tDNewT]
    intro p1 n1
    generalize z1:upd H p1 _=H1
    obtain ⟨s1,e1⟩:=new_same z1 n1
    intro p2 n2
    generalize z2:upd H1 p2 _=H2
    obtain ⟨s2,e2⟩:=new_same z2 n2
    have s12:=s1.trans s2
    have hpp:p1≠p2:=fun z=>by rw [z,n2] at e1; cases e1
    have hc1:pc ∉ [p1,p2]:=fun z=>by
      simp only [List.mem_cons,List.not_mem_nil,or_false] at z
      rcases z with rfl|rfl
      · rw [n1] at ec; cases ec
      · rw [s1 _ _ ec] at n2; cases n2
    have ec2:=s12 _ _ ec
    refine ⟨⟨_,SqL.of ec2⟩,for_list (xs:=cs.map V.int) (Lga pc n p1 p2 H2) ⟨_,_,_,_,_,_,_,_,_,rfl,⟨[],s2 _ _ e1,by simp,fun e he=>nomatch he⟩,⟨[],e2,by simp⟩,.refl⟩ ?_ ?_ ?_⟩
    · rintro i σ H' hi ⟨v4,v5,v6,v7,v8,v9,v10,v11,v12,rfl,hC,hV,k⟩
      exact SqL.of (k _ _ ec2 hc1)
    · rintro i cv σ H3 hcv ⟨v4,v5,v6,v7,v8,v9,v10,v11,v12,rfl,hC,hV,k3⟩
      rw [List.getElem?_map] at hcv
      obtain ⟨cc,hcc,rfl⟩:=Option.map_eq_some_iff.mp hcv
      have hi:i<cs.length:=(List.getElem?_eq_some_iff.mp hcc).1
      simp (maxSteps:=1000000) only [tFor_eq,Int.reduceLT,Nat.reduceAdd,sDPut,cZ0,tSeq,eZ1,tOp,tVar,tC,rI,rI0,tAsg,gName,tCall,tCons,tNil,tCB,tTup,lZ1,lZ0,gZ0,gZ1,sZ0,sZ1,oZ0,eZ0,V.int.injEq,V.ref.injEq,and_true,true_and,and_assoc,aZ0,sDPut,iTup]
      refine ⟨cc,1,rfl,by omega,by omega,fun r r0 r1=>⟨r,rfl,by omega,r,rfl,⟨by decide,by decide⟩,by omega,by omega,r,rfl,⟨by decide,by decide⟩,cc,2,rfl,by omega,by omega,fun r2 r20 r21=>⟨r2,rfl,r20,r21,fun o H4 s4 ho=>⟨by rw [sizeLine_eq]; omega,?_⟩⟩⟩⟩
      have a0:0≤r % (n:Int):=Int.emod_nonneg _ (by omega)
      have a1:r % (n:Int)<n:=Int.emod_lt_of_pos _ (by omega)
      have b0:0≤r / 16 % ((n:Int) - 1):=Int.emod_nonneg _ (by omega)
      have b1:r / 16 % ((n:Int) - 1)<n - 1:=Int.emod_lt_of_pos _ (by omega)
      have hot:=oth m2 m4 a0 a1 b0 b1
      generalize (r % (n:Int)+1+r / 16 % ((n:Int) - 1)) % n=ot at hot ⊢
      generalize r % (n:Int)=me at a0 a1 hot ⊢
      obtain ⟨o0,o1,one⟩:=hot
      obtain ⟨a,rfl⟩:=Int.eq_ofNat_of_zero_le a0
      obtain ⟨b,rfl⟩:=Int.eq_ofNat_of_zero_le o0
      obtain ⟨tt,htt⟩:∃ tt:Nat,1+r / 64 % 9=(tt:Int):=Int.eq_ofNat_of_zero_le (by omega)
      have ht1:1≤tt∧tt≤9:=by omega
      rw [htt]
      obtain ⟨x,y,hx,hy,hxy,hyn⟩:∃ x y:Nat,(if (b:Int)<(a:Int) then (b:Int) else (a:Int))=(x:Int)∧(if (b:Int) > (a:Int) then (b:Int) else (a:Int))=(y:Int)∧x<y∧y<n:=by
        by_cases h:b<a
        · exact ⟨b,a,if_pos (by omega),if_neg (by omega),h,by omega⟩
        · exact ⟨a,b,if_neg (by omega),if_pos (by omega),by omega,by omega⟩
      rw [hx,hy]
      intro p5 n5
      generalize z5:upd H4 p5 _=H5
      obtain ⟨s5,e5⟩:=new_same z5 n5
      have k5:=((k3.same s4).same s5)
      obtain ⟨kc,c1,c2,c3⟩:=hC
      obtain ⟨kw,w1,w2⟩:=hV
      have c1':=(s4.trans s5) _ _ c1
      have w1':=(s4.trans s5) _ _ w1
      refine ⟨_,DPut.t (k:=[Sum.inl (tt:Int),Sum.inl (x:Int),Sum.inl (y:Int)]) c1' e5 (by rw [sizeLine_eq]; omega),?_⟩
      generalize z6:upd H5 p1 _=H6
      have e6:H6 p1=some (.dT (putK kc [Sum.inl (tt:Int),Sum.inl (x:Int),Sum.inl (y:Int)] (optV o))):=by rw [← z6]; exact upd_same
      have k6:Keep [p1,p2] H2 H6:=by rw [← z6]; exact k5.upd (.inl (.head _))
      have w6:H6 p2=some (.dT kw):=by rw [← z6,upd_ne (Ne.symm hpp)]; exact w1'
      have C6:CgD H6 p1 n (i+1):=⟨_,e6,Nat.le_trans putK_le (by omega),fun e he=>by
        rcases putK_mem he with rfl|he
        · exact ⟨tt,x,y,o,rfl,ht1.1,ht1.2,hxy,hyn,ho⟩
        · exact c3 e he⟩
      refine ⟨by rw [sizeLine_eq]; omega,?_⟩
      intro p7 n7
      generalize z7:upd H6 p7 _=H7
      obtain ⟨s7,e7⟩:=new_same z7 n7
      refine ⟨by rw [sizeLine_eq]; omega,?_⟩
      intro p8 n8
      generalize z8:upd H7 p8 _=H8
      obtain ⟨s8,e8⟩:=new_same z8 n8
      refine ⟨by rw [sizeLine_eq]; omega,?_⟩
      intro p9 n9
      generalize z9:upd H8 p9 _=H9
      obtain ⟨s9,e9⟩:=new_same z9 n9
      have s69:=(s7.trans s8).trans s9
      have w9:=s69 _ _ w6
      have odd:∀ {b u},H9 b=some (.tup u)→b ∉ [p2]:=fun e z=>by
        rw [List.mem_singleton] at z
        rw [z,w9] at e
        cases e
      refine ⟨⟨_,SqT.of e9⟩,for_tup (xs:=[V.ref p7,V.ref p8]) (fun j σ H'=>∃ v10 v11 v12,σ=[some (V.ref pc),some (V.int (n:Int)),some (V.ref p1),some (V.ref p2),some (V.int cc),some (V.int r),some (V.int (a:Int)),some (V.int (b:Int)),some (V.int (tt:Int)),some (optV o),v10,v11,v12]∧VwD H' p2 (2 * i+j)∧Keep [p2] H9 H') ⟨_,_,_,rfl,⟨_,w9,by omega⟩,.refl⟩ ?_ ?_ ?_⟩
      · rintro j σ H' hj ⟨v10,v11,v12,rfl,hV,k⟩
        exact SqT.of (k _ _ e9 (odd e9))
      · rintro j v σ HA hv ⟨v10,v11,v12,rfl,hV,k⟩
        have hj:j<2:=(List.getElem?_eq_some_iff.mp hv).1
        obtain ⟨px,u,x',k0,rfl,ex,k1,k2⟩:∃ (px:Addr) (u x':Nat) (k0:Int),v=.ref px∧HA px=some (.tup [.int (u:Int),.int (x':Int),.int k0])∧0≤k0∧k0≤1000:=by
          have h7:=(s8.trans s9) _ _ e7
          have h8:=s9 _ _ e8
          rcases (show j=0∨j=1 by omega) with rfl|rfl
          · cases hv
            exact ⟨p7,a,b,3,rfl,k _ _ h7 (odd h7),by decide,by decide⟩
          · cases hv
            exact ⟨p8,b,a,4,rfl,k _ _ h8 (odd h8),by decide,by decide⟩
        simp (maxSteps:=1000000) only [gSeqX,seqO_t,gCons,gNil,Int.reduceLT,Nat.reduceAdd,sDPut,cZ0,eZ1,tOp,tVar,tC,rI,rI0,gName,tCall,tCons,tNil,tTup,lZ1,lZ0,gZ0,gZ1,sZ0,sZ1,oZ0,eZ0,V.int.injEq,V.ref.injEq,and_true,true_and,and_assoc,aZ0,ex,sDPut]
        refine ⟨cc,k0,rfl,k1,k2,fun r3 _ _=>⟨r3,rfl,by rw [sizeLine_eq]; omega,?_⟩⟩
        intro p10 n10
        generalize z10:upd HA p10 _=H10
        obtain ⟨s10,e10⟩:=new_same z10 n10
        obtain ⟨kv,v1,v2⟩:=hV
        exact ⟨_,DPut.t (k:=[Sum.inl ((tt:Int)+r3 % 4),Sum.inl (u:Int),Sum.inl (x':Int)]) (s10 _ _ v1) e10 (by rw [sizeLine_eq]; omega),⟨_,upd_same,Nat.le_trans putK_le (by omega)⟩,(k.same s10).upd (.inl (.head _))⟩
      · rintro σ H' ⟨v10,v11,v12,rfl,hV,k⟩
        have k69:Keep [p2] H6 H':=fun b o e hn=>k _ _ (s69 _ _ e) hn
        refine ⟨_,_,_,_,_,_,_,_,_,rfl,?_,?_,?_⟩
        · obtain ⟨kc',d1,d2⟩:=C6
          exact ⟨kc',k69 _ _ d1 (by rw [List.mem_singleton]; exact hpp),d2⟩
        · obtain ⟨kv,v1,v2⟩:=hV
          exact ⟨kv,v1,by simp only [lZ1,lZ0] at v2; omega⟩
        · exact fun b o e hn=>k69 _ _ (k6 _ _ e hn) fun z=>hn (by rw [List.mem_singleton] at z; rw [z]; exact .tail _ (.head _))
    · rintro σ HB ⟨v4,v5,v6,v7,v8,v9,v10,v11,v12,rfl,hC,hV,k⟩
      simp (maxSteps:=1000000) only [Nat.reduceAdd,tVar,tRet,tCons,tNil,tTup,lZ1,lZ0,gZ0,gZ1,oZ0,eZ0]
      refine ⟨by rw [sizeLine_eq]; omega,?_⟩
      intro p3 n3
      generalize z3:upd HB p3 _=H3
      obtain ⟨s3,e3⟩:=new_same z3 n3
      rw [List.length_map] at hC hV
      obtain ⟨kc,c1,c2,c3⟩:=hC
      obtain ⟨kw,w1,w2⟩:=hV
      refine q _ _ _ H3 (fun b o e=>s3 _ _ (k _ _ (s12 _ _ e) fun z=>?_)) n1 (s1.fr n2) hpp e3 ⟨kc,s3 _ _ c1,by omega,c3⟩ ⟨kw,s3 _ _ w1,by omega⟩
      simp only [List.mem_cons,List.not_mem_nil,or_false] at z
      rcases z with rfl|rfl
      · rw [n1] at e; cases e
      · rw [s1 _ _ e] at n2; cases n2
end
end K15
namespace K15
open PySem L2
def Outer (o:HO):Prop:=(∀ kvs,o≠.dK kvs)∧∀ C d fs,o≠.ins C d fs
theorem out_lst {xs:List V}:Outer (.lst xs):=⟨(fun _ z=>by cases z),(fun _ _ _ z=>by cases z)⟩
theorem out_tup {xs:List V}:Outer (.tup xs):=⟨(fun _ z=>by cases z),(fun _ _ _ z=>by cases z)⟩
theorem out_dT {xs:List (List Key × V)}:Outer (.dT xs):=⟨(fun _ z=>by cases z),(fun _ _ _ z=>by cases z)⟩
theorem out_tbl {ps:Array Value}:Outer (.tbl ps):=⟨(fun _ z=>by cases z),(fun _ _ _ z=>by cases z)⟩
theorem out_ext {φ:Heap→Prop}:Outer (.ext φ):=⟨(fun _ z=>by cases z),(fun _ _ _ z=>by cases z)⟩
theorem out_frz {o:Obj} {u:HO}:Outer (.frz o u):=⟨(fun _ z=>by cases z),(fun _ _ _ z=>by cases z)⟩
section
variable {C:Addr} {n:Nat} {H H':Hp} {ph pt:Addr} {as:List WA} {sts sts' sts'':List WSt}
theorem hand_out {dom:List Int} {a:WA} {st:WSt} (Y:WaysAt C dom H a st) {b:Addr} {o:HO} (e:H b=some o) (ho:Outer o):b ∉ a.x::ads a:=fun z=>by
  rcases List.mem_cons.mp z with z|z
  · rw [z,Y.inst] at e
    cases e
    exact ho.2 _ _ _ rfl
  · obtain ⟨kvs,h⟩:=Y.dic b z
    rw [h] at e
    cases e
    exact ho.1 _ rfl
theorem map_set_x {i:Nat} {a a':WA} (h:as[i]?=some a) (e:a'.x=a.x):(as.set i a').map (fun a=>V.ref a.x)=as.map fun a=>V.ref a.x:=by
  apply List.ext_getElem?
  intro j
  rw [List.getElem?_map,List.getElem?_map]
  by_cases z:j=i
  · subst z
    rw [List.getElem?_set_self (List.getElem?_eq_some_iff.mp h).1,h]
    simp [e]
  · rw [List.getElem?_set_ne (Ne.symm z)]
def Up (sts sts':List WSt):Prop:=sts'.length=sts.length∧∀ (i:Nat) st,sts[i]?=some st→∃ st',sts'[i]?=some st'∧∀ g,leM (markOf st g) (markOf st' g)
theorem Up.refl:Up sts sts:=⟨rfl,fun i st e=>⟨st,e,fun g=>.refl⟩⟩
theorem Up.trans (a:Up sts sts') (b:Up sts' sts''):Up sts sts'':=⟨by rw [b.1,a.1],fun i st e=>by
  obtain ⟨s1,e1,m1⟩:=a.2 i st e
  obtain ⟨s2,e2,m2⟩:=b.2 i s1 e1
  exact ⟨s2,e2,fun g=>(m1 g).trans (m2 g)⟩⟩
theorem Up.set {i:Nat} {st st':WSt} (h:sts[i]?=some st) (mono:∀ g,leM (markOf st g) (markOf st' g)):Up sts (sts.set i st'):=by
  refine ⟨by rw [List.length_set],fun j sj e=>?_⟩
  by_cases z:j=i
  · subst z
    rw [h] at e
    cases e
    exact ⟨st',List.getElem?_set_self (List.getElem?_eq_some_iff.mp h).1,mono⟩
  · exact ⟨sj,by rw [List.getElem?_set_ne (Ne.symm z)]; exact e,fun g=>.refl⟩
theorem Told.up {j:Nat} {rows:List Rw} (T:Told sts j rows) (u:Up sts sts'):Told sts' j rows:=fun r hr=>by
  obtain ⟨a,b,c⟩:=T r hr
  refine ⟨a,by rw [u.1]; exact b,fun p hp=>?_⟩
  obtain ⟨s,m,e1,e2,e3⟩:=c p hp
  obtain ⟨s',f1,f2⟩:=u.2 j s e1
  obtain ⟨m',g1,g2⟩:=f2 r.1 m e2
  exact ⟨s',m',f1,g1,nbet_trans e3 g2⟩
structure Hx (C:Addr) (n:Nat) (H:Hp) (ph pt:Addr) (as:List WA) (sts:List WSt):Prop where
  B:Hnd C n H ph as sts
  np:∀ (i:Nat) a,as[i]?=some a→pt ∉ ads a
  ep:∃ kvs,H pt=some (.dK kvs)
def Kq (pt:Addr) (H H':Hp):Prop:=∀ b o,H b=some o→Outer o∨b=pt→H' b=some o
theorem Kq.trans {H1 H2:Hp} (a:Kq pt H H1) (b:Kq pt H1 H2):Kq pt H H2:=fun c o e h=>b c o (a c o e h) h
theorem Kq.of_same (s:Same H H'):Kq pt H H':=fun c o e _=>s c o e
theorem Hx.same (X:Hx C n H ph pt as sts) (s:Same H H'):Hx C n H' ph pt as sts:=⟨X.B.same s,X.np,let ⟨k,e⟩:=X.ep; ⟨k,s _ _ e⟩⟩
theorem Hx.hand (X:Hx C n H ph pt as sts) {i:Nat} {a a':WA} {st st':WSt} (ha:as[i]?=some a) (hst:sts[i]?=some st) (Y:WaysAt C (domN n) H' a' st') (ex:a'.x=a.x) (fr:∀ b∈ads a',b∈ads a∨H b=none) (k:Keep (a.x::ads a) H H')
    (O:One sts i st') (mono:∀ g,leM (markOf st g) (markOf st' g)):Hx C n H' ph pt (as.set i a') (sts.set i st')∧Kq pt H H':=by
  have B:=X.B
  obtain ⟨kvp,ept⟩:=X.ep
  obtain ⟨Y0,hme⟩:=B.hs.at_ i a st ha hst
  have hi:i<as.length:=(List.getElem?_eq_some_iff.mp ha).1
  have hi2:i<sts.length:=(List.getElem?_eq_some_iff.mp hst).1
  have hpt:pt ∉ a.x::ads a:=fun z=>by
    rcases List.mem_cons.mp z with z|z
    · rw [z,Y0.inst] at ept; cases ept
    · exact X.np i a ha z
  have noT:∀ b∈a.x::ads a,NoT H b:=fun b hb=>by
    rcases List.mem_cons.mp hb with z|z
    · rw [z]; exact .of_ins Y0.inst
    · exact Y0.noT b z
  have lst:∀ b ys,H b=some (.lst ys)→b ∉ a.x::ads a:=fun b ys e=>hand_out Y0 e out_lst
  have other:∀ j aj sj,j≠i→as[j]?=some aj→sts[j]?=some sj→WaysAt C (domN n) H aj sj:=fun j aj sj _ h1 h2=>(B.hs.at_ j aj sj h1 h2).1
  refine ⟨⟨⟨⟨fun j aj sj h1 h2=>?_,by rw [List.length_set,List.length_set]; exact B.hs.len⟩,by rw [List.length_set]; exact B.n1,B.n2,?_,fun p q ap aq hpq h1 h2=>?_,B.net.set hst mono O⟩,fun j aj h1=>?_,kvp,k _ _ ept hpt⟩,fun b o e h=>k _ _ e ?_⟩
  · by_cases e:j=i
    · subst e
      rw [List.getElem?_set_self hi] at h1
      rw [List.getElem?_set_self hi2] at h2
      cases h1
      cases h2
      exact ⟨Y,O.me⟩
    · rw [List.getElem?_set_ne (Ne.symm e)] at h1 h2
      obtain ⟨Yj,mj⟩:=B.hs.at_ j aj sj h1 h2
      obtain ⟨d1,d2⟩:=B.dis j i aj a e h1 ha
      refine ⟨Yj.keep k noT (fun z=>?_) (fun b hb z=>?_),mj⟩
      · rcases List.mem_cons.mp z with z|z
        · exact d1 z
        · obtain ⟨kvs,h⟩:=Y0.dic _ z
          rw [Yj.inst] at h
          cases h
      · rcases List.mem_cons.mp z with z|z
        · obtain ⟨kvs,h⟩:=Yj.dic _ hb
          rw [z,Y0.inst] at h
          cases h
        · exact d2 b hb z
  · rw [map_set_x ha ex]
    exact k _ _ B.eph (lst _ _ B.eph)
  · have dj:∀ j aj,j≠i→as[j]?=some aj→aj.x≠a'.x∧(∀ z∈ads aj,z ∉ ads a'):=fun j aj hj h=>by
      obtain ⟨d1,d2⟩:=B.dis j i aj a hj h ha
      have hlt:j<sts.length:=by rw [← B.hs.len]; exact (List.getElem?_eq_some_iff.mp h).1
      have Yj:=other j aj _ hj h (List.getElem?_eq_getElem hlt)
      refine ⟨by rw [ex]; exact d1,fun z hz hz'=>?_⟩
      rcases fr z hz' with w|w
      · exact d2 z hz w
      · obtain ⟨kvs,e⟩:=Yj.dic z hz
        rw [w] at e
        cases e
    by_cases ep:p=i
    · subst ep
      rw [List.getElem?_set_self hi] at h1
      rw [List.getElem?_set_ne hpq] at h2
      cases h1
      obtain ⟨d1,d2⟩:=dj q aq (Ne.symm hpq) h2
      exact ⟨Ne.symm d1,fun z hz hz'=>d2 z hz' hz⟩
    · rw [List.getElem?_set_ne (Ne.symm ep)] at h1
      by_cases eq:q=i
      · subst eq
        rw [List.getElem?_set_self hi] at h2
        cases h2
        exact dj p ap ep h1
      · rw [List.getElem?_set_ne (Ne.symm eq)] at h2
        exact B.dis p q ap aq hpq h1 h2
  · by_cases e:j=i
    · subst e
      rw [List.getElem?_set_self hi] at h1
      cases h1
      intro z
      rcases fr _ z with w|w
      · exact X.np j a ha w
      · rw [w] at ept; cases ept
    · rw [List.getElem?_set_ne (Ne.symm e)] at h1
      exact X.np j aj h1
  · rcases h with h|rfl
    · exact hand_out Y0 e h
    · exact hpt
theorem Hx.keep (X:Hx C n H ph pt as sts) {S:List Addr} (k:Keep S H H') (hs:∀ b∈S,b≠ph∧((b=pt∧∃ kvs,H' b=some (.dK kvs))∨∃ o,H b=some o∧Outer o∧∀ xs,o≠.tup xs)):Hx C n H' ph pt as sts:=by
  obtain ⟨kvp,ept⟩:=X.ep
  have noT:∀ b∈S,NoT H b:=fun b hb xs z=>by
    rcases (hs b hb).2 with ⟨rfl,_⟩|⟨o,e,_,h⟩
    · rw [ept] at z; cases z
    · rw [e] at z; cases z; exact h _ rfl
  refine ⟨⟨⟨fun i a st e1 e2=>?_,X.B.hs.len⟩,X.B.n1,X.B.n2,k _ _ X.B.eph (fun z=>(hs _ z).1 rfl),X.B.dis,X.B.net⟩,X.np,?_⟩
  · obtain ⟨Y,m⟩:=X.B.hs.at_ i a st e1 e2
    refine ⟨Y.keep k noT (fun hb=>?_) (fun b hb hb2=>?_),m⟩
    · rcases (hs _ hb).2 with ⟨z,_⟩|⟨o,e,h,_⟩
      · rw [← z,Y.inst] at ept; cases ept
      · exact hand_out Y e h (.head _)
    · rcases (hs _ hb2).2 with ⟨z,_⟩|⟨o,e,h,_⟩
      · exact X.np i a e1 (z ▸ hb)
      · exact hand_out Y e h (List.mem_cons_of_mem _ hb)
  · by_cases z:pt∈S
    · rcases (hs _ z).2 with ⟨_,h⟩|⟨o,e,h,_⟩
      · exact h
      · rw [ept] at e; cases e; exact absurd rfl (h.1 _)
    · exact ⟨kvp,k _ _ ept z⟩
end
end K15
namespace K15
open PySem L2
def cnt (sta:Nat→Nat→Option Nat):Nat:=((List.range 16).filter fun z=>(sta (z / 4) (z % 4)).isNone).length
def StD (H:Hp) (p:Addr) (sta:Nat→Nat→Option Nat):Prop:=∃ kvs,H p=some (.dT kvs)∧kvs.length+cnt sta≤16∧∀ a b:Nat,valV kvs [Sum.inl (a:Int),Sum.inl (b:Int)]=(sta a b).map fun (s:Nat)=>V.int (s:Int)
def LoD (H:Hp) (p:Addr) (B:Nat) (lo:Nat→Nat→Nat→Prop):Prop:=∃ kvs,H p=some (.dT kvs)∧kvs.length≤B∧(∀ k v,valV kvs k=some v→∃ z:Int,v=.int z)∧∀ s a b:Nat,lo s a b→(∀ s',s<s'→¬ lo s' a b)→valV kvs [Sum.inl (a:Int),Sum.inl (b:Int)]=some (.int (s:Int))
def LtR (H:Hp) (kvs:List (Key × V)) (v:V) (l:Ltr):Prop:=∃ (q r:Addr) (ys:List V),v=.ref q∧H q=some (.tup [.int (l.1:Int),.int (l.2.1:Int),.int (l.2.2.1:Int),.ref r])∧H r=some (.lst ys)∧Paired (RRow H) ys l.2.2.2∧∀ k,valV kvs k≠some (.ref r)
structure LtD' (H:Hp) (pt:Addr) (av:List Addr) (B:Nat) (lt:Nat→List Ltr) (kvs:List (Key × V)):Prop where
  e:H pt=some (.dK kvs)
  l:kvs.length≤B
  no:∀ u:Nat,valV kvs (Sum.inl (u:Int))=none→lt u=[]
  at_:∀ (u:Nat) v,valV kvs (Sum.inl (u:Int))=some v→∃ L xs,v=.ref L∧L ∉ av∧H L=some (.lst xs)∧xs.length≤B∧Paired (LtR H kvs) xs (lt u)
  ls:∀ k L,valV kvs k=some (.ref L)→∃ xs,H L=some (.lst xs)
  inj:∀ k k' L,valV kvs k=some (.ref L)→valV kvs k'=some (.ref L)→k=k'
def LtD (H:Hp) (pt:Addr) (av:List Addr) (B:Nat) (lt:Nat→List Ltr):Prop:=∃ kvs,LtD' H pt av B lt kvs
section
variable {H H':Hp} {p pt:Addr} {av:List Addr} {B B' n:Nat} {lt:Nat→List Ltr} {sta:Nat→Nat→Option Nat} {lo:Nat→Nat→Nat→Prop} {kvs kvs':List (Key × V)} {S:List Addr} {v:V} {l:Ltr}
theorem pmap {α β:Type} {F G:α→β→Prop} {l₁:List α} {l₂:List β} (h:Paired F l₁ l₂) (f:∀ a b,F a b→G a b):Paired G l₁ l₂:=Paired.mapP h f
def KL (H H':Hp):Prop:=(∀ b xs,H b=some (.tup xs)→H' b=some (.tup xs))∧∀ b xs,H b=some (.lst xs)→H' b=some (.lst xs)
theorem KL.of_same (s:Same H H'):KL H H':=⟨fun _ _ e=>s _ _ e,fun _ _ e=>s _ _ e⟩
theorem KL.of_kq (k:Kq pt H H'):KL H H':=⟨fun _ _ e=>k _ _ e (.inl out_tup),fun _ _ e=>k _ _ e (.inl out_lst)⟩
theorem KL.of_keep (k:Keep S H H') (h:∀ b∈S,∀ o,H b=some o→(∀ xs,o≠.tup xs)∧∀ xs,o≠.lst xs):KL H H':=⟨fun _ _ e=>k _ _ e fun z=>(h _ z _ e).1 _ rfl,fun _ _ e=>k _ _ e fun z=>(h _ z _ e).2 _ rfl⟩
theorem RRow.kl {r:Rw} (h:RRow H v r) (k:KL H H'):RRow H' v r:=by
  obtain ⟨t,e,h⟩:=h
  exact ⟨t,e,k.1 _ _ h⟩
theorem LtR.kl (h:LtR H kvs v l) (k:KL H H') (hk:∀ i z,valV kvs' i=some z→valV kvs i=some z):LtR H' kvs' v l:=by
  obtain ⟨q,r,ys,e,h1,h2,h3,h4⟩:=h
  exact ⟨q,r,ys,e,k.1 _ _ h1,k.2 _ _ h2,pmap h3 fun _ _ z=>RRow.kl z k,fun i z=>h4 i (hk i _ z)⟩
theorem LtD'.kl (h:LtD' H pt av B lt kvs) (k:KL H H') (e:H' pt=some (.dK kvs)) (hB:B≤B'):LtD' H' pt av B' lt kvs:=by
  refine ⟨e,Nat.le_trans h.l hB,h.no,fun u v hv=>?_,fun i L z=>let ⟨xs,e⟩:=h.ls i L z; ⟨xs,k.2 _ _ e⟩,h.inj⟩
  obtain ⟨L,xs,e1,e2,e3,e4,e5⟩:=h.at_ u v hv
  exact ⟨L,xs,e1,e2,k.2 _ _ e3,Nat.le_trans e4 hB,pmap e5 fun _ _ z=>z.kl k fun _ _ y=>y⟩
theorem StD.keep (h:StD H p sta) (k:∀ o,H p=some o→H' p=some o):StD H' p sta:=by
  obtain ⟨kvs,e,h2⟩:=h
  exact ⟨kvs,k _ e,h2⟩
theorem LoD.keep (h:LoD H p B lo) (k:∀ o,H p=some o→H' p=some o) (hB:B≤B'):LoD H' p B' lo:=by
  obtain ⟨kvs,e,h1,h2⟩:=h
  exact ⟨kvs,k _ e,Nat.le_trans h1 hB,h2⟩
theorem pair_eq {a b x y:Nat}:([Sum.inl (a:Int),Sum.inl (b:Int)]:List Key)=[Sum.inl (x:Int),Sum.inl (y:Int)]↔a=x∧b=y:=by
  constructor
  · intro z
    injection z with z1 z2
    injection z2 with z2 _
    have y1:=Sum.inl.inj z1
    have y2:=Sum.inl.inj z2
    omega
  · rintro ⟨rfl,rfl⟩
    rfl
theorem put_len {α:Type} [DecidableEq α] {kvs:List (α × V)} {k:α} {v y:V} (h:valV kvs k=some y):(putK kvs k v).length=kvs.length:=by
  unfold putK
  rw [valV_any,h]
  simp
theorem StD.put {kv:List (List Key × V)} (e:H p=some (.dT kv)) (hl:kv.length+cnt sta≤16) (h:∀ a b:Nat,valV kv [Sum.inl (a:Int),Sum.inl (b:Int)]=(sta a b).map fun (s:Nat)=>V.int (s:Int)) {a b s:Nat} (ha:a<4) (hb:b<4):StD (upd H p (.dT (putK kv [Sum.inl (a:Int),Sum.inl (b:Int)] (.int (s:Int))))) p (setS sta a b s):=by
  refine ⟨_,upd_same,?_,fun x y=>?_⟩
  · have hz:∀ z,(setS sta a b s (z / 4) (z % 4)).isNone=true→(sta (z / 4) (z % 4)).isNone=true:=fun z hz=>by
      unfold setS at hz
      split at hz
      · cases hz
      · exact hz
    cases hs:sta a b with
    | some s0=>
      have hv:=h a b
      rw [hs] at hv
      rw [put_len hv]
      have:cnt (setS sta a b s)≤cnt sta:=LW.flt_le fun z _=>hz z
      omega
    | none=>
      have h1:(putK kv [Sum.inl (a:Int),Sum.inl (b:Int)] (V.int (s:Int))).length≤kv.length+1:=putK_le
      have e4:(4 * a+b) / 4=a:=by omega
      have e5:(4 * a+b) % 4=b:=by omega
      have:cnt (setS sta a b s)<cnt sta:=LW.flt_lt (z:=4 * a+b) (fun z _=>hz z) (List.mem_range.mpr (by omega)) (by rw [e4,e5,hs]; rfl) (by rw [e4,e5]; unfold setS; rw [if_pos ⟨rfl,rfl⟩]; rfl)
      omega
  · rw [valV_put]
    unfold setS
    by_cases z:x=a∧y=b
    · rw [if_pos z,if_pos (pair_eq.mpr z)]; rfl
    · rw [if_neg z,if_neg (fun w=>z (pair_eq.mp w))]; exact h x y
def setLo (lo:Nat→Nat→Nat→Prop) (t a b:Nat):Nat→Nat→Nat→Prop:=fun s x y=>lo s x y∨(s=t∧x=a∧y=b)
theorem LoD.put {kv:List (List Key × V)} (e:H p=some (.dT kv)) (hl:kv.length≤B) (hi:∀ k v,valV kv k=some v→∃ z:Int,v=.int z) (h:∀ s a b:Nat,lo s a b→(∀ s',s<s'→¬ lo s' a b)→valV kv [Sum.inl (a:Int),Sum.inl (b:Int)]=some (.int (s:Int))) {t a b:Nat} (hf:∀ s x y,t<s→¬ lo s x y):LoD (upd H p (.dT (putK kv [Sum.inl (a:Int),Sum.inl (b:Int)] (.int (t:Int))))) p (B+1) (setLo lo t a b):=by
  refine ⟨_,upd_same,Nat.le_trans putK_le (by omega),fun k v hk=>?_,fun s x y hs hn=>?_⟩
  · rw [valV_put] at hk
    split at hk
    · cases hk; exact ⟨_,rfl⟩
    · exact hi k v hk
  · rw [valV_put]
    by_cases z:x=a∧y=b
    · obtain ⟨rfl,rfl⟩:=z
      rw [if_pos (pair_eq.mpr ⟨rfl,rfl⟩)]
      rcases hs with hs|⟨rfl,_⟩
      · by_cases h1:s<t
        · exact absurd (Or.inr ⟨rfl,rfl,rfl⟩) (hn t h1)
        · by_cases h2:t<s
          · exact absurd hs (hf s x y h2)
          · have:s=t:=by omega
            rw [this]
      · rfl
    · rw [if_neg (fun w=>z (pair_eq.mp w))]
      rcases hs with hs|⟨_,h1,h2⟩
      · exact h s x y hs fun s' h' w=>hn s' h' (.inl w)
      · exact absurd ⟨h1,h2⟩ z
theorem valV_drop {k j:Key}:valV (dropK kvs k) j=if j=k then none else valV kvs j:=by
  induction kvs with
  | nil=>simp [dropK,valV_nil]
  | cons p r ih=>
    by_cases h:p.1=k
    · rw [dropK_pos h,ih]
      by_cases hj:j=k
      · rw [if_pos hj,if_pos hj]
      · rw [if_neg hj,if_neg hj,valV_neg (fun z=>hj (by rw [← z,h]))]
    · rw [dropK_neg h]
      by_cases hj:p.1=j
      · rw [valV_pos hj,valV_pos hj,if_neg (fun z=>h (by rw [hj,z]))]
      · rw [valV_neg hj,valV_neg hj,ih]
theorem LtD'.pop (h:LtD' H pt av B lt kvs) {t:Nat} {v:V} (hv:valV kvs (Sum.inl (t:Int))=some v):LtD (upd H pt (.dK (dropK kvs (Sum.inl (t:Int))))) pt av B (popL lt t):=by
  have k:KL H (upd H pt (.dK (dropK kvs (Sum.inl (t:Int))))):=KL.of_keep (S:=[pt]) (Keep.refl.upd (.inl (.head _))) fun b hb o e=>by
    rw [List.mem_singleton] at hb
    rw [hb,h.e] at e
    cases e
    exact ⟨(fun _ z=>by cases z),(fun _ z=>by cases z)⟩
  have lift:∀ i z,valV (dropK kvs (Sum.inl (t:Int))) i=some z→valV kvs i=some z:=fun i z e=>by
    rw [valV_drop] at e
    split at e
    · cases e
    · exact e
  refine ⟨_,upd_same,Nat.le_trans (dropK_le _ _) h.l,fun u hu=>?_,fun u v' hv'=>?_,fun i L e=>let ⟨xs,e'⟩:=h.ls i L (lift i _ e); ⟨xs,k.2 _ _ e'⟩,fun i j L e1 e2=>h.inj i j L (lift i _ e1) (lift j _ e2)⟩
  · unfold popL
    by_cases e:u=t
    · rw [if_pos e]
    · rw [if_neg e]
      rw [valV_drop,if_neg (fun z=>e (by have:=Sum.inl.inj z; omega))] at hu
      exact h.no u hu
  · have e:u≠t:=fun z=>by
      rw [z,valV_drop,if_pos rfl] at hv'
      cases hv'
    obtain ⟨L,xs,e1,e2,e3,e4,e5⟩:=h.at_ u v' (lift _ _ hv')
    unfold popL
    rw [if_neg e]
    exact ⟨L,xs,e1,e2,k.2 _ _ e3,e4,pmap e5 fun _ _ z=>z.kl k lift⟩
theorem LtD'.pop_none (h:LtD' H pt av B lt kvs) {t:Nat} (hv:valV kvs (Sum.inl (t:Int))=none):popL lt t=lt:=by
  funext u
  unfold popL
  split
  · next e=>rw [e,h.no t hv]
  · rfl
theorem LtD'.sd (h:LtD' H pt av B lt kvs) {u:Nat} {L:Addr} (hu:valV kvs (Sum.inl (u:Int))=none) (nL:H L=none) (s:Same H H') (eL:H' L=some (.lst [])) (hav:L ∉ av) :
    LtD' (upd H' pt (.dK (putK kvs (Sum.inl (u:Int)) (.ref L)))) pt av (B+1) lt (putK kvs (Sum.inl (u:Int)) (.ref L)):=by
  have k':KL H' (upd H' pt (.dK (putK kvs (Sum.inl (u:Int)) (.ref L)))):=KL.of_keep (S:=[pt]) (Keep.refl.upd (.inl (.head _))) fun b hb o e=>by
    rw [List.mem_singleton] at hb
    rw [hb,s _ _ h.e] at e
    cases e
    exact ⟨(fun _ z=>by cases z),(fun _ z=>by cases z)⟩
  have k:KL H (upd H' pt (.dK (putK kvs (Sum.inl (u:Int)) (.ref L)))):=⟨fun b xs e=>k'.1 _ _ (s _ _ e),fun b xs e=>k'.2 _ _ (s _ _ e)⟩
  have hf:∀ k,valV kvs k≠some (.ref L):=fun i z=>by
    obtain ⟨xs,e⟩:=h.ls i L z
    rw [nL] at e
    cases e
  have val:∀ i,valV (putK kvs (Sum.inl (u:Int)) (.ref L)) i=if i=Sum.inl (u:Int) then some (.ref L) else valV kvs i:=fun i=>valV_put _ _ _ _
  refine ⟨upd_same,Nat.le_trans putK_le (by have:=h.l; omega),fun w hw=>?_,fun w v hv=>?_,fun i L' e=>?_,fun i j L' e1 e2=>?_⟩
  · rw [val] at hw
    split at hw
    · cases hw
    · exact h.no w hw
  · rw [val] at hv
    split at hv
    · next e=>
      cases hv
      have:w=u:=by have:=Sum.inl.inj e; omega
      subst this
      exact ⟨L,[],rfl,hav,k'.2 _ _ eL,Nat.zero_le _,by rw [h.no w hu]; exact .nil⟩
    · obtain ⟨L',xs,e1,e2,e3,e4,e5⟩:=h.at_ w v hv
      refine ⟨L',xs,e1,e2,k.2 _ _ e3,by omega,pmap e5 fun y l hy=>?_⟩
      obtain ⟨q,r,ys,b1,b2,b3,b4,b5⟩:=hy
      refine ⟨q,r,ys,b1,k.1 _ _ b2,k.2 _ _ b3,pmap b4 fun _ _ z=>RRow.kl z k,fun i z=>?_⟩
      rw [val] at z
      split at z
      · have:=V.ref.inj (Option.some.inj z)
        rw [← this,nL] at b3
        cases b3
      · exact b5 i z
  · rw [val] at e
    split at e
    · cases e; exact ⟨_,k'.2 _ _ eL⟩
    · obtain ⟨xs,e'⟩:=h.ls i L' e
      exact ⟨xs,k.2 _ _ e'⟩
  · rw [val] at e1 e2
    split at e1
    · next z1=>
      split at e2
      · next z2=>rw [z1,z2]
      · cases e1; exact absurd e2 (hf j)
    · split at e2
      · cases e2; exact absurd e1 (hf i)
      · exact h.inj i j L' e1 e2
theorem psnoc {α β:Type} {R:α→β→Prop}:∀ {l:List α} {m:List β} {a:α} {b:β},Paired R l m→R a b→Paired R (l++[a]) (m++[b])
  | _,_,_,_,.nil,h=>.cons h .nil
  | _,_,_,_,.cons h t,h'=>.cons h (psnoc t h')
theorem LtD'.add (h:LtD' H pt av B lt kvs) {u:Nat} {L q r:Addr} {xs ys:List V} {l:Ltr} (hu:valV kvs (Sum.inl (u:Int))=some (.ref L)) (eL:H L=some (.lst xs)) (eq:H q=some (.tup [.int (l.1:Int),.int (l.2.1:Int),.int (l.2.2.1:Int),.ref r])) (er:H r=some (.lst ys)) (hy:Paired (RRow H) ys l.2.2.2) (hn:∀ k,valV kvs k≠some (.ref r)) :
    LtD' (upd H L (.lst (xs++[.ref q]))) pt av (B+1) (addL lt u l) kvs:=by
  have hne:∀ {b zs},H b=some (.lst zs)→b≠L→upd H L (.lst (xs++[.ref q])) b=some (.lst zs):=fun e hb=>by rw [upd_ne hb]; exact e
  have kt:∀ b zs,H b=some (.tup zs)→upd H L (.lst (xs++[.ref q])) b=some (.tup zs):=fun b zs e=>by
    rw [upd_ne (fun z=>by rw [z,eL] at e; cases e)]; exact e
  have ltr:∀ {v:V} {l:Ltr},LtR H kvs v l→LtR (upd H L (.lst (xs++[.ref q]))) kvs v l:=fun hv=>by
    obtain ⟨q',r',ys',b1,b2,b3,b4,b5⟩:=hv
    exact ⟨q',r',ys',b1,kt _ _ b2,hne b3 (fun z=>b5 _ (by rw [z]; exact hu)),pmap b4 fun _ _ ⟨t,z1,z2⟩=>⟨t,z1,kt _ _ z2⟩,b5⟩
  have new:LtR (upd H L (.lst (xs++[.ref q]))) kvs (.ref q) l:=ltr ⟨q,r,ys,rfl,eq,er,hy,hn⟩
  refine ⟨by rw [upd_ne (fun z=>by have:=h.e; rw [z,eL] at this; cases this)]; exact h.e,Nat.le_succ_of_le h.l,fun w hw=>?_,fun w v hv=>?_,fun i L' e=>?_,h.inj⟩
  · have:w≠u:=fun z=>by rw [z,hu] at hw; cases hw
    unfold addL
    rw [if_neg this]
    exact h.no w hw
  · obtain ⟨L',zs,e1,e2,e3,e4,e5⟩:=h.at_ w v hv
    subst e1
    unfold addL
    by_cases z:w=u
    · subst z
      rw [hu] at hv
      cases hv
      rw [eL] at e3
      cases e3
      rw [if_pos rfl]
      exact ⟨L,_,rfl,e2,upd_same,by rw [List.length_append,List.length_singleton]; omega,psnoc (pmap e5 fun _ _ y=>ltr y) new⟩
    · rw [if_neg z]
      refine ⟨L',zs,rfl,e2,hne e3 (fun y=>z ?_),by omega,pmap e5 fun _ _ y=>ltr y⟩
      have:=h.inj _ _ L (y ▸ hv) hu
      have:=Sum.inl.inj this
      omega
  · obtain ⟨zs,e'⟩:=h.ls i L' e
    by_cases z:L'=L
    · subst z; exact ⟨_,upd_same⟩
    · exact ⟨zs,hne e' z⟩
end
end K15
namespace K15
open PySem L2
theorem lines_of {H:Hp} {pl:Addr} {n:Nat} {m:Nat→Nat→Option Int} (hL:LnD H pl n n 0 m):LW.Lines n (cOf n m):=by
  obtain ⟨_,_,_,hlv⟩:=hL
  refine ⟨fun i b l e=>?_,fun i b l e=>?_⟩
  · unfold cOf at e
    split at e
    · next h=>
      by_cases h2:i<b
      · rw [Nat.min_eq_left (by omega),Nat.max_eq_right (by omega)] at e
        exact ((hlv i b h2 h.2.1 (.inl h.1)).2 l e).1
      · rw [Nat.min_eq_right (by omega),Nat.max_eq_left (by omega)] at e
        exact ((hlv b i (by omega) h.1 (.inl h.2.1)).2 l e).1
    · cases e
  · unfold cOf at e
    split at e
    · next h=>exact h
    · cases e
structure AW where
  ph:Addr
  pl:Addr
  pc:Addr
  pv:Addr
  ps:Addr
  px:Addr
  pt:Addr
  sc:Addr
  Pt:Addr
  av:List Addr
def Scr (K:PySem.W.Frag) (H:Hp) (sc:Addr) (av:List Addr) (xs:List V):Prop:=(Rd H sc (.lst xs)∧sc∈av)∨SqL K (fun _=>none) sc xs
theorem Scr.sq {K:PySem.W.Frag} {H:Hp} {sc:Addr} {av:List Addr} {xs:List V} (h:Scr K H sc av xs):SqL K H sc xs:=by
  rcases h with ⟨h,_⟩|(h|h)|h
  · exact .inl h
  · cases h
  · obtain ⟨o,h⟩:=h; cases h
  · exact .inr h
structure Oth (K:PySem.W.Frag) (n:Nat) (H:Hp) (A:AW) (ns:List Int) (sts:List WSt) (m:Nat→Nat→Option Int) (sta:Nat→Nat→Option Nat) (lo:Nat→Nat→Nat→Prop) (lt:Nat→List Ltr) (B:Nat):Prop where
  ln:LnD H A.pl n n 0 m
  cg:CgD H A.pc n 63
  vw:VwD H A.pv 126
  st:StD H A.ps sta
  fo:LoD H A.px B lo
  ft:LtD H A.pt A.av B lt
  tl:∀ u l,l∈lt u→Told sts l.1 l.2.2.2
  sc:Scr K H A.sc A.av (ns.map V.int)
  tb:TabOk H A.Pt nPos qN
  av:A.ph∈A.av∧∀ b∈A.av,∃ xs,Rd H b (.lst xs)
  d:[A.pl,A.pc,A.pv,A.ps,A.px].Nodup
structure Wd (K:PySem.W.Frag) (C:Addr) (n:Nat) (H:Hp) (A:AW) (ns:List Int) (as:List WA) (sts:List WSt) (m:Nat→Nat→Option Int) (sta:Nat→Nat→Option Nat) (lo:Nat→Nat→Nat→Prop) (lt:Nat→List Ltr) (B:Nat):Prop where
  hx:Hx C n H A.ph A.pt as sts
  ot:Oth K n H A ns sts m sta lo lt B
section
variable {K:PySem.W.Frag} {C:Addr} {n:Nat} {H H':Hp} {A:AW} {ns:List Int} {as:List WA} {sts sts':List WSt} {m m':Nat→Nat→Option Int} {sta sta':Nat→Nat→Option Nat} {lo lo':Nat→Nat→Nat→Prop} {lt lt':Nat→List Ltr} {B B':Nat}
theorem Oth.more (O:Oth K n H A ns sts m sta lo lt B) (h:B≤B'):Oth K n H A ns sts m sta lo lt B':=
  ⟨O.ln,O.cg,O.vw,O.st,O.fo.keep (fun _ e=>e) h,let ⟨k,x⟩:=O.ft; ⟨k,x.kl (.of_same (.refl _)) x.e h⟩,O.tl,O.sc,O.tb,O.av,O.d⟩
theorem Rd.kq {pt b:Addr} {xs:List V} (k:Kq pt H H') (h:Rd H b (.lst xs)):Rd H' b (.lst xs):=by
  rcases h with h|⟨o,h⟩
  · exact .inl (k _ _ h (.inl out_lst))
  · exact .inr ⟨o,k _ _ h (.inl out_frz)⟩
theorem Oth.kq (O:Oth K n H A ns sts m sta lo lt B) (k:Kq A.pt H H') (u:Up sts sts'):Oth K n H' A ns sts' m sta lo lt B:=by
  refine ⟨?_,?_,?_,?_,?_,?_,fun w l h=>(O.tl w l h).up u,?_,?_,⟨O.av.1,fun b hb=>?_⟩,O.d⟩
  · obtain ⟨kv,e,h⟩:=O.ln
    exact ⟨kv,k _ _ e (.inl out_dT),h⟩
  · obtain ⟨kv,e,h⟩:=O.cg
    exact ⟨kv,k _ _ e (.inl out_dT),h⟩
  · obtain ⟨kv,e,h⟩:=O.vw
    exact ⟨kv,k _ _ e (.inl out_dT),h⟩
  · obtain ⟨kv,e,h⟩:=O.st
    exact ⟨kv,k _ _ e (.inl out_dT),h⟩
  · obtain ⟨kv,e,h⟩:=O.fo
    exact ⟨kv,k _ _ e (.inl out_dT),h⟩
  · obtain ⟨kv,h⟩:=O.ft
    exact ⟨kv,h.kl (.of_kq k) (k _ _ h.e (.inr rfl)) (Nat.le_refl _)⟩
  · rcases O.sc with ⟨h,z⟩|h
    · exact .inl ⟨Rd.kq k h,z⟩
    · exact .inr h
  · rcases O.tb with z|⟨c,z,y⟩
    · exact .inl (k _ _ z (.inl out_tbl))
    · exact .inr ⟨c,k _ _ z (.inl out_tbl),k _ _ y (.inl out_ext)⟩
  · obtain ⟨xs,h⟩:=O.av.2 b hb
    exact ⟨xs,Rd.kq k h⟩
theorem Oth.same (O:Oth K n H A ns sts m sta lo lt B) (s:Same H H'):Oth K n H' A ns sts m sta lo lt B:=O.kq (.of_same s) .refl
theorem Wd.same (W:Wd K C n H A ns as sts m sta lo lt B) (s:Same H H'):Wd K C n H' A ns as sts m sta lo lt B:=⟨W.hx.same s,W.ot.same s⟩
theorem Wd.more (W:Wd K C n H A ns as sts m sta lo lt B) (h:B≤B'):Wd K C n H A ns as sts m sta lo lt B':=⟨W.hx,W.ot.more h⟩
theorem Wd.hand (W:Wd K C n H A ns as sts m sta lo lt B) {i:Nat} {a a':WA} {st st':WSt} (ha:as[i]?=some a) (hst:sts[i]?=some st) (Y:WaysAt C (domN n) H' a' st') (ex:a'.x=a.x) (fr:∀ b∈ads a',b∈ads a∨H b=none) (k:Keep (a.x::ads a) H H')
    (O:One sts i st') (mono:∀ g,leM (markOf st g) (markOf st' g)):Wd K C n H' A ns (as.set i a') (sts.set i st') m sta lo lt B∧Kq A.pt H H':=by
  obtain ⟨X,kq⟩:=W.hx.hand ha hst Y ex fr k O mono
  exact ⟨⟨X,W.ot.kq kq (.set hst mono)⟩,kq⟩
theorem Oth.rest (O:Oth K n H A ns sts m sta lo lt B) {p:Addr} (k:Keep [p] H H') (e:(∃ kv,H p=some (.dT kv))∨∃ q,H p=some (.tbl q)):LtD H' A.pt A.av B lt∧Scr K H' A.sc A.av (ns.map V.int)∧(∀ b∈A.av,∃ xs,Rd H' b (.lst xs)):=by
  have ne:∀ {b o},H b=some o→(∀ kv,o≠.dT kv)→(∀ q,o≠.tbl q)→b ∉ [p]:=fun h h1 h2 z=>by
    rw [List.mem_singleton] at z
    rw [z] at h
    rcases e with ⟨_,e⟩|⟨_,e⟩ <;> rw [e] at h <;> cases h
    · exact h1 _ rfl
    · exact h2 _ rfl
  have rd:∀ {b xs},Rd H b (.lst xs)→Rd H' b (.lst xs):=fun h=>by
    rcases h with h|⟨o,h⟩
    · exact .inl (k _ _ h (ne h (fun _ z=>by cases z) (fun _ z=>by cases z)))
    · exact .inr ⟨o,k _ _ h (ne h (fun _ z=>by cases z) (fun _ z=>by cases z))⟩
  refine ⟨?_,?_,fun b hb=>let ⟨xs,h⟩:=O.av.2 b hb; ⟨xs,rd h⟩⟩
  · obtain ⟨kv,h⟩:=O.ft
    refine ⟨kv,h.kl ⟨fun b xs z=>k _ _ z (ne z (fun _ z=>by cases z) (fun _ z=>by cases z)),fun b xs z=>k _ _ z (ne z (fun _ z=>by cases z) (fun _ z=>by cases z))⟩ (k _ _ h.e (ne h.e (fun _ z=>by cases z) (fun _ z=>by cases z))) (Nat.le_refl _)⟩
  · rcases O.sc with ⟨h,z⟩|h
    · exact .inl ⟨rd h,z⟩
    · exact .inr h
theorem tab_dT {p:Addr} {kv:List (List Key × V)} {Pt:Addr} (h:TabOk H Pt nPos qN) (k:Keep [p] H H') (e:H p=some (.dT kv)):TabOk H' Pt nPos qN:=h.keep k fun b hb=>by
  rw [List.mem_singleton] at hb
  subst hb
  exact ⟨(fun ps z=>by rw [e] at z; cases z),(fun φ z=>by rw [e] at z; cases z)⟩
theorem Hx.dT {ph pt p:Addr} {kv:List (List Key × V)} (X:Hx C n H ph pt as sts) (k:Keep [p] H H') (e:H p=some (.dT kv)):Hx C n H' ph pt as sts:=X.keep k fun b hb=>by
  rw [List.mem_singleton] at hb
  subst hb
  exact ⟨fun z=>(by have:=X.B.eph; rw [← z,e] at this; cases this),.inr ⟨_,e,out_dT,fun _ z=>by cases z⟩⟩
theorem nd5 {a b c d e:Addr} (h:[a,b,c,d,e].Nodup):(a≠b∧a≠c∧a≠d∧a≠e)∧(d≠a∧d≠b∧d≠c∧d≠e)∧(e≠a∧e≠b∧e≠c∧e≠d):=by
  simp only [List.nodup_cons,List.mem_cons,List.not_mem_nil,or_false,not_or,List.nodup_nil,and_true] at h
  grind
theorem Wd.line (W:Wd K C n H A ns as sts m sta lo lt B) {o:HO} (L:LnD (upd H A.pl o) A.pl n n 0 m'):Wd K C n (upd H A.pl o) A ns as sts m' sta lo lt B:=by
  obtain ⟨kv,e,_⟩:=W.ot.ln
  have k:Keep [A.pl] H (upd H A.pl o):=Keep.refl.upd (.inl (.head _))
  obtain ⟨r1,r2,r3⟩:=W.ot.rest k (.inl ⟨_,e⟩)
  obtain ⟨⟨n1,n2,n3,n4⟩,_⟩:=nd5 W.ot.d
  have O:=W.ot
  refine ⟨W.hx.dT k e,L,?_,?_,O.st.keep (fun _ z=>by rw [upd_ne (Ne.symm n3)]; exact z),O.fo.keep (fun _ z=>by rw [upd_ne (Ne.symm n4)]; exact z) (Nat.le_refl _),r1,O.tl,r2,tab_dT O.tb k e,⟨O.av.1,r3⟩,O.d⟩
  · obtain ⟨kv,e,h⟩:=O.cg
    exact ⟨kv,by rw [upd_ne (Ne.symm n1)]; exact e,h⟩
  · obtain ⟨kv,e,h⟩:=O.vw
    exact ⟨kv,by rw [upd_ne (Ne.symm n2)]; exact e,h⟩
theorem Wd.stamp (W:Wd K C n H A ns as sts m sta lo lt B) {o:HO} (L:StD (upd H A.ps o) A.ps sta'):Wd K C n (upd H A.ps o) A ns as sts m sta' lo lt B:=by
  obtain ⟨kv,e,_⟩:=W.ot.st
  have k:Keep [A.ps] H (upd H A.ps o):=Keep.refl.upd (.inl (.head _))
  obtain ⟨r1,r2,r3⟩:=W.ot.rest k (.inl ⟨_,e⟩)
  obtain ⟨_,⟨n1,n2,n3,n4⟩,_⟩:=nd5 W.ot.d
  have O:=W.ot
  refine ⟨W.hx.dT k e,?_,?_,?_,L,O.fo.keep (fun _ z=>by rw [upd_ne (Ne.symm n4)]; exact z) (Nat.le_refl _),r1,O.tl,r2,tab_dT O.tb k e,⟨O.av.1,r3⟩,O.d⟩
  · obtain ⟨kv,e,h⟩:=O.ln
    exact ⟨kv,by rw [upd_ne (Ne.symm n1)]; exact e,h⟩
  · obtain ⟨kv,e,h⟩:=O.cg
    exact ⟨kv,by rw [upd_ne (Ne.symm n2)]; exact e,h⟩
  · obtain ⟨kv,e,h⟩:=O.vw
    exact ⟨kv,by rw [upd_ne (Ne.symm n3)]; exact e,h⟩
theorem Wd.lose (W:Wd K C n H A ns as sts m sta lo lt B) {o:HO} (L:LoD (upd H A.px o) A.px (B+1) lo'):Wd K C n (upd H A.px o) A ns as sts m sta lo' lt (B+1):=by
  obtain ⟨kv,e,_⟩:=W.ot.fo
  have k:Keep [A.px] H (upd H A.px o):=Keep.refl.upd (.inl (.head _))
  obtain ⟨r1,r2,r3⟩:=W.ot.rest k (.inl ⟨_,e⟩)
  obtain ⟨_,_,n1,n2,n3,n4⟩:=nd5 W.ot.d
  have O:=W.ot
  refine ⟨W.hx.dT k e,?_,?_,?_,O.st.keep (fun _ z=>by rw [upd_ne (Ne.symm n4)]; exact z),L,let ⟨kv,h⟩:=r1; ⟨kv,h.kl (.of_same (.refl _)) h.e (Nat.le_succ _)⟩,O.tl,r2,tab_dT O.tb k e,⟨O.av.1,r3⟩,O.d⟩
  · obtain ⟨kv,e,h⟩:=O.ln
    exact ⟨kv,by rw [upd_ne (Ne.symm n1)]; exact e,h⟩
  · obtain ⟨kv,e,h⟩:=O.cg
    exact ⟨kv,by rw [upd_ne (Ne.symm n2)]; exact e,h⟩
  · obtain ⟨kv,e,h⟩:=O.vw
    exact ⟨kv,by rw [upd_ne (Ne.symm n3)]; exact e,h⟩
theorem Wd.tab (W:Wd K C n H A ns as sts m sta lo lt B) (k:Keep [A.Pt] H H') (T:TabOk H' A.Pt nPos qN):Wd K C n H' A ns as sts m sta lo lt B:=by
  have O:=W.ot
  have e:∃ q,H A.Pt=some (.tbl q):=by
    rcases O.tb with z|⟨c,z,_⟩ <;> exact ⟨_,z⟩
  obtain ⟨q,e⟩:=e
  obtain ⟨r1,r2,r3⟩:=O.rest k (.inr ⟨_,e⟩)
  have ne:∀ {b kv},H b=some (.dT kv)→b ∉ [A.Pt]:=fun h z=>by
    rw [List.mem_singleton] at z
    rw [z,e] at h
    cases h
  refine ⟨W.hx.keep k fun b hb=>?_,?_,?_,?_,?_,?_,r1,O.tl,r2,T,⟨O.av.1,r3⟩,O.d⟩
  · rw [List.mem_singleton] at hb
    subst hb
    exact ⟨fun z=>(by have:=W.hx.B.eph; rw [← z,e] at this; cases this),.inr ⟨_,e,out_tbl,fun _ z=>by cases z⟩⟩
  · obtain ⟨kv,e,h⟩:=O.ln
    exact ⟨kv,k _ _ e (ne e),h⟩
  · obtain ⟨kv,e,h⟩:=O.cg
    exact ⟨kv,k _ _ e (ne e),h⟩
  · obtain ⟨kv,e,h⟩:=O.vw
    exact ⟨kv,k _ _ e (ne e),h⟩
  · obtain ⟨kv,e,h⟩:=O.st
    exact ⟨kv,k _ _ e (ne e),h⟩
  · obtain ⟨kv,e,h⟩:=O.fo
    exact ⟨kv,k _ _ e (ne e),h⟩
theorem Wd.lets (W:Wd K C n H A ns as sts m sta lo lt B) {p:Addr} {o:HO} (hp:(p=A.pt∧∃ kv,o=.dK kv)∨(p ∉ A.av∧∃ xs,H p=some (.lst xs))) (L:LtD (upd H p o) A.pt A.av B' lt') (hB:B≤B') (T:∀ u l,l∈lt' u→Told sts l.1 l.2.2.2):Wd K C n (upd H p o) A ns as sts m sta lo lt' B':=by
  have O:=W.ot
  obtain ⟨kvp,ept⟩:=W.hx.ep
  have ne:∀ {b u},H b=some u→(∀ kv,u≠.dK kv)→(∀ xs,u≠.lst xs)→b≠p:=fun h h1 h2 z=>by
    rw [z] at h
    rcases hp with ⟨rfl,_⟩|⟨_,xs,e⟩
    · rw [ept] at h; cases h; exact h1 _ rfl
    · rw [e] at h; cases h; exact h2 _ rfl
  have ned:∀ {b kv},H b=some (.dT kv)→upd H p o b=some (.dT kv):=fun h=>by
    rw [upd_ne (ne h (fun _ z=>by cases z) (fun _ z=>by cases z))]; exact h
  have avp:∀ b∈A.av,b≠p:=fun b hb z=>by
    rcases hp with ⟨rfl,_⟩|⟨h,_⟩
    · obtain ⟨xs,h|⟨q,h⟩⟩:=O.av.2 b hb <;> (rw [z,ept] at h; cases h)
    · exact h (z ▸ hb)
  have rd:∀ {b xs},b∈A.av→Rd H b (.lst xs)→Rd (upd H p o) b (.lst xs):=fun hb h=>by
    unfold Rd
    rw [upd_ne (avp _ hb)]
    exact h
  refine ⟨W.hx.keep (S:=[p]) (Keep.refl.upd (.inl (.head _))) fun b hb=>?_,?_,?_,?_,O.st.keep (fun _ z=>?_),O.fo.keep (fun _ z=>?_) hB,L,T,?_,?_,⟨O.av.1,fun b hb=>let ⟨xs,h⟩:=O.av.2 b hb; ⟨xs,rd hb h⟩⟩,O.d⟩
  · rw [List.mem_singleton] at hb
    subst hb
    refine ⟨Ne.symm (avp _ O.av.1),?_⟩
    rcases hp with ⟨h,kv,rfl⟩|⟨_,xs,e⟩
    · exact .inl ⟨h,kv,upd_same⟩
    · exact .inr ⟨_,e,out_lst,fun _ z=>by cases z⟩
  · obtain ⟨kv,e,h⟩:=O.ln
    exact ⟨kv,ned e,h⟩
  · obtain ⟨kv,e,h⟩:=O.cg
    exact ⟨kv,ned e,h⟩
  · obtain ⟨kv,e,h⟩:=O.vw
    exact ⟨kv,ned e,h⟩
  · obtain ⟨kv,e,h⟩:=O.st
    rw [e] at z
    cases z
    exact ned e
  · obtain ⟨kv,e,h⟩:=O.fo
    rw [e] at z
    cases z
    exact ned e
  · rcases O.sc with ⟨h,z⟩|h
    · exact .inl ⟨rd z h,z⟩
    · exact .inr h
  · rcases O.tb with z|⟨c,z,y⟩
    · exact .inl (by rw [upd_ne (ne z (fun _ z=>by cases z) (fun _ z=>by cases z))]; exact z)
    · exact .inr ⟨c,by rw [upd_ne (ne z (fun _ z=>by cases z) (fun _ z=>by cases z))]; exact z,by rw [upd_ne (ne y (fun _ z=>by cases z) (fun _ z=>by cases z))]; exact y⟩
end
end K15
namespace K15
open PySem L2 PySem.W
abbrev s__law_told:Stmt:=stm 10
theorem sc__law_told:FnScope ["_law_hands","_law_lines","_law_views","_law_turn","_law_many","_law_a","_law_b"] ["_law_hands","_law_lines","_law_views","_law_turn"] (defScope s__law_told):=⟨rfl,rfl,rfl,by decide +kernel,rfl,by decide +kernel,by decide +kernel⟩
section
variable {P:Program} {w:World} {K:PySem.W.Frag} {mg:Str→Option Value} {base:Heap} {C:Addr}
def TolP (n:Nat) (m:Nat→Nat→Option Int) (t:Nat) (D:Nat→Nat→Prop) (sts sts':List WSt):Prop:=∀ (j:Nat) st,sts[j]?=some st→∃ f,sts'[j]?=some { st with lp:=f }∧∀ b:Nat,b<n→b≠j→f (b:Int)=some (cOf n m j b)∨(f (b:Int)=st.lp (b:Int)∧(t=13→¬ D j b))
theorem TolP.put {n t i j:Nat} {m:Nat→Nat→Option Int} {D D':Nat→Nat→Prop} {sts sts':List WSt} {st:WSt} (h:TolP n m t D sts sts') (hst:sts'[i]?=some st) (hD:∀ x y,x<sts.length→y<n→D' x y→D x y∨(x=i∧y=j)):TolP n m t D' sts (sts'.set i { st with lp:=fun z=>if z=(j:Int) then some (cOf n m i j) else st.lp z }):=fun x sx ex=>by
  obtain ⟨f,e1,e2⟩:=h x sx ex
  by_cases hx:x=i
  · subst hx
    rw [hst] at e1
    cases e1
    refine ⟨_,List.getElem?_set_self (List.getElem?_eq_some_iff.mp hst).1,fun b hb hbx=>?_⟩
    dsimp only
    by_cases hbj:b=j
    · subst hbj
      rw [if_pos rfl]
      exact .inl rfl
    · rw [if_neg (by omega)]
      rcases e2 b hb hbx with z|⟨z1,z2⟩
      · exact .inl z
      · refine .inr ⟨z1,fun h13 w=>?_⟩
        rcases hD x b (List.getElem?_eq_some_iff.mp ex).1 hb w with y|⟨_,y⟩
        · exact z2 h13 y
        · exact hbj y
  · refine ⟨f,by rw [List.getElem?_set_ne (Ne.symm hx)]; exact e1,fun b hb hbx=>?_⟩
    rcases e2 b hb hbx with z|⟨z1,z2⟩
    · exact .inl z
    · refine .inr ⟨z1,fun h13 w=>?_⟩
      rcases hD x b (List.getElem?_eq_some_iff.mp ex).1 hb w with y|⟨y,_⟩
      · exact z2 h13 y
      · exact hx y
theorem TolP.skip {n t i j:Nat} {m:Nat→Nat→Option Int} {D D':Nat→Nat→Prop} {sts sts':List WSt} (h:TolP n m t D sts sts') (hn:i=j∨t≠13) (hD:∀ x y,x<sts.length→y<n→D' x y→D x y∨(x=i∧y=j)):TolP n m t D' sts sts':=fun x sx ex=>by
  obtain ⟨f,e1,e2⟩:=h x sx ex
  refine ⟨f,e1,fun b hb hbx=>?_⟩
  rcases e2 b hb hbx with z|⟨z1,z2⟩
  · exact .inl z
  · refine .inr ⟨z1,fun h13 w=>?_⟩
    rcases hD x b (List.getElem?_eq_some_iff.mp ex).1 hb w with y|⟨y1,y2⟩
    · exact z2 h13 y
    · rcases hn with hn|hn
      · omega
      · exact hn h13
def sp_told (K:PySem.W.Frag) (C:Addr):Sp:=fun vs H Q _=>∃ (A:AW) (n t:Nat) (ns:List Int) (as:List WA) (sts:List WSt) (m:Nat→Nat→Option Int) (sta:Nat→Nat→Option Nat) (lo:Nat→Nat→Nat→Prop) (lt:Nat→List Ltr) (B:Nat),vs=[.ref A.ph,.ref A.pl,.ref A.pv,.int (t:Int)]∧Wd K C n H A ns as sts m sta lo lt B ∧
  ∀ as' sts' H',Wd K C n H' A ns as' sts' m sta lo lt B→Up sts sts'→TolP n m t (fun _ _=>True) sts sts'→Kq A.pt H H'→Q .non H'
def tσ (A:AW) (n t:Nat) (v5 v6:Option V):St:=[some (.ref A.ph),some (.ref A.pl),some (.ref A.pv),some (.int (t:Int)),some (.int (n:Int)),v5,v6]
structure Tst (K:PySem.W.Frag) (C:Addr) (n t:Nat) (A:AW) (ns:List Int) (sts:List WSt) (m:Nat→Nat→Option Int) (sta:Nat→Nat→Option Nat) (lo:Nat→Nat→Nat→Prop) (lt:Nat→List Ltr) (B:Nat) (D:Nat→Nat→Prop) (H H':Hp) (as':List WA) (sts':List WSt):Prop where
  W:Wd K C n H' A ns as' sts' m sta lo lt B
  u:Up sts sts'
  T:TolP n m t D sts sts'
  k:Kq A.pt H H'
def Ta (K:PySem.W.Frag) (C:Addr) (n t:Nat) (A:AW) (ns:List Int) (sts:List WSt) (m:Nat→Nat→Option Int) (sta:Nat→Nat→Option Nat) (lo:Nat→Nat→Nat→Prop) (lt:Nat→List Ltr) (B:Nat) (H:Hp) (i:Nat) (σ:St) (H':Hp):Prop:=∃ v5 v6 as' sts',σ=tσ A n t v5 v6∧Tst K C n t A ns sts m sta lo lt B (fun x _=>x<i) H H' as' sts'
def Tb (K:PySem.W.Frag) (C:Addr) (n t:Nat) (A:AW) (ns:List Int) (sts:List WSt) (m:Nat→Nat→Option Int) (sta:Nat→Nat→Option Nat) (lo:Nat→Nat→Nat→Prop) (lt:Nat→List Ltr) (B:Nat) (H:Hp) (i j:Nat) (σ:St) (H':Hp):Prop:=∃ v6 as' sts',σ=tσ A n t (some (.int (i:Int))) v6∧Tst K C n t A ns sts m sta lo lt B (fun x y=>x<i∨(x=i∧y<j)) H H' as' sts'
set_option maxHeartbeats 4000000 in
theorem own_told (D:Def K mg "_law_told" s__law_told) (hb:Blt mg) (T_Ways:ClsD K mg "Ways" C at_Ways) (M_Ways_priced:OwnM P w K mg base 1 C "priced" ["self","neighbour","price"] (sp_priced C)):Own P w K mg base 2 "_law_told" ["_law_hands","_law_lines","_law_views","_law_turn"] (sp_told K C):=by
  refine D.own sc__law_told (fun _ _ _ _ _ _ us hl=>match us,hl with|[_,_,_,_],_=>rfl) (fun vs H Q E h=>?_) (fun f cdv A outer s H vs Q E hr h=>?_)
  · obtain ⟨A,n,t,ns,as,sts,m,sta,lo,lt,B,rfl,_⟩:=h
    rfl
  · obtain ⟨A',n,t,ns,as,sts,m,sta,lo,lt,B,rfl,W,q⟩:=h
    have hu:=hr.units
    have hu1:(A.deeper (PyProof.Rows.envOfC "_law_told" (defScope s__law_told) s.heap.objs.size f cdv)).units+1<cLine:=by omega
    have eph:=W.hx.B.eph
    have lph:(as.map fun a=>V.ref a.x).length=n:=by rw [List.length_map,W.hx.B.hs.len,W.hx.B.n1]
    refine ⟨_,(@pss_cons _ _ _ _ _ (@ps_set _ _ 4 _ _ _ _ sc__law_told.nd rfl (by first|exact Or.inl rfl|exact Or.inr rfl) (@pe_callB _ _ _ _ _ _ _ _ _ call_lenX rfl (hb _ (by decide)) bt_len (@pa_cX _ _ _ _ _ (@pv _ 0 _ _ (by rfl) (by first|exact Or.inl rfl|exact Or.inr (Or.inl rfl)|exact Or.inr (Or.inr rfl)) (by decide) (by decide)) (@pa_nil _) (by rfl)) (by decide) (by decide) (by rfl) (by rfl)) (by rfl) (by first|exact .inl rfl|exact .inr rfl|assumption)) (@pss_one _ _ _ (@ps_for _ _ _ _ _ _ _ _ PassesOwn.never rfl (@pi_range1 _ _ _ _ _ _ rfl (hb _ (by decide)) (@pa_cX _ _ _ _ _ (@pv _ 4 _ _ (by rfl) (by first|exact Or.inl rfl|exact Or.inr (Or.inl rfl)|exact Or.inr (Or.inr rfl)) (by decide) (by decide)) (@pa_nil _) (by rfl)) (by rfl)) (@pg_name _ _ 5 _ sc__law_told.nd rfl (by first|exact Or.inl rfl|exact Or.inr rfl) (by first|exact .inl rfl|exact .inr rfl|assumption)) (@pss_one _ _ _ (@ps_for _ _ _ _ _ _ _ _ PassesOwn.never rfl (@pi_range1 _ _ _ _ _ _ rfl (hb _ (by decide)) (@pa_cX _ _ _ _ _ (@pv _ 4 _ _ (by rfl) (by first|exact Or.inl rfl|exact Or.inr (Or.inl rfl)|exact Or.inr (Or.inr rfl)) (by decide) (by decide)) (@pa_nil _) (by rfl)) (by rfl)) (@pg_name _ _ 6 _ sc__law_told.nd rfl (by first|exact Or.inl rfl|exact Or.inr rfl) (by first|exact .inl rfl|exact .inr rfl|assumption)) (@pss_one _ _ _ (@ps_if _ _ _ _ _ _ _ _ (@PW.pt _ _ _ (@pw_and _ _ _ _ _ _ _ (@pt_cmpR _ _ _ _ _ _ _ _ op_ne (@pv _ 5 _ _ (by rfl) (by first|exact Or.inl rfl|exact Or.inr (Or.inl rfl)|exact Or.inr (Or.inr rfl)) (by decide) (by decide)) (@pv _ 6 _ _ (by rfl) (by first|exact Or.inl rfl|exact Or.inr (Or.inl rfl)|exact Or.inr (Or.inr rfl)) (by decide) (by decide)) (nomark _)) (@pw_and1 _ _ _ _ (@PW.pt _ _ _ (@pw_or _ _ _ _ _ _ _ (@pt_cmpR _ _ _ _ _ _ _ _ op_eq (@pv _ 3 _ _ (by rfl) (by first|exact Or.inl rfl|exact Or.inr (Or.inl rfl)|exact Or.inr (Or.inr rfl)) (by decide) (by decide)) (@pe_int _ _ _ _) (nomark _)) (@pw_or _ _ _ _ _ _ _ (@pt_cmpR _ _ _ _ _ _ _ _ (op_inDT hu1) (@pe_tup _ _ _ _ _ (@pa_cX _ _ _ _ _ (@pv _ 3 _ _ (by rfl) (by first|exact Or.inl rfl|exact Or.inr (Or.inl rfl)|exact Or.inr (Or.inr rfl)) (by decide) (by decide)) (@pa_cX _ _ _ _ _ (@pv _ 5 _ _ (by rfl) (by first|exact Or.inl rfl|exact Or.inr (Or.inl rfl)|exact Or.inr (Or.inr rfl)) (by decide) (by decide)) (@pa_cX _ _ _ _ _ (@pv _ 6 _ _ (by rfl) (by first|exact Or.inl rfl|exact Or.inr (Or.inl rfl)|exact Or.inr (Or.inr rfl)) (by decide) (by decide)) (@pa_nil _) (by rfl)) (by rfl)) (by rfl))) (@pv _ 2 _ _ (by rfl) (by first|exact Or.inl rfl|exact Or.inr (Or.inl rfl)|exact Or.inr (Or.inr rfl)) (by decide) (by decide)) rfl) (@pw_or1 _ _ _ _ (@pt_cmpR _ _ _ _ _ _ _ _ op_eq (@pv _ 3 _ _ (by rfl) (by first|exact Or.inl rfl|exact Or.inr (Or.inl rfl)|exact Or.inr (Or.inr rfl)) (by decide) (by decide)) (@pe_int _ _ _ _) (nomark _))))))))) (@pss_one _ _ _ (@ps_expr _ _ _ _ (@pe_mth _ _ _ _ _ _ _ _ _ _ _ _ _ _ _ M_Ways_priced T_Ways.cl hr (@pe_ix _ _ _ _ _ _ _ (ix_get hu1) (@pv _ 0 _ _ (by rfl) (by first|exact Or.inl rfl|exact Or.inr (Or.inl rfl)|exact Or.inr (Or.inr rfl)) (by decide) (by decide)) (@pv _ 5 _ _ (by rfl) (by first|exact Or.inl rfl|exact Or.inr (Or.inl rfl)|exact Or.inr (Or.inr rfl)) (by decide) (by decide)) (fun _ _=>rfl)) (@pa_cX _ _ _ _ _ (@pv _ 6 _ _ (by rfl) (by first|exact Or.inl rfl|exact Or.inr (Or.inl rfl)|exact Or.inr (Or.inr rfl)) (by decide) (by decide)) (@pa_cX _ _ _ _ _ (@pe_dget _ _ _ _ _ _ hu1 (@pv _ 1 _ _ (by rfl) (by first|exact Or.inl rfl|exact Or.inr (Or.inl rfl)|exact Or.inr (Or.inr rfl)) (by decide) (by decide)) (@pe_tup _ _ _ _ _ (@pa_cX _ _ _ _ _ (@pe_callB _ _ _ _ _ _ _ _ _ (call_min2 rfl) rfl (hb _ (by decide)) bt_min (@pa_cX _ _ _ _ _ (@pv _ 5 _ _ (by rfl) (by first|exact Or.inl rfl|exact Or.inr (Or.inl rfl)|exact Or.inr (Or.inr rfl)) (by decide) (by decide)) (@pa_cX _ _ _ _ _ (@pv _ 6 _ _ (by rfl) (by first|exact Or.inl rfl|exact Or.inr (Or.inl rfl)|exact Or.inr (Or.inr rfl)) (by decide) (by decide)) (@pa_nil _) (by rfl)) (by rfl)) (by decide) (by decide) (by rfl) (by rfl)) (@pa_cX _ _ _ _ _ (@pe_callB _ _ _ _ _ _ _ _ _ (call_max2 rfl) rfl (hb _ (by decide)) bt_max (@pa_cX _ _ _ _ _ (@pv _ 5 _ _ (by rfl) (by first|exact Or.inl rfl|exact Or.inr (Or.inl rfl)|exact Or.inr (Or.inr rfl)) (by decide) (by decide)) (@pa_cX _ _ _ _ _ (@pv _ 6 _ _ (by rfl) (by first|exact Or.inl rfl|exact Or.inr (Or.inl rfl)|exact Or.inr (Or.inr rfl)) (by decide) (by decide)) (@pa_nil _) (by rfl)) (by rfl)) (by decide) (by decide) (by rfl) (by rfl)) (@pa_nil _) (by rfl)) (by rfl))) (by intro _ _; rfl)) (@pa_nil _) (by rfl)) (by rfl)) (by decide) (by rfl) (by rfl) (by rfl)) (by rfl))) (@pss_nil _))) (by intro _; rfl))) (by intro _; rfl)))),?_⟩
    simp (maxSteps:=1000000) only [tFor_eq,rLenX,lenX_r,lenO_l,Option.bind_some,Nat.reduceSub,Nat.reduceAdd,iRng1,cZ0,tSeq,eZ1,tVar,tAsg,gName,tCons,tNil,tCB,L2.start,mZ1,mZ0,lZ1,lZ0,List.replicate,List.cons_append,List.nil_append,gZ0,gZ1,sZ0,sZ1,oZ0,eZ0,V.int.injEq,and_true,eph,lph]
    have hn:=W.hx.B.n2
    refine ⟨by omega,by omega,for_range (n:=((n:Int)).toNat) (Ta K C n t A' ns sts m sta lo lt B H) ⟨_,_,as,sts,rfl,W,.refl,?_,fun _ _ e _=>e⟩ ?_ ?_⟩
    · exact fun x sx ex=>⟨sx.lp,ex,fun b _ _=>.inr ⟨rfl,fun _ z=>by omega⟩⟩
    · rintro i σ H2 hi ⟨v5,v6,as2,sts2,rfl,W2⟩
      have hi':i<n:=by omega
      simp (maxSteps:=1000000) only [tFor_eq,iRng1,cZ0,tVar,gName,tCons,tNil,gZ0,gZ1,sZ0,sZ1,oZ0,eZ0,V.int.injEq,and_true,Int.zero_add,tσ]
      refine ⟨by omega,by omega,for_range (n:=((n:Int)).toNat) (Tb K C n t A' ns sts m sta lo lt B H i) ⟨_,as2,sts2,rfl,W2.W,W2.u,?_,W2.k⟩ ?_ ?_⟩
      · exact TolP.skip (i:=0) (j:=0) W2.T (.inl rfl) (fun x y _ _ h=>.inl (by omega))
      · rintro j σ H3 hj ⟨v6',as3,sts3,rfl,T3⟩
        have hj':j<n:=by omega
        simp (maxSteps:=1000000) only [rGet,Nat.reduceAdd,tMeth,tDGet,cZ0,rEq_ii,rNe_ii,eZ1,if_false,if_true,Bool.false_eq_true,tIfS,tAnd,tOr,tTest,tOp,tVar,tC,gName,tNext,tCons,tNil,tCB,tDrop,tTup,lZ1,lZ0,gZ0,gZ1,sZ0,sZ1,oZ0,eZ0,V.int.injEq,V.bl.injEq,V.ref.injEq,and_true,and_assoc,aZ0,Int.zero_add,tσ,tDGet,rInDT]
        have B3:=T3.W.hx.B
        obtain ⟨a,st,ea,es,Y,hme,xa⟩:=B3.at_ hi'
        have skip:∀ {H4:Hp},Same H3 H4→(i=j∨t≠13)→Tb K C n t A' ns sts m sta lo lt B H i (j+1) [some (V.ref A'.ph),some (V.ref A'.pl),some (V.ref A'.pv),some (V.int (t:Int)),some (V.int (n:Int)),some (V.int (i:Int)),some (V.int (j:Int))] H4:=fun s4 hc=>
          ⟨_,as3,sts3,rfl,T3.W.same s4,T3.u,T3.T.skip (i:=i) (j:=j) hc (fun x y _ _ h=>by omega),T3.k.trans (.of_same s4)⟩
        have tell:∀ (H4:Hp),Same H3 H4→i≠j→∃ x,H4 A'.ph=some x∧∃ x_1,getO x (V.int (i:Int))=some x_1∧∃ a,x_1=V.ref a∧∃ x x_2,H4 a=some (HO.ins C x x_2)∧List.lookup (Str.ofString "priced") x_2=none∧2≤sizeLine∧∀ (p:Addr),H4 p=none →
            ∃ x,DGet (upd H4 p (HO.tup [V.int (if (j:Int)<(i:Int) then (j:Int) else (i:Int)),V.int (if (j:Int) > (i:Int) then (j:Int) else (i:Int))])) A'.pl (V.ref p) (some x)∧sp_priced C [x_1,V.int (j:Int),x] (upd H4 p (HO.tup [V.int (if (j:Int)<(i:Int) then (j:Int) else (i:Int)),V.int (if (j:Int) > (i:Int) then (j:Int) else (i:Int))])) (fun x H1=>Tb K C n t A' ns sts m sta lo lt B H i (j+1)
                [some (V.ref A'.ph),some (V.ref A'.pl),some (V.ref A'.pv),some (V.int (t:Int)),some (V.int (n:Int)),some (V.int (i:Int)),some (V.int (j:Int))] H1) E0:=fun H4 s4 hij=>by
          have Y4:=Y.same s4
          refine ⟨_,(B3.same s4).eph,_,xa,a.x,rfl,_,_,Y4.inst,rfl,by rw [sizeLine_eq]; omega,?_⟩
          intro p5 n5
          generalize z5:upd H4 p5 _=H5
          obtain ⟨s5,e5⟩:=new_same z5 n5
          have s35:=s4.trans s5
          have W5:=T3.W.same s35
          refine ⟨_,W5.ot.ln.get hi' hj' hij e5,domN n,a,st,(j:Int),cOf n m i j,rfl,Y.same s35,mem_domN.mpr ⟨by omega,by omega⟩,fun H6 Y6 k6=>?_⟩
          have hol:∀ l,cOf n m i j=some l→1≤l:=fun l e=>(lines_of W5.ot.ln).lp i j l e
          have O6:=(W5.hx.B.net _ _ es).price (nb:=(j:Int)) (o:=cOf n m i j) hol
          have kA:Keep (a.x::ads a) H5 H6:=k6.mono (fun b hb=>by rw [List.mem_singleton] at hb; rw [hb]; exact List.mem_cons_of_mem _ (mem_pp a))
          obtain ⟨W6,kq6⟩:=W5.hand ea es Y6 rfl (fun b hb=>.inl hb) kA O6.1 O6.2
          exact ⟨_,_,_,rfl,W6,T3.u.trans (.set es O6.2),T3.T.put es (fun x y _ _ h=>by omega),(T3.k.trans (.of_same s35)).trans kq6⟩
        by_cases hij:i=j
        · rw [if_neg (by simp [hij])]
          exact skip (.refl _) (.inl hij)
        · rw [if_pos (by simp; omega)]
          by_cases h0:t=0
          · rw [if_pos (decide_eq_true (by omega))]
            exact tell H3 (.refl _) hij
          · rw [if_neg (by simp; omega)]
            refine ⟨by rw [sizeLine_eq]; omega,?_⟩
            intro p4 n4
            generalize z4:upd H3 p4 _=H4
            obtain ⟨s4,e4⟩:=new_same z4 n4
            obtain ⟨kv,ev,_⟩:=(T3.W.same s4).ot.vw
            refine ⟨_,DGet.t (k:=[Sum.inl (t:Int),Sum.inl (i:Int),Sum.inl (j:Int)]) ev e4,?_⟩
            refine ite2 (fun _=>tell H4 s4 hij) (fun _=>?_)
            by_cases h13:t=13
            · rw [if_pos (decide_eq_true (by omega))]
              exact tell H4 s4 hij
            · rw [if_neg (by simp; omega)]
              exact skip s4 (.inr h13)
      · rintro σ H3 ⟨v6',as3,sts3,rfl,T3⟩
        exact ⟨_,_,as3,sts3,rfl,T3.W,T3.u,TolP.skip (i:=0) (j:=0) T3.T (.inl rfl) (fun x y _ _ h=>.inl (by omega)),T3.k⟩
    · rintro σ H2 ⟨v5,v6,as2,sts2,rfl,W2⟩
      simp (maxSteps:=1000000) only []
      refine q as2 sts2 H2 W2.W W2.u (TolP.skip (i:=0) (j:=0) W2.T (.inl rfl) (fun x y hx _ _=>.inl ?_)) W2.k
      rw [W.hx.B.n1] at hx
      omega
end
end K15
namespace K15
open PySem L2 PySem.W
abbrev s__law_come:Stmt:=stm 11
theorem sc__law_come:FnScope ["_law_hands","_law_letters","_law_stamps","_law_turn","_law_here","_law_there","_law_stamp","_law_reports"] ["_law_hands","_law_letters","_law_stamps","_law_turn"] (defScope s__law_come):=⟨rfl,rfl,rfl,by decide +kernel,rfl,by decide +kernel,by decide +kernel⟩
section
variable {P:Program} {w:World} {K:PySem.W.Frag} {mg:Str→Option Value} {base:Heap} {C:Addr}
def st0 (i:Nat):WSt:=⟨(i:Int),0,fun _=>none,fun _=>none,fun _=>none,fun _=>none⟩
def curOf (sts:List WSt) (i:Nat):WSt:=(sts[i]?).getD (st0 i)
theorem cur_at {sts:List WSt} {i:Nat} {st:WSt} (h:sts[i]?=some st):curOf sts i=st:=by unfold curOf; rw [h]; rfl
theorem cur_set {sts:List WSt} {b:Nat} {st:WSt} (hb:b<sts.length):curOf (sts.set b st)=setC (curOf sts) b st:=by
  funext i
  unfold setC
  by_cases e:i=b
  · subst e
    rw [if_pos rfl]
    exact cur_at (List.getElem?_set_self hb)
  · rw [if_neg e]
    unfold curOf
    rw [List.getElem?_set_ne (Ne.symm e)]
structure Rdy (n t:Nat) (hs:Nat→Nat→WSt) (ls:List Ltr) (sta:Nat→Nat→Option Nat) (sts:List WSt):Prop where
  ok:∀ l,l∈ls→LtOk n t hs l
  X:Hrd n hs sta (curOf sts)
  sn:∀ a b s,sta a b=some s→s<t
  me:∀ u a,a<n→(hs u a).me=(a:Int)
  up:∀ a,a<n→∀ s0 s1 g,s0≤s1→s1<t→(hs s0 a).mar g≠none→(hs s1 a).mar g≠none
def sp_come (K:PySem.W.Frag) (C:Addr):Sp:=fun vs H Q _=>∃ (A:AW) (n t:Nat) (ns:List Int) (as:List WA) (sts:List WSt) (m:Nat→Nat→Option Int) (sta:Nat→Nat→Option Nat) (lo:Nat→Nat→Nat→Prop) (lt:Nat→List Ltr) (B:Nat) (hs:Nat→Nat→WSt),vs=[.ref A.ph,.ref A.pt,.ref A.ps,.int (t:Int)]∧Wd K C n H A ns as sts m sta lo lt B∧Rdy n t hs (lt t) sta sts ∧
  ∀ as' sts' sta' H',Wd K C n H' A ns as' sts' m sta' lo (popL lt t) B→Up sts sts'→Com n t hs (lt t) sta sta' (curOf sts) (curOf sts') (lt t).length→Q .non H'
def cσ (A:AW) (t:Nat) (v4 v5 v6 v7:Option V):St:=[some (.ref A.ph),some (.ref A.pt),some (.ref A.ps),some (.int (t:Int)),v4,v5,v6,v7]
def Ca (K:PySem.W.Frag) (C:Addr) (A:AW) (n t:Nat) (ns:List Int) (sts:List WSt) (m:Nat→Nat→Option Int) (sta:Nat→Nat→Option Nat) (lo:Nat→Nat→Nat→Prop) (lt:Nat→List Ltr) (B:Nat) (hs:Nat→Nat→WSt) (L:Addr) (xs:List V) (ls:List Ltr) (k:Nat) (σ:St) (H':Hp):Prop:=∃ v4 v5 v6 v7 as' sts' sta',σ=cσ A t v4 v5 v6 v7∧Wd K C n H' A ns as' sts' m sta' lo lt B∧Up sts sts'∧Com n t hs ls sta sta' (curOf sts) (curOf sts') k∧H' L=some (.lst xs)∧Paired (LtR H' []) xs ls∧∀ l∈ls,Told sts' l.1 l.2.2.2
theorem kl_dT {H:Hp} {p:Addr} {kv kv':List (List Key × V)} (e:H p=some (.dT kv)):KL H (upd H p (.dT kv')):=KL.of_keep (S:=[p]) (Keep.refl.upd (.inl (.head _))) fun b hb o z=>by
  rw [List.mem_singleton] at hb
  rw [hb,e] at z
  cases z
  exact ⟨(fun _ z=>by cases z),(fun _ z=>by cases z)⟩
set_option maxHeartbeats 4000000 in
theorem own_come (D:Def K mg "_law_come" s__law_come) (hb:Blt mg) (T_Ways:ClsD K mg "Ways" C at_Ways) (M_Ways_heard:OwnM P w K mg base 1 C "heard" ["self","neighbour","reports"] (sp_heard C)):Own P w K mg base 2 "_law_come" ["_law_hands","_law_letters","_law_stamps","_law_turn"] (sp_come K C):=by
  refine D.own sc__law_come (fun _ _ _ _ _ _ us hl=>match us,hl with|[_,_,_,_],_=>rfl) (fun vs H Q E h=>?_) (fun f cdv A outer s H vs Q E hr h=>?_)
  · obtain ⟨A,n,t,ns,as,sts,m,sta,lo,lt,B,hs,rfl,_⟩:=h
    rfl
  · obtain ⟨A',n,t,ns,as,sts,m,sta,lo,lt,B,hs,rfl,W,R,q⟩:=h
    have hu:=hr.units
    have hu1:(A.deeper (PyProof.Rows.envOfC "_law_come" (defScope s__law_come) s.heap.objs.size f cdv)).units+1<cLine:=by omega
    refine ⟨_,(@pss_one _ _ _ (@ps_for _ _ _ _ _ _ _ _ PassesOwn.never rfl (@pi_listK _ K _ _ _ (@pe_dpop2 _ _ _ _ _ _ _ _ _ (@pv _ 1 _ _ (by rfl) (by first|exact Or.inl rfl|exact Or.inr (Or.inl rfl)|exact Or.inr (Or.inr rfl)) (by decide) (by decide)) (@pv _ 3 _ _ (by rfl) (by first|exact Or.inl rfl|exact Or.inr (Or.inl rfl)|exact Or.inr (Or.inr rfl)) (by decide) (by decide)) (@pe_lst _ _ _ _ (@pa_nil _)) (by constructor <;> rfl)) (by rfl)) (@pg_seqX _ _ _ _ 4 _ rfl (@pgs_cons _ _ _ _ _ (@pg_name _ _ 4 _ sc__law_come.nd rfl (by first|exact Or.inl rfl|exact Or.inr rfl) (by first|exact .inl rfl|exact .inr rfl|assumption)) (@pgs_cons _ _ _ _ _ (@pg_name _ _ 5 _ sc__law_come.nd rfl (by first|exact Or.inl rfl|exact Or.inr rfl) (by first|exact .inl rfl|exact .inr rfl|assumption)) (@pgs_cons _ _ _ _ _ (@pg_name _ _ 6 _ sc__law_come.nd rfl (by first|exact Or.inl rfl|exact Or.inr rfl) (by first|exact .inl rfl|exact .inr rfl|assumption)) (@pgs_cons _ _ _ _ _ (@pg_name _ _ 7 _ sc__law_come.nd rfl (by first|exact Or.inl rfl|exact Or.inr rfl) (by first|exact .inl rfl|exact .inr rfl|assumption)) (@pgs_nil _) (by rfl)) (by rfl)) (by rfl)) (by rfl)) (by rfl) (by rfl)) (@pss_one _ _ _ (@ps_if _ _ _ _ _ _ _ _ (@pt_cmpR _ _ _ _ _ _ _ _ op_gt (@pv _ 6 _ _ (by rfl) (by first|exact Or.inl rfl|exact Or.inr (Or.inl rfl)|exact Or.inr (Or.inr rfl)) (by decide) (by decide)) (@pe_dget2 _ _ _ _ _ _ _ _ _ hu1 (@pv _ 2 _ _ (by rfl) (by first|exact Or.inl rfl|exact Or.inr (Or.inl rfl)|exact Or.inr (Or.inr rfl)) (by decide) (by decide)) (@pe_tup _ _ _ _ _ (@pa_cX _ _ _ _ _ (@pv _ 4 _ _ (by rfl) (by first|exact Or.inl rfl|exact Or.inr (Or.inl rfl)|exact Or.inr (Or.inr rfl)) (by decide) (by decide)) (@pa_cX _ _ _ _ _ (@pv _ 5 _ _ (by rfl) (by first|exact Or.inl rfl|exact Or.inr (Or.inl rfl)|exact Or.inr (Or.inr rfl)) (by decide) (by decide)) (@pa_nil _) (by rfl)) (by rfl))) (@pe_op _ _ _ _ _ _ _ _ op_sub (@pe_int _ _ _ _) (@pe_int _ _ _ _)) (by constructor <;> rfl)) (nomark _)) (@pss_cons _ _ _ _ _ (@ps_dput _ _ _ _ _ _ _ _ _ hu1 (@pv _ 2 _ _ (by rfl) (by first|exact Or.inl rfl|exact Or.inr (Or.inl rfl)|exact Or.inr (Or.inr rfl)) (by decide) (by decide)) (@pe_tup _ _ _ _ _ (@pa_cX _ _ _ _ _ (@pv _ 4 _ _ (by rfl) (by first|exact Or.inl rfl|exact Or.inr (Or.inl rfl)|exact Or.inr (Or.inr rfl)) (by decide) (by decide)) (@pa_cX _ _ _ _ _ (@pv _ 5 _ _ (by rfl) (by first|exact Or.inl rfl|exact Or.inr (Or.inl rfl)|exact Or.inr (Or.inr rfl)) (by decide) (by decide)) (@pa_nil _) (by rfl)) (by rfl))) (@pv _ 6 _ _ (by rfl) (by first|exact Or.inl rfl|exact Or.inr (Or.inl rfl)|exact Or.inr (Or.inr rfl)) (by decide) (by decide)) rfl) (@pss_one _ _ _ (@ps_expr _ _ _ _ (@pe_mth _ _ _ _ _ _ _ _ _ _ _ _ _ _ _ M_Ways_heard T_Ways.cl hr (@pe_ix _ _ _ _ _ _ _ (ix_get hu1) (@pv _ 0 _ _ (by rfl) (by first|exact Or.inl rfl|exact Or.inr (Or.inl rfl)|exact Or.inr (Or.inr rfl)) (by decide) (by decide)) (@pv _ 5 _ _ (by rfl) (by first|exact Or.inl rfl|exact Or.inr (Or.inl rfl)|exact Or.inr (Or.inr rfl)) (by decide) (by decide)) (fun _ _=>rfl)) (@pa_cX _ _ _ _ _ (@pv _ 4 _ _ (by rfl) (by first|exact Or.inl rfl|exact Or.inr (Or.inl rfl)|exact Or.inr (Or.inr rfl)) (by decide) (by decide)) (@pa_cX _ _ _ _ _ (@pe_callTy _ _ _ _ _ _ _ _ _ call_listX rfl (hb _ (by decide)) bt_list (@pa_cX _ _ _ _ _ (@pv _ 7 _ _ (by rfl) (by first|exact Or.inl rfl|exact Or.inr (Or.inl rfl)|exact Or.inr (Or.inr rfl)) (by decide) (by decide)) (@pa_nil _) (by rfl)) (by decide) (by decide) (by rfl) (by rfl)) (@pa_nil _) (by rfl)) (by rfl)) (by decide) (by rfl) (by rfl) (by rfl)) (by rfl)))) (@pss_nil _))) (by intro _; rfl))),?_⟩
    simp (maxSteps:=1000000) only [tFor_eq,Nat.reduceSub,Nat.reduceAdd,iList,eZ1,tVar,tNil,tLst,L2.start,mZ1,mZ0,lZ1,lZ0,List.replicate,List.cons_append,List.nil_append,gZ0,gZ1,oZ0,eZ0,V.ref.injEq,tDPop2]
    obtain ⟨kvs,hlt⟩:=W.ot.ft
    refine ⟨.inl ⟨kvs,.inl hlt.e⟩,by rw [sizeLine_eq]; omega,?_⟩
    intro p1 n1
    generalize z1:upd H p1 _=H1
    obtain ⟨s1,e1⟩:=new_same z1 n1
    have main:∀ (L:Addr) (xs:List V) (H2:Hp),H2 L=some (.lst xs)→Paired (LtR H2 []) xs (lt t)→Wd K C n H2 A' ns as sts m sta lo (popL lt t) B→ForW (gSeqX 4 (gCons (gName 4) (gCons (gName 5) (gCons (gName 6) (gCons (gName 7) gNil))))) (tIfS (tTest (tOp (rI0 fun i j=>V.bl (decide (j<i))) (tVar 6) (tDGet2 (tVar 2) (tTup (tCons (tVar 4) (tCons (tVar 5) tNil))) (tOp (rI0 fun i j=>V.int (i - j)) (tC (V.int 0)) (tC (V.int 1))))))
        (tSeq (sDPut (tVar 2) (tTup (tCons (tVar 4) (tCons (tVar 5) tNil))) (tVar 6)) (tDrop (tMeth C (Str.ofString "heard") (sp_heard C) [] E0 (tOp rGet (tVar 0) (tVar 5)) (tCons (tVar 4) (tCons (tCB rListX (tCons (tVar 7) tNil)) tNil))))) tNext)
        { nx:=fun x H'=>Q V.non H',rt:=Q } [some (V.ref A'.ph),some (V.ref A'.pt),some (V.ref A'.ps),some (V.int (t:Int)),none,none,none,none] (Itl K L) H2:=fun L xs H2 eL pL W2=>by
      refine for_list (xs:=xs) (Ca K C A' n t ns sts m sta lo (popL lt t) B hs L xs (lt t)) ⟨_,_,_,_,as,sts,sta,rfl,W2,.refl,.start R.X R.sn,eL,pL,fun l hl=>W.ot.tl t l hl⟩ ?_ ?_ ?_
      · rintro k σ H3 hk ⟨v4,v5,v6,v7,as',sts',sta',rfl,W3,u3,C3,e3,p3,T3⟩
        exact SqL.of e3
      · rintro k v σ H3 hv ⟨v4,v5,v6,v7,as',sts',sta',rfl,W3,u3,C3,e3,p3,T3⟩
        obtain ⟨l,hl,q0,r0,ys,rfl,eq0,er0,hys,_⟩:=paired_get p3 hv
        have hm:=List.mem_of_getElem? hl
        have O:=R.ok l hm
        simp (maxSteps:=1000000) only [gSeqX,rGet,rListX,seqO_t,gCons,gNil,Nat.reduceAdd,tMeth,sDPut,cZ0,tSeq,eZ1,tIfS,tTest,tOp,tVar,tC,rI0,gName,tNext,tCons,tNil,tCB,tDrop,tTup,lZ1,lZ0,gZ0,gZ1,sZ0,sZ1,oZ0,eZ0,V.int.injEq,V.bl.injEq,V.ref.injEq,and_true,true_and,and_assoc,aZ0,cσ,eq0,tDGet2,sDPut]
        obtain ⟨kv,ev,hlv,hvv⟩:=W3.ot.st
        refine ⟨.inr ⟨kv,.inl ev⟩,by rw [sizeLine_eq]; omega,?_⟩
        intro p4 n4
        generalize z4:upd H3 p4 _=H4
        obtain ⟨s4,e4⟩:=new_same z4 n4
        refine ⟨_,DGet.t (k:=[Sum.inl (l.1:Int),Sum.inl (l.2.1:Int)]) (s4 _ _ ev) e4,?_⟩
        rw [hvv]
        have W4:=W3.same s4
        have done:∀ {s0:Nat},sta' l.1 l.2.1=some s0→l.2.2.1≤s0→Ca K C A' n t ns sts m sta lo (popL lt t) B hs L xs (lt t) (k+1) [some (V.ref A'.ph),some (V.ref A'.pt),some (V.ref A'.ps),some (V.int (t:Int)),some (V.int (l.1:Int)),some (V.int (l.2.1:Int)),some (V.int (l.2.2.1:Int)),some (V.ref r0)] H4:=fun h1 h2=>
          ⟨_,_,_,_,as',sts',sta',rfl,W4,u3,C3.skip hl h1 h2,s4 _ _ e3,pmap p3 fun _ _ z=>z.kl (.of_same s4) fun _ _ y=>y,T3⟩
        have hear:(∀ s0,sta' l.1 l.2.1=some s0→s0<l.2.2.1)→2≤sizeLine∧∀ (p:Addr),H4 p=none→∃ x,DPut (upd H4 p (HO.tup [V.int (l.1:Int),V.int (l.2.1:Int)])) A'.ps (V.ref p) (V.int (l.2.2.1:Int)) x∧∃ x_1,x A'.ph=some x_1∧∃ x_2,getO x_1 (V.int (l.2.1:Int))=some x_2∧∃ a,x_2=V.ref a∧∃ x_3 x_4,x a=some (HO.ins C x_3 x_4)∧List.lookup (Str.ofString "heard") x_4=none∧∃ x_5,x r0=some x_5∧∃ x_6,seqO x_5=some x_6∧∀ (l_1:Addr),x l_1=none →
            sp_heard C [x_2,V.int (l.1:Int),V.ref l_1] (upd x l_1 (HO.lst x_6)) (fun x H1=>Ca K C A' n t ns sts m sta lo (popL lt t) B hs L xs (lt t) (k+1) [some (V.ref A'.ph),some (V.ref A'.pt),some (V.ref A'.ps),some (V.int (t:Int)),some (V.int (l.1:Int)),some (V.int (l.2.1:Int)),some (V.int (l.2.2.1:Int)),some (V.ref r0)] H1) E0:=fun hnew=>by
          refine ⟨by rw [sizeLine_eq]; omega,?_⟩
          intro p5 n5
          generalize z5:upd H4 p5 _=H5
          obtain ⟨s5,e5⟩:=new_same z5 n5
          have W5:=W4.same s5
          have s35:=s4.trans s5
          have ev5:=s35 _ _ ev
          have n4:=W.hx.B.n2
          have Z:=W5.stamp (StD.put (a:=l.1) (b:=l.2.1) (s:=l.2.2.1) ev5 hlv hvv (by have:=O.a; omega) (by have:=O.b; omega))
          refine ⟨_,DPut.t (k:=[Sum.inl (l.1:Int),Sum.inl (l.2.1:Int)]) ev5 e5 (by rw [sizeLine_eq]; omega),?_⟩
          have kl:=kl_dT (kv':=putK kv [Sum.inl (l.1:Int),Sum.inl (l.2.1:Int)] (V.int (l.2.2.1:Int))) ev5
          generalize upd H5 A'.ps (HO.dT (putK kv [Sum.inl (l.1:Int),Sum.inl (l.2.1:Int)] (V.int (l.2.2.1:Int))))=H6 at Z kl ⊢
          obtain ⟨a,st,ea,es,Y,hme,xa⟩:=Z.hx.B.at_ O.b
          have er6:=kl.2 _ _ (s35 _ _ er0)
          refine ⟨_,Z.hx.B.eph,_,xa,a.x,rfl,_,_,Y.inst,rfl,_,er6,ys,rfl,?_⟩
          intro p7 n7
          generalize z7:upd H6 p7 _=H7
          obtain ⟨s7,e7⟩:=new_same z7 n7
          have k37:KL H3 H7:=⟨fun b zs z=>s7 _ _ (kl.1 _ _ (s35 _ _ z)),fun b zs z=>s7 _ _ (kl.2 _ _ (s35 _ _ z))⟩
          have W7:=Z.same s7
          have T:=T3 l hm
          refine ⟨domN n,a,st,(l.1:Int),p7,ys,l.2.2.2,rfl,Y.same s7,e7,pmap hys (fun _ _ z=>RRow.kl z k37),mem_domN.mpr ⟨by omega,by have:=O.a; omega⟩,(fun x hx=>mem_domN.mpr ⟨(T x hx).1,by have:=(T x hx).2.1; rw [W7.hx.B.n1] at this; exact this⟩),fun a' H8 Y8 hx hsub hfr k8=>?_⟩
          have O1:=(W7.hx.B.net _ _ es).heard (nb:=(l.1:Int)) (rows:=l.2.2.2) (by omega) (by rw [W7.hx.B.n1]; have:=O.a; omega) (by have:=O.ab; omega) (by rw [Int.toNat_natCast]; exact T)
          obtain ⟨W8,kq8⟩:=W7.hand ea es Y8 hx hfr (k8.mono fun b hb=>List.mem_cons_of_mem _ hb) O1.1 O1.2
          have k38:KL H3 H8:=let z:=KL.of_kq kq8; ⟨fun b zs y=>z.1 _ _ (k37.1 _ _ y),fun b zs y=>z.2 _ _ (k37.2 _ _ y)⟩
          have u8:Up sts' (sts'.set l.2.1 (hearS st (l.1:Int) l.2.2.2)):=.set es O1.2
          refine ⟨_,_,_,_,_,_,_,rfl,W8,u3.trans u8,?_,k38.2 _ _ e3,pmap p3 fun _ _ z=>z.kl k38 fun _ _ y=>y,fun l' hl'=>(T3 l' hl').up u8⟩
          have hlen:l.2.1<sts'.length:=(List.getElem?_eq_some_iff.mp es).1
          have:=C3.hear hl O hnew (fun u=>R.me u _ O.a) (R.up _ O.a)
          rw [cur_at es] at this
          rw [cur_set hlen]
          exact this
        cases hst:sta' l.1 l.2.1 with
        | none=>
          refine ⟨_,rfl,?_⟩
          rw [if_pos (decide_eq_true (by omega))]
          exact hear fun s0 z=>by rw [hst] at z; cases z
        | some s0=>
          refine ⟨_,rfl,?_⟩
          by_cases hlt:s0<l.2.2.1
          · rw [if_pos (decide_eq_true (by omega))]
            exact hear fun s1 z=>by rw [hst] at z; cases z; exact hlt
          · rw [if_neg (by simp; omega)]
            exact done hst (by omega)
      · rintro σ H3 ⟨v4,v5,v6,v7,as',sts',sta',rfl,W3,u3,C3,e3,p3,T3⟩
        rw [p3.length] at C3
        exact q as' sts' sta' H3 W3 u3 C3
    refine ⟨kvs,s1 _ _ hlt.e,Sum.inl (t:Int),rfl,fun v hv=>?_,fun hv=>?_⟩
    · obtain ⟨L,xs,rfl,hav,eL,hxl,hp⟩:=hlt.at_ t v hv
      have hlt1:=hlt.kl (.of_same s1) (s1 _ _ hlt.e) (Nat.le_refl _)
      have Lp:=hlt1.pop hv
      have ekl:KL H1 (upd H1 A'.pt (HO.dK (dropK kvs (Sum.inl (t:Int))))):=KL.of_keep (S:=[A'.pt]) (Keep.refl.upd (.inl (.head _))) fun b hb o z=>by
        rw [List.mem_singleton] at hb
        rw [hb,s1 _ _ hlt.e] at z
        cases z
        exact ⟨(fun _ z=>by cases z),(fun _ z=>by cases z)⟩
      have k02:KL H (upd H1 A'.pt (HO.dK (dropK kvs (Sum.inl (t:Int))))):=⟨fun b zs z=>ekl.1 _ _ (s1 _ _ z),fun b zs z=>ekl.2 _ _ (s1 _ _ z)⟩
      refine ⟨L,rfl,⟨_,SqL.of (k02.2 _ _ eL)⟩,main L xs _ (k02.2 _ _ eL) (pmap hp fun _ _ z=>z.kl k02 (fun _ _ y=>nomatch y)) ?_⟩
      refine (W.same s1).lets (.inl ⟨rfl,_,rfl⟩) Lp (Nat.le_refl _) fun u l hl=>W.ot.tl u l ?_
      unfold popL at hl
      split at hl
      · cases hl
      · exact hl
    · refine ⟨⟨_,SqL.of e1⟩,main p1 [] H1 e1 ?_ ?_⟩
      · rw [hlt.no t hv]
        exact .nil
      · rw [hlt.pop_none hv]
        exact W.same s1
end
end K15
namespace K15
open PySem L2 PySem.W
abbrev s__law_sent:Stmt:=stm 12
theorem sc__law_sent:FnScope ["_law_hands","_law_lines","_law_letters","_law_lost","_law_turn","_law_cell","_law_many","_law_a","_law_b","_law_number","_law_delays","_law_delay"] ["_law_hands","_law_lines","_law_letters","_law_lost","_law_turn","_law_cell"] (defScope s__law_sent):=⟨rfl,rfl,rfl,by decide +kernel,rfl,by decide +kernel,by decide +kernel⟩
section
variable {P:Program} {w:World} {K:PySem.W.Frag} {mg:Str→Option Value} {base:Heap} {C:Addr}
theorem Fly.imp {n t T:Nat} {hs:Nat→Nat→WSt} {ln lo:Nat→Nat→Nat→Prop} {P P':Nat→Nat→Prop} {lt:Nat→List Ltr} {sta:Nat→Nat→Option Nat} (F:Fly n t T hs ln lo P lt sta) (h:∀ a b,a<n→b<n→a≠b→P' a b→P a b):Fly n t T hs ln lo P' lt sta:=
  ⟨F.ok,F.old,fun s a b h' ha hb hab hl=>F.del s a b (h'.imp_right fun z=>⟨z.1,h a b ha hb hab z.2⟩) ha hb hab hl,F.sn,F.two⟩
theorem Fly.lose {n t T:Nat} {hs:Nat→Nat→WSt} {ln lo:Nat→Nat→Nat→Prop} {P:Nat→Nat→Prop} {lt:Nat→List Ltr} {sta:Nat→Nat→Option Nat} {a b:Nat} (F:Fly n t T hs ln lo P lt sta):Fly n t T hs ln (setLo lo T a b) P lt sta:=
  ⟨F.ok,F.old,fun s x y h' hx hy hxy hl=>(F.del s x y h' hx hy hxy hl).imp_left .inl,F.sn,fun s x y hs z1 z2=>by
    rcases z1 with z1|⟨z1,_⟩
    · rcases z2 with z2|⟨z2,_⟩
      · exact F.two s x y hs z1 z2
      · omega
    · omega⟩
structure Snt (n t:Nat) (hs:Nat→Nat→WSt) (ln:Nat→Nat→Nat→Prop) (lo:Nat→Nat→Nat→Prop) (lt:Nat→List Ltr) (sta:Nat→Nat→Option Nat) (P:Nat→Nat→Prop):Prop where
  F:Fly n (t+1) t hs ln lo P lt sta
  two:∀ s a b,s+1=t→lo s a b→lo t a b→False
  fut:∀ s a b,t<s→¬ lo s a b
  nP:∀ a b,lo t a b→P a b
theorem Snt.imp {n t:Nat} {hs:Nat→Nat→WSt} {ln lo:Nat→Nat→Nat→Prop} {P P':Nat→Nat→Prop} {lt:Nat→List Ltr} {sta:Nat→Nat→Option Nat} (S:Snt n t hs ln lo lt sta P) (h:∀ a b,a<n→b<n→a≠b→P' a b→P a b) (h':∀ a b,P a b→P' a b):Snt n t hs ln lo lt sta P':=
  ⟨S.F.imp h,S.two,S.fut,fun a b z=>h' a b (S.nP a b z)⟩
theorem useJ0 {t u:TS} {c:TT} {D:Ends} {σ:St} {H:Hp} (Pm:St→Hp→Prop) (key:∀ σ' H',Pm σ' H'→t D σ' H') (go:∀ t':TS,(∀ σ' H',Pm σ' H'→t' D σ' H')→tIfS c t' u D σ H):tIfS c t u D σ H:=go t key
theorem eq_nil {H:Hp} {p q:Addr} {ds:List Int} {Q:VK} (e1:H p=some (.tup (ds.map V.int))) (e2:H q=some (.tup [])) (hl:ds.length≤2) (h:Q (.bl ds.isEmpty) H):rEqX (.ref p) (.ref q) H Q:=by
  refine ⟨.tuple (ds.map PyData.int),.tuple [],(Im.tup e1 (ims_ints ds) (by rw [List.length_map]; omega)).dt,(Im.tup e2 .nil (by simp)).dt,?_,by simp [PyData.depth,PyData.depthAll],?_⟩
  · match ds,hl with
    | [],_=>simp [PyData.depth,PyData.depthAll]
    | [_],_=>simp [PyData.depth,PyData.depthAll]
    | [_,_],_=>simp [PyData.depth,PyData.depthAll]
  · have:PyData.eqv (.tuple (ds.map PyData.int)) (.tuple [])=ds.isEmpty:=by
      cases ds <;> simp [PyData.eqv,PyData.eqvAll]
    rw [this]
    exact h
theorem mar_dom {H:Hp} {dom:List Int} {a:WA} {st:WSt} (Y:WaysAt C dom H a st) {g:Int} (h:st.mar g≠none):g∈dom:=by
  obtain ⟨kvs,_,d⟩:=Y.hm
  obtain ⟨q,hq,e⟩:=List.mem_map.mp (d.key.mpr h)
  obtain ⟨k,hk,e2⟩:=d.ks q hq
  rw [e] at e2
  cases e2
  exact hk
def okDs (ds:List Int):Prop:=ds.length≤2∧∀ d∈ds,d=1∨d=2
def sp_sent (K:PySem.W.Frag) (C:Addr):Sp:=fun vs H Q _=>∃ (A:AW) (n t:Nat) (cell:Int) (ns:List Int) (as:List WA) (sts:List WSt) (m:Nat→Nat→Option Int) (sta:Nat→Nat→Option Nat) (lo:Nat→Nat→Nat→Prop) (lt:Nat→List Ltr) (B:Nat) (hs:Nat→Nat→WSt) (ln:Nat→Nat→Nat→Prop),vs=[.ref A.ph,.ref A.pl,.ref A.pt,.ref A.px,.int (t:Int),.int cell]∧Wd K C n H A ns as sts m sta lo lt B∧B≤100000 ∧
  Fly n (t+1) t hs ln lo (fun _ _=>False) lt sta∧(∀ i,i<n→hs t i=curOf sts i)∧(∀ a b,ln t a b→cOf n m a b≠none)∧(∀ s a b,t≤s→¬ lo s a b) ∧
  ∀ lo' lt' H',Wd K C n H' A ns as sts m sta lo' lt' (B+100)→Fly n (t+1) (t+1) hs ln lo' (fun _ _=>False) lt' sta→(∀ s a b,t<s→¬ lo' s a b)→(∀ u l,l∈lt' u→l.2.2.1≤t)→Q .non H'
def nσ (A:AW) (n t:Nat) (cell:Int) (v7 v8 v9 v10 v11:Option V):St:=[some (.ref A.ph),some (.ref A.pl),some (.ref A.pt),some (.ref A.px),some (.int (t:Int)),some (.int cell),some (.int (n:Int)),v7,v8,v9,v10,v11]
def Na (K:PySem.W.Frag) (C:Addr) (n t:Nat) (A:AW) (cell:Int) (ns:List Int) (as:List WA) (sts:List WSt) (m:Nat→Nat→Option Int) (sta:Nat→Nat→Option Nat) (B:Nat) (hs:Nat→Nat→WSt) (ln:Nat→Nat→Nat→Prop) (i:Nat) (σ:St) (H':Hp):Prop:=∃ v7 v8 v9 v10 v11 lo' lt',σ=nσ A n t cell v7 v8 v9 v10 v11∧Wd K C n H' A ns as sts m sta lo' lt' (B+20 * i)∧Snt n t hs ln lo' lt' sta (fun x _=>x<i)
def Nb (K:PySem.W.Frag) (C:Addr) (n t:Nat) (A:AW) (cell:Int) (ns:List Int) (as:List WA) (sts:List WSt) (m:Nat→Nat→Option Int) (sta:Nat→Nat→Option Nat) (B:Nat) (hs:Nat→Nat→WSt) (ln:Nat→Nat→Nat→Prop) (i j:Nat) (σ:St) (H':Hp):Prop:=∃ v8 v9 v10 v11 lo' lt',σ=nσ A n t cell (some (.int (i:Int))) v8 v9 v10 v11∧Wd K C n H' A ns as sts m sta lo' lt' (B+20 * i+5 * j)∧Snt n t hs ln lo' lt' sta (fun x y=>x<i∨(x=i∧y<j))
set_option maxHeartbeats 4000000 in
theorem own_sent (D:Def K mg "_law_sent" s__law_sent) (hb:Blt mg) (T_Ways:ClsD K mg "Ways" C at_Ways) (F__law_mixed:Own P w K mg base 1 "_law_mixed" ["_law_cell","_law_k"] sp_mixed) (M_Ways_reports:OwnM P w K mg base 3 C "reports" ["self"] (sp_reports C)):Own P w K mg base 4 "_law_sent" ["_law_hands","_law_lines","_law_letters","_law_lost","_law_turn","_law_cell"] (sp_sent K C):=by
  refine D.own sc__law_sent (fun _ _ _ _ _ _ us hl=>match us,hl with|[_,_,_,_,_,_],_=>rfl) (fun vs H Q E h=>?_) (fun f cdv A outer s H vs Q E hr h=>?_)
  · obtain ⟨A,n,t,cell,ns,as,sts,m,sta,lo,lt,B,hs,ln,rfl,_⟩:=h
    rfl
  · obtain ⟨A',n,t,cell,ns,as,sts,m,sta,lo,lt,B,hs,ln,rfl,W,hB,F0,hcur,hln,hlo,q⟩:=h
    have hu:=hr.units
    have hu1:(A.deeper (PyProof.Rows.envOfC "_law_sent" (defScope s__law_sent) s.heap.objs.size f cdv)).units+1<cLine:=by omega
    have eph:=W.hx.B.eph
    have lph:(as.map fun a=>V.ref a.x).length=n:=by rw [List.length_map,W.hx.B.hs.len,W.hx.B.n1]
    refine ⟨_,(@pss_cons _ _ _ _ _ (@ps_set _ _ 6 _ _ _ _ sc__law_sent.nd rfl (by first|exact Or.inl rfl|exact Or.inr rfl) (@pe_callB _ _ _ _ _ _ _ _ _ call_lenX rfl (hb _ (by decide)) bt_len (@pa_cX _ _ _ _ _ (@pv _ 0 _ _ (by rfl) (by first|exact Or.inl rfl|exact Or.inr (Or.inl rfl)|exact Or.inr (Or.inr rfl)) (by decide) (by decide)) (@pa_nil _) (by rfl)) (by decide) (by decide) (by rfl) (by rfl)) (by rfl) (by first|exact .inl rfl|exact .inr rfl|assumption)) (@pss_one _ _ _ (@ps_for _ _ _ _ _ _ _ _ PassesOwn.never rfl (@pi_range1 _ _ _ _ _ _ rfl (hb _ (by decide)) (@pa_cX _ _ _ _ _ (@pv _ 6 _ _ (by rfl) (by first|exact Or.inl rfl|exact Or.inr (Or.inl rfl)|exact Or.inr (Or.inr rfl)) (by decide) (by decide)) (@pa_nil _) (by rfl)) (by rfl)) (@pg_name _ _ 7 _ sc__law_sent.nd rfl (by first|exact Or.inl rfl|exact Or.inr rfl) (by first|exact .inl rfl|exact .inr rfl|assumption)) (@pss_one _ _ _ (@ps_for _ _ _ _ _ _ _ _ PassesOwn.never rfl (@pi_range1 _ _ _ _ _ _ rfl (hb _ (by decide)) (@pa_cX _ _ _ _ _ (@pv _ 6 _ _ (by rfl) (by first|exact Or.inl rfl|exact Or.inr (Or.inl rfl)|exact Or.inr (Or.inr rfl)) (by decide) (by decide)) (@pa_nil _) (by rfl)) (by rfl)) (@pg_name _ _ 8 _ sc__law_sent.nd rfl (by first|exact Or.inl rfl|exact Or.inr rfl) (by first|exact .inl rfl|exact .inr rfl|assumption)) (@pss_one _ _ _ (@ps_if _ _ _ _ _ _ _ _ (@PW.pt _ _ _ (@pw_and _ _ _ _ _ _ _ (@pt_cmpR _ _ _ _ _ _ _ _ op_ne (@pv _ 7 _ _ (by rfl) (by first|exact Or.inl rfl|exact Or.inr (Or.inl rfl)|exact Or.inr (Or.inr rfl)) (by decide) (by decide)) (@pv _ 8 _ _ (by rfl) (by first|exact Or.inl rfl|exact Or.inr (Or.inl rfl)|exact Or.inr (Or.inr rfl)) (by decide) (by decide)) (nomark _)) (@pw_and1 _ _ _ _ (@pt_cmpR _ _ _ _ _ _ _ _ op_notN (@pe_dget _ _ _ _ _ _ hu1 (@pv _ 1 _ _ (by rfl) (by first|exact Or.inl rfl|exact Or.inr (Or.inl rfl)|exact Or.inr (Or.inr rfl)) (by decide) (by decide)) (@pe_tup _ _ _ _ _ (@pa_cX _ _ _ _ _ (@pe_callB _ _ _ _ _ _ _ _ _ (call_min2 rfl) rfl (hb _ (by decide)) bt_min (@pa_cX _ _ _ _ _ (@pv _ 7 _ _ (by rfl) (by first|exact Or.inl rfl|exact Or.inr (Or.inl rfl)|exact Or.inr (Or.inr rfl)) (by decide) (by decide)) (@pa_cX _ _ _ _ _ (@pv _ 8 _ _ (by rfl) (by first|exact Or.inl rfl|exact Or.inr (Or.inl rfl)|exact Or.inr (Or.inr rfl)) (by decide) (by decide)) (@pa_nil _) (by rfl)) (by rfl)) (by decide) (by decide) (by rfl) (by rfl)) (@pa_cX _ _ _ _ _ (@pe_callB _ _ _ _ _ _ _ _ _ (call_max2 rfl) rfl (hb _ (by decide)) bt_max (@pa_cX _ _ _ _ _ (@pv _ 7 _ _ (by rfl) (by first|exact Or.inl rfl|exact Or.inr (Or.inl rfl)|exact Or.inr (Or.inr rfl)) (by decide) (by decide)) (@pa_cX _ _ _ _ _ (@pv _ 8 _ _ (by rfl) (by first|exact Or.inl rfl|exact Or.inr (Or.inl rfl)|exact Or.inr (Or.inr rfl)) (by decide) (by decide)) (@pa_nil _) (by rfl)) (by rfl)) (by decide) (by decide) (by rfl) (by rfl)) (@pa_nil _) (by rfl)) (by rfl))) (by intro _ _; rfl)) (@pe_non _ _ _) (nomark _))))) (@pss_cons _ _ _ _ _ (@ps_set _ _ 9 _ _ _ _ sc__law_sent.nd rfl (by first|exact Or.inl rfl|exact Or.inr rfl) (@pe_fn _ _ _ _ _ _ _ _ _ _ _ F__law_mixed hr (@pa_cX _ _ _ _ _ (@pv _ 5 _ _ (by rfl) (by first|exact Or.inl rfl|exact Or.inr (Or.inl rfl)|exact Or.inr (Or.inr rfl)) (by decide) (by decide)) (@pa_cX _ _ _ _ _ (@pe_op _ _ _ _ _ _ _ _ op_add (@pe_op _ _ _ _ _ _ _ _ op_add (@pe_op _ _ _ _ _ _ _ _ op_mul (@pe_int _ _ _ _) (@pe_op _ _ _ _ _ _ _ _ op_mod (@pv _ 4 _ _ (by rfl) (by first|exact Or.inl rfl|exact Or.inr (Or.inl rfl)|exact Or.inr (Or.inr rfl)) (by decide) (by decide)) (@pe_int _ _ _ _))) (@pe_op _ _ _ _ _ _ _ _ op_mul (@pv _ 6 _ _ (by rfl) (by first|exact Or.inl rfl|exact Or.inr (Or.inl rfl)|exact Or.inr (Or.inr rfl)) (by decide) (by decide)) (@pv _ 7 _ _ (by rfl) (by first|exact Or.inl rfl|exact Or.inr (Or.inl rfl)|exact Or.inr (Or.inr rfl)) (by decide) (by decide)))) (@pv _ 8 _ _ (by rfl) (by first|exact Or.inl rfl|exact Or.inr (Or.inl rfl)|exact Or.inr (Or.inr rfl)) (by decide) (by decide))) (@pa_nil _) (by rfl)) (by rfl)) (by decide) (by rfl) (by decide) (by rfl) (by rfl)) (by rfl) (by first|exact .inl rfl|exact .inr rfl|assumption)) (@pss_cons _ _ _ _ _ (@ps_set _ _ 10 _ _ _ _ sc__law_sent.nd rfl (by first|exact Or.inl rfl|exact Or.inr rfl) (@pe_ix _ _ _ _ _ _ _ (ix_get hu1) (@pe_lst _ _ _ _ (@pa_cX _ _ _ _ _ (@pe_tup _ _ _ _ _ (@pa_cX _ _ _ _ _ (@pe_int _ _ _ _) (@pa_nil _) (by rfl))) (@pa_cX _ _ _ _ _ (@pe_tup _ _ _ _ _ (@pa_cX _ _ _ _ _ (@pe_int _ _ _ _) (@pa_nil _) (by rfl))) (@pa_cX _ _ _ _ _ (@pe_tup _ _ _ _ _ (@pa_cX _ _ _ _ _ (@pe_int _ _ _ _) (@pa_cX _ _ _ _ _ (@pe_int _ _ _ _) (@pa_nil _) (by rfl)) (by rfl))) (@pa_cX _ _ _ _ _ (@pe_tup _ _ _ _ _ (@pa_cX _ _ _ _ _ (@pe_int _ _ _ _) (@pa_cX _ _ _ _ _ (@pe_int _ _ _ _) (@pa_nil _) (by rfl)) (by rfl))) (@pa_cX _ _ _ _ _ (@pe_tup _ _ _ _ _ (@pa_nil _)) (@pa_cX _ _ _ _ _ (@pe_tup _ _ _ _ _ (@pa_nil _)) (@pa_nil _) (by rfl)) (by rfl)) (by rfl)) (by rfl)) (by rfl)) (by rfl))) (@pe_op _ _ _ _ _ _ _ _ op_mod (@pv _ 9 _ _ (by rfl) (by first|exact Or.inl rfl|exact Or.inr (Or.inl rfl)|exact Or.inr (Or.inr rfl)) (by decide) (by decide)) (@pe_int _ _ _ _)) (fun _ _=>rfl)) (by rfl) (by first|exact .inl rfl|exact .inr rfl|assumption)) (@pss_cons _ _ _ _ _ (@ps_if _ _ _ _ _ _ _ _ (@PW.pt _ _ _ (@pw_and _ _ _ _ _ _ _ (@pt_cmpR _ _ _ _ _ _ _ _ (op_eqX hu) (@pv _ 10 _ _ (by rfl) (by first|exact Or.inl rfl|exact Or.inr (Or.inl rfl)|exact Or.inr (Or.inr rfl)) (by decide) (by decide)) (@pe_tup _ _ _ _ _ (@pa_nil _)) (nomark _)) (@pw_and1 _ _ _ _ (@pt_cmpR _ _ _ _ _ _ _ _ op_eq (@pe_dget1 _ _ _ _ _ _ _ hu1 (@pv _ 3 _ _ (by rfl) (by first|exact Or.inl rfl|exact Or.inr (Or.inl rfl)|exact Or.inr (Or.inr rfl)) (by decide) (by decide)) (@pe_tup _ _ _ _ _ (@pa_cX _ _ _ _ _ (@pv _ 7 _ _ (by rfl) (by first|exact Or.inl rfl|exact Or.inr (Or.inl rfl)|exact Or.inr (Or.inr rfl)) (by decide) (by decide)) (@pa_cX _ _ _ _ _ (@pv _ 8 _ _ (by rfl) (by first|exact Or.inl rfl|exact Or.inr (Or.inl rfl)|exact Or.inr (Or.inr rfl)) (by decide) (by decide)) (@pa_nil _) (by rfl)) (by rfl))) (by constructor <;> rfl)) (@pe_op _ _ _ _ _ _ _ _ op_sub (@pv _ 4 _ _ (by rfl) (by first|exact Or.inl rfl|exact Or.inr (Or.inl rfl)|exact Or.inr (Or.inr rfl)) (by decide) (by decide)) (@pe_int _ _ _ _)) (nomark _))))) (@pss_one _ _ _ (@ps_set _ _ 10 _ _ _ _ sc__law_sent.nd rfl (by first|exact Or.inl rfl|exact Or.inr rfl) (@pe_tup _ _ _ _ _ (@pa_cX _ _ _ _ _ (@pe_op _ _ _ _ _ _ _ _ op_add (@pe_int _ _ _ _) (@pe_op _ _ _ _ _ _ _ _ op_mod (@pe_op _ _ _ _ _ _ _ _ op_fdiv (@pv _ 9 _ _ (by rfl) (by first|exact Or.inl rfl|exact Or.inr (Or.inl rfl)|exact Or.inr (Or.inr rfl)) (by decide) (by decide)) (@pe_int _ _ _ _)) (@pe_int _ _ _ _))) (@pa_nil _) (by rfl))) (by rfl) (by first|exact .inl rfl|exact .inr rfl|assumption))) (@pss_nil _)) (@pss_cons _ _ _ _ _ (@ps_if _ _ _ _ _ _ _ _ (@pt_cmpR _ _ _ _ _ _ _ _ (op_eqX hu) (@pv _ 10 _ _ (by rfl) (by first|exact Or.inl rfl|exact Or.inr (Or.inl rfl)|exact Or.inr (Or.inr rfl)) (by decide) (by decide)) (@pe_tup _ _ _ _ _ (@pa_nil _)) (nomark _)) (@pss_one _ _ _ (@ps_dput _ _ _ _ _ _ _ _ _ hu1 (@pv _ 3 _ _ (by rfl) (by first|exact Or.inl rfl|exact Or.inr (Or.inl rfl)|exact Or.inr (Or.inr rfl)) (by decide) (by decide)) (@pe_tup _ _ _ _ _ (@pa_cX _ _ _ _ _ (@pv _ 7 _ _ (by rfl) (by first|exact Or.inl rfl|exact Or.inr (Or.inl rfl)|exact Or.inr (Or.inr rfl)) (by decide) (by decide)) (@pa_cX _ _ _ _ _ (@pv _ 8 _ _ (by rfl) (by first|exact Or.inl rfl|exact Or.inr (Or.inl rfl)|exact Or.inr (Or.inr rfl)) (by decide) (by decide)) (@pa_nil _) (by rfl)) (by rfl))) (@pv _ 4 _ _ (by rfl) (by first|exact Or.inl rfl|exact Or.inr (Or.inl rfl)|exact Or.inr (Or.inr rfl)) (by decide) (by decide)) rfl)) (@pss_nil _)) (@pss_one _ _ _ (@ps_for _ _ _ _ _ _ _ _ PassesOwn.never rfl (@pi_tupK _ K _ _ _ (@pv _ 10 _ _ (by rfl) (by first|exact Or.inl rfl|exact Or.inr (Or.inl rfl)|exact Or.inr (Or.inr rfl)) (by decide) (by decide)) (by rfl)) (@pg_name _ _ 11 _ sc__law_sent.nd rfl (by first|exact Or.inl rfl|exact Or.inr rfl) (by first|exact .inl rfl|exact .inr rfl|assumption)) (@pss_one _ _ _ (@ps_expr _ _ _ _ (@pe_lm _ _ _ _ _ _ _ _ _ _ _ PySem.F.slot_list_append PySem.F.type_list_append mt_append (@pe_dsd _ _ _ _ _ _ _ _ _ (@pv _ 2 _ _ (by rfl) (by first|exact Or.inl rfl|exact Or.inr (Or.inl rfl)|exact Or.inr (Or.inr rfl)) (by decide) (by decide)) (@pe_op _ _ _ _ _ _ _ _ op_add (@pv _ 4 _ _ (by rfl) (by first|exact Or.inl rfl|exact Or.inr (Or.inl rfl)|exact Or.inr (Or.inr rfl)) (by decide) (by decide)) (@pv _ 11 _ _ (by rfl) (by first|exact Or.inl rfl|exact Or.inr (Or.inl rfl)|exact Or.inr (Or.inr rfl)) (by decide) (by decide))) (@pe_lst _ _ _ _ (@pa_nil _)) (by constructor <;> rfl)) (@pa_cX _ _ _ _ _ (@pe_tup _ _ _ _ _ (@pa_cX _ _ _ _ _ (@pv _ 7 _ _ (by rfl) (by first|exact Or.inl rfl|exact Or.inr (Or.inl rfl)|exact Or.inr (Or.inr rfl)) (by decide) (by decide)) (@pa_cX _ _ _ _ _ (@pv _ 8 _ _ (by rfl) (by first|exact Or.inl rfl|exact Or.inr (Or.inl rfl)|exact Or.inr (Or.inr rfl)) (by decide) (by decide)) (@pa_cX _ _ _ _ _ (@pv _ 4 _ _ (by rfl) (by first|exact Or.inl rfl|exact Or.inr (Or.inl rfl)|exact Or.inr (Or.inr rfl)) (by decide) (by decide)) (@pa_cX _ _ _ _ _ (@pe_mth0 _ _ _ _ _ _ _ _ _ _ _ _ M_Ways_reports T_Ways.cl hr (@pe_ix _ _ _ _ _ _ _ (ix_get hu1) (@pv _ 0 _ _ (by rfl) (by first|exact Or.inl rfl|exact Or.inr (Or.inl rfl)|exact Or.inr (Or.inr rfl)) (by decide) (by decide)) (@pv _ 7 _ _ (by rfl) (by first|exact Or.inl rfl|exact Or.inr (Or.inl rfl)|exact Or.inr (Or.inr rfl)) (by decide) (by decide)) (fun _ _=>rfl)) (by decide) (by rfl)) (@pa_nil _) (by rfl)) (by rfl)) (by rfl)) (by rfl))) (@pa_nil _) (by rfl)) (by rfl) (by rfl) (by rfl) (by rfl) (by rfl)) (by rfl))) (by intro _; rfl))))))) (@pss_nil _))) (by intro _; rfl))) (by intro _; rfl)))),?_⟩
    simp (maxSteps:=1000000) only [tFor_eq,rLenX,lenX_r,lenO_l,Option.bind_some,Nat.reduceSub,Nat.reduceAdd,iRng1,cZ0,tSeq,eZ1,tVar,tAsg,gName,tCons,tNil,tCB,L2.start,mZ1,mZ0,lZ1,lZ0,List.replicate,List.cons_append,List.nil_append,gZ0,gZ1,sZ0,sZ1,oZ0,eZ0,V.int.injEq,and_true,eph,lph]
    have hn:=W.hx.B.n2
    refine ⟨by omega,by omega,for_range (n:=((n:Int)).toNat) (Na K C n t A' cell ns as sts m sta B hs ln) ⟨_,_,_,_,_,lo,lt,rfl,W.more (by omega),F0.imp (fun _ _ _ _ _ z=>absurd z (by omega)),fun s a b h z y=>hlo t a b (Nat.le_refl _) y,fun s a b h=>hlo s a b (by omega),fun a b z=>absurd z (hlo t a b (Nat.le_refl _))⟩ ?_ ?_⟩
    · rintro i σ H2 hi ⟨v7,v8,v9,v10,v11,lo2,lt2,rfl,W2,S2⟩
      have hi':i<n:=by omega
      simp (maxSteps:=1000000) only [tFor_eq,iRng1,cZ0,tVar,gName,tCons,tNil,gZ0,gZ1,sZ0,sZ1,oZ0,eZ0,V.int.injEq,and_true,Int.zero_add,nσ]
      refine ⟨by omega,by omega,for_range (n:=((n:Int)).toNat) (Nb K C n t A' cell ns as sts m sta B hs ln i) ⟨_,_,_,_,lo2,lt2,rfl,W2.more (by omega),S2.imp (fun _ _ _ _ _ z=>by omega) (fun _ _ z=>.inl z)⟩ ?_ ?_⟩
      · rintro j σ H3 hj ⟨v8,v9,v10,v11,lo3,lt3,rfl,W3,S3⟩
        have hj':j<n:=by omega
        change tIfS _ _ _ _ (nσ A' n t cell (some (.int (i:Int))) (some (.int (0+(j:Int)))) v9 v10 v11) H3
        rw [Int.zero_add]
        refine useJ0 (fun σ H'=>σ=nσ A' n t cell (some (.int (i:Int))) (some (.int (j:Int))) v9 v10 v11∧Same H3 H'∧i≠j) ?_ (fun X hX=>?_)
        rotate_left
        · simp (maxSteps:=1000000) only [Nat.reduceAdd,tDGet,cZ0,rNe_ii,eZ1,if_false,Bool.false_eq_true,tIfS,tAnd,tTest,tOp,tVar,tC,tNext,tCons,tNil,tCB,tTup,lZ1,lZ0,gZ0,gZ1,oZ0,eZ0,V.int.injEq,V.bl.injEq,V.ref.injEq,and_true,true_and,and_assoc,nσ,tDGet]
          refine ite2 (fun h1=>?_) (fun h1=>?_)
          · have hij:i≠j:=fun z=>by rw [z] at h1; simp at h1
            refine ⟨by rw [sizeLine_eq]; omega,?_⟩
            intro p4 n4
            generalize z4:upd H3 p4 _=H4
            obtain ⟨s4,e4⟩:=new_same z4 n4
            refine ⟨_,(W3.same s4).ot.ln.get hi' hj' hij e4,?_⟩
            refine ite2 (fun h2=>hX _ _ ⟨rfl,s4,hij⟩) (fun h2=>?_)
            have hc:cOf n m i j=none:=by
              cases hc:cOf n m i j with
              | none=>rfl
              | some l=>rw [hc] at h2; simp [optV] at h2
            refine ⟨_,_,_,_,lo3,lt3,rfl,(W3.same s4).more (by omega),(S3.F.none (a:=i) (b:=j) (fun z=>absurd hc (hln i j z))).imp (fun x y _ _ _ z=>by omega),S3.two,S3.fut,fun a b z=>by have:=S3.nP a b z; omega⟩
          · have hij:i=j:=by
              by_cases h:i=j
              · exact h
              · exact absurd (show (!decide ((i:Int)=(j:Int)))=true by simp; omega) h1
            exact ⟨_,_,_,_,lo3,lt3,rfl,W3.more (by omega),S3.imp (fun x y _ _ _ z=>by omega) (fun x y z=>by omega)⟩
        rintro σ H4 ⟨rfl,s4,hij⟩
        refine use2 (fun σ H'=>∃ (r:Int) (pd:Addr) (ds:List Int),σ=nσ A' n t cell (some (.int (i:Int))) (some (.int (j:Int))) (some (.int r)) (some (.ref pd)) v11∧Same H3 H'∧H' pd=some (.tup (ds.map V.int))∧okDs ds) ?_ (fun X hX=>?_)
        rotate_left
        · simp (maxSteps:=1000000) only [rGet,getO_l,upd_same,Int.reduceLT,Nat.reduceAdd,tSeq,eZ1,tOp,tVar,tC,rI,rI0,tAsg,gName,tCall,tCons,tNil,tLst,tTup,lZ1,lZ0,gZ0,gZ1,sZ0,sZ1,oZ0,eZ0,V.int.injEq,V.ref.injEq,true_and,aZ0,nσ]
          have h16:n * i≤4 * 4:=Nat.mul_le_mul (by omega) (by omega)
          have e16:(n:Int) * (i:Int)=((n * i:Nat):Int):=by rw [Int.natCast_mul]
          refine ⟨.inl ⟨by omega,by omega⟩,.inl ⟨by omega,by omega⟩,cell,_,rfl,by omega,by omega,fun r r0 r1=>⟨by rw [sizeLine_eq]; omega,?_⟩⟩
          intro p5 n5
          generalize z5:upd H4 p5 _=H5
          obtain ⟨s5,e5⟩:=new_same z5 n5
          refine ⟨by rw [sizeLine_eq]; omega,?_⟩
          intro p6 n6
          generalize z6:upd H5 p6 _=H6
          obtain ⟨s6,e6⟩:=new_same z6 n6
          refine ⟨by rw [sizeLine_eq]; omega,?_⟩
          intro p7 n7
          generalize z7:upd H6 p7 _=H7
          obtain ⟨s7,e7⟩:=new_same z7 n7
          refine ⟨by rw [sizeLine_eq]; omega,?_⟩
          intro p8 n8
          generalize z8:upd H7 p8 _=H8
          obtain ⟨s8,e8⟩:=new_same z8 n8
          refine ⟨by rw [sizeLine_eq]; omega,?_⟩
          intro p9 n9
          generalize z9:upd H8 p9 _=H9
          obtain ⟨s9,e9⟩:=new_same z9 n9
          refine ⟨by rw [sizeLine_eq]; omega,?_⟩
          intro p10 n10
          generalize z10:upd H9 p10 _=H10
          obtain ⟨s10,e10⟩:=new_same z10 n10
          refine ⟨by rw [sizeLine_eq]; omega,?_⟩
          intro p11 n11
          generalize z11:upd H10 p11 _=H11
          obtain ⟨s11,e11⟩:=new_same z11 n11
          obtain ⟨v,hv,ev⟩:=atI_in (xs:=[V.ref p5,V.ref p6,V.ref p7,V.ref p8,V.ref p9,V.ref p10]) (k:=r % 6) (by omega) (by simp only [lZ1,lZ0]; omega)
          refine ⟨r,rfl,v,ev,?_⟩
          have t10:=s10.trans s11
          have t9:=s9.trans t10
          have t8:=s8.trans t9
          have t7:=s7.trans t8
          have t6:=s6.trans t7
          have t5:=s4.trans (s5.trans t6)
          simp only [List.mem_cons,List.not_mem_nil,or_false] at hv
          rcases hv with rfl|rfl|rfl|rfl|rfl|rfl
          · exact hX _ _ ⟨r,p5,[1],rfl,t5,t6 _ _ e5,by simp [okDs]⟩
          · exact hX _ _ ⟨r,p6,[2],rfl,t5,t7 _ _ e6,by simp [okDs]⟩
          · exact hX _ _ ⟨r,p7,[2,1],rfl,t5,t8 _ _ e7,by simp [okDs]⟩
          · exact hX _ _ ⟨r,p8,[2,2],rfl,t5,t9 _ _ e8,by simp [okDs]⟩
          · exact hX _ _ ⟨r,p9,[],rfl,t5,t10 _ _ e9,by simp [okDs]⟩
          · exact hX _ _ ⟨r,p10,[],rfl,t5,s11 _ _ e10,by simp [okDs]⟩
        rintro σ H5 ⟨r,pd,ds,rfl,s5,epd,hds⟩
        refine use1 (fun σ H'=>∃ (pd:Addr) (ds:List Int),σ=nσ A' n t cell (some (.int (i:Int))) (some (.int (j:Int))) (some (.int r)) (some (.ref pd)) v11∧Same H3 H'∧H' pd=some (.tup (ds.map V.int))∧okDs ds∧(ds=[]→∀ s,s+1=t→¬ lo3 s i j)) ?_ (fun X hX=>?_)
        rotate_left
        · simp (maxSteps:=1000000) only [Int.reduceLT,Nat.reduceAdd,tSeq,eZ1,if_false,Bool.false_eq_true,tIfS,tAnd,tTest,tOp,tVar,tC,rI,rI0,tAsg,gName,tNext,tCons,tNil,tTup,lZ1,lZ0,gZ0,gZ1,sZ0,sZ1,oZ0,eZ0,V.int.injEq,V.ref.injEq,true_and,nσ,tDGet1]
          refine ⟨by rw [sizeLine_eq]; omega,?_⟩
          intro p6 n6
          generalize z6:upd H5 p6 _=H6
          obtain ⟨s6,e6⟩:=new_same z6 n6
          have s36:=s5.trans s6
          refine eq_nil (s6 _ _ epd) e6 hds.1 ⟨_,rfl,?_⟩
          cases ds with
          | cons d ds'=>
            rw [if_neg (by simp)]
            exact hX _ _ ⟨pd,d::ds',rfl,s36,s6 _ _ epd,hds,fun z=>nomatch z⟩
          | nil=>
            rw [if_pos (show ([]:List Int).isEmpty=true from rfl)]
            obtain ⟨kv,ev,hkl,hki,hks⟩:=(W3.same s36).ot.fo
            refine ⟨.inr ⟨kv,.inl ev⟩,by rw [sizeLine_eq]; omega,?_⟩
            intro p7 n7
            generalize z7:upd H6 p7 _=H7
            obtain ⟨s7,e7⟩:=new_same z7 n7
            have s37:=s36.trans s7
            refine ⟨_,DGet.t (k:=[Sum.inl (i:Int),Sum.inl (j:Int)]) (s7 _ _ ev) e7,?_⟩
            have nl:∀ s,s+1=t→lo3 s i j→valV kv [Sum.inl (i:Int),Sum.inl (j:Int)]=some (.int ((t:Int) - 1)):=fun s hs hl=>by
              rw [hks s i j hl (fun s' h' z=>?_),show (s:Int)=(t:Int) - 1 by omega]
              by_cases e:s'=t
              · have:=S3.nP i j (e ▸ z)
                omega
              · exact S3.fut s' i j (by omega) z
            have hsc:scal ((valV kv [Sum.inl (i:Int),Sum.inl (j:Int)]).getD .non) (V.int ((t:Int) - 1))=true:=by
              cases hval:valV kv [Sum.inl (i:Int),Sum.inl (j:Int)] with
              | none=>rfl
              | some v=>
                obtain ⟨z,rfl⟩:=hki _ _ hval
                rfl
            refine ⟨hsc,_,rfl,ite2 (fun h=>⟨⟨by decide,by decide⟩,by rw [sizeLine_eq]; omega,?_⟩) (fun h=>?_)⟩
            · intro p8 n8
              generalize z8:upd H7 p8 _=H8
              obtain ⟨s8,e8⟩:=new_same z8 n8
              refine hX _ _ ⟨p8,[1+r / 6 % 2],rfl,s37.trans s8,e8,⟨by simp,fun d hd=>?_⟩,fun z=>nomatch z⟩
              rw [List.mem_singleton] at hd
              omega
            · refine hX _ _ ⟨pd,[],rfl,s37,(s6.trans s7) _ _ epd,hds,fun _ s hs hl=>h ?_⟩
              rw [nl s hs hl]
              exact decide_eq_true rfl
        rintro σ H6 ⟨pd,ds,rfl,s6,epd,hds,hnl⟩
        refine use1 (fun σ H'=>∃ lo4,σ=nσ A' n t cell (some (.int (i:Int))) (some (.int (j:Int))) (some (.int r)) (some (.ref pd)) v11∧Wd K C n H' A' ns as sts m sta lo4 lt3 (B+20 * i+5 * j+1)∧H' pd=some (.tup (ds.map V.int))∧Snt n t hs ln lo4 lt3 sta (fun x y=>(x<i∨(x=i∧y<j))∨(ds=[]∧x=i∧y=j))) ?_ (fun X hX=>?_)
        rotate_left
        · simp (maxSteps:=1000000) only [Nat.reduceAdd,sDPut,tSeq,eZ1,tIfS,tTest,tOp,tVar,tNext,tCons,tNil,tTup,lZ1,lZ0,gZ0,gZ1,oZ0,eZ0,V.ref.injEq,nσ,sDPut]
          refine ⟨by rw [sizeLine_eq]; omega,?_⟩
          intro p7 n7
          generalize z7:upd H6 p7 _=H7
          obtain ⟨s7,e7⟩:=new_same z7 n7
          have s37:=s6.trans s7
          have W7:=W3.same s37
          refine eq_nil (s7 _ _ epd) e7 hds.1 ⟨_,rfl,?_⟩
          cases ds with
          | cons d ds'=>
            rw [if_neg (by simp)]
            exact hX _ _ ⟨lo3,rfl,W7.more (by omega),s7 _ _ epd,S3.imp (fun x y _ _ _ z=>z.elim id fun z=>nomatch z.1) (fun x y z=>.inl z)⟩
          | nil=>
            rw [if_pos (show ([]:List Int).isEmpty=true from rfl)]
            refine ⟨by rw [sizeLine_eq]; omega,?_⟩
            intro p8 n8
            generalize z8:upd H7 p8 _=H8
            obtain ⟨s8,e8⟩:=new_same z8 n8
            have W8:=W7.same s8
            obtain ⟨kv,ev,hkl,hki,hks⟩:=W8.ot.fo
            have Z:=W8.lose (LoD.put (t:=t) (a:=i) (b:=j) ev hkl hki hks (fun s x y h=>S3.fut s x y h))
            have epd8:=(s7.trans s8) _ _ epd
            refine ⟨_,DPut.t (k:=[Sum.inl (i:Int),Sum.inl (j:Int)]) ev e8 (by rw [sizeLine_eq]; omega),hX _ _ ⟨_,rfl,Z,?_,?_⟩⟩
            · rw [upd_ne (fun z=>by rw [z,ev] at epd8; cases epd8)]
              exact epd8
            · refine ⟨((S3.F.lose (a:=i) (b:=j)).none (a:=i) (b:=j) (fun _=>.inr ⟨rfl,rfl,rfl⟩)).imp (fun x y _ _ _ z=>z.imp_right fun z=>z.2),fun s x y hs z1 z2=>?_,fun s x y hs z=>?_,fun x y z=>?_⟩
              · rcases z1 with z1|⟨z1,_⟩
                · rcases z2 with z2|⟨_,rfl,rfl⟩
                  · exact S3.two s x y hs z1 z2
                  · exact hnl rfl s hs z1
                · omega
              · rcases z with z|⟨z,_⟩
                · exact S3.fut s x y hs z
                · omega
              · rcases z with z|⟨_,z⟩
                · exact .inl (S3.nP x y z)
                · exact .inr ⟨rfl,z⟩
        rintro σ H7 ⟨lo4,rfl,W7,epd7,S7⟩
        simp (maxSteps:=1000000) only [tFor_eq,tVar,gZ0,gZ1,oZ0,eZ0,V.ref.injEq,nσ,iTup]
        refine ⟨⟨_,SqT.of epd7⟩,for_tup (xs:=ds.map V.int) (fun k σ H'=>∃ v11 lt',σ=nσ A' n t cell (some (.int (i:Int))) (some (.int (j:Int))) (some (.int r)) (some (.ref pd)) v11∧Wd K C n H' A' ns as sts m sta lo4 lt' (B+20 * i+5 * j+1+2 * k)∧H' pd=some (.tup (ds.map V.int))∧Snt n t hs ln lo4 lt' sta (fun x y=>(x<i∨(x=i∧y<j))∨((ds=[]∨0<k)∧x=i∧y=j))) ⟨_,lt3,rfl,W7,epd7,S7.imp (fun x y _ _ _ z=>z.imp_right fun z=>⟨z.1.elim id (fun z=>absurd z (by omega)),z.2⟩) (fun x y z=>z.imp_right fun z=>⟨.inl z.1,z.2⟩)⟩ ?_ ?_ ?_⟩
        · rintro k σ H8 hk ⟨v11',lt8,rfl,W8,e8,S8⟩
          exact SqT.of e8
        · rintro k v σ H8 hv ⟨v11',lt8,rfl,W8,epd8,S8⟩
          have hk:k<ds.length:=by have:=(List.getElem?_eq_some_iff.mp hv).1; rwa [List.length_map] at this
          have hk2:k<2:=Nat.lt_of_lt_of_le hk hds.1
          rw [List.getElem?_map] at hv
          obtain ⟨d,hd,rfl⟩:=Option.map_eq_some_iff.mp hv
          have hd12:=hds.2 d (List.mem_of_getElem? hd)
          obtain ⟨u,hu',hu2⟩:∃ u:Nat,(t:Int)+d=(u:Int)∧(u=t+1∨u=t+2):=by
            rcases hd12 with rfl|rfl
            · exact ⟨t+1,by omega,.inl rfl⟩
            · exact ⟨t+2,by omega,.inr rfl⟩
          obtain ⟨kv8,L8⟩:=W8.ot.ft
          have lv8:=L8.l
          have ept8:=L8.e
          simp (maxSteps:=1000000) only [tBL,rGet,HO.dK.injEq,Nat.reduceAdd,tMeth,rAppend,cZ0,eZ1,tOp,tVar,rI0,gName,tCons,tNil,tDrop,tLst,tTup,lZ1,lZ0,gZ0,gZ1,sZ0,sZ1,oZ0,eZ0,V.int.injEq,V.ref.injEq,and_true,true_and,aZ0,nσ,tDSD,ept8,hu',keyV_i]
          refine ⟨by rw [sizeLine_eq]; omega,?_⟩
          intro p9 n9
          generalize z9:upd H8 p9 _=H9
          obtain ⟨s9,e9⟩:=new_same z9 n9
          have core:∀ (HA:Hp) (L:Addr) (kvA:List (Key × V)),Wd K C n HA A' ns as sts m sta lo4 lt8 (B+20 * i+5 * j+1+2 * k+1)→LtD' HA A'.pt A'.av (B+20 * i+5 * j+1+2 * k+1) lt8 kvA→valV kvA (Sum.inl (u:Int))=some (.ref L)→HA pd=some (.tup (ds.map V.int))→∃ x,HA A'.ph=some x∧∃ x_1,getO x (V.int (i:Int))=some x_1∧∃ a,x_1=V.ref a∧∃ x x_2,HA a=some (HO.ins C x x_2)∧List.lookup (Str.ofString "reports") x_2=none ∧
              sp_reports C [x_1] HA (fun x H1=>4≤sizeLine∧∀ (p:Addr),H1 p=none→∃ x_3,upd H1 p (HO.tup [V.int (i:Int),V.int (j:Int),V.int (t:Int),x]) L=some (HO.lst x_3)∧x_3.length<sizeLine∧∃ x_4,Wd K C n (upd (upd H1 p (HO.tup [V.int (i:Int),V.int (j:Int),V.int (t:Int),x])) L (HO.lst (x_3++[V.ref p]))) A' ns as sts m sta lo4 x_4 (B+20 * i+5 * j+1+2 * (k+1))∧upd (upd H1 p (HO.tup [V.int (i:Int),V.int (j:Int),V.int (t:Int),x])) L (HO.lst (x_3++[V.ref p])) pd=some (HO.tup (List.map V.int ds))∧Snt n t hs ln lo4 x_4 sta fun x y=>(x<i∨x=i∧y<j)∨(ds=[]∨0<k+1)∧x=i∧y=j) E0:=fun HA L kvA WA LA hval epA=>by
            obtain ⟨a,st,ea,es,Y,hme,xa⟩:=WA.hx.B.at_ hi'
            refine ⟨_,WA.hx.B.eph,_,xa,a.x,rfl,_,_,Y.inst,rfl,domN n,a,st,rfl,Y,fun r0 ys gs HB nr sB er hys _ hnd hgs=>⟨by rw [sizeLine_eq]; omega,?_⟩⟩
            intro p10 n10
            generalize z10:upd HB p10 _=H10
            obtain ⟨s10,e10⟩:=new_same z10 n10
            have sA:=sB.trans s10
            obtain ⟨L',xs,eL',hav,eL,hxl,_⟩:=LA.at_ u _ hval
            cases eL'
            have LC:=LA.kl (.of_same sA) (sA _ _ LA.e) (Nat.le_refl _)
            have WC:=WA.same sA
            have eLC:=sA _ _ eL
            have hgd:∀ g∈gs,0≤g∧g<sts.length:=fun g hg=>by
              rw [WA.hx.B.n1]
              rcases (hgs g).mp hg with z|z
              · rw [z,hme]; omega
              · exact mem_domN.mp (mar_dom Y z)
            have hT:Told sts i (gs.map (rowOf st)):=told_rows WA.hx.B.net es hgd
            have LD:=LC.add (l:=(i,j,t,gs.map (rowOf st))) hval eLC e10 (s10 _ _ er) (pmap hys fun _ _ z=>RRow.kl z (.of_same s10)) (fun k' z=>by
              obtain ⟨zs,e⟩:=LA.ls k' r0 z
              rw [nr] at e
              cases e)
            have epC:=sA _ _ epA
            refine ⟨xs,eLC,by rw [sizeLine_eq]; omega,addL lt8 u (i,j,t,gs.map (rowOf st)),WC.lets (.inr ⟨hav,_,eLC⟩) ⟨_,LD⟩ (by omega) (fun w l hl=>?_),?_,?_⟩
            · rcases mem_add.mp hl with z|⟨_,rfl⟩
              · exact WC.ot.tl w l z
              · exact hT
            · rw [upd_ne (fun z=>by rw [z,eLC] at epC; cases epC)]
              exact epC
            · have Rr:Rws (hs t i) (gs.map (rowOf st)):=by
                rw [hcur i hi',cur_at es]
                exact ⟨gs,rfl,hnd,hgs⟩
              refine ⟨(S8.F.lay hu2 hi' hj' hij Rr).imp (fun x y _ _ _ z=>?_),S8.two,S8.fut,fun x y z=>(S8.nP x y z).imp_right fun w=>⟨.inr (by omega),w.2⟩⟩
              rcases z with z|⟨_,z⟩
              · exact .inl (.inl z)
              · exact .inr z
          have sz:kv8.length<sizeLine:=by rw [sizeLine_eq]; omega
          have epd9:=s9 _ _ epd8
          refine ⟨kv8,s9 _ _ ept8,sz,fun v hv=>?_,fun hv=>?_⟩
          · obtain ⟨L,xs,rfl,hav,eL,hxl,_⟩:=L8.at_ u v hv
            obtain ⟨x,h1,x1,h2,a,h3,x4,x5,h4,h5,dom',a',st',h6,h7,h8⟩:=core H9 L kv8 ((W8.same s9).more (by omega)) (L8.kl (.of_same s9) (s9 _ _ ept8) (by omega)) hv epd9
            refine ⟨L,rfl,_,s9 _ _ eL,x,h1,x1,h2,a,h3,x4,x5,h4,h5,dom',a',st',h6,h7,fun p xs gs HB g1 g2 g3 g4 g5 g6 g7=>?_⟩
            obtain ⟨g8,g9⟩:=h8 p xs gs HB g1 g2 g3 g4 g5 g6 g7
            exact ⟨g8,fun q0 hq0=>⟨L,rfl,g9 q0 hq0⟩⟩
          · have hav:p9 ∉ A'.av:=fun z=>by
              obtain ⟨xs,h|⟨o,h⟩⟩:=W8.ot.av.2 _ z <;> (rw [n9] at h; cases h)
            have LA:=L8.sd hv n9 s9 e9 hav
            have hne:p9≠A'.pt:=fun z=>by rw [z,ept8] at n9; cases n9
            refine ⟨[],by rw [upd_ne hne]; exact e9,core _ p9 _ ((W8.same s9).lets (.inl ⟨rfl,_,rfl⟩) ⟨_,LA⟩ (by omega) W8.ot.tl) LA (by rw [valV_put,if_pos rfl]) ?_⟩
            rw [upd_ne (fun z=>by rw [z,ept8] at epd8; cases epd8)]
            exact epd9
        · rintro σ H8 ⟨v11',lt8,rfl,W8,e8,S8⟩
          have:=hds.1
          refine ⟨_,_,_,_,lo4,lt8,rfl,W8.more (by rw [List.length_map]; omega),S8.imp (fun x y _ _ _ z=>?_) (fun x y z=>by omega)⟩
          by_cases h:x=i∧y=j
          · refine .inr ⟨?_,h⟩
            cases ds with
            | nil=>exact .inl rfl
            | cons _ _=>exact .inr (by simp)
          · exact .inl (by omega)
      · rintro σ H3 ⟨v8,v9,v10,v11,lo3,lt3,rfl,W3,S3⟩
        refine ⟨_,_,_,_,_,lo3,lt3,rfl,W3.more (by omega),S3.imp (fun _ _ _ hb _ z=>by omega) (fun _ _ z=>by omega)⟩
    · rintro σ H2 ⟨v7,v8,v9,v10,v11,lo2,lt2,rfl,W2,S2⟩
      simp (maxSteps:=1000000) only []
      exact q lo2 lt2 H2 (W2.more (by omega)) (S2.F.next (fun a b ha _ _=>by omega) S2.two) S2.fut S2.F.old
end
end K15
namespace K15
open PySem L2 PySem.W
abbrev s__law_no_rings:Stmt:=stm 16
theorem sc__law_no_rings:FnScope ["_law_hands","_law_nexts","_law_me","_law_goal","_law_found"] ["_law_hands"] (defScope s__law_no_rings):=⟨rfl,rfl,rfl,by decide +kernel,rfl,by decide +kernel,by decide +kernel⟩
theorem cs__law_no_rings_0:CScope ["_law_one"] [] { kind:=.function,names:=[(".0", .local),("_law_one", .local),("_law_next", .globalImplicit)],isGenerator:=false,isCoroutine:=false,more:=[] } (defScope s__law_no_rings):=⟨rfl,by decide +kernel,by decide +kernel,by decide +kernel,by decide +kernel,by decide +kernel⟩
section
variable {P:Program} {w:World} {K:PySem.W.Frag} {mg:Str→Option Value} {base:Heap} {C:Addr}
def mkA (sts:List WSt) (g h:Int):Option Mk:=match sts[h.toNat]? with
  | some st=>markOf st g
  | none=>none
theorem tab_out {H:Hp} {Pt b:Addr} {o:HO} (h:TabOk H Pt nPos qN) (e:H b=some o) (n:∀ ps,o≠.tbl ps):b ∉ [Pt]:=fun z=>by
  rw [List.mem_singleton] at z
  subst z
  rcases h with y|⟨c',y,_⟩ <;> (rw [y] at e; cases e; exact n _ rfl)
def ord (sts:List WSt) (g x h:Int):Prop:=∃ mx mh,mkA sts g x=some mx∧mkA sts g h=some mh∧bet mx mh=true
theorem nx_ord {sts:List WSt} (N:Net sts) {g h x:Int} (e:nxS sts g h=some x):0≤x∧x<sts.length∧ord sts g x h:=by
  unfold nxS at e
  split at e
  · next st est=>
    have O:=N _ _ est
    unfold nextOf at e
    obtain ⟨w,hw,rfl⟩:=Option.map_eq_some_iff.mp e
    obtain ⟨a,b,c,sn,mn,mi,e1,e2,e3,e4⟩:=O.wn g w hw
    refine ⟨a,b,mn,mi,?_,?_,e4⟩
    · unfold mkA; rw [e1]; exact e3
    · unfold mkA
      rw [est]
      change markOf st g=some mi
      unfold markOf
      rw [if_neg]
      · exact e2
      · intro z
        have:=(O.ms g (by rw [z]; exact O.rm)).2
        unfold wayOf at hw
        rw [this] at hw
        cases hw
  · cases e
def sp_rings (K:PySem.W.Frag) (C Pt:Addr):Sp:=fun vs H Q _=>∃ (A:AW) (n:Nat) (ns:List Int) (as:List WA) (sts:List WSt) (m:Nat→Nat→Option Int) (sta:Nat→Nat→Option Nat) (lo:Nat→Nat→Nat→Prop) (lt:Nat→List Ltr) (B:Nat),vs=[.ref A.ph]∧A.Pt=Pt∧Wd K C n H A ns as sts m sta lo lt B∧∀ H',Wd K C n H' A ns as sts m sta lo lt B→Q (.bl true) H'
def Rc (Pt:Addr) (as:List WA) (H:Hp) (D:Addr) (i:Nat) (acc:List V) (H':Hp):Prop:=∃ fs:List Addr,acc=fs.map V.ref∧H' D=some (.lst (fs.map V.ref))∧(∀ (j:Nat) f a,fs[j]?=some f→as[j]?=some a→CloN H' f a.x)∧fs.length=i∧Keep [Pt] H H'∧TabOk H' Pt nPos qN
structure Rr (K:PySem.W.Frag) (C:Addr) (A:AW) (n:Nat) (ns:List Int) (as:List WA) (sts:List WSt) (m:Nat→Nat→Option Int) (sta:Nat→Nat→Option Nat) (lo:Nat→Nat→Nat→Prop) (lt:Nat→List Ltr) (B:Nat) (pf:Addr) (fs:List Addr) (H:Hp):Prop where
  W:Wd K C n H A ns as sts m sta lo lt B
  ef:H pf=some (.lst (fs.map V.ref))
  fl:fs.length=as.length
  clo:∀ (j:Nat) f a,fs[j]?=some f→as[j]?=some a→CloN H f a.x
theorem Rr.same {A:AW} {n:Nat} {ns:List Int} {as:List WA} {sts:List WSt} {m:Nat→Nat→Option Int} {sta:Nat→Nat→Option Nat} {lo:Nat→Nat→Nat→Prop} {lt:Nat→List Ltr} {B:Nat} {pf:Addr} {fs:List Addr} {H H':Hp} (R:Rr K C A n ns as sts m sta lo lt B pf fs H) (s:Same H H'):Rr K C A n ns as sts m sta lo lt B pf fs H':=⟨R.W.same s,s _ _ R.ef,R.fl,fun j f a h1 h2=>(R.clo j f a h1 h2).same s⟩
set_option maxHeartbeats 8000000 in
theorem own_rings {Pt:Addr} (D:Def K mg "_law_no_rings" s__law_no_rings) (hb:Blt mg) (hset:mg "set"=none) (T_Ways:ClsD K mg "Ways" C at_Ways) (F__law_next:Own P w K mg base 1 "_law_next" ["_law_one"] (sp_mk Pt nPos "_law_there" qN (defArgs gS) (defBody gS) (defScope gS) ["_law_one"] id 1))
    (F_chain:Own P w K mg base 3 "chain" ["next_ofs","start","goal"] (sp_chain C)) :
    Own P w K mg base 4 "_law_no_rings" ["_law_hands"] (sp_rings K C Pt):=by
  refine D.own sc__law_no_rings (fun _ _ _ _ _ _ us hl=>match us,hl with|[_],_=>rfl) (fun vs H Q E h=>?_) (fun f cdv A outer s H vs Q E hr h=>?_)
  · obtain ⟨A,n,ns,as,sts,m,sta,lo,lt,B,rfl,_⟩:=h
    rfl
  · obtain ⟨A',n,ns,as,sts,m,sta,lo,lt,B,rfl,rfl,W,q⟩:=h
    have hu:=hr.units
    have hu1:(A.deeper (PyProof.Rows.envOfC "_law_no_rings" (defScope s__law_no_rings) s.heap.objs.size f cdv)).units+1<cLine:=by omega
    have eph:=W.hx.B.eph
    have lph:(as.map fun a=>V.ref a.x).length=n:=by rw [List.length_map,W.hx.B.hs.len,W.hx.B.n1]
    have hn:=W.hx.B.n2
    have hT:=W.ot.tb
    refine ⟨_,(@pss_cons _ _ _ _ _ (@ps_setC _ _ _ _ _ _ _ _ _ _ _ 1 _ _ _ ["_law_one"] [] [] rfl sc__law_no_rings.nd rfl (by first|exact Or.inl rfl|exact Or.inr rfl) _ cs__law_no_rings_0 (@pi_listK _ K _ _ _ (@pv _ 0 _ _ (by rfl) (by first|exact Or.inl rfl|exact Or.inr (Or.inl rfl)|exact Or.inr (Or.inr rfl)) (by decide) (by decide)) (by rfl)) (fun _ _ _ _=>(@pg_name _ _ 0 _ cs__law_no_rings_0.nd rfl (by first|exact Or.inl rfl|exact Or.inr rfl) (by first|exact .inl rfl|exact .inr rfl|assumption))) (fun _ _ _ _=>(@pf_nil _)) (fun _ _ _ _=>(@pe_fn _ _ _ _ _ _ _ _ _ _ _ F__law_next hr (@pa_cX _ _ _ _ _ (@pv _ 0 _ _ (by rfl) (by first|exact Or.inl rfl|exact Or.inr (Or.inl rfl)|exact Or.inr (Or.inr rfl)) (by decide) (by decide)) (@pa_nil _) (by rfl)) (by decide) (by rfl) (by decide) (by rfl) (by rfl))) rfl (by rfl) (by rfl) (by rfl) (by first|exact .inl rfl|exact .inr rfl|assumption) (by intro _; rfl)) (@pss_cons _ _ _ _ _ (@ps_for _ _ _ _ _ _ _ _ PassesOwn.never rfl (@pi_range1 _ _ _ _ _ _ rfl (hb _ (by decide)) (@pa_cX _ _ _ _ _ (@pe_callB _ _ _ _ _ _ _ _ _ call_lenX rfl (hb _ (by decide)) bt_len (@pa_cX _ _ _ _ _ (@pv _ 0 _ _ (by rfl) (by first|exact Or.inl rfl|exact Or.inr (Or.inl rfl)|exact Or.inr (Or.inr rfl)) (by decide) (by decide)) (@pa_nil _) (by rfl)) (by decide) (by decide) (by rfl) (by rfl)) (@pa_nil _) (by rfl)) (by rfl)) (@pg_name _ _ 2 _ sc__law_no_rings.nd rfl (by first|exact Or.inl rfl|exact Or.inr rfl) (by first|exact .inl rfl|exact .inr rfl|assumption)) (@pss_one _ _ _ (@ps_for _ _ _ _ _ _ _ _ PassesOwn.never rfl (@pi_range1 _ _ _ _ _ _ rfl (hb _ (by decide)) (@pa_cX _ _ _ _ _ (@pe_callB _ _ _ _ _ _ _ _ _ call_lenX rfl (hb _ (by decide)) bt_len (@pa_cX _ _ _ _ _ (@pv _ 0 _ _ (by rfl) (by first|exact Or.inl rfl|exact Or.inr (Or.inl rfl)|exact Or.inr (Or.inr rfl)) (by decide) (by decide)) (@pa_nil _) (by rfl)) (by decide) (by decide) (by rfl) (by rfl)) (@pa_nil _) (by rfl)) (by rfl)) (@pg_name _ _ 3 _ sc__law_no_rings.nd rfl (by first|exact Or.inl rfl|exact Or.inr rfl) (by first|exact .inl rfl|exact .inr rfl|assumption)) (@pss_cons _ _ _ _ _ (@ps_set _ _ 4 _ _ _ _ sc__law_no_rings.nd rfl (by first|exact Or.inl rfl|exact Or.inr rfl) (@pe_fn _ _ _ _ _ _ _ _ _ _ _ F_chain hr (@pa_cX _ _ _ _ _ (@pv _ 1 _ _ (by rfl) (by first|exact Or.inl rfl|exact Or.inr (Or.inl rfl)|exact Or.inr (Or.inr rfl)) (by decide) (by decide)) (@pa_cX _ _ _ _ _ (@pv _ 2 _ _ (by rfl) (by first|exact Or.inl rfl|exact Or.inr (Or.inl rfl)|exact Or.inr (Or.inr rfl)) (by decide) (by decide)) (@pa_cX _ _ _ _ _ (@pv _ 3 _ _ (by rfl) (by first|exact Or.inl rfl|exact Or.inr (Or.inl rfl)|exact Or.inr (Or.inr rfl)) (by decide) (by decide)) (@pa_nil _) (by rfl)) (by rfl)) (by rfl)) (by decide) (by rfl) (by decide) (by rfl) (by rfl)) (by rfl) (by first|exact .inl rfl|exact .inr rfl|assumption)) (@pss_one _ _ _ (@ps_if _ _ _ _ _ _ _ _ (@pt_cmpR _ _ _ _ _ _ _ _ op_ne (@pe_callB _ _ _ _ _ _ _ _ _ call_lenS rfl (hb _ (by decide)) bt_len (@pa_cX _ _ _ _ _ (@pe_callTy _ _ _ _ _ _ _ _ _ (call_setX rfl) rfl hset bt_set (@pa_cX _ _ _ _ _ (@pv _ 4 _ _ (by rfl) (by first|exact Or.inl rfl|exact Or.inr (Or.inl rfl)|exact Or.inr (Or.inr rfl)) (by decide) (by decide)) (@pa_nil _) (by rfl)) (by decide) (by decide) (by rfl) (by rfl)) (@pa_nil _) (by rfl)) (by decide) (by decide) (by rfl) (by rfl)) (@pe_callB _ _ _ _ _ _ _ _ _ call_lenX rfl (hb _ (by decide)) bt_len (@pa_cX _ _ _ _ _ (@pv _ 4 _ _ (by rfl) (by first|exact Or.inl rfl|exact Or.inr (Or.inl rfl)|exact Or.inr (Or.inr rfl)) (by decide) (by decide)) (@pa_nil _) (by rfl)) (by decide) (by decide) (by rfl) (by rfl)) (nomark _)) (@pss_one _ _ _ (@ps_ret _ _ _ _ (@pe_bl _ _ _ _))) (@pss_nil _)))) (by intro _; rfl))) (by intro _; rfl)) (@pss_one _ _ _ (@ps_ret _ _ _ _ (@pe_bl _ _ _ _))))),?_⟩
    simp (maxSteps:=1000000) only [tFor_eq,tComp_eq,rLenX,lenX_r,Nat.reduceSub,Nat.reduceAdd,iRng1,iList,cZ0,tSeq,eZ1,tVar,tAsg,gName,tCons,tNil,tCB,L2.start,mZ1,mZ0,lZ1,lZ0,List.replicate,List.cons_append,List.nil_append,gZ0,sZ0,sZ1,oZ0,eZ0,V.int.injEq,V.ref.injEq,and_true]
    have hal:as.length=n:=by rw [W.hx.B.hs.len,W.hx.B.n1]
    refine ⟨⟨_,SqL.of eph⟩,comp_list (xs:=as.map fun a=>V.ref a.x) (by rw [sizeLine_eq,lph]; omega) (Rc A'.Pt as H) ?_ ?_ ?_ ?_⟩
    · intro D hD
      exact ⟨[],rfl,upd_same,(fun j f a hj=>nomatch hj),rfl,(Same.upd_new hD).keep,hT.same (Same.upd_new hD)⟩
    · rintro D i acc H2 hD hi ⟨fs,rfl,eD,hf,hl,k2,hT2⟩
      rw [lph] at hi
      exact ⟨eD,SqL.of (k2 _ _ eph (tab_out hT eph fun _ z=>by cases z)),by rw [List.length_map]; omega⟩
    · rintro D i x acc H2 hD hx ⟨fs,rfl,eD,hf,hl,k2,hT2⟩
      rw [List.getElem?_map] at hx
      obtain ⟨ai,hai,rfl⟩:=Option.map_eq_some_iff.mp hx
      simp (maxSteps:=1000000) only [Nat.reduceAdd,tYes,cSt,List.drop_succ_cons,List.drop_zero,if_true,tVar,gName,tCall,tCons,tNil,mZ0,lZ1,lZ0,List.replicate,gZ0,sZ0,oZ0,eZ0,true_and,aZ0,sp_mk,mZ0]
      refine ⟨hT2,fun f H3 hf3 hL hT3 k3=>?_⟩
      have nP:=tab_out hT2 eD (fun ps y=>by cases y)
      have eD3:=k3 _ _ eD nP
      have kD:Keep [D] H3 (upd H3 D (.lst (fs.map V.ref++[.ref f]))):=Keep.refl.upd (.inl (.head _))
      have noX:∀ b∈[D],∀ φ,H3 b≠some (.ext φ):=fun b hb φ z=>by
        rw [List.mem_singleton] at hb
        subst hb
        rw [eD3] at z; cases z
      have noX2:∀ b∈[A'.Pt],∀ φ,H2 b≠some (.ext φ):=fun b hb φ z=>tab_out hT2 z (fun ps y=>by cases y) hb
      refine ⟨eD3,fs++[f],by simp,by rw [upd_same]; simp,fun j g a hj ha=>?_,by simp [hl],?_,?_⟩
      · by_cases hj2:j<fs.length
        · rw [List.getElem?_append_left hj2] at hj
          exact ((hf j g a hj ha).keep k3 noX2).keep kD noX
        · have hjl:j<(fs++[f]).length:=(List.getElem?_eq_some_iff.mp hj).1
          rw [List.length_append,List.length_singleton] at hjl
          have:j=fs.length:=by omega
          subst this
          rw [List.getElem?_append_right (Nat.le_refl _)] at hj
          simp at hj
          subst hj
          rw [hl,hai] at ha
          cases ha
          exact hL.keep kD noX
      · intro b o e n
        rw [upd_ne (ne_of_none e hD)]
        exact k3 _ _ (k2 _ _ e n) n
      · refine hT3.keep kD fun b hb=>⟨fun ps z=>?_,noX b hb⟩
        rw [List.mem_singleton] at hb
        subst hb
        rw [eD3] at z; cases z
    · rintro D acc H2 hD ⟨fs,rfl,eD,hf,hl,k2,hT2⟩
      rw [lph] at hl
      have R2:Rr K C A' n ns as sts m sta lo lt B D fs H2:=⟨W.tab k2 hT2,eD,by omega,hf⟩
      have eph2:=R2.W.hx.B.eph
      simp (maxSteps:=1000000) only [lenO_l,Option.bind_some,oZ0,eZ0,eph2,lph]
      refine ⟨by omega,by omega,for_range (n:=((n:Int)).toNat) (fun i σ H'=>∃ v2 v3 v4,σ=[some (.ref A'.ph),some (.ref D),v2,v3,v4]∧Rr K C A' n ns as sts m sta lo lt B D fs H') ⟨_,_,_,rfl,R2⟩ ?_ ?_⟩
      · rintro mi σ H3 hmi ⟨v2,v3,v4,rfl,R3⟩
        have eph3:=R3.W.hx.B.eph
        simp (maxSteps:=1000000) only [tFor_eq,rLenX,lenX_r,lenO_l,Option.bind_some,iRng1,cZ0,eZ1,tVar,gName,tCons,tNil,tCB,gZ0,sZ0,sZ1,oZ0,eZ0,V.int.injEq,and_true,eph3,lph,Int.zero_add]
        refine ⟨by omega,by omega,for_range (n:=((n:Int)).toNat) (fun j σ H'=>∃ v3 v4,σ=[some (.ref A'.ph),some (.ref D),some (.int (mi:Int)),v3,v4]∧Rr K C A' n ns as sts m sta lo lt B D fs H') ⟨_,_,rfl,R3⟩ ?_ ?_⟩
        · rintro gi σ H4 hgi ⟨v3,v4,rfl,R4⟩
          simp (maxSteps:=1000000) only [rLenX,cZ0,tSeq,eZ1,tIfS,tTest,tOp,tVar,tC,tRet,tAsg,gName,tNext,tCall,tCons,tNil,tCB,gZ0,gZ1,sZ0,sZ1,oZ0,eZ0,and_true,true_and,and_assoc,aZ0,Int.zero_add]
          have hB4:=R4.W.hx.B
          refine ⟨D,fs,domN n,as,sts,(mi:Int),(gi:Int),ord sts (gi:Int),rfl,R4.ef,R4.fl,R4.clo,hB4.hs,by rw [hB4.n1]; omega,by omega,by rw [hB4.n1]; omega,(fun h x e=>?_),(fun x y z h1 h2=>?_),(fun x h1=>?_),fun p L H5 np ep hnd h0 hll s5=>?_⟩
          · exact nx_ord hB4.net e
          · obtain ⟨m1,m2,a1,a2,a3⟩:=h1
            obtain ⟨m3,m4,b1,b2,b3⟩:=h2
            rw [a2] at b1
            cases b1
            exact ⟨_,_,a1,b2,bet_tr a3 b3⟩
          · obtain ⟨m1,m2,a1,a2,a3⟩:=h1
            rw [a1] at a2
            cases a2
            rw [bet_irr] at a3
            cases a3
          · simp (maxSteps:=1000000) only [lenX_r]
            have hfm:=fm_nd hnd
            refine ⟨p,L,rfl,ep,by omega,fun l nl=>?_⟩
            rw [hfm]
            generalize z6:upd H5 l _=H6
            obtain ⟨s6,e6⟩:=new_same z6 nl
            refine ⟨l,_,rfl,e6,by omega,?_⟩
            have ep6:=s6 _ _ ep
            simp (maxSteps:=1000000) only [lenO_l,Option.bind_some,decide_true,Bool.not_true,rNe_ii,if_false,Bool.false_eq_true,oZ0,eZ0,V.bl.injEq,ep6,List.length_map]
            exact (R4.same s5).same s6
        · rintro σ H4 ⟨v3,v4,rfl,R4⟩
          exact ⟨_,_,_,rfl,R4⟩
      · rintro σ H3 ⟨v2,v3,v4,rfl,R3⟩
        simp (maxSteps:=1000000) only [tC,tRet]
        exact q H3 R3.W
end
end K15
namespace K15
open PySem L2
section
variable {n ev t:Nat} {m m':Nat→Nat→Option Int} {ln ln' lo lo':Nat→Nat→Nat→Prop} {lt lt':Nat→List Ltr} {sta sta1:Nat→Nat→Option Nat} {σ:Nat→Nat→Nat→Option Nat} {hs hs' ps:Nat→Nat→WSt} {sts sts1 sts2 sts3 sts4:List WSt} {c c':Nat→Nat→Option Int}
structure Tn (n ev t:Nat) (m:Nat→Nat→Option Int) (ln lo:Nat→Nat→Nat→Prop) (lt:Nat→List Ltr) (sta:Nat→Nat→Option Nat) (σ:Nat→Nat→Nat→Option Nat) (hs ps:Nat→Nat→WSt) (sts:List WSt):Prop where
  S:Sys n ev t (cOf n m) σ hs ps
  me:∀ u i,i<n→(hs u i).me=(i:Int)
  F:Fly n t t hs ln lo (fun _ _=>False) lt sta
  old:∀ u l,l∈lt u→l.2.2.1<t
  X:Hrd n hs sta (curOf sts)
  fut:∀ s a b,t≤s→¬ lo s a b
  own:∀ i,i<n→(curOf sts i).own=(((t - 1) / ev:Nat):Int)
  m0:t=0→∀ i,i<n→∀ g,(curOf sts i).mar g=none
  pm:∀ u,u+1=t→∀ i,i<n→∀ g,(curOf sts i).mar g=(hs u i).mar g
  sg:∀ u,u+1=t→∀ i b,σ u i b=sta b i
  lnc:∀ s a b,10≤s→s<t→cOf n m a b≠none→ln s a b
  lpc:14≤t→∀ i b:Nat,i<n→b<n→b≠i→(curOf sts i).lp (b:Int)=some (cOf n m i b)
theorem Sys.chg {N:Nat} (S:Sys n ev N c σ hs ps) (hN:N≤13) (hL:LW.Lines n c'):Sys n ev N c' σ hs ps:=
  { S with lpc:=fun t i b h13 ht=>by omega,ln:=hL,sl:=fun t i b l h13 ht=>by omega }
theorem Tn.chg (h:Tn n ev t m ln lo lt sta σ hs ps sts) (hm:m'=m∨t≤9) (hL:LW.Lines n (cOf n m')):Tn n ev t m' ln lo lt sta σ hs ps sts:=by
  rcases hm with rfl|h9
  · exact h
  · exact ⟨h.S.chg (by omega) hL,h.me,h.F,h.old,h.X,h.fut,h.own,h.m0,h.pm,h.sg,fun s a b h1 h2=>by omega,fun h14=>by omega⟩
theorem Sys.mup {N:Nat} (S:Sys n ev N c σ hs ps) {a:Nat} (ha:a<n) {s0 s1:Nat} {g:Int} (h:s0≤s1):s1<N→(hs s0 a).mar g≠none→(hs s1 a).mar g≠none:=by
  induction h with
  | refl=>exact fun _ z=>z
  | @step s1 h ih=>
    intro hN z
    have h1:=ih (by omega) z
    rw [← S.pm s1 a hN ha] at h1
    have T:=S.stl (s1+1) a hN ha
    by_cases hr:(ps (s1+1) a).rep g=none
    · rw [(T.old g hr).2]; exact h1
    · obtain ⟨r,_,_,e⟩:=T.new g hr
      rw [e]
      cases r with
      | none=>exact h1
      | some w=>exact fun z=>nomatch z
theorem Tn.rdy (h:Tn n ev t m ln lo lt sta σ hs ps sts):Rdy n t hs (lt t) sta sts:=⟨fun l hl=>h.F.ok t l hl,h.X,h.F.sn,h.me,fun a ha s0 s1 g h1 h2 z=>h.S.mup ha h1 h2 z⟩
theorem cOf_sym {i b:Nat}:cOf n m i b=cOf n m b i:=by
  unfold cOf
  rw [Nat.min_comm,Nat.max_comm]
  by_cases h:i<n∧b<n∧i≠b
  · rw [if_pos h,if_pos ⟨h.2.1,h.1,Ne.symm h.2.2⟩]
  · rw [if_neg h,if_neg (fun z=>h ⟨z.2.1,z.1,Ne.symm z.2.2⟩)]
def Rsd (t ev:Nat) (sts sts':List WSt):Prop:=∀ (i:Nat) st,sts[i]?=some st→sts'[i]?=some { st with own:=st.own+if 0<t∧t % ev=0 then 1 else 0 }
theorem own_up (h0:0<ev):(((t - 1) / ev:Nat):Int)+(if 0<t∧t % ev=0 then 1 else 0)=((t / ev:Nat):Int):=by
  by_cases h:0<t∧t % ev=0
  · rw [if_pos h]
    obtain ⟨h1,h2⟩:=h
    have e1:=Nat.div_add_mod t ev
    have e2:=Nat.div_add_mod (t - 1) ev
    have l2:=Nat.mod_lt (t - 1) h0
    rw [h2,Nat.add_zero] at e1
    have:(t - 1) / ev+1=t / ev:=by
      have hk:ev * ((t - 1) / ev)<ev * (t / ev):=by omega
      have hk2:ev * (t / ev)≤ev * ((t - 1) / ev+1):=by rw [Nat.mul_succ]; omega
      have:=Nat.lt_of_mul_lt_mul_left hk
      have:=Nat.le_of_mul_le_mul_left hk2 h0
      omega
    omega
  · rw [if_neg h]
    have:(t - 1) / ev=t / ev:=by
      by_cases ht:t=0
      · subst ht; rfl
      · have h2:t % ev≠0:=fun z=>h ⟨by omega,z⟩
        have e1:=Nat.div_add_mod t ev
        have e2:=Nat.div_add_mod (t - 1) ev
        have l1:=Nat.mod_lt t h0
        have l2:=Nat.mod_lt (t - 1) h0
        have a1:ev * ((t - 1) / ev)<ev * (t / ev+1):=by rw [Nat.mul_succ]; omega
        have a2:ev * (t / ev)<ev * ((t - 1) / ev+1):=by rw [Nat.mul_succ]; omega
        have:=Nat.lt_of_mul_lt_mul_left a1
        have:=Nat.lt_of_mul_lt_mul_left a2
        omega
    rw [this]
    omega
theorem cur_get {i:Nat} (h:i<sts.length):sts[i]?=some (curOf sts i):=by
  have e:=List.getElem?_eq_getElem h
  rw [cur_at e]
  exact e
structure Mid (n t ev:Nat) (m:Nat→Nat→Option Int) (hs:Nat→Nat→WSt) (ls:List Ltr) (sta sta1:Nat→Nat→Option Nat) (sts sts1 sts2 sts3 sts4:List WSt):Prop where
  l1:sts1.length=n
  l2:sts2.length=n
  l3:sts3.length=n
  l4:sts4.length=n
  C:Com n t hs ls sta sta1 (curOf sts) (curOf sts1) ls.length
  T:TolP n m t (fun _ _=>True) sts1 sts2
  R:Rsd t ev sts2 sts3
  St:∀ (i:Nat) st,sts3[i]?=some st→∃ st',sts4[i]?=some st'∧Stl st st'
  N3:Net sts3
  N4:Net sts4
theorem Mid.two {ls:List Ltr} (M:Mid n t ev m hs ls sta sta1 sts sts1 sts2 sts3 sts4) {i:Nat} (hi:i<n):∃ f,curOf sts2 i={ curOf sts1 i with lp:=f }∧∀ b:Nat,b<n→b≠i→f (b:Int)=some (cOf n m i b)∨(f (b:Int)=(curOf sts1 i).lp (b:Int)∧t≠13):=by
  obtain ⟨f,e1,e2⟩:=M.T i _ (cur_get (by rw [M.l1]; exact hi))
  exact ⟨f,cur_at e1,fun b hb hbi=>(e2 b hb hbi).imp_right fun z=>⟨z.1,fun h=>z.2 h trivial⟩⟩
theorem Mid.three {ls:List Ltr} (M:Mid n t ev m hs ls sta sta1 sts sts1 sts2 sts3 sts4) {i:Nat} (hi:i<n):curOf sts3 i={ curOf sts2 i with own:=(curOf sts2 i).own+if 0<t∧t % ev=0 then 1 else 0 }:=cur_at (M.R i _ (cur_get (by rw [M.l2]; exact hi)))
theorem Mid.four {ls:List Ltr} (M:Mid n t ev m hs ls sta sta1 sts sts1 sts2 sts3 sts4) {i:Nat} (hi:i<n):Stl (curOf sts3 i) (curOf sts4 i):=by
  obtain ⟨st',e1,e2⟩:=M.St i _ (cur_get (by rw [M.l3]; exact hi))
  rw [cur_at e1]
  exact e2
theorem Mid.kp {ls:List Ltr} (M:Mid n t ev m hs ls sta sta1 sts sts1 sts2 sts3 sts4) {i:Nat} (hi:i<n):(curOf sts3 i).me=(curOf sts1 i).me∧(curOf sts3 i).rep=(curOf sts1 i).rep∧(curOf sts3 i).mar=(curOf sts i).mar∧(curOf sts3 i).own=(curOf sts i).own+if 0<t∧t % ev=0 then 1 else 0:=by
  obtain ⟨f,e,_⟩:=M.two hi
  rw [M.three hi,e]
  obtain ⟨_,k2,_,k4,_⟩:=M.C.kp i hi
  exact ⟨rfl,rfl,k4,by rw [← k2]⟩
theorem Tn.turn (h:Tn n ev t m ln lo lt sta σ hs ps sts) (M:Mid n t ev m hs (lt t) sta sta1 sts sts1 sts2 sts3 sts4):Turn n ev t (cOf n m) σ hs sta1 (curOf sts3) (curOf sts4):=by
  have one3:∀ {i},i<n→One sts3 i (curOf sts3 i):=fun hi=>M.N3 _ _ (cur_get (by rw [M.l3]; exact hi))
  have one4:∀ {i},i<n→One sts4 i (curOf sts4 i):=fun hi=>M.N4 _ _ (cur_get (by rw [M.l4]; exact hi))
  refine ⟨M.C.X.same fun b hb=>⟨(M.kp hb).1,(M.kp hb).2.1⟩,M.C.sn,fun i hi=>?_,fun i hi=>M.four hi,fun h0 i hi g=>?_,fun u hu i hi g=>?_,fun i hi=>(one3 hi).ms,fun i hi=>?_,fun i nb l hi=>(one3 hi).lp nb l,fun i b h13 hi hb hbi=>?_,fun i b l h13 e=>?_,fun i g w hi e=>((one4 hi).wn g w e).1,fun u hu i b s e=>?_⟩
  · rw [(M.four hi).own,(M.kp hi).2.2.2,h.own i hi]
    exact own_up h.S.ev0
  · rw [(M.kp hi).2.2.1]; exact h.m0 h0 i hi g
  · rw [(M.kp hi).2.2.1]; exact h.pm u hu i hi g
  · have:=(one3 hi).rm
    rwa [(one3 hi).me] at this
  · obtain ⟨f,e,h2⟩:=M.two hi
    rw [M.three hi,e]
    change f (b:Int)=_
    rcases h2 b hb hbi with z|⟨z,hne⟩
    · exact z
    · rw [z,(M.C.kp i hi).2.2.1]
      exact h.lpc (by omega) i b hi hb hbi
  · obtain ⟨r1,r2,r3⟩:=h.S.ln.rng i b l e
    have hc:cOf n m b i≠none:=by rw [cOf_sym,e]; exact fun z=>nomatch z
    exact (h.F.come M.C).stale (by omega) r2 r1 (Ne.symm r3) (h.lnc (t - 2) b i (by omega) (by omega) hc) (h.lnc (t - 3) b i (by omega) (by omega) hc) (M.C.sn b i)
  · rw [h.sg u hu] at e
    exact M.C.up b i s e
def extL (ln:Nat→Nat→Nat→Prop) (t:Nat) (c:Nat→Nat→Option Int):Nat→Nat→Nat→Prop:=fun s a b=>if s=t then c a b≠none else ln s a b
theorem Tn.fly (h:Tn n ev t m ln lo lt sta σ hs ps sts) (M:Mid n t ev m hs (lt t) sta sta1 sts sts1 sts2 sts3 sts4) {hst:Nat→WSt}:Fly n (t+1) t (K15.ext hs t hst) (extL ln t (cOf n m)) lo (fun _ _=>False) (popL lt t) sta1:=by
  have F:=h.F.come M.C
  refine ⟨fun u l hl=>?_,F.old,fun s a b hs ha hb hab hl=>?_,F.sn,F.two⟩
  · have O:=F.ok u l hl
    have hlt:l.2.2.1<t:=h.old u l (by
      unfold popL at hl
      split at hl
      · cases hl
      · exact hl)
    exact ⟨O.a,O.b,O.ab,O.s,O.u,by rw [ext_lt hlt]; exact O.r⟩
  · rcases hs with hs|⟨_,hs⟩
    · refine F.del s a b (.inl hs) ha hb hab ?_
      unfold extL at hl
      rwa [if_neg (by omega)] at hl
    · exact hs.elim
theorem Tn.next (h:Tn n ev t m ln lo lt sta σ hs ps sts) (M:Mid n t ev m hs (lt t) sta sta1 sts sts1 sts2 sts3 sts4) (F:Fly n (t+1) (t+1) (K15.ext hs t (curOf sts4)) (extL ln t (cOf n m)) lo' (fun _ _=>False) lt' sta1) (hf:∀ s a b,t<s→¬ lo' s a b) (ho:∀ u l,l∈lt' u→l.2.2.1≤t) :
    Tn n ev (t+1) m (extL ln t (cOf n m)) lo' lt' sta1 (K15.ext σ t fun i b=>sta1 b i) (K15.ext hs t (curOf sts4)) (K15.ext ps t (curOf sts3)) sts4:=by
  have T:=h.turn M
  have me4:∀ i,i<n→(curOf sts4 i).me=(i:Int):=fun i hi=>(M.N4 _ _ (cur_get (by rw [M.l4]; exact hi))).me
  refine ⟨h.S.ext T,fun u i hi=>?_,F,fun u l hl=>Nat.lt_succ_of_le (ho u l hl),?_,fun s a b hs=>hf s a b (by omega),fun i hi=>T.own i hi,fun h0=>by omega,fun u hu i hi g=>?_,fun u hu i b=>?_,fun s a b h10 hs hc=>?_,fun h14 i b hi hb hbi=>?_⟩
  · by_cases e:u=t
    · subst e; rw [ext_at]; exact me4 i hi
    · unfold K15.ext; rw [if_neg e]; exact h.me u i hi
  · have X4:Hrd n hs sta1 (curOf sts4):=T.X.same fun b hb=>⟨(M.four hb).me,(M.four hb).rep⟩
    refine ⟨X4.me,fun a b g ha hb hab hg=>?_,X4.only⟩
    rw [X4.at_ a b g ha hb hab hg]
    cases hs:sta1 a b with
    | none=>rfl
    | some s=>
      change repo _ g=repo _ g
      rw [ext_lt (M.C.sn a b s hs)]
  · have:u=t:=by omega
    subst this
    rw [ext_at]
  · have:u=t:=by omega
    subst this
    rw [ext_at]
  · unfold extL
    by_cases e:s=t
    · rw [if_pos e]; exact hc
    · rw [if_neg e]; exact h.lnc s a b h10 (by omega) hc
  · have:=T.lpc i b (by omega) hi hb hbi
    rw [(M.four hi).lp]
    exact this
theorem tn0 (h0:0<ev) (hL:LW.Lines n (cOf n m)) (hsts:∀ i,i<n→curOf sts i=st0 i):Tn n ev 0 m (fun _ _ _=>False) (fun _ _ _=>False) (fun _=>[]) (fun _ _=>none) (fun _ _ _=>none) (fun _=>st0) (fun _=>st0) sts:=by
  refine ⟨sys0 h0 hL,fun u i hi=>rfl,fly0,(fun u l hl=>nomatch hl),⟨fun b hb=>by rw [hsts b hb]; rfl,fun a b g ha hb hab hg=>by rw [hsts b hb]; rfl,fun b g nb hb hg hr=>absurd (by rw [hsts b hb]; rfl) hr⟩,fun _ _ _ _ z=>z,fun i hi=>?_,fun _ i hi g=>by rw [hsts i hi]; rfl,fun u hu=>by omega,fun u hu=>by omega,fun s a b _ hs=>by omega,fun h14=>by omega⟩
  rw [hsts i hi,Nat.zero_sub,Nat.zero_div]
  rfl
end
end K15
namespace K15
open PySem L2 PySem.W
abbrev s_law:Stmt:=stm 17
theorem sc_law:FnScope ["_law_script","_law_many","_law_every","_law_hands","_law_lines","_law_changes_here","_law_views","_law_letters","_law_stamps","_law_lost","_law_settled","_law_turn","_law_key","_law_one"] ["_law_script"] (defScope s_law):=⟨rfl,rfl,rfl,by decide +kernel,rfl,by decide +kernel,by decide +kernel⟩
theorem cs_law_0:CScope ["_law_me"] [] { kind:=.function,names:=[(".0", .local),("_law_me", .local),("Ways", .globalImplicit)],isGenerator:=false,isCoroutine:=false,more:=[] } (defScope s_law):=⟨rfl,by decide +kernel,by decide +kernel,by decide +kernel,by decide +kernel,by decide +kernel⟩
section
variable {P:Program} {w:World} {K:PySem.W.Frag} {mg:Str→Option Value} {base:Heap} {C Pt:Addr} {n:Nat} {H H':Hp} {as:List WA}
theorem paired_get' {α β:Type} {F:α→β→Prop}:∀ {l1:List α} {l2:List β} {i:Nat} {y:β},Paired F l1 l2→l2[i]?=some y→∃ x,l1[i]?=some x∧F x y
  | _,_,_,_,.nil,h=>absurd h (by simp)
  | _,_,0,_,.cons h _,e=>by simp at e; subst e; exact ⟨_,rfl,h⟩
  | _,_,i+1,_,.cons _ t,e=>by
    obtain ⟨x,e1,e2⟩:=paired_get' (i:=i) t (by simpa using e)
    exact ⟨x,by simpa using e1,e2⟩
theorem valT_mem {kvs:List (List Key × V)} {k:List Key} {v:V} (h:valV kvs k=some v):(k,v)∈kvs:=by
  rw [valV,Option.map_eq_some_iff] at h
  obtain ⟨q,hq,rfl⟩:=h
  have h1:=List.find?_some hq
  have h2:=List.mem_of_find?_eq_some hq
  have h3:q.1=k:=of_decide_eq_true h1
  rw [← h3]
  exact h2
theorem LnD.put {pl:Addr} {m:Nat→Nat→Option Int} {kl:List (List Key × V)} (e:H pl=some (.dT kl)) (hl:kl.length≤5 * n+0) (hv:∀ a b:Nat,a<b→b<n→(a<n∨(a=n∧b<0))→valV kl [Sum.inl (a:Int),Sum.inl (b:Int)]=some (optV (m a b))∧okP (m a b)) {x y:Nat} {o:Option Int} (hxy:x<y) (hyn:y<n) (ho:okP o):LnD (upd H pl (.dT (putK kl [Sum.inl (x:Int),Sum.inl (y:Int)] (optV o)))) pl n n 0 (fun a b=>if a=x∧b=y then o else m a b):=by
  refine ⟨_,upd_same,?_,fun a b h1 h2 h3=>?_⟩
  · rw [put_len (hv x y hxy hyn (.inl (by omega))).1]; exact hl
  · rw [valV_put]
    dsimp only
    by_cases z:a=x∧b=y
    · rw [if_pos z,if_pos (pair_eq.mpr z)]; exact ⟨rfl,ho⟩
    · rw [if_neg z,if_neg (fun w=>z (pair_eq.mp w))]; exact hv a b h1 h2 h3
theorem set_self {α:Type} {l:List α} {i:Nat} {a:α} (h:l[i]?=some a):l.set i a=l:=by
  apply List.ext_getElem?
  intro j
  by_cases e:j=i
  · subst e
    rw [List.getElem?_set_self (List.getElem?_eq_some_iff.mp h).1,h]
  · rw [List.getElem?_set_ne (Ne.symm e)]
def sts0 (k:Nat):List WSt:=(List.range k).map st0
theorem sts0_at {k i:Nat} {st:WSt} (h:(sts0 k)[i]?=some st):st=st0 i∧i<k:=by
  unfold sts0 at h
  rw [List.getElem?_map] at h
  obtain ⟨j,hj,rfl⟩:=Option.map_eq_some_iff.mp h
  have:=List.getElem?_eq_some_iff.mp hj
  obtain ⟨l,e⟩:=this
  rw [List.getElem_range] at e
  rw [List.length_range] at l
  exact ⟨by rw [e],l⟩
theorem sts0_len {k:Nat}:(sts0 k).length=k:=by unfold sts0; rw [List.length_map,List.length_range]
theorem net0 {k:Nat}:Net (sts0 k):=fun i st h=>by
  obtain ⟨rfl,hi⟩:=sts0_at h
  exact ⟨rfl,rfl,(fun g _=>⟨rfl,rfl⟩),(fun g f nb gen p e=>nomatch e),(fun nb l e=>nomatch e),(fun g w e=>nomatch e),(fun g w e=>nomatch e)⟩
theorem domN_len {n:Nat}:(domN n).length=n:=by unfold domN; rw [List.length_map,List.length_range]
structure Hd (C:Addr) (n:Nat) (H:Hp) (as:List WA) (k:Nat):Prop where
  hs:Hs C (domN n) H as (sts0 k)
  dis:∀ (i j:Nat) a b,i≠j→as[i]?=some a→as[j]?=some b→a.x≠b.x∧∀ z∈ads a,z ∉ ads b
theorem Hd.same {k:Nat} (h:Hd C n H as k) (s:Same H H'):Hd C n H' as k:=⟨h.hs.same s,h.dis⟩
theorem Hd.keep {k:Nat} {S:List Addr} (h:Hd C n H as k) (kk:Keep S H H') (hs:∀ b∈S,∃ xs,H b=some (.lst xs)):Hd C n H' as k:=by
  refine ⟨⟨fun i a st e1 e2=>?_,h.hs.len⟩,h.dis⟩
  obtain ⟨Y,m⟩:=h.hs.at_ i a st e1 e2
  refine ⟨Y.keep kk (fun b hb=>?_) (fun hb=>?_) (fun b hb hb2=>?_),m⟩
  · obtain ⟨xs,e⟩:=hs b hb
    exact .of_lst e
  · obtain ⟨xs,e⟩:=hs _ hb
    rw [Y.inst] at e
    cases e
  · obtain ⟨xs,e⟩:=hs _ hb2
    obtain ⟨kvs,e2⟩:=Y.dic b hb
    rw [e] at e2
    cases e2
theorem Hd.add {k:Nat} (h:Hd C n H as k) {a:WA} (s:Same H H') (Y:WaysAt C (domN n) H' a (st0 k)) (hx:H a.x=none) (hf:∀ b∈ads a,H b=none):Hd C n H' (as++[a]) (k+1):=by
  have hl:as.length=k:=by rw [h.hs.len,sts0_len]
  have old:∀ (i:Nat) ai,as[i]?=some ai→∃ st,WaysAt C (domN n) H ai st:=fun i ai e=>by
    have hi:i<k:=by rw [← hl]; exact (List.getElem?_eq_some_iff.mp e).1
    exact ⟨_,(h.hs.at_ i ai _ e (List.getElem?_eq_getElem (by rw [sts0_len]; exact hi))).1⟩
  have one:∀ (i:Nat) ai,(as++[a])[i]?=some ai→(i<k∧as[i]?=some ai)∨(i=k∧ai=a):=fun i ai e=>by
    by_cases hi:i<k
    · rw [List.getElem?_append_left (by omega)] at e
      exact .inl ⟨hi,e⟩
    · have hlt:=(List.getElem?_eq_some_iff.mp e).1
      rw [List.length_append,List.length_singleton] at hlt
      have:i=k:=by omega
      subst this
      rw [List.getElem?_append_right (by omega)] at e
      rw [hl] at e
      simp at e
      exact .inr ⟨rfl,e.symm⟩
  have apart:∀ (i:Nat) ai,as[i]?=some ai→ai.x≠a.x∧∀ z∈ads ai,z ∉ ads a:=fun i ai e=>by
    obtain ⟨st,Yi⟩:=old i ai e
    refine ⟨fun z=>?_,fun z hz hz2=>?_⟩
    · have:=Yi.inst
      rw [z,hx] at this
      cases this
    · obtain ⟨kvs,e2⟩:=Yi.dic z hz
      rw [hf z hz2] at e2
      cases e2
  refine ⟨⟨fun i ai st e1 e2=>?_,by rw [List.length_append,List.length_singleton,hl,sts0_len]⟩,fun i j ai aj hij e1 e2=>?_⟩
  · obtain ⟨rfl,hi⟩:=sts0_at e2
    rcases one i ai e1 with ⟨hk,e⟩|⟨rfl,rfl⟩
    · have hlt:i<(sts0 k).length:=by rw [sts0_len]; exact hk
      have e3:=List.getElem?_eq_getElem hlt
      have:=h.hs.at_ i ai _ e e3
      have e4:=(sts0_at e3).1
      rw [e4] at this
      exact ⟨this.1.same s,rfl⟩
    · exact ⟨Y,rfl⟩
  · rcases one i ai e1 with ⟨hk,e⟩|⟨rfl,rfl⟩ <;> rcases one j aj e2 with ⟨hk2,e'⟩|⟨rfl,rfl⟩
    · exact h.dis i j ai aj hij e e'
    · exact apart i ai e
    · obtain ⟨d1,d2⟩:=apart j aj e'
      exact ⟨Ne.symm d1,fun z hz hz2=>d2 z hz2 hz⟩
    · exact absurd rfl hij
def sp_law (Pt:Addr) (K:PySem.W.Frag):Sp:=fun vs H Q _=>∃ (a:Addr) (ns:List Int),vs=[.ref a]∧SqL K H a (ns.map V.int)∧ns.length≤63∧TabOk H Pt nPos qN∧∀ H',Q (.bl true) H'
def lσ (A:AW) (n ev N:Nat) (v11 v12 v13:Option V):St:=[some (.ref A.sc),some (.int (n:Int)),some (.int (ev:Int)),some (.ref A.ph),some (.ref A.pl),some (.ref A.pc),some (.ref A.pv),some (.ref A.pt),some (.ref A.ps),some (.ref A.px),some (.int (N:Int)),v11,v12,v13]
def La0 (C:Addr) (n:Nat) (H:Hp) (D:Addr) (i:Nat) (acc:List V) (H':Hp):Prop:=∃ as:List WA,acc=as.map (fun a=>V.ref a.x)∧H' D=some (.lst acc)∧Hd C n H' as i∧Same H H'
def PmA (C sc:Addr) (H:Hp) (σ:St) (H':Hp):Prop:=∃ (n ev:Nat) (ph:Addr) (as:List WA),σ=[some (.ref sc),some (.int (n:Int)),some (.int (ev:Int)),some (.ref ph),none,none,none,none,none,none,none,none,none,none]∧2≤n∧n≤4∧4 * (n+1)≤ev∧ev≤40∧Hd C n H' as n∧H' ph=some (.lst (as.map fun a=>V.ref a.x))∧H ph=none∧Same H H'
def Lt (K:PySem.W.Frag) (C:Addr) (A:AW) (n ev N:Nat) (ns:List Int) (t:Nat) (σ:St) (H':Hp):Prop:=∃ v11 v12 v13 as sts m ln lo lt sta sg hs ps,σ=lσ A n ev N v11 v12 v13∧Wd K C n H' A ns as sts m sta lo lt (100 * t)∧Tn n ev t m ln lo lt sta sg hs ps sts
set_option maxHeartbeats 8000000 in
theorem law_fn {f:Addr} {fd:FuncData} (F:Fun K "law" "law" s_law f fd) (hb:Blt mg) (T_Ways:ClsD K mg "Ways" C at_Ways) (I_Ways:OwnI P w K mg base 1 C ["self","me"] (sp_winit C)) (F__law_cell_at:Own P w K mg base 1 "_law_cell_at" ["_law_script","_law_k"] (sp_cell K))
    (M_Ways_raise_own:OwnM P w K mg base 1 C "raise_own" ["self"] (sp_raise C)) (M_Ways_settle:OwnM P w K mg base 4 C "settle" ["self"] (sp_settle C)) (F__law_first_lines:Own P w K mg base 2 "_law_first_lines" ["_law_cell","_law_many"] sp_flines) (F__law_changes:Own P w K mg base 2 "_law_changes" ["_law_cells","_law_many"] sp_changes)
    (F__law_come:Own P w K mg base 2 "_law_come" ["_law_hands","_law_letters","_law_stamps","_law_turn"] (sp_come K C)) (F__law_told:Own P w K mg base 2 "_law_told" ["_law_hands","_law_lines","_law_views","_law_turn"] (sp_told K C)) (F__law_no_rings:Own P w K mg base 4 "_law_no_rings" ["_law_hands"] (sp_rings K C Pt))
    (F__law_all_least:Own P w K mg base 2 "_law_all_least" ["_law_hands","_law_lines"] (sp_allleast C)) (F__law_sent:Own P w K mg base 4 "_law_sent" ["_law_hands","_law_lines","_law_letters","_law_lost","_law_turn","_law_cell"] (sp_sent K C)):FnOk P w K mg base CX0 8 f fd ["_law_script"] (sp_law Pt K):=by
  refine F.ok sc_law (fun vs H Q E h=>?_) (fun cdv A outer s H vs Q E hr h=>?_)
  · obtain ⟨a,ns,rfl,_⟩:=h
    rfl
  · obtain ⟨sc,ns,rfl,hS,h63,hT,q⟩:=h
    have hu:=hr.units
    have hu1:(A.deeper (PyProof.Rows.envOfC "law" (defScope s_law) s.heap.objs.size f cdv)).units+1<cLine:=by omega
    refine ⟨_,(@pss_cons _ _ _ _ _ (@ps_set _ _ 1 _ _ _ _ sc_law.nd rfl (by first|exact Or.inl rfl|exact Or.inr rfl) (@pe_op _ _ _ _ _ _ _ _ op_add (@pe_int _ _ _ _) (@pe_op _ _ _ _ _ _ _ _ op_mod (@pe_fn _ _ _ _ _ _ _ _ _ _ _ F__law_cell_at hr (@pa_cX _ _ _ _ _ (@pv _ 0 _ _ (by rfl) (by first|exact Or.inl rfl|exact Or.inr (Or.inl rfl)|exact Or.inr (Or.inr rfl)) (by decide) (by decide)) (@pa_cX _ _ _ _ _ (@pe_int _ _ _ _) (@pa_nil _) (by rfl)) (by rfl)) (by decide) (by rfl) (by decide) (by rfl) (by rfl)) (@pe_int _ _ _ _))) (by rfl) (by first|exact .inl rfl|exact .inr rfl|assumption)) (@pss_cons _ _ _ _ _ (@ps_set _ _ 2 _ _ _ _ sc_law.nd rfl (by first|exact Or.inl rfl|exact Or.inr rfl) (@pe_op _ _ _ _ _ _ _ _ op_add (@pe_op _ _ _ _ _ _ _ _ op_mul (@pe_int _ _ _ _) (@pe_op _ _ _ _ _ _ _ _ op_add (@pv _ 1 _ _ (by rfl) (by first|exact Or.inl rfl|exact Or.inr (Or.inl rfl)|exact Or.inr (Or.inr rfl)) (by decide) (by decide)) (@pe_int _ _ _ _))) (@pe_op _ _ _ _ _ _ _ _ op_mod (@pe_op _ _ _ _ _ _ _ _ op_fdiv (@pe_fn _ _ _ _ _ _ _ _ _ _ _ F__law_cell_at hr (@pa_cX _ _ _ _ _ (@pv _ 0 _ _ (by rfl) (by first|exact Or.inl rfl|exact Or.inr (Or.inl rfl)|exact Or.inr (Or.inr rfl)) (by decide) (by decide)) (@pa_cX _ _ _ _ _ (@pe_int _ _ _ _) (@pa_nil _) (by rfl)) (by rfl)) (by decide) (by rfl) (by decide) (by rfl) (by rfl)) (@pe_int _ _ _ _)) (@pe_int _ _ _ _))) (by rfl) (by first|exact .inl rfl|exact .inr rfl|assumption)) (@pss_cons _ _ _ _ _ (@ps_setC _ _ _ _ _ _ _ _ _ _ _ 3 _ _ _ ["_law_me"] [] [] rfl sc_law.nd rfl (by first|exact Or.inl rfl|exact Or.inr rfl) _ cs_law_0 (@pi_range1 _ _ _ _ _ _ rfl (hb _ (by decide)) (@pa_cX _ _ _ _ _ (@pv _ 1 _ _ (by rfl) (by first|exact Or.inl rfl|exact Or.inr (Or.inl rfl)|exact Or.inr (Or.inr rfl)) (by decide) (by decide)) (@pa_nil _) (by rfl)) (by rfl)) (fun _ _ _ _=>(@pg_name _ _ 0 _ cs_law_0.nd rfl (by first|exact Or.inl rfl|exact Or.inr rfl) (by first|exact .inl rfl|exact .inr rfl|assumption))) (fun _ _ _ _=>(@pf_nil _)) (fun _ _ _ _=>(@pe_mak _ _ _ _ _ _ _ _ _ _ _ _ I_Ways hr T_Ways.mgC (@pa_cX _ _ _ _ _ (@pv _ 0 _ _ (by rfl) (by first|exact Or.inl rfl|exact Or.inr (Or.inl rfl)|exact Or.inr (Or.inr rfl)) (by decide) (by decide)) (@pa_nil _) (by rfl)) (by decide) (by rfl) (by decide) (by rfl) (by rfl))) rfl (by rfl) (by rfl) (by rfl) (by first|exact .inl rfl|exact .inr rfl|assumption) (by intro _; rfl)) (@pss_cons _ _ _ _ _ (@ps_set _ _ 4 _ _ _ _ sc_law.nd rfl (by first|exact Or.inl rfl|exact Or.inr rfl) (@pe_fn _ _ _ _ _ _ _ _ _ _ _ F__law_first_lines hr (@pa_cX _ _ _ _ _ (@pe_fn _ _ _ _ _ _ _ _ _ _ _ F__law_cell_at hr (@pa_cX _ _ _ _ _ (@pv _ 0 _ _ (by rfl) (by first|exact Or.inl rfl|exact Or.inr (Or.inl rfl)|exact Or.inr (Or.inr rfl)) (by decide) (by decide)) (@pa_cX _ _ _ _ _ (@pe_int _ _ _ _) (@pa_nil _) (by rfl)) (by rfl)) (by decide) (by rfl) (by decide) (by rfl) (by rfl)) (@pa_cX _ _ _ _ _ (@pv _ 1 _ _ (by rfl) (by first|exact Or.inl rfl|exact Or.inr (Or.inl rfl)|exact Or.inr (Or.inr rfl)) (by decide) (by decide)) (@pa_nil _) (by rfl)) (by rfl)) (by decide) (by rfl) (by decide) (by rfl) (by rfl)) (by rfl) (by first|exact .inl rfl|exact .inr rfl|assumption)) (@pss_cons _ _ _ _ _ (@ps_asg _ _ _ _ _ _ (@pe_fn _ _ _ _ _ _ _ _ _ _ _ F__law_changes hr (@pa_cX _ _ _ _ _ (@pe_slice _ _ _ _ _ _ _ _ _ _ (sl_listK K) (@pv _ 0 _ _ (by rfl) (by first|exact Or.inl rfl|exact Or.inr (Or.inl rfl)|exact Or.inr (Or.inr rfl)) (by decide) (by decide)) (@po_some _ _ _ (@pe_int _ _ _ _)) (@po_some _ _ _ (@pe_int _ _ _ _))) (@pa_cX _ _ _ _ _ (@pv _ 1 _ _ (by rfl) (by first|exact Or.inl rfl|exact Or.inr (Or.inl rfl)|exact Or.inr (Or.inr rfl)) (by decide) (by decide)) (@pa_nil _) (by rfl)) (by rfl)) (by decide) (by rfl) (by decide) (by rfl) (by rfl)) (@pg_seqX _ _ _ _ 2 _ rfl (@pgs_cons _ _ _ _ _ (@pg_name _ _ 5 _ sc_law.nd rfl (by first|exact Or.inl rfl|exact Or.inr rfl) (by first|exact .inl rfl|exact .inr rfl|assumption)) (@pgs_cons _ _ _ _ _ (@pg_name _ _ 6 _ sc_law.nd rfl (by first|exact Or.inl rfl|exact Or.inr rfl) (by first|exact .inl rfl|exact .inr rfl|assumption)) (@pgs_nil _) (by rfl)) (by rfl)) (by rfl) (by rfl)) (by rfl) (by rfl) (by rfl)) (@pss_cons _ _ _ _ _ (@ps_set _ _ 7 _ _ _ _ sc_law.nd rfl (by first|exact Or.inl rfl|exact Or.inr rfl) (@pe_dnewK _ _) (by rfl) (by first|exact .inl rfl|exact .inr rfl|assumption)) (@pss_cons _ _ _ _ _ (@ps_set _ _ 8 _ _ _ _ sc_law.nd rfl (by first|exact Or.inl rfl|exact Or.inr rfl) (@pe_dnewT _ _) (by rfl) (by first|exact .inl rfl|exact .inr rfl|assumption)) (@pss_cons _ _ _ _ _ (@ps_set _ _ 9 _ _ _ _ sc_law.nd rfl (by first|exact Or.inl rfl|exact Or.inr rfl) (@pe_dnewT _ _) (by rfl) (by first|exact .inl rfl|exact .inr rfl|assumption)) (@pss_cons _ _ _ _ _ (@ps_set _ _ 10 _ _ _ _ sc_law.nd rfl (by first|exact Or.inl rfl|exact Or.inr rfl) (@pe_op _ _ _ _ _ _ _ _ op_add (@pe_op _ _ _ _ _ _ _ _ op_add (@pe_int _ _ _ _) (@pe_op _ _ _ _ _ _ _ _ op_mul (@pe_int _ _ _ _) (@pv _ 2 _ _ (by rfl) (by first|exact Or.inl rfl|exact Or.inr (Or.inl rfl)|exact Or.inr (Or.inr rfl)) (by decide) (by decide)))) (@pe_op _ _ _ _ _ _ _ _ op_mul (@pe_int _ _ _ _) (@pv _ 1 _ _ (by rfl) (by first|exact Or.inl rfl|exact Or.inr (Or.inl rfl)|exact Or.inr (Or.inr rfl)) (by decide) (by decide)))) (by rfl) (by first|exact .inl rfl|exact .inr rfl|assumption)) (@pss_cons _ _ _ _ _ (@ps_for _ _ _ _ _ _ _ _ PassesOwn.never rfl (@pi_range1 _ _ _ _ _ _ rfl (hb _ (by decide)) (@pa_cX _ _ _ _ _ (@pe_op _ _ _ _ _ _ _ _ op_add (@pv _ 10 _ _ (by rfl) (by first|exact Or.inl rfl|exact Or.inr (Or.inl rfl)|exact Or.inr (Or.inr rfl)) (by decide) (by decide)) (@pe_int _ _ _ _)) (@pa_nil _) (by rfl)) (by rfl)) (@pg_name _ _ 11 _ sc_law.nd rfl (by first|exact Or.inl rfl|exact Or.inr rfl) (by first|exact .inl rfl|exact .inr rfl|assumption)) (@pss_cons _ _ _ _ _ (@ps_for _ _ _ _ _ _ _ _ PassesOwn.never rfl (@pi_listK _ K _ _ _ (@pe_callTy _ _ _ _ _ _ _ _ _ (call_listT rfl) rfl (hb _ (by decide)) bt_list (@pa_cX _ _ _ _ _ (@pv _ 5 _ _ (by rfl) (by first|exact Or.inl rfl|exact Or.inr (Or.inl rfl)|exact Or.inr (Or.inr rfl)) (by decide) (by decide)) (@pa_nil _) (by rfl)) (by decide) (by decide) (by rfl) (by rfl)) (by rfl)) (@pg_name _ _ 12 _ sc_law.nd rfl (by first|exact Or.inl rfl|exact Or.inr rfl) (by first|exact .inl rfl|exact .inr rfl|assumption)) (@pss_one _ _ _ (@ps_if _ _ _ _ _ _ _ _ (@pt_cmpR _ _ _ _ _ _ _ _ op_eq (@pe_ix _ _ _ _ _ _ _ (ix_get hu1) (@pv _ 12 _ _ (by rfl) (by first|exact Or.inl rfl|exact Or.inr (Or.inl rfl)|exact Or.inr (Or.inr rfl)) (by decide) (by decide)) (@pe_int _ _ _ _) (fun _ _=>rfl)) (@pv _ 11 _ _ (by rfl) (by first|exact Or.inl rfl|exact Or.inr (Or.inl rfl)|exact Or.inr (Or.inr rfl)) (by decide) (by decide)) (nomark _)) (@pss_one _ _ _ (@ps_dput _ _ _ _ _ _ _ _ _ hu1 (@pv _ 4 _ _ (by rfl) (by first|exact Or.inl rfl|exact Or.inr (Or.inl rfl)|exact Or.inr (Or.inr rfl)) (by decide) (by decide)) (@pe_slice _ _ _ _ _ _ _ _ _ _ sl_TX (@pv _ 12 _ _ (by rfl) (by first|exact Or.inl rfl|exact Or.inr (Or.inl rfl)|exact Or.inr (Or.inr rfl)) (by decide) (by decide)) (@po_some _ _ _ (@pe_int _ _ _ _)) (@po_none _)) (@pe_dget _ _ _ _ _ _ hu1 (@pv _ 5 _ _ (by rfl) (by first|exact Or.inl rfl|exact Or.inr (Or.inl rfl)|exact Or.inr (Or.inr rfl)) (by decide) (by decide)) (@pv _ 12 _ _ (by rfl) (by first|exact Or.inl rfl|exact Or.inr (Or.inl rfl)|exact Or.inr (Or.inr rfl)) (by decide) (by decide)) (by intro _ _; rfl)) rfl)) (@pss_nil _))) (by intro _; rfl)) (@pss_cons _ _ _ _ _ (@ps_expr _ _ _ _ (@pe_fn _ _ _ _ _ _ _ _ _ _ _ F__law_come hr (@pa_cX _ _ _ _ _ (@pv _ 3 _ _ (by rfl) (by first|exact Or.inl rfl|exact Or.inr (Or.inl rfl)|exact Or.inr (Or.inr rfl)) (by decide) (by decide)) (@pa_cX _ _ _ _ _ (@pv _ 7 _ _ (by rfl) (by first|exact Or.inl rfl|exact Or.inr (Or.inl rfl)|exact Or.inr (Or.inr rfl)) (by decide) (by decide)) (@pa_cX _ _ _ _ _ (@pv _ 8 _ _ (by rfl) (by first|exact Or.inl rfl|exact Or.inr (Or.inl rfl)|exact Or.inr (Or.inr rfl)) (by decide) (by decide)) (@pa_cX _ _ _ _ _ (@pv _ 11 _ _ (by rfl) (by first|exact Or.inl rfl|exact Or.inr (Or.inl rfl)|exact Or.inr (Or.inr rfl)) (by decide) (by decide)) (@pa_nil _) (by rfl)) (by rfl)) (by rfl)) (by rfl)) (by decide) (by rfl) (by decide) (by rfl) (by rfl)) (by rfl)) (@pss_cons _ _ _ _ _ (@ps_expr _ _ _ _ (@pe_fn _ _ _ _ _ _ _ _ _ _ _ F__law_told hr (@pa_cX _ _ _ _ _ (@pv _ 3 _ _ (by rfl) (by first|exact Or.inl rfl|exact Or.inr (Or.inl rfl)|exact Or.inr (Or.inr rfl)) (by decide) (by decide)) (@pa_cX _ _ _ _ _ (@pv _ 4 _ _ (by rfl) (by first|exact Or.inl rfl|exact Or.inr (Or.inl rfl)|exact Or.inr (Or.inr rfl)) (by decide) (by decide)) (@pa_cX _ _ _ _ _ (@pv _ 6 _ _ (by rfl) (by first|exact Or.inl rfl|exact Or.inr (Or.inl rfl)|exact Or.inr (Or.inr rfl)) (by decide) (by decide)) (@pa_cX _ _ _ _ _ (@pv _ 11 _ _ (by rfl) (by first|exact Or.inl rfl|exact Or.inr (Or.inl rfl)|exact Or.inr (Or.inr rfl)) (by decide) (by decide)) (@pa_nil _) (by rfl)) (by rfl)) (by rfl)) (by rfl)) (by decide) (by rfl) (by decide) (by rfl) (by rfl)) (by rfl)) (@pss_cons _ _ _ _ _ (@ps_if _ _ _ _ _ _ _ _ (@PW.pt _ _ _ (@pw_and _ _ _ _ _ _ _ (@pt_cmpR _ _ _ _ _ _ _ _ op_gt (@pv _ 11 _ _ (by rfl) (by first|exact Or.inl rfl|exact Or.inr (Or.inl rfl)|exact Or.inr (Or.inr rfl)) (by decide) (by decide)) (@pe_int _ _ _ _) (nomark _)) (@pw_and1 _ _ _ _ (@pt_cmpR _ _ _ _ _ _ _ _ op_eq (@pe_op _ _ _ _ _ _ _ _ op_mod (@pv _ 11 _ _ (by rfl) (by first|exact Or.inl rfl|exact Or.inr (Or.inl rfl)|exact Or.inr (Or.inr rfl)) (by decide) (by decide)) (@pv _ 2 _ _ (by rfl) (by first|exact Or.inl rfl|exact Or.inr (Or.inl rfl)|exact Or.inr (Or.inr rfl)) (by decide) (by decide))) (@pe_int _ _ _ _) (nomark _))))) (@pss_one _ _ _ (@ps_for _ _ _ _ _ _ _ _ PassesOwn.never rfl (@pi_listK _ K _ _ _ (@pv _ 3 _ _ (by rfl) (by first|exact Or.inl rfl|exact Or.inr (Or.inl rfl)|exact Or.inr (Or.inr rfl)) (by decide) (by decide)) (by rfl)) (@pg_name _ _ 13 _ sc_law.nd rfl (by first|exact Or.inl rfl|exact Or.inr rfl) (by first|exact .inl rfl|exact .inr rfl|assumption)) (@pss_one _ _ _ (@ps_expr _ _ _ _ (@pe_mth0 _ _ _ _ _ _ _ _ _ _ _ _ M_Ways_raise_own T_Ways.cl hr (@pv _ 13 _ _ (by rfl) (by first|exact Or.inl rfl|exact Or.inr (Or.inl rfl)|exact Or.inr (Or.inr rfl)) (by decide) (by decide)) (by decide) (by rfl)) (by rfl))) (by intro _; rfl))) (@pss_nil _)) (@pss_cons _ _ _ _ _ (@ps_for _ _ _ _ _ _ _ _ PassesOwn.never rfl (@pi_listK _ K _ _ _ (@pv _ 3 _ _ (by rfl) (by first|exact Or.inl rfl|exact Or.inr (Or.inl rfl)|exact Or.inr (Or.inr rfl)) (by decide) (by decide)) (by rfl)) (@pg_name _ _ 13 _ sc_law.nd rfl (by first|exact Or.inl rfl|exact Or.inr rfl) (by first|exact .inl rfl|exact .inr rfl|assumption)) (@pss_one _ _ _ (@ps_expr _ _ _ _ (@pe_mth0 _ _ _ _ _ _ _ _ _ _ _ _ M_Ways_settle T_Ways.cl hr (@pv _ 13 _ _ (by rfl) (by first|exact Or.inl rfl|exact Or.inr (Or.inl rfl)|exact Or.inr (Or.inr rfl)) (by decide) (by decide)) (by decide) (by rfl)) (by rfl))) (by intro _; rfl)) (@pss_cons _ _ _ _ _ (@ps_if _ _ _ _ _ _ _ _ (@PW.pt _ _ _ (@pw_or _ _ _ _ _ _ _ (@pt_not _ _ _ _ (@pt_truX _ _ _ (@pe_fn _ _ _ _ _ _ _ _ _ _ _ F__law_no_rings hr (@pa_cX _ _ _ _ _ (@pv _ 3 _ _ (by rfl) (by first|exact Or.inl rfl|exact Or.inr (Or.inl rfl)|exact Or.inr (Or.inr rfl)) (by decide) (by decide)) (@pa_nil _) (by rfl)) (by decide) (by rfl) (by decide) (by rfl) (by rfl)) (by intro _; rfl))) (@pw_or1 _ _ _ _ (@PW.pt _ _ _ (@pw_and _ _ _ _ _ _ _ (@pt_cmpR _ _ _ _ _ _ _ _ op_ge (@pv _ 11 _ _ (by rfl) (by first|exact Or.inl rfl|exact Or.inr (Or.inl rfl)|exact Or.inr (Or.inr rfl)) (by decide) (by decide)) (@pv _ 10 _ _ (by rfl) (by first|exact Or.inl rfl|exact Or.inr (Or.inl rfl)|exact Or.inr (Or.inr rfl)) (by decide) (by decide)) (nomark _)) (@pw_and1 _ _ _ _ (@pt_not _ _ _ _ (@pt_truX _ _ _ (@pe_fn _ _ _ _ _ _ _ _ _ _ _ F__law_all_least hr (@pa_cX _ _ _ _ _ (@pv _ 3 _ _ (by rfl) (by first|exact Or.inl rfl|exact Or.inr (Or.inl rfl)|exact Or.inr (Or.inr rfl)) (by decide) (by decide)) (@pa_cX _ _ _ _ _ (@pv _ 4 _ _ (by rfl) (by first|exact Or.inl rfl|exact Or.inr (Or.inl rfl)|exact Or.inr (Or.inr rfl)) (by decide) (by decide)) (@pa_nil _) (by rfl)) (by rfl)) (by decide) (by rfl) (by decide) (by rfl) (by rfl)) (by intro _; rfl))))))))) (@pss_one _ _ _ (@ps_ret _ _ _ _ (@pe_bl _ _ _ _))) (@pss_nil _)) (@pss_one _ _ _ (@ps_expr _ _ _ _ (@pe_fn _ _ _ _ _ _ _ _ _ _ _ F__law_sent hr (@pa_cX _ _ _ _ _ (@pv _ 3 _ _ (by rfl) (by first|exact Or.inl rfl|exact Or.inr (Or.inl rfl)|exact Or.inr (Or.inr rfl)) (by decide) (by decide)) (@pa_cX _ _ _ _ _ (@pv _ 4 _ _ (by rfl) (by first|exact Or.inl rfl|exact Or.inr (Or.inl rfl)|exact Or.inr (Or.inr rfl)) (by decide) (by decide)) (@pa_cX _ _ _ _ _ (@pv _ 7 _ _ (by rfl) (by first|exact Or.inl rfl|exact Or.inr (Or.inl rfl)|exact Or.inr (Or.inr rfl)) (by decide) (by decide)) (@pa_cX _ _ _ _ _ (@pv _ 9 _ _ (by rfl) (by first|exact Or.inl rfl|exact Or.inr (Or.inl rfl)|exact Or.inr (Or.inr rfl)) (by decide) (by decide)) (@pa_cX _ _ _ _ _ (@pv _ 11 _ _ (by rfl) (by first|exact Or.inl rfl|exact Or.inr (Or.inl rfl)|exact Or.inr (Or.inr rfl)) (by decide) (by decide)) (@pa_cX _ _ _ _ _ (@pe_fn _ _ _ _ _ _ _ _ _ _ _ F__law_cell_at hr (@pa_cX _ _ _ _ _ (@pv _ 0 _ _ (by rfl) (by first|exact Or.inl rfl|exact Or.inr (Or.inl rfl)|exact Or.inr (Or.inr rfl)) (by decide) (by decide)) (@pa_cX _ _ _ _ _ (@pe_op _ _ _ _ _ _ _ _ op_add (@pe_int _ _ _ _) (@pe_op _ _ _ _ _ _ _ _ op_fdiv (@pv _ 11 _ _ (by rfl) (by first|exact Or.inl rfl|exact Or.inr (Or.inl rfl)|exact Or.inr (Or.inr rfl)) (by decide) (by decide)) (@pe_int _ _ _ _))) (@pa_nil _) (by rfl)) (by rfl)) (by decide) (by rfl) (by decide) (by rfl) (by rfl)) (@pa_nil _) (by rfl)) (by rfl)) (by rfl)) (by rfl)) (by rfl)) (by rfl)) (by decide) (by rfl) (by decide) (by rfl) (by rfl)) (by rfl))))))))) (by intro _; rfl)) (@pss_one _ _ _ (@ps_ret _ _ _ _ (@pe_bl _ _ _ _))))))))))))),?_⟩
    refine use3 (PmA C sc H) ?key ?go
    case go=>
      intro R' hR
      simp (maxSteps:=1000000) only [tComp_eq,Nat.reduceSub,Int.reduceLT,Nat.reduceAdd,iRng1,cZ0,tSeq,eZ1,tOp,tVar,tC,rI,rI0,tAsg,gName,tCall,tCons,tNil,L2.start,mZ1,mZ0,lZ1,lZ0,List.replicate,List.cons_append,List.nil_append,gZ0,gZ1,sZ0,sZ1,oZ0,eZ0,V.int.injEq,and_true,true_and,aZ0]
      refine ⟨sc,ns,0,rfl,by decide,hS,fun r=>⟨r,rfl,.inl ⟨by omega,by omega⟩,sc,ns,0,rfl,by decide,hS,fun r2=>⟨r2,rfl,⟨by decide,by decide⟩,?_⟩⟩⟩
      obtain ⟨n,hn,n2,n4⟩:∃ n:Nat,2+r % 3=(n:Int)∧2≤n∧n≤4:=⟨(2+r % 3).toNat,by omega,by omega,by omega⟩
      rw [hn]
      obtain ⟨ev,hev,ev1,ev2⟩:∃ ev:Nat,4 * ((n:Int)+1)+r2 / 3 % 9=(ev:Int)∧4 * (n+1)≤ev∧ev≤40:=⟨(4 * ((n:Int)+1)+r2 / 3 % 9).toNat,by omega,by omega,by omega⟩
      rw [hev]
      refine ⟨by omega,by omega,comp_range (m:=((n:Int)).toNat) (by rw [sizeLine_eq]; omega) (La0 C n H) ?_ ?_ ?_ ?_⟩
      · intro D hD
        exact ⟨[],rfl,upd_same,⟨⟨(fun i a st h=>nomatch h),rfl⟩,(fun i j a b _ h=>nomatch h)⟩,Same.upd_new hD⟩
      · rintro D i acc H2 hD hi ⟨as,rfl,eD,hH,s2⟩
        have:=hH.hs.len
        rw [sts0_len] at this
        exact ⟨eD,by rw [List.length_map]; omega⟩
      · rintro D i acc H2 hD hi ⟨as,rfl,eD,hH,s2⟩
        simp (maxSteps:=1000000) only [ne_eq,tMake,tYes,cSt,List.drop_succ_cons,List.drop_zero,if_true,tVar,gName,tCons,tNil,mZ0,List.replicate,gZ0,sZ0,oZ0,eZ0,true_and,aZ0,mZ0,Int.zero_add]
        intro x dx hx hdx hne
        have s2a:Same H2 (upd (upd H2 dx (.own x)) x (.ins C dx [])):=Same.upd (Same.upd_new hdx) hx
        refine ⟨domN n,x,dx,(i:Int),rfl,upd_same,by rw [domN_len]; omega,fun a H3 ax ai af Y k=>⟨rfl,?_⟩⟩
        have s23:Same H2 H3:=fun b o e=>k b o (s2a b o e) (fun z=>by rw [List.mem_singleton] at z; rw [z,hx] at e; cases e)
        have eD3:=s23 _ _ eD
        have hf:∀ b∈ads a,H2 b=none:=fun b hb=>(upd_none (upd_none (af b hb)).2).2
        refine ⟨eD3,as++[a],by rw [List.map_append,← ax]; rfl,upd_same,?_,(s2.trans s23).upd hD⟩
        refine (hH.add s23 Y (by rw [ax]; exact hx) hf).keep (S:=[D]) (Keep.refl.upd (.inl (.head _))) (fun b hb=>?_)
        rw [List.mem_singleton] at hb
        rw [hb]
        exact ⟨_,eD3⟩
      · rintro D acc H2 hD ⟨as,rfl,eD,hH,s2⟩
        rw [Int.toNat_natCast] at hH
        exact hR _ _ ⟨n,ev,D,as,rfl,n2,n4,ev1,ev2,hH,eD,hD,s2⟩
    case key=>
      rintro σ H1 ⟨n,ev,ph,as,rfl,n2,n4,ev1,ev2,hH,eph,nph,s1⟩
      refine use6 (fun σ H'=>∃ (A':AW) (m:Nat→Nat→Option Int),σ=lσ A' n ev (13+2 * ev+8 * n) none none none∧A'.Pt=Pt∧Wd K C n H' A' ns as (sts0 n) m (fun _ _=>none) (fun _ _ _=>False) (fun _=>[]) 0) ?key2 ?go2
      case go2=>
        intro R' hR
        simp (maxSteps:=1000000) only [gSeqX,gCons,gNil,tDNewK,tSl,rSlL,tPart,tSeq,eZ1,tOp,tVar,tC,rI,rI0,tAsg,gName,tCall,tCons,tNil,gZ0,gZ1,sZ0,sZ1,oZ0,eZ0,V.int.injEq,V.ref.injEq,aZ0,tDNewT,tDNewK]
        refine ⟨sc,ns,1,rfl,by decide,s1.seq hS,fun r=>⟨r,n,rfl,n2,n4,fun pl m H2 npl s2 hL=>?_⟩⟩
        have s12:=s1.trans s2
        refine ⟨_,s12.seq hS,?_⟩
        obtain ⟨cs,hcs⟩:=cutV_map ns (some 2) (some 8)
        have lcs:cs.length≤63:=by
          have:=cutV_length (ns.map V.int) (some 2) (some 8)
          rw [hcs,List.length_map,List.length_map] at this
          omega
        rw [hcs]
        intro p3 n3
        generalize z3:upd H2 p3 _=H3
        obtain ⟨s3,e3⟩:=new_same z3 n3
        refine ⟨p3,cs,n,rfl,e3,lcs,n2,n4,fun p4 pc pv H4 s4 npc npv hcv e4 hC hV=>⟨p4,rfl,_,e4,_,rfl,rfl,_,_,rfl,_,_,rfl,rfl,?_⟩⟩
        intro p5 n5
        generalize z5:upd H4 p5 _=H5
        obtain ⟨s5,e5⟩:=new_same z5 n5
        intro p6 n6
        generalize z6:upd H5 p6 _=H6
        obtain ⟨s6,e6⟩:=new_same z6 n6
        intro p7 n7
        generalize z7:upd H6 p7 _=H7
        obtain ⟨s7,e7⟩:=new_same z7 n7
        refine ⟨.inl ⟨by omega,by omega⟩,.inl ⟨by omega,by omega⟩,?_⟩
        have s24:=s3.trans s4
        have s47:=(s5.trans s6).trans s7
        have s17:=(s2.trans s24).trans s47
        have s07:=s1.trans s17
        obtain ⟨av,havp,hava,hsc⟩:∃ av:List Addr,ph∈av∧(∀ b∈av,∃ xs,Rd H7 b (.lst xs))∧Scr K H7 sc av (ns.map V.int):=by
          rcases hS with h|h
          · have h7:Rd H7 sc (.lst (ns.map V.int)):=by
              rcases h with h|⟨o,h⟩
              · exact .inl (s07 _ _ h)
              · exact .inr ⟨o,s07 _ _ h⟩
            refine ⟨[ph,sc],.head _,fun b hb=>?_,.inl ⟨h7,.tail _ (.head _)⟩⟩
            simp only [List.mem_cons,List.not_mem_nil,or_false] at hb
            rcases hb with rfl|rfl
            · exact ⟨_,.inl (s17 _ _ eph)⟩
            · exact ⟨_,h7⟩
          · refine ⟨[ph],.head _,fun b hb=>?_,.inr (.inr h)⟩
            rw [List.mem_singleton] at hb
            subst hb
            exact ⟨_,.inl (s17 _ _ eph)⟩
        have al:∀ {b o},H4 b=some o→b≠p5∧b≠p6∧b≠p7:=fun {b o} e=>⟨(fun z=>by rw [z,n5] at e; cases e),(fun z=>by rw [z] at e; rw [s5 _ _ e] at n6; cases n6),(fun z=>by rw [z] at e; rw [(s5.trans s6) _ _ e] at n7; cases n7)⟩
        obtain ⟨kl,ekl,hkl⟩:=hL
        obtain ⟨kc,ekc,hkc⟩:=hC
        obtain ⟨kw,ekw,hkw⟩:=hV
        have ekl4:=s24 _ _ ekl
        have hH7:=hH.same s17
        have d1:pl≠pc:=fun z=>by rw [z] at ekl; rw [s3.fr npc] at ekl; cases ekl
        have d2:pl≠pv:=fun z=>by rw [z] at ekl; rw [s3.fr npv] at ekl; cases ekl
        have d67:p6≠p7:=fun z=>by rw [← z,e6] at n7; cases n7
        refine hR _ _ ⟨⟨ph,pl,pc,pv,p6,p7,p5,sc,Pt,av⟩,m,?_,rfl,⟨⟨⟨hH7.hs,sts0_len,⟨n2,n4⟩,s17 _ _ eph,hH7.dis,net0⟩,fun i a hi z=>?_,_,(s6.trans s7) _ _ e5⟩,⟨⟨kl,s47 _ _ ekl4,hkl⟩,⟨kc,s47 _ _ ekc,hkc⟩,⟨kw,s47 _ _ ekw,hkw⟩,⟨[],s7 _ _ e6,by decide,fun a b=>rfl⟩,⟨[],e7,Nat.le_refl _,(fun k v z=>nomatch z),(fun s a b z=>z.elim)⟩,⟨[],(s6.trans s7) _ _ e5,Nat.le_refl _,(fun _ _=>rfl),(fun _ _ z=>nomatch z),(fun _ _ z=>nomatch z),(fun _ _ _ z=>nomatch z)⟩,(fun u l z=>nomatch z),hsc,hT.same s07,⟨havp,hava⟩,?_⟩⟩⟩
        · unfold lσ
          simp only [cZ0,oZ0,V.int.injEq,true_and,and_true]
          omega
        · have hil:i<(sts0 n).length:=by rw [← hH.hs.len]; exact (List.getElem?_eq_some_iff.mp hi).1
          obtain ⟨kv,e⟩:=(hH.hs.at_ i a _ hi (List.getElem?_eq_getElem hil)).1.dic _ z
          rw [(s2.trans s24) _ _ e] at n5
          cases n5
        · simp only [List.nodup_cons,List.mem_cons,List.not_mem_nil,or_false,not_or,List.nodup_nil,and_true,not_false_eq_true]
          exact ⟨⟨d1,d2,(al ekl4).2.1,(al ekl4).2.2⟩,⟨hcv,(al ekc).2.1,(al ekc).2.2⟩,⟨(al ekw).2.1,(al ekw).2.2⟩,d67⟩
      case key2=>
        rintro σ H2 ⟨A',m,rfl,rfl,W⟩
        obtain ⟨N,hN⟩:∃ N,N=13+2 * ev+8 * n:=⟨_,rfl⟩
        rw [← hN]
        simp (maxSteps:=1000000) only [tFor_eq,iRng1,cZ0,tSeq,eZ1,tOp,tVar,tC,rI0,tCons,tNil,gZ0,gZ1,oZ0,eZ0,V.int.injEq,and_true,lσ]
        have hc0:∀ i,i<n→curOf (sts0 n) i=st0 i:=fun i hi=>by
          have e:=List.getElem?_eq_getElem (l:=sts0 n) (i:=i) (by rw [sts0_len]; exact hi)
          rw [cur_at e]
          exact (sts0_at e).1
        refine ⟨by omega,by omega,for_range (n:=((N:Int)+12).toNat) (Lt K C A' n ev N ns) ⟨_,_,_,as,sts0 n,m,_,_,_,_,_,_,_,rfl,W,tn0 (by omega) (lines_of W.ot.ln) hc0⟩ ?_ ?_⟩
        · rintro t σ H3 ht ⟨v11,v12,v13,as3,sts3,m3,ln3,lo3,lt3,sta3,sg3,hs3,ps3,rfl,W3,T3⟩
          have ht':t<N+12:=by omega
          change tSeq _ _ _ (lσ A' n ev N (some (.int (0+(t:Int)))) v12 v13) H3
          rw [Int.zero_add]
          refine use1 (fun σ H'=>∃ v12 m4,σ=lσ A' n ev N (some (.int (t:Int))) v12 v13∧Wd K C n H' A' ns as3 sts3 m4 sta3 lo3 lt3 (100 * t)∧(m4=m3∨t≤9)) ?key3 ?go3
          case go3=>
            intro R' hR
            simp (maxSteps:=1000000) only [tFor_eq,iList,tSeq,tVar,tCons,tNil,tCB,gZ0,gZ1,oZ0,eZ0,lσ]
            obtain ⟨kc,ekc,hlc,hkc⟩:=W3.ot.cg
            refine ⟨A'.pc,kc,rfl,ekc,fun ks l nl hks=>?_⟩
            generalize z4:upd H3 l _=H4
            obtain ⟨s4,e4⟩:=new_same z4 nl
            have ekc4:=s4 _ _ ekc
            have ks4:Paired (fun (e:List Key × V) a=>H4 a=some (.tup (e.1.map kV))) kc ks:=pmap hks fun _ _ z=>s4 _ _ z
            refine ⟨l,rfl,⟨_,SqL.of e4⟩,for_list (xs:=ks.map V.ref) (fun k σ H'=>∃ v12 m',σ=lσ A' n ev N (some (.int (t:Int))) v12 v13∧Wd K C n H' A' ns as3 sts3 m' sta3 lo3 lt3 (100 * t)∧(m'=m3∨t≤9)∧Keep [A'.pl] H4 H') ⟨_,m3,rfl,W3.same s4,.inl rfl,.refl⟩ ?_ ?_ ?_⟩
            · rintro k σ H5 hk ⟨v12',m',rfl,W5,hm5,k5⟩
              exact SqL.of (k5 _ _ e4 (fun z=>by
                rw [List.mem_singleton] at z
                obtain ⟨kl,ekl,_⟩:=(W3.same s4).ot.ln
                rw [z,ekl] at e4
                cases e4))
            · rintro k v σ H5 hv ⟨v12',m',rfl,W5,hm5,k5⟩
              rw [List.getElem?_map] at hv
              obtain ⟨a,ha,rfl⟩:=Option.map_eq_some_iff.mp hv
              obtain ⟨e,he,ea⟩:=paired_get' ks4 ha
              obtain ⟨tt,x,y,o,rfl,t1,t9,hxy,hyn,ho⟩:=hkc e (List.mem_of_getElem? he)
              obtain ⟨kl,ekl,hkl,hlv⟩:=W5.ot.ln
              have npl:∀ {b u},H4 b=some (.tup u)→b ∉ [A'.pl]:=fun h z=>by
                rw [List.mem_singleton] at z
                obtain ⟨kl,ekl,_⟩:=(W3.same s4).ot.ln
                rw [z,ekl] at h
                cases h
              have ea5:=k5 _ _ ea (npl ea)
              have ekc5:H5 A'.pc=some (.dT kc):=k5 _ _ ekc4 (by rw [List.mem_singleton]; exact Ne.symm (nd5 W5.ot.d).1.1)
              simp (maxSteps:=1000000) only [rGet,getO_t,atI_0,tDGet,sDPut,tSl,tNoPart,tPart,cZ0,rEq_ii,eZ1,tIfS,tTest,tOp,tVar,tC,gName,tNext,mZ1,mZ0,gZ0,gZ1,sZ0,sZ1,oZ0,eZ0,V.int.injEq,V.bl.injEq,V.ref.injEq,and_true,true_and,lσ,ea5,mZ1,mZ0,kV]
              refine ite2 (fun h=>?_) (fun _=>⟨m',W5,hm5,k5⟩)
              have htt:tt=t:=by have:=of_decide_eq_true h; omega
              obtain ⟨o',hval,ho'⟩:∃ o',valV kc [Sum.inl (tt:Int),Sum.inl (x:Int),Sum.inl (y:Int)]=some (optV o')∧okP o':=by
                cases hval:valV kc [Sum.inl (tt:Int),Sum.inl (x:Int),Sum.inl (y:Int)] with
                | none=>exact absurd (List.mem_map.mpr ⟨_,List.mem_of_getElem? he,rfl⟩) (valV_not hval)
                | some v=>
                  obtain ⟨t',x',y',o',e',_,_,_,_,ho'⟩:=hkc _ (valT_mem hval)
                  injection e' with _ e'
                  exact ⟨o',by rw [e'],ho'⟩
              have G:=DGet.t (k:=[Sum.inl (tt:Int),Sum.inl (x:Int),Sum.inl (y:Int)]) ekc5 ea5
              rw [hval] at G
              refine ⟨_,G,a,_,rfl,ea5,fun p H6 hH6 ep=>?_⟩
              have s56:Same H5 H6:=by
                rcases hH6 with rfl|⟨np,rfl⟩
                · exact .refl _
                · exact Same.upd_new np
              have ekl6:=s56 _ _ ekl
              have W6:=W5.same s56
              exact ⟨_,DPut.t (k:=[Sum.inl (x:Int),Sum.inl (y:Int)]) ekl6 ep (by rw [sizeLine_eq]; omega),_,W6.line (LnD.put ekl6 hkl hlv hxy hyn ho'),.inr (by omega),(k5.same s56).upd (.inl (.head _))⟩
            · rintro σ H5 ⟨v12',m',rfl,W5,hm5,k5⟩
              exact hR _ _ ⟨_,m',rfl,W5,hm5⟩
          case key3=>
            rintro σ H4 ⟨v12,m4,rfl,W4,hm4⟩
            have T4:=T3.chg hm4 (lines_of W4.ot.ln)
            refine use2 (fun σ H'=>∃ as5 sts5 sts6 sta5,σ=lσ A' n ev N (some (.int (t:Int))) v12 v13∧Wd K C n H' A' ns as5 sts6 m4 sta5 lo3 (popL lt3 t) (100 * t)∧sts5.length=n∧Com n t hs3 (lt3 t) sta3 sta5 (curOf sts3) (curOf sts5) (lt3 t).length∧TolP n m4 t (fun _ _=>True) sts5 sts6) ?key4 ?go4
            case go4=>
              intro R' hR
              simp (maxSteps:=1000000) only [tSeq,tVar,tCall,tCons,tNil,tDrop,gZ0,gZ1,oZ0,eZ0,aZ0,lσ]
              refine ⟨A',n,t,ns,as3,sts3,m4,sta3,lo3,lt3,100 * t,hs3,rfl,W4,T4.rdy,fun as5 sts5 sta5 H5 W5 u5 C5=>?_⟩
              refine ⟨A',n,t,ns,as5,sts5,m4,sta5,lo3,popL lt3 t,100 * t,rfl,W5,fun as6 sts6 H6 W6 u6 T6 _=>?_⟩
              exact hR _ _ ⟨as6,sts5,sts6,sta5,rfl,W6,W5.hx.B.n1,C5,T6⟩
            case key4=>
              rintro σ H5 ⟨as5,sts5,sts6,sta5,rfl,W5,l5,C5,T5⟩
              refine use1 (fun σ H'=>∃ v13 as6 sts7,σ=lσ A' n ev N (some (.int (t:Int))) v12 v13∧Wd K C n H' A' ns as6 sts7 m4 sta5 lo3 (popL lt3 t) (100 * t)∧Rsd t ev sts6 sts7) ?key5 ?go5
              case go5=>
                intro R' hR
                simp (maxSteps:=1000000) only [tFor_eq,iList,rEq_ii,tSeq,eZ1,if_false,Bool.false_eq_true,tIfS,tAnd,tTest,tOp,tVar,tC,rI,rI0,tNext,gZ0,gZ1,oZ0,eZ0,V.int.injEq,V.bl.injEq,V.ref.injEq,lσ]
                have no:¬ (0<t∧t % ev=0)→Rsd t ev sts6 sts6:=fun h i st e=>by rw [if_neg h,Int.add_zero]; exact e
                refine ite2 (fun h0=>⟨by omega,ite2 (fun h1=>?_) (fun h1=>?_)⟩) (fun h0=>?_)
                · have h0:=of_decide_eq_true h0
                  have h1:=of_decide_eq_true h1
                  have hyes:0<t∧t % ev=0:=⟨by omega,by omega⟩
                  have eph5:=W5.hx.B.eph
                  have lph5:(as5.map fun a=>V.ref a.x).length=n:=by rw [List.length_map,W5.hx.B.hs.len,W5.hx.B.n1]
                  refine ⟨⟨_,SqL.of eph5⟩,for_list (xs:=as5.map fun a=>V.ref a.x) (fun k σ H'=>∃ v13 sts',σ=lσ A' n ev N (some (.int (t:Int))) v12 v13∧Wd K C n H' A' ns as5 sts' m4 sta5 lo3 (popL lt3 t) (100 * t)∧∀ (i:Nat) st,sts6[i]?=some st→sts'[i]?=some { st with own:=st.own+if i<k then 1 else 0 }) ⟨_,sts6,rfl,W5,fun i st e=>by rw [if_neg (by omega),Int.add_zero]; exact e⟩ ?_ ?_ ?_⟩
                  · rintro k σ H' hk ⟨v13',sts',rfl,W',h'⟩
                    exact SqL.of W'.hx.B.eph
                  · rintro k v σ H' hv ⟨v13',sts',rfl,W',h'⟩
                    have hk:k<n:=by rw [← lph5]; exact (List.getElem?_eq_some_iff.mp hv).1
                    obtain ⟨a,st,ea,es,Y,hme,xa⟩:=W'.hx.B.at_ hk
                    rw [List.getElem?_map,ea] at hv
                    cases hv
                    have ex:=Y.inst
                    simp (maxSteps:=1000000) only [HO.ins.injEq,tMeth,cZ0,eZ1,tVar,gName,tNil,tDrop,gZ0,gZ1,sZ0,sZ1,oZ0,eZ0,V.ref.injEq,and_true,true_and,and_assoc,aZ0,lσ,ex,fn_Ways_raise_own]
                    refine ⟨_,a,st,rfl,Y,fun H'' Y'' k''=>?_⟩
                    have O:=(W'.hx.B.net _ _ es).raise
                    have Z:=(W'.hand ea es Y'' rfl (fun b hb=>.inl hb) (k''.mono (fun b hb=>by rw [List.mem_singleton] at hb; rw [hb]; exact .head _)) O.1 O.2).1
                    rw [set_self ea] at Z
                    refine ⟨_,Z,fun i si ei=>?_⟩
                    have hi:=h' i si ei
                    by_cases e:i=k
                    · subst e
                      rw [if_neg (by omega),Int.add_zero,es] at hi
                      cases hi
                      rw [List.getElem?_set_self (List.getElem?_eq_some_iff.mp es).1,if_pos (by omega)]
                    · rw [List.getElem?_set_ne (Ne.symm e),hi]
                      by_cases h2:i<k
                      · rw [if_pos h2,if_pos (by omega)]
                      · rw [if_neg h2,if_neg (by omega)]
                  · rintro σ H' ⟨v13',sts',rfl,W',h'⟩
                    refine hR _ _ ⟨_,as5,sts',rfl,W',fun i st e=>?_⟩
                    have hi:i<n:=by rw [← W5.hx.B.n1]; exact (List.getElem?_eq_some_iff.mp e).1
                    rw [h' i st e,lph5,if_pos hi,if_pos hyes]
                · have h1:¬ ((t:Int) % (ev:Int)=0):=fun z=>h1 (decide_eq_true z)
                  exact hR _ _ ⟨_,as5,sts6,rfl,W5,no (fun z=>h1 (by omega))⟩
                · have h0:¬ ((0:Int)<(t:Int)):=fun z=>h0 (decide_eq_true z)
                  exact hR _ _ ⟨_,as5,sts6,rfl,W5,no (fun z=>h0 (by omega))⟩
              case key5=>
                rintro σ H6 ⟨v13',as6,sts7,rfl,W6,R6⟩
                refine use1 (fun σ H'=>∃ v13 as7 sts8,σ=lσ A' n ev N (some (.int (t:Int))) v12 v13∧Wd K C n H' A' ns as7 sts8 m4 sta5 lo3 (popL lt3 t) (100 * t)∧∀ (i:Nat) st,sts7[i]?=some st→∃ st',sts8[i]?=some st'∧Stl st st') ?key6 ?go6
                case go6=>
                  intro R' hR
                  simp (maxSteps:=1000000) only [tFor_eq,iList,tSeq,tVar,gZ0,gZ1,oZ0,eZ0,V.ref.injEq,lσ]
                  have eph6:=W6.hx.B.eph
                  have lph6:(as6.map fun a=>V.ref a.x).length=n:=by rw [List.length_map,W6.hx.B.hs.len,W6.hx.B.n1]
                  refine ⟨⟨_,SqL.of eph6⟩,for_list (xs:=as6.map fun a=>V.ref a.x) (fun k σ H'=>∃ v13 sts',σ=lσ A' n ev N (some (.int (t:Int))) v12 v13∧Wd K C n H' A' ns as6 sts' m4 sta5 lo3 (popL lt3 t) (100 * t)∧∀ (i:Nat) st,sts7[i]?=some st→∃ st',sts'[i]?=some st'∧(i<k→Stl st st')∧(¬ i<k→st'=st)) ⟨_,sts7,rfl,W6,fun i st e=>⟨st,e,(fun z=>absurd z (by omega)),fun _=>rfl⟩⟩ ?_ ?_ ?_⟩
                  · rintro k σ H' hk ⟨v13',sts',rfl,W',h'⟩
                    exact SqL.of W'.hx.B.eph
                  · rintro k v σ H' hv ⟨v13',sts',rfl,W',h'⟩
                    have hk:k<n:=by rw [← lph6]; exact (List.getElem?_eq_some_iff.mp hv).1
                    obtain ⟨a,st,ea,es,Y,hme,xa⟩:=W'.hx.B.at_ hk
                    rw [List.getElem?_map,ea] at hv
                    cases hv
                    have ex:=Y.inst
                    simp (maxSteps:=1000000) only [HO.ins.injEq,tMeth,cZ0,eZ1,tVar,gName,tNil,tDrop,gZ0,gZ1,sZ0,sZ1,oZ0,eZ0,V.ref.injEq,and_true,true_and,and_assoc,aZ0,lσ,ex,fn_Ways_settle]
                    refine ⟨_,a,st,rfl,Y,fun st'' H'' S'' Y'' k''=>?_⟩
                    have O:=(W'.hx.B.net _ _ es).settle S''
                    have Z:=(W'.hand ea es Y'' rfl (fun b hb=>.inl hb) (k''.mono (fun b hb=>by
                      simp only [List.mem_cons,List.not_mem_nil,or_false] at hb
                      rcases hb with rfl|rfl
                      · exact List.mem_cons_of_mem _ (mem_pm a)
                      · exact List.mem_cons_of_mem _ (mem_pw a))) O.1 O.2).1
                    rw [set_self ea] at Z
                    refine ⟨_,Z,fun i si ei=>?_⟩
                    obtain ⟨s',e1,e2,e3⟩:=h' i si ei
                    by_cases e:i=k
                    · subst e
                      have:=e3 (by omega)
                      rw [e1] at es
                      cases es
                      subst this
                      exact ⟨st'',List.getElem?_set_self (List.getElem?_eq_some_iff.mp e1).1,(fun _=>S''),fun z=>absurd (Nat.lt_succ_self _) z⟩
                    · exact ⟨s',by rw [List.getElem?_set_ne (Ne.symm e)]; exact e1,(fun z=>e2 (by omega)),fun z=>e3 (by omega)⟩
                  · rintro σ H' ⟨v13',sts',rfl,W',h'⟩
                    refine hR _ _ ⟨_,as6,sts',rfl,W',fun i st e=>?_⟩
                    have hi:i<n:=by rw [← W6.hx.B.n1]; exact (List.getElem?_eq_some_iff.mp e).1
                    obtain ⟨s',e1,e2,_⟩:=h' i st e
                    exact ⟨s',e1,e2 (by rw [lph6]; exact hi)⟩
                case key6=>
                  rintro σ H7 ⟨v13'',as7,sts8,rfl,W7,S7⟩
                  have M:Mid n t ev m4 hs3 (lt3 t) sta3 sta5 sts3 sts5 sts6 sts7 sts8:=⟨l5,W5.hx.B.n1,W6.hx.B.n1,W7.hx.B.n1,C5,T5,R6,S7,W6.hx.B.net,W7.hx.B.net⟩
                  have S8:=T4.S.ext (T4.turn M)
                  refine use1 (fun σ H'=>σ=lσ A' n ev N (some (.int (t:Int))) v12 v13''∧Wd K C n H' A' ns as7 sts8 m4 sta5 lo3 (popL lt3 t) (100 * t)) ?key7 ?go7
                  case go7=>
                    intro R' hR
                    simp (maxSteps:=1000000) only [tTruX,tSeq,eZ1,if_false,if_true,Bool.false_eq_true,tIfS,tAnd,tOr,tNot,tTest,tOp,tVar,tC,rI0,tRet,tNext,tCall,tCons,tNil,gZ0,gZ1,oZ0,eZ0,V.int.injEq,V.bl.injEq,aZ0,lσ]
                    refine ⟨A',n,ns,as7,sts8,m4,sta5,lo3,popL lt3 t,100 * t,rfl,rfl,W7,fun H8 W8=>⟨true,rfl,?_⟩⟩
                    rw [if_neg (by decide)]
                    refine ite2 (fun hNt=>?_) (fun _=>hR _ _ ⟨rfl,W8⟩)
                    have hNt:=of_decide_eq_true hNt
                    refine ⟨A'.ph,A'.pl,n,as7,sts8,m4,rfl,W8.hx.B,W8.ot.ln,fun L hS hC i d st hi hd es=>?_,fun H9 s9=>⟨true,rfl,?_⟩⟩
                    · have:=S8.least ev1 hS hC (t:=t) (by omega) (by omega) hi hd
                      rw [ext_at,cur_at es] at this
                      exact this
                    · rw [if_neg (by decide)]
                      exact hR _ _ ⟨rfl,W8.same s9⟩
                  case key7=>
                    rintro σ H8 ⟨rfl,W8⟩
                    simp (maxSteps:=1000000) only [eZ1,tOp,tVar,tC,rI,rI0,tCall,tCons,tNil,tDrop,gZ0,gZ1,oZ0,eZ0,V.int.injEq,aZ0,lσ]
                    refine ⟨⟨by decide,by decide⟩,A'.sc,ns,_,rfl,by omega,W8.ot.sc.sq,fun cell=>?_⟩
                    refine ⟨A',n,t,cell,ns,as7,sts8,m4,sta5,lo3,popL lt3 t,100 * t,K15.ext hs3 t (curOf sts8),extL ln3 t (cOf n m4),rfl,W8,by omega,T4.fly M,fun i hi=>by rw [ext_at],fun a b hl=>?_,T4.fut,fun lo' lt' H9 W9 F9 f9 o9=>?_⟩
                    · unfold extL at hl
                      rwa [if_pos rfl] at hl
                    · exact ⟨_,_,_,as7,sts8,m4,_,lo',lt',sta5,_,_,_,rfl,W9.more (by omega),T4.next M F9 f9 o9⟩
        · rintro σ H3 ⟨v11,v12,v13,as3,sts3,m3,ln3,lo3,lt3,sta3,sg3,hs3,ps3,rfl,W3,T3⟩
          simp (maxSteps:=1000000) only [tC,tRet]
          exact q _
end
end K15
namespace K15
open PySem L2 PySem.W
section
variable {P:Program} {w:World} {K:PySem.W.Frag} {mg:Str→Option Value} {c Pt C:Addr}
theorem mk_Ways {h:Heap} (X:K.In h) (G:h.Ns mainGlobals mg) {C f0 f1 f2 f3 f4 f5 f6 f7 f8 f9 f10 f11 f12:Addr} {od0 an0 od1 an1 od2 an2 od3 an3 od4 an4 od5 an5 od6 an6 od7 an7 od8 an8 od9 an9 od10 an10 od11 an11 od12 an12:Option Addr} {sl0 sl1 sl2 sl3 sl4 sl5 sl6 sl7 sl8 sl9 sl10 sl11 sl12:Array (Option Value)} {oc0 kV0 dc0 pm0 cd0 ct0 oc1 kV1 dc1 pm1 cd1 ct1 oc2 kV2 dc2 pm2 cd2 ct2 oc3 kV3 dc3 pm3 cd3 ct3 oc4 kV4 dc4 pm4 cd4 ct4 oc5 kV5 dc5 pm5 cd5 ct5 oc6 kV6 dc6 pm6 cd6 ct6 oc7 kV7 dc7 pm7 cd7 ct7 oc8 kV8 dc8 pm8 cd8 ct8 oc9 kV9 dc9 pm9 cd9 ct9 oc10 kV10 dc10 pm10 cd10 ct10 oc11 kV11 dc11 pm11 cd11 ct11 oc12 kV12 dc12 pm12 cd12 ct12:Value}
    (aC:PySem.W.nsIn K mainGlobals "Ways"=some (some (.ref C))) (pg:PySem.W.plainGet K C Str.empty=true) (hd:PySem.W.hasDictIn K C=true) (po:PySem.W.plainOver K C=true) (sa:PySem.W.findIn K (.ref C) "__setattr__"=some (some (.builtin "object.__setattr__")))
    (n0:PySem.W.findIn K (.ref C) "me"=some none) (n1:PySem.W.findIn K (.ref C) "own"=some none) (n2:PySem.W.findIn K (.ref C) "last_reports"=some none) (n3:PySem.W.findIn K (.ref C) "line_prices"=some none) (n4:PySem.W.findIn K (.ref C) "marks"=some none) (n5:PySem.W.findIn K (.ref C) "ways"=some none) (mk:PySem.W.makesIn K C=true) (kc:PySem.W.keepIn K (.ref C)=true)
    (a0:PySem.W.findIn K (.ref C) "__init__"=some (some (.ref f0))) (i0:PySem.W.isFn K (.ref f0)=true) (l0:K.lookup f0=some ⟨oc0,od0,.func (PySem.W.fnOf "__init__" "Ways.__init__" (defArgs s_Ways___init__) (defBody s_Ways___init__) (defScope s_Ways___init__) .none kV0 dc0 pm0 an0 cd0 ct0),sl0⟩) (c0:PySem.W.codeIn K cd0 "Ways.__init__"=true) (k0:PySem.W.keepIn K (.ref f0)=true)
    (a1:PySem.W.findIn K (.ref C) "raise_own"=some (some (.ref f1))) (i1:PySem.W.isFn K (.ref f1)=true) (l1:K.lookup f1=some ⟨oc1,od1,.func (PySem.W.fnOf "raise_own" "Ways.raise_own" (defArgs s_Ways_raise_own) (defBody s_Ways_raise_own) (defScope s_Ways_raise_own) .none kV1 dc1 pm1 an1 cd1 ct1),sl1⟩) (c1:PySem.W.codeIn K cd1 "Ways.raise_own"=true) (k1:PySem.W.keepIn K (.ref f1)=true)
    (a2:PySem.W.findIn K (.ref C) "heard"=some (some (.ref f2))) (i2:PySem.W.isFn K (.ref f2)=true) (l2:K.lookup f2=some ⟨oc2,od2,.func (PySem.W.fnOf "heard" "Ways.heard" (defArgs s_Ways_heard) (defBody s_Ways_heard) (defScope s_Ways_heard) .none kV2 dc2 pm2 an2 cd2 ct2),sl2⟩) (c2:PySem.W.codeIn K cd2 "Ways.heard"=true) (k2:PySem.W.keepIn K (.ref f2)=true)
    (a3:PySem.W.findIn K (.ref C) "priced"=some (some (.ref f3))) (i3:PySem.W.isFn K (.ref f3)=true) (l3:K.lookup f3=some ⟨oc3,od3,.func (PySem.W.fnOf "priced" "Ways.priced" (defArgs s_Ways_priced) (defBody s_Ways_priced) (defScope s_Ways_priced) .none kV3 dc3 pm3 an3 cd3 ct3),sl3⟩) (c3:PySem.W.codeIn K cd3 "Ways.priced"=true) (k3:PySem.W.keepIn K (.ref f3)=true)
    (a4:PySem.W.findIn K (.ref C) "settle"=some (some (.ref f4))) (i4:PySem.W.isFn K (.ref f4)=true) (l4:K.lookup f4=some ⟨oc4,od4,.func (PySem.W.fnOf "settle" "Ways.settle" (defArgs s_Ways_settle) (defBody s_Ways_settle) (defScope s_Ways_settle) .none kV4 dc4 pm4 an4 cd4 ct4),sl4⟩) (c4:PySem.W.codeIn K cd4 "Ways.settle"=true) (k4:PySem.W.keepIn K (.ref f4)=true)
    (a5:PySem.W.findIn K (.ref C) "may_take"=some (some (.ref f5))) (i5:PySem.W.isFn K (.ref f5)=true) (l5:K.lookup f5=some ⟨oc5,od5,.func (PySem.W.fnOf "may_take" "Ways.may_take" (defArgs s_Ways_may_take) (defBody s_Ways_may_take) (defScope s_Ways_may_take) .none kV5 dc5 pm5 an5 cd5 ct5),sl5⟩) (c5:PySem.W.codeIn K cd5 "Ways.may_take"=true) (k5:PySem.W.keepIn K (.ref f5)=true)
    (a6:PySem.W.findIn K (.ref C) "best_way"=some (some (.ref f6))) (i6:PySem.W.isFn K (.ref f6)=true) (l6:K.lookup f6=some ⟨oc6,od6,.func (PySem.W.fnOf "best_way" "Ways.best_way" (defArgs s_Ways_best_way) (defBody s_Ways_best_way) (defScope s_Ways_best_way) .none kV6 dc6 pm6 an6 cd6 ct6),sl6⟩) (c6:PySem.W.codeIn K cd6 "Ways.best_way"=true) (k6:PySem.W.keepIn K (.ref f6)=true)
    (a7:PySem.W.findIn K (.ref C) "better_mark"=some (some (.ref f7))) (i7:PySem.W.isFn K (.ref f7)=true) (l7:K.lookup f7=some ⟨oc7,od7,.func (PySem.W.fnOf "better_mark" "Ways.better_mark" (defArgs s_Ways_better_mark) (defBody s_Ways_better_mark) (defScope s_Ways_better_mark) .none kV7 dc7 pm7 an7 cd7 ct7),sl7⟩) (c7:PySem.W.codeIn K cd7 "Ways.better_mark"=true) (k7:PySem.W.keepIn K (.ref f7)=true)
    (a8:PySem.W.findIn K (.ref C) "reports"=some (some (.ref f8))) (i8:PySem.W.isFn K (.ref f8)=true) (l8:K.lookup f8=some ⟨oc8,od8,.func (PySem.W.fnOf "reports" "Ways.reports" (defArgs s_Ways_reports) (defBody s_Ways_reports) (defScope s_Ways_reports) .none kV8 dc8 pm8 an8 cd8 ct8),sl8⟩) (c8:PySem.W.codeIn K cd8 "Ways.reports"=true) (k8:PySem.W.keepIn K (.ref f8)=true)
    (a9:PySem.W.findIn K (.ref C) "report_of"=some (some (.ref f9))) (i9:PySem.W.isFn K (.ref f9)=true) (l9:K.lookup f9=some ⟨oc9,od9,.func (PySem.W.fnOf "report_of" "Ways.report_of" (defArgs s_Ways_report_of) (defBody s_Ways_report_of) (defScope s_Ways_report_of) .none kV9 dc9 pm9 an9 cd9 ct9),sl9⟩) (c9:PySem.W.codeIn K cd9 "Ways.report_of"=true) (k9:PySem.W.keepIn K (.ref f9)=true)
    (a10:PySem.W.findIn K (.ref C) "next_of"=some (some (.ref f10))) (i10:PySem.W.isFn K (.ref f10)=true) (l10:K.lookup f10=some ⟨oc10,od10,.func (PySem.W.fnOf "next_of" "Ways.next_of" (defArgs s_Ways_next_of) (defBody s_Ways_next_of) (defScope s_Ways_next_of) .none kV10 dc10 pm10 an10 cd10 ct10),sl10⟩) (c10:PySem.W.codeIn K cd10 "Ways.next_of"=true) (k10:PySem.W.keepIn K (.ref f10)=true)
    (a11:PySem.W.findIn K (.ref C) "price_of"=some (some (.ref f11))) (i11:PySem.W.isFn K (.ref f11)=true) (l11:K.lookup f11=some ⟨oc11,od11,.func (PySem.W.fnOf "price_of" "Ways.price_of" (defArgs s_Ways_price_of) (defBody s_Ways_price_of) (defScope s_Ways_price_of) .none kV11 dc11 pm11 an11 cd11 ct11),sl11⟩) (c11:PySem.W.codeIn K cd11 "Ways.price_of"=true) (k11:PySem.W.keepIn K (.ref f11)=true)
    (a12:PySem.W.findIn K (.ref C) "mark_of"=some (some (.ref f12))) (i12:PySem.W.isFn K (.ref f12)=true) (l12:K.lookup f12=some ⟨oc12,od12,.func (PySem.W.fnOf "mark_of" "Ways.mark_of" (defArgs s_Ways_mark_of) (defBody s_Ways_mark_of) (defScope s_Ways_mark_of) .none kV12 dc12 pm12 an12 cd12 ct12),sl12⟩) (c12:PySem.W.codeIn K cd12 "Ways.mark_of"=true) (k12:PySem.W.keepIn K (.ref f12)=true)
   :∃ C,ClsD K mg "Ways" C at_Ways∧DefI K C "Ways.__init__" s_Ways___init__∧DefM K C "raise_own" "Ways.raise_own" s_Ways_raise_own∧DefM K C "heard" "Ways.heard" s_Ways_heard∧DefM K C "priced" "Ways.priced" s_Ways_priced∧DefM K C "settle" "Ways.settle" s_Ways_settle∧DefM K C "may_take" "Ways.may_take" s_Ways_may_take∧DefM K C "best_way" "Ways.best_way" s_Ways_best_way∧DefM K C "better_mark" "Ways.better_mark" s_Ways_better_mark∧DefM K C "reports" "Ways.reports" s_Ways_reports∧DefM K C "report_of" "Ways.report_of" s_Ways_report_of∧DefM K C "next_of" "Ways.next_of" s_Ways_next_of∧DefM K C "price_of" "Ways.price_of" s_Ways_price_of∧DefM K C "mark_of" "Ways.mark_of" s_Ways_mark_of:=by
  refine ⟨C,⟨PySem.W.mg_of X G aC,⟨pg,hd,po,sa⟩,fun f hf=>?_⟩,defI_mk a0 i0 l0 c0 k0 mk kc,defM_mk a1 i1 l1 c1 k1,defM_mk a2 i2 l2 c2 k2,defM_mk a3 i3 l3 c3 k3,defM_mk a4 i4 l4 c4 k4,defM_mk a5 i5 l5 c5 k5,defM_mk a6 i6 l6 c6 k6,defM_mk a7 i7 l7 c7 k7,defM_mk a8 i8 l8 c8 k8,defM_mk a9 i9 l9 c9 k9,defM_mk a10 i10 l10 c10 k10,defM_mk a11 i11 l11 c11 k11,defM_mk a12 i12 l12 c12 k12⟩
  simp only [List.mem_cons,List.not_mem_nil,or_false] at hf
  rcases hf with rfl|rfl|rfl|rfl|rfl|rfl
  · exact n0
  · exact n1
  · exact n2
  · exact n3
  · exact n4
  · exact n5
theorem last {fa:Addr} (E1:DefI K C "Ways.__init__" s_Ways___init__) (E2:DefM K C "raise_own" "Ways.raise_own" s_Ways_raise_own) (E3:DefM K C "heard" "Ways.heard" s_Ways_heard) (E4:DefM K C "priced" "Ways.priced" s_Ways_priced) (E5:DefM K C "settle" "Ways.settle" s_Ways_settle) (E6:DefM K C "may_take" "Ways.may_take" s_Ways_may_take)
    (E7:DefM K C "best_way" "Ways.best_way" s_Ways_best_way) (E8:DefM K C "better_mark" "Ways.better_mark" s_Ways_better_mark) (E9:DefM K C "reports" "Ways.reports" s_Ways_reports) (E10:DefM K C "report_of" "Ways.report_of" s_Ways_report_of) (E11:DefM K C "next_of" "Ways.next_of" s_Ways_next_of) (E12:DefM K C "price_of" "Ways.price_of" s_Ways_price_of) (E13:DefM K C "mark_of" "Ways.mark_of" s_Ways_mark_of)
    (D0:Def K mg "better" s_better) (D1:Def K mg "chain" s_chain) (D2:Def K mg "_law_cell_at" s__law_cell_at) (D3:Def K mg "_law_mixed" s__law_mixed) (D4:Def K mg "_law_price" s__law_price) (D5:Def K mg "_law_first_lines" s__law_first_lines) (D6:Def K mg "_law_changes" s__law_changes) (D7:Def K mg "_law_told" s__law_told) (D8:Def K mg "_law_come" s__law_come) (D9:Def K mg "_law_sent" s__law_sent) (D10:Def K mg "_law_least" s__law_least) (D11:Def K mg "_law_all_least" s__law_all_least) (D12:Def K mg "_law_next" s__law_next) (D13:Def K mg "_law_no_rings" s__law_no_rings) (DE:Def K mg "law" s_law)
    (T:ClsD K mg "Ways" C at_Ways) (hb:Blt mg) (hset:mg "set"=none) (hsorted:mg "sorted"=none) (ht:tabIn K "_law_next"=some (c,Pt)) (hmg:mg "law"=some (.ref fa)) :
    ∃ fd:FuncData,(∀ (s:Shared) (u:Value),BindsTo s fd ⟨[u],[]⟩ [("_law_script", u)])∧∀ base:Heap,K.In base→base.Ns mainGlobals mg→CodeHd base c Pt→base.BuiltinsAt mg Pt→mainGlobals≠Pt→FnOk P w K mg base CX0 8 fa fd ["_law_script"] (sp_law Pt K):=by
  obtain ⟨f,fd,hm,F⟩:=DE
  have e:=hmg.symm.trans hm
  cases e
  refine ⟨fd,?_,fun base KX G hd bm ne=>?_⟩
  · obtain ⟨oc,od,kV,doc,pm,an,cdv,ct,osl,rfl,lk,hcd⟩:=F.ex
    exact fun s u=>.of_eq rfl
  · have bet:=own_better (P:=P) (w:=w) (base:=base) D0
    have mo:=own_markof (P:=P) (w:=w) (base:=base) E13 T
    have po:=own_priceof (P:=P) (w:=w) (base:=base) E12 T
    have no:=own_nextof (P:=P) (w:=w) (base:=base) E11 T
    have pr:=own_priced (P:=P) (w:=w) (base:=base) E4 T
    have re:=own_reports E9 hb hsorted T (own_repof E10 T mo po)
    have se:=own_settle E5 hb hsorted T (own_bway E7 hb T (own_may E6 hb T bet)) (own_bmark E8 hb T bet)
    have mx:=own_mixed (P:=P) (w:=w) (base:=base) D3
    have lp:=own_lprice (P:=P) (w:=w) (base:=base) D4
    exact law_fn F hb T (own_winit E1 T) (own_cell D2 hb) (own_raise E2 T) se (own_flines D5 hb mx lp) (own_changes D6 hb mx lp) (own_come D8 hb T (own_heard E3 T)) (own_told D7 hb T pr) (own_rings D13 hb hset T (own_lnext D12 KX G ht hd bm ne) (own_chain D1 T no)) (own_allleast D11 hb T po no (own_lleast D10 hb)) (own_sent D9 hb T mx re)
end
end K15
namespace PySem.W.Fast
def tw16185919976064207056:Nat:=0
def tw12133800842796766650:Nat:=0
def tw12601385815611495605:Nat:=0
def tw17369927232261968570:Nat:=0
def tw7251768507904826206:Nat:=0
def tw15235926249804437996:Nat:=0
def tw15676486627028658683:Nat:=0
def tw12980618055468367874:Nat:=0
def tw12642704189945168185:Nat:=0
def tw12233645325326409260:Nat:=0
def tw14358043827604802610:Nat:=0
def tw14432695685080920268:Nat:=0
def tw15895219856678046526:Nat:=0
def tw16078485560935741541:Nat:=0
def tw472050492814043857:Nat:=0
def tw717108410986176123:Nat:=0
def tw216936196382310960:Nat:=0
def tw5718329056719262227:Nat:=0
def tw2073033418193858228:Nat:=0
def tw18053494741131096597:Nat:=0
def tw7553777900409269276:Nat:=0
def tw11805114398664287120:Nat:=0
def tw4205386353452822258:Nat:=0
def tw7363408985835910970:Nat:=0
def tw10079973535646050661:Nat:=0
def tw8801499079611011675:Nat:=0
def tw2757968276307908286:Nat:=0
def tw13308764509610152468:Nat:=0
def tw8744073423901731600:Nat:=0
def tw13050132314929716729:Nat:=0
def tw16923244420845174371:Nat:=0
def tw10825428427823972888:Nat:=0
def tw13098167850056882827:Nat:=0
def tw15505371084073877634:Nat:=0
def tw9128756462290889437:Nat:=0
def tw347020390342666337:Nat:=0
def tw11160854900161439081:Nat:=0
def tw2452594281702473105:Nat:=0
def tw396506740232146256:Nat:=0
def tw12052922073709376237:Nat:=0
def tw10452785568565749038:Nat:=0
def tw8610626481692675981:Nat:=0
def tw18048947032618862067:Nat:=0
def tw5160159546431980665:Nat:=0
def tw8583577593602674230:Nat:=0
def tw3294981788511424328:Nat:=0
def tw6057628937777312879:Nat:=0
def tw12384002942677490816:Nat:=0
def tw12829180508964729165:Nat:=0
def tw10782852731642046880:Nat:=0
def tw2547620854539804277:Nat:=0
def tw8815358788985580061:Nat:=0
def tw15286287505632053900:Nat:=0
def tw6581265770118387:Nat:=0
def tw7587125244092668622:Nat:=0
def tw15100925981720180665:Nat:=0
def tw8231530869264133244:Nat:=0
def tw10221071610121370196:Nat:=0
def tw15475028975854099149:Nat:=0
def tw548436258755896344:Nat:=0
def tw17072995352604120858:Nat:=0
def tw98505648215704895:Nat:=0
def tw16440749185942112580:Nat:=0
def tw12578172743023952002:Nat:=0
def tw16551433819672306218:Nat:=0
def tw14118915423180204859:Nat:=0
def tw13376298093644953849:Nat:=0
def tw17066247557196186798:Nat:=0
def tw6473852444018353540:Nat:=0
def tw10134957671287847774:Nat:=0
def tw9332348581255012383:Nat:=0
def tw7535392577384028285:Nat:=0
def tw14923651605160499667:Nat:=0
def tw10247325612030108293:Nat:=0
end PySem.W.Fast
open PySem PySem.W PyProof.Rows
set_option maxHeartbeats 0 in
theorem PySem.Challenge.cw_roadnet_k15_whole_least_holds : PySem.Challenge.rw_roadnet_k15_whole_least.Holds := by
  w_on; o_law; k_head; (case hw=>w_witness2)
  k_fill
  refine L2.walk_ofT (l:=PySem.Challenge.rw_roadnet_k15_whole_least) (n:=63) (k:=8) (x:="_law_script") (sp:=K15.sp_law 203) (c:=207) (Pt:=203) rfl (by decide) rfl ⟨rfl,by decide,by decide⟩ (fun w h Y=>⟨km_in_of Y,km_tabs_of Y 203 (by simp)⟩) (fun p=>by kernel_rfl) (fun p=>by kernel_rfl) ?F (fun K H a ns hl hP hS=>⟨a,ns,rfl,hS,hl,.inl hP,fun _=>rfl⟩)
  case F=>
    intro w mg fa h KX G hmg
    have D_better:L2.Def (L2.KOf KX) mg "better" K15.s_better:=by
      dsimp only [L2.KOf]
      refine' L2.def_mk KX G ?a ?l ?c ?k
      (case a=>k_is); (case l=>k_is); (case c=>k_is); (case k=>k_is)
    have D_chain:L2.Def (L2.KOf KX) mg "chain" K15.s_chain:=by
      dsimp only [L2.KOf]
      refine' L2.def_mk KX G ?a ?l ?c ?k
      (case a=>k_is); (case l=>k_is); (case c=>k_is); (case k=>k_is)
    have D__law_cell_at:L2.Def (L2.KOf KX) mg "_law_cell_at" K15.s__law_cell_at:=by
      dsimp only [L2.KOf]
      refine' L2.def_mk KX G ?a ?l ?c ?k
      (case a=>k_is); (case l=>k_is); (case c=>k_is); (case k=>k_is)
    have D__law_mixed:L2.Def (L2.KOf KX) mg "_law_mixed" K15.s__law_mixed:=by
      dsimp only [L2.KOf]
      refine' L2.def_mk KX G ?a ?l ?c ?k
      (case a=>k_is); (case l=>k_is); (case c=>k_is); (case k=>k_is)
    have D__law_price:L2.Def (L2.KOf KX) mg "_law_price" K15.s__law_price:=by
      dsimp only [L2.KOf]
      refine' L2.def_mk KX G ?a ?l ?c ?k
      (case a=>k_is); (case l=>k_is); (case c=>k_is); (case k=>k_is)
    have D__law_first_lines:L2.Def (L2.KOf KX) mg "_law_first_lines" K15.s__law_first_lines:=by
      dsimp only [L2.KOf]
      refine' L2.def_mk KX G ?a ?l ?c ?k
      (case a=>k_is); (case l=>k_is); (case c=>k_is); (case k=>k_is)
    have D__law_changes:L2.Def (L2.KOf KX) mg "_law_changes" K15.s__law_changes:=by
      dsimp only [L2.KOf]
      refine' L2.def_mk KX G ?a ?l ?c ?k
      (case a=>k_is); (case l=>k_is); (case c=>k_is); (case k=>k_is)
    have D__law_told:L2.Def (L2.KOf KX) mg "_law_told" K15.s__law_told:=by
      dsimp only [L2.KOf]
      refine' L2.def_mk KX G ?a ?l ?c ?k
      (case a=>k_is); (case l=>k_is); (case c=>k_is); (case k=>k_is)
    have D__law_come:L2.Def (L2.KOf KX) mg "_law_come" K15.s__law_come:=by
      dsimp only [L2.KOf]
      refine' L2.def_mk KX G ?a ?l ?c ?k
      (case a=>k_is); (case l=>k_is); (case c=>k_is); (case k=>k_is)
    have D__law_sent:L2.Def (L2.KOf KX) mg "_law_sent" K15.s__law_sent:=by
      dsimp only [L2.KOf]
      refine' L2.def_mk KX G ?a ?l ?c ?k
      (case a=>k_is); (case l=>k_is); (case c=>k_is); (case k=>k_is)
    have D__law_least:L2.Def (L2.KOf KX) mg "_law_least" K15.s__law_least:=by
      dsimp only [L2.KOf]
      refine' L2.def_mk KX G ?a ?l ?c ?k
      (case a=>k_is); (case l=>k_is); (case c=>k_is); (case k=>k_is)
    have D__law_all_least:L2.Def (L2.KOf KX) mg "_law_all_least" K15.s__law_all_least:=by
      dsimp only [L2.KOf]
      refine' L2.def_mk KX G ?a ?l ?c ?k
      (case a=>k_is); (case l=>k_is); (case c=>k_is); (case k=>k_is)
    have D__law_next:L2.Def (L2.KOf KX) mg "_law_next" K15.s__law_next:=by
      dsimp only [L2.KOf]
      refine' L2.def_mk KX G ?a ?l ?c ?k
      (case a=>k_is); (case l=>k_is); (case c=>k_is); (case k=>k_is)
    have D__law_no_rings:L2.Def (L2.KOf KX) mg "_law_no_rings" K15.s__law_no_rings:=by
      dsimp only [L2.KOf]
      refine' L2.def_mk KX G ?a ?l ?c ?k
      (case a=>k_is); (case l=>k_is); (case c=>k_is); (case k=>k_is)
    have D_law:L2.Def (L2.KOf KX) mg "law" K15.s_law:=by
      dsimp only [L2.KOf]
      refine' L2.def_mk KX G ?a ?l ?c ?k
      (case a=>k_is); (case l=>k_is); (case c=>k_is); (case k=>k_is)
    have Z_Ways:∃ C,L2.ClsD (L2.KOf KX) mg "Ways" C K15.at_Ways∧L2.DefI (L2.KOf KX) C "Ways.__init__" K15.s_Ways___init__∧L2.DefM (L2.KOf KX) C "raise_own" "Ways.raise_own" K15.s_Ways_raise_own∧L2.DefM (L2.KOf KX) C "heard" "Ways.heard" K15.s_Ways_heard∧L2.DefM (L2.KOf KX) C "priced" "Ways.priced" K15.s_Ways_priced∧L2.DefM (L2.KOf KX) C "settle" "Ways.settle" K15.s_Ways_settle∧L2.DefM (L2.KOf KX) C "may_take" "Ways.may_take" K15.s_Ways_may_take∧L2.DefM (L2.KOf KX) C "best_way" "Ways.best_way" K15.s_Ways_best_way∧L2.DefM (L2.KOf KX) C "better_mark" "Ways.better_mark" K15.s_Ways_better_mark∧L2.DefM (L2.KOf KX) C "reports" "Ways.reports" K15.s_Ways_reports∧L2.DefM (L2.KOf KX) C "report_of" "Ways.report_of" K15.s_Ways_report_of∧L2.DefM (L2.KOf KX) C "next_of" "Ways.next_of" K15.s_Ways_next_of∧L2.DefM (L2.KOf KX) C "price_of" "Ways.price_of" K15.s_Ways_price_of∧L2.DefM (L2.KOf KX) C "mark_of" "Ways.mark_of" K15.s_Ways_mark_of:=by
      dsimp only [L2.KOf]
      refine' K15.mk_Ways KX G ?aC ?pg ?hd ?po ?sa ?n0 ?n1 ?n2 ?n3 ?n4 ?n5 ?mk ?kc ?a0 ?i0 ?l0 ?c0 ?k0 ?a1 ?i1 ?l1 ?c1 ?k1 ?a2 ?i2 ?l2 ?c2 ?k2 ?a3 ?i3 ?l3 ?c3 ?k3 ?a4 ?i4 ?l4 ?c4 ?k4 ?a5 ?i5 ?l5 ?c5 ?k5 ?a6 ?i6 ?l6 ?c6 ?k6 ?a7 ?i7 ?l7 ?c7 ?k7 ?a8 ?i8 ?l8 ?c8 ?k8 ?a9 ?i9 ?l9 ?c9 ?k9 ?a10 ?i10 ?l10 ?c10 ?k10 ?a11 ?i11 ?l11 ?c11 ?k11 ?a12 ?i12 ?l12 ?c12 ?k12
      (case aC=>k_is)
      (case pg=>k_is)
      (case hd=>k_is)
      (case po=>k_is)
      (case sa=>k_is)
      (case n0=>k_is)
      (case n1=>k_is)
      (case n2=>k_is)
      (case n3=>k_is)
      (case n4=>k_is)
      (case n5=>k_is)
      (case mk=>k_is)
      (case kc=>k_is)
      (case a0=>k_is)
      (case i0=>k_is)
      (case l0=>k_is)
      (case c0=>k_is)
      (case k0=>k_is)
      (case a1=>k_is)
      (case i1=>k_is)
      (case l1=>k_is)
      (case c1=>k_is)
      (case k1=>k_is)
      (case a2=>k_is)
      (case i2=>k_is)
      (case l2=>k_is)
      (case c2=>k_is)
      (case k2=>k_is)
      (case a3=>k_is)
      (case i3=>k_is)
      (case l3=>k_is)
      (case c3=>k_is)
      (case k3=>k_is)
      (case a4=>k_is)
      (case i4=>k_is)
      (case l4=>k_is)
      (case c4=>k_is)
      (case k4=>k_is)
      (case a5=>k_is)
      (case i5=>k_is)
      (case l5=>k_is)
      (case c5=>k_is)
      (case k5=>k_is)
      (case a6=>k_is)
      (case i6=>k_is)
      (case l6=>k_is)
      (case c6=>k_is)
      (case k6=>k_is)
      (case a7=>k_is)
      (case i7=>k_is)
      (case l7=>k_is)
      (case c7=>k_is)
      (case k7=>k_is)
      (case a8=>k_is)
      (case i8=>k_is)
      (case l8=>k_is)
      (case c8=>k_is)
      (case k8=>k_is)
      (case a9=>k_is)
      (case i9=>k_is)
      (case l9=>k_is)
      (case c9=>k_is)
      (case k9=>k_is)
      (case a10=>k_is)
      (case i10=>k_is)
      (case l10=>k_is)
      (case c10=>k_is)
      (case k10=>k_is)
      (case a11=>k_is)
      (case i11=>k_is)
      (case l11=>k_is)
      (case c11=>k_is)
      (case k11=>k_is)
      (case a12=>k_is)
      (case i12=>k_is)
      (case l12=>k_is)
      (case c12=>k_is)
      (case k12=>k_is)
    obtain ⟨C_Ways,T_Ways,DI_Ways,DM_Ways_raise_own,DM_Ways_heard,DM_Ways_priced,DM_Ways_settle,DM_Ways_may_take,DM_Ways_best_way,DM_Ways_better_mark,DM_Ways_reports,DM_Ways_report_of,DM_Ways_next_of,DM_Ways_price_of,DM_Ways_mark_of⟩:=Z_Ways
    have hb:L2.Blt mg:=by
      refine' L2.blt_mk (K:=L2.KOf KX) KX G ?b1 ?b2 ?b3 ?b4 ?b5 ?b6 ?b7 ?b8 ?b9 ?b10 ?b11 ?b12 ?b13
      all_goals (dsimp only [L2.KOf]; k_is)
    have hset:mg "set"=none:=by
      have z:PySem.W.nsIn (L2.KOf KX) mainGlobals "set"=some none:=by
        dsimp only [L2.KOf]
        k_is
      exact PySem.W.mg_none_of KX G z
    have hsorted:mg "sorted"=none:=by
      have z:PySem.W.nsIn (L2.KOf KX) mainGlobals "sorted"=some none:=by
        dsimp only [L2.KOf]
        k_is
      exact PySem.W.mg_none_of KX G z
    have ht:PySem.W.tabIn (L2.KOf KX) "_law_next"=some (207,203):=by
      dsimp only [L2.KOf]
      kernel_rfl
    exact K15.last DI_Ways DM_Ways_raise_own DM_Ways_heard DM_Ways_priced DM_Ways_settle DM_Ways_may_take DM_Ways_best_way DM_Ways_better_mark DM_Ways_reports DM_Ways_report_of DM_Ways_next_of DM_Ways_price_of DM_Ways_mark_of D_better D_chain D__law_cell_at D__law_mixed D__law_price D__law_first_lines D__law_changes D__law_told D__law_come D__law_sent D__law_least D__law_all_least D__law_next D__law_no_rings D_law T_Ways hb hset hsorted ht hmg
#print axioms PySem.Challenge.cw_roadnet_k15_whole_least_holds
