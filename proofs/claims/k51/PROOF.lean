import PyProof.Rows.All
import Wide.All
import OpenK.AllK
import Wide.FinOn
import Lean
import PyProof.EqAt
import PyProof.EqKinds
import PyProof.TupleCall
import PySem.Challenge.RW_manyjudges_k51_by_strength_keeps
set_option Elab.async false
set_option linter.all false
set_option maxRecDepth 100000
theorem PySem.W.Fast.tw17762603560470584368:True:=trivial
theorem PySem.W.Fast.tw12906481282607025283:True:=trivial
theorem PySem.W.Fast.tw96513049457870516:True:=trivial
theorem PySem.W.Fast.tw7765300109868148062:True:=trivial
theorem PySem.W.Fast.tw10428945829376804689:True:=trivial
theorem PySem.W.Fast.tw863152839193486334:True:=trivial
theorem PySem.W.Fast.tw17181650119676082704:True:=trivial
theorem PySem.W.Fast.tw14862754554856006102:True:=trivial
theorem PySem.W.Fast.tw13496161453436219513:True:=trivial
theorem PySem.W.Fast.tw17643086776887379680:True:=trivial
theorem PySem.W.Fast.tw3618170770237651111:True:=trivial
theorem PySem.W.Fast.tw13374060595372893681:True:=trivial
theorem PySem.W.Fast.tw471309128873717059:True:=trivial
theorem PySem.W.Fast.tw5661542245154126746:True:=trivial
theorem PySem.W.Fast.tw13329688963522368951:True:=trivial
theorem PySem.W.Fast.tw9264109831861661367:True:=trivial
namespace L2
open PySem PySem.Spec PyProof.Rows
abbrev Key:=Sum Int Str
def nq:Key→Value→Bool
 | .inl k,v=>Value.isInt k v
 | .inr x,v=>Value.isStrOf x v
def Lq (w:World):Key→Int
 | .inl k=>hashInt k
 | .inr x=>hashStr w x
theorem ym:∀ {k:Key}{v:Value},nq k v = true→(∃ i t,k = Sum.inl i∧v = Value.int i t)∨(∃ x t,k = Sum.inr x∧v = Value.str x t)
 | .inl i,v,h=>by
  obtain ⟨t,e⟩:=Value.isInt_shape (k:=i) (v:=v) h
  exact .inl ⟨i,t,rfl,e⟩
 | .inr x,v,h=>by
  obtain ⟨t,e⟩:=Value.isStrOf_shape (x:=x) (v:=v) h
  exact .inr ⟨x,t,rfl,e⟩
theorem Yf (i:Int) (t:Tok):nq (.inl i) (.int i t) = true:=by simp [nq,Value.isInt]
theorem Yg (x:Str) (t:Tok):nq (.inr x) (.str x t) = true:=by simp [nq,Value.isStrOf]
theorem Pi (a b:Int):decide ((Sum.inl a:Key) = Sum.inl b) = (a == b):=by
 by_cases e:a = b
 ·subst e;simp
 ·have h:¬ (Sum.inl a:Key) = Sum.inl b:=fun q=>e (Sum.inl.inj q)
  rw [decide_eq_false h]
  exact (beq_eq_false_iff_ne.mpr e).symm
theorem Pl (a b:Str):decide ((Sum.inr a:Key) = Sum.inr b) = decide (a = b):=by
 by_cases e:a = b
 ·subst e;simp
 ·have h:¬ (Sum.inr a:Key) = Sum.inr b:=fun q=>e (Sum.inr.inj q)
  rw [decide_eq_false h,decide_eq_false e]
theorem Pj (a:Int) (b:Str):decide ((Sum.inl a:Key) = Sum.inr b) = false:=decide_eq_false (fun q=>nomatch q)
theorem Pk (a:Str) (b:Int):decide ((Sum.inr a:Key) = Sum.inl b) = false:=decide_eq_false (fun q=>nomatch q)
def x6 (prog:Program) (w:World):PySem.KeyKind prog w Key where
 is:=nq
 hash:=Lq w
 inj:=fun v a b ha hb=>by
  rcases ym ha with ⟨i,t,rfl,rfl⟩ | ⟨x,t,rfl,rfl⟩
  ·rcases ym hb with ⟨j,u,rfl,e⟩ | ⟨y,u,rfl,e⟩
   ·injection e with e1 _;rw [e1]
   ·exact nomatch e
  ·rcases ym hb with ⟨j,u,rfl,e⟩ | ⟨y,u,rfl,e⟩
   ·exact nomatch e
   ·injection e with e1 _;rw [e1]
 byValue:=fun k v h=>by
  rcases ym h with ⟨i,t,rfl,rfl⟩ | ⟨x,t,rfl,rfl⟩ <;> rfl
 pyHash:=fun hv h=>by
  rcases ym hv with ⟨i,t,rfl,rfl⟩ | ⟨x,t,rfl,rfl⟩
  ·exact wpAny_pyHash_int h
  ·exact wpAny_pyHash_str h
 eqBool:=fun hu hv h=>by
  rcases ym hu with ⟨i,t,rfl,rfl⟩ | ⟨x,t,rfl,rfl⟩
  ·rcases ym hv with ⟨j,u,rfl,rfl⟩ | ⟨y,u,rfl,rfl⟩
   ·rw [Pi] at h;exact wpAny_eqBool_int h
   ·rw [Pj] at h;exact SeqAt.EqAt.int_str i t y u _ _ _ _ h
  ·rcases ym hv with ⟨j,u,rfl,rfl⟩ | ⟨y,u,rfl,rfl⟩
   ·rw [Pk] at h;exact SeqAt.EqAt.str_int x t j u _ _ _ _ h
   ·rw [Pl] at h;exact wpAny_eqBool_str h
 «strs»:=fun k x t v h=>by
  rcases ym h with ⟨i,u,rfl,e⟩ | ⟨y,u,rfl,e⟩
  ·exact nomatch e
  ·injection e with e1 _
   subst e1
   cases v <;> rfl
theorem gn (prog:Program) (w:World) (i:Int) (t:Tok):(x6 prog w).is (.inl i) (.int i t) = true:=Yf i t
theorem gp (prog:Program) (w:World) (x:Str) (t:Tok):(x6 prog w).is (.inr x) (.str x t) = true:=Yg x t
end L2
namespace L2
open PySem PySem.Spec PyProof.Rows
inductive V where
 | non | bl (b:Bool) | int (i:Int) | str (x:Str) | byt (b:Array UInt8) | flt (b:UInt64) | ref (a:Addr) | ty (n:String)
 deriving DecidableEq
def RelV:V→Value→Prop
 | .non,u=>u = Value.none
 | .bl b,u=>u = Value.bool b
 | .int i,u=>∃ t,u = Value.int i t
 | .str x,u=>∃ t,u = Value.str x t
 | .byt b,u=>∃ t,u = Value.bytes b t
 | .flt b,u=>∃ t,u = Value.float b t
 | .ref a,u=>u = Value.ref a
 | .ty n,u=>u = Value.type n
abbrev Vals:List V→List Value→Prop:=Paired RelV
theorem Vals.length {xs:List V}{us:List Value} (r:Vals xs us):xs.length = us.length:=Paired.length r
theorem Vals.get:∀ {xs:List V}{us:List Value}{i:Nat}{x:V},Vals xs us→xs[i]? = some x→∃ u,us[i]? = some u∧RelV x u
 | _,_,_,_,.nil,e=>by simp at e
 | _,_,0,_,.cons r _,e=>by simp at e;subst e;exact ⟨_,rfl,r⟩
 | _,_,i + 1,x,.cons _ t,e=>by
  obtain ⟨u,h1,h2⟩:=Vals.get (i:=i) (x:=x) t (by simpa using e)
  exact ⟨u,by simpa using h1,h2⟩
theorem Vals.set {x:V}{u:Value} (r:RelV x u):∀ {xs:List V}{us:List Value} (i:Nat),Vals xs us→Vals (xs.set i x) (us.set i u)
 | _,_,_,.nil=>.nil
 | _,_,0,.cons _ t=>.cons r t
 | _,_,i + 1,.cons q t=>.cons q (Vals.set r i t)
theorem Vals.append:∀ {xs ys:List V}{us ws:List Value},Vals xs us→Vals ys ws→Vals (xs ++ ys) (us ++ ws)
 | _,_,_,_,.nil,s=>s
 | _,_,_,_,.cons r t,s=>.cons r (Vals.append t s)
theorem Vals.take:∀ {xs:List V}{us:List Value} (n:Nat),Vals xs us→Vals (xs.take n) (us.take n)
 | _,_,0,_=>.nil
 | _,_,_ + 1,.nil=>.nil
 | _,_,n + 1,.cons r t=>.cons r (Vals.take n t)
theorem Vals.drop:∀ {xs:List V}{us:List Value} (n:Nat),Vals xs us→Vals (xs.drop n) (us.drop n)
 | _,_,0,r=>r
 | _,_,_ + 1,.nil=>.nil
 | _,_,n + 1,.cons _ t=>Vals.drop n t
def RelO:Option V→Option Value→Prop
 | some v,some u=>RelV v u
 | none,none=>True
 | _,_=>False
def KV {κ:Type}:List (κ×V)→List (κ×Value)→Prop:=Paired fun (p:κ×V) (q:κ×Value)=>p.1 = q.1∧RelV p.2 q.2
def kV:Key→V
 | .inl i=>.int i
 | .inr x=>.str x
inductive HO where
 | lst (xs:List V)
 | tup (xs:List V)
 | dK (kvs:List (Key×V)) | dT (kvs:List (List Key×V))
 | set (S:Int→Bool) (n:Nat)
 | ins (C dx:Addr) (fs:List (Str×V))
 | own (x:Addr)
 | xd (fs:List (Str×V))
 | met (f x:Addr)
 | rng (lo hi:Int)
 | frz (o:Obj) (u:HO)
 | tbl (ps:Array Value)
 | ext (φ:Heap→Prop)
abbrev Hp:=Addr→Option HO
def upd (H:Hp) (a:Addr) (o:HO):Hp:=fun b=>if b = a then some o else H b
theorem zw {H:Hp}{a:Addr}{o:HO}:upd H a o a = some o:=by unfold upd;rw [if_pos rfl]
theorem zk {H:Hp}{a b:Addr}{o:HO} (h:b≠a):upd H a o b = H b:=by unfold upd;rw [if_neg h]
theorem Nn {H:Hp}{a b:Addr}{o u:HO} (h:H a = some o) (h':H b = some u) (d:o≠u):a≠b:=by
 intro e;subst e;rw [h] at h';exact d (Option.some.inj h')
theorem xf {H:Hp}{a b:Addr}{o:HO} (h:H a = some o) (h':H b = none):a≠b:=by
 intro e;subst e;rw [h] at h';cases h'
section
variable (P:Program) (w:World)
def ObjOk (H:Hp) (h:Heap) (a:Addr):HO→Prop
 | .lst xs=>xs.length≤sizeLine∧∃ (its:List Value) (n:Nat),Vals xs its∧h.get? a = some { cls:=.type "list",data:=.seq its.toArray n }
 | .tup xs=>xs.length≤sizeLine∧∃ its:List Value,Vals xs its∧IsTup h a its.toArray
 | .dK kvs=>kvs.length≤sizeLine∧(a == sysModules) = false∧∃ vs,KV kvs vs∧h.DictOf (x6 P w) a vs
 | .dT kvs=>kvs.length≤sizeLine∧(a == sysModules) = false∧∃ xs:List (List Key×Addr×Value),
   Paired (fun (p:List Key×V) (q:List Key×Addr×Value)=>p.1 = q.1∧H q.2.1 = some (.tup (p.1.map kV))∧RelV p.2 q.2.2) kvs xs ∧
   ∃ o es ep,h.get? a = some o∧o.ExactDict∧o.data = .dict es ep∧es.toList = xs.map (entryOfKey (tupleKind (x6 P w)))∧(xs.map (·.1)).Nodup
 | .set S n=>h.SetOf (intKind P w) a S n
 | .ins C dx fs=>H dx = some (.own a)∧fs.length≤1000∧dx≠a∧h.get? a = some (PySem.W.instObj C dx) ∧
   ∃ mA,h.Ns1 dx mA∧(∀ f,RelO (fs.lookup f) (mA f))∧PySem.Within mA (fs.map (·.1))
 | .own _=>∃ o,h.get? a = some o
 | .xd fs=>∃ mA,h.Ns1 a mA∧∀ f,RelO (fs.lookup f) (mA f)
 | .rng lo hi=>∃ t u v,h.get? a = some { cls:=.type "range",data:=.fields #[.int lo t,.int hi u,.int 1 v] }
 | .frz o u=>h.get? a = some o∧ObjOk H h a u
 | .tbl ps=>h.get? a = some { cls:=.none,data:=.fields ps }
 | .met f x=>h.get? a = some (PySem.W.methodObj (.ref f) (.ref x))
 | .ext φ=>φ h∧(∃ o,h.get? a = some o)∧∀ h1 h2:Heap,φ h1→(∀ o,h1.get? a = some o→h2.get? a = some o)→φ h2
def HOk (H:Hp) (h:Heap):Prop:=∀ a o,H a = some o→ObjOk P w H h a o
end
section
variable {P:Program}{w:World}{H H':Hp}{h h':Heap}{a:Addr}{o:HO}
theorem ObjOk.lt (x:ObjOk P w H h a o):a < h.objs.size:=by
 cases o with
 | lst xs=>obtain ⟨_,_,_,_,e⟩:=x;exact Heap.lt_size e
 | tup xs=>obtain ⟨_,_,_,p⟩:=x;exact p.lt
 | dK kvs=>obtain ⟨_,_,_,_,o,_,_,e,_⟩:=x;exact Heap.lt_size e
 | dT kvs=>obtain ⟨_,_,_,_,o,_,_,e,_⟩:=x;exact Heap.lt_size e
 | set S n=>obtain ⟨o,_,_,_,e,_⟩:=x;exact Heap.lt_size e
 | ins C dx fs=>obtain ⟨_,_,_,e,_⟩:=x;exact Heap.lt_size e
 | own y=>obtain ⟨_,e⟩:=x;exact Heap.lt_size e
 | xd fs=>obtain ⟨_,⟨_,_,_,e,_⟩,_⟩:=x;exact Heap.lt_size e
 | rng lo hi=>obtain ⟨_,_,_,e⟩:=x;exact Heap.lt_size e
 | frz ob u=>obtain ⟨e,_⟩:=x;exact Heap.lt_size e
 | tbl ps=>exact Heap.lt_size (show h.get? a = some _ from x)
 | met f y=>exact Heap.lt_size (show h.get? a = some _ from x)
 | ext φ=>obtain ⟨_,⟨_,e⟩,_⟩:=x;exact Heap.lt_size e
theorem Paired.mapP {α β:Type}{F G:α→β→Prop}:∀ {l₁:List α}{l₂:List β},Paired F l₁ l₂→(∀ a b,F a b→G a b)→Paired G l₁ l₂
 | _,_,.nil,_=>.nil
 | _,_,.cons r t,f=>.cons (f _ _ r) (Paired.mapP t f)
theorem ObjOk.stay (x:ObjOk P w H h a o) (k:∀ b u,(b = a∨H b = some (.own a))→h.get? b = some u→h'.get? b = some u)
  (ho:∀ b,H b = some (.own a)→H' b = some (.own a)) (ht:∀ b xs,H b = some (.tup xs)→H' b = some (.tup xs)):ObjOk P w H' h' a o:=by
 induction o with
 | lst xs=>obtain ⟨z,its,n,r,e⟩:=x;exact ⟨z,its,n,r,k _ _ (.inl rfl) e⟩
 | tup xs=>obtain ⟨z,its,r,ob,e,c⟩:=x;exact ⟨z,its,r,ob,k _ _ (.inl rfl) e,c⟩
 | dK kvs=>obtain ⟨z,y,vs,r,ob,es,ep,e,c⟩:=x;exact ⟨z,y,vs,r,ob,es,ep,k _ _ (.inl rfl) e,c⟩
 | dT kvs =>
  obtain ⟨z,y,xs,r,ob,es,ep,e,c⟩:=x
  exact ⟨z,y,xs,Paired.mapP r fun p q z=>⟨z.1,ht _ _ z.2.1,z.2.2⟩,ob,es,ep,k _ _ (.inl rfl) e,c⟩
 | set S n=>obtain ⟨ob,es,ep,t,e,c⟩:=x;exact ⟨ob,es,ep,t,k _ _ (.inl rfl) e,c⟩
 | ins C dx fs =>
  obtain ⟨d,z,ne,e,mA,⟨od,es,ep,e2,c⟩,r⟩:=x
  exact ⟨ho _ d,z,ne,k _ _ (.inl rfl) e,mA,⟨od,es,ep,k _ _ (.inr d) e2,c⟩,r⟩
 | own y=>obtain ⟨ob,e⟩:=x;exact ⟨ob,k _ _ (.inl rfl) e⟩
 | xd fs=>obtain ⟨mA,⟨od,es,ep,e,c⟩,r⟩:=x;exact ⟨mA,⟨od,es,ep,k _ _ (.inl rfl) e,c⟩,r⟩
 | rng lo hi=>obtain ⟨t,u,v,e⟩:=x;exact ⟨t,u,v,k _ _ (.inl rfl) e⟩
 | frz ob u ih=>obtain ⟨e,q⟩:=x;exact ⟨k _ _ (.inl rfl) e,ih q⟩
 | tbl ps =>
  have e:h.get? a = some { cls:=.none,data:=.fields ps }:=x
  show h'.get? a = some { cls:=.none,data:=.fields ps }
  exact k a _ (.inl rfl) e
 | met f y =>
  have e:h.get? a = some (PySem.W.methodObj (.ref f) (.ref y)):=x
  show h'.get? a = some (PySem.W.methodObj (.ref f) (.ref y))
  exact k a _ (.inl rfl) e
 | ext φ=>obtain ⟨p,⟨o,e⟩,st⟩:=x;exact ⟨st _ _ p fun o q=>k _ _ (.inl rfl) q,⟨o,k _ _ (.inl rfl) e⟩,st⟩
theorem HOk.lt (x:HOk P w H h) (e:H a = some o):a < h.objs.size:=(x a o e).lt
theorem HOk.fresh (x:HOk P w H h) (e:h.objs.size≤a):H a = none:=by
 cases q:H a with
 | none=>rfl
 | some u=>exact absurd (Nat.lt_of_lt_of_le (x.lt q) e) (Nat.lt_irrefl _)
theorem HOk.kept (x:HOk P w H h) (k:∀ b u,h.get? b = some u→h'.get? b = some u):HOk P w H h':=fun a o e =>
 (x a o e).stay (fun b u _ q=>k b u q) (fun _ q=>q) fun _ _ q=>q
theorem HOk.laid (x:HOk P w H h) (k:∀ b u,h.get? b = some u→h'.get? b = some u) (hp:h.objs.size≤a) (new:ObjOk P w (upd H a o) h' a o):HOk P w (upd H a o) h':=fun b u e=>by
 have hn:=x.fresh hp
 by_cases hb:b = a
 ·subst hb;rw [zw] at e;cases e;exact new
 ·rw [zk hb] at e
  exact (x b u e).stay (fun c v _ q=>k c v q) (fun c q=>by rw [zk (xf q hn)];exact q) fun c xs q=>by rw [zk (xf q hn)];exact q
end
def Rd (H:Hp) (a:Addr) (u:HO):Prop:=H a = some u∨∃ o,H a = some (.frz o u)
theorem Rd.ok {P:Program}{w:World}{H:Hp}{h:Heap}{a:Addr}{u:HO} (r:Rd H a u) (x:HOk P w H h):ObjOk P w H h a u:=by
 rcases r with r | ⟨o,r⟩
 ·exact x a u r
 ·obtain ⟨_,q⟩:=x a _ r
  exact q
def Mut:Option HO→Prop
 | some (.lst _)=>True
 | some (.dK _)=>True
 | some (.dT _)=>True
 | some (.set _ _)=>True
 | some (.ins _ _ _)=>True
 | some (.ext _)=>True
 | _=>False
section
variable {P:Program}{w:World}{H:Hp}{h h':Heap}{x e:Addr}{o':HO}
theorem HOk.write (ok:HOk P w H h) (mu:Mut (H x)) (he:e = x∨H e = some (.own x)) (k:∀ b u,b≠e→h.get? b = some u→h'.get? b = some u) (heo:∃ u,h'.get? e = some u)
  (new:ObjOk P w (upd H x o') h' x o'):HOk P w (upd H x o') h':=fun b u q=>by
 have nown:∀ c y,H c = some (.own y)→c≠x:=fun c y r z=>by subst z;rw [r] at mu;exact mu
 have ntup:∀ c xs,H c = some (.tup xs)→c≠x:=fun c xs r z=>by subst z;rw [r] at mu;exact mu
 by_cases hb:b = x
 ·subst hb;rw [zw] at q;cases q;exact new
 ·rw [zk hb] at q
  by_cases hbe:b = e
  ·have q':H b = some (.own x):=by
    rcases he with z | z
    ·exact absurd (hbe.trans z) hb
    ·rw [hbe];exact z
   rw [q] at q';cases q'
   obtain ⟨v,hv⟩:=heo
   exact ⟨v,by rw [hbe];exact hv⟩
  ·refine (ok b u q).stay (fun c v hc r=>k c v ?_ r) (fun c r=>by rw [zk (nown c b r)];exact r) fun c xs r=>by rw [zk (ntup c xs r)];exact r
   rcases hc with rfl | hc
   ·exact hbe
   ·rintro rfl
    rcases he with z | z
    ·exact nown c b hc z
    ·rw [hc] at z;cases z;exact hb rfl
end
structure Un (fs ex:List Addr) (H H':Hp) (h h':Heap):Prop where
 keep:∀ b o,h.get? b = some o→H b = none→b ∉ fs→b ∉ ex→h'.get? b = some o
 slot:∀ b o,h.get? b = some o→H b = none→b∈fs→b ∉ ex→∃ sl,h'.get? b = some { o with slots:=sl }
 free:∀ b o,h.get? b = some o→H b = none→b ∉ ex→H' b = none
 there:∀ b o,h.get? b = some o→b ∉ ex→∃ o',h'.get? b = some o'
 tups:∀ b xs,H b = some (.tup xs)→H' b = some (.tup xs)
 frzs:∀ b o u,H b = some (.frz o u)→H' b = some (.frz o u)
 tbls:∀ b ps,H b = some (.tbl ps)→∃ more,H' b = some (.tbl (ps ++ more))
section
variable {fs fs' ex ex':List Addr}{H H1 H2:Hp}{h h1 h2 h':Heap}{a x e:Addr}{o:HO}
theorem Un.any (u:Un fs ex H H1 h h1) {b:Addr}{ob:Obj} (q:h.get? b = some ob) (n:H b = none) (hx:b ∉ ex):∃ sl,h1.get? b = some { ob with slots:=sl }:=by
 by_cases hb:b∈fs
 ·exact u.slot b ob q n hb hx
 ·exact ⟨ob.slots,u.keep b ob q n hb hx⟩
theorem Un.trans (a:Un fs ex H H1 h h1) (b:Un fs ex H1 H2 h1 h2):Un fs ex H H2 h h2 where
 keep:=fun c ob q n hc hx=>b.keep c ob (a.keep c ob q n hc hx) (a.free c ob q n hx) hc hx
 slot:=fun c ob q n hc hx=>by
  obtain ⟨sl,e1⟩:=a.slot c ob q n hc hx
  obtain ⟨sl',e2⟩:=b.slot c _ e1 (a.free c ob q n hx) hc hx
  exact ⟨sl',e2⟩
 free:=fun c ob q n hx=>by
  obtain ⟨o',e1⟩:=a.there c ob q hx
  exact b.free c o' e1 (a.free c ob q n hx) hx
 there:=fun c ob q hx=>by
  obtain ⟨o',e1⟩:=a.there c ob q hx
  exact b.there c o' e1 hx
 tups:=fun c xs q=>b.tups c xs (a.tups c xs q)
 frzs:=fun c ob xs q=>b.frzs c ob xs (a.frzs c ob xs q)
 tbls:=fun c ps q=>by
  obtain ⟨m1,e1⟩:=a.tbls c ps q
  obtain ⟨m2,e2⟩:=b.tbls c _ e1
  exact ⟨m1 ++ m2,by rw [e2,Array.append_assoc]⟩
theorem Un.kept (k:∀ b u,h.get? b = some u→h'.get? b = some u):Un fs ex H H h h' :=
 ⟨fun b ob q _ _ _=>k b ob q,fun b ob q _ _ _=>⟨ob.slots,k b ob q⟩,fun _ _ _ n _=>n,fun b ob q _=>⟨ob,k b ob q⟩,fun _ _ q=>q,fun _ _ _ q=>q,fun _ ps q=>⟨#[],by rw [q];simp⟩⟩
theorem Un.refl:Un fs ex H H h h:=Un.kept fun _ _ q=>q
theorem Un.laid (k:∀ b u,h.get? b = some u→h'.get? b = some u) (hp:h.objs.size≤a) (hn:H a = none):Un fs ex H (upd H a o) h h' where
 keep:=fun b u q _ _ _=>k b u q
 slot:=fun b u q _ _ _=>⟨u.slots,k b u q⟩
 free:=fun b u q n _=>by rw [zk (Nat.ne_of_lt (Nat.lt_of_lt_of_le (Heap.lt_size q) hp))];exact n
 there:=fun b u q _=>⟨u,k b u q⟩
 tups:=fun b xs q=>by rw [zk (xf q hn)];exact q
 frzs:=fun b u xs q=>by rw [zk (xf q hn)];exact q
 tbls:=fun b ps q=>⟨#[],by rw [zk (xf q hn),q];simp⟩
theorem Un.write (mu:Mut (H x)) (he:e = x∨H e = some (.own x)) (k:∀ b u,b≠e→h.get? b = some u→h'.get? b = some u) (heo:∃ u,h'.get? e = some u):Un fs ex H (upd H x o) h h':=by
 have hx:∀ b,H b = none→b≠x:=fun b n z=>by subst z;rw [n] at mu;exact mu
 have hb:∀ b,H b = none→b≠e:=fun b n z=>by
  subst z
  rcases he with r | r
  ·exact hx b n r
  ·rw [n] at r;cases r
 have hm:∀ b u,H b = some u→¬ Mut (some u)→b≠x:=fun b u q nm z=>by subst z;rw [q] at mu;exact nm mu
 refine ⟨fun b u q n _ _=>k b u (hb b n) q,fun b u q n _ _=>⟨u.slots,k b u (hb b n) q⟩,fun b u q n _=>by rw [zk (hx b n)];exact n,fun b u q _=>?_,
  fun b xs q=>by rw [zk (hm b _ q fun z=>z)];exact q,fun b u xs q=>by rw [zk (hm b _ q fun z=>z)];exact q,fun b ps q=>⟨#[],by rw [zk (hm b _ q fun z=>z),q];simp⟩⟩
 by_cases hbe:b = e
 ·subst hbe;exact heo
 ·exact ⟨u,k b u hbe q⟩
end
def trk (h:Heap) (H:Hp):List Addr:=(List.range h.objs.size).filter fun a=>(H a).isSome
def nh (h:Heap) (H:Hp):Heap:=PySem.W.hideAll h (trk h H)
theorem X8 (h:Heap) (H:Hp):(nh h H).objs.size = h.objs.size:=PySem.W.hideAll_size _ _
theorem U7 {h:Heap}{H:Hp}{b:Addr}{o:Obj} (e:h.get? b = some o) (n:H b = none):(nh h H).get? b = some o :=
 PySem.W.hideAll_get _ e fun hm=>by
  have q:(H b).isSome = true:=(List.mem_filter.mp hm).2
  rw [n] at q;simp at q
theorem aa {h:Heap}{H:Hp}{b:Addr}{o:Obj} (e:(nh h H).get? b = some o):h.get? b = some o∧H b = none:=by
 have e':h.get? b = some o:=PySem.W.of_hideAll (trk h H) e
 refine ⟨e',?_⟩
 cases q:H b with
 | none=>rfl
 | some x =>
  have hm:b∈trk h H:=List.mem_filter.mpr ⟨List.mem_range.mpr (Heap.lt_size e'),by simp [q]⟩
  have z:(nh h H).get? b = none:=PySem.W.hideAll_none (trk h H) hm
  rw [z] at e;cases e
def Rz (g h:Heap) (L:Addr):List (Addr×Obj):=(List.range h.objs.size).filterMap fun a=>if a = L∨(g.get? a).isSome = true then none else (h.get? a).map fun o=>(a,o)
def rest (g h:Heap) (L d:Addr):List (Addr×Obj):=(Rz g h L).filter fun p=>decide (p.1≠d)
end L2
namespace L2
open PySem PySem.Spec PyProof.Rows
structure Mod (K:PySem.W.Frag) (mg:Str→Option Value) (base:Heap):Prop where
 kin:K.In base
 glob:base.Ns mainGlobals mg
 blt:∃ mb,base.Ns builtinsNs mb∧∀ x:Str,x≠"__name__"→mb x = bootBuiltins x
 nolimit:base.NoLimit
structure Cx where
 prog:Program
 w:World
 K:PySem.W.Frag
 mg:Str→Option Value
 base:Heap
 A:Around
 N:List Str
 s₀:Shared
 H₀:Hp
 env:Env
 outer:List Env
 stack:List Env
 ex:List Addr
 fn:Str→Bool
 calm:Bool
 pn:List (Addr×Obj)
 xe:Value→Shared→Prop
def frs (l:List Env):List Addr:=l.filterMap (·.frame)
abbrev Cx.fs (X:Cx):List Addr:=frs X.outer
def Vis (sc:Scope) (x:Str):Prop:=sc.names.lookup x = some .local∨sc.names.lookup x = some .cell∨sc.names.lookup x = some .free
def Loc (sc:Scope) (x:Str):Prop:=sc.names.lookup x = some .local∨sc.names.lookup x = some .cell
def Li (env:Env) (h:Heap) (m:Str→Option Value) (x:Str) (u:Value):Prop :=
 (env.kindOf x = some .local∧m x = some u)∨((env.kindOf x = some .cell∨env.kindOf x = some .free)∧∃ c,env.cells.lookup x = some c∧h.IsCell c (some u))
structure Cx.Ok (X:Cx):Prop where
 mod:Mod X.K X.mg X.base
 kind:X.env.scope.kind = .function
 glob:X.env.globals = mainGlobals
 blt:X.env.builtins = builtinsNs
 above:X.s₀.heap.objs.size≤X.env.locals
 inj:∀ x y c,X.env.cells.lookup x = some c→X.env.cells.lookup y = some c→x = y
 has:∀ x,(X.env.kindOf x = some .cell∨X.env.kindOf x = some .free)→∃ c,X.env.cells.lookup x = some c
 cab:∀ x c,X.fn x = true→X.env.cells.lookup x = some c→X.s₀.heap.objs.size≤c
 hd:X.calm = true→X.A.handled = none
 frames:X.A.frames = some X.stack
 stk:X.stack = X.outer∨(X.stack = X.env :: X.outer∧X.env.frame = some X.env.locals)
 exf:∀ b∈X.ex,b≠X.env.locals∧∀ x c,X.env.cells.lookup x = some c→c≠b
 bs:∀ b o,X.base.get? b = some o→X.s₀.heap.get? b = some o∧X.H₀ b = none
 bsz:X.base.objs.size≤X.s₀.heap.objs.size
 noex:∀ b o,X.base.get? b = some o→b ∉ X.ex
 exfs:∀ b∈X.ex,b ∉ X.fs
 funs:X.s₀.heap.FunFrames X.base X.outer
 frf:∀ b∈X.fs,X.H₀ b = none
structure Inv (X:Cx) (pins:List (Addr×Obj)) (σ:List (Option V)) (H:Hp) (s:Shared):Prop where
 ok:X.Ok
 os:s.os = X.s₀.os
 bare:AllBare s.gens
 base:Un X.fs X.ex X.H₀ H X.s₀.heap s.heap
 loc:∃ m,s.heap.Ns X.env.locals m∧∀ (i:Nat) (x:Str) (v:V),X.N[i]? = some x→σ[i]? = some (some v)→Vis X.env.scope x→∃ u,RelV v u∧Li X.env s.heap m x u
 cell:∀ x c,X.env.cells.lookup x = some c→∃ v,s.heap.IsCell c v
 free:H X.env.locals = none
 freeC:∀ x c,X.env.cells.lookup x = some c→H c = none
 pin:∀ p∈X.pn ++ pins,s.heap.get? p.1 = some p.2∧H p.1 = none∧p.1≠X.env.locals∧p.1 ∉ X.fs∧∀ v,p.2.data≠.cell v
 hok:HOk X.prog X.w H s.heap
 len:σ.length = X.N.length
section
variable {X:Cx}{pins:List (Addr×Obj)}{σ:List (Option V)}{H H':Hp}{s:Shared}{h':Heap}
theorem Cx.Ok.nofr (ok:X.Ok) {b:Addr}{o:Obj} (e:X.base.get? b = some o):b ∉ X.fs:=fun hb=>by
 have:=(ok.funs.mem hb).1
 rw [e] at this;cases this
theorem Inv.bs (I:Inv X pins σ H s):∀ b o,X.base.get? b = some o→s.heap.get? b = some o∧H b = none:=fun b o e =>
 ⟨I.base.keep b o (I.ok.bs b o e).1 (I.ok.bs b o e).2 (I.ok.nofr e) (I.ok.noex b o e),I.base.free b o (I.ok.bs b o e).1 (I.ok.bs b o e).2 (I.ok.noex b o e)⟩
theorem Inv.bk (I:Inv X pins σ H s):∀ b o,X.base.get? b = some o→s.heap.get? b = some o:=fun b o e=>(I.bs b o e).1
theorem Inv.mod (I:Inv X pins σ H s):Mod X.K X.mg X.base:=I.ok.mod
theorem Inv.kIn (I:Inv X pins σ H s):X.K.In s.heap:=I.ok.mod.kin.keeps I.bk
theorem Inv.nolimit (I:Inv X pins σ H s):s.heap.NoLimit:=I.ok.mod.nolimit.keeps I.bk
theorem Inv.lt (I:Inv X pins σ H s):X.env.locals < s.heap.objs.size:=let ⟨_,hn,_⟩:=I.loc;hn.lt
theorem Inv.sz (I:Inv X pins σ H s):X.s₀.heap.objs.size≤s.heap.objs.size:=Nat.le_trans I.ok.above (Nat.le_of_lt I.lt)
theorem Inv.nofs (I:Inv X pins σ H s) {a:Addr} (h:s.heap.objs.size≤a):a ∉ X.fs:=fun hb=>by
 obtain ⟨_,o,ho,_⟩:=I.ok.funs.mem hb
 exact absurd (Nat.lt_of_lt_of_le (Heap.lt_size ho) (Nat.le_trans I.sz h)) (Nat.lt_irrefl _)
theorem Inv.cne (I:Inv X pins σ H s):∀ x c,X.env.cells.lookup x = some c→c≠X.env.locals:=fun x c e z=>by
 obtain ⟨v,o,ho,hd⟩:=I.cell x c e
 obtain ⟨m,⟨o',es,ep,ho',hd',_⟩,_⟩:=I.loc
 rw [z,ho'] at ho;cases ho;rw [hd'] at hd;cases hd
theorem Inv.funs (I:Inv X pins σ H s):s.heap.FunFrames X.base X.outer:=by
 have all:∀ (l:List Env),(∀ b∈frs l,b∈X.fs)→X.s₀.heap.FunFrames X.base l→s.heap.FunFrames X.base l:=by
  intro l
  induction l with
  | nil=>intro _ _;trivial
  | cons env r ih =>
   intro hs hl
   obtain ⟨hk,⟨L,o,hf,hn,ho,hd⟩,hr⟩:=hl
   have hL:L∈X.fs:=hs L (by unfold frs;rw [List.filterMap_cons,hf];exact List.mem_cons_self)
   obtain ⟨sl,e⟩:=I.base.slot L o ho (I.ok.frf L hL) hL fun z=>I.ok.exfs L z hL
   exact ⟨hk,⟨L,_,hf,hn,e,hd⟩,ih (fun b hb=>hs b (by unfold frs;rw [List.filterMap_cons,hf];exact List.mem_cons_of_mem _ hb)) hr⟩
 exact all X.outer (fun _ hb=>hb) I.ok.funs
theorem Inv.stack (I:Inv X pins σ H s):s.heap.FunFrames X.base X.stack:=by
 rcases I.ok.stk with e | ⟨e,hf⟩
 ·rw [e];exact I.funs
 ·rw [e]
  obtain ⟨m,hn,_⟩:=I.loc
  refine .cons (by rw [I.ok.kind];decide) hf hn ?_ I.funs
  exact Heap.get?_none_of_le (Nat.le_trans I.ok.bsz I.ok.above)
theorem Inv.stkSub (I:Inv X pins σ H s):∀ b∈frs X.stack,b∈X.env.locals :: X.fs:=fun b hb=>by
 rcases I.ok.stk with e | ⟨e,hf⟩
 ·rw [e] at hb;exact List.mem_cons_of_mem _ hb
 ·rw [e] at hb
  unfold frs at hb
  rw [List.filterMap_cons,hf] at hb
  exact hb
theorem Inv.stkFree (I:Inv X pins σ H s):∀ b∈frs X.stack,H b = none:=fun b hb=>by
 rcases List.mem_cons.mp (I.stkSub b hb) with e | hb
 ·rw [e];exact I.free
 ·obtain ⟨_,o,ho,_⟩:=I.ok.funs.mem hb
  exact I.base.free b o ho (I.ok.frf b hb) fun z=>I.ok.exfs b z hb
theorem Inv.step {g':Array GenState}{t':Nat}{d':Drawn}{ch:List Addr} (I:Inv X pins σ H s)
  (hch:∀ b∈ch,(b∈X.ex∨X.s₀.heap.objs.size≤b)∧b≠X.env.locals∧(∀ x c,X.env.cells.lookup x = some c→c≠b)∧∀ p∈X.pn ++ pins,p.1≠b)
  (keep:∀ b o,b≠X.env.locals→b ∉ X.fs→b ∉ ch→s.heap.get? b = some o→H b = none→h'.get? b = some o)
  (slot:∀ b o,b≠X.env.locals→b∈X.fs→b ∉ ch→s.heap.get? b = some o→H b = none→∃ sl,h'.get? b = some { o with slots:=sl }) (free:∀ b o,b ∉ ch→s.heap.get? b = some o→H b = none→H' b = none)
  (there:∀ b o,b ∉ ch→s.heap.get? b = some o→∃ o',h'.get? b = some o')
  (tups:∀ b xs,H b = some (.tup xs)→H' b = some (.tup xs)) (frzs:∀ b o u,H b = some (.frz o u)→H' b = some (.frz o u)) (tbls:∀ b ps,H b = some (.tbl ps)→∃ more,H' b = some (.tbl (ps ++ more)))
  (ns:∀ m,s.heap.Ns X.env.locals m→h'.Ns X.env.locals m) (hok:HOk X.prog X.w H' h') (hg:AllBare g') :
  Inv X pins σ H' { s with heap:=h',gens:=g',drawn:=d',toks:=t' }:=by
 have neL:∀ b o,X.s₀.heap.get? b = some o→b≠X.env.locals:=fun b o e=>Nat.ne_of_lt (Nat.lt_of_lt_of_le (Heap.lt_size e) I.ok.above)
 have neC:∀ b o,X.s₀.heap.get? b = some o→b ∉ X.ex→b ∉ ch:=fun b o e hx hb=>by
  rcases (hch b hb).1 with z | z
  ·exact hx z
  ·exact absurd (Nat.lt_of_lt_of_le (Heap.lt_size e) z) (Nat.lt_irrefl _)
 have cellK:∀ x c,X.env.cells.lookup x = some c→∀ v,s.heap.IsCell c v→h'.IsCell c v:=fun x c e v ⟨o,ho,hd⟩=>by
  have nch:c ∉ ch:=fun z=>(hch c z).2.2.1 x c e rfl
  by_cases hc:c∈X.fs
  ·obtain ⟨sl,q⟩:=slot c o (I.cne x c e) hc nch ho (I.freeC x c e)
   exact ⟨_,q,hd⟩
  ·exact ⟨o,keep c o (I.cne x c e) hc nch ho (I.freeC x c e),hd⟩
 refine ⟨I.ok,I.os,hg,⟨fun b o e n hb hx=>?_,fun b o e n hb hx=>?_,fun b o e n hx=>?_,fun b o e hx=>?_,fun b xs e=>tups b xs (I.base.tups b xs e),fun b o xs e=>frzs b o xs (I.base.frzs b o xs e),fun b ps e=>?_⟩,?_,fun x c e=>?_,?_,fun x c e=>?_,fun p hp=>?_,hok,I.len⟩
 ·exact keep b o (neL b o e) hb (neC b o e hx) (I.base.keep b o e n hb hx) (I.base.free b o e n hx)
 ·obtain ⟨sl,e1⟩:=I.base.slot b o e n hb hx
  obtain ⟨sl',e2⟩:=slot b _ (neL b o e) hb (neC b o e hx) e1 (I.base.free b o e n hx)
  exact ⟨sl',e2⟩
 ·obtain ⟨o',e1⟩:=I.base.there b o e hx
  exact free b o' (neC b o e hx) e1 (I.base.free b o e n hx)
 ·obtain ⟨o',e1⟩:=I.base.there b o e hx
  exact there b o' (neC b o e hx) e1
 ·obtain ⟨m1,e1⟩:=I.base.tbls b ps e
  obtain ⟨m2,e2⟩:=tbls b _ e1
  exact ⟨m1 ++ m2,by rw [e2,Array.append_assoc]⟩
 ·obtain ⟨m,hn,hl⟩:=I.loc
  refine ⟨m,ns m hn,fun i x v e1 e2 e3=>?_⟩
  obtain ⟨u,r,l⟩:=hl i x v e1 e2 e3
  refine ⟨u,r,?_⟩
  rcases l with l | ⟨k,c,e,z⟩
  ·exact .inl l
  ·exact .inr ⟨k,c,e,cellK x c e _ z⟩
 ·obtain ⟨v,z⟩:=I.cell x c e
  exact ⟨v,cellK x c e v z⟩
 ·obtain ⟨m,⟨o,_,_,ho,_⟩,_⟩:=I.loc
  exact free _ o (fun z=>(hch _ z).2.1 rfl) ho I.free
 ·obtain ⟨v,o,ho,hd⟩:=I.cell x c e
  exact free c o (fun z=>(hch c z).2.2.1 x c e rfl) ho (I.freeC x c e)
 ·obtain ⟨e,n,ne,nf,d⟩:=I.pin p hp
  have nch:p.1 ∉ ch:=fun z=>(hch p.1 z).2.2.2 p hp rfl
  exact ⟨keep p.1 p.2 ne nf nch e n,free p.1 p.2 nch e n,ne,nf,d⟩
theorem Inv.un {t':Nat} (I:Inv X pins σ H s) (u:Un X.fs [] H H' s.heap h') (hok:HOk X.prog X.w H' h'):Inv X pins σ H' { s with heap:=h',toks:=t' }:=by
 obtain ⟨m,⟨o,es,ep,ho,r⟩,_⟩:=id I.loc
 obtain ⟨sl,hL⟩:=u.any ho I.free (by simp)
 exact I.step (g':=s.gens) (d':=s.drawn) (ch:=[]) (fun _ z=>nomatch z) (fun b o _ hb _ e n=>u.keep b o e n hb (by simp)) (fun b o _ hb _ e n=>u.slot b o e n hb (by simp)) (fun b o _ e n=>u.free b o e n (by simp)) (fun b o _ e=>u.there b o e (by simp)) u.tups u.frzs u.tbls (fun m' hm=>by
  obtain ⟨o',es',ep',ho',r'⟩:=hm
  rw [ho] at ho';cases ho'
  exact ⟨_,es',ep',hL,r'⟩) hok I.bare
theorem Inv.call {g':Array GenState}{t':Nat}{d':Drawn}{ch:List Addr} (I:Inv X pins σ H s) (u:Un (frs X.stack) ch H H' s.heap h') (hok:HOk X.prog X.w H' h') (hg:AllBare g')
  (hch:∀ b∈ch,(b∈X.ex∨X.s₀.heap.objs.size≤b)∧b≠X.env.locals∧(∀ x c,X.env.cells.lookup x = some c→c≠b)∧∀ p∈X.pn ++ pins,p.1≠b) :
  Inv X pins σ H' { s with heap:=h',gens:=g',drawn:=d',toks:=t' }:=by
 obtain ⟨m,⟨o,es,ep,ho,r⟩,_⟩:=id I.loc
 obtain ⟨sl,hL⟩:=u.any ho I.free fun z=>(hch _ z).2.1 rfl
 exact I.step (ch:=ch) hch (fun b o hL hb hc e n=>u.keep b o e n (fun z=>(List.mem_cons.mp (I.stkSub b z)).elim hL hb) hc) (fun b o _ _ hc e n=>u.any e n hc) (fun b o hc e n=>u.free b o e n hc) (fun b o hc e=>u.there b o e hc) u.tups u.frzs u.tbls (fun m' hm=>by
  obtain ⟨o',es',ep',ho',r'⟩:=hm
  rw [ho] at ho';cases ho'
  exact ⟨_,es',ep',hL,r'⟩) hok hg
theorem Inv.turned {t':Nat}{it:Addr} (I:Inv X pins σ H s) (k:∀ b o,b≠it→s.heap.get? b = some o→h'.get? b = some o) (hn:H it = none) (hL:it≠X.env.locals)
  (h1:it∈X.ex∨X.s₀.heap.objs.size≤it) (h2:∀ x c,X.env.cells.lookup x = some c→c≠it) (h3:∀ p∈X.pn ++ pins,p.1≠it):Inv X pins σ H { s with heap:=h',toks:=t' }:=by
 have nit:∀ b u,H b = some u→b≠it:=fun b u e z=>by rw [z,hn] at e;cases e
 refine I.step (g':=s.gens) (d':=s.drawn) (ch:=[it]) (fun b hb=>?_) (fun b o _ _ hc e _=>k b o (fun z=>hc (by simp [z])) e) (fun b o _ _ hc e _=>⟨o.slots,k b o (fun z=>hc (by simp [z])) e⟩) (fun _ _ _ _ n=>n)
  (fun b o hc e=>⟨o,k b o (fun z=>hc (by simp [z])) e⟩) (fun _ _ e=>e) (fun _ _ _ e=>e) (fun b ps e=>⟨#[],by rw [e];simp⟩) (fun m hm=>?_) (fun b u e=>?_) I.bare
 ·have e:b = it:=by simpa using hb
  subst e
  exact ⟨h1,hL,h2,h3⟩
 ·obtain ⟨o,es,ep,ho,r⟩:=hm
  exact ⟨o,es,ep,k _ o (Ne.symm hL) ho,r⟩
 ·refine (I.hok b u e).stay (fun c v hc q=>k c v ?_ q) (fun _ q=>q) fun _ _ q=>q
  rcases hc with z | z
  ·rw [z];exact nit b u e
  ·exact nit c _ z
theorem Inv.tok (I:Inv X pins σ H s) (t:Nat):Inv X pins σ H { s with toks:=t }:=I.un (h':=s.heap) (t':=t) Un.refl I.hok
theorem Inv.kept {t':Nat} (I:Inv X pins σ H s) (k:∀ b u,s.heap.get? b = some u→h'.get? b = some u):Inv X pins σ H { s with heap:=h',toks:=t' }:=I.un (Un.kept k) (I.hok.kept k)
theorem Inv.laid {a:Addr}{o:HO}{t':Nat} (I:Inv X pins σ H s) (k:∀ b u,s.heap.get? b = some u→h'.get? b = some u) (hp:s.heap.objs.size≤a) (new:ObjOk X.prog X.w (upd H a o) h' a o) :
  Inv X pins σ (upd H a o) { s with heap:=h',toks:=t' }:=I.un (Un.laid k hp (I.hok.fresh hp)) (I.hok.laid k hp new)
theorem Inv.write {x e:Addr}{o:HO}{t':Nat} (I:Inv X pins σ H s) (mu:Mut (H x)) (he:e = x∨H e = some (.own x)) (k:∀ b u,b≠e→s.heap.get? b = some u→h'.get? b = some u) (heo:∃ u,h'.get? e = some u)
  (new:ObjOk X.prog X.w (upd H x o) h' x o):Inv X pins σ (upd H x o) { s with heap:=h',toks:=t' }:=I.un (Un.write mu he k heo) (I.hok.write mu he k heo new)
theorem Inv.pins_of {pins':List (Addr×Obj)} (I:Inv X pins σ H s) (h:∀ p∈pins',s.heap.get? p.1 = some p.2∧H p.1 = none∧p.1≠X.env.locals∧p.1 ∉ X.fs∧∀ v,p.2.data≠.cell v):Inv X pins' σ H s :=
 ⟨I.ok,I.os,I.bare,I.base,I.loc,I.cell,I.free,I.freeC,fun p hp=>(List.mem_append.mp hp).elim (fun z=>I.pin p (List.mem_append_left _ z)) (h p),I.hok,I.len⟩
theorem gs {N:List Str} (hN:N.Nodup) {i j:Nat}{x:Str} (a:N[i]? = some x) (b:N[j]? = some x):i = j:=by
 obtain ⟨h1,e1⟩:=List.getElem?_eq_some_iff.mp a
 obtain ⟨h2,e2⟩:=List.getElem?_eq_some_iff.mp b
 exact (List.getElem_inj hN).mp (e1.trans e2.symm)
theorem Zd {M:Model}{A:Around}{E:Value→Shared→Prop}{i:Nat}{x:Str}{v:V}{u:Value}{Q:Unit→Shared→Prop} (I:Inv X pins σ H s) (hN:X.N.Nodup) (hi:X.N[i]? = some x) (hx:Loc X.env.scope x) (r:RelV v u)
  (h:∀ s',Inv X pins (σ.set i (some v)) H s'→(∃ a,Heap.SameBut a s.heap s'.heap∧(a = X.env.locals∨X.env.cells.lookup x = some a))→Q () s') (hf:X.fn x = true∨X.env.scope.names.lookup x = some .local:=by first | exact .inl rfl | exact .inr rfl | assumption):wpAny M A (storeName X.env x u) Q E s:=by
 obtain ⟨m,hn,hl⟩:=id I.loc
 have hcls:(X.env.scope.kind == .class || (X.env.scope.kind == .module && X.env.locals != X.env.globals)) = false:=by rw [I.ok.kind];rfl
 have hiσ:i < σ.length:=by rw [I.len];exact (List.getElem?_eq_some_iff.mp hi).1
 have cne:=I.cne
 have tracked:∀ {a:Addr}{h':Heap},(∃ o,s.heap.get? a = some o∧H a = none)→Heap.SameBut a s.heap h'→HOk X.prog X.w H h':=fun {a h'} ha hs b ob e=>by
  obtain ⟨_,_,hfree⟩:=ha
  refine (I.hok b ob e).stay (fun c w' hc q=>(hs.2 c ?_).trans q) (fun _ q=>q) fun _ _ q=>q
  rintro rfl
  rcases hc with rfl | hc
  ·rw [hfree] at e;cases e
  ·rw [hfree] at hc;cases hc
 rcases hx with hk | hk
 ·refine wpAny_storeName_local hk hn (fun h' hn' hs=>?_) hcls
  obtain ⟨oL,_,_,hoL,_⟩:=id hn
  refine h _ ⟨I.ok,I.os,I.bare,⟨fun b o e n hb hx=>?_,fun b o e n hb hx=>?_,I.base.free,fun b o e hx=>?_,I.base.tups,I.base.frzs,I.base.tbls⟩,⟨_,hn',fun j y v' e1 e2 e3=>?_⟩,fun y c e=>?_,I.free,I.freeC,fun p hp=>?_,tracked ⟨oL,hoL,I.free⟩ hs,by simpa using I.len⟩ ⟨_,hs,.inl rfl⟩
  ·exact (hs.2 b (Nat.ne_of_lt (Nat.lt_of_lt_of_le (Heap.lt_size e) I.ok.above))).trans (I.base.keep b o e n hb hx)
  ·obtain ⟨sl,e1⟩:=I.base.slot b o e n hb hx
   exact ⟨sl,(hs.2 b (Nat.ne_of_lt (Nat.lt_of_lt_of_le (Heap.lt_size e) I.ok.above))).trans e1⟩
  ·obtain ⟨o',e1⟩:=I.base.there b o e hx
   exact ⟨o',(hs.2 b (Nat.ne_of_lt (Nat.lt_of_lt_of_le (Heap.lt_size e) I.ok.above))).trans e1⟩
  ·by_cases hj:j = i
   ·subst hj
    rw [hi] at e1;cases e1
    rw [List.getElem?_set_self hiσ] at e2
    cases e2
    exact ⟨u,r,.inl ⟨hk,by simp⟩⟩
   ·rw [List.getElem?_set_ne (Ne.symm hj)] at e2
    obtain ⟨u',r',q⟩:=hl j y v' e1 e2 e3
    refine ⟨u',r',?_⟩
    rcases q with ⟨k,e⟩ | ⟨k,c,e,z⟩
    ·refine .inl ⟨k,?_⟩
     have:y≠x:=fun e=>hj (gs hN e1 (e ▸ hi))
     simp [this,e]
    ·exact .inr ⟨k,c,e,z.sameBut hs (cne y c e)⟩
  ·obtain ⟨w',z⟩:=I.cell y c e
   exact ⟨w',z.sameBut hs (cne y c e)⟩
  ·obtain ⟨e,n,ne,nf,d⟩:=I.pin p hp
   exact ⟨(hs.2 p.1 ne).trans e,n,ne,nf,d⟩
 ·have hfn:X.fn x = true:=by
   rcases hf with z | z
   ·exact z
   ·rw [z] at hk;cases hk
  obtain ⟨c,hc⟩:=I.ok.has x (.inl hk)
  obtain ⟨w',z⟩:=I.cell x c hc
  refine wpAny_storeName_cell I.ok.kind hk hc z (fun h' hc' hs=>?_)
  obtain ⟨oc,hoc,hocd⟩:=id z
  refine h { s with heap:=h' } ⟨I.ok,I.os,I.bare,⟨fun b o e n hb hx=>?_,fun b o e n hb hx=>?_,I.base.free,fun b o e hx=>?_,I.base.tups,I.base.frzs,I.base.tbls⟩,⟨m,hn.sameBut hs (Ne.symm (cne x c hc)),fun j y v' e1 e2 e3=>?_⟩,fun y c' e=>?_,I.free,I.freeC,fun p hp=>?_,tracked ⟨oc,hoc,I.freeC x c hc⟩ hs,by simpa using I.len⟩ ⟨c,hs,.inr hc⟩
  ·exact (hs.2 b (Nat.ne_of_lt (Nat.lt_of_lt_of_le (Heap.lt_size e) (I.ok.cab x c hfn hc)))).trans (I.base.keep b o e n hb hx)
  ·obtain ⟨sl,e1⟩:=I.base.slot b o e n hb hx
   exact ⟨sl,(hs.2 b (Nat.ne_of_lt (Nat.lt_of_lt_of_le (Heap.lt_size e) (I.ok.cab x c hfn hc)))).trans e1⟩
  ·obtain ⟨o',e1⟩:=I.base.there b o e hx
   exact ⟨o',(hs.2 b (Nat.ne_of_lt (Nat.lt_of_lt_of_le (Heap.lt_size e) (I.ok.cab x c hfn hc)))).trans e1⟩
  ·by_cases hj:j = i
   ·subst hj
    rw [hi] at e1;cases e1
    rw [List.getElem?_set_self hiσ] at e2
    cases e2
    exact ⟨u,r,.inr ⟨.inl hk,c,hc,hc'⟩⟩
   ·rw [List.getElem?_set_ne (Ne.symm hj)] at e2
    obtain ⟨u',r',q⟩:=hl j y v' e1 e2 e3
    refine ⟨u',r',?_⟩
    rcases q with q | ⟨k,c',e,z'⟩
    ·exact .inl q
    ·refine .inr ⟨k,c',e,z'.sameBut hs ?_⟩
     rintro rfl
     exact hj (gs hN e1 (I.ok.inj _ _ _ e hc ▸ hi))
  ·by_cases hcc:c' = c
   ·subst hcc;exact ⟨_,hc'⟩
   ·obtain ⟨w2,z2⟩:=I.cell y c' e
    exact ⟨w2,z2.sameBut hs hcc⟩
  ·obtain ⟨e,n,ne,nf,d⟩:=I.pin p hp
   refine ⟨(hs.2 p.1 ?_).trans e,n,ne,nf,d⟩
   intro q
   rw [q,hoc] at e
   have q':oc = p.2:=Option.some.inj e
   exact d w' (by rw [← q'];exact hocd)
theorem ir {M:Model}{A:Around}{E:Value→Shared→Prop}{i:Nat}{x:Str}{v:V}{u:Value}{Q:Unit→Shared→Prop} (I:Inv X pins σ H s) (hN:X.N.Nodup) (hi:X.N[i]? = some x) (hx:Loc X.env.scope x) (r:RelV v u)
  (h:∀ s',Inv X pins (σ.set i (some v)) H s'→Q () s') (hf:X.fn x = true∨X.env.scope.names.lookup x = some .local:=by first | exact .inl rfl | exact .inr rfl | assumption):wpAny M A (storeName X.env x u) Q E s :=
 Zd I hN hi hx r (fun s' I' _=>h s' I') hf
theorem Inv.call' {s':Shared}{ch:List Addr} (I:Inv X pins σ H s) (ho:s'.os = s.os) (u:Un (frs X.stack) ch H H' s.heap s'.heap) (hok:HOk X.prog X.w H' s'.heap) (hg:AllBare s'.gens)
  (hch:∀ b∈ch,(b∈X.ex∨X.s₀.heap.objs.size≤b)∧b≠X.env.locals∧(∀ x c,X.env.cells.lookup x = some c→c≠b)∧∀ p∈X.pn ++ pins,p.1≠b):Inv X pins σ H' s':=by
 obtain ⟨h',g',d',t',o'⟩:=s'
 have e:o' = s.os:=ho
 subst e
 exact I.call (g':=g') (t':=t') (d':=d') u hok hg hch
end
abbrev XK:=Value→Option Addr→Hp→Prop
abbrev St:=List (Option V)
abbrev VK:=V→Hp→Prop
abbrev TE:=St→Hp→VK→Prop
abbrev TT:=St→Hp→(Bool→Hp→Prop)→Prop
abbrev TA:=St→Hp→(List V→Hp→Prop)→Prop
structure ur where
 nx:St→Hp→Prop
 rt:VK
 bk:St→Hp→Prop:=fun _ _=>False
 ct:St→Hp→Prop:=fun _ _=>False
abbrev TS:=ur→St→Hp→Prop
def EP (X:Cx) (pins:List (Addr×Obj)) (σ:St) (Q:VK) (u:Value) (s':Shared):Prop:=∃ v H',Inv X pins σ H' s'∧RelV v u∧Q v H'
def TP (X:Cx) (pins:List (Addr×Obj)) (σ:St) (Q:Bool→Hp→Prop) (b:Bool) (s':Shared):Prop:=∃ H',Inv X pins σ H' s'∧Q b H'
def AP (X:Cx) (pins:List (Addr×Obj)) (σ:St) (Q:List V→Hp→Prop) (us:List Value) (s':Shared):Prop:=∃ vs H',Inv X pins σ H' s'∧Vals vs us∧Q vs H'
def SP (X:Cx) (pins:List (Addr×Obj)) (D:ur) (f:Flow) (s':Shared):Prop :=
 match f with
 | .next=>∃ σ' H',Inv X pins σ' H' s'∧D.nx σ' H'
 | .brk=>∃ σ' H',Inv X pins σ' H' s'∧D.bk σ' H'
 | .cont=>∃ σ' H',Inv X pins σ' H' s'∧D.ct σ' H'
 | .ret u=>∃ v σ' H',Inv X pins σ' H' s'∧RelV v u∧D.rt v H'
def PE (X:Cx) (e:Expr) (t:TE):Prop :=
 ∀ (pins:List (Addr×Obj)) (s:Shared) (σ:St) (H:Hp) (Q:VK),Inv X pins σ H s→t σ H Q→wpAny (model X.prog X.w) X.A (eval e X.env) (EP X pins σ Q) X.xe s
def PT (X:Cx) (e:Expr) (t:TT):Prop :=
 ∀ (pins:List (Addr×Obj)) (s:Shared) (σ:St) (H:Hp) (Q:Bool→Hp→Prop),Inv X pins σ H s→t σ H Q→wpAny (model X.prog X.w) X.A (isTrue e X.env (eval e X.env)) (TP X pins σ Q) X.xe s
def PW (X:Cx) (e:Expr) (t:TT):Prop :=
 ∀ (whole:Sem Value) (pins:List (Addr×Obj)) (s:Shared) (σ:St) (H:Hp) (Q:Bool→Hp→Prop),Inv X pins σ H s→t σ H Q→wpAny (model X.prog X.w) X.A (isTrue e X.env whole) (TP X pins σ Q) X.xe s
theorem PW.pt {X:Cx}{e:Expr}{t:TT} (h:PW X e t):PT X e t:=h _
def PA (X:Cx) (es:List Expr) (t:TA):Prop :=
 ∀ (pos:Pos) (pins:List (Addr×Obj)) (s:Shared) (σ:St) (H:Hp) (Q:List V→Hp→Prop),Inv X pins σ H s→t σ H Q→wpAny (model X.prog X.w) X.A (spliced (backTo pos (starEach es X.env))) (AP X pins σ Q) X.xe s
def PS (X:Cx) (st:Stmt) (t:TS):Prop :=
 ∀ (pins:List (Addr×Obj)) (s:Shared) (σ:St) (H:Hp) (D:ur),Inv X pins σ H s→t D σ H→wpAny (model X.prog X.w) X.A (exec st X.env) (SP X pins D) X.xe s
def PSs (X:Cx) (st:List Stmt) (t:TS):Prop :=
 ∀ (pins:List (Addr×Obj)) (s:Shared) (σ:St) (H:Hp) (D:ur),Inv X pins σ H s→t D σ H→wpAny (model X.prog X.w) X.A (execs st X.env) (SP X pins D) X.xe s
theorem thn {α:Type}{t:Sem α}{Q Q':α→Shared→Prop}{M:Model}{A:Around}{E:Value→Shared→Prop}{s:Shared} (h:wpAny M A t Q E s) (hQ:∀ a s,Q a s→Q' a s):wpAny M A t Q' E s:=wpAny_mono h hQ fun _ _ x=>x
end L2
namespace L2
open PySem PySem.Spec PyProof.Rows
section
variable {X:Cx}
def Mg (i:Nat):TE:=fun σ H Q=>∃ v,σ[i]? = some (some v)∧Q v H
def tC (v:V):TE:=fun _ H Q=>Q v H
theorem Qe {i:Nat}{x:Str}{pos:Pos} (hN:X.N[i]? = some x) (hv:Vis X.env.scope x) (hd:(x == ("__debug__":Str)) = false:=by decide) (hcd:(x == ("__classdict__":Str)) = false:=by decide):PE X (.Name x pos) (Mg i):=by
 intro pins s σ H Q I h
 obtain ⟨v,e,h⟩:=h
 obtain ⟨m,hn,hl⟩:=I.loc
 obtain ⟨u,r,l⟩:=hl i x v hN e hv
 have fin:EP X pins σ Q u s:=⟨v,H,I,r,h⟩
 rcases l with ⟨hk,hm⟩ | ⟨hk,c,hc,hcell⟩
 ·exact wpAny_Name (wpAny_loadName_local I.ok.kind hk hn hm fin) hd
 ·rcases hk with hk | hk
  ·exact wpAny_Name (wpAny_loadName_cell I.ok.kind hk hc hcell fin) hd
  ·exact wpAny_Name (wpAny_loadName_free I.ok.kind hk hc hcell fin hcd) hd
theorem zz {i j pos}:PE X (.Constant (.int i) j pos) (tC (.int i)):=fun _ _ _ H _ I h=>wpAny_Constant_int ⟨.int i,H,I.tok _,⟨_,rfl⟩,h⟩
theorem wb {b j pos}:PE X (.Constant (.bool b) j pos) (tC (.bl b)):=fun _ _ _ H _ I h=>Constant_bool ⟨.bl b,H,I,rfl,h⟩
theorem Qd {j pos}:PE X (.Constant .none j pos) (tC .non):=fun _ _ _ H _ I h=>Constant_none ⟨.non,H,I,rfl,h⟩
theorem yz {x j pos}:PE X (.Constant (.str x) j pos) (tC (.str x)):=fun _ _ _ H _ I h=>Calls.Constant_str ⟨.str x,H,I.tok _,⟨_,rfl⟩,h⟩
def Gl (X:Cx) (x:Str):Prop:=X.env.kindOf x = some .globalImplicit
theorem jh {E:Value→Shared→Prop}{pins:List (Addr×Obj)}{s:Shared}{σ:St}{H:Hp}{x:Str}{u:Value}{pos:Pos}{Q:Value→Shared→Prop} (I:Inv X pins σ H s) (hg:Gl X x) (hm:X.mg x = some u) (h:Q u s)
  (hd:(x == ("__debug__":Str)) = false:=by decide):wpAny (model X.prog X.w) X.A (eval (.Name x pos) X.env) Q E s :=
 Calls.Name_function_global I.ok.kind hg (Calls.loadGlobal_global (by rw [I.ok.glob];exact I.mod.glob.keeps I.bk) hm h) hd
theorem xb {E:Value→Shared→Prop}{pins:List (Addr×Obj)}{s:Shared}{σ:St}{H:Hp}{x:Str}{u:Value}{pos:Pos}{Q:Value→Shared→Prop} (I:Inv X pins σ H s) (hg:Gl X x) (hm:X.mg x = none) (hv:bootBuiltins x = some u) (h:Q u s)
  (hn:x≠"__name__":=by decide) (hd:(x == ("__debug__":Str)) = false:=by decide):wpAny (model X.prog X.w) X.A (eval (.Name x pos) X.env) Q E s:=by
 obtain ⟨mb,h1,h2⟩:=I.mod.blt
 exact Calls.Name_function_global I.ok.kind hg (Calls.loadGlobal_builtin (by rw [I.ok.glob];exact I.mod.glob.keeps I.bk) hm (by rw [I.ok.blt];exact h1.keeps I.bk) ((h2 x hn).trans hv) h) hd
theorem ad {x:Str}{v:V}{u:Value}{pos:Pos} (hg:Gl X x) (hm:X.mg x = none) (hv:bootBuiltins x = some u) (r:RelV v u) (hn:x≠"__name__":=by decide) (hd:(x == ("__debug__":Str)) = false:=by decide):PE X (.Name x pos) (tC v) :=
 fun _ _ _ H _ I h=>xb I hg hm hv ⟨v,H,I,r,h⟩ hn hd
variable {a b:Expr}{ta tb:TE}{pos:Pos}
variable {tA tB':TT}{rest:List Expr}
def Mc (t u:TT):TT:=fun σ H Q=>t σ H fun c H1=>if c = true then u σ H1 Q else Q false H1
def tOr (t u:TT):TT:=fun σ H Q=>t σ H fun c H1=>if c = true then Q true H1 else u σ H1 Q
def Ox (t:TT):TT:=fun σ H Q=>t σ H fun c H1=>Q (!c) H1
theorem ou (ha:PT X a tA):PW X (.BoolOp .Or [a] pos) tA:=by
 intro wh pins s σ H Q I h
 refine isTrue_or (thn (ha pins s σ H Q I h) fun c s1 e=>?_)
 cases c with
 | false=>exact isTrue_or_nil e
 | true=>exact e
theorem g8 (ha:PT X a tA) (hb:PW X (.BoolOp .Or (b :: rest) pos) tB'):PW X (.BoolOp .Or (a :: b :: rest) pos) (tOr tA tB'):=by
 intro wh pins s σ H Q I h
 refine isTrue_or (thn (ha pins s σ H _ I h) fun c s1 ⟨H1,I1,q1⟩=>?_)
 cases c with
 | true=>exact ⟨H1,I1,q1⟩
 | false=>exact hb wh pins s1 σ H1 Q I1 q1
theorem uf (ha:PT X a tA):PT X (.UnaryOp .Not a pos) (Ox tA):=by
 intro pins s σ H Q I h
 exact isTrue_not (ha pins s σ H (fun c H1=>Q (!c) H1) I h)
def Ld (ta tb:TE):TE:=fun σ H Q=>ta σ H fun x H1=>∃ c,x = .bl c∧if c = true then Q (.bl true) H1 else tb σ H1 Q
theorem jr {op}{t:TE} (h:PE X a t):PE X (.BoolOp op [a] pos) t:=fun pins s σ H Q I hw=>BoolOp_one (h pins s σ H Q I hw)
def tIf (t:TT) (ta tb:TE):TE:=fun σ H Q=>t σ H fun c H1=>if c = true then ta σ H1 Q else tb σ H1 Q
end
end L2
namespace L2
open PySem PySem.Spec PyProof.Rows
def SqL (K:PySem.W.Frag) (H:Hp) (a:Addr) (xs:List V):Prop :=
 Rd H a (.lst xs) ∨
  ∃ (o:Obj) (its:Array Value) (n:Nat),K.lookup a = some o∧o.cls = .type "list"∧o.dict = none∧o.data = .seq its n∧its.size≤sizeLine∧Vals xs its.toList
def SqT (K:PySem.W.Frag) (H:Hp) (a:Addr) (xs:List V):Prop :=
 Rd H a (.tup xs) ∨
  ∃ (o:Obj) (its:Array Value) (n:Nat),K.lookup a = some o∧o.cls = .type "tuple"∧o.data = .seq its n∧its.size≤sizeLine∧Vals xs its.toList
def Lj:Value→Option V
 | .none=>some .non
 | .bool b=>some (.bl b)
 | .int i _=>some (.int i)
 | .str x _=>some (.str x)
 | .bytes b _=>some (.byt b)
 | .float b _=>some (.flt b)
 | .ref a=>some (.ref a)
 | .type n=>some (.ty n)
 | _=>none
theorem RelV.abs {x:V}{u:Value} (r:RelV x u):Lj u = some x:=by
 cases x with
 | non=>cases r;rfl
 | bl _=>cases r;rfl
 | int _=>obtain ⟨t,rfl⟩:=r;rfl
 | str _=>obtain ⟨t,rfl⟩:=r;rfl
 | byt _=>obtain ⟨t,rfl⟩:=r;rfl
 | flt _=>obtain ⟨t,rfl⟩:=r;rfl
 | ref _=>cases r;rfl
 | ty _=>cases r;rfl
theorem RelV.inj {x y:V}{u:Value} (r:RelV x u) (q:RelV y u):x = y:=Option.some.inj (r.abs.symm.trans q.abs)
theorem Vals.inj:∀ {xs ys:List V}{us:List Value},Vals xs us→Vals ys us→xs = ys
 | _,_,_,.nil,.nil=>rfl
 | _,_,_,.cons r t,.cons r' t'=>by rw [r.inj r',Vals.inj t t']
section
variable {X:Cx}{pins:List (Addr×Obj)}{σ:St}{H:Hp}{s:Shared}{a:Addr}{xs ys:List V}
theorem SqL.of {K:PySem.W.Frag} (h:H a = some (.lst xs)):SqL K H a xs:=.inl (.inl h)
theorem SqT.of {K:PySem.W.Frag} (h:H a = some (.tup xs)):SqT K H a xs:=.inl (.inl h)
theorem Inv.list (I:Inv X pins σ H s) (h:SqL X.K H a xs):∃ its:List Value,Vals xs its∧PlainL s.heap a its.toArray∧xs.length≤sizeLine:=by
 rcases h with h | ⟨o,its,n,hk,hc,hd,hs,hz,r⟩
 ·obtain ⟨z,its,n,r,e⟩:=h.ok I.hok
  exact ⟨its,r,⟨_,n,e,rfl,rfl,rfl⟩,z⟩
 ·refine ⟨its.toList,r,⟨o,n,I.kIn a o hk,hc,hd,by simpa using hs⟩,?_⟩
  have e:=r.length
  simp only [Array.length_toList] at e
  omega
theorem Inv.tuple (I:Inv X pins σ H s) (h:SqT X.K H a xs):∃ its:List Value,Vals xs its∧IsTup s.heap a its.toArray∧xs.length≤sizeLine:=by
 rcases h with h | ⟨o,its,n,hk,hc,hs,hz,r⟩
 ·obtain ⟨z,its,r,p⟩:=h.ok I.hok
  exact ⟨its,r,p,z⟩
 ·refine ⟨its.toList,r,⟨o,I.kIn a o hk,hc,n,by simpa using hs⟩,?_⟩
  have e:=r.length
  simp only [Array.length_toList] at e
  omega
theorem Inv.list_inj (I:Inv X pins σ H s) (h:SqL X.K H a xs) (h':SqL X.K H a ys):xs = ys:=by
 obtain ⟨its,r,⟨o,n,e,_,_,d⟩,_⟩:=I.list h
 obtain ⟨its',r',⟨o',n',e',_,_,d'⟩,_⟩:=I.list h'
 rw [e] at e';cases e'
 rw [d] at d'
 injection d' with d1 _
 have:its = its':=by simpa using congrArg Array.toList d1
 subst this
 exact r.inj r'
theorem Inv.tuple_inj (I:Inv X pins σ H s) (h:SqT X.K H a xs) (h':SqT X.K H a ys):xs = ys:=by
 obtain ⟨its,r,⟨o,e,_,n,d⟩,_⟩:=I.tuple h
 obtain ⟨its',r',⟨o',e',_,n',d'⟩,_⟩:=I.tuple h'
 rw [e] at e';cases e'
 rw [d] at d'
 injection d' with d1 _
 have:its = its':=by simpa using congrArg Array.toList d1
 subst this
 exact r.inj r'
end
abbrev Cx.wish (X:Cx) (E:Value→Shared→Prop):Cx:={ X with xe:=E }
abbrev Cx.nox (X:Cx):Cx:=X.wish fun _ _=>False
theorem Cx.Ok.wish {X:Cx} (ok:X.Ok) (E:Value→Shared→Prop):(X.wish E).Ok :=
 ⟨ok.mod,ok.kind,ok.glob,ok.blt,ok.above,ok.inj,ok.has,ok.cab,ok.hd,ok.frames,ok.stk,ok.exf,ok.bs,ok.bsz,ok.noex,ok.exfs,ok.funs,ok.frf⟩
theorem Cx.Ok.unwish {X:Cx}{E:Value→Shared→Prop} (ok:(X.wish E).Ok):X.Ok :=
 ⟨ok.mod,ok.kind,ok.glob,ok.blt,ok.above,ok.inj,ok.has,ok.cab,ok.hd,ok.frames,ok.stk,ok.exf,ok.bs,ok.bsz,ok.noex,ok.exfs,ok.funs,ok.frf⟩
section
variable {X:Cx}{pins:List (Addr×Obj)}{σ:St}{H:Hp}{s:Shared}{E:Value→Shared→Prop}
theorem Inv.wish (I:Inv X pins σ H s) (E:Value→Shared→Prop):Inv (X.wish E) pins σ H s:=⟨I.ok.wish E,I.os,I.bare,I.base,I.loc,I.cell,I.free,I.freeC,I.pin,I.hok,I.len⟩
theorem Inv.unwish (I:Inv (X.wish E) pins σ H s):Inv X pins σ H s:=⟨I.ok.unwish,I.os,I.bare,I.base,I.loc,I.cell,I.free,I.freeC,I.pin,I.hok,I.len⟩
theorem SP.unwish {D:ur}{f:Flow}{s':Shared} (h:SP (X.wish E) pins D f s'):SP X pins D f s':=by
 cases f with
 | next=>obtain ⟨σ',H',I,q⟩:=h;exact ⟨σ',H',I.unwish,q⟩
 | brk=>obtain ⟨σ',H',I,q⟩:=h;exact ⟨σ',H',I.unwish,q⟩
 | cont=>obtain ⟨σ',H',I,q⟩:=h;exact ⟨σ',H',I.unwish,q⟩
 | ret u=>obtain ⟨v,σ',H',I,r,q⟩:=h;exact ⟨v,σ',H',I.unwish,r,q⟩
theorem PSs.nox {st:List Stmt}{t:TS} (h:PSs X.nox st t):PSs X st t:=fun pins s σ H D I hw =>
 wpAny_mono (h pins s σ H D (I.wish _) hw) (fun _ _ q=>q.unwish) fun _ _ z=>False.elim z
end
section
variable {X:Cx}{st:Stmt}{rest:List Stmt}{t u:TS}{e:Expr}{te:TE}{pos:Pos}
def Xj:TS:=fun D σ H=>D.nx σ H
def Xk (t u:TS):TS:=fun D σ H=>t { D with nx:=u D } σ H
theorem zi:PSs X [] Xj:=fun _ _ σ H _ I h=>wpAny_execs_nil ⟨σ,H,I,h⟩
theorem z5 (h1:PS X st t) (h2:PSs X rest u):PSs X (st :: rest) (Xk t u):=by
 intro pins s σ H D I h
 refine wpAny_execs_cons (thn (h1 pins s σ H { D with nx:=u D } I h) fun f s1 q=>?_)
 cases f with
 | next =>
  obtain ⟨σ',H',I',q⟩:=q
  exact h2 pins s1 σ' H' D I' q
 | ret v=>exact q
 | brk=>exact q
 | cont=>exact q
theorem zy (h1:PS X st t):PSs X [st] t:=by
 intro pins s σ H D I h
 refine wpAny_execs_cons (thn (h1 pins s σ H D I h) fun f s1 q=>?_)
 cases f with
 | next=>exact wpAny_execs_nil q
 | ret v=>exact q
 | brk=>exact q
 | cont=>exact q
def Q7:TS:=fun D σ H=>D.bk σ H
def Ov:TS:=fun D σ H=>D.ct σ H
theorem Inv.quiet {pins:List (Addr×Obj)}{σ:St}{H:Hp}{s:Shared} (I:Inv X pins σ H s):interactive X.env = false:=by simp [interactive,I.ok.kind]
def Ru (te:TE):TS:=fun D σ H=>te σ H fun _ H1=>D.nx σ H1
theorem uz (he:PE X e te) (hs:swapsWith e none pos.line X.env = pure false:=by rfl):PS X (.Expr e pos) (Ru te):=by
 intro pins s σ H D I h
 exact wpAny_Expr_any (thn (he pins s σ H _ I h) fun v s1 ⟨x,H1,I1,r1,q1⟩=>⟨σ,H1,I1,q1⟩) I.quiet hs
def Oy (te:TE):TS:=fun D σ H=>te σ H D.rt
theorem zr (he:PE X e te):PS X (.Return (some e) pos) (Oy te):=by
 intro pins s σ H D I h
 exact wpAny_Return_some (thn (he pins s σ H _ I h) fun v s1 ⟨x,H1,I1,r1,q1⟩=>⟨x,σ,H1,I1,r1,q1⟩)
def Ow (c:TT) (t u:TS):TS:=fun D σ H=>c σ H fun b H1=>if b = true then t D σ H1 else u D σ H1
theorem yr {c:Expr}{a b:List Stmt}{tc:TT} (hc:PT X c tc) (ha:PSs X a t) (hb:PSs X b u):PS X (.If c a b pos) (Ow tc t u):=by
 intro pins s σ H D I h
 refine wpAny_If (thn (hc pins s σ H _ I h) fun d s1 ⟨H1,I1,q1⟩=>?_)
 cases d with
 | true=>exact ha pins s1 σ H1 D I1 q1
 | false=>exact hb pins s1 σ H1 D I1 q1
end
abbrev TG:=V→St→Hp→(St→Hp→Prop)→Prop
abbrev TGs:=List V→St→Hp→(St→Hp→Prop)→Prop
def PG (X:Cx) (target:Expr) (t:TG):Prop :=
 ∀ (pins:List (Addr×Obj)) (s:Shared) (σ:St) (H:Hp) (v:V) (u:Value) (Q:St→Hp→Prop),Inv X pins σ H s→RelV v u→t v σ H Q →
  wpAny (model X.prog X.w) X.A (assign target X.env u) (fun _ s'=>∃ σ' H',Inv X pins σ' H' s'∧Q σ' H') X.xe s
def PGs (X:Cx) (ts:List Expr) (t:TGs):Prop :=
 ∀ (pins:List (Addr×Obj)) (s:Shared) (σ:St) (H:Hp) (vs:List V) (us:List Value) (Q:St→Hp→Prop),Inv X pins σ H s→Vals vs us→t vs σ H Q →
  wpAny (model X.prog X.w) X.A (assignInOrder ((assignEach ts X.env).map (·.2)) us) (fun _ s'=>∃ σ' H',Inv X pins σ' H' s'∧Q σ' H') X.xe s
abbrev Ue:=V→V→V→Hp→(Hp→Prop)→Prop
def Rx (X:Cx) (t:Ue):Prop :=
 ∀ (pins:List (Addr×Obj)) (s:Shared) (σ:St) (H:Hp) (o i v:V) (ov iv u:Value) (Q:Hp→Prop),Inv X pins σ H s→RelV o ov→RelV i iv→RelV v u→t o i v H Q →
  wpAny (model X.prog X.w) X.A (setItem ov iv u) (fun _ s'=>∃ H',Inv X pins σ H' s'∧Q H') X.xe s
section
variable {X:Cx}{pos:Pos}
def ki (i:Nat):TG:=fun v σ H Q=>Q (σ.set i (some v)) H
theorem Tk {i:Nat}{x:Str} (hN:X.N.Nodup) (hi:X.N[i]? = some x) (hx:Loc X.env.scope x) (hf:X.fn x = true∨X.env.scope.names.lookup x = some .local:=by first | exact .inl rfl | exact .inr rfl | assumption):PG X (.Name x pos) (ki i):=by
 intro pins s σ H v u Q I r h
 exact wpAny_assign_Name (ir I hN hi hx r (fun s' I'=>⟨_,H,I',h⟩) hf)
def Ln:TGs:=fun vs σ H Q=>vs = []∧Q σ H
def Mq (t:TG) (u:TGs):TGs:=fun vs σ H Q=>∃ v r,vs = v :: r∧t v σ H fun σ' H'=>u r σ' H' Q
theorem Tn:PGs X [] Ln:=by
 intro pins s σ H vs us Q I r h
 obtain ⟨e,h⟩:=h
 subst e
 cases r
 exact assignInOrder_nil ⟨σ,H,I,h⟩
theorem g7 {e:Expr}{es:List Expr}{t:TG}{u:TGs} (h1:PG X e t) (h2:PGs X es u)
  (hs:(assignEach (e :: es) X.env).map (·.2) = assign e X.env :: (assignEach es X.env).map (·.2):=by rfl):PGs X (e :: es) (Mq t u):=by
 intro pins s σ H vs us Q I r h
 obtain ⟨v,vr,e1,h⟩:=h
 subst e1
 cases r with
 | cons r rr =>
  rw [hs]
  refine assignInOrder_cons (thn (h1 pins s σ H _ _ _ I r h) fun _ s1 ⟨σ1,H1,I1,q1⟩=>?_)
  exact h2 pins s1 σ1 H1 _ _ Q I1 rr q1
def Lo (K:PySem.W.Frag) (n:Nat) (t:TGs):TG:=fun v σ H Q=>∃ a xs,v = .ref a∧SqT K H a xs∧xs.length = n∧t xs σ H Q
theorem Qf {es:List Expr}{k:Nat}{t:TGs}{n:Nat} (hc:X.calm = true) (h:PGs X es t)
  (hn:(assignEach es X.env).length = n:=by rfl) (hst:(assignEach es X.env).findIdx? (·.1) = none:=by rfl):PG X (.Tuple es k pos) (Lo X.K n t):=by
 intro pins s σ H v u Q I r hw
 obtain ⟨a,xs,e1,hq,hl,hw⟩:=hw
 subst e1
 cases r
 obtain ⟨its,rv,ht,hz⟩:=I.tuple hq
 refine assign_Tuple_tuple (I.ok.hd hc) ht (by simp [hn,← hl,rv.length]) hst fun h' hx=>?_
 have I1:Inv X pins σ H { s with heap:=h' }:=I.kept (t':=s.toks) fun b o e=>hx b o (Nat.ne_of_lt (Heap.lt_size e)) e
 exact h pins _ σ H xs _ Q I1 (by simpa using rv) hw
def Sc (to ti:TE) (t:Ue):TG:=fun v σ H Q=>to σ H fun o H1=>ti σ H1 fun i H2=>t o i v H2 fun H3=>Q σ H3
theorem Wm {o i:Expr}{to ti:TE}{t:Ue} (ho:PE X o to) (hi:PE X i ti) (hs:Rx X t)
  (ha:∀ v,assign (.Subscript o i pos) X.env v = (do
   let ov ← holding [v] (eval o X.env)
   let iv ← holding [v,ov] (eval i X.env)
   standAt pos
   holding [v,ov,iv] (setItem ov iv v)
   release [v,ov,iv] []):=by intro _;rfl):PG X (.Subscript o i pos) (Sc to ti t):=by
 intro pins s σ H v u Q I r h
 rw [ha]
 refine wpAny_bind (wpAny_holding (thn (ho pins s σ H _ I h) fun ov s1 ⟨x,H1,I1,r1,q1⟩=>?_))
 refine wpAny_bind (wpAny_holding (thn (hi pins s1 σ H1 _ I1 q1) fun iv s2 ⟨y,H2,I2,r2,q2⟩=>?_))
 refine wpAny_bind (wpAny_standAt (wpAny_bind (wpAny_holding (thn (hs pins s2 σ H2 x y v ov iv u _ I2 r1 r2 r q2) fun _ s3 ⟨H3,I3,q3⟩=>?_))))
 exact wpAny_release ⟨σ,H3,I3,q3⟩
def Zf (te:TE) (g:TG):TS:=fun D σ H=>te σ H fun x H1=>g x σ H1 D.nx
theorem Wr {tg e:Expr}{te:TE}{g:TG} (he:PE X e te) (hg:PG X tg g) (hs:swapsWithSole [tg] e pos.line X.env = pure false:=by rfl) (hw:swappedStores [tg] e X.env = pure none:=by rfl)
  (h1:(assignEach [tg] X.env).map (·.2) = [assign tg X.env]:=by rfl):PS X (.Assign [tg] e pos) (Zf te g):=by
 intro pins s σ H D I h
 refine wpAny_Assign_stores (thn (he pins s σ H _ I h) fun v s1 ⟨x,H1,I1,r1,q1⟩=>?_) hs hw
 rw [h1]
 exact thn (hg pins s1 σ H1 x v _ I1 r1 q1) fun _ s2 q=>q
theorem Qk {i:Nat}{x:Str}{e:Expr}{te:TE}{pos':Pos} (hN:X.N.Nodup) (hi:X.N[i]? = some x) (hx:Loc X.env.scope x) (he:PE X e te) (hs:swapsWith e (some (.Name x pos')) pos.line X.env = pure false:=by rfl) (hf:X.fn x = true∨X.env.scope.names.lookup x = some .local:=by first | exact .inl rfl | exact .inr rfl | assumption) :
  PS X (.Assign [.Name x pos'] e pos) (Zf te (ki i)):=by
 intro pins s σ H D I h
 refine wpAny_Assign_Name (thn (he pins s σ H _ I h) fun v s1 ⟨y,H1,I1,r1,q1⟩=>?_) hs
 exact ir I1 hN hi hx r1 (fun s2 I2=>⟨_,H1,I2,q1⟩) hf
end
section
variable {X:Cx}{pos:Pos}
def Q9 (c:TT) (tb:TS):TS:=fun D σ H=>∃ W:Nat→St→Hp→Prop,(∃ m,W m σ H)∧∀ m σ H,W m σ H →
 c σ H fun b H1=>if b = true then ∃ N:St→Hp→Prop,(∀ σ' H',N σ' H'→∃ m',m' < m∧W m' σ' H')∧tb { D with nx:=N,ct:=N,bk:=D.nx } σ H1 else D.nx σ H1
end
structure It where
 go:Nat→Hp→Prop
 yld:Nat→Hp→V→Hp→Prop
 stop:Nat→Hp→Prop
def u7 (X:Cx) (pins:List (Addr×Obj)) (H:Hp) (b:Addr):Prop :=
 H b = none∧b≠X.env.locals∧b ∉ X.fs∧(b∈X.ex∨X.s₀.heap.objs.size≤b)∧(∀ x c,X.env.cells.lookup x = some c→c≠b)∧∀ p∈X.pn ++ pins,p.1≠b
theorem Inv.fpOk {X:Cx}{pins:List (Addr×Obj)}{σ:St}{H H':Hp}{s:Shared}{b:Addr} (I:Inv X pins σ H s) (hb:s.heap.objs.size≤b) (hn:H' b = none):u7 X pins H' b:=by
 refine ⟨hn,Nat.ne_of_gt (Nat.lt_of_lt_of_le I.lt hb),I.nofs hb,.inr (Nat.le_trans I.sz hb),fun x c e z=>?_,fun p hp z=>?_⟩
 ·obtain ⟨v,q⟩:=I.cell x c e
  exact absurd (Nat.lt_of_lt_of_le q.lt (by rw [z];exact hb)) (Nat.lt_irrefl _)
 ·exact absurd (Nat.lt_of_lt_of_le (Heap.lt_size (I.pin p hp).1) (by rw [z];exact hb)) (Nat.lt_irrefl _)
structure fj (P:Program) (w:World) (K:PySem.W.Frag) (tg:Expr) (J:It) (fp:List Addr) (it:Addr) (tn:Nat→Heap→Prop):Prop where
 mem:it∈fp
 obj:∀ i h,tn i h→∀ b∈fp,∃ o,h.get? b = some o∧∀ v,o.data≠.cell v
 keep:∀ i h h',tn i h→(∀ b∈fp,∀ o,h.get? b = some o→h'.get? b = some o)→tn i h'
 item:∀ (X:Cx),X.prog = P→X.w = w→X.K = K→X.calm = true→∀ (i:Nat) (pins:List (Addr×Obj)) (s:Shared) (σ:St) (H:Hp) (E:Value→Shared→Prop),Inv X pins σ H s→(∀ b∈fp,u7 X pins H b)→tn i s.heap→J.go i H →
  wpAny (model P w) X.A (pyNext (.ref it)) (fun r s1=>∃ u,r = some u ∧
   wpAny (model P w) X.A (letOwnedTupleGo tg (.ref it) u) (fun _ s2=>∃ x H',Inv X pins σ H' s2∧RelV x u∧J.yld i H x H'∧tn (i + 1) s2.heap∧∀ b∈fp,H' b = none) E s1) E s
 done:∀ (X:Cx),X.prog = P→X.w = w→X.K = K→X.calm = true→∀ (i:Nat) (pins:List (Addr×Obj)) (s:Shared) (σ:St) (H:Hp) (E:Value→Shared→Prop),Inv X pins σ H s→(∀ b∈fp,u7 X pins H b)→tn i s.heap→J.stop i H →
  wpAny (model P w) X.A (pyNext (.ref it)) (fun r s1=>r = none∧Inv X pins σ H s1) E s
 self:∀ (A:Around) (i:Nat) (s:Shared) (Q:Value→Shared→Prop) (E:Value→Shared→Prop),tn i s.heap→Q (.ref it) s→wpAny (model P w) A (pyIter (.ref it)) Q E s
abbrev TI:=St→Hp→(It→Hp→Prop)→Prop
def PIE (X:Cx) (pins:List (Addr×Obj)) (σ:St) (tg:Expr) (R:It→Hp→Prop) (itv:Value) (s2:Shared):Prop :=
 ∃ (it:Addr) (fp:List Addr) (tn:Nat→Heap→Prop) (J:It) (H':Hp),itv = .ref it∧Inv X pins σ H' s2∧fj X.prog X.w X.K tg J fp it tn∧tn 0 s2.heap∧(∀ b∈fp,u7 X pins H' b)∧R J H'
def PI (X:Cx) (tg iter:Expr) (wi:TI):Prop :=
 ∀ (pins:List (Addr×Obj)) (s:Shared) (σ:St) (H:Hp) (R:It→Hp→Prop),Inv X pins σ H s→wi σ H R →
  wpAny (model X.prog X.w) X.A (eval iter X.env) (fun v s1=>wpAny (model X.prog X.w) X.A (pyIter v) (PIE X pins σ tg R) X.xe s1) X.xe s
theorem U6 {M:Model}{A:Around}{E:Value→Shared→Prop}{s:Shared}{tg:Expr}{it:Addr}{u:Value}{o:Obj}{n:String}{vs:Array Value}{Q:Unit→Shared→Prop} (ho:s.heap.get? it = some o) (hc:o.cls = .type n) (hd:o.data = .fields vs)
  (hn:["enumerate","zip","dict_itemiterator","dict_reverseitemiterator","odict_iterator","itertools.zip_longest","itertools.pairwise"].contains n = false) (hQ:Q () s):wpAny M A (letOwnedTupleGo tg (.ref it) u) Q E s:=by
 unfold letOwnedTupleGo
 cases tg <;> first
  | exact wpAny_pure hQ
  | (cases u <;> first
    | exact wpAny_pure hQ
    | (refine wpAny_bind (wpAny_load ho ?_);rw [hc,hd];show wpAny M A (if (["enumerate","zip","dict_itemiterator","dict_reverseitemiterator","odict_iterator","itertools.zip_longest","itertools.pairwise"].contains n && vs[0]? == some (rawInt _)) = true then _ else _) Q E s;rw [if_neg (by intro h;rw [hn,Bool.false_and] at h;cases h)];exact wpAny_pure hQ))
def Itl (K:PySem.W.Frag) (a:Addr):It :=
 ⟨fun i H=>∃ xs x,SqL K H a xs∧xs[i]? = some x,fun i H x H'=>H' = H∧∀ xs,SqL K H a xs→xs[i]? = some x,fun i H=>∃ xs,SqL K H a xs∧xs.length≤i⟩
def Itt (K:PySem.W.Frag) (a:Addr):It :=
 ⟨fun i H=>∃ xs x,SqT K H a xs∧xs[i]? = some x,fun i H x H'=>H' = H∧∀ xs,SqT K H a xs→xs[i]? = some x,fun i H=>∃ xs,SqT K H a xs∧xs.length≤i⟩
def Itr (lo:Int) (n:Nat):It:=⟨fun i _=>i < n,fun i H x H'=>H' = H∧x = .int (lo + i),fun i _=>n≤i⟩
theorem Zg {P:Program}{w:World}{K:PySem.W.Frag}{tg:Expr} (a it:Addr):fj P w K tg (Itl K a) [it] it (fun i h=>h.IsListIter it a i) where
 mem:=by simp
 obj:=fun i h st b hb=>by
  have e:b = it:=by simpa using hb
  subst e
  obtain ⟨o,e,c,d⟩:=st
  exact ⟨o,e,fun v z=>by rw [d] at z;cases z⟩
 keep:=fun i h h' st k=>st.at fun o e=>k it (by simp) o e
 item:=by
  intro X hP hw hK hc i pins s σ H E I hf st hg
  subst hP hw hK
  obtain ⟨xs,x,hq,hx⟩:=hg
  obtain ⟨its,rv,p,hz⟩:=I.list hq
  obtain ⟨u,hu,ru⟩:=rv.get hx
  obtain ⟨f0,f1,f2,f3,f4,f5⟩:=hf it (by simp)
  refine wpAny_pyNext_list_item st p.isList (x:=u) (by simpa using hu) fun h' st' sb=>?_
  have I1:Inv X pins σ H { s with heap:=h' }:=I.turned (t':=s.toks) (fun b o hb e=>(sb.2 b hb).trans e) f0 f1 f3 f4 f5
  obtain ⟨o,e,c,d⟩:=id st'
  exact ⟨u,rfl,U6 (s:={ s with heap:=h' }) e c d (by decide) ⟨x,H,I1,ru,⟨rfl,fun ys hy=>by rw [I.list_inj hy hq];exact hx⟩,st',fun b hb=>(hf b hb).1⟩⟩
 done:=by
  intro X hP hw hK hc i pins s σ H E I hf st hg
  subst hP hw hK
  obtain ⟨xs,hq,hx⟩:=hg
  obtain ⟨its,rv,p,hz⟩:=I.list hq
  obtain ⟨f0,f1,f2,f3,f4,f5⟩:=hf it (by simp)
  have hl:=rv.length
  exact wpAny_pyNext_list_end (I.ok.hd hc) st p.isList (by simp;omega) fun h' eb=>⟨rfl,I.turned (t':=s.toks) (fun b o hb e=>eb b o hb e) f0 f1 f3 f4 f5⟩
 self:=fun _ _ _ _ _ st h=>wpAny_pyIter_listiter st h
theorem p9 {P:Program}{w:World}{K:PySem.W.Frag}{tg:Expr} (a it:Addr):fj P w K tg (Itt K a) [it] it (fun i h=>h.IsTupleIter it a i) where
 mem:=by simp
 obj:=fun i h st b hb=>by
  have e:b = it:=by simpa using hb
  subst e
  obtain ⟨o,e,c,d⟩:=st
  exact ⟨o,e,fun v z=>by rw [d] at z;cases z⟩
 keep:=fun i h h' st k=>st.at fun o e=>k it (by simp) o e
 item:=by
  intro X hP hw hK hc i pins s σ H E I hf st hg
  subst hP hw hK
  obtain ⟨xs,x,hq,hx⟩:=hg
  obtain ⟨its,rv,p,hz⟩:=I.tuple hq
  obtain ⟨u,hu,ru⟩:=rv.get hx
  obtain ⟨f0,f1,f2,f3,f4,f5⟩:=hf it (by simp)
  refine wpAny_pyNext_tuple_item st (show s.heap.IsTuple a its.toArray from p) (x:=u) (by simpa using hu) fun h' st' sb=>?_
  have I1:Inv X pins σ H { s with heap:=h' }:=I.turned (t':=s.toks) (fun b o hb e=>(sb.2 b hb).trans e) f0 f1 f3 f4 f5
  obtain ⟨o,e,c,d⟩:=id st'
  exact ⟨u,rfl,U6 (s:={ s with heap:=h' }) e c d (by decide) ⟨x,H,I1,ru,⟨rfl,fun ys hy=>by rw [I.tuple_inj hy hq];exact hx⟩,st',fun b hb=>(hf b hb).1⟩⟩
 done:=by
  intro X hP hw hK hc i pins s σ H E I hf st hg
  subst hP hw hK
  obtain ⟨xs,hq,hx⟩:=hg
  obtain ⟨its,rv,p,hz⟩:=I.tuple hq
  obtain ⟨f0,f1,f2,f3,f4,f5⟩:=hf it (by simp)
  have hl:=rv.length
  exact wpAny_pyNext_tuple_end (I.ok.hd hc) st (show s.heap.IsTuple a its.toArray from p) (by simp;omega) fun h' eb=>⟨rfl,I.turned (t':=s.toks) (fun b o hb e=>eb b o hb e) f0 f1 f3 f4 f5⟩
 self:=fun _ _ _ _ _ st h=>wpAny_pyIter_tupleiter st h
theorem eh {P:Program}{w:World}{K:PySem.W.Frag}{tg:Expr} (it:Addr) (lo:Int) (n:Nat):fj P w K tg (Itr lo n) [it] it (fun i h=>IsRangeIter h it (lo + (i:Nat) * 1) ((n:Int) - (i:Nat)) 1) where
 mem:=by simp
 obj:=fun i h st b hb=>by
  have e:b = it:=by simpa using hb
  subst e
  exact ⟨_,st,fun v z=>by
   have z':Data.fields _ = Data.cell v:=z
   cases z'⟩
 keep:=fun i h h' st k=>k it (by simp) _ st
 item:=by
  intro X hP hw hK hc i pins s σ H E I hf st hg
  subst hP hw hK
  obtain ⟨f0,f1,f2,f3,f4,f5⟩:=hf it (by simp)
  have W:=Walks.range (prog:=X.prog) (w:=X.w) (I.ok.hd hc) it lo 1 n
  refine W.item i s _ _ hg st fun v h' tk hv st' kk=>?_
  obtain ⟨t,rfl⟩:=hv
  have I1:Inv X pins σ H { s with heap:=h',toks:=tk }:=I.turned (fun b o hb e=>kk b o (by simpa using hb) e) f0 f1 f3 f4 f5
  refine ⟨_,rfl,U6 (s:={ s with heap:=h',toks:=tk }) (n:="range_iterator") st' rfl rfl (by decide) ⟨.int (lo + i),H,I1,⟨t,?_⟩,⟨rfl,rfl⟩,st',fun b hb=>(hf b hb).1⟩⟩
  rw [Int.mul_one]
 done:=by
  intro X hP hw hK hc i pins s σ H E I hf st hg
  subst hP hw hK
  obtain ⟨f0,f1,f2,f3,f4,f5⟩:=hf it (by simp)
  exact wpAny_pyNext_range_end (I.ok.hd hc) st (by have:n≤i:=hg;omega) fun h' eb=>⟨rfl,I.turned (t':=s.toks) (fun b o hb e=>eb b o hb e) f0 f1 f3 f4 f5⟩
 self:=fun _ _ _ _ _ st h=>wpAny_pyIter_rangeiter st h
end L2
namespace L2
open PySem PySem.Spec PyProof.Rows
section
variable {X:Cx}{tg:Expr}
theorem Wt {pins:List (Addr×Obj)}{σ:St}{H:Hp}{s:Shared}{R:It→Hp→Prop}{E:Value→Shared→Prop}{lo hi:Int}{t u v:Tok}{tk:Nat} (I:Inv X pins σ H s) (h1:-(2 ^ 62)≤lo) (h2:lo < 2 ^ 62) (h3:-(2 ^ 62)≤hi) (h4:hi < 2 ^ 62)
  (q:R (Itr lo (hi - lo).toNat) H):wpAny (model X.prog X.w) X.A (pyIter (.ref s.heap.objs.size)) (PIE X pins σ tg R) E { s with heap:=s.heap.push { cls:=.type "range",data:=.fields #[.int lo t,.int hi u,.int 1 v] },toks:=tk }:=by
 refine wpAny_pyIter_range (IsRange.new ..) (small_one h1 h2 h3 h4) ?_
 have I1:Inv X pins σ H { s with heap:=s.heap.push { cls:=.type "range",data:=.fields #[.int lo t,.int hi u,.int 1 v] },toks:=tk }:=I.kept fun b o e=>Heap.get?_push_of_some _ e
 refine ⟨(s.heap.push { cls:=.type "range",data:=.fields #[.int lo t,.int hi u,.int 1 v] }).objs.size,[(s.heap.push { cls:=.type "range",data:=.fields #[.int lo t,.int hi u,.int 1 v] }).objs.size],_,_,H,rfl,
  I1.kept (t':=tk) fun b o e=>Heap.get?_push_of_some _ e,eh _ lo (hi - lo).toNat,?_,fun b hb=>?_,q⟩
 ·have e1:lo + ((0:Nat):Int) * 1 = lo:=by simp
  have e2:(((hi - lo).toNat:Nat):Int) - ((0:Nat):Int) = Builtin.Range.rangeSize lo hi 1:=by rw [rangeSize_one];split <;> omega
  show IsRangeIter _ _ (lo + ((0:Nat):Int) * 1) ((((hi - lo).toNat:Nat):Int) - ((0:Nat):Int)) 1
  rw [e1,e2]
  exact Heap.get?_push_size _ rfl
 ·have e:b = (s.heap.push { cls:=.type "range",data:=.fields #[.int lo t,.int hi u,.int 1 v] }).objs.size:=by simpa using hb
  subst e
  exact I1.fpOk (Nat.le_refl _) (I1.hok.fresh (Nat.le_refl _))
def Me (wi:TI) (g:TG) (tb:TS):TS:=fun D σ H=>wi σ H fun J H1=>∃ W:Nat→Nat→St→Hp→Prop,(∃ m,W 0 m σ H1)∧∀ i m σ H,W i m σ H →
 (J.stop i H∧D.nx σ H)∨(J.go i H∧∃ N:St→Hp→Prop,(∀ σ' H',N σ' H'→∃ m',m' < m∧W (i + 1) m' σ' H')∧∀ x H',J.yld i H x H'→g x σ H' fun σ2 H2=>tb { D with nx:=N,ct:=N,bk:=D.nx } σ2 H2)
def sn (fp:List Addr) (h:Heap):List (Addr×Obj):=fp.filterMap fun b=>(h.get? b).map fun o=>(b,o)
theorem xc {fp:List Addr}{h:Heap}{b:Addr}{o:Obj} (hb:b∈fp) (e:h.get? b = some o):(b,o)∈sn fp h:=List.mem_filterMap.mpr ⟨b,hb,by rw [e];rfl⟩
theorem Ys {fp:List Addr}{h:Heap}{p:Addr×Obj} (hp:p∈sn fp h):p.1∈fp∧h.get? p.1 = some p.2:=by
 obtain ⟨b,hb,e⟩:=List.mem_filterMap.mp hp
 cases q:h.get? b with
 | none=>rw [q] at e;cases e
 | some o =>
  rw [q] at e
  have e':(b,o) = p:=Option.some.inj e
  subst e'
  exact ⟨hb,q⟩
theorem Inv.pinned {pins:List (Addr×Obj)}{σ:St}{H:Hp}{s:Shared}{fp:List Addr} (I:Inv X pins σ H s) (hf:∀ b∈fp,u7 X pins H b) (ho:∀ b∈fp,∃ o,s.heap.get? b = some o∧∀ v,o.data≠.cell v):Inv X (pins ++ sn fp s.heap) σ H s :=
 I.pins_of fun p hp=>(List.mem_append.mp hp).elim (fun z=>I.pin p (List.mem_append_right _ z)) fun z=>by
  obtain ⟨hb,e⟩:=Ys z
  obtain ⟨f0,f1,f2,_⟩:=hf p.1 hb
  obtain ⟨o,e',d⟩:=ho p.1 hb
  rw [e] at e';cases e'
  exact ⟨e,f0,f1,f2,d⟩
theorem Inv.unpinned {pins pl:List (Addr×Obj)}{σ:St}{H:Hp}{s:Shared} (I:Inv X (pins ++ pl) σ H s):Inv X pins σ H s:=I.pins_of fun p hp=>I.pin p (List.mem_append_right _ (List.mem_append_left _ hp))
theorem Qi {iter:Expr}{body:List Stmt}{wi:TI}{g:TG}{tb:TS}{pos:Pos} (hp:PassesOwn (model X.prog X.w) X.A X.env X.xe) (hc:X.calm = true) (hi:PI X tg iter wi) (hg:PG X tg g) (hb:PSs X body tb)
  (hs:∀ x,foldedSetIterable iter X.env x = pure x:=by intro _;rfl):PS X (.For tg iter body [] pos) (Me wi g tb):=by
 intro pins s σ H D I h
 refine wpAny_For (thn (hi pins s σ H _ I h) fun v s1 h1=>thn h1 fun itv s2 h2=>?_) hs
 obtain ⟨it,fp,tn,J,H2,e,I2,T,st2,f2,W,⟨m0,w0⟩,turn⟩:=h2
 subst e
 have stat:∀ {H':Hp},(∀ b∈fp,H' b = none)→∀ b∈fp,u7 X pins H' b:=fun hn b hb=>⟨hn b hb,(f2 b hb).2⟩
 refine codeAny_forLoop_any (fun n s'=>∃ i σ' H',Inv X pins σ' H' s'∧tn i s'.heap∧(∀ b∈fp,H' b = none)∧W i n σ' H') ?_ m0 ⟨0,σ,H2,I2,st2,fun b hb=>(f2 b hb).1,w0⟩
 rintro n s3 ⟨i,σ3,H3,I3,st3,fr3,w3⟩
 rcases turn i n σ3 H3 w3 with ⟨stop,qn⟩ | ⟨go,N,hN,step⟩
 ·refine wpAny_passesOwn hp (thn (T.done X rfl rfl rfl hc i pins s3 σ3 H3 X.xe I3 (stat fr3) st3 stop) fun r s4 ⟨hr,I4⟩=>?_)
  subst hr
  exact wpAny_execs_nil ⟨σ3,H3,I4,qn⟩
 ·refine wpAny_passesOwn hp (thn (T.item X rfl rfl rfl hc i pins s3 σ3 H3 X.xe I3 (stat fr3) st3 go) fun r s4 ⟨u,hr,h4⟩=>?_)
  subst hr
  refine wpAny_passesOwn hp (thn h4 fun _ s5 ⟨x,H5,I5,r5,y5,st5,fr5⟩=>?_)
  have I5':=I5.pinned (stat fr5) (T.obj _ _ st5)
  refine wpAny_passesOwn hp (thn (hg _ s5 σ3 H5 x u _ I5' r5 (step x H5 y5)) fun _ s6 ⟨σ6,H6,I6,q6⟩=>?_)
  refine wpAny_passesOwn hp (thn (hb _ s6 σ6 H6 _ I6 q6) fun f s7 q7=>?_)
  have again:∀ {σ7:St}{H7:Hp},Inv X (pins ++ sn fp s5.heap) σ7 H7 s7→N σ7 H7→∃ m,m < n∧∃ i σ' H',Inv X pins σ' H' s7∧tn i s7.heap∧(∀ b∈fp,H' b = none)∧W i m σ' H':=fun {σ7 H7} I7 n7=>by
   obtain ⟨m',hm,w7⟩:=hN σ7 H7 n7
   refine ⟨m',hm,i + 1,σ7,H7,I7.unpinned,T.keep _ _ _ st5 fun b hb o e=>(I7.pin (b,o) (List.mem_append_right _ (List.mem_append_right _ (xc hb e)))).1,fun b hb=>?_,w7⟩
   obtain ⟨o,e,d⟩:=T.obj _ _ st5 b hb
   exact (I7.pin (b,o) (List.mem_append_right _ (List.mem_append_right _ (xc hb e)))).2.1
  cases f with
  | next=>obtain ⟨σ7,H7,I7,n7⟩:=q7;exact again I7 n7
  | cont=>obtain ⟨σ7,H7,I7,n7⟩:=q7;exact again I7 n7
  | brk=>obtain ⟨σ7,H7,I7,q7⟩:=q7;exact ⟨σ7,H7,I7.unpinned,q7⟩
  | ret v=>obtain ⟨x7,σ7,H7,I7,r7,q7⟩:=q7;exact ⟨x7,σ7,H7,I7.unpinned,r7,q7⟩
end
theorem U2 {K:PySem.W.Frag}{a:Addr}{xs:List V}{g:TG}{tb:TS}{D:ur}{σ:St}{H:Hp} (Pv:Nat→St→Hp→Prop) (h0:Pv 0 σ H) (hl:∀ i σ H,i≤xs.length→Pv i σ H→SqL K H a xs)
  (hs:∀ i x σ H,xs[i]? = some x→Pv i σ H→g x σ H fun σ2 H2=>tb { D with nx:=Pv (i + 1),ct:=Pv (i + 1),bk:=D.nx } σ2 H2) (hd:∀ σ H,Pv xs.length σ H→D.nx σ H) :
  ∃ W:Nat→Nat→St→Hp→Prop,(∃ m,W 0 m σ H)∧∀ i m σ H,W i m σ H →
   ((Itl K a).stop i H∧D.nx σ H)∨((Itl K a).go i H∧∃ N:St→Hp→Prop,(∀ σ' H',N σ' H'→∃ m',m' < m∧W (i + 1) m' σ' H')∧∀ x H',(Itl K a).yld i H x H'→g x σ H' fun σ2 H2=>tb { D with nx:=N,ct:=N,bk:=D.nx } σ2 H2):=by
 refine ⟨fun i m σ H=>m = xs.length - i∧i≤xs.length∧Pv i σ H,⟨xs.length,by simp,Nat.zero_le _,h0⟩,?_⟩
 rintro i m σ H ⟨rfl,hi,p⟩
 have q:=hl i σ H hi p
 by_cases hlt:i < xs.length
 ·refine .inr ⟨⟨xs,xs[i],q,by simp [hlt]⟩,Pv (i + 1),fun σ' H' p'=>⟨xs.length - (i + 1),by omega,rfl,hlt,p'⟩,fun x H' y=>?_⟩
  obtain ⟨e,y⟩:=y
  subst e
  exact hs i x σ _ (y xs q) p
 ·have e:i = xs.length:=by omega
  subst e
  exact .inl ⟨⟨xs,q,Nat.le_refl _⟩,hd σ H p⟩
theorem Sb {K:PySem.W.Frag}{a:Addr}{xs:List V}{g:TG}{tb:TS}{D:ur}{σ:St}{H:Hp} (Pv:Nat→St→Hp→Prop) (h0:Pv 0 σ H) (hl:∀ i σ H,i≤xs.length→Pv i σ H→SqT K H a xs)
  (hs:∀ i x σ H,xs[i]? = some x→Pv i σ H→g x σ H fun σ2 H2=>tb { D with nx:=Pv (i + 1),ct:=Pv (i + 1),bk:=D.nx } σ2 H2) (hd:∀ σ H,Pv xs.length σ H→D.nx σ H) :
  ∃ W:Nat→Nat→St→Hp→Prop,(∃ m,W 0 m σ H)∧∀ i m σ H,W i m σ H →
   ((Itt K a).stop i H∧D.nx σ H)∨((Itt K a).go i H∧∃ N:St→Hp→Prop,(∀ σ' H',N σ' H'→∃ m',m' < m∧W (i + 1) m' σ' H')∧∀ x H',(Itt K a).yld i H x H'→g x σ H' fun σ2 H2=>tb { D with nx:=N,ct:=N,bk:=D.nx } σ2 H2):=by
 refine ⟨fun i m σ H=>m = xs.length - i∧i≤xs.length∧Pv i σ H,⟨xs.length,by simp,Nat.zero_le _,h0⟩,?_⟩
 rintro i m σ H ⟨rfl,hi,p⟩
 have q:=hl i σ H hi p
 by_cases hlt:i < xs.length
 ·refine .inr ⟨⟨xs,xs[i],q,by simp [hlt]⟩,Pv (i + 1),fun σ' H' p'=>⟨xs.length - (i + 1),by omega,rfl,hlt,p'⟩,fun x H' y=>?_⟩
  obtain ⟨e,y⟩:=y
  subst e
  exact hs i x σ _ (y xs q) p
 ·have e:i = xs.length:=by omega
  subst e
  exact .inl ⟨⟨xs,q,Nat.le_refl _⟩,hd σ H p⟩
theorem X6 {lo:Int}{n:Nat}{g:TG}{tb:TS}{D:ur}{σ:St}{H:Hp} (Pv:Nat→St→Hp→Prop) (h0:Pv 0 σ H)
  (hs:∀ i σ H,i < n→Pv i σ H→g (.int (lo + i)) σ H fun σ2 H2=>tb { D with nx:=Pv (i + 1),ct:=Pv (i + 1),bk:=D.nx } σ2 H2) (hd:∀ σ H,Pv n σ H→D.nx σ H) :
  ∃ W:Nat→Nat→St→Hp→Prop,(∃ m,W 0 m σ H)∧∀ i m σ H,W i m σ H →
   ((Itr lo n).stop i H∧D.nx σ H)∨((Itr lo n).go i H∧∃ N:St→Hp→Prop,(∀ σ' H',N σ' H'→∃ m',m' < m∧W (i + 1) m' σ' H')∧∀ x H',(Itr lo n).yld i H x H'→g x σ H' fun σ2 H2=>tb { D with nx:=N,ct:=N,bk:=D.nx } σ2 H2):=by
 refine ⟨fun i m σ H=>m = n - i∧i≤n∧Pv i σ H,⟨n,by simp,Nat.zero_le _,h0⟩,?_⟩
 rintro i m σ H ⟨rfl,hi,p⟩
 by_cases hlt:i < n
 ·refine .inr ⟨hlt,Pv (i + 1),fun σ' H' p'=>⟨n - (i + 1),by omega,rfl,hlt,p'⟩,fun x H' y=>?_⟩
  obtain ⟨e,y⟩:=y
  subst e y
  exact hs i σ _ hlt p
 ·have e:i = n:=by omega
  subst e
  exact .inl ⟨Nat.le_refl _,hd σ H p⟩
end L2
namespace L2
open PySem PySem.Spec PyProof.Rows
abbrev R2:=V→V→Hp→VK→Prop
def OpR (X:Cx) (f:Value→Value→Sem Value) (r:R2):Prop :=
 ∀ (pins:List (Addr×Obj)) (s:Shared) (σ:St) (H:Hp) (x y:V) (v u:Value) (Q:VK),Inv X pins σ H s→RelV x v→RelV y u→r x y H Q →
  wpAny (model X.prog X.w) X.A (f v u) (EP X pins σ Q) X.xe s
def UnR (X:Cx) (f:Value→Sem Value) (r:V→Hp→VK→Prop):Prop :=
 ∀ (pins:List (Addr×Obj)) (s:Shared) (σ:St) (H:Hp) (x:V) (v:Value) (Q:VK),Inv X pins σ H s→RelV x v→r x H Q →
  wpAny (model X.prog X.w) X.A (f v) (EP X pins σ Q) X.xe s
def wm (X:Cx) (f:Value) (r:List V→Hp→VK→Prop):Prop :=
 ∀ (pins:List (Addr×Obj)) (s:Shared) (σ:St) (H:Hp) (xs:List V) (us:List Value) (Q:VK),Inv X pins σ H s→Vals xs us→r xs H Q →
  wpAny (model X.prog X.w) X.A (call f us) (EP X pins σ Q) X.xe s
def tOp (r:R2) (ta tb:TE):TE:=fun σ H Q=>ta σ H fun x H1=>tb σ H1 fun y H2=>r x y H2 Q
def tUn (r:V→Hp→VK→Prop) (ta:TE):TE:=fun σ H Q=>ta σ H fun x H1=>r x H1 Q
def rI (C:Int→Int→Prop) (g:Int→Int→V):R2:=fun x y H Q=>∃ i j,x = .int i∧y = .int j∧C i j∧Q (g i j) H
def rI0 (g:Int→Int→V):R2:=fun x y H Q=>∃ i j,x = .int i∧y = .int j∧Q (g i j) H
def rU (g:Int→V):V→Hp→VK→Prop:=fun x H Q=>∃ i,x = .int i∧Q (g i) H
section
variable {X:Cx}{a b c:Expr}{ta tb tc:TE}{pos:Pos}
theorem O5 (ha:PE X a ta) (hb:PE X b tb) {pins:List (Addr×Obj)}{s:Shared}{σ:St}{H:Hp}{R:V→V→Hp→Prop} (I:Inv X pins σ H s)
  (h:ta σ H fun x H1=>tb σ H1 fun y H2=>R x y H2) {Q:Value→Shared→Prop}{f:Value→Value→Sem Value}
  (hf:∀ v u s2 x y H2,Inv X pins σ H2 s2→RelV x v→RelV y u→R x y H2→wpAny (model X.prog X.w) X.A (f v u) Q X.xe s2) :
  wpAny (model X.prog X.w) X.A (eval a X.env) (fun v s₁=>wpAny (model X.prog X.w) X.A (eval b X.env) (fun u s₂=>wpAny (model X.prog X.w) X.A (f v u) Q X.xe s₂) X.xe s₁) X.xe s:=by
 refine thn (ha pins s σ H _ I h) fun v s1 ⟨x,H1,I1,r1,q1⟩=>?_
 refine thn (hb pins s1 σ H1 _ I1 q1) fun u s2 ⟨y,H2,I2,r2,q2⟩=>?_
 exact hf v u s2 x y H2 I2 r1 r2 q2
theorem zq {op:Operator}{r:R2} (ho:OpR X (binaryOp op) r) (ha:PE X a ta) (hb:PE X b tb):PE X (.BinOp a op b pos) (tOp r ta tb):=by
 intro pins s σ H Q I h
 exact wpAny_BinOp (O5 ha hb I h fun v u s2 x y H2 I2 rx ry q=>ho pins s2 σ H2 x y v u Q I2 rx ry q)
theorem Nx {op:UnaryOp}{r:V→Hp→VK→Prop} (ho:UnR X (unaryOp op) r) (ha:PE X a ta):PE X (.UnaryOp op a pos) (tUn r ta):=by
 intro pins s σ H Q I h
 exact UnaryOp_ (thn (ha pins s σ H _ I h) fun v s1 ⟨x,H1,I1,r1,q1⟩=>ho pins s1 σ H1 x v Q I1 r1 q1)
theorem opI {f:Value→Value→Sem Value}{C:Int→Int→Prop}{g:Int→Int→Int}
  (rule:∀ (i j:Int) (t u:Tok) (s:Shared) (Q:Value→Shared→Prop) (E:Value→Shared→Prop),C i j→Q (.int (g i j) s.toks) { s with toks:=s.toks + 1 }→wpAny (model X.prog X.w) X.A (f (.int i t) (.int j u)) Q E s) :
  OpR X f (rI C fun i j=>.int (g i j)):=by
 intro pins s σ H x y v u Q I rx ry h
 obtain ⟨i,j,rfl,rfl,hc,q⟩:=h
 obtain ⟨t,rfl⟩:=rx
 obtain ⟨t',rfl⟩:=ry
 exact rule i j t t' s _ _ hc ⟨.int (g i j),H,I.tok _,⟨_,rfl⟩,q⟩
theorem Np {f:Value→Value→Sem Value}{g:Int→Int→Int}
  (rule:∀ (i j:Int) (t u:Tok) (s:Shared) (Q:Value→Shared→Prop) (E:Value→Shared→Prop),Q (.int (g i j) s.toks) { s with toks:=s.toks + 1 }→wpAny (model X.prog X.w) X.A (f (.int i t) (.int j u)) Q E s) :
  OpR X f (rI0 fun i j=>.int (g i j)):=by
 intro pins s σ H x y v u Q I rx ry h
 obtain ⟨i,j,rfl,rfl,q⟩:=h
 obtain ⟨t,rfl⟩:=rx
 obtain ⟨t',rfl⟩:=ry
 exact rule i j t t' s _ _ ⟨.int (g i j),H,I.tok _,⟨_,rfl⟩,q⟩
theorem P4 {f:Value→Value→Sem Value}{g:Int→Int→Bool}
  (rule:∀ (i j:Int) (t u:Tok) (s:Shared) (Q:Value→Shared→Prop) (E:Value→Shared→Prop),Q (.bool (g i j)) s→wpAny (model X.prog X.w) X.A (f (.int i t) (.int j u)) Q E s) :
  OpR X f (rI0 fun i j=>.bl (g i j)):=by
 intro pins s σ H x y v u Q I rx ry h
 obtain ⟨i,j,rfl,rfl,q⟩:=h
 obtain ⟨t,rfl⟩:=rx
 obtain ⟨t',rfl⟩:=ry
 exact rule i j t t' s _ _ ⟨.bl (g i j),H,I,rfl,q⟩
def Mh (i j:Int):Prop:=0 < j∧j < 1073741824
def CMul (i j:Int):Prop:=(-(2 ^ 64) < i∧i < 2 ^ 64)∨(-(2 ^ 64) < j∧j < 2 ^ 64)
theorem CMul.ok {i j:Int} (h:CMul i j):IntMulOk i j:=by
 rcases h with ⟨h1,h2⟩ | ⟨h1,h2⟩
 ·exact .of_left (intBits_le_64 h1 h2)
 ·exact .of_right (intBits_le_64 h1 h2)
theorem P5:OpR X (binaryOp .Add) (rI0 fun i j=>.int (i + j)):=Np fun _ _ _ _ _ _ _ q=>add_int q
theorem Qa:OpR X (binaryOp .Sub) (rI0 fun i j=>.int (i - j)):=Np fun _ _ _ _ _ _ _ q=>sub_int q
theorem P9:OpR X (binaryOp .Mult) (rI CMul fun i j=>.int (i * j)):=opI fun _ _ _ _ _ _ _ hc q=>mul_int q hc.ok
theorem Te:OpR X (binaryOp .FloorDiv) (rI Mh fun i j=>.int (i / j)):=opI fun i j _ _ _ _ _ hc q=>by
 have h1:(0:Int) < j:=hc.1
 have h2:j < 1073741824:=hc.2
 exact floordiv_int (by omega) (by rw [Int.fdiv_eq_ediv_of_nonneg i (by omega)];exact q) (.inl (PyProof.noPylong_small (by omega)))
theorem P8:OpR X (binaryOp .Mod) (rI (fun _ j=>0 < j) fun i j=>.int (i % j)):=opI fun i j _ _ _ _ _ hc q=>by
 have h1:(0:Int) < j:=hc
 exact mod_int' (by omega) (by rw [Int.fmod_eq_emod_of_nonneg i (by omega)];exact q)
theorem unI {f:Value→Sem Value}{g:Int→Int}
  (rule:∀ (i:Int) (t:Tok) (s:Shared) (Q:Value→Shared→Prop) (E:Value→Shared→Prop),Q (.int (g i) s.toks) { s with toks:=s.toks + 1 }→wpAny (model X.prog X.w) X.A (f (.int i t)) Q E s) :
  UnR X f (rU fun i=>.int (g i)):=by
 intro pins s σ H x v Q I rx h
 obtain ⟨i,rfl,q⟩:=h
 obtain ⟨t,rfl⟩:=rx
 exact rule i t s _ _ ⟨.int (g i),H,I.tok _,⟨_,rfl⟩,q⟩
theorem Rc:UnR X (unaryOp .USub) (rU fun i=>.int (-i)):=unI fun _ _ _ _ _ q=>neg_int q
end
def Q1:V→V→Bool
 | .non,.non=>true | .non,.int _=>true | .int _,.non=>true | .non,.bl _=>true | .bl _,.non=>true | .non,.str _=>true | .str _,.non=>true
 | .int _,.int _=>true | .bl _,.bl _=>true | .str _,.str _=>true | .byt _,.byt _=>true
 | .int _,.str _=>true | .str _,.int _=>true | .bl _,.str _=>true | .str _,.bl _=>true
 | _,_=>false
def rEq:R2:=fun x y H Q=>Q1 x y = true∧Q (.bl (decide (x = y))) H
def rNe:R2:=fun x y H Q=>Q1 x y = true∧Q (.bl (!decide (x = y))) H
theorem Zv {i j:Int}:decide (V.int i = V.int j) = (i == j):=by
 rw [Bool.eq_iff_iff]
 simp
theorem Uu {i j:Bool}:decide (V.bl i = V.bl j) = (i == j):=by
 rw [Bool.eq_iff_iff]
 simp
theorem Zw {i j:Str}:decide (V.str i = V.str j) = (i == j):=by
 rw [Bool.eq_iff_iff]
 simp
theorem Zu {i j:Array UInt8}:decide (V.byt i = V.byt j) = (i.toList == j.toList):=by
 rw [Bool.eq_iff_iff]
 cases i
 cases j
 simp
section
variable {X:Cx}{a b c:Expr}{ta tb tc:TE}{pos:Pos}
theorem zb {pins:List (Addr×Obj)}{σ:St}{H:Hp}{s:Shared}{Q:VK}{k k':Bool} (I:Inv X pins σ H s) (q:Q (.bl k) H) (e:k = k'):EP X pins σ Q (.bool k') s:=by
 subst e
 exact ⟨.bl k,H,I,rfl,q⟩
theorem Nq:OpR X (compareOp .Eq) rEq:=by
 intro pins s σ H x y v u Q I rx ry h
 obtain ⟨hs,q⟩:=h
 cases x with
 | non =>
  cases rx
  cases y with
  | non=>cases ry;exact PySem.EqNone.eq_none_none (zb I q (by simp))
  | bl j=>cases ry;exact PySem.EqNone.eq_none_bool (zb I q (by simp))
  | int j=>obtain ⟨t',rfl⟩:=ry;exact PySem.EqNone.eq_none_int (zb I q (by simp))
  | str j=>obtain ⟨t',rfl⟩:=ry;exact PySem.EqNone.eq_none_str (zb I q (by simp))
  | _=>exact absurd (show false = true from hs) Bool.false_ne_true
 | bl i =>
  cases rx
  cases y with
  | non=>cases ry;exact PySem.EqNone.eq_bool_none (zb I q (by simp))
  | bl j=>cases ry;exact eq_bool (zb I q Uu)
  | str j=>obtain ⟨t',rfl⟩:=ry;exact PySem.EqMixed.eq_bool_str (zb I q (by simp))
  | _=>exact absurd (show false = true from hs) Bool.false_ne_true
 | int i =>
  obtain ⟨t,rfl⟩:=rx
  cases y with
  | non=>cases ry;exact PySem.EqNone.eq_int_none (zb I q (by simp))
  | int j=>obtain ⟨t',rfl⟩:=ry;exact eq_int (zb I q Zv)
  | str j=>obtain ⟨t',rfl⟩:=ry;exact PySem.EqMixed.eq_int_str (zb I q (by simp))
  | _=>exact absurd (show false = true from hs) Bool.false_ne_true
 | str i =>
  obtain ⟨t,rfl⟩:=rx
  cases y with
  | non=>cases ry;exact PySem.EqNone.eq_str_none (zb I q (by simp))
  | bl j=>cases ry;exact PySem.EqMixed.eq_str_bool (zb I q (by simp))
  | int j=>obtain ⟨t',rfl⟩:=ry;exact PySem.EqMixed.eq_str_int (zb I q (by simp))
  | str j=>obtain ⟨t',rfl⟩:=ry;exact eq_str (zb I q Zw)
  | _=>exact absurd (show false = true from hs) Bool.false_ne_true
 | byt i =>
  obtain ⟨t,rfl⟩:=rx
  cases y with
  | byt j=>obtain ⟨t',rfl⟩:=ry;exact PySem.W.eq_bytes (zb I q Zu)
  | _=>exact absurd (show false = true from hs) Bool.false_ne_true
 | _=>cases y <;> exact absurd (show false = true from hs) Bool.false_ne_true
theorem Nv:OpR X (compareOp .NotEq) rNe:=by
 intro pins s σ H x y v u Q I rx ry h
 obtain ⟨hs,q⟩:=h
 cases x with
 | non =>
  cases rx
  cases y with
  | non=>cases ry;exact PySem.EqNone.ne_none_none (zb I q (by simp))
  | bl j=>cases ry;exact PySem.EqNone.ne_none_bool (zb I q (by simp))
  | int j=>obtain ⟨t',rfl⟩:=ry;exact PySem.EqNone.ne_none_int (zb I q (by simp))
  | str j=>obtain ⟨t',rfl⟩:=ry;exact PySem.EqNone.ne_none_str (zb I q (by simp))
  | _=>exact absurd (show false = true from hs) Bool.false_ne_true
 | bl i =>
  cases rx
  cases y with
  | non=>cases ry;exact PySem.EqNone.ne_bool_none (zb I q (by simp))
  | bl j=>cases ry;exact ne_bool (zb I q (congrArg not Uu))
  | str j=>obtain ⟨t',rfl⟩:=ry;exact PySem.EqMixed.ne_bool_str (zb I q (by simp))
  | _=>exact absurd (show false = true from hs) Bool.false_ne_true
 | int i =>
  obtain ⟨t,rfl⟩:=rx
  cases y with
  | non=>cases ry;exact PySem.EqNone.ne_int_none (zb I q (by simp))
  | int j=>obtain ⟨t',rfl⟩:=ry;exact ne_int (zb I q (congrArg not Zv))
  | str j=>obtain ⟨t',rfl⟩:=ry;exact PySem.EqMixed.ne_int_str (zb I q (by simp))
  | _=>exact absurd (show false = true from hs) Bool.false_ne_true
 | str i =>
  obtain ⟨t,rfl⟩:=rx
  cases y with
  | non=>cases ry;exact PySem.EqNone.ne_str_none (zb I q (by simp))
  | bl j=>cases ry;exact PySem.EqMixed.ne_str_bool (zb I q (by simp))
  | int j=>obtain ⟨t',rfl⟩:=ry;exact PySem.EqMixed.ne_str_int (zb I q (by simp))
  | str j=>obtain ⟨t',rfl⟩:=ry;exact ne_str (zb I q (congrArg not Zw))
  | _=>exact absurd (show false = true from hs) Bool.false_ne_true
 | byt i =>
  obtain ⟨t,rfl⟩:=rx
  cases y with
  | byt j=>obtain ⟨t',rfl⟩:=ry;exact PySem.W.ne_bytes (zb I q (congrArg not Zu))
  | _=>exact absurd (show false = true from hs) Bool.false_ne_true
 | _=>cases y <;> exact absurd (show false = true from hs) Bool.false_ne_true
theorem Nu:OpR X (compareOp .Lt) (rI0 fun i j=>.bl (decide (i < j))):=P4 fun _ _ _ _ _ _ _ q=>lt_int q
theorem Nt:OpR X (compareOp .LtE) (rI0 fun i j=>.bl (decide (i≤j))):=P4 fun _ _ _ _ _ _ _ q=>le_int q
theorem Nr:OpR X (compareOp .Gt) (rI0 fun i j=>.bl (decide (j < i))):=P4 fun _ _ _ _ _ _ _ q=>gt_int q
theorem P7:OpR X (compareOp .Is) (fun x y H Q=>y = .non∧Q (.bl (decide (x = .non))) H):=by
 intro pins s σ H x y v u Q I rx ry h
 obtain ⟨rfl,q⟩:=h
 cases ry
 refine is_none_gen (zb I q ?_)
 cases x <;> first
  | (cases rx;rfl)
  | (obtain ⟨t,rfl⟩:=rx;rfl)
theorem zh (b:Expr) {op:CmpOp} (h:op≠.In:=by decide) (h2:op≠.NotIn:=by decide):behindInMarks op b = false:=by
 have e1:(op == CmpOp.In) = false:=by cases op <;> first | rfl | exact absurd rfl h
 have e2:(op == CmpOp.NotIn) = false:=by cases op <;> first | rfl | exact absurd rfl h2
 cases b <;> simp [behindInMarks,e1,e2]
theorem vv {op:CmpOp}{r:R2} (ho:OpR X (compareOp op) r) (ha:PE X a ta) (hb:PE X b tb) (hm:behindInMarks op b = false):PE X (.Compare a [op] [b] pos) (tOp r ta tb):=by
 intro pins s σ H Q I h
 exact wpAny_Compare1 (O5 ha hb I h fun v u s2 x y H2 I2 rx ry q=>ho pins s2 σ H2 x y v u Q I2 rx ry q) hm
theorem sj:(sizeLine:Nat) < 2 ^ 63:=by rw [sizeLine_eq];decide
theorem dl:OpR X (binaryOp .Add) (fun x y H Q=>∃ i j,x = .str i∧y = .str j∧i.length + j.length≤sizeLine∧Q (.str (i ++ j)) H):=by
 intro pins s σ H x y v u Q I rx ry h
 obtain ⟨i,j,rfl,rfl,hz,q⟩:=h
 obtain ⟨t,rfl⟩:=rx
 obtain ⟨t',rfl⟩:=ry
 exact add_str (fun t' tk=>⟨.str (i ++ j),H,I.tok _,⟨_,rfl⟩,q⟩) hz
theorem ua {x:V}{us:List Value} (r:Vals [x] us):∃ u,us = [u]∧RelV x u:=by
 cases r with
 | cons r1 r2=>cases r2;exact ⟨_,rfl,r1⟩
theorem a9 {x y:V}{us:List Value} (r:Vals [x,y] us):∃ u w',us = [u,w']∧RelV x u∧RelV y w':=by
 cases r with
 | cons r1 r2 =>
  cases r2 with
  | cons r3 r4=>cases r4;exact ⟨_,_,rfl,r1,r3⟩
theorem Uq:wm X (.builtin "abs") (fun xs H Q=>∃ i,xs = [.int i]∧Q (.int (if i < 0 then -i else i)) H):=by
 intro pins s σ H xs us Q I r h
 obtain ⟨i,rfl,q⟩:=h
 obtain ⟨u,rfl,t,rfl⟩:=ua r
 exact call_abs_int fun u tk=>⟨.int (if i < 0 then -i else i),H,I.tok _,⟨_,rfl⟩,q⟩
theorem Xw (hc:X.calm = true):wm X (.builtin "max") (fun xs H Q=>∃ i j,xs = [.int i,.int j]∧Q (.int (if j > i then j else i)) H):=by
 intro pins s σ H xs us Q I r h
 obtain ⟨i,j,rfl,q⟩:=h
 obtain ⟨u,w',rfl,⟨t,rfl⟩,⟨t',rfl⟩⟩:=a9 r
 refine max_two_ints (I.ok.hd hc) fun h' tk k=>⟨_,H,I.kept k,?_,q⟩
 by_cases hj:j > i
 ·rw [if_pos hj,if_pos hj];exact ⟨_,rfl⟩
 ·rw [if_neg hj,if_neg hj];exact ⟨_,rfl⟩
theorem Xx (hc:X.calm = true):wm X (.builtin "min") (fun xs H Q=>∃ i j,xs = [.int i,.int j]∧Q (.int (if j < i then j else i)) H):=by
 intro pins s σ H xs us Q I r h
 obtain ⟨i,j,rfl,q⟩:=h
 obtain ⟨u,w',rfl,⟨t,rfl⟩,⟨t',rfl⟩⟩:=a9 r
 refine min_two_ints (I.ok.hd hc) fun h' tk k=>⟨_,H,I.kept k,?_,q⟩
 by_cases hj:j < i
 ·rw [if_pos hj,if_pos hj];exact ⟨_,rfl⟩
 ·rw [if_neg hj,if_neg hj];exact ⟨_,rfl⟩
end
end L2
namespace L2
open PySem PySem.Spec PyProof.Rows
structure ObjM (h:Heap) (x dx C:Addr) (mA:Str→Option Value):Prop where
 obj:h.get? x = some (PySem.W.instObj C dx)
 ns:h.Ns1 dx mA
 ne:dx≠x
theorem Yl {h:Heap}{dx:Addr}{mA:Str→Option Value} (n:h.Ns1 dx mA):∃ od,h.get? dx = some od∧∀ name,PySem.W.lookIn name od = some (mA name):=by
 obtain ⟨o,es,ep,ho,hd,hk,_,hm⟩:=n
 refine ⟨o,ho,fun name=>?_⟩
 have e:=hm name
 unfold nsFind findBy at e
 rw [← Array.find?_toList] at e
 unfold PySem.W.lookIn
 rw [hd]
 dsimp only
 split
 ·rename_i y q
  rw [q] at e
  exact congrArg some e
 ·rename_i q
  rw [q] at e
  have a:es.toList.any (·.refKey) = false:=by
   rw [List.any_eq_false]
   intro y hy
   obtain ⟨z,t,hkey⟩:=hk y (Array.mem_toList_iff.mp hy)
   simp [DictEntry.refKey,hkey]
  have a':¬ es.toList.any (·.refKey) = true:=by rw [a];exact Bool.false_ne_true
  rw [if_neg a']
  exact congrArg some e
theorem ObjM.look {h:Heap}{x dx C:Addr}{mA:Str→Option Value} (I:ObjM h x dx C mA):∃ od,PySem.W.InstAt h x (PySem.W.instObj C dx) C (some od)∧∀ name,PySem.W.lookIn name od = some (mA name) :=
 let ⟨od,ho,hl⟩:=Yl I.ns
 ⟨od,⟨I.obj,rfl,rfl,ho⟩,hl⟩
section
variable {prog:Program}{w:World}{A:Around}{E:Value→Shared→Prop}{s:Shared}{K:PySem.W.Frag}{x dx C f:Addr}{mA:Str→Option Value}{name:Str}{v:Value}
theorem Sd {expr:Bool}{Q:Value→Shared→Prop} (X:K.In s.heap) (I:ObjM s.heap x dx C mA) (hg:PySem.W.plainGet K C name = true) (hh:PySem.W.hasDictIn K C = true)
  (ha:PySem.W.findIn K (.ref C) name = some none) (hv:mA name = some v) (hv':PySem.W.handedIn v = true) (h:Q v { s with toks:=s.toks + 1 }) :
  wpAny (model prog w) A (getAttr (.ref x) name expr) Q E s:=by
 obtain ⟨od,J,hl⟩:=I.look
 exact PySem.W.get_value X J (PySem.W.plainGet_of hg).1 (PySem.W.findObj_own hh ha rfl (by rw [hl,hv])) hv' h
theorem U4 {pl:Sem Bool}{Q:Value×List Value→Shared→Prop} (X:K.In s.heap) (I:ObjM s.heap x dx C mA) (hg:PySem.W.plainGet K C name = true)
  (hf:PySem.W.findIn K (.ref C) name = some (some (.ref f))) (ht:PySem.W.isFn K (.ref f) = true) (hv:mA name = none) (h:Q (.ref f,[.ref x]) s) :
  wpAny (model prog w) A (getMethod (.ref x) name pl) Q E s:=by
 obtain ⟨od,J,hl⟩:=I.look
 exact PySem.W.method_fn X J (PySem.W.plainGet_of hg).1 (PySem.W.plainGet_of hg).2 hf (beq_iff_eq.mp ht) (by show (PySem.W.lookIn name od).map (·.isSome) = some false;rw [hl,hv];rfl) h
theorem Tx {ns:List Str}{Q:Unit→Shared→Prop} (X:K.In s.heap) (I:ObjM s.heap x dx C mA)
  (hs:PySem.W.findIn K (.ref C) "__setattr__" = some (some (.builtin "object.__setattr__"))) (hp:PySem.W.plainOver K C = true) (ht:PySem.W.takerIn K C name = some none) (hh:PySem.W.hasDictIn K C = true)
  (hw:PySem.Within mA ns) (hsz:ns.length≤sizeLine)
  (h:∀ h',ObjM h' x dx C (fun y=>if y = name then some v else mA y)→Heap.SameBut dx s.heap h'→Q () { s with heap:=h',toks:=s.toks + 2 }) :
  wpAny (model prog w) A (setAttr (.ref x) name v) Q E s:=by
 obtain ⟨od,J,hl⟩:=I.look
 refine PySem.W.set_plain X J hs (PySem.W.osa_open (s:={ s with toks:=s.toks + 1 }) (r:=none) X J hp ht fun b=>?_)
 obtain ⟨cd,hc,hd'⟩:=PySem.W.any_some hh
 have hx:s.heap.get? x = some ⟨.ref C,some dx,.plain,#[]⟩:=I.obj
 refine wpAny_bind (wpAny_pure (wpAny_bind (wpAny_bind (wpAny_loadPart hx (wpAny_bind (PySem.W.Looks.here (s:={ s with toks:=s.toks + 1 }) (PySem.W.looks_clsIn X hc) ?_))))))
 rw [hd']
 refine wpAny_pure (a:=some dx) (wpAny_bind (wpAny_pure (wpAny_bind ?_)))
 refine wpAny_nsSet1 (s:={ s with toks:=s.toks + 1 }) I.ns fun h' hn2 hs2=>?_
 obtain ⟨oD,esD,epD,hoD,hdD,hcD⟩:=hn2.count (PySem.Within.cons name v hw)
 refine wpAny_bind (wpAny_lookBehind hoD (by rw [hdD];exact pastItsLine_dict (Nat.le_trans hcD (by rw [List.length_cons];omega))) ?_)
 exact wpAny_pure (h _ ⟨(hs2.2 _ (Ne.symm I.ne)).trans I.obj,hn2,I.ne⟩ hs2)
theorem Vz {R:Result→Shared→Prop}{vs:List Value}{kw:List (Str×Value)} (X:K.In s.heap) (hm:PySem.W.makesIn K C = true)
  (hi:PySem.W.findIn K (.ref C) "__init__" = some (some (.ref f))) (hf:PySem.W.typeIn K (.ref f) = some (.type "function"))
  (h:codeAny (model prog w) (A.under (.builtin "type.__call__" ⟨.ref C :: vs,kw⟩)) (.call (.ref f) ⟨.ref (s.heap.objs.size + 1) :: vs,kw⟩) (PySem.W.InitBack (s.heap.objs.size + 1) R)
   { s with heap:=(s.heap.push PySem.W.emptyDict).push (PySem.W.instObj C s.heap.objs.size) }) :
  codeAny (model prog w) A (.call (.ref C) ⟨vs,kw⟩) R s:=by
 obtain ⟨hh,g,d,t,os⟩:=s
 exact PySem.W.make_core (PySem.W.makes_of X hm) (PySem.W.looks_findIn X hi) (fun self=>PySem.W.bind_fn X self hf) (.inl rfl) h
theorem Yo {R:Result→Shared→Prop} (X:K.In s.heap) (hm:PySem.W.makesIn K C = true)
  (hi:PySem.W.findIn K (.ref C) "__init__" = some (some (.builtin "object.__init__")))
  (hb:∀ self,PySem.W.Looks (model prog w) s.heap (bindSpecial (.builtin "object.__init__") self) (.builtin "object.__init__",[self]))
  (h:codeAny (model prog w) (A.under (.builtin "type.__call__" ⟨[.ref C],[]⟩)) (.call (.builtin "object.__init__") ⟨[.ref (s.heap.objs.size + 1)],[]⟩) (PySem.W.InitBack (s.heap.objs.size + 1) R)
   { s with heap:=(s.heap.push PySem.W.emptyDict).push (PySem.W.instObj C s.heap.objs.size) }) :
  codeAny (model prog w) A (.call (.ref C) ⟨[],[]⟩) R s:=by
 obtain ⟨hh,g,d,t,os⟩:=s
 exact PySem.W.make_core (PySem.W.makes_of X hm) (PySem.W.looks_findIn X hi) hb (.inr ⟨rfl,rfl⟩) h
end
def uu (f:Str) (v:V):List (Str×V)→List (Str×V)
 | []=>[(f,v)]
 | (g,x) :: r=>if g = f then (g,v) :: r else (g,x) :: uu f v r
theorem rf (f g:Str) (v:V):∀ fs:List (Str×V),(uu f v fs).lookup g = if g = f then some v else fs.lookup g
 | []=>by
  show List.lookup g [(f,v)] = _
  by_cases h:g = f
  ·have hb:(g == f) = true:=beq_iff_eq.mpr h
   simp only [List.lookup,hb,if_pos h]
  ·have hb:(g == f) = false:=beq_eq_false_iff_ne.mpr h
   simp only [List.lookup,hb,if_neg h]
 | (k,x) :: r=>by
  have ih:=rf f g v r
  rw [show uu f v ((k,x) :: r) = (if k = f then (k,v) :: r else (k,x) :: uu f v r) from rfl]
  by_cases hk:k = f
  ·rw [if_pos hk]
   by_cases h:g = k
   ·have hb:(g == k) = true:=beq_iff_eq.mpr h
    simp only [List.lookup,hb,if_pos (h.trans hk)]
   ·have hb:(g == k) = false:=beq_eq_false_iff_ne.mpr h
    simp only [List.lookup,hb,if_neg (fun e:g = f=>h (e.trans hk.symm))]
  ·rw [if_neg hk]
   by_cases h:g = k
   ·have hb:(g == k) = true:=beq_iff_eq.mpr h
    simp only [List.lookup,hb,if_neg (fun e:g = f=>hk (h.symm.trans e))]
   ·have hb:(g == k) = false:=beq_eq_false_iff_ne.mpr h
    simp only [List.lookup,hb]
    exact ih
theorem sh (f:Str) (v:V):∀ fs:List (Str×V),f∈(uu f v fs).map (·.1)∧∀ g,g∈fs.map (·.1)→g∈(uu f v fs).map (·.1)
 | []=>⟨by simp [uu],fun g h=>by simp at h⟩
 | (k,x) :: r=>by
  obtain ⟨i1,i2⟩:=sh f v r
  rw [show uu f v ((k,x) :: r) = (if k = f then (k,v) :: r else (k,x) :: uu f v r) from rfl]
  by_cases hk:k = f
  ·rw [if_pos hk]
   subst hk
   exact ⟨by simp,fun g h=>by simpa using h⟩
  ·rw [if_neg hk]
   refine ⟨?_,fun g h=>?_⟩
   ·rw [List.map_cons]
    exact List.mem_cons_of_mem _ i1
   ·rw [List.map_cons] at h ⊢
    rcases List.mem_cons.mp h with e | e
    ·exact List.mem_cons.mpr (.inl e)
    ·exact List.mem_cons_of_mem _ (i2 g e)
theorem q5 (f:Str) (v:V):∀ fs:List (Str×V),(uu f v fs).length≤fs.length + 1
 | []=>by simp [uu]
 | (k,x) :: r=>by
  have ih:=q5 f v r
  rw [show uu f v ((k,x) :: r) = (if k = f then (k,v) :: r else (k,x) :: uu f v r) from rfl]
  by_cases hk:k = f
  ·rw [if_pos hk,List.length_cons,List.length_cons];omega
  ·rw [if_neg hk,List.length_cons,List.length_cons];omega
theorem RelO.some_of {v:V}{o:Option Value} (r:RelO (some v) o):∃ u,o = some u∧RelV v u:=by
 cases o with
 | none=>exact (show False from r).elim
 | some u=>exact ⟨u,rfl,r⟩
theorem RelO.none_of {o:Option Value} (r:RelO none o):o = none:=by
 cases o with
 | none=>rfl
 | some u=>exact (show False from r).elim
theorem X7 {v:V}{u:Value} (r:RelV v u):PySem.W.handedIn u = true:=by
 cases v with
 | non=>cases (show u = Value.none from r);rfl
 | bl b=>cases (show u = Value.bool b from r);rfl
 | int i=>obtain ⟨t,e⟩:=(show ∃ t,u = Value.int i t from r);cases e;rfl
 | str x=>obtain ⟨t,e⟩:=(show ∃ t,u = Value.str x t from r);cases e;rfl
 | byt b=>obtain ⟨t,e⟩:=(show ∃ t,u = Value.bytes b t from r);cases e;rfl
 | flt b=>obtain ⟨t,e⟩:=(show ∃ t,u = Value.float b t from r);cases e;rfl
 | ref a=>cases (show u = Value.ref a from r);rfl
 | ty n=>cases (show u = Value.type n from r);rfl
section
variable {P:Program}{w:World}{H H':Hp}{h h':Heap}{a C dx:Addr}{fs fs':List (Str×V)}
theorem qe (hok:HOk P w H h) (e:H a = some (.ins C dx fs)):∃ mA,ObjM h a dx C mA∧(∀ f,RelO (fs.lookup f) (mA f))∧PySem.Within mA (fs.map (·.1))∧fs.length≤1000∧H dx = some (.own a):=by
 obtain ⟨d,z,ne,ob,mA,n,r,q⟩:=(show ObjOk P w H h a (.ins C dx fs) from hok a _ e)
 exact ⟨mA,⟨ob,n,ne⟩,r,q,z,d⟩
end
structure Cls (K:PySem.W.Frag) (C:Addr):Prop where
 pg:PySem.W.plainGet K C Str.empty = true
 hd:PySem.W.hasDictIn K C = true
 po:PySem.W.plainOver K C = true
 sa:PySem.W.findIn K (.ref C) "__setattr__" = some (some (.builtin "object.__setattr__"))
theorem Cls.get {K:PySem.W.Frag}{C:Addr} (c:Cls K C) (f:Str):PySem.W.plainGet K C f = true:=c.pg
def NoAttr (K:PySem.W.Frag) (C:Addr) (f:Str):Prop:=PySem.W.findIn K (.ref C) f = some none
theorem NoAttr.taker {K:PySem.W.Frag}{C:Addr}{f:Str} (n:NoAttr K C f):PySem.W.takerIn K C f = some none:=by
 unfold PySem.W.takerIn
 rw [show PySem.W.findIn K (.ref C) f = some none from n]
 rfl
structure Con (K:PySem.W.Frag) (C:Addr) (f:Str) (v:V) (u:Value):Prop where
 at_:PySem.W.findIn K (.ref C) f = some (some u)
 rel:RelV v u
 get:PySem.W.specialIn K u "__get__" = some none
 cp:PySem.W.copiedNames.contains f = false
structure Rw (K:PySem.W.Frag) (C:Addr) (m:Str) (f:Addr):Prop where
 at_:PySem.W.findIn K (.ref C) m = some (some (.ref f))
 fn:PySem.W.isFn K (.ref f) = true
 kp:PySem.W.keepIn K (.ref f) = true
section
variable {X:Cx}{pins:List (Addr×Obj)}{σ:St}{H:Hp}{s:Shared}{a C dx:Addr}{fs:List (Str×V)}{f:Str}{v:V}{A:Around}{E:Value→Shared→Prop}
theorem bv {b:Bool}{Q:Value→Shared→Prop} (I:Inv X pins σ H s) (e:H a = some (.ins C dx fs)) (c:Cls X.K C) (n:NoAttr X.K C f) (l:fs.lookup f = some v)
  (h:∀ u s',Inv X pins σ H s'→RelV v u→Q u s'):wpAny (model X.prog X.w) A (getAttr (.ref a) f b) Q E s:=by
 obtain ⟨mA,O,r,_,_,_⟩:=qe I.hok e
 obtain ⟨u,hu,ru⟩:=RelO.some_of (v:=v) (o:=mA f) (by rw [← l];exact r f)
 exact Sd I.kIn O (c.get f) c.hd n hu (X7 ru) (h u _ (I.tok _) ru)
theorem bw {m:Str}{g:Addr}{pl:Sem Bool}{Q:Value×List Value→Shared→Prop} (I:Inv X pins σ H s) (e:H a = some (.ins C dx fs)) (c:Cls X.K C) (k:Rw X.K C m g) (l:fs.lookup m = none)
  (h:Q (.ref g,[.ref a]) s):wpAny (model X.prog X.w) A (getMethod (.ref a) m pl) Q E s:=by
 obtain ⟨mA,O,r,_,_,_⟩:=qe I.hok e
 have hn:mA m = none:=RelO.none_of (by rw [← l];exact r m)
 exact U4 I.kIn O (c.get m) k.at_ k.fn hn h
theorem dz {y:V}{u:Value}{Q:Unit→Shared→Prop} (I:Inv X pins σ H s) (e:H a = some (.ins C dx fs)) (c:Cls X.K C) (n:NoAttr X.K C f) (hl:fs.length < 1000) (ry:RelV y u)
  (h:∀ s',Inv X pins σ (upd H a (.ins C dx (uu f y fs))) s'→Q () s'):wpAny (model X.prog X.w) A (setAttr (.ref a) f u) Q E s:=by
 obtain ⟨mA,O,r,wi,_,ho⟩:=qe I.hok e
 have hz:(fs.map (·.1)).length≤sizeLine:=by rw [List.length_map,sizeLine_eq];omega
 refine Tx I.kIn O c.sa c.po n.taker c.hd wi hz fun h' O' sb=>h _ ?_
 have hd:∃ o,h'.get? dx = some o:=let ⟨o,_,_,e',_⟩:=O'.ns;⟨o,e'⟩
 refine I.write (x:=a) (e:=dx) (by rw [e];exact True.intro) (.inr ho) (fun b q hb z=>(sb.2 b hb).trans z) hd ?_
 refine ⟨by rw [zk O.ne];exact ho,?_,O.ne,O'.obj,_,O'.ns,fun g=>?_,fun g hg=>?_⟩
 ·have:=q5 f y fs;omega
 ·show RelO ((uu f y fs).lookup g) (if g = f then some u else mA g)
  rw [rf]
  by_cases q:g = f
  ·rw [if_pos q,if_pos q];exact ry
  ·rw [if_neg q,if_neg q];exact r g
 ·by_cases q:g = f
  ·rw [q];exact (sh f y fs).1
  ·refine (sh f y fs).2 g (wi g fun z=>hg ?_)
   show (if g = f then some u else mA g) = none
   rw [if_neg q];exact z
theorem Inv.made (I:Inv X pins σ H s):Inv X pins σ (upd (upd H s.heap.objs.size (.own (s.heap.objs.size + 1))) (s.heap.objs.size + 1) (.ins C s.heap.objs.size []))
  { s with heap:=(s.heap.push PySem.W.emptyDict).push (PySem.W.instObj C s.heap.objs.size) }:=by
 have e1:(s.heap.push PySem.W.emptyDict).get? s.heap.objs.size = some PySem.W.emptyDict:=Heap.get?_push_size s.heap rfl
 have e2:((s.heap.push PySem.W.emptyDict).push (PySem.W.instObj C s.heap.objs.size)).get? (s.heap.objs.size + 1) = some (PySem.W.instObj C s.heap.objs.size):=by
  have:=Heap.get?_push_size (s.heap.push PySem.W.emptyDict) (o:=PySem.W.instObj C s.heap.objs.size) rfl
  rwa [Heap.size_push] at this
 have e3:(s.heap.push PySem.W.emptyDict).Ns s.heap.objs.size (fun _=>none):=⟨PySem.W.emptyDict,#[],_,e1,rfl,(fun e he=>absurd he (by simp)),fun _=>rfl⟩
 have I1:=I.laid (a:=s.heap.objs.size) (o:=.own (s.heap.objs.size + 1)) (h':=s.heap.push PySem.W.emptyDict) (t':=s.toks) (fun b u q=>Heap.get?_push_of_some _ q) (Nat.le_refl _) ⟨_,e1⟩
 refine I1.laid (a:=s.heap.objs.size + 1) (o:=.ins C s.heap.objs.size []) (t':=s.toks) (fun b u q=>Heap.get?_push_of_some _ q) (Nat.le_of_eq (Heap.size_push _ _)) ?_
 have ne:s.heap.objs.size≠s.heap.objs.size + 1:=Nat.ne_of_lt (Nat.lt_succ_self _)
 refine ⟨by rw [zk ne,zw],Nat.zero_le _,ne,e2,fun _=>none,(Heap.Ns1.of_empty e3).at fun o q=>Heap.get?_push_of_some _ q,fun _=>True.intro,fun y hy=>absurd rfl hy⟩
theorem R4 {prog:Program}{w:World}{env:Env}{e:Expr}{f:Str}{pos:Pos}{s:Shared}{Q:Value→Shared→Prop} (hb:attributeBase e f env (eval e env) = eval e env)
  (h:wpAny (model prog w) A (eval e env) (fun o s₁=>wpAny (model prog w) A (getAttr o f true) Q E s₁) E s):wpAny (model prog w) A (eval (.Attribute e f pos) env) Q E s :=
 Attribute_any_ h (by rw [arm_eval_Attribute,hb])
end
def Md (K:PySem.W.Frag) (ta:TE) (f:Str):TE:=fun σ H Q=>ta σ H fun x H1=>∃ a C dx fs v,x = .ref a∧H1 a = some (.ins C dx fs)∧Cls K C∧NoAttr K C f∧fs.lookup f = some v∧Q v H1
def Os (K:PySem.W.Frag) (ta tv:TE) (f:Str):TS:=fun D σ H=>tv σ H fun y H1=>ta σ H1 fun x H2=>∃ a C dx fs,x = .ref a∧H2 a = some (.ins C dx fs)∧Cls K C∧NoAttr K C f∧fs.length < 1000 ∧
 D.nx σ (upd H2 a (.ins C dx (uu f y fs)))
section
variable {X:Cx}{o e value:Expr}{f:Str}{pos pos' tpos:Pos}{ta tv:TE}
theorem Qc (he:PE X e ta) (hb:attributeBase e f X.env (eval e X.env) = eval e X.env):PE X (.Attribute e f pos) (Md X.K ta f):=by
 intro pins s σ H Q I h
 refine R4 hb (thn (he pins s σ H _ I h) fun u s1 ⟨x,H1,I1,rx,a,C,dx,fs,v,ex,ea,c,n,l,q⟩=>?_)
 subst ex
 obtain rfl:u = Value.ref a:=rx
 exact bv I1 ea c n l fun u' s2 I2 ru=>⟨v,H1,I2,ru,q⟩
theorem Qh (ha:PE X o ta) (hv:PE X value tv) (hs:swapsWith value (some (.Attribute o f pos')) pos.line X.env = pure false):PS X (.Assign [.Attribute o f pos'] value pos) (Os X.K ta tv f):=by
 intro pins s σ H D I h
 refine plainObj_wpAny_Assign_Attribute (thn (hv pins s σ H _ I h) fun u s1 ⟨y,H1,I1,ry,q⟩=>thn (ha pins s1 σ H1 _ I1 q) fun ov s2 ⟨x,H2,I2,rx,a,C,dx,fs,ex,ea,c,n,l,q2⟩=>?_) hs
 subst ex
 obtain rfl:ov = Value.ref a:=rx
 exact dz I2 ea c n l ry fun s3 I3=>⟨σ,_,I3,q2⟩
end
section
variable {X:Cx}{pins:List (Addr×Obj)}{σ:St}{H:Hp}{s:Shared}{A:Around}{E:Value→Shared→Prop}{Q:Value→Shared→Prop}{c:Value}{b:Bool}
inductive TyOf (K:PySem.W.Frag) (H:Hp):V→Value→Prop where
 | non:TyOf K H .non (.type "NoneType")
 | bl (x:Bool):TyOf K H (.bl x) (.type "bool")
 | int (i:Int):TyOf K H (.int i) (.type "int")
 | str (x:Str):TyOf K H (.str x) (.type "str")
 | flt (x:UInt64):TyOf K H (.flt x) (.type "float")
 | lst {a:Addr}{xs:List V} (e:H a = some (.lst xs)):TyOf K H (.ref a) (.type "list")
 | frz {a:Addr}{o:Obj}{xs:List V} (e:H a = some (.frz o (.lst xs))):TyOf K H (.ref a) (.type "list")
 | tup {a:Addr}{xs:List V} (e:H a = some (.tup xs)):TyOf K H (.ref a) (.type "tuple")
 | dK {a:Addr}{kvs:List (Key×V)} (e:H a = some (.dK kvs)):TyOf K H (.ref a) (.type "dict")
 | dT {a:Addr}{kvs:List (List Key×V)} (e:H a = some (.dT kvs)):TyOf K H (.ref a) (.type "dict")
 | ins {a C dx:Addr}{fs:List (Str×V)} (e:H a = some (.ins C dx fs)) (cl:Cls K C) (ha:PySem.W.findIn K (.ref C) "__class__" = some (some (.builtin "object.__class__")))
   (hn:PySem.W.specialIn K (.builtin "object.__class__") "__get__" = some (some (.builtin "getset_descriptor.__get__"))) (htk:PySem.W.takesIn K (.builtin "object.__class__") = some true)
   (hm:PySem.W.mroIn K C (.type "object") = some true):TyOf K H (.ref a) (.ref C)
theorem Yb {x:V}{u t:Value} (I:Inv X pins σ H s) (rx:RelV x u) (ty:TyOf X.K H x t) (e:PySem.W.kitOne X.K t c = some b) (h:∀ tk,Q (.bool b) { s with toks:=tk }) :
  wpAny (model X.prog X.w) A (call (.builtin "isinstance") [u,c]) Q E s:=by
 cases ty with
 | non=>cases (show u = Value.none from rx);exact PySem.W.kia_one PySem.W.kitx_none I.kIn True.intro e (fun z=>nomatch z) h
 | bl y=>cases (show u = Value.bool y from rx);exact PySem.W.kia_one PySem.W.kitx_bool I.kIn True.intro e (fun z=>nomatch z) h
 | int i=>obtain ⟨t,q⟩:=(show ∃ t,u = Value.int i t from rx);cases q;exact PySem.W.kia_one PySem.W.kitx_int I.kIn True.intro e (fun z=>nomatch z) h
 | str y=>obtain ⟨t,q⟩:=(show ∃ t,u = Value.str y t from rx);cases q;exact PySem.W.kia_one PySem.W.kitx_str I.kIn True.intro e (fun z=>nomatch z) h
 | flt y=>obtain ⟨t,q⟩:=(show ∃ t,u = Value.float y t from rx);cases q;exact PySem.W.kia_one PySem.W.kitx_float I.kIn True.intro e (fun z=>nomatch z) h
 | @lst a xs ea =>
  cases (show u = Value.ref a from rx)
  obtain ⟨_,_,n,_,h1⟩:=(show ObjOk X.prog X.w H s.heap a (.lst xs) from I.hok a _ ea)
  exact PySem.W.kia_one PySem.W.kitx_list I.kIn ⟨_,h1,rfl⟩ e (fun z=>nomatch z) h
 | @frz a ob xs ea =>
  cases (show u = Value.ref a from rx)
  obtain ⟨_,_,_,n,_,h1⟩:=(show ObjOk X.prog X.w H s.heap a (.frz ob (.lst xs)) from I.hok a _ ea)
  exact PySem.W.kia_one PySem.W.kitx_list I.kIn ⟨_,h1,rfl⟩ e (fun z=>nomatch z) h
 | @tup a xs ea =>
  cases (show u = Value.ref a from rx)
  obtain ⟨_,_,_,p⟩:=(show ObjOk X.prog X.w H s.heap a (.tup xs) from I.hok a _ ea)
  obtain ⟨o,h1,h2,_⟩:=p
  exact PySem.W.kia_one PySem.W.kitx_tuple I.kIn ⟨o,h1,h2⟩ e (fun z=>nomatch z) h
 | @dK a kvs ea =>
  cases (show u = Value.ref a from rx)
  obtain ⟨_,_,vs,_,p⟩:=(show ObjOk X.prog X.w H s.heap a (.dK kvs) from I.hok a _ ea)
  obtain ⟨o,es,ep,h1,h2,_⟩:=p
  exact PySem.W.kia_one PySem.W.kitx_dict I.kIn ⟨o,h1,h2.1⟩ e (fun z=>nomatch z) h
 | @dT a kvs ea =>
  cases (show u = Value.ref a from rx)
  obtain ⟨_,_,xs,_,o,es,ep,h1,h2,_⟩:=(show ObjOk X.prog X.w H s.heap a (.dT kvs) from I.hok a _ ea)
  exact PySem.W.kia_one PySem.W.kitx_dict I.kIn ⟨o,h1,h2.1⟩ e (fun z=>nomatch z) h
 | @ins a C dx fs ea cl ha hn htk hm =>
  cases (show u = Value.ref a from rx)
  obtain ⟨mA,O,_⟩:=qe I.hok ea
  obtain ⟨od,J,_⟩:=O.look
  exact PySem.W.kia_one (PySem.W.kitx_own (cl.get _) cl.hd ha hn htk hm) I.kIn J e (fun z=>nomatch z) h
end
end L2
namespace L2
open PySem PySem.Spec PyProof.Rows
structure Room (k:Nat) (A:Around):Prop where
 hd:A.handled = none
 dp:A.depth + 3 * k + 5 < recursionLimit
 un:A.units + 16 * k + 200 < cLine
theorem Room.mono {j k:Nat}{A:Around} (r:Room k A) (h:j≤k):Room j A:=⟨r.hd,by have:=r.dp;omega,by have:=r.un;omega⟩
theorem Room.deeper {k:Nat}{A:Around} (r:Room (k + 1) A) (env:Env):Room k (A.deeper env) :=
 ⟨r.hd,by have:=r.dp;show A.depth + 1 + 3 * k + 5 < _;omega,by have:=r.un;show A.units + 3 + 16 * k + 200 < _;omega⟩
theorem Room.in1 {k:Nat}{A:Around} (r:Room (k + 1) A):Room k A.in1 :=
 ⟨r.hd,by have:=r.dp;show A.depth + 3 * k + 5 < _;omega,by have:=r.un;show A.units + 1 + 16 * k + 200 < _;omega⟩
theorem cr {A:Around}{C:Addr}{us:List Value}{kw:List (Str×Value)}:(A.under (.builtin "type.__call__" ⟨.ref C :: us,kw⟩)).depth = A.depth + 1:=by
 first | rfl | simp [Around.under,Code.weight,Code.isCreation,Code.isGuard,Code.isCaller,Code.frames,Code.isFrame,guardIds]
theorem cu {A:Around}{C:Addr}{us:List Value}{kw:List (Str×Value)}:(A.under (.builtin "type.__call__" ⟨.ref C :: us,kw⟩)).units = A.units + 1:=by
 first | rfl | simp [Around.under,Code.cUnits,Code.frames,Code.isFrame]
theorem Room.make {k:Nat}{A:Around} (r:Room (k + 1) A) (C:Addr) (us:List Value) (kw:List (Str×Value)):Room k (A.under (.builtin "type.__call__" ⟨.ref C :: us,kw⟩)) :=
 ⟨r.hd,by have:=r.dp;rw [cr];omega,by have:=r.un;rw [cu];omega⟩
theorem Room.depth {k:Nat}{A:Around} (r:Room k A):A.depth < recursionLimit:=by have:=r.dp;omega
theorem Room.units {k:Nat}{A:Around} (r:Room k A):A.units + 64 < cLine:=by have:=r.un;omega
def Ua:TA:=fun _ H Q=>Q [] H
def Rt (ta:TE) (tr:TA):TA:=fun σ H Q=>ta σ H fun x H1=>tr σ H1 fun xs H2=>Q (x :: xs) H2
section
variable {X:Cx}{e:Expr}{es:List Expr}{te:TE}{t:TA}{pos:Pos}
theorem z6:PA X [] Ua:=fun _ _ _ _ H Q I h=>Calls.spliced_nil ⟨[],H,I,.nil,h⟩
theorem z9 (ha:PE X e te) (hr:PA X es t) (hs:starEach (e :: es) X.env = (false,eval e X.env) :: starEach es X.env:=by rfl):PA X (e :: es) (Rt te t):=by
 intro pos pins s σ H Q I h
 rw [hs]
 show wpAny _ _ (spliced ((false,eval e X.env) :: backTo pos (starEach es X.env))) _ _ s
 refine Calls.spliced_cons (thn (ha pins s σ H _ I h) fun u s1 ⟨x,H1,I1,r1,q1⟩=>?_)
 exact thn (hr pos pins s1 σ H1 _ I1 q1) fun us s2 ⟨xs,H2,I2,r2,q2⟩=>⟨x :: xs,H2,I2,.cons r1 r2,q2⟩
end
abbrev Sp:=List V→Hp→VK→XK→Prop
abbrev CXT:=List Env→Hp→Shared→XK→Value→Shared→Prop
structure Env0 (P:Program) (w:World) (K:PySem.W.Frag) (mg:Str→Option Value) (base:Heap) (A:Around) (outer:List Env) (s:Shared) (H:Hp):Prop where
 frames:A.frames = some outer
 mod:Mod K mg base
 bs:∀ b o,base.get? b = some o→s.heap.get? b = some o∧H b = none
 bsz:base.objs.size≤s.heap.objs.size
 funs:s.heap.FunFrames base outer
 frf:∀ b∈frs outer,H b = none
 hok:HOk P w H s.heap
 bare:AllBare s.gens
def CE (outer:List Env) (P:Program) (w:World) (H:Hp) (s:Shared) (Q:VK) (u:Value) (s':Shared):Prop :=
 ∃ v H',s'.os = s.os∧AllBare s'.gens∧Un (frs outer) [] H H' s.heap s'.heap∧HOk P w H' s'.heap∧RelV v u∧Q v H'
def CR (CX:CXT) (outer:List Env) (P:Program) (w:World) (H:Hp) (s:Shared) (Q:VK) (E:XK) (r:Result) (s':Shared):Prop :=
 match r with
 | .ok (.ret u)=>CE outer P w H s Q u s'
 | .ok _=>False
 | .error e=>CX outer H s E e s'
structure FnOk (P:Program) (w:World) (K:PySem.W.Frag) (mg:Str→Option Value) (base:Heap) (CX:CXT) (k:Nat) (f:Addr) (fd:FuncData) (ps:List Str) (sp:Sp):Prop where
 len:∀ vs H Q E,sp vs H Q E→vs.length = ps.length
 run:∀ (A:Around) (outer:List Env) (s:Shared) (H:Hp) (args:Args) (us:List Value) (vs:List V) (Q:VK) (E:XK),Room k A→Env0 P w K mg base A outer s H→BindsTo s fd args (ps.zip us)→Vals vs us→sp vs H Q E →
  codeAny (model P w) A (.call (.ref f) args) (CR CX outer P w H s Q E) s
theorem FnOk.mono {P:Program}{w:World}{K:PySem.W.Frag}{mg:Str→Option Value}{base:Heap}{CX:CXT}{j k:Nat}{f:Addr}{fd:FuncData}{ps:List Str}{sp:Sp} (F:FnOk P w K mg base CX j f fd ps sp) (h:j≤k) :
  FnOk P w K mg base CX k f fd ps sp:=⟨F.len,fun A outer s H args us vs Q E hr=>F.run A outer s H args us vs Q E (hr.mono h)⟩
theorem Env0.make {P:Program}{w:World}{K:PySem.W.Frag}{mg:Str→Option Value}{base:Heap}{A:Around}{outer:List Env}{s:Shared}{H:Hp} (e:Env0 P w K mg base A outer s H) (C:Addr) (us:List Value) (kw:List (Str×Value)) :
  Env0 P w K mg base (A.under (.builtin "type.__call__" ⟨.ref C :: us,kw⟩)) outer s H:=⟨by first | exact e.frames | (simpa [Around.under,Code.envs,Code.isFrame,pushEnvs] using e.frames),e.mod,e.bs,e.bsz,e.funs,e.frf,e.hok,e.bare⟩
section
variable {X:Cx}{pins:List (Addr×Obj)}{σ:St}{H:Hp}{s s':Shared}
theorem Inv.env0 (I:Inv X pins σ H s):Env0 X.prog X.w X.K X.mg X.base X.A X.stack s H :=
 ⟨I.ok.frames,I.ok.mod,I.bs,Nat.le_trans I.ok.bsz I.sz,I.stack,I.stkFree,I.hok,I.bare⟩
theorem Inv.after {Q:VK}{u:Value} (I:Inv X pins σ H s) (h:CE X.stack X.prog X.w H s Q u s'):EP X pins σ Q u s':=by
 obtain ⟨v,H',os,bare,un,hok,r,q⟩:=h
 obtain ⟨hh,g,d,t,os'⟩:=s'
 obtain rfl:os' = s.os:=os
 exact ⟨v,H',I.call (h':=hh) (g':=g) (d':=d) (t':=t) (ch:=[]) un hok bare (fun b z=>absurd z (by simp)),r,q⟩
end
def Xg (sp:Sp) (dvs:List V) (E:XK) (t:TA):TE:=fun σ H Q=>t σ H fun vs H1=>sp (vs ++ dvs) H1 Q E
def Rv (C:Addr) (m:Str) (sp:Sp) (dvs:List V) (E:XK) (ta:TE) (t:TA):TE:=fun σ H Q=>ta σ H fun x H1=>∃ a dx fs,x = .ref a∧H1 a = some (.ins C dx fs)∧fs.lookup m = none ∧
 t σ H1 fun vs H2=>sp (x :: (vs ++ dvs)) H2 Q E
def Xh (C:Addr) (sp:Sp) (dvs:List V) (E:XK) (t:TA):TE:=fun σ H Q=>t σ H fun vs H1=>∀ x dx,H1 x = none→H1 dx = none→dx≠x →
 sp (.ref x :: (vs ++ dvs)) (upd (upd H1 dx (.own x)) x (.ins C dx [])) (fun v H2=>v = .non∧Q (.ref x) H2) E
def Binds (K:PySem.W.Frag) (fd:FuncData) (ps:List Str) (ds:List Value):Prop :=
 ∀ (s:Shared) (us:List Value),K.In s.heap→(us ++ ds).length = ps.length→BindsTo s fd ⟨us,[]⟩ (ps.zip (us ++ ds))
theorem Binds.all {K:PySem.W.Frag}{fd:FuncData}{ps:List Str} (h:∀ us:List Value,us.length = ps.length→bindArgs fd ⟨us,[]⟩ = pure (ps.zip us)):Binds K fd ps []:=fun s us _ hl=>by
 rw [List.append_nil] at hl ⊢
 exact .of_eq (h us hl)
def rz (CX:CXT) (X:Cx) (E:XK):Prop:=∀ (pins:List (Addr×Obj)) (σ:St) (H:Hp) (s:Shared) (e:Value) (s':Shared),Inv X pins σ H s→CX X.stack H s E e s'→X.xe e s'
section
variable {X:Cx}{CX:CXT}{k:Nat}{f C:Addr}{fd:FuncData}{ps:List Str}{sp:Sp}{dvs:List V}{ds:List Value}{E:XK}{x m:Str}{p pos apos:Pos}{e o:Expr}{es:List Expr}{ta:TE}{t:TA}
theorem Ww {pins:List (Addr×Obj)}{σ:St}{H:Hp}{s:Shared}{Q:VK}{us:List Value}{vs:List V} (F:FnOk X.prog X.w X.K X.mg X.base CX k f fd ps sp) (hr:Room k X.A) (hb:Binds X.K fd ps ds) (hd:Vals dvs ds) (hx:rz CX X E)
  (I:Inv X pins σ H s) (r:Vals vs us) (h:sp (vs ++ dvs) H Q E):wpAny (model X.prog X.w) X.A (call (.ref f) us) (EP X pins σ Q) X.xe s:=by
 have r2:Vals (vs ++ dvs) (us ++ ds):=r.append hd
 have hl:(us ++ ds).length = ps.length:=by rw [← r2.length];exact F.len _ _ _ _ h
 refine wpAny_call (codeAny_mono (F.run X.A X.stack s H ⟨us,[]⟩ (us ++ ds) (vs ++ dvs) Q E hr I.env0 (hb s us I.kIn hl) r2 h) fun r s' hq=>?_)
 cases r with
 | error e=>exact hx pins σ H s e s' I hq
 | ok fl =>
  cases fl with
  | ret u=>exact I.after hq
  | next=>exact False.elim hq
  | brk=>exact False.elim hq
  | cont=>exact False.elim hq
theorem Th (F:FnOk X.prog X.w X.K X.mg X.base CX k f fd ps sp) (hr:Room k X.A) (hg:Gl X x) (hm:X.mg x = some (.ref f)) (hk:PySem.W.keepIn X.K (.ref f) = true) (hb:Binds X.K fd ps ds) (hd:Vals dvs ds) (hx:rz CX X E)
  (ha:PA X (e :: es) t) (hdb:(x == ("__debug__":Str)) = false:=by decide) (he:starEach (e :: es) X.env = (false,eval e X.env) :: starEach es X.env:=by rfl) (hpl:(backTo pos (starEach es X.env)).any (·.1) = false:=by rfl) :
  PE X (.Call (.Name x p) (e :: es) [] pos) (Xg sp dvs E t):=by
 intro pins s σ H Q I h
 refine wpAny_Call_Name_kw (jh I hg hm ?_ hdb)
 refine PySem.W.callWith_K (h₀:=X.base) I.ok.mod.kin hk (thn (ha pos pins s σ H _ I h) fun us s1 ⟨vs,H1,I1,r,q⟩=>⟨I1.kIn,?_⟩) he hpl
 exact Ww F hr hb hd hx I1 r q
theorem Ti {pl:Sem Bool} (he:PE X o ta) (c:Cls X.K C) (hm:Rw X.K C m f) (F:FnOk X.prog X.w X.K X.mg X.base CX k f fd ps sp) (hr:Room k X.A) (hb:Binds X.K fd ps ds) (hd:Vals dvs ds) (hx:rz CX X E) (ha:PA X (e :: es) t)
  (hst:starEach (e :: es) X.env = (false,eval e X.env) :: starEach es X.env:=by rfl) (hpl:(backTo pos (starEach es X.env)).any (·.1) = false:=by rfl)
  (ht:eval (.Call (.Attribute o m apos) (e :: es) [] pos) X.env = (do
   let ov ← eval o X.env
   standAt apos.atName
   let (f,first) ← holding [ov] (getMethod ov m pl)
   callWith pos f first (backTo pos (starEach (e :: es) X.env)) (backToKw pos (keywordEach [] X.env))):=by rfl) :
  PE X (.Call (.Attribute o m apos) (e :: es) [] pos) (Rv C m sp dvs E ta t):=by
 intro pins s σ H Q I h
 refine PySem.W.methodCall_KW (pl:=pl) (thn (he pins s σ H _ I h) fun u s1 ⟨x,H1,I1,rx,a,dx,fs,ex,ea,l,q⟩=>?_) ht
 subst ex
 obtain rfl:u = Value.ref a:=rx
 refine bw I1 ea c hm l ?_
 refine PySem.W.callWith_K (first:=[.ref a]) (h₀:=X.base) I.ok.mod.kin hm.kp (thn (ha pos pins s1 σ H1 _ I1 q) fun us s2 ⟨vs,H2,I2,r,q2⟩=>⟨I2.kIn,?_⟩) hst hpl
 exact Ww (us:=.ref a :: us) (vs:=.ref a :: vs) F hr hb hd hx I2 (.cons rfl r) q2
structure Mk (K:PySem.W.Frag) (C f:Addr):Prop where
 makes:PySem.W.makesIn K C = true
 init:PySem.W.findIn K (.ref C) "__init__" = some (some (.ref f))
 fn:PySem.W.isFn K (.ref f) = true
 kp:PySem.W.keepIn K (.ref C) = true
theorem Wy {pins:List (Addr×Obj)}{σ:St}{H:Hp}{s:Shared}{Q:VK}{us:List Value}{vs:List V} (M:Mk X.K C f) (F:FnOk X.prog X.w X.K X.mg X.base CX k f fd ps sp) (hr:Room (k + 1) X.A) (hb:Binds X.K fd ps ds) (hd:Vals dvs ds)
  (hx:rz CX X E) (I:Inv X pins σ H s) (r:Vals vs us)
  (h:∀ x dx,H x = none→H dx = none→dx≠x→sp (.ref x :: (vs ++ dvs)) (upd (upd H dx (.own x)) x (.ins C dx [])) (fun v H2=>v = .non∧Q (.ref x) H2) E) :
  wpAny (model X.prog X.w) X.A (call (.ref C) us) (EP X pins σ Q) X.xe s:=by
 have hq:=h (s.heap.objs.size + 1) s.heap.objs.size (I.hok.fresh (Nat.le_succ _)) (I.hok.fresh (Nat.le_refl _)) (Nat.ne_of_lt (Nat.lt_succ_self _))
 have I2:=Inv.made (C:=C) I
 have r2:Vals (V.ref (s.heap.objs.size + 1) :: (vs ++ dvs)) (Value.ref (s.heap.objs.size + 1) :: (us ++ ds)):=.cons rfl (r.append hd)
 have hl:(Value.ref (s.heap.objs.size + 1) :: us ++ ds).length = ps.length:=by
  have e:=r2.length
  rw [F.len _ _ _ _ hq] at e
  exact e.symm
 refine wpAny_call (Vz (f:=f) I.kIn M.makes M.init (beq_iff_eq.mp M.fn) (codeAny_mono (F.run _ X.stack _ _ ⟨Value.ref (s.heap.objs.size + 1) :: us,[]⟩ (Value.ref (s.heap.objs.size + 1) :: (us ++ ds)) _ _ E (hr.make C us [])
  (I2.env0.make C us []) (hb _ (Value.ref (s.heap.objs.size + 1) :: us) I2.kIn hl) r2 hq) fun r s' hq'=>?_))
 cases r with
 | error e=>exact hx pins σ _ _ e s' I2 hq'
 | ok fl =>
  cases fl with
  | ret u =>
   obtain ⟨v,H',I3,rv,ev,q3⟩:=I2.after hq'
   subst ev
   exact ⟨rv,⟨V.ref (s.heap.objs.size + 1),H',I3,rfl,q3⟩⟩
  | next=>exact False.elim hq'
  | brk=>exact False.elim hq'
  | cont=>exact False.elim hq'
theorem Wi (M:Mk X.K C f) (F:FnOk X.prog X.w X.K X.mg X.base CX k f fd ps sp) (hr:Room (k + 1) X.A) (hg:Gl X x) (hm:X.mg x = some (.ref C)) (hb:Binds X.K fd ps ds) (hd:Vals dvs ds) (hx:rz CX X E)
  (hdb:(x == ("__debug__":Str)) = false:=by decide):PE X (.Call (.Name x p) [] [] pos) (Xh C sp dvs E Ua):=by
 intro pins s σ H Q I h
 refine wpAny_Call_Name_kw (jh I hg hm ?_ hdb)
 exact PySem.W.callWith_K0 I.kIn M.kp (Wy (us:=[]) M F hr hb hd hx I .nil h)
end
section
variable {X:Cx}{CX:CXT}{k:Nat}{f C:Addr}{fd:FuncData}{ps ks:List Str}{sp:Sp}{E:XK}{x m:Str}{p pos apos kpos:Pos}{e o:Expr}{es:List Expr}{kws:List Keyword}{te ta:TE}{t tk:TA}{nm:Option Str}
structure Lh (K:PySem.W.Frag) (fd:FuncData) (ps ks:List Str) (g:List Value→List Value→List Value) (gV:List V→List V→List V):Prop where
 to:∀ (s:Shared) (us ws:List Value),K.In s.heap→(g us ws).length = ps.length→BindsTo s fd ⟨us,ks.zip ws⟩ (ps.zip (g us ws))
 rel:∀ {vs:List V}{us:List Value}{zs:List V}{ws:List Value},Vals vs us→Vals zs ws→Vals (gV vs zs) (g us ws)
variable {g:List Value→List Value→List Value}{gV:List V→List V→List V}
end
structure zu (N P:List Str) (sc:Scope):Prop where
 kind:sc.kind = .function
 co:sc.isCoroutine = false
 gen:sc.isGenerator = false
 nd:N.Nodup
 pre:N.take P.length = P
 par:∀ x∈P,sc.names.lookup x = some .local∨sc.names.lookup x = some .cell
 nofree:∀ y∈sc.names,y.2≠.free
theorem ke {kindOf:Str→Option NameKind}{x:Str}:∀ {binds:List (Str×Value)}{m:Str→Option Value},(∀ v,(x,v) ∉ binds)→bindL kindOf binds m x = m x
 | [],_,_=>rfl
 | (n,v) :: r,m,h=>by
  unfold bindL
  rw [ke fun w hw=>h w (List.mem_cons_of_mem _ hw)]
  split
  ·have:x≠n:=by rintro rfl;exact h v List.mem_cons_self
   simp [this]
  ·rfl
theorem kc {kindOf:Str→Option NameKind}{x:Str}:∀ {binds:List (Str×Value)}{m:Str→Option Value},(∀ v,(x,v) ∉ binds)→bindC kindOf binds m x = m x
 | [],_,_=>rfl
 | (n,v) :: r,m,h=>by
  unfold bindC
  rw [kc fun w hw=>h w (List.mem_cons_of_mem _ hw)]
  split
  ·rfl
  ·have:x≠n:=by rintro rfl;exact h v List.mem_cons_self
   simp [this]
theorem kd {kindOf:Str→Option NameKind}{x:Str}{v:Value}:∀ {P:List Str}{vs:List Value}{i:Nat}{m:Str→Option Value},P.Nodup→P[i]? = some x→vs[i]? = some v→kindOf x = some .local →
  bindL kindOf (P.zip vs) m x = some v
 | [],_,_,_,_,h,_,_=>by simp at h
 | _ :: _,[],_,_,_,_,h,_=>by simp at h
 | p :: P,w :: vs,0,m,nd,h1,h2,hk=>by
  simp at h1 h2;subst h1;subst h2
  show bindL kindOf ((p,w) :: P.zip vs) m p = _
  unfold bindL
  rw [ke fun v hv=>(List.nodup_cons.mp nd).1 (List.of_mem_zip hv).1,if_pos hk]
  simp
 | p :: P,w :: vs,i + 1,m,nd,h1,h2,hk=>by
  show bindL kindOf ((p,w) :: P.zip vs) m x = _
  unfold bindL
  exact kd (i:=i) (List.nodup_cons.mp nd).2 (by simpa using h1) (by simpa using h2) hk
theorem ka {kindOf:Str→Option NameKind}{x:Str}{v:Value}:∀ {P:List Str}{vs:List Value}{i:Nat}{m:Str→Option Value},P.Nodup→P[i]? = some x→vs[i]? = some v→kindOf x≠some .local →
  bindC kindOf (P.zip vs) m x = some v
 | [],_,_,_,_,h,_,_=>by simp at h
 | _ :: _,[],_,_,_,_,h,_=>by simp at h
 | p :: P,w :: vs,0,m,nd,h1,h2,hk=>by
  simp at h1 h2;subst h1;subst h2
  show bindC kindOf ((p,w) :: P.zip vs) m p = _
  unfold bindC
  rw [kc fun v hv=>(List.nodup_cons.mp nd).1 (List.of_mem_zip hv).1,if_neg hk]
  simp
 | p :: P,w :: vs,i + 1,m,nd,h1,h2,hk=>by
  show bindC kindOf ((p,w) :: P.zip vs) m x = _
  unfold bindC
  exact ka (i:=i) (List.nodup_cons.mp nd).2 (by simpa using h1) (by simpa using h2) hk
def wf (N:List Str) (vs:List V):St:=vs.map some ++ List.replicate (N.length - vs.length) none
def sf (CX:CXT) (P:Program) (w:World) (K:PySem.W.Frag) (mg:Str→Option Value) (base:Heap) (N:List Str) (qual:Str) (scope:Scope) (f:Addr) (cd:Value) (A:Around) (outer:List Env) (s:Shared) (H:Hp) (E:XK):Cx where
 prog:=P
 w:=w
 K:=K
 mg:=mg
 base:=base
 A:=A.deeper (envOfC qual scope s.heap.objs.size f cd)
 N:=N
 s₀:=s
 H₀:=H
 env:=envOfC qual scope s.heap.objs.size f cd
 outer:=outer
 stack:=envOfC qual scope s.heap.objs.size f cd :: outer
 ex:=[]
 calm:=true
 fn:=fun _=>true
 pn:=[]
 xe:=fun e s'=>wpAny (model P w) (A.deeper (envOfC qual scope s.heap.objs.size f cd)) (leaving (envOfC qual scope s.heap.objs.size f cd) e) (fun _ s''=>CX outer H s E e s'') (fun e' s''=>CX outer H s E e' s'') s'
theorem ft {sc:Scope}{n:Nat}{x:Str} (h:sc.names.lookup x = some .cell):∃ c,(cellsFrom n sc.names []).lookup x = some c:=by
 have q:=PySem.W.cellsFrom_some sc.names n [] (.inl h)
 exact Option.isSome_iff_exists.mp q
theorem X9 {CX:CXT}{P:Program}{w:World}{K:PySem.W.Frag}{mg:Str→Option Value}{base:Heap}{N ps:List Str}{qual:Str}{scope:Scope}{f:Addr}{cd:Value}{A:Around}{outer:List Env}{s s1:Shared}{H:Hp}{E:XK}{us:List Value}{vs:List V}
  (S:zu N ps scope) (hd:A.handled = none) (e0:Env0 P w K mg base A outer s H) (hl:vs.length = ps.length) (r:Vals vs us)
  (x:InCallC s s.heap.objs.size (bindL (envOfC qual scope s.heap.objs.size f cd).kindOf (ps.zip us) fun _=>none) (cellsFrom (s.heap.objs.size + 1) scope.names []) (bindC (envOfC qual scope s.heap.objs.size f cd).kindOf (ps.zip us) fun _=>none) s1) :
  Inv (sf CX P w K mg base N qual scope f cd A outer s H E) [] (wf N vs) H s1:=by
 have hpl:ps.length≤N.length:=by have:=congrArg List.length S.pre;rw [List.length_take] at this;omega
 obtain ⟨h1,tk,rfl,hk⟩:=x.done
 have noA:∀ b:Addr,b ∉ (sf CX P w K mg base N qual scope f cd A outer s H E).ex:=fun b z=>absurd (show b∈([]:List Addr) from z) (by simp)
 refine ⟨⟨e0.mod,S.kind,rfl,rfl,Nat.le_refl _,fun y z c h1 h2=>?_,fun y hy=>?_,fun y c _ h=>?_,fun _=>hd,Around.frames_deeper e0.frames,.inr ⟨rfl,rfl⟩,fun b z=>absurd z (noA b),e0.bs,e0.bsz,fun b _ _=>noA b,fun b z=>absurd z (noA b),e0.funs,e0.frf⟩,
  rfl,e0.bare,Un.kept hk,⟨_,x.toInCall.ns,fun i y v h1 h2 h3=>?_⟩,fun y c h=>⟨_,x.cell y c h⟩,e0.hok.fresh (Nat.le_refl _),fun y c h=>?_,fun p hp=>absurd (show p∈([]:List (Addr×Obj)) from hp) (by simp),e0.hok.kept hk,?_⟩
 ·exact name_of_addr x.apart (PySem.mem_of_lookup h1) (PySem.mem_of_lookup h2)
 ·have hy:scope.names.lookup y = some .cell∨scope.names.lookup y = some .free:=hy
  rcases hy with hy | hy
  ·exact ft hy
  ·exact absurd rfl (S.nofree _ (PySem.mem_of_lookup hy))
 ·exact Nat.le_of_lt (x.above y c (PySem.mem_of_lookup h))
 ·have hi:i < vs.length:=by
   unfold wf at h2
   by_cases hi:i < vs.length
   ·exact hi
   ·rw [List.getElem?_append_right (by simpa using hi)] at h2
    rw [List.getElem?_replicate] at h2
    split at h2 <;> cases h2
  have ha:vs[i]? = some v:=by
   unfold wf at h2
   rw [List.getElem?_append_left (by simpa using hi),List.getElem?_map] at h2
   cases e:vs[i]? with
   | none=>rw [e] at h2;cases h2
   | some a=>rw [e] at h2;cases h2;rfl
  obtain ⟨u,hu,rv⟩:=r.get ha
  have hp:ps[i]? = some y:=by
   rw [← S.pre,List.getElem?_take_of_lt (by omega)];exact h1
  have ndP:ps.Nodup:=by rw [← S.pre];exact S.nd.sublist (List.take_sublist _ _)
  refine ⟨u,rv,?_⟩
  rcases S.par y (List.mem_of_getElem? hp) with k | k
  ·exact .inl ⟨k,kd ndP hp hu k⟩
  ·obtain ⟨c,e⟩:=ft (n:=s.heap.objs.size + 1) k
   refine .inr ⟨.inl k,c,e,?_⟩
   have q:=x.cell y c e
   rw [ka ndP hp hu (by show scope.names.lookup y≠_;rw [k];decide)] at q
   exact q
 ·exact e0.hok.fresh (Nat.le_of_lt (x.above y c (PySem.mem_of_lookup h)))
 ·unfold wf
  show _ = N.length
  rw [List.length_append,List.length_map,List.length_replicate]
  omega
theorem Zz {CX:CXT}{P:Program}{w:World}{K:PySem.W.Frag}{mg:Str→Option Value}{base:Heap}{k:Nat}{f:Addr}{name qual:Str}{params:Arguments}{body:List Stmt}{scope:Scope}{dV kV doc pm cdv ct oc:Value}{an od:Option Addr}
  {osl:Array (Option Value)}{N ps:List Str}{sp:Sp} (lk:K.lookup f = some ⟨oc,od,.func (PySem.W.fnOf name qual params body scope dV kV doc pm an cdv ct),osl⟩) (hcd:PySem.W.codeIn K cdv qual = true) (S:zu N ps scope)
  (len:∀ vs H Q E,sp vs H Q E→vs.length = ps.length)
  (hbody:∀ (A:Around) (outer:List Env) (s:Shared) (H:Hp) (vs:List V) (Q:VK) (E:XK),Room k (A.deeper (envOfC qual scope s.heap.objs.size f cdv))→sp vs H Q E →
   ∃ t,PSs (sf CX P w K mg base N qual scope f cdv A outer s H E) body t∧t { nx:=fun _ H'=>Q .non H',rt:=Q } (wf N vs) H) :
  FnOk P w K mg base CX (k + 1) f (PySem.W.fnOf name qual params body scope dV kV doc pm an cdv ct) ps sp:=by
 refine ⟨len,fun A outer s H args us vs Q E hr e0 hb r hsp=>?_⟩
 have hl:=len _ _ _ _ hsp
 have KX:K.In s.heap:=e0.mod.kin.keeps fun b o e=>(e0.bs b o e).1
 have lim:s.heap.NoLimit:=e0.mod.nolimit.keeps fun b o e=>(e0.bs b o e).1
 have hkind:∀ y∈ps.zip us,scope.names.lookup y.1 = some .local∨(scope.names.lookup y.1 = some .cell∧((cellsFrom (s.heap.objs.size + 1) scope.names []).lookup y.1).isSome = true):=fun ⟨n,v⟩ hy=>by
  rcases S.par n (List.of_mem_zip hy).1 with q | q
  ·exact .inl q
  ·exact .inr ⟨q,PySem.W.cellsFrom_some _ _ _ (.inl q)⟩
 refine codeAny_call_function hr.depth (KX _ _ lk) rfl S.co S.gen rfl (PySem.W.codeRec_of KX hcd) (hb _ _ _ _ ?_)
 refine wpAny_newFunctionEnv_cells S.kind hkind fun env he s1 x=>?_
 subst he
 refine ⟨lim.keeps x.toInCall.keep,codeAny_func ?_⟩
 obtain ⟨t,ht,hq⟩:=hbody A outer s H vs Q E (hr.deeper _) hsp
 have I:Inv (sf CX P w K mg base N qual scope f cdv A outer s H E) [] (wf N vs) H s1:=X9 S hr.hd e0 hl r x
 refine wpAny_mono (ht [] s1 (wf N vs) H _ I hq) (fun fl s' hs=>?_) fun e s' hs=>hs
 have fin:∀ {σ':St}{H':Hp}{v:V}{u:Value},Inv (sf CX P w K mg base N qual scope f cdv A outer s H E) [] σ' H' s'→RelV v u→Q v H'→CE outer P w H s Q u s' :=
  fun {σ' H' v u} J rv q=>⟨v,H',J.os,J.bare,J.base,J.hok,rv,q⟩
 cases fl with
 | ret u =>
  obtain ⟨v,σ',H',J,rv,q⟩:=hs
  exact fin J rv q
 | next =>
  obtain ⟨σ',H',J,q⟩:=hs
  exact fin (v:=V.non) (u:=Value.none) J rfl q
 | brk =>
  obtain ⟨_,_,_,q⟩:=hs
  exact False.elim q
 | cont =>
  obtain ⟨_,_,_,q⟩:=hs
  exact False.elim q
end L2
namespace L2
open PySem PySem.Spec PyProof.Rows
section
variable {X:Cx}{x:Str}{p pos:Pos}{e:Expr}{es:List Expr}{t:TA}{id T:String}{r:List V→Hp→VK→Prop}
def tCB (r:List V→Hp→VK→Prop) (t:TA):TE:=fun σ H Q=>t σ H fun vs H1=>r vs H1 Q
theorem zp (hc:wm X (.builtin id) r) (hg:Gl X x) (hm:X.mg x = none) (hv:bootBuiltins x = some (.builtin id)) (ha:PA X (e :: es) t) (hn:x≠"__name__":=by decide) (hdb:(x == ("__debug__":Str)) = false:=by decide)
  (he:starEach (e :: es) X.env = (false,eval e X.env) :: starEach es X.env:=by rfl) (hpl:(backTo pos (starEach es X.env)).any (·.1) = false:=by rfl):PE X (.Call (.Name x p) (e :: es) [] pos) (tCB r t):=by
 intro pins s σ H Q I h
 refine wpAny_Call_Name_kw (xb I hg hm hv ?_ hn hdb)
 exact PyProof.Rows.callWith_builtin1 (thn (ha pos pins s σ H _ I h) fun us s1 ⟨vs,H1,I1,r1,q1⟩=>hc pins s1 σ H1 vs us Q I1 r1 q1) he hpl
theorem za (hc:wm X (.type T) r) (hg:Gl X x) (hm:X.mg x = none) (hv:bootBuiltins x = some (.type T)) (ha:PA X (e :: es) t) (hn:x≠"__name__":=by decide) (hdb:(x == ("__debug__":Str)) = false:=by decide)
  (he:starEach (e :: es) X.env = (false,eval e X.env) :: starEach es X.env:=by rfl) (hpl:(backTo pos (starEach es X.env)).any (·.1) = false:=by rfl):PE X (.Call (.Name x p) (e :: es) [] pos) (tCB r t):=by
 intro pins s σ H Q I h
 refine wpAny_Call_Name_kw (xb I hg hm hv ?_ hn hdb)
 exact PyProof.Rows.callWith_type1 (thn (ha pos pins s σ H _ I h) fun us s1 ⟨vs,H1,I1,r1,q1⟩=>hc pins s1 σ H1 vs us Q I1 r1 q1) he hpl
end
end L2
namespace HT
open PySem PyProof.Rows
section
open PySem.SeqAt
open PySem.AutoSeq1 (wpAny_loadPart')
open PySem.MeetsSeq PySem.MeetsSeq2 PySem.MeetsSeq3
end
section
variable {prog:Program}{w:World}{A:Around}{E:Value→Shared→Prop}{s:Shared}
theorem cat_tup {t b:Addr}{vs ws:List Value}{Q:Value→Shared→Prop} (ht:IsTup s.heap t vs.toArray) (hb:IsTup s.heap b ws.toArray) (hv:vs≠[])
  (h1:ws = []→Q (.ref t) s) (h2:ws≠[]→Q (.ref s.heap.objs.size) { s with heap:=s.heap.push { cls:=.type "tuple",data:=.seq (vs ++ ws).toArray } })
  (hsz:vs.length + ws.length≤sizeLine):wpAny (model prog w) A (binaryOp .Add (.ref t) (.ref b)) Q E s:=by
 obtain ⟨⟨cls,dd,data,sl⟩,ho,hc,n,hd⟩:=id ht
 obtain ⟨⟨cls2,dd2,data2,sl2⟩,ho2,hc2,n2,hd2⟩:=id hb
 simp only at hc hd hc2 hd2
 subst hc hd hc2 hd2
 have e:vs.toArray ++ ws.toArray = (vs ++ ws).toArray:=by simp
 by_cases hw:ws = []
 ·exact concat_meets ⟨_,ho,rfl⟩ ⟨_,ho2,rfl⟩ noFill_tuple_add seq_tuple_add PySem.F.slot_tuple_add PySem.F.entry_tuple_add (PySem.F.args_tuple_add_2 _ _)
   (tuple_addW1 t b vs.toArray ws.toArray n n2 dd dd2 sl sl2 (by simpa using hv) (by simp [hw])) ⟨ho,ho2,h1 hw⟩
 ·refine concat_meets ⟨_,ho,rfl⟩ ⟨_,ho2,rfl⟩ noFill_tuple_add seq_tuple_add PySem.F.slot_tuple_add PySem.F.entry_tuple_add (PySem.F.args_tuple_add_2 _ _)
   (tuple_addW2 t b vs.toArray ws.toArray n n2 dd dd2 sl sl2 (by simpa using hv) (by simpa using hw) (by rw [List.size_toArray,List.size_toArray];exact hsz)) ⟨ho,ho2,?_⟩
  rw [e]
  exact h2 hw
def sIx (n d:Nat):Option Int→Nat
 | none=>d
 | some v=>if v < 0 then (v + (n:Int)).toNat else min v.toNat n
theorem sIx_none (n d:Nat):sIx n d none = d:=rfl
theorem Q0 (n d:Nat) (hd:d≤n) (o:Option Int):sIx n d o≤n:=by
 cases o with
 | none=>exact hd
 | some v =>
  show (if v < 0 then (v + (n:Int)).toNat else min v.toNat n)≤n
  by_cases hv:v < 0
  ·rw [if_pos hv];omega
  ·rw [if_neg hv];exact Nat.min_le_right _ _
theorem Zs (v:Int) (n d:Nat):(if v < 0 then max (v + (n:Int)) 0 else min v (n:Int)) = ((sIx n d (some v):Nat):Int):=by
 show (if v < 0 then max (v + (n:Int)) 0 else min v (n:Int)) = (((if v < 0 then (v + (n:Int)).toNat else min v.toNat n):Nat):Int)
 by_cases hv:v < 0
 ·simp only [if_pos hv];omega
 ·simp only [if_neg hv];omega
theorem bc (lo hi:Option Int) (n:Nat):Builtin.Slice.sliceAdjust lo hi 1 (n:Int) = (((sIx n 0 lo:Nat):Int),((sIx n n hi:Nat):Int)):=by
 have h1:¬ ((1:Int) < 0):=by omega
 unfold Builtin.Slice.sliceAdjust
 simp only [h1,if_false]
 refine Prod.ext ?_ ?_
 ·cases lo with
  | none=>rfl
  | some v=>exact Zs v n 0
 ·cases hi with
  | none=>rfl
  | some v=>exact Zs v n n
theorem dt (i j:Nat):Builtin.Slice.slicePlaces (i:Int) (j:Int) 1 = j - i:=by
 unfold Builtin.Slice.slicePlaces
 have h1:(1:Int) > 0:=by omega
 simp only [h1,if_true,Int.ediv_one]
 split <;> omega
theorem pf {v:Value}{o:Option Int}{Q:Option Int→Shared→Prop} (p:IsPart v o) (h:Q o s):wpAny (model prog w) A (Builtin.Slice.slicePartIndex v) Q E s:=by
 cases p with
 | none=>exact slicePart_none h
 | int i t=>exact slicePart_int h
theorem sliceApplied_gen {sl:Addr}{vl vu:Value}{lo hi:Option Int}{n:Nat}{Q:Int×Int×Nat→Shared→Prop} (hs:s.heap.IsSliceOf sl vl vu .none) (pl:IsPart vl lo) (pu:IsPart vu hi)
  (h:Q (((sIx n 0 lo:Nat):Int),1,sIx n n hi - sIx n 0 lo) s):wpAny (model prog w) A (Builtin.Slice.sliceApplied (.ref sl) (pure (n:Int))) Q E s:=by
 obtain ⟨os,hos,hcs,hds⟩:=id hs
 unfold Builtin.Slice.sliceApplied Builtin.Slice.sliceFields
 refine wpAny_bind (wpAny_bind (wpAny_field hos hds (x:=vl) rfl (wpAny_bind (wpAny_field hos hds (x:=vu) rfl (wpAny_bind (wpAny_field hos hds (x:=.none) rfl (wpAny_pure ?_)))))))
 refine wpAny_bind (slicePart_none ?_)
 show wpAny _ _ (if ((1:Int) == 0) = true then _ else _) _ _ s
 rw [if_neg (by decide)]
 refine wpAny_bind (pf pl (wpAny_bind (pf pu (wpAny_bind (wpAny_pure ?_)))))
 show wpAny _ _ (match Builtin.Slice.sliceAdjust lo hi 1 (n:Int) with | (lo,hi)=>pure (lo,(1:Int),Builtin.Slice.slicePlaces lo hi 1)) _ _ s
 rw [bc lo hi n]
 show wpAny _ _ (pure (((sIx n 0 lo:Nat):Int),(1:Int),Builtin.Slice.slicePlaces ((sIx n 0 lo:Nat):Int) ((sIx n n hi:Nat):Int) 1)) _ _ s
 rw [dt]
 exact wpAny_pure h
theorem Wn (xs:Array Value) (i k:Nat):((List.range k).filterMap fun (m:Nat)=>xs[((i:Int) + (m:Int) * 1).toNat]?).toArray = ((xs.toList.drop i).take k).toArray:=by
 have e:(fun (m:Nat)=>xs[((i:Int) + (m:Int) * 1).toNat]?) = fun m=>xs[i + m]?:=by
  funext m
  have:((i:Int) + (m:Int) * 1).toNat = i + m:=by omega
  rw [this]
 rw [e]
 have:=pick_run xs i k
 rw [List.filterMap_map] at this
 have e2:((fun x=>xs[x]?) ∘ fun x=>i + x) = fun m=>xs[i + m]?:=rfl
 rw [e2] at this
 rw [this]
theorem getItem_tuple_cut {t sl:Addr}{items:Array Value}{vl vu:Value}{lo hi:Option Int}{Q:Value→Shared→Prop} (ht:IsTup s.heap t items) (hs:s.heap.IsSliceOf sl vl vu .none) (pl:IsPart vl lo) (pu:IsPart vu hi)
  (hw:¬ (sIx items.size 0 lo = 0∧sIx items.size items.size hi = items.size))
  (h:Q (.ref s.heap.objs.size) { s with heap:=s.heap.push { cls:=.type "tuple",data:=.seq ((items.toList.drop (sIx items.size 0 lo)).take (sIx items.size items.size hi - sIx items.size 0 lo)).toArray } })
  (hsz:items.size≤sizeLine):wpAny (model prog w) A (getItem (.ref t) (.ref sl)) Q E s:=by
 have htake:sizeOk (.seq ((items.toList.drop (sIx items.size 0 lo)).take (sIx items.size items.size hi - sIx items.size 0 lo)).toArray):=by
  show ((items.toList.drop (sIx items.size 0 lo)).take (sIx items.size items.size hi - sIx items.size 0 lo)).toArray.size≤sizeLine
  rw [List.size_toArray,List.length_take,List.length_drop,Array.length_toList]
  omega
 have hj:sIx items.size items.size hi≤items.size:=Q0 _ _ (Nat.le_refl _) hi
 obtain ⟨os,hos,hcs,hds⟩:=id hs
 have hTs:s.TypeIs (.ref sl) "slice":=⟨os,hos,hcs⟩
 unfold getItem
 try with_reducible refine wpAny_holding ?_
 first | refine wpAny_bind (wpAny_pure ?_) | skip
 refine wpAny_bind (wpAny_sequenceKey ht.typeIs (by decide) ?_)
 refine wpAny_bind (wpAny_callSpecial?_slot (name:=Str.ofString "__getitem__") ht.typeIs PyProof.Rows.slot_tuple_getitem
  (wpAny_call_entry PyProof.Rows.slot_tuple_getitem ht.typeIs entry_tuple_getitem ?_ (args_tuple_getitem _ _)))
 show wpAny _ _ (Builtin.Tuple.tupleItemsOf (.ref t) >>= _) _ _ s
 refine wpAny_bind (tupleItemsOf_ ht ?_)
 refine wpAny_bind (wpAny_typeOf hTs ?_)
 rw [if_pos (by decide)]
 refine wpAny_bind (sliceApplied_gen hs pl pu ?_)
 have hno:¬ ((((sIx items.size 0 lo:Nat):Int) == 0 && (1:Int) == 1 && (sIx items.size items.size hi - sIx items.size 0 lo) == items.size) = true):=by
  intro q
  rw [Bool.and_eq_true,Bool.and_eq_true] at q
  have q1:((sIx items.size 0 lo:Nat):Int) = 0:=eq_of_beq q.1.1
  have q2:sIx items.size items.size hi - sIx items.size 0 lo = items.size:=eq_of_beq q.2
  exact hw ⟨by omega,by omega⟩
 show wpAny _ _ (if (((sIx items.size 0 lo:Nat):Int) == 0 && (1:Int) == 1 && (sIx items.size items.size hi - sIx items.size 0 lo) == items.size) = true then _ else _) _ _ s
 rw [if_neg hno,Wn]
 first
  | exact wpAny_bind (m:=Builtin.Tuple.tupleExact _) (wpAny_newObj_type (wpAny_pure ⟨_,rfl,wpAny_pure h⟩) htake)
  | exact wpAny_bind (m:=Builtin.Tuple.tupleExact _) (wpAny_newObj_type (wpAny_bind (wpAny_pure (wpAny_pure ⟨_,rfl,wpAny_pure h⟩))) htake)
  | exact wpAny_bind (wpAny_bind (m:=Builtin.Tuple.tupleExact _) (wpAny_newObj_type (wpAny_pure (wpAny_pure ⟨_,rfl,wpAny_pure h⟩)) htake))
  | exact wpAny_bind (wpAny_bind (m:=Builtin.Tuple.tupleExact _) (wpAny_newObj_type (wpAny_pure ⟨_,rfl,wpAny_pure h⟩) htake))
end
end HT
namespace L2
open PySem PySem.Spec PyProof.Rows
abbrev TO:=St→Hp→(Option Int→Hp→Prop)→Prop
def PO (X:Cx) (e:Option Expr) (t:TO):Prop :=
 ∀ (pins:List (Addr×Obj)) (s:Shared) (σ:St) (H:Hp) (Q:Option Int→Hp→Prop),Inv X pins σ H s→t σ H Q →
  wpAny (model X.prog X.w) X.A (evalPart e X.env) (fun u s'=>∃ o H',Inv X pins σ H' s'∧IsPart u o∧Q o H') X.xe s
def a8:TO:=fun _ H Q=>Q none H
theorem ni {ns:List Int}:∀ {us:List Value},Vals (ns.map V.int) us→IntsAre us ns:=by
 induction ns with
 | nil=>intro us r;rw [List.map_nil] at r;cases r;exact .nil
 | cons n ns ih =>
  intro us r
  rw [List.map_cons] at r
  cases r with
  | cons r1 r2 =>
   obtain ⟨t,e⟩:=r1
   subst e
   exact .cons n t (ih r2)
section
variable {X:Cx}{e:Expr}{te:TE}{lo hi:Option Expr}{tl th:TO}{pos p2:Pos}
theorem yb:PO X none a8:=by
 intro pins s σ H Q I h
 rw [evalPart_none]
 exact wpAny_pure ⟨none,H,I,.none,h⟩
def SlR (X:Cx) (r:V→Option Int→Option Int→Hp→VK→Prop):Prop :=
 ∀ (pins:List (Addr×Obj)) (s:Shared) (σ:St) (H:Hp) (x:V) (v vl vu:Value) (lo hi:Option Int) (sl:Addr) (Q:VK),Inv X pins σ H s→RelV x v→s.heap.IsSliceOf sl vl vu .none→IsPart vl lo→IsPart vu hi→r x lo hi H Q →
  ∃ T id,typeLookup (.type T) "__getitem__" = pure (some (.builtin id))∧s.TypeIs v T∧wpAny (model X.prog X.w) X.A (getItem v (.ref sl)) (EP X pins σ Q) X.xe s
theorem SlR.or {r r':V→Option Int→Option Int→Hp→VK→Prop} (h:SlR X r) (h':SlR X r'):SlR X (fun x lo hi H Q=>r x lo hi H Q∨r' x lo hi H Q):=by
 intro pins s σ H x v vl vu lo hi sl Q I rx hs pl pu q
 rcases q with q | q
 ·exact h pins s σ H x v vl vu lo hi sl Q I rx hs pl pu q
 ·exact h' pins s σ H x v vl vu lo hi sl Q I rx hs pl pu q
def tSl (r:V→Option Int→Option Int→Hp→VK→Prop) (te:TE) (tl th:TO):TE:=fun σ H Q=>te σ H fun x H1=>tl σ H1 fun l H2=>th σ H2 fun u H3=>r x l u H3 Q
theorem Wj {r:V→Option Int→Option Int→Hp→VK→Prop} (hr:SlR X r) (he:PE X e te) (hl:PO X lo tl) (hu:PO X hi th):PE X (.Subscript e (.Slice lo hi none p2) pos) (tSl r te tl th):=by
 intro pins s σ H Q I h
 refine Subscript_ (thn (he pins s σ H _ I h) fun v s1 ⟨x,H1,I1,r1,q1⟩=>?_)
 refine wpAny_Slice (thn (hl pins s1 σ H1 _ I1 q1) fun vl s2 ⟨l,H2,I2,pl,q2⟩=>thn (hu pins s2 σ H2 _ I2 q2) fun vu s3 ⟨u,H3,I3,pu,q3⟩=>?_)
 rw [evalPart_none]
 refine wpAny_pure ?_
 have I4:Inv X pins σ H3 { s3 with heap:=s3.heap.push { cls:=.type "slice",data:=.fields #[vl,vu,.none] } }:=I3.kept (t':=s3.toks) fun b ob q=>Heap.get?_push_of_some _ q
 obtain ⟨T,id,hT,ht,hg⟩:=hr pins { s3 with heap:=s3.heap.push { cls:=.type "slice",data:=.fields #[vl,vu,.none] } } σ H3 x v vl vu l u s3.heap.objs.size Q I4 r1 (Heap.IsSliceOf.new ..) pl pu q3
 show wpAny (model X.prog X.w) X.A (subscriptTail e (.Slice lo hi none p2) v (.ref s3.heap.objs.size)) (EP X pins σ Q) X.xe { s3 with heap:=s3.heap.push { cls:=.type "slice",data:=.fields #[vl,vu,.none] } }
 exact tail_any (ops:=[.ref s3.heap.objs.size,v]) ht hT hg (by with_unfolding_all rfl)
def wj (xs:List V) (lo hi:Option Int):List V:=(xs.drop (HT.sIx xs.length 0 lo)).take (HT.sIx xs.length xs.length hi - HT.sIx xs.length 0 lo)
theorem qw (xs:List V) (lo hi:Option Int):(wj xs lo hi).length≤xs.length:=by
 unfold wj
 rw [List.length_take,List.length_drop]
 omega
def L9 (K:PySem.W.Frag):V→Option Int→Option Int→Hp→VK→Prop:=fun x lo hi H Q=>∃ a xs,x = .ref a∧SqT K H a xs ∧
 ¬ (HT.sIx xs.length 0 lo = 0∧HT.sIx xs.length xs.length hi = xs.length)∧∀ p,H p = none→Q (.ref p) (upd H p (.tup (wj xs lo hi)))
theorem Q4:SlR X (L9 X.K):=by
 intro pins s σ H x v vl vu lo hi sl Q I rx hs pl pu h
 obtain ⟨a,xs,rfl,hx,hw,q⟩:=h
 cases rx
 obtain ⟨its,r,ht,hz⟩:=I.tuple hx
 have hlen:its.toArray.size = xs.length:=by rw [List.size_toArray];exact r.length.symm
 refine ⟨"tuple",_,PyProof.Rows.slot_tuple_getitem.lookup,ht.typeIs,?_⟩
 refine HT.getItem_tuple_cut ht hs pl pu (by rw [hlen];exact hw) ?_ (by rw [hlen];exact hz)
 rw [hlen]
 refine ⟨.ref s.heap.objs.size,_,I.laid (t':=s.toks) (o:=.tup (wj xs lo hi)) (fun b ob q=>Heap.get?_push_of_some _ q) (Nat.le_refl _) ?_,rfl,q _ (I.hok.fresh (Nat.le_refl _))⟩
 exact ⟨Nat.le_trans (qw xs lo hi) hz,_,(r.drop (HT.sIx xs.length 0 lo)).take (HT.sIx xs.length xs.length hi - HT.sIx xs.length 0 lo),IsTup.new _ _⟩
def Ol (K:PySem.W.Frag):R2:=fun x y H Q=>∃ a b xs ys,x = .ref a∧y = .ref b∧SqT K H a xs∧SqT K H b ys∧xs≠[]∧xs.length + ys.length≤sizeLine ∧
 (ys = []→Q (.ref a) H)∧(ys≠[]→∀ p,H p = none→Q (.ref p) (upd H p (.tup (xs ++ ys))))
theorem Vals.nil_iff {xs:List V}{us:List Value} (r:Vals xs us):us = [] ↔ xs = []:=by
 cases r with
 | nil=>simp
 | cons _ _=>simp
theorem Td:OpR X (binaryOp .Add) (Ol X.K):=by
 intro pins s σ H x y v u Q I rx ry h
 obtain ⟨a,b,xs,ys,rfl,rfl,ha,hb,hx,hz,q1,q2⟩:=h
 cases rx
 cases ry
 obtain ⟨its,r1,p1,_⟩:=I.tuple ha
 obtain ⟨its2,r2,p2,_⟩:=I.tuple hb
 refine HT.cat_tup p1 p2 (fun z=>hx (r1.nil_iff.mp z)) (fun z=>⟨.ref a,H,I,rfl,q1 (r2.nil_iff.mp z)⟩) (fun z=>?_) (by rw [← r1.length,← r2.length];exact hz)
 refine ⟨.ref s.heap.objs.size,_,I.laid (t':=s.toks) (o:=.tup (xs ++ ys)) (fun b ob q=>Heap.get?_push_of_some _ q) (Nat.le_refl _) ?_,rfl,q2 (fun w=>z (r2.nil_iff.mpr w)) _ (I.hok.fresh (Nat.le_refl _))⟩
 exact ⟨by rw [List.length_append];exact hz,_,r1.append r2,IsTup.new _ _⟩
end
end L2
namespace L2
open PySem PySem.Spec PyProof.Rows
def ixN (n:Nat) (i:Int):Option Nat:=if 0≤i then (if i < n then some i.toNat else none) else if -(n:Int)≤i then some (i + n).toNat else none
def atI {α:Type} (xs:List α) (i:Int):Option α:=(ixN xs.length i).bind fun j=>xs[j]?
theorem Z4 {n:Nat}{i:Int}{j:Nat} (h:ixN n i = some j):seqIndex? i n = some j∧j < n∧-(n:Int)≤i∧i < n:=by
 unfold ixN at h
 by_cases h0:0≤i
 ·rw [if_pos h0] at h
  by_cases h1:i < n
  ·rw [if_pos h1] at h
   have e:i.toNat = j:=Option.some.inj h
   exact ⟨by rw [seqIndex_of h0 h1,e],by omega,by omega,h1⟩
  ·rw [if_neg h1] at h;cases h
 ·rw [if_neg h0] at h
  by_cases h1:-(n:Int)≤i
  ·rw [if_pos h1] at h
   have e:(i + n).toNat = j:=Option.some.inj h
   exact ⟨by rw [seqIndex_neg (by omega) h1,e],by omega,h1,by omega⟩
  ·rw [if_neg h1] at h;cases h
theorem i6 {α:Type}{xs:List α}{i:Int}{v:α} (h:atI xs i = some v):∃ j,seqIndex? i xs.length = some j∧xs[j]? = some v∧j < xs.length∧-(xs.length:Int)≤i∧i < xs.length:=by
 unfold atI at h
 cases e:ixN xs.length i with
 | none=>rw [e] at h;cases h
 | some j =>
  rw [e] at h
  obtain ⟨h1,h2,h3,h4⟩:=Z4 e
  exact ⟨j,h1,h,h2,h3,h4⟩
theorem yo {α:Type}{xs:List α}{j:Nat}{v:α} (h:xs[j]? = some v):atI xs (j:Int) = some v:=by
 have hj:j < xs.length:=(List.getElem?_eq_some_iff.mp h).1
 have e:ixN xs.length (j:Int) = some j:=by
  unfold ixN
  rw [if_pos (by omega),if_pos (by omega)];simp
 unfold atI;rw [e];exact h
def Zl (b:Expr):Prop:=∀ o i,subscripted b false o i = operate [o,i] (getItem o i)
def IxR (X:Cx) (r:R2):Prop :=
 ∀ (value slice:Expr) (pins:List (Addr×Obj)) (s:Shared) (σ:St) (H:Hp) (x y:V) (v u:Value) (Q:VK),Inv X pins σ H s→RelV x v→RelV y u→r x y H Q →
  subscripted slice false v u = operate [v,u] (getItem v u)→wpAny (model X.prog X.w) X.A (subscriptTail value slice v u) (EP X pins σ Q) X.xe s
def MtR (X:Cx) (id:String) (r:V→List V→Hp→VK→Prop):Prop :=
 ∀ (pins:List (Addr×Obj)) (s:Shared) (σ:St) (H:Hp) (x:V) (xs:List V) (v:Value) (us:List Value) (Q:VK),Inv X pins σ H s→RelV x v→Vals xs us→r x xs H Q →
  wpAny (model X.prog X.w) X.A (call (.builtin id) (v :: us)) (EP X pins σ Q) X.xe s
section
variable {X:Cx}{a b:Expr}{ta tb:TE}{pos:Pos}
theorem IxR.or {r r':R2} (h:IxR X r) (h':IxR X r'):IxR X (fun x y H Q=>r x y H Q∨r' x y H Q):=by
 intro value slice pins s σ H x y v u Q I rx ry q hs
 rcases q with q | q
 ·exact h value slice pins s σ H x y v u Q I rx ry q hs
 ·exact h' value slice pins s σ H x y v u Q I rx ry q hs
theorem Nw {r:R2} (hr:IxR X r) (ha:PE X a ta) (hb:PE X b tb) (hs:Zl b):PE X (.Subscript a b pos) (tOp r ta tb):=by
 intro pins s σ H Q I h
 exact Subscript_ (O5 ha hb I h fun v u s2 x y H2 I2 rx ry q=>hr a b pins s2 σ H2 x y v u Q I2 rx ry q (hs _ _))
def Om (K:PySem.W.Frag):R2:=fun x y H Q=>∃ p xs i v,x = .ref p∧y = .int i∧SqL K H p xs∧atI xs i = some v∧Q v H
def Oo (K:PySem.W.Frag):R2:=fun x y H Q=>∃ p xs i v,x = .ref p∧y = .int i∧SqT K H p xs∧atI xs i = some v∧Q v H
def On:R2:=fun x y H Q=>∃ z i c,x = .str z∧y = .int i∧z.length≤sizeLine∧atI z.cps.toList i = some c∧Q (.str ⟨#[c]⟩) H
theorem ix_list:IxR X (Om X.K):=by
 intro value slice pins s σ H x y v u Q I rx ry h hs
 obtain ⟨p,xs,i,z,rfl,rfl,hq,he,q⟩:=h
 cases rx
 obtain ⟨t,rfl⟩:=ry
 obtain ⟨its,r,pl,hz⟩:=I.list hq
 obtain ⟨j,h1,h2,h3,h4,h5⟩:=i6 he
 obtain ⟨w,ew,rw'⟩:=r.get h2
 have hl:=r.length
 have hn:=sj
 have fin:EP X pins σ Q w s:=⟨z,H,I,rw',q⟩
 by_cases h0:0≤i
 ·have hj:i.toNat = j:=by
   rw [seqIndex_of h0 h5] at h1
   exact Option.some.inj h1
  exact item_listR pl.isList h0 (by omega) (by rw [hj];simpa using ew) fin hs
 ·have hj:(i + (its.toArray.size:Int)).toNat = j:=by
   rw [seqIndex_neg (by omega) h4] at h1
   rw [List.size_toArray,← hl]
   exact Option.some.inj h1
  exact subscriptTail_builtinR (x:=w) pl.isList.typeIs slot_list_getitem.lookup
   (wpAny_getItem_list_neg (Q:=fun r s'=>r = w∧EP X pins σ Q r s') pl.isList (by omega) (by rw [List.size_toArray] <;> omega) (by omega) (by rw [hj];simpa using ew) ⟨rfl,fin⟩) hs
theorem ix_tup:IxR X (Oo X.K):=by
 intro value slice pins s σ H x y v u Q I rx ry h hs
 obtain ⟨p,xs,i,z,rfl,rfl,hq,he,q⟩:=h
 cases rx
 obtain ⟨t,rfl⟩:=ry
 obtain ⟨its,r,pl,hz⟩:=I.tuple hq
 obtain ⟨j,h1,h2,h3,h4,h5⟩:=i6 he
 obtain ⟨w,ew,rw'⟩:=r.get h2
 have hl:=r.length
 have hn:=sj
 have fin:EP X pins σ Q w s:=⟨z,H,I,rw',q⟩
 exact subscriptTail_builtinR (x:=w) pl.typeIs slot_tuple_getitem.lookup
  (getItem_tuple (j:=j) (Q:=fun r s'=>r = w∧EP X pins σ Q r s') pl (by omega) (by omega) (by rw [List.size_toArray,← hl];exact h1) (by simpa using ew) ⟨rfl,fin⟩) hs
theorem Ph:IxR X On:=by
 intro value slice pins s σ H x y v u Q I rx ry h hs
 obtain ⟨z,i,c,rfl,rfl,hz,he,q⟩:=h
 obtain ⟨t,rfl⟩:=rx
 obtain ⟨t',rfl⟩:=ry
 obtain ⟨j,h1,h2,h3,h4,h5⟩:=i6 he
 have hl:z.cps.toList.length = z.length:=by simp [Str.length]
 rw [hl] at h1 h4 h5
 have hn:=sj
 exact tail_any (typeIs_str s z t) slot_str_getitem.lookup (getItem_str (c:=c) (by
  have e1:decide (i < -(2 ^ 63:Int)) = false:=decide_eq_false (by omega)
  have e2:decide (i ≥ 2 ^ 63) = false:=decide_eq_false (by omega)
  rw [e1,e2,Bool.or_false]) (by rw [h1];simpa using h2) ⟨.str ⟨#[c]⟩,H,I.tok _,⟨_,rfl⟩,q⟩) hs
def rIx (K:PySem.W.Frag):R2:=fun x y H Q=>Om K x y H Q∨Oo K x y H Q∨On x y H Q
theorem Pg:IxR X (rIx X.K):=ix_list.or (ix_tup.or Ph)
theorem cv (its:List Value) (n j:Nat) (u:Value):Obj.mapSeq (·.setIfInBounds j u) { cls:=.type "list",data:=.seq its.toArray n } = { cls:=.type "list",data:=.seq (its.set j u).toArray n }:=by
 simp [Obj.mapSeq]
theorem Inv.lst {pins:List (Addr×Obj)}{σ:St}{H:Hp}{s:Shared}{p:Addr}{xs:List V} (I:Inv X pins σ H s) (h:H p = some (.lst xs)) :
  ∃ (its:List Value) (n:Nat),Vals xs its∧s.heap.get? p = some { cls:=.type "list",data:=.seq its.toArray n }∧xs.length≤sizeLine:=by
 obtain ⟨z,its,n,r,e⟩:=I.hok p _ h
 exact ⟨its,n,r,e,z⟩
theorem Inv.lstUpd {pins:List (Addr×Obj)}{σ:St}{H:Hp}{s:Shared}{p:Addr}{xs ys:List V}{its its':List Value}{n n':Nat}{f:Obj→Obj} (I:Inv X pins σ H s) (h:H p = some (.lst xs))
  (ho:s.heap.get? p = some { cls:=.type "list",data:=.seq its.toArray n }) (hf:f { cls:=.type "list",data:=.seq its.toArray n } = { cls:=.type "list",data:=.seq its'.toArray n' }) (r:Vals ys its') (hz:ys.length≤sizeLine) (t:Nat) :
  Inv X pins σ (upd H p (.lst ys)) { s with heap:=s.heap.update p f,toks:=t }:=by
 have e:(s.heap.update p f).get? p = some { cls:=.type "list",data:=.seq its'.toArray n' }:=by
  rw [Heap.get?_update_self f ho (by rw [hf] <;> rfl),hf]
 refine I.write (x:=p) (e:=p) (by rw [h];trivial) (.inl rfl) (fun b u hb q=>(Heap.get?_update_other _ _ (Ne.symm hb)).trans q) ⟨_,e⟩ ?_
 exact ⟨hz,its',n',r,e⟩
def Op:V→V→V→Hp→(Hp→Prop)→Prop:=fun o i v H Q=>∃ p xs k j,o = .ref p∧i = .int k∧H p = some (.lst xs)∧ixN xs.length k = some j∧Q (upd H p (.lst (xs.set j v)))
theorem W3:Rx X Op:=by
 intro pins s σ H o i v ov iv u Q I ro ri rv h
 obtain ⟨p,xs,k,j,rfl,rfl,hp,hj,q⟩:=h
 cases ro
 obtain ⟨t,rfl⟩:=ri
 obtain ⟨its,n,r,ho,hz⟩:=I.lst hp
 obtain ⟨h1,h2,h3,h4⟩:=Z4 hj
 have hl:=r.length
 have hn:=sj
 have I':Inv X pins σ (upd H p (.lst (xs.set j v))) { s with heap:=s.heap.update p (Obj.mapSeq (·.setIfInBounds j u)) } :=
  I.lstUpd hp ho (cv its n j u) (r.set rv j) (by rw [List.length_set];exact hz) s.toks
 by_cases h0:0≤k
 ·have hk:k.toNat = j:=by
   rw [seqIndex_of h0 h4] at h1
   exact Option.some.inj h1
  exact PySem.W.ki_setAt ho h0 (by omega) (by rw [List.size_toArray,← hl];exact h4) (by rw [hk];exact ⟨_,I',q⟩)
 ·have hk:(k + (its.toArray.size:Int)).toNat = j:=by
   rw [seqIndex_neg (by omega) h3] at h1
   rw [List.size_toArray,← hl]
   exact Option.some.inj h1
  exact PySem.W.ki_setBack ho (by omega) (by rw [List.size_toArray,← hl];exact h3) (by omega) (by rw [hk];exact ⟨_,I',q⟩)
theorem jz (lo hi:Option Int) (n:Nat):(sliceBounds lo hi none n).1 = ((HT.sIx n 0 lo:Nat):Int)∧(sliceBounds lo hi none n).2.1 = ((HT.sIx n n hi:Nat):Int)∧(sliceBounds lo hi none n).2.2 = 1:=by
 refine ⟨?_,?_,rfl⟩
 ·cases lo with
  | none=>simp [sliceBounds,HT.sIx]
  | some i =>
   simp only [sliceBounds,HT.sIx,Option.getD_none,show (1:Int) > 0 by decide,if_true]
   by_cases h:i < 0
   ·simp only [h,if_true] <;> omega
   ·simp only [h,if_false] <;> omega
 ·cases hi with
  | none=>simp [sliceBounds,HT.sIx]
  | some i =>
   simp only [sliceBounds,HT.sIx,Option.getD_none,show (1:Int) > 0 by decide,if_true]
   by_cases h:i < 0
   ·simp only [h,if_true] <;> omega
   ·simp only [h,if_false] <;> omega
theorem mj (its:List Value) (lo hi:Option Int):slicePick its.toArray lo hi none = ((its.drop (HT.sIx its.length 0 lo)).take (HT.sIx its.length its.length hi - HT.sIx its.length 0 lo)).toArray:=by
 obtain ⟨h1,h2,h3⟩:=jz lo hi its.toArray.size
 unfold slicePick
 rw [h1,h2,h3]
 simp only [sliceRange_one,pick_run,List.size_toArray] <;> rfl
def L8 (K:PySem.W.Frag):V→Option Int→Option Int→Hp→VK→Prop:=fun x lo hi H Q=>∃ a xs,x = .ref a∧SqL K H a xs∧∀ p,H p = none→Q (.ref p) (upd H p (.lst (wj xs lo hi)))
theorem T0:SlR X (L8 X.K):=by
 intro pins s σ H x v vl vu lo hi sl Q I rx hs pl pu h
 obtain ⟨a,xs,rfl,hx,q⟩:=h
 cases rx
 obtain ⟨its,r,ht,hz⟩:=I.list hx
 have hlen:=r.length
 refine ⟨"list",_,slot_list_getitem.lookup,ht.isList.typeIs,?_⟩
 refine wpAny_getItem_list_slice ht.isList hs pl pu .none (by simp) ?_ (by rw [List.size_toArray] <;> omega)
 rw [mj,← hlen]
 refine ⟨.ref s.heap.objs.size,_,I.laid (t':=s.toks) (o:=.lst (wj xs lo hi)) (fun b ob q=>Heap.get?_push_of_some _ q) (Nat.le_refl _) ?_,rfl,q _ (I.hok.fresh (Nat.le_refl _))⟩
 exact ⟨Nat.le_trans (qw xs lo hi) hz,_,0,(r.drop (HT.sIx xs.length 0 lo)).take (HT.sIx xs.length xs.length hi - HT.sIx xs.length 0 lo),Heap.get?_push_size _ rfl⟩
def wn:V→Bool
 | .non=>true
 | .bl _=>true
 | .int _=>true
 | .str _=>true
 | _=>false
def eqV:V→V→Bool
 | .non,.non=>true
 | .bl a,.bl b=>a == b
 | .bl a,.int b=>(if a then 1 else 0) == b
 | .int a,.bl b=>a == (if b then 1 else 0)
 | .int a,.int b=>a == b
 | .str a,.str b=>a == b
 | _,_=>false
theorem Pd {A:Around}{s:Shared}{y x:V}{u v:Value} (ry:RelV y u) (rx:RelV x v) (fy:wn y = true) (fx:wn x = true):SeqAt.EqAt A s u v (eqV y x):=by
 cases y with
 | non =>
  cases ry
  cases x with
  | non=>cases rx;exact SeqAt.EqAt.same _
  | bl b=>cases rx;exact SeqAt.EqAt.none_bool b
  | int b=>obtain ⟨t,rfl⟩:=rx;exact SeqAt.EqAt.none_int b t
  | str b=>obtain ⟨t,rfl⟩:=rx;exact SeqAt.EqAt.none_str b t
  | _=>exact absurd (show false = true from fx) Bool.false_ne_true
 | bl a =>
  cases ry
  cases x with
  | non=>cases rx;exact SeqAt.EqAt.bool_none a
  | bl b=>cases rx;exact SeqAt.EqAt.bool_bool a b
  | int b=>obtain ⟨t,rfl⟩:=rx;exact SeqAt.EqAt.bool_int a b t
  | str b=>obtain ⟨t,rfl⟩:=rx;exact SeqAt.EqAt.bool_str a b t
  | _=>exact absurd (show false = true from fx) Bool.false_ne_true
 | int a =>
  obtain ⟨t',rfl⟩:=ry
  cases x with
  | non=>cases rx;exact SeqAt.EqAt.int_none a t'
  | bl b=>cases rx;exact SeqAt.EqAt.int_bool a t' b
  | int b=>obtain ⟨t,rfl⟩:=rx;exact SeqAt.EqAt.int_int a t' b t
  | str b=>obtain ⟨t,rfl⟩:=rx;exact SeqAt.EqAt.int_str a t' b t
  | _=>exact absurd (show false = true from fx) Bool.false_ne_true
 | str a =>
  obtain ⟨t',rfl⟩:=ry
  cases x with
  | non=>cases rx;exact SeqAt.EqAt.str_none a t'
  | bl b=>cases rx;exact SeqAt.EqAt.str_bool a t' b
  | int b=>obtain ⟨t,rfl⟩:=rx;exact SeqAt.EqAt.str_int a t' b t
  | str b=>obtain ⟨t,rfl⟩:=rx;exact SeqAt.EqAt.str_str a t' b t
  | _=>exact absurd (show false = true from fx) Bool.false_ne_true
 | _=>exact absurd (show false = true from fy) Bool.false_ne_true
def eqU (x:V) (u:Value):Bool:=match u with
 | .none=>eqV .non x
 | .bool b=>eqV (.bl b) x
 | .int i _=>eqV (.int i) x
 | .str z _=>eqV (.str z) x
 | _=>false
theorem Uz {x y:V}{u:Value} (r:RelV y u) (f:wn y = true):eqU x u = eqV y x:=by
 cases y with
 | non=>cases r;rfl
 | bl b=>cases r;rfl
 | int i=>obtain ⟨t,rfl⟩:=r;rfl
 | str z=>obtain ⟨t,rfl⟩:=r;rfl
 | _=>exact absurd (show false = true from f) Bool.false_ne_true
theorem i4 {x:V}:∀ {xs:List V}{us:List Value},Vals xs us→xs.all wn = true→us.any (eqU x) = xs.any fun y=>eqV y x
 | _,_,.nil,_=>rfl
 | y :: xs,u :: us,.cons r t,f=>by
  rw [List.all_cons,Bool.and_eq_true] at f
  rw [List.any_cons,List.any_cons,Uz r f.1,i4 t f.2]
theorem oh {A:Around}{s:Shared}{x:V}{v:Value} (rx:RelV x v) (fx:wn x = true):∀ {xs:List V}{us:List Value},Vals xs us→xs.all wn = true→∀ u∈us,SeqAt.EqAt A s u v (eqU x u)
 | _,_,.nil,_=>fun u hu=>by cases hu
 | y :: xs,u :: us,.cons r t,f=>fun u' hu=>by
  rw [List.all_cons,Bool.and_eq_true] at f
  rcases List.mem_cons.mp hu with rfl | hu
  ·rw [Uz r f.1];exact Pd r rx f.1 fx
  ·exact oh rx fx t f.2 u' hu
def inV (x:V) (xs:List V):Bool:=xs.any fun y=>eqV y x
def rIn (K:PySem.W.Frag) (neg:Bool):R2:=fun x y H Q=>∃ p xs,y = .ref p∧(SqL K H p xs∨SqT K H p xs)∧wn x = true∧xs.all wn = true∧Q (.bl (if neg then !inV x xs else inV x xs)) H
theorem Y1:OpR X (compareOp .In) (rIn X.K false):=by
 intro pins s σ H x y v u Q I rx ry h
 obtain ⟨p,xs,rfl,hq,fx,fs,q⟩:=h
 cases ry
 rcases hq with hq | hq
 ·obtain ⟨its,r,pl,hz⟩:=I.list hq
  refine SeqAt.in_listAt (eqU x) pl.isList (fun w hw=>oh rx fx r fs w (by simpa using hw)) ⟨.bl _,H,I,rfl,?_⟩
  rw [show its.toArray.any (eqU x) = its.any (eqU x) by simp,i4 r fs]
  exact q
 ·obtain ⟨its,r,pl,hz⟩:=I.tuple hq
  refine SeqAt.in_tupleAt (eqU x) pl (fun w hw=>oh rx fx r fs w (by simpa using hw)) ⟨.bl _,H,I,rfl,?_⟩
  rw [show its.toArray.any (eqU x) = its.any (eqU x) by simp,i4 r fs]
  exact q
theorem i9:wm X (.builtin "len") (fun xs H Q=>∃ p ys,xs = [.ref p]∧(SqL X.K H p ys∨SqT X.K H p ys)∧Q (.int ys.length) H):=by
 intro pins s σ H xs us Q I r h
 obtain ⟨p,ys,rfl,hq,q⟩:=h
 obtain ⟨u,rfl,rx⟩:=ua r
 cases rx
 have hn:=sj
 rcases hq with hq | hq
 ·obtain ⟨its,r',pl,hz⟩:=I.list hq
  have hlen:=r'.length
  exact Calls.call_len_list pl.isList (by simp only [List.size_toArray] <;> omega) ⟨.int ys.length,H,I.tok _,⟨s.toks + 1,by rw [List.size_toArray,hlen]⟩,q⟩
 ·obtain ⟨its,r',pl,hz⟩:=I.tuple hq
  have hlen:=r'.length
  exact len_tuple pl (by simp only [List.size_toArray] <;> omega) ⟨.int ys.length,H,I.tok _,⟨s.toks + 1,by rw [List.size_toArray,hlen]⟩,q⟩
theorem ja:wm X (.builtin "len") (fun xs H Q=>∃ z,xs = [.str z]∧z.length≤sizeLine∧Q (.int z.length) H):=by
 intro pins s σ H xs us Q I r h
 obtain ⟨z,rfl,hz,q⟩:=h
 obtain ⟨u,rfl,t,rfl⟩:=ua r
 have hn:=sj
 exact len_str (by omega) ⟨.int z.length,H,I.tok _,⟨_,rfl⟩,q⟩
theorem uj:wm X (.type "tuple") (fun xs H Q=>∃ p ys,xs = [.ref p]∧((SqL X.K H p ys∧∀ l,H l = none→Q (.ref l) (upd H l (.tup ys)))∨(SqT X.K H p ys∧Q (.ref p) H))):=by
 intro pins s σ H xs us Q I r h
 obtain ⟨p,ys,rfl,h⟩:=h
 obtain ⟨u,rfl,rx⟩:=ua r
 cases rx
 rcases h with ⟨hq,q⟩ | ⟨hq,q⟩
 ·obtain ⟨its,r',pl,hz⟩:=I.list hq
  have hlen:=r'.length
  refine call_tuple_list pl.isList (fun h' kp=>?_) (by simp only [List.size_toArray] <;> omega)
  have I1:Inv X pins σ H { s with heap:=h' }:=I.kept (t':=s.toks) kp
  have I2:Inv X pins σ (upd H h'.objs.size (.tup ys)) { s with heap:=h'.push { cls:=.type "tuple",data:=.seq its.toArray } } :=
   I1.laid (t':=s.toks) (fun b o e=>Heap.get?_push_of_some _ e) (Nat.le_refl _) (show ObjOk X.prog X.w _ _ _ (.tup ys) from ⟨hz,its,r',IsTup.new _ _⟩)
  exact ⟨.ref h'.objs.size,_,I2,rfl,q _ (I1.hok.fresh (Nat.le_refl _))⟩
 ·obtain ⟨its,r',pl,hz⟩:=I.tuple hq
  exact call_tuple_same pl ⟨.ref p,H,I,rfl,q⟩
def tyV (K:PySem.W.Frag) (T:String) (x:V) (H:Hp):Prop:=match x with
 | .str _=>T = "str"
 | .int _=>T = "int"
 | .ref p=>(T = "list"∧∃ xs,SqL K H p xs)∨(T = "tuple"∧∃ o,K.lookup p = some o∧o.cls = .type "tuple"∧o.dict = none) ∨
   (T = "dict"∧((∃ kvs,H p = some (.dK kvs))∨∃ kvs,H p = some (.dT kvs)))∨(T = "set"∧∃ S n,H p = some (.set S n))
 | _=>False
theorem Rb {pins:List (Addr×Obj)}{σ:St}{H:Hp}{s:Shared}{T:String}{x:V}{v:Value} (I:Inv X pins σ H s) (r:RelV x v) (ty:tyV X.K T x H) :
  s.TypeIs v T∧∀ a,v = .ref a→∃ ob,s.heap.get? a = some ob∧ob.dict = none:=by
 cases x with
 | str z =>
  obtain ⟨t,rfl⟩:=r
  cases (show T = "str" from ty)
  exact ⟨typeIs_str s z t,fun _ e=>nomatch e⟩
 | int i =>
  obtain ⟨t,rfl⟩:=r
  cases (show T = "int" from ty)
  exact ⟨typeIs_int s i t,fun _ e=>nomatch e⟩
 | ref p =>
  cases r
  rcases ty with ⟨rfl,xs,hq⟩ | ⟨rfl,o,hk,hc,hd⟩ | ⟨rfl,hk⟩ | ⟨rfl,S,n,hk⟩
  ·obtain ⟨its,_,pl,_⟩:=I.list hq
   refine ⟨pl.isList.typeIs,fun a e=>?_⟩
   cases e
   obtain ⟨o,n,e,c,hd,_⟩:=pl
   exact ⟨o,e,hd⟩
  ·refine ⟨⟨o,I.kIn p o hk,hc⟩,fun a e=>?_⟩
   cases e
   exact ⟨o,I.kIn _ o hk,hd⟩
  ·have z:∃ o,s.heap.get? p = some o∧o.ExactDict:=by
    rcases hk with ⟨kvs,hk⟩ | ⟨kvs,hk⟩
    ·obtain ⟨_,_,_,_,o,_,_,e,ex,_⟩:=I.hok p _ hk
     exact ⟨o,e,ex⟩
    ·obtain ⟨_,_,_,_,o,_,_,e,ex,_⟩:=I.hok p _ hk
     exact ⟨o,e,ex⟩
   obtain ⟨o,e,ex⟩:=z
   refine ⟨⟨o,e,ex.1⟩,fun a e2=>?_⟩
   cases e2
   exact ⟨o,e,ex.2.1⟩
  ·obtain ⟨o,_,_,_,e,ex,_⟩:=I.hok p _ hk
   refine ⟨⟨o,e,ex.1⟩,fun a e2=>?_⟩
   cases e2
   exact ⟨o,e,ex.2.1⟩
 | _=>exact False.elim ty
variable {o e:Expr}{es:List Expr}{to:TE}{t:TA}{name:Str}{apos cpos:Pos}{T id:String}{r:V→List V→Hp→VK→Prop}
end
end L2
namespace L2
open PySem PySem.Spec PyProof.Rows
def MtM (X:Cx) (id:String) (r:V→List V→Hp→VK→Prop):Prop :=
 ∀ (pins:List (Addr×Obj)) (s:Shared) (σ:St) (H:Hp) (x:V) (xs:List V) (v:Value) (us:List Value) (Q:VK),Inv X pins σ H s→RelV x v→Vals xs us→r x xs H Q →
  wpAny (model X.prog X.w) X.A (call (.builtin id) (v :: us)) (EP X pins σ Q) X.xe s
theorem Vals.one:∀ {x:V}{us:List Value},Vals [x] us→∃ u,us = [u]∧RelV x u
 | _,_,.cons r .nil=>⟨_,rfl,r⟩
section
variable {X:Cx}{pins:List (Addr×Obj)}{σ:St}{H:Hp}{s:Shared}{l b:Addr}{xs ys zs:List V}
theorem Inv.lset {its its':List Value}{n:Nat}{f:Array Value→Array Value}{t':Nat} (I:Inv X pins σ H s) (hH:H l = some (.lst xs))
  (e:s.heap.get? l = some { cls:=.type "list",data:=.seq its.toArray n }) (hf:f its.toArray = its'.toArray) (hv:Vals ys its') (hz:ys.length≤sizeLine) :
  Inv X pins σ (upd H l (.lst ys)) { s with heap:=s.heap.update l (Obj.mapSeq f),toks:=t' }:=by
 have q:=PySem.IsL.update e f
 rw [hf] at q
 refine I.write (x:=l) (e:=l) (by rw [hH];exact trivial) (.inl rfl) (fun b' u hb hu=>(Heap.get?_update_other s.heap (Obj.mapSeq f) (Ne.symm hb)).trans hu) ⟨_,q⟩ ?_
 exact ⟨hz,its',_,hv,q⟩
theorem Inv.lnew {its:List Value}{t':Nat} (I:Inv X pins σ H s) (hv:Vals ys its) (hz:ys.length≤sizeLine) :
  Inv X pins σ (upd H s.heap.objs.size (.lst ys)) { s with heap:=s.heap.push { cls:=.type "list",data:=.seq its.toArray },toks:=t' } :=
 I.laid (fun _ _ q=>Heap.get?_push_of_some _ q) (Nat.le_refl _) ⟨hz,its,0,hv,Heap.get?_push_size _ rfl⟩
theorem Inv.fresh (I:Inv X pins σ H s):H s.heap.objs.size = none:=I.hok.fresh (Nat.le_refl _)
theorem Inv.lstM (I:Inv X pins σ H s) (hH:H l = some (.lst xs)):xs.length≤sizeLine∧∃ (its:List Value) (n:Nat),Vals xs its∧xs.length = its.length∧s.heap.get? l = some { cls:=.type "list",data:=.seq its.toArray n }:=by
 obtain ⟨z,its,n,r,e⟩:=I.hok l _ hH
 exact ⟨z,its,n,r,r.length,e⟩
theorem gt {n:Nat} (h:n≤sizeLine):Builtin.List.listTooLong n = false:=by
 unfold Builtin.List.listTooLong
 exact decide_eq_false (by omega)
end
section
variable {X:Cx}
def Tq:V→List V→Hp→VK→Prop:=fun x vs H Q=>∃ l xs y,x = .ref l∧vs = [y]∧H l = some (.lst xs)∧xs.length < sizeLine∧Q .non (upd H l (.lst (xs ++ [y])))
theorem sk:MtM X "list.append" Tq:=by
 intro pins s σ H x vs v us Q I rx rv h
 obtain ⟨l,xs,y,rfl,rfl,hH,hz,q⟩:=h
 cases rx
 obtain ⟨u,rfl,ru⟩:=rv.one
 obtain ⟨z,its,n,r,hl,e⟩:=I.lstM hH
 refine call_meets F.slot_list_append ⟨_,e,rfl⟩ F.entry_list_append (F.args_list_append_2 _ _) (PySem.list_append l its.toArray n u (by rw [List.size_toArray];omega)) ⟨e,?_⟩
 refine ⟨.non,_,I.lset (its':=its ++ [u]) hH e (by simp) (r.append (.cons ru .nil)) ?_,rfl,q⟩
 rw [List.length_append,List.length_singleton]
 omega
def Tr:V→List V→Hp→VK→Prop:=fun x vs H Q=>∃ l b xs zs,x = .ref l∧vs = [.ref b]∧H l = some (.lst xs)∧H b = some (.lst zs)∧xs.length + zs.length≤sizeLine∧Q .non (upd H l (.lst (xs ++ zs)))
theorem Yp:MtM X "list.extend" Tr:=by
 intro pins s σ H x vs v us Q I rx rv h
 obtain ⟨l,b,xs,zs,rfl,rfl,hH,hB,hz,q⟩:=h
 cases rx
 obtain ⟨u,rfl,ru⟩:=rv.one
 cases ru
 obtain ⟨z,its,n,r,hl,e⟩:=I.lstM hH
 obtain ⟨z2,its2,n2,r2,hl2,e2⟩:=I.lstM hB
 have hsz:its.toArray.size + its2.toArray.size≤sizeLine:=by rw [List.size_toArray,List.size_toArray];omega
 have hlong:¬ (!its.toArray.isEmpty && Builtin.List.listTooLong (its.toArray.size + its2.toArray.size)) = true:=by
  rw [gt hsz,Bool.and_false]
  exact Bool.false_ne_true
 refine call_meets F.slot_list_extend ⟨_,e,rfl⟩ F.entry_list_extend (F.args_list_extend_2 _ _)
  (AutoSeq1.list_extend_list_list_0 l its.toArray n b its2.toArray n2 hlong (by rw [List.size_toArray];omega) (by omega)) ⟨e,e2,?_⟩
 refine ⟨.non,_,I.lset (its':=its ++ its2) hH e (by simp) (r.append r2) ?_,rfl,q⟩
 rw [List.length_append]
 omega
def L7:R2:=fun x y H Q=>∃ l b xs zs,x = .ref l∧y = .ref b∧H l = some (.lst xs)∧H b = some (.lst zs)∧xs.length + zs.length≤sizeLine∧∀ p,H p = none→Q (.ref p) (upd H p (.lst (xs ++ zs)))
theorem P6:OpR X (binaryOp .Add) L7:=by
 intro pins s σ H x y v u Q I rx ry h
 obtain ⟨l,b,xs,zs,rfl,rfl,hH,hB,hz,q⟩:=h
 cases rx
 cases ry
 obtain ⟨z,its,n,r,hl,e⟩:=I.lstM hH
 obtain ⟨z2,its2,n2,r2,hl2,e2⟩:=I.lstM hB
 refine PySem.P.add_list e e2 ?_ (by rw [List.size_toArray,List.size_toArray];omega)
 have ea:its.toArray ++ its2.toArray = (its ++ its2).toArray:=by simp
 rw [ea]
 exact ⟨.ref _,_,I.lnew (t':=s.toks) (r.append r2) (by rw [List.length_append];omega),rfl,q _ I.fresh⟩
end
section
variable {prog:Program}{w:World}{A:Around}{E:Value→Shared→Prop}{s:Shared}
end
section
variable {X:Cx}
end
end L2
namespace Att
open PySem PySem.W PySem.Calls PyProof.Rows
theorem qu {P:Params}{h:Heap}:∀ (ns:List Int) (vs:List Value),WellAll P h vs (ns.map WData.int)→IntsAre vs ns:=by
 intro ns
 induction ns with
 | nil =>
  intro vs w
  rw [List.map_nil] at w
  cases w
  exact .nil
 | cons n ns ih =>
  intro vs w
  rw [List.map_cons] at w
  cases w with
  | cons a b =>
   cases a
   exact .cons _ _ (ih _ b)
theorem Za {l:OpenLaw}{n:Nat} (hn:l.most = some n) {P:Params}{h:Heap}{args:List WData}{vals:List Value}
  (hpre:l.row.toRowW.claim.pre args = true) (hwl:WellAll P h vals args) :
  ∃ a vs ns,vals = [Value.ref a]∧args = [WData.list (ns.map WData.int)]∧h.get? a = some { cls:=.type "list",data:=.seq vs.toArray }∧IntsAre vs ns∧ns.length≤n:=by
 have hsh:WShape.hasAll [] args [.list .int] = true:=(pre_splitW hpre).1
 have hc:l.pre.holds [] { args:=args } = true:=(pre_splitW hpre).2
 obtain ⟨d,r,rfl,h1,h2⟩:=hasAllW_cons hsh
 obtain rfl:=hasAllW_nil h2
 obtain ⟨xs,rfl,h3⟩:=hasW_list h1
 obtain ⟨ns,rfl⟩:=items_int h3
 have hlen:ns.length≤n:=by
  unfold OpenLaw.pre at hc
  have h4:(WTm.not (.lt (.lit (.int (n:Int))) (.len (.arg 0)))).holds [] { args:=[.list (ns.map .int)] } = true:=by
   have h4:=(holds_andW hc).1
   rw [hn] at h4
   exact h4
  have h5:=condW_of h4 (w_not (w_lt w_lit (w_len_list (w_arg rfl))))
  rw [List.length_map] at h5
  refine Nat.le_of_not_lt fun q=>?_
  have q':(n:Int) < ((ns.length:Nat):Int):=by omega
  first
   | (rw [decide_eq_true q'] at h5;exact absurd h5 (by decide))
   | (simp at h5;omega)
 cases hwl with
 | cons w1 w2 =>
  cases w2
  cases w1 with
  | list ho hall=>exact ⟨_,_,ns,rfl,rfl,ho,qu ns _ hall,hlen⟩
theorem Y5 (l:OpenLaw) (args:List WData):l.row.toRowW.claim.post args (.bool true) args = true :=
 postW_of (r:=l.row.toRowW) (X:=(true == true))
  (show WShape.has [] (.bool true) .bool = true by first | rfl | decide | simp [WShape.has,WShape.arms,WShape.armsAll])
  (show (WTm.eq .res (.lit (.bool true))).value [] { args:=args,res:=some (.bool true),after:=args } = some (.bool (true == true)) from w_eq_bool (w_res rfl) w_lit) rfl
theorem attach_call {l:OpenLaw}{n:Nat}{q:Program}{loose:List Str}{XP:(Str→Option Value)→Heap→Prop}{YP:World→Heap→Prop}{d:DefRec}
  (hn:l.most = some n) (hdf:d.params.defaults = [])
  (call:∀ (w:World) (s₀ s₁:Shared) (mg mb:Str→Option Value) (fa:Addr) (o:Obj) (pm cd doc:Value) (a:Addr) (vs:List Value) (ns:List Int),
   Ground q loose [] XP w s₀ mg mb s₁.heap→YP w s₁.heap →
   s₁.heap.get? fa = some o→o.data = .func (docDef d.name d.params d.body d.scope pm cd doc)→s₁.heap.CodeRec cd d.name→mg d.name = some (.ref fa) →
   s₁.heap.get? a = some { cls:=.type "list",data:=.seq vs.toArray }→IntsAre vs ns→ns.length≤n→s₁.gens = #[] →
   codeAny (model l.prog w) callerA (.call (.ref fa) ⟨[.ref a],[]⟩) (fun r s'=>r = .ok (.ret (.bool true))∧OldK s₁.heap s'.heap∧s'.os = s₁.os∧AllBare s'.gens) s₁) :
  WalkO q loose XP YP l.row.toRowW d [] (fun f vs=>PySem.call f vs):=by
 intro w s₀ s₁ mg mb G Y fa o pm cd doc dV kV ho hd hcd hD hmg hg args vals as hpre hlay hrd hwl hlo
 obtain rfl:dV = .none:=Dflts.none hD hdf
 obtain rfl:kV = .none:=Dflts.noKw hD
 obtain ⟨a,vs,ns,rfl,rfl,hobj,hints,hlen⟩:=Za hn hpre hwl
 refine enter_call (codeAny_mono (call w s₀ s₁ mg mb fa o pm cd doc a vs ns G Y ho (fd_plain hd) hcd hmg hobj hints hlen hg) fun r s' hq=>?_)
 obtain ⟨rfl,h2,h3,h4⟩:=hq
 exact ⟨.inl ⟨.bool true,.bool true,[],rfl,fun _=>rfl,.bool true,Y5 l _,fun _=>⟨List.Pairwise.nil,fun _ hm=>(nomatch hm)⟩⟩,h2,h3,h4⟩
section
variable {prog:Program}{w:World}{A:Around}{E:Value→Shared→Prop}{s:Shared}{K:Frag}
def Ls (h:Heap) (L d:Addr):List (Addr×Obj):=(List.range h.objs.size).filterMap fun a=>if a = L∨a = d then none else (h.get? a).map fun o=>(a,o)
end
end Att
namespace L2
open PySem PySem.Spec PyProof.Rows
theorem l3:∀ {vs:List Value}{ns:List Int},IntsAre vs ns→Vals (ns.map V.int) vs
 | _,_,.nil=>.nil
 | _,_,.cons n t h=>.cons ⟨t,rfl⟩ (l3 h)
end L2
namespace L2
open PySem PySem.Spec PyProof.Rows
end L2
namespace L2
open PySem PySem.Spec PyProof.Rows
def zg (s:Stmt):Arguments:=match s with
 | .FunctionDef _ a _ _ _ _ _ _ _ _=>a
 | _=>{ posonlyargs:=[],args:=[],vararg:=none,kwonlyargs:=[],kw_defaults:=[],kwarg:=none,defaults:=[] }
def zm (s:Stmt):List Stmt:=match s with
 | .FunctionDef _ _ b _ _ _ _ _ _ _=>b
 | _=>[]
def z4 (s:Stmt):Scope:=match s with
 | .FunctionDef _ _ _ _ _ _ sc _ _ _=>sc
 | _=>{ kind:=.function,names:=[],isGenerator:=false,isCoroutine:=false }
abbrev CX0:CXT:=fun _ _ _ _ _ _=>False
abbrev E0:XK:=fun _ _ _=>False
theorem Wf {X:Cx}:rz CX0 X E0:=fun _ _ _ _ _ _ _ h=>h.elim
structure Fun (K:PySem.W.Frag) (x qual:Str) (st:Stmt) (f:Addr) (fd:FuncData):Prop where
 ex:∃ (oc:Value) (od:Option Addr) (kV doc pm:Value) (an:Option Addr) (cdv ct:Value) (osl:Array (Option Value)),
  fd = PySem.W.fnOf x qual (zg st) (zm st) (z4 st) .none kV doc pm an cdv ct∧K.lookup f = some ⟨oc,od,.func fd,osl⟩∧PySem.W.codeIn K cdv qual = true
 kp:PySem.W.keepIn K (.ref f) = true
section
variable {P:Program}{w:World}{K:PySem.W.Frag}{mg:Str→Option Value}{base:Heap}
theorem Fun.ok {x qual:Str}{st:Stmt}{f:Addr}{fd:FuncData}{N ps:List Str}{k:Nat}{sp:Sp} (F:Fun K x qual st f fd) (S:zu N ps (z4 st)) (len:∀ vs H Q E,sp vs H Q E→vs.length = ps.length)
  (hbody:∀ (cdv:Value) (A:Around) (outer:List Env) (s:Shared) (H:Hp) (vs:List V) (Q:VK) (E:XK),Room k (A.deeper (envOfC qual (z4 st) s.heap.objs.size f cdv))→sp vs H Q E →
   ∃ t,PSs (sf CX0 P w K mg base N qual (z4 st) f cdv A outer s H E).nox (zm st) t∧t { nx:=fun _ H'=>Q .non H',rt:=Q } (wf N vs) H):FnOk P w K mg base CX0 (k + 1) f fd ps sp:=by
 obtain ⟨oc,od,kV,doc,pm,an,cdv,ct,osl,rfl,lk,hcd⟩:=F.ex
 refine Zz lk hcd S len fun A outer s H vs Q E hr hsp=>?_
 obtain ⟨t,h,q⟩:=hbody cdv A outer s H vs Q E hr hsp
 exact ⟨t,h.nox,q⟩
theorem bu {x qual:Str}{st:Stmt}{f:Addr}{oc:Value}{od an:Option Addr}{osl:Array (Option Value)}{kV doc pm cdv ct:Value} (l:K.lookup f = some ⟨oc,od,.func (PySem.W.fnOf x qual (zg st) (zm st) (z4 st) .none kV doc pm an cdv ct),osl⟩)
  (c:PySem.W.codeIn K cdv qual = true) (k:PySem.W.keepIn K (.ref f) = true):Fun K x qual st f (PySem.W.fnOf x qual (zg st) (zm st) (z4 st) .none kV doc pm an cdv ct):=⟨⟨oc,od,kV,doc,pm,an,cdv,ct,osl,rfl,l,c⟩,k⟩
end
theorem u1 {n:Nat} (h:n≤1000):n < sizeLine:=Nat.lt_of_le_of_lt h (by decide)
section
variable {X:Cx}
end
theorem v3 {c A B:Prop} [Decidable c] (h1:c→A) (h2:¬ c→B):if c then A else B:=by
 by_cases h:c
 ·rw [if_pos h]
  exact h1 h
 ·rw [if_neg h]
  exact h2 h
def Same (H H':Hp):Prop:=∀ b o,H b = some o→H' b = some o
theorem Same.refl (H:Hp):Same H H:=fun _ _ h=>h
theorem Same.trans {H H1 H2:Hp} (a:Same H H1) (b:Same H1 H2):Same H H2:=fun c o h=>b c o (a c o h)
theorem Same.seq {K:PySem.W.Frag}{H H':Hp}{a:Addr}{xs:List V} (e:Same H H') (h:SqL K H a xs):SqL K H' a xs:=by
 rcases h with (h | ⟨o,h⟩) | h
 ·exact .inl (.inl (e _ _ h))
 ·exact .inl (.inr ⟨o,e _ _ h⟩)
 ·exact .inr h
end L2
namespace L2
open PySem PySem.Spec PyProof.Rows
section
variable {κ:Type} [DecidableEq κ]
def vh (kvs:List (κ×V)) (k:κ):Option V:=(kvs.find? fun kv=>decide (kv.1 = k)).map (·.2)
def v8 (kvs:List (κ×V)) (k:κ) (v:V):List (κ×V) :=
 if (kvs.any fun kv=>decide (kv.1 = k)) = true then kvs.map (fun kv=>if kv.1 = k then (kv.1,v) else kv) else kvs ++ [(k,v)]
def Le (kvs:List (κ×V)) (k:κ):List (κ×V):=kvs.filter fun kv=>decide (kv.1≠k)
theorem vm {p:κ×V}{r:List (κ×V)}{k:κ} (e:p.1 = k):vh (p :: r) k = some p.2:=by simp [vh,List.find?_cons,e]
theorem vk {p:κ×V}{r:List (κ×V)}{k:κ} (e:¬ p.1 = k):vh (p :: r) k = vh r k:=by simp [vh,List.find?_cons,e]
theorem iz (k:κ):∀ kvs:List (κ×V),(kvs.any fun kv=>decide (kv.1 = k)) = (vh kvs k).isSome
 | []=>rfl
 | p :: r=>by
  rw [List.any_cons]
  by_cases e:p.1 = k
  ·simp only [vm e,decide_eq_true e,Bool.true_or,Option.isSome_some]
  ·rw [vk e,decide_eq_false e,Bool.false_or];exact iz k r
theorem rc (kvs:List (κ×V)) (k:κ) (v:V):(v8 kvs k v).length≤kvs.length + 1:=by
 unfold v8
 split
 ·rw [List.length_map];omega
 ·rw [List.length_append,List.length_cons,List.length_nil];omega
theorem RelO.isSome_eq {o:Option V}{u:Option Value} (r:RelO o u):o.isSome = u.isSome:=by
 cases o with
 | none=>cases u with
  | none=>rfl
  | some _=>exact (show False from r).elim
 | some _=>cases u with
  | none=>exact (show False from r).elim
  | some _=>rfl
theorem RelO.getD {o:Option V}{u:Option Value}{d:V}{d':Value} (r:RelO o u) (rd:RelV d d'):RelV (o.getD d) (u.getD d'):=by
 cases o with
 | none=>cases u with
  | none=>exact rd
  | some _=>exact (show False from r).elim
 | some _=>cases u with
  | none=>exact (show False from r).elim
  | some _=>exact r
theorem KV.val {kvs:List (κ×V)}{vs:List (κ×Value)} (r:KV kvs vs) (k:κ):RelO (vh kvs k) (valueAt vs k):=by
 unfold KV at r
 induction r with
 | nil=>exact True.intro
 | @cons p q ps qs h t ih =>
  obtain ⟨h1,h2⟩:=h
  by_cases e:p.1 = k
  ·have e':q.1 = k:=h1.symm.trans e
   have b:valueAt (q :: qs) k = some q.2:=by simp [valueAt,List.find?_cons,e']
   rw [vm e,b];exact h2
  ·have e':¬ q.1 = k:=fun z=>e (h1.trans z)
   have b:valueAt (q :: qs) k = valueAt qs k:=by simp [valueAt,List.find?_cons,e']
   rw [vk e,b];exact ih
theorem KV.any {kvs:List (κ×V)}{vs:List (κ×Value)} (r:KV kvs vs) (k:κ):(kvs.any fun kv=>decide (kv.1 = k)) = vs.any fun kv=>decide (kv.1 = k):=by
 unfold KV at r
 induction r with
 | nil=>rfl
 | cons h t ih=>rw [List.any_cons,List.any_cons,ih,h.1]
theorem KV.repl {kvs:List (κ×V)}{vs:List (κ×Value)} (r:KV kvs vs) (k:κ) {y:V}{u:Value} (ry:RelV y u) :
  KV (kvs.map fun kv=>if kv.1 = k then (kv.1,y) else kv) (vs.map fun kv=>if kv.1 = k then (kv.1,u) else kv):=by
 unfold KV at r ⊢
 induction r with
 | nil=>exact .nil
 | @cons p q ps qs h t ih =>
  rw [List.map_cons,List.map_cons]
  refine .cons ?_ ih
  obtain ⟨h1,h2⟩:=h
  by_cases e:p.1 = k
  ·rw [if_pos e,if_pos (h1.symm.trans e)];exact ⟨h1,ry⟩
  ·rw [if_neg e,if_neg (fun z=>e (h1.trans z))];exact ⟨h1,h2⟩
theorem KV.put {kvs:List (κ×V)}{vs:List (κ×Value)} (r:KV kvs vs) (k:κ) {y:V}{u:Value} (ry:RelV y u):KV (v8 kvs k y) (stored vs k u):=by
 unfold v8 stored
 rw [r.any k]
 by_cases e:(vs.any fun kv=>decide (kv.1 = k)) = true
 ·rw [if_pos e,if_pos e];exact r.repl k ry
 ·rw [if_neg e,if_neg e];exact Paired.snoc r ⟨rfl,ry⟩
theorem KV.length {kvs:List (κ×V)}{vs:List (κ×Value)} (r:KV kvs vs):kvs.length = vs.length:=Paired.length r
end
theorem Va {P:Program}{w:World}{k:Key}{u:Value} (r:RelV (kV k) u):(x6 P w).is k u = true:=by
 cases k with
 | inl i=>obtain ⟨t,e⟩:=(show ∃ t,u = Value.int i t from r);subst e;exact gn P w i t
 | inr x=>obtain ⟨t,e⟩:=(show ∃ t,u = Value.str x t from r);subst e;exact gp P w x t
theorem km {P:Program}{w:World}:∀ {ks:List Key}{us:List Value},Vals (ks.map kV) us→ItemsAre (x6 P w) ks us
 | [],_,r=>by rw [List.map_nil] at r;cases r;exact .nil
 | k :: ks,_,r=>by
  rw [List.map_cons] at r
  cases r with
  | cons h t=>exact .cons (Va h) (km t)
abbrev KT (H:Hp):List (List Key×V)→List (List Key×Addr×Value)→Prop:=Paired fun p q=>p.1 = q.1∧H q.2.1 = some (.tup (p.1.map kV))∧RelV p.2 q.2.2
theorem KT.val {H:Hp}{kvs:List (List Key×V)}{xs:List (List Key×Addr×Value)} (r:KT H kvs xs) (k:List Key):RelO (vh kvs k) ((atKey xs k).map (·.2)):=by
 induction r with
 | nil=>exact True.intro
 | @cons p q ps qs h t ih =>
  obtain ⟨h1,_,h2⟩:=h
  by_cases e:p.1 = k
  ·have e':q.1 = k:=h1.symm.trans e
   have b:atKey (q :: qs) k = some q.2:=by simp [atKey,List.find?_cons,e']
   rw [vm e,b];exact h2
  ·have e':¬ q.1 = k:=fun z=>e (h1.trans z)
   have b:atKey (q :: qs) k = atKey qs k:=by simp [atKey,List.find?_cons,e']
   rw [vk e,b];exact ih
theorem KT.repl {H:Hp}{kvs:List (List Key×V)}{xs:List (List Key×Addr×Value)} (r:KT H kvs xs) (k:List Key) {y:V}{u:Value} (ry:RelV y u) :
  KT H (kvs.map fun kv=>if kv.1 = k then (kv.1,y) else kv) (xs.map (putAt k u)):=by
 induction r with
 | nil=>exact .nil
 | @cons p q ps qs h t ih =>
  rw [List.map_cons,List.map_cons]
  refine .cons ?_ ih
  obtain ⟨h1,h2,h3⟩:=h
  unfold putAt
  by_cases e:p.1 = k
  ·rw [if_pos e,if_pos (h1.symm.trans e)];exact ⟨h1,h2,ry⟩
  ·rw [if_neg e,if_neg (fun z=>e (h1.trans z))];exact ⟨h1,h2,h3⟩
theorem KT.put {H:Hp}{kvs:List (List Key×V)}{xs:List (List Key×Addr×Value)} (r:KT H kvs xs) (k:List Key) {b:Addr}{y:V}{u:Value} (hb:H b = some (.tup (k.map kV))) (ry:RelV y u) :
  KT H (v8 kvs k y) (storedH xs k b u):=by
 have e:(kvs.any fun kv=>decide (kv.1 = k)) = (atKey xs k).isSome:=by
  rw [iz,(r.val k).isSome_eq,Option.isSome_map]
 unfold v8 storedH
 rw [e]
 by_cases q:(atKey xs k).isSome = true
 ·rw [if_pos q,if_pos q];exact r.repl k ry
 ·rw [if_neg q,if_neg q];exact Paired.snoc r ⟨rfl,hb,ry⟩
theorem KT.keeps {H H':Hp}{kvs:List (List Key×V)}{xs:List (List Key×Addr×Value)} (r:KT H kvs xs) (ht:∀ b ys,H b = some (.tup ys)→H' b = some (.tup ys)):KT H' kvs xs :=
 Paired.mapP r fun _ _ z=>⟨z.1,ht _ _ z.2.1,z.2.2⟩
section
variable {P:Program}{w:World}{H:Hp}{h:Heap}{a:Addr}
theorem Rs {u:HO} (ok:HOk P w H h) (e:Rd H a u):ObjOk P w H h a u:=e.ok ok
theorem Ux {kvs:List (Key×V)} (ok:HOk P w H h) (e:Rd H a (.dK kvs)):kvs.length≤sizeLine∧(a == sysModules) = false∧∃ vs,KV kvs vs∧h.DictOf (x6 P w) a vs :=
 show ObjOk P w H h a (.dK kvs) from Rs ok e
theorem Uw {kvs:List (Key×V)} (ok:HOk P w H h) (e:H a = some (.dK kvs)):kvs.length≤sizeLine∧(a == sysModules) = false∧∃ vs,KV kvs vs∧h.DictOf (x6 P w) a vs:=Ux ok (.inl e)
theorem b8 {ks:List Key} (ok:HOk P w H h) (e:H a = some (.tup (ks.map kV))):(tupleKind (x6 P w)).is h ks a:=by
 obtain ⟨_,its,r,o,h1,h2,n,h3⟩:=(show ObjOk P w H h a (.tup (ks.map kV)) from ok a _ e)
 exact ⟨o,its.toArray,n,h1,h2,h3,by simpa using km r⟩
theorem Uy {kvs:List (List Key×V)} (ok:HOk P w H h) (e:Rd H a (.dT kvs)):kvs.length≤sizeLine∧(a == sysModules) = false ∧
  ∃ xs,KT H kvs xs∧h.DictOfH (tupleKind (x6 P w)) a xs:=by
 obtain ⟨z,y,xs,r,o,es,ep,h1,h2,h3,h4,h5⟩:=(show ObjOk P w H h a (.dT kvs) from Rs ok e)
 refine ⟨z,y,xs,r,o,es,ep,h1,h2,h3,h4,fun x hx=>?_,h5⟩
 have all:∀ {l:List (List Key×V)}{m:List (List Key×Addr×Value)},KT H l m→∀ x∈m,(tupleKind (x6 P w)).is h x.1 x.2.1:=by
  intro l m q
  induction q with
  | nil=>intro x hx;exact nomatch hx
  | @cons p q ps qs hq t ih =>
   intro x hx
   rcases List.mem_cons.mp hx with e | hx
   ·subst e
    exact b8 ok (by rw [← hq.1];exact hq.2.1)
   ·exact ih x hx
 exact all r x hx
theorem Mp {kvs:List (List Key×V)} (ok:HOk P w H h) (e:H a = some (.dT kvs)):kvs.length≤sizeLine∧(a == sysModules) = false ∧
  ∃ xs,KT H kvs xs∧h.DictOfH (tupleKind (x6 P w)) a xs:=Uy ok (.inl e)
end
def DGet (H:Hp) (a:Addr) (y:V) (r:Option V):Prop :=
 (∃ kvs k,Rd H a (.dK kvs)∧y = kV k∧r = vh kvs k)∨∃ kvs k b,Rd H a (.dT kvs)∧y = .ref b∧H b = some (.tup (k.map kV))∧r = vh kvs k
def DPut (H:Hp) (a:Addr) (y v:V) (H':Hp):Prop :=
 (∃ kvs k,H a = some (.dK kvs)∧y = kV k∧kvs.length < sizeLine∧H' = upd H a (.dK (v8 kvs k v))) ∨
 ∃ kvs k b,H a = some (.dT kvs)∧y = .ref b∧H b = some (.tup (k.map kV))∧kvs.length < sizeLine∧H' = upd H a (.dT (v8 kvs k v))
theorem DGet.k {H:Hp}{a:Addr}{kvs:List (Key×V)}{k:Key} (e:H a = some (.dK kvs)):DGet H a (kV k) (vh kvs k):=.inl ⟨kvs,k,.inl e,rfl,rfl⟩
theorem DPut.k {H:Hp}{a:Addr}{kvs:List (Key×V)}{k:Key}{v:V} (e:H a = some (.dK kvs)) (hl:kvs.length < sizeLine):DPut H a (kV k) v (upd H a (.dK (v8 kvs k v))):=.inl ⟨kvs,k,e,rfl,hl,rfl⟩
section
variable {X:Cx}{pins:List (Addr×Obj)}{σ:St}{H:Hp}{s:Shared}{a:Addr}{y v:V}{u r:Value}{o:Option V}{A:Around}{E:Value→Shared→Prop}
theorem Inv.big (I:Inv X pins σ H s):sysModules < s.heap.objs.size:=by
 have h:mainGlobals < s.heap.objs.size:=(I.mod.glob.keeps I.bk).lt
 exact Nat.lt_trans (by decide) h
theorem X1 {Q:Value→Shared→Prop} (hu:A.units + 1 < cLine) (I:Inv X pins σ H s) (g:DGet H a y (some v)) (ry:RelV y u) (h:∀ w' s',Inv X pins σ H s'→RelV v w'→Q w' s') :
  wpAny (model X.prog X.w) A (getItem (.ref a) u) Q E s:=by
 rcases g with ⟨kvs,k,e,ey,l⟩ | ⟨kvs,k,b,e,ey,eb,l⟩
 ·subst ey
  obtain ⟨z,hd,vs,rel,dd⟩:=Ux I.hok e
  obtain ⟨w',hw,rw'⟩:=RelO.some_of (v:=v) (o:=valueAt vs k) (by rw [l];exact rel.val k)
  exact wpAny_getItem_of (Va ry) dd.mapOf hw (h w' _ (I.tok _) rw')
 ·subst ey
  cases (show u = Value.ref b from ry)
  obtain ⟨z,hd,xs,rel,dd⟩:=Uy I.hok e
  obtain ⟨w',hw,rw'⟩:=RelO.some_of (v:=v) (o:=(atKey xs k).map (·.2)) (by rw [l];exact rel.val k)
  obtain ⟨p,hp,hp2⟩:=Option.map_eq_some_iff.mp hw
  refine wpAny_getItem_heap (tupleKind_room_in1 hu) (b8 I.hok eb) dd hp ?_
  rw [hp2]
  exact h w' _ (I.tok _) rw'
theorem Zt {h':Heap}{t':Nat}{ob:HO} (I:Inv X pins σ H s) (mu:Mut (H a)) (hs:Heap.SameBut a s.heap h') (he:∃ q,h'.get? a = some q) (new:ObjOk X.prog X.w (upd H a ob) h' a ob) :
  Inv X pins σ (upd H a ob) { s with heap:=h',toks:=t' } :=
 I.write (x:=a) (e:=a) mu (.inl rfl) (fun b q hb z=>(hs.2 b hb).trans z) he new
theorem Pc {P:Program}{w:World}{H':Hp}{h':Heap}{kvs:List (Key×V)}{vs:List (Key×Value)} (z:kvs.length≤sizeLine) (hd:(a == sysModules) = false) (rel:KV kvs vs) (dd:h'.DictOf (x6 P w) a vs) :
  ObjOk P w H' h' a (.dK kvs):=⟨z,hd,vs,rel,dd⟩
theorem X2 {H':Hp}{Q:Unit→Shared→Prop} (hu:A.units + 1 < cLine) (I:Inv X pins σ H s) (g:DPut H a y v H') (ry:RelV y u) (rv:RelV v r) (h:∀ s',Inv X pins σ H' s'→Q () s') :
  wpAny (model X.prog X.w) A (setItem (.ref a) u r) Q E s:=by
 rcases g with ⟨kvs,k,e,ey,l,eH⟩ | ⟨kvs,k,b,e,ey,eb,l,eH⟩
 ·subst ey eH
  obtain ⟨z,hd,vs,rel,dd⟩:=Uw I.hok e
  have hz:vs.length≤sizeLine:=by rw [← rel.length];exact z
  have hl:(v8 kvs k v).length≤sizeLine:=by have:=rc kvs k v;omega
  refine wpAny_setItem_pairs (hsz:=hz) (Va ry) dd fun h' dd' hs=>h _ ?_
  have he:∃ q,h'.get? a = some q:=let ⟨q,_,_,hq,_⟩:=dd';⟨q,hq⟩
  exact Zt I (by rw [e];exact True.intro) hs he (Pc hl hd (rel.put k rv) dd')
 ·subst ey eH
  cases (show u = Value.ref b from ry)
  obtain ⟨z,hd,xs,rel,dd⟩:=Mp I.hok e
  have hz:xs.length≤sizeLine:=by rw [← Paired.length rel];exact z
  have hl:(v8 kvs k v).length≤sizeLine:=by have:=rc kvs k v;omega
  refine wpAny_setItem_heap (hsz:=hz) (tupleKind_room_in1 hu) (b8 I.hok eb) dd fun h' dd' hs=>h _ ?_
  obtain ⟨q,es,ep,hq,h2,h3,h4,_,h5⟩:=dd'
  refine Zt I (by rw [e];exact True.intro) hs ⟨q,hq⟩ ⟨hl,hd,_,(rel.put k eb rv).keeps fun c ys ec=>?_,q,es,ep,hq,h2,h3,h4,h5⟩
  rw [zk (Nn ec e (fun z=>nomatch z))]
  exact ec
end
section
variable {X:Cx}{pins:List (Addr×Obj)}{σ:St}{H:Hp}{s:Shared}{a:Addr}{kvs:List (Key×V)}{k:Key}{u:Value}{A:Around}{E:Value→Shared→Prop}
end
def Mi (i:Expr):Prop:=∀ ov iv,subscripted i false ov iv = operate [ov,iv] (getItem ov iv)
theorem T9 {prog:Program}{w:World}{A:Around}{E:Value→Shared→Prop}{s:Shared}{env:Env}{value slice:Expr}{pos:Pos}{T id:String}{Q:Value→Shared→Prop}
  (hl:typeLookup (.type T) "__getitem__" = pure (some (.builtin id))) (hs:Mi slice)
  (h:wpAny (model prog w) A (eval value env) (fun o s₁=>wpAny (model prog w) A (eval slice env) (fun i s₂=>s₂.TypeIs o T∧wpAny (model prog w) A (getItem o i) Q E s₂) E s₁) E s) :
  wpAny (model prog w) A (eval (.Subscript value slice pos) env) Q E s:=by
 refine Subscript_ (wpAny_mono h (fun o s₁ h₁=>wpAny_mono h₁ (fun i s₂ h₂=>?_) fun _ _ x=>x) fun _ _ x=>x)
 obtain ⟨hT,h₂⟩:=h₂
 unfold subscriptTail
 refine wpAny_bind ?_
 rw [getitemInPython_of_ne hT.not_modules]
 refine wpAny_bind (wpAny_specialOf hT hl ?_)
 have fin:wpAny (model prog w) A (subscripted slice false o i) (fun r s₃=>wpAny (model prog w) A (letTemporaryGo value o r >>= fun _=>pure r) Q E s₃) E s₂:=by
  rw [hs o i]
  exact wpAny_operating (wpAny_mono h₂ (fun r s₃ h₃=>wpAny_bind (wpAny_letTemporaryGo (wpAny_pure h₃))) fun _ _ x=>x)
 first
  | exact wpAny_pure (wpAny_bind fin)
  | exact wpAny_bind (wpAny_pure (wpAny_bind fin))
  | exact wpAny_bind fin
theorem fv {X:Cx}{pins:List (Addr×Obj)}{σ:St}{H:Hp}{s:Shared}{a:Addr}{y:V}{o:Option V} (I:Inv X pins σ H s) (g:DGet H a y o):s.TypeIs (.ref a) "dict":=by
 rcases g with ⟨kvs,k,e,_,_⟩ | ⟨kvs,k,b,e,_,_,_⟩
 ·obtain ⟨_,_,vs,_,dd⟩:=Ux I.hok e
  exact dd.typeIs
 ·obtain ⟨_,_,xs,_,dd⟩:=Uy I.hok e
  exact dd.typeIs
section
variable {X:Cx}{o i e value:Expr}{pos pos' tpos:Pos}{td ty tv:TE}
end
theorem Uv {P:Program}{w:World}{H:Hp} (h:Heap) (hb:sysModules < h.objs.size):ObjOk P w H (h.push { cls:=.type "dict",data:=.dict #[] }) h.objs.size (.dK []) :=
 ⟨Nat.zero_le _,beq_eq_false_iff_ne.mpr (Ne.symm (Nat.ne_of_lt hb)),[],.nil,Heap.DictOf.new h⟩
def Q8:TE:=fun _ H Q=>∀ p,H p = none→Q (.ref p) (upd H p (.dK []))
section
variable {X:Cx}{pos:Pos}
theorem Wg:PE X (.Dict [] [] pos) Q8:=fun pins s σ H Q I h =>
 wpAny_Dict_empty ⟨.ref s.heap.objs.size,_,I.laid (a:=s.heap.objs.size) (o:=.dK []) (t':=s.toks) (fun _ _ q=>Heap.get?_push_of_some _ q) (Nat.le_refl _) (Uv s.heap I.big),rfl,h _ (I.hok.fresh (Nat.le_refl _))⟩
end
structure M1 (X:Cx) (o:Expr) (m:Str) (apos:Pos) (e:Expr) (cpos:Pos):Prop where
 base:attributeBase o m X.env (eval o X.env) = eval o X.env
 few:((backTo cpos (starEach [e] X.env)).all (fun x=>!x.1) && (backToKw cpos (keywordEach [] X.env)).all (fun x=>x.1.isSome)
  && decide (([e]:List Expr).length + ([]:List Keyword).length + (if ([]:List Keyword).isEmpty then 0 else 1) < 30)) = true
 line:(apos.endLine == cpos.line) = true
 trees:backTo cpos (starEach [e] X.env) = [(false,eval e X.env)]
structure M2 (X:Cx) (o:Expr) (m:Str) (apos:Pos) (e f:Expr) (cpos:Pos):Prop where
 base:attributeBase o m X.env (eval o X.env) = eval o X.env
 few:((backTo cpos (starEach [e,f] X.env)).all (fun x=>!x.1) && (backToKw cpos (keywordEach [] X.env)).all (fun x=>x.1.isSome)
  && decide (([e,f]:List Expr).length + ([]:List Keyword).length + (if ([]:List Keyword).isEmpty then 0 else 1) < 30)) = true
 line:(apos.endLine == cpos.line) = true
 trees:backTo cpos (starEach [e,f] X.env) = [(false,eval e X.env),(false,eval f X.env)]
section
variable {X:Cx}{pins:List (Addr×Obj)}{σ:St}{H:Hp}{s:Shared}{a:Addr}{y d:V}{u r:Value}{o:Option V}{A:Around}{E:Value→Shared→Prop}
end
section
variable {X:Cx}{o e f:Expr}{apos cpos:Pos}{td ty tx:TE}
end
section
variable {X:Cx}{pins:List (Addr×Obj)}{σ:St}{H:Hp}{s:Shared}{a:Addr}{kvs:List (Key×V)}{A:Around}{E:Value→Shared→Prop}
end
section
variable {X:Cx}{pins:List (Addr×Obj)}{σ:St}{H:Hp}{s:Shared}{a:Addr}{y:V}{u:Value}{A:Around}{E:Value→Shared→Prop}
end
end L2
namespace L2
open PySem PySem.Spec PyProof.Rows
section
variable {X:Cx}
end
section
variable {κ:Type} [DecidableEq κ]
end
end L2
set_option maxHeartbeats 4000000
namespace My
open PySem PySem.Spec L2
open PyProof.Rows hiding St
theorem Ll {CX:CXT}{P:Program}{w:World}{K:PySem.W.Frag}{mg:Str→Option Value}{base:Heap}{N:List Str}{qual:Str}{scope:Scope}{f:Addr}{cd:Value}{A:Around}{outer:List Env}{s:Shared}{H:Hp}{E:XK}:(sf CX P w K mg base N qual scope f cd A outer s H E).K = K:=rfl
section
variable {X:Cx}
theorem Wh {e:Expr}{t t':TE} (h:PE X e t) (i:∀ σ H Q,t' σ H Q→t σ H Q):PE X e t':=fun pins s σ H Q I q=>h pins s σ H Q I (i σ H Q q)
theorem Qj {e:Stmt}{t t':TS} (h:PS X e t) (i:∀ D σ H,t' D σ H→t D σ H):PS X e t':=fun pins s σ H D I q=>h pins s σ H D I (i D σ H q)
theorem vd {f:Value→Value→Sem Value}{r r':R2} (h:OpR X f r) (i:∀ x y H Q,r' x y H Q→r x y H Q):OpR X f r':=fun pins s σ H x y v u Q I rx ry q=>h pins s σ H x y v u Q I rx ry (i x y H Q q)
theorem Pf {r r':R2} (h:IxR X r) (i:∀ x y H Q,r' x y H Q→r x y H Q):IxR X r':=fun value slice pins s σ H x y v u Q I rx ry q hs=>h value slice pins s σ H x y v u Q I rx ry (i x y H Q q) hs
theorem Q3 {r r':V→Option Int→Option Int→Hp→VK→Prop} (h:SlR X r) (i:∀ x lo hi H Q,r' x lo hi H Q→r x lo hi H Q):SlR X r':=fun pins s σ H x v vl vu lo hi sl Q I rx hs pl pu q=>h pins s σ H x v vl vu lo hi sl Q I rx hs pl pu (i x lo hi H Q q)
end
def New (H:Hp) (o:HO) (Q:VK):Prop:=∀ (p:Addr) (H':Hp),H p = none→Same H H'→H' p = some o→Q (.ref p) H'
theorem zt {H H1:Hp}{p:Addr} (h:Same H H1) (n:H p = none) (o:HO):Same H (upd H1 p o):=fun b u q=>by
 rw [zk (xf q n)]
 exact h b u q
theorem xm {H:Hp}{p:Addr} (n:H p = none) (o:HO):Same H (upd H p o):=zt (Same.refl H) n o
theorem New.at {H:Hp}{o:HO}{Q:VK} (h:New H o Q):∀ p,H p = none→Q (.ref p) (upd H p o):=fun p n=>h p _ n (xm n o) zw
def Tups (H H':Hp):Prop:=(∀ b xs,H b = some (.tup xs)→H' b = some (.tup xs))∧∀ b o u,H b = some (.frz o u)→H' b = some (.frz o u)
theorem Tups.trans {H H1 H2:Hp} (a:Tups H H1) (b:Tups H1 H2):Tups H H2:=⟨fun c xs h=>b.1 c xs (a.1 c xs h),fun c o u h=>b.2 c o u (a.2 c o u h)⟩
theorem z7 {H H':Hp} (a:Same H H'):Tups H H':=⟨fun b xs h=>a b _ h,fun b o u h=>a b _ h⟩
theorem iw {H:Hp}{p:Addr}{o:HO} (n:(∀ xs,H p≠some (.tup xs))∧∀ ob u,H p≠some (.frz ob u)):Tups H (upd H p o) :=
 ⟨fun b xs h=>by rw [zk (by rintro rfl;exact n.1 xs h)];exact h,fun b ob u h=>by rw [zk (by rintro rfl;exact n.2 ob u h)];exact h⟩
theorem xr {H:Hp}{p:Addr}{xs:List V}{o:HO} (h:H p = some (.lst xs)):Tups H (upd H p o):=iw ⟨fun ys z=>(by rw [h] at z;cases z),fun ob u z=>(by rw [h] at z;cases z)⟩
theorem qo {H:Hp}{p:Addr}{kvs:List (Key×V)}{o:HO} (h:H p = some (.dK kvs)):Tups H (upd H p o):=iw ⟨fun ys z=>(by rw [h] at z;cases z),fun ob u z=>(by rw [h] at z;cases z)⟩
theorem Tups.sqT {K:PySem.W.Frag}{H H':Hp}{a:Addr}{xs:List V} (t:Tups H H') (h:SqT K H a xs):SqT K H' a xs:=by
 rcases h with (h | ⟨o,h⟩) | h
 ·exact .inl (.inl (t.1 _ _ h))
 ·exact .inl (.inr ⟨o,t.2 _ _ _ h⟩)
 ·exact .inr h
mutual
def Has (K:PySem.W.Frag) (H:Hp):V→PyData→Prop
 | v,.none=>v = .non
 | v,.bool b=>v = .bl b
 | v,.int i=>v = .int i
 | v,.str x=>v = .str x
 | v,.tuple ds=>∃ a xs,v = .ref a∧SqT K H a xs∧HasL K H xs ds
 | v,.list ds=>∃ a xs,v = .ref a∧SqL K H a xs∧HasL K H xs ds
 | _,.dict _=>False
def HasL (K:PySem.W.Frag) (H:Hp):List V→List PyData→Prop
 | xs,[]=>xs = []
 | xs,d :: ds=>∃ y ys,xs = y :: ys∧Has K H y d∧HasL K H ys ds
end
def gv:St→Nat→Option V
 | [],_=>none
 | x :: _,0=>x
 | _ :: r,n + 1=>gv r n
def sv:St→Nat→V→St
 | [],_,_=>[]
 | _ :: r,0,v=>some v :: r
 | x :: r,n + 1,v=>x :: sv r n v
theorem ng:∀ {σ:St}{i:Nat}{v:V},gv σ i = some v→σ[i]? = some (some v)
 | [],_,_,h=>by simp [gv] at h
 | x :: _,0,v,h=>by have h':x = some v:=h;simp [h']
 | _ :: r,n + 1,v,h=>by
  have:=ng (σ:=r) (i:=n) (v:=v) h
  simpa using this
theorem ee:∀ (σ:St) (i:Nat) (v:V),σ.set i (some v) = sv σ i v
 | [],_,_=>rfl
 | _ :: _,0,_=>rfl
 | x :: r,n + 1,v=>by
  show x :: r.set n (some v) = x :: sv r n v
  rw [ee r n v]
section
variable {X:Cx}
def mV (i:Nat):TE:=fun σ H Q=>match gv σ i with
 | some v=>Q v H
 | none=>False
theorem z8 (i:Nat) {x:Str}{pos:Pos} (hN:X.N[i]? = some x:=by rfl) (hv:Vis X.env.scope x:=by first | exact Or.inl rfl | exact Or.inr (Or.inl rfl) | exact Or.inr (Or.inr rfl)) (hd:(x == ("__debug__":Str)) = false:=by decide)
  (hcd:(x == ("__classdict__":Str)) = false:=by decide):PE X (.Name x pos) (mV i):=Wh (Qe hN hv hd hcd) fun σ H Q q=>by
 unfold mV at q
 split at q
 ·rename_i v e;exact ⟨v,ng e,q⟩
 ·exact q.elim
def M7 (i:Nat) (te:TE):TS:=fun D σ H=>te σ H fun x H1=>D.nx (sv σ i x) H1
theorem zo (i:Nat) {x:Str}{e:Expr}{te:TE}{pos pos':Pos} (hN:X.N.Nodup) (he:PE X e te) (hi:X.N[i]? = some x:=by rfl) (hx:Loc X.env.scope x:=by first | exact Or.inl rfl | exact Or.inr rfl)
  (hs:swapsWith e (some (.Name x pos')) pos.line X.env = pure false:=by rfl) (hf:X.fn x = true∨X.env.scope.names.lookup x = some .local:=by first | exact .inl rfl | exact .inr rfl):PS X (.Assign [.Name x pos'] e pos) (M7 i te) :=
 Qj (Qk (i:=i) hN hi hx he hs hf) fun D σ H q=>by
  refine (?_:Zf te (ki i) D σ H)
  have e:(fun x H1=>D.nx (sv σ i x) H1) = fun x H1=>ki i x σ H1 D.nx:=by
   funext x H1
   show D.nx (sv σ i x) H1 = D.nx (σ.set i (some x)) H1
   rw [ee]
  show te σ H fun x H1=>ki i x σ H1 D.nx
  rw [← e]
  exact q
def mG (i:Nat):TG:=fun v σ H Q=>Q (sv σ i v) H
theorem wk (i:Nat) {x:Str}{pos:Pos} (hN:X.N.Nodup) (hi:X.N[i]? = some x:=by rfl) (hx:Loc X.env.scope x:=by first | exact Or.inl rfl | exact Or.inr rfl)
  (hf:X.fn x = true∨X.env.scope.names.lookup x = some .local:=by first | exact .inl rfl | exact .inr rfl):PG X (.Name x pos) (mG i):=by
 have h:=Tk (pos:=pos) (X:=X) hN hi hx hf
 have e:mG i = ki i:=by
  funext v σ H Q
  show Q (sv σ i v) H = Q (σ.set i (some v)) H
  rw [ee]
 rw [e]
 exact h
def Wb (k:Bool→Hp→Prop):V→Hp→Prop:=fun x H=>match x with
 | .bl c=>k c H
 | _=>False
theorem S8 {k:Bool→Hp→Prop}{c:Bool}{H:Hp}:Wb k (.bl c) H = k c H:=rfl
def on (k:Int→Hp→Prop):V→Hp→Prop:=fun x H=>match x with
 | .int c=>k c H
 | _=>False
theorem Wc {k:Int→Hp→Prop}{c:Int}{H:Hp}:on k (.int c) H = k c H:=rfl
def oo (k:Addr→Hp→Prop):V→Hp→Prop:=fun x H=>match x with
 | .ref c=>k c H
 | _=>False
theorem Wd {k:Addr→Hp→Prop}{c:Addr}{H:Hp}:oo k (.ref c) H = k c H:=rfl
def on1 (k:V→Hp→Prop):List V→Hp→Prop:=fun x H=>match x with
 | [c]=>k c H
 | _=>False
theorem P1 {k:V→Hp→Prop}{c:V}{H:Hp}:on1 k [c] H = k c H:=rfl
def Sn (K:PySem.W.Frag):R2:=fun x y H Q=>match x,y with
 | .int i,.int j=>Q (.int (i + j)) H
 | .str a,.str b=>a.length + b.length≤sizeLine∧Q (.str (a ++ b)) H
 | .ref a,.ref b=>(∃ xs ys,H a = some (.lst xs)∧H b = some (.lst ys)∧xs.length + ys.length≤sizeLine∧New H (.lst (xs ++ ys)) Q) ∨
   ∃ xs ys,SqT K H a xs∧SqT K H b ys∧xs.length + ys.length≤sizeLine∧∀ (p:Addr) (H':Hp),Same H H'→SqT K H' p (xs ++ ys)→Q (.ref p) H'
 | _,_=>False
theorem Ur {prog:Program}{w:World}{A:Around}{E:Value→Shared→Prop}{s:Shared}{t b:Addr}{ws:List Value}{Q:Value→Shared→Prop} (ht:IsTup s.heap t #[]) (hb:IsTup s.heap b ws.toArray) (h:Q (.ref b) s) :
  wpAny (model prog w) A (binaryOp .Add (.ref t) (.ref b)) Q E s:=by
 obtain ⟨⟨cls,dd,data,sl⟩,ho,hc,n,hd⟩:=id ht
 obtain ⟨⟨cls2,dd2,data2,sl2⟩,ho2,hc2,n2,hd2⟩:=id hb
 simp only at hc hd hc2 hd2
 subst hc hd hc2 hd2
 exact concat_meets ⟨_,ho,rfl⟩ ⟨_,ho2,rfl⟩ noFill_tuple_add seq_tuple_add PySem.F.slot_tuple_add PySem.F.entry_tuple_add (PySem.F.args_tuple_add_2 _ _)
   (tuple_addW0 t b #[] ws.toArray n n2 dd dd2 sl sl2 (by simp)) ⟨ho,ho2,h⟩
theorem We:OpR X (binaryOp .Add) (fun x y H Q=>∃ a b xs ys,x = .ref a∧y = .ref b∧SqT X.K H a xs∧SqT X.K H b ys∧xs.length + ys.length≤sizeLine∧∀ (p:Addr) (H':Hp),Same H H'→SqT X.K H' p (xs ++ ys)→Q (.ref p) H'):=by
 intro pins s σ H x y v u Q I rx ry h
 obtain ⟨a,b,xs,ys,rfl,rfl,ha,hb,hz,q⟩:=h
 by_cases e:xs = []
 ·subst e
  cases rx
  cases ry
  obtain ⟨its,r1,p1,_⟩:=I.tuple ha
  obtain ⟨its2,r2,p2,_⟩:=I.tuple hb
  cases r1
  exact Ur p1 p2 ⟨.ref b,H,I,rfl,q b H (Same.refl H) hb⟩
 ·refine Td pins s σ H _ _ v u Q I rx ry ⟨a,b,xs,ys,rfl,rfl,ha,hb,e,hz,fun z=>?_,fun _ p n=>?_⟩
  ·subst z
   exact q a H (Same.refl H) (by rw [List.append_nil];exact ha)
  ·exact q p _ (xm n _) (SqT.of zw)
theorem zf:OpR X (binaryOp .Add) (Sn X.K):=by
 intro pins s σ H x y v u Q I rx ry h
 cases x with
 | int i=>cases y with
  | int j=>exact P5 pins s σ H _ _ v u Q I rx ry ⟨i,j,rfl,rfl,h⟩
  | _=>exact (show False from h).elim
 | str i=>cases y with
  | str j=>exact dl pins s σ H _ _ v u Q I rx ry ⟨i,j,rfl,rfl,h.1,h.2⟩
  | _=>exact (show False from h).elim
 | ref a=>cases y with
  | ref b =>
   have h':(∃ xs ys,H a = some (.lst xs)∧H b = some (.lst ys)∧xs.length + ys.length≤sizeLine∧New H (.lst (xs ++ ys)) Q) ∨
    ∃ xs ys,SqT X.K H a xs∧SqT X.K H b ys∧xs.length + ys.length≤sizeLine∧∀ (p:Addr) (H':Hp),Same H H'→SqT X.K H' p (xs ++ ys)→Q (.ref p) H':=h
   rcases h' with ⟨xs,ys,ha,hb,hz,q⟩ | ⟨xs,ys,ha,hb,hz,q⟩
   ·exact P6 pins s σ H _ _ v u Q I rx ry ⟨a,b,xs,ys,rfl,rfl,ha,hb,hz,q.at⟩
   ·exact We pins s σ H _ _ v u Q I rx ry ⟨a,b,xs,ys,rfl,rfl,ha,hb,hz,q⟩
  | _=>exact (show False from h).elim
 | _=>exact (show False from by cases y <;> exact h).elim
def mII (C:Int→Int→Prop) (g:Int→Int→V):R2:=fun x y H Q=>match x,y with
 | .int i,.int j=>C i j∧Q (g i j) H
 | _,_=>False
def Vn (g:Int→Int→V):R2:=fun x y H Q=>match x,y with
 | .int i,.int j=>Q (g i j) H
 | _,_=>False
theorem cj {C:Int→Int→Prop}{g:Int→Int→V} (x y:V) (H:Hp) (Q:VK) (h:mII C g x y H Q):rI C g x y H Q:=by
 cases x with
 | int i=>cases y with
  | int j=>exact ⟨i,j,rfl,rfl,h.1,h.2⟩
  | _=>exact (show False from h).elim
 | _=>exact (show False from by cases y <;> exact h).elim
theorem jl {g:Int→Int→V} (x y:V) (H:Hp) (Q:VK) (h:Vn g x y H Q):rI0 g x y H Q:=by
 cases x with
 | int i=>cases y with
  | int j=>exact ⟨i,j,rfl,rfl,h⟩
  | _=>exact (show False from h).elim
 | _=>exact (show False from by cases y <;> exact h).elim
theorem gm:OpR X (binaryOp .Sub) (Vn fun i j=>.int (i - j)):=vd Qa jl
theorem w6:OpR X (binaryOp .Mult) (mII CMul fun i j=>.int (i * j)):=vd P9 cj
theorem vc:OpR X (binaryOp .Mod) (mII (fun _ j=>0 < j) fun i j=>.int (i % j)):=vd P8 cj
theorem cn:OpR X (binaryOp .FloorDiv) (mII Mh fun i j=>.int (i / j)):=vd Te cj
theorem Nf:OpR X (compareOp .Lt) (Vn fun i j=>.bl (decide (i < j))):=vd Nu jl
theorem Sr:OpR X (compareOp .Gt) (Vn fun i j=>.bl (decide (j < i))):=vd Nr jl
def mEq (g:Bool→Bool):R2:=fun x y H Q=>match x,y with
 | .int i,.int j=>Q (.bl (g (decide (i = j)))) H
 | .bl i,.bl j=>Q (.bl (g (decide (i = j)))) H
 | .str i,.str j=>Q (.bl (g (decide (i = j)))) H
 | .non,.non=>Q (.bl (g true)) H
 | .non,.bl _=>Q (.bl (g false)) H
 | .bl _,.non=>Q (.bl (g false)) H
 | .non,.int _=>Q (.bl (g false)) H
 | .int _,.non=>Q (.bl (g false)) H
 | _,_=>False
theorem Mn (i j:Int):decide (V.int i = V.int j) = decide (i = j):=by simp
theorem Lm (i j:Bool):decide (V.bl i = V.bl j) = decide (i = j):=by simp
theorem Mo (i j:Str):decide (V.str i = V.str j) = decide (i = j):=by simp
theorem Rl {g:Bool→Bool}{x y:V}{H:Hp}{Q:VK} (h:mEq g x y H Q):Q1 x y = true∧Q (.bl (g (decide (x = y)))) H:=by
 cases x with
 | int i=>cases y with
  | int j=>exact ⟨rfl,by rw [Mn];exact h⟩
  | non=>exact ⟨rfl,by rw [decide_eq_false (by intro z;cases z)];exact h⟩
  | _=>exact (show False from h).elim
 | bl i=>cases y with
  | bl j=>exact ⟨rfl,by rw [Lm];exact h⟩
  | non=>exact ⟨rfl,by rw [decide_eq_false (by intro z;cases z)];exact h⟩
  | _=>exact (show False from h).elim
 | str i=>cases y with
  | str j=>exact ⟨rfl,by rw [Mo];exact h⟩
  | _=>exact (show False from h).elim
 | non=>cases y with
  | non=>exact ⟨rfl,by rw [decide_eq_true rfl];exact h⟩
  | bl j=>exact ⟨rfl,by rw [decide_eq_false (by intro z;cases z)];exact h⟩
  | int j=>exact ⟨rfl,by rw [decide_eq_false (by intro z;cases z)];exact h⟩
  | _=>exact (show False from h).elim
 | _=>exact (show False from by cases y <;> exact h).elim
mutual
theorem vz {pins:List (Addr×Obj)}{σ:St}{H:Hp}{s:Shared} (I:Inv X pins σ H s):∀ (d:PyData) (v:V) (u:Value),Has X.K H v d→RelV v u→∃ as,Reads s.heap u d as
 | .none,v,u,h,r=>by
  have h':v = .non:=by simpa [Has] using h
  subst h'
  cases r
  exact ⟨_,.none⟩
 | .bool b,v,u,h,r=>by
  have h':v = .bl b:=by simpa [Has] using h
  subst h'
  cases r
  exact ⟨_,.bool b⟩
 | .int i,v,u,h,r=>by
  have h':v = .int i:=by simpa [Has] using h
  subst h'
  obtain ⟨t,rfl⟩:=r
  exact ⟨_,.int i t⟩
 | .str x,v,u,h,r=>by
  have h':v = .str x:=by simpa [Has] using h
  subst h'
  obtain ⟨t,rfl⟩:=r
  exact ⟨_,.str x t⟩
 | .tuple ds,v,u,h,r=>by
  have h':∃ a xs,v = .ref a∧SqT X.K H a xs∧HasL X.K H xs ds:=by simpa [Has] using h
  obtain ⟨a,xs,rfl,hq,hl⟩:=h'
  cases r
  obtain ⟨its,rv,⟨o,e,c,n,dd⟩,_⟩:=I.tuple hq
  obtain ⟨as,ra⟩:=hasL_reads I ds xs its hl rv
  exact ⟨_,.tuple e c dd ra⟩
 | .list ds,v,u,h,r=>by
  have h':∃ a xs,v = .ref a∧SqL X.K H a xs∧HasL X.K H xs ds:=by simpa [Has] using h
  obtain ⟨a,xs,rfl,hq,hl⟩:=h'
  cases r
  obtain ⟨its,rv,pl,_⟩:=I.list hq
  obtain ⟨o,e,c,n,dd⟩:=pl.isList
  obtain ⟨as,ra⟩:=hasL_reads I ds xs its hl rv
  exact ⟨_,.list e c dd ra⟩
 | .dict _,v,u,h,r=>by
  have h':False:=by simpa [Has] using h
  exact h'.elim
theorem hasL_reads {pins:List (Addr×Obj)}{σ:St}{H:Hp}{s:Shared} (I:Inv X pins σ H s):∀ (ds:List PyData) (xs:List V) (us:List Value),HasL X.K H xs ds→Vals xs us→∃ as,ReadsAll s.heap us ds as
 | [],xs,us,h,r=>by
  have h':xs = []:=by simpa [HasL] using h
  subst h'
  cases r
  exact ⟨_,.nil⟩
 | d :: ds,xs,us,h,r=>by
  have h':∃ y ys,xs = y :: ys∧Has X.K H y d∧HasL X.K H ys ds:=by simpa [HasL] using h
  obtain ⟨y,ys,rfl,h1,h2⟩:=h'
  cases r with
  | cons r1 r2 =>
   obtain ⟨as,ra⟩:=vz I d y _ h1 r1
   obtain ⟨bs,rb⟩:=hasL_reads I ds ys _ h2 r2
   exact ⟨_,.cons ra rb⟩
end
def og (K:PySem.W.Frag) (g:Bool→Bool):R2:=fun x y H Q=>match x,y with
 | .ref a,.ref b=>∃ da db,Has K H (.ref a) da∧Has K H (.ref b) db∧SeqAt.shaped da = true∧SeqAt.shaped db = true∧Q (.bl (g (PyData.eqv da db))) H
 | x,y=>mEq g x y H Q
theorem wx (hu:X.A.units + 64 < cLine):OpR X (compareOp .Eq) (og X.K id):=by
 intro pins s σ H x y v u Q I rx ry h
 have sc:mEq id x y H Q→wpAny (model X.prog X.w) X.A (compareOp .Eq v u) (EP X pins σ Q) X.xe s:=fun h=>Nq pins s σ H x y v u Q I rx ry (Rl h)
 cases x with
 | ref a=>cases y with
  | ref b =>
   obtain ⟨da,db,h1,h2,s1,s2,q⟩:=(show ∃ da db,Has X.K H (.ref a) da∧Has X.K H (.ref b) db∧SeqAt.shaped da = true∧SeqAt.shaped db = true∧Q (.bl (PyData.eqv da db)) H from h)
   obtain ⟨as,ra⟩:=vz I da _ _ h1 rx
   obtain ⟨bs,rb⟩:=vz I db _ _ h2 ry
   exact eq_dataH ra rb s1 s2 hu ⟨.bl _,H,I,rfl,q⟩
  | _=>exact sc h
 | _=>exact sc (by cases y <;> exact h)
theorem gk (hu:X.A.units + 64 < cLine):OpR X (compareOp .NotEq) (og X.K not):=by
 intro pins s σ H x y v u Q I rx ry h
 have sc:mEq not x y H Q→wpAny (model X.prog X.w) X.A (compareOp .NotEq v u) (EP X pins σ Q) X.xe s:=fun h=>Nv pins s σ H x y v u Q I rx ry (Rl h)
 cases x with
 | ref a=>cases y with
  | ref b =>
   obtain ⟨da,db,h1,h2,s1,s2,q⟩:=(show ∃ da db,Has X.K H (.ref a) da∧Has X.K H (.ref b) db∧SeqAt.shaped da = true∧SeqAt.shaped db = true∧Q (.bl (!PyData.eqv da db)) H from h)
   obtain ⟨as,ra⟩:=vz I da _ _ h1 rx
   obtain ⟨bs,rb⟩:=vz I db _ _ h2 ry
   exact ne_dataH ra rb s1 s2 hu ⟨.bl _,H,I,rfl,q⟩
  | _=>exact sc h
 | _=>exact sc (by cases y <;> exact h)
def mLe:R2:=fun x y H Q=>match x,y with
 | .int i,.int j=>Q (.bl (decide (i≤j))) H
 | .bl i,.bl j=>Q (.bl (!i || j)) H
 | _,_=>False
theorem Lx:OpR X (compareOp .LtE) mLe:=by
 intro pins s σ H x y v u Q I rx ry h
 match x,y,h with
 | .int i,.int j,h=>exact Nt pins s σ H _ _ v u Q I rx ry ⟨i,j,rfl,rfl,h⟩
 | .bl i,.bl j,h =>
  cases rx
  cases ry
  exact le_bool ⟨.bl (!i || j),H,I,by cases i <;> cases j <;> rfl,h⟩
def mIn (K:PySem.W.Frag) (neg:Bool):R2:=fun x y H Q=>match y with
 | .ref p=>∃ xs,(SqL K H p xs∨SqT K H p xs)∧wn x = true∧xs.all wn = true∧Q (.bl (if neg then !inV x xs else inV x xs)) H
 | _=>False
theorem Mz {K:PySem.W.Frag}{neg:Bool} (x y:V) (H:Hp) (Q:VK) (h:mIn K neg x y H Q):rIn K neg x y H Q:=by
 cases y with
 | ref p =>
  obtain ⟨xs,q⟩:=(show ∃ xs,(SqL K H p xs∨SqT K H p xs)∧wn x = true∧xs.all wn = true∧Q (.bl (if neg then !inV x xs else inV x xs)) H from h)
  exact ⟨p,xs,rfl,q⟩
 | _=>exact (show False from h).elim
theorem Na:OpR X (compareOp .In) (mIn X.K false):=vd Y1 Mz
def mIx (K:PySem.W.Frag):R2:=fun x y H Q=>match x,y with
 | .str z,.int i=>z.length≤sizeLine∧∃ c,atI z.cps.toList i = some c∧Q (.str ⟨#[c]⟩) H
 | .ref p,.int i=>∃ xs v,(SqL K H p xs∨SqT K H p xs)∧atI xs i = some v∧Q v H
 | _,_=>False
theorem Nd:IxR X (mIx X.K):=Pf Pg fun x y H Q h=>by
 cases x with
 | str z=>cases y with
  | int i=>exact .inr (.inr ⟨z,i,h.2.choose,rfl,rfl,h.1,h.2.choose_spec.1,h.2.choose_spec.2⟩)
  | _=>exact (show False from h).elim
 | ref p=>cases y with
  | int i =>
   obtain ⟨xs,v,hs,e,q⟩:=(show ∃ xs v,(SqL X.K H p xs∨SqT X.K H p xs)∧atI xs i = some v∧Q v H from h)
   rcases hs with hs | hs
   ·exact .inl ⟨p,xs,i,v,rfl,rfl,hs,e,q⟩
   ·exact .inr (.inl ⟨p,xs,i,v,rfl,rfl,hs,e,q⟩)
  | _=>exact (show False from h).elim
 | _=>exact (show False from by cases y <;> exact h).elim
theorem yu {a b:Expr}{ta tb:TE}{pos:Pos} (ha:PE X a ta) (hb:PE X b tb) (hs:Zl b):PE X (.Subscript a b pos) (tOp (mIx X.K) ta tb):=Nw Nd ha hb hs
theorem tq {prog:Program}{w:World}{A:Around}{E:Value→Shared→Prop}{s:Shared}{t sl:Addr}{items:Array Value}{vl vu:Value}{lo hi:Option Int}{Q:Value→Shared→Prop} (ht:IsTup s.heap t items) (hs:s.heap.IsSliceOf sl vl vu .none) (pl:IsPart vl lo) (pu:IsPart vu hi)
  (hw:HT.sIx items.size 0 lo = 0∧HT.sIx items.size items.size hi = items.size) (h:Q (.ref t) s):wpAny (model prog w) A (getItem (.ref t) (.ref sl)) Q E s:=by
 obtain ⟨os,hos,hcs,hds⟩:=id hs
 have hTs:s.TypeIs (.ref sl) "slice":=⟨os,hos,hcs⟩
 unfold getItem
 try with_reducible refine wpAny_holding ?_
 first | refine wpAny_bind (wpAny_pure ?_) | skip
 refine wpAny_bind (wpAny_sequenceKey ht.typeIs (by decide) ?_)
 refine wpAny_bind (wpAny_callSpecial?_slot (name:=Str.ofString "__getitem__") ht.typeIs PyProof.Rows.slot_tuple_getitem
  (wpAny_call_entry PyProof.Rows.slot_tuple_getitem ht.typeIs entry_tuple_getitem ?_ (args_tuple_getitem _ _)))
 show wpAny _ _ (Builtin.Tuple.tupleItemsOf (.ref t) >>= _) _ _ s
 refine wpAny_bind (tupleItemsOf_ ht ?_)
 refine wpAny_bind (wpAny_typeOf hTs ?_)
 rw [if_pos (by decide)]
 refine wpAny_bind (HT.sliceApplied_gen hs pl pu ?_)
 have hyes:(((HT.sIx items.size 0 lo:Nat):Int) == 0 && (1:Int) == 1 && (HT.sIx items.size items.size hi - HT.sIx items.size 0 lo) == items.size) = true:=by
  rw [hw.1,hw.2]
  simp
 show wpAny _ _ (if (((HT.sIx items.size 0 lo:Nat):Int) == 0 && (1:Int) == 1 && (HT.sIx items.size items.size hi - HT.sIx items.size 0 lo) == items.size) = true then _ else _) _ _ s
 rw [if_pos hyes]
 have hex:∀ {A':Around}{Q':Bool→Shared→Prop}{E':Value→Shared→Prop},Q' true s→wpAny (model prog w) A' (Builtin.Tuple.tupleIsExact (.ref t)) Q' E' s:=fun q=>by
  unfold Builtin.Tuple.tupleIsExact
  exact wpAny_bind (wpAny_typeOf ht.typeIs (wpAny_pure q))
 refine wpAny_bind (hex ?_)
 rw [if_pos rfl]
 exact wpAny_bind (wpAny_rule (wpAny_pure ⟨_,rfl,wpAny_pure h⟩))
theorem sl_tupA:SlR X (fun x lo hi H Q=>∃ a xs,x = .ref a∧SqT X.K H a xs∧∀ (p:Addr) (H':Hp),Same H H'→SqT X.K H' p (wj xs lo hi)→Q (.ref p) H'):=by
 intro pins s σ H x v vl vu lo hi sl Q I rx hs pl pu h
 obtain ⟨a,xs,rfl,hx,q⟩:=h
 by_cases hw:HT.sIx xs.length 0 lo = 0∧HT.sIx xs.length xs.length hi = xs.length
 ·cases rx
  obtain ⟨its,r,ht,hz⟩:=I.tuple hx
  have hlen:its.toArray.size = xs.length:=by rw [List.size_toArray];exact r.length.symm
  refine ⟨"tuple",_,PyProof.Rows.slot_tuple_getitem.lookup,ht.typeIs,?_⟩
  refine tq ht hs pl pu (by rw [hlen];exact hw) ⟨.ref a,H,I,rfl,q a H (Same.refl H) ?_⟩
  have e:wj xs lo hi = xs:=by
   unfold wj
   rw [hw.1,hw.2]
   simp
  rw [e]
  exact hx
 ·exact Q4 pins s σ H _ v vl vu lo hi sl Q I rx hs pl pu ⟨a,xs,rfl,hx,hw,fun p n=>q p _ (xm n _) (SqT.of zw)⟩
theorem ac {v:Value}{o:Option Int} (p:IsPart v o):∃ l:Option (Int×Tok),v = partValue l∧l.map (·.1) = o:=by
 cases p with
 | none=>exact ⟨none,rfl,rfl⟩
 | int i t=>exact ⟨some (i,t),rfl,rfl⟩
theorem sl_strA:SlR X (fun x lo hi H Q=>∃ z,x = .str z∧z.length≤sizeLine∧Q (.str (Txt.slice z lo hi)) H):=by
 intro pins s σ H x v vl vu lo hi sl Q I rx hs pl pu h
 obtain ⟨z,rfl,hz,q⟩:=h
 obtain ⟨t,rfl⟩:=rx
 obtain ⟨l,rfl,rfl⟩:=ac pl
 obtain ⟨u,rfl,rfl⟩:=ac pu
 refine ⟨"str",_,PySem.F.slot_str_getitem.lookup,typeIs_str _ _ _,?_⟩
 refine wpAny_getItem_str_slice (l:=l) (u:=u) (st:=none) hs rfl (post_val_or_str ⟨Nat.le_trans (Txt.slice_le z _ _) hz,fun t' k=>⟨.str (Txt.slice z (l.map (·.1)) (u.map (·.1))),H,I.tok k,⟨t',rfl⟩,q⟩⟩)
def mSl (K:PySem.W.Frag):V→Option Int→Option Int→Hp→VK→Prop:=fun x lo hi H Q=>match x with
 | .str z=>z.length≤sizeLine∧Q (.str (Txt.slice z lo hi)) H
 | .ref a=>(∃ xs,SqL K H a xs∧New H (.lst (wj xs lo hi)) Q)∨∃ xs,SqT K H a xs∧∀ (p:Addr) (H':Hp),Same H H'→SqT K H' p (wj xs lo hi)→Q (.ref p) H'
 | _=>False
theorem Nj:SlR X (mSl X.K):=Q3 (sl_strA.or (sl_tupA.or T0)) fun x lo hi H Q h=>by
 cases x with
 | str z=>exact .inl ⟨z,rfl,h.1,h.2⟩
 | ref a =>
  have h':(∃ xs,SqL X.K H a xs∧New H (.lst (wj xs lo hi)) Q)∨∃ xs,SqT X.K H a xs∧∀ (p:Addr) (H':Hp),Same H H'→SqT X.K H' p (wj xs lo hi)→Q (.ref p) H':=h
  rcases h' with ⟨xs,hx,q⟩ | ⟨xs,hx,q⟩
  ·exact .inr (.inr ⟨a,xs,rfl,hx,q.at⟩)
  ·exact .inr (.inl ⟨a,xs,rfl,hx,q⟩)
 | _=>exact (show False from h).elim
def Ro (t:TE):TO:=fun σ H Q=>t σ H (on fun i H1=>Q (some i) H1)
theorem xo {e:Expr}{te:TE} (h:PE X e te):PO X (some e) (Ro te):=by
 intro pins s σ H Q I hw
 rw [evalPart_some]
 refine thn (h pins s σ H _ I hw) fun u s1 ⟨x,H1,I1,r1,q1⟩=>?_
 cases x with
 | int i =>
  obtain ⟨t,rfl⟩:=r1
  exact ⟨some i,H1,I1,.int i t,q1⟩
 | _=>exact (show False from q1).elim
theorem xz {e:Expr}{te:TE}{lo hi:Option Expr}{tl th:TO}{pos p2:Pos} (he:PE X e te) (hl:PO X lo tl) (hu:PO X hi th):PE X (.Subscript e (.Slice lo hi none p2) pos) (tSl (mSl X.K) te tl th):=Wj Nj he hl hu
def M9 (t:TA):TE:=fun σ H Q=>t σ H fun xs H1=>xs.length≤sizeLine∧New H1 (.tup xs) Q
def M4 (t:TA):TE:=fun σ H Q=>t σ H fun xs H1=>xs.length≤sizeLine∧New H1 (.lst xs) Q
theorem wy {es:List Expr}{t:TA}{pos:Pos}{x1} (h:PA X es t):PE X (.Tuple es x1 pos) (M9 t):=by
 intro pins s σ H Q I hq
 refine wpAny_Tuple_spliced (thn (h pos pins s σ H _ I hq) fun us s1 ⟨xs,H1,I1,r,z,q⟩=>⟨by rw [← r.length];exact z,?_⟩)
 have hf:H1 s1.heap.objs.size = none:=I1.hok.fresh (Nat.le_refl _)
 refine ⟨.ref s1.heap.objs.size,upd H1 s1.heap.objs.size (.tup xs),I1.laid (t':=s1.toks) (fun b u e=>Heap.get?_push_of_some _ e) (Nat.le_refl _) ?_,rfl,q.at _ hf⟩
 exact ⟨z,us,r,⟨_,Heap.get?_push_size _ rfl,rfl,_,rfl⟩⟩
theorem v5 {es:List Expr}{t:TA}{pos:Pos} (h:PA X es t):PE X (.List es pos) (M4 t):=by
 intro pins s σ H Q I hq
 refine wpAny_List_spliced (thn (h pos pins s σ H _ I hq) fun us s1 ⟨xs,H1,I1,r,z,q⟩=>⟨by rw [← r.length];exact z,?_⟩)
 have hf:H1 s1.heap.objs.size = none:=I1.hok.fresh (Nat.le_refl _)
 refine ⟨.ref s1.heap.objs.size,upd H1 s1.heap.objs.size (.lst xs),I1.laid (t':=s1.toks) (fun b u e=>Heap.get?_push_of_some _ e) (Nat.le_refl _) ?_,rfl,q.at _ hf⟩
 exact ⟨z,us,0,r,Heap.get?_push_size _ rfl⟩
def mB (t:TE):TT:=fun σ H Q=>t σ H (Wb Q)
theorem zd {a b:Expr}{op:CmpOp}{r:R2}{ta tb:TE}{pos:Pos} (ho:OpR X (compareOp op) r) (ha:PE X a ta) (hb:PE X b tb) (hm:behindInMarks op b = false):PT X (.Compare a [op] [b] pos) (mB (tOp r ta tb)):=by
 intro pins s σ H Q I h
 refine wpAny_isTrue_Compare1 (thn (ha pins s σ H _ I h) fun v s1 ⟨x,H1,I1,r1,q1⟩=>thn (hb pins s1 σ H1 _ I1 q1) fun u s2 ⟨y,H2,I2,r2,q2⟩ =>
  thn (ho pins s2 σ H2 x y v u _ I2 r1 r2 q2) fun c s3 ⟨z,H3,I3,r3,q3⟩=>?_) hm
 cases z with
 | bl k =>
  cases r3
  exact wpAny_truthy_bool ⟨H3,I3,q3⟩
 | _=>exact (show False from q3).elim
theorem uq {e:Expr}{t:TE} (h:PE X e t) (he:∀ whole,isTrue e X.env whole = (do let v ← whole;standAt e.pos;holding [v] (truthy v)):=by intro _;rfl):PT X e (mB t):=by
 intro pins s σ H Q I hw
 refine isTrue_plain (thn (h pins s σ H _ I hw) fun v s1 ⟨x,H1,I1,r1,q1⟩=>?_) (he _)
 cases x with
 | bl k =>
  cases r1
  exact wpAny_truthy_bool ⟨H1,I1,q1⟩
 | _=>exact (show False from q1).elim
def Rk (ta tb:TE):TE:=fun σ H Q=>ta σ H (Wb fun c H1=>if c = true then tb σ H1 Q else Q (.bl false) H1)
def M5 (ta tb:TE):TE:=fun σ H Q=>ta σ H (Wb fun c H1=>if c = true then Q (.bl true) H1 else tb σ H1 Q)
def Rn (ta:TE):TE:=fun σ H Q=>ta σ H (Wb fun c H1=>Q (.bl (!c)) H1)
theorem Rp {a b:Expr}{rest:List Expr}{ta tb:TE}{pos:Pos} (ha:PE X a ta) (hb:PE X (.BoolOp .And (b :: rest) pos) tb):PE X (.BoolOp .And (a :: b :: rest) pos) (Rk ta tb):=by
 intro pins s σ H Q I h
 refine BoolOp_and (thn (ha pins s σ H _ I h) fun v s1 ⟨x,H1,I1,r1,q1⟩=>?_)
 cases x with
 | bl c =>
  cases r1
  refine wpAny_truthy_bool ?_
  cases c with
  | true=>exact hb pins s1 σ H1 Q I1 q1
  | false=>exact ⟨.bl false,H1,I1,rfl,q1⟩
 | _=>exact (show False from q1).elim
theorem Nh {a b:Expr}{rest:List Expr}{ta tb:TE}{pos:Pos} (ha:PE X a ta) (hb:PE X (.BoolOp .Or (b :: rest) pos) tb):PE X (.BoolOp .Or (a :: b :: rest) pos) (M5 ta tb):=by
 intro pins s σ H Q I h
 refine BoolOp_or (thn (ha pins s σ H _ I h) fun v s1 ⟨x,H1,I1,r1,q1⟩=>?_)
 cases x with
 | bl c =>
  cases r1
  refine wpAny_truthy_bool ?_
  cases c with
  | false=>exact hb pins s1 σ H1 Q I1 q1
  | true=>exact ⟨.bl true,H1,I1,rfl,q1⟩
 | _=>exact (show False from q1).elim
theorem gl {a:Expr}{ta:TE}{pos:Pos} (ha:PE X a ta):PE X (.UnaryOp .Not a pos) (Rn ta):=by
 intro pins s σ H Q I h
 refine UnaryOp_ (thn (ha pins s σ H _ I h) fun v s1 ⟨x,H1,I1,r1,q1⟩=>?_)
 cases x with
 | bl c =>
  cases r1
  exact not_of (wpAny_truthy_bool ⟨.bl (!c),H1,I1,rfl,q1⟩)
 | _=>exact (show False from q1).elim
def Pp (K:PySem.W.Frag):List V→Hp→VK→Prop:=fun xs H Q=>match xs with
 | [.str z]=>z.length≤sizeLine∧Q (.int z.length) H
 | [.ref p]=>∃ ys,(SqL K H p ys∨SqT K H p ys)∧Q (.int ys.length) H
 | _=>False
theorem ye:wm X (.builtin "len") (Pp X.K):=by
 intro pins s σ H xs us Q I r h
 match xs,h with
 | [.str z],h=>exact ja pins s σ H _ us Q I r ⟨z,rfl,h.1,h.2⟩
 | [.ref p],h =>
  obtain ⟨ys,hs,q⟩:=(show ∃ ys,(SqL X.K H p ys∨SqT X.K H p ys)∧Q (.int ys.length) H from h)
  exact i9 pins s σ H _ us Q I r ⟨p,ys,rfl,hs,q⟩
theorem Tc {C:Addr→Prop}{xs:List V} (h:match xs with | [.ref p]=>C p | _=>False):∃ p,xs = [.ref p]∧C p:=by
 rcases xs with _ | ⟨x,_ | ⟨_,_⟩⟩
 ·exact (show False from h).elim
 ·cases x with
  | ref p=>exact ⟨p,rfl,h⟩
  | _=>exact (show False from h).elim
 ·exact (show False from by cases x <;> exact h).elim
def So (K:PySem.W.Frag):List V→Hp→VK→Prop:=fun xs H Q=>match xs with
 | [.ref p]=>∃ ys,(SqL K H p ys∨SqT K H p ys)∧New H (.lst ys) Q
 | _=>False
def Vq (K:PySem.W.Frag):List V→Hp→VK→Prop:=fun xs H Q=>match xs with
 | [.ref p]=>∃ ys,(SqL K H p ys∨SqT K H p ys)∧∀ (r:Addr) (H':Hp),Same H H'→SqT K H' r ys→Q (.ref r) H'
 | _=>False
theorem yi:wm X (.type "tuple") (Vq X.K):=by
 intro pins s σ H xs us Q I r h
 obtain ⟨p,rfl,ys,hs,q⟩:=Tc (C:=fun p=>∃ ys,(SqL X.K H p ys∨SqT X.K H p ys)∧∀ (r:Addr) (H':Hp),Same H H'→SqT X.K H' r ys→Q (.ref r) H') h
 rcases hs with hs | hs
 ·exact uj pins s σ H _ us Q I r ⟨p,ys,rfl,.inl ⟨hs,fun l n=>q l _ (xm n _) (SqT.of zw)⟩⟩
 ·exact uj pins s σ H _ us Q I r ⟨p,ys,rfl,.inr ⟨hs,q p H (Same.refl H) hs⟩⟩
inductive TyX (K:PySem.W.Frag) (H:Hp):V→Value→Prop where
 | of {x:V}{t:Value} (h:TyOf K H x t):TyX K H x t
 | tup {a:Addr}{xs:List V} (h:SqT K H a xs):TyX K H (.ref a) (.type "tuple")
 | lst {a:Addr}{xs:List V} (h:SqL K H a xs):TyX K H (.ref a) (.type "list")
def M0 (K:PySem.W.Frag):List V→Hp→VK→Prop:=fun xs H Q=>match xs with
 | [x,.ty c]=>∃ t b,TyX K H x t∧PySem.W.kitOne K t (.type c) = some b∧Q (.bl b) H
 | _=>False
theorem O3 {C:V→String→Prop}{xs:List V} (h:match xs with | [x,.ty c]=>C x c | _=>False):∃ x c,xs = [x,.ty c]∧C x c:=by
 rcases xs with _ | ⟨x,_ | ⟨y,_ | ⟨_,_⟩⟩⟩
 ·exact (show False from h).elim
 ·exact (show False from h).elim
 ·cases y with
  | ty c=>exact ⟨x,c,rfl,h⟩
  | _=>exact (show False from h).elim
 ·exact (show False from by cases y <;> exact h).elim
theorem Rq:wm X (.builtin "isinstance") (M0 X.K):=by
 intro pins s σ H xs us Q I r h
 obtain ⟨x,c,rfl,t,b,ty,e,q⟩:=O3 (C:=fun x c=>∃ t b,TyX X.K H x t∧PySem.W.kitOne X.K t (.type c) = some b∧Q (.bl b) H) h
 obtain ⟨u,w',rfl,r1,r2⟩:=a9 r
 cases r2
 cases ty with
 | of ty=>exact Yb I r1 ty e fun tk=>⟨.bl b,H,I.tok tk,rfl,q⟩
 | tup hq =>
  cases r1
  obtain ⟨its,_,⟨o,h1,h2,_⟩,_⟩:=I.tuple hq
  exact PySem.W.kia_one PySem.W.kitx_tuple I.kIn ⟨o,h1,h2⟩ e (fun z=>nomatch z) fun tk=>⟨.bl b,H,I.tok tk,rfl,q⟩
 | lst hq =>
  cases r1
  obtain ⟨its,_,pl,_⟩:=I.list hq
  obtain ⟨o,h1,h2,_⟩:=pl.isList
  exact PySem.W.kia_one PySem.W.kitx_list I.kIn ⟨o,h1,h2⟩ e (fun z=>nomatch z) fun tk=>⟨.bl b,H,I.tok tk,rfl,q⟩
def Mu:V→List V→Hp→VK→Prop:=fun x vs H Q=>match x,vs with
 | .ref l,[y]=>∃ xs,H l = some (.lst xs)∧xs.length < sizeLine∧Q .non (upd H l (.lst (xs ++ [y])))
 | _,_=>False
theorem Tt {C:Addr→V→Prop}{x:V}{vs:List V} (h:match x,vs with | .ref l,[y]=>C l y | _,_=>False):∃ l y,x = .ref l∧vs = [y]∧C l y:=by
 cases x with
 | ref l =>
  rcases vs with _ | ⟨y,_ | ⟨_,_⟩⟩
  ·exact (show False from h).elim
  ·exact ⟨l,y,rfl,rfl,h⟩
  ·exact (show False from h).elim
 | _=>exact (show False from by rcases vs with _ | ⟨y,_ | ⟨_,_⟩⟩ <;> exact h).elim
theorem Vr:MtR X "list.append" Mu:=fun pins s σ H x xs v us Q I rx rs h=>by
 obtain ⟨l,y,rfl,rfl,ys,e,z,q⟩:=Tt (C:=fun l y=>∃ ys,H l = some (.lst ys)∧ys.length < sizeLine∧Q .non (upd H l (.lst (ys ++ [y])))) h
 exact sk pins s σ H _ _ v us Q I rx rs ⟨l,ys,y,rfl,rfl,e,z,q⟩
def Lw:V→List V→Hp→VK→Prop:=fun x vs H Q=>match x,vs with
 | .ref l,[]=>∃ xs y,H l = some (.lst xs)∧xs[xs.length - 1]? = some y∧Q y (upd H l (.lst xs.dropLast))
 | _,_=>False
def mBM (r:V→List V→Hp→VK→Prop) (to:TE) (t:TA):TE:=fun σ H Q=>to σ H fun x H1=>(∃ p xs,x = .ref p∧H1 p = some (.lst xs))∧t σ H1 fun xs H2=>r x xs H2 Q
def Lu (r:V→List V→Hp→VK→Prop) (to:TE):TE:=fun σ H Q=>to σ H fun x H1=>(∃ p xs,x = .ref p∧H1 p = some (.lst xs))∧r x [] H1 Q
theorem Ym {o e:Expr}{es:List Expr}{to:TE}{t:TA}{name:Str}{apos cpos:Pos}{id:String}{r:V→List V→Hp→VK→Prop} (slot:Slot "list" name id) (hty:typeOf (.builtin id) = pure (.type "method_descriptor")) (hm:MtR X id r) (ho:PE X o to) (ha:PA X (e :: es) t)
  (hbase:attributeBase o name X.env (eval o X.env) = eval o X.env:=by rfl)
  (hfew:((backTo cpos (starEach (e :: es) X.env)).all (fun x=>!x.1) && (backToKw cpos (keywordEach [] X.env)).all (fun x=>x.1.isSome)
   && decide ((e :: es).length + ([]:List Keyword).length + (if ([]:List Keyword).isEmpty then 0 else 1) < 30)) = true:=by rfl)
  (hline:(apos.endLine == cpos.line) = true:=by rfl) (hs:starEach (e :: es) X.env = (false,eval e X.env) :: starEach es X.env:=by rfl) (hplain:(backTo cpos (starEach es X.env)).any (·.1) = false:=by rfl) :
  PE X (.Call (.Attribute o name apos) (e :: es) [] cpos) (mBM r to t):=by
 intro pins s σ H Q I h
 refine wpAny_Call_method_late hbase hfew hline rfl (thn (ho pins s σ H _ I h) fun v s1 ⟨x,H1,I1,r1,⟨p,xs,e,hp⟩,q1⟩=>?_)
 subst e
 obtain ⟨h1,h2⟩:=Rb (T:="list") I1 r1 (.inl ⟨rfl,xs,SqL.of hp⟩)
 refine ⟨"list",id,PySem.F.plainAttrs_list,slot,hty,h1,h2,?_⟩
 have hA:=ha cpos pins s1 σ H1 _ I1 q1
 rw [hs] at hA ⊢
 refine Calls.callWith_builtin (by show (false || (backTo cpos (starEach es X.env)).any (·.1)) = false;rw [hplain] <;> rfl) (Calls.evalArgs_plain ?_)
 exact thn hA fun us s2 ⟨vs,H2,I2,r2,q2⟩=>hm pins s2 σ H2 _ vs v us Q I2 r1 r2 q2
def Mr (K:PySem.W.Frag) (tl:TE):TI:=fun σ H R=>tl σ H (oo fun a H1=>((∃ xs,SqL K H1 a xs)∧R (Itl K a) H1)∨((∃ xs,SqT K H1 a xs)∧R (Itt K a) H1))
theorem y3 {tg l:Expr}{tl:TE} (hl:PE X l tl):PI X tg l (Mr X.K tl):=by
 intro pins s σ H R I h
 refine thn (hl pins s σ H _ I h) fun v s1 ⟨x,H1,I1,r1,q1⟩=>?_
 cases x with
 | ref a =>
  cases r1
  rcases (show ((∃ xs,SqL X.K H1 a xs)∧R (Itl X.K a) H1)∨((∃ xs,SqT X.K H1 a xs)∧R (Itt X.K a) H1) from q1) with ⟨⟨xs,hq⟩,q⟩ | ⟨⟨xs,hq⟩,q⟩
  ·obtain ⟨its,rv,p,hz⟩:=I1.list hq
   refine wpAny_pyIter_list p.isList ?_
   refine ⟨s1.heap.objs.size,[s1.heap.objs.size],_,_,H1,rfl,I1.kept (t':=s1.toks) fun b o e=>Heap.get?_push_of_some _ e,Zg a _,⟨_,Heap.get?_push_size _ rfl,rfl,rfl⟩,fun b hb=>?_,q⟩
   have e:b = s1.heap.objs.size:=by simpa using hb
   subst e
   exact I1.fpOk (Nat.le_refl _) (I1.hok.fresh (Nat.le_refl _))
  ·obtain ⟨its,rv,p,hz⟩:=I1.tuple hq
   refine wpAny_pyIter_tuple (show s1.heap.IsTuple a its.toArray from p) ?_
   refine ⟨s1.heap.objs.size,[s1.heap.objs.size],_,_,H1,rfl,I1.kept (t':=s1.toks) fun b o e=>Heap.get?_push_of_some _ e,p9 a _,⟨_,Heap.get?_push_size _ rfl,rfl,rfl⟩,fun b hb=>?_,q⟩
   have e:b = s1.heap.objs.size:=by simpa using hb
   subst e
   exact I1.fpOk (Nat.le_refl _) (I1.hok.fresh (Nat.le_refl _))
 | _=>exact (show False from q1).elim
def iR1 (ta:TA):TI:=fun σ H R=>ta σ H (on1 (on fun j H1=>(-(2 ^ 62)≤j∧j < 2 ^ 62)∧R (Itr 0 j.toNat) H1))
theorem yh {tg a:Expr}{ta:TA}{p pos:Pos} (hg:Gl X "range") (hm:X.mg "range" = none) (ha:PA X [a] ta) (hs:starEach [a] X.env = [(false,eval a X.env)]:=by rfl):PI X tg (.Call (.Name "range" p) [a] [] pos) (iR1 ta):=by
 intro pins s σ H R I h
 refine Call_ (xb I hg hm boot_range (PyProof.Rows.callWith_type1 (thn (ha pos pins s σ H _ I h) fun us s1 ⟨vs,H1,I1,r1,q1⟩=>?_) hs rfl))
 rcases vs with _ | ⟨x,_ | ⟨y,rr⟩⟩
 ·exact (show False from q1).elim
 ·cases x with
  | int j =>
   obtain ⟨⟨q1,q2⟩,q⟩:=(show (-(2 ^ 62)≤j∧j < 2 ^ 62)∧R (Itr 0 j.toNat) H1 from q1)
   cases r1 with
   | cons r rr =>
    cases rr
    obtain ⟨t,rfl⟩:=r
    exact call_range_1 (Wt I1 (by omega) (by omega) q1 q2 (by simpa using q))
  | _=>exact (show False from q1).elim
 ·exact (show False from q1).elim
def Xs (g:TG) (tb:TS) (J:It) (D:ur) (σ:St) (H1:Hp):Prop:=∃ W:Nat→Nat→St→Hp→Prop,(∃ m,W 0 m σ H1)∧∀ i m σ H,W i m σ H →
 (J.stop i H∧D.nx σ H)∨(J.go i H∧∃ N:St→Hp→Prop,(∀ σ' H',N σ' H'→∃ m',m' < m∧W (i + 1) m' σ' H')∧∀ x H',J.yld i H x H'→g x σ H' fun σ2 H2=>tb { D with nx:=N,ct:=N,bk:=D.nx } σ2 H2)
def Mw (wi:TI) (g:TG) (tb:TS):TS:=fun D σ H=>wi σ H fun J H1=>Xs g tb J D σ H1
theorem xj {tg iter:Expr}{body:List Stmt}{wi:TI}{g:TG}{tb:TS}{pos:Pos} (hp:PassesOwn (model X.prog X.w) X.A X.env X.xe) (hc:X.calm = true) (hi:PI X tg iter wi) (hg:PG X tg g) (hb:PSs X body tb)
  (hs:∀ x,foldedSetIterable iter X.env x = pure x:=by intro _;rfl):PS X (.For tg iter body [] pos) (Mw wi g tb):=Qi hp hc hi hg hb hs
theorem v4 {K:PySem.W.Frag}{a:Addr}{xs:List V}{g:TG}{tb:TS}{D:ur}{σ:St}{H:Hp} (Pv:Nat→St→Hp→Prop) (h0:Pv 0 σ H) (hl:∀ i σ H,i≤xs.length→Pv i σ H→SqL K H a xs)
  (hs:∀ i x σ H,xs[i]? = some x→Pv i σ H→g x σ H fun σ2 H2=>tb { D with nx:=Pv (i + 1),ct:=Pv (i + 1),bk:=D.nx } σ2 H2) (hd:∀ σ H,Pv xs.length σ H→D.nx σ H):Xs g tb (Itl K a) D σ H:=U2 Pv h0 hl hs hd
theorem xq {K:PySem.W.Frag}{a:Addr}{xs:List V}{g:TG}{tb:TS}{D:ur}{σ:St}{H:Hp} (Pv:Nat→St→Hp→Prop) (h0:Pv 0 σ H) (hl:∀ i σ H,i≤xs.length→Pv i σ H→SqT K H a xs)
  (hs:∀ i x σ H,xs[i]? = some x→Pv i σ H→g x σ H fun σ2 H2=>tb { D with nx:=Pv (i + 1),ct:=Pv (i + 1),bk:=D.nx } σ2 H2) (hd:∀ σ H,Pv xs.length σ H→D.nx σ H):Xs g tb (Itt K a) D σ H:=Sb Pv h0 hl hs hd
theorem vt {n:Nat}{g:TG}{tb:TS}{D:ur}{σ:St}{H:Hp} (Pv:Nat→St→Hp→Prop) (h0:Pv 0 σ H)
  (hs:∀ i σ H,i < n→Pv i σ H→g (.int (0 + (i:Int))) σ H fun σ2 H2=>tb { D with nx:=Pv (i + 1),ct:=Pv (i + 1),bk:=D.nx } σ2 H2) (hd:∀ σ H,Pv n σ H→D.nx σ H):Xs g tb (Itr 0 n) D σ H:=X6 Pv h0 hs hd
def Ml (c:TT) (tb:TS) (D:ur) (σ:St) (H:Hp):Prop:=Q9 c tb D σ H
def Ps (c:TT) (tb:TS):TS:=fun D σ H=>Ml c tb D σ H
end
section
variable {K:PySem.W.Frag}{H:Hp}{Q:VK}{i j:Int}{x y:Str}{p r:Addr}{c d:Bool}{g:Bool→Bool}{v:V}{neg:Bool}
theorem Ql:Sn K (.int i) (.int j) H Q = Q (.int (i + j)) H:=rfl
theorem Qn:Sn K (.str x) (.str y) H Q = (x.length + y.length≤sizeLine∧Q (.str (x ++ y)) H):=rfl
theorem Qm:Sn K (.ref p) (.ref r) H Q = ((∃ xs ys,H p = some (.lst xs)∧H r = some (.lst ys)∧xs.length + ys.length≤sizeLine∧New H (.lst (xs ++ ys)) Q) ∨
   ∃ xs ys,SqT K H p xs∧SqT K H r ys∧xs.length + ys.length≤sizeLine∧∀ (p:Addr) (H':Hp),Same H H'→SqT K H' p (xs ++ ys)→Q (.ref p) H'):=rfl
theorem L4 {C:Int→Int→Prop}{f:Int→Int→V}:mII C f (.int i) (.int j) H Q = (C i j∧Q (f i j) H):=rfl
theorem N5 {f:Int→Int→V}:Vn f (.int i) (.int j) H Q = Q (f i j) H:=rfl
theorem N2:og K g (.int i) (.int j) H Q = Q (.bl (g (decide (i = j)))) H:=rfl
theorem N1:og K g (.bl c) (.bl d) H Q = Q (.bl (g (decide (c = d)))) H:=rfl
theorem N4:og K g (.str x) (.str y) H Q = Q (.bl (g (decide (x = y)))) H:=rfl
theorem Qt:og K g .non .non H Q = Q (.bl (g true)) H:=rfl
theorem Qr:og K g .non (.bl c) H Q = Q (.bl (g false)) H:=rfl
theorem Qp:og K g (.bl c) .non H Q = Q (.bl (g false)) H:=rfl
theorem Qs:og K g .non (.int i) H Q = Q (.bl (g false)) H:=rfl
theorem Qq:og K g (.int i) .non H Q = Q (.bl (g false)) H:=rfl
theorem N3:og K g (.ref p) (.ref r) H Q = (∃ da db,Has K H (.ref p) da∧Has K H (.ref r) db∧SeqAt.shaped da = true∧SeqAt.shaped db = true∧Q (.bl (g (PyData.eqv da db))) H):=rfl
theorem Oc:mLe (.int i) (.int j) H Q = Q (.bl (decide (i≤j))) H:=rfl
theorem Ob:mLe (.bl c) (.bl d) H Q = Q (.bl (!c || d)) H:=rfl
theorem L5:mIn K neg v (.ref p) H Q = (∃ xs,(SqL K H p xs∨SqT K H p xs)∧wn v = true∧xs.all wn = true∧Q (.bl (if neg then !inV v xs else inV v xs)) H):=rfl
theorem Oa:mIx K (.str x) (.int i) H Q = (x.length≤sizeLine∧∃ c,atI x.cps.toList i = some c∧Q (.str ⟨#[c]⟩) H):=rfl
theorem N9:mIx K (.ref p) (.int i) H Q = (∃ xs v,(SqL K H p xs∨SqT K H p xs)∧atI xs i = some v∧Q v H):=rfl
theorem Oi {lo hi:Option Int}:mSl K (.str x) lo hi H Q = (x.length≤sizeLine∧Q (.str (Txt.slice x lo hi)) H):=rfl
theorem Oh {lo hi:Option Int}:mSl K (.ref p) lo hi H Q = ((∃ xs,SqL K H p xs∧New H (.lst (wj xs lo hi)) Q)∨∃ xs,SqT K H p xs∧∀ (p:Addr) (H':Hp),Same H H'→SqT K H' p (wj xs lo hi)→Q (.ref p) H'):=rfl
theorem Qw:Pp K [.str x] H Q = (x.length≤sizeLine∧Q (.int x.length) H):=rfl
theorem Qv:Pp K [.ref p] H Q = (∃ ys,(SqL K H p ys∨SqT K H p ys)∧Q (.int ys.length) H):=rfl
theorem Ws:So K [.ref p] H Q = (∃ ys,(SqL K H p ys∨SqT K H p ys)∧New H (.lst ys) Q):=rfl
theorem Tp:Vq K [.ref p] H Q = (∃ ys,(SqL K H p ys∨SqT K H p ys)∧∀ (r:Addr) (H':Hp),Same H H'→SqT K H' r ys→Q (.ref r) H'):=rfl
theorem N8 {T:String}:M0 K [v,.ty T] H Q = (∃ t b,TyX K H v t∧PySem.W.kitOne K t (.type T) = some b∧Q (.bl b) H):=rfl
theorem Nz:Mu (.ref p) [v] H Q = (∃ xs,H p = some (.lst xs)∧xs.length < sizeLine∧Q .non (upd H p (.lst (xs ++ [v])))):=rfl
theorem Of:Lw (.ref p) [] H Q = (∃ xs y,H p = some (.lst xs)∧xs[xs.length - 1]? = some y∧Q y (upd H p (.lst xs.dropLast))):=rfl
end
structure zx (P:Program) (w:World) (K:PySem.W.Frag) (mg:Str→Option Value) (base:Heap) (k:Nat) (x:Str) (ps:List Str) (sp:Sp):Prop where
 ex:∃ (f:Addr) (fd:FuncData),FnOk P w K mg base CX0 k f fd ps sp∧Binds K fd ps []∧PySem.W.keepIn K (.ref f) = true∧mg x = some (.ref f)
theorem zv {X:Cx}{k k':Nat}{x:Str}{ps:List Str}{sp:Sp}{t:TA}{e:Expr}{es:List Expr}{p pos:Pos} (C:zx X.prog X.w X.K X.mg X.base k x ps sp) (hr:Room k' X.A) (hk:k≤k') (ha:PA X (e :: es) t) (hg:Gl X x:=by rfl)
  (hdb:(x == ("__debug__":Str)) = false:=by decide) (he:starEach (e :: es) X.env = (false,eval e X.env) :: starEach es X.env:=by rfl) (hpl:(backTo pos (starEach es X.env)).any (·.1) = false:=by rfl) :
  PE X (.Call (.Name x p) (e :: es) [] pos) (Xg sp [] E0 t):=by
 obtain ⟨f,fd,F,b,kp,hm⟩:=C.ex
 exact Th F (hr.mono hk) hg hm kp b .nil Wf ha hdb he hpl
theorem fq {P:Program}{w:World}{K:PySem.W.Frag}{mg:Str→Option Value}{base:Heap}{k k':Nat}{x:Str}{ps:List Str}{sp:Sp} (C:zx P w K mg base k x ps sp) (h:k≤k'):zx P w K mg base k' x ps sp:=by
 obtain ⟨f,fd,F,b,kp,hm⟩:=C.ex
 exact ⟨f,fd,F.mono h,b,kp,hm⟩
structure Def (K:PySem.W.Frag) (mg:Str→Option Value) (x:Str) (st:Stmt) (ps:List Str):Prop where
 ex:∃ (f:Addr) (fd:FuncData),Fun K x x st f fd∧(∀ us:List Value,us.length = ps.length→bindArgs fd ⟨us,[]⟩ = pure (ps.zip us))∧mg x = some (.ref f)
section
variable {P:Program}{w:World}{K:PySem.W.Frag}{mg:Str→Option Value}{base:Heap}
theorem U3 {x:Str}{st:Stmt}{f:Addr}{fd:FuncData}{N ps:List Str}{k:Nat}{sp:Sp} (F:Fun K x x st f fd) (S:zu N ps (z4 st)) (len:∀ vs H Q E,sp vs H Q E→vs.length = ps.length)
  (hbody:∀ (f:Addr) (cdv:Value) (A:Around) (outer:List Env) (s:Shared) (H:Hp) (vs:List V) (Q:VK) (E:XK),Room k (A.deeper (envOfC x (z4 st) s.heap.objs.size f cdv))→sp vs H Q E →
   ∃ σ t,wf N vs = σ∧PSs (sf CX0 P w K mg base N x (z4 st) f cdv A outer s H E).nox (zm st) t∧t { nx:=fun _ H'=>Q .non H',rt:=Q } σ H):FnOk P w K mg base CX0 (k + 1) f fd ps sp :=
 F.ok S len fun cdv A outer s H vs Q E hr h=>by
  obtain ⟨σ,t,e,ht,q⟩:=hbody f cdv A outer s H vs Q E hr h
  exact ⟨t,ht,by rw [e];exact q⟩
theorem Def.callee {x:Str}{st:Stmt}{N ps:List Str}{k:Nat}{sp:Sp} (F:Def K mg x st ps) (S:zu N ps (z4 st)) (len:∀ vs H Q E,sp vs H Q E→vs.length = ps.length)
  (hbody:∀ (f:Addr) (cdv:Value) (A:Around) (outer:List Env) (s:Shared) (H:Hp) (vs:List V) (Q:VK) (E:XK),Room k (A.deeper (envOfC x (z4 st) s.heap.objs.size f cdv))→sp vs H Q E →
   ∃ σ t,wf N vs = σ∧PSs (sf CX0 P w K mg base N x (z4 st) f cdv A outer s H E).nox (zm st) t∧t { nx:=fun _ H'=>Q .non H',rt:=Q } σ H):zx P w K mg base (k + 1) x ps sp:=by
 obtain ⟨f,fd,F,b,hm⟩:=F.ex
 exact ⟨f,fd,U3 F S len hbody,.all b,F.kp,hm⟩
theorem def_mk {h:Heap}{x:Str}{st:Stmt}{ps:List Str}{f:Addr}{oc:Value}{od an:Option Addr}{osl:Array (Option Value)}{kV doc pm cdv ct:Value} (X:K.In h) (G:h.Ns mainGlobals mg)
  (a:PySem.W.nsIn K mainGlobals x = some (some (.ref f))) (l:K.lookup f = some ⟨oc,od,.func (PySem.W.fnOf x x (zg st) (zm st) (z4 st) .none kV doc pm an cdv ct),osl⟩)
  (c:PySem.W.codeIn K cdv x = true) (k:PySem.W.keepIn K (.ref f) = true)
  (hb:∀ (kV doc pm:Value) (an:Option Addr) (cdv ct:Value) (us:List Value),us.length = ps.length→bindArgs (PySem.W.fnOf x x (zg st) (zm st) (z4 st) .none kV doc pm an cdv ct) ⟨us,[]⟩ = pure (ps.zip us)):Def K mg x st ps :=
 ⟨f,_,bu l c k,hb kV doc pm an cdv ct,PySem.W.mg_of X G a⟩
end
end My
namespace My
open PySem PySem.Spec L2
open PyProof.Rows hiding St
def y8 (X:Cx) (N':List Str) (scope:Scope) (cl:List (Str×Addr)) (C:Addr) (s₀:Shared) (H₀:Hp) (ex:List Addr):Cx where
 prog:=X.prog
 w:=X.w
 K:=X.K
 mg:=X.mg
 base:=X.base
 A:=X.A
 N:=N'
 s₀:=s₀
 H₀:=H₀
 env:=compEnvC scope cl C X.env
 outer:=X.stack
 stack:=X.stack
 ex:=ex
 fn:=fun _=>false
 calm:=X.calm
 pn:=[]
 xe:=fun _ _=>False
structure CompOk (X:Cx) (own N:List Str) (scope:Scope) (cl:List (Str×Addr)):Prop where
 clos:closureFor scope X.env = pure cl
 sub:∀ p∈cl,X.env.cells.lookup p.1 = some p.2
 have_:∀ p∈scope.names,p.2 = .free→∃ c,cl.lookup p.1 = some c
 nocell:∀ y∈scope.names,y.2≠.cell
 kind:scope.kind = .function
 names:∀ y∈scope.names,y.2 = .local→scope.names.lookup y.1 = some .local
 mine:∀ x∈own,scope.names.lookup x = some .local
 nd:(own ++ N).Nodup
 cells:∀ y∈N,X.env.kindOf y = some .cell∨X.env.kindOf y = some .free
 free:∀ y∈N,∃ c,cl.lookup y = some c
 vis:∀ y∈N,(relabel scope X.env).names.lookup y = some .cell∨(relabel scope X.env).names.lookup y = some .free
theorem yk {env:Env}:∀ {names:List (Str×NameKind)}{x:Str}{k:NameKind},
  (names.map fun (n,k)=>if (k == NameKind.free && env.scope.kind == .function && env.kindOf n == some .cell) then (n,NameKind.cell) else (n,k)).lookup x = some k →
  (k = .cell∨k = .free)→names.lookup x = some .cell∨names.lookup x = some .free
 | [],_,_,h,_=>by simp at h
 | (n,k') :: r,x,k,h,hk=>by
  have ih:=@yk env r x k
  have h':List.lookup x ((if (k' == NameKind.free && env.scope.kind == .function && env.kindOf n == some .cell) = true then (n,NameKind.cell) else (n,k')) :: (r.map fun (n,k)=>if (k == NameKind.free && env.scope.kind == .function && env.kindOf n == some .cell) then (n,NameKind.cell) else (n,k))) = some k:=h
  by_cases hc:(k' == NameKind.free && env.scope.kind == .function && env.kindOf n == some .cell) = true
  ·rw [if_pos hc] at h'
   have hk':k' = .free:=by
    rw [Bool.and_eq_true,Bool.and_eq_true] at hc
    exact eq_of_beq hc.1.1
   cases hx:x == n with
   | true=>right;simp only [List.lookup_cons,hx,hk']
   | false =>
    simp only [List.lookup_cons,hx] at h' ⊢
    exact ih h' hk
  ·rw [if_neg hc] at h'
   cases hx:x == n with
   | true =>
    simp only [List.lookup_cons,hx] at h' ⊢
    cases h'
    rcases hk with rfl | rfl
    ·left;rfl
    ·right;rfl
   | false =>
    simp only [List.lookup_cons,hx] at h' ⊢
    exact ih h' hk
section
variable {X:Cx}{own N:List Str}{scope:Scope}{cl:List (Str×Addr)}
theorem CompOk.up (k:CompOk X own N scope cl) {y:Str}{c:Addr} (h:cl.lookup y = some c):X.env.cells.lookup y = some c:=k.sub (y,c) (PySem.mem_of_lookup h)
theorem jg {NX:List Str}{ixs:List Nat}{N:List Str} (h:ixs.map (fun i=>NX[i]?) = N.map some):ixs.length = N.length:=by
 have:=congrArg List.length h
 simpa using this
theorem Z5 {NX:List Str}{ixs:List Nat}{N:List Str} (h:ixs.map (fun i=>NX[i]?) = N.map some):∀ (j:Nat) (i:Nat),ixs[j]? = some i→∃ y,NX[i]? = some y∧N[j]? = some y:=fun j i e=>by
 have h1:(ixs.map (fun i=>NX[i]?))[j]? = (N.map some)[j]?:=by rw [h]
 rw [List.getElem?_map,List.getElem?_map,e] at h1
 cases e2:N[j]? with
 | none=>rw [e2] at h1;cases h1
 | some y=>rw [e2] at h1;exact ⟨y,Option.some.inj h1,rfl⟩
theorem zl (clos:closureFor scope X.env = pure cl) (sub:cl.map (fun p=>X.env.cells.lookup p.1) = cl.map (fun p=>some p.2))
  (b1:(scope.names.all fun p=>!(p.2 == .free) || (cl.lookup p.1).isSome) = true) (b2:(scope.names.all fun p=>!(p.2 == .cell)) = true) (kind:scope.kind = .function)
  (b3:(scope.names.all fun p=>!(p.2 == .local) || scope.names.lookup p.1 == some .local) = true) (ow:own.map (fun x=>scope.names.lookup x) = own.map (fun _=>some .local)) (nd:(own ++ N).Nodup)
  (b4:(N.all fun y=>X.env.kindOf y == some .cell || X.env.kindOf y == some .free) = true) (b5:(N.all fun y=>(cl.lookup y).isSome) = true)
  (b6:(N.all fun y=>(relabel scope X.env).names.lookup y == some .cell || (relabel scope X.env).names.lookup y == some .free) = true):CompOk X own N scope cl:=by
 rw [List.all_eq_true] at b1 b2 b3 b4 b5 b6
 refine ⟨clos,List.map_inj_left.mp sub,fun p hp hf=>?_,fun p hp hc=>?_,kind,fun p hp hl=>?_,List.map_inj_left.mp ow,nd,fun y hy=>?_,fun y hy=>Option.isSome_iff_exists.mp (b5 y hy),fun y hy=>?_⟩
 ·have h:=b1 p hp
  rw [hf] at h
  exact Option.isSome_iff_exists.mp (by simpa using h)
 ·have h:=b2 p hp
  rw [hc] at h
  simp at h
 ·have h:=b3 p hp
  rw [hl] at h
  simpa using h
 ·have h:=b4 y hy
  rw [Bool.or_eq_true] at h
  exact h.imp eq_of_beq eq_of_beq
 ·have h:=b6 y hy
  rw [Bool.or_eq_true] at h
  exact h.imp eq_of_beq eq_of_beq
theorem Us {pins:List (Addr×Obj)}{σ:St}{H:Hp}{s:Shared}{fp:List Addr}{h₁:Heap}{tk:Nat}{ixs:List Nat} (k:CompOk X own N scope cl) (I:Inv X pins σ H s) (hf:∀ b∈fp,u7 X pins H b) (hfp:∀ b∈fp,b < s.heap.objs.size)
  (hix:∀ (j:Nat) (i:Nat),ixs[j]? = some i→∃ y,X.N[i]? = some y∧N[j]? = some y) (hlen:ixs.length = N.length)
  (hns:h₁.Ns s.heap.objs.size fun _=>none) (hkeep:∀ b o,b≠s.heap.objs.size→s.heap.get? b = some o→h₁.get? b = some o) :
  Inv (y8 X (own ++ N) scope cl s.heap.objs.size s H fp) [] (own.map (fun _=>none) ++ ixs.map (gv σ)) H { s with heap:=h₁,toks:=tk }:=by
 have old:∀ b o,s.heap.get? b = some o→h₁.get? b = some o:=fun b o e=>hkeep b o (Nat.ne_of_lt (Heap.lt_size e)) e
 have nfs:∀ b∈fp,b ∉ frs X.stack:=fun b hb z=>by
  rcases List.mem_cons.mp (I.stkSub b z) with e | e
  ·exact (hf b hb).2.1 e
  ·exact (hf b hb).2.2.1 e
 refine ⟨⟨I.ok.mod,?_,I.ok.glob,I.ok.blt,Nat.le_refl _,?_,?_,?_,I.ok.hd,I.ok.frames,.inl rfl,?_,I.bs,Nat.le_trans I.ok.bsz I.sz,?_,nfs,I.stack,I.stkFree⟩,
  rfl,I.bare,Un.kept old,⟨fun _=>none,hns,?_⟩,?_,I.hok.fresh (Nat.le_refl _),?_,fun p hp=>absurd hp (by simp [y8]),I.hok.kept old,?_⟩
 ·exact k.kind
 ·exact fun y z c h1 h2=>I.ok.inj y z c (k.up h1) (k.up h2)
 ·intro y hy
  have hy':scope.names.lookup y = some .cell∨scope.names.lookup y = some .free:=by
   rcases hy with hy | hy
   ·exact yk (env:=X.env) hy (.inl rfl)
   ·exact yk (env:=X.env) hy (.inr rfl)
  rcases hy' with hy' | hy'
  ·exact absurd rfl (k.nocell _ (PySem.mem_of_lookup hy'))
  ·exact k.have_ _ (PySem.mem_of_lookup hy') rfl
 ·intro y c h1
  exact absurd h1 (by simp [y8])
 ·intro b hb
  exact ⟨Nat.ne_of_lt (hfp b hb),fun y c e=>(hf b hb).2.2.2.2.1 y c (k.up e)⟩
 ·intro b o e hb
  rcases (hf b hb).2.2.2.1 with z | z
  ·exact I.ok.noex b o e z
  ·exact absurd (Nat.lt_of_lt_of_le (Heap.lt_size e) (Nat.le_trans I.ok.bsz z)) (Nat.lt_irrefl _)
 ·intro i y v h1 h2 h3
  have h1:(own ++ N)[i]? = some y:=h1
  by_cases hio:i < own.length
  ·rw [List.getElem?_append_left (by simpa using hio)] at h2
   simp [hio] at h2
  ·have h2':(ixs.map (gv σ))[i - own.length]? = some (some v):=by rw [List.getElem?_append_right (by simpa using hio)] at h2;simpa using h2
   have h1':N[i - own.length]? = some y:=by rw [List.getElem?_append_right (by omega)] at h1;exact h1
   generalize i - own.length = i at h1' h2'
   rw [List.getElem?_map] at h2'
   cases e:ixs[i]? with
   | none=>rw [e] at h2';cases h2'
   | some j =>
    rw [e] at h2'
    have h2'':gv σ j = some v:=by simpa using h2'
    obtain ⟨z,hz,hz'⟩:=hix i j e
    rw [h1'] at hz'
    cases hz'
    have hm:=List.mem_of_getElem? h1'
    obtain ⟨m,hn,hl⟩:=I.loc
    have hvis:Vis X.env.scope y:=.inr (k.cells y hm)
    obtain ⟨u,ru,l⟩:=hl j y v hz (ng h2'') hvis
    refine ⟨u,ru,?_⟩
    rcases l with ⟨l,_⟩ | ⟨_,c,ec,ic⟩
    ·exfalso
     rcases k.cells y hm with z | z <;> (rw [l] at z;cases z)
    ·obtain ⟨c',ec'⟩:=k.free y hm
     have:c = c':=Option.some.inj (ec.symm.trans (k.up ec'))
     subst this
     refine .inr ⟨?_,c,ec',?_⟩
     ·exact k.vis y hm
     ·obtain ⟨o,ho,hd⟩:=ic
      exact ⟨o,old _ _ ho,hd⟩
 ·intro y c e
  obtain ⟨v,o,ho,hd⟩:=I.cell y c (k.up e)
  exact ⟨v,o,old _ _ ho,hd⟩
 ·intro y c e
  exact I.freeC y c (k.up e)
 ·show (own.map (fun _=>none) ++ ixs.map (gv σ)).length = (own ++ N).length
  simp [hlen]
def PIf (X:Cx) (ifs:List Expr) (t:TT):Prop:=∀ (pins:List (Addr×Obj)) (s:Shared) (σ:St) (H:Hp) (Q:Bool→Hp→Prop),Inv X pins σ H s→t σ H Q →
 wpAny (model X.prog X.w) X.A (forIn ifs true fun c r=>if r = true then do let ok ← isTrue c X.env (eval c X.env);pure (ForInStep.yield ok) else pure (ForInStep.yield r)) (TP X pins σ Q) X.xe s
def lu:TT:=fun _ H Q=>Q true H
theorem yq:PIf X [] lu:=fun pins s σ H Q I h=>by
 rw [List.forIn_nil]
 exact wpAny_pure ⟨H,I,h⟩
theorem wc {c:Expr}{tc:TT} (hc:PT X c tc):PIf X [c] tc:=fun pins s σ H Q I h=>by
 rw [List.forIn_cons]
 simp only [if_true]
 refine wpAny_bind (wpAny_bind (thn (hc pins s σ H Q I h) fun b s1 h1=>wpAny_pure ?_))
 dsimp only
 rw [List.forIn_nil]
 exact wpAny_pure h1
theorem jb (elt target iter:Expr) (ifs:List Expr) (scope:Scope) (pos:Pos) (it acc:Value) (env:Env) :
  compTurn (.ListComp elt [⟨target,iter,ifs,0⟩] scope pos) 0 it acc env = (standAt iter.pos >>= fun _=>pyNext it >>= fun r=>match r with
   | none=>pure (.done .next)
   | some v=>letOwnedTupleGo target it v >>= fun _=>assign target env v >>= fun _ =>
    (forIn ifs true fun c r=>if r = true then do let ok ← isTrue c env (eval c env);pure (ForInStep.yield ok) else pure (ForInStep.yield r)) >>= fun ok =>
     if ok = true then (eval elt env >>= fun x=>call (.builtin "list.append") [acc,x] >>= fun _=>pure ()) >>= fun _=>again (.compLoop (.ListComp elt [⟨target,iter,ifs,0⟩] scope pos) 0 it acc env)
     else again (.compLoop (.ListComp elt [⟨target,iter,ifs,0⟩] scope pos) 0 it acc env)):=by rfl
theorem ul {prog:Program}{w:World}{A:Around}{R:Result→Shared→Prop}{s:Shared}{elt target iter:Expr}{ifs:List Expr}{scope:Scope}{pos:Pos}{it acc:Value}{env:Env} (I:Nat→Shared→Prop)
  (turn:∀ n s,I n s→∀ E:Value→Shared→Prop,wpAny (model prog w) A (pyNext it) (fun r s₁=>match r with
   | none=>R (.ok .next) s₁
   | some v=>wpAny (model prog w) A (letOwnedTupleGo target it v) (fun _ s₁'=>wpAny (model prog w) A (assign target env v) (fun _ s₂ =>
     wpAny (model prog w) A (forIn ifs true fun c r=>if r = true then do let ok ← isTrue c env (eval c env);pure (ForInStep.yield ok) else pure (ForInStep.yield r)) (fun ok s₂'=>if ok = true then wpAny (model prog w) A (eval elt env) (fun x s₃ =>
      wpAny (model prog w) A (call (.builtin "list.append") [acc,x]) (fun _ s₄=>∃ m,m < n∧I m s₄) E s₃) E s₂' else ∃ m,m < n∧I m s₂') E s₂) E s₁') E s₁) E s)
  (n:Nat) (h:I n s) :
  codeAny (model prog w) A (.compLoop (.ListComp elt [⟨target,iter,ifs,0⟩] scope pos) 0 it acc env) R s:=by
 refine codeAny_loop rfl I (fun n s hI=>?_) n h
 show wpAny _ _ ((compTurn (.ListComp elt [⟨target,iter,ifs,0⟩] scope pos) 0 it acc env).onRaise (fun x=>do noteFrame x env;theTreesLotGoes x)) _ _ s
 refine wpAny_noted ?_
 rw [jb]
 refine wpAny_bind (wpAny_standAt (wpAny_bind (wpAny_mono (turn n s hI _) (fun r s₁ h₁=>?_) fun _ _ h'=>h')))
 cases r with
 | none=>exact wpAny_pure h₁
 | some v =>
  refine wpAny_bind (wpAny_mono h₁ (fun _ s₁' h₁'=>wpAny_bind (wpAny_mono h₁' (fun _ s₂ h₂=>wpAny_bind (wpAny_mono h₂ (fun ok s₂' h₂'=>?_) fun _ _ h'=>h')) fun _ _ h'=>h')) fun _ _ h'=>h')
  cases ok with
  | true =>
   simp only [if_true] at h₂' ⊢
   exact wpAny_bind (wpAny_bind (wpAny_mono h₂' (fun x s₃ h₃=>wpAny_bind (wpAny_mono h₃ (fun _ s₄ h₄=>wpAny_pure (wpAny_pure ⟨rfl,h₄⟩)) fun _ _ h'=>h')) fun _ _ h'=>h'))
  | false =>
   simp only [Bool.false_eq_true,if_false] at h₂' ⊢
   exact wpAny_pure ⟨rfl,h₂'⟩
def vx (no:Nat) (g:TG) (tt:TT) (te:TE) (ρ:St) (J:It) (Q:VK) (H1:Hp):Prop:=∀ (D:Addr) (H2:Hp),H1 D = none→Same H1 H2→H2 D = some (.lst []) →
 ∃ W:Nat→Nat→List V→Hp→Prop,(∃ m,W 0 m [] H2)∧∀ i m ys H',W i m ys H'→H' D = some (.lst ys) ∧
  ((J.stop i H'∧Q (.ref D) H')∨(J.go i H'∧ys.length < sizeLine∧∀ (τ:St) v H'',τ.length = no→J.yld i H' v H''→g v (τ ++ ρ) H'' fun σ2 H3=>(∃ τ':St,σ2 = τ' ++ ρ∧τ'.length = no)∧tt σ2 H3 fun b H4 =>
   if b = true then te σ2 H4 fun y H5=>H5 D = some (.lst ys)∧∃ m',m' < m∧W (i + 1) m' (ys ++ [y]) (upd H5 D (.lst (ys ++ [y]))) else ∃ m',m' < m∧W (i + 1) m' ys H4))
def rq (no:Nat) (ixs:List Nat) (wi:TI) (g:TG) (tt:Addr→Shared→Hp→List Addr→TT) (te:Addr→Shared→Hp→List Addr→TE):TE:=fun σ H Q=>wi σ H fun J H1=>∀ (C:Addr) (s₀:Shared) (H₀:Hp) (ex:List Addr),vx no g (tt C s₀ H₀ ex) (te C s₀ H₀ ex) (ixs.map (gv σ)) J Q H1
theorem Lk {X:Cx}{N':List Str}{scope:Scope}{cl:List (Str×Addr)}{C:Addr}{s₀:Shared}{H₀:Hp}{ex:List Addr}:(y8 X N' scope cl C s₀ H₀ ex).K = X.K:=rfl
theorem m5 {elt iter tg:Expr}{ifs:List Expr}{ixs:List Nat}{g:TG}{tt:Addr→Shared→Hp→List Addr→TT}{te:Addr→Shared→Hp→List Addr→TE}{pos:Pos}{pins:List (Addr×Obj)}{σ:St}{H:Hp}{s₂:Shared}{it:Addr}{fp:List Addr}{tn:Nat→Heap→Prop}{J:It}{Q:VK}{RR:Value→Addr→Result→Shared→Prop}{E:Value→Shared→Prop}
  (k:CompOk X own N scope cl) (hcalm:X.calm = true) (hix:∀ (j:Nat) (i:Nat),ixs[j]? = some i→∃ y,X.N[i]? = some y∧N[j]? = some y) (hlen:ixs.length = N.length)
  (hg:∀ (C:Addr) (s₀:Shared) (H₀:Hp) (ex:List Addr),PG (y8 X (own ++ N) scope cl C s₀ H₀ ex) tg g)
  (ht:∀ (C:Addr) (s₀:Shared) (H₀:Hp) (ex:List Addr),PIf (y8 X (own ++ N) scope cl C s₀ H₀ ex) ifs (tt C s₀ H₀ ex))
  (he:∀ (C:Addr) (s₀:Shared) (H₀:Hp) (ex:List Addr),PE (y8 X (own ++ N) scope cl C s₀ H₀ ex) elt (te C s₀ H₀ ex))
  (I:Inv X pins σ H s₂) (T:fj X.prog X.w X.K tg J fp it tn) (st:tn 0 s₂.heap) (hf:∀ b∈fp,u7 X pins H b)
  (q:∀ (C:Addr) (s₀:Shared) (H₀:Hp) (ex:List Addr),vx own.length g (tt C s₀ H₀ ex) (te C s₀ H₀ ex) (ixs.map (gv σ)) J Q H)
  (hRR:∀ (D C:Addr) (H':Hp) (s':Shared) (m:Str→Option Value),Inv X pins σ H' s'→s'.heap.Ns C m→H' C = none→C≠X.env.locals→C ∉ X.fs→(∀ p∈X.pn ++ pins,p.1≠C)→(∀ y c,X.env.cells.lookup y = some c→c≠C)→X.s₀.heap.objs.size≤C→Q (.ref D) H'→RR (.ref D) C (.ok .next) s') :
  wpAny (model X.prog X.w) X.A (newList []) (fun acc s₃=>wpAny (model X.prog X.w) X.A (newFunctionEnv scope X.env.globals cl [] X.env.qual none .none (some X.env)) (fun cenv s₄ =>
   codeAny (model X.prog X.w) X.A (.compStart (.ListComp elt [⟨tg,iter,ifs,0⟩] scope pos) 0 (.ref it) acc { cenv with scope:=relabel scope X.env }) (RR acc cenv.locals) s₄) E s₃) E s₂:=by
 refine wpAny_newObj_type (wpAny_newFunctionEnv k.nocell (by intro y hy;simp at hy) (fun h₁ hns₁ hsb₁=>?_) k.kind)
 dsimp only at hns₁ hsb₁ ⊢
 have hfresh:H s₂.heap.objs.size = none:=I.hok.fresh (Nat.le_refl _)
 have I3:Inv X pins σ (upd H s₂.heap.objs.size (.lst [])) { s₂ with heap:=s₂.heap.push { cls:=.type "list",dict:=none,data:=.seq ([]:List Value).toArray } } :=
  I.laid (t':=s₂.toks) (fun b o e=>Heap.get?_push_of_some _ e) (Nat.le_refl _) ⟨Nat.zero_le _,[],0,.nil,Heap.get?_push_size _ rfl⟩
 obtain ⟨W,⟨m0,w0⟩,turn⟩:=q (s₂.heap.push { cls:=.type "list",dict:=none,data:=.seq ([]:List Value).toArray }).objs.size { s₂ with heap:=s₂.heap.push { cls:=.type "list",dict:=none,data:=.seq ([]:List Value).toArray } } (upd H s₂.heap.objs.size (.lst [])) fp s₂.heap.objs.size _ hfresh (xm hfresh _) zw
 have keepPush:∀ b o,s₂.heap.get? b = some o→(s₂.heap.push { cls:=.type "list",dict:=none,data:=.seq ([]:List Value).toArray }).get? b = some o:=fun b o e=>Heap.get?_push_of_some _ e
 have fpOld:∀ b∈fp,b < s₂.heap.objs.size:=fun b hb=>by
  obtain ⟨o,e,_⟩:=T.obj _ _ st b hb
  exact Heap.lt_size e
 have hf3:∀ b∈fp,u7 X pins (upd H s₂.heap.objs.size (.lst [])) b:=fun b hb=>⟨by rw [zk (Nat.ne_of_lt (fpOld b hb))];exact (hf b hb).1,(hf b hb).2⟩
 generalize hH3:upd H s₂.heap.objs.size (.lst []) = H3 at I3 w0 hf3 turn
 generalize hh2:s₂.heap.push { cls:=.type "list",dict:=none,data:=.seq ([]:List Value).toArray } = h2 at I3 hns₁ hsb₁ keepPush turn ⊢
 have hszh2:h2.objs.size = s₂.heap.objs.size + 1:=by rw [← hh2,Heap.size_push]
 have fp2:∀ b∈fp,b < h2.objs.size:=fun b hb=>by rw [hszh2];exact Nat.lt_succ_of_lt (fpOld b hb)
 have hk1:∀ b o,b≠h2.objs.size→h2.get? b = some o→h₁.get? b = some o:=fun b o hb e=>hsb₁.extBut b o hb (Heap.get?_push_of_some _ e)
 have I4:=Us (fp:=fp) (h₁:=h₁) (tk:=s₂.toks + ([]:List (Str×Value)).length) (s:={ s₂ with heap:=h2 }) k I3 hf3 fp2 hix hlen (by simpa using hns₁) hk1
 have st4:tn 0 h₁:=T.keep _ _ _ st fun b hb o e=>hk1 b o (Nat.ne_of_lt (fp2 b hb)) (keepPush b o e)
 have fr4:∀ b∈fp,H3 b = none:=fun b hb=>(hf3 b hb).1
 have blk:∀ {H':Hp},(∀ b∈fp,H' b = none)→∀ b∈fp,u7 (y8 X (own ++ N) scope cl h2.objs.size { s₂ with heap:=h2 } H3 fp) [] H' b:=fun hn b hb =>
  ⟨hn b hb,(I4.ok.exf b hb).1,I4.ok.exfs b hb,.inl hb,(I4.ok.exf b hb).2,fun p hp=>absurd hp (by simp [y8])⟩
 have loop:∀ s₃:Shared,s₃ = { s₂ with heap:=h₁,toks:=s₂.toks + ([]:List (Str×Value)).length } →
   codeAny (model X.prog X.w) X.A (.compLoop (.ListComp elt [⟨tg,iter,ifs,0⟩] scope pos) 0 (.ref it) (.ref s₂.heap.objs.size) (compEnvC scope cl h2.objs.size X.env)) (RR (.ref s₂.heap.objs.size) h2.objs.size) s₃:=by
  rintro s₃ rfl
  refine ul (fun n s'=>∃ i τ ys H',τ.length = own.length∧Inv (y8 X (own ++ N) scope cl h2.objs.size { s₂ with heap:=h2 } H3 fp) [] (τ ++ ixs.map (gv σ)) H' s'∧tn i s'.heap∧(∀ b∈fp,H' b = none)∧W i n ys H') ?_ m0 ⟨0,own.map (fun _=>none),[],H3,by simp,I4,st4,fr4,w0⟩
  rintro n s5 ⟨i,τ,ys,H5,hτ,I5,st5,fr5,w5⟩ E'
  obtain ⟨hD,alt⟩:=turn i n ys H5 w5
  rcases alt with ⟨stop,qn⟩ | ⟨go,hz,step⟩
  ·refine wpAny_mono (T.done (y8 X (own ++ N) scope cl h2.objs.size { s₂ with heap:=h2 } H3 fp) rfl rfl rfl hcalm i [] s5 _ H5 E' I5 (blk fr5) st5 stop) (fun r s6 hr=>?_) fun _ _ e=>e
   obtain ⟨rfl,I6⟩:=hr
   obtain ⟨m6,hn6,_⟩:=I6.loc
   have J6:Inv X pins σ H5 s6:=by
    refine I3.call' (ch:=fp) I6.os I6.base I6.hok I6.bare fun b hb=>?_
    obtain ⟨_,f1,f2,f3,f4,f5⟩:=hf3 b hb
    exact ⟨f3,f1,f4,f5⟩
   have szle:X.s₀.heap.objs.size≤h2.objs.size:=I3.sz
   refine hRR s₂.heap.objs.size h2.objs.size H5 s6 m6 J6 hn6 I6.free (Nat.ne_of_gt I3.lt) (I3.nofs (Nat.le_refl _)) (fun p hp z=>?_) (fun y c e z=>?_) szle qn
   ·exact absurd (Heap.lt_size (I3.pin p hp).1) (by rw [z];exact Nat.lt_irrefl _)
   ·obtain ⟨u,ic⟩:=I3.cell y c e
    exact absurd ic.lt (by rw [z];exact Nat.lt_irrefl _)
  ·refine wpAny_mono (T.item (y8 X (own ++ N) scope cl h2.objs.size { s₂ with heap:=h2 } H3 fp) rfl rfl rfl hcalm i [] s5 _ H5 E' I5 (blk fr5) st5 go) (fun r s6 hr=>?_) fun _ _ e=>e
   obtain ⟨u,rfl,h6⟩:=hr
   refine wpAny_mono h6 (fun _ s7 h7=>?_) fun _ _ e=>e
   obtain ⟨xv,H7,I7,r7,y7,st7,fr7⟩:=h7
   have I7':=I7.pinned (blk fr7) (T.obj _ _ st7)
   refine wpAny_mono (hg _ _ _ _ _ s7 _ H7 xv u _ I7' r7 (step τ xv H7 hτ y7)) (fun _ s8 h8=>?_) fun _ _ e=>e.elim
   obtain ⟨σ8,H8,I8,⟨τ',rfl,hτ'⟩,q8⟩:=h8
   refine wpAny_mono (ht _ _ _ _ _ s8 _ H8 _ I8 q8) (fun ok s9 h9=>?_) fun _ _ e=>e.elim
   obtain ⟨H9,I9,q9⟩:=h9
   have back:∀ (H10:Hp) (s10:Shared) (ys':List V) (m':Nat),Inv (y8 X (own ++ N) scope cl h2.objs.size { s₂ with heap:=h2 } H3 fp) ([] ++ sn fp s7.heap) (τ' ++ ixs.map (gv σ)) H10 s10→m' < n→W (i + 1) m' ys' H10 →
     ∃ m,m < n∧∃ i τ ys H',τ.length = own.length∧Inv (y8 X (own ++ N) scope cl h2.objs.size { s₂ with heap:=h2 } H3 fp) [] (τ ++ ixs.map (gv σ)) H' s10∧tn i s10.heap∧(∀ b∈fp,H' b = none)∧W i m ys H':=fun H10 s10 ys' m' I10 hm' w10=>by
    refine ⟨m',hm',i + 1,τ',ys',H10,hτ',I10.unpinned (pins:=[]),T.keep _ _ _ st7 fun b hb o e=>(I10.pin (b,o) (List.mem_append_right _ (List.mem_append_right _ (xc hb e)))).1,fun b hb=>?_,w10⟩
    obtain ⟨o,e,d⟩:=T.obj _ _ st7 b hb
    exact (I10.pin (b,o) (List.mem_append_right _ (List.mem_append_right _ (xc hb e)))).2.1
   cases ok with
   | true =>
    simp only [if_true] at q9 ⊢
    refine wpAny_mono (he _ _ _ _ _ s9 _ H9 _ I9 q9) (fun y s10 h10=>?_) fun _ _ e=>e.elim
    obtain ⟨yv,H10,I10,r10,hD10,m',hm',w10⟩:=h10
    refine wpAny_mono (sk (X:=y8 X (own ++ N) scope cl h2.objs.size { s₂ with heap:=h2 } H3 fp) _ s10 _ H10 (.ref s₂.heap.objs.size) [yv] (.ref s₂.heap.objs.size) [y] (fun v' H'=>H' = upd H10 s₂.heap.objs.size (.lst (ys ++ [yv]))) I10 rfl (.cons r10 .nil) ⟨_,ys,yv,rfl,rfl,hD10,hz,rfl⟩) (fun _ s11 h11=>?_) fun _ _ e=>e.elim
    obtain ⟨_,H11,I11,_,rfl⟩:=h11
    exact back _ _ _ m' I11 hm' w10
   | false =>
    simp only [Bool.false_eq_true,if_false] at q9 ⊢
    obtain ⟨m',hm',w10⟩:=q9
    exact back _ _ _ m' I9 hm' w10
 exact codeAny_compStart_list (loop _ rfl) (T.self _ 0 _ _ _ st4 (loop _ rfl))
theorem jf {pins:List (Addr×Obj)}{σ:St}{H:Hp}{s:Shared}{C:Addr}{h'':Heap} (I:Inv X pins σ H s) (hC:H C = none) (hL:C≠X.env.locals) (hp:∀ p∈X.pn ++ pins,p.1≠C) (hc:∀ y c,X.env.cells.lookup y = some c→c≠C) (h0:X.s₀.heap.objs.size≤C)
  (hs:∀ b o,b≠C→s.heap.get? b = some o→h''.get? b = some o):Inv X pins σ H { s with heap:=h'' } :=
 I.turned (t':=s.toks) hs hC hL (.inr h0) hc hp
theorem Vs {elt iter tg:Expr}{ifs:List Expr}{ixs:List Nat}{wi:TI}{g:TG}{tt:Addr→Shared→Hp→List Addr→TT}{te:Addr→Shared→Hp→List Addr→TE}{pos:Pos}
  (k:CompOk X own N scope cl) (hcalm:X.calm = true) (hi:PI X tg iter wi)
  (hg:∀ (C:Addr) (s₀:Shared) (H₀:Hp) (ex:List Addr),PG (y8 X (own ++ N) scope cl C s₀ H₀ ex) tg g) (ht:∀ (C:Addr) (s₀:Shared) (H₀:Hp) (ex:List Addr),PIf (y8 X (own ++ N) scope cl C s₀ H₀ ex) ifs (tt C s₀ H₀ ex))
  (he:∀ (C:Addr) (s₀:Shared) (H₀:Hp) (ex:List Addr),PE (y8 X (own ++ N) scope cl C s₀ H₀ ex) elt (te C s₀ H₀ ex))
  (hx:ixs.map (fun i=>X.N[i]?) = N.map some)
  (hs:∀ x,foldedSetIterable iter X.env x = pure x:=by intro _;rfl):PE X (.ListComp elt [⟨tg,iter,ifs,0⟩] scope pos) (rq own.length ixs wi g tt te):=by
 intro pins s σ H Q I h
 rw [eval_ListComp]
 refine wpAny_comprehension_free (use:=none) rfl hs k.clos k.kind k.names (thn (hi pins s σ H _ I h) fun v s1 h1=>thn h1 fun itv s2 h2=>?_)
 obtain ⟨it,fp,tn,J,H2,rfl,I2,T,st2,f2,q⟩:=h2
 refine m5 (RR:=fun acc C=>compPost (model X.prog X.w) X.A X.xe none (EP X pins σ Q) acc C) k hcalm (Z5 hx) (jg hx) hg ht he I2 T st2 f2 q ?_
 intro D C H' s' m J' hn hC hL hfs hp hc h0 q'
 exact ⟨m,hn,fun h'' hs''=>⟨.ref D,H',jf J' hC hL hp hc h0 (fun b o hb e=>hs''.extBut b o hb e),rfl,q'⟩⟩
def Vp (i:Nat) (t:TE):TS:=fun D σ H=>t σ H fun x H1=>D.nx (sv σ i x) H1
theorem Yn (i:Nat) {elt iter tg:Expr}{ifs:List Expr}{y:Str}{py:Pos}{ixs:List Nat}{wi:TI}{g:TG}{tt:Addr→Shared→Hp→List Addr→TT}{te:Addr→Shared→Hp→List Addr→TE}{pos spos:Pos} (hN:X.N.Nodup)
  (k:CompOk X own N scope cl) (hcalm:X.calm = true) (hi:PI X tg iter wi)
  (hg:∀ (C:Addr) (s₀:Shared) (H₀:Hp) (ex:List Addr),PG (y8 X (own ++ N) scope cl C s₀ H₀ ex) tg g) (ht:∀ (C:Addr) (s₀:Shared) (H₀:Hp) (ex:List Addr),PIf (y8 X (own ++ N) scope cl C s₀ H₀ ex) ifs (tt C s₀ H₀ ex))
  (he:∀ (C:Addr) (s₀:Shared) (H₀:Hp) (ex:List Addr),PE (y8 X (own ++ N) scope cl C s₀ H₀ ex) elt (te C s₀ H₀ ex))
  (hx:ixs.map (fun i=>X.N[i]?) = N.map some)
  (hy:X.N[i]? = some y:=by rfl) (hyl:X.env.scope.names.lookup y = some .local:=by rfl)
  (hsw:swapsWith (.ListComp elt [⟨tg,iter,ifs,0⟩] scope pos) (some (.Name y py)) spos.line X.env = pure true:=by rfl)
  (hs:∀ x,foldedSetIterable iter X.env x = pure x:=by intro _;rfl):PS X (.Assign [.Name y py] (.ListComp elt [⟨tg,iter,ifs,0⟩] scope pos) spos) (Vp i (rq own.length ixs wi g tt te)):=by
 intro pins s σ H D I h
 rw [exec_Assign_Name_used _ _ _ _ hsw]
 refine wpAny_bind (wpAny_standAt (wpAny_bind ?_))
 show wpAny _ X.A (do let _ ← comprehension (.ListComp elt [⟨tg,iter,ifs,0⟩] scope pos) scope X.env _ (newList []) false (eval iter X.env) (some (assign (.Name y py) X.env))) _ _ s
 refine wpAny_bind (wpAny_mono (wpAny_comprehension_free (use:=some (assign (.Name y py) X.env)) (Q:=fun _ s'=>SP X pins D .next s') rfl hs k.clos k.kind k.names (thn (hi pins s σ H _ I h) fun v s1 h1=>thn h1 fun itv s2 h2=>?_)) (fun _ s' hq=>wpAny_pure (wpAny_pure hq)) fun _ _ e=>e)
 obtain ⟨it,fp,tn,J,H2,rfl,I2,T,st2,f2,q⟩:=h2
 refine m5 (Q:=fun x H1=>D.nx (sv σ i x) H1) (RR:=fun acc C=>compPost (model X.prog X.w) X.A X.xe (some (assign (.Name y py) X.env)) (fun _ s'=>SP X pins D .next s') acc C) k hcalm (Z5 hx) (jg hx) hg ht he I2 T st2 f2 q ?_
 intro L C H' s' m J' hn hC hL hfs hp hc h0 q'
 obtain ⟨o,es,ep,ho,hd,hk,hm⟩:=id hn
 have J2:Inv X (pins ++ [(C,o)]) σ H' s':=J'.pins_of fun p hp'=>(List.mem_append.mp hp').elim (fun z=>J'.pin p (List.mem_append_right _ z)) fun z=>by
  have e:p = (C,o):=by simpa using z
  subst e
  exact ⟨ho,hC,hL,hfs,fun v z=>by rw [hd] at z;cases z⟩
 have hg:PG X (.Name y py) (mG i):=wk i hN hy (.inl hyl) (.inr hyl)
 show wpAny (model X.prog X.w) X.A (assign (.Name y py) X.env (.ref L)) _ _ s'
 refine thn (hg _ s' σ H' (.ref L) (.ref L) D.nx J2 rfl q') fun _ s3 h3=>?_
 obtain ⟨σ3,H3,I3,q3⟩:=h3
 have pc:=I3.pin (C,o) (List.mem_append_right _ (List.mem_append_right _ (List.mem_singleton.mpr rfl)))
 refine ⟨m,⟨o,es,ep,pc.1,hd,hk,hm⟩,fun h'' hs''=>⟨σ3,H3,?_,q3⟩⟩
 exact jf (I3.unpinned) pc.2.1 hL hp hc h0 (fun b ob hb e=>hs''.extBut b ob hb e)
end
def CN (n i:Nat) (P:Prop):Prop:=∃ m':Nat,m' < n - i∧m' = n - (i + 1)∧i + 1≤n∧P
theorem CN.mk {n i:Nat}{P:Prop} (h:i < n) (p:P):CN n i P:=⟨n - (i + 1),by omega,rfl,h,p⟩
theorem dk {τ:St} (h:τ.length = 1):∃ t,τ = [t]:=by
 match τ,h with
 | [t],_=>exact ⟨t,rfl⟩
theorem Xn {τ:St} (h:τ.length = 2):∃ t u,τ = [t,u]:=by
 match τ,h with
 | [t,u],_=>exact ⟨t,u,rfl⟩
def mG2 (K:PySem.W.Frag) (i j:Nat):TG:=fun v σ H Q=>∃ a x y,v = .ref a∧SqT K H a [x,y]∧Q (sv (sv σ i x) j y) H
def mn (tt:TT) (te:TE) (σ:St) (D:Addr) (n i:Nat) (ys:List V) (P:List V→Hp→Prop) (H:Hp):Prop :=
 tt σ H fun b H4=>if b = true then te σ H4 fun y H5=>H5 D = some (.lst ys)∧CN n i (P (ys ++ [y]) (upd H5 D (.lst (ys ++ [y])))) else CN n i (P ys H4)
theorem u9 {J:It}{n:Nat}{no:Nat}{g:TG}{tt:TT}{te:TE}{ρ:St}{Q:VK}{H1:Hp} (Pv:Addr→Nat→List V→Hp→Prop) (hsz:n≤sizeLine)
  (h0:∀ D H2,H1 D = none→Same H1 H2→H2 D = some (.lst [])→Pv D 0 [] H2)
  (hl:∀ D i ys H,i≤n→Pv D i ys H→H D = some (.lst ys)∧ys.length≤i)
  (hgo:∀ D i ys H,i < n→Pv D i ys H→J.go i H) (hstop:∀ D ys H,Pv D n ys H→J.stop n H)
  (hs:∀ D i v ys H H' (τ:St),i < n→τ.length = no→Pv D i ys H→J.yld i H v H'→g v (τ ++ ρ) H' fun σ2 H3=>(∃ τ':St,σ2 = τ' ++ ρ∧τ'.length = no)∧mn tt te σ2 D n i ys (Pv D (i + 1)) H3)
  (hd:∀ D ys H,Pv D n ys H→Q (.ref D) H):vx no g tt te ρ J Q H1:=by
 intro D H2 n2 s2 e2
 refine ⟨fun i m ys H=>m = n - i∧i≤n∧Pv D i ys H,⟨n,by simp,Nat.zero_le _,h0 D H2 n2 s2 e2⟩,?_⟩
 rintro i m ys H ⟨rfl,hi,p⟩
 obtain ⟨eD,ly⟩:=hl D i ys H hi p
 refine ⟨eD,?_⟩
 by_cases hlt:i < n
 ·refine .inr ⟨hgo D i ys H hlt p,by omega,fun τ v H'' hτ y=>?_⟩
  exact hs D i v ys H H'' τ hlt hτ p y
 ·have e:i = n:=by omega
  subst e
  exact .inl ⟨hstop D ys H p,hd D ys H p⟩
theorem vy {K:PySem.W.Frag}{a:Addr}{xs:List V}{tt:TT}{te:TE}{ρ:St}{Q:VK}{H1:Hp} (Pv:Addr→Nat→List V→Hp→Prop) (hsz:xs.length≤sizeLine)
  (h0:∀ D H2,H1 D = none→Same H1 H2→H2 D = some (.lst [])→Pv D 0 [] H2)
  (hl:∀ D i ys H,Pv D i ys H→SqT K H a xs∧H D = some (.lst ys)∧ys.length≤i)
  (hs:∀ D i v ys H,xs[i]? = some v→Pv D i ys H→mn tt te (some v :: ρ) D xs.length i ys (Pv D (i + 1)) H)
  (hd:∀ D ys H,Pv D xs.length ys H→Q (.ref D) H):vx 1 (mG 0) tt te ρ (Itt K a) Q H1 :=
 u9 Pv hsz h0 (fun D i ys H _ p=>(hl D i ys H p).2) (fun D i ys H hi p=>⟨xs,xs[i],(hl D i ys H p).1,by simp [hi]⟩) (fun D ys H p=>⟨xs,(hl D _ ys H p).1,Nat.le_refl _⟩) (fun D i v ys H H' τ hi hτ p y=>by
  obtain ⟨t,rfl⟩:=dk hτ
  obtain ⟨e,y⟩:=y
  subst e
  exact ⟨⟨[some v],rfl,rfl⟩,hs D i v ys _ (y xs (hl D i ys _ p).1) p⟩) hd
theorem se {K:PySem.W.Frag}{a:Addr}{xs:List V}{tt:TT}{te:TE}{ρ:St}{Q:VK}{H1:Hp} (Pv:Addr→Nat→List V→Hp→Prop) (hsz:xs.length≤sizeLine)
  (h0:∀ D H2,H1 D = none→Same H1 H2→H2 D = some (.lst [])→Pv D 0 [] H2)
  (hl:∀ D i ys H,Pv D i ys H→SqL K H a xs∧H D = some (.lst ys)∧ys.length≤i)
  (hs:∀ D i v ys H,xs[i]? = some v→Pv D i ys H→mn tt te (some v :: ρ) D xs.length i ys (Pv D (i + 1)) H)
  (hd:∀ D ys H,Pv D xs.length ys H→Q (.ref D) H):vx 1 (mG 0) tt te ρ (Itl K a) Q H1 :=
 u9 Pv hsz h0 (fun D i ys H _ p=>(hl D i ys H p).2) (fun D i ys H hi p=>⟨xs,xs[i],(hl D i ys H p).1,by simp [hi]⟩) (fun D ys H p=>⟨xs,(hl D _ ys H p).1,Nat.le_refl _⟩) (fun D i v ys H H' τ hi hτ p y=>by
  obtain ⟨t,rfl⟩:=dk hτ
  obtain ⟨e,y⟩:=y
  subst e
  exact ⟨⟨[some v],rfl,rfl⟩,hs D i v ys _ (y xs (hl D i ys _ p).1) p⟩) hd
theorem qv {lo:Int}{n:Nat}{tt:TT}{te:TE}{ρ:St}{Q:VK}{H1:Hp} (Pv:Addr→Nat→List V→Hp→Prop) (hsz:n≤sizeLine)
  (h0:∀ D H2,H1 D = none→Same H1 H2→H2 D = some (.lst [])→Pv D 0 [] H2)
  (hl:∀ D i ys H,Pv D i ys H→H D = some (.lst ys)∧ys.length≤i)
  (hs:∀ D i ys H,i < n→Pv D i ys H→mn tt te (some (.int (lo + i)) :: ρ) D n i ys (Pv D (i + 1)) H)
  (hd:∀ D ys H,Pv D n ys H→Q (.ref D) H):vx 1 (mG 0) tt te ρ (Itr lo n) Q H1 :=
 u9 Pv hsz h0 (fun D i ys H _ p=>hl D i ys H p) (fun D i ys H hi p=>hi) (fun D ys H p=>Nat.le_refl _) (fun D i v ys H H' τ hi hτ p y=>by
  obtain ⟨t,rfl⟩:=dk hτ
  obtain ⟨e,y⟩:=y
  subst e y
  exact ⟨⟨[_],rfl,rfl⟩,hs D i ys _ hi p⟩) hd
theorem va {K:PySem.W.Frag}{a:Addr}{xs:List V}{te:TE}{ρ:St}{Q:VK}{H1:Hp} (Pv:Addr→Nat→List V→Hp→Prop) (hsz:xs.length≤sizeLine)
  (h0:∀ D H2,H1 D = none→Same H1 H2→H2 D = some (.lst [])→Pv D 0 [] H2)
  (hl:∀ D i ys H,Pv D i ys H→SqT K H a xs∧H D = some (.lst ys)∧ys.length = i)
  (hs:∀ D i v ys H,xs[i]? = some v→Pv D i ys H→te (some v :: ρ) H fun y H3=>H3 D = some (.lst ys)∧CN xs.length i (Pv D (i + 1) (ys ++ [y]) (upd H3 D (.lst (ys ++ [y])))))
  (hd:∀ D ys H,Pv D xs.length ys H→Q (.ref D) H):vx 1 (mG 0) lu te ρ (Itt K a) Q H1:=vy Pv hsz h0 (fun D i ys H p=>let ⟨a1,a2,a3⟩:=hl D i ys H p;⟨a1,a2,Nat.le_of_eq a3⟩) hs hd
theorem tm {K:PySem.W.Frag}{a:Addr}{xs:List V}{te:TE}{ρ:St}{Q:VK}{H1:Hp} (Pv:Addr→Nat→List V→Hp→Prop) (hsz:xs.length≤sizeLine)
  (h0:∀ D H2,H1 D = none→Same H1 H2→H2 D = some (.lst [])→Pv D 0 [] H2)
  (hl:∀ D i ys H,Pv D i ys H→SqL K H a xs∧H D = some (.lst ys)∧ys.length = i)
  (hs:∀ D i v ys H,xs[i]? = some v→Pv D i ys H→te (some v :: ρ) H fun y H3=>H3 D = some (.lst ys)∧CN xs.length i (Pv D (i + 1) (ys ++ [y]) (upd H3 D (.lst (ys ++ [y])))))
  (hd:∀ D ys H,Pv D xs.length ys H→Q (.ref D) H):vx 1 (mG 0) lu te ρ (Itl K a) Q H1:=se Pv hsz h0 (fun D i ys H p=>let ⟨a1,a2,a3⟩:=hl D i ys H p;⟨a1,a2,Nat.le_of_eq a3⟩) hs hd
theorem xy {lo:Int}{n:Nat}{te:TE}{ρ:St}{Q:VK}{H1:Hp} (Pv:Addr→Nat→List V→Hp→Prop) (hsz:n≤sizeLine)
  (h0:∀ D H2,H1 D = none→Same H1 H2→H2 D = some (.lst [])→Pv D 0 [] H2)
  (hl:∀ D i ys H,Pv D i ys H→H D = some (.lst ys)∧ys.length = i)
  (hs:∀ D i ys H,i < n→Pv D i ys H→te (some (.int (lo + i)) :: ρ) H fun y H3=>H3 D = some (.lst ys)∧CN n i (Pv D (i + 1) (ys ++ [y]) (upd H3 D (.lst (ys ++ [y])))))
  (hd:∀ D ys H,Pv D n ys H→Q (.ref D) H):vx 1 (mG 0) lu te ρ (Itr lo n) Q H1:=qv Pv hsz h0 (fun D i ys H p=>let ⟨a1,a2⟩:=hl D i ys H p;⟨a1,Nat.le_of_eq a2⟩) hs hd
section
variable {X:Cx}{N:List Str}{scope:Scope}{cl:List (Str×Addr)}
theorem af {x:Str}{px:Pos} (k:CompOk X [x] N scope cl) (C:Addr) (s₀:Shared) (H₀:Hp) (ex:List Addr):PG (y8 X ([x] ++ N) scope cl C s₀ H₀ ex) (.Name x px) (mG 0) :=
 wk 0 k.nd rfl (.inl (lookup_relabel_local (k.mine x (List.mem_singleton.mpr rfl)))) (.inr (lookup_relabel_local (k.mine x (List.mem_singleton.mpr rfl))))
end
section
variable {X:Cx}
theorem Vy (i j:Nat) {x y:Str}{p p' pos:Pos}{k:Nat} (hc:X.calm = true) (hN:X.N.Nodup) (hi:X.N[i]? = some x:=by rfl) (hj:X.N[j]? = some y:=by rfl) (hx:Loc X.env.scope x:=by first | exact Or.inl rfl | exact Or.inr rfl) (hy:Loc X.env.scope y:=by first | exact Or.inl rfl | exact Or.inr rfl)
  (hf:X.fn x = true∨X.env.scope.names.lookup x = some .local:=by first | exact .inl rfl | exact .inr rfl) (hf':X.fn y = true∨X.env.scope.names.lookup y = some .local:=by first | exact .inl rfl | exact .inr rfl)
  (hn:(assignEach [.Name x p,.Name y p'] X.env).length = 2:=by rfl) (hst:(assignEach [.Name x p,.Name y p'] X.env).findIdx? (·.1) = none:=by rfl)
  (hs:(assignEach [.Name x p,.Name y p'] X.env).map (·.2) = assign (.Name x p) X.env :: (assignEach [.Name y p'] X.env).map (·.2):=by rfl) (hs':(assignEach [.Name y p'] X.env).map (·.2) = assign (.Name y p') X.env :: (assignEach [] X.env).map (·.2):=by rfl) :
  PG X (.Tuple [.Name x p,.Name y p'] k pos) (mG2 X.K i j):=by
 intro pins s σ H v u Q I r h
 obtain ⟨a,x1,y1,rfl,hq,q⟩:=h
 exact Qf hc (g7 (wk i hN hi hx hf) (g7 (wk j hN hj hy hf') Tn hs') hs) hn hst pins s σ H _ u Q I r ⟨a,_,rfl,hq,rfl,x1,_,rfl,y1,_,rfl,rfl,q⟩
variable {N:List Str}{scope:Scope}{cl:List (Str×Addr)}{elt iter:Expr}{ifs:List Expr}{ixs:List Nat}{wi:TI}{tt:Addr→Shared→Hp→List Addr→TT}{te:Addr→Shared→Hp→List Addr→TE}{pos px py pp spos pt:Pos}{x y z:Str}{kk:Nat}
theorem Tl (k:CompOk X [x,y] N scope cl) (hc:X.calm = true) (C:Addr) (s₀:Shared) (H₀:Hp) (ex:List Addr):PG (y8 X ([x,y] ++ N) scope cl C s₀ H₀ ex) (.Tuple [.Name x px,.Name y py] kk pp) (mG2 X.K 0 1) :=
 Vy (X:=y8 X ([x,y] ++ N) scope cl C s₀ H₀ ex) 0 1 hc k.nd rfl rfl (.inl (lookup_relabel_local (k.mine x (by simp)))) (.inl (lookup_relabel_local (k.mine y (by simp)))) (.inr (lookup_relabel_local (k.mine x (by simp)))) (.inr (lookup_relabel_local (k.mine y (by simp))))
theorem yp (k:CompOk X [x] N scope cl) (hc:X.calm = true) (hi:PI X (.Name x px) iter wi) (ht:∀ (C:Addr) (s₀:Shared) (H₀:Hp) (ex:List Addr),PIf (y8 X ([x] ++ N) scope cl C s₀ H₀ ex) ifs (tt C s₀ H₀ ex))
  (he:∀ (C:Addr) (s₀:Shared) (H₀:Hp) (ex:List Addr),PE (y8 X ([x] ++ N) scope cl C s₀ H₀ ex) elt (te C s₀ H₀ ex)) (hx:ixs.map (fun i=>X.N[i]?) = N.map some) (hs:∀ x,foldedSetIterable iter X.env x = pure x:=by intro _;rfl) :
  PE X (.ListComp elt [⟨.Name x px,iter,ifs,0⟩] scope pos) (rq 1 ixs wi (mG 0) tt te):=Vs k hc hi (af k) ht he hx hs
theorem Z9 (k:CompOk X [x,y] N scope cl) (hc:X.calm = true) (hi:PI X (.Tuple [.Name x px,.Name y py] kk pp) iter wi) (ht:∀ (C:Addr) (s₀:Shared) (H₀:Hp) (ex:List Addr),PIf (y8 X ([x,y] ++ N) scope cl C s₀ H₀ ex) ifs (tt C s₀ H₀ ex))
  (he:∀ (C:Addr) (s₀:Shared) (H₀:Hp) (ex:List Addr),PE (y8 X ([x,y] ++ N) scope cl C s₀ H₀ ex) elt (te C s₀ H₀ ex)) (hx:ixs.map (fun i=>X.N[i]?) = N.map some) (hs:∀ x,foldedSetIterable iter X.env x = pure x:=by intro _;rfl) :
  PE X (.ListComp elt [⟨.Tuple [.Name x px,.Name y py] kk pp,iter,ifs,0⟩] scope pos) (rq 2 ixs wi (mG2 X.K 0 1) tt te):=Vs k hc hi (Tl k hc) ht he hx hs
theorem wq (i:Nat) (hN:X.N.Nodup) (k:CompOk X [x] N scope cl) (hc:X.calm = true) (hi:PI X (.Name x px) iter wi) (ht:∀ (C:Addr) (s₀:Shared) (H₀:Hp) (ex:List Addr),PIf (y8 X ([x] ++ N) scope cl C s₀ H₀ ex) ifs (tt C s₀ H₀ ex))
  (he:∀ (C:Addr) (s₀:Shared) (H₀:Hp) (ex:List Addr),PE (y8 X ([x] ++ N) scope cl C s₀ H₀ ex) elt (te C s₀ H₀ ex)) (hx:ixs.map (fun i=>X.N[i]?) = N.map some) (hy:X.N[i]? = some z:=by rfl) (hyl:X.env.scope.names.lookup z = some .local:=by rfl)
  (hsw:swapsWith (.ListComp elt [⟨.Name x px,iter,ifs,0⟩] scope pos) (some (.Name z pt)) spos.line X.env = pure true:=by rfl) (hs:∀ x,foldedSetIterable iter X.env x = pure x:=by intro _;rfl) :
  PS X (.Assign [.Name z pt] (.ListComp elt [⟨.Name x px,iter,ifs,0⟩] scope pos) spos) (Vp i (rq 1 ixs wi (mG 0) tt te)):=Yn i hN k hc hi (af k) ht he hx hy hyl hsw hs
end
end My
namespace My
open PySem PySem.Spec L2
open PyProof.Rows hiding St
section
variable {X:Cx}
theorem xh:∀ {bs:List Bool}{us:List Value},Vals (bs.map V.bl) us→us = bs.map Value.bool
 | [],us,r=>by cases r;rfl
 | b :: bs,us,r=>by
  rw [List.map_cons] at r
  cases r with
  | cons r1 r2 =>
   have e:_ = Value.bool b:=r1
   rw [e,xh r2]
   rfl
theorem Um {bs:List Bool}{i:Nat} (hi:i < bs.length) (h:∀ j,j≤bs.length - 1→b2i (bs.getD i false)≤b2i (bs.getD j false)):bs.getD i false = bs.all id:=by
 cases e:bs.all id with
 | true =>
  rw [List.all_eq_true] at e
  have:=e (bs[i]) (List.getElem_mem hi)
  simpa [List.getD_eq_getElem?_getD,hi] using this
 | false =>
  rw [List.all_eq_false] at e
  obtain ⟨x,hx,hn⟩:=e
  obtain ⟨j,hj,rfl⟩:=List.mem_iff_getElem.mp hx
  have h1:=h j (by omega)
  have e2:bs.getD j false = false:=by simpa [List.getD_eq_getElem?_getD,hj] using hn
  rw [e2] at h1
  cases e3:bs.getD i false with
  | false=>rfl
  | true=>rw [e3] at h1;exact absurd h1 (by decide)
theorem Uo {bs:List Bool}{i:Nat} (hi:i < bs.length) (h:∀ j,j≤bs.length - 1→b2i (bs.getD j false)≤b2i (bs.getD i false)):bs.getD i false = bs.any id:=by
 cases e:bs.any id with
 | false =>
  rw [List.any_eq_false] at e
  have:=e (bs[i]) (List.getElem_mem hi)
  simpa [List.getD_eq_getElem?_getD,hi] using this
 | true =>
  rw [List.any_eq_true] at e
  obtain ⟨x,hx,hn⟩:=e
  obtain ⟨j,hj,rfl⟩:=List.mem_iff_getElem.mp hx
  have h1:=h j (by omega)
  have e2:bs.getD j false = true:=by simpa [List.getD_eq_getElem?_getD,hj] using hn
  rw [e2] at h1
  cases e3:bs.getD i false with
  | true=>rfl
  | false=>rw [e3] at h1;exact absurd h1 (by decide)
def mMM (gi:Int→Int→Int) (gb:List Bool→Bool) (K:PySem.W.Frag):List V→Hp→VK→Prop:=fun xs H Q=>match xs with
 | [.int i,.int j]=>Q (.int (gi i j)) H
 | [.ref p]=>∃ bs:List Bool,SqL K H p (bs.map V.bl)∧0 < bs.length∧Q (.bl (gb bs)) H
 | _=>False
theorem Rr (hc:X.calm = true):wm X (.builtin "min") (mMM (fun i j=>if j < i then j else i) (fun bs=>bs.all id) X.K):=by
 intro pins s σ H xs us Q I r h
 match xs,h with
 | [.int i,.int j],h=>exact Xx hc pins s σ H _ us Q I r ⟨i,j,rfl,h⟩
 | [.ref p],h =>
  obtain ⟨bs,hq,hne,q⟩:=(show ∃ bs:List Bool,SqL X.K H p (bs.map V.bl)∧0 < bs.length∧Q (.bl (bs.all id)) H from h)
  obtain ⟨u,rfl,rx⟩:=ua r
  cases rx
  obtain ⟨its,rv,pl,hz⟩:=I.list hq
  have e:=xh rv
  subst e
  have hlt:p < s.heap.objs.size:=by obtain ⟨o,e,_⟩:=pl.isList;exact Heap.lt_size e
  refine call_min_walk (wpAny_pyIter_list pl.isList ?_)
  refine ⟨s.heap.objs.size,_,_,_,_,_,fun i j=>decide (b2i (bs.getD i false) < b2i (bs.getD j false)),rfl,Walks.list (A:=X.A.in1) (I.ok.hd hc) _ p (Nat.ne_of_lt hlt) (bs.map Value.bool).toArray,⟨⟨_,Heap.get?_push_size _ rfl,rfl,rfl⟩,pl.isList.push _⟩,fun b hb=>?_,by simpa using hne,?_,fun v h' tk hP hk=>?_⟩
  ·show b < (s.heap.push _).objs.size
   rw [Heap.size_push]
   rcases List.mem_cons.mp hb with rfl | hb
   ·exact Nat.lt_succ_self _
   ·rw [List.mem_singleton.mp hb];exact Nat.lt_succ_of_lt hlt
  ·intro i j vi vj s' Q' E' hi hj hQ
   have ei:vi = .bool (bs.getD i false):=by
    have:(bs[i]?).map Value.bool = some vi:=by simpa using hi
    cases e:bs[i]? with
    | none=>rw [e] at this;cases this
    | some b=>rw [e] at this;rw [List.getD_eq_getElem?_getD,e];exact (Option.some.inj this).symm
   have ej:vj = .bool (bs.getD j false):=by
    have:(bs[j]?).map Value.bool = some vj:=by simpa using hj
    cases e:bs[j]? with
    | none=>rw [e] at this;cases this
    | some b=>rw [e] at this;rw [List.getD_eq_getElem?_getD,e];exact (Option.some.inj this).symm
   subst ei ej
   exact lt_bool hQ
  ·obtain ⟨h1,h2⟩:=argBest_lt (fun i=>b2i (bs.getD i false)) ((bs.map Value.bool).toArray.size - 1)
   have hsz:(bs.map Value.bool).toArray.size = bs.length:=by simp
   rw [hsz] at h1 h2 hP
   have hb:=Um (bs:=bs) (i:=argBest (fun i j=>decide (b2i (bs.getD i false) < b2i (bs.getD j false))) (bs.length - 1)) (by omega) (fun j hj=>h2 j hj)
   have ev:v = .bool (bs.all id):=by
    have h3:(bs[argBest (fun i j=>decide (b2i (bs.getD i false) < b2i (bs.getD j false))) (bs.length - 1)]?).map Value.bool = some v:=by simpa using hP
    rw [List.getD_eq_getElem?_getD] at hb
    cases e:bs[argBest (fun i j=>decide (b2i (bs.getD i false) < b2i (bs.getD j false))) (bs.length - 1)]? with
    | none=>rw [e] at h3;cases h3
    | some b=>rw [e] at h3 hb;rw [← hb];exact (Option.some.inj h3).symm
   subst ev
   refine ⟨.bl (bs.all id),H,?_,rfl,q⟩
   exact I.kept fun b o e=>hk b o (fun z=>absurd (Heap.lt_size e) (by rw [List.mem_singleton.mp z];exact Nat.lt_irrefl _)) (Heap.get?_push_of_some _ e)
theorem Ng (hc:X.calm = true):wm X (.builtin "max") (mMM (fun i j=>if j > i then j else i) (fun bs=>bs.any id) X.K):=by
 intro pins s σ H xs us Q I r h
 match xs,h with
 | [.int i,.int j],h=>exact Xw hc pins s σ H _ us Q I r ⟨i,j,rfl,h⟩
 | [.ref p],h =>
  obtain ⟨bs,hq,hne,q⟩:=(show ∃ bs:List Bool,SqL X.K H p (bs.map V.bl)∧0 < bs.length∧Q (.bl (bs.any id)) H from h)
  obtain ⟨u,rfl,rx⟩:=ua r
  cases rx
  obtain ⟨its,rv,pl,hz⟩:=I.list hq
  have e:=xh rv
  subst e
  have hlt:p < s.heap.objs.size:=by obtain ⟨o,e,_⟩:=pl.isList;exact Heap.lt_size e
  refine call_max_walk (wpAny_pyIter_list pl.isList ?_)
  refine ⟨s.heap.objs.size,_,_,_,_,_,fun i j=>decide (b2i (bs.getD i false) > b2i (bs.getD j false)),rfl,Walks.list (A:=X.A.in1) (I.ok.hd hc) _ p (Nat.ne_of_lt hlt) (bs.map Value.bool).toArray,⟨⟨_,Heap.get?_push_size _ rfl,rfl,rfl⟩,pl.isList.push _⟩,fun b hb=>?_,by simpa using hne,?_,fun v h' tk hP hk=>?_⟩
  ·show b < (s.heap.push _).objs.size
   rw [Heap.size_push]
   rcases List.mem_cons.mp hb with rfl | hb
   ·exact Nat.lt_succ_self _
   ·rw [List.mem_singleton.mp hb];exact Nat.lt_succ_of_lt hlt
  ·intro i j vi vj s' Q' E' hi hj hQ
   have ei:vi = .bool (bs.getD i false):=by
    have:(bs[i]?).map Value.bool = some vi:=by simpa using hi
    cases e:bs[i]? with
    | none=>rw [e] at this;cases this
    | some b=>rw [e] at this;rw [List.getD_eq_getElem?_getD,e];exact (Option.some.inj this).symm
   have ej:vj = .bool (bs.getD j false):=by
    have:(bs[j]?).map Value.bool = some vj:=by simpa using hj
    cases e:bs[j]? with
    | none=>rw [e] at this;cases this
    | some b=>rw [e] at this;rw [List.getD_eq_getElem?_getD,e];exact (Option.some.inj this).symm
   subst ei ej
   exact gt_bool hQ
  ·obtain ⟨h1,h2⟩:=argBest_gt (fun i=>b2i (bs.getD i false)) ((bs.map Value.bool).toArray.size - 1)
   have hsz:(bs.map Value.bool).toArray.size = bs.length:=by simp
   rw [hsz] at h1 h2 hP
   have hb:=Uo (bs:=bs) (i:=argBest (fun i j=>decide (b2i (bs.getD i false) > b2i (bs.getD j false))) (bs.length - 1)) (by omega) (fun j hj=>h2 j hj)
   have ev:v = .bool (bs.any id):=by
    have h3:(bs[argBest (fun i j=>decide (b2i (bs.getD i false) > b2i (bs.getD j false))) (bs.length - 1)]?).map Value.bool = some v:=by simpa using hP
    rw [List.getD_eq_getElem?_getD] at hb
    cases e:bs[argBest (fun i j=>decide (b2i (bs.getD i false) > b2i (bs.getD j false))) (bs.length - 1)]? with
    | none=>rw [e] at h3;cases h3
    | some b=>rw [e] at h3 hb;rw [← hb];exact (Option.some.inj h3).symm
   subst ev
   refine ⟨.bl (bs.any id),H,?_,rfl,q⟩
   exact I.kept fun b o e=>hk b o (fun z=>absurd (Heap.lt_size e) (by rw [List.mem_singleton.mp z];exact Nat.lt_irrefl _)) (Heap.get?_push_of_some _ e)
theorem Od {gi:Int→Int→Int}{gb:List Bool→Bool}{K:PySem.W.Frag}{H:Hp}{Q:VK}{i j:Int}:mMM gi gb K [.int i,.int j] H Q = Q (.int (gi i j)) H:=rfl
theorem Oe {gi:Int→Int→Int}{gb:List Bool→Bool}{K:PySem.W.Frag}{H:Hp}{Q:VK}{p:Addr}:mMM gi gb K [.ref p] H Q = (∃ bs:List Bool,SqL K H p (bs.map V.bl)∧0 < bs.length∧Q (.bl (gb bs)) H):=rfl
theorem l4:∀ {ss:List Str}{us:List Value},Vals (ss.map V.str) us→StrsAre us ss
 | [],us,r=>by cases r;exact .nil
 | x :: ss,us,r=>by
  rw [List.map_cons] at r
  cases r with
  | cons r1 r2 =>
   obtain ⟨t,rfl⟩:=r1
   exact .cons x t (l4 r2)
theorem ls:∀ {us:List Value}{ss:List Str},StrsAre us ss→Vals (ss.map V.str) us
 | _,_,.nil=>.nil
 | _,_,.cons x t h=>.cons ⟨t,rfl⟩ (ls h)
end
end My
namespace My
open PySem PySem.Spec L2
open PyProof.Rows hiding St
theorem yx:bootBuiltins "len" = some (.builtin "len"):=by decide +kernel
theorem O7:bootBuiltins "max" = some (.builtin "max"):=by decide +kernel
theorem bo:bootBuiltins "min" = some (.builtin "min"):=by decide +kernel
theorem r8:bootBuiltins "sorted" = some (.builtin "sorted"):=by decide +kernel
theorem ui:bootBuiltins "isinstance" = some (.builtin "isinstance"):=by decide +kernel
theorem y4:bootBuiltins "tuple" = some (.type "tuple"):=by decide +kernel
theorem O8:bootBuiltins "set" = some (.type "set"):=by decide +kernel
theorem R5:bootBuiltins "bool" = some (.type "bool"):=by decide +kernel
theorem w01:decide (Str.ofString "letter" = Str.ofString "not") = false:=by decide +kernel
theorem w02:decide (Str.ofString "letter" = Str.ofString "and") = false:=by decide +kernel
theorem w03:decide (Str.ofString "letter" = Str.ofString "or") = false:=by decide +kernel
theorem w04:decide (Str.ofString "letter" = Str.ofString "if") = false:=by decide +kernel
theorem w10:decide (Str.ofString "not" = Str.ofString "letter") = false:=by decide +kernel
theorem w12:decide (Str.ofString "not" = Str.ofString "and") = false:=by decide +kernel
theorem w13:decide (Str.ofString "not" = Str.ofString "or") = false:=by decide +kernel
theorem w14:decide (Str.ofString "not" = Str.ofString "if") = false:=by decide +kernel
theorem w20:decide (Str.ofString "and" = Str.ofString "letter") = false:=by decide +kernel
theorem w21:decide (Str.ofString "and" = Str.ofString "not") = false:=by decide +kernel
theorem w23:decide (Str.ofString "and" = Str.ofString "or") = false:=by decide +kernel
theorem w24:decide (Str.ofString "and" = Str.ofString "if") = false:=by decide +kernel
theorem w30:decide (Str.ofString "or" = Str.ofString "letter") = false:=by decide +kernel
theorem w31:decide (Str.ofString "or" = Str.ofString "not") = false:=by decide +kernel
theorem w32:decide (Str.ofString "or" = Str.ofString "and") = false:=by decide +kernel
theorem w34:decide (Str.ofString "or" = Str.ofString "if") = false:=by decide +kernel
theorem w40:decide (Str.ofString "if" = Str.ofString "letter") = false:=by decide +kernel
theorem w41:decide (Str.ofString "if" = Str.ofString "not") = false:=by decide +kernel
theorem w42:decide (Str.ofString "if" = Str.ofString "and") = false:=by decide +kernel
theorem w43:decide (Str.ofString "if" = Str.ofString "or") = false:=by decide +kernel
inductive Op2 | con | dis | imp
def Op2.word:Op2→Str
 | .con=>"and"
 | .dis=>"or"
 | .imp=>"if"
def Op2.so:Op2→Bool→Bool→Bool
 | .con,a,b=>a && b
 | .dis,a,b=>a || b
 | .imp,a,b=>!a || b
inductive Say
 | letter (x:Str)
 | neg (s:Say)
 | bin (o:Op2) (s t:Say)
def Say.pieces:Say→Nat
 | .letter _=>1
 | .neg s=>s.pieces + 1
 | .bin _ s t=>s.pieces + t.pieces + 1
theorem Say.pieces_pos:∀ s:Say,0 < s.pieces
 | .letter _=>Nat.one_pos
 | .neg _=>Nat.succ_pos _
 | .bin _ _ _=>Nat.succ_pos _
def Say.letters:Say→List Str
 | .letter x=>[x]
 | .neg s=>s.letters
 | .bin _ s t=>s.letters ++ t.letters
def Say.so (hs:List Str):Say→Bool
 | .letter x=>hs.any fun y=>y == x
 | .neg s=>!s.so hs
 | .bin o s t=>o.so (s.so hs) (t.so hs)
def SayAt (K:PySem.W.Frag) (H:Hp):V→Say→Prop
 | v,.letter x=>∃ a,v = .ref a∧SqT K H a [.str "letter",.str x]
 | v,.neg s=>∃ a u,v = .ref a∧SqT K H a [.str "not",u]∧SayAt K H u s
 | v,.bin o s t=>∃ a u u',v = .ref a∧SqT K H a [.str o.word,u,u']∧SayAt K H u s∧SayAt K H u' t
theorem SayAt.mono {K:PySem.W.Frag}{H H':Hp} (t:Tups H H'):∀ {s:Say}{v:V},SayAt K H v s→SayAt K H' v s
 | .letter x,v,⟨a,e,h⟩=>⟨a,e,t.sqT h⟩
 | .neg s,v,⟨a,u,e,h,h1⟩=>⟨a,u,e,t.sqT h,SayAt.mono t h1⟩
 | .bin o s r,v,⟨a,u,u',e,h,h1,h2⟩=>⟨a,u,u',e,t.sqT h,SayAt.mono t h1,SayAt.mono t h2⟩
theorem fk (hs:List Str):(hs.map V.str).all wn = true:=by
 rw [List.all_eq_true]
 intro x hx
 obtain ⟨y,_,rfl⟩:=List.mem_map.mp hx
 rfl
theorem Z3 (x:Str) (hs:List Str):inV (.str x) (hs.map V.str) = hs.any fun y=>y == x:=by
 unfold inV
 rw [List.any_map]
 rfl
theorem j3 (x:Str):PyData.strOk x = true ↔ ∀ c∈x.cps.toList,c < 0x110000:=by
 unfold PyData.strOk
 rw [← Array.all_toList,List.all_eq_true]
 exact ⟨fun h c hc=>of_decide_eq_true (h c hc),fun h c hc=>decide_eq_true (h c hc)⟩
theorem t8 {x y:Str} (h1:PyData.strOk x = true) (h2:PyData.strOk y = true):PyData.strOk (x ++ y) = true:=by
 rw [j3] at h1 h2 ⊢
 intro c hc
 have hc':c∈(x.cps ++ y.cps).toList:=hc
 rw [Array.toList_append] at hc'
 rcases List.mem_append.mp hc' with z | z
 ·exact h1 c z
 ·exact h2 c z
theorem j4 {x:Str}{c:Nat} (h1:PyData.strOk x = true) (h:c∈x.cps.toList):PyData.strOk ⟨#[c]⟩ = true:=by
 rw [j3] at h1 ⊢
 intro d hd
 have:d = c:=by simpa using hd
 rw [this]
 exact h1 c h
theorem u3 {x:Str} (h1:PyData.strOk x = true) (l u:Option Int):PyData.strOk (Txt.slice x l u) = true:=by
 unfold Txt.slice
 split
 ·exact h1
 ·rw [j3] at h1 ⊢
  intro c hc
  have hc':c∈List.filterMap (fun i=>x.cps[i]?) (Builtin.Str.strSliceIndices l u 1 x.length):=by simpa using hc
  obtain ⟨i,_,hi⟩:=List.mem_filterMap.mp hc'
  exact h1 c (by
   have:=Array.mem_of_getElem? hi
   simpa using this)
def Nm (x:Str):Prop:=x.length≤20∧PyData.strOk x = true
theorem fz {d:PyData} (h:SeqAt.shaped d = true):PyData.eqv d d = true:=SeqAt.eqv_refl d (SeqAt.canLay_of_shaped h)
def zj:Int→List Str→List Str
 | _,[]=>[]
 | n,x :: r=>if n % 2 = 1 then x :: zj (n / 2) r else zj (n / 2) r
theorem xk {P:Program}{w:World}{K:PySem.W.Frag}{mg:Str→Option Value}{base:Heap}{x:Str}{st:Stmt}{ps:List Str}{sp:Sp} (F:Def K mg x st ps) (no:∀ vs H Q E,¬ sp vs H Q E):zx P w K mg base 0 x ps sp:=by
 obtain ⟨f,fd,F,b,hm⟩:=F.ex
 exact ⟨f,fd,⟨fun vs H Q E h=>absurd h (no vs H Q E),fun A outer s H args us vs Q E _ _ _ _ h=>absurd h (no vs H Q E)⟩,.all b,F.kp,hm⟩
end My
namespace My
open PySem
namespace Tb
open PySem.SetTable
def av (m:Nat) (p:Probe):Probe :=
 if p.more > 0 then { p with j:=p.j + 1,more:=p.more - 1 } else
 { p with j:=(leap m p.i p.perturb).1,more:=runEnd m (leap m p.i p.perturb).1 - (leap m p.i p.perturb).1,i:=(leap m p.i p.perturb).1,perturb:=(leap m p.i p.perturb).2 }
theorem mo (t:SetTable) (p:Probe):t.advance p = av t.mask p:=rfl
def itr (m:Nat):Nat→Probe→Probe
 | 0,p=>p
 | k + 1,p=>itr m k (av m p)
theorem qf (m:Nat):∀ (a b:Nat) (p:Probe),itr m (a + b) p = itr m b (itr m a p)
 | 0,b,p=>by rw [Nat.zero_add];rfl
 | a + 1,b,p=>by
  rw [show a + 1 + b = (a + b) + 1 by omega]
  exact qf m a b (av m p)
theorem nk (m k:Nat) (p:Probe):itr m (k + 1) p = av m (itr m k p):=qf m k 1 p
def hd (m i p:Nat):Probe:={ j:=i,more:=runEnd m i - i,i:=i,perturb:=p,dummy:=none }
def st0 (m:Nat) (h:Int):Probe:=hd m (bits h % (m + 1)) (bits h)
theorem Wx (m:Nat):∀ (r j i p:Nat) (d:Option Nat),itr m r { j:=j,more:=r,i:=i,perturb:=p,dummy:=d } = { j:=j + r,more:=0,i:=i,perturb:=p,dummy:=d }
 | 0,_,_,_,_=>rfl
 | r + 1,j,i,p,d=>by
  show itr m r (av m { j:=j,more:=r + 1,i:=i,perturb:=p,dummy:=d }) = _
  have e:av m { j:=j,more:=r + 1,i:=i,perturb:=p,dummy:=d } = { j:=j + 1,more:=r,i:=i,perturb:=p,dummy:=d }:=by
   unfold av;simp
  rw [e,Wx m r,show j + 1 + r = j + (r + 1) by omega]
theorem aj (m i p:Nat):itr m (runEnd m i - i + 1) (hd m i p) = hd m (leap m i p).1 (leap m i p).2:=by
 rw [nk]
 unfold hd
 rw [Wx]
 rfl
theorem Tv (m i:Nat):runEnd m i - i + 1≤10:=by
 unfold runEnd
 split <;> omega
def lp (m:Nat):Nat→Nat×Nat→Nat×Nat
 | 0,x=>x
 | n + 1,x=>lp m n (leap m x.1 x.2)
theorem Vk (m:Nat):∀ (n:Nat) (x:Nat×Nat),∃ k,k≤10 * n∧itr m k (hd m x.1 x.2) = hd m (lp m n x).1 (lp m n x).2
 | 0,x=>⟨0,Nat.le_refl _,rfl⟩
 | n + 1,x=>by
  obtain ⟨k,hk,e⟩:=Vk m n (leap m x.1 x.2)
  refine ⟨runEnd m x.1 - x.1 + 1 + k,by have:=Tv m x.1;omega,?_⟩
  rw [qf,aj]
  exact e
theorem jk (m:Nat):∀ (a b:Nat) (x:Nat×Nat),lp m (a + b) x = lp m b (lp m a x)
 | 0,b,x=>by rw [Nat.zero_add];rfl
 | a + 1,b,x=>by
  rw [show a + 1 + b = (a + b) + 1 by omega]
  exact jk m a b (leap m x.1 x.2)
theorem ci (m:Nat):∀ (n:Nat) (x:Nat×Nat),(lp m n x).2 = x.2 / 32 ^ n
 | 0,x=>by simp [lp]
 | n + 1,x=>by
  show (lp m n (leap m x.1 x.2)).2 = _
  rw [ci m n]
  show x.2 / 32 / 32 ^ n = _
  rw [Nat.div_div_eq_div_mul,Nat.pow_succ,Nat.mul_comm]
theorem Zr (h:Int):bits h < 2 ^ 64:=by
 unfold bits
 have h1:0≤h % (2 ^ 64:Int):=Int.emod_nonneg _ (by decide)
 have h2:h % (2 ^ 64:Int) < 2 ^ 64:=Int.emod_lt_of_pos _ (by decide)
 omega
def cy (m:Nat):Nat→Nat→Nat
 | 0,i=>i
 | n + 1,i=>cy m n ((i * 5 + 1) % (m + 1))
theorem jc (m:Nat):∀ (a b i:Nat),cy m (a + b) i = cy m b (cy m a i)
 | 0,b,i=>by rw [Nat.zero_add];rfl
 | a + 1,b,i=>by
  rw [show a + 1 + b = (a + b) + 1 by omega]
  exact jc m a b _
theorem Vj (m:Nat):∀ (n i:Nat),lp m n (i,0) = (cy m n i,0)
 | 0,_=>rfl
 | n + 1,i=>by
  show lp m n (leap m i 0) = _
  have e:leap m i 0 = ((i * 5 + 1) % (m + 1),0):=by unfold leap;simp
  rw [e,Vj m n]
  rfl
theorem Ri (m:Nat) (n:Nat) (x:Nat×Nat):(lp m (n + 1) x).1≤m:=by
 rw [jk]
 show (leap m (lp m n x).1 (lp m n x).2).1≤m
 unfold leap
 exact Nat.le_of_lt_succ (Nat.mod_lt _ (Nat.succ_pos m))
def Mk (m:Nat):Prop:=m = 7∨m = 31∨m = 127
def Qb (m:Nat):Bool:=(cy m (m + 1) 0 == 0) && (List.range (m + 1)).all fun e=>(List.range (m + 1)).any fun a=>cy m a 0 == e
theorem Ly:Qb 7 = true:=by decide +kernel
theorem orb {m:Nat} (hm:Mk m):cy m (m + 1) 0 = 0∧∀ e,e≤m→∃ a,a≤m∧cy m a 0 = e:=by
 have h:Qb m = true:=by rcases hm with rfl | rfl | rfl <;> first | exact Ly | exact orb31 | exact orb127
 unfold Qb at h
 rw [Bool.and_eq_true,List.all_eq_true] at h
 refine ⟨by simpa using h.1,fun e he=>?_⟩
 have:=h.2 e (List.mem_range.mpr (by omega))
 rw [List.any_eq_true] at this
 obtain ⟨a,ha,e'⟩:=this
 exact ⟨a,by have:=List.mem_range.mp ha;omega,by simpa using e'⟩
theorem Rf {m:Nat} (hm:Mk m) {i e:Nat} (hi:i≤m) (he:e≤m):∃ k,k≤m∧cy m k i = e:=by
 obtain ⟨h0,h1⟩:=orb hm
 obtain ⟨a,ha,rfl⟩:=h1 i hi
 obtain ⟨b,hb,rfl⟩:=h1 e he
 by_cases hab:a≤b
 ·refine ⟨b - a,by omega,?_⟩
  rw [← jc,show a + (b - a) = b by omega]
 ·refine ⟨b + (m + 1) - a,by omega,?_⟩
  rw [← jc,show a + (b + (m + 1) - a) = (m + 1) + b by omega,jc,h0]
def pos (m:Nat) (h:Int) (k:Nat):Nat:=(itr m k (st0 m h)).j
theorem Oq {m:Nat} (hm:Mk m) (h:Int) {e:Nat} (he:e≤m):∃ k,k≤10 * (m + 13)∧pos m h k = e:=by
 have h13:lp m 13 (bits h % (m + 1),bits h) = ((lp m 13 (bits h % (m + 1),bits h)).1,0):=by
  have:(lp m 13 (bits h % (m + 1),bits h)).2 = 0:=by
   rw [ci]
   exact Nat.div_eq_of_lt (Nat.lt_trans (Zr h) (by decide))
  exact Prod.ext rfl this
 obtain ⟨k,hk,ek⟩:=Rf hm (Ri m 12 (bits h % (m + 1),bits h)) he
 obtain ⟨r,hr,er⟩:=Vk m (13 + k) (bits h % (m + 1),bits h)
 refine ⟨r,by omega,?_⟩
 unfold pos st0
 rw [er,jk,h13,Vj]
 exact ek
theorem least {P:Nat→Prop}:∀ n:Nat,P n→∃ k,k≤n∧P k∧∀ k',k' < k→¬ P k':=by
 intro n
 induction n using Nat.strongRecOn with
 | _ n ih =>
  intro h
  by_cases hc:∃ k',k' < n∧P k'
  ·obtain ⟨k',hk,hp⟩:=hc
   obtain ⟨k,h1,h2,h3⟩:=ih k' hk hp
   exact ⟨k,by omega,h2,h3⟩
  ·exact ⟨n,Nat.le_refl _,h,fun k' hk hp=>hc ⟨k',hk,hp⟩⟩
theorem dq:∀ (n:Nat) (l:List Nat),(∀ e,e < n→e∈l)→n≤l.length
 | 0,_,_=>Nat.zero_le _
 | n + 1,l,h=>by
  have hn:=h n (Nat.lt_succ_self n)
  have h1:=dq n (l.erase n) fun e he=>(List.mem_erase_of_ne (by omega)).mpr (h e (by omega))
  rw [List.length_erase_of_mem hn] at h1
  have:=List.length_pos_of_mem hn
  omega
theorem bt {m:Nat} (hm:Mk m) (h:Int) {l:List Nat} (hl:l.length≤m):∃ K,K≤10 * (m + 13)∧pos m h K ∉ l∧∀ k,k < K→pos m h k∈l:=by
 have hex:∃ e,e≤m∧e ∉ l:=by
  by_cases hc:∃ e,e≤m∧e ∉ l
  ·exact hc
  ·exfalso
   have:=dq (m + 1) l fun e he=>Classical.byContradiction fun hn=>hc ⟨e,by omega,hn⟩
   omega
 obtain ⟨e,he,hn⟩:=hex
 obtain ⟨k,hk,ek⟩:=Oq hm h he
 obtain ⟨K,h1,h2,h3⟩:=least (P:=fun k=>pos m h k ∉ l) k (by rw [ek];exact hn)
 exact ⟨K,by omega,h2,fun k' hk'=>Classical.byContradiction fun hc=>h3 k' hk' hc⟩
theorem ux {l:List Nat} (hr:l.Pairwise (· < ·)) {i i' d:Nat} (h:i < i') (h':i' < l.length):l.toArray.getD i d < l.toArray.getD i' d:=by
 have:=List.pairwise_iff_getElem.mp hr i i' (by omega) h' h
 simpa [Array.getD,h',show i < l.length by omega] using this
theorem m3 {l:List Nat} (hr:l.Pairwise (· < ·)) (j:Nat):∀ (fuel lo hi:Nat),hi≤l.length→lo≤hi→hi - lo≤fuel→(∀ i,i < lo→l.toArray.getD i j < j)→(∀ i,hi≤i→i < l.length→j≤l.toArray.getD i j) →
  below.go l.toArray j fuel lo hi≤l.length∧(∀ i,i < below.go l.toArray j fuel lo hi→l.toArray.getD i j < j)∧(∀ i,below.go l.toArray j fuel lo hi≤i→i < l.length→j≤l.toArray.getD i j)
 | 0,lo,hi,h1,h2,h3,h4,h5=>by
  unfold below.go
  exact ⟨by omega,h4,fun i hi'=>h5 i (by omega)⟩
 | f + 1,lo,hi,h1,h2,h3,h4,h5=>by
  unfold below.go
  by_cases hlt:lo < hi
  ·rw [if_pos hlt]
   dsimp only
   by_cases hc:l.toArray.getD ((lo + hi) / 2) j < j
   ·rw [if_pos hc]
    refine m3 hr j f _ _ h1 (by omega) (by omega) (fun i hi'=>?_) h5
    by_cases e:i = (lo + hi) / 2
    ·rw [e];exact hc
    ·exact Nat.lt_trans (ux hr (by omega) (by omega)) hc
   ·rw [if_neg hc]
    refine m3 hr j f _ _ (by omega) (by omega) (by omega) h4 (fun i hi' hl=>?_)
    by_cases e:i = (lo + hi) / 2
    ·rw [e];exact Nat.not_lt.mp hc
    ·exact Nat.le_trans (Nat.not_lt.mp hc) (Nat.le_of_lt (ux hr (by omega) hl))
  ·rw [if_neg hlt]
   exact ⟨by omega,h4,fun i hi'=>h5 i (by omega)⟩
theorem vp {l:List Nat} (hr:l.Pairwise (· < ·)) (j:Nat):below l.toArray j≤l.length∧(∀ i,i < below l.toArray j→l.toArray.getD i j < j)∧(∀ i,below l.toArray j≤i→i < l.length→j≤l.toArray.getD i j):=by
 unfold below
 have hs:l.toArray.size = l.length:=List.size_toArray
 rw [hs]
 exact m3 hr j l.length 0 l.length (Nat.le_refl _) (Nat.zero_le _) (by omega) (fun i hi=>by omega) (fun i h1 h2=>by omega)
theorem uw {l:List Nat}{i d:Nat} (h:i < l.length):l.toArray.getD i d = l[i]:=by simp [Array.getD,h]
theorem Xu {l:List Nat} (hr:l.Pairwise (· < ·)) {j:Nat} (h:j∈l):l[below l.toArray j]? = some j:=by
 obtain ⟨b1,b2,b3⟩:=vp hr j
 obtain ⟨i,hi,e⟩:=List.getElem_of_mem h
 have h1:¬ i < below l.toArray j:=fun z=>by
  have:=b2 i z
  rw [uw hi,e] at this
  omega
 have h2:¬ below l.toArray j < i:=fun z=>by
  have h3:=b3 (below l.toArray j) (Nat.le_refl _) (by omega)
  have h4:=ux (d:=j) hr z hi
  rw [uw hi,e] at h4
  omega
 have:below l.toArray j = i:=by omega
 rw [this,List.getElem?_eq_getElem hi,e]
theorem bh {l:List Nat} (hr:l.Pairwise (· < ·)) {j:Nat}:(∀ x∈l.take (below l.toArray j),x < j)∧(∀ x∈l.drop (below l.toArray j),j≤x):=by
 obtain ⟨b1,b2,b3⟩:=vp hr j
 constructor
 ·intro x hx
  obtain ⟨i,hi,e⟩:=List.getElem_of_mem hx
  rw [List.length_take] at hi
  have:=b2 i (by omega)
  rw [uw (by omega)] at this
  rw [List.getElem_take] at e
  omega
 ·intro x hx
  obtain ⟨i,hi,e⟩:=List.getElem_of_mem hx
  rw [List.length_drop] at hi
  have:=b3 (below l.toArray j + i) (by omega) (by omega)
  rw [uw (by omega)] at this
  rw [List.getElem_drop] at e
  omega
theorem Zk {l:List Nat} (hr:l.Pairwise (· < ·)) {j:Nat} (hj:j ∉ l):(l.take (below l.toArray j) ++ j :: l.drop (below l.toArray j)).Pairwise (· < ·):=by
 obtain ⟨h1,h2⟩:=bh hr (j:=j)
 have hd:∀ x∈l.drop (below l.toArray j),j < x:=fun x hx=>by
  have:=h2 x hx
  have hne:x≠j:=fun e=>hj (e ▸ List.mem_of_mem_drop hx)
  omega
 refine List.pairwise_append.mpr ⟨hr.sublist (List.take_sublist _ _),List.pairwise_cons.mpr ⟨hd,hr.sublist (List.drop_sublist _ _)⟩,fun a ha b hb=>?_⟩
 rcases List.mem_cons.mp hb with rfl | hb
 ·exact h1 a ha
 ·exact Nat.lt_trans (h1 a ha) (hd b hb)
end Tb
end My
namespace My
open PySem
namespace Tb
open PySem.SetTable
structure Rep (L:List (Nat×(Int×Value))) (es:Array (Int×Value)) (t:SetTable):Prop where
 es:es = (L.map (·.2)).toArray
 pl:t.place = (L.map (·.1)).toArray
 dm:t.dummies = #[]
 up:(L.map (·.1)).Pairwise (· < ·)
 pa:∀ x∈L,∃ k,pos t.mask x.2.1 k = x.1∧∀ k',k' < k→pos t.mask x.2.1 k'∈L.map (·.1)
 mz:Mk t.mask
 fl:L.length≤t.mask
variable {L:List (Nat×(Int×Value))}{es:Array (Int×Value)}{t:SetTable}
theorem Rep.fits (r:Rep L es t):t.fits es.size = true:=by
 unfold SetTable.fits SetTable.fill
 rw [r.pl,r.es,r.dm]
 simpa using r.fl
theorem Rep.odd (r:Rep L es t):t.gaveWay = false:=by
 unfold SetTable.gaveWay
 rcases r.mz with e | e | e <;> rw [e] <;> rfl
theorem Z0 (j:Nat):has #[] j = false:=by unfold has;simp
theorem Rep.slot_live (r:Rep L es t) {j:Nat} (h:j∈L.map (·.1)):∃ i e,t.slot j = .live i∧L[i]? = some (j,e)∧es[i]? = some e:=by
 have hb:=Xu r.up h
 have hp:t.place[below t.place j]? = some j:=by rw [r.pl];simpa using hb
 rw [List.getElem?_map] at hb
 cases hx:L[below (L.map (·.1)).toArray j]? with
 | none=>rw [hx] at hb;cases hb
 | some x =>
  rw [hx] at hb
  have e1:x.1 = j:=by simpa using hb
  refine ⟨below t.place j,x.2,?_,?_,?_⟩
  ·unfold SetTable.slot
   dsimp only
   rw [hp]
   simp
  ·rw [r.pl,hx,← e1]
  ·rw [r.es,r.pl]
   simp [hx]
theorem Rep.slot_free (r:Rep L es t) {j:Nat} (h:j ∉ L.map (·.1)):t.slot j = .empty:=by
 unfold SetTable.slot
 dsimp only
 have hp:(t.place[below t.place j]? == some j) = false:=by
  rw [beq_eq_false_iff_ne]
  intro e
  rw [r.pl] at e
  exact h (by
   have:=Array.mem_of_getElem? e
   simpa using this)
 rw [hp,r.dm,Z0]
 simp
theorem kn (m:Nat):∀ (k:Nat) (p:Probe),(itr m k p).dummy = p.dummy
 | 0,_=>rfl
 | k + 1,p=>by
  rw [itr,kn m k]
  unfold av
  split <;> rfl
theorem Rep.probe_go (r:Rep L es t) {hashAt:Nat→Int} (hh:∀ i e,es[i]? = some e→hashAt i = e.1) (h:Int) {K:Nat} (hK:pos t.mask h K ∉ L.map (·.1)) (hk:∀ k,k < K→pos t.mask h k∈L.map (·.1)):∀ (fuel m:Nat),m≤K→K - m < fuel →
  (probe.go t hashAt h fuel (itr t.mask m (st0 t.mask h)) = some (.empty (pos t.mask h K) none)∧∀ k e,m≤k→k < K→(pos t.mask h k,e)∈L→e.1≠h) ∨
  ∃ k i v,m≤k∧k < K∧probe.go t hashAt h fuel (itr t.mask m (st0 t.mask h)) = some (.candidate (pos t.mask h k) i (itr t.mask (k + 1) (st0 t.mask h)))∧t.slot (pos t.mask h k) = .live i∧es[i]? = some (h,v)∧(pos t.mask h k,(h,v))∈L∧∀ k' e,m≤k'→k' < k→(pos t.mask h k',e)∈L→e.1≠h
 | 0,m,hm,hf=>by omega
 | f + 1,m,hm,hf=>by
  unfold probe.go
  have hj:(itr t.mask m (st0 t.mask h)).j = pos t.mask h m:=rfl
  have hd:(itr t.mask m (st0 t.mask h)).dummy = none:=by rw [kn];rfl
  by_cases eK:m = K
  ·subst eK
   rw [hj,r.slot_free hK]
   dsimp only
   rw [hd]
   exact .inl ⟨rfl,fun k e h1 h2=>by omega⟩
  ·have hlt:m < K:=by omega
   obtain ⟨i,el,hs,hL,he⟩:=r.slot_live (hk m hlt)
   rw [hj,hs]
   dsimp only
   have uniq:∀ e',(pos t.mask h m,e')∈L→e' = el:=fun e' he'=>by
    obtain ⟨i',hi',e2⟩:=List.getElem_of_mem he'
    have hL':=(List.getElem?_eq_some_iff.mp hL)
    obtain ⟨hi,e3⟩:=hL'
    have:i' = i:=by
     rcases Nat.lt_trichotomy i' i with z | z | z
     ·have:=List.pairwise_iff_getElem.mp r.up i' i (by simpa using hi') (by simpa using hi) z
      simp [e2,e3] at this
     ·exact z
     ·have:=List.pairwise_iff_getElem.mp r.up i i' (by simpa using hi) (by simpa using hi') z
      simp [e2,e3] at this
    subst this
    rw [e2] at e3
    exact (Prod.mk.inj e3).2
   by_cases hc:(hashAt i == h) = true
   ·rw [if_pos hc]
    have hel:el.1 = h:=by rw [← hh i el he];exact eq_of_beq hc
    refine .inr ⟨m,i,el.2,Nat.le_refl _,hlt,?_,hs,?_,?_,fun k' e h1 h2=>by omega⟩
    ·rw [mo,← nk]
    ·rw [he,← hel]
    ·have e5:((h,el.2):Int×Value) = el:=Prod.ext hel.symm rfl
     rw [e5]
     exact List.mem_of_getElem? hL
   ·rw [if_neg hc,mo,← nk]
    have hel:el.1≠h:=fun z=>hc (by rw [hh i el he,z];simp)
    rcases Rep.probe_go r hh h hK hk f (m + 1) (by omega) (by omega) with ⟨a,b⟩ | ⟨k,i',v,a1,a2,a3,a4,a5,a6,a7⟩
    ·refine .inl ⟨a,fun k e h1 h2 hm'=>?_⟩
     by_cases z:k = m
     ·subst z
      rw [uniq e hm']
      exact hel
     ·exact b k e (by omega) h2 hm'
    ·refine .inr ⟨k,i',v,by omega,a2,a3,a4,a5,a6,fun k' e h1 h2 hm'=>?_⟩
     by_cases z:k' = m
     ·subst z
      rw [uniq e hm']
      exact hel
     ·exact a7 k' e (by omega) h2 hm'
theorem ue {α β:Type} (f:α→β) (l:List α) (p:Nat) (x:α):(l.take p ++ x :: l.drop p).map f = (l.map f).take p ++ f x :: (l.map f).drop p:=by simp
theorem uo {α:Type} (l:List α) (p:Nat) (x:α):insertAt l.toArray p x = (l.take p ++ x :: l.drop p).toArray:=by
 apply Array.toList_inj.mp
 rw [SetTable.toList_insertAt]
def ins (L:List (Nat×(Int×Value))) (j:Nat) (e:Int×Value):List (Nat×(Int×Value)):=L.take (below (L.map (·.1)).toArray j) ++ (j,e) :: L.drop (below (L.map (·.1)).toArray j)
theorem mem_ins {j:Nat}{e:Int×Value}{x:Nat×(Int×Value)}:x∈ins L j e ↔ x = (j,e)∨x∈L:=by
 unfold ins
 rw [List.mem_append,List.mem_cons]
 constructor
 ·rintro (h | h | h)
  ·exact .inr (List.mem_of_mem_take h)
  ·exact .inl h
  ·exact .inr (List.mem_of_mem_drop h)
 ·rintro (h | h)
  ·exact .inr (.inl h)
  ·have:x∈L.take (below (L.map (·.1)).toArray j) ++ L.drop (below (L.map (·.1)).toArray j):=by rw [List.take_append_drop];exact h
   rcases List.mem_append.mp this with z | z
   ·exact .inl z
   ·exact .inr (.inr z)
theorem gd (j:Nat) (e:Int×Value):(ins L j e).Perm ((j,e) :: L):=by
 unfold ins
 refine List.perm_middle.trans ?_
 rw [List.take_append_drop]
theorem Rep.put (r:Rep L es t) {h:Int}{x:Value}{K:Nat} (hK:pos t.mask h K ∉ L.map (·.1)) (hk:∀ k,k < K→pos t.mask h k∈L.map (·.1)) (hl:L.length + 1≤t.mask) :
  Rep (ins L (pos t.mask h K) (h,x)) (insertAt es (t.put (pos t.mask h K)).2 (h,x)) (t.put (pos t.mask h K)).1:=by
 have e1:(t.put (pos t.mask h K)).2 = below (L.map (·.1)).toArray (pos t.mask h K):=by unfold SetTable.put;dsimp only;rw [r.pl]
 have e2:(t.put (pos t.mask h K)).1.mask = t.mask:=rfl
 refine ⟨?_,?_,?_,?_,?_,r.mz,?_⟩
 ·rw [e1,r.es,uo]
  unfold ins
  rw [ue]
 ·unfold SetTable.put
  dsimp only
  rw [r.pl,uo]
  unfold ins
  rw [ue]
 ·unfold SetTable.put
  dsimp only
  rw [r.dm,Z0]
  simp
 ·unfold ins
  rw [ue]
  exact Zk r.up hK
 ·intro y hy
  rw [e2]
  have sub:∀ j,j∈L.map (·.1)→j∈(ins L (pos t.mask h K) (h,x)).map (·.1):=fun j hj=>by
   obtain ⟨z,hz,rfl⟩:=List.mem_map.mp hj
   exact List.mem_map.mpr ⟨z,mem_ins.mpr (.inr hz),rfl⟩
  rcases mem_ins.mp hy with rfl | hy
  ·exact ⟨K,rfl,fun k' hk'=>sub _ (hk k' hk')⟩
  ·obtain ⟨k,h1,h2⟩:=r.pa y hy
   exact ⟨k,h1,fun k' hk'=>sub _ (h2 k' hk')⟩
 ·have:=(gd (L:=L) (pos t.mask h K) (h,x)).length_eq
  rw [this]
  exact hl
end Tb
end My
namespace My
open PySem
namespace Tb
open PySem.SetTable
theorem k8 {m i:Nat} (h:i≤m):runEnd m i≤m:=by unfold runEnd;split <;> omega
theorem sw (m i:Nat):i≤runEnd m i:=by unfold runEnd;split <;> omega
theorem U9 (m:Nat):∀ (k:Nat) (p:Probe),p.j + p.more≤m→(itr m k p).j + (itr m k p).more≤m
 | 0,_,h=>h
 | k + 1,p,h=>by
  refine U9 m k (av m p) ?_
  unfold av
  split
  ·show p.j + 1 + (p.more - 1)≤m
   omega
  ·have h1:(leap m p.i p.perturb).1≤m:=by unfold leap;exact Nat.le_of_lt_succ (Nat.mod_lt _ (Nat.succ_pos m))
   have h2:=k8 h1
   have h3:=sw m (leap m p.i p.perturb).1
   show (leap m p.i p.perturb).1 + (runEnd m (leap m p.i p.perturb).1 - (leap m p.i p.perturb).1)≤m
   omega
theorem Qg (m:Nat) (h:Int) (k:Nat):pos m h k≤m:=by
 have h1:bits h % (m + 1)≤m:=Nat.le_of_lt_succ (Nat.mod_lt _ (Nat.succ_pos m))
 have h2:=k8 h1
 have h3:=sw m (bits h % (m + 1))
 have:=U9 m k (st0 m h) (by show bits h % (m + 1) + (runEnd m (bits h % (m + 1)) - bits h % (m + 1))≤m;omega)
 unfold pos
 omega
theorem oz (m:Nat):∀ (k r j i p:Nat) (d:Option Nat),k≤r→(itr m k { j:=j,more:=r,i:=i,perturb:=p,dummy:=d }).j = j + k
 | 0,_,_,_,_,_,_=>rfl
 | k + 1,r,j,i,p,d,h=>by
  show (itr m k (av m { j:=j,more:=r,i:=i,perturb:=p,dummy:=d })).j = _
  have e:av m { j:=j,more:=r,i:=i,perturb:=p,dummy:=d } = { j:=j + 1,more:=r - 1,i:=i,perturb:=p,dummy:=d }:=by
   unfold av
   rw [if_pos (by show r > 0;omega)]
  rw [e,oz m k (r - 1) (j + 1) i p d (by omega)]
  omega
theorem X4 {n:Nat}{p:Nat→Bool} (h:(List.range n).find? p = none):∀ k,k < n→p k = false:=fun k hk=>by
 have:=List.find?_eq_none.mp h k (List.mem_range.mpr hk)
 simpa using this
theorem X5 {n k:Nat}{p:Nat→Bool} (h:(List.range n).find? p = some k):k < n∧p k = true∧∀ k',k' < k→p k' = false:=by
 have h1:=List.find?_range_eq_some.mp h
 refine ⟨by simpa using h1.2.1,h1.1,fun k' hk'=>by simpa using h1.2.2 k' hk'⟩
def fr (o:Array (Option Nat)) (j:Nat):Bool:=(o.getD j (some 0)).isNone
theorem kh (m:Nat) (o:Array (Option Nat)):∀ (f:Nat) (x:Nat×Nat) (n:Nat),n < f→fr o (lp m n x).1 = true →
  ∃ k,layClean.free m o f x.1 x.2 = some (itr m k (hd m x.1 x.2)).j∧fr o (itr m k (hd m x.1 x.2)).j = true∧∀ k',k' < k→fr o (itr m k' (hd m x.1 x.2)).j = false
 | 0,_,_,h,_=>by omega
 | f + 1,x,n,hn,hfr=>by
  unfold layClean.free
  have hre:=sw m x.1
  cases hc:(List.range (runEnd m x.1 + 1 - x.1)).find? fun k=>(o.getD (x.1 + k) (some 0)).isNone with
  | some k =>
   obtain ⟨h1,h2,h3⟩:=X5 hc
   have ep:∀ k',k'≤k→(itr m k' (hd m x.1 x.2)).j = x.1 + k':=fun k' hk'=>oz m k' _ _ _ _ _ (by omega)
   refine ⟨k,?_,?_,fun k' hk'=>?_⟩
   ·dsimp only
    rw [ep k (Nat.le_refl _)]
   ·rw [ep k (Nat.le_refl _)];exact h2
   ·rw [ep k' (by omega)];exact h3 k' hk'
  | none =>
   have h1:=X4 hc
   have ep:∀ k',k'≤runEnd m x.1 - x.1→(itr m k' (hd m x.1 x.2)).j = x.1 + k':=fun k' hk'=>oz m k' _ _ _ _ _ hk'
   cases n with
   | zero =>
    exfalso
    have:=h1 0 (by omega)
    have h2:fr o x.1 = true:=hfr
    unfold fr at h2
    rw [Nat.add_zero] at this
    rw [this] at h2
    cases h2
   | succ n =>
    obtain ⟨k,e,a1,a2⟩:=kh m o f (leap m x.1 x.2) n (by omega) hfr
    have er:∀ k',itr m (runEnd m x.1 - x.1 + 1 + k') (hd m x.1 x.2) = itr m k' (hd m (leap m x.1 x.2).1 (leap m x.1 x.2).2):=fun k'=>by rw [qf,aj]
    refine ⟨runEnd m x.1 - x.1 + 1 + k,?_,?_,fun k' hk'=>?_⟩
    ·rw [er]
     exact e
    ·rw [er];exact a1
    ·by_cases z:k' < runEnd m x.1 - x.1 + 1
     ·rw [ep k' (by omega)]
      exact h1 k' (by omega)
     ·have:=a2 (k' - (runEnd m x.1 - x.1 + 1)) (by omega)
      rw [← er,show runEnd m x.1 - x.1 + 1 + (k' - (runEnd m x.1 - x.1 + 1)) = k' by omega] at this
      exact this
theorem Wu {m:Nat} (hm:Mk m) (h:Int) {e:Nat} (he:e≤m):∃ n,n < turns m∧(lp m n (bits h % (m + 1),bits h)).1 = e:=by
 have h13:lp m 13 (bits h % (m + 1),bits h) = ((lp m 13 (bits h % (m + 1),bits h)).1,0):=by
  have:(lp m 13 (bits h % (m + 1),bits h)).2 = 0:=by
   rw [ci]
   exact Nat.div_eq_of_lt (Nat.lt_trans (Zr h) (by decide))
  exact Prod.ext rfl this
 obtain ⟨k,hk,ek⟩:=Rf hm (Ri m 12 (bits h % (m + 1),bits h)) he
 refine ⟨13 + k,by unfold turns;omega,?_⟩
 rw [jk,h13,Vj]
 exact ek
def lv (m:Nat) (o:Array (Option Nat)):List (Nat×Nat):=(List.range (m + 1)).filterMap fun j=>(o.getD j none).map (j,·)
theorem f7 {α β:Type}{g g':α→Option β}:∀ {l:List α},(∀ a∈l,g' a = g a)→l.filterMap g' = l.filterMap g
 | [],_=>rfl
 | a :: l,h=>by
  rw [List.filterMap_cons,List.filterMap_cons,h a List.mem_cons_self,f7 fun b hb=>h b (List.mem_cons_of_mem _ hb)]
theorem Zy {β:Type}{g g':Nat→Option β}{j:Nat}{b:β} (hg:g j = none) (hg':g' j = some b) (hne:∀ a,a≠j→g' a = g a):∀ {l:List Nat},l.Nodup→j∈l→(l.filterMap g').Perm (b :: l.filterMap g)
 | [],_,h=>by simp at h
 | a :: l,hn,h=>by
  rw [List.nodup_cons] at hn
  rw [List.filterMap_cons,List.filterMap_cons]
  by_cases e:a = j
  ·subst e
   rw [hg,hg']
   dsimp only
   rw [f7 fun c hc=>hne c fun z=>hn.1 (z ▸ hc)]
  ·rw [hne a e]
   have hj:j∈l:=by
    rcases List.mem_cons.mp h with z | z
    ·exact absurd z.symm e
    ·exact z
   have ih:=Zy hg hg' hne hn.2 hj
   cases g a with
   | none=>exact ih
   | some c=>exact (ih.cons c).trans (.swap _ _ _)
structure Laid (m:Nat) (hs:List Int) (o:Array (Option Nat)) (Z:List (Nat×Nat)):Prop where
 sz:o.size = m + 1
 pm:(lv m o).Perm Z
 ix:Z.map (·.2) = List.range hs.length
 fr:∀ j,fr o j = true ↔ j≤m∧j ∉ Z.map (·.1)
 pa:∀ z∈Z,∀ h,hs[z.2]? = some h→∃ k,pos m h k = z.1∧∀ k',k' < k→pos m h k'∈Z.map (·.1)
theorem Laid.zero (m:Nat):Laid m [] (Array.replicate (m + 1) none) []:=by
 refine ⟨by simp,?_,rfl,fun j=>?_,fun z hz=>by simp at hz⟩
 ·unfold lv
  have:(List.range (m + 1)).filterMap (fun j=>((Array.replicate (m + 1) (none:Option Nat)).getD j none).map (j,·)) = []:=by
   rw [List.filterMap_eq_nil_iff]
   intro j hj
   have hj':j < m + 1:=List.mem_range.mp hj
   simp [Array.getD,hj']
  rw [this]
 ·unfold Tb.fr
  by_cases hj:j < m + 1
  ·simp [Array.getD,hj];omega
  ·simp [Array.getD,hj];omega
theorem Laid.step {m:Nat}{hs:List Int}{o:Array (Option Nat)}{Z:List (Nat×Nat)} (hm:Mk m) (la:Laid m hs o Z) (h:Int) (hl:hs.length + 1≤m) :
  ∃ j,layClean.free m o (turns m) (bits h % (m + 1)) (bits h) = some j∧Laid m (hs ++ [h]) (o.setIfInBounds j (some hs.length)) (Z ++ [(j,hs.length)]):=by
 have hZ:Z.length = hs.length:=by
  have:=congrArg List.length la.ix
  simpa using this
 have hex:∃ e,e≤m∧e ∉ Z.map (·.1):=by
  by_cases hc:∃ e,e≤m∧e ∉ Z.map (·.1)
  ·exact hc
  ·exfalso
   have:=dq (m + 1) (Z.map (·.1)) fun e he=>Classical.byContradiction fun hn=>hc ⟨e,by omega,hn⟩
   rw [List.length_map] at this
   omega
 obtain ⟨e,he,hen⟩:=hex
 obtain ⟨n,hn,en⟩:=Wu hm h he
 obtain ⟨k,e1,e2,e3⟩:=kh m o (turns m) (bits h % (m + 1),bits h) n hn (by rw [en];exact (la.fr e).mpr ⟨he,hen⟩)
 have hpos:(itr m k (hd m (bits h % (m + 1)) (bits h))).j = pos m h k:=rfl
 rw [hpos] at e1 e2
 obtain ⟨j1,j2⟩:=(la.fr _).mp e2
 refine ⟨pos m h k,e1,?_,?_,?_,fun j=>?_,fun z hz h' hh=>?_⟩
 ·rw [Array.size_setIfInBounds];exact la.sz
 ·have hlt:pos m h k < o.size:=by rw [la.sz];omega
  have hnone:o.getD (pos m h k) none = none:=by
   unfold Tb.fr at e2
   simp only [Array.getD,hlt,dif_pos] at e2 ⊢
   simpa using e2
  have key:(lv m (o.setIfInBounds (pos m h k) (some hs.length))).Perm ((pos m h k,hs.length) :: lv m o):=by
   unfold lv
   refine Zy (j:=pos m h k) ?_ ?_ ?_ List.nodup_range (List.mem_range.mpr (by omega))
   ·rw [hnone];rfl
   ·have:(o.setIfInBounds (pos m h k) (some hs.length)).getD (pos m h k) none = some hs.length:=by simp [Array.getD,hlt]
    rw [this];rfl
   ·intro a ha
    have:(o.setIfInBounds (pos m h k) (some hs.length)).getD a none = o.getD a none:=by
     by_cases hz:a < o.size
     ·simp [Array.getD,hz,Array.getElem_setIfInBounds,Ne.symm ha]
     ·simp [Array.getD,hz]
    rw [this]
  refine key.trans ((la.pm.cons _).trans ?_)
  exact (List.perm_append_singleton _ _).symm
 ·rw [List.map_append,la.ix,List.length_append,List.length_singleton,List.range_succ];rfl
 ·have hlt:pos m h k < o.size:=by rw [la.sz];omega
  rw [List.map_append,List.mem_append]
  by_cases ej:j = pos m h k
  ·subst ej
   have:Tb.fr (o.setIfInBounds (pos m h k) (some hs.length)) (pos m h k) = false:=by unfold Tb.fr;simp [Array.getD,hlt]
   rw [this]
   simp
  ·have:Tb.fr (o.setIfInBounds (pos m h k) (some hs.length)) j = Tb.fr o j:=by
    unfold Tb.fr
    by_cases hz:j < o.size
    ·simp [Array.getD,hz,Array.getElem_setIfInBounds,Ne.symm ej]
    ·simp [Array.getD,hz]
   rw [this,la.fr]
   simp [ej]
 ·have sub:∀ q,q∈Z.map (·.1)→q∈(Z ++ [(pos m h k,hs.length)]).map (·.1):=fun q hq=>by rw [List.map_append];exact List.mem_append_left _ hq
  rcases List.mem_append.mp hz with hz | hz
  ·have hlt:z.2 < hs.length:=by
    have:z.2∈Z.map (·.2):=List.mem_map_of_mem hz
    rw [la.ix] at this
    exact List.mem_range.mp this
   rw [List.getElem?_append_left hlt] at hh
   obtain ⟨k2,a1,a2⟩:=la.pa z hz h' hh
   exact ⟨k2,a1,fun k' hk'=>sub _ (a2 k' hk')⟩
  ·rw [List.mem_singleton] at hz
   subst hz
   have:h' = h:=by simpa using hh.symm
   subst this
   refine ⟨k,rfl,fun k' hk'=>sub _ ?_⟩
   have hb:=e3 k' hk'
   have hpos':(itr m k' (hd m (bits h' % (m + 1)) (bits h'))).j = pos m h' k':=rfl
   rw [hpos'] at hb
   have hle:pos m h' k'≤m:=Qg m h' k'
   refine Classical.byContradiction fun hn=>?_
   have:=(la.fr _).mpr ⟨hle,hn⟩
   rw [this] at hb
   cases hb
end Tb
end My
namespace My
open PySem
namespace Tb
open PySem.SetTable
def f9 (m:Nat) (acc:Option (Array (Option Nat)×Nat)) (h:Int):Option (Array (Option Nat)×Nat):=do
 let (owner,k) ← acc
 let j ← layClean.free m owner (turns m) (bits h % (m + 1)) (bits h)
 pure (owner.setIfInBounds j (some k),k + 1)
theorem gh (m:Nat) (hs:Array Int):layClean m hs = (hs.foldl (f9 m) (some (Array.replicate (m + 1) none,0))).map (·.1):=rfl
theorem kg {m:Nat} (hm:Mk m):∀ (rest done:List Int) (o:Array (Option Nat)) (Z:List (Nat×Nat)),Laid m done o Z→done.length + rest.length≤m →
  ∃ o' Z',rest.foldl (f9 m) (some (o,done.length)) = some (o',(done ++ rest).length)∧Laid m (done ++ rest) o' Z'
 | [],done,o,Z,la,_=>⟨o,Z,by simp,by rw [List.append_nil];exact la⟩
 | h :: rest,done,o,Z,la,hl=>by
  rw [List.length_cons] at hl
  obtain ⟨j,e,la'⟩:=la.step hm h (by omega)
  obtain ⟨o',Z',e',la''⟩:=kg hm rest (done ++ [h]) _ _ la' (by rw [List.length_append,List.length_singleton];omega)
  refine ⟨o',Z',?_,by rw [List.append_assoc] at la'';exact la''⟩
  rw [List.foldl_cons]
  have e2:f9 m (some (o,done.length)) h = some (o.setIfInBounds j (some done.length),(done ++ [h]).length):=by
   unfold f9
   show (layClean.free m o (turns m) (bits h % (m + 1)) (bits h)).bind _ = _
   rw [e]
   simp
  rw [e2,e',List.append_assoc]
  rfl
theorem f8 (es:Array (Int×Value)):∀ l:List (Nat×Nat),(∀ z∈l,z.2 < es.size)→(l.map (·.2)).filterMap (fun i=>es[i]?) = l.map fun z=>es.getD z.2 (0,Value.none)
 | [],_=>rfl
 | z :: l,h=>by
  have hz:=h z List.mem_cons_self
  rw [List.map_cons,List.filterMap_cons,List.map_cons,f8 es l fun y hy=>h y (List.mem_cons_of_mem _ hy)]
  have e:es[z.2]? = some (es.getD z.2 (0,Value.none)):=by simp [Array.getD,hz]
  rw [e]
theorem k5 (es:Array (Int×Value)):(List.range es.size).map (fun k=>es.getD k (0,Value.none)) = es.toList:=by
 apply List.ext_getElem
 ·simp
 ·intro i h1 h2
  have hi:i < es.size:=by simpa using h1
  simp [Array.getD,hi]
theorem Mt (m:Nat) (o:Array (Option Nat)):((lv m o).map (·.1)).Pairwise (· < ·):=by
 have e:∀ l:List Nat,((l.filterMap fun j=>(o.getD j none).map (j,·)).map (·.1)) = l.filter fun j=>(o.getD j none).isSome:=by
  intro l
  induction l with
  | nil=>rfl
  | cons a l ih =>
   rw [List.filterMap_cons,List.filter_cons]
   cases hg:o.getD a none with
   | none=>simpa using ih
   | some c=>simpa using ih
 unfold lv
 rw [e]
 exact List.Pairwise.sublist List.filter_sublist List.pairwise_lt_range
theorem Vd {m:Nat} (hm:Mk m) (es:Array (Int×Value)) (hn:es.size≤m) (fi mv:Nat) (led plain:Bool) :
  ∃ t' order,laid m fi mv led plain (es.map (·.1)) = some (t',order)∧t'.mask = m∧t'.led = led∧t'.plain = plain∧∃ L',Rep L' (order.filterMap (es[·]?)) t'∧(L'.map (·.2)).Perm es.toList:=by
 obtain ⟨o,Z,e,la⟩:=kg hm (es.map (·.1)).toList [] _ _ (Laid.zero m) (by simpa using hn)
 rw [List.nil_append] at e la
 have hlen:((es.map (·.1)).toList).length = es.size:=by simp
 have ec:layClean m (es.map (·.1)) = some o:=by
  rw [gh,← Array.foldl_toList]
  show Option.map _ (List.foldl (f9 m) (some (Array.replicate (m + 1) none,([]:List Int).length)) _) = _
  rw [e]
  rfl
 have hv:∀ z∈lv m o,z.2 < es.size:=fun z hz=>by
  have:z.2∈Z.map (·.2):=List.mem_map_of_mem (la.pm.mem_iff.mp hz)
  rw [la.ix,hlen] at this
  exact List.mem_range.mp this
 refine ⟨_,_,by
  unfold laid
  rw [ec]
  rfl,rfl,rfl,rfl,(lv m o).map (fun z=>(z.1,es.getD z.2 (0,Value.none))),⟨?_,?_,rfl,?_,?_,hm,?_⟩,?_⟩
 ·show Array.filterMap _ ((lv m o).map (·.2)).toArray = _
  apply Array.toList_inj.mp
  rw [Array.toList_filterMap]
  show List.filterMap _ ((lv m o).map (·.2)) = _
  rw [f8 es _ hv,List.map_map]
  rfl
 ·show ((lv m o).map (·.1)).toArray = _
  rw [List.map_map]
  rfl
 ·rw [List.map_map]
  exact Mt m o
 ·intro x hx
  obtain ⟨z,hz,rfl⟩:=List.mem_map.mp hx
  have hz2:=hv z hz
  have hh:((es.map (·.1)).toList)[z.2]? = some (es.getD z.2 (0,Value.none)).1:=by simp [Array.getD,hz2]
  obtain ⟨k,a1,a2⟩:=la.pa z (la.pm.mem_iff.mp hz) _ hh
  refine ⟨k,a1,fun k' hk'=>?_⟩
  rw [List.map_map]
  have:=a2 k' hk'
  exact (la.pm.map (·.1)).mem_iff.mpr this
 ·have:(lv m o).length = es.size:=by
   rw [la.pm.length_eq]
   have:=congrArg List.length la.ix
   simpa using this
  rw [List.length_map,this]
  exact hn
 ·rw [List.map_map]
  have h1:((lv m o).map fun z=>es.getD z.2 (0,Value.none)).Perm (Z.map fun z=>es.getD z.2 (0,Value.none)):=la.pm.map _
  have h2:(Z.map fun z=>es.getD z.2 (0,Value.none)) = es.toList:=by
   have:(Z.map fun z=>es.getD z.2 (0,Value.none)) = (Z.map (·.2)).map fun k=>es.getD k (0,Value.none):=by rw [List.map_map];rfl
   rw [this,la.ix,hlen,k5]
  rw [← h2]
  exact h1
def tj (L:List (Nat×(Int×Value))) (t:SetTable):Prop:=L.length * 5 < t.mask * 3
theorem dw {L:List (Nat×(Int×Value))}{es:Array (Int×Value)}{t:SetTable} (r:Rep L es t) (hb:L.length≤76) (h0:(L.length - 1) * 5 < t.mask * 3) (h1:t.mask * 3≤L.length * 5) :
  sizeAbove (grown L.length)≤4096∧∃ t' order L',t.relaid (es.map (·.1)) (grown L.length) = some (t',order)∧t'.led = t.led∧t'.plain = t.plain∧Rep L' (order.filterMap (es[·]?)) t'∧(L'.map (·.2)).Perm (L.map (·.2))∧tj L' t':=by
 have hes:es.size = L.length:=by rw [r.es];simp
 have key:∀ m',Mk m'→L.length≤m'→sizeAbove (grown L.length) - 1 = m'→L.length * 5 < m' * 3→∃ t' order L',t.relaid (es.map (·.1)) (grown L.length) = some (t',order)∧t'.led = t.led∧t'.plain = t.plain∧Rep L' (order.filterMap (es[·]?)) t'∧(L'.map (·.2)).Perm (L.map (·.2))∧tj L' t':=by
  intro m' hm' hl hs hr
  obtain ⟨t',order,e1,e2,e3,e4,L',rp,pm⟩:=Vd hm' es (by omega) t.finger (t.movedTo m') t.led t.plain
  have el:es.toList = L.map (·.2):=by rw [r.es]
  refine ⟨t',order,L',?_,e3,e4,rp,by rw [← el];exact pm,?_⟩
  ·unfold SetTable.relaid
   rw [hs]
   exact e1
  ·unfold tj
   have h5:L'.length = L.length:=by
    have:=pm.length_eq
    rw [el] at this
    simpa using this
   rw [h5,e2]
   exact hr
 rcases r.mz with e | e | e
 ·rw [e] at h0 h1
  have hL:L.length = 5:=by omega
  rw [hL] at key ⊢
  exact ⟨by decide,key 31 (.inr (.inl rfl)) (by decide) (by decide) (by decide)⟩
 ·rw [e] at h0 h1
  have hL:L.length = 19:=by omega
  rw [hL] at key ⊢
  exact ⟨by decide,key 127 (.inr (.inr rfl)) (by decide) (by decide) (by decide)⟩
 ·rw [e] at h0 h1
  omega
end Tb
end My
namespace My
open PySem PySem.Spec PySem.W
section
variable {prog:Program}{w:World}{A:Around}{E:Value→Shared→Prop}{s:Shared}
def Ya:Bool→Value→Bool
 | b,.bool c=>c == b
 | _,_=>false
theorem xu {b:Bool}{v:Value} (h:Ya b v = true):v = .bool b:=by
 cases v <;> simp_all [Ya]
theorem Se {b:Bool}{Q:Int→Shared→Prop} (h:Q (if b = true then 1 else 0) { s with toks:=s.toks + 1 }):wpAny (model prog w) A (pyHash (.bool b)) Q E s:=by
 show wpAny _ _ (pyHashByItsType (.bool b)) _ _ _
 refine pyHash_slot (T:="bool") rfl F.slot_bool_hash entry_int_hash (args_int_hash _) (beq_builtin_none _) (.inl rfl) ?_
 cases b
 ·exact (show wpAny _ _ (do ret (← mkInt 0)) _ _ s from wpAny_bind (wpAny_mkInt (wpAny_pure ⟨_,_,rfl,h⟩)))
 ·exact (show wpAny _ _ (do ret (← mkInt 1)) _ _ s from wpAny_bind (wpAny_mkInt (wpAny_pure ⟨_,_,rfl,h⟩)))
def m4 (prog:Program) (w:World):PySem.KeyKind prog w Bool where
 is:=Ya
 hash:=fun b=>if b = true then 1 else 0
 inj:=fun v a b h1 h2=>by
  have e1:=xu h1
  have e2:=xu h2
  rw [e1] at e2
  exact Value.bool.inj e2
 byValue:=fun k v h=>by rw [xu h];rfl
 pyHash:=fun hv h=>by rw [xu hv];exact Se h
 eqBool:=fun {A E s a b u v Q} hu hv h=>by
  rw [xu hu,xu hv]
  refine SeqAt.EqAt.bool_bool a b _ _ _ _ ?_
  have e:(a == b) = decide (a = b):=by cases a <;> cases b <;> rfl
  rw [e];exact h
 «strs»:=fun k x t v h=>by simp [Ya] at h
abbrev Bt (prog:Program) (w:World) (h:Heap) (k:List Bool) (a:Addr):Prop:=IsTupleKey (m4 prog w) h k a
abbrev Bh (prog:Program) (w:World) (k:List Bool):Int:=tupleKeyHash (m4 prog w) k
theorem fo {h:Heap}{k:List Bool}{vs:List Value} (x:ItemsAre (m4 prog w) k vs):∀ v∈vs,∃ b,v = .bool b:=by
 induction x with
 | nil=>intro v hv;simp at hv
 | cons h1 _ ih =>
  intro v hv
  rcases List.mem_cons.mp hv with rfl | hv
  ·exact ⟨_,xu h1⟩
  ·exact ih v hv
theorem bn {k:List Bool}{a:Addr}{Q:Bool→Shared→Prop} (hk:Bt prog w s.heap k a) (h:Q true s):wpAny (model prog w) A (hashByValue 8 (.ref a)) Q E s:=by
 have hT:=hk.typeIs
 obtain ⟨o,items,n,ho,hc,hd,hi⟩:=hk
 unfold hashByValue
 refine wpAny_bind (wpAny_specialOf hT F.slot_tuple_hash.lookup ?_)
 show wpAny _ _ (seqItems? (.ref a) >>= _) _ _ s
 refine wpAny_bind (wpAny_seqItems ho hd ?_)
 refine wpAny_bind ?_
 show wpAny _ _ (forIn items _ _) _ _ s
 rw [← Array.forIn_toList]
 refine wpAny_forIn_list _ (fun rest r s'=>r.1 = none∧s' = s∧∀ v∈rest,∃ b,v = .bool b) _ ?_ ?_ _ _ ⟨rfl,rfl,fo (h:=s.heap) hi⟩
 ·rintro v rest r s' ⟨hr,rfl,hall⟩
  obtain ⟨b,rfl⟩:=hall v List.mem_cons_self
  refine wpAny_bind (wpAny_pure ?_)
  simp only [Bool.not_true,Bool.false_eq_true,if_false]
  exact wpAny_pure ⟨rfl,rfl,fun u hu'=>hall u (List.mem_cons_of_mem _ hu')⟩
 ·rintro ⟨r1,r2⟩ s' ⟨hr,rfl,_⟩
  simp only at hr
  subst hr
  exact wpAny_pure h
theorem fm {k:List Bool}{a:Addr}{Q:Bool→Shared→Prop} (hk:Bt prog w s.heap k a) (h:Q false s):wpAny (model prog w) A (ofAClassStatement 8 (.ref a)) Q E s:=by
 have hT:=hk.typeIs
 obtain ⟨o,items,n,ho,hc,hd,hi⟩:=hk
 unfold ofAClassStatement
 refine wpAny_bind (wpAny_typeOf hT ?_)
 show wpAny _ _ (pure true >>= _) _ _ s
 refine wpAny_bind (wpAny_pure ?_)
 simp only [Bool.not_true,Bool.false_eq_true,if_false]
 refine wpAny_bind (wpAny_seqItems ho hd ?_)
 refine wpAny_bind ?_
 show wpAny _ _ (forIn items _ _) _ _ s
 rw [← Array.forIn_toList]
 refine wpAny_forIn_list _ (fun rest r s'=>r.1 = none∧s' = s∧∀ v∈rest,∃ b,v = .bool b) _ ?_ ?_ _ _ ⟨rfl,rfl,fo (h:=s.heap) hi⟩
 ·rintro v rest r s' ⟨hr,rfl,hall⟩
  obtain ⟨b,rfl⟩:=hall v List.mem_cons_self
  refine wpAny_bind (wpAny_pure ?_)
  simp only [Bool.false_eq_true,if_false]
  exact wpAny_pure ⟨rfl,rfl,fun u hu'=>hall u (List.mem_cons_of_mem _ hu')⟩
 ·rintro ⟨r1,r2⟩ s' ⟨hr,rfl,_⟩
  simp only at hr
  subst hr
  exact wpAny_pure h
theorem Xv {k:List Bool}{a:Addr}{ys:List Value}{Q:Bool→Shared→Prop} (hk:Bt prog w s.heap k a) (hy:∀ y∈ys,∃ k' b,y = .ref b∧Bt prog w s.heap k' b) (h:Q false s) :
  wpAny (model prog w) A (searchCouldBeSeen (.ref a) ys) Q E s:=by
 unfold searchCouldBeSeen
 refine wpAny_bind ?_
 refine wpAny_forIn_list _ (fun rest r s'=>r.1 = none∧s' = s∧∀ y∈rest,∃ k' b,y = .ref b∧Bt prog w s.heap k' b) _ ?_ ?_ _ _ ⟨rfl,rfl,hy⟩
 ·rintro v rest r s' ⟨hr,rfl,hall⟩
  obtain ⟨k',b,rfl,hb⟩:=hall v List.mem_cons_self
  have nx:∀ u∈rest,∃ k' b,u = .ref b∧Bt prog w s'.heap k' b:=fun u hu'=>hall u (List.mem_cons_of_mem _ hu')
  dsimp only
  split
  ·exact wpAny_pure ⟨rfl,rfl,nx⟩
  ·refine wpAny_bind (wpAny_eqIsQuiet_tuple hk ?_)
   simp only [Bool.not_true,Bool.false_eq_true,if_false]
   refine wpAny_bind (wpAny_eqIsQuiet_tuple hb ?_)
   simp only [Bool.not_true,Bool.false_eq_true,if_false]
   refine wpAny_bind (fm hk ?_)
   simp only [Bool.false_eq_true,if_false]
   refine wpAny_bind (fm hb ?_)
   simp only [Bool.false_eq_true,if_false]
   exact wpAny_pure ⟨rfl,rfl,nx⟩
 ·rintro ⟨r1,r2⟩ s' ⟨hr,rfl,_⟩
  simp only at hr
  subst hr
  exact wpAny_pure h
end
end My
namespace My
open PySem PySem.Spec PySem.W
open Tb
section
variable {prog:Program}{w:World}{A:Around}{E:Value→Shared→Prop}{s:Shared}
def Elem (prog:Program) (w:World) (h:Heap) (e:Int×Value) (k:List Bool):Prop:=∃ b,e.2 = .ref b∧Bt prog w h k b∧e.1 = Bh prog w k
theorem Elem.inj {h:Heap}{e:Int×Value}{k k':List Bool} (x:Elem prog w h e k) (y:Elem prog w h e k'):k = k':=by
 obtain ⟨b,e1,h1,_⟩:=x
 obtain ⟨b',e2,h2,_⟩:=y
 rw [e1] at e2
 cases e2
 exact h1.inj h2
structure Good (prog:Program) (w:World) (h:Heap) (Es:List (Int×Value)) (D:List (List Bool)):Prop where
 in1:∀ e∈Es,∃ k,k∈D∧Elem prog w h e k
 in2:∀ k∈D,∃ e∈Es,Elem prog w h e k
 one:Es.Pairwise fun e e'=>∀ k,Elem prog w h e k→¬ Elem prog w h e' k
theorem Good.perm {h:Heap}{Es Es':List (Int×Value)}{D:List (List Bool)} (g:Good prog w h Es D) (p:Es'.Perm Es):Good prog w h Es' D :=
 ⟨fun e he=>g.in1 e (p.mem_iff.mp he),fun k hk=>let ⟨e,he,x⟩:=g.in2 k hk;⟨e,p.mem_iff.mpr he,x⟩,(p.pairwise_iff (fun {x y} hxy k h1 h2=>hxy k h2 h1)).mpr g.one⟩
theorem Bt.mono {h h':Heap}{k:List Bool}{a:Addr} (x:Bt prog w h k a) (hk:∀ o,h.get? a = some o→h'.get? a = some o):Bt prog w h' k a:=by
 obtain ⟨o,items,n,ho,r⟩:=x
 exact ⟨o,items,n,hk o ho,r⟩
theorem Good.mono {h h':Heap}{Es:List (Int×Value)}{D:List (List Bool)} (g:Good prog w h Es D) (hk:∀ a o,o.cls = .type "tuple"→h.get? a = some o→h'.get? a = some o):Good prog w h' Es D:=by
 have up:∀ e k,Elem prog w h e k→Elem prog w h' e k:=fun e k ⟨b,e1,⟨o,items,n,ho,hc,r⟩,h2⟩=>⟨b,e1,⟨o,items,n,hk b o hc ho,hc,r⟩,h2⟩
 refine ⟨fun e he=>let ⟨k,h1,h2⟩:=g.in1 e he;⟨k,h1,up e k h2⟩,fun k hk'=>let ⟨e,h1,h2⟩:=g.in2 k hk';⟨e,h1,up e k h2⟩,?_⟩
 refine (List.pairwise_iff_getElem.mpr fun i j hi hj hij=>?_)
 intro k h1 h2
 obtain ⟨k1,_,x1⟩:=g.in1 _ (List.getElem_mem hi)
 obtain ⟨k2,_,x2⟩:=g.in1 _ (List.getElem_mem hj)
 have e1:=(up _ _ x1).inj h1
 have e2:=(up _ _ x2).inj h2
 subst e1
 subst e2
 exact List.pairwise_iff_getElem.mp g.one i j hi hj hij _ x1 x2
abbrev y6 (es:Array (Int×Value)) (ep:Nat) (t:SetTable):Obj:={ cls:=.type "set",dict:=none,data:=.set es ep t,slots:=#[] }
theorem lf (hu:A.units < cLine) {S:Addr}{ep:Nat}{es:Array (Int×Value)}{t:SetTable}{L:List (Nat×(Int×Value))}{D:List (List Bool)} (r:Rep L es t) (hS:s.heap.get? S = some (y6 es ep t)) (g:Good prog w s.heap (L.map (·.2)) D)
  {x:Addr}{kx:List Bool} (hx:Bt prog w s.heap kx x) {K:Nat} (hK:pos t.mask (Bh prog w kx) K ∉ L.map (·.1)) (hKk:∀ k,k < K→pos t.mask (Bh prog w kx) k∈L.map (·.1)) (Kb:K≤10 * (t.mask + 13)) {Q:SetFound→Shared→Prop}
  (q1:(∃ e∈L.map (·.2),Elem prog w s.heap e kx)→Q (.there none) s) (q2:(∀ e∈L.map (·.2),¬ Elem prog w s.heap e kx)→Q (.free (pos t.mask (Bh prog w kx) K) false) s) :
  ∀ (f m:Nat) (stand:Option SetTable.Probe),m≤K→K - m < f→(∀ y∈L,∀ k,k < m→pos t.mask (Bh prog w kx) k = y.1→¬ Elem prog w s.heap y.2 kx)→stand.getD (t.probeStart (Bh prog w kx)) = itr t.mask m (st0 t.mask (Bh prog w kx)) →
   wpAny (model prog w) A (setSearchFrom S (.ref x) (Bh prog w kx) true f stand) Q E s
 | 0,m,stand,_,hf,_,_=>by omega
 | f + 1,m,stand,hm,hf,hno,est=>by
  unfold setSearchFrom
  refine wpAny_bind (wpAny_setState_of hS rfl r.fits ?_)
  dsimp only
  rw [r.odd]
  simp only [Bool.false_eq_true,if_false]
  rw [est]
  have hprobe:t.probe (fun i=>(es[i]?.map (·.1)).getD 0) (Bh prog w kx) (itr t.mask m (st0 t.mask (Bh prog w kx))) = SetTable.probe.go t (fun i=>(es[i]?.map (·.1)).getD 0) (Bh prog w kx) (10 * SetTable.turns t.mask) (itr t.mask m (st0 t.mask (Bh prog w kx))):=rfl
  have hash_ok:∀ (i:Nat) (e:Int×Value),es[i]? = some e→(fun (i:Nat)=>(es[i]?.map (·.1)).getD 0) i = e.1:=fun i e he=>by simp [he]
  have hpg:=r.probe_go hash_ok (Bh prog w kx) hK hKk (10 * SetTable.turns t.mask) m hm (by unfold SetTable.turns;omega)
  rw [← hprobe] at hpg
  split
  case h_2 hmet =>
   exfalso
   rcases hpg with ⟨e,_⟩ | ⟨k,i,v,_,_,e,_⟩
   ·exact hmet _ e
   ·exact hmet _ e
  rename_i met hmet
  rcases hpg with ⟨e,hne⟩ | ⟨k,i,v,h1,h2,e,hsl,hes,hL,hne⟩
  ·have em:=Option.some.inj (hmet.symm.trans e)
   subst em
   dsimp only
   refine wpAny_pure (q2 fun el hel hE=>?_)
   obtain ⟨y,hy,rfl⟩:=List.mem_map.mp hel
   obtain ⟨k0,hk0,hk1⟩:=r.pa y hy
   have hh:y.2.1 = Bh prog w kx:=by obtain ⟨b,_,_,h2⟩:=hE;exact h2
   rw [hh] at hk0 hk1
   have hlt:k0 < K:=by
    refine Classical.byContradiction fun hn=>?_
    by_cases e0:k0 = K
    ·subst e0
     exact hK (by rw [hk0];exact List.mem_map_of_mem hy)
    ·exact hK (hk1 K (by omega))
   by_cases hlm:k0 < m
   ·exact hno y hy k0 hlm hk0 hE
   ·exact hne k0 y.2 (by omega) hlt (by rw [hk0];exact hy) hh
  ·have em:=Option.some.inj (hmet.symm.trans e)
   subst em
   dsimp only
   obtain ⟨kb,_,hE⟩:=g.in1 (Bh prog w kx,v) (List.mem_map.mpr ⟨_,hL,rfl⟩)
   obtain ⟨b,eb,hb,hbh⟩:=id hE
   dsimp only at eb hbh
   subst eb
   have rest:wpAny (model prog w) A (do
     let some (_,y):=es[i]? | unsupported "internal:set-entry"
     let equal ← holding [y] (eqBool y (.ref x))
     let (es',_,t') ← setState S
     if true && equal then return SetFound.there none
     let some sam:=t'.sameMemory t.moves t.mask | unsupported "set.changed-during-lookup:is-the-new-block-at-the-old-address"
     let still ← match (if sam then t'.slot (pos t.mask (Bh prog w kx) k) else .empty) with
      | .live i'=>match es'[i']? with
       | some (_,y')=>do pure (if ← isSame y' y then some i' else none)
       | none=>pure none
      | _=>pure none
     match still with
     | none=>rule "set.search.anew";setSearchFrom S (.ref x) (Bh prog w kx) true f none
     | some i'=>if equal then return SetFound.there (some i') else setSearchFrom S (.ref x) (Bh prog w kx) true f (some (itr t.mask (k + 1) (st0 t.mask (Bh prog w kx))))) Q E s:=by
    rw [hes]
    dsimp only
    refine wpAny_bind (wpAny_holding (wpAny_eqBool_tuple hu hb hx ?_))
    refine wpAny_bind (wpAny_setState_of hS rfl r.fits ?_)
    dsimp only
    by_cases hk:kb = kx
    ·rw [decide_eq_true hk]
     simp only [Bool.and_self,if_true]
     exact wpAny_pure (q1 ⟨(Bh prog w kx,.ref b),List.mem_map.mpr ⟨_,hL,rfl⟩,hk ▸ hE⟩)
    ·rw [decide_eq_false hk]
     simp only [Bool.and_false,Bool.false_eq_true,if_false]
     have hsm:t.sameMemory t.moves t.mask = some true:=by unfold SetTable.sameMemory;simp
     rw [hsm]
     dsimp only
     simp only [if_true]
     rw [hsl]
     dsimp only
     rw [hes]
     dsimp only
     refine wpAny_bind (wpAny_isSame_ref_self (wpAny_bind (wpAny_pure ?_)))
     simp only [if_true]
     refine lf hu r hS g hx hK hKk Kb q1 q2 f (k + 1) _ (by omega) (by omega) (fun y hy k' hk' ek' hEy=>?_) rfl
     have hh:y.2.1 = Bh prog w kx:=by obtain ⟨b,_,_,h2⟩:=hEy;exact h2
     by_cases z1:k' < m
     ·exact hno y hy k' z1 ek' hEy
     ·by_cases z2:k' = k
      ·subst z2
       obtain ⟨i1,e1,s1,L1,s2⟩:=r.slot_live (List.mem_map_of_mem (f:=(·.1)) hy)
       rw [← ek',hsl] at s1
       cases s1
       have hy2:y.2 = e1:=by
        obtain ⟨i2,hi2,e2⟩:=List.getElem_of_mem hy
        obtain ⟨hi1,e3⟩:=List.getElem?_eq_some_iff.mp L1
        have:i2 = i:=by
         rcases Nat.lt_trichotomy i2 i with z | z | z
         ·have:=List.pairwise_iff_getElem.mp r.up i2 i (by simpa using hi2) (by simpa using hi1) z
          simp [e2,e3] at this
         ·exact z
         ·have:=List.pairwise_iff_getElem.mp r.up i i2 (by simpa using hi1) (by simpa using hi2) z
          simp [e2,e3] at this
        subst this
        rw [e2] at e3
        rw [e3]
       rw [hes] at s2
       cases s2
       rw [hy2] at hEy
       exact hk (hE.inj hEy)
      ·exact hne k' y.2 (by omega) (by omega) (by rw [ek'];exact hy) hh
   by_cases hled:t.led = true
   ·rw [hled]
    simp only [Bool.not_true,Bool.false_eq_true,if_false]
    exact rest
   ·have hled':t.led = false:=by simpa using hled
    rw [hled']
    simp only [Bool.not_false,if_true]
    refine wpAny_bind (Xv hx (fun y hy=>?_) ?_)
    ·obtain ⟨e1,he1,rfl⟩:=List.mem_map.mp hy
     have he2:e1∈L.map (·.2):=by
      have h3:e1∈es.toList:=by
       have:=(Array.mem_filter.mp (Array.mem_toList_iff.mp he1)).1
       exact Array.mem_toList_iff.mpr this
      rw [r.es] at h3
      exact h3
     obtain ⟨k1,_,b1,eb1,hb1,_⟩:=g.in1 e1 he2
     exact ⟨k1,b1,eb1,hb1⟩
    ·simp only [Bool.false_eq_true,if_false]
     exact rest
end
end My
namespace My
open PySem PySem.Spec PySem.W
open Tb
section
variable {prog:Program}{w:World}{A:Around}{E:Value→Shared→Prop}{s:Shared}
theorem u4 {S:Addr}{es es':Array (Int×Value)}{ep:Nat}{t t':SetTable}{Q:Unit→Shared→Prop} (hS:s.heap.get? S = some (y6 es ep t)) (hz:es'.size≤sizeLine)
  (h:∀ h',h'.get? S = some (y6 es' (ep + 1) t')→Heap.SameBut S s.heap h'→Q () { s with heap:=h' }):wpAny (model prog w) A (storeSet S es' t') Q E s:=by
 refine wpAny_storeSet_of hS rfl (h _ ?_ (Heap.SameBut.update s.heap S (Obj.putSet es' t'))) hz
 have e:=Heap.get?_update_self (Obj.putSet es' t') hS (by rfl)
 exact e
theorem ia {S:Addr}{es:Array (Int×Value)}{ep:Nat}{t:SetTable}{h h':Heap} (hS:h.get? S = some (y6 es ep t)) (sb:Heap.SameBut S h h'):∀ a o,o.cls = .type "tuple"→h.get? a = some o→h'.get? a = some o:=fun a o hc ho=>by
 have hne:a≠S:=by
  rintro rfl
  rw [hS] at ho
  cases ho
  simp at hc
 exact (sb.2 a hne).trans ho
theorem Ry (hu:A.units + 1 < cLine) {S:Addr}{ep:Nat}{es:Array (Int×Value)}{t:SetTable}{L:List (Nat×(Int×Value))}{D:List (List Bool)} (r:Rep L es t) (r5:tj L t) (hb:L.length < 76) (hS:s.heap.get? S = some (y6 es ep t)) (g:Good prog w s.heap (L.map (·.2)) D)
  {x:Addr}{kx:List Bool} (hx:Bt prog w s.heap kx x) {Q:Bool→Shared→Prop}
  (q:∀ (b:Bool) (h':Heap) (tk:Nat) (L':List (Nat×(Int×Value))) (es':Array (Int×Value)) (ep':Nat) (t':SetTable),h'.get? S = some (y6 es' ep' t')→Heap.SameBut S s.heap h'→Rep L' es' t'→tj L' t'→t'.led = t.led→t'.plain = t.plain →
   Good prog w h' (L'.map (·.2)) (D ++ [kx])→L'.length≤L.length + 1→(∀ e∈L'.map (·.2),e∈L.map (·.2)∨e.2 = .ref x)→Q b { s with heap:=h',toks:=tk }):wpAny (model prog w) A (setAdd S (.ref x)) Q E s:=by
 unfold setAdd
 refine wpAny_holding (wpAny_bind (wpAny_pyHash_tuple (by omega) hx ?_))
 unfold setAddHashed setAddHashedIn
 refine wpAny_holding (wpAny_bind (wpAny_setState_of (s:={ s with toks:=s.toks + (kx.length + 1) }) hS rfl r.fits ?_))
 dsimp only
 have hbs:byScan (.ref x) es = false:=by unfold byScan;rfl
 rw [hbs]
 simp only [Bool.false_eq_true,if_false]
 have hm:t.mask≤127:=by rcases r.mz with e | e | e <;> rw [e] <;> decide
 obtain ⟨K,Kb,hK,hKk⟩:=bt r.mz (Bh prog w kx) (l:=L.map (·.1)) (by rw [List.length_map];exact r.fl)
 unfold setSearch
 refine wpAny_bind (lf (s:={ s with toks:=s.toks + (kx.length + 1) }) (by omega) r hS g hx hK hKk Kb (fun hex=>?_) (fun hno=>?_) 100000 0 none (Nat.zero_le _) (by omega) (fun y _ k hk=>absurd hk (Nat.not_lt_zero _)) rfl)
 ·dsimp only
  refine wpAny_pure (q false s.heap _ L es ep t hS (Heap.SameBut.refl S s.heap) r r5 rfl rfl ⟨fun e he=>?_,fun k hk=>?_,g.one⟩ (Nat.le_succ _) fun e he=>.inl he)
  ·obtain ⟨k,h1,h2⟩:=g.in1 e he
   exact ⟨k,List.mem_append_left _ h1,h2⟩
  ·rcases List.mem_append.mp hk with hk | hk
   ·exact g.in2 k hk
   ·rw [List.mem_singleton.mp hk]
    exact hex
 ·dsimp only
  refine wpAny_bind (wpAny_setState_of (s:={ s with toks:=s.toks + (kx.length + 1) }) hS rfl r.fits ?_)
  dsimp only
  have hesz:es.size = L.length:=by rw [r.es];simp
  have r':=r.put (x:=.ref x) hK hKk (by unfold tj at r5;omega)
  have hput:(t.put (pos t.mask (Bh prog w kx) K)).1.plain = t.plain∧(t.put (pos t.mask (Bh prog w kx) K)).1.led = t.led∧(t.put (pos t.mask (Bh prog w kx) K)).1.mask = t.mask:=⟨rfl,rfl,rfl⟩
  generalize hT:t.put (pos t.mask (Bh prog w kx) K) = T at r' hput ⊢
  obtain ⟨t1,p⟩:=T
  dsimp only at r' hput ⊢
  obtain ⟨hpl,hld,hmk⟩:=hput
  have hperm:=gd (L:=L) (pos t.mask (Bh prog w kx) K) (Bh prog w kx,Value.ref x)
  generalize hL':ins L (pos t.mask (Bh prog w kx) K) (Bh prog w kx,Value.ref x) = L1 at r' hperm
  have hlen:L1.length = L.length + 1:=by rw [hperm.length_eq];rfl
  have hsz:(SetTable.insertAt es p (Bh prog w kx,Value.ref x)).size = L1.length:=by rw [r'.es];simp
  have good:∀ h',Heap.SameBut S s.heap h'→Good prog w h' (L1.map (·.2)) (D ++ [kx]):=fun h' sb=>by
   refine Good.mono ?_ (ia hS sb)
   refine Good.perm (Es:=(Bh prog w kx,Value.ref x) :: L.map (·.2)) ⟨fun e he=>?_,fun k hk=>?_,List.pairwise_cons.mpr ⟨fun e he k h1 h2=>?_,g.one⟩⟩ (hperm.map (·.2))
   ·rcases List.mem_cons.mp he with rfl | he
    ·exact ⟨kx,List.mem_append_right _ (List.mem_singleton.mpr rfl),x,rfl,hx,rfl⟩
    ·obtain ⟨k,h1,h2⟩:=g.in1 e he
     exact ⟨k,List.mem_append_left _ h1,h2⟩
   ·rcases List.mem_append.mp hk with hk | hk
    ·obtain ⟨e,h1,h2⟩:=g.in2 k hk
     exact ⟨e,List.mem_cons_of_mem _ h1,h2⟩
    ·rw [List.mem_singleton.mp hk]
     exact ⟨_,List.mem_cons_self,x,rfl,hx,rfl⟩
   ·have:k = kx:=h1.inj ⟨x,rfl,hx,rfl⟩
    subst this
    exact hno e he h2
  have mem1:∀ e∈L1.map (·.2),e∈L.map (·.2)∨e.2 = .ref x:=fun e he=>by
   have:=(hperm.map (·.2)).mem_iff.mp he
   rcases List.mem_cons.mp this with z | z
   ·exact .inr (by rw [z])
   ·exact .inl z
  have body:wpAny (model prog w) A (do
    storeSet S (SetTable.insertAt es p (Bh prog w kx,Value.ref x)) t1
    if (!false && t1.tooFull) = true then do
     setRelay S (SetTable.grown (es.size + 1))
     pure true
    else pure true) Q E { s with toks:=s.toks + (kx.length + 1) }:=by
   refine wpAny_bind (u4 (s:={ s with toks:=s.toks + (kx.length + 1) }) hS (by rw [hsz,sizeLine_eq];omega) fun h1 hS1 sb1=>?_)
   have htf:t1.tooFull = decide (t1.mask * 3≤L1.length * 5):=by
    unfold SetTable.tooFull SetTable.fill
    rw [r'.pl,r'.dm]
    simp
   by_cases hfull:t1.mask * 3≤L1.length * 5
   ·rw [htf,decide_eq_true hfull]
    simp only [Bool.not_false,Bool.and_self,if_true]
    obtain ⟨hsa,t2,order,L2,e1,e2,e3,r2,pm,r52⟩:=dw r' (by omega) (by unfold tj at r5;rw [hmk,hlen];omega) hfull
    have hgr:SetTable.grown (es.size + 1) = SetTable.grown L1.length:=by rw [hesz,hlen]
    rw [hgr]
    unfold setRelay
    refine wpAny_bind (wpAny_bind (wpAny_setState_of (s:={ s with heap:=h1,toks:=s.toks + (kx.length + 1) }) hS1 rfl r'.fits ?_))
    dsimp only
    rw [if_neg (by rw [sizeLine_eq];omega),e1]
    have hs2:(order.filterMap ((SetTable.insertAt es p (Bh prog w kx,Value.ref x))[·]?)).size = L1.length:=by
     rw [r2.es]
     have h6:=pm.length_eq
     simpa using h6
    refine wpAny_bind (show wpAny _ _ (if ((order.filterMap ((SetTable.insertAt es p (Bh prog w kx,Value.ref x))[·]?)).size != (SetTable.insertAt es p (Bh prog w kx,Value.ref x)).size) = true then _ else pure (order.filterMap ((SetTable.insertAt es p (Bh prog w kx,Value.ref x))[·]?),t2)) _ _ _ from ?_)
    rw [if_neg (by rw [hs2,hsz];simp)]
    refine wpAny_pure ?_
    dsimp only
    refine u4 (s:={ s with heap:=h1,toks:=s.toks + (kx.length + 1) }) hS1 (by rw [hs2,sizeLine_eq];omega) fun h2 hS2 sb2=>?_
    refine wpAny_pure (q true h2 _ L2 _ _ t2 hS2 (sb1.trans sb2) r2 r52 (e2.trans hld) (e3.trans hpl) ((good h2 (sb1.trans sb2)).perm pm) ?_ fun e he=>mem1 e (pm.mem_iff.mp he))
    have h6:=pm.length_eq
    simp at h6
    omega
   ·rw [htf,decide_eq_false hfull]
    simp only [Bool.and_false,Bool.false_eq_true,if_false]
    exact wpAny_pure (q true h1 _ L1 _ _ t1 hS1 sb1 r' (by unfold tj;omega) hld hpl (good h1 sb1) (by omega) mem1)
  split
  ·refine wpAny_bind (bn (s:={ s with toks:=s.toks + (kx.length + 1) }) hx ?_)
   simp only [if_true]
   exact body
  ·refine wpAny_bind (wpAny_pure ?_)
   simp only [if_true]
   exact body
end
end My
namespace My
open PySem PySem.Spec PySem.W
open Tb
section
variable {prog:Program}{w:World}{A:Around}{E:Value→Shared→Prop}{s:Shared}
abbrev byT (w:World):Bool:=w.params.followText "set-order"
abbrev xx (w:World):Obj:=y6 #[] 0 (.fresh 0 0 (!byT w))
theorem Ty (a:Value) {Q₁:Value→Shared→Prop} (h:Q₁ (.ref s.heap.objs.size) { s with heap:=s.heap.push (xx w) }) :
  codeAny (model prog w) A (.call (.builtin "set.__new__") ⟨[.type "set",a],[]⟩) (wants Q₁ E) s:=by
 refine codeAny_of_tree (show wpAny _ A.in1 (do checkBuiltinCall "set.__new__" ⟨[.type "set",a],[]⟩;again (.builtin "set.__new__" ⟨[.type "set",a],[]⟩)) _ _ s from ?_)
 refine wpAny_bind (wpAny_of_eq (PySem.F.newCall_set_1 a) (wpAny_pure ⟨plainId_quiet PySem.F.plain_set_new _,?_⟩))
 refine codeAny_builtin PySem.F.entry_set_new (by
  rw [Around.under_plainId PySem.F.plain_set_new _]
  unfold Builtin.«set.__new__» Builtin.Frozenset.newClass
  have hsub:=sub_set_self
  obtain ⟨hp,g,d,tk,os⟩:=s
  dsimp only
  wp_walk
  refine wpAny_askSetting (wpAny_pure ?_)
  dsimp only
  simp only [newObj]
  exact wpAny_bind (wpAny_alloc (wpAny_pure (wpAny_pure h))))
theorem W1 {I S:Addr}{fp wr:List Addr}{n:Nat}{P:Nat→Value→Prop}{St:Nat→Heap→Prop} (W:Walks prog w A.in1 I fp wr n P St) (hSf:S ∉ fp) (J:Nat→Heap→Prop) (hJ:∀ i h h',J i h→(∀ b o,b ∉ wr→h.get? b = some o→h'.get? b = some o)→J i h')
  (add:∀ i v (s':Shared) (Q:Bool→Shared→Prop) (E':Value→Shared→Prop),i < n→P i v→J i s'.heap→(∀ b h' tk,Heap.SameBut S s'.heap h'→J (i + 1) h'→Q b { s' with heap:=h',toks:=tk })→wpAny (model prog w) A.in1 (setAdd S v) Q E' s')
  {R:Result→Shared→Prop} (h₀:Heap) (hR:∀ (s':Shared) h' tk,J n h'→(∀ b o,b≠S→b ∉ wr→h₀.get? b = some o→h'.get? b = some o)→s' = { s with heap:=h',toks:=tk }→R (.ok (.ret .none)) s') :
  ∀ (k i:Nat) (h:Heap) (tk:Nat),n - i = k→i≤n→St i h→J i h→(∀ b o,b≠S→b ∉ wr→h₀.get? b = some o→h.get? b = some o)→codeAny (model prog w) A (.builtin "set.update.loop" ⟨[.ref S,.ref I],[]⟩) R { s with heap:=h,toks:=tk }:=by
 intro k
 induction k with
 | zero =>
  intro i h tk hk hi st j keep
  have e:i = n:=by omega
  subst e
  refine codeAny_builtin PyProof.Rows.F.entry_set_update_loop ?_
  rw [Around.under_plainId PyProof.Rows.F.plain_set_update_loop _]
  refine (show wpAny _ A.in1 (pyNext (.ref I) >>= _) _ _ _ from wpAny_bind (W.done { s with heap:=h,toks:=tk } _ _ st fun h' tk' hk'=>?_))
  exact (show wpAny _ A.in1 (ret Value.none) _ _ _ from wpAny_pure (hR _ h' tk' (hJ _ _ _ j hk') (fun b o h1 h2 h3=>hk' b o h2 (keep b o h1 h2 h3)) rfl))
 | succ k ih =>
  intro i h tk hk hi st j keep
  have hlt:i < n:=by omega
  refine codeAny_builtin PyProof.Rows.F.entry_set_update_loop ?_
  rw [Around.under_plainId PyProof.Rows.F.plain_set_update_loop _]
  refine (show wpAny _ A.in1 (pyNext (.ref I) >>= _) _ _ _ from wpAny_bind (W.item i { s with heap:=h,toks:=tk } _ _ hlt st fun v h' tk' hP st' hk'=>?_))
  refine (show wpAny _ A.in1 (holding [v] (setAdd S v) >>= _) _ _ _ from wpAny_bind (wpAny_holding (add i v { s with heap:=h',toks:=tk' } _ _ hlt hP (hJ _ _ _ j hk') fun b h'' tk'' sb j'=>?_)))
  refine wpAny_pure ⟨plainId_quiet PyProof.Rows.F.plain_set_update_loop _,ih (i + 1) h'' tk'' (by omega) hlt ?_ j' fun b o h1 h2 h3=>?_⟩
  ·exact W.frame _ _ _ st' fun b hb o e=>(sb.2 b fun z=>hSf (z ▸ hb)).trans e
  ·exact (sb.2 b h1).trans (hk' b o h2 (keep b o h1 h2 h3))
set_option maxHeartbeats 3200000 in
theorem pe {T:String}{l:Addr}{items:Array Value}{Q:Value→Shared→Prop} (n1:isSubtype (.type T) (.type "set") = pure false) (n2:isSubtype (.type T) (.type "frozenset") = pure false) (n3:(Value.type T == Value.type "dict") = false) (hh:A.handled = none) (ol:Obj) (hol:s.heap.get? l = some ol) (hcl:ol.cls = .type T)
  (hit:∀ (A':Around) (s':Shared) (E':Value→Shared→Prop) (Q':Value→Shared→Prop),A'.handled = none→s'.heap.get? l = some ol→(∀ (oI:Obj) (St:Nat→Heap→Prop),(∀ A'':Around,A''.handled = none→Walks prog w A'' s'.heap.objs.size [s'.heap.objs.size,l] [s'.heap.objs.size] items.size (fun i v=>items[i]? = some v) St)→St 0 (s'.heap.push oI)→Q' (.ref s'.heap.objs.size) { s' with heap:=s'.heap.push oI })→wpAny (model prog w) A' (pyIter (.ref l)) Q' E' s') (J:Nat→Heap→Prop) (hJ:∀ i h h',J i h→(∀ b o,b≠s.heap.objs.size + 1→h.get? b = some o→h'.get? b = some o)→J i h')
  (j0:J 0 (s.heap.push (xx w)))
  (add:∀ i v (A':Around) (s':Shared) (Q:Bool→Shared→Prop) (E':Value→Shared→Prop),A'.units≤A.units + 8→items[i]? = some v→J i s'.heap→(∀ b h' tk,Heap.SameBut s.heap.objs.size s'.heap h'→J (i + 1) h'→Q b { s' with heap:=h',toks:=tk })→wpAny (model prog w) A' (setAdd s.heap.objs.size v) Q E' s')
  (h:∀ (h':Heap) (tk:Nat),J items.size h'→(∀ b o,s.heap.get? b = some o→h'.get? b = some o)→Q (.ref s.heap.objs.size) { s with heap:=h',toks:=tk }) :
  wpAny (model prog w) A (call (.type "set") [.ref l]) Q E s:=by
 obtain ⟨c,tl,hmro⟩:=PySem.F.called_set.mro
 have hmade:=PySem.F.called_set.made
 have hsub:=PySem.F.called_set.sub
 refine wpAny_call (codeAny_of_tree (show wpAny _ _ (callAny (.type "set") _) _ _ _ from wpAny_pure ⟨Code.quiet_builtin _ (by decide +kernel),codeAny_builtin PySem.F.entry_type_call ?_⟩))
 rw [Around.under_plain (weight_type_call_type "set" [.ref l] []) rfl]
 have t1:=PySem.F.called_set.notType
 have t2:=PySem.F.called_set.canCreate
 have t3:=PySem.F.typeCall_set_1 (.ref l)
 repeat any_goals first | assumption | wp_step
 refine codeAny_mono (Ty (.ref l) (E:=E) (Q₁:=fun obj s₁=>obj = .ref s.heap.objs.size∧s₁ = { s with heap:=s.heap.push (xx w) }) ⟨rfl,rfl⟩) fun r s₁ hr=>?_
 cases r with
 | error e=>exact hr
 | ok fl =>
  cases fl with
  | ret obj =>
   obtain ⟨rfl,rfl⟩:=hr
   have hS:(s.heap.push (xx w)).get? s.heap.objs.size = some (xx w):=Heap.get?_push_size _ rfl
   have hT:Shared.TypeIs { s with heap:=s.heap.push (xx w) } (.ref s.heap.objs.size) "set":=⟨_,hS,rfl⟩
   have i1:=PySem.F.called_set.init.lookup
   have i2:=PySem.F.called_set.init.bind (.ref s.heap.objs.size)
   repeat any_goals first | assumption | wp_step
   refine codeAny_mono (codeAny_call_builtin (R:=wants (fun r s₂=>r = .none∧∃ h' tk,s₂ = { s with heap:=h',toks:=tk }∧J items.size h'∧∀ b o,s.heap.get? b = some o→h'.get? b = some o) E) PySem.F.called_set.init.plain PySem.F.entry_set_init (check_set_init_1 hT ?_)) fun r₂ s₂ hr₂=>?_
   ·obtain ⟨ocls,odict,odata,oslots⟩:=ol
    simp only at hcl
    subst hcl
    have hol':(s.heap.push (xx w)).get? l = some { cls:=.type T,dict:=odict,data:=odata,slots:=oslots }:=Heap.get?_push_of_some _ hol
    unfold Builtin.«set.__init__» noKeywords Builtin.Frozenset.updateFrom
    generalize hPI:pyIter = PI
    wp_walk
    subst hPI
    refine hit _ _ _ _ (by simp [hh]) hol' fun oI St W st=>(wpAny_bind (wpAny_runValue ?_))
    have lS:l < s.heap.objs.size:=Heap.lt_size hol
    have esz:(s.heap.push (xx w)).objs.size = s.heap.objs.size + 1:=Heap.size_push _ _
    have hSf:s.heap.objs.size ∉ [(s.heap.push (xx w)).objs.size,l]:=by
     rw [esz]
     simp only [List.mem_cons,List.not_mem_nil,or_false,not_or]
     exact ⟨Nat.ne_of_lt (Nat.lt_succ_self _),Nat.ne_of_gt lS⟩
    refine W1 (s:=s) (W _ (by simp [hh])) hSf J (fun i h h' j k=>hJ i h h' j fun b o hb e=>k b o (by rw [esz];simpa using hb) e)
     (fun i v s' Q' E' hi hv j q=>add i v _ s' Q' E' (by simp only [Around.in1_units];omega) hv j q) s.heap ?_ (items.size - 0) 0 _ s.toks (by omega) (Nat.zero_le _) st (hJ 0 _ _ j0 fun b o _ e=>Heap.get?_push_of_some _ e) fun b o _ _ e=>Heap.get?_push_of_some _ (Heap.get?_push_of_some _ e)
    rintro s' h' tk j keep rfl
    refine (show wpAny _ _ _ _ _ _ from wpAny_pure (show wpAny _ _ (ret Value.none) _ _ _ from wpAny_pure ⟨rfl,h',tk,rfl,j,fun b o e=>keep b o (Nat.ne_of_lt (Heap.lt_size e)) ?_ e⟩))
    rw [esz]
    have:=Heap.lt_size e
    simp only [List.mem_singleton]
    exact Nat.ne_of_lt (Nat.lt_succ_of_lt this)
   ·cases r₂ with
    | error e=>exact hr₂
    | ok fl₂ =>
     cases fl₂ with
     | ret r =>
      obtain ⟨rfl,h',tk,rfl,j,hk'⟩:=hr₂
      repeat any_goals first | assumption | wp_step
      exact h _ _ j hk'
     | _=>exact hr₂.elim
  | _=>exact hr.elim
theorem rj {l:Addr}{items:Array Value}{Q:Value→Shared→Prop} (hh:A.handled = none) (hl:s.heap.IsList l items) (J:Nat→Heap→Prop) (hJ:∀ i h h',J i h→(∀ b o,b≠s.heap.objs.size + 1→h.get? b = some o→h'.get? b = some o)→J i h')
  (j0:J 0 (s.heap.push (xx w)))
  (add:∀ i v (A':Around) (s':Shared) (Q:Bool→Shared→Prop) (E':Value→Shared→Prop),A'.units≤A.units + 8→items[i]? = some v→J i s'.heap→(∀ b h' tk,Heap.SameBut s.heap.objs.size s'.heap h'→J (i + 1) h'→Q b { s' with heap:=h',toks:=tk })→wpAny (model prog w) A' (setAdd s.heap.objs.size v) Q E' s')
  (h:∀ (h':Heap) (tk:Nat),J items.size h'→(∀ b o,s.heap.get? b = some o→h'.get? b = some o)→Q (.ref s.heap.objs.size) { s with heap:=h',toks:=tk }) :
  wpAny (model prog w) A (call (.type "set") [.ref l]) Q E s:=by
 obtain ⟨ol,hol,hcl,nl,hdl⟩:=hl
 refine pe (T:="list") PySem.F.sub_list_set PySem.F.sub_list_frozenset (by decide) hh ol hol hcl (fun A' s' E' Q' hA' hol' k=>?_) J hJ j0 add h
 have hl1:s'.heap.IsList l items:=⟨ol,hol',hcl,nl,hdl⟩
 exact wpAny_pyIter_list hl1 (k _ _ (fun A'' hA''=>Walks.list hA'' _ l (Nat.ne_of_lt (Heap.lt_size hol')) items) ⟨⟨_,Heap.get?_push_size _ rfl,rfl,rfl⟩,hl1.push _⟩)
theorem mm:isSubtype (.type "tuple") (.type "set") = pure false:=by rw [isSubtype_type];kernel_rfl
theorem ml:isSubtype (.type "tuple") (.type "frozenset") = pure false:=by rw [isSubtype_type];kernel_rfl
theorem jx {l:Addr}{items:Array Value}{Q:Value→Shared→Prop} (hh:A.handled = none) (hl:s.heap.IsTuple l items) (J:Nat→Heap→Prop) (hJ:∀ i h h',J i h→(∀ b o,b≠s.heap.objs.size + 1→h.get? b = some o→h'.get? b = some o)→J i h')
  (j0:J 0 (s.heap.push (xx w)))
  (add:∀ i v (A':Around) (s':Shared) (Q:Bool→Shared→Prop) (E':Value→Shared→Prop),A'.units≤A.units + 8→items[i]? = some v→J i s'.heap→(∀ b h' tk,Heap.SameBut s.heap.objs.size s'.heap h'→J (i + 1) h'→Q b { s' with heap:=h',toks:=tk })→wpAny (model prog w) A' (setAdd s.heap.objs.size v) Q E' s')
  (h:∀ (h':Heap) (tk:Nat),J items.size h'→(∀ b o,s.heap.get? b = some o→h'.get? b = some o)→Q (.ref s.heap.objs.size) { s with heap:=h',toks:=tk }) :
  wpAny (model prog w) A (call (.type "set") [.ref l]) Q E s:=by
 obtain ⟨ol,hol,hcl,nl,hdl⟩:=hl
 refine pe (T:="tuple") mm ml (by decide) hh ol hol hcl (fun A' s' E' Q' hA' hol' k=>?_) J hJ j0 add h
 have hl1:s'.heap.IsTuple l items:=⟨ol,hol',hcl,nl,hdl⟩
 exact wpAny_pyIter_tuple hl1 (k _ _ (fun A'' hA''=>Walks.tuple hA'' _ l (Nat.ne_of_lt (Heap.lt_size hol')) items) ⟨⟨_,Heap.get?_push_size _ rfl,rfl,rfl⟩,hl1.push _⟩)
theorem Q2 {l:Addr}{items:Array Value}{Q:Value→Shared→Prop} (hh:A.handled = none) (hl:s.heap.IsList l items∨s.heap.IsTuple l items) (J:Nat→Heap→Prop) (hJ:∀ i h h',J i h→(∀ b o,b≠s.heap.objs.size + 1→h.get? b = some o→h'.get? b = some o)→J i h')
  (j0:J 0 (s.heap.push (xx w)))
  (add:∀ i v (A':Around) (s':Shared) (Q:Bool→Shared→Prop) (E':Value→Shared→Prop),A'.units≤A.units + 8→items[i]? = some v→J i s'.heap→(∀ b h' tk,Heap.SameBut s.heap.objs.size s'.heap h'→J (i + 1) h'→Q b { s' with heap:=h',toks:=tk })→wpAny (model prog w) A' (setAdd s.heap.objs.size v) Q E' s')
  (h:∀ (h':Heap) (tk:Nat),J items.size h'→(∀ b o,s.heap.get? b = some o→h'.get? b = some o)→Q (.ref s.heap.objs.size) { s with heap:=h',toks:=tk }) :
  wpAny (model prog w) A (call (.type "set") [.ref l]) Q E s:=by
 rcases hl with hl | hl
 ·exact rj hh hl J hJ j0 add h
 ·exact jx hh hl J hJ j0 add h
end
end My
namespace My
open PySem PySem.Spec PySem.W
open Tb
theorem si_next:Slot "set_iterator" "__next__" "set_iterator.__next__" :=
 Slot.of (n:="__next__") (owner:="set_iterator") (by rw [typeLookup_type,builtinLookup_eq_fast];kernel_rfl)
  (by decide +kernel) (by decide +kernel) (by decide +kernel) (by first | exact Or.inl (by decide +kernel) | exact Or.inr (by decide +kernel)) (by rw [isSubtype_type];kernel_rfl)
theorem ie:entryFor table "set_iterator.__next__" = some Builtin.«set_iterator.__next__»:=entryFor_of_tree (by kernel_rfl)
theorem ig:Manifest.owners.lookup (String.ofList "rotareti_tes".toList.reverse) = some Manifest.sig_set_iterator:=by kernel_rfl
theorem am (a:Value):argsOk "set_iterator.__next__" ⟨[a],[]⟩:=by
 unfold argsOk
 rw [signature?_of (id:="set_iterator.__next__") (n:="__txen__".toList) (o:="rotareti_tes".toList) (by kernel_rfl) ig]
 kernel_rfl
theorem o9:entryFor table "set.__iter__" = some Builtin.«frozenset.__iter__»:=entryFor_alias (id':="frozenset.__iter__") (by kernel_rfl) rfl (by decide +kernel) (by kernel_rfl)
section
variable {prog:Program}{w:World}{A:Around}{E:Value→Shared→Prop}{s:Shared}
abbrev xa (first:Value) (i:Nat) (S:Addr) (n ep:Nat):Obj:={ cls:=.type "set_iterator",dict:=none,data:=.fields #[first,.int i 0,.ref S,.int n 0,.int ep 0],slots:=#[] }
theorem Yr {S:Addr}{es:Array (Int×Value)}{ep:Nat}{t:SetTable}{slot given:Nat}{Q:Option (Value×Nat)→Shared→Prop} (hS:s.heap.get? S = some (y6 es ep t)) (hf:t.fits es.size = true) (hb:byT w = true)
  (h:Q (((pickOrder (w.params.setOrder S ep) es)[given]?).map fun e=>(e.2,slot)) s):wpAny (model prog w) A (setNext S slot given ep) Q E s:=by
 unfold setNext
 refine wpAny_bind (wpAny_setState_of hS rfl hf ?_)
 unfold setsByText
 refine wpAny_bind (wpAny_bind (wpAny_askSetting (wpAny_pure ?_)))
 show wpAny _ _ (if byT w = true then _ else _) _ _ _
 rw [if_pos hb]
 dsimp only
 rw [if_neg (by simp)]
 unfold setWalk setsByText
 refine wpAny_bind (wpAny_bind (wpAny_setState_of hS rfl hf ?_))
 refine wpAny_bind (wpAny_bind (wpAny_askSetting (wpAny_pure ?_)))
 show wpAny _ _ (if byT w = true then _ else _) _ _ _
 rw [if_pos hb]
 refine wpAny_bind (wpAny_askSetting (wpAny_pure (wpAny_pure h)))
theorem c5 {S:Addr}{es:Array (Int×Value)}{ep:Nat}{t:SetTable}{slot given:Nat}{Q:Option (Value×Nat)→Shared→Prop} (hS:s.heap.get? S = some (y6 es ep t)) (hf:t.fits es.size = true) (hb:byT w = false) (hd:(!t.plain && decide (es.size > 1)) = false) (hl:t.led = true)
  (h:Q (match es[SetTable.below t.place slot]?,t.place[SetTable.below t.place slot]? with | some (_,x),some j=>some (x,j + 1) | _,_=>none) s):wpAny (model prog w) A (setNext S slot given ep) Q E s:=by
 unfold setNext
 refine wpAny_bind (wpAny_setState_of hS rfl hf ?_)
 unfold setsByText
 refine wpAny_bind (wpAny_bind (wpAny_askSetting (wpAny_pure ?_)))
 show wpAny _ _ (if byT w = true then _ else _) _ _ _
 rw [if_neg (by rw [hb];exact Bool.false_ne_true)]
 show wpAny _ _ (if (!t.plain && decide (es.size > 1)) = true then _ else _) _ _ _
 rw [hd,if_neg Bool.false_ne_true]
 refine wpAny_bind (show wpAny _ _ (if (!t.led && !es.isEmpty) = true then _ else pure ()) _ _ _ from ?_)
 rw [hl,if_neg (by simp)]
 refine wpAny_pure (wpAny_pure h)
theorem cz {S:Addr}{es:Array (Int×Value)}{ep:Nat}{t:SetTable}{place:Nat}{x:Int×Value}{Q:Value→Shared→Prop} (hS:s.heap.get? S = some (y6 es ep t)) (hf:t.fits es.size = true) (hx:es[place]? = some x) (h:Q x.2 s) :
  wpAny (model prog w) A (setNextDrawn S place ep) Q E s:=by
 unfold setNextDrawn
 refine wpAny_bind (wpAny_setState_of hS rfl hf ?_)
 dsimp only
 rw [if_neg (by simp),hx]
 exact wpAny_pure h
theorem ay {I:Addr}{h1:Heap}{Q:Option Value→Shared→Prop} (hh:A.handled = none) (hQ:∀ h',(∀ b o,h1.get? b = some o→h'.get? b = some o)→Q none { s with heap:=h' }) {Q':PySem.Fin→Shared→Prop} :
  wpAny (model prog w) A.in1 (do raiseNew (← newExc (.type "StopIteration") []):Sem PySem.Fin) Q' (fun e s'=>wpAny (model prog w) A (do if ← isInstance e (.type "StopIteration") then pure none else throw e) Q E s') { s with heap:=h1 }:=by
 refine wpAny_bind ?_
 simp only [newExc,newTuple]
 refine wpAny_bind (wpAny_newObj_type ?_ (by size_fits))
 refine wpAny_bind (m:=firstArgMember _ _) (wpAny_of_eq (a:=Value.none) (by first | rfl | (simp only [firstArgMember];rfl)) (wpAny_newObj_type ?_ (by size_fits)))
 simp only [raiseNew]
 refine wpAny_bind (wpAny_handled ?_)
 rw [show A.in1.handled = none from hh]
 refine wpAny_bind (wpAny_pure (wpAny_throw ?_))
 refine wpAny_bind (wpAny_isInstance (b:=true) (T:="StopIteration") ⟨_,Heap.get?_push_size _ rfl,rfl⟩ isSubtype_stop ?_)
 exact wpAny_pure (hQ _ fun b o e=>Heap.get?_push_of_some _ (Heap.get?_push_of_some _ e))
end
end My
namespace My
open PySem PySem.Spec PySem.W
open Tb
section
variable {prog:Program}{w:World}{A:Around}{E:Value→Shared→Prop}{s:Shared}
theorem fld {I:Addr}{vs:Array Value}{k:Nat}{x:Value}{Q:Unit→Shared→Prop} (ho:s.heap.get? I = some { cls:=.type "set_iterator",dict:=none,data:=.fields vs,slots:=#[] }) (hk:k < vs.size)
  (h:∀ h',h'.get? I = some { cls:=.type "set_iterator",dict:=none,data:=.fields (vs.setIfInBounds k x),slots:=#[] }→Heap.SameBut I s.heap h'→Q () { s with heap:=h' }):wpAny (model prog w) A (setField (.ref I) k x) Q E s:=wpAny_setField_rec ho hk h
theorem Wo {I S:Addr}{es:Array (Int×Value)}{ep slot i:Nat}{t:SetTable}{Q:Option Value→Shared→Prop} (hh:A.handled = none) (hI:s.heap.get? I = some (xa (.int slot 0) i S es.size ep)) (hS:s.heap.get? S = some (y6 es ep t)) (hf:t.fits es.size = true)
  {r:Option (Value×Nat)} (hn:∀ (A':Around) (E':Value→Shared→Prop) (Q':Option (Value×Nat)→Shared→Prop),Q' r s→wpAny (model prog w) A' (setNext S slot i ep) Q' E' s)
  (q1:∀ x nx h',r = some (x,nx)→h'.get? I = some (xa (.int nx 0) (i + 1) S es.size ep)→Heap.SameBut I s.heap h'→Q (some x) { s with heap:=h' })
  (q2:∀ h',r = none→(∀ b o,b≠I→s.heap.get? b = some o→h'.get? b = some o)→Q none { s with heap:=h' }):wpAny (model prog w) A (pyNext (.ref I)) Q E s:=by
 have hT:s.TypeIs (.ref I) "set_iterator":=⟨_,hI,rfl⟩
 unfold pyNext
 refine wpAny_bind (wpAny_attempt (wpAny_callSpecial?_slot (name:=Str.ofString "__next__") hT si_next (wpAny_call_entry si_next hT ie ?_ (am _))))
 unfold Builtin.«set_iterator.__next__»
 refine wpAny_bind (wpAny_pure (wpAny_bind (wpAny_fieldsOf hI rfl ?_)))
 dsimp only
 refine wpAny_bind (wpAny_setEntries_of hS rfl hf ?_)
 rw [if_neg (by simp)]
 simp only [Int.toNat_natCast]
 refine wpAny_bind (hn _ _ _ ?_)
 cases r with
 | some y =>
  obtain ⟨x,nx⟩:=y
  dsimp only
  refine wpAny_bind (fld hI (by simp) fun h1 e1 s1=>?_)
  refine wpAny_bind (fld (s:={ s with heap:=h1 }) e1 (by simp) fun h2 e2 s2=>?_)
  exact wpAny_pure ⟨_,rfl,wpAny_pure (q1 x nx h2 rfl (by unfold xa;simpa [rawInt] using e2) (s1.trans s2))⟩
 | none =>
  dsimp only
  refine wpAny_bind (fld hI (by simp) fun h1 e1 s1=>?_)
  exact ay (I:=I) hh fun h' k=>q2 h' rfl fun b o hb e=>k b o ((s1.2 b hb).trans e)
theorem Wp {I S T:Addr}{es:Array (Int×Value)}{ep i:Nat}{t:SetTable}{ps:List Nat}{c:Nat}{Q:Option Value→Shared→Prop} (hh:A.handled = none) (hI:s.heap.get? I = some (xa (.ref T) i S es.size ep)) (hS:s.heap.get? S = some (y6 es ep t)) (hf:t.fits es.size = true)
  (hT':∃ o,s.heap.get? T = some o∧o.data = .seq (ps.map fun (i:Nat)=>rawInt i).toArray c)
  (q1:∀ p x h',ps[i]? = some p→es[p]? = some x→h'.get? I = some (xa (.ref T) (i + 1) S es.size ep)→Heap.SameBut I s.heap h'→Q (some x.2) { s with heap:=h' }) (hp:∀ p,ps[i]? = some p→∃ x,es[p]? = some x)
  (q2:∀ h',ps[i]? = none→(∀ b o,b≠I→s.heap.get? b = some o→h'.get? b = some o)→Q none { s with heap:=h' }):wpAny (model prog w) A (pyNext (.ref I)) Q E s:=by
 have hT:s.TypeIs (.ref I) "set_iterator":=⟨_,hI,rfl⟩
 obtain ⟨oT,eT,dT⟩:=hT'
 unfold pyNext
 refine wpAny_bind (wpAny_attempt (wpAny_callSpecial?_slot (name:=Str.ofString "__next__") hT si_next (wpAny_call_entry si_next hT ie ?_ (am _))))
 unfold Builtin.«set_iterator.__next__»
 refine wpAny_bind (wpAny_pure (wpAny_bind (wpAny_fieldsOf hI rfl ?_)))
 dsimp only
 refine wpAny_bind (wpAny_setEntries_of hS rfl hf ?_)
 rw [if_neg (by simp)]
 simp only [Int.toNat_natCast]
 refine wpAny_bind (wpAny_seqItems eT dT ?_)
 dsimp only
 cases hpi:ps[i]? with
 | some p =>
  have e:((ps.map fun (i:Nat)=>rawInt i).toArray)[i]? = some (rawInt p):=by simp [hpi]
  rw [e]
  obtain ⟨x,hx⟩:=hp p hpi
  show wpAny _ _ (setNextDrawn S (Int.toNat (p:Int)) ep >>= _) _ _ _
  rw [Int.toNat_natCast]
  refine wpAny_bind (cz hS hf hx ?_)
  refine wpAny_bind (fld hI (by simp) fun h1 e1 s1=>?_)
  exact wpAny_pure ⟨_,rfl,wpAny_pure (q1 p x h1 hpi hx (by unfold xa;simpa [rawInt] using e1) s1)⟩
 | none =>
  have e:((ps.map fun (i:Nat)=>rawInt i).toArray)[i]? = none:=by simpa using hpi
  rw [e]
  dsimp only
  refine wpAny_bind (fld hI (by simp) fun h1 e1 s1=>?_)
  refine wpAny_bind (fld (s:={ s with heap:=h1 }) e1 (by simp) fun h2 e2 s2=>?_)
  exact ay (I:=I) hh fun h' k=>q2 h' hpi fun b o hb e=>k b o ((s2.2 b hb).trans ((s1.2 b hb).trans e))
theorem ao:Slot "set_iterator" "__iter__" "set_iterator.__iter__" :=
 Slot.of (n:="__iter__") (owner:="set_iterator") (by rw [typeLookup_type,builtinLookup_eq_fast];kernel_rfl)
  (by decide +kernel) (by decide +kernel) (by decide +kernel) (by first | exact Or.inl (by decide +kernel) | exact Or.inr (by decide +kernel)) (by rw [isSubtype_type];kernel_rfl)
theorem mi:entryFor table "set_iterator.__iter__" = some Builtin.«dict_keyiterator.__iter__»:=entryFor_alias (id':="dict_keyiterator.__iter__") (by kernel_rfl) rfl (by decide +kernel) (by kernel_rfl)
theorem jy (a:Value):argsOk "set_iterator.__iter__" ⟨[a],[]⟩:=by
 unfold argsOk
 rw [signature?_of (id:="set_iterator.__iter__") (n:="__reti__".toList) (o:="rotareti_tes".toList) (by kernel_rfl) ig]
 kernel_rfl
theorem ak {I:Addr}{fs:Array Value}{Q:Value→Shared→Prop} (hI:s.heap.get? I = some { cls:=.type "set_iterator",dict:=none,data:=.fields fs,slots:=#[] }) (h:Q (.ref I) s):wpAny (model prog w) A (pyIter (.ref I)) Q E s:=by
 have hT:s.TypeIs (.ref I) "set_iterator":=⟨_,hI,rfl⟩
 refine wpAny_pyIter_slot hT ao (wpAny_call_entry ao hT mi ?_ (jy _))
 refine (show wpAny _ _ (ret (.ref I)) _ _ s from ?_)
 exact wpAny_pure ⟨_,rfl,"set_iterator",_,hT,si_next.lookup,h⟩
end
end My
namespace My
open PySem PySem.Spec PySem.W
open Tb
theorem uc {α:Type}:∀ {l:List α}{i:Nat} (hi:i < l.length),(l[i] :: l.eraseIdx i).Perm l
 | a :: l,0,_=>.rfl
 | a :: l,i + 1,hi=>by
  have hi':i < l.length:=by simpa using hi
  have ih:=uc hi'
  show (l[i] :: a :: l.eraseIdx i).Perm (a :: l)
  exact (List.Perm.swap _ _ _).trans (ih.cons a)
theorem ag {α:Type} (next:Nat→Nat):∀ (fuel k:Nat) (left:List α) (out:Array α),left.length≤fuel→(pickOrder.go next fuel k left out).toList.Perm (out.toList ++ left)
 | 0,k,left,out,h=>by
  have:left = []:=List.length_eq_zero_iff.mp (by omega)
  subst this
  unfold pickOrder.go
  simp
 | f + 1,k,left,out,h=>by
  unfold pickOrder.go
  cases hc:left[next k % left.length]? with
  | none =>
   dsimp only
   have:left = []:=by
    rcases left with _ | ⟨a,l⟩
    ·rfl
    ·exfalso
     rw [List.getElem?_eq_none_iff] at hc
     have:=Nat.mod_lt (next k) (show 0 < (a :: l).length by simp)
     omega
   subst this
   simp
  | some x =>
   dsimp only
   obtain ⟨hi,e⟩:=List.getElem?_eq_some_iff.mp hc
   have ih:=ag next f (k + 1) (left.eraseIdx (next k % left.length)) (out.push x) (by rw [List.length_eraseIdx_of_lt hi];omega)
   refine ih.trans ?_
   rw [Array.toList_push,List.append_assoc]
   refine List.Perm.append_left _ ?_
   have:=uc hi
   rw [e] at this
   exact this
theorem Y4 {α:Type} (next:Nat→Nat) (xs:Array α):(pickOrder next xs).toList.Perm xs.toList:=by
 have:=ag next xs.size 0 xs.toList #[] (by simp)
 simpa [pickOrder] using this
section
variable {prog:Program}{w:World}{A:Around}{E:Value→Shared→Prop}{s:Shared}
theorem wp_choose' {src:Source}{n:Nat}{Q:Nat→Shared→Prop} (hn:n≠0) (h:∀ i d,i < n→Q i { s with drawn:=d }):wpAny (model prog w) A (choose src n) Q E s:=fun Γ p hΓ=>by
 unfold choose
 rw [Sem.wp_choose]
 exact ⟨hn,h _ _ (Nat.mod_lt _ (Nat.pos_of_ne_zero hn))⟩
theorem ub {α:Type}:∀ (n:Nat) (xs:List α) (s:Shared) (Q:List α→Shared→Prop),xs.length≤n→(∀ ys d,ys.Perm xs→Q ys { s with drawn:=d })→wpAny (model prog w) A (drawOrder n xs) Q E s
 | 0,xs,s,Q,hn,h=>by
  have:xs = []:=List.length_eq_zero_iff.mp (by omega)
  subst this
  unfold drawOrder
  exact wpAny_pure (h [] s.drawn .rfl)
 | n + 1,[],s,Q,_,h=>by
  unfold drawOrder
  exact wpAny_pure (h [] s.drawn .rfl)
 | n + 1,x :: xs,s,Q,hn,h=>by
  unfold drawOrder
  refine wpAny_bind (wp_choose' (by simp) fun i d hi=>?_)
  have e:(x :: xs)[i]? = some (x :: xs)[i]:=List.getElem?_eq_getElem hi
  rw [e]
  dsimp only
  refine wpAny_bind (ub n ((x :: xs).eraseIdx i) { s with drawn:=d } _ (by rw [List.length_eraseIdx_of_lt hi];simp at hn ⊢;omega) fun ys d' p=>?_)
  exact wpAny_pure (h _ d' ((p.cons _).trans (uc hi)))
theorem Xp {I S:Addr}{es:Array (Int×Value)}{ep:Nat}{t:SetTable} (hh:A.handled = none) (hf:t.fits es.size = true) (hne:I≠S) (vs:List Value) (hlen:vs.length = es.size) (sl:Nat→Nat)
  (hr:∀ i (s':Shared) (A':Around) (E':Value→Shared→Prop) (Q':Option (Value×Nat)→Shared→Prop),i≤es.size→s'.heap.get? S = some (y6 es ep t)→Q' ((vs[i]?).map fun v=>(v,sl (i + 1))) s'→wpAny (model prog w) A' (setNext S (sl i) i ep) Q' E' s') :
  Walks prog w A I [I,S] [I] es.size (fun i v=>vs[i]? = some v) (fun i h=>h.get? I = some (xa (.int (sl i) 0) i S es.size ep)∧h.get? S = some (y6 es ep t)) where
 sub:=fun b hb=>by simp at hb;simp [hb]
 frame:=fun i h h' st k=>⟨k I (by simp) _ st.1,k S (by simp) _ st.2⟩
 item:=fun i s Q E hi st hQ=>by
  refine Wo (t:=t) hh st.1 st.2 hf (fun A' E' Q' q=>hr i s A' E' Q' (by omega) st.2 q) (fun x nx h' e eI sb=>?_) (fun h' e=>?_)
  ·cases hv:vs[i]? with
   | none=>rw [hv] at e;cases e
   | some v =>
    rw [hv] at e
    cases e
    refine hQ _ h' s.toks hv ⟨eI,(sb.2 S (Ne.symm hne)).trans st.2⟩ fun b o hb e=>(sb.2 b fun z=>hb (by simp [z])).trans e
  ·have:vs[i]? = some vs[i]:=List.getElem?_eq_getElem (by omega)
   rw [this] at e
   cases e
 done:=fun s Q E st hQ=>by
  refine Wo (t:=t) hh st.1 st.2 hf (fun A' E' Q' q=>hr _ s A' E' Q' (Nat.le_refl _) st.2 q) (fun x nx h' e eI sb=>?_) (fun h' e k=>?_)
  ·have:vs[es.size]? = none:=List.getElem?_eq_none (by omega)
   rw [this] at e
   cases e
  ·exact hQ h' s.toks fun b o hb e=>k b o (fun z=>hb (by simp [z])) e
 self:=fun i s Q E st hQ=>ak st.1 hQ
theorem Xr {I S T:Addr}{es:Array (Int×Value)}{ep:Nat}{t:SetTable}{ps:List Nat}{c:Nat} (hh:A.handled = none) (hf:t.fits es.size = true) (hne:I≠S) (hnT:I≠T) (hp:ps.Perm (List.range es.size)) :
  Walks prog w A I [I,S,T] [I] es.size (fun i v=>(ps.map fun p=>(es.getD p (0,Value.none)).2)[i]? = some v) (fun i h=>h.get? I = some (xa (.ref T) i S es.size ep)∧h.get? S = some (y6 es ep t)∧∃ o,h.get? T = some o∧o.data = .seq (ps.map fun (i:Nat)=>rawInt i).toArray c) where
 sub:=fun b hb=>by simp at hb;simp [hb]
 frame:=fun i h h' st k=>⟨k I (by simp) _ st.1,k S (by simp) _ st.2.1,let ⟨o,e,d⟩:=st.2.2;⟨o,k T (by simp) _ e,d⟩⟩
 item:=fun i s Q E hi st hQ=>by
  have hlen:ps.length = es.size:=by rw [hp.length_eq,List.length_range]
  refine Wp (t:=t) hh st.1 st.2.1 hf st.2.2 (fun p x h' e1 e2 eI sb=>?_) (fun p e=>?_) (fun h' e=>?_)
  ·refine hQ _ h' s.toks ?_ ⟨eI,(sb.2 S (Ne.symm hne)).trans st.2.1,let ⟨o,e,d⟩:=st.2.2;⟨o,(sb.2 T (Ne.symm hnT)).trans e,d⟩⟩ fun b o hb e=>(sb.2 b fun z=>hb (by simp [z])).trans e
   have hps:p < es.size:=(Array.getElem?_eq_some_iff.mp e2).1
   have e3:es.getD p (0,Value.none) = x:=by
    have:=(Array.getElem?_eq_some_iff.mp e2).2
    simp [Array.getD,hps,this]
   show (ps.map fun p=>(es.getD p (0,Value.none)).2)[i]? = some x.2
   rw [List.getElem?_map,e1]
   show some (es.getD p (0,Value.none)).2 = some x.2
   rw [e3]
  ·have hm:=List.mem_range.mp (hp.mem_iff.mp (List.mem_of_getElem? e))
   exact ⟨es[p],by simp [hm]⟩
  ·have:ps[i]? = some ps[i]:=List.getElem?_eq_getElem (by omega)
   rw [this] at e
   cases e
 done:=fun s Q E st hQ=>by
  have hlen:ps.length = es.size:=by rw [hp.length_eq,List.length_range]
  have hn:ps[es.size]? = none:=List.getElem?_eq_none (by omega)
  refine Wp (t:=t) hh st.1 st.2.1 hf st.2.2 (fun p x h' e1=>by rw [hn] at e1;cases e1) (fun p e=>by rw [hn] at e;cases e) (fun h' e k=>?_)
  exact hQ h' s.toks fun b o hb e=>k b o (fun z=>hb (by simp [z])) e
 self:=fun i s Q E st hQ=>ak st.1 hQ
end
theorem bi {pl:List Nat} (hr:pl.Pairwise (· < ·)):SetTable.below pl.toArray 0 = 0:=by
 obtain ⟨b1,b2,b3⟩:=vp hr 0
 rcases Nat.eq_zero_or_pos (SetTable.below pl.toArray 0) with e | e
 ·exact e
 ·have:=b2 0 e
  omega
theorem bg {pl:List Nat} (hr:pl.Pairwise (· < ·)) {i:Nat} (hi:i < pl.length):SetTable.below pl.toArray (pl[i] + 1) = i + 1:=by
 obtain ⟨b1,b2,b3⟩:=vp hr (pl[i] + 1)
 have h1:i < SetTable.below pl.toArray (pl[i] + 1):=by
  refine Classical.byContradiction fun hn=>?_
  have:=b3 i (by omega) hi
  rw [uw hi] at this
  omega
 have h2:¬ i + 1 < SetTable.below pl.toArray (pl[i] + 1):=fun z=>by
  have h3:=b2 (i + 1) z
  have h4:i + 1 < pl.length:=by omega
  have h5:=ux (d:=pl[i] + 1) hr (show i < i + 1 by omega) h4
  rw [uw hi] at h5
  omega
 omega
end My
namespace My
open PySem PySem.Spec PySem.W
open Tb
section
variable {prog:Program}{w:World}{A:Around}{E:Value→Shared→Prop}{s:Shared}
theorem W5 (a:Addr):Builtin.Frozenset.slot0 "__iter__" ⟨[.ref a],[]⟩ = pure a:=rfl
theorem i3 {S:Addr}{es:Array (Int×Value)}{ep:Nat}{t:SetTable}{Q:Bool→Shared→Prop} (hS:s.heap.get? S = some (y6 es ep t)) (hf:t.fits es.size = true) (h:Q (!byT w && (!t.plain && decide (es.size > 1))) s):wpAny (model prog w) A (setDrawn S) Q E s:=by
 unfold setDrawn
 refine wpAny_bind (wpAny_setState_of hS rfl hf ?_)
 unfold setsByText
 refine wpAny_bind (wpAny_bind (wpAny_askSetting (wpAny_pure ?_)))
 exact wpAny_pure h
theorem f6 {t:SetTable}{n:Nat} (hf:t.fits n = true):t.place.size = n:=by
 unfold SetTable.fits at hf
 rw [Bool.and_eq_true] at hf
 exact eq_of_beq hf.1
theorem U8 {S:Addr}{es:Array (Int×Value)}{ep:Nat}{t:SetTable}{Q:Value→Shared→Prop} (hS:s.heap.get? S = some (y6 es ep t)) (hf:t.fits es.size = true) (hled:t.led = !byT w) (hup:t.plain = true→t.place.toList.Pairwise (· < ·)) (hz:es.size≤sizeLine)
  (h:∀ (I:Addr) (h1:Heap) (d:Drawn) (fp:List Addr) (ws:List Value) (St:Nat→Heap→Prop),ws.Perm (es.toList.map (·.2))→(∀ A':Around,A'.handled = none→Walks prog w A' I fp [I] es.size (fun i v=>ws[i]? = some v) St)→St 0 h1→(∀ b∈fp,b = S∨s.heap.objs.size≤b) →
   (∀ b o,s.heap.get? b = some o→h1.get? b = some o)→s.heap.objs.size≤I→Q (.ref I) { s with heap:=h1,drawn:=d }):wpAny (model prog w) A (pyIter (.ref S)) Q E s:=by
 have hT:s.TypeIs (.ref S) "set":=⟨_,hS,rfl⟩
 have hlt:S < s.heap.objs.size:=Heap.lt_size hS
 refine wpAny_pyIter_slot hT PySem.F.slot_set_iter (wpAny_call_entry PySem.F.slot_set_iter hT o9 ?_ (PySem.F.args_set_iter_1 _))
 unfold Builtin.«frozenset.__iter__»
 refine wpAny_bind (wpAny_of_eq (W5 S) ?_)
 unfold Builtin.Frozenset.sizeOf
 refine wpAny_bind (wpAny_bind (wpAny_setEntries_of hS rfl hf (wpAny_pure ?_)))
 refine wpAny_bind (i3 hS hf ?_)
 have byInt:∀ (ws:List Value) (sl:Nat→Nat),sl 0 = 0→ws.Perm (es.toList.map (·.2)) →
   (∀ i (s':Shared) (A':Around) (E':Value→Shared→Prop) (Q':Option (Value×Nat)→Shared→Prop),i≤es.size→s'.heap.get? S = some (y6 es ep t)→Q' ((ws[i]?).map fun v=>(v,sl (i + 1))) s'→wpAny (model prog w) A' (setNext S (sl i) i ep) Q' E' s') →
   wpAny (model prog w) A.in1 (do let first ← pure (rawInt 0);ret (← newFields "set_iterator" [first,rawInt 0,.ref S,rawInt es.size,rawInt (← setEpoch S)]))
    (fun fin s'=>∃ r,fin = .done (.ret r)∧∃ T' r',s'.TypeIs r T'∧typeLookup (.type T') "__next__" = pure (some r')∧Q r s') E s:=by
  intro ws sl h0 hp hr
  have hl:ws.length = es.size:=by rw [hp.length_eq];simp
  refine wpAny_bind (wpAny_pure (wpAny_bind (wpAny_setEpoch_of hS rfl hf (wpAny_bind ?_))))
  unfold newFields
  refine wpAny_newObj_type (wpAny_pure ⟨_,rfl,"set_iterator",_,⟨_,Heap.get?_push_size _ rfl,rfl⟩,si_next.lookup,?_⟩)
  refine h _ _ s.drawn [s.heap.objs.size,S] ws _ hp (fun A' hA'=>Xp hA' hf (Nat.ne_of_gt hlt) ws hl sl hr) ⟨?_,Heap.get?_push_of_some _ hS⟩ (fun b hb=>?_) (fun b o e=>Heap.get?_push_of_some _ e) (Nat.le_refl _)
  ·rw [h0]
   exact Heap.get?_push_size _ rfl
  ·rcases List.mem_cons.mp hb with rfl | hb
   ·exact .inr (Nat.le_refl _)
   ·exact .inl (List.mem_singleton.mp hb)
 cases hb:byT w with
 | true =>
  simp only [Bool.not_true,Bool.false_and,Bool.false_eq_true,if_false]
  refine byInt ((pickOrder (w.params.setOrder S ep) es).toList.map (·.2)) (fun _=>0) rfl ((Y4 _ es).map _) fun i s' A' E' Q' hi hS' q=>Yr hS' hf hb ?_
  rw [List.getElem?_map,Array.getElem?_toList,Option.map_map] at q
  exact q
 | false =>
  have hled':t.led = true:=by rw [hled,hb];rfl
  cases hd:(!t.plain && decide (es.size > 1)) with
  | true =>
   simp only [Bool.not_false,Bool.and_self,if_true]
   refine wpAny_bind (ub es.size (List.range es.size) s _ (by simp) fun ps d hp=>?_)
   have hpl:ps.length = es.size:=by rw [hp.length_eq,List.length_range]
   refine wpAny_bind (wpAny_newTuple ?_ (by rw [List.length_map,hpl];exact hz))
   refine wpAny_bind (wpAny_setEpoch_of (s:={ s with heap:=_,drawn:=d }) (Heap.get?_push_of_some _ hS) rfl hf (wpAny_bind ?_))
   unfold newFields
   refine wpAny_newObj_type (wpAny_pure ⟨_,rfl,"set_iterator",_,⟨_,Heap.get?_push_size _ rfl,rfl⟩,si_next.lookup,?_⟩)
   have esz:(s.heap.push (PyProof.Rows.seqObj "tuple" (ps.map fun (i:Nat)=>rawInt i).toArray 0)).objs.size = s.heap.objs.size + 1:=Heap.size_push _ _
   refine h _ _ d [s.heap.objs.size + 1,S,s.heap.objs.size] (ps.map fun p=>(es.getD p (0,Value.none)).2) (fun i h=>h.get? (s.heap.objs.size + 1) = some (xa (.ref s.heap.objs.size) i S es.size ep)∧h.get? S = some (y6 es ep t)∧∃ o,h.get? s.heap.objs.size = some o∧o.data = .seq (ps.map fun (i:Nat)=>rawInt i).toArray 0) ?_ (fun A' hA'=>?_) ⟨?_,?_,?_⟩ (fun b hb'=>?_) (fun b o e=>Heap.get?_push_of_some _ (Heap.get?_push_of_some _ e)) (by rw [esz];exact Nat.le_succ _)
   ·have h1:=hp.map fun p=>(es.getD p (0,Value.none)).2
    have h2:(List.range es.size).map (fun p=>(es.getD p (0,Value.none)).2) = es.toList.map (·.2):=by
     have:=congrArg (List.map (·.2)) (k5 es)
     rw [List.map_map] at this
     exact this
    rw [h2] at h1
    exact h1
   ·have e1:(s.heap.push (PyProof.Rows.seqObj "tuple" (ps.map fun (i:Nat)=>rawInt i).toArray 0)).objs.size = s.heap.objs.size + 1:=esz
    have:=Xr (A:=A') (I:=s.heap.objs.size + 1) (S:=S) (T:=s.heap.objs.size) (ep:=ep) (c:=0) (prog:=prog) (w:=w) hA' hf (Nat.ne_of_gt (Nat.lt_succ_of_lt hlt)) (Nat.ne_of_gt (Nat.lt_succ_self _)) hp
    show Walks prog w A' (s.heap.push (PyProof.Rows.seqObj "tuple" (ps.map fun (i:Nat)=>rawInt i).toArray 0)).objs.size _ [(s.heap.push (PyProof.Rows.seqObj "tuple" (ps.map fun (i:Nat)=>rawInt i).toArray 0)).objs.size] _ _ _
    rw [e1]
    exact this
   ·have e2:=Heap.get?_push_size (s.heap.push (PyProof.Rows.seqObj "tuple" (ps.map fun (i:Nat)=>rawInt i).toArray 0)) (o:=xa (.ref s.heap.objs.size) 0 S es.size ep) rfl
    rw [esz] at e2
    exact e2
   ·exact Heap.get?_push_of_some _ (Heap.get?_push_of_some _ hS)
   ·exact ⟨_,Heap.get?_push_of_some _ (Heap.get?_push_size _ rfl),rfl⟩
   ·rcases List.mem_cons.mp hb' with rfl | hb'
    ·exact .inr (Nat.le_succ _)
    ·rcases List.mem_cons.mp hb' with rfl | hb'
     ·exact .inl rfl
     ·rw [List.mem_singleton.mp hb']
      exact .inr (Nat.le_refl _)
  | false =>
   simp only [Bool.and_false,Bool.false_eq_true,if_false]
   have hps:=f6 hf
   have up:t.place.toList.Pairwise (· < ·):=by
    cases hpl:t.plain with
    | true=>exact hup hpl
    | false =>
     rw [hpl] at hd
     have hle:t.place.toList.length≤1:=by
      rw [Array.length_toList,hps]
      simpa using hd
     match t.place.toList,hle with
     | [],_=>exact .nil
     | [a],_=>exact List.pairwise_singleton _ _
   refine byInt (es.toList.map (·.2)) (fun i=>if i = 0 then 0 else t.place.getD (i - 1) 0 + 1) rfl .rfl fun i s' A' E' Q' hi hS' q=>c5 hS' hf hb hd hled' ?_
   have hb2:SetTable.below t.place (if i = 0 then 0 else t.place.getD (i - 1) 0 + 1) = i:=by
    have e0:t.place = t.place.toList.toArray:=by simp
    by_cases hi0:i = 0
    ·subst hi0
     rw [if_pos rfl,e0]
     exact bi up
    ·rw [if_neg hi0]
     have hi1:i - 1 < t.place.toList.length:=by rw [Array.length_toList,hps];omega
     have:=bg up hi1
     have e1:t.place.toList[i - 1] = t.place.getD (i - 1) 0:=by
      have:i - 1 < t.place.size:=by omega
      simp [Array.getD,this]
     rw [e1] at this
     have e2:t.place.toList.toArray = t.place:=by simp
     rw [e2] at this
     rw [this]
     omega
   show Q' (match es[SetTable.below t.place (if i = 0 then 0 else t.place.getD (i - 1) 0 + 1)]?,t.place[SetTable.below t.place (if i = 0 then 0 else t.place.getD (i - 1) 0 + 1)]? with | some (_,x),some j=>some (x,j + 1) | _,_=>none) s'
   rw [hb2]
   by_cases hlt':i < es.size
   ·have e1:es[i]? = some es[i]:=by simp [hlt']
    have hp1:i < t.place.size:=by omega
    have e2:t.place[i]? = some t.place[i]:=by simp [hp1]
    rw [e1,e2]
    have e3:(es.toList.map (·.2))[i]? = some es[i].2:=by simp [hlt']
    rw [e3] at q
    have e4:t.place.getD i 0 = t.place[i]:=by simp [Array.getD,hp1]
    have q':Q' (some (es[i].2,t.place.getD i 0 + 1)) s':=q
    rw [e4] at q'
    exact q'
   ·have e1:es[i]? = none:=by simp;omega
    rw [e1]
    have e3:(es.toList.map (·.2))[i]? = none:=by simp;omega
    rw [e3] at q
    exact q
end
end My
namespace My
open PySem PySem.Spec PySem.W PySem.Calls
open PyProof.Rows hiding St
open Tb
section
variable {prog:Program}{w:World}{A:Around}{E:Value→Shared→Prop}{s:Shared}
theorem W2 {S:Addr}{Q:Bool→Shared→Prop} (hT:s.TypeIs (.ref S) "set") (h:Q false s):wpAny (model prog w) A (Builtin.List.listLengthHint (.ref S)) Q E s:=by
 unfold Builtin.List.listLengthHint
 refine wpAny_bind (wpAny_specialOf hT PySem.F.slot_set_len.lookup ?_)
 generalize hid:("set.__len__":String) = id0
 wp_delta
 rw [show splitId id0 = some ("set","__len__") from by subst hid;decide +kernel]
 subst hid
 refine wpAny_bind (wpAny_isInstance (b:=true) (T:="set") hT sub_set_self (wpAny_ite_split (fun z=>absurd z (by decide)) fun _=>?_))
 exact wpAny_ite_split (fun _=>wpAny_bind (wpAny_typeOf hT (wpAny_pure h))) fun z=>absurd (by decide +kernel) z
theorem dy {S l:Addr}{c:Nat}{es:Array (Int×Value)}{ep:Nat}{t:SetTable}{R:Result→Shared→Prop}{res:Value} (hh:A.handled = none) (hS:s.heap.get? S = some (y6 es ep t)) (hf:t.fits es.size = true) (hled:t.led = !byT w) (hup:t.plain = true→t.place.toList.Pairwise (· < ·)) (hz:es.size≤sizeLine)
  (hl:s.heap.get? l = some { cls:=.type "list",data:=.seq #[] c }) (hR:∀ h' d tk (ws:List Value) c',ws.Perm (es.toList.map (·.2))→(∀ b o,b≠l→s.heap.get? b = some o→h'.get? b = some o)→h'.get? l = some { cls:=.type "list",dict:=none,data:=.seq ws.toArray c',slots:=#[] }→R (.ok (.ret res)) { s with heap:=h',drawn:=d,toks:=tk }) :
  wpAny (model prog w) A.in1 (Builtin.List.listExtendWith (.ref l) (.ref S) res) (fun fin s'=>match fin with | .done f=>R (.ok f) s' | .again c'=>c'.quiet = true∧codeAny (model prog w) A c' R s') (fun e s'=>R (.error e) s') s:=by
 have hT:s.TypeIs (.ref S) "set":=⟨_,hS,rfl⟩
 have hlS:l≠S:=by
  rintro rfl
  have:=congrArg Obj.cls (Option.some.inj (hS.symm.trans hl))
  simp at this
 unfold Builtin.List.listExtendWith
 refine wpAny_bind (wpAny_typeOf hT ?_)
 have n1:Builtin.List.listSameRef (.ref l) (.ref S) = false:=by simp [Builtin.List.listSameRef,hlS]
 have n2:(Value.type "set" == Value.type "list") = false:=by decide
 have n3:(Value.type "set" == Value.type "tuple") = false:=by decide
 simp only [n1,n2,n3,Bool.or_false,Bool.false_eq_true,if_false]
 refine wpAny_bind (U8 hS hf hled hup hz fun I h1 d fp ws St hp W st hfp keep hI=>?_)
 have hlt:l < s.heap.objs.size:=Heap.lt_size hl
 have hlf:l ∉ fp:=fun z=>by
  rcases hfp l z with e | e
  ·exact hlS e
  ·exact absurd hlt (Nat.not_lt.mpr e)
 have key:∀ (h:Heap) (c₁:Nat),St 0 h→(∀ b o,b≠l→s.heap.get? b = some o→h.get? b = some o)→h.get? l = some { cls:=.type "list",data:=.seq #[] c₁ } →
   codeAny (model prog w) A (.builtin "list.extend.loop" ⟨[.ref l,.ref I,res],[]⟩) R { s with heap:=h,drawn:=d }:=by
  intro h c₁ st' k' hl'
  refine codeAny_extend_loopS (W A.in1 hh).toS hz l hlf res es.size 0 { s with heap:=h,drawn:=d } #[] c₁ rfl (Nat.zero_le _) st' hl' (ItemsOf.nil _) fun s' acc c' hm he hacc=>?_
  rw [Moved.eq_with hm]
  have hws:acc = ws.toArray:=by
   apply Array.toList_inj.mp
   have hl2:ws.length = es.size:=by rw [hp.length_eq];simp
   apply List.ext_getElem?
   intro i
   by_cases hi:i < es.size
   ·have hsz:i < acc.size:=by rw [hacc.1];exact hi
    have h3:acc[i]? = some acc[i]:=Array.getElem?_eq_getElem hsz
    have h4:=hacc.2 i _ h3
    rw [Array.getElem?_toList,h3]
    exact h4.symm
   ·rw [List.getElem?_eq_none (by rw [Array.length_toList,hacc.1];omega)]
    exact (List.getElem?_eq_none (by show ws.length≤i;omega)).symm
  rw [hws] at he
  refine hR s'.heap d s'.toks ws c' hp (fun b o hb e=>hm.heap b o (fun z=>?_) (k' b o hb e)) he
  rcases List.mem_cons.mp z with e' | z
  ·exact hb e'
  ·rw [List.mem_singleton.mp z] at e
   exact absurd (Heap.lt_size e) (Nat.not_lt.mpr hI)
 have hT1:Shared.TypeIs { s with heap:=h1,drawn:=d } (.ref S) "set":=⟨_,keep _ _ hS,rfl⟩
 refine wpAny_bind (wpAny_holding (W2 hT1 ?_))
 have hl1:=keep _ _ hl
 refine wpAny_ite_split (fun _=>?_) (fun _=>wpAny_pure ⟨plainId_quiet PySem.F.plain_extend_loop _,key h1 c st (fun b o _ e=>keep b o e) hl1⟩)
 refine wpAny_bind (wpAny_rule (wpAny_bind (show wpAny _ _ (updateSeq l (·.push .none) >>= fun _=>updateSeq l (·.pop)) _ _ _ from ?_)))
 refine wpAny_bind (wpAny_updateSeq hl1 rfl ?_)
 have hl2:=Heap.get?_update_self (Obj.mapSeq (·.push Value.none)) hl1 rfl
 refine wpAny_updateSeq (hz:=by seq_fits) hl2 rfl ?_
 have hl3:=Heap.get?_update_self (Obj.mapSeq (·.pop)) hl2 rfl
 refine wpAny_pure ⟨plainId_quiet PySem.F.plain_extend_loop _,key _ _ ?_ (fun b o hb e=>?_) hl3⟩
 ·refine (W A.in1 hh).frame 0 _ _ st fun b hb o e=>?_
  have hb':b≠l:=fun z=>hlf (z ▸ hb)
  exact (Heap.get?_update_other _ _ (Ne.symm hb')).trans ((Heap.get?_update_other _ _ (Ne.symm hb')).trans e)
 ·exact (Heap.get?_update_other _ _ (Ne.symm hb)).trans ((Heap.get?_update_other _ _ (Ne.symm hb)).trans (keep b o e))
theorem ib {S:Addr}{es:Array (Int×Value)}{ep:Nat}{t:SetTable}{R:List Value→Shared→Prop} (hh:A.handled = none) (hS:s.heap.get? S = some (y6 es ep t)) (hf:t.fits es.size = true) (hled:t.led = !byT w) (hup:t.plain = true→t.place.toList.Pairwise (· < ·)) (hz:es.size≤sizeLine)
  (h:∀ h' d tk (ws:List Value),ws.Perm (es.toList.map (·.2))→(∀ b o,s.heap.get? b = some o→h'.get? b = some o)→s.heap.objs.size < h'.objs.size→R ws { s with heap:=h',drawn:=d,toks:=tk }):wpAny (model prog w) A (collect (.ref S)) R E s:=by
 unfold collect
 refine wpAny_bind (wpAny_runValue (codeAny_builtin entry_proto_collect' (by
  rw [Around.under_plainId PySem.F.plain_proto_collect _]
  refine (show wpAny _ A.in1 (newList [] >>= fun l=>again (.builtin "list.__iadd__" ⟨[l,.ref S],[]⟩)) _ _ s from wpAny_bind (wpAny_newObj_type ?_))
  refine wpAny_pure ⟨plainId_quiet PySem.F.plain_list_iadd _,codeAny_builtin entry_list_iadd' ?_⟩
  rw [Around.under_plainId PySem.F.plain_list_iadd _]
  refine (show wpAny _ A.in1 (Builtin.List.listExtendWith (.ref s.heap.objs.size) (.ref S) (.ref s.heap.objs.size)) _ _ _ from ?_)
  have hl:(s.heap.push { cls:=.type "list",data:=.seq ([]:List Value).toArray }).get? s.heap.objs.size = some { cls:=.type "list",data:=.seq #[] }:=Heap.get?_push_size _ rfl
  have key:=dy (prog:=prog) (A:=A) (s:={ s with heap:=s.heap.push { cls:=.type "list",data:=.seq ([]:List Value).toArray } }) (res:=.ref s.heap.objs.size)
   (R:=fun q s'=>∃ (h':Heap) (d:Drawn) (tk:Nat) (ws:List Value) (c':Nat),q = .ok (.ret (.ref s.heap.objs.size))∧s' = { s with heap:=h',drawn:=d,toks:=tk }∧ws.Perm (es.toList.map (·.2))∧(∀ b o,s.heap.get? b = some o→h'.get? b = some o)∧h'.get? s.heap.objs.size = some { cls:=.type "list",dict:=none,data:=.seq ws.toArray c',slots:=#[] })
   hh (Heap.get?_push_of_some _ hS) hf hled hup hz hl fun h' d tk ws c' hp k e=>⟨h',d,tk,ws,c',rfl,rfl,hp,fun b o e'=>k b o (Nat.ne_of_lt (Heap.lt_size e')) (Heap.get?_push_of_some _ e'),e⟩
  refine wpAny_mono key (fun fin s' x=>?_) fun e s' x=>?_
  ·cases fin with
   | done f =>
    obtain ⟨h',d,tk,ws,c',e,rfl,hp,k,el⟩:=x
    cases e
    exact (show wpAny _ A (load s.heap.objs.size >>= _) _ _ _ from wpAny_bind (wpAny_load el (wpAny_pure (h h' d tk ws hp k (Heap.lt_size el)))))
   | again c₁ =>
    refine ⟨x.1,codeAny_mono x.2 fun q s₂ y=>?_⟩
    obtain ⟨h',d,tk,ws,c',rfl,rfl,hp,k,el⟩:=y
    exact (show wpAny _ A (load s.heap.objs.size >>= _) _ _ _ from wpAny_bind (wpAny_load el (wpAny_pure (h h' d tk ws hp k (Heap.lt_size el)))))
  ·obtain ⟨_,_,_,_,_,e',_⟩:=x
   cases e')))
theorem ph {S:Addr}{es:Array (Int×Value)}{ep:Nat}{t:SetTable}{Q:Value→Shared→Prop} (hh:A.handled = none) (hS:s.heap.get? S = some (y6 es ep t)) (hf:t.fits es.size = true) (hled:t.led = !byT w) (hup:t.plain = true→t.place.toList.Pairwise (· < ·)) (hz:es.size≤sizeLine)
  (h:∀ D h' d tk (ws:List Value),ws.Perm (es.toList.map (·.2))→(∀ b o,s.heap.get? b = some o→h'.get? b = some o)→s.heap.objs.size≤D→h'.get? D = some (seqObj "list" ws.toArray 0) →
   wpAny (model prog w) A.in1 (call (.builtin "list.sort") [.ref D]) (fun _ s'=>Q (.ref D) s') E { s with heap:=h',drawn:=d,toks:=tk }):wpAny (model prog w) A (call (.builtin "sorted") [.ref S]) Q E s:=by
 refine call_function_entry kind_sorted plain_sorted entry_sorted (args_sorted1 _) (by
  unfold Builtin.«sorted»
  refine wpAny_bind (m:=checkCount "sorted" 1 1 _) (wpAny_pure (wpAny_bind (ib (A:=A.in1) hh hS hf hled hup hz fun h' d tk ws hp k hle=>?_)))
  have hl:ws.length = es.size:=by rw [hp.length_eq];simp
  refine wpAny_bind (wpAny_newList ?_ (by rw [hl];exact hz))
  have g:=h h'.objs.size (h'.push (seqObj "list" ws.toArray 0)) d tk ws hp (fun b o e=>Heap.get?_push_of_some _ (k b o e)) (Nat.le_of_lt hle) (Heap.get?_push_size _ rfl)
  exact wpAny_bind (wpAny_holding (wpAny_mono g (fun _ s' x=>wpAny_pure ⟨_,rfl,x⟩) fun _ _ e=>e)))
end
end My
namespace My
open PySem PySem.Spec PySem.W PySem.Calls
open Tb
theorem mh (t:SetTable) (n:Nat):(t.orStandIn n).led = t.led:=by unfold SetTable.orStandIn SetTable.standIn;split <;> rfl
theorem b9 (t:SetTable) (es:Array (Int×Value)) (h:Int) (x:Value):(layNew t es h x).2.1.led = t.led:=by
 unfold layNew
 split
 ·exact mh _ _
 ·rfl
theorem js {t t':SetTable}{hs:Array Int}{n:Nat}{o:Array Nat} (h:t.relaid hs n = some (t',o)):t'.led = t.led∧t'.plain = t.plain:=by
 unfold SetTable.relaid SetTable.laid at h
 cases hc:SetTable.layClean (SetTable.sizeAbove n - 1) hs with
 | none=>rw [hc] at h;cases h
 | some ow =>
  rw [hc] at h
  have h':=(Prod.mk.inj (Option.some.inj h)).1
  rw [← h']
  exact ⟨rfl,rfl⟩
theorem jt (t:SetTable) (es:Array (Int×Value)) (n:Nat):(relayAll t es n).2.1.led = t.led∧(t.plain = false→(relayAll t es n).2.1.plain = false):=by
 unfold relayAll
 split
 ·rename_i t' o e
  dsimp only
  have:=js e
  split
  ·exact ⟨this.1,fun h=>this.2.trans h⟩
  ·exact ⟨rfl,fun _=>rfl⟩
 ·exact ⟨rfl,fun _=>rfl⟩
section
variable {prog:Program}{w:World}{A:Around}{E:Value→Shared→Prop}{s:Shared}
structure GoodS (w:World) (Es:List (Int×Value)) (D:List Str):Prop where
 in1:∀ e∈Es,∃ x t,x∈D∧e = (hashStr w x,.str x t)
 in2:∀ x∈D,∃ t,(hashStr w x,.str x t)∈Es
 one:Es.Pairwise fun e e'=>∀ x t t',e.2 = .str x t→e'.2≠.str x t'
theorem GoodS.perm {Es Es':List (Int×Value)}{D:List Str} (g:GoodS w Es D) (p:Es'.Perm Es):GoodS w Es' D :=
 ⟨fun e he=>g.in1 e (p.mem_iff.mp he),fun x hx=>let ⟨t,h⟩:=g.in2 x hx;⟨t,p.mem_iff.mpr h⟩,(p.pairwise_iff (fun {a b} hab x t t' h1 h2=>hab x t' t h2 h1)).mpr g.one⟩
theorem GoodS.elems {Es:List (Int×Value)}{D:List Str} (g:GoodS w Es D):ElemsOf (PySem.strKind prog w) Es:=fun e he=>by
 obtain ⟨x,t,_,rfl⟩:=g.in1 e he
 exact ⟨⟨x,by show Value.isStrOf x (.str x t) = true;simp [Value.isStrOf],rfl⟩,rfl⟩
theorem add_str {S:Addr}{ep:Nat}{es:Array (Int×Value)}{t:SetTable}{D:List Str}{x:Str}{tok:Tok} (hS:s.heap.get? S = some (y6 es ep t)) (hf:t.fits es.size = true) (g:GoodS w es.toList D) (hb:es.size + 1 < scanBound) (hpl:es.size≠0→t.plain = false) {Q:Bool→Shared→Prop}
  (q:∀ (b:Bool) (h':Heap) (tk:Nat) (es':Array (Int×Value)) (ep':Nat) (t':SetTable),h'.get? S = some (y6 es' ep' t')→Heap.SameBut S s.heap h'→t'.fits es'.size = true→t'.led = t.led→(es'.size≠0→t'.plain = false)→GoodS w es'.toList (D ++ [x])→es'.size≤es.size + 1→Q b { s with heap:=h',toks:=tk }) :
  wpAny (model prog w) A (setAdd S (.str x tok)) Q E s:=by
 have hkey:(PySem.strKind prog w).is x (.str x tok) = true:=by show Value.isStrOf x (.str x tok) = true;simp [Value.isStrOf]
 unfold setAdd
 refine wpAny_holding (wpAny_bind ((PySem.strKind prog w).pyHash hkey ?_))
 have hS1:({ s with toks:=s.toks + 1 }:Shared).heap.get? S = some (y6 es ep t):=hS
 unfold setAddHashed setAddHashedIn
 refine wpAny_holding (wpAny_bind (wpAny_setState_of hS1 rfl hf ?_))
 dsimp only
 rw [byScan_of (knd:=PySem.strKind prog w) rfl (by omega) g.elems]
 simp only [if_true]
 unfold setAddByScan
 refine wpAny_bind (wpAny_bind (wpAny_rule (wpAny_bind (wpAny_setScan_of (knd:=PySem.strKind prog w) hkey hS1 rfl hf g.elems ?_))))
 cases hr:List.findIdx? (fun e=>(PySem.strKind prog w).is x e.2) es.toList with
 | some j =>
  dsimp only
  obtain ⟨hj,hpj,_⟩:=List.findIdx?_eq_some_iff_getElem.mp hr
  refine wpAny_pure (wpAny_pure (q false s.heap _ es ep t hS (Heap.SameBut.refl S s.heap) hf rfl hpl ⟨fun e he=>?_,fun y hy=>?_,g.one⟩ (Nat.le_succ _)))
  ·obtain ⟨y,t',h1,h2⟩:=g.in1 e he
   exact ⟨y,t',List.mem_append_left _ h1,h2⟩
  ·rcases List.mem_append.mp hy with hy | hy
   ·exact g.in2 y hy
   ·rw [List.mem_singleton.mp hy]
    have hm:=List.getElem_mem hj
    obtain ⟨y',t',_,e⟩:=g.in1 _ hm
    rw [e] at hpj
    have:y' = x:=by
     have h5:Value.isStrOf x (.str y' t') = true:=hpj
     simpa [Value.isStrOf] using h5
    subst this
    exact ⟨t',by rw [← e];exact hm⟩
 | none =>
  dsimp only
  have hno:∀ e∈es.toList,∀ t',e.2≠.str x t':=fun e he t' z=>by
   have:=List.findIdx?_eq_none_iff.mp hr e he
   rw [z] at this
   have h5:Value.isStrOf x (.str x t') = false:=this
   simp [Value.isStrOf] at h5
  have hperm:=layNew_perm t es (hashStr w x) (.str x tok)
  have hfits:=layNew_fits t es (hashStr w x) (.str x tok)
  have hled:=b9 t es (hashStr w x) (.str x tok)
  have hh:(PySem.strKind prog w).hash x = hashStr w x:=rfl
  rw [hh]
  generalize hL:layNew t es (hashStr w x) (.str x tok) = L at hperm hfits hled ⊢
  obtain ⟨es1,t1,wasDummy,gave⟩:=L
  dsimp only at hperm hfits hled ⊢
  rw [Array.toList_push] at hperm
  have hsz:es1.size = es.size + 1:=by
   have:=hperm.length_eq
   simpa using this
  have good:GoodS w es1.toList (D ++ [x]):=by
   refine GoodS.perm (Es:=(hashStr w x,Value.str x tok) :: es.toList) ⟨fun e he=>?_,fun y hy=>?_,List.pairwise_cons.mpr ⟨fun e he y t1 t2 h1 h2=>?_,g.one⟩⟩ (hperm.trans (List.perm_append_singleton _ _))
   ·rcases List.mem_cons.mp he with rfl | he
    ·exact ⟨x,tok,List.mem_append_right _ (List.mem_singleton.mpr rfl),rfl⟩
    ·obtain ⟨y,t',h1,h2⟩:=g.in1 e he
     exact ⟨y,t',List.mem_append_left _ h1,h2⟩
   ·rcases List.mem_append.mp hy with hy | hy
    ·obtain ⟨t',h⟩:=g.in2 y hy
     exact ⟨t',List.mem_cons_of_mem _ h⟩
    ·rw [List.mem_singleton.mp hy]
     exact ⟨tok,List.mem_cons_self⟩
   ·cases h1
    exact hno e he t2 h2
  have hgw:∀ (b:Bool) (s₁:Shared) (Q':Unit→Shared→Prop),Q' () s₁→wpAny (model prog w) A (match b with | true=>rule "set.scan.the-table-gave-way" | false=>pure ()) Q' E s₁:=fun b s₁ Q' hq=>by
   cases b
   ·exact wpAny_pure hq
   ·exact wpAny_rule hq
  have tail:∀ t2:SetTable,t2.fits es1.size = true→t2.led = t.led→t2.plain = false→∀ (R:Option Bool→Shared→Prop),(∀ h' es' ep' t',h'.get? S = some (y6 es' ep' t')→Heap.SameBut S s.heap h'→t'.fits es'.size = true→t'.led = t.led→t'.plain = false→es'.toList.Perm es1.toList→R (some true) { s with heap:=h',toks:=s.toks + 1 }) →
    wpAny (model prog w) A (do
     storeSet S es1 t2
     if (!wasDummy && t2.tooFull) = true then do
      (match (relayAll t2 es1 (SetTable.grown es1.size)).2.2 with | true=>rule "set.scan.the-table-gave-way" | false=>pure ())
      storeSet S (relayAll t2 es1 (SetTable.grown es1.size)).1 (relayAll t2 es1 (SetTable.grown es1.size)).2.1
      pure (some true)
     else pure (some true)) R E { s with toks:=s.toks + 1 }:=by
   intro t2 f2 l2 p2 R hR
   refine wpAny_bind (u4 hS1 (fits_of_scanBound (by rw [hsz];exact hb)) fun h1 hS2 sb1=>?_)
   split
   ·have hp2:=relayAll_perm t2 es1 (SetTable.grown es1.size)
    have hf2:=relayAll_fits t2 es1 (SetTable.grown es1.size)
    obtain ⟨hl2,hpl2⟩:=jt t2 es1 (SetTable.grown es1.size)
    have hsz2:(relayAll t2 es1 (SetTable.grown es1.size)).1.size = es1.size:=by
     have:=hp2.length_eq
     simpa using this
    refine wpAny_bind (hgw _ _ _ (wpAny_bind (u4 (s:={ s with heap:=h1,toks:=s.toks + 1 }) hS2 (fits_of_scanBound (by rw [hsz2,hsz];exact hb)) fun h2 hS3 sb2=>wpAny_pure ?_)))
    exact hR h2 _ _ _ hS3 (sb1.trans sb2) hf2 (hl2.trans l2) (hpl2 p2) hp2
   ·exact wpAny_pure (hR h1 es1 _ t2 hS2 sb1 f2 l2 p2 .rfl)
  have fin:∀ h' es' ep' t',h'.get? S = some (y6 es' ep' t')→Heap.SameBut S s.heap h'→t'.fits es'.size = true→t'.led = t.led→t'.plain = false→es'.toList.Perm es1.toList→Q true { s with heap:=h',toks:=s.toks + 1 }:=fun h' es' ep' t' e1 e2 e3 e4 e5 e6=>by
   refine q true h' _ es' ep' t' e1 e2 e3 e4 (fun _=>e5) (good.perm e6) ?_
   have:=e6.length_eq
   simp at this
   omega
  refine wpAny_bind (hgw _ _ _ ?_)
  split
  ·rw [hashByValue_scannable 8 (x:=.str x tok) rfl]
   refine wpAny_bind (wpAny_pure ?_)
   simp only [plainKind,Bool.false_eq_true,if_false]
   exact tail { t1 with plain:=false } (SetTable.fits_plain_off hfits) hled rfl _ fun h' es' ep' t' e1 e2 e3 e4 e5 e6=>wpAny_pure (fin h' es' ep' t' e1 e2 e3 e4 e5 e6)
  ·rename_i hp1
   refine wpAny_bind (wpAny_pure ?_)
   simp only [if_true]
   exact tail t1 hfits hled (by simpa using hp1) _ fun h' es' ep' t' e1 e2 e3 e4 e5 e6=>wpAny_pure (fin h' es' ep' t' e1 e2 e3 e4 e5 e6)
end
end My
namespace My
open PySem PySem.Spec PySem.W PySem.Calls
open PyProof.Rows hiding St
namespace Srt
variable {O:KeyOrd}{key:Nat→O.α}{n:Nat}
def Ok {α:Type} (key:Nat→O.α) (n:Nat):KasT α→(α→Prop)→Prop
 | .ret a,P=>P a
 | .ask i j k,P=>i < n∧j < n∧Ok key n (k (O.blt (key i) (key j))) P
theorem Ok.mono {α:Type}{P P':α→Prop} (hp:∀ a,P a→P' a):∀ {t:KasT α},Ok key n t P→Ok key n t P'
 | .ret a,h=>hp a h
 | .ask i j k,h=>⟨h.1,h.2.1,Ok.mono hp h.2.2⟩
theorem Ok.bind {α β:Type}{f:α→KasT β}{P:β→Prop}:∀ {t:KasT α},Ok key n t (fun a=>Ok key n (f a) P)→Ok key n (t.bind f) P
 | .ret a,h=>h
 | .ask i j k,h=>⟨h.1,h.2.1,Ok.bind h.2.2⟩
theorem Ok.wp {α:Type}{cmp:Nat→Nat→(Bool→Shared→Prop)→Shared→Prop}{P:α→Prop}{Q:α→Shared→Prop}{s:Shared} (hc:∀ i j C,i < n→j < n→C (O.blt (key i) (key j)) s→cmp i j C s) (hq:∀ a,P a→Q a s):∀ {t:KasT α},Ok key n t P→t.kasWp cmp Q s
 | .ret a,h=>hq a h
 | .ask i j k,h=>hc i j _ h.1 h.2.1 (Ok.wp hc hq h.2.2)
def K (key:Nat→O.α) (p:Array Nat) (i:Nat):O.α:=key (p.getD i 0)
structure All (n:Nat) (p:Array Nat):Prop where
 pm:p.toList.Perm (List.range n)
theorem All.size {p:Array Nat} (a:All n p):p.size = n:=by
 have:=a.pm.length_eq
 simpa using this
theorem All.lt {p:Array Nat} (a:All n p) (hn:0 < n) (i:Nat):p.getD i 0 < n:=by
 by_cases hi:i < p.size
 ·have e:p.getD i 0 = p[i]:=by simp [Array.getD,hi]
  rw [e]
  have:p[i]∈p.toList:=by simp
  exact List.mem_range.mp (a.pm.mem_iff.mp this)
 ·have e:p.getD i 0 = 0:=by simp [Array.getD,hi]
  rw [e];exact hn
theorem All.of {p p':Array Nat} (a:All n p) (h:p'.Perm p):All n p':=⟨(Array.perm_iff_toList_perm.mp h).trans a.pm⟩
theorem vq {p:Array Nat}{i:Nat}:p.getD i 0 = (p[i]?).getD 0:=by
 by_cases hi:i < p.size
 ·simp [Array.getD,hi]
 ·simp [Array.getD,hi]
theorem Uc {p:Array Nat}{i j:Nat} (hj:j≤p.size) (k:Nat):K key (kas_rev p i j) k = if i≤k∧k < j then K key p (i + j - 1 - k) else K key p k:=by
 have e:=getElem?_mirror_all (xs:=p) (i:=i) hj k
 unfold K kas_rev
 rw [vq,e]
 split
 ·rw [← vq]
 ·rw [← vq]
theorem Re {p:Array Nat}{src d:Nat} (hs:src < p.size) (hd:d≤src) (k:Nat):K key (bubble p src d) k = if k = src - d then K key p src else if src - d < k∧k≤src then K key p (k - 1) else K key p k:=by
 have e:=getElem?_bubble hs d hd k
 unfold K
 rw [vq,e]
 by_cases h1:k = src - d
 ·rw [if_pos h1,if_pos h1,← vq]
 ·rw [if_neg h1,if_neg h1]
  by_cases h2:src - d < k∧k≤src
  ·rw [if_pos h2,if_pos h2,← vq]
  ·rw [if_neg h2,if_neg h2,← vq]
def Up (key:Nat→O.α) (p:Array Nat) (m:Nat):Prop:=∀ i j,i≤j→j < m→O.kle (K key p i) (K key p j)
def Dn (key:Nat→O.α) (p:Array Nat) (m:Nat):Prop:=∀ i j,i≤j→j < m→O.kle (K key p j) (K key p i)
theorem Up.step {p:Array Nat}{m:Nat} (h:Up key p m) (h1:1≤m) (hc:O.kle (K key p (m - 1)) (K key p m)):Up key p (m + 1):=fun i j hij hj=>by
 by_cases e:j = m
 ·subst e
  by_cases e2:i = j
  ·subst e2;exact KeyOrd.kle_refl _
  ·exact KeyOrd.kle_trans (h i (j - 1) (by omega) (by omega)) hc
 ·exact h i j hij (by omega)
theorem Dn.step {p:Array Nat}{m:Nat} (h:Dn key p m) (h1:1≤m) (hc:O.kle (K key p m) (K key p (m - 1))):Dn key p (m + 1):=fun i j hij hj=>by
 by_cases e:j = m
 ·subst e
  by_cases e2:i = j
  ·subst e2;exact KeyOrd.kle_refl _
  ·exact KeyOrd.kle_trans hc (h i (j - 1) (by omega) (by omega))
 ·exact h i j hij (by omega)
theorem c7 {p:Array Nat} (a:All n p) (hn:0 < n):∀ (f m:Nat),1≤m→Up key p m→Ok key n (kas_asc p f m) fun r=>m≤r∧r≤m + f∧Up key p r∧(r = m + f∨O.klt (K key p r) (K key p (r - 1)))
 | 0,m,h1,h=>⟨Nat.le_refl _,Nat.le_refl _,h,.inl rfl⟩
 | f + 1,m,h1,h=>by
  refine ⟨a.lt hn _,a.lt hn _,?_⟩
  cases hc:O.blt (key (p.getD m 0)) (key (p.getD (m - 1) 0)) with
  | true=>exact ⟨Nat.le_refl _,by omega,h,.inr hc⟩
  | false =>
   (try dsimp only);rw [if_neg Bool.false_ne_true]
   refine Ok.mono (fun r hr=>?_) (c7 a hn f (m + 1) (by omega) (h.step h1 hc))
   exact ⟨by omega,by omega,hr.2.2.1,hr.2.2.2.imp (fun e=>by omega) id⟩
theorem o4 {p:Array Nat}{i j:Nat} (hj:j≤p.size) (he:∀ k,i≤k→k < j→K key p k = K key p (j - 1)) (k:Nat):K key (kas_rev p i j) k = K key p k:=by
 rw [Uc hj]
 split
 ·rw [he _ (by omega) (by omega),he k (by omega) (by omega)]
 ·rfl
theorem t7 {p:Array Nat} (a:All n p) (i j:Nat):All n (kas_rev p i j):=a.of (mirror_perm _ _ _ _)
theorem qi (hn:0 < n):∀ (f:Nat) (p:Array Nat) (m q:Nat),All n p→1≤m→m + f≤n→q + 1≤m→Dn key p m→(∀ k,m - (q + 1)≤k→k < m→K key p k = K key p (m - 1)) →
  Ok key n (kas_desc f p m q) fun r=>All n r.1∧m≤r.2.1∧r.2.1≤m + f∧r.2.2 + 1≤r.2.1∧Dn key r.1 r.2.1∧∀ k,r.2.1 - (r.2.2 + 1)≤k→k < r.2.1→K key r.1 k = K key r.1 (r.2.1 - 1)
 | 0,p,m,q,a,h1,hf,hq,hd,he=>⟨a,Nat.le_refl _,Nat.le_refl _,hq,hd,he⟩
 | f + 1,p,m,q,a,h1,hf,hq,hd,he=>by
  refine ⟨a.lt hn _,a.lt hn _,?_⟩
  cases hc:O.blt (key (p.getD m 0)) (key (p.getD (m - 1) 0)) with
  | true =>
   (try dsimp only);rw [if_pos rfl]
   have hstep:Dn key p (m + 1):=hd.step h1 (KeyOrd.kle_of_klt hc)
   split
   ·have hsame:=o4 (key:=key) (p:=p) (i:=m - (q + 1)) (j:=m) (by rw [a.size];omega) he
    refine Ok.mono (fun r hr=>⟨hr.1,by omega,by omega,hr.2.2.2⟩) (qi hn f (kas_rev p (m - (q + 1)) m) (m + 1) 0 (t7 a _ _) (by omega) (by omega) (by omega) (fun i j hij hj=>?_) fun k h1 h2=>?_)
    ·rw [hsame,hsame];exact hstep i j hij hj
    ·have:k = m + 1 - 1:=by omega
     rw [this]
   ·refine Ok.mono (fun r hr=>⟨hr.1,by omega,by omega,hr.2.2.2⟩) (qi hn f p (m + 1) 0 a (by omega) (by omega) (by omega) hstep fun k h1 h2=>?_)
    have:k = m + 1 - 1:=by omega
    rw [this]
  | false =>
   (try dsimp only);rw [if_neg Bool.false_ne_true]
   refine ⟨a.lt hn _,a.lt hn _,?_⟩
   cases hc2:O.blt (key (p.getD (m - 1) 0)) (key (p.getD m 0)) with
   | true =>
    (try dsimp only);rw [if_pos rfl]
    exact ⟨a,Nat.le_refl _,(by show m≤m + (f + 1);omega),hq,hd,he⟩
   | false =>
    (try dsimp only);rw [if_neg Bool.false_ne_true]
    have heq:K key p m = K key p (m - 1):=O.total _ _ hc hc2
    refine Ok.mono (fun r hr=>⟨hr.1,by omega,by omega,hr.2.2.2⟩) (qi hn f p (m + 1) (q + 1) a (by omega) (by omega) (by omega) (hd.step h1 (by rw [heq];exact KeyOrd.kle_refl _)) fun k h1 h2=>?_)
    rw [show m + 1 - 1 = m by omega]
    by_cases e:k = m
    ·rw [e]
    ·rw [he k (by omega) (by omega),heq]
def Run (key:Nat→O.α) (n:Nat) (r:Nat×Array Nat):Prop:=All n r.2∧1≤r.1∧r.1≤n∧Up key r.2 r.1
theorem g5 (hn:0 < n) {p:Array Nat}{m:Nat} (a:All n p) (h1:1≤m) (hm:m≤n) (hd:Dn key p m):Ok key n (kas_tail3 m n p) (Run key n):=by
 unfold kas_tail3
 refine Ok.bind (Ok.mono (fun r hr=>?_) (c7 (t7 a 0 m) hn (n - m) m h1 fun i j hij hj=>?_))
 ·exact ⟨t7 a 0 m,by omega,by omega,hr.2.2.1⟩
 ·have hs:m≤p.size:=by rw [a.size];exact hm
  rw [Uc hs,Uc hs,if_pos ⟨by omega,by omega⟩,if_pos ⟨by omega,by omega⟩]
  exact hd _ _ (by omega) (by omega)
theorem rh (hn:0 < n) {p:Array Nat}{m:Nat} (a:All n p) (h1:1≤m) (hm:m < n) (hd:Dn key p (m + 1)):Ok key n (kas_descPart m n p) (Run key n):=by
 unfold kas_descPart
 refine Ok.bind (Ok.mono (fun r hr=>?_) (qi hn (n - (m + 1)) p (m + 1) 0 a (by omega) (by omega) (by omega) hd fun k h1 h2=>by rw [show k = m + 1 - 1 by omega]))
 obtain ⟨r1,r2,r3⟩:=r
 obtain ⟨a',b1,b2,b3,b4,b5⟩:=hr
 dsimp only at a' b1 b2 b3 b4 b5 ⊢
 split
 ·have hsame:=o4 (key:=key) (p:=r1) (i:=r2 - (r3 + 1)) (j:=r2) (by rw [a'.size];omega) b5
  exact g5 hn (t7 a' _ _) (by omega) (by omega) fun i j hij hj=>by rw [hsame,hsame];exact b4 i j hij hj
 ·exact g5 hn a' (by omega) (by omega) b4
theorem V5 {p:Array Nat} (a:All n p) (hn:0 < n):Ok key n (kas_count n p) (Run key n):=by
 unfold kas_count
 refine Ok.bind (Ok.mono (fun r hr=>?_) (c7 a hn (n - 1) 1 (Nat.le_refl _) fun i j hij hj=>by
  have:i = j:=by omega
  subst this;exact KeyOrd.kle_refl _))
 obtain ⟨h1,h2,h3,h4⟩:=hr
 by_cases e:r = n
 ·subst e
  simp only [beq_self_eq_true,if_true]
  exact ⟨a,h1,Nat.le_refl _,h3⟩
 ·have e':(r == n) = false:=by simpa using e
  simp only [e',Bool.false_eq_true,if_false]
  have hlt:r < n:=by omega
  have hdn:O.klt (K key p r) (K key p (r - 1)):=by
   rcases h4 with h4 | h4
   ·omega
   ·exact h4
  split
  ·refine ⟨a.lt hn _,a.lt hn _,?_⟩
   cases hc:O.blt (key (p.getD 0 0)) (key (p.getD (r - 1) 0)) with
   | true =>
    (try dsimp only);rw [if_pos rfl]
    exact ⟨a,h1,by omega,h3⟩
   | false =>
    (try dsimp only);rw [if_neg Bool.false_ne_true]
    have heq:∀ k,0≤k→k < r→K key p k = K key p (r - 1):=fun k _ hk=>by
     refine KeyOrd.kle_antisymm (h3 k (r - 1) (by omega) (by omega)) ?_
     exact KeyOrd.kle_trans (show O.kle (K key p (r - 1)) (K key p 0) from hc) (h3 0 k (by omega) hk)
    have hsame:=o4 (key:=key) (p:=p) (i:=0) (j:=r) (by rw [a.size];omega) heq
    refine rh hn (t7 a 0 r) h1 hlt fun i j hij hj=>?_
    rw [hsame,hsame]
    by_cases ej:j = r
    ·subst ej
     by_cases ei:i = j
     ·subst ei;exact KeyOrd.kle_refl _
     ·rw [heq i (by omega) (by omega)]
      exact KeyOrd.kle_of_klt hdn
    ·rw [heq i (by omega) (by omega),heq j (by omega) (by omega)]
     exact KeyOrd.kle_refl _
  ·have hr1:r = 1:=by omega
   subst hr1
   refine rh hn a (Nat.le_refl _) hlt fun i j hij hj=>?_
   by_cases ei:i = j
   ·subst ei;exact KeyOrd.kle_refl _
   ·have hi:i = 0:=by omega
    have hj:j = 1:=by omega
    subst hi hj
    exact KeyOrd.kle_of_klt hdn
theorem om {p:Array Nat} (a:All n p) (hn:0 < n) (k:Nat) (hk:k < n) (hu:Up key p k):∀ (f l r:Nat),l≤r→r≤k→r - l≤f→(∀ i,i < l→O.kle (K key p i) (K key p k))→(∀ i,r≤i→i < k→O.klt (K key p k) (K key p i)) →
  Ok key n (kas_place p k f l r) fun l'=>l'≤k∧(∀ i,i < l'→O.kle (K key p i) (K key p k))∧(∀ i,l'≤i→i < k→O.klt (K key p k) (K key p i))
 | 0,l,r,h1,h2,h3,h4,h5=>⟨by omega,h4,fun i hi=>h5 i (by omega)⟩
 | f + 1,l,r,h1,h2,h3,h4,h5=>by
  unfold kas_place
  split
  ·exact ⟨by omega,h4,fun i hi=>h5 i (by omega)⟩
  ·refine ⟨a.lt hn _,a.lt hn _,?_⟩
   cases hc:O.blt (key (p.getD k 0)) (key (p.getD ((l + r) / 2) 0)) with
   | true =>
    (try dsimp only);rw [if_pos rfl]
    exact om a hn k hk hu f l ((l + r) / 2) (by omega) (by omega) (by omega) h4 fun i hi hik=>KeyOrd.klt_of_klt_of_kle hc (hu _ _ hi hik)
   | false =>
    (try dsimp only);rw [if_neg Bool.false_ne_true]
    exact om a hn k hk hu f ((l + r) / 2 + 1) r (by omega) h2 (by omega) (fun i hi=>KeyOrd.kle_trans (hu i ((l + r) / 2) (by omega) (by omega)) (show O.kle (K key p ((l + r) / 2)) (K key p k) from hc)) h5
theorem V2 (hn:0 < n):∀ (f:Nat) (p:Array Nat) (k:Nat),All n p→k + f = n→Up key p k→Ok key n (kas_bin f p k) fun r=>All n r∧Up key r n
 | 0,p,k,a,hk,hu=>⟨a,by rw [← hk];exact hu⟩
 | f + 1,p,k,a,hk,hu=>by
  have hkn:k < n:=by omega
  refine Ok.bind (Ok.mono (fun l hl=>?_) (om a hn k hkn hu k 0 k (Nat.zero_le _) (Nat.le_refl _) (by omega) (fun i hi=>by omega) (fun i h1 h2=>by omega)))
  obtain ⟨hlk,hlo,hhi⟩:=hl
  have hs:k < p.size:=by rw [a.size];exact hkn
  refine V2 hn f (bubble p k (k - l)) (k + 1) (a.of (bubble_perm _ _ _)) (by omega) fun i j hij hj=>?_
  rw [Re hs (by omega),Re hs (by omega),show k - (k - l) = l by omega]
  by_cases ei:i = l
  ·rw [if_pos ei]
   by_cases ej:j = l
   ·rw [if_pos ej];exact KeyOrd.kle_refl _
   ·rw [if_neg ej,if_pos ⟨by omega,by omega⟩]
    exact KeyOrd.kle_of_klt (hhi _ (by omega) (by omega))
  ·rw [if_neg ei]
   by_cases ei2:l < i∧i≤k
   ·rw [if_pos ei2,if_neg (by omega),if_pos ⟨by omega,by omega⟩]
    exact hu _ _ (by omega) (by omega)
   ·rw [if_neg ei2]
    have hil:i < l:=by omega
    by_cases ej:j = l
    ·rw [if_pos ej];exact hlo i hil
    ·rw [if_neg ej]
     by_cases ej2:l < j∧j≤k
     ·rw [if_pos ej2];exact hu _ _ (by omega) (by omega)
     ·rw [if_neg ej2];exact hu _ _ hij (by omega)
theorem ok_sort (hn:0 < n):Ok key n (kas_sort n) fun r=>All n r∧Up key r n:=by
 unfold kas_sort
 have a0:All n (List.toArray (List.range n)):=⟨.rfl⟩
 refine Ok.bind (Ok.mono (fun r hr=>?_) (V5 a0 hn))
 obtain ⟨m,p⟩:=r
 obtain ⟨a,h1,h2,h3⟩:=hr
 dsimp only at a h1 h2 h3 ⊢
 split
 ·rw [show max m 1 = m by omega]
  exact V2 hn (n - m) p m a (by omega) h3
 ·have:m = n:=by omega
  subst this
  exact ⟨a,h3⟩
end Srt
end My
namespace My
open PySem PySem.Spec PySem.W PySem.Calls
open PyProof.Rows hiding St
section
variable {prog:Program}{w:World}{A:Around}{E:Value→Shared→Prop}{s:Shared}
theorem tz {D:Addr}{vs:List Value}{n0:Nat}{P:PySem.Fin→Shared→Prop} (ho:s.heap.get? D = some (seqObj "list" vs.toArray n0)) (h64:vs.length < 64) {O:KeyOrd} (key:Nat→O.α) (κ:SortKind)
  (hk:2≤vs.length→∀ (s1:Shared) (Q':SortKind→Shared→Prop) (E':Value→Shared→Prop),(∀ b o,b≠D→s.heap.get? b = some o→s1.heap.get? b = some o)→Q' κ s1→wpAny (model prog w) A (keyKind' vs.toArray) Q' E' s1)
  (hc:∀ (s1:Shared) (i j:Nat) (C:Bool→Shared→Prop) (E':Value→Shared→Prop),(∀ b o,b≠D→s.heap.get? b = some o→s1.heap.get? b = some o)→i < vs.length→j < vs.length→C (O.blt (key i) (key j)) s1→wpAny (model prog w) A (keyLt' κ (vs.getD i Value.none) (vs.getD j Value.none)) C E' s1)
  (h:∀ (p:Array Nat) (h':Heap) (e:Nat),Srt.All vs.length p→Srt.Up key p vs.length→(∀ b o,b≠D→s.heap.get? b = some o→h'.get? b = some o)→h'.get? D = some (seqObj "list" (p.toList.map fun i=>vs.getD i Value.none).toArray e)→P (.done (.ret .none)) { s with heap:=h' }) :
  wpAny (model prog w) A (Builtin.«list.sort» ⟨[.ref D],[]⟩) P E s:=by
 have hD:D < s.heap.objs.size:=Heap.lt_size ho
 obtain ⟨e1,ho1⟩:∃ e1,(s.heap.update D (Obj.mapSeq fun _=>(#[]:Array Value))).get? D = some (seqObj "list" #[] e1):=⟨_,get?_update_seq ho fun _=>#[]⟩
 rw [list_sort_plain]
 refine wpAny_bind (listItems_at ho rfl (wpAny_bind (listUpdate_at ho rfl (wpAny_bind (seqEpoch_at ho1 rfl (wpAny_bind (wpAny_newTuple (wpAny_bind (wpAny_newList (wpAny_holding ?_) (Nat.zero_le _))) (by show vs.length≤_;rw [sizeLine_eq];omega))))) (by rw [List.size_toArray,sizeLine_eq];omega) (Nat.zero_le _))))
 generalize hH:((s.heap.update D (Obj.mapSeq fun _=>(#[]:Array Value))).push (seqObj "tuple" vs.toArray 0)).push (seqObj "list" #[] 0) = H3
 have keep:∀ b o,b≠D→s.heap.get? b = some o→H3.get? b = some o:=fun b o hb e=>by
  rw [← hH]
  exact Heap.get?_push_of_some _ (Heap.get?_push_of_some _ ((Heap.get?_update_other _ _ (Ne.symm hb)).trans e))
 have ho3:H3.get? D = some (seqObj "list" #[] e1):=by
  rw [← hH]
  exact Heap.get?_push_of_some _ (Heap.get?_push_of_some _ ho1)
 have fin:∀ (p:Array Nat),Srt.All vs.length p→Srt.Up key p vs.length→P (.done (.ret .none)) { s with heap:=H3.update D (Obj.mapSeq fun _=>List.toArray (p.toList.map fun i=>vs.getD i Value.none)) }:=fun p hp hu =>
  h p _ _ hp hu (fun b o hb e=>(Heap.get?_update_other _ _ (Ne.symm hb)).trans (keep b o hb e)) (get?_update_seq ho3 fun _=>List.toArray (p.toList.map fun i=>vs.getD i Value.none))
 refine (show wpAny (model prog w) A _ P E { s with heap:=H3 } from ?_)
 dsimp only
 have hsz:vs.toArray.size = vs.length:=List.size_toArray
 by_cases h2:vs.toArray.size < 2
 ·rw [if_pos h2,if_pos h2]
  refine wpAny_bind (wpAny_pure ?_)
  rw [StateT.run_pure]
  refine wpAny_bind (wpAny_pure ?_)
  dsimp only
  have hid:(arrOf (SortSt.mk' general' (vs.toArray.zip vs.toArray) #[] 7 none)).map (·.2) = List.toArray ((List.range vs.length).map fun i=>vs.getD i Value.none):=by
   show (vs.toArray.zip vs.toArray).map (·.2) = _
   apply Array.toList_inj.mp
   apply List.ext_getElem
   ·simp
   ·intro i a1 a2
    have hi:i < vs.length:=by simpa using a2
    simp [hi]
  refine wpAny_bind (seqEpoch_at ho3 rfl ?_)
  rw [hid]
  refine wpAny_bind (listUpdate_at ho3 rfl ?_ (Nat.zero_le _) (by rw [List.size_toArray,List.length_map,List.length_range,sizeLine_eq];omega))
  simp only [bne_self_eq_false,Bool.false_eq_true,if_false]
  refine wpAny_pure ?_
  have:=fin (List.toArray (List.range vs.length)) ⟨.rfl⟩ fun i j hij hj=>by
   have:i = j:=by omega
   subst this
   exact KeyOrd.kle_refl _
  exact this
 ·rw [if_neg h2,if_neg h2]
  have h2':2≤vs.length:=by omega
  refine wpAny_bind (hk h2' { s with heap:=H3 } _ _ keep ?_)
  have ask:(kas_sort vs.length).kasWp (kas_ask prog w A κ vs) (fun p s'=>s' = { s with heap:=H3 }∧Srt.All vs.length p∧Srt.Up key p vs.length) { s with heap:=H3 } :=
   Srt.Ok.wp (fun i j C hi hj q=>hc { s with heap:=H3 } i j C _ keep hi hj q) (fun p hp=>⟨rfl,hp.1,hp.2⟩) (Srt.ok_sort (by omega))
  refine wpAny_bind (wpAny_mono (kat_run (Q:=fun st' s'=>∃ p:Array Nat,arrOf st' = p.map (kas_item (vs.toArray.zip vs.toArray))∧failedOf st' = none∧s' = { s with heap:=H3 }∧Srt.All vs.length p∧Srt.Up key p vs.length) rfl h2' h64 (fun p st' s' _ a2 a3 a4=>⟨p,a2,a3,a4⟩) ask) ?_ fun _ _ e=>e)
  rintro ⟨⟨⟩,st'⟩ s' ⟨p,har,hf,rfl,hp,hu⟩
  dsimp only
  rw [kat_snds rfl har]
  refine wpAny_bind (seqEpoch_at ho3 rfl (wpAny_bind (listUpdate_at ho3 rfl ?_ (Nat.zero_le _) ?_)))
  ·rw [hf]
   simp only [bne_self_eq_false,Bool.false_eq_true,if_false]
   exact wpAny_pure (fin p hp hu)
  ·have:=hp.size
   rw [List.size_toArray,List.length_map,Array.length_toList,this,sizeLine_eq]
   omega
end
end My
namespace My
open PySem PySem.Spec PySem.W PySem.Calls
open PyProof.Rows hiding St
def xw:List Bool→List Bool→Bool
 | [],[]=>false
 | [],_ :: _=>true
 | _ :: _,[]=>false
 | a :: x,b :: y=>if a = b then xw x y else !a && b
theorem re:∀ a,xw a a = false
 | []=>rfl
 | a :: x=>by rw [xw,if_pos rfl];exact re x
theorem nz:∀ a b c,xw a b = true→xw b c = true→xw a c = true
 | [],[],_,h,_=>by simp [xw] at h
 | [],_ :: _,[],_,h=>by simp [xw] at h
 | [],_ :: _,_ :: _,_,_=>rfl
 | _ :: _,[],_,h,_=>by simp [xw] at h
 | _ :: _,_ :: _,[],_,h=>by simp [xw] at h
 | a :: x,b :: y,c :: z,h1,h2=>by
  have ih:=nz x y z
  cases a <;> cases b <;> cases c <;> simp [xw] at h1 h2 ⊢ <;> exact ih h1 h2
theorem gj:∀ a b c,xw a c = true→xw a b = true∨xw b c = true
 | [],[],[],h=>by simp [xw] at h
 | [],[],_ :: _,_=>.inr rfl
 | [],_ :: _,_,_=>.inl rfl
 | _ :: _,_,[],h=>by simp [xw] at h
 | _ :: _,[],_ :: _,_=>.inr rfl
 | a :: x,b :: y,c :: z,h=>by
  have ih:=gj x y z
  cases a <;> cases b <;> cases c <;> simp [xw] at h ⊢ <;> exact ih h
theorem ud:∀ a b,xw a b = false→xw b a = false→a = b
 | [],[],_,_=>rfl
 | [],_ :: _,h,_=>by simp [xw] at h
 | _ :: _,[],_,h=>by simp [xw] at h
 | a :: x,b :: y,h1,h2=>by
  have ih:=ud x y
  cases a <;> cases b <;> simp [xw] at h1 h2 ⊢ <;> exact ih h1 h2
def Lz:KeyOrd where
 α:=List Bool
 blt:=xw
 irrefl:=re
 trans:=nz
 negTrans:=gj
 total:=ud
section
variable {prog:Program}{w:World}{A:Around}{E:Value→Shared→Prop}{s:Shared}
theorem P3 {a b:Bool}{Q:Bool→Shared→Prop} (h:Q (decide (b2i a < b2i b)) s):wpAny (model prog w) A (oneLt' true (.bool a) (.bool b)) Q E s:=by
 rw [oneLt'_eq]
 simp only [if_true]
 refine wpAny_bind (wpAny_cRoomFor_byValue rfl (wpAny_bind (wpAny_callSpecialIfBound?_slot (T:="bool") rfl PySem.F.slot_bool_lt (call_gives PySem.F.slot_bool_lt rfl PySem.F.entry_int_lt (PySem.F.args_int_lt_2 _ _) (gives_int_lt_bools a b) ?_))))
 exact wpAny_truthy_bool h
theorem bj {a b:Bool} (h:a≠b):decide (b2i a < b2i b) = (!a && b):=by cases a <;> cases b <;> first | rfl | exact absurd rfl h
theorem tw:∀ {k:List Bool}{vs:List Value},ItemsAre (m4 prog w) k vs→vs = k.map Value.bool
 | _,_,.nil=>rfl
 | _,_,.cons h r=>by rw [xu h,tw r];rfl
theorem Vh (b fin:Bool) {Q:Bool→Shared→Prop}:∀ (x y:List Bool) (i:Nat),fin = decide (x.length < y.length)→Q (xw x y) s→KatLex prog w A b fin Q ((x.map Value.bool).zip (y.map Value.bool)) i s
 | [],[],i,hf,h=>kat_nil (by rw [hf];exact h)
 | [],_ :: _,i,hf,h=>kat_nil (by rw [hf];simpa [xw] using h)
 | _ :: _,[],i,hf,h=>kat_nil (by rw [hf];simpa [xw] using h)
 | a :: x,c :: y,i,hf,h=>by
  refine kat_cons (SeqAt.EqAt.bool_bool a c _ _ _ _ ?_)
  by_cases e:a = c
  ·subst e
   have e2:(a == a) = true:=by simp
   rw [e2]
   refine kat_yes (Vh b fin x y (i + 1) (by rw [hf];simp) ?_)
   rw [xw,if_pos rfl] at h
   exact h
  ·have e2:(a == c) = false:=by simpa using e
   rw [e2]
   refine kat_no ?_
   rw [xw,if_neg e] at h
   cases hb:(b && i == 0) with
   | true=>exact P3 (by rw [bj e];exact h)
   | false=>exact kat_one _ _ (lt_bool (by rw [bj e];exact h))
theorem Sm {x y:Addr}{kx ky:List Bool} (b:Bool) {C:Bool→Shared→Prop} (hx:Bt prog w s.heap kx x) (hy:Bt prog w s.heap ky y) (h:C (xw kx ky) s):wpAny (model prog w) A (keyLt' (tuples' b) (.ref x) (.ref y)) C E s:=by
 obtain ⟨ox,ix,nx,e1,_,d1,i1⟩:=hx
 obtain ⟨oy,iy,ny,e2,_,d2,i2⟩:=hy
 refine kat_lt e1 d1 e2 d2 ?_
 have h1:=tw i1
 have h2:=tw i2
 have l1:ix.size = kx.length:=by rw [← Array.length_toList,h1,List.length_map]
 have l2:iy.size = ky.length:=by rw [← Array.length_toList,h2,List.length_map]
 rw [h1,h2,l1,l2]
 exact Vh b _ kx ky 0 rfl h
theorem qz:∀ (R:List (Addr×List Bool)),(∀ r∈R,Bt prog w s.heap r.2 r.1∧r.2≠[])→∃ fs:List Value,KatTups s.heap (R.map fun r=>Value.ref r.1) fs∧fs.length = R.length∧∀ v∈fs,∃ b,v = .bool b
 | [],_=>⟨[],.nil,rfl,fun v hv=>by simp at hv⟩
 | r :: R,h=>by
  obtain ⟨fs,h1,h2,h3⟩:=qz R fun q hq=>h q (List.mem_cons_of_mem _ hq)
  obtain ⟨⟨o,its,n,ho,hc,hd,hi⟩,hne⟩:=h r List.mem_cons_self
  have e:=tw hi
  cases hk:r.2 with
  | nil=>exact absurd hk hne
  | cons b k =>
   rw [hk,List.map_cons] at e
   refine ⟨.bool b :: fs,KatTups.cons ho hc hd (by rw [← Array.getElem?_toList,e];rfl) h1,by simp [h2],fun v hv=>?_⟩
   rcases List.mem_cons.mp hv with rfl | hv
   ·exact ⟨b,rfl⟩
   ·exact h3 v hv
theorem Zb {D:Addr}{R:List (Addr×List Bool)}{n0:Nat}{P:PySem.Fin→Shared→Prop} (ho:s.heap.get? D = some (seqObj "list" (R.map fun r=>Value.ref r.1).toArray n0)) (hR:∀ r∈R,Bt prog w s.heap r.2 r.1∧r.2≠[]) (h64:R.length < 64)
  (h:∀ (R':List (Addr×List Bool)) (h':Heap) (e:Nat),R'.Perm R→(R'.map (·.2)).Pairwise (fun a b=>xw b a = false)→(∀ b o,b≠D→s.heap.get? b = some o→h'.get? b = some o)→h'.get? D = some (seqObj "list" (R'.map fun r=>Value.ref r.1).toArray e)→P (.done (.ret .none)) { s with heap:=h' }) :
  wpAny (model prog w) A (Builtin.«list.sort» ⟨[.ref D],[]⟩) P E s:=by
 have hl:(R.map fun r=>Value.ref r.1).length = R.length:=List.length_map _
 have tup:∀ {h':Heap},(∀ b o,b≠D→s.heap.get? b = some o→h'.get? b = some o)→∀ r∈R,Bt prog w h' r.2 r.1∧r.2≠[]:=fun {h'} k r hr=>by
  obtain ⟨⟨o,its,n,e,hc,hd,hi⟩,hne⟩:=hR r hr
  refine ⟨⟨o,its,n,k _ _ (fun z=>?_) e,hc,hd,hi⟩,hne⟩
  rw [z] at e
  have:=congrArg Obj.cls (Option.some.inj (e.symm.trans ho))
  rw [hc] at this
  simp at this
 refine tz (O:=Lz) ho (by rw [hl];exact h64) (fun i=>(R.getD i (0,[])).2) (tuples' true) (fun h2 s1 Q' E' k q=>?_) (fun s1 i j C E' k hi hj q=>?_) fun p h' e ha hu k eD=>?_
 ·obtain ⟨fs,h1,h2',h3⟩:=qz (s:=s1) R (tup k)
  refine kat_kind (T:=.type "bool") h1 (by rw [h2'];rw [hl] at h2;omega) (fun v hv=>?_) rfl q
  obtain ⟨b,rfl⟩:=h3 v hv
  exact Looks.of_pure rfl
 ·rw [hl] at hi hj
  have e1:(R.map fun r=>Value.ref r.1).getD i Value.none = .ref (R.getD i (0,[])).1:=by simp [hi]
  have e2:(R.map fun r=>Value.ref r.1).getD j Value.none = .ref (R.getD j (0,[])).1:=by simp [hj]
  have m1:R.getD i (0,[])∈R:=by simp [hi]
  have m2:R.getD j (0,[])∈R:=by simp [hj]
  rw [e1,e2]
  exact Sm true (tup k _ m1).1 (tup k _ m2).1 q
 ·rw [hl] at ha hu
  have hp:(p.toList.map fun i=>R.getD i (0,[])).Perm R:=by
   have h1:=ha.pm.map fun i=>R.getD i (0,[])
   have h2:(List.range R.length).map (fun i=>R.getD i (0,[])) = R:=by
    apply List.ext_getElem
    ·simp
    ·intro i a1 a2
     simp [a2]
   rw [h2] at h1
   exact h1
  refine h (p.toList.map fun i=>R.getD i (0,[])) h' e hp ?_ k ?_
  ·rw [List.map_map,List.pairwise_iff_getElem]
   intro i j hi hj hij
   have hi':i < p.size:=by simpa using hi
   have hj':j < p.size:=by simpa using hj
   have:=hu i j (Nat.le_of_lt hij) (by rw [← ha.size];exact hj')
   have g1:p.getD i 0 = p[i]:=by simp [Array.getD,hi']
   have g2:p.getD j 0 = p[j]:=by simp [Array.getD,hj']
   unfold Srt.K at this
   rw [g1,g2] at this
   have h9:xw (R.getD p[j] (0,[])).2 (R.getD p[i] (0,[])).2 = false:=this
   simpa using h9
  ·rw [eD,List.map_map]
   congr 3
   apply List.map_congr_left
   intro i hi
   have hi':i < R.length:=List.mem_range.mp (ha.pm.mem_iff.mp hi)
   simp [hi']
end
end My
namespace My
open PySem PySem.Spec PySem.W PySem.Calls L2
open PyProof.Rows hiding St
open Tb
theorem az:∀ {vs:List Value}{ss:List Str},StrsAre vs ss→∀ (i:Nat) (v:Value),vs[i]? = some v→∃ x t,ss[i]? = some x∧v = .str x t
 | _,_,.nil,i,v,h=>by simp at h
 | _,_,.cons x t r,0,v,h=>⟨x,t,rfl,by simpa using h.symm⟩
 | _,_,.cons x t r,i + 1,v,h=>by
  obtain ⟨y,u,h1,h2⟩:=az r i v (by simpa using h)
  exact ⟨y,u,by simpa using h1,h2⟩
section
variable {X:Cx}
theorem ge {pins:List (Addr×Obj)}{σ:St}{H:Hp}{s:Shared} (I:Inv X pins σ H s) (d:Drawn):Inv X pins σ H { s with drawn:=d }:=⟨I.ok,I.os,I.bare,I.base,I.loc,I.cell,I.free,I.freeC,I.pin,I.hok,I.len⟩
theorem T7 (hc:X.calm = true) {pins:List (Addr×Obj)}{σ:St}{H:Hp}{s:Shared} (I:Inv X pins σ H s) {p:Addr}{ss:List Str}{Q:VK} (hq:SqL X.K H p (ss.map V.str)∨SqT X.K H p (ss.map V.str)) (hlen:ss.length + 1 < scanBound) (h64:∀ ss':List Str,ss'.Nodup→(∀ x∈ss',x∈ss)→ss'.length < 64)
  (q:∀ ss':List Str,ss'.Nodup→(∀ x,x∈ss' ↔ x∈ss)→sortedS ss' = true→New H (.lst (ss'.map V.str)) Q) :
  wpAny (model X.prog X.w) X.A (call (.type "set") [.ref p]) (fun u s'=>wpAny (model X.prog X.w) X.A (call (.builtin "sorted") [u]) (EP X pins σ Q) X.xe s') X.xe s:=by
 obtain ⟨its,rv,pl⟩:∃ its:List Value,Vals (ss.map V.str) its∧(s.heap.IsList p its.toArray∨s.heap.IsTuple p its.toArray):=by
  rcases hq with hq | hq
  ·obtain ⟨its,rv,pl,_⟩:=I.list hq
   exact ⟨its,rv,.inl pl.isList⟩
  ·obtain ⟨its,rv,pl,_⟩:=I.tuple hq
   exact ⟨its,rv,.inr pl⟩
 have hst:=l4 rv
 have hil:its.length = ss.length:=by rw [← rv.length,List.length_map]
 have hh:X.A.handled = none:=I.ok.hd hc
 refine Q2 hh pl (fun i h=>∃ es ep t,h.get? s.heap.objs.size = some (y6 es ep t)∧t.fits es.size = true∧t.led = !byT X.w∧(es.size≠0→t.plain = false)∧GoodS X.w es.toList (ss.take i)∧es.size≤i) ?_ ?_ ?_ ?_
 ·rintro i h h' ⟨es,ep,t,e,r⟩ k
  exact ⟨es,ep,t,k _ _ (Nat.ne_of_lt (Nat.lt_succ_self _)) e,r⟩
 ·refine ⟨#[],0,_,Heap.get?_push_size _ rfl,rfl,rfl,fun z=>absurd rfl z,⟨fun e he=>by simp at he,fun x hx=>by simp at hx,.nil⟩,Nat.le_refl _⟩
 ·rintro i v A' s' Q' E' hu hv ⟨es,ep,t,e,f,l,pn,g,le⟩ qq
  have hv':its[i]? = some v:=by simpa using hv
  obtain ⟨x,tok,hx,rfl⟩:=az hst i v hv'
  have hi:i < ss.length:=(List.getElem?_eq_some_iff.mp hx).1
  refine add_str e f g (by omega) pn fun b h' tk es' ep' t' e' sb f' l' pn' g' le'=>qq b h' tk sb ⟨es',ep',t',e',f',l'.trans l,pn',?_,by omega⟩
  rw [List.take_add_one,hx]
  exact g'
 ·rintro h' tk ⟨es,ep,t,e,f,l,pn,g,le⟩ keep
  have hits:its.toArray.size = ss.length:=by rw [List.size_toArray,hil]
  rw [hits,List.take_length] at g
  rw [hits] at le
  have hup:t.plain = true→t.place.toList.Pairwise (· < ·):=fun hp=>by
   have h0:es.size = 0:=Classical.byContradiction fun z=>by rw [pn z] at hp;cases hp
   have:=f6 f
   have h1:t.place.toList = []:=List.length_eq_zero_iff.mp (by rw [Array.length_toList,this,h0])
   rw [h1]
   exact .nil
  have hzl:es.size≤sizeLine:=fits_of_scanBound (by omega)
  refine ph (s:={ s with heap:=h',toks:=tk }) hh e f l hup hzl fun D h2 d tk2 ws hp keep2 hD eD=>?_
  have hws:∀ v,v∈ws→∃ x t,v = .str x t:=fun v hv=>by
   obtain ⟨e1,he1,rfl⟩:=List.mem_map.mp (hp.mem_iff.mp hv)
   obtain ⟨x,t,_,rfl⟩:=g.in1 e1 he1
   exact ⟨x,t,rfl⟩
  have hS:=strsAre_map ws hws
  have hmem:∀ x,x∈ws.map strOf ↔ x∈ss:=fun x=>by
   constructor
   ·intro hx
    obtain ⟨v,hv,rfl⟩:=List.mem_map.mp hx
    obtain ⟨e1,he1,rfl⟩:=List.mem_map.mp (hp.mem_iff.mp hv)
    obtain ⟨y,t,hy,rfl⟩:=g.in1 e1 he1
    exact hy
   ·intro hx
    obtain ⟨t,ht⟩:=g.in2 x hx
    exact List.mem_map.mpr ⟨.str x t,hp.mem_iff.mpr (List.mem_map.mpr ⟨_,ht,rfl⟩),rfl⟩
  have hnd:(ws.map strOf).Nodup:=by
   have h1:(es.toList.map (·.2)).Pairwise fun v v'=>∀ x t t',v = .str x t→v'≠.str x t':=List.pairwise_map.mpr g.one
   have h2:=(hp.pairwise_iff (fun {a b} hab x t t' z1 z2=>hab x t' t z2 z1)).mpr h1
   refine List.pairwise_map.mpr (List.Pairwise.imp_of_mem (fun {a b} ha hb hab=>?_) h2)
   obtain ⟨x,t,rfl⟩:=hws a ha
   obtain ⟨y,t',rfl⟩:=hws b hb
   intro z
   have z':x = y:=z
   subst z'
   exact hab x t t' rfl rfl
  have hl64:ws.length < 64:=by
   have:=h64 _ hnd fun x hx=>(hmem x).mp hx
   rwa [List.length_map] at this
  refine wpAny_call_entry slot_list_sort ⟨_,eD,rfl⟩ entry_list_sort (list_sort_treeK strKind_oneLt eD hS.keysOf (fun v₁ v₂ rest e=>keyKind_strs (by rw [← e];exact hS)) hl64 fun st' a1 a2=>⟨_,rfl,?_⟩) (args_list_sort _)
  obtain ⟨ss',b1,b2,b3⟩:=sorted_out_str hS a1 a2
  have hDs:s.heap.objs.size≤D:=Nat.le_trans (Nat.le_of_lt (Heap.lt_size e)) hD
  obtain ⟨e2,he2⟩:=sortedHeap_at (out:=(arrOf st').map (·.2)) eD
  have hn:H D = none:=I.hok.fresh hDs
  refine ⟨.ref D,upd H D (.lst (ss'.map V.str)),?_,rfl,(q ss' (b2.nodup_iff.mpr hnd) (fun x=>(b2.mem_iff).trans (hmem x)) b3).at D hn⟩
  refine (ge I d).laid (t':=tk2) (fun b o eb=>?_) hDs ⟨?_,((arrOf st').map (·.2)).toList,e2,ls b1,by rw [Array.toArray_toList];exact he2⟩
  ·have hbs:b < s.heap.objs.size:=Heap.lt_size eb
   have eb2:=keep2 b o (keep b o eb)
   rw [sortedHeap_old (Nat.ne_of_lt (Nat.lt_of_lt_of_le hbs hDs)) (Heap.lt_size eb2)]
   exact eb2
  ·rw [List.length_map,b2.length_eq,List.length_map]
   exact Nat.le_of_lt (Nat.lt_of_lt_of_le hl64 (by decide))
end
end My
namespace My
open PySem PySem.Spec PySem.W PySem.Calls L2
open PyProof.Rows hiding St
open Tb
theorem gf {prog:Program}{w:World}:∀ k:List Bool,ItemsAre (m4 prog w) k (k.map Value.bool)
 | []=>.nil
 | b :: k=>.cons (by show Ya b (.bool b) = true;simp [Ya]) (gf k)
section
variable {X:Cx}
theorem Mm {pins:List (Addr×Obj)}{σ:St}{H:Hp}{s:Shared} (I:Inv X pins σ H s) {a:Addr}{k:List Bool} (h:SqT X.K H a (k.map V.bl)):Bt X.prog X.w s.heap k a:=by
 obtain ⟨its,rv,⟨o,e,hc,n,d⟩,_⟩:=I.tuple h
 have:=xh rv
 subst this
 exact ⟨o,_,n,e,hc,d,gf k⟩
theorem sy:∀ {as:List Addr}{us:List Value},Vals (as.map V.ref) us→us = as.map Value.ref
 | [],us,r=>by cases r;rfl
 | a :: as,us,r=>by
  rw [List.map_cons] at r
  cases r with
  | cons r1 r2 =>
   cases r1
   rw [sy r2]
   rfl
theorem sr:∀ (as:List Addr),Vals (as.map V.ref) (as.map Value.ref)
 | []=>.nil
 | a :: as=>.cons rfl (sr as)
theorem T3 (hc:X.calm = true) (hu:X.A.units + 64 < cLine) {pins:List (Addr×Obj)}{σ:St}{H:Hp}{s:Shared} (I:Inv X pins σ H s) {p:Addr}{R:List (Addr×List Bool)}{Q:VK} (hq:SqL X.K H p (R.map fun r=>V.ref r.1)) (hR:∀ r∈R,SqT X.K H r.1 (r.2.map V.bl)∧r.2≠[]) (h64:R.length < 64)
  (q:∀ R':List (Addr×List Bool),(∀ r∈R',r∈R)→(R'.map (·.2)).Nodup→(∀ k,k∈R'.map (·.2) ↔ k∈R.map (·.2))→(R'.map (·.2)).Pairwise (fun a b=>xw b a = false)→R'.length≤R.length→New H (.lst (R'.map fun r=>V.ref r.1)) Q) :
  wpAny (model X.prog X.w) X.A (call (.type "set") [.ref p]) (fun u s'=>wpAny (model X.prog X.w) X.A (call (.builtin "sorted") [u]) (EP X pins σ Q) X.xe s') X.xe s:=by
 obtain ⟨its,rv,pl,hz⟩:=I.list hq
 have eits:its = R.map fun r=>Value.ref r.1:=by
  have h1:(R.map fun r=>V.ref r.1) = (R.map (·.1)).map V.ref:=by rw [List.map_map];rfl
  rw [h1] at rv
  rw [sy rv,List.map_map]
  rfl
 have hBt:∀ r∈R,Bt X.prog X.w s.heap r.2 r.1:=fun r hr=>Mm I (hR r hr).1
 have hh:X.A.handled = none:=I.ok.hd hc
 have old:∀ {h:Heap},(∀ b o,s.heap.get? b = some o→h.get? b = some o)→∀ r∈R,Bt X.prog X.w h r.2 r.1:=fun {h} k r hr=>(hBt r hr).mono fun o ho=>k _ o ho
 refine rj hh pl.isList (fun i h=>∃ L es ep t,h.get? s.heap.objs.size = some (y6 es ep t)∧Rep L es t∧tj L t∧t.led = !byT X.w∧Good X.prog X.w h (L.map (·.2)) ((R.take i).map (·.2))∧L.length≤i∧(∀ e∈L.map (·.2),∃ r∈R,e.2 = .ref r.1)∧∀ r∈R,Bt X.prog X.w h r.2 r.1) ?_ ?_ ?_ ?_
 ·rintro i h h' ⟨L,es,ep,t,e,r,r5,l,g,le,me,ob⟩ k
  have kt:∀ r∈R,Bt X.prog X.w h' r.2 r.1:=fun r hr=>(ob r hr).mono fun o ho=>k _ o (fun z=>by
   obtain ⟨o2,_,_,e2,_⟩:=hBt r hr
   have:=Heap.lt_size e2
   rw [z] at this
   exact absurd this (Nat.not_lt.mpr (Nat.le_succ _))) ho
  refine ⟨L,es,ep,t,k _ _ (Nat.ne_of_lt (Nat.lt_succ_self _)) e,r,r5,l,?_,le,me,kt⟩
  have upE:∀ e1 k1,e1∈L.map (·.2)→Elem X.prog X.w h e1 k1→Elem X.prog X.w h' e1 k1:=fun e1 k1 he1 x=>by
   obtain ⟨r1,hr1,er1⟩:=me e1 he1
   obtain ⟨b,eb,hb,hh1⟩:=x
   rw [er1] at eb
   cases eb
   exact ⟨r1.1,er1,by
    have e3:=(ob r1 hr1).inj hb
    subst e3
    exact kt r1 hr1,hh1⟩
  have dnE:∀ e1 k1,e1∈L.map (·.2)→Elem X.prog X.w h' e1 k1→Elem X.prog X.w h e1 k1:=fun e1 k1 he1 x=>by
   obtain ⟨k2,_,x2⟩:=g.in1 e1 he1
   have:=(upE e1 k2 he1 x2).inj x
   subst this
   exact x2
  exact ⟨fun e1 h1=>let ⟨k1,a1,a2⟩:=g.in1 e1 h1;⟨k1,a1,upE e1 k1 h1 a2⟩,fun k1 h1=>let ⟨e1,a1,a2⟩:=g.in2 k1 h1;⟨e1,a1,upE e1 k1 a1 a2⟩,
   List.Pairwise.imp_of_mem (fun {a b} ha hb hab k1 x1 x2=>hab k1 (dnE a k1 ha x1) (dnE b k1 hb x2)) g.one⟩
 ·refine ⟨[],#[],0,_,Heap.get?_push_size _ rfl,⟨rfl,rfl,rfl,.nil,fun x hx=>by simp at hx,.inl rfl,by simp⟩,(show 0 * 5 < 7 * 3 by decide),rfl,⟨fun e he=>by simp at he,fun k hk=>by simp at hk,.nil⟩,Nat.le_refl _,fun e he=>by simp at he,old fun b o e=>Heap.get?_push_of_some _ e⟩
 ·rintro i v A' s' Q' E' hu' hv ⟨L,es,ep,t,e,r,r5,l,g,le,me,ob⟩ qq
  rw [eits] at hv
  have hv':(R.map fun r=>Value.ref r.1)[i]? = some v:=by simpa using hv
  rw [List.getElem?_map] at hv'
  cases hri:R[i]? with
  | none=>rw [hri] at hv';cases hv'
  | some r1 =>
   rw [hri] at hv'
   cases hv'
   have hm:=List.mem_of_getElem? hri
   have hi:i < R.length:=(List.getElem?_eq_some_iff.mp hri).1
   refine Ry (by omega) r r5 (by omega) e g (ob r1 hm) fun b h' tk L' es' ep' t' e' sb r' r5' l' pl' g' le' me'=>qq b h' tk sb ⟨L',es',ep',t',e',r',r5',l'.trans l,?_,by omega,fun e1 he1=>?_,fun r2 hr2=>?_⟩
   ·rw [List.take_add_one,hri,List.map_append]
    exact g'
   ·rcases me' e1 he1 with z | z
    ·exact me e1 z
    ·exact ⟨r1,hm,z⟩
   ·obtain ⟨o2,i2,n2,e2,c2,rest⟩:=ob r2 hr2
    exact ⟨o2,i2,n2,ia e sb _ _ c2 e2,c2,rest⟩
 ·rintro h' tk ⟨L,es,ep,t,e,r,r5,l,g,le,me,ob⟩ keep
  have hits:its.toArray.size = R.length:=by rw [eits,List.size_toArray,List.length_map]
  rw [hits] at g le
  rw [List.take_length] at g
  have hes:es.toList = L.map (·.2):=by rw [r.es]
  have hesz:es.size = L.length:=by rw [r.es];simp
  have hup:t.plain = true→t.place.toList.Pairwise (· < ·):=fun _=>by rw [r.pl];exact r.up
  refine ph (s:={ s with heap:=h',toks:=tk }) hh e r.fits l hup (by rw [hesz,sizeLine_eq];omega) fun D h2 d tk2 ws hp keep2 hD eD=>?_
  rw [hes] at hp
  have hrow:∀ v∈ws,∃ r1∈R,v = .ref r1.1:=fun v hv=>by
   obtain ⟨e1,he1,rfl⟩:=List.mem_map.mp (hp.mem_iff.mp hv)
   exact me e1 he1
  have pick:∀ ws:List Value,(∀ v∈ws,∃ r1∈R,v = .ref r1.1)→∃ R1:List (Addr×List Bool),(∀ r1∈R1,r1∈R)∧ws = R1.map fun r1=>Value.ref r1.1:=by
   intro ws
   induction ws with
   | nil=>exact fun _=>⟨[],by simp,rfl⟩
   | cons v ws ih =>
    intro hws
    obtain ⟨R1,h1,h2⟩:=ih fun v hv=>hws v (List.mem_cons_of_mem _ hv)
    obtain ⟨r1,hr1,e1⟩:=hws v List.mem_cons_self
    refine ⟨r1 :: R1,fun y hy=>?_,by rw [e1,h2];rfl⟩
    rcases List.mem_cons.mp hy with rfl | hy
    ·exact hr1
    ·exact h1 y hy
  obtain ⟨R1,hR1,ews⟩:=pick ws hrow
  have elem_of:∀ r1∈R,∀ e1∈L.map (·.2),e1.2 = .ref r1.1→Elem X.prog X.w h' e1 r1.2:=fun r1 hr1 e1 he1 z=>by
   obtain ⟨k1,_,b,eb,hb,hh1⟩:=g.in1 e1 he1
   rw [z] at eb
   cases eb
   have:=(ob r1 hr1).inj hb
   subst this
   exact ⟨r1.1,z,hb,hh1⟩
  have hmem:∀ k,k∈R1.map (·.2) ↔ k∈R.map (·.2):=fun k=>by
   constructor
   ·intro hk
    obtain ⟨r1,hr1,rfl⟩:=List.mem_map.mp hk
    exact List.mem_map_of_mem (hR1 r1 hr1)
   ·intro hk
    obtain ⟨e1,he1,hE⟩:=g.in2 k hk
    have hv:e1.2∈ws:=hp.mem_iff.mpr (List.mem_map_of_mem he1)
    rw [ews] at hv
    obtain ⟨r1,hr1,er1⟩:=List.mem_map.mp hv
    have:=(elem_of r1 (hR1 r1 hr1) e1 he1 er1.symm).inj hE
    exact List.mem_map.mpr ⟨r1,hr1,this⟩
  have hnd:(R1.map (·.2)).Nodup:=by
   have h1:((L.map (·.2)).map (·.2)).Pairwise fun v v'=>∀ r1∈R,∀ r2∈R,v = .ref r1.1→v' = .ref r2.1→r1.2≠r2.2 :=
    List.pairwise_map.mpr (List.Pairwise.imp_of_mem (fun {a b} ha hb hab r1 hr1 r2 hr2 z1 z2 z3=>hab r1.2 (elem_of r1 hr1 a ha z1) (z3 ▸ elem_of r2 hr2 b hb z2)) g.one)
   have h2:=(hp.pairwise_iff (fun {a b} hab r1 hr1 r2 hr2 z1 z2 z3=>hab r2 hr2 r1 hr1 z2 z1 z3.symm)).mpr h1
   rw [ews] at h2
   exact List.pairwise_map.mpr (List.Pairwise.imp_of_mem (fun {a b} ha hb hab z=>hab a (hR1 a ha) b (hR1 b hb) rfl rfl z) (List.pairwise_map.mp h2))
  have hR1l:R1.length = L.length:=by
   have:=hp.length_eq
   rw [ews] at this
   simpa using this
  rw [ews] at eD
  refine wpAny_call_entry slot_list_sort ⟨_,eD,rfl⟩ entry_list_sort (Zb (prog:=X.prog) (w:=X.w) eD (fun r1 hr1=>⟨(ob r1 (hR1 r1 hr1)).mono fun o ho=>keep2 _ o ho,(hR r1 (hR1 r1 hr1)).2⟩) (by omega) fun R2 h3 e3 pm up k3 eD3=>⟨_,rfl,?_⟩) (args_list_sort _)
  have hDs:s.heap.objs.size≤D:=Nat.le_trans (Nat.le_of_lt (Heap.lt_size e)) hD
  have hn:H D = none:=I.hok.fresh hDs
  have q2:=q R2 (fun r1 hr1=>hR1 r1 (pm.mem_iff.mp hr1)) ((pm.map (·.2)).nodup_iff.mpr hnd) (fun k=>((pm.map (·.2)).mem_iff).trans (hmem k)) up (by rw [pm.length_eq];omega)
  refine ⟨.ref D,upd H D (.lst (R2.map fun r1=>V.ref r1.1)),?_,rfl,q2.at D hn⟩
  refine (ge I d).laid (t':=tk2) (fun b o eb=>?_) hDs ⟨?_,R2.map (fun r1=>Value.ref r1.1),e3,?_,eD3⟩
  ·have hbs:b < s.heap.objs.size:=Heap.lt_size eb
   exact k3 b o (Nat.ne_of_lt (Nat.lt_of_lt_of_le hbs hDs)) (keep2 b o (keep b o eb))
  ·rw [List.length_map,pm.length_eq,sizeLine_eq]
   omega
  ·have h1:(R2.map fun r=>V.ref r.1) = (R2.map (·.1)).map V.ref:=by rw [List.map_map];rfl
   have h2:(R2.map fun r=>Value.ref r.1) = (R2.map (·.1)).map Value.ref:=by rw [List.map_map];rfl
   rw [h1,h2]
   exact sr _
def mSS (K:PySem.W.Frag):V→Hp→VK→Prop:=fun v H Q=>match v with
 | .ref p=>(∃ ss:List Str,(SqL K H p (ss.map V.str)∨SqT K H p (ss.map V.str))∧ss.length + 1 < scanBound∧(∀ ss':List Str,ss'.Nodup→(∀ x∈ss',x∈ss)→ss'.length < 64)∧∀ ss':List Str,ss'.Nodup→(∀ x,x∈ss' ↔ x∈ss)→sortedS ss' = true→New H (.lst (ss'.map V.str)) Q) ∨
  ∃ R:List (Addr×List Bool),SqL K H p (R.map fun r=>V.ref r.1)∧(∀ r∈R,SqT K H r.1 (r.2.map V.bl)∧r.2≠[])∧R.length < 64 ∧
   ∀ R':List (Addr×List Bool),(∀ r∈R',r∈R)→(R'.map (·.2)).Nodup→(∀ k,k∈R'.map (·.2) ↔ k∈R.map (·.2))→(R'.map (·.2)).Pairwise (fun a b=>xw b a = false)→R'.length≤R.length→New H (.lst (R'.map fun r=>V.ref r.1)) Q
 | _=>False
theorem L6 {K:PySem.W.Frag}{H:Hp}{Q:VK}{p:Addr}:mSS K (.ref p) H Q = ((∃ ss:List Str,(SqL K H p (ss.map V.str)∨SqT K H p (ss.map V.str))∧ss.length + 1 < scanBound∧(∀ ss':List Str,ss'.Nodup→(∀ x∈ss',x∈ss)→ss'.length < 64)∧∀ ss':List Str,ss'.Nodup→(∀ x,x∈ss' ↔ x∈ss)→sortedS ss' = true→New H (.lst (ss'.map V.str)) Q) ∨
  ∃ R:List (Addr×List Bool),SqL K H p (R.map fun r=>V.ref r.1)∧(∀ r∈R,SqT K H r.1 (r.2.map V.bl)∧r.2≠[])∧R.length < 64 ∧
   ∀ R':List (Addr×List Bool),(∀ r∈R',r∈R)→(R'.map (·.2)).Nodup→(∀ k,k∈R'.map (·.2) ↔ k∈R.map (·.2))→(R'.map (·.2)).Pairwise (fun a b=>xw b a = false)→R'.length≤R.length→New H (.lst (R'.map fun r=>V.ref r.1)) Q):=rfl
def tSS (K:PySem.W.Frag) (te:TE):TE:=fun σ H Q=>te σ H fun v H1=>mSS K v H1 Q
theorem w8 {e:Expr}{te:TE}{p1 p2 pos1 pos2:Pos} (hc:X.calm = true) (hu:X.A.units + 64 < cLine) (g1:Gl X "sorted") (m1:X.mg "sorted" = none) (g2:Gl X "set") (m2:X.mg "set" = none) (ha:PE X e te)
  (he1:starEach [.Call (.Name "set" p2) [e] [] pos2] X.env = [(false,eval (.Call (.Name "set" p2) [e] [] pos2) X.env)]:=by rfl) (he2:starEach [e] X.env = [(false,eval e X.env)]:=by rfl) :
  PE X (.Call (.Name "sorted" p1) [.Call (.Name "set" p2) [e] [] pos2] [] pos1) (tSS X.K te):=by
 intro pins s σ H Q I h
 refine wpAny_Call_Name_kw (xb I g1 m1 r8 (PyProof.Rows.callWith_builtin1 ?_ he1 rfl))
 rw [he1]
 refine (show wpAny _ _ (spliced ((false,eval (.Call (.Name "set" p2) [e] [] pos2) X.env) :: [])) _ _ s from Calls.spliced_cons ?_)
 refine wpAny_Call_Name_kw (xb I g2 m2 O8 (PyProof.Rows.callWith_type1 ?_ he2 rfl))
 rw [he2]
 refine (show wpAny _ _ (spliced ((false,eval e X.env) :: [])) _ _ s from Calls.spliced_cons (thn (ha pins s σ H _ I h) fun u s1 ⟨x,H1,I1,r1,q1⟩=>Calls.spliced_nil ?_))
 cases x with
 | ref a =>
  cases r1
  rcases (show _∨_ from q1) with ⟨ss,b1,b2,b3,b4⟩ | ⟨R,b1,b2,b3,b4⟩
  ·exact thn (T7 hc I1 b1 b2 b3 b4) fun u2 s2 h2=>Calls.spliced_nil h2
  ·exact thn (T3 hc hu I1 b1 b2 b3 b4) fun u2 s2 h2=>Calls.spliced_nil h2
 | _=>exact (show False from q1).elim
end
end My
namespace My
open PySem PySem.Spec PySem.W PySem.Calls L2
open PyProof.Rows hiding St
section
variable {X:Cx}
def mDN:TE:=fun _ H Q=>New H (.dK []) Q
theorem Vu {pos:Pos}:PE X (.Dict [] [] pos) mDN:=Wh Wg fun σ H Q q p n=>New.at q p n
def Pq:Ue:=fun x y v H k=>match x with
 | .ref a=>(∃ kvs ky,H a = some (.dK kvs)∧y = kV ky∧kvs.length < sizeLine∧k (upd H a (.dK (v8 kvs ky v))))∨(∃ xs i,∃ j:Nat,H a = some (.lst xs)∧y = .int i∧i = (j:Int)∧j < xs.length∧k (upd H a (.lst (xs.set j v))))
 | _=>False
theorem Og {a:Addr}{y v:V}{H:Hp}{k:Hp→Prop}:Pq (.ref a) y v H k = ((∃ kvs ky,H a = some (.dK kvs)∧y = kV ky∧kvs.length < sizeLine∧k (upd H a (.dK (v8 kvs ky v))))∨(∃ xs i,∃ j:Nat,H a = some (.lst xs)∧y = .int i∧i = (j:Int)∧j < xs.length∧k (upd H a (.lst (xs.set j v))))):=rfl
theorem al (hu:X.A.units + 64 < cLine):Rx X Pq:=by
 intro pins s σ H o i v ov iv u Q I ro ri rv h
 cases o with
 | ref a =>
  cases ro
  rcases (show _∨_ from h) with ⟨kvs,ky,e,rfl,hl,q⟩ | ⟨xs,i',j,e,rfl,rfl,hj,q⟩
  ·exact X2 (by omega) I (.inl ⟨kvs,ky,e,rfl,hl,rfl⟩) ri rv fun s' I'=>⟨_,I',q⟩
  ·exact W3 pins s σ H (.ref a) _ v _ iv u Q I rfl ri rv ⟨a,xs,(j:Int),j,rfl,rfl,e,by unfold ixN;rw [if_pos (Int.natCast_nonneg j),if_pos (Int.ofNat_lt.mpr hj),Int.toNat_natCast],q⟩
 | _=>exact (show False from h).elim
theorem Ni {o i e:Expr}{to ti te:TE}{p1 p2:Pos} (hu:X.A.units + 64 < cLine) (ho:PE X o to) (hi:PE X i ti) (he:PE X e te)
  (ha:∀ v,assign (.Subscript o i p1) X.env v = (do
   let ov ← holding [v] (eval o X.env)
   let iv ← holding [v,ov] (eval i X.env)
   standAt p1
   holding [v,ov,iv] (setItem ov iv v)
   release [v,ov,iv] []):=by intro _;rfl)
  (hs:swapsWithSole [.Subscript o i p1] e p2.line X.env = pure false:=by rfl) (hw:swappedStores [.Subscript o i p1] e X.env = pure none:=by rfl)
  (h1:(assignEach [.Subscript o i p1] X.env).map (·.2) = [assign (.Subscript o i p1) X.env]:=by rfl):PS X (.Assign [.Subscript o i p1] e p2) (Zf te (Sc to ti Pq)):=Wr he (Wm ho hi (al hu) ha) hs hw h1
end
end My
namespace My
open PySem PySem.Spec PySem.W PySem.Calls L2
open PyProof.Rows hiding St
theorem xg {α:Type} [DecidableEq α]:∀ {l m:List α},l.Nodup→(∀ x∈l,x∈m)→l.length≤m.length
 | [],_,_,_=>Nat.zero_le _
 | a :: l,m,hn,hs=>by
  rw [List.nodup_cons] at hn
  have ha:=hs a List.mem_cons_self
  have ih:=xg (l:=l) (m:=m.erase a) hn.2 fun x hx=>(List.mem_erase_of_ne (by intro z;subst z;exact hn.1 hx)).mpr (hs x (List.mem_cons_of_mem _ hx))
  rw [List.length_erase_of_mem ha] at ih
  have:=List.length_pos_of_mem ha
  rw [List.length_cons]
  omega
def leS (a b:Str):Prop:=ltCps b.cps.toList a.cps.toList = false
theorem leS_iff {a b:Str}:leS a b ↔ strKind.kle a.cps.toList b.cps.toList:=by
 unfold leS
 rw [ltCps_eq]
 exact Iff.rfl
theorem Yi {a b c:Str} (h1:leS a b) (h2:leS b c):leS a c:=leS_iff.mpr (KeyOrd.kle_trans (leS_iff.mp h1) (leS_iff.mp h2))
theorem Vg {a b:Str} (h1:leS a b) (h2:leS b a):a = b:=by
 have:=KeyOrd.kle_antisymm (leS_iff.mp h1) (leS_iff.mp h2)
 cases a
 cases b
 congr 1
 exact Array.toList_inj.mp this
theorem vn:∀ (p:Str) (l:List Str),risingS p l = true→(p :: l).Pairwise leS
 | p,[],_=>List.pairwise_singleton _ _
 | p,x :: r,h=>by
  have h':(!ltCps x.cps.toList p.cps.toList && risingS x r) = true:=h
  rw [Bool.and_eq_true] at h'
  have hpx:leS p x:=by unfold leS;simpa using h'.1
  have ih:=vn x r h'.2
  refine List.pairwise_cons.mpr ⟨fun y hy=>?_,ih⟩
  rcases List.mem_cons.mp hy with rfl | hy
  ·exact hpx
  ·exact Yi hpx ((List.pairwise_cons.mp ih).1 y hy)
theorem vo:∀ (l:List Str),sortedS l = true→l.Pairwise leS
 | [],_=>.nil
 | x :: r,h=>vn x r h
theorem Zc {a b:List Str} (h1:sortedS a = true) (h2:sortedS b = true) (n1:a.Nodup) (n2:b.Nodup) (he:∀ x,x∈a ↔ x∈b):a = b :=
 List.Perm.eq_of_pairwise (fun _ _ _ _ x y=>Vg x y) (vo a h1) (vo b h2) ((List.perm_ext_iff_of_nodup n1 n2).mpr he)
theorem Tu {a b:List (List Bool)} (h1:a.Pairwise fun x y=>xw y x = false) (h2:b.Pairwise fun x y=>xw y x = false) (n1:a.Nodup) (n2:b.Nodup) (he:∀ x,x∈a ↔ x∈b):a = b :=
 List.Perm.eq_of_pairwise (fun _ _ _ _ x y=>ud _ _ y x) h1 h2 ((List.perm_ext_iff_of_nodup n1 n2).mpr he)
open Classical in
theorem Ny (kvs:List (Key×V)) (k:Key) (v:V):(v8 kvs k v).map (·.1) = if k∈kvs.map (·.1) then kvs.map (·.1) else kvs.map (·.1) ++ [k]:=by
 unfold v8
 have hk:(kvs.any fun kv=>decide (kv.1 = k)) = true ↔ k∈kvs.map (·.1):=by
  rw [List.any_eq_true,List.mem_map]
  constructor
  ·rintro ⟨x,h1,h2⟩
   exact ⟨x,h1,of_decide_eq_true h2⟩
  ·rintro ⟨x,h1,h2⟩
   exact ⟨x,h1,decide_eq_true h2⟩
 by_cases h:k∈kvs.map (·.1)
 ·rw [if_pos h,if_pos (hk.mpr h),List.map_map]
  apply List.map_congr_left
  intro x _
  show (if x.1 = k then (x.1,v) else x).1 = x.1
  split <;> rfl
 ·rw [if_neg h,if_neg (fun z=>h (hk.mp z)),List.map_append]
  rfl
end My
namespace My
open PySem PySem.Spec L2
open PyProof.Rows hiding St
def Say.subs:Say→List Say
 | .letter _=>[]
 | .neg s=>[s]
 | .bin _ s t=>[s,t]
theorem rn (s:Say):s.pieces = 1 + (s.subs.map Say.pieces).sum:=by
 cases s <;> simp [Say.subs,Say.pieces] <;> omega
theorem t9 {s:Say} (h:s.subs≠[]):s.letters = (s.subs.map Say.letters).flatten:=by
 cases s <;> simp [Say.subs,Say.letters] at h ⊢
theorem yn:∀ s:Say,s.letters.length≤s.pieces
 | .letter _=>Nat.le_refl _
 | .neg s=>Nat.le_succ_of_le (yn s)
 | .bin _ s t=>by
  have h1:=yn s
  have h2:=yn t
  simp only [Say.letters,Say.pieces,List.length_append]
  omega
theorem g9 {K:PySem.W.Frag}{H:Hp}{v:V}{s:Say} (h:SayAt K H v s) (hn:s.subs≠[]):∃ a wd us,v = .ref a∧SqT K H a (.str wd :: us)∧decide (wd = Str.ofString "letter") = false∧us.length = s.subs.length∧us.length≤2∧∀ (i:Nat) u,us[i]? = some u→∃ t,s.subs[i]? = some t∧SayAt K H u t∧t.pieces < s.pieces:=by
 cases s with
 | letter x=>exact absurd rfl hn
 | neg t =>
  obtain ⟨a,u,rfl,ha,ht⟩:=h
  refine ⟨a,_,[u],rfl,ha,w10,rfl,by simp,fun i x hx=>?_⟩
  match i,hx with
  | 0,hx =>
   cases hx
   exact ⟨t,rfl,ht,Nat.lt_succ_self _⟩
  | i + 1,hx=>simp at hx
 | bin o t t' =>
  obtain ⟨a,u,u',rfl,ha,ht,ht'⟩:=h
  refine ⟨a,_,[u,u'],rfl,ha,by cases o <;> first | exact w20 | exact w30 | exact w40,rfl,by simp,fun i x hx=>?_⟩
  match i,hx with
  | 0,hx =>
   cases hx
   exact ⟨t,rfl,ht,by simp only [Say.pieces];omega⟩
  | 1,hx =>
   cases hx
   exact ⟨t',rfl,ht',by simp only [Say.pieces];omega⟩
  | i + 2,hx=>simp at hx
theorem i7 {α:Type} (x:α) (us:List α):atI (x :: us) 0 = some x:=yo (xs:=x :: us) (j:=0) rfl
theorem m7 (x:V) (us:List V):wj (x :: us) (some 1) none = us:=by
 unfold wj
 have e1:HT.sIx (x :: us).length 0 (some 1) = 1:=by
  show (if (1:Int) < 0 then ((1:Int) + ((x :: us).length:Int)).toNat else min (1:Int).toNat (x :: us).length) = 1
  rw [if_neg (by decide)]
  show min 1 (us.length + 1) = 1
  omega
 rw [e1,HT.sIx_none]
 show (us.take (us.length + 1 - 1)) = us
 rw [Nat.add_sub_cancel,List.take_length]
theorem m8:∀ (ts:List Say),((ts.map Say.letters).flatten).length≤(ts.map Say.pieces).sum
 | []=>Nat.le_refl _
 | t :: ts=>by
  have h1:=yn t
  have h2:=m8 ts
  simp only [List.map_cons,List.flatten_cons,List.length_append,List.sum_cons]
  omega
theorem p8 (f:Say→Nat):∀ (ts:List Say) (i:Nat),((ts.take i).map f).sum≤(ts.map f).sum
 | [],i=>by simp
 | t :: ts,0=>by simp
 | t :: ts,i + 1=>by
  have:=p8 f ts i
  simp only [List.take_succ_cons,List.map_cons,List.sum_cons]
  omega
end My
namespace My
open PySem PySem.Spec PySem.W PySem.Calls L2
open PyProof.Rows hiding St
section
variable {X:Cx}
def M3 (neg:Bool):R2:=fun x y H Q=>y = .non∧Q (.bl (if neg then !decide (x = .non) else decide (x = .non))) H
theorem Nc:OpR X (compareOp .Is) (M3 false):=vd P7 fun _ _ _ _ h=>h
def Po:V→List V→Hp→VK→Prop:=fun x vs H Q=>match x,vs with
 | .ref l,[.int i,y]=>∃ xs,H l = some (.lst xs)∧xs.length < sizeLine∧0≤i∧i < 2 ^ 62∧Q .non (upd H l (.lst (xs.take i.toNat ++ y :: xs.drop i.toNat)))
 | _,_=>False
theorem N7 {l:Addr}{i:Int}{y:V}{H:Hp}{Q:VK}:Po (.ref l) [.int i,y] H Q = ∃ xs,H l = some (.lst xs)∧xs.length < sizeLine∧0≤i∧i < 2 ^ 62∧Q .non (upd H l (.lst (xs.take i.toNat ++ y :: xs.drop i.toNat))):=rfl
theorem l5:∀ {xs:List V}{us:List Value} (n:Nat),Vals xs us→Vals (xs.take n) (us.take n)
 | _,_,0,_=>.nil
 | _,_,n + 1,.nil=>.nil
 | _,_,n + 1,.cons h r=>.cons h (l5 n r)
theorem lz:∀ {xs:List V}{us:List Value} (n:Nat),Vals xs us→Vals (xs.drop n) (us.drop n)
 | _,_,0,h=>h
 | _,_,n + 1,.nil=>.nil
 | _,_,n + 1,.cons h r=>lz n r
theorem Nb:MtR X "list.insert" Po:=fun pins s σ H x xs v us Q I rx rs h=>by
 match x,xs,h with
 | .ref l,[.int i,y],h =>
  obtain ⟨ys,hH,hz,h0,h1,q⟩:=(show ∃ ys,H l = some (.lst ys)∧ys.length < sizeLine∧0≤i∧i < 2 ^ 62∧Q .non (upd H l (.lst (ys.take i.toNat ++ y :: ys.drop i.toNat))) from h)
  cases rx
  cases rs with
  | cons r1 rs =>
   cases rs with
   | cons r2 rs =>
    cases rs
    obtain ⟨t,rfl⟩:=r1
    rename_i u
    obtain ⟨z,its,n,r,hl,e⟩:=I.lstM hH
    refine call_meets PySem.F.slot_list_insert ⟨_,e,rfl⟩ PySem.F.entry_list_insert (PySem.F.args_list_insert_3 _ _ _) (AutoSeq1.list_insert_list_int_val_1 l its.toArray n i t u (by rw [fitsIndex_both (by omega) (by omega)];simp) (by rw [List.size_toArray];omega)) ⟨e,?_⟩
    refine ⟨.non,_,I.lset (its':=its.take i.toNat ++ u :: its.drop i.toNat) hH e ?_ ((l5 _ r).append (.cons r2 (lz _ r))) ?_,rfl,q⟩
    ·have e1:(if i < 0 then (i + (its.toArray.size:Int)).toNat else min i.toNat its.toArray.size) = min i.toNat its.length:=by rw [if_neg (by omega),List.size_toArray]
     show (its.toArray.extract 0 (if i < 0 then (i + (its.toArray.size:Int)).toNat else min i.toNat its.toArray.size)).push u ++ its.toArray.extract (if i < 0 then (i + (its.toArray.size:Int)).toNat else min i.toNat its.toArray.size) = _
     rw [e1,kl_ins_eq]
     by_cases hm:i.toNat≤its.length
     ·rw [Nat.min_eq_left hm]
     ·rw [Nat.min_eq_right (by omega),List.take_length,List.drop_length,List.take_of_length_le (by omega),List.drop_eq_nil_of_le (by omega)]
    ·rw [List.length_append,List.length_cons,List.length_take,List.length_drop]
     omega
def Lv:V→List V→Hp→VK→Prop:=fun x vs H Q=>match x,vs with
 | .ref l,[]=>∃ xs,H l = some (.lst xs)∧Q .non (upd H l (.lst []))
 | _,_=>False
theorem N0 {l:Addr}{H:Hp}{Q:VK}:Lv (.ref l) [] H Q = ∃ xs,H l = some (.lst xs)∧Q .non (upd H l (.lst [])):=rfl
def mAA (g:List Bool→Bool) (K:PySem.W.Frag):List V→Hp→VK→Prop:=fun xs H Q=>match xs with
 | [.ref p]=>∃ bs:List Bool,SqL K H p (bs.map V.bl)∧Q (.bl (g bs)) H
 | _=>False
theorem L3 {g:List Bool→Bool}{K:PySem.W.Frag}{p:Addr}{H:Hp}{Q:VK}:mAA g K [.ref p] H Q = ∃ bs:List Bool,SqL K H p (bs.map V.bl)∧Q (.bl (g bs)) H:=rfl
end
end My
namespace My
open PySem PySem.Spec L2
open PyProof.Rows hiding St
def SaysAt (K:PySem.W.Frag) (H:Hp):List V→List Say→Prop
 | [],[]=>True
 | v :: vs,s :: ss=>SayAt K H v s∧SaysAt K H vs ss
 | _,_=>False
theorem SaysAt.mono {K:PySem.W.Frag}{H H':Hp} (t:Tups H H'):∀ {vs:List V}{ss:List Say},SaysAt K H vs ss→SaysAt K H' vs ss
 | [],[],_=>trivial
 | v :: vs,s :: ss,h=>⟨h.1.mono t,SaysAt.mono t h.2⟩
 | [],_ :: _,h=>h.elim
 | _ :: _,[],h=>h.elim
theorem SaysAt.app {K:PySem.W.Frag}{H:Hp}:∀ {vs:List V}{ss:List Say}{vs':List V}{ss':List Say},SaysAt K H vs ss→SaysAt K H vs' ss'→SaysAt K H (vs ++ vs') (ss ++ ss')
 | [],[],_,_,_,h=>h
 | v :: vs,s :: ss,_,_,h,h'=>⟨h.1,SaysAt.app h.2 h'⟩
 | [],_ :: _,_,_,h,_=>h.elim
 | _ :: _,[],_,_,h,_=>h.elim
theorem SaysAt.len {K:PySem.W.Frag}{H:Hp}:∀ {vs:List V}{ss:List Say},SaysAt K H vs ss→vs.length = ss.length
 | [],[],_=>rfl
 | v :: vs,s :: ss,h=>by rw [List.length_cons,List.length_cons,SaysAt.len h.2]
 | [],_ :: _,h=>h.elim
 | _ :: _,[],h=>h.elim
def ut (ts:List Say):List Str:=(ts.map Say.letters).flatten
theorem Uj (a b:List Say):ut (a ++ b) = ut a ++ ut b:=by simp [ut]
def Y7 (k:List Bool):PyData:=.tuple (k.map PyData.bool)
theorem ga (K:PySem.W.Frag) (H:Hp):∀ k:List Bool,HasL K H (k.map V.bl) (k.map PyData.bool)
 | []=>by simp [HasL]
 | x :: k=>by
  have ih:=ga K H k
  rw [List.map_cons,List.map_cons]
  unfold HasL
  exact ⟨_,_,rfl,by unfold Has;rfl,ih⟩
theorem Z2 {K:PySem.W.Frag}{H:Hp}{a:Addr}{k:List Bool} (h:SqT K H a (k.map V.bl)):Has K H (.ref a) (Y7 k):=by
 unfold Y7 Has
 exact ⟨a,_,rfl,h,ga K H k⟩
theorem Z7:∀ k:List Bool,PyData.canLayAll0 (k.map PyData.bool) = true∧PyData.depthAll (k.map PyData.bool) = 0
 | []=>by simp [PyData.canLayAll0,PyData.depthAll]
 | x :: k=>by
  obtain ⟨h1,h2⟩:=Z7 k
  rw [List.map_cons]
  refine ⟨?_,?_⟩
  ·rw [PyData.canLayAll0,h1,Bool.and_true,PyData.canLay0]
  ·rw [PyData.depthAll,h2,PyData.depth]
   rfl
theorem Sl (k:List Bool):PyData.canLay0 (Y7 k) = true∧PyData.depth (Y7 k) = 1:=by
 obtain ⟨h1,h2⟩:=Z7 k
 unfold Y7
 exact ⟨by rw [PyData.canLay0];exact h1,by rw [PyData.depth,h2]⟩
theorem uh (k:List Bool):SeqAt.shaped (Y7 k) = true:=by
 obtain ⟨h1,h2⟩:=Sl k
 unfold SeqAt.shaped
 rw [h1,h2]
 rfl
def NamesOf (ts:List Say) (ss:List Str):Prop:=ss.Nodup∧(∀ x,x∈ss ↔ x∈ut ts)∧sortedS ss = true
theorem NamesOf.eq {ts:List Say}{a b:List Str} (h1:NamesOf ts a) (h2:NamesOf ts b):a = b:=Zc h1.2.2 h2.2.2 h1.1 h2.1 fun x=>(h1.2.1 x).trans (h2.2.1 x).symm
def ve (ts:List Say) (hs:List Str):List Bool:=ts.map fun t=>t.so hs
theorem su (ts:List Say) (hs:List Str):(ve ts hs).length = ts.length:=by simp [ve]
def FitRows (ts:List Say) (ss:List Str) (ks:List (List Bool)):Prop:=ks.Nodup∧(∀ k,k∈ks ↔ ∃ n,n < 2 ^ ss.length∧k = ve ts (zj (n:Nat) ss))∧ks.Pairwise (fun a b=>xw b a = false)
theorem FitRows.eq {ts:List Say}{ss:List Str}{a b:List (List Bool)} (h1:FitRows ts ss a) (h2:FitRows ts ss b):a = b:=Tu h1.2.2 h2.2.2 h1.1 h2.1 fun x=>(h1.2.1 x).trans (h2.2.1 x).symm
theorem mem_allL {x:Str}{ts:List Say}:x∈ut ts ↔ ∃ t∈ts,x∈t.letters:=by
 unfold ut
 rw [List.mem_flatten]
 constructor
 ·rintro ⟨l,hl,hx⟩
  obtain ⟨t,ht,rfl⟩:=List.mem_map.mp hl
  exact ⟨t,ht,hx⟩
 ·rintro ⟨t,ht,hx⟩
  exact ⟨t.letters,List.mem_map_of_mem ht,hx⟩
theorem SaysAt.at {K:PySem.W.Frag}{H:Hp}:∀ {vs:List V}{ts:List Say},SaysAt K H vs ts→∀ (i:Nat) v,vs[i]? = some v→∃ t,ts[i]? = some t∧SayAt K H v t
 | [],[],_,i,v,h=>by simp at h
 | v :: vs,t :: ts,h,0,u,e=>by
  cases e
  exact ⟨t,rfl,h.1⟩
 | v :: vs,t :: ts,h,i + 1,u,e=>by simpa using SaysAt.at h.2 i u (by simpa using e)
 | [],_ :: _,h,_,_,_=>h.elim
 | _ :: _,[],h,_,_,_=>h.elim
structure Lst (ts:List Say) (xs:List Str):Prop where
 lo:1≤ts.length
 hi:ts.length≤6
 pc:∀ t∈ts,t.pieces≤40
 nm:∀ x∈ut ts,x∈xs
 xl:xs.length≤5
 ok:∀ x∈xs,Nm x
theorem Lst.names {ts:List Say}{xs ss:List Str} (l:Lst ts xs) (h:NamesOf ts ss):ss.length≤5∧∀ x∈ss,Nm x :=
 ⟨Nat.le_trans (xg h.1 fun x hx=>l.nm x ((h.2.1 x).mp hx)) l.xl,fun x hx=>l.ok x (l.nm x ((h.2.1 x).mp hx))⟩
theorem mq:∀ ts:List Say,(∀ t∈ts,t.pieces≤40)→(ut ts).length≤40 * ts.length
 | [],_=>Nat.le_refl _
 | t :: ts,h=>by
  have h1:=yn t
  have h2:=h t List.mem_cons_self
  have h3:=mq ts fun u hu=>h u (List.mem_cons_of_mem _ hu)
  simp only [ut,List.map_cons,List.flatten_cons,List.length_append,List.length_cons] at h3 ⊢
  omega
end My
namespace My
open PySem PySem.Spec PySem.W PySem.Calls L2
open PyProof.Rows hiding St
section
variable {X:Cx}
def Mv (K:PySem.W.Frag):V→List V→Hp→VK→Prop:=fun x vs H Q=>match x,vs with
 | .ref l,[.ref b]=>∃ xs zs,H l = some (.lst xs)∧(H b = some (.lst zs)∨SqT K H b zs)∧xs.length + zs.length≤sizeLine∧Q .non (upd H l (.lst (xs ++ zs)))
 | _,_=>False
theorem Qu {K:PySem.W.Frag}{l b:Addr}{H:Hp}{Q:VK}:Mv K (.ref l) [.ref b] H Q = ∃ xs zs,H l = some (.lst xs)∧(H b = some (.lst zs)∨SqT K H b zs)∧xs.length + zs.length≤sizeLine∧Q .non (upd H l (.lst (xs ++ zs))):=rfl
theorem Mb {C:Addr→Addr→Prop}{x:V}{vs:List V} (h:match x,vs with | .ref l,[.ref b]=>C l b | _,_=>False):∃ l b,x = .ref l∧vs = [.ref b]∧C l b:=by
 cases x with
 | ref l =>
  cases vs with
  | nil=>exact (show False from h).elim
  | cons y t =>
   cases t with
   | nil =>
    cases y with
    | ref b=>exact ⟨l,b,rfl,rfl,h⟩
    | _=>exact (show False from h).elim
   | cons _ _=>exact (show False from by cases y <;> exact h).elim
 | _=>exact (show False from by rcases vs with _ | ⟨y,_ | ⟨_,_⟩⟩ <;> first | exact h | (cases y <;> exact h)).elim
theorem Vw:MtR X "list.extend" (Mv X.K):=fun pins s σ H x xs v us Q I rx rs h=>by
 obtain ⟨l,b,rfl,rfl,ys,zs,e,e2,z,q⟩:=Mb (C:=fun l b=>∃ xs zs,H l = some (.lst xs)∧(H b = some (.lst zs)∨SqT X.K H b zs)∧xs.length + zs.length≤sizeLine∧Q .non (upd H l (.lst (xs ++ zs)))) h
 rcases e2 with e2 | e2
 ·exact Yp pins s σ H _ _ v us Q I rx rs ⟨l,b,ys,zs,rfl,rfl,e,e2,z,q⟩
 ·cases rx
  obtain ⟨u,rfl,ru⟩:=ua rs
  cases ru
  obtain ⟨hz,its,n,r,hl,el⟩:=I.lstM e
  obtain ⟨its2,r2,⟨o2,eb,hc2,n2,hd2⟩,_⟩:=I.tuple e2
  have hl2:=r2.length
  refine wpAny_call_entry PySem.F.slot_list_extend ⟨_,el,rfl⟩ PySem.F.entry_list_extend ?_ (PySem.F.args_list_extend_2 _ _)
  refine (show wpAny _ _ (Builtin.List.listExtendWith (.ref l) (.ref b) .none) _ _ s from ?_)
  unfold Builtin.List.listExtendWith
  refine wpAny_bind (wpAny_typeOf (T:="tuple") ⟨_,eb,hc2⟩ ?_)
  simp only [show (Value.type "tuple" == Value.type "tuple") = true from by decide,Bool.or_true,if_true]
  refine wpAny_bind (listItems_at eb hd2 (wpAny_bind (listItems_at el rfl ?_)))
  have hsz:its.toArray.size + its2.toArray.size≤sizeLine:=by rw [List.size_toArray,List.size_toArray];omega
  rw [if_neg (by rw [gt hsz,Bool.and_false];exact Bool.false_ne_true)]
  refine wpAny_bind (listUpdate_at el rfl ?_ (by rw [List.size_toArray];omega) (by rw [Array.size_append];omega))
  refine wpAny_bind (wpAny_pure (wpAny_pure ⟨_,rfl,?_⟩))
  refine ⟨.non,_,I.lset (its':=its ++ its2) e el (by simp) (r.append r2) ?_,rfl,q⟩
  rw [List.length_append]
  omega
end
end My
namespace My
open PySem PySem.Spec L2
open PyProof.Rows hiding St
def PairsAt (K:PySem.W.Frag) (H:Hp):List V→List (Nat×Bool)→Prop
 | [],[]=>True
 | v :: vs,p :: ps=>(∃ b,v = .ref b∧SqT K H b [.int (p.1:Int),.bl p.2])∧PairsAt K H vs ps
 | _,_=>False
theorem PairsAt.mono {K:PySem.W.Frag}{H H':Hp} (t:Tups H H'):∀ {vs:List V}{ps:List (Nat×Bool)},PairsAt K H vs ps→PairsAt K H' vs ps
 | [],[],_=>trivial
 | v :: vs,p :: ps,⟨⟨b,e,h⟩,r⟩=>⟨⟨b,e,t.sqT h⟩,PairsAt.mono t r⟩
 | [],_ :: _,h=>h.elim
 | _ :: _,[],h=>h.elim
theorem PairsAt.app {K:PySem.W.Frag}{H:Hp}:∀ {vs:List V}{ps:List (Nat×Bool)}{vs':List V}{ps':List (Nat×Bool)},PairsAt K H vs ps→PairsAt K H vs' ps'→PairsAt K H (vs ++ vs') (ps ++ ps')
 | [],[],_,_,_,h=>h
 | v :: vs,s :: ss,_,_,h,h'=>⟨h.1,PairsAt.app h.2 h'⟩
 | [],_ :: _,_,_,h,_=>h.elim
 | _ :: _,[],_,_,h,_=>h.elim
theorem PairsAt.len {K:PySem.W.Frag}{H:Hp}:∀ {vs:List V}{ps:List (Nat×Bool)},PairsAt K H vs ps→vs.length = ps.length
 | [],[],_=>rfl
 | v :: vs,s :: ss,h=>by rw [List.length_cons,List.length_cons,PairsAt.len h.2]
 | [],_ :: _,h=>h.elim
 | _ :: _,[],h=>h.elim
theorem PairsAt.at {K:PySem.W.Frag}{H:Hp}:∀ {vs:List V}{ps:List (Nat×Bool)},PairsAt K H vs ps→∀ (i:Nat) v,vs[i]? = some v→∃ b p,ps[i]? = some p∧v = .ref b∧SqT K H b [.int (p.1:Int),.bl p.2]
 | [],[],_,i,v,h=>by simp at h
 | v :: vs,p :: ps,h,0,u,e=>by
  cases e
  obtain ⟨b,e1,h1⟩:=h.1
  exact ⟨b,p,rfl,e1,h1⟩
 | v :: vs,p :: ps,h,i + 1,u,e=>by simpa using PairsAt.at h.2 i u (by simpa using e)
 | [],_ :: _,h,_,_,_=>h.elim
 | _ :: _,[],h,_,_,_=>h.elim
def agr (k:List Bool) (ps:List (Nat×Bool)):Bool:=ps.all fun p=>k.getD p.1 false == p.2
theorem Uh {k:List Bool}{ps:List (Nat×Bool)}{i:Nat}{p:Nat×Bool} (h:ps[i]? = some p):agr k (ps.take (i + 1)) = (agr k (ps.take i) && (k.getD p.1 false == p.2)):=by
 rw [List.take_add_one,h]
 simp [agr]
theorem O1 {k:List Bool}{ps:List (Nat×Bool)}{p:Nat×Bool} (hm:p∈ps) (h:(k.getD p.1 false == p.2) = false):agr k ps = false:=by
 unfold agr
 rw [Bool.eq_false_iff]
 intro z
 rw [List.all_eq_true] at z
 rw [z p hm] at h
 cases h
theorem i8 {k:List Bool}{n:Nat} (h:n < k.length):atI (k.map V.bl) (n:Int) = some (.bl (k.getD n false)):=yo (by rw [List.getElem?_map,List.getElem?_eq_getElem h];simp [h])
end My
namespace My
open PySem PySem.Spec L2
open PyProof.Rows hiding St
theorem w4 {ts:List Say}{ss:List Str}{ks:List (List Bool)} (h:FitRows ts ss ks) {k:List Bool} (hk:k∈ks):k.length = ts.length:=by
 obtain ⟨n,_,e⟩:=(h.2.1 k).mp hk
 rw [e]
 exact su _ _
theorem je {ts:List Say}{ss:List Str}{R:List (Addr×List Bool)} (h:FitRows ts ss (R.map (·.2))):1≤R.length:=by
 have:ve ts (zj ((0:Nat):Int) ss)∈R.map (·.2):=(h.2.1 _).mpr ⟨0,Nat.two_pow_pos _,rfl⟩
 have:=List.length_pos_of_mem this
 rw [List.length_map] at this
 exact this
def col (ks:List (List Bool)) (ps:List (Nat×Bool)) (j:Nat):List Bool:=(ks.filter fun k=>agr k ps).map fun k=>k.getD j false
end My
namespace My
open PySem PySem.Spec PySem.W PySem.Calls L2
open AutoSeq1 (wpAny_loadPart')
open PyProof.Rows hiding St
section
variable {X:Cx}{pins:List (Addr×Obj)}{σ:St}{H:Hp}{s:Shared}{h':Heap}
theorem qp {t':Nat} (L:List Addr) (I:Inv X pins σ H s) (hf:∀ b∈L,u7 X pins H b) (k:∀ b o,b ∉ L→s.heap.get? b = some o→h'.get? b = some o):Inv X pins σ H { s with heap:=h',toks:=t' }:=by
 have nit:∀ b u,H b = some u→b ∉ L:=fun b u e z=>by rw [(hf b z).1] at e;cases e
 refine I.step (g':=s.gens) (d':=s.drawn) (ch:=L) (fun b hb=>⟨(hf b hb).2.2.2.1,(hf b hb).2.1,(hf b hb).2.2.2.2.1,(hf b hb).2.2.2.2.2⟩) (fun b o _ _ hc e _=>k b o hc e) (fun b o _ _ hc e _=>⟨o.slots,k b o hc e⟩) (fun _ _ _ _ n=>n)
  (fun b o hc e=>⟨o,k b o hc e⟩) (fun _ _ e=>e) (fun _ _ _ e=>e) (fun b ps e=>⟨#[],by rw [e];simp⟩) (fun m hm=>?_) (fun b u e=>?_) I.bare
 ·obtain ⟨o,es,ep,ho,r⟩:=hm;exact ⟨o,es,ep,k _ o (fun z=>(hf _ z).2.1 rfl) ho,r⟩
 ·refine (I.hok b u e).stay (fun c v hc q=>k c v (hc.elim (fun z=>by rw [z];exact nit b u e) fun z=>nit c _ z) q) (fun _ q=>q) fun _ _ q=>q
end
section
variable {prog:Program}{w:World}{A:Around}{E:Value→Shared→Prop}{s:Shared}
theorem md {it t:Addr}{i:Nat}{items:Array Value}{x:Value}{Q:Value→Shared→Prop} (hit:s.heap.IsTupleIter it t i) (ht:s.heap.IsTuple t items) (hx:items[i]? = some x)
  (hQ:∀ h',h'.IsTupleIter it t (i + 1)→Heap.SameBut it s.heap h'→Q x { s with heap:=h' }):wpAny (model prog w) A (Builtin.SmallTypes.nextOf (.ref it)) Q E s:=by
 obtain ⟨o,ho,hc,hd⟩:=id hit;obtain ⟨ol,hol,_,nl,hdl⟩:=ht
 unfold Builtin.SmallTypes.nextOf
 refine wpAny_bind (wpAny_callSpecial?_slot (name:=Str.ofString "__next__") hit.typeIs F.slot_tuple_iterator_next (wpAny_call_entry F.slot_tuple_iterator_next hit.typeIs F.entry_tuple_iterator_next ?_ (F.args_tuple_iterator_next_1 _)))
 show wpAny _ _ (field (.ref it) 0 >>= _) _ _ s;refine wpAny_bind (wpAny_field ho hd (x:=.ref t) rfl ?_)
 show wpAny _ _ (if (Value.ref t == Value.none) = true then _ else _) _ _ s;rw [if_neg (show ¬ ((Value.ref t == Value.none) = true) from Bool.false_ne_true)]
 show wpAny _ _ (field (.ref it) 1 >>= _) _ _ s;refine wpAny_bind (wpAny_field ho hd (x:=.int i 0) rfl ?_)
 show wpAny _ _ (seqItems? (.ref t) >>= _) _ _ s;refine wpAny_bind (wpAny_seqItems hol hdl ?_);simp only [Int.toNat_natCast,hx]
 refine wpAny_bind (wpAny_setField ho hd (by simp) (wpAny_pure ⟨x,rfl,wpAny_pure (hQ _ ⟨_,Heap.get?_update_self _ ho (Obj.isFreed_of_fields (Obj.data_mapFields hd _)),(Obj.cls_mapFields ..).trans hc,by rw [Obj.data_mapFields hd];simp [rawInt]⟩ (Heap.SameBut.update ..))⟩))
theorem jp {it t:Addr}{i:Nat}{items:Array Value}{Q:Value→Shared→Prop} (hh:A.handled = none) (hit:s.heap.IsTupleIter it t i) (ht:s.heap.IsTuple t items) (hx:items[i]? = none)
  (hE:∀ h' e,Heap.ExtBut it s.heap h'→(∃ o,h'.get? e = some o∧o.cls = .type "StopIteration")→E (.ref e) { s with heap:=h' }):wpAny (model prog w) A (Builtin.SmallTypes.nextOf (.ref it)) Q E s:=by
 obtain ⟨o,ho,hc,hd⟩:=id hit;obtain ⟨ol,hol,_,nl,hdl⟩:=ht
 unfold Builtin.SmallTypes.nextOf
 refine wpAny_bind (wpAny_callSpecial?_slot (name:=Str.ofString "__next__") hit.typeIs F.slot_tuple_iterator_next (wpAny_call_entry F.slot_tuple_iterator_next hit.typeIs F.entry_tuple_iterator_next ?_ (F.args_tuple_iterator_next_1 _)))
 show wpAny _ _ (field (.ref it) 0 >>= _) _ _ s;refine wpAny_bind (wpAny_field ho hd (x:=.ref t) rfl ?_)
 show wpAny _ _ (if (Value.ref t == Value.none) = true then _ else _) _ _ s;rw [if_neg (show ¬ ((Value.ref t == Value.none) = true) from Bool.false_ne_true)]
 show wpAny _ _ (field (.ref it) 1 >>= _) _ _ s;refine wpAny_bind (wpAny_field ho hd (x:=.int i 0) rfl ?_)
 show wpAny _ _ (seqItems? (.ref t) >>= _) _ _ s;refine wpAny_bind (wpAny_seqItems hol hdl ?_);simp only [Int.toNat_natCast,hx]
 refine wpAny_bind (wpAny_rule (wpAny_bind (wpAny_setField ho hd (by simp) ?_)));show wpAny _ _ (newExc (.type "StopIteration") [] >>= _) _ _ _
 refine wpAny_bind ?_;simp only [newExc,newTuple];refine wpAny_bind (wpAny_newObj_type ?_ (by size_fits))
 refine wpAny_bind (m:=firstArgMember _ _) (wpAny_of_eq (a:=Value.none) (by first | rfl | (simp only [firstArgMember];rfl)) ?_);refine wpAny_newObj_type ?_ (by size_fits)
 simp only [raiseNew];refine wpAny_bind (wpAny_handled ?_);first | rw [show A.in1.handled = none from hh] | rw [hh]
 refine wpAny_bind (wpAny_pure (wpAny_throw (hE _ _ (((Heap.SameBut.update ..).extBut.push _).push _) ⟨_,Heap.get?_push_size _ rfl,rfl⟩)))
end
theorem Yc {h h':Heap}{t it:Addr}{items:Array Value} (x:h.IsTuple t items) (hs:Heap.ExtBut it h h') (hne:t≠it):h'.IsTuple t items:=let ⟨o,ho,r⟩:=x;⟨o,hs t o hne ho,r⟩
theorem kf {prog:Program}{w:World}{A:Around} (hh:A.handled = none) (it t:Addr) (hne:t≠it) (items:Array Value):Draws prog w A it [it,t] items.size (fun i v=>items[i]? = some v) (fun i h=>h.IsTupleIter it t i∧h.IsTuple t items) where
 live:=fun _ _ st=>st.1.elim fun o ho=>⟨o,ho.1⟩
 frame:=fun _ _ _ st hk=>⟨st.1.at fun o e=>hk it (by simp) o e,st.2.elim fun o ho=>⟨o,hk t (by simp) o ho.1,ho.2⟩⟩
 item:=fun i s Q E hi st hQ=>md st.1 st.2 (x:=items[i]) (by simp [hi]) fun h' hit' hs'=>hQ _ h' s.toks (by simp [hi]) ⟨hit',Yc st.2 hs'.extBut hne⟩ hs'
 done:=fun s Q E st hE=>jp hh st.1 st.2 (by simp) hE
end My
namespace My
open PySem PySem.Spec PySem.W PySem.Calls L2
open AutoSeq1 (wpAny_loadPart')
open PyProof.Rows hiding St
def iu (t:Addr):Obj:={ cls:=.type "tuple_iterator",data:=.fields #[.ref t,.int 0 0] }
def br (it:Addr):Obj:={ cls:=.type "enumerate",data:=.fields #[.none,.bool false,.ref it,rawInt 0,.none,.none] }
theorem X3 (l:Addr) (items:Array Value):Meets (Builtin.«enumerate.__new__» ⟨[.type "enumerate",.ref l],[]⟩) (fun _ R s=>s.heap.IsTuple l items ∧
  R (.ok (.ret (.ref (s.heap.push (iu l)).objs.size))) { s with heap:=(s.heap.push (iu l)).push (br s.heap.objs.size) }) :=
 .of_wp fun prog w A R s h=>by
  obtain ⟨hp,g,d,tk,os⟩:=s;obtain ⟨hL,h⟩:=h;have hsub:=sub_enumerate
  obtain ⟨o,hl,hc,n,hd⟩:=id hL
  replace hL:Heap.IsTuple (Shared.heap ⟨hp,g,d,tk,os⟩) l items:=hL
  wp_walk using wpAny_loadPart' hl
  refine wpAny_stack_any fun st=>wpAny_pure ?_;split
  ·rename_i c _ _ _ _ _;cases (c == Value.type "enumerate")
   ·wp_walk using wpAny_loadPart' hl,wpAny_pyIter_tuple hL;exact ⟨_,rfl,h⟩
   ·wp_walk using wpAny_loadPart' hl,wpAny_pyIter_tuple hL;exact ⟨_,rfl,h⟩
  ·wp_walk using wpAny_loadPart' hl,wpAny_pyIter_tuple hL;exact ⟨_,rfl,h⟩
section
variable {prog:Program}{w:World}{A:Around}{E:Value→Shared→Prop}{s:Shared}
theorem bp {l:Addr}{items:Array Value}{Q:Value→Shared→Prop} (hL:s.heap.IsTuple l items)
  (h:∀ h',IsEnum h' (s.heap.objs.size + 1) s.heap.objs.size 0 .none→h'.IsTupleIter s.heap.objs.size l 0→(∀ b o,s.heap.get? b = some o→h'.get? b = some o)→Q (.ref (s.heap.objs.size + 1)) { s with heap:=h' }) :
  wpAny (model prog w) A (call (.type "enumerate") [.ref l]) Q E s:=by
 refine callType_new F.called_enumerate (by decide) (F.typeCall_enumerate_1 _) (F.newCall_enumerate_1 _) (fun obj=>F.args_object_init_2 obj _) F.entry_enumerate_new (X3 l items) ⟨hL,?_⟩
 have hz:(s.heap.push (iu l)).objs.size = s.heap.objs.size + 1:=Heap.size_push ..
 show _∧_;rw [hz]
 have he:IsEnum ((s.heap.push (iu l)).push (br s.heap.objs.size)) (s.heap.objs.size + 1) s.heap.objs.size 0 .none:=by
  have:=Heap.get?_push_size (s.heap.push (iu l)) (o:=br s.heap.objs.size) rfl;rw [hz] at this;exact this
 exact ⟨⟨_,he,rfl⟩,h _ he ⟨_,Heap.get?_push_of_some _ (Heap.get?_push_size _ rfl),rfl,rfl⟩ fun b o x=>Heap.get?_push_of_some _ (Heap.get?_push_of_some _ x)⟩
end
theorem mw {h:Heap}{a e it:Addr}{items:Array Value}{i:Int}{j:Nat}{old:Value} (ha:h.IsTuple a items) (he:IsEnum h e it i old) (hi:h.IsTupleIter it a j):∀ b∈[e,it],a≠b:=fun b hb z=>by
 obtain ⟨o,e1,c1,_⟩:=ha
 subst z
 rcases List.mem_cons.mp hb with z | z
 ·have he':h.get? e = some _:=he
  rw [← z,e1] at he'
  have:=Option.some.inj he'
  rw [this] at c1
  simp at c1
 ·have z:=List.mem_singleton.mp z
  obtain ⟨o2,e2,c2,_⟩:=hi
  rw [← z,e1] at e2
  cases e2
  rw [c1] at c2
  simp at c2
def Ite (K:PySem.W.Frag) (a:Addr):It :=
 ⟨fun i H=>∃ xs x,SqT K H a xs∧xs[i]? = some x,fun i H v H'=>∃ p x,v = .ref p∧H p = none∧H' = upd H p (.tup [.int (i:Int),x])∧∀ xs,SqT K H a xs→xs[i]? = some x,fun i H=>∃ xs,SqT K H a xs∧xs.length = i⟩
theorem ef {P:Program}{w:World}{K:PySem.W.Frag}{elts:List Expr}{k:Nat}{pos:Pos} (a e it:Addr) (hei:e≠it):fj P w K (.Tuple elts k pos) (Ite K a) [e,it] e (fun i h=>(∃ old,IsEnum h e it ((i:Nat):Int) old)∧h.IsTupleIter it a i) where
 mem:=by simp
 obj:=fun i h st b hb=>by
  obtain ⟨⟨old,he⟩,hi⟩:=st
  rcases List.mem_cons.mp hb with rfl | hb
  ·exact ⟨_,he,fun v z=>by cases (show Data.fields _ = Data.cell v from z)⟩
  ·rw [List.mem_singleton.mp hb]
   obtain ⟨o,e1,c,d⟩:=hi
   exact ⟨o,e1,fun v z=>by rw [d] at z;cases z⟩
 keep:=fun i h h' st kk=>⟨st.1.imp fun old he=>kk e (by simp) _ he,st.2.at fun o e1=>kk it (by simp) o e1⟩
 item:=by
  intro X hP hw hK hc i pins s σ H E I hf st hg
  subst hP hw hK
  obtain ⟨xs,x,hq,hx⟩:=hg
  obtain ⟨its,rv,p,hz⟩:=I.tuple hq
  obtain ⟨u,hu,ru⟩:=rv.get hx
  obtain ⟨⟨old,he⟩,hi⟩:=st
  have hit:s.heap.IsTuple a its.toArray:=p
  have hilt:i < its.toArray.size:=by
   have:=(List.getElem?_eq_some_iff.mp hu).1
   simpa using this
  have hae:∀ b∈[e,it],a≠b:=mw hit he hi
  refine wpAny_pyNext_enum_itemD (kf (A:=X.A.in1) (I.ok.hd hc) it a (hae it (by simp)) its.toArray) he ⟨hi,hit⟩ hilt hei (fun z=>by
   rcases List.mem_cons.mp z with z | z
   ·exact hei z
   ·exact hae e (by simp) (List.mem_singleton.mp z).symm) fun y h1 tk hy ho hs1 hT hsz hk=>?_
  have ey:y = u:=by
   have h1:its.toArray[i]? = some y:=hy
   have h2:its.toArray[i]? = some u:=by simpa using hu
   rw [h2] at h1
   exact (Option.some.inj h1).symm
  subst ey
  refine ⟨_,rfl,wpAny_letOwnedTupleGo_enum (s:={ s with heap:=h1,toks:=tk + 1 }) ho fun h2 he2 hs2=>?_⟩
  have elt:e < s.heap.objs.size:=Heap.lt_size he
  have fr:H s.heap.objs.size = none:=I.hok.fresh (Nat.le_refl _)
  have I1:Inv X pins σ (upd H s.heap.objs.size (.tup [.int (i:Int),x])) { s with heap:=s.heap.push { cls:=.type "tuple",data:=.seq #[.int i tk,y] },toks:=tk } :=
   I.laid (fun b o e1=>Heap.get?_push_of_some _ e1) (Nat.le_refl _) ⟨by simp only [List.length_cons,List.length_nil];rw [sizeLine_eq];decide,[.int i tk,y],.cons ⟨_,rfl⟩ (.cons ru .nil),⟨_,Heap.get?_push_size _ rfl,rfl,_,rfl⟩⟩
  have lt2:∀ b∈[e,it],b < s.heap.objs.size:=fun b hb=>by
   rcases List.mem_cons.mp hb with rfl | hb
   ·exact elt
   ·rw [List.mem_singleton.mp hb]
    obtain ⟨o,e1,_⟩:=hi
    exact Heap.lt_size e1
  have hf1:∀ b∈[e,it],u7 X pins (upd H s.heap.objs.size (.tup [.int (i:Int),x])) b:=fun b hb=>⟨by rw [zk (Nat.ne_of_lt (lt2 b hb))];exact (hf b hb).1,(hf b hb).2⟩
  have I2:Inv X pins σ (upd H s.heap.objs.size (.tup [.int (i:Int),x])) { s with heap:=h2,toks:=tk + 1 }:=qp (s:={ s with heap:=s.heap.push { cls:=.type "tuple",data:=.seq #[.int i tk,y] },toks:=tk }) [e,it] I1 hf1 fun b o hb e1=>by
   have hbe:b≠e:=fun z=>hb (by simp [z])
   have hbi:b≠it:=fun z=>hb (by simp [z])
   refine (hs2.2 b hbe).trans ?_
   rcases Heap.get?_push_cases e1 with ⟨rfl,rfl⟩ | e1
   ·exact hT
   ·exact hk b o hbe hbi e1
  exact ⟨.ref s.heap.objs.size,upd H s.heap.objs.size (.tup [.int (i:Int),x]),I2,rfl,⟨_,x,rfl,fr,rfl,fun ys hy2=>by rw [I.tuple_inj hy2 hq];exact hx⟩,⟨⟨_,by simpa using he2⟩,hs1.1.at fun o e1=>(hs2.2 it (Ne.symm hei)).trans e1⟩,fun b hb=>(hf1 b hb).1⟩
 done:=by
  intro X hP hw hK hc i pins s σ H E I hf st hg
  subst hP hw hK
  obtain ⟨xs,hq,hx⟩:=hg
  obtain ⟨its,rv,p,hz⟩:=I.tuple hq
  obtain ⟨⟨old,he⟩,hi⟩:=st
  have hit:s.heap.IsTuple a its.toArray:=p
  have hae:∀ b∈[e,it],a≠b:=mw hit he hi
  have hl:its.toArray.size = i:=by rw [List.size_toArray,← rv.length];exact hx
  refine wpAny_pyNext_enum_endD (kf (A:=X.A.in1) (I.ok.hd hc) it a (hae it (by simp)) its.toArray) he ⟨by rw [hl];exact hi,hit⟩ fun h1 eb=>⟨rfl,qp (t':=s.toks) [e,it] I hf fun b o hb e1=>eb b o (fun z=>hb (by simp [z])) e1⟩
 self:=fun _ _ _ _ _ st h=>by
  obtain ⟨⟨old,he⟩,_⟩:=st
  exact wpAny_pyIter_enum he h
end My
namespace My
open PySem PySem.Spec PySem.W PySem.Calls L2
open PyProof.Rows hiding St
section
variable {X:Cx}
theorem R7:bootBuiltins "enumerate" = some (.type "enumerate"):=by decide +kernel
def iEn (K:PySem.W.Frag) (ta:TA):TI:=fun σ H R=>ta σ H (on1 (oo fun a H1=>(∃ xs,SqT K H1 a xs)∧R (Ite K a) H1))
theorem Vv {elts:List Expr}{kk:Nat}{pt:Pos}{a:Expr}{ta:TA}{p pos:Pos} (hg:Gl X "enumerate") (hm:X.mg "enumerate" = none) (ha:PA X [a] ta) (hs:starEach [a] X.env = [(false,eval a X.env)]:=by rfl) :
  PI X (.Tuple elts kk pt) (.Call (.Name "enumerate" p) [a] [] pos) (iEn X.K ta):=by
 intro pins s σ H R I h
 refine Call_ (xb I hg hm R7 (PyProof.Rows.callWith_type1 (thn (ha pos pins s σ H _ I h) fun us s1 ⟨vs,H1,I1,r1,q1⟩=>?_) hs rfl))
 rcases vs with _ | ⟨x,_ | ⟨y,rr⟩⟩
 ·exact (show False from q1).elim
 ·cases x with
  | ref b =>
   obtain ⟨⟨xs,hq⟩,q⟩:=(show (∃ xs,SqT X.K H1 b xs)∧R (Ite X.K b) H1 from q1)
   cases r1 with
   | cons r rr =>
    cases rr
    cases r
    obtain ⟨its,rv,p1,hz⟩:=I1.tuple hq
    refine bp (show s1.heap.IsTuple b its.toArray from p1) fun h' he hi hk=>?_
    refine wpAny_pyIter_enum (s:={ s1 with heap:=h' }) he ?_
    have I2:Inv X pins σ H1 { s1 with heap:=h' }:=I1.kept (t':=s1.toks) hk
    refine ⟨_,[s1.heap.objs.size + 1,s1.heap.objs.size],_,_,H1,rfl,I2,ef b _ _ (Nat.succ_ne_self _),⟨⟨_,he⟩,hi⟩,fun c hc=>?_,q⟩
    have hge:s1.heap.objs.size≤c:=by
     rcases List.mem_cons.mp hc with rfl | hc
     ·exact Nat.le_succ _
     ·rw [List.mem_singleton.mp hc];exact Nat.le_refl _
    exact I1.fpOk hge (I1.hok.fresh hge)
  | _=>exact (show False from q1).elim
 ·exact (show False from q1).elim
end
theorem Xy {K:PySem.W.Frag}{a:Addr}{xs:List V}{tt:TT}{te:TE}{ρ:St}{Q:VK}{H1:Hp} (Pv:Addr→Nat→List V→Hp→Prop) (hsz:xs.length≤sizeLine)
  (h0:∀ D H2,H1 D = none→Same H1 H2→H2 D = some (.lst [])→Pv D 0 [] H2)
  (hl:∀ D i ys H,Pv D i ys H→SqT K H a xs∧H D = some (.lst ys)∧ys.length≤i)
  (hs:∀ D (i:Nat) v ys H H',xs[i]? = some v→Pv D i ys H→Same H H'→mn tt te (some (.int (i:Int)) :: some v :: ρ) D xs.length i ys (Pv D (i + 1)) H')
  (hd:∀ D ys H,Pv D xs.length ys H→Q (.ref D) H):vx 2 (mG2 K 0 1) tt te ρ (Ite K a) Q H1 :=
 u9 Pv hsz h0 (fun D i ys H _ p=>(hl D i ys H p).2) (fun D i ys H hi p=>⟨xs,xs[i],(hl D i ys H p).1,by simp [hi]⟩) (fun D ys H p=>⟨xs,(hl D _ ys H p).1,rfl⟩) (fun D i v ys H H' τ hi hτ p y=>by
  obtain ⟨t,u,rfl⟩:=Xn hτ
  obtain ⟨b,x,rfl,hn,rfl,hx⟩:=y
  refine ⟨b,_,_,rfl,SqT.of zw,⟨[some (.int (i:Int)),some x],rfl,rfl⟩,?_⟩
  exact hs D i x ys H _ (hx xs (hl D i ys _ p).1) p (xm hn _)) hd
end My
namespace My
open PySem PySem.Spec L2
open PyProof.Rows hiding St
structure JudgesAt (K:PySem.W.Frag) (H:Hp) (a:Addr) (J:List (Addr×List Bool)) (m:Nat):Prop where
 sq:SqT K H a (J.map fun r=>V.ref r.1)
 row:∀ r∈J,SqT K H r.1 (r.2.map V.bl)
 len:∀ r∈J,r.2.length = m
 lo:1≤J.length
 hi:J.length≤100
theorem JudgesAt.mono {K:PySem.W.Frag}{H H':Hp}{a:Addr}{J:List (Addr×List Bool)}{m:Nat} (t:Tups H H') (h:JudgesAt K H a J m):JudgesAt K H' a J m:=⟨t.sqT h.sq,fun r hr=>t.sqT (h.row r hr),h.len,h.lo,h.hi⟩
def yl (ks:List (List Bool)) (j:Nat) (t:Bool) (i:Nat):List Nat:=(List.range i).filter fun n=>(ks.getD n []).getD j false == t
theorem vf (ks:List (List Bool)) (j:Nat) (t:Bool) (i:Nat):yl ks j t (i + 1) = yl ks j t i ++ if ((ks.getD i []).getD j false == t) = true then [i] else []:=by
 unfold yl
 rw [List.range_succ,List.filter_append,List.filter_cons,List.filter_nil]
theorem o7 (ks:List (List Bool)) (j:Nat) (t:Bool) (i:Nat):(yl ks j t i).length≤i:=Nat.le_trans (List.length_filter_le _ _) (by rw [List.length_range];exact Nat.le_refl _)
def yf (ks:List (List Bool)) (j:Nat):List (List Bool):=ks.filter fun k=>k.getD j false
theorem o8 (ks:List (List Bool)) (j:Nat):∀ i,i≤ks.length→(yl ks j true i).length = (yf (ks.take i) j).length
 | 0,_=>by simp [yl,yf]
 | i + 1,h=>by
  have hi:i < ks.length:=h
  rw [vf,List.length_append,o8 ks j i (by omega)]
  have e:ks[i]? = some ks[i]:=List.getElem?_eq_getElem hi
  have e2:ks.getD i [] = ks[i]:=by simp [hi]
  unfold yf
  rw [List.take_add_one,e,e2,List.filter_append,List.length_append,Option.toList_some,List.filter_cons,List.filter_nil]
  cases (ks[i]).getD j false <;> rfl
theorem o5 (ks:List (List Bool)) (j:Nat):(yl ks j true ks.length).length = (yf ks j).length:=by
 have:=o8 ks j ks.length (Nat.le_refl _)
 rwa [List.take_length] at this
def ze (ks:List (List Bool)) (j:Nat):Bool:=decide ((ks.length:Int) < 2 * ((yf ks j).length:Int))
def ya (ks:List (List Bool)) (m:Nat):List Bool:=(List.range m).map (ze ks)
theorem wa (ks:List (List Bool)) (m:Nat):(ya ks m).length = m:=by simp [ya]
theorem jo (ks:List (List Bool)) (m:Nat):ya ks (m + 1) = ya ks m ++ [ze ks m]:=by simp [ya,List.range_succ]
end My
namespace My
open PySem PySem.Spec PySem.W PySem.Calls L2
open PyProof.Rows hiding St
theorem Y8 (a b:List Bool):((List.range (min a.length b.length)).all (fun j=>a.getD j false == b.getD j false) && a.length == b.length) = (a == b):=by
 rw [Bool.eq_iff_iff,Bool.and_eq_true,List.all_eq_true,beq_iff_eq,beq_iff_eq]
 constructor
 ·rintro ⟨h,e⟩
  apply List.ext_getElem e
  intro i h1 h2
  have:=h i (List.mem_range.mpr (by omega))
  simpa [h1,h2] using this
 ·rintro rfl
  exact ⟨fun j _=>beq_self_eq_true _,rfl⟩
theorem Ma {C:Addr→Addr→Prop}{x y:V} (h:match x,y with | .ref r,.ref p=>C r p | _,_=>False):∃ r p,x = .ref r∧y = .ref p∧C r p:=by
 cases x with
 | ref r =>
  cases y with
  | ref p=>exact ⟨r,p,rfl,rfl,h⟩
  | _=>exact (show False from h).elim
 | _=>exact (show False from by cases y <;> exact h).elim
section
variable {X:Cx}
theorem Wv {pins:List (Addr×Obj)}{σ:St}{H:Hp}{s:Shared} (I:Inv X pins σ H s) {A:Around} (hu:A.units < cLine) {x y:Addr}{a b:List Bool} (hx:SqT X.K H x (a.map V.bl)) (hy:SqT X.K H y (b.map V.bl)):SeqAt.EqAt A s (.ref x) (.ref y) (a == b):=by
 by_cases e:x = y
 ·subst e
  have:a = b:=by
   have:=I.tuple_inj hx hy
   exact List.map_inj_right (fun _ _ z=>V.bl.inj z) |>.mp this
  subst this
  rw [beq_self_eq_true]
  exact SeqAt.EqAt.same _
 ·obtain ⟨ix,rx,px,_⟩:=I.tuple hx
  obtain ⟨iy,ry,py,_⟩:=I.tuple hy
  have ex:=xh rx
  have ey:=xh ry
  subst ex ey
  have:=SeqAt.RcAt.tuples (e:=fun j=>a.getD j false == b.getD j false) (show s.heap.IsTuple x _ from px) (show s.heap.IsTuple y _ from py) hu fun j h1 h2=>by
   have h1':j < a.length:=by simpa using h1
   have h2':j < b.length:=by simpa using h2
   simp only [List.getElem_toArray,List.getElem_map]
   rw [show a.getD j false = a[j] by simp [h1'],show b.getD j false = b[j] by simp [h2']]
   exact SeqAt.EqAt.bool_bool _ _
  have h2:=SeqAt.EqAt.of_refs e this
  rw [show (a.map Value.bool).toArray.size = a.length by simp,show (b.map Value.bool).toArray.size = b.length by simp,Y8] at h2
  exact h2
def Mx (K:PySem.W.Frag) (g:Bool→Bool):R2:=fun x y H Q=>match x,y with
 | .ref r,.ref p=>∃ (k:List Bool) (R:List (Addr×List Bool)),SqT K H r (k.map V.bl)∧SqL K H p (R.map fun r=>V.ref r.1)∧(∀ r∈R,SqT K H r.1 (r.2.map V.bl))∧Q (.bl (g (R.any fun r=>r.2 == k))) H
 | _,_=>False
theorem N6 {K:PySem.W.Frag}{g:Bool→Bool}{r p:Addr}{H:Hp}{Q:VK}:Mx K g (.ref r) (.ref p) H Q = ∃ (k:List Bool) (R:List (Addr×List Bool)),SqT K H r (k.map V.bl)∧SqL K H p (R.map fun r=>V.ref r.1)∧(∀ r∈R,SqT K H r.1 (r.2.map V.bl))∧Q (.bl (g (R.any fun r=>r.2 == k))) H:=rfl
def atR (R:List (Addr×List Bool)) (k:List Bool):Value→Bool
 | .ref b=>R.any fun r=>r.1 == b && r.2 == k
 | _=>false
theorem be {pins:List (Addr×Obj)}{σ:St}{H:Hp}{s:Shared} (I:Inv X pins σ H s) {R:List (Addr×List Bool)} (hR:∀ r∈R,SqT X.K H r.1 (r.2.map V.bl)) (k:List Bool) {r:Addr×List Bool} (hr:r∈R):atR R k (.ref r.1) = (r.2 == k):=by
 rw [Bool.eq_iff_iff]
 unfold atR
 rw [List.any_eq_true]
 constructor
 ·rintro ⟨q,hq,e⟩
  rw [Bool.and_eq_true,beq_iff_eq] at e
  have h1:=hR q hq
  rw [e.1] at h1
  have:q.2 = r.2:=List.map_inj_right (fun _ _ z=>V.bl.inj z) |>.mp (I.tuple_inj h1 (hR r hr))
  rw [← this]
  exact e.2
 ·intro e
  exact ⟨r,hr,by rw [Bool.and_eq_true];exact ⟨beq_self_eq_true _,e⟩⟩
theorem R0 {pins:List (Addr×Obj)}{σ:St}{H:Hp}{s:Shared} (I:Inv X pins σ H s) {R:List (Addr×List Bool)} (hR:∀ r∈R,SqT X.K H r.1 (r.2.map V.bl)) (k:List Bool):((R.map (·.1)).map Value.ref).toArray.any (atR R k) = R.any fun r=>r.2 == k:=by
 rw [List.any_toArray,List.map_map,List.any_map,Bool.eq_iff_iff,List.any_eq_true,List.any_eq_true]
 constructor
 ·rintro ⟨r,hr,e⟩
  exact ⟨r,hr,by rw [← be I hR k hr];exact e⟩
 ·rintro ⟨r,hr,e⟩
  exact ⟨r,hr,by rw [← be I hR k hr] at e;exact e⟩
theorem Pe {pins:List (Addr×Obj)}{σ:St}{H:Hp}{s:Shared} (I:Inv X pins σ H s) (hu:X.A.units + 64 < cLine) {r p:Addr}{k:List Bool}{R:List (Addr×List Bool)} (hr:SqT X.K H r (k.map V.bl)) (hp:SqL X.K H p (R.map fun r=>V.ref r.1)) (hR:∀ r∈R,SqT X.K H r.1 (r.2.map V.bl)) :
  s.heap.IsList p ((R.map (·.1)).map Value.ref).toArray∧∀ y,y∈((R.map (·.1)).map Value.ref).toArray→SeqAt.EqAt X.A.in1 s y (.ref r) (atR R k y):=by
 obtain ⟨its,rv,pl,_⟩:=I.list hp
 have e:its = (R.map (·.1)).map Value.ref:=sy (by rw [List.map_map];exact rv)
 subst e
 refine ⟨pl.isList,fun y hy=>?_⟩
 have hy':y∈(R.map (·.1)).map Value.ref:=by simpa using hy
 rw [List.map_map] at hy'
 obtain ⟨q,hq,rfl⟩:=List.mem_map.mp hy'
 show SeqAt.EqAt X.A.in1 s (.ref q.1) (.ref r) (atR R k (.ref q.1))
 rw [be I hR k hq]
 exact Wv I (show X.A.units + 1 < cLine by omega) (hR q hq) hr
theorem Vx (hu:X.A.units + 64 < cLine):OpR X (compareOp .NotIn) (Mx X.K not):=by
 intro pins s σ H x y v u Q I rx ry h
 obtain ⟨r,p,rfl,rfl,k,R,hr,hp,hR,q⟩:=Ma (C:=fun r p=>∃ (k:List Bool) (R:List (Addr×List Bool)),SqT X.K H r (k.map V.bl)∧SqL X.K H p (R.map fun r=>V.ref r.1)∧(∀ r∈R,SqT X.K H r.1 (r.2.map V.bl))∧Q (.bl (!(R.any fun r=>r.2 == k))) H) h
 cases rx
 cases ry
 obtain ⟨h1,h2⟩:=Pe I hu hr hp hR
 exact SeqAt.notIn_listAt (atR R k) h1 h2 ⟨.bl _,H,I,rfl,by rw [R0 I hR];exact q⟩
end
end My
namespace My
open PySem PySem.Spec L2
open PyProof.Rows hiding St
def yt (X:Cx) (N':List Str) (scope:Scope) (cl:List (Str×Addr)) (x:Str) (C:Addr) (s₀:Shared) (H₀:Hp) (ex:List Addr):Cx where
 prog:=X.prog
 w:=X.w
 K:=X.K
 mg:=X.mg
 base:=X.base
 A:=X.A
 N:=N'
 s₀:=s₀
 H₀:=H₀
 env:=compEnvC scope ((x,C + 1) :: cl) C X.env
 outer:=X.stack
 stack:=X.stack
 ex:=ex
 fn:=fun y=>y == x
 calm:=X.calm
 pn:=[]
 xe:=fun _ _=>False
structure CompOkC (X:Cx) (x:Str) (N:List Str) (scope:Scope) (cl:List (Str×Addr)):Prop where
 clos:closureFor scope X.env = pure cl
 sub:∀ p∈cl,X.env.cells.lookup p.1 = some p.2
 have_:∀ p∈scope.names,p.2 = .free→∃ c,cl.lookup p.1 = some c
 one:∀ y∈scope.names,y.2 = .cell→y.1 = x
 cf:∀ n,cellsFrom n scope.names cl = (x,n) :: cl
 pc:∀ h:Heap,pushCells h scope.names = h.push { cls:=.type "cell",data:=.cell none }
 kind:scope.kind = .function
 names:∀ y∈scope.names,y.2 = .local→scope.names.lookup y.1 = some .local
 mine:(relabel scope X.env).names.lookup x = some .cell
 nd:([x] ++ N).Nodup
 cells:∀ y∈N,X.env.kindOf y = some .cell∨X.env.kindOf y = some .free
 free:∀ y∈N,∃ c,cl.lookup y = some c
 vis:∀ y∈N,(relabel scope X.env).names.lookup y = some .cell∨(relabel scope X.env).names.lookup y = some .free
theorem Yq {M:Model}{A:Around}{E:Value→Shared→Prop}{s:Shared}{scope:Scope}{globals:Addr}{cl:List (Str×Addr)}{qual:Str}{env:Env}{x:Str}{Q:Env→Shared→Prop}
  (cf:∀ n,cellsFrom n scope.names cl = (x,n) :: cl) (pc:∀ h:Heap,pushCells h scope.names = h.push { cls:=.type "cell",data:=.cell none })
  (hQ:∀ h':Heap,h'.Ns s.heap.objs.size (fun _=>none)→h'.IsCell (s.heap.objs.size + 1) none→(∀ b o,s.heap.get? b = some o→h'.get? b = some o) →
   Q (newEnv scope s.heap.objs.size globals ((x,s.heap.objs.size + 1) :: cl) qual none .none (some env) builtinsNs) { s with heap:=h' }) :
  wpAny M A (newFunctionEnv scope globals cl [] qual none .none (some env)) Q E s:=by
 simp only [newFunctionEnv,Option.isSome_some,if_true]
 refine wpAny_bind (wpAny_alloc ?_)
 refine wpAny_bind (wpAny_layCells _ (fun name kind cells=>by cases hkc:kind == NameKind.cell <;> simp [hkc]) _ _ _ _ ?_)
 rw [show ({ s with heap:=s.heap.push { cls:=.type "dict",data:=.dict #[] } }:Shared).heap.objs.size = s.heap.objs.size + 1 from Heap.size_push ..]
 rw [cf,pc]
 have h1:(s.heap.push { cls:=.type "dict",data:=.dict #[] }).objs.size = s.heap.objs.size + 1:=Heap.size_push ..
 rw [List.forIn_nil]
 refine wpAny_bind (wpAny_pure (wpAny_pure (hQ _ ?_ ?_ ?_)))
 ·exact (Heap.Ns.new s.heap (.type "dict")).keeps fun b o e=>Heap.get?_push_of_some _ e
 ·have g:=Heap.get?_push_size (s.heap.push { cls:=.type "dict",data:=.dict #[] }) (o:={ cls:=.type "cell",data:=.cell none }) rfl
  rw [h1] at g
  exact ⟨_,g,rfl⟩
 ·exact fun b o e=>Heap.get?_push_of_some _ (Heap.get?_push_of_some _ e)
section
variable {X:Cx}{N:List Str}{scope:Scope}{cl:List (Str×Addr)}{x:Str}
theorem CompOkC.up (k:CompOkC X x N scope cl) {y:Str}{c:Addr} (h:cl.lookup y = some c):X.env.cells.lookup y = some c:=k.sub (y,c) (PySem.mem_of_lookup h)
theorem uy {x y:Str}{c d:Addr} (h:((x,d) :: cl).lookup y = some c):(y = x∧c = d)∨(y≠x∧cl.lookup y = some c):=by
 rw [List.lookup_cons] at h
 by_cases e:y = x
 ·subst e
  simp at h
  exact .inl ⟨rfl,h.symm⟩
 ·rw [show (y == x) = false from beq_eq_false_iff_ne.mpr e] at h
  exact .inr ⟨e,h⟩
theorem Rh {x y:Str}{c d:Addr} (e:y≠x) (h:cl.lookup y = some c):((x,d) :: cl).lookup y = some c:=by
 rw [List.lookup_cons,show (y == x) = false from beq_eq_false_iff_ne.mpr e]
 exact h
theorem bq (clos:closureFor scope X.env = pure cl) (sub:cl.map (fun p=>X.env.cells.lookup p.1) = cl.map (fun p=>some p.2))
  (b1:(scope.names.all fun p=>!(p.2 == .free) || (cl.lookup p.1).isSome) = true) (b2:(scope.names.all fun p=>!(p.2 == .cell) || p.1 == x) = true)
  (cf:∀ n,cellsFrom n scope.names cl = (x,n) :: cl) (pc:∀ h:Heap,pushCells h scope.names = h.push { cls:=.type "cell",data:=.cell none }) (kind:scope.kind = .function)
  (b3:(scope.names.all fun p=>!(p.2 == .local) || scope.names.lookup p.1 == some .local) = true) (ow:(relabel scope X.env).names.lookup x = some .cell) (nd:([x] ++ N).Nodup)
  (b4:(N.all fun y=>X.env.kindOf y == some .cell || X.env.kindOf y == some .free) = true) (b5:(N.all fun y=>(cl.lookup y).isSome) = true)
  (b6:(N.all fun y=>(relabel scope X.env).names.lookup y == some .cell || (relabel scope X.env).names.lookup y == some .free) = true):CompOkC X x N scope cl:=by
 rw [List.all_eq_true] at b1 b2 b3 b4 b5 b6
 refine ⟨clos,List.map_inj_left.mp sub,fun p hp hf=>?_,fun p hp hc=>?_,cf,pc,kind,fun p hp hl=>?_,ow,nd,fun y hy=>?_,fun y hy=>Option.isSome_iff_exists.mp (b5 y hy),fun y hy=>?_⟩
 ·have h:=b1 p hp
  rw [hf] at h
  exact Option.isSome_iff_exists.mp (by simpa using h)
 ·have h:=b2 p hp
  rw [hc] at h
  simpa using h
 ·have h:=b3 p hp
  rw [hl] at h
  simpa using h
 ·have h:=b4 y hy
  rw [Bool.or_eq_true] at h
  exact h.imp eq_of_beq eq_of_beq
 ·have h:=b6 y hy
  rw [Bool.or_eq_true] at h
  exact h.imp eq_of_beq eq_of_beq
theorem X0 {pins:List (Addr×Obj)}{σ:St}{H:Hp}{s:Shared}{fp:List Addr}{h₁:Heap}{tk:Nat}{ixs:List Nat} (k:CompOkC X x N scope cl) (I:Inv X pins σ H s) (hf:∀ b∈fp,u7 X pins H b) (hfp:∀ b∈fp,b < s.heap.objs.size)
  (hix:∀ (j:Nat) (i:Nat),ixs[j]? = some i→∃ y,X.N[i]? = some y∧N[j]? = some y) (hlen:ixs.length = N.length)
  (hns:h₁.Ns s.heap.objs.size fun _=>none) (hce:h₁.IsCell (s.heap.objs.size + 1) none) (hkeep:∀ b o,b≠s.heap.objs.size→s.heap.get? b = some o→h₁.get? b = some o) :
  Inv (yt X ([x] ++ N) scope cl x s.heap.objs.size s H fp) [] ([none] ++ ixs.map (gv σ)) H { s with heap:=h₁,toks:=tk }:=by
 have old:∀ b o,s.heap.get? b = some o→h₁.get? b = some o:=fun b o e=>hkeep b o (Nat.ne_of_lt (Heap.lt_size e)) e
 have nfs:∀ b∈fp,b ∉ frs X.stack:=fun b hb z=>by
  rcases List.mem_cons.mp (I.stkSub b z) with e | e
  ·exact (hf b hb).2.1 e
  ·exact (hf b hb).2.2.1 e
 have oldc:∀ y c,cl.lookup y = some c→c < s.heap.objs.size:=fun y c e=>by
  obtain ⟨v,ic⟩:=I.cell y c (k.up e)
  exact ic.lt
 refine ⟨⟨I.ok.mod,?_,I.ok.glob,I.ok.blt,Nat.le_refl _,?_,?_,?_,I.ok.hd,I.ok.frames,.inl rfl,?_,I.bs,Nat.le_trans I.ok.bsz I.sz,?_,nfs,I.stack,I.stkFree⟩,
  rfl,I.bare,Un.kept old,⟨fun _=>none,hns,?_⟩,?_,I.hok.fresh (Nat.le_refl _),?_,fun p hp=>absurd hp (by simp [yt]),I.hok.kept old,?_⟩
 ·exact k.kind
 ·intro y z c h1 h2
  rcases uy h1 with ⟨e1,f1⟩ | ⟨e1,f1⟩ <;> rcases uy h2 with ⟨e2,f2⟩ | ⟨e2,f2⟩
  ·rw [e1,e2]
  ·exact absurd (oldc _ _ f2) (by rw [f1];exact Nat.not_lt.mpr (Nat.le_succ _))
  ·exact absurd (oldc _ _ f1) (by rw [f2];exact Nat.not_lt.mpr (Nat.le_succ _))
  ·exact I.ok.inj y z c (k.up f1) (k.up f2)
 ·intro y hy
  by_cases e:y = x
  ·subst e
   exact ⟨s.heap.objs.size + 1,by show List.lookup y ((y,s.heap.objs.size + 1) :: cl) = _;simp⟩
  have hy':scope.names.lookup y = some .cell∨scope.names.lookup y = some .free:=by
   rcases hy with hy | hy
   ·exact yk (env:=X.env) hy (.inl rfl)
   ·exact yk (env:=X.env) hy (.inr rfl)
  rcases hy' with hy' | hy'
  ·exact absurd (k.one _ (PySem.mem_of_lookup hy') rfl) e
  ·obtain ⟨c,hc⟩:=k.have_ _ (PySem.mem_of_lookup hy') rfl
   exact ⟨c,Rh e hc⟩
 ·intro y c h1 h2
  rcases uy h2 with ⟨e2,f2⟩ | ⟨e2,f2⟩
  ·show s.heap.objs.size≤c
   rw [f2]
   exact Nat.le_succ _
  ·exact absurd (eq_of_beq h1) e2
 ·intro b hb
  refine ⟨Nat.ne_of_lt (hfp b hb),fun y c e=>?_⟩
  rcases uy e with ⟨e2,f2⟩ | ⟨e2,f2⟩
  ·exact fun q=>absurd (hfp b hb) (by rw [← q,f2];exact Nat.not_lt.mpr (Nat.le_succ _))
  ·exact (hf b hb).2.2.2.2.1 y c (k.up f2)
 ·intro b o e hb
  rcases (hf b hb).2.2.2.1 with z | z
  ·exact I.ok.noex b o e z
  ·exact absurd (Nat.lt_of_lt_of_le (Heap.lt_size e) (Nat.le_trans I.ok.bsz z)) (Nat.lt_irrefl _)
 ·intro i y v h1 h2 h3
  cases i with
  | zero=>simp at h2
  | succ i =>
   have h1':N[i]? = some y:=by simpa [yt] using h1
   have h2':(ixs.map (gv σ))[i]? = some (some v):=by simpa using h2
   rw [List.getElem?_map] at h2'
   cases e:ixs[i]? with
   | none=>rw [e] at h2';cases h2'
   | some j =>
    rw [e] at h2'
    have h2'':gv σ j = some v:=by simpa using h2'
    obtain ⟨z,hz,hz'⟩:=hix i j e
    rw [h1'] at hz'
    cases hz'
    have hm:=List.mem_of_getElem? h1'
    have hyx:y≠x:=fun z=>by
     have:=k.nd
     simp only [List.singleton_append,List.nodup_cons] at this
     exact this.1 (z ▸ hm)
    obtain ⟨m,hn,hl⟩:=I.loc
    have hvis:Vis X.env.scope y:=.inr (k.cells y hm)
    obtain ⟨u,ru,l⟩:=hl j y v hz (ng h2'') hvis
    refine ⟨u,ru,?_⟩
    rcases l with ⟨l,_⟩ | ⟨_,c,ec,ic⟩
    ·exfalso
     rcases k.cells y hm with z | z <;> (rw [l] at z;cases z)
    ·obtain ⟨c',ec'⟩:=k.free y hm
     have:c = c':=Option.some.inj (ec.symm.trans (k.up ec'))
     subst this
     refine .inr ⟨?_,c,Rh hyx ec',?_⟩
     ·exact k.vis y hm
     ·obtain ⟨o,ho,hd⟩:=ic
      exact ⟨o,old _ _ ho,hd⟩
 ·intro y c e
  rcases uy e with ⟨e2,f2⟩ | ⟨e2,f2⟩
  ·subst f2
   exact ⟨none,hce⟩
  ·obtain ⟨v,o,ho,hd⟩:=I.cell y c (k.up f2)
   exact ⟨v,o,old _ _ ho,hd⟩
 ·intro y c e
  rcases uy e with ⟨e2,f2⟩ | ⟨e2,f2⟩
  ·subst f2
   exact I.hok.fresh (Nat.le_succ _)
  ·exact I.freeC y c (k.up f2)
 ·show ([none] ++ ixs.map (gv σ)).length = ([x] ++ N).length
  simp [hlen]
theorem fu {elt iter tg:Expr}{ifs:List Expr}{ixs:List Nat}{g:TG}{tt:Addr→Shared→Hp→List Addr→TT}{te:Addr→Shared→Hp→List Addr→TE}{pos:Pos}{pins:List (Addr×Obj)}{σ:St}{H:Hp}{s₂:Shared}{it:Addr}{fp:List Addr}{tn:Nat→Heap→Prop}{J:It}{Q:VK}{RR:Value→Addr→Result→Shared→Prop}{E:Value→Shared→Prop}
  (k:CompOkC X x N scope cl) (hcalm:X.calm = true) (hix:∀ (j:Nat) (i:Nat),ixs[j]? = some i→∃ y,X.N[i]? = some y∧N[j]? = some y) (hlen:ixs.length = N.length)
  (hg:∀ (C:Addr) (s₀:Shared) (H₀:Hp) (ex:List Addr),PG (yt X ([x] ++ N) scope cl x C s₀ H₀ ex) tg g)
  (ht:∀ (C:Addr) (s₀:Shared) (H₀:Hp) (ex:List Addr),PIf (yt X ([x] ++ N) scope cl x C s₀ H₀ ex) ifs (tt C s₀ H₀ ex))
  (he:∀ (C:Addr) (s₀:Shared) (H₀:Hp) (ex:List Addr),PE (yt X ([x] ++ N) scope cl x C s₀ H₀ ex) elt (te C s₀ H₀ ex))
  (I:Inv X pins σ H s₂) (T:fj X.prog X.w X.K tg J fp it tn) (st:tn 0 s₂.heap) (hf:∀ b∈fp,u7 X pins H b)
  (q:∀ (C:Addr) (s₀:Shared) (H₀:Hp) (ex:List Addr),vx 1 g (tt C s₀ H₀ ex) (te C s₀ H₀ ex) (ixs.map (gv σ)) J Q H)
  (hRR:∀ (D C:Addr) (H':Hp) (s':Shared) (m:Str→Option Value),Inv X pins σ H' s'→s'.heap.Ns C m→H' C = none→C≠X.env.locals→C ∉ X.fs→(∀ p∈X.pn ++ pins,p.1≠C)→(∀ y c,X.env.cells.lookup y = some c→c≠C)→X.s₀.heap.objs.size≤C→Q (.ref D) H'→RR (.ref D) C (.ok .next) s') :
  wpAny (model X.prog X.w) X.A (newList []) (fun acc s₃=>wpAny (model X.prog X.w) X.A (newFunctionEnv scope X.env.globals cl [] X.env.qual none .none (some X.env)) (fun cenv s₄ =>
   codeAny (model X.prog X.w) X.A (.compStart (.ListComp elt [⟨tg,iter,ifs,0⟩] scope pos) 0 (.ref it) acc { cenv with scope:=relabel scope X.env }) (RR acc cenv.locals) s₄) E s₃) E s₂:=by
 refine wpAny_newObj_type (Yq k.cf k.pc fun h₁ hns₁ hce₁ hsb₁=>?_)
 dsimp only at hns₁ hsb₁ hce₁ ⊢
 have hfresh:H s₂.heap.objs.size = none:=I.hok.fresh (Nat.le_refl _)
 have I3:Inv X pins σ (upd H s₂.heap.objs.size (.lst [])) { s₂ with heap:=s₂.heap.push { cls:=.type "list",dict:=none,data:=.seq ([]:List Value).toArray } } :=
  I.laid (t':=s₂.toks) (fun b o e=>Heap.get?_push_of_some _ e) (Nat.le_refl _) ⟨Nat.zero_le _,[],0,.nil,Heap.get?_push_size _ rfl⟩
 obtain ⟨W,⟨m0,w0⟩,turn⟩:=q (s₂.heap.push { cls:=.type "list",dict:=none,data:=.seq ([]:List Value).toArray }).objs.size { s₂ with heap:=s₂.heap.push { cls:=.type "list",dict:=none,data:=.seq ([]:List Value).toArray } } (upd H s₂.heap.objs.size (.lst [])) fp s₂.heap.objs.size _ hfresh (xm hfresh _) zw
 have keepPush:∀ b o,s₂.heap.get? b = some o→(s₂.heap.push { cls:=.type "list",dict:=none,data:=.seq ([]:List Value).toArray }).get? b = some o:=fun b o e=>Heap.get?_push_of_some _ e
 have fpOld:∀ b∈fp,b < s₂.heap.objs.size:=fun b hb=>by
  obtain ⟨o,e,_⟩:=T.obj _ _ st b hb
  exact Heap.lt_size e
 have hf3:∀ b∈fp,u7 X pins (upd H s₂.heap.objs.size (.lst [])) b:=fun b hb=>⟨by rw [zk (Nat.ne_of_lt (fpOld b hb))];exact (hf b hb).1,(hf b hb).2⟩
 generalize hH3:upd H s₂.heap.objs.size (.lst []) = H3 at I3 w0 hf3 turn
 generalize hh2:s₂.heap.push { cls:=.type "list",dict:=none,data:=.seq ([]:List Value).toArray } = h2 at I3 hns₁ hsb₁ hce₁ keepPush turn ⊢
 have hszh2:h2.objs.size = s₂.heap.objs.size + 1:=by rw [← hh2,Heap.size_push]
 have fp2:∀ b∈fp,b < h2.objs.size:=fun b hb=>by rw [hszh2];exact Nat.lt_succ_of_lt (fpOld b hb)
 have hk1:∀ b o,b≠h2.objs.size→h2.get? b = some o→h₁.get? b = some o:=fun b o _ e=>hsb₁ b o e
 have I4:=X0 (fp:=fp) (h₁:=h₁) (tk:=s₂.toks) (s:={ s₂ with heap:=h2 }) k I3 hf3 fp2 hix hlen hns₁ hce₁ hk1
 have st4:tn 0 h₁:=T.keep _ _ _ st fun b hb o e=>hk1 b o (Nat.ne_of_lt (fp2 b hb)) (keepPush b o e)
 have fr4:∀ b∈fp,H3 b = none:=fun b hb=>(hf3 b hb).1
 have blk:∀ {H':Hp},(∀ b∈fp,H' b = none)→∀ b∈fp,u7 (yt X ([x] ++ N) scope cl x h2.objs.size { s₂ with heap:=h2 } H3 fp) [] H' b:=fun hn b hb =>
  ⟨hn b hb,(I4.ok.exf b hb).1,I4.ok.exfs b hb,.inl hb,(I4.ok.exf b hb).2,fun p hp=>absurd hp (by simp [yt])⟩
 have loop:∀ s₃:Shared,s₃ = { s₂ with heap:=h₁,toks:=s₂.toks } →
   codeAny (model X.prog X.w) X.A (.compLoop (.ListComp elt [⟨tg,iter,ifs,0⟩] scope pos) 0 (.ref it) (.ref s₂.heap.objs.size) (compEnvC scope ((x,h2.objs.size + 1) :: cl) h2.objs.size X.env)) (RR (.ref s₂.heap.objs.size) h2.objs.size) s₃:=by
  rintro s₃ rfl
  refine ul (fun n s'=>∃ i τ ys H',τ.length = 1∧Inv (yt X ([x] ++ N) scope cl x h2.objs.size { s₂ with heap:=h2 } H3 fp) [] (τ ++ ixs.map (gv σ)) H' s'∧tn i s'.heap∧(∀ b∈fp,H' b = none)∧W i n ys H') ?_ m0 ⟨0,[none],[],H3,by simp,I4,st4,fr4,w0⟩
  rintro n s5 ⟨i,τ,ys,H5,hτ,I5,st5,fr5,w5⟩ E'
  obtain ⟨hD,alt⟩:=turn i n ys H5 w5
  rcases alt with ⟨stop,qn⟩ | ⟨go,hz,step⟩
  ·refine wpAny_mono (T.done (yt X ([x] ++ N) scope cl x h2.objs.size { s₂ with heap:=h2 } H3 fp) rfl rfl rfl hcalm i [] s5 _ H5 E' I5 (blk fr5) st5 stop) (fun r s6 hr=>?_) fun _ _ e=>e
   obtain ⟨rfl,I6⟩:=hr
   obtain ⟨m6,hn6,_⟩:=I6.loc
   have J6:Inv X pins σ H5 s6:=by
    refine I3.call' (ch:=fp) I6.os I6.base I6.hok I6.bare fun b hb=>?_
    obtain ⟨_,f1,f2,f3,f4,f5⟩:=hf3 b hb
    exact ⟨f3,f1,f4,f5⟩
   have szle:X.s₀.heap.objs.size≤h2.objs.size:=I3.sz
   refine hRR s₂.heap.objs.size h2.objs.size H5 s6 m6 J6 hn6 I6.free (Nat.ne_of_gt I3.lt) (I3.nofs (Nat.le_refl _)) (fun p hp z=>?_) (fun y c e z=>?_) szle qn
   ·exact absurd (Heap.lt_size (I3.pin p hp).1) (by rw [z];exact Nat.lt_irrefl _)
   ·obtain ⟨u,ic⟩:=I3.cell y c e
    exact absurd ic.lt (by rw [z];exact Nat.lt_irrefl _)
  ·refine wpAny_mono (T.item (yt X ([x] ++ N) scope cl x h2.objs.size { s₂ with heap:=h2 } H3 fp) rfl rfl rfl hcalm i [] s5 _ H5 E' I5 (blk fr5) st5 go) (fun r s6 hr=>?_) fun _ _ e=>e
   obtain ⟨u,rfl,h6⟩:=hr
   refine wpAny_mono h6 (fun _ s7 h7=>?_) fun _ _ e=>e
   obtain ⟨xv,H7,I7,r7,y7,st7,fr7⟩:=h7
   have I7':=I7.pinned (blk fr7) (T.obj _ _ st7)
   refine wpAny_mono (hg _ _ _ _ _ s7 _ H7 xv u _ I7' r7 (step τ xv H7 hτ y7)) (fun _ s8 h8=>?_) fun _ _ e=>e.elim
   obtain ⟨σ8,H8,I8,⟨τ',rfl,hτ'⟩,q8⟩:=h8
   refine wpAny_mono (ht _ _ _ _ _ s8 _ H8 _ I8 q8) (fun ok s9 h9=>?_) fun _ _ e=>e.elim
   obtain ⟨H9,I9,q9⟩:=h9
   have back:∀ (H10:Hp) (s10:Shared) (ys':List V) (m':Nat),Inv (yt X ([x] ++ N) scope cl x h2.objs.size { s₂ with heap:=h2 } H3 fp) ([] ++ sn fp s7.heap) (τ' ++ ixs.map (gv σ)) H10 s10→m' < n→W (i + 1) m' ys' H10 →
     ∃ m,m < n∧∃ i τ ys H',τ.length = 1∧Inv (yt X ([x] ++ N) scope cl x h2.objs.size { s₂ with heap:=h2 } H3 fp) [] (τ ++ ixs.map (gv σ)) H' s10∧tn i s10.heap∧(∀ b∈fp,H' b = none)∧W i m ys H':=fun H10 s10 ys' m' I10 hm' w10=>by
    refine ⟨m',hm',i + 1,τ',ys',H10,hτ',I10.unpinned (pins:=[]),T.keep _ _ _ st7 fun b hb o e=>(I10.pin (b,o) (List.mem_append_right _ (List.mem_append_right _ (xc hb e)))).1,fun b hb=>?_,w10⟩
    obtain ⟨o,e,d⟩:=T.obj _ _ st7 b hb
    exact (I10.pin (b,o) (List.mem_append_right _ (List.mem_append_right _ (xc hb e)))).2.1
   cases ok with
   | true =>
    simp only [if_true] at q9 ⊢
    refine wpAny_mono (he _ _ _ _ _ s9 _ H9 _ I9 q9) (fun y s10 h10=>?_) fun _ _ e=>e.elim
    obtain ⟨yv,H10,I10,r10,hD10,m',hm',w10⟩:=h10
    refine wpAny_mono (sk (X:=yt X ([x] ++ N) scope cl x h2.objs.size { s₂ with heap:=h2 } H3 fp) _ s10 _ H10 (.ref s₂.heap.objs.size) [yv] (.ref s₂.heap.objs.size) [y] (fun v' H'=>H' = upd H10 s₂.heap.objs.size (.lst (ys ++ [yv]))) I10 rfl (.cons r10 .nil) ⟨_,ys,yv,rfl,rfl,hD10,hz,rfl⟩) (fun _ s11 h11=>?_) fun _ _ e=>e.elim
    obtain ⟨_,H11,I11,_,rfl⟩:=h11
    exact back _ _ _ m' I11 hm' w10
   | false =>
    simp only [Bool.false_eq_true,if_false] at q9 ⊢
    obtain ⟨m',hm',w10⟩:=q9
    exact back _ _ _ m' I9 hm' w10
 exact codeAny_compStart_list (loop _ rfl) (T.self _ 0 _ _ _ st4 (loop _ rfl))
theorem Vt {elt iter tg:Expr}{ifs:List Expr}{ixs:List Nat}{wi:TI}{g:TG}{tt:Addr→Shared→Hp→List Addr→TT}{te:Addr→Shared→Hp→List Addr→TE}{pos:Pos}
  (k:CompOkC X x N scope cl) (hcalm:X.calm = true) (hi:PI X tg iter wi)
  (hg:∀ (C:Addr) (s₀:Shared) (H₀:Hp) (ex:List Addr),PG (yt X ([x] ++ N) scope cl x C s₀ H₀ ex) tg g) (ht:∀ (C:Addr) (s₀:Shared) (H₀:Hp) (ex:List Addr),PIf (yt X ([x] ++ N) scope cl x C s₀ H₀ ex) ifs (tt C s₀ H₀ ex))
  (he:∀ (C:Addr) (s₀:Shared) (H₀:Hp) (ex:List Addr),PE (yt X ([x] ++ N) scope cl x C s₀ H₀ ex) elt (te C s₀ H₀ ex))
  (hx:ixs.map (fun i=>X.N[i]?) = N.map some)
  (hs:∀ x,foldedSetIterable iter X.env x = pure x:=by intro _;rfl):PE X (.ListComp elt [⟨tg,iter,ifs,0⟩] scope pos) (rq 1 ixs wi g tt te):=by
 intro pins s σ H Q I h
 rw [eval_ListComp]
 refine wpAny_comprehension_free (use:=none) rfl hs k.clos k.kind k.names (thn (hi pins s σ H _ I h) fun v s1 h1=>thn h1 fun itv s2 h2=>?_)
 obtain ⟨it,fp,tn,J,H2,rfl,I2,T,st2,f2,q⟩:=h2
 refine fu (RR:=fun acc C=>compPost (model X.prog X.w) X.A X.xe none (EP X pins σ Q) acc C) k hcalm (Z5 hx) (jg hx) hg ht he I2 T st2 f2 q ?_
 intro D C H' s' m J' hn hC hL hfs hp hc h0 q'
 exact ⟨m,hn,fun h'' hs''=>⟨.ref D,H',jf J' hC hL hp hc h0 (fun b o hb e=>hs''.extBut b o hb e),rfl,q'⟩⟩
theorem Tm {px:Pos} (k:CompOkC X x N scope cl) (C:Addr) (s₀:Shared) (H₀:Hp) (ex:List Addr):PG (yt X ([x] ++ N) scope cl x C s₀ H₀ ex) (.Name x px) (mG 0) :=
 wk 0 k.nd rfl (.inr k.mine) (.inl (beq_self_eq_true x))
variable {elt iter:Expr}{px:Pos}{ifs:List Expr}{ixs:List Nat}{wi:TI}{tt:Addr→Shared→Hp→List Addr→TT}{te:Addr→Shared→Hp→List Addr→TE}{pos spos pt:Pos}{z:Str}
theorem Sq (k:CompOkC X x N scope cl) (hc:X.calm = true) (hi:PI X (.Name x px) iter wi) (ht:∀ (C:Addr) (s₀:Shared) (H₀:Hp) (ex:List Addr),PIf (yt X ([x] ++ N) scope cl x C s₀ H₀ ex) ifs (tt C s₀ H₀ ex))
  (he:∀ (C:Addr) (s₀:Shared) (H₀:Hp) (ex:List Addr),PE (yt X ([x] ++ N) scope cl x C s₀ H₀ ex) elt (te C s₀ H₀ ex)) (hx:ixs.map (fun i=>X.N[i]?) = N.map some) (hs:∀ x,foldedSetIterable iter X.env x = pure x:=by intro _;rfl) :
  PE X (.ListComp elt [⟨.Name x px,iter,ifs,0⟩] scope pos) (rq 1 ixs wi (mG 0) tt te):=Vt k hc hi (Tm k) ht he hx hs
end
end My
namespace My
open PySem PySem.Spec L2
open PyProof.Rows hiding St
section
variable {X:Cx}
def M8 (K:PySem.W.Frag):List V→Hp→VK→Prop:=fun xs H Q=>match xs with
 | [.ref p]=>∃ ns:List Int,SqL K H p (ns.map V.int)∧Q (.int ns.sum) H
 | _=>False
theorem Oj {K:PySem.W.Frag}{H:Hp}{Q:VK}{p:Addr}:M8 K [.ref p] H Q = (∃ ns:List Int,SqL K H p (ns.map V.int)∧Q (.int ns.sum) H):=rfl
theorem dv {ns:List Int}{its:List Value}{xs:Array (Int×Tok)} (hi:IntsAre its ns) (hx:its.toArray = intItems xs):preSum (numAt xs) xs.size = ns.sum:=by
 have h1:numsOf its.toArray.toList = ns:=hi.numsOf
 rw [hx,nums_intItems] at h1
 have h2:=preSum_eq xs xs.size
 rw [h1] at h2
 rw [h2]
 congr 1
 rw [← h1]
 exact List.take_of_length_le (Nat.le_of_eq (by simp))
theorem Nk (hc:X.calm = true):wm X (.builtin "sum") (M8 X.K):=by
 intro pins s σ H xs us Q I r h
 match xs,h with
 | [.ref p],h =>
  obtain ⟨ns,hq,q⟩:=(show ∃ ns:List Int,SqL X.K H p (ns.map V.int)∧Q (.int ns.sum) H from h)
  obtain ⟨u,rfl,rx⟩:=ua r
  cases rx
  obtain ⟨its,rv,pl,hz⟩:=I.list hq
  have hi:=ni rv
  obtain ⟨ys,hy⟩:=hi.allInts.items
  have hl:s.heap.IsList p (intItems ys):=hy ▸ pl.isList
  refine sum_intListG (I.ok.hd hc) hl fun h' tk t' hk=>?_
  rw [dv hi hy]
  exact ⟨.int ns.sum,H,I.kept hk,⟨t',rfl⟩,q⟩
theorem O9:bootBuiltins "sum" = some (.builtin "sum"):=by decide +kernel
end
structure Lf (K:PySem.W.Frag) (x:Str) (st:Stmt) (f:Addr) (fd:FuncData):Prop where
 ex:∃ (oc:Value) (od:Option Addr) (dV kV doc pm:Value) (an:Option Addr) (cdv ct:Value) (osl:Array (Option Value)),
  fd = PySem.W.fnOf x x (zg st) (zm st) (z4 st) dV kV doc pm an cdv ct∧K.lookup f = some ⟨oc,od,.func fd,osl⟩∧PySem.W.codeIn K cdv x = true
 kp:PySem.W.keepIn K (.ref f) = true
structure DefD (K:PySem.W.Frag) (mg:Str→Option Value) (x:Str) (st:Stmt) (ps:List Str) (ds:List Value):Prop where
 ex:∃ (f:Addr) (fd:FuncData),Lf K x st f fd∧Binds K fd ps []∧Binds K fd ps ds∧mg x = some (.ref f)
structure CalleeD (P:Program) (w:World) (K:PySem.W.Frag) (mg:Str→Option Value) (base:Heap) (k:Nat) (x:Str) (ps:List Str) (ds:List Value) (sp:Sp):Prop where
 ex:∃ (f:Addr) (fd:FuncData),FnOk P w K mg base CX0 k f fd ps sp∧Binds K fd ps []∧Binds K fd ps ds∧PySem.W.keepIn K (.ref f) = true∧mg x = some (.ref f)
section
variable {P:Program}{w:World}{K:PySem.W.Frag}{mg:Str→Option Value}{base:Heap}
theorem CalleeD.full {k:Nat}{x:Str}{ps:List Str}{ds:List Value}{sp:Sp} (C:CalleeD P w K mg base k x ps ds sp):zx P w K mg base k x ps sp:=by
 obtain ⟨f,fd,F,b,_,kp,hm⟩:=C.ex
 exact ⟨f,fd,F,b,kp,hm⟩
theorem DefD.callee {x:Str}{st:Stmt}{N ps:List Str}{ds:List Value}{k:Nat}{sp:Sp} (F:DefD K mg x st ps ds) (S:zu N ps (z4 st)) (len:∀ vs H Q E,sp vs H Q E→vs.length = ps.length)
  (hbody:∀ (f:Addr) (cdv:Value) (A:Around) (outer:List Env) (s:Shared) (H:Hp) (vs:List V) (Q:VK) (E:XK),Room k (A.deeper (envOfC x (z4 st) s.heap.objs.size f cdv))→sp vs H Q E →
   ∃ σ t,wf N vs = σ∧PSs (sf CX0 P w K mg base N x (z4 st) f cdv A outer s H E).nox (zm st) t∧t { nx:=fun _ H'=>Q .non H',rt:=Q } σ H):CalleeD P w K mg base (k + 1) x ps ds sp:=by
 obtain ⟨f,fd,F,b0,b1,hm⟩:=F.ex
 obtain ⟨oc,od,dV,kV,doc,pm,an,cdv,ct,osl,rfl,lk,hcd⟩:=F.ex
 refine ⟨f,_,Zz lk hcd S len fun A outer s H vs Q E hr hsp=>?_,b0,b1,F.kp,hm⟩
 obtain ⟨σ,t,e,ht,q⟩:=hbody f cdv A outer s H vs Q E hr hsp
 exact ⟨t,ht.nox,by rw [e];exact q⟩
theorem Zx {h:Heap}{x:Str}{st:Stmt}{ps:List Str}{ds:List Value}{f:Addr}{oc dV:Value}{od an:Option Addr}{osl:Array (Option Value)}{kV doc pm cdv ct:Value} (X:K.In h) (G:h.Ns mainGlobals mg)
  (a:PySem.W.nsIn K mainGlobals x = some (some (.ref f))) (l:K.lookup f = some ⟨oc,od,.func (PySem.W.fnOf x x (zg st) (zm st) (z4 st) dV kV doc pm an cdv ct),osl⟩)
  (c:PySem.W.codeIn K cdv x = true) (k:PySem.W.keepIn K (.ref f) = true)
  (b0:Binds K (PySem.W.fnOf x x (zg st) (zm st) (z4 st) dV kV doc pm an cdv ct) ps []) (b1:Binds K (PySem.W.fnOf x x (zg st) (zm st) (z4 st) dV kV doc pm an cdv ct) ps ds):DefD K mg x st ps ds :=
 ⟨f,_,⟨⟨oc,od,dV,kV,doc,pm,an,cdv,ct,osl,rfl,l,c⟩,k⟩,b0,b1,PySem.W.mg_of X G a⟩
theorem uv {fd:FuncData}{ps:List Str}{ds:List Value}{T:Addr}{o:Obj}{items:Array Value}{n:Nat} (t:K.lookup T = some o) (hs:o.data = .seq items n) (hd:fd.defaults = .ref T)
  (h1:∀ us:List Value,(us ++ ds).length = ps.length→∃ k:Option (Array Value)→Sem (List (Str×Value)),bindArgs fd ⟨us,[]⟩ = seqItems? fd.defaults >>= k∧k (some items) = pure (ps.zip (us ++ ds))):Binds K fd ps ds:=fun s us KX hl=>by
 obtain ⟨k,e1,e2⟩:=h1 us hl
 exact BindsTo.of_defaults hd (KX _ _ t) hs e1 e2
end
section
variable {X:Cx}
def No (R:It→Hp→Prop):List V→Hp→Prop:=fun vs H=>match vs with
 | [.int i,.int j]=>(-(2 ^ 62)≤i∧i < 2 ^ 62∧-(2 ^ 62)≤j∧j < 2 ^ 62)∧R (Itr i (j - i).toNat) H
 | _=>False
theorem S9 {R:It→Hp→Prop}{i j:Int}{H:Hp}:No R [.int i,.int j] H = ((-(2 ^ 62)≤i∧i < 2 ^ 62∧-(2 ^ 62)≤j∧j < 2 ^ 62)∧R (Itr i (j - i).toNat) H):=rfl
def iR2 (ta:TA):TI:=fun σ H R=>ta σ H (No R)
end
theorem Vi {J:It}{n:Nat}{g:TG}{tb:TS}{D:ur}{σ:St}{H:Hp} (Pv:Nat→St→Hp→Prop) (h0:Pv 0 σ H)
  (hgo:∀ i σ H,i < n→Pv i σ H→J.go i H) (hst:∀ σ H,Pv n σ H→J.stop n H)
  (hs:∀ i v σ H H',i < n→Pv i σ H→J.yld i H v H'→g v σ H' fun σ2 H2=>tb { D with nx:=Pv (i + 1),ct:=Pv (i + 1),bk:=D.nx } σ2 H2) (hd:∀ σ H,Pv n σ H→D.nx σ H):Xs g tb J D σ H:=by
 refine ⟨fun i m σ H=>m = n - i∧i≤n∧Pv i σ H,⟨n,by simp,Nat.zero_le _,h0⟩,?_⟩
 rintro i m σ H ⟨rfl,hi,p⟩
 by_cases hlt:i < n
 ·exact .inr ⟨hgo i σ H hlt p,Pv (i + 1),fun σ' H' p'=>⟨n - (i + 1),by omega,rfl,hlt,p'⟩,fun x H' y=>hs i x σ H H' hlt p y⟩
 ·have e:i = n:=by omega
  subst e
  exact .inl ⟨hst σ H p,hd σ H p⟩
theorem cg {K:PySem.W.Frag}{a:Addr}{xs:List V}{j k:Nat}{tb:TS}{D:ur}{σ:St}{H:Hp} (Pv:Nat→St→Hp→Prop) (h0:Pv 0 σ H) (hl:∀ i σ H,i≤xs.length→Pv i σ H→SqT K H a xs)
  (hs:∀ (i:Nat) x σ H H',xs[i]? = some x→Pv i σ H→Same H H'→tb { D with nx:=Pv (i + 1),ct:=Pv (i + 1),bk:=D.nx } (sv (sv σ j (.int (i:Int))) k x) H') (hd:∀ σ H,Pv xs.length σ H→D.nx σ H) :
  Xs (mG2 K j k) tb (Ite K a) D σ H :=
 Vi (n:=xs.length) Pv h0 (fun i σ H hi p=>⟨xs,xs[i],hl i σ H (Nat.le_of_lt hi) p,by simp [hi]⟩) (fun σ H p=>⟨xs,hl _ σ H (Nat.le_refl _) p,rfl⟩) (fun i v σ H H' hi p y=>by
  obtain ⟨b,x,rfl,hn,rfl,hx⟩:=y
  exact ⟨b,_,_,rfl,SqT.of zw,hs i x σ H _ (hx xs (hl i σ H (Nat.le_of_lt hi) p)) p (xm hn _)⟩) hd
end My
namespace My
open PySem PySem.Spec PySem.W PySem.Calls L2
open PyProof.Rows hiding St
theorem xt {h:Heap}{a b:Addr}{oa ob:Obj} (ha:h.get? a = some oa) (hb:h.get? b = some ob) (hc:oa.cls≠ob.cls):a≠b:=fun z=>by
 subst z
 rw [ha] at hb
 cases hb
 exact hc rfl
def ZipSt (z tI tO i1 i2 l1 l2:Addr) (i:Nat) (h:Heap):Prop:=IsZip h z tI tO .none∧IsPair h tI (.ref i1) (.ref i2)∧(∃ u v,IsPair h tO u v)∧h.IsListIter i1 l1 i∧h.IsListIter i2 l2 i
theorem l7 {h:Heap}{z tI tO i1 i2 l1 l2:Addr}{i:Nat}{xs ys:Array Value} (t:tI≠tO) (ii:i1≠i2) (st:ZipSt z tI tO i1 i2 l1 l2 i h) (h1:h.IsList l1 xs) (h2:h.IsList l2 ys):ZipApart z tI tO i1 i2 l1 l2:=by
 obtain ⟨hz,hI,⟨u,v,hO⟩,⟨oa,ea,ca,_⟩,⟨ob,eb,cb,_⟩⟩:=st
 obtain ⟨o1,e1,c1,_⟩:=h1
 obtain ⟨o2,e2,c2,_⟩:=h2
 have hz':h.get? z = some _:=hz
 have hI':h.get? tI = some _:=hI
 have hO':h.get? tO = some _:=hO
 exact ⟨xt hI' hz' (by simp),xt hO' hz' (by simp),xt ea hz' (by rw [ca];simp),xt eb hz' (by rw [cb];simp),t,xt hI' ea (by rw [ca];simp),xt hI' eb (by rw [cb];simp),xt hO' ea (by rw [ca];simp),xt hO' eb (by rw [cb];simp),ii,
  xt e1 hz' (by rw [c1];simp),xt e1 hO' (by rw [c1];simp),xt e1 ea (by rw [c1,ca];simp),xt e1 eb (by rw [c1,cb];simp),xt e2 hz' (by rw [c2];simp),xt e2 hO' (by rw [c2];simp),xt e2 ea (by rw [c2,ca];simp),xt e2 eb (by rw [c2,cb];simp)⟩
theorem ZipSt.lt {z tI tO i1 i2 l1 l2:Addr}{i:Nat}{h:Heap} (st:ZipSt z tI tO i1 i2 l1 l2 i h):∀ b∈[z,tI,tO,i1,i2],b < h.objs.size:=fun b hb=>by
 obtain ⟨hz,hI,⟨u,v,hO⟩,⟨oa,ea,_⟩,⟨ob,eb,_⟩⟩:=st
 simp only [List.mem_cons,List.not_mem_nil,or_false] at hb
 rcases hb with rfl | rfl | rfl | rfl | rfl
 ·exact Heap.lt_size hz
 ·exact Heap.lt_size hI
 ·exact Heap.lt_size hO
 ·exact Heap.lt_size ea
 ·exact Heap.lt_size eb
def Itz (K:PySem.W.Frag) (a b:Addr):It :=
 ⟨fun i H=>∃ xs ys x y,SqL K H a xs∧SqL K H b ys∧xs[i]? = some x∧ys[i]? = some y,fun i H v H'=>∃ p x y,v = .ref p∧H p = none∧H' = upd H p (.tup [x,y])∧(∀ xs,SqL K H a xs→xs[i]? = some x)∧∀ ys,SqL K H b ys→ys[i]? = some y,fun i H=>∃ xs ys,SqL K H a xs∧SqL K H b ys∧xs.length = i∧ys.length = i⟩
theorem Zh {P:Program}{w:World}{K:PySem.W.Frag}{elts:List Expr}{k:Nat}{pos:Pos} (l1 l2 z tI tO i1 i2:Addr) (t:tI≠tO) (ii:i1≠i2) :
  fj P w K (.Tuple elts k pos) (Itz K l1 l2) [z,tI,tO,i1,i2] z (ZipSt z tI tO i1 i2 l1 l2) where
 mem:=by simp
 obj:=fun i h st b hb=>by
  obtain ⟨hz,hI,⟨u,v,hO⟩,⟨oa,ea,ca,da⟩,⟨ob,eb,cb,db⟩⟩:=st
  simp only [List.mem_cons,List.not_mem_nil,or_false] at hb
  rcases hb with rfl | rfl | rfl | rfl | rfl
  ·exact ⟨_,hz,fun v z=>by cases (show Data.fields _ = Data.cell v from z)⟩
  ·exact ⟨_,hI,fun v z=>by cases (show Data.seq _ _ = Data.cell v from z)⟩
  ·exact ⟨_,hO,fun v z=>by cases (show Data.seq _ _ = Data.cell v from z)⟩
  ·exact ⟨oa,ea,fun v z=>by rw [da] at z;cases z⟩
  ·exact ⟨ob,eb,fun v z=>by rw [db] at z;cases z⟩
 keep:=fun i h h' st kk=>by
  obtain ⟨hz,hI,⟨u,v,hO⟩,ha,hb⟩:=st
  exact ⟨kk z (by simp) _ hz,kk tI (by simp) _ hI,⟨u,v,kk tO (by simp) _ hO⟩,ha.at fun o e=>kk i1 (by simp) o e,hb.at fun o e=>kk i2 (by simp) o e⟩
 item:=by
  intro X hP hw hK hc i pins s σ H E I hf st hg
  subst hP hw hK
  obtain ⟨xs,ys,x,y,hq1,hq2,hx,hy⟩:=hg
  obtain ⟨its,rv,p,hz1⟩:=I.list hq1
  obtain ⟨jts,rw',p',hz2⟩:=I.list hq2
  obtain ⟨u,hu,ru⟩:=rv.get hx
  obtain ⟨v,hv,rv'⟩:=rw'.get hy
  have ap:=l7 t ii st p.isList p'.isList
  have st':=st
  obtain ⟨hz,hI,⟨u0,v0,hO⟩,ha,hb⟩:=st
  refine wpAny_pyNext_zip_item ap hz hI hO ha hb p.isList p'.isList (x:=u) (y:=v) (by simpa using hu) (by simpa using hv) fun h1 a1 a2 a3 a4 a5 a6 hk=>?_
  refine ⟨_,rfl,wpAny_letOwnedTupleGo_zip (s:={ s with heap:=h1 }) a1 fun h2 b1 hs2=>?_⟩
  have fr:H s.heap.objs.size = none:=I.hok.fresh (Nat.le_refl _)
  have I1:Inv X pins σ (upd H s.heap.objs.size (.tup [x,y])) { s with heap:=s.heap.push { cls:=.type "tuple",data:=.seq #[u,v] },toks:=s.toks } :=
   I.laid (fun b o e1=>Heap.get?_push_of_some _ e1) (Nat.le_refl _) ⟨by simp only [List.length_cons,List.length_nil];rw [sizeLine_eq];decide,[u,v],.cons ru (.cons rv' .nil),⟨_,Heap.get?_push_size _ rfl,rfl,_,rfl⟩⟩
  have lt5:∀ b∈[z,tI,tO,i1,i2],b < s.heap.objs.size:=fun b hb'=>by
   have:=ZipSt.lt st' b hb'
   exact this
  have hf1:∀ b∈[z,tI,tO,i1,i2],u7 X pins (upd H s.heap.objs.size (.tup [x,y])) b:=fun b hb'=>⟨by rw [zk (Nat.ne_of_lt (lt5 b hb'))];exact (hf b hb').1,(hf b hb').2⟩
  have I2:Inv X pins σ (upd H s.heap.objs.size (.tup [x,y])) { s with heap:=h2,toks:=s.toks }:=qp (s:={ s with heap:=s.heap.push { cls:=.type "tuple",data:=.seq #[u,v] },toks:=s.toks }) [z,tI,tO,i1,i2] I1 hf1 fun b o hb' e1=>by
   have n1:b≠z:=fun q=>hb' (by simp [q])
   have n2:b≠tO:=fun q=>hb' (by simp [q])
   have n3:b≠i1:=fun q=>hb' (by simp [q])
   have n4:b≠i2:=fun q=>hb' (by simp [q])
   refine (hs2.2 b n1).trans ?_
   rcases Heap.get?_push_cases e1 with ⟨rfl,rfl⟩ | e1
   ·exact a5
   ·exact hk b o n1 n2 n3 n4 e1
  refine ⟨.ref s.heap.objs.size,upd H s.heap.objs.size (.tup [x,y]),I2,rfl,⟨_,x,y,rfl,fr,rfl,fun ys' hy2=>by rw [I.list_inj hy2 hq1];exact hx,fun ys' hy2=>by rw [I.list_inj hy2 hq2];exact hy⟩,⟨b1,?_,⟨u,v,?_⟩,a3.at fun o e1=>(hs2.2 i1 ap.i1z).trans e1,a4.at fun o e1=>(hs2.2 i2 ap.i2z).trans e1⟩,fun b hb'=>(hf1 b hb').1⟩
  ·exact (hs2.2 tI ap.TIz).trans (hk tI _ ap.TIz ap.TITO ap.TIi1 ap.TIi2 hI)
  ·exact (hs2.2 tO ap.TOz).trans a2
 done:=by
  intro X hP hw hK hc i pins s σ H E I hf st hg
  subst hP hw hK
  obtain ⟨xs,ys,hq1,hq2,hx,hy⟩:=hg
  obtain ⟨its,rv,p,hz1⟩:=I.list hq1
  obtain ⟨jts,rw',p',hz2⟩:=I.list hq2
  have ap:=l7 t ii st p.isList p'.isList
  obtain ⟨hz,hI,⟨u0,v0,hO⟩,ha,hb⟩:=st
  refine wpAny_pyNext_zip_end (I.ok.hd hc) ap hz hI hO ha hb p.isList p'.isList (.inl ?_) fun h1 hk=>⟨rfl,qp (t':=s.toks) [z,tI,tO,i1,i2] I hf fun b o hb' e1=>hk b o (fun q=>hb' (by simp [q])) (fun q=>hb' (by simp [q])) (fun q=>hb' (by simp [q])) (fun q=>hb' (by simp [q])) e1⟩
  have:its.toArray.size = i:=by rw [List.size_toArray,← rv.length];exact hx
  exact Array.getElem?_eq_none (by omega)
 self:=fun _ _ _ _ _ st h=>wpAny_pyIter_zip st.1 h
section
variable {X:Cx}
theorem Pa:bootBuiltins "zip" = some (.type "zip"):=by decide +kernel
def onZ (K:PySem.W.Frag) (R:It→Hp→Prop):List V→Hp→Prop:=fun vs H=>match vs with
 | [.ref a,.ref b]=>((∃ xs,SqL K H a xs)∧∃ ys,SqL K H b ys)∧R (Itz K a b) H
 | _=>False
theorem P2 {K:PySem.W.Frag}{R:It→Hp→Prop}{a b:Addr}{H:Hp}:onZ K R [.ref a,.ref b] H = (((∃ xs,SqL K H a xs)∧∃ ys,SqL K H b ys)∧R (Itz K a b) H):=rfl
def iZp (K:PySem.W.Frag) (ta:TA):TI:=fun σ H R=>ta σ H (onZ K R)
theorem Nl {elts:List Expr}{kk:Nat}{pt:Pos}{a b:Expr}{ta:TA}{p pos:Pos} (hg:Gl X "zip") (hm:X.mg "zip" = none) (ha:PA X [a,b] ta) (hs:starEach [a,b] X.env = [(false,eval a X.env),(false,eval b X.env)]:=by rfl)
  (hs2:starEach [b] X.env = [(false,eval b X.env)]:=by rfl):PI X (.Tuple elts kk pt) (.Call (.Name "zip" p) [a,b] [] pos) (iZp X.K ta):=by
 intro pins s σ H R I h
 refine Call_ (xb I hg hm Pa (PyProof.Rows.callWith_type1 (thn (ha pos pins s σ H _ I h) fun us s1 ⟨vs,H1,I1,r1,q1⟩=>?_) (by rw [hs,hs2]) (by rw [hs2];rfl)))
 match vs,q1 with
 | [.ref a,.ref b],q1 =>
  obtain ⟨⟨⟨xs,hq1⟩,⟨ys,hq2⟩⟩,q⟩:=(show ((∃ xs,SqL X.K H1 a xs)∧∃ ys,SqL X.K H1 b ys)∧R (Itz X.K a b) H1 from q1)
  obtain ⟨u,w',rfl,ru,rw'⟩:=a9 r1
  cases ru
  cases rw'
  obtain ⟨its,rv,p1,hz1⟩:=I1.list hq1
  obtain ⟨jts,rv2,p2,hz2⟩:=I1.list hq2
  refine call_zip_2 p1.isList p2.isList fun h' hz hI hO ha hb hsz hk=>?_
  refine wpAny_pyIter_zip (s:={ s1 with heap:=h' }) hz ?_
  have I2:Inv X pins σ H1 { s1 with heap:=h' }:=I1.kept (t':=s1.toks) hk
  refine ⟨_,[s1.heap.objs.size + 4,s1.heap.objs.size + 2,s1.heap.objs.size + 3,s1.heap.objs.size,s1.heap.objs.size + 1],_,_,H1,rfl,I2,Zh a b _ _ _ _ _ (fun q=>absurd (Nat.add_left_cancel q) (by decide)) (fun q=>absurd q (Nat.ne_of_lt (Nat.lt_succ_self _))),⟨hz,hI,⟨_,_,hO⟩,ha,hb⟩,fun c hc=>?_,q⟩
  have hge:s1.heap.objs.size≤c:=by
   simp only [List.mem_cons,List.not_mem_nil,or_false] at hc
   rcases hc with rfl | rfl | rfl | rfl | rfl
   ·exact Nat.le_add_right _ _
   ·exact Nat.le_add_right _ _
   ·exact Nat.le_add_right _ _
   ·exact Nat.le_refl _
   ·exact Nat.le_succ _
  exact I1.fpOk hge (I1.hok.fresh hge)
end
theorem Xz {K:PySem.W.Frag}{a b:Addr}{xs ys:List V}{tt:TT}{te:TE}{ρ:St}{Q:VK}{H1:Hp} (Pv:Addr→Nat→List V→Hp→Prop) (hsz:xs.length≤sizeLine) (hxy:xs.length = ys.length)
  (h0:∀ D H2,H1 D = none→Same H1 H2→H2 D = some (.lst [])→Pv D 0 [] H2)
  (hl:∀ D i zs H,Pv D i zs H→SqL K H a xs∧SqL K H b ys∧H D = some (.lst zs)∧zs.length≤i)
  (hs:∀ D (i:Nat) u v zs H H',xs[i]? = some u→ys[i]? = some v→Pv D i zs H→Same H H'→mn tt te (some u :: some v :: ρ) D xs.length i zs (Pv D (i + 1)) H')
  (hd:∀ D zs H,Pv D xs.length zs H→Q (.ref D) H):vx 2 (mG2 K 0 1) tt te ρ (Itz K a b) Q H1 :=
 u9 Pv hsz h0 (fun D i zs H _ p=>(hl D i zs H p).2.2) (fun D i zs H hi p=>⟨xs,ys,xs[i],ys[i],(hl D i zs H p).1,(hl D i zs H p).2.1,by simp [hi],by simp [hxy ▸ hi]⟩) (fun D zs H p=>⟨xs,ys,(hl D _ zs H p).1,(hl D _ zs H p).2.1,rfl,hxy.symm⟩) (fun D i v zs H H' τ hi hτ p y=>by
  obtain ⟨t,u,rfl⟩:=Xn hτ
  obtain ⟨c,x,y',rfl,hn,rfl,hx,hy⟩:=y
  refine ⟨c,_,_,rfl,SqT.of zw,⟨[some x,some y'],rfl,rfl⟩,?_⟩
  exact hs D i x y' zs H _ (hx xs (hl D i zs _ p).1) (hy ys (hl D i zs _ p).2.1) p (xm hn _)) hd
section
variable {X:Cx}
def Rm (K:PySem.W.Frag):List V→Hp→VK→Prop:=fun xs H Q=>match xs with
 | [.ref p]=>∃ ns:List Int,SqL K H p (ns.map V.int)∧0 < ns.length∧∀ M,M∈ns→(∀ a∈ns,M≤a)→Q (.int M) H
 | _=>False
theorem Qx {K:PySem.W.Frag}{H:Hp}{Q:VK}{p:Addr}:Rm K [.ref p] H Q = (∃ ns:List Int,SqL K H p (ns.map V.int)∧0 < ns.length∧∀ M,M∈ns→(∀ a∈ns,M≤a)→Q (.int M) H):=rfl
theorem Pw (hc:X.calm = true):wm X (.builtin "min") (Rm X.K):=by
 intro pins s σ H xs us Q I r h
 match xs,h with
 | [.ref p],h =>
  obtain ⟨ns,hq,hne,q⟩:=(show ∃ ns:List Int,SqL X.K H p (ns.map V.int)∧0 < ns.length∧∀ M,M∈ns→(∀ a∈ns,M≤a)→Q (.int M) H from h)
  obtain ⟨u,rfl,rx⟩:=ua r
  cases rx
  obtain ⟨its,rv,pl,hz⟩:=I.list hq
  have hi:=ni rv
  obtain ⟨ys,hy⟩:=hi.allInts.items
  have hl:s.heap.IsList p (intItems ys):=hy ▸ pl.isList
  have en:ns = ys.toList.map (·.1):=by
   have h1:numsOf its.toArray.toList = ns:=hi.numsOf
   rw [hy,nums_intItems] at h1
   exact h1.symm
  have hsz:ns.length = ys.size:=by rw [en];simp
  refine min_intList (I.ok.hd hc) hl (by omega) fun v h' tk hv hk=>?_
  obtain ⟨t,rfl⟩:=intItems_at hv
  obtain ⟨b1,b2⟩:=argBest_lt (numAt ys) (ys.size - 1)
  refine ⟨.int _,H,I.kept hk,⟨t,rfl⟩,q _ ?_ fun a ha=>?_⟩
  ·rw [numAt_eq,← en]
   exact getD_mem (by omega)
  ·rw [en] at ha
   obtain ⟨j,hj,rfl⟩:=mem_getD ha
   rw [← en,hsz] at hj
   have:=b2 j (by omega)
   rwa [numAt_eq ys j] at this
end
end My
namespace My
open PySem PySem.Spec PySem.W PySem.Calls L2
open PyProof.Rows hiding St
structure Mk0 (K:PySem.W.Frag) (C:Addr):Prop where
 makes:PySem.W.makesIn K C = true
 init:PySem.W.findIn K (.ref C) "__init__" = some (some (.builtin "object.__init__"))
 kp:PySem.W.keepIn K (.ref C) = true
def Xi (C:Addr):TE:=fun _ H Q=>∀ x dx,H x = none→H dx = none→dx≠x→Q (.ref x) (upd (upd H dx (.own x)) x (.ins C dx []))
section
variable {X:Cx}
theorem jm {C:Addr}{x:Str}{p pos:Pos} (M:Mk0 X.K C) (hm:X.mg x = some (.ref C)) (hg:Gl X x:=by rfl) (hdb:(x == ("__debug__":Str)) = false:=by decide):PE X (.Call (.Name x p) [] [] pos) (Xi C):=by
 intro pins s σ H Q I h
 refine wpAny_Call_Name_kw (jh I hg hm ?_ hdb)
 refine PySem.W.callWith_K0 I.kIn M.kp ?_
 refine wpAny_call (Yo I.kIn M.makes M.init (fun self=>Looks.of_pure (oi_bind self)) ?_)
 have Y:=makes_of (M:=model X.prog X.w) I.kIn M.makes
 have I2:=Inv.made (C:=C) I
 have e2:((s.heap.push PySem.W.emptyDict).push (PySem.W.instObj C s.heap.objs.size)).get? (s.heap.objs.size + 1) = some (PySem.W.instObj C s.heap.objs.size):=by
  have g:=Heap.get?_push_size (s.heap.push PySem.W.emptyDict) (o:=PySem.W.instObj C s.heap.objs.size) rfl;rwa [Heap.size_push] at g
 have t1:Looks (model X.prog X.w) ((s.heap.push PySem.W.emptyDict).push (PySem.W.instObj C s.heap.objs.size)) (typeOf (.ref (s.heap.objs.size + 1))) (.ref C):=(Looks.ld e2).andThen .now
 have t2:Looks (model X.prog X.w) ((s.heap.push PySem.W.emptyDict).push (PySem.W.instObj C s.heap.objs.size)) (isInstance (.ref (s.heap.objs.size + 1)) (.type "object")) true:=t1.andThen (Y.top.keeps fun b o e=>Heap.get?_push_of_some _ (Heap.get?_push_of_some _ e))
 refine codeAny_call_builtin oi_plain entry_oi (@check_slot (model X.prog X.w) _ _ _ "object.__init__" "object" "__init__" (.ref (s.heap.objs.size + 1)) [] [] _ oi_kind oi_split t2 (oi_args (.ref (s.heap.objs.size + 1))) ?_)
 rw [oi_run]
 refine wpAny_pure (And.intro rfl ?_)
 exact ⟨.ref (s.heap.objs.size + 1),_,I2,rfl,h _ _ (I.hok.fresh (Nat.le_succ _)) (I.hok.fresh (Nat.le_refl _)) (Nat.ne_of_lt (Nat.lt_succ_self _))⟩
end
structure DefM (K:PySem.W.Frag) (C:Addr) (x qual:Str) (st:Stmt) (ps:List Str):Prop where
 ex:∃ (f:Addr) (fd:FuncData),Fun K x qual st f fd∧(∀ us:List Value,us.length = ps.length→bindArgs fd ⟨us,[]⟩ = pure (ps.zip us))∧Rw K C x f∧Cls K C
structure xi (P:Program) (w:World) (K:PySem.W.Frag) (mg:Str→Option Value) (base:Heap) (k:Nat) (C:Addr) (x:Str) (ps:List Str) (sp:Sp):Prop where
 ex:∃ (f:Addr) (fd:FuncData),FnOk P w K mg base CX0 k f fd ps sp∧Binds K fd ps []∧Rw K C x f∧Cls K C
section
variable {P:Program}{w:World}{K:PySem.W.Frag}{mg:Str→Option Value}{base:Heap}
theorem DefM.callee {C:Addr}{x qual:Str}{st:Stmt}{N ps:List Str}{k:Nat}{sp:Sp} (F:DefM K C x qual st ps) (S:zu N ps (z4 st)) (len:∀ vs H Q E,sp vs H Q E→vs.length = ps.length)
  (hbody:∀ (f:Addr) (cdv:Value) (A:Around) (outer:List Env) (s:Shared) (H:Hp) (vs:List V) (Q:VK) (E:XK),Room k (A.deeper (envOfC qual (z4 st) s.heap.objs.size f cdv))→sp vs H Q E →
   ∃ σ t,wf N vs = σ∧PSs (sf CX0 P w K mg base N qual (z4 st) f cdv A outer s H E).nox (zm st) t∧t { nx:=fun _ H'=>Q .non H',rt:=Q } σ H):xi P w K mg base (k + 1) C x ps sp:=by
 obtain ⟨f,fd,F,b,hm,hc⟩:=F.ex
 refine ⟨f,fd,F.ok S len fun cdv A outer s H vs Q E hr h=>?_,.all b,hm,hc⟩
 obtain ⟨σ,t,e,ht,q⟩:=hbody f cdv A outer s H vs Q E hr h
 exact ⟨t,ht,by rw [e];exact q⟩
theorem wz {X:Cx}{C:Addr}{k k':Nat}{x:Str}{ps:List Str}{sp:Sp}{ta:TE}{t:TA}{o e:Expr}{es:List Expr}{pos apos:Pos}{pl:Sem Bool} (C':xi X.prog X.w X.K X.mg X.base k C x ps sp) (hr:Room k' X.A) (hk:k≤k') (ho:PE X o ta) (ha:PA X (e :: es) t)
  (hst:starEach (e :: es) X.env = (false,eval e X.env) :: starEach es X.env:=by rfl) (hpl:(backTo pos (starEach es X.env)).any (·.1) = false:=by rfl)
  (ht:eval (.Call (.Attribute o x apos) (e :: es) [] pos) X.env = (do
   let ov ← eval o X.env;standAt apos.atName
   let (f,first) ← holding [ov] (getMethod ov x pl);callWith pos f first (backTo pos (starEach (e :: es) X.env)) (backToKw pos (keywordEach [] X.env))):=by rfl) :
  PE X (.Call (.Attribute o x apos) (e :: es) [] pos) (Rv C x sp [] E0 ta t):=by
 obtain ⟨f,fd,F,b,hm,hc⟩:=C'.ex
 exact Ti (pl:=pl) ho hc hm F (hr.mono hk) b .nil Wf ha hst hpl ht
end
def yj (st:Stmt) (j:Nat):Stmt:=match st with
 | .ClassDef _ _ _ b _ _ _ _ _ _ _=>b.getD j (.Pass ⟨0,0,0,0⟩)
 | _=>.Pass ⟨0,0,0,0⟩
theorem qd {K:PySem.W.Frag}{C:Addr}{x qual:Str}{st:Stmt}{ps:List Str}{f:Addr}{oc:Value}{od an:Option Addr}{osl:Array (Option Value)}{kV doc pm cdv ct:Value}
  (a:PySem.W.findIn K (.ref C) x = some (some (.ref f))) (l:K.lookup f = some ⟨oc,od,.func (PySem.W.fnOf x qual (zg st) (zm st) (z4 st) .none kV doc pm an cdv ct),osl⟩)
  (c:PySem.W.codeIn K cdv qual = true) (k:PySem.W.keepIn K (.ref f) = true) (fn:PySem.W.isFn K (.ref f) = true) (cl:Cls K C)
  (hb:∀ (kV doc pm:Value) (an:Option Addr) (cdv ct:Value) (us:List Value),us.length = ps.length→bindArgs (PySem.W.fnOf x qual (zg st) (zm st) (z4 st) .none kV doc pm an cdv ct) ⟨us,[]⟩ = pure (ps.zip us)):DefM K C x qual st ps :=
 ⟨f,_,bu l c k,hb kV doc pm an cdv ct,⟨a,fn,k⟩,cl⟩
end My
namespace My
open PySem PySem.Spec PySem.W PySem.Calls
open PyProof.Rows hiding St
def pLt (a b:Int×Bool):Bool:=if a.1 = b.1 then (!a.2 && b.2) else decide (a.1 < b.1)
theorem dn (a:Int×Bool):pLt a a = false:=by
 unfold pLt
 rw [if_pos rfl]
 cases a.2 <;> rfl
theorem Y3 (a b c:Int×Bool) (h1:pLt a b = true) (h2:pLt b c = true):pLt a c = true:=by
 obtain ⟨a,p⟩:=a
 obtain ⟨b,q⟩:=b
 obtain ⟨c,r⟩:=c
 simp only [pLt] at h1 h2 ⊢
 split at h1 <;> split at h2
 ·subst_vars
  rw [if_pos rfl]
  cases p <;> cases q <;> cases r <;> simp at h1 h2 ⊢
 ·subst_vars
  have:=of_decide_eq_true h2
  rw [if_neg (by omega)]
  exact h2
 ·subst_vars
  have:=of_decide_eq_true h1
  rw [if_neg (by omega)]
  exact h1
 ·have:=of_decide_eq_true h1
  have:=of_decide_eq_true h2
  rw [if_neg (by omega)]
  exact decide_eq_true (by omega)
theorem Tg (a b c:Int×Bool) (h:pLt a c = true):pLt a b = true∨pLt b c = true:=by
 obtain ⟨a,p⟩:=a
 obtain ⟨b,q⟩:=b
 obtain ⟨c,r⟩:=c
 simp only [pLt] at h ⊢
 by_cases e1:a = b
 ·rw [if_pos e1]
  subst e1
  by_cases e2:a = c
  ·rw [if_pos e2] at h ⊢
   cases p <;> cases q <;> cases r <;> simp at h ⊢
  ·rw [if_neg e2] at h ⊢
   exact .inr h
 ·rw [if_neg e1]
  by_cases e2:b = c
  ·rw [if_pos e2]
   subst e2
   rw [if_neg e1] at h
   exact .inl h
  ·rw [if_neg e2]
   by_cases e3:a < b
   ·exact .inl (decide_eq_true e3)
   ·refine .inr (decide_eq_true ?_)
    by_cases e4:a = c
    ·omega
    ·rw [if_neg e4] at h
     have:=of_decide_eq_true h
     omega
theorem Y2 (a b:Int×Bool) (h1:pLt a b = false) (h2:pLt b a = false):a = b:=by
 obtain ⟨a,p⟩:=a
 obtain ⟨b,q⟩:=b
 simp only [pLt] at h1 h2
 by_cases e:a = b
 ·subst e
  rw [if_pos rfl] at h1 h2
  cases p <;> cases q <;> simp at h1 h2 ⊢
 ·rw [if_neg e] at h1
  rw [if_neg (fun z=>e z.symm)] at h2
  have:=of_decide_eq_false h1
  have:=of_decide_eq_false h2
  omega
def L0:KeyOrd where
 α:=Int×Bool
 blt:=pLt
 irrefl:=dn
 trans:=Y3
 negTrans:=Tg
 total:=Y2
def fe (h:Heap) (a:Addr) (k:Int×Bool):Prop:=∃ o t n,h.get? a = some o∧o.cls = .type "tuple"∧o.data = .seq #[.int k.1 t,.bool k.2] n
section
variable {prog:Program}{w:World}{A:Around}{E:Value→Shared→Prop}{s:Shared}
theorem Ta {a b:Int}{t u:Tok}{Q:Bool→Shared→Prop} (h:Q (decide (a < b)) s):wpAny (model prog w) A (oneLt' true (.int a t) (.int b u)) Q E s:=by
 rw [oneLt'_eq]
 simp only [if_true]
 refine wpAny_bind (wpAny_cRoomFor_byValue rfl (wpAny_bind (wpAny_callSpecialIfBound?_slot (T:="int") rfl PySem.F.slot_int_lt (call_gives PySem.F.slot_int_lt rfl PySem.F.entry_int_lt (PySem.F.args_int_lt_2 _ _) (gives_int_lt a b t u) ?_))))
 exact wpAny_truthy_bool h
theorem Vm {x y:Addr}{kx ky:Int×Bool}{C:Bool→Shared→Prop} (hx:fe s.heap x kx) (hy:fe s.heap y ky) (h:C (pLt kx ky) s):wpAny (model prog w) A (keyLt' (tuples' true) (.ref x) (.ref y)) C E s:=by
 obtain ⟨ox,tx,nx,e1,_,d1⟩:=hx
 obtain ⟨oy,ty,ny,e2,_,d2⟩:=hy
 refine kat_lt e1 d1 e2 d2 ?_
 refine kat_cons (SeqAt.EqAt.int_int _ _ _ _ _ _ _ _ ?_)
 unfold pLt at h
 by_cases e:kx.1 = ky.1
 ·rw [if_pos e] at h
  have e3:(kx.1 == ky.1) = true:=by simpa using e
  rw [e3]
  refine kat_yes (kat_cons (SeqAt.EqAt.bool_bool _ _ _ _ _ _ ?_))
  by_cases e4:kx.2 = ky.2
  ·have e5:(kx.2 == ky.2) = true:=by simpa using e4
   rw [e5]
   refine kat_yes (kat_nil ?_)
   have:(!kx.2 && ky.2) = false:=by rw [e4];cases ky.2 <;> rfl
   rw [this] at h
   exact h
  ·have e5:(kx.2 == ky.2) = false:=by simpa using e4
   rw [e5]
   refine kat_no (kat_one _ _ (lt_bool ?_))
   rw [bj e4]
   exact h
 ·rw [if_neg e] at h
  have e3:(kx.1 == ky.1) = false:=by simpa using e
  rw [e3]
  exact kat_no (Ta h)
theorem tp:∀ (R:List (Addr×(Int×Bool))),(∀ r∈R,fe s.heap r.1 r.2)→∃ fs:List Value,KatTups s.heap (R.map fun r=>Value.ref r.1) fs∧fs.length = R.length∧∀ v∈fs,∃ b t,v = .int b t
 | [],_=>⟨[],.nil,rfl,fun v hv=>by simp at hv⟩
 | r :: R,h=>by
  obtain ⟨fs,h1,h2,h3⟩:=tp R fun q hq=>h q (List.mem_cons_of_mem _ hq)
  obtain ⟨o,t,n,ho,hc,hd⟩:=h r List.mem_cons_self
  refine ⟨.int r.2.1 t :: fs,KatTups.cons ho hc hd rfl h1,by simp [h2],fun v hv=>?_⟩
  rcases List.mem_cons.mp hv with rfl | hv
  ·exact ⟨_,_,rfl⟩
  ·exact h3 v hv
theorem d3 {D:Addr}{R:List (Addr×(Int×Bool))}{n0:Nat}{P:PySem.Fin→Shared→Prop} (ho:s.heap.get? D = some (seqObj "list" (R.map fun r=>Value.ref r.1).toArray n0)) (hR:∀ r∈R,fe s.heap r.1 r.2) (h64:R.length < 64)
  (h:∀ (R':List (Addr×(Int×Bool))) (h':Heap) (e:Nat),R'.Perm R→(R'.map (·.2)).Pairwise (fun a b=>pLt b a = false)→(∀ b o,b≠D→s.heap.get? b = some o→h'.get? b = some o)→h'.get? D = some (seqObj "list" (R'.map fun r=>Value.ref r.1).toArray e)→P (.done (.ret .none)) { s with heap:=h' }) :
  wpAny (model prog w) A (Builtin.«list.sort» ⟨[.ref D],[]⟩) P E s:=by
 have hl:(R.map fun r=>Value.ref r.1).length = R.length:=List.length_map _
 have tup:∀ {h':Heap},(∀ b o,b≠D→s.heap.get? b = some o→h'.get? b = some o)→∀ r∈R,fe h' r.1 r.2:=fun {h'} k r hr=>by
  obtain ⟨o,t,n,e,hc,hd⟩:=hR r hr
  refine ⟨o,t,n,k _ _ (fun z=>?_) e,hc,hd⟩
  rw [z] at e
  have:=congrArg Obj.cls (Option.some.inj (e.symm.trans ho))
  rw [hc] at this
  simp at this
 refine tz (O:=L0) ho (by rw [hl];exact h64) (fun i=>(R.getD i (0,(0,false))).2) (tuples' true) (fun h2 s1 Q' E' k q=>?_) (fun s1 i j C E' k hi hj q=>?_) fun p h' e ha hu k eD=>?_
 ·obtain ⟨fs,h1,h2',h3⟩:=tp (s:=s1) R (tup k)
  refine kat_kind (T:=.type "int") h1 (by rw [h2'];rw [hl] at h2;omega) (fun v hv=>?_) rfl q
  obtain ⟨b,t,rfl⟩:=h3 v hv
  exact Looks.of_pure rfl
 ·rw [hl] at hi hj
  have e1:(R.map fun r=>Value.ref r.1).getD i Value.none = .ref (R.getD i (0,(0,false))).1:=by simp [hi]
  have e2:(R.map fun r=>Value.ref r.1).getD j Value.none = .ref (R.getD j (0,(0,false))).1:=by simp [hj]
  have m1:R.getD i (0,(0,false))∈R:=by simp [hi]
  have m2:R.getD j (0,(0,false))∈R:=by simp [hj]
  rw [e1,e2]
  exact Vm (tup k _ m1) (tup k _ m2) q
 ·rw [hl] at ha hu
  have hp:(p.toList.map fun i=>R.getD i (0,(0,false))).Perm R:=by
   have h1:=ha.pm.map fun i=>R.getD i (0,(0,false))
   have h2:(List.range R.length).map (fun i=>R.getD i (0,(0,false))) = R:=by
    apply List.ext_getElem
    ·simp
    ·intro i a1 a2
     simp [a2]
   rw [h2] at h1
   exact h1
  refine h (p.toList.map fun i=>R.getD i (0,(0,false))) h' e hp ?_ k ?_
  ·rw [List.map_map,List.pairwise_iff_getElem]
   intro i j hi hj hij
   have hi':i < p.size:=by simpa using hi
   have hj':j < p.size:=by simpa using hj
   have:=hu i j (Nat.le_of_lt hij) (by rw [← ha.size];exact hj')
   have g1:p.getD i 0 = p[i]:=by simp [Array.getD,hi']
   have g2:p.getD j 0 = p[j]:=by simp [Array.getD,hj']
   unfold Srt.K at this
   rw [g1,g2] at this
   have h9:pLt (R.getD p[j] (0,(0,false))).2 (R.getD p[i] (0,(0,false))).2 = false:=this
   simpa using h9
  ·rw [eD,List.map_map]
   congr 3
   apply List.map_congr_left
   intro i hi
   have hi':i < R.length:=List.mem_range.mp (ha.pm.mem_iff.mp hi)
   simp [hi']
end
end My
namespace My
open PySem PySem.Spec PySem.W PySem.Calls
open PyProof.Rows hiding St
def l8 (c0 c1:Value) (d:Addr) (i n ep:Nat) (ok ov:Value):Obj :=
 { cls:=.type "dict_itemiterator",dict:=none,data:=.fields #[c0,c1,.ref d,.int i 0,.int n 0,.int ep 0,ok,ov],slots:=#[] }
section
variable {prog:Program}{w:World}{K:Type} [DecidableEq K] {knd:KeyKind prog w K}{A:Around}{E:Value→Shared→Prop}{s:Shared}
theorem Ui {a:Addr}{Q:Option Obj→Shared→Prop} (h:Q (s.heap.get? a) s):wpAny (model prog w) A (loadIfAlive a) Q E s:=by
 intro Γ p _
 unfold loadIfAlive
 rw [Sem.wp_loadIfAlive,Sem.wp_pure]
 exact h
theorem b7 {it d a:Addr}{i ep:Nat}{kvs:List (K×Value)}{k:K}{v c1 ok ov:Value}{Q:Option Value→Shared→Prop} (hit:s.heap.get? it = some (l8 (rawInt a) c1 d i kvs.length ep ok ov))
  (ha:∃ o,s.heap.get? a = some o) (hai:a≠it)
  (hm:s.heap.DictAt knd d kvs ep) (hx:kvs[i]? = some (k,v))
  (hQ:∀ key c1' h',knd.is k key = true→h'.get? it = some (l8 (rawInt a) c1' d (i + 1) kvs.length ep ok ov) →
   h'.get? s.heap.objs.size = some { cls:=.type "tuple",data:=.seq #[key,v] }→h'.objs.size = s.heap.objs.size + 1 →
   (∀ b o,b≠it→s.heap.get? b = some o→h'.get? b = some o)→Q (some (.ref s.heap.objs.size)) { s with heap:=h' }) :
  wpAny (model prog w) A (pyNext (.ref it)) Q E s:=by
 obtain ⟨hp,g,dr,tk,os⟩:=s
 obtain ⟨od,es,hod,hcd,hdd,hk,hpr,hn⟩:=id hm
 have hT:Shared.TypeIs ⟨hp,g,dr,tk,os⟩ (.ref it) "dict_itemiterator":=⟨_,hit,rfl⟩
 unfold pyNext
 refine wpAny_bind (wpAny_attempt (wpAny_callSpecial?_slot (name:=Str.ofString "__next__") hT F.slot_dict_itemiterator_next
  (wpAny_call_entry F.slot_dict_itemiterator_next hT F.entry_dict_itemiterator_next ?_ (F.args_dict_itemiterator_next_1 _))))
 refine wpAny_bind (wpAny_pure ?_)
 refine wpAny_bind ?_
 refine wpAny_bind ?_
 first | refine wpAny_bind (wpAny_typeNameOfWhole_itemiter hT (wpAny_pure ?_)) | refine wpAny_bind (wpAny_typeNameOf_itemiter hT (wpAny_pure ?_))
 refine wpAny_bind (wpAny_fieldsOf hit rfl ?_)
 have hown:Builtin.Dict_items.ownsTuple "dict_itemiterator" = true:=by decide
 simp only [hown,if_true]
 show wpAny _ _ (if (Value.ref d == Value.none) = true then _ else _) _ _ _
 rw [if_neg (show ¬ ((Value.ref d == Value.none) = true) from Bool.false_ne_true)]
 refine wpAny_bind (wpAny_pure ?_)
 refine wpAny_bind (wpAny_dictEntries hod hdd ?_)
 have hsz:es.size = kvs.length:=by rw [← hpr.length];simp
 rw [if_neg (by rw [hsz];simp)]
 refine wpAny_bind (wpAny_pure ?_)
 refine wpAny_bind (wpAny_dictEpoch hod hdd ?_)
 rw [if_neg (by simp)]
 refine wpAny_pure ?_
 have hlt:i < kvs.length:=by
  rcases Nat.lt_or_ge i kvs.length with h | h
  ·exact h
  ·simp [List.getElem?_eq_none h] at hx
 have hlt':i < es.size:=by rw [hsz];exact hlt
 obtain ⟨hkey,hval⟩:=hpr.get? (e:=es[i]) (by simp [hlt']) hx
 simp only [show ¬ ((i:Int) < 0) from by omega,if_false,Int.toNat_natCast,Array.getElem?_eq_getElem hlt']
 refine wpAny_bind ?_
 first | refine wpAny_bind (wpAny_typeNameOfWhole_itemiter hT (wpAny_pure ?_)) | refine wpAny_bind (wpAny_typeNameOf_itemiter hT (wpAny_pure ?_))
 refine wpAny_bind (wpAny_isOneOf_itemiter hT ?_)
 show wpAny _ _ (setField (.ref it) 3 (rawInt ((i:Int) + 1)) >>= _) _ _ ⟨hp,g,dr,tk,os⟩
 refine wpAny_bind (wpAny_setField_rec hit (by simp) fun h₁ he₁ hs₁=>?_)
 replace hs₁:Heap.SameBut it hp h₁:=hs₁
 replace he₁:h₁.get? it = some (l8 (rawInt a) c1 d (i + 1) kvs.length ep ok ov):=by
  have e:((i + 1:Nat):Int) = (i:Int) + 1:=by omega
  unfold l8;rw [e];simpa [rawInt] using he₁
 have hT₁:Shared.TypeIs ⟨h₁,g,dr,tk,os⟩ (.ref it) "dict_itemiterator":=⟨_,he₁,rfl⟩
 refine wpAny_bind (wpAny_holding ?_)
 refine wpAny_bind (wpAny_isOneOf_itemiter hT₁ ?_)
 refine wpAny_bind (wpAny_isOneOf_itemiter hT₁ ?_)
 show wpAny _ _ (Builtin.Dict_items.pairFromOwner (.ref it) 6 es[i].key es[i].val) _ _ ⟨h₁,g,dr,tk,os⟩
 unfold Builtin.Dict_items.pairFromOwner
 refine wpAny_bind (wpAny_newTuple ?_)
 have he₂:(h₁.push { cls:=.type "tuple",data:=.seq #[es[i].key,es[i].val] }).get? it = some (l8 (rawInt a) c1 d (i + 1) kvs.length ep ok ov):=Heap.get?_push_of_some _ he₁
 generalize hh₂:h₁.push { cls:=.type "tuple",data:=.seq #[es[i].key,es[i].val] } = h₂ at he₂
 have hz₁:h₁.objs.size = hp.objs.size:=hs₁.1
 have hil:it < hp.objs.size:=Heap.lt_size hit
 have ht₂:h₂.get? hp.objs.size = some { cls:=.type "tuple",data:=.seq #[es[i].key,es[i].val] }:=by rw [← hh₂,← hz₁];exact Heap.get?_push_size _ rfl
 have hz₂:h₂.objs.size = hp.objs.size + 1:=by rw [← hh₂,Heap.size_push,hz₁]
 have hk₂:∀ b o,b≠it→hp.get? b = some o→h₂.get? b = some o:=fun b o hb e=>by rw [← hh₂];exact Heap.get?_push_of_some _ (hs₁.extBut b o hb e)
 show wpAny _ _ (Builtin.Dict_items.ownedTupleIsFree (.ref it) >>= _) _ _ ⟨h₂,g,dr,tk,os⟩
 rw [hz₁]
 clear hh₂ he₁ hs₁ hT₁ hz₁ h₁
 obtain ⟨oa,hoa⟩:=ha
 have ha₂:h₂.get? a = some oa:=hk₂ a oa hai hoa
 refine wpAny_bind ?_
 unfold Builtin.Dict_items.ownedTupleIsFree
 refine wpAny_bind (wpAny_field he₂ rfl (x:=rawInt a) rfl ?_)
 show wpAny _ _ (loadIfAlive ((a:Int)).toNat >>= _) _ _ _
 refine wpAny_bind (Ui ?_)
 rw [show (Shared.heap ⟨h₂,g,dr,tk,os⟩).get? ((a:Int)).toNat = some oa from by rw [Int.toNat_natCast];exact ha₂]
 simp only [Option.isNone_some]
 refine wpAny_bind (wpAny_field he₂ rfl (x:=c1) rfl ?_)
 have fin:∀ h₃ c1',h₃.get? it = some (l8 (rawInt a) c1' d (i + 1) kvs.length ep ok ov)→Heap.SameBut it h₂ h₃→Q (some (.ref hp.objs.size)) ⟨h₃,g,dr,tk,os⟩:=fun h₃ c1' he₃ hs₃ =>
  hQ es[i].key c1' h₃ hkey he₃ (by rw [← hval];exact hs₃.extBut _ _ (Nat.ne_of_gt hil) ht₂) (by show h₃.objs.size = _;rw [hs₃.1,hz₂]) (fun b o hb e=>hs₃.extBut b o hb (hk₂ b o hb e))
 by_cases hc:(c1 != Value.bool true) = true
 ·rw [if_pos hc]
  refine wpAny_bind (wpAny_setField_rec he₂ (by simp) fun h₃ he₃ hs₃=>?_)
  refine wpAny_pure ?_
  rw [if_neg Bool.false_ne_true]
  exact wpAny_pure (wpAny_pure ⟨_,rfl,wpAny_pure (fin h₃ (.bool true) he₃ hs₃)⟩)
 ·rw [if_neg hc]
  refine wpAny_pure ?_
  rw [if_neg Bool.false_ne_true]
  exact wpAny_pure (wpAny_pure ⟨_,rfl,wpAny_pure (fin h₂ c1 he₂ (Heap.SameBut.refl ..))⟩)
theorem Yd {it d:Addr}{i ep:Nat}{kvs:List (K×Value)}{c0 c1 ok ov:Value}{Q:Option Value→Shared→Prop} (hh:A.handled = none) (hit:s.heap.get? it = some (l8 c0 c1 d i kvs.length ep ok ov))
  (hm:s.heap.DictAt knd d kvs ep) (hx:kvs[i]? = none)
  (hQ:∀ h',Heap.ExtBut it s.heap h'→Q none { s with heap:=h' }):wpAny (model prog w) A (pyNext (.ref it)) Q E s:=by
 obtain ⟨od,es,hod,hcd,hdd,hk,hpr,hn⟩:=id hm
 have hT:s.TypeIs (.ref it) "dict_itemiterator":=⟨_,hit,rfl⟩
 unfold pyNext
 refine wpAny_bind (wpAny_attempt (wpAny_callSpecial?_slot (name:=Str.ofString "__next__") hT F.slot_dict_itemiterator_next
  (wpAny_call_entry F.slot_dict_itemiterator_next hT F.entry_dict_itemiterator_next ?_ (F.args_dict_itemiterator_next_1 _))))
 refine wpAny_bind (wpAny_pure ?_)
 refine wpAny_bind ?_
 refine wpAny_bind ?_
 first | refine wpAny_bind (wpAny_typeNameOfWhole_itemiter hT (wpAny_pure ?_)) | refine wpAny_bind (wpAny_typeNameOf_itemiter hT (wpAny_pure ?_))
 refine wpAny_bind (wpAny_fieldsOf hit rfl ?_)
 have hown:Builtin.Dict_items.ownsTuple "dict_itemiterator" = true:=by decide
 simp only [hown,if_true]
 show wpAny _ _ (if (Value.ref d == Value.none) = true then _ else _) _ _ s
 rw [if_neg (show ¬ ((Value.ref d == Value.none) = true) from Bool.false_ne_true)]
 refine wpAny_bind (wpAny_pure ?_)
 refine wpAny_bind (wpAny_dictEntries hod hdd ?_)
 have hsz:es.size = kvs.length:=by rw [← hpr.length];simp
 rw [if_neg (by rw [hsz];simp)]
 refine wpAny_bind (wpAny_pure ?_)
 refine wpAny_bind (wpAny_dictEpoch hod hdd ?_)
 rw [if_neg (by simp)]
 refine wpAny_pure ?_
 have hge:es.size≤i:=by rw [hsz];simpa using hx
 simp only [show ¬ ((i:Int) < 0) from by omega,if_false,Int.toNat_natCast,Array.getElem?_eq_none hge]
 refine wpAny_bind ?_
 first | refine wpAny_bind (wpAny_typeNameOfWhole_itemiter hT (wpAny_pure ?_)) | refine wpAny_bind (wpAny_typeNameOf_itemiter hT (wpAny_pure ?_))
 show wpAny _ _ (setField (.ref it) 2 .none >>= _) _ _ s
 refine wpAny_bind (wpAny_setField hit rfl (by simp) ?_)
 show wpAny _ _ (newExc (.type "StopIteration") [] >>= _) _ _ _
 refine wpAny_bind ?_
 simp only [newExc,newTuple]
 refine wpAny_bind (wpAny_newObj_type ?_ (by size_fits))
 refine wpAny_bind (m:=firstArgMember _ _) (wpAny_of_eq (a:=Value.none) (by first | rfl | (simp only [firstArgMember];rfl)) ?_)
 refine wpAny_newObj_type ?_ (by size_fits)
 simp only [raiseNew]
 refine wpAny_bind (wpAny_handled ?_)
 rw [show A.in1.handled = none from hh]
 refine wpAny_bind (wpAny_pure (wpAny_throw ?_))
 refine wpAny_bind (wpAny_isInstance (T:="StopIteration") (b:=true) ⟨_,Heap.get?_push_size _ rfl,rfl⟩ isSubtype_stop ?_)
 exact wpAny_pure (hQ _ (((Heap.SameBut.update ..).extBut.push _).push _))
end
end My
namespace My
open PySem PySem.Spec PySem.W PySem.Calls
open PyProof.Rows hiding St
section
variable {prog:Program}{w:World}{K:Type} [DecidableEq K] {knd:KeyKind prog w K}{A:Around}{E:Value→Shared→Prop}{s:Shared}
theorem far {S b N:Nat} (h1:S < N) (h2:N≤b):b≠S:=fun e=>absurd h2 (Nat.not_le_of_lt (e ▸ h1))
def du (key v:Value):Obj:={ cls:=.type "tuple",data:=.seq #[key,v] }
def PairsIn (knd:KeyKind prog w K) (h:Heap) (N:Nat) (acc:Array Value) (kvs:List (K×Value)) (i:Nat):Prop :=
 acc.size = i∧∀ j kv,j < i→kvs[j]? = some kv→∃ b key,acc[j]? = some (.ref b)∧N≤b∧knd.is kv.1 key = true∧h.get? b = some (du key kv.2)
theorem PairsIn.keep {h h':Heap}{N:Nat}{acc:Array Value}{kvs:List (K×Value)}{i:Nat} (p:PairsIn knd h N acc kvs i) (k:∀ b o,N≤b→h.get? b = some o→h'.get? b = some o):PairsIn knd h' N acc kvs i :=
 ⟨p.1,fun j kv hj e=>let ⟨b,key,a1,a2,a3,a4⟩:=p.2 j kv hj e;⟨b,key,a1,a2,a3,k b _ a2 a4⟩⟩
theorem PairsIn.push {h:Heap}{N:Nat}{acc:Array Value}{kvs:List (K×Value)}{i:Nat}{k:K}{v key:Value}{b:Addr} (p:PairsIn knd h N acc kvs i) (e:kvs[i]? = some (k,v)) (hb:N≤b) (hk:knd.is k key = true) (ho:h.get? b = some (du key v)):PairsIn knd h N (acc.push (.ref b)) kvs (i + 1):=by
 refine ⟨by rw [Array.size_push,p.1],fun j kv hj ej=>?_⟩
 rcases Nat.lt_or_ge j i with h1 | h1
 ·obtain ⟨b',key',a1,a2,a3,a4⟩:=p.2 j kv h1 ej
  exact ⟨b',key',by rw [Array.getElem?_push,if_neg (by rw [p.1];omega)];exact a1,a2,a3,a4⟩
 ·have hji:j = i:=by omega
  subst hji
  rw [e] at ej
  cases ej
  exact ⟨b,key,by rw [Array.getElem?_push,if_pos p.1.symm],hb,hk,ho⟩
def Yk (acc:Array Value) (c:Nat):Obj:={ cls:=.type "list",dict:=none,data:=.seq acc c,slots:=#[] }
theorem bz {R:Result→Shared→Prop} (hh:A.in1.handled = none) {kvs:List (K×Value)}{ep:Nat} (hn:kvs.length≤sizeLine) (S it d:Addr) (hdS:d≠S) (hdi:d≠it) (hSi:S≠it) (N:Nat) (hSN:S < N) (hiN:it < N) (res:Value) :
  ∀ (k i:Nat) (s:Shared) (acc:Array Value) (c:Nat) (c0 c1 ok ov:Value),kvs.length - i = k→i≤kvs.length→s.heap.get? it = some (l8 c0 c1 d i kvs.length ep ok ov)→((c0 = .none∧c1 = .bool false)∨∃ a o,c0 = rawInt (a:Nat)∧N≤a∧s.heap.get? a = some o) →
  s.heap.DictAt knd d kvs ep→N≤s.heap.objs.size→s.heap.get? S = some (Yk acc c)→PairsIn knd s.heap N acc kvs i →
  (∀ h' acc' c',(∀ b o,b≠S→b≠it→s.heap.get? b = some o→h'.get? b = some o)→h'.get? S = some (Yk acc' c')→PairsIn knd h' N acc' kvs kvs.length→R (.ok (.ret res)) { s with heap:=h' }) →
  codeAny (model prog w) A (.builtin "list.extend.loop" ⟨[.ref S,.ref it,res],[]⟩) R s:=by
 intro k
 induction k with
 | zero =>
  intro i s acc c c0 c1 ok ov hk hi hit h0 hm hN hS hP hR
  have hin:i = kvs.length:=by omega
  subst hin
  refine codeAny_builtin F.entry_extend_loop ?_
  rw [Around.under_plainId F.plain_extend_loop _]
  show wpAny _ A.in1 (pyNext (.ref it) >>= _) _ _ s
  refine wpAny_bind (Yd (knd:=knd) hh hit hm (List.getElem?_eq_none (Nat.le_refl _)) fun h' he=>?_)
  exact wpAny_pure (hR h' acc c (fun b o _ hb e=>he b o hb e) (he S _ hSi hS) (hP.keep fun b o hb e=>he b o (far hiN hb) e))
 | succ k ih =>
  intro i s acc c c0 c1 ok ov hk hi hit h0 hm hN hS hP hR
  have hlt:i < kvs.length:=by omega
  obtain ⟨⟨kk,v⟩,hkv⟩:∃ q,kvs[i] = q:=⟨_,rfl⟩
  have hx:kvs[i]? = some (kk,v):=by rw [List.getElem?_eq_getElem hlt,hkv]
  refine codeAny_builtin F.entry_extend_loop ?_
  rw [Around.under_plainId F.plain_extend_loop _]
  show wpAny _ A.in1 (pyNext (.ref it) >>= _) _ _ s
  have go:∀ key (c0' c1' ok' ov':Value) h',knd.is kk key = true→h'.get? it = some (l8 c0' c1' d (i + 1) kvs.length ep ok' ov')→((c0' = .none∧c1' = .bool false)∨∃ a o,c0' = rawInt (a:Nat)∧N≤a∧h'.get? a = some o) →
    h'.get? s.heap.objs.size = some (du key v)→h'.objs.size = s.heap.objs.size + 1→(∀ b o,b≠it→s.heap.get? b = some o→h'.get? b = some o) →
    wpAny (model prog w) A.in1 (updateSeq S (·.push (.ref s.heap.objs.size)) >>= fun _=>again (.builtin "list.extend.loop" ⟨[.ref S,.ref it,res],[]⟩)) (fun fin s'=>match fin with | .done f=>R (.ok f) s' | .again c'=>c'.quiet = true∧codeAny (model prog w) A c' R s') (fun e s'=>R (.error e) s') { s with heap:=h' }:=by
   intro key c0' c1' ok' ov' h' a1 a2 a3 a4 a5 a6
   have hS':h'.get? S = some (Yk acc c):=a6 S _ hSi hS
   have oth:∀ b o,b≠S→h'.get? b = some o→(h'.update S (Obj.mapSeq (·.push (.ref s.heap.objs.size)))).get? b = some o:=fun b o hb e=>(Heap.get?_update_other _ _ (Ne.symm hb)).trans e
   refine wpAny_bind (wpAny_updateSeq hS' rfl (wpAny_pure ⟨plainId_quiet F.plain_extend_loop _,ih (i + 1) _ (acc.push (.ref s.heap.objs.size)) _ c0' c1' ok' ov' (by omega) hlt (oth _ _ (Ne.symm hSi) a2) ?_ ((hm.at' fun o e=>a6 d o hdi e).at' fun o e=>oth _ _ hdS e) ?_ (Heap.get?_update_self _ hS' rfl) ?_ fun h'' acc' c' k1 k2 k3=>?_⟩)
    (by rw [hP.1];omega) (by show (acc.push _).size≤sizeLine + 1;rw [Array.size_push,hP.1];omega))
   ·rcases a3 with a3 | ⟨a,o,b1,b2,b3⟩
    ·exact .inl a3
    ·exact .inr ⟨a,o,b1,b2,oth _ _ (far hSN b2) b3⟩
   ·show N≤(h'.update S _).objs.size
    rw [Heap.size_update]
    omega
   ·refine PairsIn.push ?_ hx hN a1 (oth _ _ (far hSN hN) a4)
    exact hP.keep fun b o hb e=>oth _ _ (far hSN hb) (a6 b o (far hiN hb) e)
   ·exact hR h'' acc' c' (fun b o b1 b2 e=>k1 b o b1 b2 (oth _ _ b1 (a6 b o b2 e))) k2 k3
  rcases h0 with ⟨rfl,rfl⟩ | ⟨a,o,rfl,b2,b3⟩
  ·refine wpAny_bind (wpAny_pyNext_items_item (knd:=knd) hit hm hx fun key h' a1 a2 a3 a4 a5=>?_)
   exact go key _ _ _ _ h' a1 a2 (.inr ⟨_,_,rfl,hN,a3⟩) a3 a4 a5
  ·refine wpAny_bind (b7 (knd:=knd) hit ⟨o,b3⟩ (far hiN b2) hm hx fun key c1' h' a1 a2 a3 a4 a5=>?_)
   exact go key _ _ _ _ h' a1 a2 (.inr ⟨a,o,rfl,b2,a5 a o (far hiN b2) b3⟩) a3 a4 a5
theorem bx {r:Addr}{Q:Bool→Shared→Prop} (hT:s.TypeIs (.ref r) "dict_items") (h:Q false s):wpAny (model prog w) A (Builtin.List.listLengthHint (.ref r)) Q E s:=by
 unfold Builtin.List.listLengthHint
 refine wpAny_bind (wpAny_specialOf hT PySem.F.slot_dict_items_len.lookup ?_)
 generalize hid:("dict_items.__len__":String) = id0
 wp_delta
 rw [show splitId id0 = some ("dict_items","__len__") from by subst hid;decide +kernel]
 subst hid
 refine wpAny_bind (wpAny_isInstance (T:="dict_items") (b:=true) hT (by rw [isSubtype_type];kernel_rfl) ?_)
 refine wpAny_ite_split (fun hab=>absurd hab (by decide)) (fun _=>?_)
 refine wpAny_ite_split (fun _=>?_) (fun hab=>absurd (by decide +kernel) hab)
 refine wpAny_bind (wpAny_typeOf hT ?_)
 exact wpAny_pure h
end
end My
namespace My
open PySem PySem.Spec PySem.W PySem.Calls L2
open PyProof.Rows hiding St
section
variable {prog:Program}{w:World}{K:Type} [DecidableEq K] {knd:KeyKind prog w K}{A:Around}{E:Value→Shared→Prop}{s:Shared}
theorem l9 {v d:Addr}{kvs:List (K×Value)}{ep:Nat}{Q:List Value→Shared→Prop} (hh:A.handled = none) (hv:s.heap.IsItemsView v d) (hm:s.heap.DictAt knd d kvs ep) (hz:kvs.length≤sizeLine)
  (hQ:∀ h' tk acc,(∀ b o,s.heap.get? b = some o→h'.get? b = some o)→s.heap.objs.size < h'.objs.size→PairsIn knd h' (s.heap.objs.size + 2) acc kvs kvs.length→Q acc.toList { s with heap:=h',toks:=tk }):wpAny (model prog w) A (collect (.ref v)) Q E s:=by
 have hvl:v < s.heap.objs.size:=let ⟨_,e,_⟩:=hv;Heap.lt_size e
 have hdl:d < s.heap.objs.size:=hm.lt_size
 unfold collect
 refine wpAny_bind (wpAny_runValue (codeAny_builtin PySem.F.entry_proto_collect ?_));rw [Around.under_plainId PySem.F.plain_proto_collect _]
 refine (show wpAny _ A.in1 (newList [] >>= fun l=>again (.builtin "list.__iadd__" ⟨[l,.ref v],[]⟩)) _ _ s from wpAny_bind (wpAny_newObj_type ?_))
 refine wpAny_pure ⟨plainId_quiet PySem.F.plain_list_iadd _,codeAny_builtin PySem.F.entry_list_iadd ?_⟩;rw [Around.under_plainId PySem.F.plain_list_iadd _]
 generalize hh1:s.heap.push { cls:=.type "list",data:=.seq ([]:List Value).toArray } = h1
 have k1:∀ b o,s.heap.get? b = some o→h1.get? b = some o:=fun b o e=>hh1 ▸ Heap.get?_push_of_some _ e
 have hS1:h1.get? s.heap.objs.size = some (Yk #[] 0):=hh1 ▸ Heap.get?_push_size _ rfl
 have hz1:h1.objs.size = s.heap.objs.size + 1:=by rw [← hh1,Heap.size_push]
 have hv1:h1.IsItemsView v d:=let ⟨o,e,x⟩:=hv;⟨o,k1 _ _ e,x⟩
 have hm1:h1.DictAt knd d kvs ep:=hm.at' fun o e=>k1 _ _ e
 have hT1:Shared.TypeIs { s with heap:=h1 } (.ref v) "dict_items":=hv1.typeIs
 refine (show wpAny _ A.in1 (Builtin.List.listExtendWith (.ref s.heap.objs.size) (.ref v) (.ref s.heap.objs.size)) _ _ { s with heap:=h1 } from ?_)
 unfold Builtin.List.listExtendWith
 refine wpAny_bind (wpAny_typeOf hT1 ?_)
 have n1:Builtin.List.listSameRef (.ref s.heap.objs.size) (.ref v) = false:=by simp [Builtin.List.listSameRef,Nat.ne_of_gt hvl]
 have n2:(Value.type "dict_items" == Value.type "list") = false:=by decide
 have n3:(Value.type "dict_items" == Value.type "tuple") = false:=by decide
 simp only [n1,n2,n3,Bool.or_false,Bool.false_eq_true,if_false]
 refine wpAny_bind (wpAny_pyIter_items (s:={ s with heap:=h1 }) (knd:=knd) hv1 hm1 ?_)
 generalize hh2:Heap.push (Shared.heap { s with heap:=h1 }) { cls:=.type "dict_itemiterator",data:=.fields #[.none,.bool false,.ref d,.int 0 0,.int kvs.length 0,.int ep 0,.none,.none] } = h2
 have hh2':h1.push { cls:=.type "dict_itemiterator",data:=.fields #[.none,.bool false,.ref d,.int 0 0,.int kvs.length 0,.int ep 0,.none,.none] } = h2:=hh2
 have k2:∀ b o,h1.get? b = some o→h2.get? b = some o:=fun b o e=>hh2' ▸ Heap.get?_push_of_some _ e
 have hI2:h2.get? (s.heap.objs.size + 1) = some (l8 .none (.bool false) d 0 kvs.length ep .none .none):=by
  rw [← hz1,← hh2']
  exact Heap.get?_push_size _ rfl
 have hz2:h2.objs.size = s.heap.objs.size + 2:=by rw [← hh2',Heap.size_push,hz1]
 have hS2:=k2 _ _ hS1
 have key:∀ (R:Result→Shared→Prop) (h:Heap) (c₁ tk:Nat),(∀ b o,b≠s.heap.objs.size→h2.get? b = some o→h.get? b = some o)→h.objs.size = s.heap.objs.size + 2→h.get? s.heap.objs.size = some (Yk #[] c₁) →
   (∀ h' acc c',(∀ b o,s.heap.get? b = some o→h'.get? b = some o)→s.heap.objs.size < h'.objs.size→h'.get? s.heap.objs.size = some (Yk acc c')→PairsIn knd h' (s.heap.objs.size + 2) acc kvs kvs.length→R (.ok (.ret (.ref s.heap.objs.size))) { s with heap:=h',toks:=tk }) →
   codeAny (model prog w) A (.builtin "list.extend.loop" ⟨[.ref s.heap.objs.size,.ref (s.heap.objs.size + 1),.ref s.heap.objs.size],[]⟩) R { s with heap:=h,toks:=tk }:=by
  intro R h c₁ tk k e hS hR
  refine bz (knd:=knd) (R:=R) hh hz s.heap.objs.size (s.heap.objs.size + 1) d (Nat.ne_of_lt hdl) (Nat.ne_of_lt (Nat.lt_succ_of_lt hdl)) (Nat.ne_of_lt (Nat.lt_succ_self _)) (s.heap.objs.size + 2) (Nat.lt_succ_of_lt (Nat.lt_succ_self _)) (Nat.lt_succ_self _) (.ref s.heap.objs.size) kvs.length 0 _ #[] c₁ .none (.bool false) .none .none rfl (Nat.zero_le _)
   (k _ _ (Nat.ne_of_gt (Nat.lt_succ_self _)) hI2) (.inl ⟨rfl,rfl⟩) ((hm1.at' fun o e=>k2 _ _ e).at' fun o e=>k _ _ (Nat.ne_of_lt hdl) e) (Nat.le_of_eq e.symm) hS ⟨rfl,fun j _ hj=>absurd hj (Nat.not_lt_zero _)⟩ fun h' acc' c' a1 a2 a3=>?_
  exact hR h' acc' c' (fun b o e=>a1 b o (Nat.ne_of_lt (Heap.lt_size e)) (Nat.ne_of_lt (Nat.lt_succ_of_lt (Heap.lt_size e))) (k b o (Nat.ne_of_lt (Heap.lt_size e)) (k2 b o (k1 b o e)))) (Heap.lt_size a2) a2 a3
 have hT2:Shared.TypeIs { s with heap:=h2 } (.ref v) "dict_items":=let ⟨o,e,x⟩:=hv1;⟨o,k2 _ _ e,x.1⟩
 refine wpAny_bind (wpAny_holding (bx hT2 ?_))
 rw [show Shared.heap { s with heap:=h1 } = h1 from rfl,hz1]
 refine wpAny_ite_split (fun _=>?_) (fun _=>wpAny_pure ⟨plainId_quiet PySem.F.plain_extend_loop _,key _ h2 0 _ (fun b o _ e=>e) hz2 hS2 fun h' acc c' a1 a2 a3 a4=>?_⟩)
 ·refine wpAny_bind (wpAny_rule ?_)
  refine wpAny_bind ?_
  show wpAny _ _ (updateSeq s.heap.objs.size (·.push .none) >>= fun _=>updateSeq s.heap.objs.size (·.pop)) _ _ _
  refine wpAny_bind (wpAny_updateSeq hS2 rfl ?_)
  have hS₂:=Heap.get?_update_self (Obj.mapSeq (·.push Value.none)) hS2 rfl
  refine wpAny_updateSeq (hz:=by seq_fits) hS₂ rfl ?_
  have hS₃:=Heap.get?_update_self (Obj.mapSeq (·.pop)) hS₂ rfl
  refine wpAny_pure ⟨plainId_quiet PySem.F.plain_extend_loop _,key _ _ _ _ (fun b o hb e=>?_) (by rw [Heap.size_update,Heap.size_update,hz2]) hS₃ fun h' acc c' a1 a2 a3 a4=>?_⟩
  ·exact (Heap.get?_update_other _ _ (Ne.symm hb)).trans ((Heap.get?_update_other _ _ (Ne.symm hb)).trans e)
  ·exact (show wpAny _ A (load s.heap.objs.size >>= _) _ _ _ from wpAny_bind (wpAny_load a3 (wpAny_pure (hQ h' _ acc a1 a2 a4))))
 ·exact (show wpAny _ A (load s.heap.objs.size >>= _) _ _ _ from wpAny_bind (wpAny_load a3 (wpAny_pure (hQ h' _ acc a1 a2 a4))))
end
end My
namespace My
open PySem PySem.Spec PySem.W PySem.Calls L2
open PyProof.Rows hiding St
section
variable {X:Cx}{pins:List (Addr×Obj)}{σ:St}{H H':Hp}{s:Shared}{h':Heap}
theorem Inv.laids {t':Nat} (I:Inv X pins σ H s) (k:∀ b u,s.heap.get? b = some u→h'.get? b = some u) (eq:∀ b,b < s.heap.objs.size→H' b = H b)
  (new:∀ a o,s.heap.objs.size≤a→H' a = some o→ObjOk X.prog X.w H' h' a o):Inv X pins σ H' { s with heap:=h',toks:=t' }:=by
 have sm:∀ b o,H b = some o→H' b = some o:=fun b o e=>(eq b (I.hok.lt e)).trans e
 refine I.un ⟨fun b u q _ _ _=>k b u q,fun b u q _ _ _=>⟨u.slots,k b u q⟩,fun b u q n _=>(eq b (Heap.lt_size q)).trans n,fun b u q _=>⟨u,k b u q⟩,fun b xs q=>sm _ _ q,fun b u xs q=>sm _ _ q,fun b ps q=>⟨#[],by rw [sm _ _ q];simp⟩⟩ fun a o e=>?_
 rcases Nat.lt_or_ge a s.heap.objs.size with h1 | h1
 ·exact (I.hok a o ((eq a h1).symm.trans e)).stay (fun b u _ q=>k b u q) (fun b q=>sm _ _ q) fun b xs q=>sm _ _ q
 ·exact new a o h1 e
end
def wo (H:Hp):List (Addr×HO)→Hp
 | []=>H
 | p :: l=>upd (wo H l) p.1 p.2
theorem nt {H:Hp}{b:Addr}:∀ {l:List (Addr×HO)},(∀ p∈l,p.1≠b)→wo H l b = H b
 | [],_=>rfl
 | p :: l,h=>by
  show upd (wo H l) p.1 p.2 b = H b
  rw [zk (Ne.symm (h p List.mem_cons_self))]
  exact nt fun q hq=>h q (List.mem_cons_of_mem _ hq)
theorem kr {H:Hp}{b:Addr}{o:HO}:∀ {l:List (Addr×HO)},wo H l b = some o→(∃ p∈l,p = (b,o))∨H b = some o
 | [],h=>.inr h
 | p :: l,h=>by
  by_cases e:b = p.1
  ·subst e
   have h2:upd (wo H l) p.1 p.2 p.1 = some o:=h
   rw [zw] at h2
   cases h2
   exact .inl ⟨p,List.mem_cons_self,rfl⟩
  ·have h2:upd (wo H l) p.1 p.2 b = some o:=h
   rw [zk e] at h2
   rcases kr h2 with ⟨q,hq,e2⟩ | h3
   ·exact .inl ⟨q,List.mem_cons_of_mem _ hq,e2⟩
   ·exact .inr h3
theorem si {H:Hp}{b:Addr}{o:HO}:∀ {l:List (Addr×HO)},(b,o)∈l→(∀ p∈l,p.1 = b→p.2 = o)→wo H l b = some o
 | p :: l,h,u=>by
  show upd (wo H l) p.1 p.2 b = some o
  by_cases e:b = p.1
  ·subst e
   rw [zw,u p List.mem_cons_self rfl]
  ·rw [zk e]
   rcases List.mem_cons.mp h with h1 | h1
   ·subst h1
    exact absurd rfl e
   ·exact si h1 fun q hq=>u q (List.mem_cons_of_mem _ hq)
theorem Z8 {α:Type}{P:Nat→α→Prop}:∀ n,(∀ j,j < n→∃ x,P j x)→∃ l:List α,l.length = n∧∀ j x,l[j]? = some x→P j x
 | 0,_=>⟨[],rfl,fun j x e=>by simp at e⟩
 | n + 1,h=>by
  obtain ⟨l,h1,h2⟩:=Z8 n fun j hj=>h j (Nat.lt_succ_of_lt hj)
  obtain ⟨x,hx⟩:=h n (Nat.lt_succ_self n)
  refine ⟨l ++ [x],by rw [List.length_append,h1];rfl,fun j y e=>?_⟩
  rcases Nat.lt_or_ge j n with hj | hj
  ·rw [List.getElem?_append_left (by omega)] at e
   exact h2 j y e
  ·rw [List.getElem?_append_right (by omega),h1] at e
   have:j - n = 0:=by
    rcases Nat.eq_zero_or_pos (j - n) with z | z
    ·exact z
    ·rw [List.getElem?_eq_none (by simp;omega)] at e
     cases e
   rw [this] at e
   have hjn:j = n:=by omega
   subst hjn
   cases e
   exact hx
section
variable {X:Cx}
def kvI (kvs:List (Int×Bool)):List (Key×V):=kvs.map fun p=>(Sum.inl p.1,V.bl p.2)
theorem Pm {kvs:List (Int×Bool)}{vs:List (Key×Value)} (r:KV (kvI kvs) vs):∀ (j:Nat) (p:Int×Bool),kvs[j]? = some p→vs[j]? = some (Sum.inl p.1,Value.bool p.2):=by
 induction kvs generalizing vs with
 | nil=>intro j p e;simp at e
 | cons q l ih =>
  cases r with
  | cons h t =>
   intro j p e
   cases j with
   | zero =>
    cases e
    rename_i v vs'
    obtain ⟨v1,v2⟩:=v
    obtain ⟨h1,h2⟩:=h
    have h1':Sum.inl q.1 = v1:=h1
    have h2':v2 = Value.bool q.2:=h2
    subst h1'
    subst h2'
    rfl
   | succ j=>exact ih t j p (by simpa using e)
def u8 (H:Hp) (kvs:List (Int×Bool)) (Q:VK):Prop:=∀ (r:Addr) (ps:List (Addr×(Int×Bool))) (H':Hp),Same H H'→(ps.map (·.2)).Perm kvs→(ps.map (·.2)).Pairwise (fun a b=>pLt b a = false) →
 (∀ p∈ps,H' p.1 = some (.tup [.int p.2.1,.bl p.2.2]))→H' r = some (.lst (ps.map fun p=>V.ref p.1))→Q (.ref r) H'
theorem Tz (hc:X.calm = true) {pins:List (Addr×Obj)}{σ:St}{H:Hp}{s:Shared} (I:Inv X pins σ H s) {d:Addr}{kvs:List (Int×Bool)}{Q:VK} (e:H d = some (.dK (kvI kvs))) (h64:kvs.length < 64) (q:u8 H kvs Q) :
  wpAny (model X.prog X.w) X.A (call (.builtin "sorted") [.ref s.heap.objs.size]) (EP X pins σ Q) X.xe { s with heap:=s.heap.push { cls:=.type "dict_items",data:=.fields #[.ref d] } }:=by
 have hh:X.A.handled = none:=I.ok.hd hc
 obtain ⟨hz,lo,vs,hkv,hD⟩:=Uw I.hok e
 obtain ⟨ep,hat⟩:=hD.dictAt
 have hlen:vs.length = kvs.length:=by
  have:=hkv.length
  rw [← this,kvI,List.length_map]
 generalize hh1:s.heap.push { cls:=.type "dict_items",data:=.fields #[.ref d] } = h1
 have k1:∀ b o,s.heap.get? b = some o→h1.get? b = some o:=fun b o e=>hh1 ▸ Heap.get?_push_of_some _ e
 have hv:h1.IsItemsView s.heap.objs.size d:=hh1 ▸ ⟨_,Heap.get?_push_size _ rfl,rfl,rfl⟩
 have hz1:h1.objs.size = s.heap.objs.size + 1:=by rw [← hh1,Heap.size_push]
 refine call_function_entry kind_sorted plain_sorted entry_sorted (args_sorted1 _) (by
  unfold Builtin.«sorted»
  refine wpAny_bind (m:=checkCount "sorted" 1 1 _) (wpAny_pure (wpAny_bind (l9 (A:=X.A.in1) (knd:=x6 X.prog X.w) (kvs:=vs) (ep:=ep) (s:={ s with heap:=h1 }) hh hv (hat.at' fun o e=>k1 _ _ e) (by rw [hlen,sizeLine_eq];omega) fun h' tk acc keep hle hP=>?_)))
  have hlt:s.heap.objs.size < h'.objs.size:=by
   have:h1.objs.size < h'.objs.size:=hle
   omega
  obtain ⟨R,hRl,hR⟩:=Z8 (α:=Addr×(Int×Bool)) (P:=fun j r=>acc[j]? = some (.ref r.1)∧kvs[j]? = some r.2∧s.heap.objs.size≤r.1∧∃ t,h'.get? r.1 = some (du (.int r.2.1 t) (.bool r.2.2))) kvs.length fun j hj=>by
   obtain ⟨p,hp⟩:∃ p,kvs[j]? = some p:=⟨_,List.getElem?_eq_getElem hj⟩
   obtain ⟨b,key,a1,a2,a3,a4⟩:=hP.2 j _ (by omega) (Pm hkv j p hp)
   rcases ym (show nq (Sum.inl p.1) key = true from a3) with ⟨i,t,e1,e2⟩ | ⟨x,t,e1,e2⟩
   ·cases e1
    subst e2
    exact ⟨(b,p),a1,hp,Nat.le_trans (by show s.heap.objs.size≤h1.objs.size + 2;omega) a2,t,a4⟩
   ·cases e1
  have eacc:acc.toList = R.map fun r=>Value.ref r.1:=by
   refine List.ext_getElem? fun j=>?_
   rw [List.getElem?_map,Array.getElem?_toList]
   cases hj:R[j]? with
   | none =>
    have h2:R.length≤j:=List.getElem?_eq_none_iff.mp hj
    rw [Array.getElem?_eq_none (by rw [hP.1];omega)]
    rfl
   | some r=>rw [(hR j r hj).1];rfl
  have ekvs:R.map (·.2) = kvs:=by
   refine List.ext_getElem? fun j=>?_
   rw [List.getElem?_map]
   cases hj:R[j]? with
   | none =>
    have h2:R.length≤j:=List.getElem?_eq_none_iff.mp hj
    rw [List.getElem?_eq_none (by omega)]
    rfl
   | some r=>rw [(hR j r hj).2.1];rfl
  have hRm:∀ r∈R,s.heap.objs.size≤r.1∧∃ t,h'.get? r.1 = some (du (.int r.2.1 t) (.bool r.2.2)):=fun r hr=>by
   obtain ⟨j,hj⟩:=List.getElem?_of_mem hr
   exact (hR j r hj).2.2
  rw [eacc]
  refine wpAny_bind (wpAny_newList ?_ (by rw [List.length_map,hRl,sizeLine_eq];omega))
  generalize hh2:Heap.push (Shared.heap { s with heap:=h',toks:=tk }) _ = h2
  have k2:∀ b o,h'.get? b = some o→h2.get? b = some o:=fun b o e=>hh2 ▸ Heap.get?_push_of_some _ e
  have eD:h2.get? h'.objs.size = some (seqObj "list" (R.map fun r=>Value.ref r.1).toArray 0):=hh2 ▸ Heap.get?_push_size _ rfl
  refine wpAny_bind (wpAny_holding ?_)
  refine wpAny_call_entry (s:={ s with heap:=h2,toks:=tk }) slot_list_sort ⟨_,eD,rfl⟩ entry_list_sort (d3 (prog:=X.prog) (w:=X.w) eD (fun r hr=>by
   obtain ⟨t,z⟩:=(hRm r hr).2
   exact ⟨_,t,_,k2 _ _ z,rfl,rfl⟩) (by omega) fun R2 h3 e3 pm up k3 eD3=>⟨_,rfl,wpAny_pure ⟨_,rfl,?_⟩⟩) (args_list_sort _)
  have hD:s.heap.objs.size≤h'.objs.size:=Nat.le_of_lt hlt
  have mR:∀ r∈R2,s.heap.objs.size≤r.1∧r.1≠h'.objs.size∧∃ t,h3.get? r.1 = some (du (.int r.2.1 t) (.bool r.2.2)):=fun r hr=>by
   obtain ⟨z1,t,z2⟩:=hRm r (pm.mem_iff.mp hr)
   have ne:r.1≠h'.objs.size:=Nat.ne_of_lt (Heap.lt_size z2)
   exact ⟨z1,ne,t,k3 _ _ ne (k2 _ _ z2)⟩
  have one:∀ r∈R2,∀ r'∈R2,r'.1 = r.1→r'.2 = r.2:=fun r hr r' hr' z=>by
   obtain ⟨_,_,t,z2⟩:=mR r hr
   obtain ⟨_,_,t',z2'⟩:=mR r' hr'
   rw [z,z2] at z2'
   simp [du] at z2'
   exact (Prod.ext z2'.1.1 z2'.2).symm
  generalize hL:((h'.objs.size,HO.lst (R2.map fun p=>V.ref p.1)) :: R2.map fun p=>(p.1,HO.tup [V.int p.2.1,V.bl p.2.2])) = L
  have mL:∀ p∈L,s.heap.objs.size≤p.1:=fun p hp=>by
   rw [← hL] at hp
   rcases List.mem_cons.mp hp with z | z
   ·subst z;exact hD
   ·obtain ⟨r,hr,z⟩:=List.mem_map.mp z
    subst z
    exact (mR r hr).1
  have outL:∀ b,b < s.heap.objs.size→wo H L b = H b:=fun b hb=>nt fun p hp z=>absurd (mL p hp) (by rw [z];exact Nat.not_le_of_lt hb)
  have vals:Vals (R2.map fun p=>V.ref p.1) (R2.map fun p=>Value.ref p.1):=by
   have h1:(R2.map fun r=>V.ref r.1) = (R2.map (·.1)).map V.ref:=by rw [List.map_map];rfl
   have h2:(R2.map fun r=>Value.ref r.1) = (R2.map (·.1)).map Value.ref:=by rw [List.map_map];rfl
   rw [h1,h2]
   exact sr _
  have I2:Inv X pins σ (wo H L) { s with heap:=h3,toks:=tk }:=by
   refine Inv.laids I (fun b o eb=>k3 b o (Nat.ne_of_lt (Nat.lt_of_lt_of_le (Heap.lt_size eb) hD)) (k2 _ _ (keep b o (k1 b o eb)))) outL fun a o ha eo=>?_
   rcases kr eo with ⟨p,hp,z⟩ | z
   ·rw [← hL] at hp
    rcases List.mem_cons.mp hp with y | y
    ·rw [z] at y
     cases y
     exact ⟨by rw [List.length_map,pm.length_eq,sizeLine_eq];omega,_,e3,vals,eD3⟩
    ·obtain ⟨r,hr,y⟩:=List.mem_map.mp y
     rw [z] at y
     cases y
     obtain ⟨_,_,t,z2⟩:=mR r hr
     exact ⟨by simp only [List.length_cons,List.length_nil];rw [sizeLine_eq];decide,[.int r.2.1 t,.bool r.2.2],.cons ⟨t,rfl⟩ (.cons rfl .nil),⟨_,z2,rfl,_,rfl⟩⟩
   ·exact absurd (I.hok.lt z) (Nat.not_lt_of_le ha)
  refine ⟨.ref h'.objs.size,wo H L,I2,rfl,q _ R2 _ (fun b o eb=>(outL b (I.hok.lt eb)).trans eb) (by rw [← ekvs];exact pm.map _) up (fun p hp=>?_) ?_⟩
  ·refine si (by rw [← hL];exact List.mem_cons_of_mem _ (List.mem_map.mpr ⟨p,hp,rfl⟩)) fun p' hp' z=>?_
   rw [← hL] at hp'
   rcases List.mem_cons.mp hp' with y | y
   ·subst y
    exact absurd z.symm (mR p hp).2.1
   ·obtain ⟨r,hr,y⟩:=List.mem_map.mp y
    subst y
    show HO.tup [V.int r.2.1,V.bl r.2.2] = _
    rw [one p hp r hr z]
  ·refine si (by rw [← hL];exact List.mem_cons_self) fun p' hp' z=>?_
   rw [← hL] at hp'
   rcases List.mem_cons.mp hp' with y | y
   ·subst y
    rfl
   ·obtain ⟨r,hr,y⟩:=List.mem_map.mp y
    subst y
    exact absurd z (mR r hr).2.1)
def tSI (te:TE):TE:=fun σ H Q=>te σ H (oo fun a H1=>∃ kvs:List (Int×Bool),H1 a = some (.dK (kvI kvs))∧kvs.length < 64∧u8 H1 kvs Q)
theorem ma {e:Expr}{te:TE}{p1 p2 pos1 pos2:Pos} (hc:X.calm = true) (g1:Gl X "sorted") (m1:X.mg "sorted" = none) (ha:PE X e te)
  (he1:starEach [.Call (.Attribute e "items" p2) [] [] pos2] X.env = [(false,eval (.Call (.Attribute e "items" p2) [] [] pos2) X.env)]:=by rfl)
  (hbase:attributeBase e "items" X.env (eval e X.env) = eval e X.env:=by rfl) (hline:(p2.endLine == pos2.line) = true:=by rfl) :
  PE X (.Call (.Name "sorted" p1) [.Call (.Attribute e "items" p2) [] [] pos2] [] pos1) (tSI te):=by
 intro pins s σ H Q I h
 refine wpAny_Call_Name_kw (xb I g1 m1 r8 (PyProof.Rows.callWith_builtin1 ?_ he1 rfl))
 rw [he1]
 refine (show wpAny _ _ (spliced ((false,eval (.Call (.Attribute e "items" p2) [] [] pos2) X.env) :: [])) _ _ s from Calls.spliced_cons ?_)
 refine wpAny_Call_method (T:="dict") (id:="dict.items") hbase rfl hline F.plainAttrs_dict F.slot_dict_items F.type_dict_items (thn (ha pins s σ H _ I h) fun u s1 ⟨x,H1,I1,r1,q1⟩=>?_)
 cases x with
 | ref a =>
  cases r1
  obtain ⟨kvs,hd,h64,q⟩:=(show ∃ kvs:List (Int×Bool),H1 a = some (.dK (kvI kvs))∧kvs.length < 64∧u8 H1 kvs Q from q1)
  obtain ⟨hz,lo,vs,hkv,hD⟩:=Uw I1.hok hd
  refine ⟨hD.typeIs,hD.mapOf.noDict,?_⟩
  show wpAny _ _ (callWith pos2 (.builtin "dict.items") [.ref a] [] []) _ _ s1
  exact method_meetsIn F.slot_dict_items F.entry_dict_items rfl (PySem.evalArgs_none ⟨rfl,hD.typeIs,F.args_dict_items_1 _,_,meets_dict_items (x6 X.prog X.w) a lo,⟨vs,hD⟩,Calls.spliced_nil (Tz hc I1 hd h64 q)⟩)
 | _=>exact (show False from q1).elim
end
end My
namespace My
open PySem PySem.Spec PySem.W PySem.Calls L2
open PyProof.Rows hiding St
section
variable {X:Cx}
def tDG (td ti:TE):TE:=fun σ H Q=>td σ H (oo fun a H1=>ti σ H1 (on fun i H2=>∃ kvs v,H2 a = some (.dK kvs)∧vh kvs (Sum.inl i) = some v∧Q v H2))
theorem ck {o i:Expr}{td ti:TE}{pos:Pos} (hu:X.A.units + 64 < cLine) (ho:PE X o td) (hi:PE X i ti) (hs:Mi i):PE X (.Subscript o i pos) (tDG td ti):=by
 intro pins s σ H Q I h
 refine T9 PySem.F.slot_dict_getitem.lookup hs (thn (ho pins s σ H _ I h) fun u s1 ⟨x,H1,I1,rx,q1⟩=>?_)
 cases x with
 | ref a =>
  cases rx
  refine thn (hi pins s1 σ H1 _ I1 q1) fun iv s2 ⟨y,H2,I2,ry,q2⟩=>?_
  cases y with
  | int n =>
   obtain ⟨kvs,v,e,ev,q⟩:=(show ∃ kvs v,H2 a = some (.dK kvs)∧vh kvs (Sum.inl n) = some v∧Q v H2 from q2)
   have g:DGet H2 a (.int n) (some v):=.inl ⟨kvs,Sum.inl n,.inl e,rfl,ev.symm⟩
   exact ⟨fv I2 g,X1 (by omega) I2 g ry fun w' s3 I3 rw'=>⟨v,H2,I3,rw',q⟩⟩
  | _=>exact (show False from q2).elim
 | _=>exact (show False from q1).elim
end
end My
namespace My
open PySem PySem.Spec PySem.W PySem.Calls L2
open PyProof.Rows hiding St
def ot (p:Int×Bool):PyData:=.tuple [.int p.1,.bool p.2]
theorem gc {K:PySem.W.Frag}{H:Hp}{a:Addr}{n:Int}{b:Bool} (h:SqT K H a [.int n,.bl b]):Has K H (.ref a) (ot (n,b)):=by
 unfold ot Has
 refine ⟨a,_,rfl,h,?_⟩
 unfold HasL
 refine ⟨_,_,rfl,by unfold Has;rfl,?_⟩
 unfold HasL
 refine ⟨_,_,rfl,by unfold Has;rfl,?_⟩
 simp [HasL]
theorem rk (p:Int×Bool):SeqAt.shaped (ot p) = true:=by
 unfold SeqAt.shaped ot
 simp [PyData.canLay0,PyData.canLayAll0,PyData.depth,PyData.depthAll]
theorem U0 (p q:Int×Bool):PyData.eqv (ot p) (ot q) = decide (p = q):=by
 obtain ⟨a,u⟩:=p
 obtain ⟨b,v⟩:=q
 unfold ot
 simp only [PyData.eqv,PyData.eqvAll,Bool.and_true]
 by_cases e:a = b
 ·subst e
  cases u <;> cases v <;> simp
 ·simp [e]
end My
namespace My
open PySem PySem.Spec PySem.W PySem.Calls L2
open PyProof.Rows hiding St
theorem Ug {k:List Bool}{ps qs:List (Nat×Bool)} (h:ps.Perm qs):agr k ps = agr k qs:=by
 unfold agr
 rw [Bool.eq_iff_iff,List.all_eq_true,List.all_eq_true]
 exact ⟨fun z p hp=>z p (h.mem_iff.mpr hp),fun z p hp=>z p (h.mem_iff.mp hp)⟩
def yd (R:List (List Bool)) (said:Nat→Bool) (tk:List (Nat×Bool)) (n:Nat):Bool :=
 if (R.any fun k=>agr k (tk ++ [(n,said n)])) = true then said n else !said n
def y9 (R:List (List Bool)) (said:Nat→Bool) (ord:List Nat):List (Nat×Bool):=ord.foldl (fun tk n=>tk ++ [(n,yd R said tk n)]) []
theorem w9 {R:List (List Bool)}{said:Nat→Bool}{ord:List Nat}{i n:Nat} (h:ord[i]? = some n):y9 R said (ord.take (i + 1)) = y9 R said (ord.take i) ++ [(n,yd R said (y9 R said (ord.take i)) n)]:=by
 unfold y9
 rw [List.take_add_one,h,List.foldl_append]
 rfl
theorem m9 (R:List (List Bool)) (said:Nat→Bool):∀ (ord:List Nat) (tk:List (Nat×Bool)),(ord.foldl (fun tk n=>tk ++ [(n,yd R said tk n)]) tk).map (·.1) = tk.map (·.1) ++ ord
 | [],tk=>by simp
 | n :: ord,tk=>by
  rw [List.foldl_cons,m9 R said ord]
  simp
theorem vg (R:List (List Bool)) (said:Nat→Bool) (ord:List Nat):(y9 R said ord).map (·.1) = ord:=by
 unfold y9
 rw [m9]
 simp
def xn (tk:List (Nat×Bool)):List (Int×Bool):=tk.map fun p=>(((p.1:Nat):Int),p.2)
theorem ah {kvs:List (Key×V)}{k:Key}{v:V} (h:∀ p∈kvs,p.1≠k):v8 kvs k v = kvs ++ [(k,v)]:=by
 unfold v8
 rw [if_neg]
 intro z
 obtain ⟨p,hp,e⟩:=List.any_eq_true.mp z
 exact h p hp (of_decide_eq_true e)
theorem qb:∀ {tk:List (Nat×Bool)}{n:Nat}{b:Bool},(tk.map (·.1)).Nodup→(n,b)∈tk→vh (kvI (xn tk)) (Sum.inl (n:Int)) = some (V.bl b)
 | p :: tk,n,b,hn,h=>by
  rw [List.map_cons,List.nodup_cons] at hn
  show vh ((Sum.inl (p.1:Int),V.bl p.2) :: kvI (xn tk)) (Sum.inl (n:Int)) = some (V.bl b)
  rcases List.mem_cons.mp h with e | e
  ·subst e
   exact vm rfl
  ·rw [vk fun z=>?_]
   ·exact qb hn.2 e
   ·have z2:((p.1:Nat):Int) = (n:Int):=Sum.inl.inj z
    have z3:p.1 = n:=Int.ofNat.inj z2
    exact hn.1 (List.mem_map.mpr ⟨(n,b),e,z3.symm⟩)
theorem Wl {qs:List (Int×Bool)}{tk:List (Nat×Bool)} (h:qs.Perm (xn tk)):∃ ps:List (Nat×Bool),qs = xn ps∧ps.Perm tk:=by
 refine ⟨qs.map fun q=>(q.1.toNat,q.2),?_,?_⟩
 ·unfold xn
  rw [List.map_map]
  refine (List.map_id qs).symm.trans (List.map_congr_left fun q hq=>?_)
  obtain ⟨p,_,e⟩:=List.mem_map.mp (h.mem_iff.mp hq)
  subst e
  simp
 ·have:=h.map fun q:Int×Bool=>(q.1.toNat,q.2)
  refine this.trans ?_
  unfold xn
  rw [List.map_map]
  have:((fun q:Int×Bool=>(q.1.toNat,q.2)) ∘ fun p:Nat×Bool=>(((p.1:Nat):Int),p.2)) = id:=by funext p;simp
  rw [this,List.map_id]
end My
namespace My
open PySem PySem.Spec PySem.W PySem.Calls L2
open PyProof.Rows hiding St
section
variable {X:Cx}
def tLR (ta:TA):TE:=fun σ H Q=>ta σ H (on1 (on fun j H1=>(0≤j∧j≤1000)∧New H1 (.lst ((List.range j.toNat).map fun n=>V.int ((n:Nat):Int))) Q))
theorem fb {us:List Value}{n:Nat} (hl:us.length = n) (h:∀ (i:Nat) v,us[i]? = some v→∃ t,v = Value.int (i:Int) t):Vals ((List.range n).map fun n=>V.int ((n:Nat):Int)) us:=by
 induction n generalizing us with
 | zero =>
  rw [List.length_eq_zero_iff.mp hl]
  exact .nil
 | succ n ih =>
  rw [List.range_succ,List.map_append]
  obtain ⟨vs,v,rfl⟩:∃ vs v,us = vs ++ [v]:=⟨us.dropLast,us.getLast (by intro z;rw [z] at hl;simp at hl),(List.dropLast_concat_getLast _).symm⟩
  have hvl:vs.length = n:=by simpa using hl
  refine (ih hvl fun i u hu=>h i u ?_).append (.cons ?_ .nil)
  ·rw [List.getElem?_append_left (List.getElem?_eq_some_iff.mp hu).1]
   exact hu
  ·have:=h n v (by rw [List.getElem?_append_right (by omega),hvl,Nat.sub_self];rfl)
   exact this
def M6:V→List V→Hp→VK→Prop:=fun x vs H Q=>match x,vs with
 | .ref l,[.int i]=>∃ xs y,∃ k:Nat,H l = some (.lst xs)∧i = (k:Int)∧k < 1000∧xs[k]? = some y∧Q y (upd H l (.lst (xs.eraseIdx k)))
 | _,_=>False
theorem Qy {l:Addr}{i:Int}{H:Hp}{Q:VK}:M6 (.ref l) [.int i] H Q = ∃ xs y,∃ k:Nat,H l = some (.lst xs)∧i = (k:Int)∧k < 1000∧xs[k]? = some y∧Q y (upd H l (.lst (xs.eraseIdx k))):=rfl
end
end My
namespace My
open PySem
theorem len1 {us:List Value} (h:us.length = 1):∃ a,us = [a]:=by
 cases us with
 | nil=>cases h
 | cons a us=>exact ⟨a,by rw [List.length_eq_zero_iff.mp (Nat.succ.inj h)]⟩
theorem len2 {us:List Value} (h:us.length = 2):∃ a b,us = [a,b]:=by
 cases us with
 | nil=>cases h
 | cons a us=>obtain ⟨b,e⟩:=len1 (Nat.succ.inj h);exact ⟨a,b,by rw [e]⟩
theorem len3 {us:List Value} (h:us.length = 3):∃ a b c,us = [a,b,c]:=by
 cases us with
 | nil=>cases h
 | cons a us=>obtain ⟨b,c,e⟩:=len2 (Nat.succ.inj h);exact ⟨a,b,c,by rw [e]⟩
theorem len4 {us:List Value} (h:us.length = 4):∃ a b c d,us = [a,b,c,d]:=by
 cases us with
 | nil=>cases h
 | cons a us=>obtain ⟨b,c,d,e⟩:=len3 (Nat.succ.inj h);exact ⟨a,b,c,d,by rw [e]⟩
end My
namespace My
open PySem PySem.Spec PySem.W PySem.Calls L2
open PyProof.Rows hiding St
section
variable {X:Cx}
def Rj (K:PySem.W.Frag):R2:=fun x y H Q=>match x,y with
 | .ref p,.ref r=>∃ xs ys,SqT K H p xs∧SqT K H r ys∧xs.length + ys.length≤sizeLine∧∀ (p:Addr) (H':Hp),Same H H'→SqT K H' p (xs ++ ys)→Q (.ref p) H'
 | _,_=>False
theorem Qo {K:PySem.W.Frag}{p r:Addr}{H:Hp}{Q:VK}:Rj K (.ref p) (.ref r) H Q = ∃ xs ys,SqT K H p xs∧SqT K H r ys∧xs.length + ys.length≤sizeLine∧∀ (p:Addr) (H':Hp),Same H H'→SqT K H' p (xs ++ ys)→Q (.ref p) H':=rfl
theorem Pu:OpR X (binaryOp .Add) (Rj X.K):=by
 intro pins s σ H x y v u Q I rx ry h
 cases x with
 | ref p=>cases y with
  | ref r=>exact zf pins s σ H _ _ v u Q I rx ry (.inr h)
  | _=>exact (show False from h).elim
 | _=>exact (show False from by cases y <;> exact h).elim
def Vo:Ue:=fun x y v H k=>match x with
 | .ref a=>∃ kvs ky,H a = some (.dK kvs)∧y = kV ky∧kvs.length < sizeLine∧k (upd H a (.dK (v8 kvs ky v)))
 | _=>False
theorem Qz {a:Addr}{y v:V}{H:Hp}{k:Hp→Prop}:Vo (.ref a) y v H k = ∃ kvs ky,H a = some (.dK kvs)∧y = kV ky∧kvs.length < sizeLine∧k (upd H a (.dK (v8 kvs ky v))):=rfl
theorem W4 (hu:X.A.units + 64 < cLine):Rx X Vo:=by
 intro pins s σ H o i v ov iv u Q I ro ri rv h
 cases o with
 | ref a=>exact al hu pins s σ H _ i v ov iv u Q I ro ri rv (.inl h)
 | _=>exact (show False from h).elim
def Rg (K:PySem.W.Frag) (tl:TE):TI:=fun σ H R=>tl σ H (oo fun a H1=>(∃ xs,SqT K H1 a xs)∧R (Itt K a) H1)
def Ms (K:PySem.W.Frag) (tl:TE):TI:=fun σ H R=>tl σ H (oo fun a H1=>(∃ xs,SqL K H1 a xs)∧R (Itl K a) H1)
theorem To {tg l:Expr}{tl:TE} (hl:PE X l tl):PI X tg l (Rg X.K tl):=by
 intro pins s σ H R I h
 refine thn (hl pins s σ H _ I h) fun v s1 ⟨x,H1,I1,r1,q1⟩=>?_
 cases x with
 | ref a =>
  cases r1
  obtain ⟨⟨xs,hq⟩,q⟩:=(show (∃ xs,SqT X.K H1 a xs)∧R (Itt X.K a) H1 from q1)
  obtain ⟨its,rv,p,hz⟩:=I1.tuple hq
  refine wpAny_pyIter_tuple (show s1.heap.IsTuple a its.toArray from p) ?_
  refine ⟨s1.heap.objs.size,[s1.heap.objs.size],_,_,H1,rfl,I1.kept (t':=s1.toks) fun b o e=>Heap.get?_push_of_some _ e,p9 a _,⟨_,Heap.get?_push_size _ rfl,rfl,rfl⟩,fun b hb=>?_,q⟩
  have e:b = s1.heap.objs.size:=by simpa using hb
  subst e
  exact I1.fpOk (Nat.le_refl _) (I1.hok.fresh (Nat.le_refl _))
 | _=>exact (show False from q1).elim
theorem jn {o i e:Expr}{to ti te:TE}{p1 p2:Pos} (hu:X.A.units + 64 < cLine) (ho:PE X o to) (hi:PE X i ti) (he:PE X e te)
  (ha:∀ v,assign (.Subscript o i p1) X.env v = (do
   let ov ← holding [v] (eval o X.env)
   let iv ← holding [v,ov] (eval i X.env)
   standAt p1
   holding [v,ov,iv] (setItem ov iv v)
   release [v,ov,iv] []):=by intro _;rfl)
  (hs:swapsWithSole [.Subscript o i p1] e p2.line X.env = pure false:=by rfl) (hw:swappedStores [.Subscript o i p1] e X.env = pure none:=by rfl)
  (h1:(assignEach [.Subscript o i p1] X.env).map (·.2) = [assign (.Subscript o i p1) X.env]:=by rfl):PS X (.Assign [.Subscript o i p1] e p2) (Zf te (Sc to ti Vo)):=Wr he (Wm ho hi (W4 hu) ha) hs hw h1
end
end My
namespace My
open PySem PySem.Spec PySem.W PySem.Calls L2
open PyProof.Rows hiding St
open AutoSeq1 (wpAny_loadPart')
section
variable {prog:Program}{w:World}{A:Around}{E:Value→Shared→Prop}{s:Shared}
theorem uk {Q:List Value→Shared→Prop}{r:Addr}{a b c:Int}{t u v:Tok}{n:Nat} (hh:A.handled = none) (hr:IsRange s.heap r a b c t u v) (hsmall:Builtin.Range.small a b c = true) (hn:Builtin.Range.rangeSize a b c = n) (hlen:n≤2 ^ 24)
  (hQ:∀ h' tk (acc:Array Value),(∀ b o',s.heap.get? b = some o'→h'.get? b = some o')→ItemsOf (fun i v=>∃ t,v = .int (a + i * c) t) acc n→Q acc.toList { s with heap:=h',toks:=tk }) :
  wpAny (model prog w) A (collect (.ref r)) Q E s:=by
 unfold collect
 refine wpAny_bind (wpAny_runValue (codeAny_builtin PySem.F.entry_proto_collect ?_))
 rw [Around.under_plainId PySem.F.plain_proto_collect _]
 show wpAny _ A.in1 (newList [] >>= fun l=>again (.builtin "list.__iadd__" ⟨[l,.ref r],[]⟩)) _ _ s
 refine wpAny_bind (wpAny_newObj_type ?_)
 refine wpAny_pure ⟨plainId_quiet PySem.F.plain_list_iadd _,codeAny_builtin PySem.F.entry_list_iadd ?_⟩
 rw [Around.under_plainId PySem.F.plain_list_iadd _]
 show wpAny _ A.in1 (Builtin.List.listExtendWith (.ref s.heap.objs.size) (.ref r) (.ref s.heap.objs.size)) _ _ _
 have hS:(s.heap.push { cls:=.type "list",data:=.seq ([]:List Value).toArray }).get? s.heap.objs.size = some { cls:=.type "list",data:=.seq #[] 0 }:=Heap.get?_push_size _ rfl
 have fin:∀ (h':Heap) (tk:Nat) (acc':Array Value) (c':Nat),(∀ b o,b≠s.heap.objs.size→(s.heap.push { cls:=.type "list",data:=.seq ([]:List Value).toArray }).get? b = some o→h'.get? b = some o)→h'.get? s.heap.objs.size = some { cls:=.type "list",dict:=none,data:=.seq acc' c',slots:=#[] } →
   ItemsOf (fun i v=>∃ t,v = .int (a + i * c) t) acc' n→wpAny (model prog w) A (match Value.ref s.heap.objs.size with
   | Value.ref a=>do
    match (← load a).data with
     | Data.seq xs _=>pure xs.toList
     | _=>unsupported "internal:collect"
   | _=>unsupported "internal:collect") Q E { s with heap:=h',toks:=tk }:=fun h' tk acc' c' kp e hacc=>by
  show wpAny _ A (load s.heap.objs.size >>= _) _ _ _
  refine wpAny_bind (wpAny_load e ?_)
  refine wpAny_pure ?_
  exact hQ h' tk acc' (fun b o' hb=>kp b o' (Nat.ne_of_lt (Heap.lt_size hb)) (Heap.get?_push_of_some _ hb)) hacc
 refine wpAny_mono (wpAny_extend_range (A:=A) (R:=fun r s'=>∃ h' tk acc' c',r = .ok (.ret (.ref s.heap.objs.size))∧s' = { s with heap:=h',toks:=tk }∧(∀ b o,b≠s.heap.objs.size→(s.heap.push { cls:=.type "list",data:=.seq ([]:List Value).toArray }).get? b = some o→h'.get? b = some o)∧h'.get? s.heap.objs.size = some { cls:=.type "list",dict:=none,data:=.seq acc' c',slots:=#[] }∧ItemsOf (fun i v=>∃ t,v = .int (a + i * c) t) acc' n)
  (s:={ s with heap:=s.heap.push { cls:=.type "list",data:=.seq ([]:List Value).toArray } }) hh (Heap.get?_push_of_some _ hr) hsmall hn hlen s.heap.objs.size _ 0 hS fun h' tk acc' c' kp e hacc=>⟨h',tk,acc',c',rfl,rfl,kp,e,hacc⟩) (fun f s' h=>?_) fun e s' h=>?_
 ·cases f with
  | done f =>
   obtain ⟨h',tk,acc',c',er,rfl,kp,e,hacc⟩:=h
   cases er
   exact fin h' tk acc' c' kp e hacc
  | again c'=>exact ⟨h.1,codeAny_mono h.2 fun r s'' hr=>by obtain ⟨h',tk,acc',c',rfl,rfl,kp,e,hacc⟩:=hr;exact fin h' tk acc' c' kp e hacc⟩
 ·obtain ⟨h',tk,acc',c',er,_⟩:=h
  cases er
end
theorem t6 (r:Addr) (a b c:Int) (t u v:Tok) (n:Nat) (hsmall:Builtin.Range.small a b c = true) (hn:Builtin.Range.rangeSize a b c = n) (hlen:n≤1000) :
  Meets (Builtin.«tuple.__new__» ⟨[.type "tuple",.ref r],[]⟩)
   (fun A R s=>A.handled = none∧IsRange s.heap r a b c t u v∧∀ (h':Heap) (tk:Nat) (acc:Array Value),(∀ b o,s.heap.get? b = some o→h'.get? b = some o)→ItemsOf (fun i v=>∃ t,v = .int (a + i * c) t) acc n →
    R (.ok (.ret (.ref h'.objs.size))) { s with heap:=h'.push { cls:=.type "tuple",data:=.seq acc },toks:=tk }) :=
 .of_wp fun prog w A R s h=>by
  obtain ⟨hh,hr,h⟩:=h
  have hsub:=sub_tuple_self
  have hinit:=init_tuple_lookup
  have hmh:=madeHere_tuple
  have hT:s.TypeIs (.ref r) "range":=⟨_,hr,rfl⟩
  have hh1:A.in1.handled = none:=hh
  wp_walk using wpAny_loadPart' hr,wpAny_typeOf hT,uk hh1 hr hsmall hn (Nat.le_trans hlen (by decide))
  intro h' tk acc hk hacc
  show wpAny _ _ (Builtin.Tuple.tupleExact acc.toList.toArray >>= fun v=>ret v) _ _ _
  unfold Builtin.Tuple.tupleExact
  refine wpAny_bind (wpAny_newObj_type ?_ (show acc.toList.toArray.size≤sizeLine by simp only [Array.toArray_toList];rw [hacc.1,sizeLine_eq];omega))
  refine wpAny_pure ⟨_,rfl,?_⟩
  have e:acc.toList.toArray = acc:=by simp
  rw [e]
  exact h h' tk acc hk hacc
section
variable {prog:Program}{w:World}{A:Around}{E:Value→Shared→Prop}{s:Shared}
theorem r9 {Q:Value→Shared→Prop}{r:Addr}{a b c:Int}{t u v:Tok}{n:Nat} (hh:A.handled = none) (hr:IsRange s.heap r a b c t u v) (hsmall:Builtin.Range.small a b c = true) (hn:Builtin.Range.rangeSize a b c = n) (hlen:n≤1000)
  (h:∀ (h':Heap) (tk:Nat) (acc:Array Value),(∀ b o,s.heap.get? b = some o→h'.get? b = some o)→ItemsOf (fun i v=>∃ t,v = .int (a + i * c) t) acc n→Q (.ref h'.objs.size) { s with heap:=h'.push { cls:=.type "tuple",data:=.seq acc },toks:=tk }) :
  wpAny (model prog w) A (call (.type "tuple") [.ref r]) Q E s :=
 callType_new PySem.F.called_tuple (by decide) (PySem.F.typeCall_tuple_1 _) (PySem.F.newCall_tuple_1 _) (fun obj=>PySem.F.args_object_init_2 obj _) PySem.F.entry_tuple_new
  (t6 r a b c t u v n hsmall hn hlen) ⟨hh,hr,fun h' tk acc hk hacc=>⟨⟨_,Heap.get?_push_size _ rfl,rfl⟩,h h' tk acc hk hacc⟩⟩
end
section
variable {X:Cx}
def Mf (ta:TA):TE:=fun σ H Q=>ta σ H (on1 (on fun j H1=>(0≤j∧j≤1000)∧New H1 (.tup ((List.range j.toNat).map fun n=>V.int ((n:Nat):Int))) Q))
theorem cq {a:Expr}{ta:TA}{p1 p2 pos1 pos2:Pos} (hc:X.calm = true) (g1:Gl X "tuple") (m1:X.mg "tuple" = none) (g2:Gl X "range") (m2:X.mg "range" = none) (ha:PA X [a] ta)
  (hs:starEach [a] X.env = [(false,eval a X.env)]:=by rfl)
  (he1:starEach [.Call (.Name "range" p2) [a] [] pos2] X.env = [(false,eval (.Call (.Name "range" p2) [a] [] pos2) X.env)]:=by rfl) :
  PE X (.Call (.Name "tuple" p1) [.Call (.Name "range" p2) [a] [] pos2] [] pos1) (Mf ta):=by
 intro pins s σ H Q I h
 refine Call_ (xb I g1 m1 y4 (PyProof.Rows.callWith_type1 ?_ he1 rfl))
 rw [he1]
 refine (show wpAny _ _ (spliced ((false,eval (.Call (.Name "range" p2) [a] [] pos2) X.env) :: [])) _ _ s from Calls.spliced_cons ?_)
 refine Call_ (xb I g2 m2 boot_range (PyProof.Rows.callWith_type1 (thn (ha pos2 pins s σ H _ I h) fun us s1 ⟨vs,H1,I1,r1,q1⟩=>?_) hs rfl))
 rcases vs with _ | ⟨x,_ | ⟨y,rr⟩⟩
 ·exact (show False from q1).elim
 ·cases x with
  | int j =>
   obtain ⟨⟨q0,q2⟩,q⟩:=(show (0≤j∧j≤1000)∧New H1 (.tup ((List.range j.toNat).map fun n=>V.int ((n:Nat):Int))) Q from q1)
   cases r1 with
   | cons r rr =>
    cases rr
    obtain ⟨t,rfl⟩:=r
    refine call_range_1 ?_
    refine Calls.spliced_nil ?_
    have I2:Inv X pins σ H1 { s1 with heap:=s1.heap.push { cls:=.type "range",data:=.fields #[.int 0 s1.toks,.int j t,.int 1 (s1.toks + 1)] },toks:=s1.toks + 1 + 1 }:=I1.kept fun b o e=>Heap.get?_push_of_some _ e
    have hn:Builtin.Range.rangeSize 0 j 1 = ((j.toNat:Nat):Int):=by
     rw [rangeSize_one]
     split <;> omega
    refine r9 (I2.ok.hd hc) (IsRange.new ..) (small_one (by decide) (by decide) (by omega) (by omega)) hn (by omega) fun h' tk acc' kp hacc=>?_
    have hv:Vals ((List.range j.toNat).map fun n=>V.int ((n:Nat):Int)) acc'.toList:=by
     refine fb (by simpa using hacc.1) fun i v hv=>?_
     obtain ⟨t,e⟩:=hacc.2 i v (by rw [← Array.getElem?_toList];exact hv)
     refine ⟨t,?_⟩
     rw [e]
     congr 1
     omega
    have hsz:((List.range j.toNat).map fun n=>V.int ((n:Nat):Int)).length≤sizeLine:=by
     rw [List.length_map,List.length_range,sizeLine_eq]
     omega
    have hle:(s1.heap.push { cls:=.type "range",data:=.fields #[.int 0 s1.toks,.int j t,.int 1 (s1.toks + 1)] }).objs.size≤h'.objs.size:=by
     rw [Heap.size_push]
     exact Heap.lt_size (kp _ _ (Heap.get?_push_size _ rfl))
    obtain ⟨acc'⟩:=acc'
    exact ⟨.ref _,_,I2.laid (t':=tk) (fun b o e=>Heap.get?_push_of_some _ (kp b o e)) hle (show ObjOk X.prog X.w _ _ _ (.tup _) from ⟨hsz,acc',hv,⟨_,Heap.get?_push_size _ rfl,rfl,_,rfl⟩⟩),rfl,New.at q _ (I2.hok.fresh hle)⟩
  | _=>exact (show False from q1).elim
 ·exact (show False from q1).elim
end
end My
namespace My
open PySem PySem.Spec PySem.W PySem.Calls L2
open PyProof.Rows hiding St
def Y9 {α:Type} (lt:Nat→Nat→Bool):KasT α→α
 | .ret a=>a
 | .ask i j k=>Y9 lt (k (lt i j))
abbrev Lg:=List (Nat×Nat×Bool)
def k4 (l:Lg) (i j:Nat) (b:Bool):Bool:=l.any fun x=>x.1 == i && x.2.1 == j && x.2.2 == b
def le1 (l:Lg) (x y:Nat):Bool:=k4 l y x false || k4 l x y true
def leC (l:Lg) (n:Nat):Nat→Nat→Nat→Bool
 | 0,x,y=>le1 l x y
 | k + 1,x,y=>le1 l x y || (List.range n).any fun z=>le1 l x z && leC l n k z y
def ltC (l:Lg) (n:Nat):Nat→Nat→Nat→Bool
 | 0,x,y=>k4 l x y true
 | k + 1,x,y=>k4 l x y true || (List.range n).any fun z=>(k4 l x z true && leC l n k z y) || (le1 l x z && ltC l n k z y)
def Zm (l:Lg) (n:Nat):List Nat→Bool
 | x :: y :: r=>(if x < y then leC l n n x y else ltC l n n x y) && Zm l n (y :: r)
 | _=>true
def Wk (n:Nat) (p:List Nat):Bool:=p.isPerm (List.range n)
def chk (n:Nat):KasT (Array Nat)→Lg→Bool
 | .ret p,l=>Wk n p.toList && Zm l n p.toList
 | .ask i j k,l=>decide (i < n) && decide (j < n) && chk n (k true) ((i,j,true) :: l) && chk n (k false) ((i,j,false) :: l)
theorem R8:(List.range 7).all (fun n=>chk n (kas_sort n) []) = true:=by decide +kernel
def wg (kz:Nat→Int) (x y:Nat):Prop:=kz x < kz y∨kz x = kz y∧x < y
section
variable {kz:Nat→Int}{l:Lg}{n:Nat}
def ba (kz:Nat→Int) (l:Lg):Prop:=∀ x∈l,x.2.2 = decide (kz x.1 < kz x.2.1)
theorem oe (h:ba kz l) {i j:Nat}{b:Bool} (e:k4 l i j b = true):b = decide (kz i < kz j):=by
 obtain ⟨x,hx,e⟩:=List.any_eq_true.mp e
 simp only [Bool.and_eq_true,beq_iff_eq] at e
 have:=h x hx
 rw [e.1.1,e.1.2,e.2] at this
 exact this
theorem ji (h:ba kz l) {x y:Nat} (e:le1 l x y = true):kz x≤kz y:=by
 rcases Bool.or_eq_true_iff.mp e with e | e
 ·have:=of_decide_eq_false (oe h e).symm
  omega
 ·have:=of_decide_eq_true (oe h e).symm
  omega
theorem ce (h:ba kz l):∀ {k x y:Nat},leC l n k x y = true→kz x≤kz y
 | 0,x,y,e=>ji h e
 | k + 1,x,y,e=>by
  rcases Bool.or_eq_true_iff.mp e with e | e
  ·exact ji h e
  ·obtain ⟨z,_,e⟩:=List.any_eq_true.mp e
   rw [Bool.and_eq_true] at e
   have h1:=ji h e.1
   have h2:=ce h e.2
   omega
theorem Vl (h:ba kz l):∀ {k x y:Nat},ltC l n k x y = true→kz x < kz y
 | 0,x,y,e=>of_decide_eq_true (oe h e).symm
 | k + 1,x,y,e=>by
  rcases Bool.or_eq_true_iff.mp e with e | e
  ·exact of_decide_eq_true (oe h e).symm
  ·obtain ⟨z,_,e⟩:=List.any_eq_true.mp e
   rcases Bool.or_eq_true_iff.mp e with e | e
   ·rw [Bool.and_eq_true] at e
    have h1:=of_decide_eq_true (oe h e.1).symm
    have h2:=ce h e.2
    omega
   ·rw [Bool.and_eq_true] at e
    have h1:=ji h e.1
    have h2:=Vl h e.2
    omega
theorem d8 {x y z:Nat} (a:wg kz x y) (b:wg kz y z):wg kz x z:=by
 unfold wg at a b ⊢
 omega
theorem Uf (h:ba kz l):∀ {p:List Nat},p.Nodup→Zm l n p = true→p.Pairwise (wg kz)
 | [],_,_=>.nil
 | [x],_,_=>List.pairwise_singleton _ _
 | x :: y :: r,hn,e=>by
  rw [Zm,Bool.and_eq_true] at e
  have hne:x≠y:=fun z=>by rw [z] at hn;exact (List.nodup_cons.mp hn).1 List.mem_cons_self
  have ih:=Uf h (List.nodup_cons.mp hn).2 e.2
  have hxy:wg kz x y:=by
   have e1:=e.1
   unfold wg
   split at e1
   ·have:=ce h e1
    omega
   ·exact .inl (Vl h e1)
  refine List.pairwise_cons.mpr ⟨fun z hz=>?_,ih⟩
  rcases List.mem_cons.mp hz with rfl | hz
  ·exact hxy
  ·exact d8 hxy ((List.pairwise_cons.mp ih).1 z hz)
theorem Tj {p:List Nat} (e:Wk n p = true):p.Perm (List.range n):=List.isPerm_iff.mp e
theorem ju:∀ (t:KasT (Array Nat)) (l:Lg),chk n t l = true→ba kz l→(Y9 (fun i j=>decide (kz i < kz j)) t).toList.Perm (List.range n)∧(Y9 (fun i j=>decide (kz i < kz j)) t).toList.Pairwise (wg kz)
 | .ret p,l,e,h=>by
  rw [chk,Bool.and_eq_true] at e
  have hp:=Tj e.1
  exact ⟨hp,Uf h (hp.nodup_iff.mpr List.nodup_range) e.2⟩
 | .ask i j k,l,e,h=>by
  rw [chk,Bool.and_eq_true,Bool.and_eq_true] at e
  have hl:∀ b,b = decide (kz i < kz j)→ba kz ((i,j,b) :: l):=fun b hb x hx=>by
   rcases List.mem_cons.mp hx with rfl | hx
   ·exact hb
   ·exact h x hx
  rw [Y9]
  cases hd:decide (kz i < kz j) with
  | true=>exact ju (k true) _ e.1.2 (hl _ hd.symm)
  | false=>exact ju (k false) _ e.2 (hl _ hd.symm)
theorem jw {cmp:Nat→Nat→(Bool→Shared→Prop)→Shared→Prop}{Q:Array Nat→Shared→Prop}{s:Shared} (hc:∀ i j C,i < n→j < n→C (decide (kz i < kz j)) s→cmp i j C s):∀ (t:KasT (Array Nat)) (l:Lg),chk n t l = true→Q (Y9 (fun i j=>decide (kz i < kz j)) t) s→t.kasWp cmp Q s
 | .ret p,l,_,h=>h
 | .ask i j k,l,e,h=>by
  rw [chk,Bool.and_eq_true,Bool.and_eq_true,Bool.and_eq_true] at e
  rw [Y9] at h
  refine hc i j _ (of_decide_eq_true e.1.1.1) (of_decide_eq_true e.1.1.2) ?_
  cases hd:decide (kz i < kz j) with
  | true=>rw [hd] at h;exact jw hc (k true) _ e.1.2 h
  | false=>rw [hd] at h;exact jw hc (k false) _ e.2 h
theorem Lp {cmp:Nat→Nat→(Bool→Shared→Prop)→Shared→Prop}{Q:Array Nat→Shared→Prop}{s:Shared} (h6:n≤6) (hc:∀ i j C,i < n→j < n→C (decide (kz i < kz j)) s→cmp i j C s)
  (h:∀ p:Array Nat,p.toList.Perm (List.range n)→p.toList.Pairwise (wg kz)→Q p s):(kas_sort n).kasWp cmp Q s:=by
 have e:=List.all_eq_true.mp R8 n (List.mem_range.mpr (by omega))
 obtain ⟨h1,h2⟩:=ju (kz:=kz) _ [] e (fun x hx=>by cases hx)
 exact jw hc _ [] e (h _ h1 h2)
end
end My
namespace My
open PySem PySem.Spec PySem.W PySem.Calls L2
open PyProof.Rows hiding St
section
variable {prog:Program}{w:World}{A:Around}{E:Value→Shared→Prop}{s:Shared}
theorem nj {vs:List Value}{ns:List Int}:IntsAre vs ns→∀ {i:Nat},i < vs.length→∃ n t,ns[i]? = some n∧vs.getD i Value.none = .int n t
 | .nil,i,h=>absurd h (Nat.not_lt_zero _)
 | .cons n t r,0,_=>⟨n,t,rfl,rfl⟩
 | .cons n t r,i + 1,h=>by
  obtain ⟨a,b,e1,e2⟩:=nj r (i:=i) (by simpa using h)
  exact ⟨a,b,by simpa using e1,by simpa using e2⟩
structure Oz (prog:Program) (w:World) (A:Around) (s:Shared) (D:Addr) (vs:List Value) (f:Value) (kz:Nat→Int) (J:Addr→Nat→Shared→Prop):Prop where
 enter:∀ kS h1,(∀ b o,b≠D→s.heap.get? b = some o→h1.get? b = some o)→s.heap.objs.size≤kS→(∃ o,h1.get? D = some o)→(∃ o,h1.get? kS = some o)→J kS 0 { s with heap:=h1 }
 upd:∀ kS i s1 h2,s.heap.objs.size≤kS→J kS i s1→(∀ b o,b≠kS→b≠D→s1.heap.get? b = some o→h2.get? b = some o)→(∀ b o,s1.heap.get? b = some o→∃ o',h2.get? b = some o')→J kS i { s1 with heap:=h2 }
 call:∀ kS i x s1,s.heap.objs.size≤kS→vs[i]? = some x→J kS i s1→wpAny (model prog w) A (call f [x]) (fun k s2=>(∃ t,k = .int (kz i) t)∧J kS (i + 1) s2∧(∀ o,s1.heap.get? kS = some o→s2.heap.get? kS = some o)∧∀ o,s1.heap.get? D = some o→s2.heap.get? D = some o) (fun _ _=>False) s1
theorem ez {h:Heap}{a:Addr}{xs:Array Value}{n:Nat}{g:Array Value→Array Value} (ha:h.get? a = some (seqObj "list" xs n)):∀ b o,h.get? b = some o→∃ o',(h.update a (Obj.mapSeq g)).get? b = some o':=fun b o e=>by
 by_cases z:b = a
 ·subst z
  exact ⟨_,get?_update_seq ha g⟩
 ·exact ⟨o,(Heap.get?_update_other _ _ (Ne.symm z)).trans e⟩
theorem lg {D kS:Addr}{vs ks:List Value}{kz:Nat→Int}{e e1:Nat}{f:Value}{s0:Shared}{J:Addr→Nat→Shared→Prop}{P:PySem.Fin→Shared→Prop}{st:SortSt}{p:Array Nat} (KJ:Oz prog w A s0 D vs f kz J) (hz:s0.heap.objs.size≤kS) (hkD:kS≠D) (hJ:J kS vs.length s) (h6:vs.length≤6)
  (hk:s.heap.get? kS = some (seqObj "list" ks.toArray e)) (hkl:ks.length = vs.length) (hD:s.heap.get? D = some (seqObj "list" #[] e1)) (hout:(arrOf st).map (·.2) = List.toArray (p.toList.map fun i=>vs.getD i Value.none)) (hpl:p.toList.length = vs.length) (hf:failedOf st = none)
  (h:∀ h2 c,J kS vs.length { s with heap:=h2 }→h2.get? D = some (seqObj "list" (p.toList.map fun i=>vs.getD i Value.none).toArray c)→P (.done (.ret .none)) { s with heap:=h2 }) :
  wpAny (model prog w) A (ksk_tail D false e1 (.ref kS) st) P E s:=by
 unfold ksk_tail
 try dsimp only
 rw [hout]
 have hDk:(s.heap.update kS (Obj.mapSeq fun _=>(#[]:Array Value))).get? D = some (seqObj "list" #[] e1):=(Heap.get?_update_other _ _ hkD).trans hD
 refine wpAny_bind (listUpdate_at hk rfl ?_ (by rw [List.size_toArray,sizeLine_eq];omega) (Nat.zero_le _))
 refine wpAny_bind (wpAny_letGo ?_)
 refine wpAny_bind (seqEpoch_at hDk rfl ?_)
 refine wpAny_bind (listUpdate_at hDk rfl ?_ (Nat.zero_le _) (by simp only [Bool.false_eq_true,if_false,List.size_toArray,List.length_map];rw [hpl,sizeLine_eq];omega))
 rw [hf]
 simp only [bne_self_eq_false,Bool.false_eq_true,if_false]
 have J1:=KJ.upd kS vs.length s _ hz hJ (fun b o b1 b2 e=>(Heap.get?_update_other (h:=s.heap) (f:=Obj.mapSeq fun _=>(#[]:Array Value)) (Ne.symm b1)).trans e) (ez hk)
 have J2:=KJ.upd kS vs.length _ _ hz J1 (fun b o b1 b2 e=>(Heap.get?_update_other (h:=s.heap.update kS (Obj.mapSeq fun _=>(#[]:Array Value))) (f:=Obj.mapSeq fun _=>List.toArray (p.toList.map fun i=>vs.getD i Value.none)) (Ne.symm b2)).trans e) (ez hDk)
 exact wpAny_pure (h _ _ J2 (get?_update_seq hDk fun _=>List.toArray (p.toList.map fun i=>vs.getD i Value.none)))
theorem d0 {D:Addr}{vs:List Value}{n0:Nat}{f:Value}{kz:Nat→Int}{J:Addr→Nat→Shared→Prop}{P:PySem.Fin→Shared→Prop} (KJ:Oz prog w A s D vs f kz J) (h6:vs.length≤6) (ho:s.heap.get? D = some (seqObj "list" vs.toArray n0))
  (h:∀ (kS:Addr) (s2:Shared) (p:List Nat) (c:Nat),s.heap.objs.size≤kS→J kS vs.length s2→p.Perm (List.range vs.length)→p.Pairwise (wg kz)→s2.heap.get? D = some (seqObj "list" (p.map fun i=>vs.getD i Value.none).toArray c)→P (.done (.ret .none)) s2) :
  wpAny (model prog w) A (ksk_tree D f false) P E s:=by
 have hDs:D < s.heap.objs.size:=Heap.lt_size ho
 obtain ⟨e1,ho1⟩:∃ e1,(s.heap.update D (Obj.mapSeq fun _=>(#[]:Array Value))).get? D = some (seqObj "list" #[] e1):=⟨_,get?_update_seq ho fun _=>#[]⟩
 unfold ksk_tree
 refine wpAny_bind (listItems_at ho rfl (wpAny_bind (listUpdate_at ho rfl (wpAny_bind (seqEpoch_at ho1 rfl (wpAny_bind (wpAny_newTuple (wpAny_bind (wpAny_newList (wpAny_holding ?_) (Nat.zero_le _))) (by show vs.length≤_;rw [sizeLine_eq];omega))))) (by rw [List.size_toArray,sizeLine_eq];omega) (Nat.zero_le _))))
 generalize hH:((s.heap.update D (Obj.mapSeq fun _=>(#[]:Array Value))).push (seqObj "tuple" vs.toArray 0)).push (seqObj "list" #[] 0) = H3
 have hkS:((s.heap.update D (Obj.mapSeq fun _=>(#[]:Array Value))).push (seqObj "tuple" vs.toArray 0)).objs.size = s.heap.objs.size + 1:=by rw [size_push',Heap.size_update]
 have hk0:H3.get? (s.heap.objs.size + 1) = some (seqObj "list" #[] 0):=by rw [← hH,← hkS];exact Heap.get?_push_size _ rfl
 have hD0:H3.get? D = some (seqObj "list" #[] e1):=by rw [← hH];exact Heap.get?_push_of_some _ (Heap.get?_push_of_some _ ho1)
 have keep:∀ b o,b≠D→s.heap.get? b = some o→H3.get? b = some o:=fun b o hb e=>by
  rw [← hH]
  exact Heap.get?_push_of_some _ (Heap.get?_push_of_some _ ((Heap.get?_update_other _ _ (Ne.symm hb)).trans e))
 have hz:s.heap.objs.size≤s.heap.objs.size + 1:=Nat.le_succ _
 have hkD:s.heap.objs.size + 1≠D:=Nat.ne_of_gt (Nat.lt_succ_of_lt hDs)
 have J0:=KJ.enter (s.heap.objs.size + 1) H3 keep hz ⟨_,hD0⟩ ⟨_,hk0⟩
 show wpAny (model prog w) A (ksk_rest D f false vs.toArray e1 (.ref ((s.heap.update D (Obj.mapSeq fun _=>(#[]:Array Value))).push (seqObj "tuple" vs.toArray 0)).objs.size)) P E _
 rw [hkS]
 generalize s.heap.objs.size + 1 = kS at *
 refine (show wpAny (model prog w) A _ P E { s with heap:=H3 } from ?_)
 unfold ksk_rest
 refine wpAny_bind (wpAny_rule ?_)
 first
  | rw [List.forIn_toArray]
  | (rw [← Array.forIn_toList];simp only [List.toList_toArray])
  | rw [← Array.forIn_toList]
 refine wpAny_bind (ksk_fold (fun i s1=>J kS i s1∧∃ ks c,s1.heap.get? kS = some (seqObj "list" (List.toArray ks) c)∧s1.heap.get? D = some (seqObj "list" #[] e1)∧IntsAre ks ((List.range i).map kz)) vs 0 _ ⟨J0,[],0,hk0,hD0,.nil⟩ ?step ?done)
 case step =>
  rintro j x s1 hx ⟨hJ,ks,c,hk,hD,hi⟩
  simp only [Nat.zero_add] at hJ hi ⊢
  have hj:j < vs.length:=(List.getElem?_eq_some_iff.mp hx).1
  have hkl:ks.length = j:=by have:=hi.length;rw [List.length_map,List.length_range] at this;exact this
  refine wpAny_bind (wpAny_attempt (wpAny_mono (KJ.call kS j x s1 hz hx hJ) (fun v s2 he=>?_) fun _ _ hF=>hF.elim))
  obtain ⟨⟨t,rfl⟩,hJ2,k1,k2⟩:=he
  try dsimp only
  have hk2:=k1 _ hk
  have ea:(List.toArray ks).push (Value.int (kz j) t) = List.toArray (ks ++ [.int (kz j) t]):=by simp
  obtain ⟨c2,hc2⟩:∃ c2,(s2.heap.update kS (Obj.mapSeq (·.push (.int (kz j) t)))).get? kS = some (seqObj "list" (List.toArray (ks ++ [.int (kz j) t])) c2):=⟨_,by rw [← ea];exact get?_update_seq hk2 (·.push (.int (kz j) t))⟩
  refine wpAny_bind (listUpdate_at hk2 rfl ?_ (by rw [List.size_toArray,sizeLine_eq];omega) (Nat.le_trans (Nat.le_of_eq (Array.size_push ..)) (by rw [List.size_toArray,sizeLine_eq];omega)))
  refine wpAny_pure ⟨rfl,KJ.upd kS (j + 1) s2 _ hz hJ2 (fun b o b1 b2 e=>(Heap.get?_update_other (h:=s2.heap) (f:=Obj.mapSeq (·.push (.int (kz j) t))) (Ne.symm b1)).trans e) (ez hk2),ks ++ [.int (kz j) t],c2,hc2,(Heap.get?_update_other _ _ hkD).trans (k2 _ hD),?_⟩
  ·rw [List.range_succ,List.map_append]
   exact ksk_snoc hi
 case done =>
  rintro s1 ⟨hJ,ks,c,hk,hD,hi⟩
  rw [Nat.zero_add] at hJ hi
  have hkl:ks.length = vs.length:=by have:=hi.length;rw [List.length_map,List.length_range] at this;exact this
  try dsimp only
  refine wpAny_bind (listItems_at hk rfl ?_)
  unfold ksk_end
  try dsimp only
  simp only [Bool.false_eq_true,if_false]
  by_cases h2:vs.toArray.size < 2
  ·rw [if_pos h2,if_pos h2]
   refine wpAny_bind (wpAny_pure ?_)
   rw [StateT.run_pure]
   refine wpAny_bind (wpAny_pure ?_)
   try dsimp only
   have hid:(arrOf (SortSt.mk' general' ((List.toArray ks).zip vs.toArray) #[] 7 none)).map (·.2) = List.toArray ((List.toArray (List.range vs.length)).toList.map fun i=>vs.getD i Value.none):=by
    show ((List.toArray ks).zip vs.toArray).map (·.2) = _
    apply Array.toList_inj.mp
    apply List.ext_getElem
    ·simp [hkl]
    ·intro i a1 a2
     have hi:i < vs.length:=by simpa using a2
     simp [hi]
   rw [List.size_toArray] at h2
   refine lg (p:=List.toArray (List.range vs.length)) KJ hz hkD hJ h6 hk hkl hD hid (by simp) rfl fun h2' c' hJ' hD'=>h kS _ (List.range vs.length) c' hz hJ' (.refl _) ?_ (by simpa using hD')
   refine List.pairwise_iff_getElem.mpr fun i j hi hj hij=>?_
   rw [List.length_range] at hj
   omega
  ·rw [if_neg h2,if_neg h2]
   rw [List.size_toArray] at h2
   rw [ksk_kind (keys:=List.toArray ks) (kz:=(List.range vs.length).map kz) hi (by rw [List.size_toArray];omega)]
   refine wpAny_bind (wpAny_pure ?_)
   have ask:(kas_sort vs.length).kasWp (kas_ask prog w A oneType' ks) (fun p s'=>s' = s1∧p.toList.Perm (List.range vs.length)∧p.toList.Pairwise (wg kz)) s1:=by
    refine Lp (kz:=kz) h6 (fun i j C hi' hj' hC=>?_) fun p hp hs=>⟨rfl,hp,hs⟩
    unfold kas_ask
    obtain ⟨a,t,e3,e4⟩:=nj hi (i:=i) (by omega)
    obtain ⟨b,u,e5,e6⟩:=nj hi (i:=j) (by omega)
    rw [List.getElem?_map,List.getElem?_range hi'] at e3
    rw [List.getElem?_map,List.getElem?_range hj'] at e5
    cases e3
    cases e5
    rw [e4,e6,keyLt'_oneType]
    exact oneLt_int hC
   refine wpAny_bind (wpAny_mono (kat_run (Q:=fun st' s'=>∃ p:Array Nat,arrOf st' = p.map (kas_item ((List.toArray ks).zip vs.toArray))∧failedOf st' = none∧s' = s1∧p.toList.Perm (List.range vs.length)∧p.toList.Pairwise (wg kz)) hkl (by omega) (by omega) (fun p st' s' _ a2 a3 a4=>⟨p,a2,a3,a4⟩) ask) ?_ fun _ _ e=>e)
   rintro ⟨⟨⟩,st'⟩ s' ⟨p,har,hf,rfl,hp,hu⟩
   dsimp only
   exact lg (p:=p) KJ hz hkD hJ h6 hk hkl hD (kat_snds hkl har) (by rw [hp.length_eq,List.length_range]) hf fun h2' c' hJ' hD'=>h kS _ p.toList c' hz hJ' hp hu hD'
end
end My
namespace My
open PySem PySem.Spec PySem.W PySem.Calls L2
open PyProof.Rows hiding St
def um (X:Cx) (A:Around) (N':List Str) (qual:Str) (scope:Scope) (cl:List (Str×Addr)) (q c':Addr) (s₀:Shared) (H₀:Hp):Cx where
 prog:=X.prog
 w:=X.w
 K:=X.K
 mg:=X.mg
 base:=X.base
 A:=A.deeper (envX qual scope s₀.heap.objs.size q (.ref c') cl)
 N:=N'
 s₀:=s₀
 H₀:=H₀
 env:=envX qual scope s₀.heap.objs.size q (.ref c') cl
 outer:=X.stack
 stack:=envX qual scope s₀.heap.objs.size q (.ref c') cl :: X.stack
 ex:=[]
 fn:=fun _=>false
 calm:=true
 pn:=[]
 xe:=fun _ _=>False
section
variable {X:Cx}{N:List Str}{scope:Scope}{cl:List (Str×Addr)}{x:Str}
theorem Sk {pins:List (Addr×Obj)}{σ:St}{H:Hp}{s:Shared}{A:Around}{qual:Str}{q c':Addr}{h₁:Heap}{tk:Nat}{ixs:List Nat}{v:V}{u:Value} (k:CompOk X [x] N scope cl) (I:Inv X pins σ H s) (hA:A.frames = some X.stack) (hh:A.handled = none)
  (hix:∀ (j:Nat) (i:Nat),ixs[j]? = some i→∃ y,X.N[i]? = some y∧N[j]? = some y) (hlen:ixs.length = N.length) (rv:RelV v u)
  (hns:h₁.Ns s.heap.objs.size fun y=>([(x,u)]:List (Str×Value)).reverse.lookup y) (old:∀ b o,s.heap.get? b = some o→h₁.get? b = some o) :
  Inv (um X A ([x] ++ N) qual scope cl q c' s H) [] (some v :: ixs.map (gv σ)) H { s with heap:=h₁,toks:=tk }:=by
 have noA:∀ b:Addr,b ∉ (um X A ([x] ++ N) qual scope cl q c' s H).ex:=fun b z=>absurd (show b∈([]:List Addr) from z) (by simp)
 refine ⟨⟨I.ok.mod,k.kind,rfl,rfl,Nat.le_refl _,fun y z c h1 h2=>I.ok.inj y z c (k.up h1) (k.up h2),fun y hy=>?_,fun y c h1=>absurd h1 (by simp [um]),fun _=>hh,Around.frames_deeper hA,.inr ⟨rfl,rfl⟩,fun b z=>absurd z (noA b),I.bs,Nat.le_trans I.ok.bsz I.sz,fun b _ _=>noA b,fun b z=>absurd z (noA b),I.stack,I.stkFree⟩,
  rfl,I.bare,Un.kept old,⟨_,hns,fun i y v' h1 h2 h3=>?_⟩,fun y c e=>?_,I.hok.fresh (Nat.le_refl _),fun y c e=>I.freeC y c (k.up e),fun p hp=>absurd hp (by simp [um]),I.hok.kept old,?_⟩
 ·have hy:scope.names.lookup y = some .cell∨scope.names.lookup y = some .free:=hy
  rcases hy with hy | hy
  ·exact absurd rfl (k.nocell _ (PySem.mem_of_lookup hy))
  ·exact k.have_ _ (PySem.mem_of_lookup hy) rfl
 ·cases i with
  | zero =>
   have e1:x = y:=Option.some.inj h1
   have e2:v = v':=Option.some.inj (Option.some.inj h2)
   subst e1
   subst e2
   exact ⟨u,rv,.inl ⟨k.mine x (by simp),by simp⟩⟩
  | succ i =>
   have h1':N[i]? = some y:=by simpa [um] using h1
   have h2':(ixs.map (gv σ))[i]? = some (some v'):=by simpa using h2
   rw [List.getElem?_map] at h2'
   cases e:ixs[i]? with
   | none=>rw [e] at h2';cases h2'
   | some j =>
    rw [e] at h2'
    have h2'':gv σ j = some v':=by simpa using h2'
    obtain ⟨z,hz,hz'⟩:=hix i j e
    rw [h1'] at hz'
    cases hz'
    have hm:=List.mem_of_getElem? h1'
    obtain ⟨m,hn,hl⟩:=I.loc
    obtain ⟨u',ru,l⟩:=hl j y v' hz (ng h2'') (.inr (k.cells y hm))
    refine ⟨u',ru,?_⟩
    rcases l with ⟨l,_⟩ | ⟨_,c,ec,ic⟩
    ·exfalso
     rcases k.cells y hm with z | z <;> (rw [l] at z;cases z)
    ·obtain ⟨c2,ec'⟩:=k.free y hm
     have:c = c2:=Option.some.inj (ec.symm.trans (k.up ec'))
     subst this
     refine .inr ⟨?_,c,ec',?_⟩
     ·rcases k.vis y hm with z | z
      ·exact yk (env:=X.env) z (.inl rfl)
      ·exact yk (env:=X.env) z (.inr rfl)
     ·obtain ⟨o,ho,hd⟩:=ic
      exact ⟨o,old _ _ ho,hd⟩
 ·obtain ⟨v,o,ho,hd⟩:=I.cell y c (k.up e)
  exact ⟨v,o,old _ _ ho,hd⟩
 ·show (some v :: ixs.map (gv σ)).length = ([x] ++ N).length
  simp [hlen]
theorem Ve {pins:List (Addr×Obj)}{σ:St}{H:Hp}{s:Shared}{A:Around}{name qual:Str}{params:Arguments}{body:Expr}{pm ctv:Value}{q c':Addr}{ixs:List Nat}{v:V}{u:Value}{Q:VK}{te:TE} (k:CompOk X [x] N scope cl) (I:Inv X pins σ H s) (hA:A.frames = some X.stack) (hh:A.handled = none) (hroom:A.depth < recursionLimit)
  (hix:ixs.map (fun i=>X.N[i]?) = N.map some) (hq:s.heap.get? q = some (kla_obj name qual params body scope cl pm c' ctv)) (hcd:s.heap.CodeRec (.ref c') qual) (hb:∀ u,bindArgs (kla_fn name qual params body scope cl pm (.ref c') ctv) ⟨[u],[]⟩ = pure [(x,u)])
  (hco:scope.isCoroutine = false) (hgen:scope.isGenerator = false) (rv:RelV v u) (he:PE (um X A ([x] ++ N) qual scope cl q c' s H) body te) (h:te (some v :: ixs.map (gv σ)) H Q) :
  wpAny (model X.prog X.w) A (call (.ref q) [u]) (fun r s'=>CE X.stack X.prog X.w H s Q r s') (fun _ _=>False) s:=by
 refine wpAny_call (kla_callFunE hroom hq rfl hco hgen rfl hcd ?_)
 rw [hb]
 refine wpAny_pure (wpAny_newFunctionEnv k.nocell (fun y hy=>by rw [List.mem_singleton.mp hy];exact k.mine x (by simp)) (fun h₁ hns hsb=>⟨I.nolimit.fresh _ hsb,?_⟩) k.kind)
 show codeAny _ _ (.expr body (envX qual scope s.heap.objs.size q (.ref c') cl)) _ _
 have old:∀ b o,s.heap.get? b = some o→h₁.get? b = some o:=fun b o e=>hsb.extBut b o (Nat.ne_of_lt (Heap.lt_size e)) (Heap.get?_push_of_some _ e)
 refine kla_codeExpr (wpAny_mono (he [] _ _ H Q (Sk k I hA hh (Z5 hix) (jg hix) rv hns old) h) (fun v' s' ⟨y,H',J,r,q'⟩=>?_) fun _ _ z=>False.elim z)
 exact ⟨y,H',J.os,J.bare,J.base,J.hok,r,q'⟩
end
structure fc (base:Heap) (mg:Str→Option Value) (c P:Addr):Prop where
 cd:CodeHd base c P
 bm:∃ bm ob,mg "__builtins__" = some (.ref bm)∧bm≠builtinsNs∧base.get? bm = some ob∧ob.cls = .type "module"∧ob.dict = some builtinsNs∧ob.data = .plain
 np:base.get? P = none
def cdO (c':Addr) (qual:Str):HO:=.ext fun h=>h.CodeRec (.ref c') qual
def j8 (pos:Pos) (c':Addr):Array Value:=#[rawInt pos.line,rawInt pos.col,.ref c']
def TabAt (P:Addr) (pos:Pos) (qual:Str) (H:Hp):Prop:=H P = some (.tbl #[])∨∃ c',H P = some (.tbl (j8 pos c'))∧H c' = some (cdO c' qual)
def SameP (P:Addr) (H H':Hp):Prop:=∀ b o,b≠P→H b = some o→H' b = some o
theorem Pb {Pr:Program}{w:World}{H:Hp}{h:Heap}{c':Addr}{qual:Str} (e:h.CodeRec (.ref c') qual):ObjOk Pr w H h c' (cdO c' qual):=by
 refine ⟨e,?_,fun h1 h2 ⟨c,o,vs,t,e1,e2,r⟩ k=>?_⟩
 ·obtain ⟨c,o,vs,t,e1,e2,r⟩:=e
  cases e1
  exact ⟨o,e2⟩
 ·cases e1
  exact ⟨c',o,vs,t,rfl,k _ e2,r⟩
theorem O2 (pos:Pos) (c':Addr):codeAmong pos (j8 pos c').toList = some (.ref c'):=by
 show (if ((pos.line:Int) == (pos.line:Int) && (pos.col:Int) == (pos.col:Int)) = true then some (Value.ref c') else _) = _
 rw [if_pos (by simp)]
theorem Vf {X:Cx}{pins:List (Addr×Obj)}{σ:St}{H:Hp}{s:Shared}{E:Value→Shared→Prop}{c P:Addr}{pos:Pos}{qual:Str}{params:Arguments}{body:Expr}{scope:Scope}{cl:List (Str×Addr)}{Q:Value→Shared→Prop} (I:Inv X pins σ H s) (hcode:X.env.code = .ref c) (hcl:closureFor scope X.env = pure cl) (hdef:defaultsOf params X.env = ([],[]))
  (hqual:X.env.qual ++ "<lambda>" = qual) (L:fc X.base X.mg c P) (hT:TabAt P pos qual H)
  (h:∀ q c' ctv H' s',Inv X pins σ H' s'→SameP P H H'→H' P = some (.tbl (j8 pos c'))→H' c' = some (cdO c' qual)→H' q = none→s.heap.objs.size≤q→s'.heap.get? q = some (kla_obj "<lambda>" qual params body scope cl ((X.mg "__name__").getD .none) c' ctv)→(∀ b o,b≠P→s.heap.get? b = some o→s'.heap.get? b = some o)→s'.heap.objs.size = q + 1→Q (.ref q) s') :
  wpAny (model X.prog X.w) X.A (eval (.Lambda params body scope pos) X.env) Q E s:=by
 refine kla_eval hdef ?_
 rw [hqual]
 have hg:s.heap.Ns mainGlobals X.mg:=X.base |> fun _=>I.ok.mod.glob.keeps I.bk
 obtain ⟨bm,ob,b1,b2,b3,b4,b5,b6⟩:=L.bm
 have hbG:bm≠mainGlobals:=fun z=>by
  obtain ⟨o,es,ep,e,hd,_⟩:=I.ok.mod.glob
  rw [z,e] at b3;cases b3;rw [hd] at b6;cases b6
 have hbP:bm≠P:=fun z=>by rw [z,L.np] at b3;cases b3
 have hgP:mainGlobals≠P:=fun z=>by
  obtain ⟨o,es,ep,e,_⟩:=I.ok.mod.glob
  rw [z,L.np] at e;cases e
 have hB:s.heap.BuiltinsAt X.mg P:=⟨bm,ob,b1,b2,hbG,hbP,I.bk _ _ b3,b4,b5,b6⟩
 rcases hT with hP | ⟨c',hP,hc'⟩
 ·have hm:s.heap.get? P = some (tabObj #[]):=I.hok P _ hP
  refine kla_makeFunction (mg:=X.mg) hcl I.ok.glob hg hcode (L.cd.keeps I.bk) hm trivial rfl hgP hB fun c' ctv h' tk hx hge hlt hrec htb=>?_
  have htb':h'.get? P = some (tabObj (j8 pos c')):=by simpa [j8] using htb
  have hPs:P < s.heap.objs.size:=Heap.lt_size hm
  have hcP:c'≠P:=Nat.ne_of_gt (Nat.lt_of_lt_of_le hPs hge)
  have hc0:H c' = none:=I.hok.fresh hge
  have keep:∀ b o,b≠P→s.heap.get? b = some o→(h'.push (kla_obj "<lambda>" qual params body scope cl ((X.mg "__name__").getD .none) c' ctv)).get? b = some o:=fun b o hb e=>Heap.get?_push_of_some _ (hx b o hb e)
  have hq0:H h'.objs.size = none:=I.hok.fresh (Nat.le_trans hge (Nat.le_of_lt hlt))
  have at_:∀ b o,b≠P→H b = some o→(upd (upd H c' (cdO c' qual)) P (.tbl (j8 pos c'))) b = some o:=fun b o hb e=>by rw [zk hb,zk (fun z=>by rw [z,hc0] at e;cases e)];exact e
  have nP:∀ b,H b = none→b≠P:=fun b e z=>by rw [z,hP] at e;cases e
  refine h h'.objs.size c' ctv (upd (upd H c' (cdO c' qual)) P (.tbl (j8 pos c'))) _ (Inv.un (t':=tk) I ⟨fun b o e n _ _=>keep b o (nP b n) e,fun b o e n _ _=>⟨o.slots,keep b o (nP b n) e⟩,fun b o e n _=>?_,fun b o e _=>?_,fun b xs e=>at_ b _ (fun z=>?_) e,fun b o u e=>at_ b _ (fun z=>?_) e,fun b ps e=>?_⟩ fun b o e=>?_) (fun b o hb e=>at_ b o hb e) zw (by rw [zk hcP,zw]) ?_ (Nat.le_trans hge (Nat.le_of_lt hlt)) (Heap.get?_push_size _ rfl) keep (Heap.size_push ..)
  ·rw [zk (nP b n),zk (Nat.ne_of_lt (Nat.lt_of_lt_of_le (Heap.lt_size e) hge))];exact n
  ·by_cases z:b = P
   ·exact ⟨_,Heap.get?_push_of_some _ (z ▸ htb')⟩
   ·exact ⟨o,keep b o z e⟩
  ·rw [z,hP] at e;cases e
  ·rw [z,hP] at e;cases e
  ·by_cases z:b = P
   ·subst z
    rw [hP] at e
    cases e
    exact ⟨j8 pos c',by rw [zw];simp⟩
   ·exact ⟨#[],by rw [at_ b _ z e];simp⟩
  ·by_cases z:b = P
   ·subst z
    rw [zw] at e
    cases e
    exact Heap.get?_push_of_some _ htb'
   ·rw [zk z] at e
    by_cases z2:b = c'
    ·subst z2
     rw [zw] at e
     cases e
     exact Pb (hrec.push _)
    ·rw [zk z2] at e
     refine (I.hok b o e).stay (fun c u hc g=>keep c u (fun y=>?_) g) (fun c g=>at_ c _ (fun y=>?_) g) fun c xs g=>at_ c _ (fun y=>?_) g
     ·rcases hc with y2 | y2
      ·exact z (y2.symm.trans y)
      ·rw [y,hP] at y2;cases y2
     ·rw [y,hP] at g;cases g
     ·rw [y,hP] at g;cases g
  ·rw [zk (Nat.ne_of_gt (Nat.lt_of_lt_of_le hPs (Nat.le_trans hge (Nat.le_of_lt hlt)))),zk (Nat.ne_of_gt hlt)]
   exact hq0
 ·have hm:s.heap.get? P = some (tabObj (j8 pos c')):=I.hok P _ hP
  refine kla_makeFunctionHit (mg:=X.mg) hcl I.ok.glob hg hcode (L.cd.keeps I.bk) hm trivial (O2 pos c') hB fun ctv h' tk hk hsz=>?_
  exact h h'.objs.size c' ctv H _ (I.kept (t':=tk) fun b o e=>Heap.get?_push_of_some _ (hk b o e)) (fun _ _ _ e=>e) hP hc' (I.hok.fresh hsz) hsz (Heap.get?_push_size _ rfl) (fun b o _ e=>Heap.get?_push_of_some _ (hk b o e)) (Heap.size_push ..)
end My
namespace My
open PySem PySem.Spec PySem.W PySem.Calls L2
open PyProof.Rows hiding St
structure Xt (X:Cx) (pins:List (Addr×Obj)) (D:Addr):Prop where
 lo:X.s₀.heap.objs.size≤D
 nl:D≠X.env.locals
 nc:∀ x c,X.env.cells.lookup x = some c→c≠D
 np:∀ p∈X.pn ++ pins,p.1≠D
 nf:D ∉ frs X.stack
section
variable {X:Cx}{pins:List (Addr×Obj)}{σ:St}{H:Hp}{s:Shared}{D:Addr}
theorem qj (I:Inv X pins σ H s) (h:s.heap.objs.size≤D):Xt X pins D:=by
 refine ⟨Nat.le_trans I.sz h,Nat.ne_of_gt (Nat.lt_of_lt_of_le I.lt h),fun x c e z=>?_,fun p hp z=>?_,fun hb=>?_⟩
 ·obtain ⟨v,o,ho,_⟩:=I.cell x c e
  exact absurd (Heap.lt_size ho) (by rw [z];exact Nat.not_lt.mpr h)
 ·exact absurd (Heap.lt_size (I.pin p hp).1) (by rw [z];exact Nat.not_lt.mpr h)
 ·obtain ⟨_,o,ho,_⟩:=I.stack.mem hb
  exact absurd (Heap.lt_size ho) (Nat.not_lt.mpr h)
theorem Inv.turned2 {a b:Addr}{h':Heap}{t':Nat} (I:Inv X pins σ H s) (oa:Xt X pins a) (ob:Xt X pins b) (ha:H a = none) (hb:H b = none) (k:∀ c o,c≠a→c≠b→s.heap.get? c = some o→h'.get? c = some o):Inv X pins σ H { s with heap:=h',toks:=t' }:=by
 have n:∀ c u,H c = some u→c≠a∧c≠b:=fun c u e=>⟨(fun z=>by rw [z,ha] at e;cases e),(fun z=>by rw [z,hb] at e;cases e)⟩
 have nm:∀ c,c ∉ [a,b]→c≠a∧c≠b:=fun c hc=>⟨fun z=>hc (by simp [z]),fun z=>hc (by simp [z])⟩
 refine Inv.call (ch:=[a,b]) (g':=s.gens) (d':=s.drawn) I ⟨fun c o e _ _ hx=>k c o (nm c hx).1 (nm c hx).2 e,fun c o e _ _ hx=>⟨o.slots,k c o (nm c hx).1 (nm c hx).2 e⟩,fun _ _ _ e _=>e,fun c o e hx=>⟨o,k c o (nm c hx).1 (nm c hx).2 e⟩,fun _ _ e=>e,fun _ _ _ e=>e,fun c ps e=>⟨#[],by rw [e];simp⟩⟩ (fun c u e=>?_) I.bare fun c hc=>?_
 ·refine (I.hok c u e).stay (fun d v hd q=>?_) (fun _ q=>q) fun _ _ q=>q
  rcases hd with z | z
  ·rw [z] at q ⊢
   exact k c v (n c u e).1 (n c u e).2 q
  ·exact k d v (n d _ z).1 (n d _ z).2 q
 ·rcases List.mem_cons.mp hc with z | z
  ·rw [z];exact ⟨.inr oa.lo,oa.nl,oa.nc,oa.np⟩
  ·rw [List.mem_singleton.mp z];exact ⟨.inr ob.lo,ob.nl,ob.nc,ob.np⟩
theorem Inv.adopt {xs:List V}{its:List Value}{n:Nat} (I:Inv X pins σ H s) (od:Xt X pins D) (hD:H D = none) (hz:xs.length≤sizeLine) (rv:Vals xs its) (e:s.heap.get? D = some (seqObj "list" its.toArray n)):Inv X pins σ (upd H D (.lst xs)) s:=by
 have nD:∀ b u,H b = some u→b≠D:=fun b u e z=>by rw [z,hD] at e;cases e
 have nm:∀ c,c ∉ [D]→c≠D:=fun c hc z=>hc (by simp [z])
 have at_:∀ b u,H b = some u→upd H D (.lst xs) b = some u:=fun b u e=>by rw [zk (nD b u e)];exact e
 have:=Inv.call (ch:=[D]) (h':=s.heap) (g':=s.gens) (d':=s.drawn) (t':=s.toks) (H':=upd H D (.lst xs)) I ⟨fun c o e _ _ _=>e,fun c o e _ _ _=>⟨o.slots,e⟩,fun c o e q hx=>by rw [zk (nm c hx)];exact q,fun c o e _=>⟨o,e⟩,fun b _ e=>at_ b _ e,fun b _ _ e=>at_ b _ e,fun b ps e=>⟨#[],by rw [at_ b _ e];simp⟩⟩ (fun c u q=>?_) I.bare fun c hc=>?_
 ·exact this
 ·by_cases z:c = D
  ·subst z
   rw [zw] at q
   cases q
   exact ⟨hz,its,n,rv,e⟩
  ·rw [zk z] at q
   exact (I.hok c u q).stay (fun _ _ _ g=>g) (fun b g=>at_ b _ g) fun b xs g=>at_ b _ g
 ·rw [List.mem_singleton.mp hc];exact ⟨.inr od.lo,od.nl,od.nc,od.np⟩
end
def Xl (P:Addr) (pos:Pos) (qual:Str) (ixs:List Nat) (te:TE) (ta:TA):TE:=fun σ H Q=>ta σ H (on1 (on fun j H1=>(0≤j∧j≤6)∧TabAt P pos qual H1∧∃ kz:Nat→Int,(∀ (i:Nat) (H2:Hp),i < j.toNat→SameP P H1 H2→te (some (.int (i:Int)) :: ixs.map (gv σ)) H2 fun v H3=>v = .int (kz i)∧Same H2 H3) ∧
 ∀ (p:List Nat) (D:Addr) (H':Hp),p.Perm (List.range j.toNat)→p.Pairwise (wg kz)→SameP P H1 H'→TabAt P pos qual H'→H1 D = none→H' D = some (.lst (p.map fun n=>V.int ((n:Nat):Int)))→Q (.ref D) H'))
section
variable {X:Cx}{N:List Str}{scope:Scope}{cl:List (Str×Addr)}{x:Str}
theorem Sf {pins:List (Addr×Obj)}{σ:St}{H:Hp}{s:Shared}{A:Around}{qual:Str}{params:Arguments}{body:Expr}{pm ctv:Value}{q c' D:Addr}{ixs:List Nat}{te:TE}{vs:List Value}{kz:Nat→Int}{kk:Nat} (k:CompOk X [x] N scope cl) (I:Inv X pins σ H s) (hA:A.frames = some X.stack) (hr:Room (kk + 1) A)
  (hix:ixs.map (fun i=>X.N[i]?) = N.map some) (hq:s.heap.get? q = some (kla_obj "<lambda>" qual params body scope cl pm c' ctv)) (hq0:H q = none) (oq:Xt X pins q) (hc':H c' = some (cdO c' qual)) (hb:∀ ctv u,bindArgs (kla_fn "<lambda>" qual params body scope cl pm (.ref c') ctv) ⟨[u],[]⟩ = pure [(x,u)])
  (hco:scope.isCoroutine = false) (hgen:scope.isGenerator = false) (he:∀ (A:Around) (q c':Addr) (s₀:Shared) (H₀:Hp),Room kk (um X A ([x] ++ N) qual scope cl q c' s₀ H₀).A→PE (um X A ([x] ++ N) qual scope cl q c' s₀ H₀) body te)
  (oD:Xt X pins D) (hD0:H D = none) (hqD:q≠D) (hvs:∀ (i:Nat) (v:Value),vs[i]? = some v→∃ t,v = .int (i:Int) t)
  (hk:∀ (i:Nat) (H2:Hp),i < vs.length→Same H H2→te (some (.int (i:Int)) :: ixs.map (gv σ)) H2 fun v H3=>v = .int (kz i)∧Same H2 H3) :
  Oz X.prog X.w A s D vs (.ref q) kz fun kS i s1=>∃ H2,Inv X pins σ H2 s1∧Same H H2∧H2 D = none∧H2 kS = none∧H2 q = none∧s1.heap.get? q = some (kla_obj "<lambda>" qual params body scope cl pm c' ctv)∧(∃ o,s1.heap.get? D = some o)∧∃ o,s1.heap.get? kS = some o:=by
 have qlt:∀ kS,s.heap.objs.size≤kS→q≠kS:=fun kS h=>Nat.ne_of_lt (Nat.lt_of_lt_of_le (Heap.lt_size hq) h)
 refine ⟨fun kS h1 hk1 hz hd hks=>?_,fun kS i s1 h2 hz ⟨H2,I2,s2,d2,k2,q2,e2,od,ok⟩ hk1 ht=>?_,fun kS i x' s1 hz hx ⟨H2,I2,s2,d2,k2,q2,e2,⟨o1,od⟩,⟨o2,ok⟩⟩=>?_⟩
 ·exact ⟨H,Inv.turned2 (t':=s.toks) I oD oD hD0 hD0 fun c o z _ e=>hk1 c o z e,Same.refl _,hD0,I.hok.fresh hz,hq0,hk1 _ _ hqD hq,hd,hks⟩
 ·obtain ⟨o1,od⟩:=od
  obtain ⟨o2,ok⟩:=ok
  exact ⟨H2,Inv.turned2 (t':=s1.toks) I2 (qj I hz) oD k2 d2 hk1,s2,d2,k2,q2,hk1 _ _ (qlt kS hz) hqD e2,ht _ _ od,ht _ _ ok⟩
 ·have hi:i < vs.length:=(List.getElem?_eq_some_iff.mp hx).1
  obtain ⟨t,rfl⟩:=hvs i x' hx
  have hcd:s1.heap.CodeRec (.ref c') qual:=(I2.hok c' _ (s2 _ _ hc')).1
  refine wpAny_mono (Ve (v:=.int (i:Int)) k I2 hA hr.hd hr.depth hix e2 hcd (hb _) hco hgen ⟨t,rfl⟩ (he A q c' s1 H2 (hr.deeper _)) (hk i H2 hi s2)) (fun u s3 ⟨v,H3,os,bare,un,hok,r,ev,s23⟩=>?_) fun _ _ z=>z
  subst ev
  have oks:=qj I hz
  refine ⟨r,⟨H3,Inv.call' (ch:=[]) I2 os un hok bare (fun b z=>absurd z (by simp)),s2.trans s23,un.free _ _ od d2 (by simp),un.free _ _ ok k2 (by simp),un.free _ _ e2 q2 (by simp),un.keep _ _ e2 q2 oq.nf (by simp),un.there _ _ od (by simp),un.there _ _ ok (by simp)⟩,fun o e=>un.keep _ _ e k2 oks.nf (by simp),fun o e=>un.keep _ _ e d2 oD.nf (by simp)⟩
theorem Su {a:Expr}{ta:TA}{params:Arguments}{body:Expr}{te:TE}{ixs:List Nat}{c P:Addr}{qual:Str}{kk k':Nat}{p1 p2 pos1 pos2 kp lp:Pos} (hc:X.calm = true) (g1:Gl X "sorted") (m1:X.mg "sorted" = none) (g2:Gl X "range") (m2:X.mg "range" = none) (ha:PA X [a] ta) (k:CompOk X [x] N scope cl) (hix:ixs.map (fun i=>X.N[i]?) = N.map some) (hr:Room k' X.A) (hkk:kk + 3≤k')
  (hcode:X.env.code = .ref c) (L:fc X.base X.mg c P) (he:∀ (A:Around) (q c':Addr) (s₀:Shared) (H₀:Hp),Room kk (um X A ([x] ++ N) qual scope cl q c' s₀ H₀).A→PE (um X A ([x] ++ N) qual scope cl q c' s₀ H₀) body te)
  (hb:∀ (pm:Value) (c':Addr) (ctv u:Value),bindArgs (kla_fn "<lambda>" qual params body scope cl pm (.ref c') ctv) ⟨[u],[]⟩ = pure [(x,u)]) (hqual:X.env.qual ++ "<lambda>" = qual:=by rfl) (hdef:defaultsOf params X.env = ([],[]):=by rfl) (hco:scope.isCoroutine = false:=by rfl) (hgen:scope.isGenerator = false:=by rfl)
  (hs:starEach [a] X.env = [(false,eval a X.env)]:=by rfl) (he1:backTo pos1 (starEach [.Call (.Name "range" p2) [a] [] pos2] X.env) = (false,eval (.Call (.Name "range" p2) [a] [] pos2) X.env) :: backTo pos1 (starEach [] X.env):=by rfl)
  (hplain:(backTo pos1 (starEach [.Call (.Name "range" p2) [a] [] pos2] X.env)).any (·.1) = false:=by rfl) :
  PE X (.Call (.Name "sorted" p1) [.Call (.Name "range" p2) [a] [] pos2] [⟨some "key",.Lambda params body scope lp,kp⟩] pos1) (Xl P lp qual ixs te ta):=by
 intro pins s σ H Q I h
 refine wpAny_Call_Name_kw (xb I g1 m1 r8 ?_)
 refine callWith_kw ?_ he1 hplain
 rw [he1]
 refine Calls.spliced_cons ?_
 refine Call_ (xb I g2 m2 boot_range (PyProof.Rows.callWith_type1 (thn (ha pos2 pins s σ H _ I h) fun us s1 ⟨vs,H1,I1,r1,q1⟩=>?_) hs rfl))
 rcases vs with _ | ⟨x1,_ | ⟨y,rr⟩⟩
 ·exact (show False from q1).elim
 ·cases x1 with
  | int j =>
   obtain ⟨⟨q0,q2⟩,hT,kz,hkz,q⟩:=(show (0≤j∧j≤6)∧TabAt P lp qual H1∧∃ kz:Nat→Int,(∀ (i:Nat) (H2:Hp),i < j.toNat→SameP P H1 H2→te (some (.int (i:Int)) :: ixs.map (gv σ)) H2 fun v H3=>v = .int (kz i)∧Same H2 H3) ∧
    ∀ (p:List Nat) (D:Addr) (H':Hp),p.Perm (List.range j.toNat)→p.Pairwise (wg kz)→SameP P H1 H'→TabAt P lp qual H'→H1 D = none→H' D = some (.lst (p.map fun n=>V.int ((n:Nat):Int)))→Q (.ref D) H' from q1)
   cases r1 with
   | cons r rr =>
    cases rr
    obtain ⟨t,rfl⟩:=r
    refine call_range_1 ?_
    refine Calls.spliced_nil ?_
    have I2:Inv X pins σ H1 { s1 with heap:=s1.heap.push { cls:=.type "range",data:=.fields #[.int 0 s1.toks,.int j t,.int 1 (s1.toks + 1)] },toks:=s1.toks + 1 + 1 }:=I1.kept fun b o e=>Heap.get?_push_of_some _ e
    have hn:Builtin.Range.rangeSize 0 j 1 = ((j.toNat:Nat):Int):=by
     rw [rangeSize_one]
     split <;> omega
    refine kws_cons (Vf I2 hcode k.clos hdef hqual L hT fun q' c' ctv H2 s2 I3 sp hP hc' hq0 hqz hq keep hq1=>kws_nil ?_)
    have hPr:P≠s1.heap.objs.size:=fun z=>by
     have:H1 P = none:=I1.hok.fresh (Nat.le_of_eq z.symm)
     rcases hT with e | ⟨_,e,_⟩ <;> (rw [this] at e;cases e)
    have hrng:=keep _ _ (Ne.symm hPr) (Heap.get?_push_size s1.heap (o:={ cls:=.type "range",data:=.fields #[.int 0 s1.toks,.int j t,.int 1 (s1.toks + 1)] }) rfl)
    show wpAny (model X.prog X.w) X.A (call (.builtin "sorted") [.ref s1.heap.objs.size] [(Str.ofString "key",.ref q')]) _ _ s2
    refine call_function_entry_kw kind_sorted plain_sorted entry_sorted (ksk_s1 _ _) ?_
    unfold Builtin.«sorted»
    refine wpAny_bind (m:=checkCount "sorted" 1 1 _) (wpAny_pure ?_)
    refine wpAny_bind (uk (A:=X.A.in1) (I2.ok.hd hc) hrng (small_one (by decide) (by decide) (by omega) (by omega)) hn (by omega) fun h' tk acc kp' hacc=>?_)
    have hal:acc.toList.length = j.toNat:=by have:=hacc.1;simpa using this
    refine wpAny_bind (wpAny_newList ?_ (by rw [sizeLine_eq];omega))
    have hle:s2.heap.objs.size≤h'.objs.size:=by rw [hq1];exact Heap.lt_size (kp' _ _ hq)
    have kp2:∀ b o,s2.heap.get? b = some o→(h'.push (seqObj "list" acc.toList.toArray 0)).get? b = some o:=fun b o e=>Heap.get?_push_of_some _ (kp' b o e)
    have hoD:(h'.push (seqObj "list" acc.toList.toArray 0)).get? h'.objs.size = some (seqObj "list" acc.toList.toArray 0):=Heap.get?_push_size _ rfl
    have I4:Inv X pins σ H2 { s2 with heap:=h'.push (seqObj "list" acc.toList.toArray 0),toks:=tk }:=I3.kept (t':=tk) kp2
    have oD:=qj I3 hle
    have hD2:H2 h'.objs.size = none:=I3.hok.fresh hle
    have hD1:H1 h'.objs.size = none:=by
     cases e:H1 h'.objs.size with
     | none=>rfl
     | some o =>
      have:h'.objs.size≠P:=fun z=>by
       rw [z,hP] at hD2
       cases hD2
      rw [sp _ _ this e] at hD2
      cases hD2
    have oq:=qj I2 hqz
    have hR:Room (kk + 1) X.A.in1.in1:=(hr.mono (j:=kk + 1 + 1 + 1) (by omega)).in1.in1
    have hvs:∀ (i:Nat) (v:Value),acc.toList[i]? = some v→∃ t,v = .int (i:Int) t:=fun i v hv=>by
     obtain ⟨t,e⟩:=hacc.2 i v (by rw [← Array.getElem?_toList];exact hv)
     refine ⟨t,?_⟩
     rw [e]
     congr 1
     omega
    refine wpAny_bind (wpAny_holding (wpAny_call_entry_kw slot_list_sort ⟨_,hoD,rfl⟩ entry_list_sort ?body (ksk_l1 _ _)))
    case body =>
     show wpAny (model X.prog X.w) X.A.in1.in1 (Builtin.«list.sort» ⟨[.ref h'.objs.size],[(Str.ofString "key",.ref q')]⟩) _ _ _
     rw [ksk_t1]
     refine d0 (Sf (kz:=kz) k I4 I4.ok.frames hR hix (kp2 _ _ hq) hq0 oq hc' (hb _ _) hco hgen he oD hD2 (Nat.ne_of_lt (Heap.lt_size (kp' _ _ hq))) hvs fun i H5 hi s5=>hkz i H5 (by omega) fun b o hb e=>s5 b o (sp b o hb e)) (by omega) hoD fun kS s5 p cc hz ⟨H5,I5,s25,d5,_,_,_,_,_⟩ hp hs5 hD5=>⟨_,rfl,?_⟩
     rw [hal] at hp
     have rv:Vals (p.map fun n=>V.int ((n:Nat):Int)) (p.map fun i=>acc.toList.getD i Value.none):=by
      have hlt:∀ i∈p,i < acc.toList.length:=fun i hi=>by rw [hal];exact List.mem_range.mp (hp.mem_iff.mp hi)
      clear hp hs5 hD5
      induction p with
      | nil=>exact .nil
      | cons i p ih =>
       refine .cons ?_ (ih fun z hz=>hlt z (List.mem_cons_of_mem _ hz))
       have hi:=hlt i List.mem_cons_self
       obtain ⟨t,e⟩:=hvs i acc.toList[i] (List.getElem?_eq_getElem hi)
       refine ⟨t,?_⟩
       show acc.toList.getD i Value.none = _
       rw [List.getD_eq_getElem?_getD,List.getElem?_eq_getElem hi]
       exact e
     have hpl:p.length = j.toNat:=by rw [hp.length_eq,List.length_range]
     have I6:=Inv.adopt (xs:=p.map fun n=>V.int ((n:Nat):Int)) I5 oD d5 (by rw [List.length_map,sizeLine_eq];omega) rv hD5
     refine wpAny_pure ⟨_,rfl,.ref h'.objs.size,_,I6,rfl,q p h'.objs.size _ hp hs5 (fun b o hb e=>?_) ?_ hD1 zw⟩
     ·have e2:=s25 b o (sp b o hb e)
      rw [zk fun z=>by rw [z,d5] at e2;cases e2]
      exact e2
     ·have e1:=s25 _ _ hP
      have e2:=s25 _ _ hc'
      refine .inr ⟨c',?_,?_⟩
      ·rw [zk fun z=>by rw [z,d5] at e1;cases e1]
       exact e1
      ·rw [zk fun z=>by rw [z,d5] at e2;cases e2]
       exact e2
  | _=>exact (show False from q1).elim
 ·exact (show False from q1).elim
end
end My
namespace My
open PySem PySem.Spec PySem.W PySem.Calls L2
open PyProof.Rows hiding St
theorem Yh {Pr:Program}{w:World}{K:Frag}{mg mb:Str→Option Value}{k:Nat}{fa a c P:Addr}{fd:FuncData}{x:Str}{sp:Sp}{s₁:Shared}{vs:List Value}{ns:List Int}
  (KX:K.In s₁.heap) (hns:s₁.heap.Ns mainGlobals mg) (hb:s₁.heap.Ns builtinsNs mb) (hbb:∀ x:Str,x≠"__name__"→mb x = bootBuiltins x) (hlim:s₁.heap.NoLimit) (hg:s₁.gens = #[])
  (ha:s₁.heap.get? a = some { cls:=.type "list",data:=.seq vs.toArray }) (hi:IntsAre vs ns) (hl:ns.length≤sizeLine) (hr:Room k callerA)
  (hC:CodeHd s₁.heap c P) (hP:s₁.heap.get? P = some (tabObj #[])) (hKP:K.lookup P = none) (hbm:∃ bm ob,mg "__builtins__" = some (.ref bm)∧bm≠builtinsNs∧s₁.heap.get? bm = some ob∧ob.cls = .type "module"∧ob.dict = some builtinsNs∧ob.data = .plain)
  (F:∀ base:Heap,K.In base→base.Ns mainGlobals mg→fc base mg c P→FnOk Pr w K mg base CX0 k fa fd [x] sp) (hbind:∀ (s:Shared) (u:Value),BindsTo s fd ⟨[u],[]⟩ [(x,u)])
  (hsp:∀ H:Hp,H P = some (.tbl #[])→SqL K H a (ns.map V.int)→sp [.ref a] H (fun v _=>v = .bl true) fun _ _ _=>False) :
  codeAny (model Pr w) callerA (.call (.ref fa) ⟨[.ref a],[]⟩) (fun r s'=>r = .ok (.ret (.bool true))∧OldK s₁.heap s'.heap∧s'.os = s₁.os∧AllBare s'.gens) s₁:=by
 have rv:=l3 hi
 have lenV:=hi.length
 have haP:a≠P:=fun z=>by rw [z,hP] at ha;cases ha
 have core:∀ H:Hp,H P = some (.tbl #[])→(∀ b,b≠P→H b = none∨∃ o xs,H b = some (.frz o (.lst xs)))→SqL K H a (ns.map V.int)→HOk Pr w H s₁.heap→(∀ b,H b≠none→b = a∨b = P)→(H a≠none→K.lookup a = none) →
   codeAny (model Pr w) callerA (.call (.ref fa) ⟨[.ref a],[]⟩) (fun r s'=>r = .ok (.ret (.bool true))∧OldK s₁.heap s'.heap∧s'.os = s₁.os∧AllBare s'.gens) s₁:=by
  intro H hHP hO hS hok hA hK
  have base_of:∀ {b:Addr}{o:Obj},s₁.heap.get? b = some o→H b = none→(nh s₁.heap H).get? b = some o:=fun e n=>U7 e n
  have noA:∀ {b:Addr}{o:Obj},s₁.heap.get? b = some o→(∀ xs n,o.data≠.seq xs n)→o.cls≠.none→H b = none:=fun {b o} e d d2=>by
   cases q:H b with
   | none=>rfl
   | some u =>
    rcases hA b (by rw [q];simp) with e' | e'
    ·subst e'
     rw [ha] at e;cases e
     exact absurd rfl (d _ _)
    ·subst e'
     rw [hP] at e;cases e
     exact absurd rfl d2
  have nsK:∀ {b:Addr}{m:Str→Option Value},s₁.heap.Ns b m→(nh s₁.heap H).Ns b m:=fun {b m} ⟨o,es,ep,e,d,r⟩=>⟨o,es,ep,base_of e (by
   cases q:H b with
   | none=>rfl
   | some u =>
    rcases hA b (by rw [q];simp) with e' | e'
    ·subst e';rw [ha] at e;cases e;cases d
    ·subst e';rw [hP] at e;cases e;cases d),d,r⟩
  have hKb:K.In (nh s₁.heap H):=fun b o e=>base_of (KX b o e) (by
   cases q:H b with
   | none=>rfl
   | some u =>
    rcases hA b (by rw [q];simp) with e' | e'
    ·subst e'
     rw [hK (by rw [q];simp)] at e;cases e
    ·subst e'
     rw [hKP] at e;cases e)
  have hM:Mod K mg (nh s₁.heap H):=⟨hKb,nsK hns,⟨mb,nsK hb,hbb⟩,let ⟨mc,h1,h2⟩:=hlim;⟨mc,nsK h1,h2⟩⟩
  have hL:fc (nh s₁.heap H) mg c P:=by
   refine ⟨?_,?_,?_⟩
   ·obtain ⟨o,vs,file,tf,flags,tg,inF,text,tt,e1,r1,r2,r⟩:=hC
    exact ⟨o,vs,file,tf,flags,tg,inF,text,tt,base_of e1 (noA e1 (fun xs n z=>by rw [r2] at z;cases z) (fun z=>by rw [r1] at z;cases z)),r1,r2,r⟩
   ·obtain ⟨bm,ob,h1,h2,h3,h4,h5,h6⟩:=hbm
    exact ⟨bm,ob,h1,h2,base_of h3 (noA h3 (fun xs n z=>by rw [h6] at z;cases z) (fun z=>by rw [h4] at z;cases z)),h4,h5,h6⟩
   ·cases q:(nh s₁.heap H).get? P with
    | none=>rfl
    | some o=>have:=(aa q).2;rw [hHP] at this;cases this
  have e0:Env0 Pr w K mg (nh s₁.heap H) callerA [] s₁ H:=⟨rfl,hM,fun b o e=>aa e,Nat.le_of_eq (X8 _ _),trivial,fun b hb=>absurd (show b∈([]:List Addr) from hb) (by simp),hok,.of_eq hg⟩
  refine codeAny_mono ((F _ hKb (nsK hns) hL).run callerA [] s₁ H ⟨[.ref a],[]⟩ [.ref a] [.ref a] _ _ hr e0 (hbind s₁ (.ref a)) (.cons rfl .nil) (hsp H hHP hS)) fun r s' h=>?_
  cases r with
  | error e=>exact False.elim h
  | ok fl =>
   cases fl with
   | next=>exact False.elim h
   | brk=>exact False.elim h
   | cont=>exact False.elim h
   | ret u =>
    obtain ⟨v,H',os,bare,un,hok',r',q⟩:=h
    have q':v = .bl true:=q
    subst q'
    obtain rfl:u = Value.bool true:=r'
    obtain ⟨more,eP⟩:=un.tbls P _ hHP
    have hP':s'.heap.get? P = some (tabObj (#[] ++ more)):=hok' P _ eP
    have keep:∀ b o,b≠P→s₁.heap.get? b = some o→s'.heap.get? b = some o:=fun b o hb e=>by
     rcases hO b hb with z | ⟨ob,xs,z⟩
     ·exact un.keep b o e z (by intro z;exact absurd (show b∈([]:List Addr) from z) (by simp)) (by simp)
     ·have z2:=un.frzs b ob _ z
      obtain ⟨e1,_⟩:=hok b _ z
      obtain ⟨e2,_⟩:=hok' b _ z2
      rw [e] at e1;cases e1
      exact e2
    refine ⟨rfl,⟨fun b o e=>?_,fun b o e=>?_⟩,os,bare⟩
    ·by_cases hb:b = P
     ·subst hb
      rw [hP] at e
      cases e
      exact .inr (.inl ⟨(hC.tab hP).isCodeTable,rfl,#[],more,rfl,hP'⟩)
     ·exact .inl (keep b o hb e)
    ·by_cases hb:b = P
     ·subst hb
      exact ⟨_,hP'⟩
     ·exact ⟨o,keep b o hb e⟩
 cases hk:K.lookup a with
 | some o =>
  have e:=KX a o hk
  rw [ha] at e
  cases e
  refine core (fun b=>if b = P then some (.tbl #[]) else none) (if_pos rfl) (fun b hb=>.inl (if_neg hb)) (.inr ⟨_,vs.toArray,_,hk,rfl,rfl,rfl,by rw [List.size_toArray,lenV];exact hl,by simpa using rv⟩) (fun b u z=>?_) (fun b z=>?_) fun z=>absurd (if_neg haP) z
  ·by_cases hb:b = P
   ·have z':=(if_pos hb).symm.trans z
    cases z'
    subst hb
    exact hP
   ·have z':=(if_neg hb).symm.trans z
    cases z'
  ·by_cases hb:b = P
   ·exact .inr hb
   ·exact absurd (if_neg hb) z
 | none =>
  obtain ⟨H,g1,g2,g3⟩:∃ H:Hp,H P = some (.tbl #[])∧H a = some (.frz { cls:=.type "list",data:=.seq vs.toArray } (.lst (ns.map V.int)))∧∀ b,b≠P→b≠a→H b = none :=
   ⟨fun b=>if b = P then some (.tbl #[]) else if b = a then some (.frz { cls:=.type "list",data:=.seq vs.toArray } (.lst (ns.map V.int))) else none,if_pos rfl,(if_neg haP).trans (if_pos rfl),fun b z y=>(if_neg z).trans (if_neg y)⟩
  refine core H g1 (fun b hb=>?_) (.inl (.inr ⟨_,g2⟩)) (fun b u z=>?_) (fun b z=>?_) fun _=>hk
  ·by_cases hb2:b = a
   ·exact .inr ⟨_,_,hb2 ▸ g2⟩
   ·exact .inl (g3 b hb hb2)
  ·by_cases hb:b = P
   ·subst hb
    rw [g1] at z
    cases z
    exact hP
   ·by_cases hb2:b = a
    ·subst hb2
     rw [g2] at z
     cases z
     exact ⟨ha,by rw [List.length_map];exact hl,vs,_,rv,ha⟩
    ·rw [g3 b hb hb2] at z
     cases z
  ·by_cases hb:b = P
   ·exact .inr hb
   ·by_cases hb2:b = a
    ·exact .inl hb2
    ·exact absurd (g3 b hb hb2) z
theorem Xq {l:OpenLaw}{n k:Nat}{q:Program}{loose:List Str}{XP:(Str→Option Value)→Heap→Prop}{YP:World→Heap→Prop}{d d':DefRec}{K:Params→Frag}{sp:World→Addr→Sp}{x y:Str}
  (hn:l.most = some n) (hn2:n≤sizeLine) (hdf:d.params.defaults = []) (hr:Room k callerA)
  (hY:∀ (w:World) (h:Heap),YP w h→(K w.params).In h) (hrec:(recsOf q).find? (fun e=>e.name == y) = some d')
  (F:∀ (w:World) (mg:Str→Option Value) (fa:Addr) (h:Heap),(K w.params).In h→h.Ns mainGlobals mg→mg d.name = some (.ref fa) →
   ∃ (fd:FuncData) (c P:Addr),(∀ (s:Shared) (u:Value),BindsTo s fd ⟨[u],[]⟩ [(x,u)])∧tabIn (K w.params) y = some (c,P)∧(K w.params).lookup P = none ∧
    ∀ base:Heap,(K w.params).In base→base.Ns mainGlobals mg→fc base mg c P→FnOk l.prog w (K w.params) mg base CX0 k fa fd [x] (sp w P))
  (hsp:∀ (w:World) (P:Addr) (H:Hp) (a:Addr) (ns:List Int),ns.length≤n→H P = some (.tbl #[])→SqL (K w.params) H a (ns.map V.int)→sp w P [.ref a] H (fun v _=>v = .bl true) fun _ _ _=>False) :
  WalkO q loose XP YP l.row.toRowW d [] (fun f vs=>PySem.call f vs):=by
 refine Att.attach_call hn hdf fun w s₀ s₁ mg mb fa o pm cd doc a vs ns G Y ho hd hcd hmg hobj hints hlen hg=>?_
 have KX:=hY w _ Y
 obtain ⟨fd,c,P,hb,ht,hKP,hF⟩:=F w mg fa _ KX G.T.g hmg
 obtain ⟨hC,hP⟩:=tab_of G.T KX hrec ht
 exact Yh KX G.T.g G.T.b G.T.builtins G.T.nolimit hg hobj hints (Nat.le_trans hlen hn2) hr hC hP hKP G.T.bmain hF hb fun H hH hS=>hsp w P H a ns hlen hH hS
end My
namespace My
open PySem PySem.Spec PySem.W PySem.Calls L2
open PyProof.Rows hiding St
section
variable {K:Frag}{P:Addr}{pos:Pos}{qual:Str}{H H' H2:Hp}{b:Addr}{o:HO}
theorem TabAt.ne (t:TabAt P pos qual H) (e:H b = some o) (h:∀ ps,o≠.tbl ps):b≠P:=fun z=>by
 rcases t with t | ⟨_,t,_⟩ <;> (rw [z,t] at e;exact h _ (Option.some.inj e).symm)
theorem we (s:Same H H'):SameP P H H':=fun b o _ e=>s b o e
theorem SameP.trans (a:SameP P H H') (c:SameP P H' H2):SameP P H H2:=fun b o n e=>c b o n (a b o n e)
theorem TabAt.same (t:TabAt P pos qual H) (s:Same H H'):TabAt P pos qual H':=by
 rcases t with t | ⟨c,t,u⟩
 ·exact .inl (s _ _ t)
 ·exact .inr ⟨c,s _ _ t,s _ _ u⟩
theorem yy (t:TabAt P pos qual H) (s:SameP P H H') (e:H b = some o) (h:∀ ps,o≠.tbl ps:=by intro _ z;cases z):H' b = some o:=s b o (t.ne e h) e
theorem yw (t:TabAt P pos qual H) (s:SameP P H H'):Tups H H':=⟨fun b xs e=>yy t s e,fun b o u e=>yy t s e⟩
theorem Xf {a:Addr}{xs:List V} (t:TabAt P pos qual H) (s:SameP P H H') (h:SqL K H a xs):SqL K H' a xs:=by
 rcases h with h | h
 ·rcases h with h | ⟨o,h⟩
  ·exact .inl (.inl (yy t s h))
  ·exact .inl (.inr ⟨o,yy t s h⟩)
 ·exact .inr h
end
structure DefL (K:Frag) (mg:Str→Option Value) (x:Str) (st:Stmt) (ps:List Str) (c:Addr):Prop where
 ex:∃ (f:Addr) (oc:Value) (od:Option Addr) (kV doc pm:Value) (an:Option Addr) (ct:Value) (osl:Array (Option Value)),K.lookup f = some ⟨oc,od,.func (fnOf x x (zg st) (zm st) (z4 st) .none kV doc pm an (.ref c) ct),osl⟩∧codeIn K (.ref c) x = true∧keepIn K (.ref f) = true∧mg x = some (.ref f) ∧
  ∀ us:List Value,us.length = ps.length→bindArgs (fnOf x x (zg st) (zm st) (z4 st) .none kV doc pm an (.ref c) ct) ⟨us,[]⟩ = pure (ps.zip us)
theorem DefL.callee {P:Program}{w:World}{K:Frag}{mg:Str→Option Value}{base:Heap}{x:Str}{st:Stmt}{N ps:List Str}{k:Nat}{sp:Sp}{c:Addr} (F:DefL K mg x st ps c) (S:zu N ps (z4 st)) (len:∀ vs H Q E,sp vs H Q E→vs.length = ps.length)
  (hbody:∀ (f:Addr) (A:Around) (outer:List Env) (s:Shared) (H:Hp) (vs:List V) (Q:VK) (E:XK),Room k (A.deeper (envOfC x (z4 st) s.heap.objs.size f (.ref c)))→sp vs H Q E →
   ∃ σ t,wf N vs = σ∧PSs (sf CX0 P w K mg base N x (z4 st) f (.ref c) A outer s H E).nox (zm st) t∧t { nx:=fun _ H'=>Q .non H',rt:=Q } σ H):zx P w K mg base (k + 1) x ps sp:=by
 obtain ⟨f,oc,od,kV,doc,pm,an,ct,osl,lk,hcd,kp,hm,hb⟩:=F.ex
 refine ⟨f,_,Zz lk hcd S len fun A outer s H vs Q E hr hsp=>?_,.all hb,kp,hm⟩
 obtain ⟨σ,t,e,h,q⟩:=hbody f A outer s H vs Q E hr hsp
 exact ⟨t,h.nox,by rw [e];exact q⟩
theorem R9 {K:Frag}{mg:Str→Option Value}{h:Heap}{x:Str}{st:Stmt}{ps:List Str}{f c:Addr}{oc:Value}{od an:Option Addr}{osl:Array (Option Value)}{kV doc pm cdv ct:Value} (X:K.In h) (G:h.Ns mainGlobals mg)
  (a:nsIn K mainGlobals x = some (some (.ref f))) (l:K.lookup f = some ⟨oc,od,.func (fnOf x x (zg st) (zm st) (z4 st) .none kV doc pm an cdv ct),osl⟩)
  (cc:codeIn K cdv x = true) (k:keepIn K (.ref f) = true) (hc:cdv = .ref c)
  (hb:∀ (kV doc pm:Value) (an:Option Addr) (cdv ct:Value) (us:List Value),us.length = ps.length→bindArgs (fnOf x x (zg st) (zm st) (z4 st) .none kV doc pm an cdv ct) ⟨us,[]⟩ = pure (ps.zip us)):DefL K mg x st ps c:=by
 subst hc
 exact ⟨f,oc,od,kV,doc,pm,an,ct,osl,l,cc,k,mg_of X G a,hb kV doc pm an _ ct⟩
theorem ae {X:Cx}{e:Expr}{t u:TE} (a:PE X e t) (b:PE X e u):PE X e (fun σ H Q=>t σ H Q∨u σ H Q):=fun pins s σ H Q I h=>by
 rcases h with h | h
 ·exact a pins s σ H Q I h
 ·exact b pins s σ H Q I h
def Pn (st:Stmt):Pos:=match zm st with
 | [.Return (some (.Call _ [.Call _ _ [⟨_,.Lambda _ _ _ p,_⟩] _] _ _)) _]=>p
 | _=>⟨0,0,0,0⟩
end My
namespace My
open PySem PySem.Spec PySem.W PySem.Calls L2
open PyProof.Rows hiding St
structure DefN (K:Frag) (C:Addr) (qual:Str) (st:Stmt) (ps:List Str) (ds:List Value):Prop where
 ex:∃ (f:Addr) (oc:Value) (od:Option Addr) (dV kV doc pm:Value) (an:Option Addr) (cdv ct:Value) (osl:Array (Option Value)),K.lookup f = some ⟨oc,od,.func (fnOf "__init__" qual (zg st) (zm st) (z4 st) dV kV doc pm an cdv ct),osl⟩∧codeIn K cdv qual = true∧Mk K C f ∧
  Binds K (fnOf "__init__" qual (zg st) (zm st) (z4 st) dV kV doc pm an cdv ct) ps []∧Binds K (fnOf "__init__" qual (zg st) (zm st) (z4 st) dV kV doc pm an cdv ct) ps ds
structure qc (P:Program) (w:World) (K:Frag) (mg:Str→Option Value) (base:Heap) (k:Nat) (C:Addr) (ps:List Str) (ds:List Value) (sp:Sp):Prop where
 ex:∃ (f:Addr) (fd:FuncData),FnOk P w K mg base CX0 k f fd ps sp∧Binds K fd ps []∧Binds K fd ps ds∧Mk K C f
theorem DefN.callee {P:Program}{w:World}{K:Frag}{mg:Str→Option Value}{base:Heap}{C:Addr}{qual:Str}{st:Stmt}{N ps:List Str}{ds:List Value}{k:Nat}{sp:Sp} (F:DefN K C qual st ps ds) (S:zu N ps (z4 st)) (len:∀ vs H Q E,sp vs H Q E→vs.length = ps.length)
  (hbody:∀ (f:Addr) (cdv:Value) (A:Around) (outer:List Env) (s:Shared) (H:Hp) (vs:List V) (Q:VK) (E:XK),Room k (A.deeper (envOfC qual (z4 st) s.heap.objs.size f cdv))→sp vs H Q E →
   ∃ σ t,wf N vs = σ∧PSs (sf CX0 P w K mg base N qual (z4 st) f cdv A outer s H E).nox (zm st) t∧t { nx:=fun _ H'=>Q .non H',rt:=Q } σ H):qc P w K mg base (k + 1) C ps ds sp:=by
 obtain ⟨f,oc,od,dV,kV,doc,pm,an,cdv,ct,osl,lk,hcd,M,b0,b1⟩:=F.ex
 refine ⟨f,_,Zz lk hcd S len fun A outer s H vs Q E hr hsp=>?_,b0,b1,M⟩
 obtain ⟨σ,t,e,h,q⟩:=hbody f cdv A outer s H vs Q E hr hsp
 exact ⟨t,h.nox,by rw [e];exact q⟩
section
variable {X:Cx}{C:Addr}{x:Str}{k k':Nat}{ps:List Str}{ds:List Value}{dvs:List V}{sp:Sp}{t:TA}{e:Expr}{es:List Expr}{p pos:Pos}
theorem Ss (C':qc X.prog X.w X.K X.mg X.base k C ps ds sp) (hd:Vals dvs ds) (hr:Room k' X.A) (hk:k + 1≤k') (hm:X.mg x = some (.ref C)) (hg:Gl X x:=by rfl) (hdb:(x == ("__debug__":Str)) = false:=by decide) :
  PE X (.Call (.Name x p) [] [] pos) (Xh C sp dvs E0 Ua):=by
 obtain ⟨f,fd,F,_,b,M⟩:=C'.ex
 exact Wi M F (hr.mono hk) hg hm b hd Wf hdb
end
theorem Sa {K:Frag}{C:Addr}{qual:Str}{st:Stmt}{ps:List Str}{ds:List Value}{f:Addr}{oc dV:Value}{od an:Option Addr}{osl:Array (Option Value)}{kV doc pm cdv ct:Value}
  (a:findIn K (.ref C) "__init__" = some (some (.ref f))) (l:K.lookup f = some ⟨oc,od,.func (fnOf "__init__" qual (zg st) (zm st) (z4 st) dV kV doc pm an cdv ct),osl⟩)
  (c:codeIn K cdv qual = true) (fn:isFn K (.ref f) = true) (mk:makesIn K C = true) (kp:keepIn K (.ref C) = true)
  (b0:Binds K (fnOf "__init__" qual (zg st) (zm st) (z4 st) dV kV doc pm an cdv ct) ps []) (b1:Binds K (fnOf "__init__" qual (zg st) (zm st) (z4 st) dV kV doc pm an cdv ct) ps ds):DefN K C qual st ps ds :=
 ⟨f,oc,od,dV,kV,doc,pm,an,cdv,ct,osl,l,c,⟨mk,a,fn,kp⟩,b0,b1⟩
end My
namespace Kx
open PySem PySem.Spec L2 My
open PyProof.Rows hiding St
def top (i:Nat):Stmt:=PySem.Challenge.pw_manyjudges_k51_by_strength_keeps.main.body.getD i (.Pass ⟨0,0,0,0⟩)
theorem Ot {t u:TS}{D:ur}{σ:L2.St}{H:Hp} (h:t { D with nx:=u D } σ H):Xk t u D σ H:=h
end Kx
namespace Kx
open PySem PySem.Spec L2 My
open PyProof.Rows hiding St
set_option compiler.extract_closed false
local macro_rules | `(tactic| walk_at "r1")=>`(tactic| first | dsimp only [Ow,Xl,Os,Xh,Xi,Oy,Ru,Q7,Ov,mV,gv,sv,M7,mG,tOp,tC,Rt,Ua,Xg,tCB,Ro,a8,tSl,M9,M4,mB,Rk,M5,Rn,Mc,tOr,Ox,tIf,mBM,Lu,Mr,iR1,iEn,Vp,Mw,Ps,rq,iR2,S9,iZp,P2,tSI,tDG,tLR,Qo,Qz,Rg,Ms,Qy,Oj,Qx,S8,Wc,Wd,P1,Ql,Qn,Qm,L4,N5,N2,N1,N4,Qt,Qr,Qp,Qs,Qq,N3,N6,Oc,Ob,L5,Oa,N9,Oi,Oh,Qw,Qv,Ws,Tp,N8,Nz,Qu,Of,Od,Oe,N7,N0,L3,M3,tSS,L6,mn,lu,mDN,Zf,Sc,Og,mG2,List.map_cons,List.map_nil,id,Ll,Lk,decide_true,decide_false,Bool.not_true,Bool.not_false,if_true,if_false,ite_true,ite_false,reduceIte] | simp only [List.map_cons,List.map_nil,w01,w02,w03,w04,w10,w12,w13,w14,w20,w21,w23,w24,w30,w31,w32,w34,w40,w41,w42,w43,List.append_nil,decide_true,decide_false,Bool.not_true,Bool.not_false,if_true,if_false,Bool.false_eq_true,ite_true,ite_false,reduceIte])
local macro_rules | `(tactic| walk_at "rd")=>`(tactic| (repeat (first | dsimp only [Xk,Xj] | walk_at "r1"));try dsimp only)
local macro_rules | `(tactic| walk_at "rs")=>`(tactic| (repeat (walk_at "r1"));try dsimp only)
local macro_rules | `(tactic| walk_at "rp")=>`(tactic| (repeat (first | with_reducible refine Ot ?_ | dsimp only [Xj] | walk_at "r1"));try dsimp only)
section
variable {P:Program}{w:World}{K:PySem.W.Frag}{mg:Str→Option Value}{base:Heap}
def Ou (K:PySem.W.Frag) (n:Nat):Sp:=fun vs H Q _=>∃ (v:V) (h:Addr) (s:Say) (hs:List Str),vs = [v,.ref h]∧SayAt K H v s∧s.pieces≤n∧SqT K H h (hs.map V.str)∧Q (.bl (s.so hs)) H
theorem sc_is_so:zu ["saying","held","kind","one","other"] ["saying","held"] (z4 (top 7)):=⟨rfl,rfl,rfl,by decide +kernel,rfl,by decide +kernel,by decide +kernel⟩
theorem gy (D:Def K mg "is_so" (top 7) ["saying","held"]):∀ n:Nat,zx P w K mg base n "is_so" ["saying","held"] (Ou K n)
 | 0=>xk D fun vs H Q E h=>by
  obtain ⟨v,h,s,hs,_,_,hp,_⟩:=h
  exact absurd s.pieces_pos (by omega)
 | n + 1=>by
  have C_is_so:=gy D n
  refine D.callee sc_is_so (fun vs H Q E h=>?_) fun f cdv A outer s H vs Q E hr h=>?_
  ·obtain ⟨v,h,s,hs,rfl,_⟩:=h
   rfl
  have nd:=sc_is_so.nd
  obtain ⟨v,h,s,hs,rfl,hv,hp,hh,q⟩:=h
  refine ⟨[some v,some (.ref h),none,none,none],_,rfl,(z5 (zo 2 nd (yu (z8 0) zz (fun _ _=>rfl)))
  (z5 (yr (zd (wx hr.units) (z8 2) yz (zh _)) (zy (zr (vv Na (yu (z8 0) zz (fun _ _=>rfl)) (z8 1) (by with_unfolding_all rfl)))) zi)
  (z5 (yr (zd (wx hr.units) (z8 2) yz (zh _)) (zy (zr (gl (zv C_is_so hr (by omega) (z9 (yu (z8 0) zz (fun _ _=>rfl)) (z9 (z8 1) z6)))))) zi)
  (z5 (zo 3 nd (zv C_is_so hr (by omega) (z9 (yu (z8 0) zz (fun _ _=>rfl)) (z9 (z8 1) z6))))
  (z5 (zo 4 nd (zv C_is_so hr (by omega) (z9 (yu (z8 0) zz (fun _ _=>rfl)) (z9 (z8 1) z6))))
  (z5 (yr (zd (wx hr.units) (z8 2) yz (zh _)) (zy (zr (Rp (z8 3) (jr (z8 4))))) zi)
  (z5 (yr (zd (wx hr.units) (z8 2) yz (zh _)) (zy (zr (Nh (z8 3) (jr (z8 4))))) zi)
  (zy (zr (Nh (gl (z8 3)) (jr (z8 4)))))))))))),?_⟩
  cases s with
  | letter x =>
   obtain ⟨a,rfl,ha⟩:=hv
   walk_at "rp"
   refine ⟨_,_,.inr ha,rfl,?_⟩
   walk_at "rp"
   refine ⟨_,_,.inr ha,rfl,?_⟩
   walk_at "rp"
   refine ⟨_,.inr hh,rfl,fk hs,?_⟩
   rw [Z3]
   exact q
  | neg t =>
   obtain ⟨a,u,rfl,ha,ht⟩:=hv
   walk_at "rp"
   refine ⟨_,_,.inr ha,rfl,?_⟩
   walk_at "rp"
   refine ⟨_,_,.inr ha,rfl,?_⟩
   walk_at "rp"
   exact ⟨u,h,t,hs,rfl,ht,by have:=hp;simp only [Say.pieces] at this;omega,hh,q⟩
  | bin o t t' =>
   obtain ⟨a,u,u',rfl,ha,ht,ht'⟩:=hv
   have p1:t.pieces≤n∧t'.pieces≤n:=by have:=hp;simp only [Say.pieces] at this;omega
   cases o <;>
   ·dsimp only [Op2.word] at ha
    walk_at "rp"
    refine ⟨_,_,.inr ha,rfl,?_⟩
    walk_at "rp"
    refine ⟨_,_,.inr ha,rfl,?_⟩
    walk_at "rp"
    refine ⟨u,h,t,hs,rfl,ht,p1.1,hh,?_⟩
    refine ⟨_,_,.inr ha,rfl,?_⟩
    refine ⟨u',h,t',hs,rfl,ht',p1.2,hh,?_⟩
    walk_at "rp"
    simp only [Say.so,Op2.so] at q
    cases e:Say.so hs t <;> rw [e] at q <;> simpa using q
theorem Zq {ns:List Int}{k:Int} (h0:0≤k) (h:k < (ns.length:Int)):∃ v:Int,atI (ns.map V.int) k = some (.int v):=by
 have hk:k.toNat < ns.length:=by omega
 have ek:k = ((k.toNat:Nat):Int):=by omega
 have e:atI (ns.map V.int) ((k.toNat:Nat):Int) = some (.int ns[k.toNat]):=yo (by rw [List.getElem?_map,List.getElem?_eq_getElem hk] <;> rfl)
 rw [← ek] at e
 exact ⟨_,e⟩
theorem my {α:Type}{xs:List α}{k:Int} (h0:0≤k) (h:k < (xs.length:Int)):∃ v,v∈xs∧atI xs k = some v:=by
 have hk:k.toNat < xs.length:=by omega
 have ek:k = ((k.toNat:Nat):Int):=by omega
 have e:atI xs ((k.toNat:Nat):Int) = some xs[k.toNat]:=yo (List.getElem?_eq_getElem hk)
 rw [← ek] at e
 exact ⟨_,List.getElem_mem hk,e⟩
theorem cm {i j:Int} (h:-(2 ^ 64) < i∧i < 2 ^ 64):CMul i j:=.inl h
theorem cm2 {i j:Int} (h:-(2 ^ 64) < j∧j < 2 ^ 64):CMul i j:=.inr h
def d4 (K:PySem.W.Frag):Sp:=fun vs H Q _=>∃ (a:Addr) (ns:List Int) (k:Int),vs = [.ref a,.int k]∧SqL K H a (ns.map V.int)∧ns.length≤5000∧0≤k∧k≤100000∧∀ r:Int,Q (.int r) H
theorem sc_cell:zu ["_law_script","_law_k","_law_number"] ["_law_script","_law_k"] (z4 (top 39)):=⟨rfl,rfl,rfl,by decide +kernel,rfl,by decide +kernel,by decide +kernel⟩
theorem Sx (D:Def K mg "_law_cell" (top 39) ["_law_script","_law_k"]) (mg_len:mg "len" = none):zx P w K mg base 1 "_law_cell" ["_law_script","_law_k"] (d4 K):=by
 refine D.callee sc_cell (fun vs H Q E h=>?_) fun f cdv A outer s H vs Q E hr h=>?_
 ·obtain ⟨a,ns,k,rfl,_⟩:=h
  rfl
 have nd:=sc_cell.nd
 obtain ⟨a,ns,k,rfl,hS,h63,h0,hk,q⟩:=h
 refine ⟨[some (.ref a),some (.int k),none],_,rfl,(z5 (yr (zd Nf (z8 1) (zp ye rfl mg_len yx (z9 (z8 0) z6)) (zh _)) (zy (zr (yu (z8 0) (z8 1) (fun _ _=>rfl)))) zi)
  (z5 (zo 2 nd (zq zf (zq w6 (z8 1) zz) zz))
  (z5 (yr (zd Sr (zp ye rfl mg_len yx (z9 (z8 0) z6)) zz (zh _)) (zy (zo 2 nd (zq zf (zq zf (zq w6 (zq vc (yu (z8 0) (zq vc (z8 1) (zp ye rfl mg_len yx (z9 (z8 0) z6))) (fun _ _=>rfl)) zz) zz) (zq w6 (zq w6 (z8 1) (z8 1)) zz)) zz))) zi)
  (zy (zr (zq vc (zq w6 (z8 2) (z8 2)) zz)))))),?_⟩
 walk_at "rp"
 refine ⟨_,.inl hS,?_⟩
 rw [List.length_map]
 have hkk:k * k≤100000 * 100000:=Int.mul_le_mul hk hk h0 (by decide)
 have hkn:0≤k * k:=Int.mul_nonneg h0 h0
 refine v3 (fun c=>?_) (fun c=>?_)
 ·obtain ⟨v,e⟩:=Zq h0 (of_decide_eq_true c)
  exact ⟨_,_,.inl hS,e,q v⟩
 ·refine ⟨cm2 (by omega),_,.inl hS,?_⟩
  rw [List.length_map]
  refine v3 (fun d=>?_) (fun d=>?_)
  ·have d':(0:Int) < (ns.length:Int):=of_decide_eq_true d
   refine ⟨_,.inl hS,?_⟩
   rw [List.length_map]
   obtain ⟨v,e⟩:=Zq (ns:=ns) (k:=k % (ns.length:Int)) (Int.emod_nonneg _ (by omega)) (Int.emod_lt_of_pos _ d')
   refine ⟨d',_,_,.inl hS,e,?_⟩
   walk_at "rp"
   exact ⟨by decide,cm2 (by omega),cm (by omega),cm (by omega),cm (by omega),by decide,q _⟩
  ·walk_at "rp"
   exact ⟨cm (by omega),by decide,q _⟩
def vw (K:PySem.W.Frag):Sp:=fun vs H Q _=>∃ (a:Addr) (ns:List Int) (k m:Int),vs = [.ref a,.int k,.int m]∧SqL K H a (ns.map V.int)∧ns.length≤5000∧0≤k∧k≤100000∧0 < m∧∀ r:Int,0≤r→r < m→Q (.int r) H
theorem sc_pick:zu ["_law_script","_law_k","_law_many","_law_number"] ["_law_script","_law_k","_law_many"] (z4 (top 40)):=⟨rfl,rfl,rfl,by decide +kernel,rfl,by decide +kernel,by decide +kernel⟩
theorem S6 (D:Def K mg "_law_pick" (top 40) ["_law_script","_law_k","_law_many"]) (C_law_cell:zx P w K mg base 1 "_law_cell" ["_law_script","_law_k"] (d4 K)):zx P w K mg base 2 "_law_pick" ["_law_script","_law_k","_law_many"] (vw K):=by
 refine D.callee sc_pick (fun vs H Q E h=>?_) fun f cdv A outer s H vs Q E hr h=>?_
 ·obtain ⟨a,ns,k,m,rfl,_⟩:=h
  rfl
 have nd:=sc_pick.nd
 obtain ⟨a,ns,k,m,rfl,hS,h63,h0,hk,hm,q⟩:=h
 refine ⟨[some (.ref a),some (.int k),some (.int m),none],_,rfl,(z5 (zo 3 nd (zq zf (zq w6 (zq vc (zv C_law_cell hr (by omega) (z9 (z8 0) (z9 (z8 1) z6))) zz) (zq zf zz (zq w6 zz (z8 1)))) (zq w6 zz (z8 1))))
  (zy (zr (zq vc (zq cn (zq vc (z8 3) zz) zz) (z8 2))))),?_⟩
 walk_at "rp"
 refine ⟨a,ns,k,rfl,hS,h63,h0,hk,fun r=>?_⟩
 walk_at "rp"
 exact ⟨by decide,cm (by omega),cm (by omega),cm (by omega),by decide,⟨by decide,by decide⟩,hm,q _ (Int.emod_nonneg _ (by omega)) (Int.emod_lt_of_pos _ hm)⟩
theorem yc {n:Nat} (h:n≤1000):n≤sizeLine:=Nat.le_of_lt (u1 h)
def li (K:PySem.W.Frag) (n:Nat):Sp:=fun vs H Q _=>∃ (v:V) (s:Say),vs = [v]∧SayAt K H v s∧s.pieces≤n∧s.pieces≤1000∧∀ (p:Addr) (H':Hp),H p = none→Same H H'→H' p = some (.lst (s.letters.map V.str))→Q (.ref p) H'
theorem sc_letters:zu ["saying","letters","inner"] ["saying"] (z4 (top 5)):=⟨rfl,rfl,rfl,by decide +kernel,rfl,by decide +kernel,by decide +kernel⟩
theorem oj (D:Def K mg "letters_in" (top 5) ["saying"]):∀ n:Nat,zx P w K mg base n "letters_in" ["saying"] (li K n)
 | 0=>xk D fun vs H Q E h=>by
  obtain ⟨v,s,_,_,hp,_⟩:=h
  exact absurd s.pieces_pos (by omega)
 | n + 1=>by
  have C_letters_in:=oj D n
  refine D.callee sc_letters (fun vs H Q E h=>?_) fun f cdv A outer s H vs Q E hr h=>?_
  ·obtain ⟨v,s,rfl,_⟩:=h
   rfl
  have nd:=sc_letters.nd
  obtain ⟨v,s,rfl,hv,hp,hp2,q⟩:=h
  refine ⟨[some v,none,none],_,rfl,(z5 (yr (zd (wx hr.units) (yu (z8 0) zz (fun _ _=>rfl)) yz (zh _)) (zy (zr (v5 (z9 (yu (z8 0) zz (fun _ _=>rfl)) z6)))) zi)
  (z5 (zo 1 nd (v5 z6))
  (z5 (xj PassesOwn.never rfl (y3 (xz (z8 0) (xo zz) yb)) (wk 2 nd) (zy (uz (Ym PySem.F.slot_list_extend PySem.F.type_list_extend Vw (z8 1) (z9 (zv C_letters_in hr (by omega) (z9 (z8 2) z6)) z6)))))
  (zy (zr (z8 1)))))),?_⟩
  by_cases hs:s.subs = []
  ·cases s with
   | letter x =>
    obtain ⟨a,rfl,ha⟩:=hv
    walk_at "rp"
    refine ⟨_,_,.inr ha,rfl,?_⟩
    walk_at "rp"
    refine ⟨_,_,.inr ha,rfl,?_⟩
    walk_at "rp"
    exact ⟨yc (by simp),fun p H1 n1 s1 e1=>q p H1 n1 s1 e1⟩
   | neg t=>simp [Say.subs] at hs
   | bin o t t'=>simp [Say.subs] at hs
  ·obtain ⟨a,wd,us,rfl,ha,hw,hl,hl2,hu⟩:=g9 hv hs
   walk_at "rp"
   refine ⟨_,_,.inr ha,i7 _ _,?_⟩
   walk_at "rp"
   rw [hw]
   walk_at "rp"
   refine ⟨yc (by simp),fun r H0 n0 s0 e0=>?_⟩
   refine .inr ⟨_,(z7 s0).sqT ha,fun p H1 s1 h1=>.inr ⟨⟨_,h1⟩,?_⟩⟩
   rw [m7] at h1
   refine xq (xs:=us) (fun i σ H2=>∃ iv,σ = [some (.ref a),some (.ref r),iv]∧H2 r = some (.lst ((((s.subs.take i).map Say.letters).flatten).map V.str))∧Same H H2∧SqT K H2 p us∧i≤us.length) ⟨none,rfl,s1 _ _ e0,s0.trans s1,h1,Nat.zero_le _⟩ ?_ ?_ ?_
   ·rintro i σ H2 _ ⟨iv,rfl,_,_,h2,_⟩
    exact h2
   ·rintro i x σ H2 hx ⟨iv,rfl,e2,s2,h2,hi⟩
    obtain ⟨t,ht,sv,pc⟩:=hu i x hx
    walk_at "rp"
    refine ⟨⟨_,_,rfl,e2⟩,x,t,rfl,sv.mono (z7 s2),by omega,by omega,fun z H3 n3 s3 e3=>?_⟩
    have hne:z≠r:=fun e=>by rw [e,e2] at n3;cases n3
    walk_at "rp"
    have b1:=m8 (s.subs.take i)
    have b2:=p8 Say.pieces s.subs i
    have b3:=rn s
    have b4:=yn t
    refine ⟨_,_,s3 _ _ e2,.inl e3,?_,some x,rfl,?_,zt (s2.trans s3) n0 _,?_,(List.getElem?_eq_some_iff.mp hx).1⟩
    ·rw [List.length_map,List.length_map]
     rw [sizeLine_eq];omega
    ·rw [zw,List.take_add_one,ht]
     simp
    ·exact (xr (s3 _ _ e2)).sqT ((z7 s3).sqT h2)
   ·rintro σ H2 ⟨iv,rfl,e2,s2,h2,_⟩
    walk_at "rp"
    rw [hl,List.take_length,← t9 hs] at e2
    exact q r H2 n0 s2 e2
def ll (K:PySem.W.Frag):Sp:=fun vs H Q _=>∃ (v:V) (s:Say),vs = [v]∧SayAt K H v s∧s.pieces≤40∧∀ (p:Addr) (H':Hp) (ss:List Str),Same H H'→SqT K H' p (ss.map V.str)→ss.Nodup→(∀ x,x∈ss ↔ x∈s.letters)→sortedS ss = true→Q (.ref p) H'
theorem sc_namesin:zu ["saying"] ["saying"] (z4 (top 6)):=⟨rfl,rfl,rfl,by decide +kernel,rfl,by decide +kernel,by decide +kernel⟩
theorem df (D:Def K mg "names_in" (top 6) ["saying"]) (C_letters_in:zx P w K mg base 40 "letters_in" ["saying"] (li K 40)) (mg_sorted:mg "sorted" = none) (mg_set:mg "set" = none) (mg_tuple:mg "tuple" = none):zx P w K mg base 41 "names_in" ["saying"] (ll K):=by
 refine D.callee sc_namesin (fun vs H Q E h=>?_) fun f cdv A outer s H vs Q E hr h=>?_
 ·obtain ⟨v,s,rfl,_⟩:=h
  rfl
 have nd:=sc_namesin.nd
 obtain ⟨v,s,rfl,hv,hp,q⟩:=h
 refine ⟨[some v],_,rfl,(zy (zr (za yi rfl mg_tuple y4 (z9 (w8 rfl hr.units rfl mg_sorted rfl mg_set (zv C_letters_in hr (by omega) (z9 (z8 0) z6))) z6)))),?_⟩
 walk_at "rp"
 have hlen:=yn s
 refine ⟨v,s,rfl,hv,hp,by omega,fun p H1 n1 s1 e1=>?_⟩
 walk_at "rp"
 refine .inl ⟨_,.inl (SqL.of e1),by unfold scanBound;omega,fun ss' hn hs=>?_,fun ss' hn hm hst r H2 n2 s2 e2=>?_⟩
 ·have:=xg hn hs
  omega
 ·walk_at "rp"
  exact ⟨_,.inl (SqL.of e2),fun r' H3 s3 h3=>q r' H3 ss' (s1.trans (s2.trans s3)) h3 hn hm hst⟩
theorem Ze {xs:List Str} (i:Nat) (x:V) (hx:(xs.map V.str)[i]? = some x):∃ y,x = .str y∧i < xs.length∧xs.drop i = y :: xs.drop (i + 1):=by
 rw [List.getElem?_map] at hx
 cases e:xs[i]? with
 | none=>rw [e] at hx;cases hx
 | some y =>
  rw [e] at hx
  obtain ⟨hi,ey⟩:=List.getElem?_eq_some_iff.mp e
  exact ⟨y,(Option.some.inj hx).symm,hi,by rw [List.drop_eq_getElem_cons hi,ey]⟩
def Xe (K:PySem.W.Frag):Sp:=fun vs H Q _=>∃ (b:Addr) (xs:List Str),vs = [.ref b]∧SqT K H b (xs.map V.str)∧xs.length≤10∧Q (.int ((2 ^ xs.length:Nat):Int)) H
theorem sc_ways:zu ["names","ways","name"] ["names"] (z4 (top 9)):=⟨rfl,rfl,rfl,by decide +kernel,rfl,by decide +kernel,by decide +kernel⟩
theorem S7 (D:Def K mg "ways_to_hold" (top 9) ["names"]):zx P w K mg base 1 "ways_to_hold" ["names"] (Xe K):=by
 refine D.callee sc_ways (fun vs H Q E h=>?_) fun f cdv A outer s H vs Q E hr h=>?_
 ·obtain ⟨b,xs,rfl,_⟩:=h
  rfl
 have nd:=sc_ways.nd
 obtain ⟨b,xs,rfl,hb,hx,q⟩:=h
 refine ⟨[some (.ref b),none,none],_,rfl,(z5 (zo 1 nd zz)
  (z5 (xj PassesOwn.never rfl (y3 (z8 0)) (wk 2 nd) (zy (zo 1 nd (zq w6 (z8 1) zz))))
  (zy (zr (z8 1))))),?_⟩
 walk_at "rp"
 refine .inr ⟨⟨_,hb⟩,xq (xs:=xs.map V.str) (fun i σ H2=>∃ nv,σ = [some (.ref b),some (.int ((2 ^ i:Nat):Int)),nv]∧H2 = H) ⟨none,rfl,rfl⟩ ?_ ?_ ?_⟩
 ·rintro i σ H2 _ ⟨nv,rfl,rfl⟩
  exact hb
 ·rintro i x σ H2 hx' ⟨nv,rfl,rfl⟩
  walk_at "rp"
  refine ⟨cm2 (by decide),some x,?_,trivial⟩
  rw [Nat.pow_succ,Int.natCast_mul]
  rfl
 ·rintro σ H2 ⟨nv,rfl,rfl⟩
  walk_at "rp"
  rw [List.length_map]
  exact q
def il (K:PySem.W.Frag):Sp:=fun vs H Q _=>∃ (n:Int) (b:Addr) (xs:List Str),vs = [.int n,.ref b]∧SqT K H b (xs.map V.str)∧xs.length≤100∧∀ (r:Addr) (H':Hp),Same H H'→SqT K H' r ((zj n xs).map V.str)→Q (.ref r) H'
theorem sc_heldby:zu ["number","names","held","rest","name"] ["number","names"] (z4 (top 10)):=⟨rfl,rfl,rfl,by decide +kernel,rfl,by decide +kernel,by decide +kernel⟩
theorem Yu (D:Def K mg "held_by" (top 10) ["number","names"]) (mg_tuple:mg "tuple" = none):zx P w K mg base 1 "held_by" ["number","names"] (il K):=by
 refine D.callee sc_heldby (fun vs H Q E h=>?_) fun f cdv A outer s H vs Q E hr h=>?_
 ·obtain ⟨n,b,xs,rfl,_⟩:=h
  rfl
 have nd:=sc_heldby.nd
 obtain ⟨n,b,xs,rfl,hb,hx,q⟩:=h
 refine ⟨[some (.int n),some (.ref b),none,none,none],_,rfl,(z5 (zo 2 nd (v5 z6))
  (z5 (zo 3 nd (z8 0))
  (z5 (xj PassesOwn.never rfl (y3 (z8 1)) (wk 4 nd) (z5 (yr (zd (wx hr.units) (zq vc (z8 3) zz) zz (zh _)) (zy (uz (Ym PySem.F.slot_list_append PySem.F.type_list_append Vr (z8 2) (z9 (z8 4) z6)))) zi)
  (zy (zo 3 nd (zq cn (z8 3) zz)))))
  (zy (zr (za yi rfl mg_tuple y4 (z9 (z8 2) z6))))))),?_⟩
 walk_at "rp"
 refine ⟨yc (by simp),fun p H1 n1 s1 e1=>?_⟩
 have hlen:(xs.map V.str).length = xs.length:=List.length_map _
 refine .inr ⟨⟨_,(z7 s1).sqT hb⟩,xq (xs:=xs.map V.str) (fun i σ H2=>∃ (m:Int) (acc:List Str) (nv:Option V),σ = [some (.int n),some (.ref b),some (.ref p),some (.int m),nv]∧acc ++ zj m (xs.drop i) = zj n xs∧H2 p = some (.lst (acc.map V.str))∧Same H H2∧acc.length≤i) ⟨n,[],none,rfl,rfl,e1,s1,Nat.le_refl _⟩ ?_ ?_ ?_⟩
 ·rintro i σ H2 _ ⟨m,acc,nv,rfl,e,ep,s2,_⟩
  exact (z7 s2).sqT hb
 ·rintro i x σ H2 hx' ⟨m,acc,nv,rfl,e,ep,s2,ha⟩
  obtain ⟨y,rfl,hi,ed⟩:=Ze i x hx'
  rw [ed] at e
  walk_at "rp"
  refine ⟨by decide,v3 (fun c=>?_) (fun c=>?_)⟩
  ·have c':m % 2 = 1:=of_decide_eq_true c
   rw [zj,if_pos c'] at e
   refine ⟨⟨_,_,rfl,ep⟩,_,ep,by rw [List.length_map];exact u1 (by omega),⟨by decide,by decide⟩,m / 2,acc ++ [y],_,rfl,by rw [List.append_assoc];exact e,by rw [zw,List.map_append];rfl,zt s2 n1 _,by rw [List.length_append,List.length_singleton];omega⟩
  ·have c':¬ m % 2 = 1:=fun z=>c (decide_eq_true z)
   rw [zj,if_neg c'] at e
   exact ⟨⟨by decide,by decide⟩,m / 2,acc,_,rfl,e,ep,s2,by omega⟩
 ·rintro σ H2 ⟨m,acc,nv,rfl,e,ep,s2,_⟩
  rw [hlen,List.drop_length] at e
  have e':acc = zj n xs:=by simpa [zj] using e
  walk_at "rp"
  exact ⟨_,.inl (SqL.of ep),fun r H' s3 hr3=>q r H' (s2.trans s3) (by rw [← e'];exact hr3)⟩
theorem zc {H H':Hp}{p:Addr} (s:Same H H') (n:H' p = none):H p = none:=by
 cases e:H p with
 | none=>rfl
 | some o=>rw [s _ _ e] at n;cases n
theorem j9 {ts:List Say}{i:Nat}{t:Say} (h:ts[i]? = some t):ut (ts.take (i + 1)) = ut (ts.take i) ++ t.letters:=by
 rw [List.take_add_one,h,Uj]
 simp [ut]
def lm (K:PySem.W.Frag):Sp:=fun vs H Q _=>∃ (a:Addr) (us:List V) (ts:List Say) (xs:List Str),vs = [.ref a]∧SqT K H a us∧SaysAt K H us ts∧Lst ts xs∧∀ (p:Addr) (H':Hp) (ss:List Str),Same H H'→SqT K H' p (ss.map V.str)→NamesOf ts ss→Q (.ref p) H'
theorem sc_namesof:zu ["sayings","names","saying"] ["sayings"] (z4 (top 12)):=⟨rfl,rfl,rfl,by decide +kernel,rfl,by decide +kernel,by decide +kernel⟩
theorem dg (D:Def K mg "names_of" (top 12) ["sayings"]) (C_names_in:zx P w K mg base 41 "names_in" ["saying"] (ll K)) (mg_sorted:mg "sorted" = none) (mg_set:mg "set" = none) (mg_tuple:mg "tuple" = none):zx P w K mg base 42 "names_of" ["sayings"] (lm K):=by
 refine D.callee sc_namesof (fun vs H Q E h=>?_) fun f cdv A outer s H vs Q E hr h=>?_
 ·obtain ⟨a,us,ts,xs,rfl,_⟩:=h
  rfl
 have nd:=sc_namesof.nd
 obtain ⟨a,us,ts,xs,rfl,ha,hS,hL,q⟩:=h
 have hl:=hS.len
 refine ⟨[some (.ref a),none,none],_,rfl,(z5 (zo 1 nd (v5 z6))
  (z5 (xj PassesOwn.never rfl (y3 (z8 0)) (wk 2 nd) (zy (uz (Ym PySem.F.slot_list_extend PySem.F.type_list_extend Vw (z8 1) (z9 (zv C_names_in hr (by omega) (z9 (z8 2) z6)) z6)))))
  (zy (zr (za yi rfl mg_tuple y4 (z9 (w8 rfl hr.units rfl mg_sorted rfl mg_set (z8 1)) z6)))))),?_⟩
 walk_at "rp"
 refine ⟨yc (by simp),fun r H1 n1 s1 e1=>?_⟩
 refine .inr ⟨⟨_,(z7 s1).sqT ha⟩,xq (xs:=us) (fun i σ H2=>∃ (acc:List Str) (iv:Option V),σ = [some (.ref a),some (.ref r),iv]∧H2 r = some (.lst (acc.map V.str))∧(∀ x,x∈acc ↔ x∈ut (ts.take i))∧acc.length≤40 * i∧Same H H2) ⟨[],none,rfl,e1,fun x=>by simp [ut],Nat.le_refl _,s1⟩ ?_ ?_ ?_⟩
 ·rintro i σ H2 _ ⟨acc,iv,rfl,_,_,_,s2⟩
  exact (z7 s2).sqT ha
 ·rintro i x σ H2 hx ⟨acc,iv,rfl,e2,hm,hc,s2⟩
  obtain ⟨t,ht,sv⟩:=hS.at i x hx
  have htm:=List.mem_of_getElem? ht
  have hi:i < us.length:=(List.getElem?_eq_some_iff.mp hx).1
  have h6:=hL.hi
  walk_at "rp"
  refine ⟨⟨_,_,rfl,e2⟩,x,t,rfl,sv.mono (z7 s2),hL.pc t htm,fun p H3 ss s3 hp nds hmem _=>?_⟩
  walk_at "rp"
  have hsl:ss.length≤40:=Nat.le_trans (xg nds fun y hy=>(hmem y).mp hy) (Nat.le_trans (yn t) (hL.pc t htm))
  refine ⟨_,_,s3 _ _ e2,.inr hp,by rw [List.length_map,List.length_map,sizeLine_eq];omega,acc ++ ss,some x,rfl,by rw [zw,List.map_append],fun y=>?_,by rw [List.length_append];omega,zt (s2.trans s3) n1 _⟩
  rw [List.mem_append,hm y,hmem y,j9 ht,List.mem_append]
 ·rintro σ H2 ⟨acc,iv,rfl,e2,hm,hc,s2⟩
  rw [hl,List.take_length] at hm
  have h6:=hL.hi
  walk_at "rp"
  refine .inl ⟨_,.inl (SqL.of e2),by unfold scanBound;omega,fun ss' hn hs=>?_,fun ss' hn hmm hst p H3 n3 s3 e3=>?_⟩
  ·have:=xg hn fun y hy=>hL.nm y ((hm y).mp (hs y hy))
   have:=hL.xl
   omega
  ·walk_at "rp"
   exact ⟨_,.inl (SqL.of e3),fun p' H4 s4 h4=>q p' H4 ss' (s2.trans (s3.trans s4)) h4 ⟨hn,fun y=>(hmm y).trans (hm y),hst⟩⟩
def lh (K:PySem.W.Frag):Sp:=fun vs H Q _=>∃ (a:Addr) (us:List V) (ts:List Say) (xs:List Str),vs = [.ref a]∧SqT K H a us∧SaysAt K H us ts∧Lst ts xs∧∀ (p:Addr) (H':Hp) (ss:List Str) (as:List Addr),H p = none→Same H H'→H' p = some (.lst (as.map V.ref))→NamesOf ts ss→as.length = 2 ^ ss.length →
 (∀ (n:Nat) b,as[n]? = some b→SqT K H' b ((zj (n:Int) ss).map V.str))→Q (.ref p) H'
theorem sc_allheld:zu ["sayings","names"] ["sayings"] (z4 (top 13)):=⟨rfl,rfl,rfl,by decide +kernel,rfl,by decide +kernel,by decide +kernel⟩
theorem Wq {n:Nat} (h:n≤5):2 ^ n≤32:=Nat.pow_le_pow_right (by decide) h
theorem c6 (D:Def K mg "all_held" (top 13) ["sayings"]) (C_names_of:zx P w K mg base 42 "names_of" ["sayings"] (lm K)) (C_held_by:zx P w K mg base 1 "held_by" ["number","names"] (il K)) (C_ways_to_hold:zx P w K mg base 1 "ways_to_hold" ["names"] (Xe K)) (mg_range:mg "range" = none) :
  zx P w K mg base 43 "all_held" ["sayings"] (lh K):=by
 refine D.callee sc_allheld (fun vs H Q E h=>?_) fun f cdv A outer s H vs Q E hr h=>?_
 ·obtain ⟨a,us,ts,xs,rfl,_⟩:=h
  rfl
 have nd:=sc_allheld.nd
 obtain ⟨a,us,ts,xs,rfl,ha,hS,hL,q⟩:=h
 refine ⟨[some (.ref a),none],_,rfl,(z5 (zo 1 nd (zv C_names_of hr (by omega) (z9 (z8 0) z6)))
  (zy (zr (yp (ixs:=[1]) (zl (own:=["number"]) (N:=["names"]) rfl rfl rfl rfl rfl rfl rfl (by decide +kernel) rfl rfl rfl) rfl (yh rfl mg_range (z9 (zv C_ways_to_hold hr (by omega) (z9 (z8 1) z6)) z6)) (fun _ _ _ _=>yq) (fun _ _ _ _=>(zv C_held_by hr (by omega) (z9 (z8 0) (z9 (z8 1) z6)))) rfl)))),?_⟩
 walk_at "rp"
 refine ⟨a,us,ts,xs,rfl,ha,hS,hL,fun b H1 ss s1 hb hN=>?_⟩
 obtain ⟨hss,hsn⟩:=hL.names hN
 have p5:=Wq hss
 have p5':((2 ^ ss.length:Nat):Int)≤32:=Int.ofNat_le.mpr p5
 have p50:(0:Int)≤((2 ^ ss.length:Nat):Int):=Int.natCast_nonneg _
 walk_at "rp"
 refine ⟨b,ss,rfl,hb,by omega,?_⟩
 walk_at "rp"
 refine ⟨⟨by omega,by omega⟩,?_⟩
 rw [Int.toNat_natCast]
 intro C s₀ H₀ ex
 refine xy (fun D i ys H2=>∃ as:List Addr,ys = as.map V.ref∧as.length = i∧(∀ (n:Nat) c,as[n]? = some c→SqT K H2 c ((zj (n:Int) ss).map V.str))∧H2 D = some (.lst ys)∧Same H1 H2∧H1 D = none) (by rw [sizeLine_eq];omega) ?_ ?_ ?_ ?_
 ·intro D H2 n2 s2 e2
  exact ⟨[],rfl,rfl,fun n c hc=>by simp at hc,e2,s2,n2⟩
 ·rintro D i ys H2 ⟨as,rfl,hl,_,e2,_⟩
  exact ⟨e2,by simpa using hl⟩
 ·rintro D i ys H2 hi ⟨as,rfl,hl,hc,e2,s2,n2⟩
  walk_at "rp"
  refine ⟨_,b,ss,rfl,(z7 s2).sqT hb,by omega,fun r H3 s3 h3=>⟨s3 _ _ e2,CN.mk hi ⟨as ++ [r],by rw [List.map_append];rfl,by rw [List.length_append,hl];rfl,fun n c hn=>?_,zw,zt (s2.trans s3) n2 _,n2⟩⟩⟩
  have tl:=xr (o:=.lst (as.map V.ref ++ [V.ref r])) (s3 _ _ e2)
  by_cases hlt:n < as.length
  ·rw [List.getElem?_append_left hlt] at hn
   exact tl.sqT ((z7 s3).sqT (hc n c hn))
  ·rw [List.getElem?_append_right (by omega)] at hn
   have hnz:n - as.length = 0:=by
    cases h9:n - as.length with
    | zero=>rfl
    | succ m=>rw [h9] at hn;simp at hn
   rw [hnz] at hn
   cases hn
   have:n = i:=by omega
   subst this
   rw [Int.zero_add] at h3
   exact tl.sqT h3
 ·rintro D ys H2 ⟨as,rfl,hl,hc,e2,s2,n2⟩
  exact q D H2 ss as (zc s1 n2) (s1.trans s2) e2 hN hl hc
def qm (K:PySem.W.Frag):Sp:=fun vs H Q _=>∃ (a h:Addr) (us:List V) (ts:List Say) (xs hs:List Str),vs = [.ref a,.ref h]∧SqT K H a us∧SaysAt K H us ts∧Lst ts xs∧SqT K H h (hs.map V.str)∧∀ (p:Addr) (H':Hp),Same H H'→SqT K H' p ((ve ts hs).map V.bl)→Q (.ref p) H'
theorem sc_rowof:zu ["sayings","held"] ["sayings","held"] (z4 (top 14)):=⟨rfl,rfl,rfl,by decide +kernel,rfl,by decide +kernel,by decide +kernel⟩
theorem Wa (D:Def K mg "row_of" (top 14) ["sayings","held"]) (C_is_so:zx P w K mg base 40 "is_so" ["saying","held"] (Ou K 40)) (mg_tuple:mg "tuple" = none):zx P w K mg base 41 "row_of" ["sayings","held"] (qm K):=by
 refine D.callee sc_rowof (fun vs H Q E h=>?_) fun f cdv A outer s H vs Q E hr h=>?_
 ·obtain ⟨a,h,us,ts,xs,hs,rfl,_⟩:=h
  rfl
 have nd:=sc_rowof.nd
 obtain ⟨a,h,us,ts,xs,hs,rfl,ha,hS,hL,hh,q⟩:=h
 have hl:=hS.len
 have h6:=hL.hi
 refine ⟨[some (.ref a),some (.ref h)],_,rfl,(zy (zr (za yi rfl mg_tuple y4 (z9 (yp (ixs:=[1]) (zl (own:=["saying"]) (N:=["held"]) rfl rfl rfl rfl rfl rfl rfl (by decide +kernel) rfl rfl rfl) rfl (y3 (z8 0)) (fun _ _ _ _=>yq) (fun _ _ _ _=>(zv C_is_so hr (by omega) (z9 (z8 0) (z9 (z8 1) z6)))) rfl) z6)))),?_⟩
 walk_at "rp"
 refine .inr ⟨⟨_,ha⟩,fun C s₀ H₀ ex=>?_⟩
 refine va (xs:=us) (fun D i ys H2=>ys = ((ts.take i).map fun t=>t.so hs).map V.bl∧i≤us.length∧H2 D = some (.lst ys)∧Same H H2∧H D = none) (by rw [sizeLine_eq];omega) ?_ ?_ ?_ ?_
 ·intro D H2 n2 s2 e2
  exact ⟨rfl,Nat.zero_le _,e2,s2,n2⟩
 ·rintro D i ys H2 ⟨rfl,hi,e2,s2,_⟩
  exact ⟨(z7 s2).sqT ha,e2,by simp;omega⟩
 ·rintro D i v ys H2 hv ⟨rfl,hi,e2,s2,n2⟩
  obtain ⟨t,ht,sv⟩:=hS.at i v hv
  walk_at "rp"
  refine ⟨v,h,t,hs,rfl,sv.mono (z7 s2),hL.pc t (List.mem_of_getElem? ht),(z7 s2).sqT hh,e2,CN.mk (List.getElem?_eq_some_iff.mp hv).1 ⟨?_,(List.getElem?_eq_some_iff.mp hv).1,zw,zt s2 n2 _,n2⟩⟩
  rw [List.take_add_one,ht]
  simp
 ·rintro D ys H2 ⟨rfl,hi,e2,s2,n2⟩
  rw [hl,List.take_length] at e2
  exact ⟨_,.inl (SqL.of e2),fun p H3 s3 h3=>q p H3 (s2.trans s3) h3⟩
def v6 (K:PySem.W.Frag):Sp:=fun vs H Q _=>∃ (a:Addr) (us:List V) (ts:List Say) (xs:List Str),vs = [.ref a]∧SqT K H a us∧SaysAt K H us ts∧Lst ts xs∧∀ (p:Addr) (H':Hp) (ss:List Str) (R:List (Addr×List Bool)),H p = none→Same H H'→H' p = some (.lst (R.map fun r=>V.ref r.1))→(∀ r∈R,SqT K H' r.1 (r.2.map V.bl))→NamesOf ts ss→FitRows ts ss (R.map (·.2))→R.length≤32→Q (.ref p) H'
theorem sc_fitrows:zu ["sayings"] ["sayings"] (z4 (top 15)):=⟨rfl,rfl,rfl,by decide +kernel,rfl,by decide +kernel,by decide +kernel⟩
theorem dc (D:Def K mg "fit_rows" (top 15) ["sayings"]) (C_all_held:zx P w K mg base 43 "all_held" ["sayings"] (lh K)) (C_row_of:zx P w K mg base 41 "row_of" ["sayings","held"] (qm K)) (mg_sorted:mg "sorted" = none) (mg_set:mg "set" = none) :
  zx P w K mg base 44 "fit_rows" ["sayings"] (v6 K):=by
 refine D.callee sc_fitrows (fun vs H Q E h=>?_) fun f cdv A outer s H vs Q E hr h=>?_
 ·obtain ⟨a,us,ts,xs,rfl,_⟩:=h
  rfl
 have nd:=sc_fitrows.nd
 obtain ⟨a,us,ts,xs,rfl,ha,hS,hL,q⟩:=h
 refine ⟨[some (.ref a)],_,rfl,(zy (zr (w8 rfl hr.units rfl mg_sorted rfl mg_set (yp (ixs:=[0]) (zl (own:=["held"]) (N:=["sayings"]) rfl rfl rfl rfl rfl rfl rfl (by decide +kernel) rfl rfl rfl) rfl (y3 (zv C_all_held hr (by omega) (z9 (z8 0) z6))) (fun _ _ _ _=>yq) (fun _ _ _ _=>(zv C_row_of hr (by omega) (z9 (z8 1) (z9 (z8 0) z6)))) rfl)))),?_⟩
 walk_at "rp"
 refine ⟨a,us,ts,xs,rfl,ha,hS,hL,fun b H1 ss as nb s1 hb hN has hheld=>?_⟩
 obtain ⟨hss,hsn⟩:=hL.names hN
 have p5:=Wq hss
 walk_at "rp"
 refine .inl ⟨⟨_,SqL.of hb⟩,fun C s₀ H₀ ex=>?_⟩
 refine tm (xs:=as.map V.ref) (fun D i ys H2=>∃ R:List (Addr×List Bool),ys = (R.map fun r=>V.ref r.1)∧R.map (·.2) = (List.range i).map (fun (n:Nat)=>ve ts (zj (n:Int) ss))∧(∀ r∈R,SqT K H2 r.1 (r.2.map V.bl))∧H2 D = some (.lst ys)∧Same H1 H2∧H1 D = none) (by rw [List.length_map,sizeLine_eq];omega) ?_ ?_ ?_ ?_
 ·intro D H2 n2 s2 e2
  exact ⟨[],rfl,rfl,fun r hr=>by simp at hr,e2,s2,n2⟩
 ·rintro D i ys H2 ⟨R,rfl,hR,_,e2,s2,_⟩
  refine ⟨SqL.of (s2 _ _ hb),e2,?_⟩
  have:=congrArg List.length hR
  simpa using this
 ·rintro D i v ys H2 hv ⟨R,rfl,hR,hT,e2,s2,n2⟩
  rw [List.getElem?_map] at hv
  cases hc:as[i]? with
  | none=>rw [hc] at hv;cases hv
  | some c =>
   rw [hc] at hv
   cases hv
   have hi:i < as.length:=(List.getElem?_eq_some_iff.mp hc).1
   walk_at "rp"
   refine ⟨a,c,us,ts,xs,_,rfl,(z7 (s1.trans s2)).sqT ha,hS.mono (z7 (s1.trans s2)),hL,(z7 s2).sqT (hheld i c hc),fun p H3 s3 h3=>⟨s3 _ _ e2,CN.mk (by rw [List.length_map];exact hi) ⟨R ++ [(p,ve ts (zj (i:Int) ss))],by rw [List.map_append];rfl,?_,fun r hr=>?_,zw,zt (s2.trans s3) n2 _,n2⟩⟩⟩
   ·rw [List.map_append,hR,List.range_succ,List.map_append]
    rfl
   ·have tl:=xr (o:=.lst ((R.map fun r=>V.ref r.1) ++ [V.ref p])) (s3 _ _ e2)
    rcases List.mem_append.mp hr with hr | hr
    ·exact tl.sqT ((z7 s3).sqT (hT r hr))
    ·rw [List.mem_singleton.mp hr]
     exact tl.sqT h3
 ·rintro D ys H2 ⟨R,rfl,hR,hT,e2,s2,n2⟩
  rw [List.length_map,has] at hR
  have hRl:R.length = 2 ^ ss.length:=by
   have:=congrArg List.length hR
   simpa using this
  refine .inr ⟨R,SqL.of e2,fun r hr=>⟨hT r hr,?_⟩,by omega,fun R' hsub hnd hmem hst hle p H3 n3 s3 e3=>?_⟩
  ·have:r.2∈R.map (·.2):=List.mem_map_of_mem hr
   rw [hR] at this
   obtain ⟨n,_,e⟩:=List.mem_map.mp this
   intro z
   rw [← e] at z
   have h1:=su ts (zj (n:Int) ss)
   rw [z] at h1
   have:=hL.lo
   simp at h1
   omega
  ·refine q p H3 ss R' (zc (s1.trans s2) n3) (s1.trans (s2.trans s3)) e3 (fun r hr=>(z7 s3).sqT (hT r (hsub r hr))) hN ⟨hnd,fun k=>?_,hst⟩ (by omega)
   rw [hmem k,hR,List.mem_map]
   constructor
   ·rintro ⟨n,hn,rfl⟩
    exact ⟨n,List.mem_range.mp hn,rfl⟩
   ·rintro ⟨n,hn,rfl⟩
    exact ⟨n,List.mem_range.mpr hn,rfl⟩
def qa (k r:List Bool) (ws:List Int):Nat→Int
 | 0=>0
 | n + 1=>qa k r ws n + (if k.getD n false = r.getD n false then 0 else ws.getD n 0)
theorem Zj {k r:List Bool}{ws:List Int}{n:Nat} (h:k.getD n false = r.getD n false):qa k r ws (n + 1) = qa k r ws n:=by rw [qa,if_pos h,Int.add_zero]
theorem eu {k r:List Bool}{ws:List Int}{n:Nat}{x:Int} (h:¬ k.getD n false = r.getD n false) (hx:ws[n]? = some x):qa k r ws (n + 1) = qa k r ws n + x:=by
 rw [qa,if_neg h,List.getD_eq_getElem?_getD,hx]
 rfl
def yg (k:List Bool) (rs:List (List Bool)) (ws:List Int) (m:Nat):Int:=(rs.map fun r=>qa k r ws m).sum
def WAt (K:PySem.W.Frag) (H:Hp) (v:V) (m:Nat) (ws:List Int):Prop:=(v = .non∧ws = List.replicate m 1)∨∃ b,v = .ref b∧SqT K H b (ws.map V.int)∧ws.length = m
theorem WAt.mono {K:PySem.W.Frag}{H H':Hp}{v:V}{m:Nat}{ws:List Int} (t:Tups H H') (h:WAt K H v m ws):WAt K H' v m ws:=h.imp id fun ⟨b,e,hb,hl⟩=>⟨b,e,t.sqT hb,hl⟩
theorem WAt.len {K:PySem.W.Frag}{H:Hp}{v:V}{m:Nat}{ws:List Int} (h:WAt K H v m ws):ws.length = m:=by
 rcases h with ⟨_,rfl⟩ | ⟨_,_,_,e⟩
 ·simp
 ·exact e
def lq (K:PySem.W.Frag):Sp:=fun vs H Q _=>∃ (a:Addr) (k:List Bool) (wv:V) (ws:List Int),vs = [.ref a,wv]∧SqT K H a (k.map V.bl)∧k.length≤10∧WAt K H wv k.length ws ∧
 ∀ (b:Addr) (H':Hp),Same H H'→SqT K H' b (ws.map V.int)→Q (.ref b) H'
theorem sc_weights:zu ["row","weights"] ["row","weights"] (z4 (top 19)):=⟨rfl,rfl,rfl,by decide +kernel,rfl,by decide +kernel,by decide +kernel⟩
theorem di (D:Def K mg "weights_for" (top 19) ["row","weights"]) (mg_tuple:mg "tuple" = none):zx P w K mg base 1 "weights_for" ["row","weights"] (lq K):=by
 refine D.callee sc_weights (fun vs H Q E h=>?_) fun f cdv A outer s H vs Q E hr h=>?_
 ·obtain ⟨a,k,wv,ws,rfl,_⟩:=h
  rfl
 have nd:=sc_weights.nd
 obtain ⟨a,k,wv,ws,rfl,ha,hk,hw,q⟩:=h
 refine ⟨[some (.ref a),some wv],_,rfl,(z5 (yr (zd Nc (z8 1) Qd (zh _)) (zy (zr (za yi rfl mg_tuple y4 (z9 (yp (ixs:=[]) (zl (own:=["truth"]) (N:=[]) rfl rfl rfl rfl rfl rfl rfl (by decide +kernel) rfl rfl rfl) rfl (y3 (z8 0)) (fun _ _ _ _=>yq) (fun _ _ _ _=>zz) rfl) z6)))) zi)
  (zy (zr (z8 1)))),?_⟩
 rcases hw with ⟨rfl,rfl⟩ | ⟨b,rfl,hb,hl⟩
 ·walk_at "rp"
  refine ⟨trivial,.inr ⟨⟨_,ha⟩,fun C s₀ H₀ ex=>?_⟩⟩
  refine va (xs:=k.map V.bl) (fun D i ys H2=>ys = (List.replicate i (1:Int)).map V.int∧i≤k.length∧H2 D = some (.lst ys)∧Same H H2∧H D = none) (by rw [List.length_map,sizeLine_eq];omega) ?_ ?_ ?_ ?_
  ·intro D H2 n2 s2 e2
   exact ⟨rfl,Nat.zero_le _,e2,s2,n2⟩
  ·rintro D i ys H2 ⟨rfl,hi,e2,s2,_⟩
   exact ⟨(z7 s2).sqT ha,e2,by simp⟩
  ·rintro D i v ys H2 hv ⟨rfl,hi,e2,s2,n2⟩
   have hi':i < (k.map V.bl).length:=(List.getElem?_eq_some_iff.mp hv).1
   walk_at "rp"
   refine ⟨e2,CN.mk hi' ⟨?_,by rw [List.length_map] at hi';exact hi',zw,zt s2 n2 _,n2⟩⟩
   rw [List.replicate_succ',List.map_append]
   rfl
  ·rintro D ys H2 ⟨rfl,hi,e2,s2,n2⟩
   rw [List.length_map] at e2
   exact ⟨_,.inl (SqL.of e2),fun p H3 s3 h3=>q p H3 (s2.trans s3) h3⟩
 ·walk_at "rp"
  refine ⟨trivial,?_⟩
  try rw [decide_eq_false (fun z:V.ref b = V.non=>nomatch z)]
  walk_at "rp"
  exact q b H (Same.refl H) hb
def ip (K:PySem.W.Frag):Sp:=fun vs H Q _=>∃ (a b c:Addr) (k r:List Bool) (ws:List Int) (m:Nat),vs = [.ref a,.ref b,.ref c]∧SqT K H a (k.map V.bl)∧SqT K H b (r.map V.bl)∧SqT K H c (ws.map V.int)∧k.length = m∧r.length = m∧ws.length = m ∧
 ∀ H',Same H H'→Q (.int (qa k r ws m)) H'
theorem sc_unlike:zu ["row","other","weights","total","number","weight"] ["row","other","weights"] (z4 (top 20)):=⟨rfl,rfl,rfl,by decide +kernel,rfl,by decide +kernel,by decide +kernel⟩
theorem Y0 (D:Def K mg "unlike" (top 20) ["row","other","weights"]) (mg_enumerate:mg "enumerate" = none):zx P w K mg base 1 "unlike" ["row","other","weights"] (ip K):=by
 refine D.callee sc_unlike (fun vs H Q E h=>?_) fun f cdv A outer s H vs Q E hr h=>?_
 ·obtain ⟨a,b,c,k,r,ws,m,rfl,_⟩:=h
  rfl
 have nd:=sc_unlike.nd
 obtain ⟨a,b,c,k,r,ws,m,rfl,ha,hb,hc,hk,hrl,hw,q⟩:=h
 refine ⟨[some (.ref a),some (.ref b),some (.ref c),none,none,none],_,rfl,(z5 (zo 3 nd zz)
  (z5 (xj PassesOwn.never rfl (Vv rfl mg_enumerate (z9 (z8 2) z6)) (Vy 4 5 rfl nd) (zy (yr (zd (gk hr.units) (yu (z8 0) (z8 4) (fun _ _=>rfl)) (yu (z8 1) (z8 4) (fun _ _=>rfl)) (zh _)) (zy (zo 3 nd (zq zf (z8 3) (z8 5)))) zi)))
  (zy (zr (z8 3))))),?_⟩
 walk_at "rp"
 refine ⟨⟨_,hc⟩,cg (xs:=ws.map V.int) (fun i σ H2=>∃ x4 x5,σ = [some (.ref a),some (.ref b),some (.ref c),some (.int (qa k r ws i)),x4,x5]∧Same H H2) ⟨_,_,rfl,Same.refl H⟩ ?_ ?_ ?_⟩
 ·rintro i σ H2 _ ⟨x4,x5,rfl,s2⟩
  exact (z7 s2).sqT hc
 ·rintro i v σ H2 H3 hv ⟨x4,x5,rfl,s2⟩ s3
  rw [List.getElem?_map] at hv
  cases hx:ws[i]? with
  | none=>rw [hx] at hv;cases hv
  | some x =>
  rw [hx] at hv
  cases hv
  have hi:i < ws.length:=(List.getElem?_eq_some_iff.mp hx).1
  have t3:=z7 (s2.trans s3)
  walk_at "rp"
  refine ⟨_,_,.inr (t3.sqT ha),i8 (by omega),?_⟩
  walk_at "rp"
  refine ⟨_,_,.inr (t3.sqT hb),i8 (by omega),?_⟩
  walk_at "rp"
  by_cases he:k.getD i false = r.getD i false
  ·rw [decide_eq_true he]
   walk_at "rp"
   exact ⟨_,_,by rw [Zj he],s2.trans s3⟩
  ·rw [decide_eq_false he]
   walk_at "rp"
   exact ⟨_,_,by rw [eu he hx],s2.trans s3⟩
 ·rintro σ H2 ⟨x4,x5,rfl,s2⟩
  walk_at "rp"
  rw [List.length_map,hw]
  exact q H2 s2
def pk (K:PySem.W.Frag):Sp:=fun vs H Q _=>∃ (a j:Addr) (k:List Bool) (J:List (Addr×List Bool)) (wv:V) (ws:List Int) (m:Nat),vs = [.ref a,.ref j,wv]∧SqT K H a (k.map V.bl)∧k.length = m∧m≤10∧JudgesAt K H j J m∧WAt K H wv m ws ∧
 ∀ H',Same H H'→Q (.int (yg k (J.map (·.2)) ws m)) H'
theorem sc_distance:zu ["row","judges","weights","given"] ["row","judges","weights"] (z4 (top 21)):=⟨rfl,rfl,rfl,by decide +kernel,rfl,by decide +kernel,by decide +kernel⟩
theorem gw (D:DefD K mg "distance" (top 21) ["row","judges","weights"] [.none]) (C_weights_for:zx P w K mg base 1 "weights_for" ["row","weights"] (lq K)) (C_unlike:zx P w K mg base 1 "unlike" ["row","other","weights"] (ip K)) (mg_sum:mg "sum" = none) :
  CalleeD P w K mg base 2 "distance" ["row","judges","weights"] [.none] (pk K):=by
 refine D.callee sc_distance (fun vs H Q E h=>?_) fun f cdv A outer s H vs Q E hr h=>?_
 ·obtain ⟨a,j,k,J,wv,ws,m,rfl,_⟩:=h
  rfl
 have nd:=sc_distance.nd
 obtain ⟨a,j,k,J,wv,ws,m,rfl,ha,hk,hm,hJ,hw,q⟩:=h
 have hhi:=hJ.hi
 have hwl:=hw.len
 refine ⟨[some (.ref a),some (.ref j),some wv,none],_,rfl,(z5 (zo 3 nd (zv C_weights_for hr (by omega) (z9 (z8 0) (z9 (z8 2) z6))))
  (zy (zr (zp (Nk rfl) rfl mg_sum O9 (z9 (yp (ixs:=[0,3]) (zl (own:=["judge"]) (N:=["row","given"]) rfl rfl rfl rfl rfl rfl rfl (by decide +kernel) rfl rfl rfl) rfl (y3 (z8 1)) (fun _ _ _ _=>yq) (fun _ _ _ _=>(zv C_unlike hr (by omega) (z9 (z8 1) (z9 (z8 0) (z9 (z8 2) z6))))) rfl) z6))))),?_⟩
 walk_at "rp"
 refine ⟨a,k,wv,ws,rfl,ha,by omega,by rw [hk];exact hw,fun b H1 s1 hb=>?_⟩
 walk_at "rp"
 refine .inr ⟨⟨_,(z7 s1).sqT hJ.sq⟩,fun C s₀ H₀ ex=>?_⟩
 refine va (xs:=J.map fun r=>V.ref r.1) (fun D i ys H2=>ys = (((J.map (·.2)).take i).map fun r=>qa k r ws m).map V.int∧i≤J.length∧H2 D = some (.lst ys)∧Same H1 H2∧H1 D = none) (by rw [List.length_map,sizeLine_eq];omega) ?_ ?_ ?_ ?_
 ·intro D H2 n2 s2 e2
  exact ⟨rfl,Nat.zero_le _,e2,s2,n2⟩
 ·rintro D i ys H2 ⟨rfl,hi,e2,s2,_⟩
  exact ⟨(z7 (s1.trans s2)).sqT hJ.sq,e2,by simp;omega⟩
 ·rintro D i v ys H2 hv ⟨rfl,hi,e2,s2,n2⟩
  rw [List.getElem?_map] at hv
  cases hc:J[i]? with
  | none=>rw [hc] at hv;cases hv
  | some r =>
  rw [hc] at hv
  cases hv
  have hi':i < J.length:=(List.getElem?_eq_some_iff.mp hc).1
  have hrm:=List.mem_of_getElem? hc
  have t2:=z7 (s1.trans s2)
  walk_at "rp"
  refine ⟨a,r.1,b,k,r.2,ws,m,rfl,t2.sqT ha,t2.sqT (hJ.row r hrm),(z7 s2).sqT hb,hk,hJ.len r hrm,hwl,fun H3 s3=>⟨s3 _ _ e2,CN.mk (by rw [List.length_map];exact hi') ⟨?_,hi',zw,zt (s2.trans s3) n2 _,n2⟩⟩⟩
  rw [List.take_add_one,List.getElem?_map,hc]
  simp
 ·rintro D ys H2 ⟨rfl,hi,e2,s2,n2⟩
  rw [List.length_map] at e2
  walk_at "rp"
  refine ⟨_,SqL.of e2,?_⟩
  have:=q H2 (s1.trans s2)
  unfold yg at this
  rw [List.take_of_length_le (by rw [List.length_map];exact Nat.le_refl _)]
  exact this
def wt (all rs:List (List Bool)) (ws:List Int) (m:Nat):List (List Bool):=all.filter fun k=>all.all fun k'=>decide (yg k rs ws m≤yg k' rs ws m)
theorem cw {all rs:List (List Bool)}{ws:List Int}{m:Nat}{M:Int} (hM:M∈all.map fun k=>yg k rs ws m) (hle:∀ x∈all.map fun k=>yg k rs ws m,M≤x):(all.filter fun k=>decide (yg k rs ws m = M)) = wt all rs ws m:=by
 unfold wt
 refine List.filter_congr fun k hk=>?_
 have h1:=hle _ (List.mem_map_of_mem (f:=fun k=>yg k rs ws m) hk)
 by_cases h:yg k rs ws m = M
 ·rw [decide_eq_true h]
  refine (List.all_eq_true.mpr fun k' hk'=>decide_eq_true ?_).symm
  rw [h]
  exact hle _ (List.mem_map_of_mem (f:=fun k=>yg k rs ws m) hk')
 ·rw [decide_eq_false h]
  refine Bool.eq_false_iff.mpr (fun z=>h ?_) |>.symm
  obtain ⟨k',hk',e⟩:=List.mem_map.mp hM
  have:=of_decide_eq_true (List.all_eq_true.mp z k' hk')
  rw [e] at this
  exact Int.le_antisymm this h1
def ln (K:PySem.W.Frag):Sp:=fun vs H Q _=>∃ (a j:Addr) (us:List V) (ts:List Say) (xs:List Str) (J:List (Addr×List Bool)) (wv:V) (ws:List Int),vs = [.ref a,.ref j,wv]∧SqT K H a us∧SaysAt K H us ts∧Lst ts xs∧JudgesAt K H j J ts.length∧WAt K H wv ts.length ws ∧
 ∀ (p:Addr) (H':Hp) (ss:List Str) (all:List (List Bool)) (R:List (Addr×List Bool)),H p = none→Same H H'→H' p = some (.lst (R.map fun r=>V.ref r.1))→(∀ r∈R,SqT K H' r.1 (r.2.map V.bl))→NamesOf ts ss→FitRows ts ss all→R.map (·.2) = wt all (J.map (·.2)) ws ts.length→R.length≤32→Q (.ref p) H'
theorem sc_nearest:zu ["sayings","judges","weights","rows","distances","least"] ["sayings","judges","weights"] (z4 (top 22)):=⟨rfl,rfl,rfl,by decide +kernel,rfl,by decide +kernel,by decide +kernel⟩
theorem dh (D:DefD K mg "nearest" (top 22) ["sayings","judges","weights"] [.none]) (C_fit_rows:zx P w K mg base 44 "fit_rows" ["sayings"] (v6 K)) (C_distance:CalleeD P w K mg base 2 "distance" ["row","judges","weights"] [.none] (pk K)) (mg_zip:mg "zip" = none) (mg_min:mg "min" = none) :
  CalleeD P w K mg base 45 "nearest" ["sayings","judges","weights"] [.none] (ln K):=by
 refine D.callee sc_nearest (fun vs H Q E h=>?_) fun f cdv A outer s H vs Q E hr h=>?_
 ·obtain ⟨a,j,us,ts,xs,J,wv,ws,rfl,_⟩:=h
  rfl
 have nd:=sc_nearest.nd
 obtain ⟨a,j,us,ts,xs,J,wv,ws,rfl,ha,hS,hL,hJ,hw,q⟩:=h
 have h6:=hL.hi
 refine ⟨[some (.ref a),some (.ref j),some wv,none,none,none],_,rfl,(z5 (zo 3 nd (zv C_fit_rows hr (by omega) (z9 (z8 0) z6)))
  (z5 (wq 4 nd (ixs:=[1,2]) (zl (own:=["row"]) (N:=["judges","weights"]) rfl rfl rfl rfl rfl rfl rfl (by decide +kernel) rfl rfl rfl) rfl (y3 (z8 3)) (fun _ _ _ _=>yq) (fun _ _ _ _=>(zv C_distance.full hr (by omega) (z9 (z8 0) (z9 (z8 1) (z9 (z8 2) z6))))) rfl)
  (z5 (zo 5 nd (zp (Pw rfl) rfl mg_min bo (z9 (z8 4) z6)))
  (zy (zr (Z9 (ixs:=[5]) (zl (own:=["row","far"]) (N:=["least"]) rfl rfl rfl rfl rfl rfl rfl (by decide +kernel) rfl rfl rfl) rfl (Nl rfl mg_zip (z9 (z8 3) (z9 (z8 4) z6))) (fun _ _ _ _=>(wc (zd (wx hr.units) (z8 1) (z8 2) (zh _)))) (fun _ _ _ _=>(z8 0)) rfl)))))),?_⟩
 walk_at "rp"
 refine ⟨a,us,ts,xs,rfl,ha,hS,hL,fun b H1 ss R nb s1 e1 hR hN hF hRl=>?_⟩
 have hRm:∀ r∈R,r.2.length = ts.length:=fun r hr=>w4 hF (List.mem_map_of_mem (f:=(·.2)) hr)
 have hR1:=je hF
 walk_at "rp"
 refine .inl ⟨⟨_,SqL.of e1⟩,fun C s₀ H₀ ex=>?_⟩
 refine tm (xs:=R.map fun r=>V.ref r.1) (fun D i ys H2=>ys = ((R.take i).map fun r=>yg r.2 (J.map (·.2)) ws ts.length).map V.int∧i≤R.length∧H2 D = some (.lst ys)∧Same H1 H2∧H1 D = none) (by rw [List.length_map,sizeLine_eq];omega) ?_ ?_ ?_ ?_
 ·intro D H2 n2 s2 e2
  exact ⟨rfl,Nat.zero_le _,e2,s2,n2⟩
 ·rintro D i ys H2 ⟨rfl,hi,e2,s2,_⟩
  exact ⟨SqL.of (s2 _ _ e1),e2,by simp;omega⟩
 ·rintro D i v ys H2 hv ⟨rfl,hi,e2,s2,n2⟩
  rw [List.getElem?_map] at hv
  cases hc:R[i]? with
  | none=>rw [hc] at hv;cases hv
  | some r =>
  rw [hc] at hv
  cases hv
  have hi':i < R.length:=(List.getElem?_eq_some_iff.mp hc).1
  have hrm:=List.mem_of_getElem? hc
  have t2:=z7 (s1.trans s2)
  walk_at "rp"
  refine ⟨r.1,j,r.2,J,wv,ws,ts.length,rfl,(z7 s2).sqT (hR r hrm),hRm r hrm,by omega,hJ.mono t2,hw.mono t2,fun H3 s3=>⟨s3 _ _ e2,CN.mk (by rw [List.length_map];exact hi') ⟨?_,hi',zw,zt (s2.trans s3) n2 _,n2⟩⟩⟩
  rw [List.take_add_one,hc]
  simp
 rintro D2 ys H2 ⟨rfl,_,e2,s2,n2⟩
 rw [List.length_map,List.take_length] at e2
 walk_at "rp"
 refine ⟨_,SqL.of e2,by rw [List.length_map];omega,fun M hM hle=>?_⟩
 walk_at "rp"
 refine ⟨⟨⟨_,SqL.of (s2 _ _ e1)⟩,⟨_,SqL.of e2⟩⟩,fun C s₀ H₀ ex=>?_⟩
 refine Xz (xs:=R.map fun r=>V.ref r.1) (ys:=(R.map fun r=>yg r.2 (J.map (·.2)) ws ts.length).map V.int) (fun D i zs H3=>zs = (((R.take i).filter fun r=>decide (yg r.2 (J.map (·.2)) ws ts.length = M)).map fun r=>V.ref r.1)∧i≤R.length∧H3 D = some (.lst zs)∧Same H2 H3∧H2 D = none) (by rw [List.length_map,sizeLine_eq];omega) (by simp) ?_ ?_ ?_ ?_
 ·intro D H3 n3 s3 e3
  exact ⟨rfl,Nat.zero_le _,e3,s3,n3⟩
 ·rintro D i zs H3 ⟨rfl,hi,e3,s3,_⟩
  refine ⟨SqL.of (s3 _ _ (s2 _ _ e1)),SqL.of (s3 _ _ e2),e3,?_⟩
  rw [List.length_map]
  exact Nat.le_trans (List.length_filter_le _ _) (by rw [List.length_take];omega)
 ·rintro D i u v zs H3 H4 hu hv ⟨rfl,hi,e3,s3,n3⟩ s4
  rw [List.getElem?_map] at hu hv
  rw [List.getElem?_map] at hv
  cases hc:R[i]? with
  | none=>rw [hc] at hu;cases hu
  | some r =>
  rw [hc] at hu hv
  cases hu
  cases hv
  have hi':i < R.length:=(List.getElem?_eq_some_iff.mp hc).1
  walk_at "rp"
  have et:R.take (i + 1) = R.take i ++ [r]:=by rw [List.take_add_one,hc];rfl
  by_cases hd:yg r.2 (J.map (·.2)) ws ts.length = M
  ·rw [decide_eq_true hd]
   walk_at "rp"
   refine ⟨s4 _ _ e3,CN.mk (by rw [List.length_map];exact hi') ⟨?_,hi',zw,zt (s3.trans s4) n3 _,n3⟩⟩
   rw [et,List.filter_append,List.map_append,List.filter_cons_of_pos (by simpa using hd)]
   rfl
  ·rw [decide_eq_false hd]
   walk_at "rp"
   refine CN.mk (by rw [List.length_map];exact hi') ⟨?_,hi',s4 _ _ e3,s3.trans s4,n3⟩
   rw [et,List.filter_append,List.filter_cons_of_neg (by simpa using hd),List.filter_nil,List.append_nil]
 ·rintro D zs H3 ⟨rfl,hi,e3,s3,n3⟩
  rw [List.length_map,List.take_length] at e3
  have s13:=s2.trans s3
  refine q D H3 ss (R.map (·.2)) _ (zc (s1.trans s2) n3) (s1.trans s13) e3 (fun r hr=>(z7 s13).sqT (hR r (List.mem_filter.mp hr).1)) hN hF ?_ (Nat.le_trans (List.length_filter_le _ _) hRl)
  rw [← cw (M:=M) (by simpa using hM) (by simpa using hle),List.filter_map]
  rfl
def ax (K:PySem.W.Frag):Sp:=fun vs H Q _=>∃ (a:Addr) (J:List (Addr×List Bool)) (m j:Nat) (t:Bool),vs = [.ref a,.int (j:Int),.bl t]∧JudgesAt K H a J m∧j < m ∧
 ∀ (p:Addr) (H':Hp),H p = none→Same H H'→H' p = some (.lst ((yl (J.map (·.2)) j t J.length).map fun (n:Nat)=>V.int (n:Int)))→Q (.ref p) H'
theorem sc_who:zu ["judges","number","truth"] ["judges","number","truth"] (z4 (top 1)):=⟨rfl,rfl,rfl,by decide +kernel,rfl,by decide +kernel,by decide +kernel⟩
theorem P0 (D:Def K mg "who_say" (top 1) ["judges","number","truth"]) (mg_enumerate:mg "enumerate" = none):zx P w K mg base 1 "who_say" ["judges","number","truth"] (ax K):=by
 refine D.callee sc_who (fun vs H Q E h=>?_) fun f cdv A outer s H vs Q E hr h=>?_
 ·obtain ⟨a,J,m,j,t,rfl,_⟩:=h
  rfl
 have nd:=sc_who.nd
 obtain ⟨a,J,m,j,t,rfl,hJ,hj,q⟩:=h
 have hhi:=hJ.hi
 refine ⟨[some (.ref a),some (.int (j:Int)),some (.bl t)],_,rfl,(zy (zr (Z9 (ixs:=[1,2]) (zl (own:=["judge","row"]) (N:=["number","truth"]) rfl rfl rfl rfl rfl rfl rfl (by decide +kernel) rfl rfl rfl) rfl (Vv rfl mg_enumerate (z9 (z8 0) z6)) (fun _ _ _ _=>(wc (zd (wx hr.units) (yu (z8 1) (z8 2) (fun _ _=>rfl)) (z8 3) (zh _)))) (fun _ _ _ _=>(z8 0)) rfl))),?_⟩
 walk_at "rp"
 refine ⟨⟨_,hJ.sq⟩,fun C s₀ H₀ ex=>?_⟩
 refine Xy (xs:=J.map fun r=>V.ref r.1) (fun D i ys H2=>ys = (yl (J.map (·.2)) j t i).map (fun (n:Nat)=>V.int (n:Int))∧H2 D = some (.lst ys)∧Same H H2∧H D = none) (by rw [List.length_map,sizeLine_eq];omega) ?_ ?_ ?_ ?_
 ·intro D H2 n2 s2 e2
  exact ⟨rfl,e2,s2,n2⟩
 ·rintro D i ys H2 ⟨rfl,e2,s2,_⟩
  exact ⟨(z7 s2).sqT hJ.sq,e2,by rw [List.length_map];exact o7 _ _ _ _⟩
 ·rintro D i v ys H2 H3 hv ⟨rfl,e2,s2,n2⟩ s3
  rw [List.getElem?_map] at hv
  cases hc2:J[i]? with
  | none=>rw [hc2] at hv;cases hv
  | some r =>
   rw [hc2] at hv
   cases hv
   have hi:i < J.length:=(List.getElem?_eq_some_iff.mp hc2).1
   have hrm:=List.mem_of_getElem? hc2
   have eg:(J.map (·.2)).getD i [] = r.2:=by rw [List.getD_eq_getElem?_getD,List.getElem?_map,hc2];rfl
   walk_at "rp"
   refine ⟨_,_,.inr ((z7 (s2.trans s3)).sqT (hJ.row r hrm)),i8 (by rw [hJ.len r hrm];exact hj),?_⟩
   walk_at "rp"
   have he:decide (r.2.getD j false = t) = (r.2.getD j false == t):=by cases r.2.getD j false <;> cases t <;> rfl
   rw [he]
   cases hc:(r.2.getD j false == t) with
   | true =>
    walk_at "rp"
    refine ⟨s3 _ _ e2,CN.mk (by rw [List.length_map];exact hi) ⟨?_,zw,zt (s2.trans s3) n2 _,n2⟩⟩
    rw [vf,eg,if_pos hc,List.map_append]
    rfl
   | false =>
    walk_at "rp"
    refine CN.mk (by rw [List.length_map];exact hi) ⟨?_,s3 _ _ e2,s2.trans s3,n2⟩
    rw [vf,eg,if_neg (by rw [hc];decide),List.append_nil]
 ·rintro D ys H2 ⟨rfl,e2,s2,n2⟩
  rw [List.length_map] at e2
  exact q D H2 n2 s2 e2
def lj (K:PySem.W.Frag):Sp:=fun vs H Q _=>∃ (a:Addr) (J:List (Addr×List Bool)) (m j:Nat),vs = [.ref a,.int (j:Int)]∧JudgesAt K H a J m∧j < m∧∀ H',Same H H'→Q (.bl (ze (J.map (·.2)) j)) H'
theorem sc_mostyes:zu ["judges","number"] ["judges","number"] (z4 (top 2)):=⟨rfl,rfl,rfl,by decide +kernel,rfl,by decide +kernel,by decide +kernel⟩
theorem de (D:Def K mg "most_say_yes" (top 2) ["judges","number"]) (C_who_say:zx P w K mg base 1 "who_say" ["judges","number","truth"] (ax K)) (mg_len:mg "len" = none):zx P w K mg base 2 "most_say_yes" ["judges","number"] (lj K):=by
 refine D.callee sc_mostyes (fun vs H Q E h=>?_) fun f cdv A outer s H vs Q E hr h=>?_
 ·obtain ⟨a,J,m,j,rfl,_⟩:=h
  rfl
 have nd:=sc_mostyes.nd
 obtain ⟨a,J,m,j,rfl,hJ,hj,q⟩:=h
 have hhi:=hJ.hi
 refine ⟨[some (.ref a),some (.int (j:Int))],_,rfl,(zy (zr (vv Sr (zq w6 zz (zp ye rfl mg_len yx (z9 (zv C_who_say hr (by omega) (z9 (z8 0) (z9 (z8 1) (z9 wb z6)))) z6))) (zp ye rfl mg_len yx (z9 (z8 0) z6)) (zh _)))),?_⟩
 walk_at "rp"
 refine ⟨a,J,m,j,true,rfl,hJ,hj,fun p H1 n1 s1 e1=>?_⟩
 walk_at "rp"
 refine ⟨_,.inl (SqL.of e1),?_⟩
 have e:=o5 (J.map (·.2)) j
 rw [List.length_map] at e
 have hle:=o7 (J.map (·.2)) j true J.length
 rw [List.length_map]
 refine ⟨cm (by omega),_,.inr ((z7 s1).sqT hJ.sq),?_⟩
 have:=q H1 s1
 unfold ze at this
 rw [List.length_map] at this ⊢
 rw [e]
 exact this
def d6 (K:PySem.W.Frag):Sp:=fun vs H Q _=>∃ (a:Addr) (J:List (Addr×List Bool)) (m:Nat),vs = [.ref a]∧JudgesAt K H a J m∧m≤10∧∀ (p:Addr) (H':Hp),Same H H'→SqT K H' p ((ya (J.map (·.2)) m).map V.bl)→Q (.ref p) H'
theorem qy {K:PySem.W.Frag}{H:Hp}{a:Addr}{J:List (Addr×List Bool)}{m:Nat} (h:JudgesAt K H a J m):∃ r,r∈J∧atI (J.map fun r=>V.ref r.1) 0 = some (.ref r.1):=by
 have:=h.lo
 match J,this with
 | r :: R,_=>exact ⟨r,by simp,yo (j:=0) rfl⟩
theorem sc_most:zu ["judges"] ["judges"] (z4 (top 3)):=⟨rfl,rfl,rfl,by decide +kernel,rfl,by decide +kernel,by decide +kernel⟩
theorem S2 (D:Def K mg "most" (top 3) ["judges"]) (C_most_say_yes:zx P w K mg base 2 "most_say_yes" ["judges","number"] (lj K)) (mg_len:mg "len" = none) (mg_range:mg "range" = none) (mg_tuple:mg "tuple" = none):zx P w K mg base 3 "most" ["judges"] (d6 K):=by
 refine D.callee sc_most (fun vs H Q E h=>?_) fun f cdv A outer s H vs Q E hr h=>?_
 ·obtain ⟨a,J,m,rfl,_⟩:=h
  rfl
 have nd:=sc_most.nd
 obtain ⟨a,J,m,rfl,hJ,hm,q⟩:=h
 obtain ⟨r,hr0,er⟩:=qy hJ
 refine ⟨[some (.ref a)],_,rfl,(zy (zr (za yi rfl mg_tuple y4 (z9 (yp (ixs:=[0]) (zl (own:=["number"]) (N:=["judges"]) rfl rfl rfl rfl rfl rfl rfl (by decide +kernel) rfl rfl rfl) rfl (yh rfl mg_range (z9 (zp ye rfl mg_len yx (z9 (yu (z8 0) zz (fun _ _=>rfl)) z6)) z6)) (fun _ _ _ _=>yq) (fun _ _ _ _=>(zv C_most_say_yes hr (by omega) (z9 (z8 1) (z9 (z8 0) z6)))) rfl) z6)))),?_⟩
 walk_at "rp"
 refine ⟨_,_,.inr hJ.sq,er,?_⟩
 walk_at "rp"
 refine ⟨_,.inr (hJ.row r hr0),?_⟩
 rw [List.length_map,hJ.len r hr0]
 refine ⟨⟨by omega,by omega⟩,fun C s₀ H₀ ex=>?_⟩
 rw [Int.toNat_natCast]
 refine xy (fun D i ys H2=>ys = (ya (J.map (·.2)) i).map V.bl∧H2 D = some (.lst ys)∧Same H H2∧H D = none) (yc (by omega)) ?_ ?_ ?_ ?_
 ·intro D H2 n2 s2 e2
  exact ⟨rfl,e2,s2,n2⟩
 ·rintro D i ys H2 ⟨rfl,e2,s2,_⟩
  exact ⟨e2,by rw [List.length_map,wa]⟩
 ·rintro D i ys H2 hi ⟨rfl,e2,s2,n2⟩
  walk_at "rp"
  rw [Int.zero_add]
  refine ⟨a,J,m,i,rfl,hJ.mono (z7 s2),hi,fun H3 s3=>⟨s3 _ _ e2,CN.mk hi ⟨?_,zw,zt (s2.trans s3) n2 _,n2⟩⟩⟩
  rw [jo,List.map_append]
  rfl
 ·rintro D ys H2 ⟨rfl,e2,s2,n2⟩
  exact ⟨_,.inl (SqL.of e2),fun p H3 s3 h3=>q p H3 (s2.trans s3) h3⟩
def ij (K:PySem.W.Frag):Sp:=fun vs H Q _=>∃ (r a:Addr) (k:List Bool) (us:List V) (ps:List (Nat×Bool)),vs = [.ref r,.ref a]∧SqT K H r (k.map V.bl)∧SqT K H a us∧PairsAt K H us ps∧(∀ p∈ps,p.1 < k.length)∧Q (.bl (agr k ps)) H
theorem sc_agrees:zu ["row","part","number","truth"] ["row","part"] (z4 (top 16)):=⟨rfl,rfl,rfl,by decide +kernel,rfl,by decide +kernel,by decide +kernel⟩
theorem Yt (D:Def K mg "agrees" (top 16) ["row","part"]):zx P w K mg base 1 "agrees" ["row","part"] (ij K):=by
 refine D.callee sc_agrees (fun vs H Q E h=>?_) fun f cdv A outer s H vs Q E hr h=>?_
 ·obtain ⟨r,a,k,us,ps,rfl,_⟩:=h
  rfl
 have nd:=sc_agrees.nd
 obtain ⟨r,a,k,us,ps,rfl,hk,ha,hP,hlt,q⟩:=h
 refine ⟨[some (.ref r),some (.ref a),none,none],_,rfl,(z5 (xj PassesOwn.never rfl (y3 (z8 1)) (Vy 2 3 rfl nd) (zy (yr (zd (gk hr.units) (yu (z8 0) (z8 2) (fun _ _=>rfl)) (z8 3) (zh _)) (zy (zr wb)) zi)))
  (zy (zr wb))),?_⟩
 walk_at "rp"
 refine .inr ⟨⟨_,ha⟩,xq (xs:=us) (fun i σ H2=>∃ x2 x3,σ = [some (.ref r),some (.ref a),x2,x3]∧H2 = H∧agr k (ps.take i) = true) ⟨none,none,rfl,rfl,rfl⟩ ?_ ?_ ?_⟩
 ·rintro i σ H2 _ ⟨x2,x3,rfl,rfl,_⟩
  exact ha
 ·rintro i x σ H2 hx ⟨x2,x3,rfl,rfl,hag⟩
  obtain ⟨b,p,hp,rfl,hb⟩:=hP.at i x hx
  have hpm:=List.mem_of_getElem? hp
  walk_at "rp"
  refine ⟨b,_,_,rfl,hb,?_⟩
  walk_at "rp"
  refine ⟨_,_,.inr hk,i8 (hlt p hpm),?_⟩
  walk_at "rp"
  have he:decide (k.getD p.1 false = p.2) = (k.getD p.1 false == p.2):=by cases k.getD p.1 false <;> cases p.2 <;> rfl
  rw [he]
  cases hc:(k.getD p.1 false == p.2) with
  | true =>
   walk_at "rp"
   exact ⟨_,_,rfl,trivial,by rw [Uh hp,hag,hc];rfl⟩
  | false =>
   walk_at "rp"
   rw [O1 hpm hc] at q
   exact q
 ·rintro σ H2 ⟨x2,x3,rfl,rfl,hag⟩
  walk_at "rp"
  rw [hP.len,List.take_length] at hag
  rw [hag] at q
  exact q
def W6 (K:PySem.W.Frag):Sp:=fun vs H Q _=>∃ (r a:Addr) (R:List (Addr×List Bool)) (us:List V) (ps:List (Nat×Bool)),vs = [.ref r,.ref a]∧SqL K H r (R.map fun q=>V.ref q.1)∧(∀ q∈R,SqT K H q.1 (q.2.map V.bl))∧SqT K H a us∧PairsAt K H us ps∧(∀ q∈R,∀ p∈ps,p.1 < q.2.length)∧Q (.bl (R.any fun q=>agr q.2 ps)) H
theorem sc_any_agrees:zu ["rows","part","row"] ["rows","part"] (z4 (top 17)):=⟨rfl,rfl,rfl,by decide +kernel,rfl,by decide +kernel,by decide +kernel⟩
theorem mf (D:Def K mg "any_agrees" (top 17) ["rows","part"]) (C_agrees:zx P w K mg base 1 "agrees" ["row","part"] (ij K)):zx P w K mg base 2 "any_agrees" ["rows","part"] (W6 K):=by
 refine D.callee sc_any_agrees (fun vs H Q E h=>?_) fun f cdv A outer s H vs Q E hr h=>?_
 ·obtain ⟨r,a,R,us,ps,rfl,_⟩:=h
  rfl
 have nd:=sc_any_agrees.nd
 obtain ⟨r,a,R,us,ps,rfl,hr0,hR,ha,hP,hlt,q⟩:=h
 refine ⟨[some (.ref r),some (.ref a),none],_,rfl,(z5 (xj PassesOwn.never rfl (y3 (z8 0)) (wk 2 nd) (zy (yr (uq (zv C_agrees hr (by omega) (z9 (z8 2) (z9 (z8 1) z6)))) (zy (zr wb)) zi)))
  (zy (zr wb))),?_⟩
 walk_at "rp"
 refine .inl ⟨⟨_,hr0⟩,v4 (xs:=R.map fun q=>V.ref q.1) (fun i σ H2=>∃ x2,σ = [some (.ref r),some (.ref a),x2]∧H2 = H∧((R.take i).any fun q=>agr q.2 ps) = false) ⟨none,rfl,rfl,rfl⟩ ?_ ?_ ?_⟩
 ·rintro i σ H2 _ ⟨x2,rfl,rfl,_⟩
  exact hr0
 ·rintro i x σ H2 hx ⟨x2,rfl,rfl,hno⟩
  rw [List.getElem?_map] at hx
  cases hi:R[i]? with
  | none=>rw [hi] at hx;cases hx
  | some e =>
   rw [hi] at hx
   cases hx
   have hm:=List.mem_of_getElem? hi
   walk_at "rp"
   refine ⟨e.1,a,e.2,us,ps,rfl,hR e hm,ha,hP,hlt e hm,?_⟩
   walk_at "rp"
   refine v3 (fun c9=>?_) (fun c9=>?_)
   ·have:(R.any fun q=>agr q.2 ps) = true:=List.any_eq_true.mpr ⟨e,hm,c9⟩
    rw [this] at q
    exact q
   ·refine ⟨_,rfl,trivial,?_⟩
    rw [List.take_add_one,hi,List.any_append,hno]
    simpa using c9
 ·rintro σ H2 ⟨x2,rfl,rfl,hno⟩
  walk_at "rp"
  rw [List.length_map,List.take_length] at hno
  rw [hno] at q
  exact q
def v9 (p:Nat×Bool) (ps:List (Nat×Bool)):List (Nat×Bool):=ps.filter fun q=>decide (q≠p)
theorem nu {p q:Nat×Bool}{ps:List (Nat×Bool)}{i:Nat} (h:ps[i]? = some q):v9 p (ps.take (i + 1)) = v9 p (ps.take i) ++ (if q = p then [] else [q]):=by
 unfold v9
 rw [List.take_add_one,h,List.filter_append]
 by_cases e:q = p
 ·simp [e]
 ·simp [e]
def lr (K:PySem.W.Frag):Sp:=fun vs H Q _=>∃ (a b:Addr) (us:List V) (ps:List (Nat×Bool)) (p:Nat×Bool),vs = [.ref a,.ref b]∧SqT K H a us∧PairsAt K H us ps∧ps.length < 64∧SqT K H b [.int (p.1:Int),.bl p.2] ∧
 ∀ (r:Addr) (H':Hp) (us':List V),Same H H'→SqT K H' r us'→PairsAt K H' us' (v9 p ps)→Q (.ref r) H'
theorem sc_without:zu ["part","pair"] ["part","pair"] (z4 (top 24)):=⟨rfl,rfl,rfl,by decide +kernel,rfl,by decide +kernel,by decide +kernel⟩
theorem dj (D:Def K mg "without" (top 24) ["part","pair"]) (mg_tuple:mg "tuple" = none):zx P w K mg base 1 "without" ["part","pair"] (lr K):=by
 refine D.callee sc_without (fun vs H Q E h=>?_) fun f cdv A outer s H vs Q E hr h=>?_
 ·obtain ⟨a,b,us,ps,p,rfl,_⟩:=h
  rfl
 have nd:=sc_without.nd
 obtain ⟨a,b,us,ps,p,rfl,ha,hP,h64,hb,q⟩:=h
 refine ⟨[some (.ref a),some (.ref b)],_,rfl,(zy (zr (za yi rfl mg_tuple y4 (z9 (yp (ixs:=[1]) (zl (own:=["kept"]) (N:=["pair"]) rfl rfl rfl rfl rfl rfl rfl (by decide +kernel) rfl rfl rfl) rfl (y3 (z8 0)) (fun _ _ _ _=>(wc (zd (gk hr.units) (z8 0) (z8 1) (zh _)))) (fun _ _ _ _=>(z8 0)) rfl) z6)))),?_⟩
 walk_at "rp"
 refine .inr ⟨⟨_,ha⟩,fun C s₀ H₀ ex=>?_⟩
 have hl:=hP.len
 refine vy (xs:=us) (fun D n ys H3=>PairsAt K H ys (v9 p (ps.take n))∧ys.length≤n∧H3 D = some (.lst ys)∧Same H H3∧H D = none) (by rw [sizeLine_eq];omega) ?_ ?_ ?_ ?_
 ·intro D H3 n3 s3 e3
  exact ⟨trivial,Nat.le_refl _,e3,s3,n3⟩
 ·rintro D n ys H3 ⟨_,hy,e3,s3,_⟩
  exact ⟨(z7 s3).sqT ha,e3,hy⟩
 ·rintro D n v ys H3 hv ⟨hy,hyl,e3,s3,n3⟩
  obtain ⟨c,p2,hp2,rfl,hc⟩:=hP.at n v hv
  have hn:n < us.length:=(List.getElem?_eq_some_iff.mp hv).1
  walk_at "rp"
  refine ⟨_,_,gc ((z7 s3).sqT hc),gc ((z7 s3).sqT hb),rk _,rk _,?_⟩
  rw [U0]
  by_cases e:p2 = p
  ·have:decide ((((p2.1:Nat):Int),p2.2) = (((p.1:Nat):Int),p.2)) = true:=by rw [e];simp
   rw [this]
   walk_at "rp"
   refine CN.mk hn ⟨?_,by omega,e3,s3,n3⟩
   rw [nu hp2,if_pos e,List.append_nil]
   exact hy
  ·have:decide ((((p2.1:Nat):Int),p2.2) = (((p.1:Nat):Int),p.2)) = false:=by
    refine decide_eq_false fun z=>e ?_
    injection z with z1 z2
    exact Prod.ext (Int.ofNat.inj z1) z2
   rw [this]
   walk_at "rp"
   refine ⟨e3,CN.mk hn ⟨?_,by rw [List.length_append];simp only [List.length_cons,List.length_nil];omega,zw,zt s3 n3 _,n3⟩⟩
   rw [nu hp2,if_neg e]
   exact PairsAt.app hy ⟨⟨c,rfl,hc⟩,trivial⟩
 ·rintro D ys H3 ⟨hy,hyl,e3,s3,n3⟩
  walk_at "rp"
  rw [hl,List.take_length] at hy
  exact ⟨_,.inl (SqL.of e3),fun r H4 s4 h4=>q r H4 ys (s3.trans s4) h4 (hy.mono (z7 (s3.trans s4)))⟩
def wu (R:List (List Bool)) (os:List (Nat×Bool)) (l nd:List (Nat×Bool)):List (Nat×Bool):=l.foldl (fun nd p=>if (R.any fun k=>agr k (v9 p nd ++ os)) = true then nd else v9 p nd) nd
theorem Yj (p:Nat×Bool) (ps:List (Nat×Bool)):(v9 p ps).length≤ps.length:=List.length_filter_le _ _
theorem ku {p q:Nat×Bool}{ps:List (Nat×Bool)} (h:q∈v9 p ps):q∈ps:=(List.mem_filter.mp h).1
theorem cx {R:List (List Bool)}{os l nd:List (Nat×Bool)}{i:Nat}{p:Nat×Bool} (h:l[i]? = some p):wu R os (l.take (i + 1)) nd = if (R.any fun k=>agr k (v9 p (wu R os (l.take i) nd) ++ os)) = true then wu R os (l.take i) nd else v9 p (wu R os (l.take i) nd):=by
 unfold wu
 rw [List.take_add_one,h,List.foldl_append]
 rfl
theorem Uk {R:List (Addr×List Bool)}{f:List Bool→Bool}:(R.any fun q=>f q.2) = ((R.map (·.2)).any f):=by
 rw [List.any_map];rfl
def io (K:PySem.W.Frag):Sp:=fun vs H Q _=>∃ (r a o:Addr) (R:List (Addr×List Bool)) (us ws:List V) (ps os:List (Nat×Bool)),vs = [.ref r,.ref a,.ref o]∧SqL K H r (R.map fun q=>V.ref q.1)∧(∀ q∈R,SqT K H q.1 (q.2.map V.bl))∧SqT K H a us∧PairsAt K H us ps∧SqT K H o ws∧PairsAt K H ws os ∧
 ps.length < 64∧os.length < 64∧(∀ q∈R,∀ p∈ps,p.1 < q.2.length)∧(∀ q∈R,∀ p∈os,p.1 < q.2.length) ∧
 ∀ (c:Addr) (H':Hp) (us':List V),Same H H'→SqT K H' c us'→PairsAt K H' us' (wu (R.map (·.2)) os ps ps)→Q (.ref c) H'
theorem sc_needed:zu ["rows","part","others","needed","pair","less"] ["rows","part","others"] (z4 (top 25)):=⟨rfl,rfl,rfl,by decide +kernel,rfl,by decide +kernel,by decide +kernel⟩
theorem Yy (D:Def K mg "needed_against" (top 25) ["rows","part","others"]) (C_without:zx P w K mg base 1 "without" ["part","pair"] (lr K)) (C_any_agrees:zx P w K mg base 2 "any_agrees" ["rows","part"] (W6 K)):zx P w K mg base 3 "needed_against" ["rows","part","others"] (io K):=by
 refine D.callee sc_needed (fun vs H Q E h=>?_) fun f cdv A outer s H vs Q E hr h=>?_
 ·obtain ⟨r,a,o,R,us,ws,ps,os,rfl,_⟩:=h
  rfl
 have nd:=sc_needed.nd
 obtain ⟨r,a,o,R,us,ws,ps,os,rfl,hr0,hR,ha,hP,ho,hO,h64,h64',hlt,hlt',q⟩:=h
 refine ⟨[some (.ref r),some (.ref a),some (.ref o),none,none,none],_,rfl,(z5 (zo 3 nd (z8 1))
  (z5 (xj PassesOwn.never rfl (y3 (z8 1)) (wk 4 nd) (z5 (zo 5 nd (zv C_without hr (by omega) (z9 (z8 3) (z9 (z8 4) z6))))
  (zy (yr (uf (uq (zv C_any_agrees hr (by omega) (z9 (z8 0) (z9 (zq zf (z8 5) (z8 2)) z6))))) (zy (zo 3 nd (z8 5))) zi))))
  (zy (zr (z8 3))))),?_⟩
 have hl:=hP.len
 walk_at "rp"
 refine .inr ⟨⟨_,ha⟩,xq (xs:=us) (fun i σ H2=>∃ c cs x4 x5,σ = [some (.ref r),some (.ref a),some (.ref o),some (.ref c),x4,x5]∧Same H H2∧SqT K H2 c cs∧PairsAt K H2 cs (wu (R.map (·.2)) os (ps.take i) ps)∧(∀ p∈wu (R.map (·.2)) os (ps.take i) ps,p∈ps)∧(wu (R.map (·.2)) os (ps.take i) ps).length≤ps.length) ⟨a,us,none,none,rfl,Same.refl _,ha,hP,fun p hp=>hp,Nat.le_refl _⟩ ?_ ?_ ?_⟩
 ·rintro i σ H2 _ ⟨c,cs,x4,x5,rfl,s2,_⟩
  exact (z7 s2).sqT ha
 ·rintro i x σ H2 hx ⟨c,cs,x4,x5,rfl,s2,hc,hcs,hin,hle⟩
  obtain ⟨b,p,hp,rfl,hb⟩:=hP.at i x hx
  walk_at "rp"
  refine ⟨c,b,cs,_,p,rfl,hc,hcs,by omega,(z7 s2).sqT hb,fun d H3 ds s3 hd hds=>?_⟩
  walk_at "rp"
  have s23:=s2.trans s3
  have hll:=Yj p (wu (R.map (·.2)) os (ps.take i) ps)
  refine .inr ⟨ds,ws,hd,(z7 s23).sqT ho,by rw [hds.len,hO.len,sizeLine_eq];omega,fun e H4 s4 he=>?_⟩
  have s234:=s23.trans s4
  refine ⟨r,e,R,ds ++ ws,v9 p (wu (R.map (·.2)) os (ps.take i) ps) ++ os,rfl,s234.seq hr0,fun q hq=>(z7 s234).sqT (hR q hq),he,PairsAt.app (hds.mono (z7 s4)) (hO.mono (z7 s234)),fun q hq y hy=>?_,?_⟩
  ·rcases List.mem_append.mp hy with z | z
   ·exact hlt q hq y (hin y (ku z))
   ·exact hlt' q hq y z
  walk_at "rp"
  rw [cx hp,Uk (f:=fun k=>agr k (v9 p (wu (R.map (·.2)) os (ps.take i) ps) ++ os))]
  cases hc9:((R.map (·.2)).any fun k=>agr k (v9 p (wu (R.map (·.2)) os (ps.take i) ps) ++ os)) with
  | true =>
   walk_at "rp"
   exact ⟨c,cs,_,_,rfl,s234,(z7 (s3.trans s4)).sqT hc,hcs.mono (z7 (s3.trans s4)),hin,hle⟩
  | false =>
   walk_at "rp"
   exact ⟨d,ds,_,_,rfl,s234,(z7 s4).sqT hd,hds.mono (z7 s4),fun y hy=>hin y (ku hy),by omega⟩
 ·rintro σ H2 ⟨c,cs,x4,x5,rfl,s2,hc,hcs,_⟩
  walk_at "rp"
  rw [hl,List.take_length] at hcs
  exact q c H2 cs s2 hc hcs
theorem sz1 {a:V}:[a].length≤sizeLine:=by simp only [List.length_cons,List.length_nil];rw [sizeLine_eq];decide
theorem sz2 {a b:V}:[a,b].length≤sizeLine:=by simp only [List.length_cons,List.length_nil];rw [sizeLine_eq];decide
def ReasonAt (K:PySem.W.Frag) (H:Hp) (v:V) (word:Str) (xs:List V):Prop:=∃ r c,v = .ref r∧SqT K H r [.str word,.ref c]∧SqT K H c xs
theorem ReasonAt.mono {K:PySem.W.Frag}{H H':Hp}{v:V}{word:Str}{xs:List V} (t:Tups H H') (h:ReasonAt K H v word xs):ReasonAt K H' v word xs :=
 let ⟨r,c,e,a,b⟩:=h;⟨r,c,e,t.sqT a,t.sqT b⟩
def pj (K:PySem.W.Frag):Sp:=fun vs H Q _=>∃ (a:Addr) (J:List (Addr×List Bool)) (m j:Nat) (t:Bool),vs = [.ref a,.int (j:Int),.bl t]∧JudgesAt K H a J m∧j < m ∧
 ∀ (v:V) (H':Hp),Same H H'→ReasonAt K H' v "judges" ((yl (J.map (·.2)) j t J.length).map fun n=>V.int ((n:Nat):Int))→Q v H'
theorem sc_by_judges:zu ["judges","number","truth"] ["judges","number","truth"] (z4 (top 27)):=⟨rfl,rfl,rfl,by decide +kernel,rfl,by decide +kernel,by decide +kernel⟩
theorem jq (D:Def K mg "by_judges" (top 27) ["judges","number","truth"]) (C_who_say:zx P w K mg base 1 "who_say" ["judges","number","truth"] (ax K)) (mg_tuple:mg "tuple" = none):zx P w K mg base 2 "by_judges" ["judges","number","truth"] (pj K):=by
 refine D.callee sc_by_judges (fun vs H Q E h=>?_) fun f cdv A outer s H vs Q E hr h=>?_
 ·obtain ⟨a,J,m,j,t,rfl,_⟩:=h
  rfl
 have nd:=sc_by_judges.nd
 obtain ⟨a,J,m,j,t,rfl,hJ,hj,q⟩:=h
 refine ⟨[some (.ref a),some (.int (j:Int)),some (.bl t)],_,rfl,(zy (zr (wy (z9 yz (z9 (za yi rfl mg_tuple y4 (z9 (zv C_who_say hr (by omega) (z9 (z8 0) (z9 (z8 1) (z9 (z8 2) z6)))) z6)) z6))))),?_⟩
 walk_at "rp"
 refine ⟨a,J,m,j,t,rfl,hJ,hj,fun p H1 n1 s1 e1=>?_⟩
 walk_at "rp"
 refine ⟨_,.inl (SqL.of e1),fun c H2 s2 h2=>⟨sz2,fun r H3 n3 s3 e3=>?_⟩⟩
 exact q _ H3 (s1.trans (s2.trans s3)) ⟨r,c,rfl,SqT.of e3,(z7 s3).sqT h2⟩
def ik (K:PySem.W.Frag):Sp:=fun vs H Q _=>∃ (r a:Addr) (R:List (Addr×List Bool)) (us:List V) (ps:List (Nat×Bool)) (j:Nat) (t:Bool),vs = [.ref r,.ref a,.int (j:Int),.bl t]∧SqL K H r (R.map fun q=>V.ref q.1)∧(∀ q∈R,SqT K H q.1 (q.2.map V.bl))∧SqT K H a us∧PairsAt K H us ps∧ps.length < 64∧(∀ q∈R,∀ p∈ps,p.1 < q.2.length)∧(∀ q∈R,j < q.2.length) ∧
 ∀ (v:V) (H':Hp) (us':List V),Same H H'→ReasonAt K H' v "follows" us'→PairsAt K H' us' (wu (R.map (·.2)) [(j,!t)] ps ps)→Q v H'
theorem sc_by_part:zu ["rows","part","number","truth"] ["rows","part","number","truth"] (z4 (top 28)):=⟨rfl,rfl,rfl,by decide +kernel,rfl,by decide +kernel,by decide +kernel⟩
theorem c8 (D:Def K mg "by_part" (top 28) ["rows","part","number","truth"]) (C_needed_against:zx P w K mg base 3 "needed_against" ["rows","part","others"] (io K)):zx P w K mg base 4 "by_part" ["rows","part","number","truth"] (ik K):=by
 refine D.callee sc_by_part (fun vs H Q E h=>?_) fun f cdv A outer s H vs Q E hr h=>?_
 ·obtain ⟨r,a,R,us,ps,j,t,rfl,_⟩:=h
  rfl
 have nd:=sc_by_part.nd
 obtain ⟨r,a,R,us,ps,j,t,rfl,hr0,hR,ha,hP,h64,hlt,hj,q⟩:=h
 refine ⟨[some (.ref r),some (.ref a),some (.int (j:Int)),some (.bl t)],_,rfl,(zy (zr (wy (z9 yz (z9 (zv C_needed_against hr (by omega) (z9 (z8 0) (z9 (z8 1) (z9 (wy (z9 (wy (z9 (z8 2) (z9 (gl (z8 3)) z6))) z6)) z6)))) z6))))),?_⟩
 walk_at "rp"
 refine ⟨sz2,fun x H1 n1 s1 e1=>⟨sz1,fun y H2 n2 s2 e2=>?_⟩⟩
 have s12:=s1.trans s2
 refine ⟨r,a,y,R,us,[.ref x],ps,[(j,!t)],rfl,s12.seq hr0,fun q hq=>(z7 s12).sqT (hR q hq),(z7 s12).sqT ha,hP.mono (z7 s12),SqT.of e2,⟨⟨x,rfl,(z7 s2).sqT (SqT.of e1)⟩,trivial⟩,h64,(by show 1 < 64;decide),hlt,fun q hq p hp=>?_,fun c H3 us' s3 h3 h4=>?_⟩
 ·rw [List.mem_singleton.mp hp]
  exact hj q hq
 walk_at "rp"
 refine ⟨sz2,fun z H4 n4 s4 e4=>?_⟩
 exact q _ H4 us' (s12.trans (s3.trans s4)) ⟨z,c,rfl,SqT.of e4,(z7 s4).sqT h3⟩ (h4.mono (z7 s4))
def rsnOk (K:PySem.W.Frag) (H:Hp) (R J:List (List Bool)) (said:Nat→Bool) (tk:List (Nat×Bool)) (n:Nat) (v:V):Prop :=
 (yd R said tk n = said n∧ReasonAt K H v "judges" ((yl J n (said n) J.length).map fun n=>V.int ((n:Nat):Int))) ∨
 (yd R said tk n = !said n∧∃ (ps:List (Nat×Bool)) (us:List V),ps.Perm tk∧ps.Pairwise (fun a b=>a.1 < b.1)∧ReasonAt K H v "follows" us∧PairsAt K H us (wu R [(n,said n)] ps ps))
theorem rsnOk.mono {K:PySem.W.Frag}{H H':Hp}{R J:List (List Bool)}{said:Nat→Bool}{tk:List (Nat×Bool)}{n:Nat}{v:V} (t:Tups H H'):rsnOk K H R J said tk n v→rsnOk K H' R J said tk n v
 | .inl ⟨h,r⟩=>.inl ⟨h,r.mono t⟩
 | .inr ⟨h,ps,us,hp,hs,r,pr⟩=>.inr ⟨h,ps,us,hp,hs,r.mono t,pr.mono t⟩
def kvR (ns:List Nat) (rv:List V):List (Key×V):=(ns.zip rv).map fun p=>(Sum.inl ((p.1:Nat):Int),p.2)
theorem Si {ns:List Nat}{rv:List V} (n:Nat) (v:V) (h:ns.length = rv.length):kvR (ns ++ [n]) (rv ++ [v]) = kvR ns rv ++ [(Sum.inl ((n:Nat):Int),v)]:=by
 unfold kvR
 rw [List.zip_append h,List.map_append]
 rfl
theorem Sj {ns:List Nat}{rv:List V}{p:Key×V} (h:p∈kvR ns rv):∃ n∈ns,p.1 = Sum.inl ((n:Nat):Int):=by
 obtain ⟨q,hq,rfl⟩:=List.mem_map.mp h
 exact ⟨q.1,(List.of_mem_zip hq).1,rfl⟩
theorem Z6:∀ {ns:List Nat}{rv:List V}{j n:Nat}{v:V},ns.Nodup→ns[j]? = some n→rv[j]? = some v→vh (kvR ns rv) (Sum.inl ((n:Nat):Int)) = some v
 | [],_,_,_,_,_,h,_=>by simp at h
 | _ :: _,[],_,_,_,_,_,h=>by simp at h
 | m :: ns,u :: rv,0,n,v,_,h1,h2=>by
  cases h1
  cases h2
  exact vm rfl
 | m :: ns,u :: rv,j + 1,n,v,hn,h1,h2=>by
  rw [List.nodup_cons] at hn
  have h1':ns[j]? = some n:=h1
  show vh ((Sum.inl ((m:Nat):Int),u) :: kvR ns rv) _ = some v
  rw [vk fun z=>?_]
  ·exact Z6 hn.2 h1' h2
  ·have z2:((m:Nat):Int) = (n:Int):=Sum.inl.inj z
   have z3:m = n:=Int.ofNat.inj z2
   exact hn.1 (z3 ▸ List.mem_of_getElem? h1')
theorem Sh {tk:List (Nat×Bool)}{p:Key×V} (h:p∈kvI (xn tk)):∃ n∈tk.map (·.1),p.1 = Sum.inl ((n:Nat):Int):=by
 obtain ⟨q,hq,rfl⟩:=List.mem_map.mp h
 obtain ⟨q',hq',rfl⟩:=List.mem_map.mp hq
 exact ⟨q'.1,List.mem_map_of_mem hq',rfl⟩
theorem Sg (tk:List (Nat×Bool)) (n:Nat) (b:Bool):kvI (xn (tk ++ [(n,b)])) = kvI (xn tk) ++ [(Sum.inl ((n:Nat):Int),V.bl b)]:=by
 unfold kvI xn
 rw [List.map_append,List.map_append]
 rfl
theorem Vb {ns:List Nat}{n:Nat} (h:n ∉ ns) {k:Key} (hk:∃ m∈ns,k = Sum.inl ((m:Nat):Int)):k≠Sum.inl ((n:Nat):Int):=by
 rintro rfl
 obtain ⟨m,hm,e⟩:=hk
 have e2:((n:Nat):Int) = (m:Int):=Sum.inl.inj e
 have e3:n = m:=Int.ofNat.inj e2
 exact h (e3 ▸ hm)
theorem Px {l:List Nat} (hN:l.Nodup) {i j x:Nat} (a:l[i]? = some x) (b:l[j]? = some x):i = j:=by
 obtain ⟨h1,e1⟩:=List.getElem?_eq_some_iff.mp a
 obtain ⟨h2,e2⟩:=List.getElem?_eq_some_iff.mp b
 exact (List.getElem_inj hN).mp (e1.trans e2.symm)
theorem Xm {ord:List Nat} (hn:ord.Nodup) {i n:Nat} (h:ord[i]? = some n):n ∉ ord.take i:=by
 intro z
 obtain ⟨j,hj,e⟩:=List.getElem_of_mem z
 rw [List.length_take] at hj
 rw [List.getElem_take] at e
 have e1:ord[j]? = some n:=List.getElem?_eq_some_iff.mpr ⟨by omega,e⟩
 have:=Px hn e1 h
 omega
theorem g6 {K:PySem.W.Frag}{H:Hp}:∀ {ps:List (Addr×(Int×Bool))}{qs:List (Nat×Bool)},ps.map (·.2) = xn qs→(∀ p∈ps,SqT K H p.1 [.int p.2.1,.bl p.2.2])→PairsAt K H (ps.map fun p=>V.ref p.1) qs
 | [],[],_,_=>trivial
 | [],_ :: _,h,_=>by simp [xn] at h
 | _ :: _,[],h,_=>by simp [xn] at h
 | p :: ps,q :: qs,h,hp=>by
  have h':p.2 :: ps.map (·.2) = (((q.1:Nat):Int),q.2) :: xn qs:=h
  obtain ⟨h1,h2⟩:=List.cons.inj h'
  refine ⟨⟨p.1,rfl,?_⟩,g6 h2 fun p' hp'=>hp p' (List.mem_cons_of_mem _ hp')⟩
  have:=hp p List.mem_cons_self
  rw [h1] at this
  exact this
theorem Ul {R:List (Addr×List Bool)}{ps tk:List (Nat×Bool)} (h:ps.Perm tk) (x:Nat×Bool):(R.any fun q=>agr q.2 (ps ++ [x])) = ((R.map (·.2)).any fun k=>agr k (tk ++ [x])):=by
 rw [List.any_map]
 congr 1
 funext q
 exact Ug (h.append_right [x])
theorem Tf {ps:List (Nat×Bool)} (hn:(ps.map (·.1)).Nodup) (h:(xn ps).Pairwise fun a b=>pLt b a = false):ps.Pairwise fun a b=>a.1 < b.1:=by
 have h1:ps.Pairwise fun a b=>pLt (((b.1:Nat):Int),b.2) (((a.1:Nat):Int),a.2) = false:=by
  unfold xn at h
  exact List.pairwise_map.mp h
 have h2:ps.Pairwise fun a b=>a.1≠b.1:=by
  have:=List.pairwise_map.mp hn
  exact this
 refine (h1.and h2).imp fun {a b} hab=>?_
 obtain ⟨z1,z2⟩:=hab
 simp only [pLt] at z1
 by_cases hlt:b.1 < a.1
 ·have:((b.1:Nat):Int) < (a.1:Int):=by omega
  simp [this] at z1
  omega
 ·omega
theorem qh {ks:List (List Bool)}{m n:Nat} (h:n < m):atI ((ya ks m).map V.bl) ((n:Nat):Int) = some (V.bl (ze ks n)):=yo (by simp [ya,h])
def sx (K:PySem.W.Frag):Sp:=fun vs H Q _=>∃ (a jd o:Addr) (us:List V) (ts:List Say) (xs:List Str) (J:List (Addr×List Bool)) (ord:List Nat),vs = [.ref a,.ref jd,.ref o]∧SqT K H a us∧SaysAt K H us ts∧Lst ts xs∧JudgesAt K H jd J ts.length∧SqT K H o (ord.map fun n=>V.int ((n:Nat):Int))∧ord.Nodup∧(∀ n,n∈ord ↔ n < ts.length) ∧
 ∀ (r c l:Addr) (H':Hp) (ss:List Str) (R:List (List Bool)) (row:List Bool) (rs:List V),Same H H'→NamesOf ts ss→FitRows ts ss R→H r = none→SqT K H' r [.ref c,.ref l]→SqT K H' c (row.map V.bl)→row.length = ts.length →
  (∀ j b,row[j]? = some b→(j,b)∈y9 R (ze (J.map (·.2))) ord)→H l = none→H' l = some (.lst rs)→rs.length = ts.length→(∀ n v,rs[n]? = some v→∃ j,ord[j]? = some n∧rsnOk K H' R (J.map (·.2)) (ze (J.map (·.2))) (y9 R (ze (J.map (·.2))) (ord.take j)) n v)→Q (.ref r) H'
def IoInv (K:PySem.W.Frag) (R J:List (List Bool)) (said:Nat→Bool) (ord:List Nat) (H2:Hp) (d1 d2:Addr) (pre:St) (i:Nat) (σ:St) (H5:Hp):Prop:=∃ (x7 x8:Option V) (rv:List V),σ = pre ++ [x7,x8,none] ∧
  H5 d1 = some (.dK (kvI (xn (y9 R said (ord.take i)))))∧rv.length = i∧H5 d2 = some (.dK (kvR (ord.take i) rv))∧(∀ (j n:Nat) v,ord[j]? = some n→rv[j]? = some v→rsnOk K H5 R J said (y9 R said (ord.take j)) n v)∧Same H2 H5∧i≤ord.length
theorem IoInv.mk {K:PySem.W.Frag}{R J:List (List Bool)}{said:Nat→Bool}{ord:List Nat}{H2:Hp}{d1 d2:Addr}{pre:St}{i:Nat}{σ:St}{H5:Hp} (x7 x8:Option V) (rv:List V) (h0:σ = pre ++ [x7,x8,none]) (h1:H5 d1 = some (.dK (kvI (xn (y9 R said (ord.take i)))))) (h2:rv.length = i) (h3:H5 d2 = some (.dK (kvR (ord.take i) rv)))
  (h4:∀ (j n:Nat) v,ord[j]? = some n→rv[j]? = some v→rsnOk K H5 R J said (y9 R said (ord.take j)) n v) (h5:Same H2 H5) (h6:i≤ord.length):IoInv K R J said ord H2 d1 d2 pre i σ H5:=⟨x7,x8,rv,h0,h1,h2,h3,h4,h5,h6⟩
theorem sc_in_order:zu ["sayings","judges","order","rows","said","taken","reasons","number","ahead","row"] ["sayings","judges","order"] (z4 (top 29)):=⟨rfl,rfl,rfl,by decide +kernel,rfl,by decide +kernel,by decide +kernel⟩
theorem gx (D:Def K mg "in_order" (top 29) ["sayings","judges","order"]) (C_fit_rows:zx P w K mg base 44 "fit_rows" ["sayings"] (v6 K)) (C_most:zx P w K mg base 3 "most" ["judges"] (d6 K)) (C_any_agrees:zx P w K mg base 2 "any_agrees" ["rows","part"] (W6 K)) (C_by_judges:zx P w K mg base 2 "by_judges" ["judges","number","truth"] (pj K)) (C_by_part:zx P w K mg base 4 "by_part" ["rows","part","number","truth"] (ik K)) (mg_tuple:mg "tuple" = none) (mg_sorted:mg "sorted" = none) (mg_range:mg "range" = none) (mg_len:mg "len" = none):zx P w K mg base 45 "in_order" ["sayings","judges","order"] (sx K):=by
 refine D.callee sc_in_order (fun vs H Q E h=>?_) fun f cdv A outer s H vs Q E hr h=>?_
 ·obtain ⟨a,jd,o,us,ts,xs,J,ord,rfl,_⟩:=h
  rfl
 have nd:=sc_in_order.nd
 obtain ⟨a,jd,o,us,ts,xs,J,ord,rfl,ha,hS,hL,hJ,ho,hnd,hmem,q⟩:=h
 have h6:=hL.hi
 have hol:ord.length≤6:=by
  have:=xg (m:=List.range ts.length) hnd fun n hn=>List.mem_range.mpr ((hmem n).mp hn)
  rw [List.length_range] at this
  omega
 refine ⟨[some (.ref a),some (.ref jd),some (.ref o),none,none,none,none,none,none,none],_,rfl,(z5 (zo 3 nd (zv C_fit_rows hr (by omega) (z9 (z8 0) z6)))
  (z5 (zo 4 nd (zv C_most hr (by omega) (z9 (z8 1) z6)))
  (z5 (zo 5 nd Vu)
  (z5 (zo 6 nd Vu)
  (z5 (xj PassesOwn.never rfl (To (z8 2)) (wk 7 nd) (z5 (zo 8 nd (za yi rfl mg_tuple y4 (z9 (ma rfl rfl mg_sorted (z8 5)) z6)))
  (zy (yr (uq (zv C_any_agrees hr (by omega) (z9 (z8 3) (z9 (zq Pu (z8 8) (wy (z9 (wy (z9 (z8 7) (z9 (yu (z8 4) (z8 7) (fun _ _=>rfl)) z6))) z6))) z6)))) (z5 (jn hr.units (z8 5) (z8 7) (yu (z8 4) (z8 7) (fun _ _=>rfl)))
  (zy (jn hr.units (z8 6) (z8 7) (zv C_by_judges hr (by omega) (z9 (z8 1) (z9 (z8 7) (z9 (yu (z8 4) (z8 7) (fun _ _=>rfl)) z6))))))) (z5 (jn hr.units (z8 5) (z8 7) (gl (yu (z8 4) (z8 7) (fun _ _=>rfl))))
  (zy (jn hr.units (z8 6) (z8 7) (zv C_by_part hr (by omega) (z9 (z8 3) (z9 (z8 8) (z9 (z8 7) (z9 (ck hr.units (z8 5) (z8 7) (fun _ _=>rfl)) z6))))))))))))
  (z5 (zo 9 nd (za yi rfl mg_tuple y4 (z9 (yp (ixs:=[5]) (zl (own:=["number"]) (N:=["taken"]) rfl rfl rfl rfl rfl rfl rfl (by decide +kernel) rfl rfl rfl) rfl (yh rfl mg_range (z9 (zp ye rfl mg_len yx (z9 (z8 0) z6)) z6)) (fun _ _ _ _=>yq) (fun _ _ _ _=>(ck hr.units (z8 1) (z8 0) (fun _ _=>rfl))) rfl) z6)))
  (zy (zr (wy (z9 (z8 9) (z9 (yp (ixs:=[6]) (zl (own:=["number"]) (N:=["reasons"]) rfl rfl rfl rfl rfl rfl rfl (by decide +kernel) rfl rfl rfl) rfl (yh rfl mg_range (z9 (zp ye rfl mg_len yx (z9 (z8 0) z6)) z6)) (fun _ _ _ _=>yq) (fun _ _ _ _=>(ck hr.units (z8 1) (z8 0) (fun _ _=>rfl))) rfl) z6))))))))))),?_⟩
 simp only [Xk]
 walk_at "rs"
 refine ⟨a,us,ts,xs,rfl,ha,hS,hL,fun r H1 ss R n1 s1 e1 hR hN hF hR32=>?_⟩
 walk_at "rs"
 refine ⟨jd,J,ts.length,rfl,hJ.mono (z7 s1),by omega,fun sd H2 s2 hsd=>?_⟩
 walk_at "rs"
 intro d1 H3 n3 s3 e3
 walk_at "rs"
 intro d2 H4 n4 s4 e4
 have n4':H2 d2 = none:=zc s3 n4
 have hdd:d1≠d2:=fun z=>by rw [← z,e3] at n4;cases n4
 have hRl:∀ q∈R,q.2.length = ts.length:=fun q hq=>w4 hF (List.mem_map_of_mem hq)
 generalize hsaid:ze (J.map (·.2)) = said at q
 have hsn:∀ n,ze (J.map (·.2)) n = said n:=fun n=>by rw [hsaid]
 simp only [Xk]
 walk_at "rs"
 refine ⟨⟨_,(z7 (s1.trans (s2.trans (s3.trans s4)))).sqT ho⟩,xq (xs:=ord.map fun n=>V.int ((n:Nat):Int)) (IoInv K (R.map (·.2)) (J.map (·.2)) said ord H2 d1 d2 [some (.ref a),some (.ref jd),some (.ref o),some (.ref r),some (.ref sd),some (.ref d1),some (.ref d2)])
  (IoInv.mk none none [] rfl (s4 _ _ e3) rfl e4 (fun j n v _ h=>by simp at h) (s3.trans s4) (Nat.zero_le _)) ?_ ?_ ?_⟩
 ·rintro i σ H5 _ ⟨x7,x8,rv,rfl,_,_,_,_,s5,_⟩
  exact (z7 (s1.trans (s2.trans s5))).sqT ho
 ·rintro i x σ H5 hx ⟨x7,x8,rv,rfl,hh⟩
  have e51:=hh.1
  have hrv:=hh.2.1
  have e52:=hh.2.2.1
  have hrs:=hh.2.2.2.1
  have s5:=hh.2.2.2.2.1
  have hi:=hh.2.2.2.2.2
  clear hh
  rw [List.getElem?_map] at hx
  cases hn:ord[i]? with
  | none=>rw [hn] at hx;cases hx
  | some n =>
  rw [hn] at hx
  cases hx
  have hnm:n < ts.length:=(hmem n).mp (List.mem_of_getElem? hn)
  have hnew:=Xm hnd hn
  generalize htk:y9 (R.map (·.2)) said (ord.take i) = tk at e51
  have htk':=w9 (R:=R.map (·.2)) (said:=said) hn
  rw [htk] at htk'
  have hkeys:tk.map (·.1) = ord.take i:=by rw [← htk];exact vg _ _ _
  have htl:tk.length = i:=by
   have:=congrArg List.length hkeys
   rw [List.length_map,List.length_take] at this
   omega
  have hi':i < ord.length:=(List.getElem?_eq_some_iff.mp hn).1
  walk_at "rp"
  refine ⟨xn tk,e51,by unfold xn;rw [List.length_map];omega,fun l6 ps H6 s6 hperm hsrt hps hl6=>?_⟩
  walk_at "rp"
  refine ⟨_,.inl (SqL.of hl6),fun c H7 s7 hc=>?_⟩
  obtain ⟨qs,hqs,hqp⟩:=Wl hperm
  have hP7:PairsAt K H7 (ps.map fun p=>V.ref p.1) qs:=g6 hqs fun p hp=>(z7 s7).sqT (SqT.of (hps p hp))
  have hqm:∀ p∈qs,p.1 < ts.length:=fun p hp=>by
   have h1:p.1∈tk.map (·.1):=List.mem_map_of_mem (hqp.mem_iff.mp hp)
   rw [hkeys] at h1
   exact (hmem p.1).mp (List.mem_of_mem_take h1)
  have hql:qs.length = i:=by rw [hqp.length_eq,htl]
  have s57:=s6.trans s7
  walk_at "rp"
  refine ⟨_,_,.inr ((z7 (s5.trans s57)).sqT hsd),qh hnm,?_⟩
  rw [hsn]
  refine ⟨sz2,fun t1 H8 n8 s8 e8=>⟨sz1,fun t2 H9 n9 s9 e9=>?_⟩⟩
  walk_at "rp"
  refine ⟨_,_,(z7 (s8.trans s9)).sqT hc,SqT.of e9,by rw [List.length_map,sizeLine_eq];have:=congrArg List.length hqs;rw [List.length_map] at this;unfold xn at this;rw [List.length_map] at this;simp only [List.length_cons,List.length_nil];omega,fun p H10 s10 hp=>?_⟩
  have s510:Same H5 H10:=s57.trans (s8.trans (s9.trans s10))
  have s210:=s5.trans s510
  have s110:=s2.trans s210
  have s710:Same H7 H10:=s8.trans (s9.trans s10)
  have hsd10:=(z7 s210).sqT hsd
  have hP10:PairsAt K H10 ((ps.map fun p=>V.ref p.1) ++ [V.ref t1]) (qs ++ [(n,said n)]):=(hP7.mono (z7 s710)).app ⟨⟨t1,rfl,(z7 (s9.trans s10)).sqT (SqT.of e8)⟩,trivial⟩
  refine ⟨r,p,R,_,qs ++ [(n,said n)],rfl,s110.seq (SqL.of e1),fun q hq=>(z7 s110).sqT (hR q hq),hp,hP10,fun q hq z hz=>?_,?_⟩
  ·rw [hRl q hq]
   rcases List.mem_append.mp hz with hz | hz
   ·exact hqm z hz
   ·rw [List.mem_singleton.mp hz]
    exact hnm
  walk_at "rp"
  rw [Ul hqp]
  have e1d:H10 d1 = some (.dK (kvI (xn tk))):=s510 _ _ e51
  have e2d:H10 d2 = some (.dK (kvR (ord.take i) rv)):=s510 _ _ e52
  have put1:∀ b:Bool,v8 (kvI (xn tk)) (Sum.inl ((n:Nat):Int)) (V.bl b) = kvI (xn (tk ++ [(n,b)])):=fun b=>by
   rw [Sg]
   exact ah fun z hz=>Vb hnew (hkeys ▸ Sh hz)
  have put2:∀ v:V,v8 (kvR (ord.take i) rv) (Sum.inl ((n:Nat):Int)) v = kvR (ord.take (i + 1)) (rv ++ [v]):=fun v=>by
   rw [List.take_add_one,hn]
   show _ = kvR (ord.take i ++ [n]) (rv ++ [v])
   rw [Si n v (by rw [List.length_take,hrv];omega)]
   exact ah fun z hz=>Vb hnew (Sj hz)
  have fin:∀ (v:V) (H12:Hp),Same (upd H10 d1 (.dK (kvI (xn (tk ++ [(n,yd (R.map (·.2)) said tk n)]))))) H12→rsnOk K H12 (R.map (·.2)) (J.map (·.2)) said tk n v →
    upd H12 d2 (.dK (kvR (ord.take (i + 1)) (rv ++ [v]))) d1 = some (.dK (kvI (xn (y9 (R.map (·.2)) said (ord.take (i + 1))))))∧(rv ++ [v]).length = i + 1∧(∀ (j m:Nat) v',ord[j]? = some m→(rv ++ [v])[j]? = some v'→rsnOk K (upd H12 d2 (.dK (kvR (ord.take (i + 1)) (rv ++ [v])))) (R.map (·.2)) (J.map (·.2)) said (y9 (R.map (·.2)) said (ord.take j)) m v')∧Same H2 (upd H12 d2 (.dK (kvR (ord.take (i + 1)) (rv ++ [v]))))∧H12 d2 = some (.dK (kvR (ord.take i) rv)):=by
   intro v H12 s12 hv
   have e12:H12 d2 = some (.dK (kvR (ord.take i) rv)):=s12 _ _ ((zk hdd.symm).trans e2d)
   have t12:Tups H12 (upd H12 d2 (.dK (kvR (ord.take (i + 1)) (rv ++ [v])))):=qo e12
   refine ⟨?_,by rw [List.length_append,hrv];rfl,fun j m v' hj hv'=>?_,zt ((zt s210 n3 _).trans s12) n4' _,e12⟩
   ·rw [zk hdd,htk']
    exact s12 _ _ zw
   ·by_cases hji:j < i
    ·rw [List.getElem?_append_left (by omega)] at hv'
     exact (hrs j m v' hj hv').mono ((((z7 s510).trans (qo e1d)).trans (z7 s12)).trans t12)
    ·have hjl:=(List.getElem?_eq_some_iff.mp hv').1
     rw [List.length_append,hrv] at hjl
     have hj2:j = i:=by simp at hjl;omega
     subst hj2
     rw [List.getElem?_append_right (by omega),hrv,Nat.sub_self] at hv'
     cases hv'
     rw [hn] at hj
     cases hj
     rw [htk]
     exact hv.mono t12
  refine v3 (fun c1=>?_) (fun c1=>?_)
  ·have hto:yd (R.map (·.2)) said tk n = said n:=by
    unfold yd
    rw [if_pos c1]
   rw [hto] at fin
   refine ⟨_,_,.inr hsd10,qh hnm,⟨_,Sum.inl ((n:Nat):Int),e1d,rfl,?_,?_⟩⟩
   ·unfold kvI xn
    rw [List.length_map,List.length_map,sizeLine_eq]
    omega
   rw [hsn,put1]
   have t11:Tups H10 (upd H10 d1 (.dK (kvI (xn (tk ++ [(n,said n)]))))):=qo e1d
   refine ⟨_,_,.inr (t11.sqT hsd10),qh hnm,?_⟩
   rw [hsn]
   refine ⟨jd,J,ts.length,n,said n,rfl,hJ.mono ((z7 (s1.trans s110)).trans t11),hnm,fun v H12 s12 hv=>?_⟩
   have ff:=fin v H12 s12 (.inl ⟨hto,by rw [List.length_map];exact hv⟩)
   walk_at "rp"
   refine ⟨_,Sum.inl ((n:Nat):Int),ff.2.2.2.2,rfl,?_,?_⟩
   ·unfold kvR
    rw [List.length_map,List.length_zip,List.length_take,sizeLine_eq]
    omega
   rw [put2]
   exact IoInv.mk _ _ _ rfl ff.1 ff.2.1 zw ff.2.2.1 ff.2.2.2.1 hi'
  ·have hto:yd (R.map (·.2)) said tk n = !said n:=by
    unfold yd
    rw [if_neg c1]
   rw [hto] at fin
   refine ⟨_,_,.inr hsd10,qh hnm,?_⟩
   walk_at "rp"
   refine ⟨_,Sum.inl ((n:Nat):Int),e1d,rfl,?_,?_⟩
   ·unfold kvI xn
    rw [List.length_map,List.length_map,sizeLine_eq]
    omega
   rw [hsn,put1]
   have t11:Tups H10 (upd H10 d1 (.dK (kvI (xn (tk ++ [(n,!said n)]))))):=qo e1d
   have hrd:r≠d1:=fun z=>by rw [← z] at n3;rw [s2 _ _ e1] at n3;cases n3
   have hnk:(tk.map (·.1)).Nodup:=by rw [hkeys];exact hnd.sublist (List.take_sublist _ _)
   refine ⟨_,_,zw,qb (tk:=tk ++ [(n,!said n)]) (b:=!said n) ?_ (List.mem_append.mpr (.inr (List.mem_singleton.mpr rfl))),?_⟩
   ·rw [List.map_append,hkeys]
    show (ord.take i ++ [n]).Nodup
    have:ord.take i ++ [n] = ord.take (i + 1):=by rw [List.take_add_one,hn];rfl
    rw [this]
    exact hnd.sublist (List.take_sublist _ _)
   refine ⟨r,c,R,_,qs,n,!said n,rfl,SqL.of ((zk hrd).trans (s110 _ _ e1)),fun q hq=>t11.sqT ((z7 s110).sqT (hR q hq)),t11.sqT ((z7 s710).sqT hc),(hP7.mono (z7 s710)).mono t11,by omega,fun q hq z hz=>by rw [hRl q hq];exact hqm z hz,fun q hq=>by rw [hRl q hq];exact hnm,fun v H12 us' s12 hv hpv=>?_⟩
   rw [Bool.not_not] at hpv
   have hqn:(qs.map (·.1)).Nodup:=(hqp.map (·.1)).nodup_iff.mpr hnk
   have ff:=fin v H12 s12 (.inr ⟨hto,qs,us',hqp,Tf hqn (hqs ▸ hsrt),hv,hpv⟩)
   walk_at "rp"
   refine ⟨_,Sum.inl ((n:Nat):Int),ff.2.2.2.2,rfl,?_,?_⟩
   ·unfold kvR
    rw [List.length_map,List.length_zip,List.length_take,sizeLine_eq]
    omega
   rw [put2]
   exact IoInv.mk _ _ _ rfl ff.1 ff.2.1 zw ff.2.2.1 ff.2.2.2.1 hi'
 rintro σ H5 ⟨x7,x8,rv,rfl,hh⟩
 have e51:=hh.1
 have hrv:=hh.2.1
 have e52:=hh.2.2.1
 have hrs:=hh.2.2.2.1
 have s5:=hh.2.2.2.2.1
 clear hh
 rw [List.length_map] at e51 hrv e52
 rw [List.take_length] at e51 e52
 have hl:=hS.len
 have s05:=s1.trans (s2.trans s5)
 have hkeys:(y9 (R.map (·.2)) said ord).map (·.1) = ord:=vg _ _ _
 have hnk:((y9 (R.map (·.2)) said ord).map (·.1)).Nodup:=by rw [hkeys];exact hnd
 walk_at "rp"
 refine ⟨_,.inr ((z7 s05).sqT ha),⟨by omega,by omega⟩,fun C s₀ H₀ ex=>?_⟩
 rw [Int.toNat_natCast]
 refine xy (fun D i ys H6=>∃ row:List Bool,ys = row.map V.bl∧row.length = i∧(∀ j b,row[j]? = some b→(j,b)∈y9 (R.map (·.2)) said ord)∧H6 D = some (.lst ys)∧Same H5 H6∧H5 D = none) (by rw [sizeLine_eq];omega) ?_ ?_ ?_ ?_
 ·intro D H6 n6 s6 e6
  exact ⟨[],rfl,rfl,fun j b h=>by simp at h,e6,s6,n6⟩
 ·rintro D i ys H6 ⟨row,rfl,hrl,_,e6,s6,_⟩
  exact ⟨e6,by rw [List.length_map,hrl]⟩
 ·rintro D i ys H6 hi ⟨row,rfl,hrl,hrow,e6,s6,n6⟩
  have him:i∈(y9 (R.map (·.2)) said ord).map (·.1):=by rw [hkeys];exact (hmem i).mpr (by omega)
  obtain ⟨⟨i',b⟩,hb,rfl⟩:=List.mem_map.mp him
  walk_at "rp"
  rw [Int.zero_add]
  refine ⟨_,_,s6 _ _ e51,qb hnk hb,e6,CN.mk hi ⟨row ++ [b],by rw [List.map_append];rfl,by rw [List.length_append,hrl];rfl,fun j b' hj=>?_,zw,zt s6 n6 _,n6⟩⟩
  by_cases hji:j < row.length
  ·rw [List.getElem?_append_left hji] at hj
   exact hrow j b' hj
  ·have hjl:=(List.getElem?_eq_some_iff.mp hj).1
   have hj2:j = row.length:=by simp at hjl;omega
   subst hj2
   rw [List.getElem?_append_right (by omega),Nat.sub_self] at hj
   cases hj
   rw [hrl]
   exact hb
 rintro D ys H6 ⟨row,rfl,hrl,hrow,e6,s6,n6⟩
 walk_at "rp"
 refine ⟨_,.inl (SqL.of e6),fun c H7 s7 hc=>?_⟩
 walk_at "rp"
 have s57:=s6.trans s7
 refine ⟨_,.inr ((z7 (s05.trans s57)).sqT ha),⟨by omega,by omega⟩,fun C s₀ H₀ ex=>?_⟩
 rw [Int.toNat_natCast]
 refine xy (fun D i ys H8=>ys.length = i∧(∀ n v,ys[n]? = some v→∃ j:Nat,ord[j]? = some n∧rv[j]? = some v)∧H8 D = some (.lst ys)∧Same H7 H8∧H7 D = none) (by rw [sizeLine_eq];omega) ?_ ?_ ?_ ?_
 ·intro D H8 n8 s8 e8
  exact ⟨rfl,fun n v h=>by simp at h,e8,s8,n8⟩
 ·rintro D i ys H8 ⟨hyl,_,e8,s8,_⟩
  exact ⟨e8,hyl⟩
 ·rintro D i ys H8 hi ⟨hyl,hys,e8,s8,n8⟩
  obtain ⟨j,hj,ej⟩:=List.getElem_of_mem ((hmem i).mpr (by omega))
  have hoj:ord[j]? = some i:=List.getElem?_eq_some_iff.mpr ⟨hj,ej⟩
  obtain ⟨v,hv⟩:∃ v,rv[j]? = some v:=⟨rv[j]'(by omega),List.getElem?_eq_getElem (by omega)⟩
  walk_at "rp"
  rw [Int.zero_add]
  refine ⟨_,_,(s57.trans s8) _ _ e52,Z6 hnd hoj hv,e8,CN.mk hi ⟨by rw [List.length_append,hyl];rfl,fun n v' hn'=>?_,zw,zt s8 n8 _,n8⟩⟩
  by_cases hnl:n < ys.length
  ·rw [List.getElem?_append_left hnl] at hn'
   exact hys n v' hn'
  ·have hjl:=(List.getElem?_eq_some_iff.mp hn').1
   have hn2:n = ys.length:=by simp at hjl;omega
   subst hn2
   rw [List.getElem?_append_right (by omega),Nat.sub_self] at hn'
   cases hn'
   rw [hyl]
   exact ⟨j,hoj,hv⟩
 rintro D8 ys H8 ⟨hyl,hys,e8,s8,n8⟩
 walk_at "rp"
 refine ⟨sz2,fun rr H9 n9 s9 e9=>?_⟩
 have s58:=s57.trans s8
 have s59:=s58.trans s9
 refine q rr c D8 H9 ss (R.map (·.2)) row ys (s05.trans s59) hN hF (zc (s05.trans s58) n9) (SqT.of e9) ((z7 (s8.trans s9)).sqT hc) (by rw [hrl,hl]) hrow (zc (s05.trans s57) n8) (s9 _ _ e8) (by rw [hyl,hl]) fun n v hv=>?_
 obtain ⟨j,hj,hvj⟩:=hys n v hv
 exact ⟨j,hj,(hrs j n v hj hvj).mono (z7 s59)⟩
theorem O6:bootBuiltins "abs" = some (.builtin "abs"):=PyProof.Rows.boot_abs
def xp (J:List (List Bool)) (j:Nat):Int:=if ((yl J j true J.length).length:Int) - ((yl J j false J.length).length:Int) < 0 then -(((yl J j true J.length).length:Int) - ((yl J j false J.length).length:Int)) else ((yl J j true J.length).length:Int) - ((yl J j false J.length).length:Int)
def p0 (K:PySem.W.Frag):Sp:=fun vs H Q _=>∃ (a:Addr) (J:List (Addr×List Bool)) (m j:Nat),vs = [.ref a,.int (j:Int)]∧JudgesAt K H a J m∧j < m∧∀ H',Same H H'→Q (.int (xp (J.map (·.2)) j)) H'
theorem sc_strength:zu ["judges","number"] ["judges","number"] (z4 (top 32)):=⟨rfl,rfl,rfl,by decide +kernel,rfl,by decide +kernel,by decide +kernel⟩
theorem g4 (D:Def K mg "strength" (top 32) ["judges","number"]) (C_who_say:zx P w K mg base 1 "who_say" ["judges","number","truth"] (ax K)) (mg_len:mg "len" = none) (mg_abs:mg "abs" = none):zx P w K mg base 2 "strength" ["judges","number"] (p0 K):=by
 refine D.callee sc_strength (fun vs H Q E h=>?_) fun f cdv A outer s H vs Q E hr h=>?_
 ·obtain ⟨a,J,m,j,rfl,_⟩:=h
  rfl
 have nd:=sc_strength.nd
 obtain ⟨a,J,m,j,rfl,hJ,hj,q⟩:=h
 refine ⟨[some (.ref a),some (.int (j:Int))],_,rfl,(zy (zr (zp Uq rfl mg_abs O6 (z9 (zq gm (zp ye rfl mg_len yx (z9 (zv C_who_say hr (by omega) (z9 (z8 0) (z9 (z8 1) (z9 wb z6)))) z6)) (zp ye rfl mg_len yx (z9 (zv C_who_say hr (by omega) (z9 (z8 0) (z9 (z8 1) (z9 wb z6)))) z6))) z6)))),?_⟩
 walk_at "rp"
 refine ⟨a,J,m,j,true,rfl,hJ,hj,fun p H1 n1 s1 e1=>?_⟩
 walk_at "rp"
 refine ⟨_,.inl (SqL.of e1),?_⟩
 walk_at "rp"
 refine ⟨a,J,m,j,false,rfl,hJ.mono (z7 s1),hj,fun p2 H2 n2 s2 e2=>?_⟩
 walk_at "rp"
 refine ⟨_,.inl (SqL.of e2),?_⟩
 rw [List.length_map,List.length_map]
 walk_at "rp"
 refine ⟨_,rfl,?_⟩
 have:=q H2 (s1.trans s2)
 unfold xp at this
 rw [List.length_map] at this
 exact this
abbrev Lr:Str:="order_of_strength.<locals>.<lambda>"
abbrev Tb (Pt:Addr) (H:Hp):Prop:=TabAt Pt (Pn (top 33)) Lr H
def Xd (K:PySem.W.Frag) (Pt:Addr):Sp:=fun vs H Q _=>∃ (a:Addr) (J:List (Addr×List Bool)) (m:Nat),vs = [.ref a]∧JudgesAt K H a J m∧m≤6∧Tb Pt H∧∀ (p:Addr) (H':Hp) (ord:List Nat),SameP Pt H H'→Tb Pt H'→SqT K H' p (ord.map fun n=>V.int ((n:Nat):Int))→ord.Perm (List.range m)→ord.Pairwise (wg fun j=>-xp (J.map (·.2)) j)→Q (.ref p) H'
theorem sc_oos:zu ["judges"] ["judges"] (z4 (top 33)):=⟨rfl,rfl,rfl,by decide +kernel,rfl,by decide +kernel,by decide +kernel⟩
theorem Pz {c Pt:Addr} (D:DefL K mg "order_of_strength" (top 33) ["judges"] c) (LT:fc base mg c Pt) (C_strength:zx P w K mg base 2 "strength" ["judges","number"] (p0 K)) (mg_len:mg "len" = none) (mg_range:mg "range" = none) (mg_sorted:mg "sorted" = none) (mg_tuple:mg "tuple" = none):zx P w K mg base 6 "order_of_strength" ["judges"] (Xd K Pt):=by
 refine D.callee sc_oos (fun vs H Q E h=>?_) fun f A outer s H vs Q E hr h=>?_
 ·obtain ⟨a,J,m,rfl,_⟩:=h
  rfl
 have nd:=sc_oos.nd
 obtain ⟨a,J,m,rfl,hJ,hm,hT,q⟩:=h
 refine ⟨[some (.ref a)],_,rfl,(zy (zr (za yi rfl mg_tuple y4 (z9 (Su (ixs:=[0]) (kk:=2) rfl rfl mg_sorted rfl mg_range (z9 (zp ye rfl mg_len yx (z9 (yu (z8 0) zz (fun _ _=>rfl)) z6)) z6) (zl (own:=["number"]) (N:=["judges"]) rfl rfl rfl rfl rfl rfl rfl (by decide +kernel) rfl rfl rfl) rfl hr (by omega) rfl LT (fun _ _ _ _ _ hr=>(Nx Rc (zv C_strength hr (by omega) (z9 (z8 1) (z9 (z8 0) z6))))) (fun _ _ _ _=>rfl)) z6)))),?_⟩
 walk_at "rp"
 obtain ⟨r,hr0,hat⟩:=qy hJ
 refine ⟨_,_,.inr hJ.sq,hat,?_⟩
 walk_at "rp"
 refine ⟨_,.inr (hJ.row r hr0),?_⟩
 rw [List.length_map,hJ.len r hr0]
 refine ⟨⟨by omega,by omega⟩,hT,(fun j=>-xp (J.map (·.2)) j),fun i H2 hi s2=>?_,fun p D H' hp hs s' t' _ e'=>?_⟩
 ·rw [Int.toNat_natCast] at hi
  walk_at "rp"
  refine ⟨a,J,m,i,rfl,hJ.mono (yw hT s2),hi,fun H3 s3=>?_⟩
  walk_at "rp"
  exact ⟨_,rfl,rfl,s3⟩
 ·rw [Int.toNat_natCast] at hp
  walk_at "rp"
  exact ⟨_,.inl (SqL.of e'),fun z H4 s4 h4=>q z H4 p (s'.trans (we s4)) (t'.same s4) h4 hp hs⟩
def Q5 (K:PySem.W.Frag) (Pt C:Addr) (Fl:Hp→Nat→List (Str×V)→Prop) (RI:Nat→List (List Bool)→List (List Bool)→List Bool→Prop):Sp:=fun vs H Q _=>∃ (x dx b j:Addr) (fs:List (Str×V)) (us:List V) (ts:List Say) (xs:List Str) (J:List (Addr×List Bool)),vs = [.ref x,.ref b,.ref j]∧H x = some (.ins C dx fs)∧Fl H ts.length fs∧SqT K H b us∧SaysAt K H us ts∧Lst ts xs∧JudgesAt K H j J ts.length∧Tb Pt H ∧
 ∀ (p:Addr) (H':Hp) (ss:List Str) (R:List (List Bool)) (row:List Bool),SameP Pt H H'→Tb Pt H'→NamesOf ts ss→FitRows ts ss R→SqT K H' p (row.map V.bl)→row.length = ts.length→RI ts.length R (J.map (·.2)) row→Q (.ref p) H'
def pq (K:PySem.W.Frag) (Pt C:Addr) {ι:Type} (Fl:ι→Hp→Nat→List (Str×V)→Prop) (RI:ι→Nat→List (List Bool)→List (List Bool)→List Bool→Prop):Sp:=fun vs H Q E=>∃ i:ι,Q5 K Pt C (Fl i) (RI i) vs H Q E
def Fl1 (H:Hp) (m:Nat) (fs:List (Str×V)):Prop:=fs = []
def Fl2 (K:PySem.W.Frag) (ws:List Int) (H:Hp) (m:Nat) (fs:List (Str×V)):Prop:=∃ v,fs = [((Str.ofString "weights":Str),v)]∧WAt K H v m ws
def RI0 (ord:List Nat) (m:Nat) (R J:List (List Bool)) (row:List Bool):Prop:=∀ (i:Nat) (b:Bool),row[i]? = some b→(i,b)∈y9 R (ze J) ord
def RI1 (m:Nat) (R J:List (List Bool)) (row:List Bool):Prop:=∃ ord:List Nat,ord.Perm (List.range m)∧ord.Pairwise (wg fun i=>-xp J i)∧RI0 ord m R J row
def RI2 (ws:List Int) (m:Nat) (R J:List (List Bool)) (row:List Bool):Prop:=∃ rest,wt R J ws m = row :: rest
theorem qk {ord:List Nat}{m:Nat} (h:ord.Perm (List.range m)):ord.Nodup∧∀ n,n∈ord ↔ n < m:=⟨h.nodup_iff.mpr List.nodup_range,fun n=>by rw [h.mem_iff,List.mem_range]⟩
theorem sc_bsrow:zu ["self","sayings","judges"] ["self","sayings","judges"] (z4 (yj (top 36) 0)):=⟨rfl,rfl,rfl,by decide +kernel,rfl,by decide +kernel,by decide +kernel⟩
theorem V3 {C Pt:Addr} (D:DefM K C "row" "ByStrength.row" (yj (top 36) 0) ["self","sayings","judges"]) (C_in_order:zx P w K mg base 45 "in_order" ["sayings","judges","order"] (sx K)) (C_order_of_strength:zx P w K mg base 6 "order_of_strength" ["judges"] (Xd K Pt)):xi P w K mg base 46 C "row" ["self","sayings","judges"] (pq K Pt C (fun _:Unit=>Fl1) fun _=>RI1):=by
 refine D.callee sc_bsrow (fun vs H Q E h=>?_) fun f cdv A outer s H vs Q E hr h=>?_
 ·obtain ⟨_,x,dx,b,j,fs,us,ts,xs,J,rfl,_⟩:=h
  rfl
 have nd:=sc_bsrow.nd
 obtain ⟨_,x,dx,b,j,fs,us,ts,xs,J,rfl,hx,_,hb,hT,hL,hJ,hTb,q⟩:=h
 have hhi:=hL.hi
 refine ⟨[some (.ref x),some (.ref b),some (.ref j)],_,rfl,(zy (zr (yu (zv C_in_order hr (by omega) (z9 (z8 1) (z9 (z8 2) (z9 (zv C_order_of_strength hr (by omega) (z9 (z8 2) z6)) z6)))) zz (fun _ _=>rfl)))),?_⟩
 walk_at "rp"
 refine ⟨j,J,ts.length,rfl,hJ,hhi,hTb,fun o H1 ord s1 t1 ho hp hst=>?_⟩
 walk_at "rp"
 have tu:=yw hTb s1
 refine ⟨b,j,o,us,ts,xs,J,ord,rfl,tu.sqT hb,hT.mono tu,hL,hJ.mono tu,ho,(qk hp).1,(qk hp).2,fun r c l H' ss R row rs s' hN hF nr hr' hc hl hrow nl el hrs hrsn=>?_⟩
 walk_at "rp"
 refine ⟨_,_,.inr hr',rfl,?_⟩
 walk_at "rp"
 exact q c H' ss R row (s1.trans (we s')) (t1.same s') hN hF hc hl ⟨ord,hp,hst,hrow⟩
theorem Sv {all rs:List (List Bool)}{ws:List Int}{m:Nat} (h:all≠[]):wt all rs ws m≠[]:=by
 obtain ⟨k,hk,hle⟩:∃ k∈all,∀ k'∈all,yg k rs ws m≤yg k' rs ws m:=by
  revert h
  induction all with
  | nil=>exact fun h=>(h rfl).elim
  | cons a l ih =>
   intro _
   by_cases hl:l = []
   ·subst hl
    exact ⟨a,by simp,fun k' hk'=>by rw [List.mem_singleton.mp hk'];exact Int.le_refl _⟩
   ·obtain ⟨k,hk,hle⟩:=ih hl
    by_cases hc:yg a rs ws m≤yg k rs ws m
    ·exact ⟨a,by simp,fun k' hk'=>by rcases List.mem_cons.mp hk' with rfl | hk';exact Int.le_refl _;have:=hle k' hk';omega⟩
    ·exact ⟨k,List.mem_cons_of_mem _ hk,fun k' hk'=>by rcases List.mem_cons.mp hk' with rfl | hk';omega;exact hle k' hk'⟩
 intro z
 have:k∈wt all rs ws m:=List.mem_filter.mpr ⟨hk,List.all_eq_true.mpr fun k' hk'=>decide_eq_true (hle k' hk')⟩
 rw [z] at this
 cases this
theorem sc_nrrow:zu ["self","sayings","judges"] ["self","sayings","judges"] (z4 (yj (top 37) 1)):=⟨rfl,rfl,rfl,by decide +kernel,rfl,by decide +kernel,by decide +kernel⟩
theorem V9 {C Pt:Addr} (D:DefM K C "row" "Nearest.row" (yj (top 37) 1) ["self","sayings","judges"]) (CL:Cls K C) (na:NoAttr K C "weights") (C_nearest:CalleeD P w K mg base 45 "nearest" ["sayings","judges","weights"] [.none] (ln K)):xi P w K mg base 46 C "row" ["self","sayings","judges"] (pq K Pt C (Fl2 K) RI2):=by
 refine D.callee sc_nrrow (fun vs H Q E h=>?_) fun f cdv A outer s H vs Q E hr h=>?_
 ·obtain ⟨_,x,dx,b,j,fs,us,ts,xs,J,rfl,_⟩:=h
  rfl
 have nd:=sc_nrrow.nd
 obtain ⟨ws,x,dx,b,j,fs,us,ts,xs,J,rfl,hx,⟨wv,rfl,hw⟩,hb,hT,hL,hJ,hTb,q⟩:=h
 refine ⟨[some (.ref x),some (.ref b),some (.ref j)],_,rfl,(zy (zr (yu (zv C_nearest.full hr (by omega) (z9 (z8 1) (z9 (z8 2) (z9 (Qc (z8 0) rfl) z6)))) zz (fun _ _=>rfl)))),?_⟩
 walk_at "rp"
 refine ⟨x,C,dx,_,_,rfl,hx,CL,na,List.lookup_cons_self,?_⟩
 walk_at "rp"
 refine ⟨b,j,us,ts,xs,J,wv,ws,rfl,hb,hT,hL,hJ,hw,fun p H' ss all R np s' hp hR hN hF hRn hRl=>?_⟩
 have hne:wt all (J.map (·.2)) ws ts.length≠[]:=Sv fun z=>by
  have h0:=(hF.2.1 (ve ts (zj ((0:Nat):Int) ss))).mpr ⟨0,Nat.two_pow_pos _,rfl⟩
  rw [z] at h0
  cases h0
 cases R with
 | nil=>exact (hne hRn.symm).elim
 | cons r R =>
  walk_at "rp"
  refine ⟨_,_,.inl (SqL.of hp),(show atI ((r :: R).map fun r=>V.ref r.1) ((0:Nat):Int) = some (V.ref r.1) from yo rfl),?_⟩
  walk_at "rp"
  have hm:r.2∈all:=(List.mem_filter.mp (show r.2∈wt all (J.map (·.2)) ws ts.length from by rw [← hRn];exact List.mem_cons_self)).1
  exact q r.1 H' ss all r.2 (we s') (hTb.same s') hN hF (hR r List.mem_cons_self) (w4 hF hm) ⟨R.map fun x:Addr×List Bool=>x.2,hRn.symm⟩
def Xc (K:PySem.W.Frag):Sp:=fun vs H Q _=>∃ (x y:V) (a:Addr) (J:List (Addr×List Bool)) (m:Nat),vs = [x,y,.ref a]∧JudgesAt K H a J m∧m≤10∧∀ (p:Addr) (H':Hp),Same H H'→SqT K H' p ((ya (J.map (·.2)) m).map V.bl)→Q (.ref p) H'
theorem sc_mrow:zu ["self","sayings","judges"] ["self","sayings","judges"] (z4 (yj (top 35) 0)):=⟨rfl,rfl,rfl,by decide +kernel,rfl,by decide +kernel,by decide +kernel⟩
theorem S3 {C:Addr} (D:DefM K C "row" "Most.row" (yj (top 35) 0) ["self","sayings","judges"]) (C_most:zx P w K mg base 3 "most" ["judges"] (d6 K)):xi P w K mg base 4 C "row" ["self","sayings","judges"] (Xc K):=by
 refine D.callee sc_mrow (fun vs H Q E h=>?_) fun f cdv A outer s H vs Q E hr h=>?_
 ·obtain ⟨x,y,a,J,m,rfl,_⟩:=h
  rfl
 have nd:=sc_mrow.nd
 obtain ⟨x,y,a,J,m,rfl,hJ,hm,q⟩:=h
 refine ⟨[some x,some y,some (.ref a)],_,rfl,(zy (zr (zv C_most hr (by omega) (z9 (z8 2) z6)))),?_⟩
 walk_at "rp"
 exact ⟨a,J,m,rfl,hJ,hm,q⟩
theorem gg (c:String):PySem.W.kitOne K (.type c) (.type c) = some true:=by
 unfold PySem.W.kitOne
 rw [if_pos (beq_self_eq_true _)]
def ar (K:PySem.W.Frag):Sp:=fun vs H Q _=>∃ (a c:Addr) (k:List Bool),vs = [.ref a,.ref c]∧SqT K H a (k.map V.bl)∧SqT K H c (k.map V.bl)∧k.length≤10∧∀ H',Same H H'→Q (.bl true) H'
theorem sc_isrow:zu ["_law_found","_law_due"] ["_law_found","_law_due"] (z4 (top 53)):=⟨rfl,rfl,rfl,by decide +kernel,rfl,by decide +kernel,by decide +kernel⟩
theorem V6 (D:Def K mg "_law_is_row" (top 53) ["_law_found","_law_due"]) (mg_len:mg "len" = none) (mg_tuple:mg "tuple" = none) (mg_bool:mg "bool" = none) (mg_isinstance:mg "isinstance" = none):zx P w K mg base 1 "_law_is_row" ["_law_found","_law_due"] (ar K):=by
 refine D.callee sc_isrow (fun vs H Q E h=>?_) fun f cdv A outer s H vs Q E hr h=>?_
 ·obtain ⟨a,c,k,rfl,_⟩:=h
  rfl
 have nd:=sc_isrow.nd
 obtain ⟨a,c,k,rfl,ha,hc,hk,q⟩:=h
 refine ⟨[some (.ref a),some (.ref c)],_,rfl,(z5 (yr (PW.pt (g8 (uf (uq (zp Rq rfl mg_isinstance ui (z9 (z8 0) (z9 (ad (v:=.ty "tuple") rfl mg_tuple y4 rfl) z6))))) (ou (zd (gk hr.units) (zp ye rfl mg_len yx (z9 (z8 0) z6)) (zp ye rfl mg_len yx (z9 (z8 1) z6)) (zh _))))) (zy (zr wb)) zi)
  (zy (zr (Rp (vv (wx hr.units) (zp ye rfl mg_len yx (z9 (yp (ixs:=[]) (zl (own:=["_law_truth"]) (N:=[]) rfl rfl rfl rfl rfl rfl rfl (by decide +kernel) rfl rfl rfl) rfl (y3 (z8 0)) (fun _ _ _ _=>(wc (uq (zp Rq rfl mg_isinstance ui (z9 (z8 0) (z9 (ad (v:=.ty "bool") rfl mg_bool R5 rfl) z6)))))) (fun _ _ _ _=>(z8 0)) rfl) z6)) (zp ye rfl mg_len yx (z9 (z8 1) z6)) (zh _)) (jr (vv (wx hr.units) (z8 0) (z8 1) (zh _))))))),?_⟩
 walk_at "rp"
 refine ⟨_,true,.tup ha,gg _,?_⟩
 walk_at "rp"
 refine ⟨_,.inr ha,_,.inr hc,?_⟩
 walk_at "rp"
 try rw [decide_eq_true rfl]
 walk_at "rp"
 refine .inr ⟨⟨_,ha⟩,fun C s₀ H₀ ex=>?_⟩
 refine vy (xs:=k.map V.bl) (fun D n ys H3=>ys.length = n∧n≤k.length∧H3 D = some (.lst ys)∧Same H H3∧H D = none) (by rw [List.length_map,sizeLine_eq];omega) ?_ ?_ ?_ ?_
 ·intro D H3 n3 s3 e3
  exact ⟨rfl,Nat.zero_le _,e3,s3,n3⟩
 ·rintro D n ys H3 ⟨hy,_,e3,s3,_⟩
  exact ⟨(z7 s3).sqT ha,e3,Nat.le_of_eq hy⟩
 ·rintro D n v ys H3 hv ⟨hy,_,e3,s3,n3⟩
  rw [List.getElem?_map] at hv
  cases hc2:k[n]? with
  | none=>rw [hc2] at hv;cases hv
  | some b =>
   rw [hc2] at hv
   cases hv
   have hn:n < k.length:=(List.getElem?_eq_some_iff.mp hc2).1
   walk_at "rp"
   refine ⟨_,true,.of (.bl _),gg _,?_⟩
   walk_at "rp"
   exact ⟨e3,CN.mk (by rw [List.length_map];exact hn) ⟨by rw [List.length_append,hy];rfl,hn,zw,zt s3 n3 _,n3⟩⟩
 ·rintro D ys H3 ⟨hy,_,e3,s3,n3⟩
  walk_at "rp"
  refine ⟨_,.inl (SqL.of e3),_,.inr ((z7 s3).sqT hc),?_⟩
  rw [hy]
  walk_at "rp"
  try rw [decide_eq_true rfl]
  walk_at "rp"
  refine ⟨_,_,Z2 ((z7 s3).sqT ha),Z2 ((z7 s3).sqT hc),uh _,uh _,?_⟩
  rw [fz (uh _)]
  exact q H3 s3
def d7:Sp:=fun vs H Q _=>∃ (k j:Int),vs = [.int k,.int j]∧0≤k∧k≤100000∧0≤j∧j≤100∧∀ r:Int,0≤r→r < 9973→Q (.int r) H
theorem Tw:zu ["_law_k","_law_j"] ["_law_k","_law_j"] (z4 (top 41)):=⟨rfl,rfl,rfl,by decide +kernel,rfl,by decide +kernel,by decide +kernel⟩
theorem S4 (D:Def K mg "_law_next" (top 41) ["_law_k","_law_j"]):zx P w K mg base 1 "_law_next" ["_law_k","_law_j"] d7:=by
 refine D.callee Tw (fun vs H Q E h=>?_) fun f cdv A outer s H vs Q E hr h=>?_
 ·obtain ⟨k,j,rfl,_⟩:=h
  rfl
 obtain ⟨k,j,rfl,h0,hk,hj0,hj,q⟩:=h
 refine ⟨[some (.int k),some (.int j)],_,rfl,(zy (zr (zq vc (zq zf (zq zf (zq w6 (z8 0) zz) (zq w6 (z8 1) zz)) zz) zz))),?_⟩
 walk_at "rp"
 exact ⟨cm (by omega),cm (by omega),by decide,q _ (Int.emod_nonneg _ (by decide)) (Int.emod_lt_of_pos _ (by decide))⟩
theorem Vc {tk:List (Nat×Bool)} (hn:(tk.map (·.1)).Nodup) {n:Nat}{b c:Bool} (h1:(n,b)∈tk) (h2:(n,c)∈tk):b = c:=by
 have a1:=qb hn h1
 rw [qb hn h2] at a1
 exact (V.bl.inj (Option.some.inj a1)).symm
theorem ai {r:Nat→Nat→Prop} (as:∀ x y,r x y→¬ r y x):∀ {l m:List Nat},l.Pairwise r→m.Pairwise r→(∀ x,x∈l ↔ x∈m)→l = m
 | [],[],_,_,_=>rfl
 | [],b :: m,_,_,h=>by have:=(h b).mpr List.mem_cons_self;cases this
 | a :: l,[],_,_,h=>by have:=(h a).mp List.mem_cons_self;cases this
 | a :: l,b :: m,h1,h2,h=>by
  obtain ⟨h3,h4⟩:=List.pairwise_cons.mp h1
  obtain ⟨h5,h6⟩:=List.pairwise_cons.mp h2
  have e:a = b:=by
   rcases List.mem_cons.mp ((h a).mp List.mem_cons_self) with e | ha
   ·exact e
   ·rcases List.mem_cons.mp ((h b).mpr List.mem_cons_self) with e | hb
    ·exact e.symm
    ·exact (as _ _ (h3 b hb) (h5 a ha)).elim
  subst e
  have irr:∀ x,¬ r x x:=fun x hx=>as x x hx hx
  rw [ai as h4 h6 fun x=>?_]
  constructor
  ·intro hx
   rcases List.mem_cons.mp ((h x).mp (List.mem_cons_of_mem _ hx)) with e | hx2
   ·rw [e] at hx;exact (irr _ (h3 _ hx)).elim
   ·exact hx2
  ·intro hx
   rcases List.mem_cons.mp ((h x).mpr (List.mem_cons_of_mem _ hx)) with e | hx2
   ·rw [e] at hx;exact (irr _ (h5 _ hx)).elim
   ·exact hx2
theorem Ud {ord:List Nat}{m:Nat}{R J:List (List Bool)}{a b:List Bool} (hn:ord.Nodup) (h1:RI0 ord m R J a) (h2:RI0 ord m R J b) (la:a.length = m) (lb:b.length = m):a = b:=by
 apply List.ext_getElem (by rw [la,lb])
 intro i hi1 hi2
 exact Vc (by rw [vg];exact hn) (h1 i _ (List.getElem?_eq_getElem hi1)) (h2 i _ (List.getElem?_eq_getElem hi2))
theorem fh {m:Nat}{R J:List (List Bool)}{a b:List Bool} (h1:RI1 m R J a) (h2:RI1 m R J b) (la:a.length = m) (lb:b.length = m):a = b:=by
 obtain ⟨o1,p1,s1,r1⟩:=h1
 obtain ⟨o2,p2,s2,r2⟩:=h2
 have:o1 = o2:=ai (fun x y=>by unfold wg;omega) s1 s2 fun x=>by rw [p1.mem_iff,p2.mem_iff]
 subst this
 exact Ud (p1.nodup_iff.mpr List.nodup_range) r1 r2 la lb
theorem Y6 (J:List (List Bool)):((List.range J.length).map fun n=>J.getD n []) = J:=by
 apply List.ext_getElem (by simp)
 intro i h1 h2
 simp [List.getD_eq_getElem?_getD,List.getElem?_eq_getElem h2]
theorem o6 (J:List (List Bool)) (j:Nat) (t:Bool):(yl J j t J.length).length = J.countP fun k=>k.getD j false == t:=by
 unfold yl
 rw [← List.countP_eq_length_filter]
 conv=>rhs;rw [← Y6 J,List.countP_map]
 rfl
theorem qr (J:List (List Bool)) (j:Nat):(yf J j).length = J.countP fun k=>k.getD j false:=by
 unfold yf
 rw [← List.countP_eq_length_filter]
theorem V1 (J:List (List Bool)) (j:Nat):(yl J j false J.length).length + (yf J j).length = J.length:=by
 rw [o6,qr,List.length_eq_countP_add_countP (p:=fun k:List Bool=>k.getD j false) (l:=J),Nat.add_comm]
 congr 2
 funext k
 cases k.getD j false <;> rfl
theorem ww (J:List (List Bool)) (j:Nat):xp J j = if 2 * ((yf J j).length:Int) - J.length < 0 then -(2 * ((yf J j).length:Int) - J.length) else 2 * ((yf J j).length:Int) - J.length:=by
 have h:=V1 J j
 unfold xp
 rw [o5]
 have e:((yf J j).length:Int) - ((yl J j false J.length).length:Int) = 2 * ((yf J j).length:Int) - J.length:=by omega
 rw [e]
theorem u6 (A B:List (List Bool)) (j:Nat):(yf (A ++ B) j).length = (yf A j).length + (yf B j).length:=by
 unfold yf
 rw [List.filter_append,List.length_append]
theorem qt (J:List (List Bool)) (k j:Nat):(yf (J.drop k ++ J.take k) j).length = (yf J j).length:=by
 rw [u6,Nat.add_comm,← u6,List.take_append_drop]
theorem qg (J:List (List Bool)) (k:Nat):(J.drop k ++ J.take k).length = J.length:=by
 rw [List.length_append,Nat.add_comm,← List.length_append,List.take_append_drop]
theorem V0 (J:List (List Bool)) (k:Nat):ze (J.drop k ++ J.take k) = ze J:=by
 funext j
 unfold ze
 rw [qt,qg]
theorem T8 (J:List (List Bool)) (k j:Nat):xp (J.drop k ++ J.take k) j = xp J j:=by rw [ww,ww,qt,qg]
theorem rg (J:List (List Bool)) (k:Nat):ze (J ++ (J.drop k ++ J.take k) ++ J) = ze J:=by
 funext j
 unfold ze
 rw [u6,u6,qt,List.length_append,List.length_append,qg]
 exact decide_eq_decide.mpr (by omega)
theorem d9 (J:List (List Bool)) (k j:Nat):xp (J ++ (J.drop k ++ J.take k) ++ J) j = 3 * xp J j:=by
 rw [ww,ww,u6,u6,qt,List.length_append,List.length_append,qg]
 split <;> split <;> omega
theorem qx (r:List Bool) (J:List (List Bool)) (ws:List Int) (m k:Nat):yg r (J ++ (J.drop k ++ J.take k) ++ J) ws m = 3 * yg r J ws m:=by
 have h:yg r (J.drop k ++ J.take k) ws m = yg r J ws m:=by
  unfold yg
  rw [List.map_append,List.sum_append,Int.add_comm,← List.sum_append,← List.map_append,List.take_append_drop]
 have e:yg r (J ++ (J.drop k ++ J.take k) ++ J) ws m = yg r J ws m + yg r (J.drop k ++ J.take k) ws m + yg r J ws m:=by
  unfold yg
  rw [List.map_append,List.map_append,List.sum_append,List.sum_append]
 rw [e,h]
 omega
theorem gr (R J:List (List Bool)) (ws:List Int) (m k:Nat):wt R (J ++ (J.drop k ++ J.take k) ++ J) ws m = wt R J ws m:=by
 unfold wt
 congr 1
 funext r
 congr 1
 funext r'
 rw [qx,qx]
 exact decide_eq_decide.mpr (by omega)
theorem fg {m:Nat}{R J J':List (List Bool)}{row:List Bool} (c:Int) (hc:0 < c) (hm:ze J' = ze J) (hs:∀ j,xp J' j = c * xp J j) (h:RI1 m R J' row):RI1 m R J row:=by
 obtain ⟨ord,hp,hst,hr⟩:=h
 refine ⟨ord,hp,hst.imp fun {x y} h=>?_,fun i b hb=>by rw [← hm];exact hr i b hb⟩
 unfold wg at h ⊢
 simp only [hs] at h
 rcases h with h | ⟨h,hxy⟩
 ·left
  have h2:c * xp J y < c * xp J x:=by omega
  have:=Int.lt_of_mul_lt_mul_left h2 (Int.le_of_lt hc)
  show -xp J x < -xp J y
  omega
 ·right
  have h2:c * xp J x = c * xp J y:=by omega
  have:=Int.eq_of_mul_eq_mul_left (by omega) h2
  exact ⟨show -xp J x = -xp J y by omega,hxy⟩
theorem sg {R:List (List Bool)}{said:Nat→Bool}{r:List Bool} (hr:r∈R) (ord:List Nat) (h:∀ n∈ord,r.getD n false = said n):∀ i,i≤ord.length→∀ p∈y9 R said (ord.take i),p.2 = said p.1∧p.1∈ord
 | 0,_=>fun p hp=>by simp [y9] at hp
 | i + 1,hi=>fun p hp=>by
  have ih:=sg hr ord h i (by omega)
  obtain ⟨n,hn⟩:∃ n,ord[i]? = some n:=⟨_,List.getElem?_eq_getElem (by omega)⟩
  have hno:=List.mem_of_getElem? hn
  rw [w9 hn] at hp
  rcases List.mem_append.mp hp with hp | hp
  ·exact ih p hp
  ·rw [List.mem_singleton.mp hp]
   refine ⟨?_,hno⟩
   show yd R said _ n = said n
   unfold yd
   rw [if_pos]
   refine List.any_eq_true.mpr ⟨r,hr,List.all_eq_true.mpr fun p hp=>?_⟩
   rcases List.mem_append.mp hp with hp | hp
   ·obtain ⟨e,hm⟩:=ih p hp
    rw [e,h _ hm]
    exact beq_self_eq_true _
   ·rw [List.mem_singleton.mp hp]
    show (r.getD n false == said n) = true
    rw [h n hno]
    exact beq_self_eq_true _
def v7 (J:List (List Bool)) (j:Nat):Prop:=∀ k∈J,k.getD j false = (J.getD 0 []).getD j false
theorem Zp {J:List (List Bool)}{j:Nat} (h:v7 J j):(yf J j).length = if (J.getD 0 []).getD j false = true then J.length else 0:=by
 rw [qr]
 split
 ·rename_i h1
  exact List.countP_eq_length.mpr fun k hk=>by rw [h k hk];exact h1
 ·rename_i h1
  exact List.countP_eq_zero.mpr fun k hk=>by rw [h k hk];exact h1
theorem mr {J:List (List Bool)}{j:Nat} (h:v7 J j) (hl:1≤J.length):ze J j = (J.getD 0 []).getD j false:=by
 unfold ze
 rw [Zp h]
 split
 ·rename_i h1;rw [h1];exact decide_eq_true (by omega)
 ·rename_i h1
  rw [Bool.not_eq_true] at h1
  rw [h1];exact decide_eq_false (by omega)
theorem Q6 (J:List (List Bool)) (j:Nat):xp J j≤J.length:=by
 have h:(yf J j).length≤J.length:=List.length_filter_le _ _
 rw [ww]
 split <;> omega
theorem Zo {J:List (List Bool)}{j:Nat} (hl:1≤J.length):xp J j = J.length ↔ v7 J j:=by
 have hle:(yf J j).length≤J.length:=List.length_filter_le _ _
 constructor
 ·intro h
  rw [ww] at h
  have h2:(yf J j).length = 0∨(yf J j).length = J.length:=by split at h <;> omega
  have h0:J.getD 0 []∈J:=by
   rw [List.getD_eq_getElem?_getD,List.getElem?_eq_getElem (by omega:0 < J.length)]
   exact List.getElem_mem _
  rw [qr] at h2
  intro k hk
  rcases h2 with h2 | h2
  ·have:=List.countP_eq_zero.mp h2
   rw [Bool.eq_false_iff.mpr (this k hk),Bool.eq_false_iff.mpr (this _ h0)]
  ·have:=List.countP_eq_length.mp h2
   rw [this k hk,this _ h0]
 ·intro h
  rw [ww,Zp h]
  split <;> split <;> omega
theorem bf {J:List (List Bool)}{ord:List Nat} (hl:1≤J.length) (hst:ord.Pairwise (wg fun i=>-xp J i)) {j n:Nat} (hj:ord[j]? = some n) (ha:v7 J n):∀ n'∈ord.take (j + 1),v7 J n':=by
 intro n' hn'
 obtain ⟨i,hi⟩:=List.mem_iff_getElem?.mp hn'
 rw [List.getElem?_take] at hi
 split at hi
 ·rename_i hij
  by_cases e:i = j
  ·subst e
   rw [hi] at hj
   cases hj
   exact ha
  ·obtain ⟨hi2,ei⟩:=List.getElem?_eq_some_iff.mp hi
   obtain ⟨hj2,ej⟩:=List.getElem?_eq_some_iff.mp hj
   have h:=List.pairwise_iff_getElem.mp hst i j hi2 hj2 (by omega)
   rw [ei,ej] at h
   have h1:=(Zo hl).mpr ha
   have h2:=Q6 J n'
   have h3:-xp J n' < -xp J n∨-xp J n' = -xp J n∧n' < n:=h
   exact (Zo hl).mp (by omega)
 ·cases hi
theorem kq {R J:List (List Bool)}{ord:List Nat} (hl:1≤J.length) (h0:J.getD 0 []∈R) (hst:ord.Pairwise (wg fun i=>-xp J i)) {j n:Nat} (hj:ord[j]? = some n) (ha:v7 J n):yd R (ze J) (y9 R (ze J) (ord.take j)) n = (J.getD 0 []).getD n false:=by
 have hb:=bf hl hst hj ha
 have:=sg (said:=ze J) h0 (ord.take (j + 1)) (fun n' hn'=>(mr (hb n' hn') hl).symm) _ (Nat.le_refl _) (n,yd R (ze J) (y9 R (ze J) (ord.take j)) n) (by rw [List.take_length,w9 hj];exact List.mem_append_right _ (List.mem_singleton.mpr rfl))
 rw [← mr ha hl]
 exact this.1
theorem q4 {R J:List (List Bool)}{ord:List Nat} (hl:1≤J.length) (h0:J.getD 0 []∈R) (hst:ord.Pairwise (wg fun i=>-xp J i)):∀ i,i≤ord.length→∀ p∈y9 R (ze J) (ord.take i),v7 J p.1→p.2 = (J.getD 0 []).getD p.1 false
 | 0,_=>fun p hp=>by simp [y9] at hp
 | i + 1,hi=>fun p hp ha=>by
  obtain ⟨n,hn⟩:∃ n,ord[i]? = some n:=⟨_,List.getElem?_eq_getElem (by omega)⟩
  rw [w9 hn] at hp
  rcases List.mem_append.mp hp with hp | hp
  ·exact q4 hl h0 hst i (by omega) p hp ha
  ·rw [List.mem_singleton.mp hp] at ha ⊢
   exact kq hl h0 hst hn ha
theorem Ye {m:Nat}{R J:List (List Bool)}{row:List Bool} (hl:1≤J.length) (h0:J.getD 0 []∈R) (h:RI1 m R J row) {n:Nat}{b:Bool} (hb:row[n]? = some b) (ha:v7 J n):b = (J.getD 0 []).getD n false:=by
 obtain ⟨ord,hp,hst,hr⟩:=h
 have:=q4 hl h0 hst ord.length (Nat.le_refl _) (n,b) (by rw [List.take_length];exact hr n b hb) ha
 exact this
theorem bd {J:List (List Bool)}{n:Nat} (ha:v7 J n):yl J n ((J.getD 0 []).getD n false) J.length = List.range J.length:=by
 unfold yl
 refine List.filter_eq_self.mpr fun i hi=>?_
 rw [List.mem_range] at hi
 rw [ha (J.getD i []) (by rw [List.getD_eq_getElem?_getD,List.getElem?_eq_getElem hi];exact List.getElem_mem _)]
 exact beq_self_eq_true _
theorem ab {α:Type} (p q:α→Bool):∀ l:List α,l.length < l.countP p + l.countP q→∃ x∈l,p x = true∧q x = true
 | [],h=>by simp at h
 | a :: l,h=>by
  by_cases hb:p a = true∧q a = true
  ·exact ⟨a,List.mem_cons_self,hb⟩
  ·have:l.length < l.countP p + l.countP q:=by
    rw [List.countP_cons,List.countP_cons,List.length_cons] at h
    split at h <;> split at h
    ·exact absurd ⟨‹_›,‹_›⟩ hb
    all_goals omega
   obtain ⟨x,hx,r⟩:=ab p q l this
   exact ⟨x,List.mem_cons_of_mem _ hx,r⟩
theorem gq {J:List (List Bool)} (hodd:J.length % 2 = 1) (j:Nat):J.length < 2 * J.countP fun k=>k.getD j false == ze J j:=by
 have h:=V1 J j
 rw [o6] at h
 cases hm:ze J j with
 | true =>
  have h1:=of_decide_eq_true (show decide ((J.length:Int) < 2 * ((yf J j).length:Int)) = true from hm)
  have e:(J.countP fun k=>k.getD j false == true) = (yf J j).length:=by
   rw [qr]
   congr 1
   funext k
   cases k.getD j false <;> rfl
  rw [e]
  omega
 | false =>
  have h1:=of_decide_eq_false (show decide ((J.length:Int) < 2 * ((yf J j).length:Int)) = false from hm)
  omega
theorem Zi {J:List (List Bool)} (hodd:J.length % 2 = 1) (i j:Nat):∃ r∈J,r.getD i false = ze J i∧r.getD j false = ze J j:=by
 obtain ⟨r,hr,h1,h2⟩:=ab (fun k:List Bool=>k.getD i false == ze J i) (fun k:List Bool=>k.getD j false == ze J j) J (by
  have:=gq hodd i
  have:=gq hodd j
  omega)
 exact ⟨r,hr,eq_of_beq h1,eq_of_beq h2⟩
theorem Xo {m:Nat}{R J:List (List Bool)}{row:List Bool} (hodd:J.length % 2 = 1) (hm:m≤2) (hJ:∀ r∈J,r∈R) (h:RI1 m R J row) (hl:row.length = m):row = ya J m:=by
 obtain ⟨ord,hp,_,hr⟩:=h
 obtain ⟨r,hrJ,h0,h1⟩:=Zi hodd 0 1
 have hk:=sg (said:=ze J) (hJ r hrJ) ord (fun n hn=>by
  have:n < m:=List.mem_range.mp (hp.mem_iff.mp hn)
  have:n = 0∨n = 1:=by omega
  rcases this with rfl | rfl
  ·exact h0
  ·exact h1) ord.length (Nat.le_refl _)
 rw [List.take_length] at hk
 apply List.ext_getElem (by rw [hl,wa])
 intro i h1 h2
 refine (hk (i,row[i]) (hr i _ (List.getElem?_eq_getElem h1))).1.trans ?_
 simp [ya]
theorem kl (S:Str→Bool):∀ ss:List Str,∃ n:Nat,n < 2 ^ ss.length∧zj (n:Int) ss = ss.filter S
 | []=>⟨0,by simp,rfl⟩
 | x :: r=>by
  obtain ⟨n,hn,e⟩:=kl S r
  cases hx:S x with
  | true =>
   refine ⟨2 * n + 1,by rw [List.length_cons,Nat.pow_succ];omega,?_⟩
   rw [zj,if_pos (by omega),List.filter_cons_of_pos hx,← e]
   congr 2
   omega
  | false =>
   refine ⟨2 * n,by rw [List.length_cons,Nat.pow_succ];omega,?_⟩
   rw [zj,if_neg (by omega),List.filter_cons_of_neg (by rw [hx];exact Bool.false_ne_true),← e]
   congr 1
   omega
theorem ql {hs hs':List Str}:∀ t:Say,(∀ x∈t.letters,(hs.any fun y=>y == x) = hs'.any fun y=>y == x)→t.so hs = t.so hs'
 | .letter x,h=>h x (by simp [Say.letters])
 | .neg s,h=>by rw [Say.so,Say.so,ql s h]
 | .bin o s t,h=>by rw [Say.so,Say.so,ql s fun x hx=>h x (by simp [Say.letters,hx]),ql t fun x hx=>h x (by simp [Say.letters,hx])]
theorem U1 {ts:List Say}{ss ss2:List Str}{R R2:List (List Bool)} (k:Nat) (hF:FitRows ts ss R) (hN2:NamesOf (ts.take k) ss2) (hF2:FitRows (ts.take k) ss2 R2) {r:List Bool} (hr:r∈R):r.take k∈R2:=by
 obtain ⟨n,_,rfl⟩:=(hF.2.1 r).mp hr
 obtain ⟨n',hn',e⟩:=kl (fun x=>(zj (n:Int) ss).any fun y=>y == x) ss2
 refine (hF2.2.1 _).mpr ⟨n',hn',?_⟩
 unfold ve
 rw [← List.map_take,e]
 refine List.map_congr_left fun t ht=>ql t fun x hx=>?_
 have hx2:x∈ss2:=(hN2.2.1 x).mpr (mem_allL.mpr ⟨t,ht,hx⟩)
 cases hc:(zj (n:Int) ss).any fun y=>y == x with
 | true =>
  have hm:x∈ss2.filter fun x=>(zj (n:Int) ss).any fun y=>y == x:=List.mem_filter.mpr ⟨hx2,hc⟩
  have:((ss2.filter fun x=>(zj (n:Int) ss).any fun y=>y == x).any fun y=>y == x) = true:=List.any_eq_true.mpr ⟨x,hm,beq_self_eq_true x⟩
  exact this.symm
 | false =>
  refine (Bool.eq_false_iff.mpr fun z=>?_).symm
  obtain ⟨y,hy,he⟩:=List.any_eq_true.mp z
  have:=eq_of_beq he
  subst this
  have:=(List.mem_filter.mp hy).2
  rw [hc] at this
  cases this
theorem Zn {k:List Bool}{ps qs:List (Nat×Bool)}:agr k (ps ++ qs) = (agr k ps && agr k qs):=by
 unfold agr
 rw [List.all_append]
theorem lw {R:List (List Bool)}{said:Nat→Bool} (h0:1≤R.length) (ord:List Nat):∀ i,i≤ord.length→(R.any fun k=>agr k (y9 R said (ord.take i))) = true
 | 0,_=>by
  obtain ⟨k,hk⟩:=List.exists_mem_of_length_pos (l:=R) (by omega)
  exact List.any_eq_true.mpr ⟨k,hk,by simp [y9,agr]⟩
 | i + 1,hi=>by
  have hc:ord[i]? = some ord[i]:=List.getElem?_eq_getElem hi
  rw [w9 hc]
  have ih:=lw (said:=said) h0 ord i (Nat.le_of_succ_le hi)
  generalize y9 R said (ord.take i) = tk at ih ⊢
  generalize ord[i] = n
  unfold yd
  cases hb:(R.any fun k=>agr k (tk ++ [(n,said n)])) with
  | true=>rw [if_pos rfl];exact hb
  | false =>
   rw [if_neg (by decide)]
   obtain ⟨k,hk,ha⟩:=List.any_eq_true.mp ih
   refine List.any_eq_true.mpr ⟨k,hk,?_⟩
   rw [Zn,ha,Bool.true_and]
   have h1:agr k (tk ++ [(n,said n)]) = false:=by
    cases h2:agr k (tk ++ [(n,said n)]) with
    | false=>rfl
    | true=>rw [List.any_eq_true.mpr ⟨k,hk,h2⟩] at hb;cases hb
   rw [Zn,ha,Bool.true_and] at h1
   simp only [agr,List.all_cons,List.all_nil,Bool.and_true] at h1 ⊢
   cases h3:k.getD n false <;> cases h4:said n <;> rw [h3,h4] at h1 <;> first | rfl | cases h1
theorem O0 {m:Nat}{R J:List (List Bool)}{row:List Bool} (h0:1≤R.length) (hR:∀ r∈R,r.length = m) (h:RI1 m R J row) (hl:row.length = m):row∈R:=by
 obtain ⟨ord,hp,_,hr⟩:=h
 have hf:=lw (said:=ze J) h0 ord ord.length (Nat.le_refl _)
 rw [List.take_length] at hf
 obtain ⟨r,hrR,ha⟩:=List.any_eq_true.mp hf
 have:row = r:=by
  apply List.ext_getElem (by rw [hl,hR r hrR])
  intro i h1 h2
  have h3:=List.all_eq_true.mp ha _ (hr i _ (List.getElem?_eq_getElem h1))
  have h4:r.getD i false = row[i]:=eq_of_beq h3
  rw [List.getD_eq_getElem?_getD,List.getElem?_eq_getElem h2] at h4
  exact h4.symm
 rw [this]
 exact hrR
def W7 (K:PySem.W.Frag) (Pt C:Addr):Sp:=fun vs H Q _=>∃ (x dx b j:Addr) (us:List V) (ts:List Say) (xs:List Str) (J:List (Addr×List Bool)),vs = [.ref x,.ref b,.ref j]∧H x = some (.ins C dx [])∧SqT K H b us∧SaysAt K H us ts∧Lst ts xs∧JudgesAt K H j J ts.length∧Tb Pt H ∧
 ∀ (l:Addr) (H':Hp) (ss:List Str) (R:List (List Bool)) (ord:List Nat) (rs:List V),SameP Pt H H'→Tb Pt H'→NamesOf ts ss→FitRows ts ss R→ord.Pairwise (wg fun i=>-xp (J.map (·.2)) i)→H' l = some (.lst rs)→rs.length = ts.length→(∀ n v,rs[n]? = some v→∃ i,ord[i]? = some n∧rsnOk K H' R (J.map (·.2)) (ze (J.map (·.2))) (y9 R (ze (J.map (·.2))) (ord.take i)) n v)→Q (.ref l) H'
theorem sc_bsrsn:zu ["self","sayings","judges"] ["self","sayings","judges"] (z4 (yj (top 36) 1)):=⟨rfl,rfl,rfl,by decide +kernel,rfl,by decide +kernel,by decide +kernel⟩
theorem V4 {C Pt:Addr} (D:DefM K C "reasons" "ByStrength.reasons" (yj (top 36) 1) ["self","sayings","judges"]) (C_in_order:zx P w K mg base 45 "in_order" ["sayings","judges","order"] (sx K)) (C_order_of_strength:zx P w K mg base 6 "order_of_strength" ["judges"] (Xd K Pt)):xi P w K mg base 46 C "reasons" ["self","sayings","judges"] (W7 K Pt C):=by
 refine D.callee sc_bsrsn (fun vs H Q E h=>?_) fun f cdv A outer s H vs Q E hr h=>?_
 ·obtain ⟨x,dx,b,j,us,ts,xs,J,rfl,_⟩:=h
  rfl
 have nd:=sc_bsrsn.nd
 obtain ⟨x,dx,b,j,us,ts,xs,J,rfl,hx,hb,hT,hL,hJ,hTb,q⟩:=h
 have hhi:=hL.hi
 refine ⟨[some (.ref x),some (.ref b),some (.ref j)],_,rfl,(zy (zr (yu (zv C_in_order hr (by omega) (z9 (z8 1) (z9 (z8 2) (z9 (zv C_order_of_strength hr (by omega) (z9 (z8 2) z6)) z6)))) zz (fun _ _=>rfl)))),?_⟩
 walk_at "rp"
 refine ⟨j,J,ts.length,rfl,hJ,hhi,hTb,fun o H1 ord s1 t1 ho hp hst=>?_⟩
 walk_at "rp"
 have tu:=yw hTb s1
 refine ⟨b,j,o,us,ts,xs,J,ord,rfl,tu.sqT hb,hT.mono tu,hL,hJ.mono tu,ho,(qk hp).1,(qk hp).2,fun r c l H' ss R row rs s' hN hF nr hr' hc hl hrow nl el hrs hrsn=>?_⟩
 walk_at "rp"
 refine ⟨_,_,.inr hr',rfl,?_⟩
 walk_at "rp"
 exact q l H' ss R ord rs (s1.trans (we s')) (t1.same s') hN hF hst el hrs hrsn
def Xa (K:PySem.W.Frag):Sp:=fun vs H Q _=>∃ (a d:Addr) (ns:List Int) (R:List (Addr×List Bool)) (m:Nat),vs = [.ref a,.ref d]∧SqL K H a (ns.map V.int)∧ns.length≤5000∧H d = some (.lst (R.map fun r=>V.ref r.1))∧(∀ r∈R,SqT K H r.1 (r.2.map V.bl))∧(∀ r∈R,r.2.length = m)∧1≤R.length∧R.length≤32∧m≤10 ∧
 ∀ (p:Addr) (H':Hp) (J:List (Addr×List Bool)),Same H H'→JudgesAt K H' p J m→J.length % 2 = 1→J.length≤7→(∀ r∈J,r∈R)→Q (.ref p) H'
theorem sc_like:zu ["_law_script","_law_fit","_law_base","_law_kept","_law_some","_law_many"] ["_law_script","_law_fit"] (z4 (top 54)):=⟨rfl,rfl,rfl,by decide +kernel,rfl,by decide +kernel,by decide +kernel⟩
theorem S0 (D:Def K mg "_law_like" (top 54) ["_law_script","_law_fit"]) (C_law_cell:zx P w K mg base 1 "_law_cell" ["_law_script","_law_k"] (d4 K)) (C_law_pick:zx P w K mg base 2 "_law_pick" ["_law_script","_law_k","_law_many"] (vw K)) (mg_len:mg "len" = none) (mg_range:mg "range" = none) (mg_tuple:mg "tuple" = none):zx P w K mg base 3 "_law_like" ["_law_script","_law_fit"] (Xa K):=by
 refine D.callee sc_like (fun vs H Q E h=>?_) fun f cdv A outer s H vs Q E hr h=>?_
 ·obtain ⟨a,d,ns,R,m,rfl,_⟩:=h
  rfl
 have nd:=sc_like.nd
 obtain ⟨a,d,ns,R,m,rfl,hS,h63,hd,hR,hRm,hlo,hhi,hm,q⟩:=h
 refine ⟨[some (.ref a),some (.ref d),none,none,none,none],_,rfl,(z5 (zo 2 nd (yu (z8 1) (zv C_law_pick hr (by omega) (z9 (z8 0) (z9 zz (z9 (zp ye rfl mg_len yx (z9 (z8 1) z6)) z6)))) (fun _ _=>rfl)))
  (z5 (zo 3 nd (yp (ixs:=[0]) (zl (own:=["_law_k"]) (N:=["_law_script"]) rfl rfl rfl rfl rfl rfl rfl (by decide +kernel) rfl rfl rfl) rfl (yh rfl mg_range (z9 (zp ye rfl mg_len yx (z9 (z8 2) z6)) z6)) (fun _ _ _ _=>(wc (zd Sr (zv C_law_pick hr (by omega) (z9 (z8 1) (z9 (zq zf zz (z8 0)) (z9 zz z6)))) zz (zh _)))) (fun _ _ _ _=>(z8 0)) rfl))
  (z5 (zo 4 nd (Sq (ixs:=[3,2]) (bq (x:="_law_row_here") (N:=["_law_kept","_law_base"]) rfl rfl rfl rfl (fun _=>rfl) (fun _=>rfl) rfl rfl rfl (by decide +kernel) rfl rfl rfl) rfl (y3 (z8 1)) (fun _ _ _ _=>(wc (zd (wx hr.units) (zp ye rfl mg_len yx (z9 (yp (ixs:=[0,2]) (zl (own:=["_law_k"]) (N:=["_law_row_here","_law_base"]) rfl rfl rfl rfl rfl rfl rfl (by decide +kernel) rfl rfl rfl) rfl (y3 (z8 1)) (fun _ _ _ _=>(wc (zd (gk hr.units) (yu (z8 1) (z8 0) (fun _ _=>rfl)) (yu (z8 2) (z8 0) (fun _ _=>rfl)) (zh _)))) (fun _ _ _ _=>(z8 0)) rfl) z6)) zz (zh _)))) (fun _ _ _ _=>(z8 0)) rfl))
  (z5 (zo 5 nd (zq zf zz (zq w6 zz (zv C_law_pick hr (by omega) (z9 (z8 0) (z9 zz (z9 zz z6)))))))
  (zy (zr (za yi rfl mg_tuple y4 (z9 (yp (ixs:=[4,0]) (zl (own:=["_law_j"]) (N:=["_law_some","_law_script"]) rfl rfl rfl rfl rfl rfl rfl (by decide +kernel) rfl rfl rfl) rfl (yh rfl mg_range (z9 (z8 5) z6)) (fun _ _ _ _=>yq) (fun _ _ _ _=>(yu (z8 1) (zq vc (zv C_law_cell hr (by omega) (z9 (z8 2) (z9 (zq zf zz (z8 0)) z6))) (zp ye rfl mg_len yx (z9 (z8 1) z6))) (fun _ _=>rfl))) rfl) z6)))))))),?_⟩
 walk_at "rp"
 refine ⟨_,.inl (SqL.of hd),?_⟩
 rw [List.length_map]
 refine ⟨a,ns,30,_,rfl,hS,h63,by decide,by decide,by omega,fun y y0 y1=>?_⟩
 obtain ⟨i0,rfl⟩:∃ i0:Nat,y = (i0:Int):=⟨y.toNat,by omega⟩
 obtain ⟨bs,eb⟩:∃ bs,R[i0]? = some bs:=⟨_,List.getElem?_eq_getElem (by omega)⟩
 have hbs:=List.mem_of_getElem? eb
 walk_at "rp"
 refine ⟨_,_,.inl (SqL.of hd),yo (by rw [List.getElem?_map,eb];rfl),?_⟩
 walk_at "rp"
 refine ⟨_,.inr (hR bs hbs),?_⟩
 rw [List.length_map,hRm bs hbs]
 refine ⟨⟨by omega,by omega⟩,fun C' s₀ H₀ ex=>?_⟩
 rw [Int.toNat_natCast]
 refine qv (fun D i ys H1=>∃ ks:List Nat,ys = (ks.map fun k=>V.int ((k:Nat):Int))∧ks.length≤i∧(∀ k∈ks,k < m)∧H1 D = some (.lst ys)∧Same H H1∧H D = none) (by rw [sizeLine_eq];omega) ?_ ?_ ?_ ?_
 ·intro D H1 n1 s1 e1
  exact ⟨[],rfl,Nat.le_refl _,fun k hk=>(by cases hk),e1,s1,n1⟩
 ·rintro D i ys H1 ⟨ks,rfl,hl,_,e1,s1,_⟩
  exact ⟨e1,by rw [List.length_map];exact hl⟩
 ·rintro D i ys H1 hi ⟨ks,rfl,hl,hks,e1,s1,n1⟩
  rw [Int.zero_add]
  walk_at "rp"
  refine ⟨a,ns,_,3,rfl,s1.seq hS,h63,by omega,by omega,by decide,fun z z0 z1=>?_⟩
  walk_at "rp"
  refine v3 (fun c=>?_) fun c=>?_
  ·refine ⟨e1,CN.mk hi ⟨ks ++ [i],by rw [List.map_append];rfl,by rw [List.length_append];exact Nat.succ_le_succ hl,fun k hk=>?_,zw,zt s1 n1 _,n1⟩⟩
   rcases List.mem_append.mp hk with z | z
   ·exact hks k z
   ·rw [List.mem_singleton.mp z];exact hi
  ·exact CN.mk hi ⟨ks,rfl,by omega,hks,e1,s1,n1⟩
 rintro D1 ys H1 ⟨ks,rfl,hkl,hks,e1,s1,n1⟩
 walk_at "rp"
 refine .inl ⟨⟨_,SqL.of (s1 _ _ hd)⟩,fun C' s₀ H₀ ex=>?_⟩
 refine se (xs:=R.map fun r=>V.ref r.1) (fun D i ys H2=>∃ S:List (Addr×List Bool),ys = (S.map fun r=>V.ref r.1)∧S.length≤i∧(∀ r∈S,r∈R)∧(i0 < i→1≤S.length)∧H2 D = some (.lst ys)∧Same H1 H2∧H1 D = none) (by rw [List.length_map,sizeLine_eq];omega) ?_ ?_ ?_ ?_
 ·intro D H2 n2 s2 e2
  exact ⟨[],rfl,Nat.le_refl _,fun k hk=>(by cases hk),fun z=>absurd z (Nat.not_lt_zero _),e2,s2,n2⟩
 ·rintro D i ys H2 ⟨S,rfl,hl,_,_,e2,s2,_⟩
  exact ⟨SqL.of ((s1.trans s2) _ _ hd),e2,by rw [List.length_map];exact hl⟩
 ·rintro D i v ys H2 hv ⟨S,rfl,hl,hSR,hS0,e2,s2,n2⟩
  rw [List.getElem?_map] at hv
  cases hc:R[i]? with
  | none=>rw [hc] at hv;cases hv
  | some rr =>
   rw [hc] at hv
   cases hv
   have hrr:=List.mem_of_getElem? hc
   have hi:i < R.length:=(List.getElem?_eq_some_iff.mp hc).1
   have s12:=s1.trans s2
   walk_at "rp"
   refine .inl ⟨⟨_,SqL.of (s2 _ _ e1)⟩,fun C' s₀ H₀ ex=>?_⟩
   refine se (xs:=ks.map fun k=>V.int ((k:Nat):Int)) (fun D' i' ys' H3=>ys'.length≤i'∧(rr.2 = bs.2→ys' = [])∧H3 D' = some (.lst ys')∧Same H2 H3∧H2 D' = none) (by rw [List.length_map,sizeLine_eq];omega) ?_ ?_ ?_ ?_
   ·intro D' H3 n3 s3 e3
    exact ⟨Nat.le_refl _,fun _=>rfl,e3,s3,n3⟩
   ·rintro D' i' ys' H3 ⟨hl3,_,e3,s3,_⟩
    exact ⟨SqL.of ((s2.trans s3) _ _ e1),e3,hl3⟩
   ·rintro D' i' v' ys' H3 hv' ⟨hl3,h3,e3,s3,n3⟩
    rw [List.getElem?_map] at hv'
    cases hk:ks[i']? with
    | none=>rw [hk] at hv';cases hv'
    | some k =>
     rw [hk] at hv'
     cases hv'
     have hi':i' < ks.length:=(List.getElem?_eq_some_iff.mp hk).1
     have hkm:=hks k (List.mem_of_getElem? hk)
     have s13:=s12.trans s3
     obtain ⟨b1,eb1⟩:∃ b1,rr.2[k]? = some b1:=⟨_,List.getElem?_eq_getElem (by rw [hRm rr hrr];exact hkm)⟩
     obtain ⟨b2,eb2⟩:∃ b2,bs.2[k]? = some b2:=⟨_,List.getElem?_eq_getElem (by rw [hRm bs hbs];exact hkm)⟩
     walk_at "rp"
     refine ⟨_,_,.inr ((z7 s13).sqT (hR rr hrr)),yo (by rw [List.getElem?_map,eb1];rfl),?_⟩
     walk_at "rp"
     refine ⟨_,_,.inr ((z7 s13).sqT (hR bs hbs)),yo (by rw [List.getElem?_map,eb2];rfl),?_⟩
     walk_at "rp"
     have hik:i' < (ks.map fun k=>V.int ((k:Nat):Int)).length:=by rw [List.length_map];exact hi'
     refine v3 (fun c=>?_) fun c=>?_
     ·refine ⟨e3,CN.mk hik ⟨by rw [List.length_append];exact Nat.succ_le_succ hl3,fun z=>?_,zw,zt s3 n3 _,n3⟩⟩
      rw [z,eb2] at eb1
      cases eb1
      rw [decide_eq_true rfl] at c
      cases c
     ·exact CN.mk hik ⟨by omega,h3,e3,s3,n3⟩
   ·rintro D' ys' H3 ⟨hl3,h3,e3,s3,n3⟩
    walk_at "rp"
    refine ⟨_,.inl (SqL.of e3),?_⟩
    walk_at "rp"
    have s23:=s2.trans s3
    have hil:i < (R.map fun r=>V.ref r.1).length:=by rw [List.length_map];exact hi
    refine v3 (fun c=>?_) fun c=>?_
    ·refine ⟨s3 _ _ e2,CN.mk hil ⟨S ++ [rr],by rw [List.map_append];rfl,by rw [List.length_append];exact Nat.succ_le_succ hl,fun r hr=>?_,fun _=>by rw [List.length_append];exact Nat.le_add_left _ _,zw,zt s23 n2 _,n2⟩⟩
     rcases List.mem_append.mp hr with z | z
     ·exact hSR r z
     ·rw [List.mem_singleton.mp z];exact hrr
    ·refine CN.mk hil ⟨S,rfl,by omega,hSR,fun z=>?_,s3 _ _ e2,s23,n2⟩
     by_cases e:i0 = i
     ·subst e
      rw [hc] at eb
      cases eb
      rw [h3 rfl] at c
      exact absurd rfl c
     ·exact hS0 (by omega)
 rintro D2 ys H2 ⟨S,rfl,hSl,hSR,hS0,e2,s2,n2⟩
 rw [List.length_map] at hSl hS0
 have hS1:1≤S.length:=hS0 (by omega)
 have s12:=s1.trans s2
 walk_at "rp"
 refine ⟨a,ns,29,4,rfl,s12.seq hS,h63,by decide,by decide,by decide,fun y y0' y1'=>?_⟩
 walk_at "rp"
 obtain ⟨n,en,hn1,hn7,hn2⟩:∃ n:Nat,1 + 2 * y = (n:Int)∧1≤n∧n≤7∧n % 2 = 1:=⟨(1 + 2 * y).toNat,by omega,by omega,by omega,by omega⟩
 rw [en]
 refine ⟨cm (by decide),?_⟩
 walk_at "rp"
 refine ⟨⟨by omega,by omega⟩,fun C' s₀ H₀ ex=>?_⟩
 rw [Int.toNat_natCast]
 refine xy (fun D i ys H3=>∃ J:List (Addr×List Bool),ys = (J.map fun r=>V.ref r.1)∧J.length = i∧(∀ r∈J,r∈R)∧H3 D = some (.lst ys)∧Same H2 H3∧H2 D = none) (by rw [sizeLine_eq];omega) ?_ ?_ ?_ ?_
 ·intro D H3 n3 s3 e3
  exact ⟨[],rfl,rfl,fun r hr=>(by simp at hr),e3,s3,n3⟩
 ·rintro D i ys H3 ⟨J,rfl,hl,_,e3,s3,_⟩
  exact ⟨e3,by rw [List.length_map,hl]⟩
 ·rintro D i ys H3 hi ⟨J,rfl,hl,hJ,e3,s3,n3⟩
  walk_at "rp"
  refine ⟨a,ns,_,rfl,(s12.trans s3).seq hS,h63,by omega,by omega,fun cc=>?_⟩
  walk_at "rp"
  refine ⟨_,.inl (SqL.of (s3 _ _ e2)),?_⟩
  rw [List.length_map]
  have hpos:(0:Int) < (S.length:Int):=by omega
  obtain ⟨v,hv,ev⟩:=my (xs:=S.map fun r=>V.ref r.1) (k:=cc % (S.length:Int)) (Int.emod_nonneg _ (by omega)) (by rw [List.length_map];exact Int.emod_lt_of_pos _ hpos)
  obtain ⟨r',hr',rfl⟩:=List.mem_map.mp hv
  refine ⟨hpos,?_⟩
  walk_at "rp"
  refine ⟨_,_,.inl (SqL.of (s3 _ _ e2)),ev,?_⟩
  walk_at "rp"
  refine ⟨e3,CN.mk hi ⟨J ++ [r'],by rw [List.map_append];rfl,by rw [List.length_append,hl];rfl,fun x hx=>?_,zw,zt s3 n3 _,n3⟩⟩
  rcases List.mem_append.mp hx with z | z
  ·exact hJ x z
  ·rw [List.mem_singleton.mp z];exact hSR _ hr'
 rintro D3 ys H3 ⟨J,rfl,hl,hJR,e3,s3,n3⟩
 walk_at "rp"
 refine ⟨_,.inl (SqL.of e3),fun p H4 s4 h4=>?_⟩
 have s04:=s12.trans (s3.trans s4)
 exact q p H4 J s04 ⟨h4,fun r hr=>(z7 s04).sqT (hR r (hJR r hr)),fun r hr=>hRm r (hJR r hr),by omega,by omega⟩ (by omega) (by omega) hJR
theorem kj {H:Hp}:∀ ns:List Int,HasL K H (ns.map V.int) (ns.map PyData.int)
 | []=>by simp [HasL]
 | n :: ns=>by
  rw [List.map_cons,List.map_cons]
  unfold HasL
  exact ⟨_,_,rfl,by unfold Has;rfl,kj ns⟩
def Ts (w:Str) (ns:List Int):PyData:=.tuple [.str w,.tuple (ns.map PyData.int)]
theorem Z1 {H:Hp}{r c:Addr}{w:Str}{ns:List Int} (h:SqT K H r [.str w,.ref c]) (hc:SqT K H c (ns.map V.int)):Has K H (.ref r) (Ts w ns):=by
 unfold Ts Has
 refine ⟨r,_,rfl,h,?_⟩
 unfold HasL
 refine ⟨_,_,rfl,by unfold Has;rfl,?_⟩
 unfold HasL
 refine ⟨_,_,rfl,?_,by simp [HasL]⟩
 unfold Has
 exact ⟨c,_,rfl,hc,kj ns⟩
theorem ug {w:Str} (hw:PyData.strOk w = true) (ns:List Int):SeqAt.shaped (Ts w ns) = true:=by
 have h1:∀ ms:List Int,PyData.canLayAll0 (ms.map PyData.int) = true∧PyData.depthAll (ms.map PyData.int)≤1:=fun ms=>by
  induction ms with
  | nil=>simp [PyData.canLayAll0,PyData.depthAll]
  | cons m ms ih =>
   rw [List.map_cons,PyData.canLayAll0,PyData.depthAll,ih.1]
   have:PyData.depth (.int m)≤1:=by simp [PyData.depth]
   exact ⟨by simp [PyData.canLay0],by omega⟩
 unfold SeqAt.shaped Ts
 have:=h1 ns
 simp only [PyData.canLay0,PyData.canLayAll0,PyData.depth,PyData.depthAll,this.1]
 simp
 exact ⟨hw,by omega⟩
def au (K:PySem.W.Frag) (Pt C:Addr):Sp:=fun vs H Q _=>∃ (x dx b j d:Addr) (us:List V) (ts:List Say) (xs ss:List Str) (J R:List (Addr×List Bool)),vs = [.ref x,.ref b,.ref j,.ref d]∧H x = some (.ins C dx [])∧SqT K H b us∧SaysAt K H us ts∧Lst ts xs∧JudgesAt K H j J ts.length∧J.length≤21∧(∀ r∈J,r∈R)∧H d = some (.lst (R.map fun r=>V.ref r.1))∧(∀ r∈R,SqT K H r.1 (r.2.map V.bl))∧NamesOf ts ss∧FitRows ts ss (R.map (·.2))∧Tb Pt H ∧
 ∀ H',SameP Pt H H'→Tb Pt H'→Q (.bl true) H'
theorem sc_keeps:zu ["_law_way","_law_sayings","_law_judges","_law_fit","_law_row_here","_law_reasons","_law_everybody","_law_k"] ["_law_way","_law_sayings","_law_judges","_law_fit"] (z4 (top 55)):=⟨rfl,rfl,rfl,by decide +kernel,rfl,by decide +kernel,by decide +kernel⟩
theorem V7 {C Pt:Addr}{ps ps':List Str} (D:Def K mg "_law_keeps" (top 55) ["_law_way","_law_sayings","_law_judges","_law_fit"]) (C_ByStrength_row:xi P w K mg base 46 C "row" ps (pq K Pt C (fun _:Unit=>Fl1) fun _=>RI1)) (C_ByStrength_reasons:xi P w K mg base 46 C "reasons" ps' (W7 K Pt C)) (mg_len:mg "len" = none) (mg_range:mg "range" = none) (mg_tuple:mg "tuple" = none):zx P w K mg base 47 "_law_keeps" ["_law_way","_law_sayings","_law_judges","_law_fit"] (au K Pt C):=by
 refine D.callee sc_keeps (fun vs H Q E h=>?_) fun f cdv A outer s H vs Q E hr h=>?_
 ·obtain ⟨x,dx,b,j,d,us,ts,xs,ss,J,R,rfl,_⟩:=h
  rfl
 have nd:=sc_keeps.nd
 obtain ⟨x,dx,b,j,d,us,ts,xs,ss,J,R,rfl,hx,hb,hT,hL,hJ,h21,hJR,hd,hR,hN,hF,hTb,q⟩:=h
 have hhi:=hL.hi
 refine ⟨[some (.ref x),some (.ref b),some (.ref j),some (.ref d),none,none,none,none],_,rfl,(z5 (zo 4 nd (wz C_ByStrength_row hr (by omega) (z8 0) (z9 (z8 1) (z9 (z8 2) z6))))
  (z5 (yr (zd (Vx hr.units) (z8 4) (z8 3) (by with_unfolding_all rfl)) (zy (zr wb)) zi)
  (z5 (zo 5 nd (wz C_ByStrength_reasons hr (by omega) (z8 0) (z9 (z8 1) (z9 (z8 2) z6))))
  (z5 (zo 6 nd (wy (z9 yz (z9 (cq rfl rfl mg_tuple rfl mg_range (z9 (zp ye rfl mg_len yx (z9 (z8 2) z6)) z6)) z6))))
  (z5 (xj PassesOwn.never rfl (yh rfl mg_range (z9 (zp ye rfl mg_len yx (z9 (z8 4) z6)) z6)) (wk 7 nd) (zy (yr (zd (wx hr.units) (zp ye rfl mg_len yx (z9 (yp (ixs:=[7,2]) (zl (own:=["_law_judge"]) (N:=["_law_k","_law_judges"]) rfl rfl rfl rfl rfl rfl rfl (by decide +kernel) rfl rfl rfl) rfl (y3 (z8 2)) (fun _ _ _ _=>(wc (zd (gk hr.units) (yu (z8 0) (z8 1) (fun _ _=>rfl)) (yu (yu (z8 2) zz (fun _ _=>rfl)) (z8 1) (fun _ _=>rfl)) (zh _)))) (fun _ _ _ _=>(z8 0)) rfl) z6)) zz (zh _)) (zy (yr (PW.pt (g8 (zd (gk hr.units) (yu (z8 4) (z8 7) (fun _ _=>rfl)) (yu (yu (z8 2) zz (fun _ _=>rfl)) (z8 7) (fun _ _=>rfl)) (zh _)) (ou (zd (gk hr.units) (yu (z8 5) (z8 7) (fun _ _=>rfl)) (z8 6) (zh _))))) (zy (zr wb)) zi)) zi)))
  (zy (zr wb))))))),?_⟩
 walk_at "rp"
 refine ⟨x,dx,[],rfl,hx,rfl,?_⟩
 refine ⟨(),x,dx,b,j,[],us,ts,xs,J,rfl,hx,rfl,hb,hT,hL,hJ,hTb,fun p H1 ss1 R1 row s1 T1 hN1 hF1 hp hl hri=>?_⟩
 have es:=NamesOf.eq hN1 hN
 subst es
 have eR:=FitRows.eq hF1 hF
 subst eR
 have tu1:=yw hTb s1
 have hRm:∀ r∈R.map (·.2),r.length = ts.length:=fun r hr=>w4 hF hr
 have hin:=O0 (by rw [List.length_map];exact je hF) hRm hri hl
 walk_at "rp"
 refine ⟨row,R,hp,SqL.of (yy hTb s1 hd),fun r hr=>tu1.sqT (hR r hr),?_⟩
 have hany:(R.any fun r=>r.2 == row) = true:=by
  obtain ⟨r,hr,e⟩:=List.mem_map.mp hin
  exact List.any_eq_true.mpr ⟨r,hr,by rw [e];exact beq_self_eq_true _⟩
 rw [hany]
 walk_at "rp"
 refine ⟨x,dx,[],rfl,yy hTb s1 hx,rfl,?_⟩
 refine ⟨x,dx,b,j,us,ts,xs,J,rfl,yy hTb s1 hx,tu1.sqT hb,hT.mono tu1,hL,hJ.mono tu1,T1,fun l H2 ss2 R2 ord rs s2 T2 hN2 hF2 hst el hrl hrs=>?_⟩
 have es2:=NamesOf.eq hN2 hN
 subst es2
 have eR2:=FitRows.eq hF2 hF
 subst eR2
 have tu2:=tu1.trans (yw T1 s2)
 have s02:=s1.trans s2
 walk_at "rp"
 refine ⟨_,.inr (tu2.sqT hJ.sq),?_⟩
 rw [List.length_map]
 walk_at "rp"
 refine ⟨⟨by omega,by omega⟩,fun t3 H3 n3 s3 e3=>?_⟩
 rw [Int.toNat_natCast] at e3
 walk_at "rp"
 refine ⟨sz2,fun t4 H4 n4 s4 e4=>?_⟩
 walk_at "rp"
 have tu4:=tu2.trans (z7 (s3.trans s4))
 have s04:SameP Pt H H4:=s02.trans (we (s3.trans s4))
 have T4:=T2.same (s3.trans s4)
 have p4:=((yw T1 s2).trans (z7 (s3.trans s4))).sqT hp
 refine ⟨_,.inr p4,?_⟩
 rw [List.length_map,hl]
 refine ⟨⟨by omega,by omega⟩,?_⟩
 rw [Int.toNat_natCast]
 have hJ4:=hJ.mono tu4
 have hlo:=hJ.lo
 obtain ⟨j0,ej0⟩:∃ j0,J[0]? = some j0:=⟨_,List.getElem?_eq_getElem (by omega)⟩
 have hj0:=List.mem_of_getElem? ej0
 have g0:(J.map (·.2)).getD 0 [] = j0.2:=by rw [List.getD_eq_getElem?_getD,List.getElem?_map,ej0];rfl
 have hlM:1≤(J.map (·.2)).length:=by rw [List.length_map];exact hlo
 have h0R:(J.map (·.2)).getD 0 []∈R.map (·.2):=by rw [g0];exact List.mem_map_of_mem (f:=(·.2)) (hJR j0 hj0)
 have el4:=(s3.trans s4) _ _ el
 refine vt (fun i σ H5=>(∃ x7,σ = [some (.ref x),some (.ref b),some (.ref j),some (.ref d),some (.ref p),some (.ref l),some (.ref t4),x7])∧Same H4 H5) ⟨⟨_,rfl⟩,Same.refl _⟩ ?_ ?_
 ·rintro i σ H5 hi ⟨⟨x7,rfl⟩,s5⟩
  rw [Int.zero_add]
  have hJ5:=hJ4.mono (z7 s5)
  obtain ⟨b0,eb0⟩:∃ b0,j0.2[i]? = some b0:=⟨_,List.getElem?_eq_getElem (by rw [hJ.len j0 hj0];exact hi)⟩
  have gb0:j0.2.getD i false = b0:=by rw [List.getD_eq_getElem?_getD,eb0];rfl
  walk_at "rp"
  refine .inr ⟨⟨_,hJ5.sq⟩,fun C' s₀ H₀ ex=>?_⟩
  refine vy (xs:=J.map fun r=>V.ref r.1) (fun D n ys H6=>ys.length≤n∧(ys.length = 0→∀ r∈J.take n,r.2.getD i false = b0)∧H6 D = some (.lst ys)∧Same H5 H6∧H5 D = none) (by rw [List.length_map,sizeLine_eq];omega) ?_ ?_ ?_ ?_
  ·intro D H6 n6 s6 e6
   exact ⟨Nat.le_refl _,fun _ r hr=>(by simp at hr),e6,s6,n6⟩
  ·rintro D n ys H6 ⟨hl6,_,e6,s6,_⟩
   exact ⟨(z7 s6).sqT hJ5.sq,e6,hl6⟩
  ·rintro D n v ys H6 hv ⟨hl6,h6,e6,s6,n6⟩
   rw [List.getElem?_map] at hv
   cases hc:J[n]? with
   | none=>rw [hc] at hv;cases hv
   | some r =>
    rw [hc] at hv
    cases hv
    have hr':=List.mem_of_getElem? hc
    have hn:n < (J.map fun r=>V.ref r.1).length:=by rw [List.length_map];exact (List.getElem?_eq_some_iff.mp hc).1
    obtain ⟨b1,eb1⟩:∃ b1,r.2[i]? = some b1:=⟨_,List.getElem?_eq_getElem (by rw [hJ.len r hr'];exact hi)⟩
    have hJ6:=hJ5.mono (z7 s6)
    walk_at "rp"
    refine ⟨_,_,.inr (hJ6.row r hr'),yo (by rw [List.getElem?_map,eb1];rfl),?_⟩
    walk_at "rp"
    refine ⟨_,_,.inr hJ6.sq,yo (j:=0) (by rw [List.getElem?_map,ej0];rfl),?_⟩
    walk_at "rp"
    refine ⟨_,_,.inr (hJ6.row j0 hj0),yo (by rw [List.getElem?_map,eb0];rfl),?_⟩
    walk_at "rp"
    refine v3 (fun c=>?_) fun c=>?_
    ·exact ⟨e6,CN.mk hn ⟨by rw [List.length_append];exact Nat.succ_le_succ hl6,fun z=>by rw [List.length_append] at z;exact absurd z (Nat.succ_ne_zero _),zw,zt s6 n6 _,n6⟩⟩
    ·refine CN.mk hn ⟨by omega,fun z r2 hr2=>?_,e6,s6,n6⟩
     rw [List.take_add_one,hc] at hr2
     rcases List.mem_append.mp hr2 with hr2 | hr2
     ·exact h6 z r2 hr2
     ·have:r2 = r:=by simpa using hr2
      subst this
      rw [List.getD_eq_getElem?_getD,eb1]
      cases b1 <;> cases b0 <;> first | rfl | exact absurd rfl c
  ·rintro D ys H6 ⟨hl6,h6,e6,s6,n6⟩
   walk_at "rp"
   refine ⟨_,.inl (SqL.of e6),?_⟩
   walk_at "rp"
   have s46:=s5.trans s6
   refine v3 (fun c=>?_) fun c=>?_
   ·have hz:ys.length = 0:=by have:=of_decide_eq_true c;omega
    have ha:v7 (J.map (·.2)) i:=fun k hk=>by
     obtain ⟨r,hr',rfl⟩:=List.mem_map.mp hk
     rw [g0,gb0]
     exact h6 hz r (by rw [List.length_map,List.take_length];exact hr')
    obtain ⟨bb,ebb⟩:∃ bb,row[i]? = some bb:=⟨_,List.getElem?_eq_getElem (by rw [hl];exact hi)⟩
    have hbb:=Ye hlM h0R hri ebb ha
    rw [g0,gb0] at hbb
    subst hbb
    have hJ6:=hJ5.mono (z7 s6)
    walk_at "rp"
    refine ⟨_,_,.inr ((z7 s46).sqT p4),yo (by rw [List.getElem?_map,ebb];rfl),?_⟩
    walk_at "rp"
    refine ⟨_,_,.inr hJ6.sq,yo (j:=0) (by rw [List.getElem?_map,ej0];rfl),?_⟩
    walk_at "rp"
    refine ⟨_,_,.inr (hJ6.row j0 hj0),yo (by rw [List.getElem?_map,eb0];rfl),?_⟩
    walk_at "rp"
    obtain ⟨v,ev⟩:∃ v,rs[i]? = some v:=⟨_,List.getElem?_eq_getElem (by rw [hrl];exact hi)⟩
    refine ⟨_,v,.inl (SqL.of (s46 _ _ el4)),yo ev,?_⟩
    obtain ⟨ii,hii,hro⟩:=hrs i v ev
    have ho:=kq hlM h0R hst hii ha
    have hmo:=mr ha hlM
    have t24:=(z7 (s3.trans s4)).trans (z7 s46)
    rcases hro with ⟨_,hre⟩ | ⟨hno,_⟩
    ·rw [hmo,bd ha,List.length_map] at hre
     obtain ⟨r,c',rfl,h1,h2⟩:=hre.mono t24
     have em:((List.range J.length).map fun n=>V.int ((n:Nat):Int)) = (((List.range J.length).map fun n=>((n:Nat):Int)).map V.int):=by rw [List.map_map];rfl
     rw [em] at h2
     have h3:SqT K H6 t3 (((List.range J.length).map fun n=>((n:Nat):Int)).map V.int):=by rw [← em];exact ((z7 s4).trans (z7 s46)).sqT (SqT.of e3)
     have h4:SqT K H6 t4 _:=(z7 s46).sqT (SqT.of e4)
     refine ⟨_,_,Z1 h1 h2,Z1 h4 h3,ug (by decide +kernel) _,ug (by decide +kernel) _,?_⟩
     rw [fz (ug (by decide +kernel) _)]
     exact ⟨⟨_,rfl⟩,s46⟩
    ·rw [ho,hmo] at hno
     cases hb9:((J.map (·.2)).getD 0 []).getD i false <;> rw [hb9] at hno <;> cases hno
   ·walk_at "rp"
    exact ⟨⟨_,rfl⟩,s46⟩
 ·rintro σ H5 ⟨⟨x7,rfl⟩,s5⟩
  walk_at "rp"
  exact q H5 (s04.trans (we s5)) (T4.same s5)
theorem u5 (x y:Str):(x ++ y).length = x.length + y.length:=by
 show (x.cps ++ y.cps).size = _
 exact Array.size_append
theorem nw:(Str.ofString "bcdfghjklmnpqrstvwxyz").cps.toList.length = 21:=by decide +kernel
theorem lets_len':(Str.ofString "bcdfghjklmnpqrstvwxyz").length = 21:=by decide +kernel
theorem p7:(Str.ofString "qzkxw").length = 5:=by decide +kernel
theorem jj:PyData.strOk (Str.ofString "bcdfghjklmnpqrstvwxyz") = true:=by decide +kernel
theorem Ub:PyData.strOk (Str.ofString "qzkxw") = true:=by decide +kernel
theorem Sw:PyData.strOk (Str.ofString "") = true:=by decide +kernel
def aw (K:PySem.W.Frag):Sp:=fun vs H Q _=>∃ (a:Addr) (ns:List Int) (k m:Int),vs = [.ref a,.int k,.int m]∧SqL K H a (ns.map V.int)∧ns.length≤5000∧0≤k∧k≤1000∧1≤m∧m≤5 ∧
 ∀ (p:Addr) (H':Hp) (xs:List Str),H p = none→Same H H'→H' p = some (.lst (xs.map V.str))→(xs.length:Int) = m→(∀ x∈xs,Nm x)→Q (.ref p) H'
theorem sc_names:zu ["_law_script","_law_k","_law_many","_law_letters","_law_word","_law_j","_law_first","_law_at"] ["_law_script","_law_k","_law_many"] (z4 (top 42)):=⟨rfl,rfl,rfl,by decide +kernel,rfl,by decide +kernel,by decide +kernel⟩
theorem V8 (D:Def K mg "_law_names" (top 42) ["_law_script","_law_k","_law_many"]) (C_law_pick:zx P w K mg base 2 "_law_pick" ["_law_script","_law_k","_law_many"] (vw K)) (mg_len:mg "len" = none) (mg_range:mg "range" = none):zx P w K mg base 3 "_law_names" ["_law_script","_law_k","_law_many"] (aw K):=by
 refine D.callee sc_names (fun vs H Q E h=>?_) fun f cdv A outer s H vs Q E hr h=>?_
 ·obtain ⟨a,ns,k,m,rfl,_⟩:=h
  rfl
 have nd:=sc_names.nd
 obtain ⟨a,ns,k,m,rfl,hS,h63,h0,hk,hm,hm5,q⟩:=h
 refine ⟨[some (.ref a),some (.int k),some (.int m),none,none,none,none,none],_,rfl,(z5 (zo 3 nd yz)
  (z5 (zo 4 nd yz)
  (z5 (xj PassesOwn.never rfl (yh rfl mg_range (z9 (zv C_law_pick hr (by omega) (z9 (z8 0) (z9 (z8 1) (z9 zz z6)))) z6)) (wk 5 nd) (zy (zo 4 nd (zq zf (z8 4) (yu (z8 3) (zv C_law_pick hr (by omega) (z9 (z8 0) (z9 (zq zf (zq zf (z8 1) (zq w6 zz (z8 5))) zz) (z9 zz z6)))) (fun _ _=>rfl))))))
  (z5 (zo 6 nd (zv C_law_pick hr (by omega) (z9 (z8 0) (z9 (zq zf (z8 1) zz) (z9 zz z6)))))
  (z5 (yr (zd (wx hr.units) (zv C_law_pick hr (by omega) (z9 (z8 0) (z9 (zq zf (z8 1) zz) (z9 zz z6)))) zz (zh _)) (z5 (zo 4 nd (xz (zq zf (zq zf (z8 4) (yu (z8 3) (z8 6) (fun _ _=>rfl))) yz) yb (xo zz)))
  (zy (zr (yp (ixs:=[4]) (zl (own:=["_law_j"]) (N:=["_law_word"]) rfl rfl rfl rfl rfl rfl rfl (by decide +kernel) rfl rfl rfl) rfl (yh rfl mg_range (z9 (z8 2) z6)) (fun _ _ _ _=>yq) (fun _ _ _ _=>(xz (z8 1) yb (xo (zq zf (z8 0) zz)))) rfl)))) zi)
  (z5 (zo 7 nd (zv C_law_pick hr (by omega) (z9 (z8 0) (z9 (zq zf (z8 1) zz) (z9 (zq zf (zp ye rfl mg_len yx (z9 (z8 4) z6)) zz) z6)))))
  (zy (zr (yp (ixs:=[4,7,3,6]) (zl (own:=["_law_j"]) (N:=["_law_word","_law_at","_law_letters","_law_first"]) rfl rfl rfl rfl rfl rfl rfl (by decide +kernel) rfl rfl rfl) rfl (yh rfl mg_range (z9 (z8 2) z6)) (fun _ _ _ _=>yq) (fun _ _ _ _=>(zq zf (zq zf (xz (z8 1) yb (xo (z8 2))) (yu (z8 3) (zq vc (zq zf (z8 4) (zq w6 zz (z8 0))) zz) (fun _ _=>rfl))) (xz (z8 1) (xo (z8 2)) yb))) rfl))))))))),?_⟩
 walk_at "rp"
 refine ⟨a,ns,k,6,rfl,hS,h63,h0,by omega,by decide,fun r r0 r6=>?_⟩
 walk_at "rp"
 refine ⟨⟨by omega,by omega⟩,?_⟩
 refine vt (fun i σ H'=>∃ (word:Str) (jv:Option V),σ = [some (.ref a),some (.int k),some (.int m),some (.str "bcdfghjklmnpqrstvwxyz"),some (.str word),jv,none,none]∧H' = H∧word.length = i∧i≤5∧PyData.strOk word = true) ⟨_,none,rfl,rfl,rfl,by decide,Sw⟩ ?_ ?_
 ·rintro i σ H' hi ⟨word,jv,rfl,rfl,hw,hi5,hok⟩
  walk_at "rp"
  refine ⟨cm (by omega),a,ns,_,21,rfl,hS,h63,by omega,by omega,by decide,fun r' r0' r21=>?_⟩
  walk_at "rp"
  obtain ⟨c,hc,ec⟩:=my (xs:=(Str.ofString "bcdfghjklmnpqrstvwxyz").cps.toList) r0' (by rw [nw];exact r21)
  refine ⟨by rw [lets_len'];exact yc (by decide),c,ec,?_,?_⟩
  ·show word.length + 1≤sizeLine
   exact yc (by omega)
  ·refine ⟨_,_,rfl,trivial,?_,by omega,t8 hok (j4 jj hc)⟩
   rw [u5,hw]
   rfl
 ·rintro σ H' ⟨word,jv,rfl,rfl,hw,hw5,hok⟩
  walk_at "rp"
  refine ⟨a,ns,k + 3,21,rfl,hS,h63,by omega,by omega,by decide,fun first f0 f21=>?_⟩
  walk_at "rp"
  refine ⟨a,ns,k + 4,3,rfl,hS,h63,by omega,by omega,by decide,fun w3 _ _=>?_⟩
  walk_at "rp"
  refine v3 (fun c=>?_) (fun c=>?_)
  ·obtain ⟨cc,hcc,ec⟩:=my (xs:=(Str.ofString "bcdfghjklmnpqrstvwxyz").cps.toList) f0 (by rw [nw];exact f21)
   refine ⟨by rw [lets_len'];exact yc (by decide),cc,ec,?_⟩
   have l1:(word ++ (⟨#[cc]⟩:Str)).length≤6:=by
    rw [u5]
    show word.length + 1≤6
    omega
   refine ⟨yc (by show word.length + 1≤1000;omega),yc (by rw [p7];omega),yc (by rw [u5,p7];omega),⟨by omega,by omega⟩,?_⟩
   have l2:(Txt.slice (word ++ { cps:=#[cc] } ++ Str.ofString "qzkxw") none (some 6)).length≤11:=Nat.le_trans (Txt.slice_le _ _ _) (by rw [u5,p7];omega)
   have o2:PyData.strOk (Txt.slice (word ++ { cps:=#[cc] } ++ Str.ofString "qzkxw") none (some 6)) = true:=u3 (t8 (t8 hok (j4 jj hcc)) Ub) _ _
   generalize Txt.slice (word ++ { cps:=#[cc] } ++ Str.ofString "qzkxw") none (some 6) = word' at l2 o2
   intro C s₀ H₀ ex
   refine xy (fun D i ys H1=>∃ xs:List Str,ys = xs.map V.str∧xs.length = i∧(∀ x∈xs,Nm x)∧H1 D = some (.lst ys)∧Same H' H1∧H' D = none) (yc (by omega)) ?_ ?_ ?_ ?_
   ·intro D H2 n s2 e2
    exact ⟨[],rfl,rfl,(by simp),e2,s2,n⟩
   ·rintro D i ys H1 ⟨xs,rfl,hl,_,e,_⟩
    exact ⟨e,by simpa using hl⟩
   ·rintro D i ys H1 hi ⟨xs,rfl,hl,hx,e,s1,n1⟩
    walk_at "rp"
    refine ⟨yc (by omega),e,CN.mk hi ⟨xs ++ [_],(by rw [List.map_append];rfl),(by rw [List.length_append,hl];rfl),fun x hx'=>?_,zw,zt s1 n1 _,n1⟩⟩
    rcases List.mem_append.mp hx' with z | z
    ·exact hx x z
    ·rw [List.mem_singleton.mp z]
     exact ⟨Nat.le_trans (Txt.slice_le _ _ _) (by omega),u3 o2 _ _⟩
   ·rintro D ys H1 ⟨xs,rfl,hl,hx,e,s1,n1⟩
    exact q D H1 xs n1 s1 e (by rw [hl];omega) hx
  ·refine ⟨yc (by omega),a,ns,k + 2,_,rfl,hS,h63,by omega,by omega,by omega,fun at_ t0 tl=>?_⟩
   walk_at "rp"
   refine ⟨⟨by omega,by omega⟩,?_⟩
   intro C s₀ H₀ ex
   refine xy (fun D i ys H1=>∃ xs:List Str,ys = xs.map V.str∧xs.length = i∧(∀ x∈xs,Nm x)∧H1 D = some (.lst ys)∧Same H' H1∧H' D = none) (yc (by omega)) ?_ ?_ ?_ ?_
   ·intro D H2 n s2 e2
    exact ⟨[],rfl,rfl,(by simp),e2,s2,n⟩
   ·rintro D i ys H1 ⟨xs,rfl,hl,_,e,_⟩
    exact ⟨e,by simpa using hl⟩
   ·rintro D i ys H1 hi ⟨xs,rfl,hl,hx,e,s1,n1⟩
    walk_at "rp"
    obtain ⟨c2,hc2,ec⟩:=my (xs:=(Str.ofString "bcdfghjklmnpqrstvwxyz").cps.toList) (k:=(first + 4 * (0 + (i:Int))) % 21) (Int.emod_nonneg _ (by decide)) (by rw [nw];exact Int.emod_lt_of_pos _ (by decide))
    have b1:=Txt.slice_le word none (some at_)
    have b2:=Txt.slice_le word (some at_) none
    have b3:(Txt.slice word none (some at_) ++ (⟨#[c2]⟩:Str)).length≤6:=by
     rw [u5]
     show (Txt.slice word none (some at_)).length + 1≤6
     omega
    refine ⟨yc (by omega),cm (by omega),(by decide),(by rw [lets_len'];exact yc (by decide)),c2,ec,yc (by show (Txt.slice word none (some at_)).length + 1≤1000;omega),yc (by omega),yc (by omega),e,
     CN.mk hi ⟨xs ++ [_],(by rw [List.map_append];rfl),(by rw [List.length_append,hl];rfl),fun x hx'=>?_,zw,zt s1 n1 _,n1⟩⟩
    rcases List.mem_append.mp hx' with z | z
    ·exact hx x z
    ·rw [List.mem_singleton.mp z]
     exact ⟨by rw [u5];omega,t8 (t8 (u3 hok _ _) (j4 jj hc2)) (u3 hok _ _)⟩
   ·rintro D ys H1 ⟨xs,rfl,hl,hx,e,s1,n1⟩
    exact q D H1 xs n1 s1 e (by rw [hl];omega) hx
def j6 (K:PySem.W.Frag) (n:Nat):Sp:=fun vs H Q _=>∃ (v:V) (h:Addr) (s:Say) (hs:List Str),vs = [v,.ref h]∧SayAt K H v s∧s.pieces≤n∧SqT K H h (hs.map V.str)∧∀ H',Same H H'→Q (.bl (s.so hs)) H'
theorem sc_lawso:zu ["_law_saying_here","_law_held_here","_law_truths"] ["_law_saying_here","_law_held_here"] (z4 (top 44)):=⟨rfl,rfl,rfl,by decide +kernel,rfl,by decide +kernel,by decide +kernel⟩
theorem gz (D:Def K mg "_law_so" (top 44) ["_law_saying_here","_law_held_here"]) (mg_min:mg "min" = none) (mg_max:mg "max" = none):∀ n:Nat,zx P w K mg base n "_law_so" ["_law_saying_here","_law_held_here"] (j6 K n)
 | 0=>xk D fun vs H Q E h=>by
  obtain ⟨v,h,s,hs,_,_,hp,_⟩:=h
  exact absurd s.pieces_pos (by omega)
 | n + 1=>by
  have C_law_so:=gz D mg_min mg_max n
  refine D.callee sc_lawso (fun vs H Q E h=>?_) fun f cdv A outer s H vs Q E hr h=>?_
  ·obtain ⟨v,h,s,hs,rfl,_⟩:=h
   rfl
  have nd:=sc_lawso.nd
  obtain ⟨v,h,s,hs,rfl,hv,hp,hh,q⟩:=h
  refine ⟨[some v,some (.ref h),none],_,rfl,(z5 (yr (zd (wx hr.units) (yu (z8 0) zz (fun _ _=>rfl)) yz (zh _)) (zy (zr (vv Na (yu (z8 0) zz (fun _ _=>rfl)) (z8 1) (by with_unfolding_all rfl)))) zi)
  (z5 (wq 2 nd (ixs:=[1]) (zl (own:=["_law_part"]) (N:=["_law_held_here"]) rfl rfl rfl rfl rfl rfl rfl (by decide +kernel) rfl rfl rfl) rfl (y3 (xz (z8 0) (xo zz) yb)) (fun _ _ _ _=>yq) (fun _ _ _ _=>(zv C_law_so hr (by omega) (z9 (z8 0) (z9 (z8 1) z6)))) rfl)
  (z5 (yr (zd (wx hr.units) (yu (z8 0) zz (fun _ _=>rfl)) yz (zh _)) (zy (zr (gl (yu (z8 2) zz (fun _ _=>rfl))))) zi)
  (z5 (yr (zd (wx hr.units) (yu (z8 0) zz (fun _ _=>rfl)) yz (zh _)) (zy (zr (zp (Rr rfl) rfl mg_min bo (z9 (z8 2) z6)))) zi)
  (z5 (yr (zd (wx hr.units) (yu (z8 0) zz (fun _ _=>rfl)) yz (zh _)) (zy (zr (zp (Ng rfl) rfl mg_max O7 (z9 (z8 2) z6)))) zi)
  (zy (zr (vv Lx (yu (z8 2) zz (fun _ _=>rfl)) (yu (z8 2) zz (fun _ _=>rfl)) (zh _))))))))),?_⟩
  have comp:∀ {te:TE}{p:Addr}{H1:Hp}{us:List V}{ts:List Say}{Q':VK},(∀ v H Q,te [some v,some (.ref h)] H Q = j6 K n [v,.ref h] H Q E0)→Same H H1→SqT K H1 p us→us.length = ts.length→us.length≤10→(∀ (i:Nat) u,us[i]? = some u→∃ t,ts[i]? = some t∧SayAt K H1 u t∧t.pieces≤n) →
    (∀ D H2,Same H H2→H2 D = some (.lst ((ts.map fun t=>t.so hs).map V.bl))→Q' (.ref D) H2)→vx 1 (mG 0) lu te [some (.ref h)] (Itt K p) Q' H1:=by
   intro te p H1 us ts Q' hte s1 hp1 hl hl10 hu q'
   refine va (xs:=us) (fun D i ys H'=>ys = ((ts.take i).map fun t=>t.so hs).map V.bl∧i≤us.length∧H' D = some (.lst ys)∧Same H1 H'∧H1 D = none) (yc (by omega)) ?_ ?_ ?_ ?_
   ·intro D H2 nn s2 e2
    exact ⟨rfl,Nat.zero_le _,e2,s2,nn⟩
   ·rintro D i ys H' ⟨rfl,hi,e,s2,_⟩
    exact ⟨(z7 s2).sqT hp1,e,by simp;omega⟩
   ·rintro D i v ys H' hv ⟨rfl,hi,e,s2,n2⟩
    obtain ⟨t,ht,sv,pc⟩:=hu i v hv
    rw [hte]
    refine ⟨v,h,t,hs,rfl,sv.mono (z7 s2),pc,(z7 (s1.trans s2)).sqT hh,fun H3 s3=>⟨s3 _ _ e,CN.mk ?_ ⟨?_,?_,zw,zt (s2.trans s3) n2 _,n2⟩⟩⟩
    ·exact (List.getElem?_eq_some_iff.mp hv).1
    ·rw [List.take_add_one,ht]
     simp
    ·exact (List.getElem?_eq_some_iff.mp hv).1
   ·rintro D ys H' ⟨rfl,hi,e,s2,n2⟩
    rw [hl,List.take_length] at e
    exact q' D H' (s1.trans s2) e
  cases s with
  | letter x =>
   obtain ⟨a,rfl,ha⟩:=hv
   walk_at "rp"
   refine ⟨_,_,.inr ha,rfl,?_⟩
   walk_at "rp"
   refine ⟨_,_,.inr ha,rfl,?_⟩
   refine ⟨_,.inr hh,rfl,fk hs,?_⟩
   rw [Z3]
   exact q H (Same.refl H)
  | neg t =>
   obtain ⟨a,u,rfl,ha,ht⟩:=hv
   walk_at "rp"
   refine ⟨_,_,.inr ha,rfl,?_⟩
   walk_at "rp"
   refine .inr ⟨_,ha,fun p H1 s1 h1=>.inr ⟨⟨_,h1⟩,fun C s₀ H₀ ex=>?_⟩⟩
   refine comp (us:=[u]) (ts:=[t]) (fun _ _ _=>rfl) s1 h1 rfl (by simp) (fun i x hx=>?_) fun D H2 s2 e2=>?_
   ·match i,hx with
    | 0,hx =>
     cases hx
     exact ⟨t,rfl,ht.mono (z7 s1),by have:=hp;simp only [Say.pieces] at this;omega⟩
    | i + 1,hx=>simp at hx
   ·have ha2:=(z7 s2).sqT ha
    refine ⟨_,_,.inr ha2,rfl,?_⟩
    walk_at "rp"
    refine ⟨_,_,.inl (SqL.of e2),rfl,?_⟩
    exact q H2 s2
  | bin o t t' =>
   obtain ⟨a,u,u',rfl,ha,ht,ht'⟩:=hv
   have p1:t.pieces≤n∧t'.pieces≤n:=by have:=hp;simp only [Say.pieces] at this;omega
   have hu:∀ {H1:Hp},Same H H1→∀ (i:Nat) x,[u,u'][i]? = some x→∃ r,[t,t'][i]? = some r∧SayAt K H1 x r∧r.pieces≤n:=fun s1 i x hx=>by
    match i,hx with
    | 0,hx =>
     cases hx
     exact ⟨t,rfl,ht.mono (z7 s1),p1.1⟩
    | 1,hx =>
     cases hx
     exact ⟨t',rfl,ht'.mono (z7 s1),p1.2⟩
    | i + 2,hx=>simp at hx
   cases o with
   | con =>
    dsimp only [Op2.word] at ha
    walk_at "rp"
    refine ⟨_,_,.inr ha,rfl,?_⟩
    walk_at "rp"
    refine .inr ⟨_,ha,fun p H1 s1 h1=>.inr ⟨⟨_,h1⟩,fun C s₀ H₀ ex=>?_⟩⟩
    refine comp (us:=[u,u']) (ts:=[t,t']) (fun _ _ _=>rfl) s1 h1 rfl (by simp) (hu s1) fun D H2 s2 e2=>?_
    have ha2:=(z7 s2).sqT ha
    refine ⟨_,_,.inr ha2,rfl,?_⟩
    walk_at "rp"
    refine ⟨_,_,.inr ha2,rfl,?_⟩
    walk_at "rp"
    refine ⟨_,SqL.of e2,by simp,?_⟩
    have:=q H2 s2
    simpa [Say.so,Op2.so] using this
   | dis =>
    dsimp only [Op2.word] at ha
    walk_at "rp"
    refine ⟨_,_,.inr ha,rfl,?_⟩
    walk_at "rp"
    refine .inr ⟨_,ha,fun p H1 s1 h1=>.inr ⟨⟨_,h1⟩,fun C s₀ H₀ ex=>?_⟩⟩
    refine comp (us:=[u,u']) (ts:=[t,t']) (fun _ _ _=>rfl) s1 h1 rfl (by simp) (hu s1) fun D H2 s2 e2=>?_
    have ha2:=(z7 s2).sqT ha
    refine ⟨_,_,.inr ha2,rfl,?_⟩
    walk_at "rp"
    refine ⟨_,_,.inr ha2,rfl,?_⟩
    walk_at "rp"
    refine ⟨_,_,.inr ha2,rfl,?_⟩
    walk_at "rp"
    refine ⟨_,SqL.of e2,by simp,?_⟩
    have:=q H2 s2
    simpa [Say.so,Op2.so] using this
   | imp =>
    dsimp only [Op2.word] at ha
    walk_at "rp"
    refine ⟨_,_,.inr ha,rfl,?_⟩
    walk_at "rp"
    refine .inr ⟨_,ha,fun p H1 s1 h1=>.inr ⟨⟨_,h1⟩,fun C s₀ H₀ ex=>?_⟩⟩
    refine comp (us:=[u,u']) (ts:=[t,t']) (fun _ _ _=>rfl) s1 h1 rfl (by simp) (hu s1) fun D H2 s2 e2=>?_
    have ha2:=(z7 s2).sqT ha
    refine ⟨_,_,.inr ha2,rfl,?_⟩
    walk_at "rp"
    refine ⟨_,_,.inr ha2,rfl,?_⟩
    walk_at "rp"
    refine ⟨_,_,.inr ha2,rfl,?_⟩
    walk_at "rp"
    refine ⟨_,_,.inl (SqL.of e2),rfl,?_⟩
    refine ⟨_,_,.inl (SqL.of e2),rfl,?_⟩
    exact q H2 s2
def W8 (K:PySem.W.Frag):Sp:=fun vs H Q _=>∃ (n:Int) (b:Addr) (xs:List Str),vs = [.int n,.ref b]∧(SqL K H b (xs.map V.str)∨SqT K H b (xs.map V.str))∧xs.length≤100∧∀ (r:Addr) (H':Hp),Same H H'→SqT K H' r ((zj n xs).map V.str)→Q (.ref r) H'
theorem sc_held:zu ["_law_number","_law_names_here","_law_held_here","_law_name"] ["_law_number","_law_names_here"] (z4 (top 45)):=⟨rfl,rfl,rfl,by decide +kernel,rfl,by decide +kernel,by decide +kernel⟩
theorem Sy (D:Def K mg "_law_held" (top 45) ["_law_number","_law_names_here"]) (mg_tuple:mg "tuple" = none):zx P w K mg base 1 "_law_held" ["_law_number","_law_names_here"] (W8 K):=by
 refine D.callee sc_held (fun vs H Q E h=>?_) fun f cdv A outer s H vs Q E hr h=>?_
 ·obtain ⟨n,b,xs,rfl,_⟩:=h
  rfl
 have nd:=sc_held.nd
 obtain ⟨n,b,xs,rfl,hb,hx,q⟩:=h
 refine ⟨[some (.int n),some (.ref b),none,none],_,rfl,(z5 (zo 2 nd (v5 z6))
  (z5 (xj PassesOwn.never rfl (y3 (z8 1)) (wk 3 nd) (z5 (yr (zd (wx hr.units) (zq vc (z8 0) zz) zz (zh _)) (zy (uz (Ym PySem.F.slot_list_append PySem.F.type_list_append Vr (z8 2) (z9 (z8 3) z6)))) zi)
  (zy (zo 0 nd (zq cn (z8 0) zz)))))
  (zy (zr (za yi rfl mg_tuple y4 (z9 (z8 2) z6)))))),?_⟩
 walk_at "rp"
 refine ⟨yc (by simp),fun p H1 n1 s1 e1=>?_⟩
 have hlen:(xs.map V.str).length = xs.length:=List.length_map _
 have inv0:∃ (m:Int) (acc:List Str) (nv:Option V),([some (V.int n),some (V.ref b),some (V.ref p),none]:List (Option V)) = [some (.int m),some (.ref b),some (.ref p),nv]∧acc ++ zj m (xs.drop 0) = zj n xs∧H1 p = some (.lst (acc.map V.str))∧Same H H1∧acc.length≤0 :=
  ⟨n,[],none,rfl,rfl,e1,s1,Nat.le_refl _⟩
 have fin:∀ (σ:L2.St) (H2:Hp),(∃ (m:Int) (acc:List Str) (nv:Option V),σ = [some (.int m),some (.ref b),some (.ref p),nv]∧acc ++ zj m (xs.drop (xs.map V.str).length) = zj n xs∧H2 p = some (.lst (acc.map V.str))∧Same H H2∧acc.length≤(xs.map V.str).length) →
   H2 p = some (.lst ((zj n xs).map V.str))∧Same H H2∧gv σ 2 = some (.ref p):=by
  rintro σ H2 ⟨m,acc,nv,rfl,e,ep,s2,_⟩
  rw [hlen,List.drop_length] at e
  have e':acc = zj n xs:=by simpa [zj] using e
  rw [← e']
  exact ⟨ep,s2,rfl⟩
 have last:∀ (σ:L2.St) (H2:Hp),(∃ (m:Int) (acc:List Str) (nv:Option V),σ = [some (.int m),some (.ref b),some (.ref p),nv]∧acc ++ zj m (xs.drop (xs.map V.str).length) = zj n xs∧H2 p = some (.lst (acc.map V.str))∧Same H H2∧acc.length≤(xs.map V.str).length) →
   ∃ ys,(SqL K H2 p ys∨SqT K H2 p ys)∧∀ (r:Addr) (H':Hp),Same H2 H'→SqT K H' r ys→Q (.ref r) H':=by
  intro σ H2 h
  obtain ⟨ep,s2,_⟩:=fin σ H2 h
  exact ⟨_,.inl (SqL.of ep),fun r H' s3 hr=>q r H' (s2.trans s3) hr⟩
 have step:∀ (i:Nat) (x:V),(xs.map V.str)[i]? = some x→∃ y,x = .str y∧i < xs.length∧xs.drop i = y :: xs.drop (i + 1):=by
  intro i x hx
  rw [List.getElem?_map] at hx
  cases e:xs[i]? with
  | none=>rw [e] at hx;cases hx
  | some y =>
   rw [e] at hx
   obtain ⟨hi,ey⟩:=List.getElem?_eq_some_iff.mp e
   exact ⟨y,(Option.some.inj hx).symm,hi,by rw [List.drop_eq_getElem_cons hi,ey]⟩
 rcases hb with hb | hb
 ·refine .inl ⟨⟨_,s1.seq hb⟩,v4 (xs:=xs.map V.str) (fun i σ H2=>∃ (m:Int) (acc:List Str) (nv:Option V),σ = [some (.int m),some (.ref b),some (.ref p),nv]∧acc ++ zj m (xs.drop i) = zj n xs∧H2 p = some (.lst (acc.map V.str))∧Same H H2∧acc.length≤i) inv0 ?_ ?_ ?_⟩
  ·rintro i σ H2 _ ⟨m,acc,nv,rfl,e,ep,s2,_⟩
   exact s2.seq hb
  ·rintro i x σ H2 hx' ⟨m,acc,nv,rfl,e,ep,s2,ha⟩
   obtain ⟨y,rfl,hi,ed⟩:=step i x hx'
   rw [ed] at e
   walk_at "rp"
   refine ⟨by decide,v3 (fun c=>?_) (fun c=>?_)⟩
   ·have c':m % 2 = 1:=of_decide_eq_true c
    rw [zj,if_pos c'] at e
    refine ⟨⟨_,_,rfl,ep⟩,_,ep,by rw [List.length_map];exact u1 (by omega),⟨by decide,by decide⟩,m / 2,acc ++ [y],_,rfl,by rw [List.append_assoc];exact e,by rw [zw,List.map_append];rfl,zt s2 n1 _,by rw [List.length_append,List.length_singleton];omega⟩
   ·have c':¬ m % 2 = 1:=fun z=>c (decide_eq_true z)
    rw [zj,if_neg c'] at e
    exact ⟨⟨by decide,by decide⟩,m / 2,acc,_,rfl,e,ep,s2,by omega⟩
  ·intro σ H2 h
   obtain ⟨m,acc,nv,rfl,_⟩:=id h
   walk_at "rp"
   exact last _ H2 h
 ·refine .inr ⟨⟨_,(z7 s1).sqT hb⟩,xq (xs:=xs.map V.str) (fun i σ H2=>∃ (m:Int) (acc:List Str) (nv:Option V),σ = [some (.int m),some (.ref b),some (.ref p),nv]∧acc ++ zj m (xs.drop i) = zj n xs∧H2 p = some (.lst (acc.map V.str))∧Same H H2∧acc.length≤i) inv0 ?_ ?_ ?_⟩
  ·rintro i σ H2 _ ⟨m,acc,nv,rfl,e,ep,s2,_⟩
   exact (z7 s2).sqT hb
  ·rintro i x σ H2 hx' ⟨m,acc,nv,rfl,e,ep,s2,ha⟩
   obtain ⟨y,rfl,hi,ed⟩:=step i x hx'
   rw [ed] at e
   walk_at "rp"
   refine ⟨by decide,v3 (fun c=>?_) (fun c=>?_)⟩
   ·have c':m % 2 = 1:=of_decide_eq_true c
    rw [zj,if_pos c'] at e
    refine ⟨⟨_,_,rfl,ep⟩,_,ep,by rw [List.length_map];exact u1 (by omega),⟨by decide,by decide⟩,m / 2,acc ++ [y],_,rfl,by rw [List.append_assoc];exact e,by rw [zw,List.map_append];rfl,zt s2 n1 _,by rw [List.length_append,List.length_singleton];omega⟩
   ·have c':¬ m % 2 = 1:=fun z=>c (decide_eq_true z)
    rw [zj,if_neg c'] at e
    exact ⟨⟨by decide,by decide⟩,m / 2,acc,_,rfl,e,ep,s2,by omega⟩
  ·intro σ H2 h
   obtain ⟨m,acc,nv,rfl,_⟩:=id h
   walk_at "rp"
   exact last _ H2 h
def iq (K:PySem.W.Frag) (n:Nat):Sp:=fun vs H Q _=>∃ (v:V) (s:Say),vs = [v]∧SayAt K H v s∧s.pieces≤n∧s.pieces≤1000∧∀ (p:Addr) (H':Hp),H p = none→Same H H'→H' p = some (.lst (s.letters.map V.str))→Q (.ref p) H'
theorem sc_within:zu ["_law_saying_here","_law_found","_law_part"] ["_law_saying_here"] (z4 (top 46)):=⟨rfl,rfl,rfl,by decide +kernel,rfl,by decide +kernel,by decide +kernel⟩
theorem k7 (D:Def K mg "_law_within" (top 46) ["_law_saying_here"]):∀ n:Nat,zx P w K mg base n "_law_within" ["_law_saying_here"] (iq K n)
 | 0=>xk D fun vs H Q E h=>by
  obtain ⟨v,s,_,_,hp,_⟩:=h
  exact absurd s.pieces_pos (by omega)
 | n + 1=>by
  have C_law_within:=k7 D n
  refine D.callee sc_within (fun vs H Q E h=>?_) fun f cdv A outer s H vs Q E hr h=>?_
  ·obtain ⟨v,s,rfl,_⟩:=h
   rfl
  have nd:=sc_within.nd
  obtain ⟨v,s,rfl,hv,hp,hp2,q⟩:=h
  refine ⟨[some v,none,none],_,rfl,(z5 (yr (zd (wx hr.units) (yu (z8 0) zz (fun _ _=>rfl)) yz (zh _)) (zy (zr (v5 (z9 (yu (z8 0) zz (fun _ _=>rfl)) z6)))) zi)
  (z5 (zo 1 nd (v5 z6))
  (z5 (xj PassesOwn.never rfl (y3 (xz (z8 0) (xo zz) yb)) (wk 2 nd) (zy (zo 1 nd (zq zf (z8 1) (zv C_law_within hr (by omega) (z9 (z8 2) z6))))))
  (zy (zr (z8 1)))))),?_⟩
  by_cases hs:s.subs = []
  ·cases s with
   | letter x =>
    obtain ⟨a,rfl,ha⟩:=hv
    walk_at "rp"
    refine ⟨_,_,.inr ha,rfl,?_⟩
    walk_at "rp"
    refine ⟨_,_,.inr ha,rfl,?_⟩
    walk_at "rp"
    exact ⟨yc (by simp),fun p H1 n1 s1 e1=>q p H1 n1 s1 e1⟩
   | neg t=>simp [Say.subs] at hs
   | bin o t t'=>simp [Say.subs] at hs
  ·obtain ⟨a,wd,us,rfl,ha,hw,hl,hl2,hu⟩:=g9 hv hs
   walk_at "rp"
   refine ⟨_,_,.inr ha,i7 _ _,?_⟩
   walk_at "rp"
   rw [hw]
   walk_at "rp"
   refine ⟨yc (by simp),fun r H0 n0 s0 e0=>?_⟩
   refine .inr ⟨_,(z7 s0).sqT ha,fun p H1 s1 h1=>.inr ⟨⟨_,h1⟩,?_⟩⟩
   rw [m7] at h1
   refine xq (xs:=us) (fun i σ H2=>∃ (r:Addr) (iv:Option V),σ = [some (.ref a),some (.ref r),iv]∧H r = none∧H2 r = some (.lst ((((s.subs.take i).map Say.letters).flatten).map V.str))∧Same H H2∧Same H1 H2∧i≤us.length) ⟨r,none,rfl,n0,s1 _ _ e0,s0.trans s1,Same.refl _,Nat.zero_le _⟩ ?_ ?_ ?_
   ·rintro i σ H2 _ ⟨r,iv,rfl,_,_,_,s2,_⟩
    exact (z7 s2).sqT h1
   ·rintro i x σ H2 hx ⟨r,iv,rfl,nr,e2,s2,s2',hi⟩
    obtain ⟨t,ht,sv,pc⟩:=hu i x hx
    walk_at "rp"
    refine ⟨x,t,rfl,sv.mono (z7 s2),by omega,by omega,fun z H3 n3 s3 e3=>?_⟩
    walk_at "rp"
    have b1:=m8 (s.subs.take i)
    have b2:=p8 Say.pieces s.subs i
    have b3:=rn s
    have b4:=yn t
    refine .inl ⟨_,_,s3 _ _ e2,e3,by rw [List.length_map,List.length_map,sizeLine_eq];omega,fun r2 H4 n4 s4 e4=>⟨r2,some x,rfl,zc (s2.trans s3) n4,?_,s2.trans (s3.trans s4),s2'.trans (s3.trans s4),(List.getElem?_eq_some_iff.mp hx).1⟩⟩
    rw [e4,List.take_add_one,ht]
    simp
   ·rintro σ H2 ⟨r,iv,rfl,nr,e2,s2,_,_⟩
    walk_at "rp"
    rw [hl,List.take_length,← t9 hs] at e2
    exact q r H2 nr s2 e2
def pi (K:PySem.W.Frag):Sp:=fun vs H Q _=>∃ (a:Addr) (us:List V) (ts:List Say) (xs:List Str),vs = [.ref a]∧SqT K H a us∧SaysAt K H us ts∧Lst ts xs∧∀ (p:Addr) (H':Hp) (ss:List Str),H p = none→Same H H'→H' p = some (.lst (ss.map V.str))→NamesOf ts ss→Q (.ref p) H'
theorem sc_allnames:zu ["_law_sayings","_law_found","_law_saying_here"] ["_law_sayings"] (z4 (top 47)):=⟨rfl,rfl,rfl,by decide +kernel,rfl,by decide +kernel,by decide +kernel⟩
theorem gu (D:Def K mg "_law_all_names" (top 47) ["_law_sayings"]) (C_law_within:zx P w K mg base 40 "_law_within" ["_law_saying_here"] (iq K 40)) (mg_sorted:mg "sorted" = none) (mg_set:mg "set" = none):zx P w K mg base 41 "_law_all_names" ["_law_sayings"] (pi K):=by
 refine D.callee sc_allnames (fun vs H Q E h=>?_) fun f cdv A outer s H vs Q E hr h=>?_
 ·obtain ⟨a,us,ts,xs,rfl,_⟩:=h
  rfl
 have nd:=sc_allnames.nd
 obtain ⟨a,us,ts,xs,rfl,ha,hS,hL,q⟩:=h
 have hl:=hS.len
 refine ⟨[some (.ref a),none,none],_,rfl,(z5 (zo 1 nd (v5 z6))
  (z5 (xj PassesOwn.never rfl (y3 (z8 0)) (wk 2 nd) (zy (zo 1 nd (zq zf (z8 1) (zv C_law_within hr (by omega) (z9 (z8 2) z6))))))
  (zy (zr (w8 rfl hr.units rfl mg_sorted rfl mg_set (z8 1)))))),?_⟩
 walk_at "rp"
 refine ⟨yc (by simp),fun r H1 n1 s1 e1=>?_⟩
 refine .inr ⟨⟨_,(z7 s1).sqT ha⟩,xq (xs:=us) (fun i σ H2=>∃ (r:Addr) (iv:Option V),σ = [some (.ref a),some (.ref r),iv]∧H2 r = some (.lst ((ut (ts.take i)).map V.str))∧Same H H2) ⟨r,none,rfl,e1,s1⟩ ?_ ?_ ?_⟩
 ·rintro i σ H2 _ ⟨r,iv,rfl,_,s2⟩
  exact (z7 s2).sqT ha
 ·rintro i x σ H2 hx ⟨r,iv,rfl,e2,s2⟩
  obtain ⟨t,ht,sv⟩:=hS.at i x hx
  have htm:=List.mem_of_getElem? ht
  have hi:i < us.length:=(List.getElem?_eq_some_iff.mp hx).1
  have h6:=hL.hi
  walk_at "rp"
  refine ⟨x,t,rfl,sv.mono (z7 s2),hL.pc t htm,by have:=hL.pc t htm;omega,fun p H3 n3 s3 e3=>?_⟩
  walk_at "rp"
  have h1:=mq (ts.take i) fun u hu=>hL.pc u (List.mem_of_mem_take hu)
  have h2:=yn t
  have h3:=hL.pc t htm
  have h4:(ts.take i).length≤6:=by rw [List.length_take];omega
  refine .inl ⟨_,_,s3 _ _ e2,e3,by rw [List.length_map,List.length_map,sizeLine_eq];omega,fun r2 H4 n4 s4 e4=>⟨r2,some x,rfl,?_,s2.trans (s3.trans s4)⟩⟩
  rw [e4,j9 ht,List.map_append]
 ·rintro σ H2 ⟨r,iv,rfl,e2,s2⟩
  rw [hl,List.take_length] at e2
  have h6:=hL.hi
  have h1:=mq ts hL.pc
  walk_at "rp"
  refine .inl ⟨_,.inl (SqL.of e2),by unfold scanBound;omega,fun ss' hn hs=>?_,fun ss' hn hmm hst p H3 n3 s3 e3=>?_⟩
  ·have:=xg hn fun y hy=>hL.nm y (hs y hy)
   have:=hL.xl
   omega
  ·exact q p H3 ss' (zc s2 n3) (s2.trans s3) e3 ⟨hn,hmm,hst⟩
def pw (K:PySem.W.Frag) (n:Nat):Sp:=fun vs H Q _=>∃ (a:Addr) (ns:List Int) (k m:Int) (b:Addr) (xs:List Str),vs = [.ref a,.int k,.int m,.ref b]∧SqL K H a (ns.map V.int)∧ns.length≤5000∧0≤k∧k≤10000∧1≤m∧m≤n ∧
 (SqL K H b (xs.map V.str)∨SqT K H b (xs.map V.str))∧0 < xs.length∧xs.length≤100∧∀ (v:V) (H':Hp) (s:Say),Same H H'→SayAt K H' v s→(s.pieces:Int)≤m→(∀ x∈s.letters,x∈xs)→Q v H'
theorem W0 {H H':Hp}{b:Addr}{xs:List V} (s:Same H H') (h:SqL K H b xs∨SqT K H b xs):SqL K H' b xs∨SqT K H' b xs:=h.imp s.seq (z7 s).sqT
theorem R3 {xs:List Str}{k:Int} (h0:0≤k) (h:k < (xs.length:Int)):∃ x:Str,x∈xs∧atI (xs.map V.str) k = some (.str x):=by
 obtain ⟨v,hv,e⟩:=my (xs:=xs.map V.str) h0 (by rw [List.length_map];exact h)
 obtain ⟨x,hx,rfl⟩:=List.mem_map.mp hv
 exact ⟨x,hx,e⟩
theorem sc_saying:zu ["_law_script","_law_k","_law_room","_law_names_here","_law_way","_law_left","_law_one","_law_other"] ["_law_script","_law_k","_law_room","_law_names_here"] (z4 (top 43)):=⟨rfl,rfl,rfl,by decide +kernel,rfl,by decide +kernel,by decide +kernel⟩
theorem k6 (D:Def K mg "_law_saying" (top 43) ["_law_script","_law_k","_law_room","_law_names_here"]) (C_law_pick:zx P w K mg base 2 "_law_pick" ["_law_script","_law_k","_law_many"] (vw K)) (C_law_next:zx P w K mg base 1 "_law_next" ["_law_k","_law_j"] d7) (mg_len:mg "len" = none) :
  ∀ n:Nat,zx P w K mg base (n + 3) "_law_saying" ["_law_script","_law_k","_law_room","_law_names_here"] (pw K n)
 | 0=>fq (xk D fun vs H Q E h=>by
  obtain ⟨a,ns,k,m,b,xs,_,_,_,_,_,h1,h2,_⟩:=h
  omega) (Nat.zero_le _)
 | n + 1=>by
  have C_law_saying:=k6 D C_law_pick C_law_next mg_len n
  refine D.callee sc_saying (fun vs H Q E h=>?_) fun f cdv A outer s H vs Q E hr h=>?_
  ·obtain ⟨a,ns,k,m,b,xs,rfl,_⟩:=h
   rfl
  have nd:=sc_saying.nd
  obtain ⟨a,ns,k,m,b,xs,rfl,hS,h63,h0,hk,hm1,hm,hb,hx0,hx,q⟩:=h
  refine ⟨[some (.ref a),some (.int k),some (.int m),some (.ref b),none,none,none,none],_,rfl,(z5 (zo 4 nd (zv C_law_pick hr (by omega) (z9 (z8 0) (z9 (z8 1) (z9 zz z6)))))
  (z5 (yr (PW.pt (g8 (zd Nf (z8 2) zz (zh _)) (ou (zd (wx hr.units) (z8 4) zz (zh _))))) (zy (zr (wy (z9 yz (z9 (yu (z8 3) (zv C_law_pick hr (by omega) (z9 (z8 0) (z9 (zq zf (z8 1) zz) (z9 (zp ye rfl mg_len yx (z9 (z8 3) z6)) z6)))) (fun _ _=>rfl)) z6))))) zi)
  (z5 (yr (PW.pt (g8 (zd (wx hr.units) (z8 2) zz (zh _)) (ou (zd (wx hr.units) (z8 4) zz (zh _))))) (zy (zr (wy (z9 yz (z9 (zv C_law_saying hr (by omega) (z9 (z8 0) (z9 (zv C_law_next hr (by omega) (z9 (z8 1) (z9 zz z6))) (z9 (zq gm (z8 2) zz) (z9 (z8 3) z6))))) z6))))) zi)
  (z5 (zo 5 nd (zq zf zz (zv C_law_pick hr (by omega) (z9 (z8 0) (z9 (zq zf (z8 1) zz) (z9 (zq gm (z8 2) zz) z6))))))
  (z5 (zo 6 nd (zv C_law_saying hr (by omega) (z9 (z8 0) (z9 (zv C_law_next hr (by omega) (z9 (z8 1) (z9 zz z6))) (z9 (z8 5) (z9 (z8 3) z6))))))
  (z5 (zo 7 nd (zv C_law_saying hr (by omega) (z9 (z8 0) (z9 (zv C_law_next hr (by omega) (z9 (z8 1) (z9 zz z6))) (z9 (zq gm (zq gm (z8 2) zz) (z8 5)) (z9 (z8 3) z6))))))
  (zy (zr (wy (z9 (yu (v5 (z9 yz (z9 yz (z9 yz z6)))) (zv C_law_pick hr (by omega) (z9 (z8 0) (z9 (zq zf (z8 1) zz) (z9 zz z6)))) (fun _ _=>rfl)) (z9 (z8 6) (z9 (z8 7) z6)))))))))))),?_⟩
  walk_at "rp"
  refine ⟨a,ns,k,9,rfl,hS,h63,h0,by omega,by decide,fun way _ _=>?_⟩
  walk_at "rp"
  have letter:∃ ys,(SqL K H b ys∨SqT K H b ys)∧vw K [V.ref a,V.int (k + 1),V.int (ys.length:Int)] H (fun y H2=>match V.ref b,y with
    | V.str z,V.int i=>z.length≤sizeLine∧∃ c,atI z.cps.toList i = some c∧[V.str (Str.ofString "letter"),V.str { cps:=#[c] }].length≤sizeLine∧New H2 (HO.tup [V.str (Str.ofString "letter"),V.str { cps:=#[c] }]) Q
    | V.ref p,V.int i=>∃ xs v,(SqL K H2 p xs∨SqT K H2 p xs)∧atI xs i = some v∧[V.str (Str.ofString "letter"),v].length≤sizeLine∧New H2 (HO.tup [V.str (Str.ofString "letter"),v]) Q
    | x,x_1=>False) E0:=by
   refine ⟨_,hb,a,ns,k + 1,_,rfl,hS,h63,by omega,by omega,by rw [List.length_map];omega,fun r r0 r1=>?_⟩
   rw [List.length_map] at r1
   obtain ⟨x,hx1,ex⟩:=R3 (xs:=xs) r0 r1
   refine ⟨_,_,hb,ex,yc (by simp),fun p H' n1 s1 e1=>?_⟩
   refine q _ H' (.letter x) s1 ⟨p,rfl,SqT.of e1⟩ (by show ((1:Nat):Int)≤m;omega) fun y hy=>?_
   rw [List.mem_singleton.mp hy]
   exact hx1
  have neg:2≤m→d7 [V.int k,V.int 0] H (fun x H1=>pw K n [V.ref a,x,V.int (m - 1),V.ref b] H1 (fun x H1=>[V.str (Str.ofString "not"),x].length≤sizeLine∧New H1 (HO.tup [V.str (Str.ofString "not"),x]) Q) E0) E0:=by
   intro hm2
   refine ⟨k,0,rfl,h0,by omega,by decide,by decide,fun r r0 r1=>?_⟩
   refine ⟨a,ns,r,m - 1,b,xs,rfl,hS,h63,r0,by omega,by omega,by omega,hb,hx0,hx,fun v H' s s1 sv pc lt=>?_⟩
   refine ⟨yc (by simp),fun p H2 n2 s2 e2=>?_⟩
   exact q _ H2 (.neg s) (s1.trans s2) ⟨p,v,rfl,SqT.of e2,sv.mono (z7 s2)⟩ (by show ((s.pieces + 1:Nat):Int)≤m;omega) lt
  refine v3 (fun _=>letter) (fun c1=>?_)
  refine v3 (fun _=>letter) (fun c2=>?_)
  have hm2:2≤m:=by
   have:¬ m < 2:=fun z=>c1 (decide_eq_true z)
   omega
  refine v3 (fun _=>neg hm2) (fun c3=>?_)
  refine v3 (fun _=>neg hm2) (fun c4=>?_)
  have hm3:3≤m:=by
   have:¬ m = 2:=fun z=>c3 (decide_eq_true z)
   omega
  refine ⟨a,ns,k + 1,m - 2,rfl,hS,h63,by omega,by omega,by omega,fun l l0 l1=>?_⟩
  walk_at "rp"
  refine ⟨k,1,rfl,h0,by omega,by decide,by decide,fun r r0 r1=>?_⟩
  refine ⟨a,ns,r,1 + l,b,xs,rfl,hS,h63,r0,by omega,by omega,by omega,hb,hx0,hx,fun v H1 t s1 sv pc lt=>?_⟩
  refine ⟨k,2,rfl,h0,by omega,by decide,by decide,fun r' r0' r1'=>?_⟩
  refine ⟨a,ns,r',m - 1 - (1 + l),b,xs,rfl,s1.seq hS,h63,r0',by omega,by omega,by omega,W0 s1 hb,hx0,hx,fun v' H2 t' s2 sv' pc' lt'=>?_⟩
  refine ⟨yc (by simp),fun p H3 n3 s3 e3=>?_⟩
  refine ⟨a,ns,k + 2,3,rfl,(s1.trans (s2.trans s3)).seq hS,h63,by omega,by omega,by decide,fun o o0 o3=>?_⟩
  walk_at "rp"
  have fin:∀ (op:Op2),New H3 (HO.tup [V.str op.word,v,v']) Q:=fun op p4 H4 n4 s4 e4=>by
   refine q _ H4 (.bin op t t') (s1.trans (s2.trans (s3.trans s4))) ⟨p4,v,v',rfl,SqT.of e4,sv.mono (z7 (s2.trans (s3.trans s4))),sv'.mono (z7 (s3.trans s4))⟩ ?_ fun x hx=>?_
   ·show ((t.pieces + t'.pieces + 1:Nat):Int)≤m
    omega
   ·rcases List.mem_append.mp hx with z | z
    ·exact lt x z
    ·exact lt' x z
  have o':o = 0∨o = 1∨o = 2:=by omega
  rcases o' with rfl | rfl | rfl
  ·exact ⟨_,_,.inl (SqL.of e3),rfl,yc (by simp),fin .con⟩
  ·exact ⟨_,_,.inl (SqL.of e3),rfl,yc (by simp),fin .dis⟩
  ·exact ⟨_,_,.inl (SqL.of e3),rfl,yc (by simp),fin .imp⟩
theorem Wz {H:Hp}{b l:Addr}{xs:List V}{o:HO} (hne:b≠l) (h:SqL K H b xs):SqL K (upd H l o) b xs:=by
 rcases h with (h | ⟨o',h⟩) | h
 ·exact .inl (.inl (by rw [zk hne];exact h))
 ·exact .inl (.inr ⟨o',by rw [zk hne];exact h⟩)
 ·exact .inr h
theorem SaysAt.set {K:PySem.W.Frag}{H:Hp}:∀ {us:List V}{ts:List Say},SaysAt K H us ts→∀ (i:Nat) {v:V}{t:Say},SayAt K H v t→SaysAt K H (us.set i v) (ts.set i t)
 | [],[],_,i,v,t,h=>by simp [SaysAt]
 | u :: us,s :: ts,hs,0,v,t,h=>⟨h,hs.2⟩
 | u :: us,s :: ts,hs,i + 1,v,t,h=>⟨hs.1,SaysAt.set hs.2 i h⟩
 | [],_ :: _,h,_,_,_,_=>h.elim
 | _ :: _,[],h,_,_,_,_=>h.elim
def Mj (ns:List Str) (ts:List Say):Prop:=∀ t∈ts,t.pieces≤2∧∀ x∈t.letters,x∈ns
def W9 (K:PySem.W.Frag):Sp:=fun vs H Q _=>∃ (a b:Addr) (ns:List Str) (bs:List Bool) (o:Op2),vs = [.ref a,.ref b,.str o.word]∧SqL K H a (ns.map V.str)∧SqL K H b (bs.map V.bl)∧bs.length = ns.length∧1≤ns.length∧ns.length≤5 ∧
 ∀ (v:V) (H':Hp) (t:Say),Same H H'→SayAt K H' v t→t.pieces≤15→(∀ x∈t.letters,x∈ns)→Q v H'
theorem sc_knit:zu ["_law_names_here","_law_truths","_law_word","_law_parts","_law_k","_law_saying_here","_law_part"] ["_law_names_here","_law_truths","_law_word"] (z4 (top 48)):=⟨rfl,rfl,rfl,by decide +kernel,rfl,by decide +kernel,by decide +kernel⟩
theorem O4 {bs:List Bool}{i:Nat} (h:i < bs.length):atI (bs.map V.bl) (i:Int) = some (.bl bs[i]):=yo (by rw [List.getElem?_map,List.getElem?_eq_getElem h];rfl)
theorem Sz (D:Def K mg "_law_knit" (top 48) ["_law_names_here","_law_truths","_law_word"]) (mg_len:mg "len" = none) (mg_range:mg "range" = none):zx P w K mg base 1 "_law_knit" ["_law_names_here","_law_truths","_law_word"] (W9 K):=by
 refine D.callee sc_knit (fun vs H Q E h=>?_) fun f cdv A outer s H vs Q E hr h=>?_
 ·obtain ⟨a,b,ns,bs,o,rfl,_⟩:=h
  rfl
 have nd:=sc_knit.nd
 obtain ⟨a,b,ns,bs,o,rfl,ha,hb,hbl,hn1,hn5,q⟩:=h
 refine ⟨[some (.ref a),some (.ref b),some (.str o.word),none,none,none,none],_,rfl,(z5 (wq 3 nd (ixs:=[]) (zl (own:=["_law_name"]) (N:=[]) rfl rfl rfl rfl rfl rfl rfl (by decide +kernel) rfl rfl rfl) rfl (y3 (z8 0)) (fun _ _ _ _=>yq) (fun _ _ _ _=>(wy (z9 yz (z9 (z8 0) z6)))) rfl)
  (z5 (xj PassesOwn.never rfl (yh rfl mg_range (z9 (zp ye rfl mg_len yx (z9 (z8 3) z6)) z6)) (wk 4 nd) (zy (yr (uf (uq (yu (z8 1) (z8 4) (fun _ _=>rfl)))) (zy (Ni hr.units (z8 3) (z8 4) (wy (z9 yz (z9 (yu (z8 3) (z8 4) (fun _ _=>rfl)) z6))))) zi)))
  (z5 (zo 5 nd (yu (z8 3) zz (fun _ _=>rfl)))
  (z5 (xj PassesOwn.never rfl (y3 (xz (z8 3) (xo zz) yb)) (wk 6 nd) (zy (zo 5 nd (wy (z9 (z8 2) (z9 (z8 5) (z9 (z8 6) z6)))))))
  (zy (zr (z8 5))))))),?_⟩
 walk_at "rp"
 refine .inl ⟨⟨_,ha⟩,fun C s₀ H₀ ex=>?_⟩
 refine tm (xs:=ns.map V.str) (fun D i ys H2=>∃ ts:List Say,SaysAt K H2 ys ts∧ts.length = i∧(∀ t∈ts,t.pieces≤1∧∀ x∈t.letters,x∈ns)∧H2 D = some (.lst ys)∧Same H H2∧H D = none) (by rw [List.length_map,sizeLine_eq];omega) ?_ ?_ ?_ ?_
 ·intro D H2 n2 s2 e2
  exact ⟨[],trivial,rfl,fun t ht=>by simp at ht,e2,s2,n2⟩
 ·rintro D i ys H2 ⟨ts,hS,hl,_,e2,s2,_⟩
  exact ⟨s2.seq ha,e2,by rw [hS.len,hl]⟩
 ·rintro D i v ys H2 hv ⟨ts,hS,hl,hsm,e2,s2,n2⟩
  rw [List.getElem?_map] at hv
  cases hc:ns[i]? with
  | none=>rw [hc] at hv;cases hv
  | some x =>
   rw [hc] at hv
   cases hv
   walk_at "rp"
   refine ⟨yc (by simp),fun p H3 n3 s3 e3=>⟨s3 _ _ e2,CN.mk (by rw [List.length_map];exact (List.getElem?_eq_some_iff.mp hc).1) ⟨ts ++ [.letter x],?_,by rw [List.length_append,hl];rfl,fun t ht=>?_,zw,zt (s2.trans s3) n2 _,n2⟩⟩⟩
   ·have tl:=xr (o:=.lst (ys ++ [V.ref p])) (s3 _ _ e2)
    exact SaysAt.app (hS.mono ((z7 s3).trans tl)) ⟨⟨p,rfl,tl.sqT (SqT.of e3)⟩,trivial⟩
   ·rcases List.mem_append.mp ht with ht | ht
    ·exact hsm t ht
    ·rw [List.mem_singleton.mp ht]
     exact ⟨Nat.le_refl 1,fun y hy=>by rw [List.mem_singleton.mp hy];exact List.mem_of_getElem? hc⟩
 rintro p ys H1 ⟨ts,hS,hl,hsm,e1,s1,n1⟩
 rw [List.length_map] at hl
 have hyl:=hS.len
 walk_at "rp"
 refine ⟨_,.inl (SqL.of e1),⟨by omega,by omega⟩,?_⟩
 rw [show ((ys.length:Nat):Int).toNat = ys.length from Int.toNat_natCast _]
 refine vt (fun i σ H2=>∃ (us:List V) (ts:List Say) (kv:Option V),σ = [some (.ref a),some (.ref b),some (.str o.word),some (.ref p),kv,none,none]∧H2 p = some (.lst us)∧SaysAt K H2 us ts∧ts.length = ns.length∧Mj ns ts∧(∀ j t,i≤j→ts[j]? = some t→t.pieces≤1)∧Same H H2) ⟨ys,ts,none,rfl,e1,hS,hl,fun t ht=>⟨Nat.le_succ_of_le (hsm t ht).1,(hsm t ht).2⟩,fun j t _ ht=>(hsm t (List.mem_of_getElem? ht)).1,s1⟩ ?_ ?_
 ·rintro i σ H2 hi ⟨us,ts,kv,rfl,e2,hS,hl,hsm,hone,s2⟩
  have hul:=hS.len
  walk_at "rp"
  have hib:i < bs.length:=by omega
  rw [Int.zero_add]
  refine ⟨_,_,.inl (s2.seq hb),O4 hib,?_⟩
  walk_at "rp"
  have hiu:i < us.length:=by omega
  obtain ⟨t,ht,sv⟩:=hS.at i us[i] (List.getElem?_eq_getElem hiu)
  have htm:=List.mem_of_getElem? ht
  refine v3 (fun c=>?_) (fun c=>?_)
  ·refine ⟨_,_,.inl (SqL.of e2),yo (List.getElem?_eq_getElem hiu),yc (by simp),fun r H3 n3 s3 e3=>?_⟩
   refine .inr ⟨us,_,i,s3 _ _ e2,rfl,rfl,hiu,?_⟩
   have tl:=xr (o:=.lst (us.set i (.ref r))) (s3 _ _ e2)
   have t0:=(z7 s3).trans tl
   refine ⟨us.set i (.ref r),ts.set i (.neg t),_,rfl,zw,SaysAt.set (hS.mono t0) i ⟨r,us[i],rfl,tl.sqT (SqT.of e3),sv.mono t0⟩,by rw [List.length_set];exact hl,fun u hu=>?_,fun j u hj hu=>?_,zt (s2.trans s3) n1 _⟩
   ·rcases List.mem_or_eq_of_mem_set hu with h | h
    ·exact hsm u h
    ·rw [h]
     refine ⟨?_,(hsm t htm).2⟩
     have:=hone i t (Nat.le_refl _) ht
     simp only [Say.pieces]
     omega
   ·rw [List.getElem?_set_ne (by omega)] at hu
    exact hone j u (by omega) hu
  ·exact ⟨us,ts,_,rfl,e2,hS,hl,hsm,fun j u hj hu=>hone j u (by omega) hu,s2⟩
 ·rintro σ H2 ⟨us,ts,kv,rfl,e2,hS,hl,hsm,_,s2⟩
  have hul:=hS.len
  match us,ts,hS,hl,e2 with
  | [],[],_,hl,_=>simp at hl;omega
  | u :: us,t :: ts,hS,hl,e2 =>
   walk_at "rp"
   refine ⟨_,_,.inl (SqL.of e2),i7 _ _,?_⟩
   refine .inl ⟨_,SqL.of e2,fun r H3 n3 s3 e3=>?_⟩
   rw [m7] at e3
   refine .inl ⟨⟨_,SqL.of e3⟩,v4 (xs:=us) (fun i σ H4=>∃ (v:V) (t:Say) (pv:Option V),σ = [some (.ref a),some (.ref b),some (.str o.word),some (.ref p),kv,some v,pv]∧SayAt K H4 v t∧t.pieces≤2 + 3 * i∧(∀ x∈t.letters,x∈ns)∧Same H3 H4) ⟨u,t,none,rfl,hS.1.mono (z7 s3),(hsm t List.mem_cons_self).1,(hsm t List.mem_cons_self).2,Same.refl _⟩ ?_ ?_ ?_⟩
   ·rintro i σ H4 _ ⟨v,t',pv,rfl,_,_,_,s4⟩
    exact s4.seq (SqL.of e3)
   ·rintro i x σ H4 hx ⟨v,t',pv,rfl,sv,pc,lt,s4⟩
    obtain ⟨t2,ht2,sv2⟩:=hS.2.at i x hx
    have hm2:=hsm t2 (List.mem_cons_of_mem _ (List.mem_of_getElem? ht2))
    walk_at "rp"
    refine ⟨yc (by simp),fun c H5 n5 s5 e5=>⟨.ref c,.bin o t' t2,some x,rfl,⟨c,v,x,rfl,SqT.of e5,sv.mono (z7 s5),sv2.mono (z7 (s3.trans (s4.trans s5)))⟩,?_,fun y hy=>?_,s4.trans s5⟩⟩
    ·have:=hm2.1
     simp only [Say.pieces]
     omega
    ·rcases List.mem_append.mp hy with z | z
     ·exact lt y z
     ·exact hm2.2 y z
   ·rintro σ H4 ⟨v,t',pv,rfl,sv,pc,lt,s4⟩
    walk_at "rp"
    have:us.length + 1 = ns.length:=by rw [← hl,← hS.len];rfl
    exact q v H4 t' (s2.trans (s3.trans s4)) sv (by omega) lt
theorem SaysAt.take {K:PySem.W.Frag}{H:Hp}:∀ {us:List V}{ts:List Say} (n:Nat),SaysAt K H us ts→SaysAt K H (us.take n) (ts.take n)
 | [],[],n,_=>by simp [SaysAt]
 | _ :: _,_ :: _,0,_=>trivial
 | _ :: _,_ :: _,n + 1,h=>⟨h.1,SaysAt.take n h.2⟩
 | [],_ :: _,_,h=>h.elim
 | _ :: _,[],_,h=>h.elim
theorem SaysAt.drop {K:PySem.W.Frag}{H:Hp}:∀ {us:List V}{ts:List Say} (n:Nat),SaysAt K H us ts→SaysAt K H (us.drop n) (ts.drop n)
 | [],[],n,_=>by simp [SaysAt]
 | _ :: _,_ :: _,0,h=>h
 | _ :: _,_ :: _,n + 1,h=>SaysAt.drop n h.2
 | [],_ :: _,_,h=>h.elim
 | _ :: _,[],_,h=>h.elim
theorem oi {α:Type}{ts:List α}{n:Nat}{t u:α} (h:u∈ts.take n ++ t :: ts.drop n):u = t∨u∈ts:=by
 rcases List.mem_append.mp h with z | z
 ·exact .inr (List.mem_of_mem_take z)
 ·rcases List.mem_cons.mp z with z | z
  ·exact .inl z
  ·exact .inr (List.mem_of_mem_drop z)
theorem vb (xs:List V) {j:Int} (h:0≤j):wj xs none (some j) = xs.take j.toNat:=by
 unfold wj
 rw [HT.sIx_none]
 have e:HT.sIx xs.length xs.length (some j) = min j.toNat xs.length:=by
  show (if j < 0 then (j + (xs.length:Int)).toNat else min j.toNat xs.length) = _
  rw [if_neg (by omega)]
 rw [e,List.drop_zero,Nat.sub_zero]
 by_cases hj:j.toNat≤xs.length
 ·rw [Nat.min_eq_left hj]
 ·rw [Nat.min_eq_right (by omega),List.take_length,List.take_of_length_le (by omega)]
def im (K:PySem.W.Frag):Sp:=fun vs H Q _=>∃ (a:Addr) (ns:List Int) (k:Int) (b:Addr) (xs:List Str),vs = [.ref a,.int k,.ref b]∧SqL K H a (ns.map V.int)∧ns.length≤5000∧0≤k∧k≤1000∧SqL K H b (xs.map V.str)∧1≤xs.length∧xs.length≤5 ∧
 ∀ (p:Addr) (H':Hp) (us:List V) (ts:List Say),Same H H'→H' p = some (.lst us)→SaysAt K H' us ts→1≤ts.length→ts.length≤6→(∀ t∈ts,t.pieces≤40)→(∀ t∈ts,∀ x∈t.letters,x∈xs)→Q (.ref p) H'
theorem sc_linked:zu ["_law_script","_law_k","_law_names_here","_law_many","_law_sayings","_law_truths","_law_last"] ["_law_script","_law_k","_law_names_here"] (z4 (top 49)):=⟨rfl,rfl,rfl,by decide +kernel,rfl,by decide +kernel,by decide +kernel⟩
theorem Yx (D:Def K mg "_law_linked" (top 49) ["_law_script","_law_k","_law_names_here"]) (C_law_pick:zx P w K mg base 2 "_law_pick" ["_law_script","_law_k","_law_many"] (vw K)) (C_law_knit:zx P w K mg base 1 "_law_knit" ["_law_names_here","_law_truths","_law_word"] (W9 K)) (mg_len:mg "len" = none) (mg_range:mg "range" = none) (mg_min:mg "min" = none) :
  zx P w K mg base 3 "_law_linked" ["_law_script","_law_k","_law_names_here"] (im K):=by
 refine D.callee sc_linked (fun vs H Q E h=>?_) fun f cdv A outer s H vs Q E hr h=>?_
 ·obtain ⟨a,ns,k,b,xs,rfl,_⟩:=h
  rfl
 have nd:=sc_linked.nd
 obtain ⟨a,ns,k,b,xs,rfl,hS,h63,hk0,hk,hb,hx1,hx5,q⟩:=h
 refine ⟨[some (.ref a),some (.int k),some (.ref b),none,none,none,none],_,rfl,(z5 (zo 3 nd (zq zf (zv C_law_pick hr (by omega) (z9 (z8 0) (z9 (z8 1) (z9 (zp (Rr rfl) rfl mg_min bo (z9 zz (z9 (zp ye rfl mg_len yx (z9 (z8 2) z6)) z6))) z6)))) zz))
  (z5 (wq 4 nd (ixs:=[]) (zl (own:=["_law_name"]) (N:=[]) rfl rfl rfl rfl rfl rfl rfl (by decide +kernel) rfl rfl rfl) rfl (y3 (xz (z8 2) yb (xo (z8 3)))) (fun _ _ _ _=>yq) (fun _ _ _ _=>(wy (z9 yz (z9 (z8 0) z6)))) rfl)
  (z5 (wq 5 nd (ixs:=[0,1]) (zl (own:=["_law_j"]) (N:=["_law_script","_law_k"]) rfl rfl rfl rfl rfl rfl rfl (by decide +kernel) rfl rfl rfl) rfl (yh rfl mg_range (z9 (z8 3) z6)) (fun _ _ _ _=>yq) (fun _ _ _ _=>(vv Sr (zv C_law_pick hr (by omega) (z9 (z8 1) (z9 (zq zf (zq zf (z8 2) zz) (z8 0)) (z9 zz z6)))) zz (zh _))) rfl)
  (z5 (zo 6 nd (zv C_law_knit hr (by omega) (z9 (xz (z8 2) yb (xo (z8 3))) (z9 (z8 5) (z9 (yu (v5 (z9 yz (z9 yz (z9 yz z6)))) (zv C_law_pick hr (by omega) (z9 (z8 0) (z9 (zq zf (z8 1) zz) (z9 zz z6)))) (fun _ _=>rfl)) z6)))))
  (z5 (yr (zd (wx hr.units) (zv C_law_pick hr (by omega) (z9 (z8 0) (z9 (zq zf (z8 1) zz) (z9 zz z6)))) zz (zh _)) (zy (zo 6 nd (wy (z9 yz (z9 (z8 6) z6))))) zi)
  (z5 (uz (Ym PySem.F.slot_list_insert PySem.F.type_list_insert Nb (z8 4) (z9 (zv C_law_pick hr (by omega) (z9 (z8 0) (z9 (zq zf (z8 1) zz) (z9 (zq zf (z8 3) zz) z6)))) (z9 (z8 6) z6))))
  (zy (zr (z8 4))))))))),?_⟩
 walk_at "rp"
 refine ⟨_,.inl hb,?_⟩
 rw [List.length_map]
 have hmin:(if (xs.length:Int) < 5 then (xs.length:Int) else 5) = (xs.length:Int):=by split <;> omega
 rw [hmin]
 refine ⟨a,ns,k,_,rfl,hS,h63,hk0,by omega,by omega,fun r r0 r1=>?_⟩
 walk_at "rp"
 have hcut:∀ {z:V},z = V.int (r + 1)→wj (xs.map V.str) none (some (r + 1)) = (xs.take (r + 1).toNat).map V.str:=fun _=>by rw [vb _ (by omega),List.map_take]
 have htl:(xs.take (r + 1).toNat).length = (r + 1).toNat:=by rw [List.length_take];omega
 have hsub:∀ x∈xs.take (r + 1).toNat,x∈xs:=fun x hx=>List.mem_of_mem_take hx
 refine .inl ⟨_,hb,fun p1 H1 n1 s1 e1=>?_⟩
 rw [hcut rfl] at e1
 generalize hys:xs.take (r + 1).toNat = ys at e1 htl hsub hcut
 refine .inl ⟨⟨_,SqL.of e1⟩,fun C s₀ H₀ ex=>?_⟩
 refine tm (xs:=ys.map V.str) (fun D i vs H2=>∃ ts:List Say,SaysAt K H2 vs ts∧ts.length = i∧(∀ t∈ts,t.pieces≤1∧∀ x∈t.letters,x∈xs)∧H2 D = some (.lst vs)∧Same H1 H2∧H1 D = none) (by rw [List.length_map,sizeLine_eq];omega) ?_ ?_ ?_ ?_
 ·intro D H2 n2 s2 e2
  exact ⟨[],trivial,rfl,fun t ht=>by simp at ht,e2,s2,n2⟩
 ·rintro D i vs H2 ⟨ts,hSa,hl,_,e2,s2,_⟩
  exact ⟨s2.seq (SqL.of e1),e2,by rw [hSa.len,hl]⟩
 ·rintro D i v vs H2 hv ⟨ts,hSa,hl,hsm,e2,s2,n2⟩
  rw [List.getElem?_map] at hv
  cases hc:ys[i]? with
  | none=>rw [hc] at hv;cases hv
  | some x =>
   rw [hc] at hv
   cases hv
   walk_at "rp"
   refine ⟨yc (by simp),fun p H3 n3 s3 e3=>⟨s3 _ _ e2,CN.mk (by rw [List.length_map];exact (List.getElem?_eq_some_iff.mp hc).1) ⟨ts ++ [.letter x],?_,by rw [List.length_append,hl];rfl,fun t ht=>?_,zw,zt (s2.trans s3) n2 _,n2⟩⟩⟩
   ·have tl:=xr (o:=.lst (vs ++ [V.ref p])) (s3 _ _ e2)
    exact SaysAt.app (hSa.mono ((z7 s3).trans tl)) ⟨⟨p,rfl,tl.sqT (SqT.of e3)⟩,trivial⟩
   ·rcases List.mem_append.mp ht with ht | ht
    ·exact hsm t ht
    ·rw [List.mem_singleton.mp ht]
     exact ⟨Nat.le_refl 1,fun y hy=>by rw [List.mem_singleton.mp hy];exact hsub x (List.mem_of_getElem? hc)⟩
 rintro l us H2 ⟨ts,hSa,hl,hsm,e2,s2,n2⟩
 rw [List.length_map,htl] at hl
 have nl:H l = none:=zc s1 n2
 walk_at "rp"
 refine ⟨⟨by omega,by omega⟩,fun C s₀ H₀ ex=>?_⟩
 have s12:Same H H2:=s1.trans s2
 refine xy (fun D i vs H3=>∃ bs:List Bool,vs = bs.map V.bl∧bs.length = i∧H3 D = some (.lst vs)∧Same H2 H3∧H2 D = none) (by rw [sizeLine_eq];omega) ?_ ?_ ?_ ?_
 ·intro D H3 n3 s3 e3
  exact ⟨[],rfl,rfl,e3,s3,n3⟩
 ·rintro D i vs H3 ⟨bs,rfl,hbl,e3,_⟩
  exact ⟨e3,by simpa using hbl⟩
 ·rintro D i vs H3 hi ⟨bs,rfl,hbl,e3,s3,n3⟩
  walk_at "rp"
  refine ⟨a,ns,_,3,rfl,(s12.trans s3).seq hS,h63,by omega,by omega,by decide,fun z _ _=>?_⟩
  walk_at "rp"
  exact ⟨e3,CN.mk hi ⟨bs ++ [_],by rw [List.map_append];rfl,by rw [List.length_append,hbl];rfl,zw,zt s3 n3 _,n3⟩⟩
 rintro tb vs H3 ⟨bs,rfl,hbl,e3,s3,n3⟩
 walk_at "rp"
 have s13:Same H H3:=s12.trans s3
 refine .inl ⟨_,s13.seq hb,fun p2 H4 n4 s4 e4=>?_⟩
 rw [vb _ (by omega),← List.map_take,hys] at e4
 refine ⟨yc (by simp),fun wl H5 n5 s5 e5=>?_⟩
 have s15:Same H H5:=s13.trans (s4.trans s5)
 refine ⟨a,ns,_,3,rfl,s15.seq hS,h63,by omega,by omega,by decide,fun o o0 o3=>?_⟩
 walk_at "rp"
 obtain ⟨op,eo⟩:∃ op:Op2,atI [V.str (Str.ofString "and"),V.str (Str.ofString "or"),V.str (Str.ofString "if")] o = some (.str op.word):=by
  have o':o = 0∨o = 1∨o = 2:=by omega
  rcases o' with rfl | rfl | rfl
  ·exact ⟨.con,rfl⟩
  ·exact ⟨.dis,rfl⟩
  ·exact ⟨.imp,rfl⟩
 refine ⟨_,_,.inl (SqL.of e5),eo,?_⟩
 refine ⟨p2,tb,ys,bs,op,rfl,SqL.of (s5 _ _ e4),SqL.of ((s4.trans s5) _ _ e3),by omega,by omega,by omega,fun v H6 t s6 sv pc lt=>?_⟩
 walk_at "rp"
 have s16:Same H H6:=s15.trans s6
 have el6:H6 l = some (.lst us):=(s3.trans (s4.trans (s5.trans s6))) _ _ e2
 have hS6:SaysAt K H6 us ts:=hSa.mono (z7 (s3.trans (s4.trans (s5.trans s6))))
 refine ⟨a,ns,_,3,rfl,s16.seq hS,h63,by omega,by omega,by decide,fun z _ _=>?_⟩
 walk_at "rp"
 have fin:∀ (v:V) (H7:Hp) (t:Say) (lv:Option V),Same H6 H7→SayAt K H7 v t→t.pieces≤16→(∀ x∈t.letters,x∈xs)→vw K [V.ref a,V.int (k + 8),V.int (r + 1 + 1)] H7 (fun x H2=>Po (V.ref l) [x,v] H2 (fun x H1=>Q (V.ref l) H1)) E0:=by
  intro v H7 t lv s7 sv pc lt
  refine ⟨a,ns,_,_,rfl,(s16.trans s7).seq hS,h63,by omega,by omega,by omega,fun j j0 j1=>?_⟩
  walk_at "rp"
  refine ⟨us,s7 _ _ el6,by rw [hS6.len,sizeLine_eq];omega,j0,by omega,?_⟩
  have tl:=xr (o:=.lst (us.take j.toNat ++ v :: us.drop j.toNat)) (s7 _ _ el6)
  refine q l _ _ (ts.take j.toNat ++ t :: ts.drop j.toNat) (zt (s16.trans s7) nl _) zw ?_ (by simp;omega) ?_ (fun u hu=>?_) (fun u hu x hx=>?_)
  ·have h7:=hS6.mono ((z7 s7).trans tl)
   exact SaysAt.app (SaysAt.take _ h7) ⟨sv.mono tl,SaysAt.drop _ h7⟩
  ·rw [List.length_append,List.length_cons,List.length_take,List.length_drop]
   omega
  ·rcases oi hu with z | z
   ·rw [z];omega
   ·have:=(hsm u z).1
    omega
  ·rcases oi hu with z | z
   ·rw [z] at hx;exact lt x hx
   ·exact (hsm u z).2 x hx
 have hsub':∀ x∈t.letters,x∈xs:=fun x hx=>hsub x (lt x hx)
 refine v3 (fun c=>?_) (fun c=>?_)
 ·refine ⟨yc (by simp),fun c2 H7 n7 s7 e7=>⟨⟨_,_,rfl,s7 _ _ el6⟩,?_⟩⟩
  exact fin _ H7 (.neg t) none s7 ⟨c2,v,rfl,SqT.of e7,sv.mono (z7 s7)⟩ (by simp only [Say.pieces];omega) hsub'
 ·exact ⟨⟨_,_,rfl,el6⟩,fin v H6 t none (Same.refl _) sv (by omega) hsub'⟩
def Xb (K:PySem.W.Frag):Sp:=fun vs H Q _=>∃ (a:Addr) (ns:List Int),vs = [.ref a,.int 0]∧SqL K H a (ns.map V.int)∧ns.length≤5000∧∀ (p:Addr) (H':Hp) (us:List V) (ts:List Say) (xs:List Str),Same H H'→SqT K H' p us→SaysAt K H' us ts→Lst ts xs→Q (.ref p) H'
theorem sc_list:zu ["_law_script","_law_k","_law_names_here","_law_sayings","_law_j","_law_room"] ["_law_script","_law_k"] (z4 (top 50)):=⟨rfl,rfl,rfl,by decide +kernel,rfl,by decide +kernel,by decide +kernel⟩
theorem S1 (D:Def K mg "_law_list" (top 50) ["_law_script","_law_k"]) (C_law_pick:zx P w K mg base 2 "_law_pick" ["_law_script","_law_k","_law_many"] (vw K)) (C_law_names:zx P w K mg base 3 "_law_names" ["_law_script","_law_k","_law_many"] (aw K)) (C_law_linked:zx P w K mg base 3 "_law_linked" ["_law_script","_law_k","_law_names_here"] (im K))
  (C_law_saying:zx P w K mg base 12 "_law_saying" ["_law_script","_law_k","_law_room","_law_names_here"] (pw K 9)) (mg_range:mg "range" = none) (mg_tuple:mg "tuple" = none):zx P w K mg base 13 "_law_list" ["_law_script","_law_k"] (Xb K):=by
 refine D.callee sc_list (fun vs H Q E h=>?_) fun f cdv A outer s H vs Q E hr h=>?_
 ·obtain ⟨a,ns,rfl,_⟩:=h
  rfl
 have nd:=sc_list.nd
 obtain ⟨a,ns,rfl,hS,h63,q⟩:=h
 refine ⟨[some (.ref a),some (.int 0),none,none,none,none],_,rfl,(z5 (zo 2 nd (zv C_law_names hr (by omega) (z9 (z8 0) (z9 (z8 1) (z9 (zq zf zz (zv C_law_pick hr (by omega) (z9 (z8 0) (z9 (zq zf (z8 1) zz) (z9 zz z6))))) z6)))))
  (z5 (yr (zd (wx hr.units) (zv C_law_pick hr (by omega) (z9 (z8 0) (z9 (zq zf (z8 1) zz) (z9 zz z6)))) zz (zh _)) (zy (zr (za yi rfl mg_tuple y4 (z9 (zv C_law_linked hr (by omega) (z9 (z8 0) (z9 (zq zf (z8 1) zz) (z9 (z8 2) z6)))) z6)))) zi)
  (z5 (zo 3 nd (v5 z6))
  (z5 (xj PassesOwn.never rfl (yh rfl mg_range (z9 (zq zf zz (zv C_law_pick hr (by omega) (z9 (z8 0) (z9 (zq zf (z8 1) zz) (z9 zz z6))))) z6)) (wk 4 nd) (z5 (zo 5 nd (yu (v5 (z9 zz (z9 zz (z9 zz (z9 zz (z9 zz z6)))))) (zv C_law_pick hr (by omega) (z9 (z8 0) (z9 (zq zf (zq zf (z8 1) zz) (z8 4)) (z9 zz z6)))) (fun _ _=>rfl)))
  (zy (uz (Ym PySem.F.slot_list_append PySem.F.type_list_append Vr (z8 3) (z9 (zv C_law_saying hr (by omega) (z9 (z8 0) (z9 (zq zf (zq zf (z8 1) zz) (zq w6 zz (z8 4))) (z9 (z8 5) (z9 (z8 2) z6))))) z6))))))
  (zy (zr (za yi rfl mg_tuple y4 (z9 (z8 3) z6)))))))),?_⟩
 walk_at "rp"
 refine ⟨a,ns,_,5,rfl,hS,h63,by decide,by decide,by decide,fun r r0 r1=>?_⟩
 walk_at "rp"
 refine ⟨a,ns,0,_,rfl,hS,h63,by decide,by decide,by omega,by omega,fun b H1 xs nb s1 eb lb hx=>?_⟩
 walk_at "rp"
 refine ⟨a,ns,_,2,rfl,s1.seq hS,h63,by decide,by decide,by decide,fun z _ _=>?_⟩
 walk_at "rp"
 refine v3 (fun c=>?_) (fun c=>?_)
 ·refine ⟨a,ns,_,b,xs,rfl,s1.seq hS,h63,by decide,by decide,SqL.of eb,by omega,by omega,fun p H2 us ts s2 e2 hSa h1 h6 hpc hlt=>?_⟩
  walk_at "rp"
  refine ⟨_,.inl (SqL.of e2),fun p' H3 s3 h3=>q p' H3 us ts xs (s1.trans (s2.trans s3)) h3 (hSa.mono (z7 s3)) ⟨h1,h6,hpc,fun x hx'=>?_,by omega,hx⟩⟩
  obtain ⟨t,ht,hxt⟩:=mem_allL.mp hx'
  exact hlt t ht x hxt
 ·refine ⟨yc (by simp),fun l H2 n2 s2 e2=>?_⟩
  have s12:Same H H2:=s1.trans s2
  refine ⟨a,ns,_,6,rfl,s12.seq hS,h63,by decide,by decide,by decide,fun m m0 m6=>?_⟩
  walk_at "rp"
  refine ⟨⟨by omega,by omega⟩,?_⟩
  have nl:H l = none:=zc s1 n2
  refine vt (fun i σ H3=>∃ (us:List V) (ts:List Say) (x4 x5:Option V),σ = [some (.ref a),some (.int 0),some (.ref b),some (.ref l),x4,x5]∧H3 l = some (.lst us)∧SaysAt K H3 us ts∧ts.length = i∧(∀ t∈ts,t.pieces≤9∧∀ x∈t.letters,x∈xs)∧Same H H3∧SqL K H3 b (xs.map V.str)) ⟨[],[],none,none,rfl,e2,trivial,rfl,fun t ht=>by simp at ht,s12,s2.seq (SqL.of eb)⟩ ?_ ?_
  ·rintro i σ H3 hi ⟨us,ts,x4,x5,rfl,e3,hSa,hl,hpc,s3,hb3⟩
   walk_at "rp"
   refine ⟨yc (by simp),fun rl H4 n4 s4 e4=>?_⟩
   have s34:Same H H4:=s3.trans s4
   refine ⟨a,ns,_,5,rfl,s34.seq hS,h63,by omega,by omega,by decide,fun j j0 j5=>?_⟩
   walk_at "rp"
   obtain ⟨rm,erm,rm1,rm9⟩:∃ rm:Int,atI [V.int 1,V.int 1,V.int 3,V.int 4,V.int 9] j = some (.int rm)∧1≤rm∧rm≤9:=by
    have o':j = 0∨j = 1∨j = 2∨j = 3∨j = 4:=by omega
    rcases o' with rfl | rfl | rfl | rfl | rfl
    ·exact ⟨1,rfl,by decide,by decide⟩
    ·exact ⟨1,rfl,by decide,by decide⟩
    ·exact ⟨3,rfl,by decide,by decide⟩
    ·exact ⟨4,rfl,by decide,by decide⟩
    ·exact ⟨9,rfl,by decide,by decide⟩
   refine ⟨_,_,.inl (SqL.of e4),erm,?_⟩
   walk_at "rp"
   refine ⟨⟨_,_,rfl,s4 _ _ e3⟩,cm (by decide),a,ns,_,rm,b,xs,rfl,s34.seq hS,h63,by omega,by omega,rm1,by omega,.inl (s4.seq hb3),by omega,by omega,fun v H5 t s5 sv pc lt=>?_⟩
   walk_at "rp"
   have e5:=(s4.trans s5) _ _ e3
   have tl:=xr (o:=.lst (us ++ [v])) e5
   refine ⟨us,e5,by rw [hSa.len,hl,sizeLine_eq];omega,us ++ [v],ts ++ [t],_,_,rfl,zw,SaysAt.app (hSa.mono ((z7 (s4.trans s5)).trans tl)) ⟨sv.mono tl,trivial⟩,by rw [List.length_append,hl];rfl,fun u hu=>?_,zt (s34.trans s5) nl _,?_⟩
   ·rcases List.mem_append.mp hu with hu | hu
    ·exact hpc u hu
    ·rw [List.mem_singleton.mp hu]
     exact ⟨by omega,lt⟩
   ·have hne:b≠l:=fun z=>by rw [← z,eb] at n2;cases n2
    have hb5:=(s4.trans s5).seq hb3
    exact Wz hne hb5
  ·rintro σ H3 ⟨us,ts,x4,x5,rfl,e3,hSa,hl,hpc,s3,hb3⟩
   walk_at "rp"
   refine ⟨_,.inl (SqL.of e3),fun p' H4 s4 h4=>q p' H4 us ts xs (s3.trans s4) h4 (hSa.mono (z7 s4)) ⟨by omega,by omega,fun t ht=>by have:=(hpc t ht).1;omega,fun x hx'=>?_,by omega,hx⟩⟩
   obtain ⟨t,ht,hxt⟩:=mem_allL.mp hx'
   exact (hpc t ht).2 x hxt
theorem sc_lawrow:zu ["_law_sayings","_law_held_here"] ["_law_sayings","_law_held_here"] (z4 (top 51)):=⟨rfl,rfl,rfl,by decide +kernel,rfl,by decide +kernel,by decide +kernel⟩
theorem Yw (D:Def K mg "_law_row" (top 51) ["_law_sayings","_law_held_here"]) (C_law_so:zx P w K mg base 40 "_law_so" ["_law_saying_here","_law_held_here"] (j6 K 40)) (mg_tuple:mg "tuple" = none):zx P w K mg base 41 "_law_row" ["_law_sayings","_law_held_here"] (qm K):=by
 refine D.callee sc_lawrow (fun vs H Q E h=>?_) fun f cdv A outer s H vs Q E hr h=>?_
 ·obtain ⟨a,h,us,ts,xs,hs,rfl,_⟩:=h
  rfl
 have nd:=sc_lawrow.nd
 obtain ⟨a,h,us,ts,xs,hs,rfl,ha,hS,hL,hh,q⟩:=h
 have hl:=hS.len
 have h6:=hL.hi
 refine ⟨[some (.ref a),some (.ref h)],_,rfl,(zy (zr (za yi rfl mg_tuple y4 (z9 (yp (ixs:=[1]) (zl (own:=["_law_saying_here"]) (N:=["_law_held_here"]) rfl rfl rfl rfl rfl rfl rfl (by decide +kernel) rfl rfl rfl) rfl (y3 (z8 0)) (fun _ _ _ _=>yq) (fun _ _ _ _=>(zv C_law_so hr (by omega) (z9 (z8 0) (z9 (z8 1) z6)))) rfl) z6)))),?_⟩
 walk_at "rp"
 refine .inr ⟨⟨_,ha⟩,fun C s₀ H₀ ex=>?_⟩
 refine va (xs:=us) (fun D i ys H2=>ys = ((ts.take i).map fun t=>t.so hs).map V.bl∧i≤us.length∧H2 D = some (.lst ys)∧Same H H2∧H D = none) (by rw [sizeLine_eq];omega) ?_ ?_ ?_ ?_
 ·intro D H2 n2 s2 e2
  exact ⟨rfl,Nat.zero_le _,e2,s2,n2⟩
 ·rintro D i ys H2 ⟨rfl,hi,e2,s2,_⟩
  exact ⟨(z7 s2).sqT ha,e2,by simp;omega⟩
 ·rintro D i v ys H2 hv ⟨rfl,hi,e2,s2,n2⟩
  obtain ⟨t,ht,sv⟩:=hS.at i v hv
  walk_at "rp"
  refine ⟨v,h,t,hs,rfl,sv.mono (z7 s2),hL.pc t (List.mem_of_getElem? ht),(z7 s2).sqT hh,fun H3 s3=>⟨s3 _ _ e2,CN.mk (List.getElem?_eq_some_iff.mp hv).1 ⟨?_,(List.getElem?_eq_some_iff.mp hv).1,zw,zt (s2.trans s3) n2 _,n2⟩⟩⟩
  rw [List.take_add_one,ht]
  simp
 ·rintro D ys H2 ⟨rfl,hi,e2,s2,n2⟩
  rw [hl,List.take_length] at e2
  exact ⟨_,.inl (SqL.of e2),fun p H3 s3 h3=>q p H3 (s2.trans s3) h3⟩
theorem sc_lawfit:zu ["_law_sayings","_law_names_here","_law_number","_law_name"] ["_law_sayings"] (z4 (top 52)):=⟨rfl,rfl,rfl,by decide +kernel,rfl,by decide +kernel,by decide +kernel⟩
theorem Yv (D:Def K mg "_law_fit_rows" (top 52) ["_law_sayings"]) (C_law_all_names:zx P w K mg base 41 "_law_all_names" ["_law_sayings"] (pi K)) (C_law_row:zx P w K mg base 41 "_law_row" ["_law_sayings","_law_held_here"] (qm K)) (C_law_held:zx P w K mg base 1 "_law_held" ["_law_number","_law_names_here"] (W8 K))
  (mg_sorted:mg "sorted" = none) (mg_set:mg "set" = none) (mg_range:mg "range" = none):zx P w K mg base 42 "_law_fit_rows" ["_law_sayings"] (v6 K):=by
 refine D.callee sc_lawfit (fun vs H Q E h=>?_) fun f cdv A outer s H vs Q E hr h=>?_
 ·obtain ⟨a,us,ts,xs,rfl,_⟩:=h
  rfl
 have nd:=sc_lawfit.nd
 obtain ⟨a,us,ts,xs,rfl,ha,hS,hL,q⟩:=h
 refine ⟨[some (.ref a),none,none,none],_,rfl,(z5 (zo 1 nd (zv C_law_all_names hr (by omega) (z9 (z8 0) z6)))
  (z5 (zo 2 nd zz)
  (z5 (xj PassesOwn.never rfl (y3 (z8 1)) (wk 3 nd) (zy (zo 2 nd (zq w6 zz (z8 2)))))
  (zy (zr (w8 rfl hr.units rfl mg_sorted rfl mg_set (yp (ixs:=[0,1]) (zl (own:=["_law_k"]) (N:=["_law_sayings","_law_names_here"]) rfl rfl rfl rfl rfl rfl rfl (by decide +kernel) rfl rfl rfl) rfl (yh rfl mg_range (z9 (z8 2) z6)) (fun _ _ _ _=>yq) (fun _ _ _ _=>(zv C_law_row hr (by omega) (z9 (z8 1) (z9 (zv C_law_held hr (by omega) (z9 (z8 0) (z9 (z8 2) z6))) z6)))) rfl))))))),?_⟩
 walk_at "rp"
 refine ⟨a,us,ts,xs,rfl,ha,hS,hL,fun b H1 ss nb s1 hb hN=>?_⟩
 obtain ⟨hss,hsn⟩:=hL.names hN
 have p5:=Wq hss
 walk_at "rp"
 refine .inl ⟨⟨_,SqL.of hb⟩,v4 (xs:=ss.map V.str) (fun i σ H2=>∃ nv,σ = [some (.ref a),some (.ref b),some (.int ((2 ^ i:Nat):Int)),nv]∧H2 = H1) ⟨none,rfl,rfl⟩ ?_ ?_ ?_⟩
 ·rintro i σ H2 _ ⟨nv,rfl,rfl⟩
  exact SqL.of hb
 ·rintro i x σ H2 hx' ⟨nv,rfl,rfl⟩
  walk_at "rp"
  refine ⟨cm (by decide),some x,?_,trivial⟩
  rw [Nat.pow_succ,Int.natCast_mul,Int.mul_comm]
  rfl
 rintro σ H2 ⟨nv,rfl,rfl⟩
 walk_at "rp"
 rw [List.length_map]
 have p5':((2 ^ ss.length:Nat):Int)≤32:=Int.ofNat_le.mpr p5
 have p50:(0:Int)≤((2 ^ ss.length:Nat):Int):=Int.natCast_nonneg _
 refine ⟨⟨by omega,by omega⟩,?_⟩
 rw [Int.toNat_natCast]
 intro C s₀ H₀ ex
 refine xy (fun D i ys H3=>∃ R:List (Addr×List Bool),ys = (R.map fun r=>V.ref r.1)∧R.map (·.2) = (List.range i).map (fun (n:Nat)=>ve ts (zj (n:Int) ss))∧(∀ r∈R,SqT K H3 r.1 (r.2.map V.bl))∧H3 D = some (.lst ys)∧Same H2 H3∧H2 D = none) (by rw [sizeLine_eq];omega) ?_ ?_ ?_ ?_
 ·intro D H3 n3 s3 e3
  exact ⟨[],rfl,rfl,fun r hr=>by simp at hr,e3,s3,n3⟩
 ·rintro D i ys H3 ⟨R,rfl,hR,_,e3,s3,_⟩
  refine ⟨e3,?_⟩
  have:=congrArg List.length hR
  simpa using this
 ·rintro D i ys H3 hi ⟨R,rfl,hR,hT,e3,s3,n3⟩
  walk_at "rp"
  rw [Int.zero_add]
  refine ⟨_,b,ss,rfl,.inl (s3.seq (SqL.of hb)),by omega,fun c H4 s4 h4=>?_⟩
  refine ⟨a,c,us,ts,xs,_,rfl,(z7 (s1.trans (s3.trans s4))).sqT ha,hS.mono (z7 (s1.trans (s3.trans s4))),hL,h4,fun p H5 s5 h5=>⟨(s4.trans s5) _ _ e3,CN.mk hi ⟨R ++ [(p,ve ts (zj (i:Int) ss))],by rw [List.map_append];rfl,?_,fun r hr=>?_,zw,zt (s3.trans (s4.trans s5)) n3 _,n3⟩⟩⟩
  ·rw [List.map_append,hR,List.range_succ,List.map_append]
   rfl
  ·have tl:=xr (o:=.lst ((R.map fun r=>V.ref r.1) ++ [V.ref p])) ((s4.trans s5) _ _ e3)
   rcases List.mem_append.mp hr with hr | hr
   ·exact tl.sqT ((z7 (s4.trans s5)).sqT (hT r hr))
   ·rw [List.mem_singleton.mp hr]
    exact tl.sqT h5
 ·rintro D ys H3 ⟨R,rfl,hR,hT,e3,s3,n3⟩
  have hRl:R.length = 2 ^ ss.length:=by
   have:=congrArg List.length hR
   simpa using this
  refine .inr ⟨R,SqL.of e3,fun r hr=>⟨hT r hr,?_⟩,by omega,fun R' hsub hnd hmem hst hle p H4 n4 s4 e4=>?_⟩
  ·have:r.2∈R.map (·.2):=List.mem_map_of_mem hr
   rw [hR] at this
   obtain ⟨n,_,e⟩:=List.mem_map.mp this
   intro z
   rw [← e] at z
   have h1:=su ts (zj (n:Int) ss)
   rw [z] at h1
   have:=hL.lo
   simp at h1
   omega
  ·refine q p H4 ss R' (zc (s1.trans s3) n4) (s1.trans (s3.trans s4)) e4 (fun r hr=>(z7 s4).sqT (hT r (hsub r hr))) hN ⟨hnd,fun k=>?_,hst⟩ (by omega)
   rw [hmem k,hR,List.mem_map]
   constructor
   ·rintro ⟨n,hn,rfl⟩
    exact ⟨n,List.mem_range.mp hn,rfl⟩
   ·rintro ⟨n,hn,rfl⟩
    exact ⟨n,List.mem_range.mpr hn,rfl⟩
def aq (K:PySem.W.Frag) (C:Addr) (f:Str):Sp:=fun vs H Q _=>∃ (x dx:Addr) (v:V),vs = [.ref x,v]∧H x = some (.ins C dx [])∧Q .non (upd H x (.ins C dx [(f,v)]))
theorem sc_nrinit:zu ["self","weights"] ["self","weights"] (z4 (yj (top 37) 0)):=⟨rfl,rfl,rfl,by decide +kernel,rfl,by decide +kernel,by decide +kernel⟩
theorem Yz {C:Addr}{ds:List Value} (D:DefN K C "Nearest.__init__" (yj (top 37) 0) ["self","weights"] ds) (CL:Cls K C) (na:NoAttr K C "weights"):qc P w K mg base 1 C ["self","weights"] ds (aq K C "weights"):=by
 refine D.callee sc_nrinit (fun vs H Q E h=>?_) fun f cdv A outer s H vs Q E hr h=>?_
 ·obtain ⟨x,dx,v,rfl,_⟩:=h
  rfl
 have nd:=sc_nrinit.nd
 obtain ⟨x,dx,v,rfl,hx,q⟩:=h
 refine ⟨[some (.ref x),some v],_,rfl,(zy (Qh (z8 0) (z8 1) rfl)),?_⟩
 walk_at "rp"
 exact ⟨x,C,dx,[],rfl,hx,CL,na,by decide,q⟩
theorem Ut (xs:List V) {j:Int} (h:0≤j):wj xs (some j) none = xs.drop j.toNat:=by
 unfold wj
 have e:HT.sIx xs.length 0 (some j) = min j.toNat xs.length:=by
  show (if j < 0 then (j + (xs.length:Int)).toNat else min j.toNat xs.length) = _
  rw [if_neg (by omega)]
 rw [HT.sIx_none,e]
 by_cases hj:j.toNat≤xs.length
 ·rw [Nat.min_eq_left hj,List.take_of_length_le (by rw [List.length_drop];exact Nat.le_refl _)]
 ·rw [Nat.min_eq_right (by omega),List.drop_length,List.take_nil,List.drop_eq_nil_of_le (by omega)]
theorem ko {K:PySem.W.Frag}{H:Hp}{j p:Addr}{J J':List (Addr×List Bool)}{m:Nat} (hJ:JudgesAt K H j J m) (hm:∀ r∈J',r∈J) (h1:1≤J'.length) (h2:J'.length≤100) (hp:SqT K H p (J'.map fun r=>V.ref r.1)):JudgesAt K H p J' m:=⟨hp,fun r hr=>hJ.row r (hm r hr),fun r hr=>hJ.len r (hm r hr),h1,h2⟩
theorem k9 {K:PySem.W.Frag}{H:Hp}:∀ (n:Nat) {us:List V}{ts:List Say},SaysAt K H us ts→SaysAt K H (us.take n) (ts.take n)
 | 0,_,_,_=>by rw [List.take_zero,List.take_zero];trivial
 | n + 1,[],[],h=>h
 | n + 1,u :: us,t :: ts,h=>⟨h.1,k9 n h.2⟩
def j7 (K:PySem.W.Frag) (Pt:Addr):Sp:=fun vs H Q _=>∃ (a:Addr) (ns:List Int),vs = [.ref a]∧SqL K H a (ns.map V.int)∧ns.length≤63∧Tb Pt H∧∀ H',Q (.bl true) H'
theorem sc_law:zu ["_law_script","_law_sayings","_law_fit","_law_judges","_law_way","_law_row_here","_law_at","_law_turned","_law_thrice","_law_other","_law_few"] ["_law_script"] (z4 (top 56)):=⟨rfl,rfl,rfl,by decide +kernel,rfl,by decide +kernel,by decide +kernel⟩
theorem Py {f Pt C0 C1 C2:Addr}{fd:FuncData}{ps0 ps1 ps2:List Str} (D:Fun K "law" "law" (top 56) f fd) (C_law_list:zx P w K mg base 13 "_law_list" ["_law_script","_law_k"] (Xb K)) (C_law_fit_rows:zx P w K mg base 42 "_law_fit_rows" ["_law_sayings"] (v6 K)) (C_law_like:zx P w K mg base 3 "_law_like" ["_law_script","_law_fit"] (Xa K)) (C_law_keeps:zx P w K mg base 47 "_law_keeps" ["_law_way","_law_sayings","_law_judges","_law_fit"] (au K Pt C1)) (C_law_pick:zx P w K mg base 2 "_law_pick" ["_law_script","_law_k","_law_many"] (vw K)) (C_law_is_row:zx P w K mg base 1 "_law_is_row" ["_law_found","_law_due"] (ar K))
  (C_ByStrength_row:xi P w K mg base 46 C1 "row" ps1 (pq K Pt C1 (fun _:Unit=>Fl1) fun _=>RI1)) (C_Most_row:xi P w K mg base 4 C0 "row" ps0 (Xc K)) (C_Nearest_row:xi P w K mg base 46 C2 "row" ps2 (pq K Pt C2 (Fl2 K) RI2)) (MK_ByStrength:Mk0 K C1) (mg_ByStrength:mg "ByStrength" = some (.ref C1)) (MK_Most:Mk0 K C0) (mg_Most:mg "Most" = some (.ref C0)) (C_Nearest_init:qc P w K mg base 1 C2 ["self","weights"] [.none] (aq K C2 "weights")) (mg_Nearest:mg "Nearest" = some (.ref C2))
  (mg_len:mg "len" = none) (mg_range:mg "range" = none) (mg_tuple:mg "tuple" = none):FnOk P w K mg base CX0 48 f fd ["_law_script"] (j7 K Pt):=by
 refine U3 D sc_law (fun vs H Q E h=>?_) fun f cdv A outer s H vs Q E hr h=>?_
 ·obtain ⟨a,ns,rfl,_⟩:=h
  rfl
 have nd:=sc_law.nd
 obtain ⟨a,ns,rfl,hS,h63',hTb,q⟩:=h
 have h63:ns.length≤5000:=Nat.le_trans h63' (by decide)
 refine ⟨[some (.ref a),none,none,none,none,none,none,none,none,none,none],_,rfl,(z5 (zo 1 nd (zv C_law_list hr (by omega) (z9 (z8 0) (z9 zz z6))))
  (z5 (zo 2 nd (zv C_law_fit_rows hr (by omega) (z9 (z8 1) z6)))
  (z5 (zo 3 nd (zv C_law_like hr (by omega) (z9 (z8 0) (z9 (z8 2) z6))))
  (z5 (zo 4 nd (jm MK_ByStrength mg_ByStrength))
  (z5 (yr (uf (uq (zv C_law_keeps hr (by omega) (z9 (z8 4) (z9 (z8 1) (z9 (z8 3) (z9 (z8 2) z6))))))) (zy (zr wb)) zi)
  (z5 (zo 5 nd (wz C_ByStrength_row hr (by omega) (z8 4) (z9 (z8 1) (z9 (z8 3) z6))))
  (z5 (zo 6 nd (zv C_law_pick hr (by omega) (z9 (z8 0) (z9 zz (z9 (zp ye rfl mg_len yx (z9 (z8 3) z6)) z6)))))
  (z5 (zo 7 nd (zq zf (xz (z8 3) (xo (z8 6)) yb) (xz (z8 3) yb (xo (z8 6)))))
  (z5 (zo 8 nd (zq zf (zq zf (z8 3) (z8 7)) (z8 3)))
  (z5 (yr (PW.pt (g8 (uf (uq (zv C_law_is_row hr (by omega) (z9 (wz C_ByStrength_row hr (by omega) (z8 4) (z9 (z8 1) (z9 (z8 7) z6))) (z9 (z8 5) z6))))) (ou (uf (uq (zv C_law_keeps hr (by omega) (z9 (z8 4) (z9 (z8 1) (z9 (z8 8) (z9 (z8 2) z6)))))))))) (zy (zr wb)) zi)
  (z5 (xj PassesOwn.never rfl (y3 (v5 (z9 (z8 4) (z9 (jm MK_Most mg_Most) (z9 (Ss (dvs:=[V.non]) C_Nearest_init (.cons rfl .nil) hr (by omega) mg_Nearest) z6))))) (wk 9 nd) (zy (yr (uf (uq (zv C_law_is_row hr (by omega) (z9 (ae (wz C_ByStrength_row hr (by omega) (z8 9) (z9 (z8 1) (z9 (z8 8) z6))) (ae (wz C_Most_row hr (by omega) (z8 9) (z9 (z8 1) (z9 (z8 8) z6))) (wz C_Nearest_row hr (by omega) (z8 9) (z9 (z8 1) (z9 (z8 8) z6))))) (z9 (ae (wz C_ByStrength_row hr (by omega) (z8 9) (z9 (z8 1) (z9 (z8 3) z6))) (ae (wz C_Most_row hr (by omega) (z8 9) (z9 (z8 1) (z9 (z8 3) z6))) (wz C_Nearest_row hr (by omega) (z8 9) (z9 (z8 1) (z9 (z8 3) z6))))) z6))))) (zy (zr wb)) zi)))
  (z5 (zo 10 nd (za yi rfl mg_tuple y4 (z9 (yp (ixs:=[]) (zl (own:=["_law_judge"]) (N:=[]) rfl rfl rfl rfl rfl rfl rfl (by decide +kernel) rfl rfl rfl) rfl (y3 (z8 3)) (fun _ _ _ _=>yq) (fun _ _ _ _=>(xz (z8 0) yb (xo zz))) rfl) z6)))
  (zy (zr (zv C_law_is_row hr (by omega) (z9 (wz C_ByStrength_row hr (by omega) (z8 4) (z9 (xz (z8 1) yb (xo zz)) (z9 (z8 10) z6))) (z9 (wz C_Most_row hr (by omega) (jm MK_Most mg_Most) (z9 (xz (z8 1) yb (xo zz)) (z9 (z8 10) z6))) z6))))))))))))))))),?_⟩
 walk_at "rp"
 refine ⟨a,ns,rfl,hS,h63,fun b H1 us ts xs s1 hb hT hL=>?_⟩
 have hhi:=hL.hi
 have hlen:=hT.len
 walk_at "rp"
 refine ⟨b,us,ts,xs,rfl,hb,hT,hL,fun d H2 ss R n2 s2 e2 hR hN hF hRl=>?_⟩
 have hR1:=je hF
 have hRm:∀ r∈R,r.2.length = ts.length:=fun r hr=>w4 hF (List.mem_map_of_mem (f:=(·.2)) hr)
 have s02:=s1.trans s2
 walk_at "rp"
 refine ⟨a,d,ns,R,ts.length,rfl,s02.seq hS,h63,e2,hR,hRm,hR1,hRl,by omega,fun j H3 J s3 hJ hodd h7 hJR=>?_⟩
 walk_at "rp"
 intro x1 dx1 nx1 nd1 ne1
 have s4:Same H3 (upd (upd H3 dx1 (.own x1)) x1 (.ins C1 dx1 [])):=zt (zt (Same.refl _) nd1 _) nx1 _
 have i1:(upd (upd H3 dx1 (.own x1)) x1 (.ins C1 dx1 [])) x1 = some (.ins C1 dx1 []):=zw
 generalize (upd (upd H3 dx1 (.own x1)) x1 (.ins C1 dx1 [])) = H4 at s4 i1 ⊢
 walk_at "rp"
 have s24:=s3.trans s4
 have s14:=s2.trans s24
 have b4:=(z7 s14).sqT hb
 have T4:=hTb.same (s1.trans s14)
 refine ⟨x1,dx1,b,j,d,us,ts,xs,ss,J,R,rfl,i1,b4,hT.mono (z7 s14),hL,hJ.mono (z7 s4),by omega,hJR,s24 _ _ e2,fun r hr=>(z7 s24).sqT (hR r hr),hN,hF,T4,fun H5 s5 T5=>?_⟩
 walk_at "rp"
 have i5:=yy T4 s5 i1
 have tu45:=yw T4 s5
 have b5:=tu45.sqT b4
 have U5:=(hT.mono (z7 s14)).mono tu45
 have J5:=(hJ.mono (z7 s4)).mono tu45
 have d5:=yy T4 s5 (s24 _ _ e2)
 have r5:∀ r∈R,SqT K H5 r.1 (r.2.map V.bl):=fun r hr=>tu45.sqT ((z7 s24).sqT (hR r hr))
 have S5:=Xf T4 s5 ((s1.trans s14).seq hS)
 refine ⟨x1,dx1,[],rfl,i5,rfl,?_⟩
 refine ⟨(),x1,dx1,b,j,[],us,ts,xs,J,rfl,i5,rfl,b5,U5,hL,J5,T5,fun p H6 ss6 R6 row s6 T6 hN6 hF6 hp hl hri=>?_⟩
 have es:=NamesOf.eq hN6 hN
 subst es
 have eR:=FitRows.eq hF6 hF
 subst eR
 have tu6:=yw T5 s6
 have J6:=J5.mono tu6
 have hlo:=hJ.lo
 walk_at "rp"
 refine ⟨_,.inr J6.sq,?_⟩
 rw [List.length_map]
 refine ⟨a,ns,40,_,rfl,Xf T5 s6 S5,h63,by decide,by decide,by omega,fun z z0 z1=>?_⟩
 obtain ⟨zn,rfl⟩:∃ zn:Nat,z = (zn:Int):=⟨z.toNat,by omega⟩
 walk_at "rp"
 refine .inr ⟨_,J6.sq,fun p1 H7 s7 h7=>?_⟩
 rw [Ut _ (by omega),Int.toNat_natCast] at h7
 refine .inr ⟨_,(z7 s7).sqT J6.sq,fun p2 H8 s8 h8=>?_⟩
 rw [vb _ (by omega),Int.toNat_natCast] at h8
 walk_at "rp"
 refine .inr ⟨_,_,(z7 s8).sqT h7,h8,by rw [List.length_take,List.length_drop,sizeLine_eq];simp;omega,fun p3 H9 s9 h9=>?_⟩
 rw [← List.map_drop,← List.map_take,← List.map_append] at h9
 have s69:=s7.trans (s8.trans s9)
 walk_at "rp"
 have J9:=J6.mono (z7 s69)
 have lt:(J.drop zn ++ J.take zn).length = J.length:=by rw [List.length_append,List.length_drop,List.length_take];omega
 refine .inr ⟨_,_,J9.sq,h9,by rw [List.length_map,List.length_map,lt,sizeLine_eq];omega,fun p4 H10 s10 h10=>?_⟩
 walk_at "rp"
 refine .inr ⟨_,_,h10,(z7 s10).sqT J9.sq,by rw [List.length_append,List.length_map,List.length_map,lt,sizeLine_eq];omega,fun p5 H11 s11 h11=>?_⟩
 rw [← List.map_append,← List.map_append] at h11
 have s611:=s69.trans (s10.trans s11)
 have J11:=J6.mono (z7 s611)
 have mt:∀ r∈J.drop zn ++ J.take zn,r∈J:=fun r hr=>by
  rcases List.mem_append.mp hr with h | h
  ·exact List.mem_of_mem_drop h
  ·exact List.mem_of_mem_take h
 have mx:∀ r∈J ++ (J.drop zn ++ J.take zn) ++ J,r∈J:=fun r hr=>by
  rcases List.mem_append.mp hr with h | h
  ·rcases List.mem_append.mp h with h | h
   ·exact h
   ·exact mt r h
  ·exact h
 have Jt11:JudgesAt K H11 p3 (J.drop zn ++ J.take zn) ts.length:=ko J11 mt (by omega) (by omega) ((z7 (s10.trans s11)).sqT h9)
 have lx:(J ++ (J.drop zn ++ J.take zn) ++ J).length = 3 * J.length:=by rw [List.length_append,List.length_append,lt];omega
 have Jx11:JudgesAt K H11 p5 (J ++ (J.drop zn ++ J.take zn) ++ J) ts.length:=ko J11 mx (by omega) (by omega) h11
 have et:(J.drop zn ++ J.take zn).map (·.2) = (J.map (·.2)).drop zn ++ (J.map (·.2)).take zn:=by rw [List.map_append,List.map_drop,List.map_take]
 have ex:(J ++ (J.drop zn ++ J.take zn) ++ J).map (·.2) = J.map (·.2) ++ ((J.map (·.2)).drop zn ++ (J.map (·.2)).take zn) ++ J.map (·.2):=by rw [List.map_append,List.map_append,et]
 generalize hJt:J.drop zn ++ J.take zn = Jt at *
 generalize hJx:J ++ Jt ++ J = Jx at *
 have T11:=T6.same s611
 have i11:=s611 _ _ (yy T5 s6 i5)
 have tu511:=tu6.trans (z7 s611)
 have b11:=tu511.sqT b5
 have U11:=U5.mono tu511
 walk_at "rp"
 refine ⟨x1,dx1,[],rfl,i11,rfl,?_⟩
 refine ⟨(),x1,dx1,b,p3,[],us,ts,xs,Jt,rfl,i11,rfl,b11,U11,hL,Jt11,T11,fun p6 H12 ss12 R12 row2 s12 T12 hN12 hF12 hp6 hl2 hri2=>?_⟩
 have es2:=NamesOf.eq hN12 hN
 subst es2
 have eR2:=FitRows.eq hF12 hF
 subst eR2
 rw [et] at hri2
 have e12:row2 = row:=fh (fg 1 (by decide) (V0 _ _) (fun j=>by rw [T8,Int.one_mul]) hri2) hri hl2 hl
 subst e12
 have tu12:=yw T11 s12
 walk_at "rp"
 refine ⟨p6,p,row2,rfl,hp6,tu12.sqT ((z7 s611).sqT hp),by omega,fun H13 s13=>?_⟩
 walk_at "rp"
 have s1113:SameP Pt H11 H13:=s12.trans (we s13)
 have T13:=T12.same s13
 have tu13:=yw T11 s1113
 refine ⟨x1,dx1,b,p5,d,us,ts,xs,ss12,Jx,R,rfl,yy T11 s1113 i11,tu13.sqT b11,U11.mono tu13,hL,Jx11.mono tu13,by omega,fun r hr=>hJR r (mx r hr),yy T11 s1113 (s611 _ _ (yy T5 s6 d5)),fun r hr=>tu13.sqT (tu511.sqT (r5 r hr)),hN,hF,T13,fun H14 s14' T14=>?_⟩
 walk_at "rp"
 intro x0 dx0 nx0 nd0 ne0
 have s15:Same H14 (upd (upd H14 dx0 (.own x0)) x0 (.ins C0 dx0 [])):=zt (zt (Same.refl _) nd0 _) nx0 _
 have j0:(upd (upd H14 dx0 (.own x0)) x0 (.ins C0 dx0 [])) x0 = some (.ins C0 dx0 []):=zw
 generalize (upd (upd H14 dx0 (.own x0)) x0 (.ins C0 dx0 [])) = H15 at s15 j0 ⊢
 intro x2 dx2 nx2 nd2 ne2
 refine ⟨x2,dx2,V.non,rfl,zw,rfl,?_⟩
 have s16:Same H15 (upd (upd (upd H15 dx2 (.own x2)) x2 (.ins C2 dx2 [])) x2 (.ins C2 dx2 [((Str.ofString "weights":Str),.non)])):=zt (zt (zt (Same.refl _) nd2 _) nx2 _) nx2 _
 have j2:(upd (upd (upd H15 dx2 (.own x2)) x2 (.ins C2 dx2 [])) x2 (.ins C2 dx2 [((Str.ofString "weights":Str),.non)])) x2 = some (.ins C2 dx2 [((Str.ofString "weights":Str),.non)]):=zw
 generalize (upd (upd (upd H15 dx2 (.own x2)) x2 (.ins C2 dx2 [])) x2 (.ins C2 dx2 [((Str.ofString "weights":Str),.non)])) = H16 at s16 j2 ⊢
 refine ⟨by rw [sizeLine_eq];simp,fun wl H17 n17 s17 e17=>?_⟩
 walk_at "rp"
 have s1417:=s15.trans (s16.trans s17)
 have sp17:SameP Pt H11 H17:=(s1113.trans s14').trans (we s1417)
 have T17:=T14.same s1417
 have tu17:=yw T11 sp17
 have k1:H17 x1 = _:=yy T11 sp17 i11
 have k0:=(s16.trans s17) _ _ j0
 have k2:=s17 _ _ j2
 have b17:=tu17.sqT b11
 have U17:=U11.mono tu17
 have J17:=J11.mono tu17
 have Jx17:=Jx11.mono tu17
 refine .inl ⟨⟨_,SqL.of e17⟩,v4 (xs:=[V.ref x1,V.ref x0,V.ref x2]) (fun i σ H18=>(∃ x9,σ = [some (V.ref a),some (V.ref b),some (V.ref d),some (V.ref j),some (V.ref x1),some (V.ref p),some (V.int (zn:Int)),some (V.ref p3),some (V.ref p5),x9,none])∧SameP Pt H17 H18∧Tb Pt H18) ⟨⟨_,rfl⟩,fun _ _ _ e=>e,T17⟩ ?_ ?_ ?_⟩
 ·rintro i σ H18 _ ⟨⟨x9,rfl⟩,s18,T18⟩
  exact SqL.of (yy T17 s18 e17)
 ·rintro i v σ H18 hv ⟨⟨x9,rfl⟩,s18,T18⟩
  have tu18:=yw T17 s18
  have hv':=List.mem_of_getElem? hv
  simp only [List.mem_cons,List.not_mem_nil,or_false] at hv'
  walk_at "rp"
  rcases hv' with rfl | rfl | rfl
  ·refine .inl ⟨x1,dx1,[],rfl,yy T17 s18 k1,rfl,(),x1,dx1,b,p5,[],us,ts,xs,Jx,rfl,yy T17 s18 k1,rfl,tu18.sqT b17,U17.mono tu18,hL,Jx17.mono tu18,T18,fun pa H19 ss19 R19 rowa s19 T19 hN19 hF19 hpa hla hria=>?_⟩
   have es3:=NamesOf.eq hN19 hN
   subst es3
   have eR3:=FitRows.eq hF19 hF
   subst eR3
   have s719:=s18.trans s19
   have tu19:=yw T17 s719
   refine .inl ⟨x1,dx1,[],rfl,yy T17 s719 k1,rfl,(),x1,dx1,b,j,[],us,ts,xs,J,rfl,yy T17 s719 k1,rfl,tu19.sqT b17,U17.mono tu19,hL,J17.mono tu19,T19,fun pb H20 ss20 R20 rowb s20 T20 hN20 hF20 hpb hlb hrib=>?_⟩
   have es4:=NamesOf.eq hN20 hN
   subst es4
   have eR4:=FitRows.eq hF20 hF
   subst eR4
   rw [ex] at hria
   have e20:rowa = rowb:=fh (fg 3 (by decide) (rg _ _) (fun j=>d9 _ _ j) hria) hrib hla hlb
   subst e20
   refine ⟨pa,pb,rowa,rfl,(yw T19 s20).sqT hpa,hpb,by omega,fun H21 s21=>?_⟩
   walk_at "rp"
   exact ⟨⟨_,rfl⟩,s719.trans (s20.trans (we s21)),T20.same s21⟩
  ·refine .inr (.inl ⟨x0,dx0,[],rfl,yy T17 s18 k0,rfl,_,_,p5,Jx,ts.length,rfl,Jx17.mono tu18,by omega,fun pa H19 s19 hpa=>?_⟩)
   have s719:SameP Pt H17 H19:=s18.trans (we s19)
   have tu19:=yw T17 s719
   refine .inr (.inl ⟨x0,dx0,[],rfl,yy T17 s719 k0,rfl,_,_,j,J,ts.length,rfl,J17.mono tu19,by omega,fun pb H20 s20 hpb=>?_⟩)
   have e20:ya (Jx.map (·.2)) ts.length = ya (J.map (·.2)) ts.length:=by rw [ex];unfold ya;rw [rg]
   rw [e20] at hpa
   refine ⟨pa,pb,_,rfl,(z7 s20).sqT hpa,hpb,by rw [wa];omega,fun H21 s21=>?_⟩
   walk_at "rp"
   exact ⟨⟨_,rfl⟩,s719.trans (we (s20.trans s21)),(T18.same s19).same (s20.trans s21)⟩
  ·refine .inr (.inr ⟨x2,dx2,_,rfl,yy T17 s18 k2,rfl,List.replicate ts.length 1,x2,dx2,b,p5,_,us,ts,xs,Jx,rfl,yy T17 s18 k2,⟨.non,rfl,.inl ⟨rfl,rfl⟩⟩,tu18.sqT b17,U17.mono tu18,hL,Jx17.mono tu18,T18,fun pa H19 ss19 R19 rowa s19 T19 hN19 hF19 hpa hla hria=>?_⟩)
   have es3:=NamesOf.eq hN19 hN
   subst es3
   have eR3:=FitRows.eq hF19 hF
   subst eR3
   have s719:=s18.trans s19
   have tu19:=yw T17 s719
   refine .inr (.inr ⟨x2,dx2,_,rfl,yy T17 s719 k2,rfl,List.replicate ts.length 1,x2,dx2,b,j,_,us,ts,xs,J,rfl,yy T17 s719 k2,⟨.non,rfl,.inl ⟨rfl,rfl⟩⟩,tu19.sqT b17,U17.mono tu19,hL,J17.mono tu19,T19,fun pb H20 ss20 R20 rowb s20 T20 hN20 hF20 hpb hlb hrib=>?_⟩)
   have es4:=NamesOf.eq hN20 hN
   subst es4
   have eR4:=FitRows.eq hF20 hF
   subst eR4
   obtain ⟨ra,ea⟩:=hria
   obtain ⟨rb,eb⟩:=hrib
   rw [ex,gr,eb] at ea
   have e20:=(List.cons.inj ea).1
   subst e20
   refine ⟨pa,pb,_,rfl,(yw T19 s20).sqT hpa,hpb,by omega,fun H21 s21=>?_⟩
   walk_at "rp"
   exact ⟨⟨_,rfl⟩,s719.trans (s20.trans (we s21)),T20.same s21⟩
 ·rintro σ H18 ⟨⟨x9,rfl⟩,s18,T18⟩
  have tu18:=yw T17 s18
  have J18:=J17.mono tu18
  walk_at "rp"
  refine .inr ⟨⟨_,J18.sq⟩,fun C' s₀ H₀ ex9=>?_⟩
  refine vy (xs:=J.map fun r=>V.ref r.1) (fun D n ys H19=>∃ F:List (Addr×List Bool),ys = (F.map fun r=>V.ref r.1)∧F.length = n∧F.map (·.2) = (J.take n).map (fun r=>r.2.take 2)∧(∀ r∈F,SqT K H19 r.1 (r.2.map V.bl))∧H19 D = some (.lst ys)∧Same H18 H19∧H18 D = none) (by rw [List.length_map,sizeLine_eq];omega) ?_ ?_ ?_ ?_
  ·intro D H19 n19 s19 e19
   exact ⟨[],rfl,rfl,rfl,fun r hr=>(by cases hr),e19,s19,n19⟩
  ·rintro D n ys H19 ⟨F,rfl,hFl,_,_,e19,s19,_⟩
   exact ⟨(z7 s19).sqT J18.sq,e19,by rw [List.length_map];exact Nat.le_of_eq hFl⟩
  ·rintro D n v ys H19 hv ⟨F,rfl,hFl,hFm,hFr,e19,s19,n19⟩
   rw [List.getElem?_map] at hv
   cases hc:J[n]? with
   | none=>rw [hc] at hv;cases hv
   | some r =>
    rw [hc] at hv
    cases hv
    have hr':=List.mem_of_getElem? hc
    have hn:n < (J.map fun r=>V.ref r.1).length:=by rw [List.length_map];exact (List.getElem?_eq_some_iff.mp hc).1
    walk_at "rp"
    refine .inr ⟨_,(z7 s19).sqT (J18.row r hr'),fun pz H20 s20 h20=>?_⟩
    rw [vb _ (by decide)] at h20
    have h20':SqT K H20 pz ((r.2.take 2).map V.bl):=by rw [List.map_take];exact h20
    have hj:J.take (n + 1) = J.take n ++ [r]:=by rw [List.take_add_one,hc];rfl
    have t5:=xr (o:=.lst ((F.map fun r=>V.ref r.1) ++ [V.ref pz])) (s20 _ _ e19)
    refine ⟨s20 _ _ e19,CN.mk hn ⟨F ++ [(pz,r.2.take 2)],by rw [List.map_append];rfl,by rw [List.length_append,hFl];rfl,by rw [List.map_append,hFm,hj,List.map_append];rfl,fun r2 hr2=>?_,zw,zt (s19.trans s20) n19 _,n19⟩⟩
    rcases List.mem_append.mp hr2 with h | h
    ·exact t5.sqT ((z7 s20).sqT (hFr r2 h))
    ·rw [List.mem_singleton.mp h]
     exact t5.sqT h20'
  ·rintro D9 ys H19 ⟨F,rfl,hFl,hFm,hFr,e19,s19,n19⟩
   rw [List.length_map] at hFl hFm
   rw [List.take_length] at hFm
   walk_at "rp"
   refine ⟨_,.inl (SqL.of e19),fun fw H20 s20 h20=>?_⟩
   have s1820:=s19.trans s20
   have sp20:SameP Pt H17 H20:=s18.trans (we s1820)
   have T20:=T18.same s1820
   have tu20:=yw T17 sp20
   have l2:(ts.take 2).length≤2:=by rw [List.length_take];omega
   have hFlen:∀ r∈F,r.2.length = (ts.take 2).length:=fun r hr=>by
    have h:=List.mem_map_of_mem (f:=(·.2)) hr
    rw [hFm] at h
    obtain ⟨r',hr',e⟩:=List.mem_map.mp h
    rw [← e,List.length_take,List.length_take,hJ.len r' hr']
   have F20:JudgesAt K H20 fw F (ts.take 2).length:=⟨h20,fun r hr=>(z7 s20).sqT (hFr r hr),hFlen,by omega,by omega⟩
   have L2:Lst (ts.take 2) xs:=⟨by have:=hL.lo;rw [List.length_take];omega,by omega,fun t ht=>hL.pc t (List.mem_of_mem_take ht),fun x hx=>by
    obtain ⟨t,ht,hx⟩:=mem_allL.mp hx
    exact hL.nm x (mem_allL.mpr ⟨t,List.mem_of_mem_take ht,hx⟩),hL.xl,hL.ok⟩
   refine ⟨x1,dx1,[],rfl,yy T17 sp20 k1,rfl,?_⟩
   walk_at "rp"
   refine .inr ⟨_,tu20.sqT b17,fun b2 H21 s21 h21=>?_⟩
   rw [vb _ (by decide)] at h21
   walk_at "rp"
   have tu21:=tu20.trans (z7 s21)
   have T21:=T20.same s21
   refine ⟨(),x1,dx1,b2,fw,[],us.take 2,ts.take 2,xs,F,rfl,s21 _ _ (yy T17 sp20 k1),rfl,h21,k9 2 (U17.mono tu21),L2,F20.mono (z7 s21),T21,fun pc H22 ss22 R22 rowc s22 T22 hN22 hF22 hpc hlc hric=>?_⟩
   walk_at "rp"
   have hFM:∀ r∈F.map (·.2),r∈R22:=fun r hr=>by
    rw [hFm] at hr
    obtain ⟨r',hr',rfl⟩:=List.mem_map.mp hr
    exact U1 2 hF hN22 hF22 (List.mem_map_of_mem (f:=(·.2)) (hJR r' hr'))
   have e22:=Xo (by rw [List.length_map,hFl];exact hodd) l2 hFM hric hlc
   subst e22
   intro x3 dx3 nx3 nd3 ne3
   have s23:Same H22 (upd (upd H22 dx3 (.own x3)) x3 (.ins C0 dx3 [])):=zt (zt (Same.refl _) nd3 _) nx3 _
   refine ⟨x3,dx3,[],rfl,zw,rfl,?_⟩
   generalize (upd (upd H22 dx3 (.own x3)) x3 (.ins C0 dx3 [])) = H23 at s23 ⊢
   walk_at "rp"
   have s2123:SameP Pt H21 H23:=s22.trans (we s23)
   have tu23:=tu21.trans (yw T21 s2123)
   refine .inr ⟨_,tu23.sqT b17,fun b3 H24 s24' h24=>?_⟩
   walk_at "rp"
   have tu2024:=((z7 s21).trans (yw T21 s2123)).trans (z7 s24')
   refine ⟨_,_,fw,F,_,rfl,F20.mono tu2024,by omega,fun pd H25 s25 hpd=>?_⟩
   exact ⟨pc,pd,_,rfl,(z7 (s23.trans (s24'.trans s25))).sqT hpc,hpd,by rw [wa];omega,fun H26 _=>q H26⟩
end
end Kx
namespace Kx
open PySem PySem.Spec L2 My
open PyProof.Rows hiding St
theorem Ra {K:PySem.W.Frag}{x:Str}{f c P:Addr}{oc oc2:Value}{od od2:Option Addr}{fd:FuncData}{sl sl2:Array (Option Value)}{vs:Array Value} (a:PySem.W.nsIn K mainGlobals x = some (some (.ref f))) (l:K.lookup f = some ⟨oc,od,.func fd,sl⟩) (hc:fd.code = .ref c) (lc:K.lookup c = some ⟨oc2,od2,.fields vs,sl2⟩) (hv:(vs[11]?:Option Value) = some (.ref P)):PySem.W.tabIn K x = some (c,P):=by
 unfold PySem.W.tabIn
 rw [a];dsimp only;rw [l];dsimp only;rw [hc];dsimp only;rw [lc];dsimp only;rw [hv]
theorem all_mk {l:PySem.W.OpenLaw}{w:World}{K:PySem.W.Frag}{h:Heap}{mg:Str→Option Value}{fa:Addr} (X:K.In h) (G:h.Ns mainGlobals mg) (hfa:mg "law" = some (.ref fa))
  {f_21:Addr}{od_21 an_21:Option Addr}{sl_21:Array (Option Value)}{oc_21 kV_21 dc_21 pm_21 cd_21 ct_21:Value}
  {dT_21:Addr}{to_21:Value}{td_21:Option Addr}{tn_21:Nat}{tl_21:Array (Option Value)}
  {f_22:Addr}{od_22 an_22:Option Addr}{sl_22:Array (Option Value)}{oc_22 kV_22 dc_22 pm_22 cd_22 ct_22:Value}
  {dT_22:Addr}{to_22:Value}{td_22:Option Addr}{tn_22:Nat}{tl_22:Array (Option Value)}
  {f_33:Addr}{od_33 an_33:Option Addr}{sl_33:Array (Option Value)}{oc_33 kV_33 dc_33 pm_33 cd_33 ct_33:Value}
  {cL pL:Addr}{lo_L:Value}{ld_L:Option Addr}{vs_L:Array Value}{ls_L:Array (Option Value)}
  {f_law:Addr}{od_law an_law:Option Addr}{sl_law:Array (Option Value)}{oc_law kV_law dc_law pm_law cd_law ct_law:Value}
  {c_ByStrength:Addr}
  {f_ByStrength_row:Addr}{od_ByStrength_row an_ByStrength_row:Option Addr}{sl_ByStrength_row:Array (Option Value)}{oc_ByStrength_row kV_ByStrength_row dc_ByStrength_row pm_ByStrength_row cd_ByStrength_row ct_ByStrength_row:Value}
  {f_ByStrength_reasons:Addr}{od_ByStrength_reasons an_ByStrength_reasons:Option Addr}{sl_ByStrength_reasons:Array (Option Value)}{oc_ByStrength_reasons kV_ByStrength_reasons dc_ByStrength_reasons pm_ByStrength_reasons cd_ByStrength_reasons ct_ByStrength_reasons:Value}
  {c_Most:Addr}
  {f_Most_row:Addr}{od_Most_row an_Most_row:Option Addr}{sl_Most_row:Array (Option Value)}{oc_Most_row kV_Most_row dc_Most_row pm_Most_row cd_Most_row ct_Most_row:Value}
  {c_Nearest:Addr}
  {f_Nearest_init:Addr}{od_Nearest_init an_Nearest_init:Option Addr}{sl_Nearest_init:Array (Option Value)}{oc_Nearest_init kV_Nearest_init dc_Nearest_init pm_Nearest_init cd_Nearest_init ct_Nearest_init:Value}
  {dT_Nearest_init:Addr}{to_Nearest_init:Value}{td_Nearest_init:Option Addr}{tn_Nearest_init:Nat}{tl_Nearest_init:Array (Option Value)}
  {f_Nearest_row:Addr}{od_Nearest_row an_Nearest_row:Option Addr}{sl_Nearest_row:Array (Option Value)}{oc_Nearest_row kV_Nearest_row dc_Nearest_row pm_Nearest_row cd_Nearest_row ct_Nearest_row:Value}
  (D_who_say:Def K mg "who_say" (top 1) ["judges","number","truth"])
  (D_most_say_yes:Def K mg "most_say_yes" (top 2) ["judges","number"])
  (D_most:Def K mg "most" (top 3) ["judges"])
  (D_letters_in:Def K mg "letters_in" (top 5) ["saying"])
  (D_names_in:Def K mg "names_in" (top 6) ["saying"])
  (D_is_so:Def K mg "is_so" (top 7) ["saying","held"])
  (D_ways_to_hold:Def K mg "ways_to_hold" (top 9) ["names"])
  (D_held_by:Def K mg "held_by" (top 10) ["number","names"])
  (D_names_of:Def K mg "names_of" (top 12) ["sayings"])
  (D_all_held:Def K mg "all_held" (top 13) ["sayings"])
  (D_row_of:Def K mg "row_of" (top 14) ["sayings","held"])
  (D_fit_rows:Def K mg "fit_rows" (top 15) ["sayings"])
  (D_agrees:Def K mg "agrees" (top 16) ["row","part"])
  (D_any_agrees:Def K mg "any_agrees" (top 17) ["rows","part"])
  (D_weights_for:Def K mg "weights_for" (top 19) ["row","weights"])
  (D_unlike:Def K mg "unlike" (top 20) ["row","other","weights"])
  (a_21:PySem.W.nsIn K mainGlobals "distance" = some (some (.ref f_21))) (l_21:K.lookup f_21 = some ⟨oc_21,od_21,.func (PySem.W.fnOf "distance" "distance" (zg (top 21)) (zm (top 21)) (z4 (top 21)) (.ref dT_21) kV_21 dc_21 pm_21 an_21 cd_21 ct_21),sl_21⟩) (c_21:PySem.W.codeIn K cd_21 "distance" = true) (k_21:PySem.W.keepIn K (.ref f_21) = true) (t_21:K.lookup dT_21 = some ⟨to_21,td_21,.seq #[.none] tn_21,tl_21⟩)
  (a_22:PySem.W.nsIn K mainGlobals "nearest" = some (some (.ref f_22))) (l_22:K.lookup f_22 = some ⟨oc_22,od_22,.func (PySem.W.fnOf "nearest" "nearest" (zg (top 22)) (zm (top 22)) (z4 (top 22)) (.ref dT_22) kV_22 dc_22 pm_22 an_22 cd_22 ct_22),sl_22⟩) (c_22:PySem.W.codeIn K cd_22 "nearest" = true) (k_22:PySem.W.keepIn K (.ref f_22) = true) (t_22:K.lookup dT_22 = some ⟨to_22,td_22,.seq #[.none] tn_22,tl_22⟩)
  (D_without:Def K mg "without" (top 24) ["part","pair"])
  (D_needed_against:Def K mg "needed_against" (top 25) ["rows","part","others"])
  (D_by_judges:Def K mg "by_judges" (top 27) ["judges","number","truth"])
  (D_by_part:Def K mg "by_part" (top 28) ["rows","part","number","truth"])
  (D_in_order:Def K mg "in_order" (top 29) ["sayings","judges","order"])
  (D_strength:Def K mg "strength" (top 32) ["judges","number"])
  (a_33:PySem.W.nsIn K mainGlobals "order_of_strength" = some (some (.ref f_33))) (l_33:K.lookup f_33 = some ⟨oc_33,od_33,.func (PySem.W.fnOf "order_of_strength" "order_of_strength" (zg (top 33)) (zm (top 33)) (z4 (top 33)) .none kV_33 dc_33 pm_33 an_33 cd_33 ct_33),sl_33⟩) (c_33:PySem.W.codeIn K cd_33 "order_of_strength" = true) (k_33:PySem.W.keepIn K (.ref f_33) = true)
  (cq_L:cd_33 = .ref cL) (lc_L:K.lookup cL = some ⟨lo_L,ld_L,.fields vs_L,ls_L⟩) (pv_L:(vs_L[11]?:Option Value) = some (.ref pL)) (pn_L:K.lookup pL = none)
  (D_law_cell:Def K mg "_law_cell" (top 39) ["_law_script","_law_k"])
  (D_law_pick:Def K mg "_law_pick" (top 40) ["_law_script","_law_k","_law_many"])
  (D_law_next:Def K mg "_law_next" (top 41) ["_law_k","_law_j"])
  (D_law_names:Def K mg "_law_names" (top 42) ["_law_script","_law_k","_law_many"])
  (D_law_saying:Def K mg "_law_saying" (top 43) ["_law_script","_law_k","_law_room","_law_names_here"])
  (D_law_so:Def K mg "_law_so" (top 44) ["_law_saying_here","_law_held_here"])
  (D_law_held:Def K mg "_law_held" (top 45) ["_law_number","_law_names_here"])
  (D_law_within:Def K mg "_law_within" (top 46) ["_law_saying_here"])
  (D_law_all_names:Def K mg "_law_all_names" (top 47) ["_law_sayings"])
  (D_law_knit:Def K mg "_law_knit" (top 48) ["_law_names_here","_law_truths","_law_word"])
  (D_law_linked:Def K mg "_law_linked" (top 49) ["_law_script","_law_k","_law_names_here"])
  (D_law_list:Def K mg "_law_list" (top 50) ["_law_script","_law_k"])
  (D_law_row:Def K mg "_law_row" (top 51) ["_law_sayings","_law_held_here"])
  (D_law_fit_rows:Def K mg "_law_fit_rows" (top 52) ["_law_sayings"])
  (D_law_is_row:Def K mg "_law_is_row" (top 53) ["_law_found","_law_due"])
  (D_law_like:Def K mg "_law_like" (top 54) ["_law_script","_law_fit"])
  (D_law_keeps:Def K mg "_law_keeps" (top 55) ["_law_way","_law_sayings","_law_judges","_law_fit"])
  (a_law:PySem.W.nsIn K mainGlobals "law" = some (some (.ref f_law))) (l_law:K.lookup f_law = some ⟨oc_law,od_law,.func (PySem.W.fnOf "law" "law" (zg (top 56)) (zm (top 56)) (z4 (top 56)) .none kV_law dc_law pm_law an_law cd_law ct_law),sl_law⟩) (c_law:PySem.W.codeIn K cd_law "law" = true) (k_law:PySem.W.keepIn K (.ref f_law) = true)
  (ca_ByStrength:PySem.W.nsIn K mainGlobals "ByStrength" = some (some (.ref c_ByStrength))) (cm_ByStrength:PySem.W.makesIn K c_ByStrength = true) (ci_ByStrength:PySem.W.findIn K (.ref c_ByStrength) "__init__" = some (some (.builtin "object.__init__"))) (ck_ByStrength:PySem.W.keepIn K (.ref c_ByStrength) = true) (cg_ByStrength:PySem.W.plainGet K c_ByStrength Str.empty = true) (ch_ByStrength:PySem.W.hasDictIn K c_ByStrength = true) (co_ByStrength:PySem.W.plainOver K c_ByStrength = true) (cs_ByStrength:PySem.W.findIn K (.ref c_ByStrength) "__setattr__" = some (some (.builtin "object.__setattr__")))
  (a_ByStrength_row:PySem.W.findIn K (.ref c_ByStrength) "row" = some (some (.ref f_ByStrength_row))) (l_ByStrength_row:K.lookup f_ByStrength_row = some ⟨oc_ByStrength_row,od_ByStrength_row,.func (PySem.W.fnOf "row" "ByStrength.row" (zg (yj (top 36) 0)) (zm (yj (top 36) 0)) (z4 (yj (top 36) 0)) .none kV_ByStrength_row dc_ByStrength_row pm_ByStrength_row an_ByStrength_row cd_ByStrength_row ct_ByStrength_row),sl_ByStrength_row⟩) (c_ByStrength_row:PySem.W.codeIn K cd_ByStrength_row "ByStrength.row" = true) (k_ByStrength_row:PySem.W.keepIn K (.ref f_ByStrength_row) = true) (n_ByStrength_row:PySem.W.isFn K (.ref f_ByStrength_row) = true)
  (a_ByStrength_reasons:PySem.W.findIn K (.ref c_ByStrength) "reasons" = some (some (.ref f_ByStrength_reasons))) (l_ByStrength_reasons:K.lookup f_ByStrength_reasons = some ⟨oc_ByStrength_reasons,od_ByStrength_reasons,.func (PySem.W.fnOf "reasons" "ByStrength.reasons" (zg (yj (top 36) 1)) (zm (yj (top 36) 1)) (z4 (yj (top 36) 1)) .none kV_ByStrength_reasons dc_ByStrength_reasons pm_ByStrength_reasons an_ByStrength_reasons cd_ByStrength_reasons ct_ByStrength_reasons),sl_ByStrength_reasons⟩) (c_ByStrength_reasons:PySem.W.codeIn K cd_ByStrength_reasons "ByStrength.reasons" = true) (k_ByStrength_reasons:PySem.W.keepIn K (.ref f_ByStrength_reasons) = true) (n_ByStrength_reasons:PySem.W.isFn K (.ref f_ByStrength_reasons) = true)
  (ca_Most:PySem.W.nsIn K mainGlobals "Most" = some (some (.ref c_Most))) (cm_Most:PySem.W.makesIn K c_Most = true) (ci_Most:PySem.W.findIn K (.ref c_Most) "__init__" = some (some (.builtin "object.__init__"))) (ck_Most:PySem.W.keepIn K (.ref c_Most) = true) (cg_Most:PySem.W.plainGet K c_Most Str.empty = true) (ch_Most:PySem.W.hasDictIn K c_Most = true) (co_Most:PySem.W.plainOver K c_Most = true) (cs_Most:PySem.W.findIn K (.ref c_Most) "__setattr__" = some (some (.builtin "object.__setattr__")))
  (a_Most_row:PySem.W.findIn K (.ref c_Most) "row" = some (some (.ref f_Most_row))) (l_Most_row:K.lookup f_Most_row = some ⟨oc_Most_row,od_Most_row,.func (PySem.W.fnOf "row" "Most.row" (zg (yj (top 35) 0)) (zm (yj (top 35) 0)) (z4 (yj (top 35) 0)) .none kV_Most_row dc_Most_row pm_Most_row an_Most_row cd_Most_row ct_Most_row),sl_Most_row⟩) (c_Most_row:PySem.W.codeIn K cd_Most_row "Most.row" = true) (k_Most_row:PySem.W.keepIn K (.ref f_Most_row) = true) (n_Most_row:PySem.W.isFn K (.ref f_Most_row) = true)
  (ca_Nearest:PySem.W.nsIn K mainGlobals "Nearest" = some (some (.ref c_Nearest))) (cm_Nearest:PySem.W.makesIn K c_Nearest = true) (ck_Nearest:PySem.W.keepIn K (.ref c_Nearest) = true) (cg_Nearest:PySem.W.plainGet K c_Nearest Str.empty = true) (ch_Nearest:PySem.W.hasDictIn K c_Nearest = true) (co_Nearest:PySem.W.plainOver K c_Nearest = true) (cs_Nearest:PySem.W.findIn K (.ref c_Nearest) "__setattr__" = some (some (.builtin "object.__setattr__")))
  (a_Nearest_init:PySem.W.findIn K (.ref c_Nearest) "__init__" = some (some (.ref f_Nearest_init))) (l_Nearest_init:K.lookup f_Nearest_init = some ⟨oc_Nearest_init,od_Nearest_init,.func (PySem.W.fnOf "__init__" "Nearest.__init__" (zg (yj (top 37) 0)) (zm (yj (top 37) 0)) (z4 (yj (top 37) 0)) (.ref dT_Nearest_init) kV_Nearest_init dc_Nearest_init pm_Nearest_init an_Nearest_init cd_Nearest_init ct_Nearest_init),sl_Nearest_init⟩) (c_Nearest_init:PySem.W.codeIn K cd_Nearest_init "Nearest.__init__" = true) (n_Nearest_init:PySem.W.isFn K (.ref f_Nearest_init) = true) (na_Nearest_init:NoAttr K c_Nearest "weights") (t_Nearest_init:K.lookup dT_Nearest_init = some ⟨to_Nearest_init,td_Nearest_init,.seq #[.none] tn_Nearest_init,tl_Nearest_init⟩)
  (a_Nearest_row:PySem.W.findIn K (.ref c_Nearest) "row" = some (some (.ref f_Nearest_row))) (l_Nearest_row:K.lookup f_Nearest_row = some ⟨oc_Nearest_row,od_Nearest_row,.func (PySem.W.fnOf "row" "Nearest.row" (zg (yj (top 37) 1)) (zm (yj (top 37) 1)) (z4 (yj (top 37) 1)) .none kV_Nearest_row dc_Nearest_row pm_Nearest_row an_Nearest_row cd_Nearest_row ct_Nearest_row),sl_Nearest_row⟩) (c_Nearest_row:PySem.W.codeIn K cd_Nearest_row "Nearest.row" = true) (k_Nearest_row:PySem.W.keepIn K (.ref f_Nearest_row) = true) (n_Nearest_row:PySem.W.isFn K (.ref f_Nearest_row) = true)
  (z_len:PySem.W.nsIn K mainGlobals "len" = some none)
  (z_range:PySem.W.nsIn K mainGlobals "range" = some none)
  (z_max:PySem.W.nsIn K mainGlobals "max" = some none)
  (z_min:PySem.W.nsIn K mainGlobals "min" = some none)
  (z_isinstance:PySem.W.nsIn K mainGlobals "isinstance" = some none)
  (z_tuple:PySem.W.nsIn K mainGlobals "tuple" = some none)
  (z_list:PySem.W.nsIn K mainGlobals "list" = some none)
  (z_sorted:PySem.W.nsIn K mainGlobals "sorted" = some none)
  (z_set:PySem.W.nsIn K mainGlobals "set" = some none)
  (z_bool:PySem.W.nsIn K mainGlobals "bool" = some none)
  (z_sum:PySem.W.nsIn K mainGlobals "sum" = some none)
  (z_zip:PySem.W.nsIn K mainGlobals "zip" = some none)
  (z_enumerate:PySem.W.nsIn K mainGlobals "enumerate" = some none)
  (z_abs:PySem.W.nsIn K mainGlobals "abs" = some none) :
  ∃ (fd:FuncData) (c P:Addr),(∀ (s:Shared) (v:Value),BindsTo s fd ⟨[v],[]⟩ [("_law_script",v)])∧PySem.W.tabIn K "order_of_strength" = some (c,P)∧K.lookup P = none∧∀ base:Heap,K.In base→base.Ns mainGlobals mg→fc base mg c P→FnOk l.prog w K mg base CX0 48 fa fd ["_law_script"] (j7 K P):=by
 have e:=hfa.symm.trans (PySem.W.mg_of X G a_law)
 cases e
 have D_distance:DefD K mg "distance" (top 21) ["row","judges","weights"] [.none]:=Zx X G a_21 l_21 c_21 k_21 (uv t_21 rfl rfl fun us hl=>match us,hl with | [_,_,_],_=>⟨_,rfl,rfl⟩) (uv t_21 rfl rfl fun us hl=>match us,(show us.length = 2 by simpa using hl) with | [_,_],_=>⟨_,rfl,rfl⟩)
 have D_nearest:DefD K mg "nearest" (top 22) ["sayings","judges","weights"] [.none]:=Zx X G a_22 l_22 c_22 k_22 (uv t_22 rfl rfl fun us hl=>match us,hl with | [_,_,_],_=>⟨_,rfl,rfl⟩) (uv t_22 rfl rfl fun us hl=>match us,(show us.length = 2 by simpa using hl) with | [_,_],_=>⟨_,rfl,rfl⟩)
 have D_order_of_strength:DefL K mg "order_of_strength" (top 33) ["judges"] cL:=R9 X G a_33 l_33 c_33 k_33 cq_L fun _ _ _ _ _ _ us hl=>by obtain ⟨_,e⟩:=len1 hl;rw [e];rfl
 have T_order_of_strength:PySem.W.tabIn K "order_of_strength" = some (cL,pL):=Ra a_33 l_33 cq_L lc_L pv_L
 have mg_ByStrength:=PySem.W.mg_of X G ca_ByStrength
 have CL_ByStrength:Cls K c_ByStrength:=⟨cg_ByStrength,ch_ByStrength,co_ByStrength,cs_ByStrength⟩
 have MK_ByStrength:Mk0 K c_ByStrength:=⟨cm_ByStrength,ci_ByStrength,ck_ByStrength⟩
 have D_ByStrength_row:DefM K c_ByStrength "row" "ByStrength.row" (yj (top 36) 0) ["self","sayings","judges"]:=qd a_ByStrength_row l_ByStrength_row c_ByStrength_row k_ByStrength_row n_ByStrength_row CL_ByStrength fun _ _ _ _ _ _ us hl=>match us,hl with | [_,_,_],_=>rfl
 have D_ByStrength_reasons:DefM K c_ByStrength "reasons" "ByStrength.reasons" (yj (top 36) 1) ["self","sayings","judges"]:=qd a_ByStrength_reasons l_ByStrength_reasons c_ByStrength_reasons k_ByStrength_reasons n_ByStrength_reasons CL_ByStrength fun _ _ _ _ _ _ us hl=>match us,hl with | [_,_,_],_=>rfl
 have mg_Most:=PySem.W.mg_of X G ca_Most
 have CL_Most:Cls K c_Most:=⟨cg_Most,ch_Most,co_Most,cs_Most⟩
 have MK_Most:Mk0 K c_Most:=⟨cm_Most,ci_Most,ck_Most⟩
 have D_Most_row:DefM K c_Most "row" "Most.row" (yj (top 35) 0) ["self","sayings","judges"]:=qd a_Most_row l_Most_row c_Most_row k_Most_row n_Most_row CL_Most fun _ _ _ _ _ _ us hl=>match us,hl with | [_,_,_],_=>rfl
 have mg_Nearest:=PySem.W.mg_of X G ca_Nearest
 have CL_Nearest:Cls K c_Nearest:=⟨cg_Nearest,ch_Nearest,co_Nearest,cs_Nearest⟩
 have D_Nearest_init:DefN K c_Nearest "Nearest.__init__" (yj (top 37) 0) ["self","weights"] [.none]:=Sa a_Nearest_init l_Nearest_init c_Nearest_init n_Nearest_init cm_Nearest ck_Nearest (uv t_Nearest_init rfl rfl fun us hl=>match us,hl with | [_,_],_=>⟨_,rfl,rfl⟩) (uv t_Nearest_init rfl rfl fun us hl=>match us,(show us.length = 1 by simpa using hl) with | [_],_=>⟨_,rfl,rfl⟩)
 have D_Nearest_row:DefM K c_Nearest "row" "Nearest.row" (yj (top 37) 1) ["self","sayings","judges"]:=qd a_Nearest_row l_Nearest_row c_Nearest_row k_Nearest_row n_Nearest_row CL_Nearest fun _ _ _ _ _ _ us hl=>match us,hl with | [_,_,_],_=>rfl
 have mg_len:=PySem.W.mg_none_of X G z_len
 have mg_range:=PySem.W.mg_none_of X G z_range
 have mg_max:=PySem.W.mg_none_of X G z_max
 have mg_min:=PySem.W.mg_none_of X G z_min
 have mg_isinstance:=PySem.W.mg_none_of X G z_isinstance
 have mg_tuple:=PySem.W.mg_none_of X G z_tuple
 have mg_list:=PySem.W.mg_none_of X G z_list
 have mg_sorted:=PySem.W.mg_none_of X G z_sorted
 have mg_set:=PySem.W.mg_none_of X G z_set
 have mg_bool:=PySem.W.mg_none_of X G z_bool
 have mg_sum:=PySem.W.mg_none_of X G z_sum
 have mg_zip:=PySem.W.mg_none_of X G z_zip
 have mg_enumerate:=PySem.W.mg_none_of X G z_enumerate
 have mg_abs:=PySem.W.mg_none_of X G z_abs
 have F_law:=bu (st:=top 56) l_law c_law k_law
 refine ⟨PySem.W.fnOf "law" "law" (zg (top 56)) (zm (top 56)) (z4 (top 56)) .none kV_law dc_law pm_law an_law cd_law ct_law,cL,pL,fun s v=>.of_eq rfl,T_order_of_strength,pn_L,fun base _ _ LT=>?_⟩
 have C_cell:=Sx (P:=l.prog) (w:=w) (base:=base) D_law_cell mg_len
 have C_pick:=S6 D_law_pick C_cell
 have C_next:=S4 (P:=l.prog) (w:=w) (base:=base) D_law_next
 have C_names:=V8 D_law_names C_pick mg_len mg_range
 have C_so:=gy (P:=l.prog) (w:=w) (base:=base) D_is_so 40
 have C_namesin:=df (P:=l.prog) (w:=w) (base:=base) D_names_in (oj D_letters_in 40) mg_sorted mg_set mg_tuple
 have C_namesof:=dg D_names_of C_namesin mg_sorted mg_set mg_tuple
 have C_heldby:=Yu (P:=l.prog) (w:=w) (base:=base) D_held_by mg_tuple
 have C_allheld:=c6 D_all_held C_namesof C_heldby (S7 D_ways_to_hold) mg_range
 have C_rowof:=Wa D_row_of C_so mg_tuple
 have C_fit:=dc D_fit_rows C_allheld C_rowof mg_sorted mg_set
 have C_distance:=gw (P:=l.prog) (w:=w) (base:=base) D_distance (di D_weights_for mg_tuple) (Y0 D_unlike mg_enumerate) mg_sum
 have C_nearest:=dh D_nearest C_fit C_distance mg_zip mg_min
 have C_who:=P0 (P:=l.prog) (w:=w) (base:=base) D_who_say mg_enumerate
 have C_most:=S2 D_most (de D_most_say_yes C_who mg_len) mg_len mg_range mg_tuple
 have C_anyag:=mf D_any_agrees (Yt (P:=l.prog) (w:=w) (base:=base) D_agrees)
 have C_needed:=Yy D_needed_against (dj (P:=l.prog) (w:=w) (base:=base) D_without mg_tuple) C_anyag
 have C_inorder:=gx D_in_order C_fit C_most C_anyag (jq D_by_judges C_who mg_tuple) (c8 D_by_part C_needed) mg_tuple mg_sorted mg_range mg_len
 have C_oos:=Pz D_order_of_strength LT (g4 D_strength C_who mg_len mg_abs) mg_len mg_range mg_sorted mg_tuple
 have C_bs:=V3 D_ByStrength_row C_inorder C_oos
 have C_bsr:=V4 D_ByStrength_reasons C_inorder C_oos
 have C_mo:=S3 D_Most_row C_most
 have C_nr:=V9 (Pt:=pL) D_Nearest_row CL_Nearest na_Nearest_init C_nearest
 have C_held:=Sy (P:=l.prog) (w:=w) (base:=base) D_law_held mg_tuple
 have C_alln:=gu (P:=l.prog) (w:=w) (base:=base) D_law_all_names (k7 D_law_within 40) mg_sorted mg_set
 have C_row:=Yw (P:=l.prog) (w:=w) (base:=base) D_law_row (gz D_law_so mg_min mg_max 40) mg_tuple
 have C_lfit:=Yv D_law_fit_rows C_alln C_row C_held mg_sorted mg_set mg_range
 have C_saying:=k6 (P:=l.prog) (w:=w) (base:=base) D_law_saying C_pick C_next mg_len 9
 have C_linked:=Yx D_law_linked C_pick (Sz D_law_knit mg_len mg_range) mg_len mg_range mg_min
 have C_list:=S1 D_law_list C_pick C_names C_linked C_saying mg_range mg_tuple
 have C_like:=S0 D_law_like C_cell C_pick mg_len mg_range mg_tuple
 have C_keeps:=V7 D_law_keeps C_bs C_bsr mg_len mg_range mg_tuple
 have C_isrow:=V6 (P:=l.prog) (w:=w) (base:=base) D_law_is_row mg_len mg_tuple mg_bool mg_isinstance
 have C_i2:=Yz (P:=l.prog) (w:=w) (mg:=mg) (base:=base) D_Nearest_init CL_Nearest na_Nearest_init
 exact Py F_law C_list C_lfit C_like C_keeps C_pick C_isrow C_bs C_mo C_nr MK_ByStrength mg_ByStrength MK_Most mg_Most C_i2 mg_Nearest mg_len mg_range mg_tuple
theorem walk {l:PySem.W.OpenLaw}{q:Program}{loose:List Str}{XP:(Str→Option Value)→Heap→Prop}{YP:World→Heap→Prop}{d:DefRec}{K:Params→PySem.W.Frag} (hn:l.most = some 63) (hdf:d.params.defaults = [])
  (hY:∀ (w:World) (h:Heap),YP w h→(K w.params).In h) (hrec:((recsOf q).find? (fun e=>e.name == ("order_of_strength":Str))).isSome = true)
  (F:∀ (w:World) (mg:Str→Option Value) (fa:Addr) (h:Heap),(K w.params).In h→h.Ns mainGlobals mg→mg d.name = some (.ref fa) →
   ∃ (fd:FuncData) (c P:Addr),(∀ (s:Shared) (u:Value),BindsTo s fd ⟨[u],[]⟩ [("_law_script",u)])∧PySem.W.tabIn (K w.params) "order_of_strength" = some (c,P)∧(K w.params).lookup P = none∧∀ base:Heap,(K w.params).In base→base.Ns mainGlobals mg→fc base mg c P→FnOk l.prog w (K w.params) mg base CX0 48 fa fd ["_law_script"] (j7 (K w.params) P)) :
  PySem.W.WalkO q loose XP YP l.row.toRowW d [] (fun f vs=>PySem.call f vs):=by
 obtain ⟨d',hd'⟩:=Option.isSome_iff_exists.mp hrec
 exact Xq (n:=63) (k:=48) (x:="_law_script") (sp:=fun w P=>j7 (K w.params) P) hn (by decide) hdf ⟨rfl,by decide,by decide⟩ hY hd' F fun _ P H a ns hl hP hS=>⟨a,ns,rfl,hS,hl,.inl hP,fun _=>rfl⟩
end Kx
open PySem PySem.W PyProof.Rows
local macro_rules | `(tactic| walk_at "zfd1")=>`(tactic| (refine' My.def_mk (by assumption) (by assumption) ?a ?l ?c ?k (fun _ _ _ _ _ _ us hl=>by obtain ⟨_,e⟩:=My.len1 hl;rw [e];rfl);(case a=>k_is);(case l=>k_is);(case c=>k_is);(case k=>k_is)))
local macro_rules | `(tactic| walk_at "zfd2")=>`(tactic| (refine' My.def_mk (by assumption) (by assumption) ?a ?l ?c ?k (fun _ _ _ _ _ _ us hl=>by obtain ⟨_,_,e⟩:=My.len2 hl;rw [e];rfl);(case a=>k_is);(case l=>k_is);(case c=>k_is);(case k=>k_is)))
local macro_rules | `(tactic| walk_at "zfd3")=>`(tactic| (refine' My.def_mk (by assumption) (by assumption) ?a ?l ?c ?k (fun _ _ _ _ _ _ us hl=>by obtain ⟨_,_,_,e⟩:=My.len3 hl;rw [e];rfl);(case a=>k_is);(case l=>k_is);(case c=>k_is);(case k=>k_is)))
local macro_rules | `(tactic| walk_at "zfd4")=>`(tactic| (refine' My.def_mk (by assumption) (by assumption) ?a ?l ?c ?k (fun _ _ _ _ _ _ us hl=>by obtain ⟨_,_,_,_,e⟩:=My.len4 hl;rw [e];rfl);(case a=>k_is);(case l=>k_is);(case c=>k_is);(case k=>k_is)))
set_option maxRecDepth 100000 in
set_option maxHeartbeats 0 in
theorem PySem.Challenge.cw_manyjudges_k51_by_strength_keeps_holds : PySem.Challenge.rw_manyjudges_k51_by_strength_keeps.Holds := by
 w_on;o_law;k_head;(case hw=>w_witness2)
 k_fill
 refine Kx.walk (l:=PySem.Challenge.rw_manyjudges_k51_by_strength_keeps) rfl rfl (fun w h Y=>PySem.W.km_in_of Y) ?R ?F
 case R=>kernel_rfl
 case F =>
  intro w mg fa h KX G hmg
  refine' Kx.all_mk KX G hmg ?D_who_say ?D_most_say_yes ?D_most ?D_letters_in ?D_names_in ?D_is_so ?D_ways_to_hold ?D_held_by ?D_names_of ?D_all_held ?D_row_of ?D_fit_rows ?D_agrees ?D_any_agrees ?D_weights_for ?D_unlike ?a_21 ?l_21 ?t_21 ?c_21 ?k_21 ?a_22 ?l_22 ?t_22 ?c_22 ?k_22 ?D_without ?D_needed_against ?D_by_judges ?D_by_part ?D_in_order ?D_strength ?a_33 ?l_33 ?c_33 ?k_33 ?cq_L ?lc_L ?pv_L ?pn_L ?D_law_cell ?D_law_pick ?D_law_next ?D_law_names ?D_law_saying ?D_law_so ?D_law_held ?D_law_within ?D_law_all_names ?D_law_knit ?D_law_linked ?D_law_list ?D_law_row ?D_law_fit_rows ?D_law_is_row ?D_law_like ?D_law_keeps ?a_law ?l_law ?c_law ?k_law ?ca_ByStrength ?cm_ByStrength ?ci_ByStrength ?ck_ByStrength ?cg_ByStrength ?ch_ByStrength ?co_ByStrength ?cs_ByStrength ?a_ByStrength_row ?l_ByStrength_row ?c_ByStrength_row ?k_ByStrength_row ?n_ByStrength_row ?a_ByStrength_reasons ?l_ByStrength_reasons ?c_ByStrength_reasons ?k_ByStrength_reasons ?n_ByStrength_reasons ?ca_Most ?cm_Most ?ci_Most ?ck_Most ?cg_Most ?ch_Most ?co_Most ?cs_Most ?a_Most_row ?l_Most_row ?c_Most_row ?k_Most_row ?n_Most_row ?ca_Nearest ?cm_Nearest ?ck_Nearest ?cg_Nearest ?ch_Nearest ?co_Nearest ?cs_Nearest ?a_Nearest_init ?l_Nearest_init ?c_Nearest_init ?n_Nearest_init ?na_Nearest_init ?t_Nearest_init ?a_Nearest_row ?l_Nearest_row ?c_Nearest_row ?k_Nearest_row ?n_Nearest_row ?z_len ?z_range ?z_max ?z_min ?z_isinstance ?z_tuple ?z_list ?z_sorted ?z_set ?z_bool ?z_sum ?z_zip ?z_enumerate ?z_abs
  (case D_who_say=>walk_at "zfd3")
  (case D_most_say_yes=>walk_at "zfd2")
  (case D_most=>walk_at "zfd1")
  (case D_letters_in=>walk_at "zfd1")
  (case D_names_in=>walk_at "zfd1")
  (case D_is_so=>walk_at "zfd2")
  (case D_ways_to_hold=>walk_at "zfd1")
  (case D_held_by=>walk_at "zfd2")
  (case D_names_of=>walk_at "zfd1")
  (case D_all_held=>walk_at "zfd1")
  (case D_row_of=>walk_at "zfd2")
  (case D_fit_rows=>walk_at "zfd1")
  (case D_agrees=>walk_at "zfd2")
  (case D_any_agrees=>walk_at "zfd2")
  (case D_weights_for=>walk_at "zfd2")
  (case D_unlike=>walk_at "zfd3")
  (case a_21=>k_is);(case l_21=>k_is);(case t_21=>k_is);(case c_21=>k_is);(case k_21=>k_is)
  (case a_22=>k_is);(case l_22=>k_is);(case t_22=>k_is);(case c_22=>k_is);(case k_22=>k_is)
  (case D_without=>walk_at "zfd2")
  (case D_needed_against=>walk_at "zfd3")
  (case D_by_judges=>walk_at "zfd3")
  (case D_by_part=>walk_at "zfd4")
  (case D_in_order=>walk_at "zfd3")
  (case D_strength=>walk_at "zfd2")
  (case a_33=>k_is);(case l_33=>k_is);(case c_33=>k_is);(case k_33=>k_is)
  (case cq_L=>rfl);(case lc_L=>k_is);(case pv_L=>rfl);(case pn_L=>kernel_rfl)
  (case D_law_cell=>walk_at "zfd2")
  (case D_law_pick=>walk_at "zfd3")
  (case D_law_next=>walk_at "zfd2")
  (case D_law_names=>walk_at "zfd3")
  (case D_law_saying=>walk_at "zfd4")
  (case D_law_so=>walk_at "zfd2")
  (case D_law_held=>walk_at "zfd2")
  (case D_law_within=>walk_at "zfd1")
  (case D_law_all_names=>walk_at "zfd1")
  (case D_law_knit=>walk_at "zfd3")
  (case D_law_linked=>walk_at "zfd3")
  (case D_law_list=>walk_at "zfd2")
  (case D_law_row=>walk_at "zfd2")
  (case D_law_fit_rows=>walk_at "zfd1")
  (case D_law_is_row=>walk_at "zfd2")
  (case D_law_like=>walk_at "zfd2")
  (case D_law_keeps=>walk_at "zfd4")
  (case a_law=>k_is);(case l_law=>k_is);(case c_law=>k_is);(case k_law=>k_is)
  (case ca_ByStrength=>k_is);(case cm_ByStrength=>k_is);(case ci_ByStrength=>k_is);(case ck_ByStrength=>k_is);(case cg_ByStrength=>k_is);(case ch_ByStrength=>k_is);(case co_ByStrength=>k_is);(case cs_ByStrength=>k_is)
  (case a_ByStrength_row=>k_is);(case l_ByStrength_row=>k_is);(case c_ByStrength_row=>k_is);(case k_ByStrength_row=>k_is);(case n_ByStrength_row=>k_is)
  (case a_ByStrength_reasons=>k_is);(case l_ByStrength_reasons=>k_is);(case c_ByStrength_reasons=>k_is);(case k_ByStrength_reasons=>k_is);(case n_ByStrength_reasons=>k_is)
  (case ca_Most=>k_is);(case cm_Most=>k_is);(case ci_Most=>k_is);(case ck_Most=>k_is);(case cg_Most=>k_is);(case ch_Most=>k_is);(case co_Most=>k_is);(case cs_Most=>k_is)
  (case a_Most_row=>k_is);(case l_Most_row=>k_is);(case c_Most_row=>k_is);(case k_Most_row=>k_is);(case n_Most_row=>k_is)
  (case ca_Nearest=>k_is);(case cm_Nearest=>k_is);(case ck_Nearest=>k_is);(case cg_Nearest=>k_is);(case ch_Nearest=>k_is);(case co_Nearest=>k_is);(case cs_Nearest=>k_is)
  (case a_Nearest_init=>k_is);(case l_Nearest_init=>k_is);(case c_Nearest_init=>k_is);(case n_Nearest_init=>k_is);(case na_Nearest_init=>(show PySem.W.findIn _ _ _ = _;k_is));(case t_Nearest_init=>k_is)
  (case a_Nearest_row=>k_is);(case l_Nearest_row=>k_is);(case c_Nearest_row=>k_is);(case k_Nearest_row=>k_is);(case n_Nearest_row=>k_is)
  (case z_len=>k_is)
  (case z_range=>k_is)
  (case z_max=>k_is)
  (case z_min=>k_is)
  (case z_isinstance=>k_is)
  (case z_tuple=>k_is)
  (case z_list=>k_is)
  (case z_sorted=>k_is)
  (case z_set=>k_is)
  (case z_bool=>k_is)
  (case z_sum=>k_is)
  (case z_zip=>k_is)
  (case z_enumerate=>k_is)
  (case z_abs=>k_is)
#print axioms PySem.Challenge.cw_manyjudges_k51_by_strength_keeps_holds
