import PyProof.Rows.All
import Wide.All
import OpenK.AllK
import Wide.FinOn
import Lean
import PyProof.EqAt
import PyProof.EqKinds
import PyProof.TupleCall
import PySem.Challenge.RW_manyjudges_k24_barred
set_option Elab.async false
set_option linter.all false
set_option maxRecDepth 100000
theorem PySem.W.Fast.tw9981618992634740131 : True := trivial
theorem PySem.W.Fast.tw5919461990935810810 : True := trivial
theorem PySem.W.Fast.tw149418327484984206 : True := trivial
theorem PySem.W.Fast.tw1136957258321666271 : True := trivial
theorem PySem.W.Fast.tw17953617249341401256 : True := trivial
theorem PySem.W.Fast.tw9953600900304282071 : True := trivial
theorem PySem.W.Fast.tw16954224637663710434 : True := trivial
theorem PySem.W.Fast.tw642999421810387887 : True := trivial
theorem PySem.W.Fast.tw16363149474161813168 : True := trivial
theorem PySem.W.Fast.tw13771669252508575438 : True := trivial
theorem PySem.W.Fast.tw10848191188541704167 : True := trivial
theorem PySem.W.Fast.tw2834572906432539372 : True := trivial
theorem PySem.W.Fast.tw18262837727204864905 : True := trivial
theorem PySem.W.Fast.tw16984699352035682941 : True := trivial
theorem PySem.W.Fast.tw11254286427110484786 : True := trivial
theorem PySem.W.Fast.tw8683624878434926500 : True := trivial
namespace L2
open PySem PySem.Spec PyProof.Rows
abbrev Key := Sum Int Str
def keyIs : Key → Value → Bool
 | .inl k, v => Value.isInt k v
 | .inr x, v => Value.isStrOf x v
def keyH (w : World) : Key → Int
 | .inl k => hashInt k
 | .inr x => hashStr w x
theorem keyIs_shape : ∀ {k : Key} {v : Value}, keyIs k v = true → (∃ i t, k = Sum.inl i ∧ v = Value.int i t) ∨ (∃ x t, k = Sum.inr x ∧ v = Value.str x t)
 | .inl i, v, h => by
  obtain ⟨t, e⟩ := Value.isInt_shape (k := i) (v := v) h
  exact .inl ⟨i, t, rfl, e⟩
 | .inr x, v, h => by
  obtain ⟨t, e⟩ := Value.isStrOf_shape (x := x) (v := v) h
  exact .inr ⟨x, t, rfl, e⟩
theorem key_ll (a b : Int) : decide ((Sum.inl a : Key) = Sum.inl b) = (a == b) := by
 by_cases e : a = b
 ·subst e; simp
 ·have h : ¬ (Sum.inl a : Key) = Sum.inl b := fun q => e (Sum.inl.inj q)
  rw [decide_eq_false h]
  exact (beq_eq_false_iff_ne.mpr e).symm
theorem key_rr (a b : Str) : decide ((Sum.inr a : Key) = Sum.inr b) = decide (a = b) := by
 by_cases e : a = b
 ·subst e; simp
 ·have h : ¬ (Sum.inr a : Key) = Sum.inr b := fun q => e (Sum.inr.inj q)
  rw [decide_eq_false h, decide_eq_false e]
theorem key_lr (a : Int) (b : Str) : decide ((Sum.inl a : Key) = Sum.inr b) = false := decide_eq_false (fun q => nomatch q)
theorem key_rl (a : Str) (b : Int) : decide ((Sum.inr a : Key) = Sum.inl b) = false := decide_eq_false (fun q => nomatch q)
def mixKind (prog : Program) (w : World) : PySem.KeyKind prog w Key where
 is := keyIs
 hash := keyH w
 inj := fun v a b ha hb => by
  rcases keyIs_shape ha with ⟨i, t, rfl, rfl⟩ | ⟨x, t, rfl, rfl⟩
  ·rcases keyIs_shape hb with ⟨j, u, rfl, e⟩ | ⟨y, u, rfl, e⟩
   ·injection e with e1 _; rw [e1]
   ·exact nomatch e
  ·rcases keyIs_shape hb with ⟨j, u, rfl, e⟩ | ⟨y, u, rfl, e⟩
   ·exact nomatch e
   ·injection e with e1 _; rw [e1]
 byValue := fun k v h => by
  rcases keyIs_shape h with ⟨i, t, rfl, rfl⟩ | ⟨x, t, rfl, rfl⟩ <;> rfl
 pyHash := fun hv h => by
  rcases keyIs_shape hv with ⟨i, t, rfl, rfl⟩ | ⟨x, t, rfl, rfl⟩
  ·exact wpAny_pyHash_int h
  ·exact wpAny_pyHash_str h
 eqBool := fun hu hv h => by
  rcases keyIs_shape hu with ⟨i, t, rfl, rfl⟩ | ⟨x, t, rfl, rfl⟩
  ·rcases keyIs_shape hv with ⟨j, u, rfl, rfl⟩ | ⟨y, u, rfl, rfl⟩
   ·rw [key_ll] at h; exact wpAny_eqBool_int h
   ·rw [key_lr] at h; exact SeqAt.EqAt.int_str i t y u _ _ _ _ h
  ·rcases keyIs_shape hv with ⟨j, u, rfl, rfl⟩ | ⟨y, u, rfl, rfl⟩
   ·rw [key_rl] at h; exact SeqAt.EqAt.str_int x t j u _ _ _ _ h
   ·rw [key_rr] at h; exact wpAny_eqBool_str h
 «strs» := fun k x t v h => by
  rcases keyIs_shape h with ⟨i, u, rfl, e⟩ | ⟨y, u, rfl, e⟩
  ·exact nomatch e
  ·injection e with e1 _
   subst e1
   cases v <;> rfl
end L2
namespace L2
open PySem PySem.Spec PyProof.Rows
inductive V where
 | non | bl (b : Bool) | int (i : Int) | str (x : Str) | byt (b : Array UInt8) | flt (b : UInt64) | ref (a : Addr) | ty (n : String)
 deriving DecidableEq
def RelV : V → Value → Prop
 | .non, u => u = Value.none
 | .bl b, u => u = Value.bool b
 | .int i, u => ∃ t, u = Value.int i t
 | .str x, u => ∃ t, u = Value.str x t
 | .byt b, u => ∃ t, u = Value.bytes b t
 | .flt b, u => ∃ t, u = Value.float b t
 | .ref a, u => u = Value.ref a
 | .ty n, u => u = Value.type n
abbrev Vals : List V → List Value → Prop := Paired RelV
theorem Vals.length {xs : List V} {us : List Value} (r : Vals xs us) : xs.length = us.length := Paired.length r
theorem Vals.get : ∀ {xs : List V} {us : List Value} {i : Nat} {x : V}, Vals xs us → xs[i]? = some x → ∃ u, us[i]? = some u ∧ RelV x u
 | _, _, _, _, .nil, e => by simp at e
 | _, _, 0, _, .cons r _, e => by simp at e; subst e; exact ⟨_, rfl, r⟩
 | _, _, i + 1, x, .cons _ t, e => by
  obtain ⟨u, h1, h2⟩ := Vals.get (i := i) (x := x) t (by simpa using e)
  exact ⟨u, by simpa using h1, h2⟩
theorem Vals.append : ∀ {xs ys : List V} {us ws : List Value}, Vals xs us → Vals ys ws → Vals (xs ++ ys) (us ++ ws)
 | _, _, _, _, .nil, s => s
 | _, _, _, _, .cons r t, s => .cons r (Vals.append t s)
theorem Vals.take : ∀ {xs : List V} {us : List Value} (n : Nat), Vals xs us → Vals (xs.take n) (us.take n)
 | _, _, 0, _ => .nil
 | _, _, _ + 1, .nil => .nil
 | _, _, n + 1, .cons r t => .cons r (Vals.take n t)
theorem Vals.drop : ∀ {xs : List V} {us : List Value} (n : Nat), Vals xs us → Vals (xs.drop n) (us.drop n)
 | _, _, 0, r => r
 | _, _, _ + 1, .nil => .nil
 | _, _, n + 1, .cons _ t => Vals.drop n t
def RelO : Option V → Option Value → Prop
 | some v, some u => RelV v u
 | none, none => True
 | _, _ => False
def KV {κ : Type} : List (κ × V) → List (κ × Value) → Prop := Paired fun (p : κ × V) (q : κ × Value) => p.1 = q.1 ∧ RelV p.2 q.2
def kV : Key → V
 | .inl i => .int i
 | .inr x => .str x
inductive HO where
 | lst (xs : List V)
 | tup (xs : List V)
 | dK (kvs : List (Key × V)) | dT (kvs : List (List Key × V))
 | set (S : Int → Bool) (n : Nat)
 | ins (C dx : Addr) (fs : List (Str × V))
 | own (x : Addr)
 | xd (fs : List (Str × V))
 | met (f x : Addr)
 | rng (lo hi : Int)
 | frz (o : Obj) (u : HO)
 | tbl (ps : Array Value)
 | ext (φ : Heap → Prop)
abbrev Hp := Addr → Option HO
def upd (H : Hp) (a : Addr) (o : HO) : Hp := fun b => if b = a then some o else H b
theorem upd_same {H : Hp} {a : Addr} {o : HO} : upd H a o a = some o := by unfold upd; rw [if_pos rfl]
theorem upd_ne {H : Hp} {a b : Addr} {o : HO} (h : b ≠ a) : upd H a o b = H b := by unfold upd; rw [if_neg h]
theorem ne_of_none {H : Hp} {a b : Addr} {o : HO} (h : H a = some o) (h' : H b = none) : a ≠ b := by
 intro e; subst e; rw [h] at h'; cases h'
section
variable (P : Program) (w : World)
def ObjOk (H : Hp) (h : Heap) (a : Addr) : HO → Prop
 | .lst xs => xs.length ≤ sizeLine ∧ ∃ (its : List Value) (n : Nat), Vals xs its ∧ h.get? a = some { cls := .type "list", data := .seq its.toArray n }
 | .tup xs => xs.length ≤ sizeLine ∧ ∃ its : List Value, Vals xs its ∧ IsTup h a its.toArray
 | .dK kvs => kvs.length ≤ sizeLine ∧ (a == sysModules) = false ∧ ∃ vs, KV kvs vs ∧ h.DictOf (mixKind P w) a vs
 | .dT kvs => kvs.length ≤ sizeLine ∧ (a == sysModules) = false ∧ ∃ xs : List (List Key × Addr × Value),
   Paired (fun (p : List Key × V) (q : List Key × Addr × Value) => p.1 = q.1 ∧ H q.2.1 = some (.tup (p.1.map kV)) ∧ RelV p.2 q.2.2) kvs xs ∧
   ∃ o es ep, h.get? a = some o ∧ o.ExactDict ∧ o.data = .dict es ep ∧ es.toList = xs.map (entryOfKey (tupleKind (mixKind P w))) ∧ (xs.map (·.1)).Nodup
 | .set S n => h.SetOf (intKind P w) a S n
 | .ins C dx fs => H dx = some (.own a) ∧ fs.length ≤ 1000 ∧ dx ≠ a ∧ h.get? a = some (PySem.W.instObj C dx) ∧
   ∃ mA, h.Ns1 dx mA ∧ (∀ f, RelO (fs.lookup f) (mA f)) ∧ PySem.Within mA (fs.map (·.1))
 | .own _ => ∃ o, h.get? a = some o
 | .xd fs => ∃ mA, h.Ns1 a mA ∧ ∀ f, RelO (fs.lookup f) (mA f)
 | .rng lo hi => ∃ t u v, h.get? a = some { cls := .type "range", data := .fields #[.int lo t, .int hi u, .int 1 v] }
 | .frz o u => h.get? a = some o ∧ ObjOk H h a u
 | .tbl ps => h.get? a = some { cls := .none, data := .fields ps }
 | .met f x => h.get? a = some (PySem.W.methodObj (.ref f) (.ref x))
 | .ext φ => φ h ∧ (∃ o, h.get? a = some o) ∧ ∀ h1 h2 : Heap, φ h1 → (∀ o, h1.get? a = some o → h2.get? a = some o) → φ h2
def HOk (H : Hp) (h : Heap) : Prop := ∀ a o, H a = some o → ObjOk P w H h a o
end
section
variable {P : Program} {w : World} {H H' : Hp} {h h' : Heap} {a : Addr} {o : HO}
theorem ObjOk.lt (x : ObjOk P w H h a o) : a < h.objs.size := by
 cases o with
 | lst xs => obtain ⟨_, _, _, _, e⟩ := x; exact Heap.lt_size e
 | tup xs => obtain ⟨_, _, _, p⟩ := x; exact p.lt
 | dK kvs => obtain ⟨_, _, _, _, o, _, _, e, _⟩ := x; exact Heap.lt_size e
 | dT kvs => obtain ⟨_, _, _, _, o, _, _, e, _⟩ := x; exact Heap.lt_size e
 | set S n => obtain ⟨o, _, _, _, e, _⟩ := x; exact Heap.lt_size e
 | ins C dx fs => obtain ⟨_, _, _, e, _⟩ := x; exact Heap.lt_size e
 | own y => obtain ⟨_, e⟩ := x; exact Heap.lt_size e
 | xd fs => obtain ⟨_, ⟨_, _, _, e, _⟩, _⟩ := x; exact Heap.lt_size e
 | rng lo hi => obtain ⟨_, _, _, e⟩ := x; exact Heap.lt_size e
 | frz ob u => obtain ⟨e, _⟩ := x; exact Heap.lt_size e
 | tbl ps => exact Heap.lt_size (show h.get? a = some _ from x)
 | met f y => exact Heap.lt_size (show h.get? a = some _ from x)
 | ext φ => obtain ⟨_, ⟨_, e⟩, _⟩ := x; exact Heap.lt_size e
theorem Paired.mapP {α β : Type} {F G : α → β → Prop} : ∀ {l₁ : List α} {l₂ : List β}, Paired F l₁ l₂ → (∀ a b, F a b → G a b) → Paired G l₁ l₂
 | _, _, .nil, _ => .nil
 | _, _, .cons r t, f => .cons (f _ _ r) (Paired.mapP t f)
theorem ObjOk.stay (x : ObjOk P w H h a o) (k : ∀ b u, (b = a ∨ H b = some (.own a)) → h.get? b = some u → h'.get? b = some u)
  (ho : ∀ b, H b = some (.own a) → H' b = some (.own a)) (ht : ∀ b xs, H b = some (.tup xs) → H' b = some (.tup xs)) : ObjOk P w H' h' a o := by
 induction o with
 | lst xs => obtain ⟨z, its, n, r, e⟩ := x; exact ⟨z, its, n, r, k _ _ (.inl rfl) e⟩
 | tup xs => obtain ⟨z, its, r, ob, e, c⟩ := x; exact ⟨z, its, r, ob, k _ _ (.inl rfl) e, c⟩
 | dK kvs => obtain ⟨z, y, vs, r, ob, es, ep, e, c⟩ := x; exact ⟨z, y, vs, r, ob, es, ep, k _ _ (.inl rfl) e, c⟩
 | dT kvs =>
  obtain ⟨z, y, xs, r, ob, es, ep, e, c⟩ := x
  exact ⟨z, y, xs, Paired.mapP r fun p q z => ⟨z.1, ht _ _ z.2.1, z.2.2⟩, ob, es, ep, k _ _ (.inl rfl) e, c⟩
 | set S n => obtain ⟨ob, es, ep, t, e, c⟩ := x; exact ⟨ob, es, ep, t, k _ _ (.inl rfl) e, c⟩
 | ins C dx fs =>
  obtain ⟨d, z, ne, e, mA, ⟨od, es, ep, e2, c⟩, r⟩ := x
  exact ⟨ho _ d, z, ne, k _ _ (.inl rfl) e, mA, ⟨od, es, ep, k _ _ (.inr d) e2, c⟩, r⟩
 | own y => obtain ⟨ob, e⟩ := x; exact ⟨ob, k _ _ (.inl rfl) e⟩
 | xd fs => obtain ⟨mA, ⟨od, es, ep, e, c⟩, r⟩ := x; exact ⟨mA, ⟨od, es, ep, k _ _ (.inl rfl) e, c⟩, r⟩
 | rng lo hi => obtain ⟨t, u, v, e⟩ := x; exact ⟨t, u, v, k _ _ (.inl rfl) e⟩
 | frz ob u ih => obtain ⟨e, q⟩ := x; exact ⟨k _ _ (.inl rfl) e, ih q⟩
 | tbl ps =>
  have e : h.get? a = some { cls := .none, data := .fields ps } := x
  show h'.get? a = some { cls := .none, data := .fields ps }
  exact k a _ (.inl rfl) e
 | met f y =>
  have e : h.get? a = some (PySem.W.methodObj (.ref f) (.ref y)) := x
  show h'.get? a = some (PySem.W.methodObj (.ref f) (.ref y))
  exact k a _ (.inl rfl) e
 | ext φ => obtain ⟨p, ⟨o, e⟩, st⟩ := x; exact ⟨st _ _ p fun o q => k _ _ (.inl rfl) q, ⟨o, k _ _ (.inl rfl) e⟩, st⟩
theorem HOk.lt (x : HOk P w H h) (e : H a = some o) : a < h.objs.size := (x a o e).lt
theorem HOk.fresh (x : HOk P w H h) (e : h.objs.size ≤ a) : H a = none := by
 cases q : H a with
 | none => rfl
 | some u => exact absurd (Nat.lt_of_lt_of_le (x.lt q) e) (Nat.lt_irrefl _)
theorem HOk.kept (x : HOk P w H h) (k : ∀ b u, h.get? b = some u → h'.get? b = some u) : HOk P w H h' := fun a o e =>
 (x a o e).stay (fun b u _ q => k b u q) (fun _ q => q) fun _ _ q => q
theorem HOk.laid (x : HOk P w H h) (k : ∀ b u, h.get? b = some u → h'.get? b = some u) (hp : h.objs.size ≤ a) (new : ObjOk P w (upd H a o) h' a o) : HOk P w (upd H a o) h' := fun b u e => by
 have hn := x.fresh hp
 by_cases hb : b = a
 ·subst hb; rw [upd_same] at e; cases e; exact new
 ·rw [upd_ne hb] at e
  exact (x b u e).stay (fun c v _ q => k c v q) (fun c q => by rw [upd_ne (ne_of_none q hn)]; exact q) fun c xs q => by rw [upd_ne (ne_of_none q hn)]; exact q
end
def Rd (H : Hp) (a : Addr) (u : HO) : Prop := H a = some u ∨ ∃ o, H a = some (.frz o u)
theorem Rd.ok {P : Program} {w : World} {H : Hp} {h : Heap} {a : Addr} {u : HO} (r : Rd H a u) (x : HOk P w H h) : ObjOk P w H h a u := by
 rcases r with r | ⟨o, r⟩
 ·exact x a u r
 ·obtain ⟨_, q⟩ := x a _ r
  exact q
def Mut : Option HO → Prop
 | some (.lst _) => True
 | some (.dK _) => True
 | some (.dT _) => True
 | some (.set _ _) => True
 | some (.ins _ _ _) => True
 | some (.ext _) => True
 | _ => False
section
variable {P : Program} {w : World} {H : Hp} {h h' : Heap} {x e : Addr} {o' : HO}
theorem HOk.write (ok : HOk P w H h) (mu : Mut (H x)) (he : e = x ∨ H e = some (.own x)) (k : ∀ b u, b ≠ e → h.get? b = some u → h'.get? b = some u) (heo : ∃ u, h'.get? e = some u)
  (new : ObjOk P w (upd H x o') h' x o') : HOk P w (upd H x o') h' := fun b u q => by
 have nown : ∀ c y, H c = some (.own y) → c ≠ x := fun c y r z => by subst z; rw [r] at mu; exact mu
 have ntup : ∀ c xs, H c = some (.tup xs) → c ≠ x := fun c xs r z => by subst z; rw [r] at mu; exact mu
 by_cases hb : b = x
 ·subst hb; rw [upd_same] at q; cases q; exact new
 ·rw [upd_ne hb] at q
  by_cases hbe : b = e
  ·have q' : H b = some (.own x) := by
    rcases he with z | z
    ·exact absurd (hbe.trans z) hb
    ·rw [hbe]; exact z
   rw [q] at q'; cases q'
   obtain ⟨v, hv⟩ := heo
   exact ⟨v, by rw [hbe]; exact hv⟩
  ·refine (ok b u q).stay (fun c v hc r => k c v ?_ r) (fun c r => by rw [upd_ne (nown c b r)]; exact r) fun c xs r => by rw [upd_ne (ntup c xs r)]; exact r
   rcases hc with rfl | hc
   ·exact hbe
   ·rintro rfl
    rcases he with z | z
    ·exact nown c b hc z
    ·rw [hc] at z; cases z; exact hb rfl
end
structure Un (fs ex : List Addr) (H H' : Hp) (h h' : Heap) : Prop where
 keep : ∀ b o, h.get? b = some o → H b = none → b ∉ fs → b ∉ ex → h'.get? b = some o
 slot : ∀ b o, h.get? b = some o → H b = none → b ∈ fs → b ∉ ex → ∃ sl, h'.get? b = some { o with slots := sl }
 free : ∀ b o, h.get? b = some o → H b = none → b ∉ ex → H' b = none
 there : ∀ b o, h.get? b = some o → b ∉ ex → ∃ o', h'.get? b = some o'
 tups : ∀ b xs, H b = some (.tup xs) → H' b = some (.tup xs)
 frzs : ∀ b o u, H b = some (.frz o u) → H' b = some (.frz o u)
 tbls : ∀ b ps, H b = some (.tbl ps) → ∃ more, H' b = some (.tbl (ps ++ more))
section
variable {fs fs' ex ex' : List Addr} {H H1 H2 : Hp} {h h1 h2 h' : Heap} {a x e : Addr} {o : HO}
theorem Un.any (u : Un fs ex H H1 h h1) {b : Addr} {ob : Obj} (q : h.get? b = some ob) (n : H b = none) (hx : b ∉ ex) : ∃ sl, h1.get? b = some { ob with slots := sl } := by
 by_cases hb : b ∈ fs
 ·exact u.slot b ob q n hb hx
 ·exact ⟨ob.slots, u.keep b ob q n hb hx⟩
theorem Un.trans (a : Un fs ex H H1 h h1) (b : Un fs ex H1 H2 h1 h2) : Un fs ex H H2 h h2 where
 keep := fun c ob q n hc hx => b.keep c ob (a.keep c ob q n hc hx) (a.free c ob q n hx) hc hx
 slot := fun c ob q n hc hx => by
  obtain ⟨sl, e1⟩ := a.slot c ob q n hc hx
  obtain ⟨sl', e2⟩ := b.slot c _ e1 (a.free c ob q n hx) hc hx
  exact ⟨sl', e2⟩
 free := fun c ob q n hx => by
  obtain ⟨o', e1⟩ := a.there c ob q hx
  exact b.free c o' e1 (a.free c ob q n hx) hx
 there := fun c ob q hx => by
  obtain ⟨o', e1⟩ := a.there c ob q hx
  exact b.there c o' e1 hx
 tups := fun c xs q => b.tups c xs (a.tups c xs q)
 frzs := fun c ob xs q => b.frzs c ob xs (a.frzs c ob xs q)
 tbls := fun c ps q => by
  obtain ⟨m1, e1⟩ := a.tbls c ps q
  obtain ⟨m2, e2⟩ := b.tbls c _ e1
  exact ⟨m1 ++ m2, by rw [e2, Array.append_assoc]⟩
theorem Un.kept (k : ∀ b u, h.get? b = some u → h'.get? b = some u) : Un fs ex H H h h' :=
 ⟨fun b ob q _ _ _ => k b ob q, fun b ob q _ _ _ => ⟨ob.slots, k b ob q⟩, fun _ _ _ n _ => n, fun b ob q _ => ⟨ob, k b ob q⟩, fun _ _ q => q, fun _ _ _ q => q, fun _ ps q => ⟨#[], by rw [q]; simp⟩⟩
theorem Un.refl : Un fs ex H H h h := Un.kept fun _ _ q => q
theorem Un.laid (k : ∀ b u, h.get? b = some u → h'.get? b = some u) (hp : h.objs.size ≤ a) (hn : H a = none) : Un fs ex H (upd H a o) h h' where
 keep := fun b u q _ _ _ => k b u q
 slot := fun b u q _ _ _ => ⟨u.slots, k b u q⟩
 free := fun b u q n _ => by rw [upd_ne (Nat.ne_of_lt (Nat.lt_of_lt_of_le (Heap.lt_size q) hp))]; exact n
 there := fun b u q _ => ⟨u, k b u q⟩
 tups := fun b xs q => by rw [upd_ne (ne_of_none q hn)]; exact q
 frzs := fun b u xs q => by rw [upd_ne (ne_of_none q hn)]; exact q
 tbls := fun b ps q => ⟨#[], by rw [upd_ne (ne_of_none q hn), q]; simp⟩
theorem Un.write (mu : Mut (H x)) (he : e = x ∨ H e = some (.own x)) (k : ∀ b u, b ≠ e → h.get? b = some u → h'.get? b = some u) (heo : ∃ u, h'.get? e = some u) : Un fs ex H (upd H x o) h h' := by
 have hx : ∀ b, H b = none → b ≠ x := fun b n z => by subst z; rw [n] at mu; exact mu
 have hb : ∀ b, H b = none → b ≠ e := fun b n z => by
  subst z
  rcases he with r | r
  ·exact hx b n r
  ·rw [n] at r; cases r
 have hm : ∀ b u, H b = some u → ¬ Mut (some u) → b ≠ x := fun b u q nm z => by subst z; rw [q] at mu; exact nm mu
 refine ⟨fun b u q n _ _ => k b u (hb b n) q, fun b u q n _ _ => ⟨u.slots, k b u (hb b n) q⟩, fun b u q n _ => by rw [upd_ne (hx b n)]; exact n, fun b u q _ => ?_,
  fun b xs q => by rw [upd_ne (hm b _ q fun z => z)]; exact q, fun b u xs q => by rw [upd_ne (hm b _ q fun z => z)]; exact q, fun b ps q => ⟨#[], by rw [upd_ne (hm b _ q fun z => z), q]; simp⟩⟩
 by_cases hbe : b = e
 ·subst hbe; exact heo
 ·exact ⟨u, k b u hbe q⟩
end
def trk (h : Heap) (H : Hp) : List Addr := (List.range h.objs.size).filter fun a => (H a).isSome
def hidT (h : Heap) (H : Hp) : Heap := PySem.W.hideAll h (trk h H)
theorem hidT_size (h : Heap) (H : Hp) : (hidT h H).objs.size = h.objs.size := PySem.W.hideAll_size _ _
theorem hidT_get {h : Heap} {H : Hp} {b : Addr} {o : Obj} (e : h.get? b = some o) (n : H b = none) : (hidT h H).get? b = some o :=
 PySem.W.hideAll_get _ e fun hm => by
  have q : (H b).isSome = true := (List.mem_filter.mp hm).2
  rw [n] at q; simp at q
theorem of_hidT {h : Heap} {H : Hp} {b : Addr} {o : Obj} (e : (hidT h H).get? b = some o) : h.get? b = some o ∧ H b = none := by
 have e' : h.get? b = some o := PySem.W.of_hideAll (trk h H) e
 refine ⟨e', ?_⟩
 cases q : H b with
 | none => rfl
 | some x =>
  have hm : b ∈ trk h H := List.mem_filter.mpr ⟨List.mem_range.mpr (Heap.lt_size e'), by simp [q]⟩
  have z : (hidT h H).get? b = none := PySem.W.hideAll_none (trk h H) hm
  rw [z] at e; cases e
def allNews (g h : Heap) (L : Addr) : List (Addr × Obj) := (List.range h.objs.size).filterMap fun a => if a = L ∨ (g.get? a).isSome = true then none else (h.get? a).map fun o => (a, o)
def rest (g h : Heap) (L d : Addr) : List (Addr × Obj) := (allNews g h L).filter fun p => decide (p.1 ≠ d)
end L2
namespace L2
open PySem PySem.Spec PyProof.Rows
structure Mod (K : PySem.W.Frag) (mg : Str → Option Value) (base : Heap) : Prop where
 kin : K.In base
 glob : base.Ns mainGlobals mg
 blt : ∃ mb, base.Ns builtinsNs mb ∧ ∀ x : Str, x ≠ "__name__" → mb x = bootBuiltins x
 nolimit : base.NoLimit
structure Cx where
 prog : Program
 w : World
 K : PySem.W.Frag
 mg : Str → Option Value
 base : Heap
 A : Around
 N : List Str
 s₀ : Shared
 H₀ : Hp
 env : Env
 outer : List Env
 stack : List Env
 ex : List Addr
 fn : Str → Bool
 calm : Bool
 pn : List (Addr × Obj)
 xe : Value → Shared → Prop
def frs (l : List Env) : List Addr := l.filterMap (·.frame)
abbrev Cx.fs (X : Cx) : List Addr := frs X.outer
def Vis (sc : Scope) (x : Str) : Prop := sc.names.lookup x = some .local ∨ sc.names.lookup x = some .cell ∨ sc.names.lookup x = some .free
def Loc (sc : Scope) (x : Str) : Prop := sc.names.lookup x = some .local ∨ sc.names.lookup x = some .cell
def Look (env : Env) (h : Heap) (m : Str → Option Value) (x : Str) (u : Value) : Prop :=
 (env.kindOf x = some .local ∧ m x = some u) ∨ ((env.kindOf x = some .cell ∨ env.kindOf x = some .free) ∧ ∃ c, env.cells.lookup x = some c ∧ h.IsCell c (some u))
structure Cx.Ok (X : Cx) : Prop where
 mod : Mod X.K X.mg X.base
 kind : X.env.scope.kind = .function
 glob : X.env.globals = mainGlobals
 blt : X.env.builtins = builtinsNs
 above : X.s₀.heap.objs.size ≤ X.env.locals
 inj : ∀ x y c, X.env.cells.lookup x = some c → X.env.cells.lookup y = some c → x = y
 has : ∀ x, (X.env.kindOf x = some .cell ∨ X.env.kindOf x = some .free) → ∃ c, X.env.cells.lookup x = some c
 cab : ∀ x c, X.fn x = true → X.env.cells.lookup x = some c → X.s₀.heap.objs.size ≤ c
 hd : X.calm = true → X.A.handled = none
 frames : X.A.frames = some X.stack
 stk : X.stack = X.outer ∨ (X.stack = X.env :: X.outer ∧ X.env.frame = some X.env.locals)
 exf : ∀ b ∈ X.ex, b ≠ X.env.locals ∧ ∀ x c, X.env.cells.lookup x = some c → c ≠ b
 bs : ∀ b o, X.base.get? b = some o → X.s₀.heap.get? b = some o ∧ X.H₀ b = none
 bsz : X.base.objs.size ≤ X.s₀.heap.objs.size
 noex : ∀ b o, X.base.get? b = some o → b ∉ X.ex
 exfs : ∀ b ∈ X.ex, b ∉ X.fs
 funs : X.s₀.heap.FunFrames X.base X.outer
 frf : ∀ b ∈ X.fs, X.H₀ b = none
structure Inv (X : Cx) (pins : List (Addr × Obj)) (σ : List (Option V)) (H : Hp) (s : Shared) : Prop where
 ok : X.Ok
 os : s.os = X.s₀.os
 bare : AllBare s.gens
 base : Un X.fs X.ex X.H₀ H X.s₀.heap s.heap
 loc : ∃ m, s.heap.Ns X.env.locals m ∧ ∀ (i : Nat) (x : Str) (v : V), X.N[i]? = some x → σ[i]? = some (some v) → Vis X.env.scope x → ∃ u, RelV v u ∧ Look X.env s.heap m x u
 cell : ∀ x c, X.env.cells.lookup x = some c → ∃ v, s.heap.IsCell c v
 free : H X.env.locals = none
 freeC : ∀ x c, X.env.cells.lookup x = some c → H c = none
 pin : ∀ p ∈ X.pn ++ pins, s.heap.get? p.1 = some p.2 ∧ H p.1 = none ∧ p.1 ≠ X.env.locals ∧ p.1 ∉ X.fs ∧ ∀ v, p.2.data ≠ .cell v
 hok : HOk X.prog X.w H s.heap
 len : σ.length = X.N.length
section
variable {X : Cx} {pins : List (Addr × Obj)} {σ : List (Option V)} {H H' : Hp} {s : Shared} {h' : Heap}
theorem Cx.Ok.nofr (ok : X.Ok) {b : Addr} {o : Obj} (e : X.base.get? b = some o) : b ∉ X.fs := fun hb => by
 have := (ok.funs.mem hb).1
 rw [e] at this; cases this
theorem Inv.bs (I : Inv X pins σ H s) : ∀ b o, X.base.get? b = some o → s.heap.get? b = some o ∧ H b = none := fun b o e =>
 ⟨I.base.keep b o (I.ok.bs b o e).1 (I.ok.bs b o e).2 (I.ok.nofr e) (I.ok.noex b o e), I.base.free b o (I.ok.bs b o e).1 (I.ok.bs b o e).2 (I.ok.noex b o e)⟩
theorem Inv.bk (I : Inv X pins σ H s) : ∀ b o, X.base.get? b = some o → s.heap.get? b = some o := fun b o e => (I.bs b o e).1
theorem Inv.mod (I : Inv X pins σ H s) : Mod X.K X.mg X.base := I.ok.mod
theorem Inv.kIn (I : Inv X pins σ H s) : X.K.In s.heap := I.ok.mod.kin.keeps I.bk
theorem Inv.lt (I : Inv X pins σ H s) : X.env.locals < s.heap.objs.size := let ⟨_, hn, _⟩ := I.loc; hn.lt
theorem Inv.sz (I : Inv X pins σ H s) : X.s₀.heap.objs.size ≤ s.heap.objs.size := Nat.le_trans I.ok.above (Nat.le_of_lt I.lt)
theorem Inv.nofs (I : Inv X pins σ H s) {a : Addr} (h : s.heap.objs.size ≤ a) : a ∉ X.fs := fun hb => by
 obtain ⟨_, o, ho, _⟩ := I.ok.funs.mem hb
 exact absurd (Nat.lt_of_lt_of_le (Heap.lt_size ho) (Nat.le_trans I.sz h)) (Nat.lt_irrefl _)
theorem Inv.cne (I : Inv X pins σ H s) : ∀ x c, X.env.cells.lookup x = some c → c ≠ X.env.locals := fun x c e z => by
 obtain ⟨v, o, ho, hd⟩ := I.cell x c e
 obtain ⟨m, ⟨o', es, ep, ho', hd', _⟩, _⟩ := I.loc
 rw [z, ho'] at ho; cases ho; rw [hd'] at hd; cases hd
theorem Inv.funs (I : Inv X pins σ H s) : s.heap.FunFrames X.base X.outer := by
 have all : ∀ (l : List Env), (∀ b ∈ frs l, b ∈ X.fs) → X.s₀.heap.FunFrames X.base l → s.heap.FunFrames X.base l := by
  intro l
  induction l with
  | nil => intro _ _; trivial
  | cons env r ih =>
   intro hs hl
   obtain ⟨hk, ⟨L, o, hf, hn, ho, hd⟩, hr⟩ := hl
   have hL : L ∈ X.fs := hs L (by unfold frs; rw [List.filterMap_cons, hf]; exact List.mem_cons_self)
   obtain ⟨sl, e⟩ := I.base.slot L o ho (I.ok.frf L hL) hL fun z => I.ok.exfs L z hL
   exact ⟨hk, ⟨L, _, hf, hn, e, hd⟩, ih (fun b hb => hs b (by unfold frs; rw [List.filterMap_cons, hf]; exact List.mem_cons_of_mem _ hb)) hr⟩
 exact all X.outer (fun _ hb => hb) I.ok.funs
theorem Inv.stack (I : Inv X pins σ H s) : s.heap.FunFrames X.base X.stack := by
 rcases I.ok.stk with e | ⟨e, hf⟩
 ·rw [e]; exact I.funs
 ·rw [e]
  obtain ⟨m, hn, _⟩ := I.loc
  refine .cons (by rw [I.ok.kind]; decide) hf hn ?_ I.funs
  exact Heap.get?_none_of_le (Nat.le_trans I.ok.bsz I.ok.above)
theorem Inv.stkSub (I : Inv X pins σ H s) : ∀ b ∈ frs X.stack, b ∈ X.env.locals :: X.fs := fun b hb => by
 rcases I.ok.stk with e | ⟨e, hf⟩
 ·rw [e] at hb; exact List.mem_cons_of_mem _ hb
 ·rw [e] at hb
  unfold frs at hb
  rw [List.filterMap_cons, hf] at hb
  exact hb
theorem Inv.stkFree (I : Inv X pins σ H s) : ∀ b ∈ frs X.stack, H b = none := fun b hb => by
 rcases List.mem_cons.mp (I.stkSub b hb) with e | hb
 ·rw [e]; exact I.free
 ·obtain ⟨_, o, ho, _⟩ := I.ok.funs.mem hb
  exact I.base.free b o ho (I.ok.frf b hb) fun z => I.ok.exfs b z hb
theorem Inv.step {g' : Array GenState} {t' : Nat} {d' : Drawn} {ch : List Addr} (I : Inv X pins σ H s)
  (hch : ∀ b ∈ ch, (b ∈ X.ex ∨ X.s₀.heap.objs.size ≤ b) ∧ b ≠ X.env.locals ∧ (∀ x c, X.env.cells.lookup x = some c → c ≠ b) ∧ ∀ p ∈ X.pn ++ pins, p.1 ≠ b)
  (keep : ∀ b o, b ≠ X.env.locals → b ∉ X.fs → b ∉ ch → s.heap.get? b = some o → H b = none → h'.get? b = some o)
  (slot : ∀ b o, b ≠ X.env.locals → b ∈ X.fs → b ∉ ch → s.heap.get? b = some o → H b = none → ∃ sl, h'.get? b = some { o with slots := sl }) (free : ∀ b o, b ∉ ch → s.heap.get? b = some o → H b = none → H' b = none)
  (there : ∀ b o, b ∉ ch → s.heap.get? b = some o → ∃ o', h'.get? b = some o')
  (tups : ∀ b xs, H b = some (.tup xs) → H' b = some (.tup xs)) (frzs : ∀ b o u, H b = some (.frz o u) → H' b = some (.frz o u)) (tbls : ∀ b ps, H b = some (.tbl ps) → ∃ more, H' b = some (.tbl (ps ++ more)))
  (ns : ∀ m, s.heap.Ns X.env.locals m → h'.Ns X.env.locals m) (hok : HOk X.prog X.w H' h') (hg : AllBare g') :
  Inv X pins σ H' { s with heap := h', gens := g', drawn := d', toks := t' } := by
 have neL : ∀ b o, X.s₀.heap.get? b = some o → b ≠ X.env.locals := fun b o e => Nat.ne_of_lt (Nat.lt_of_lt_of_le (Heap.lt_size e) I.ok.above)
 have neC : ∀ b o, X.s₀.heap.get? b = some o → b ∉ X.ex → b ∉ ch := fun b o e hx hb => by
  rcases (hch b hb).1 with z | z
  ·exact hx z
  ·exact absurd (Nat.lt_of_lt_of_le (Heap.lt_size e) z) (Nat.lt_irrefl _)
 have cellK : ∀ x c, X.env.cells.lookup x = some c → ∀ v, s.heap.IsCell c v → h'.IsCell c v := fun x c e v ⟨o, ho, hd⟩ => by
  have nch : c ∉ ch := fun z => (hch c z).2.2.1 x c e rfl
  by_cases hc : c ∈ X.fs
  ·obtain ⟨sl, q⟩ := slot c o (I.cne x c e) hc nch ho (I.freeC x c e)
   exact ⟨_, q, hd⟩
  ·exact ⟨o, keep c o (I.cne x c e) hc nch ho (I.freeC x c e), hd⟩
 refine ⟨I.ok, I.os, hg, ⟨fun b o e n hb hx => ?_, fun b o e n hb hx => ?_, fun b o e n hx => ?_, fun b o e hx => ?_, fun b xs e => tups b xs (I.base.tups b xs e), fun b o xs e => frzs b o xs (I.base.frzs b o xs e), fun b ps e => ?_⟩, ?_, fun x c e => ?_, ?_, fun x c e => ?_, fun p hp => ?_, hok, I.len⟩
 ·exact keep b o (neL b o e) hb (neC b o e hx) (I.base.keep b o e n hb hx) (I.base.free b o e n hx)
 ·obtain ⟨sl, e1⟩ := I.base.slot b o e n hb hx
  obtain ⟨sl', e2⟩ := slot b _ (neL b o e) hb (neC b o e hx) e1 (I.base.free b o e n hx)
  exact ⟨sl', e2⟩
 ·obtain ⟨o', e1⟩ := I.base.there b o e hx
  exact free b o' (neC b o e hx) e1 (I.base.free b o e n hx)
 ·obtain ⟨o', e1⟩ := I.base.there b o e hx
  exact there b o' (neC b o e hx) e1
 ·obtain ⟨m1, e1⟩ := I.base.tbls b ps e
  obtain ⟨m2, e2⟩ := tbls b _ e1
  exact ⟨m1 ++ m2, by rw [e2, Array.append_assoc]⟩
 ·obtain ⟨m, hn, hl⟩ := I.loc
  refine ⟨m, ns m hn, fun i x v e1 e2 e3 => ?_⟩
  obtain ⟨u, r, l⟩ := hl i x v e1 e2 e3
  refine ⟨u, r, ?_⟩
  rcases l with l | ⟨k, c, e, z⟩
  ·exact .inl l
  ·exact .inr ⟨k, c, e, cellK x c e _ z⟩
 ·obtain ⟨v, z⟩ := I.cell x c e
  exact ⟨v, cellK x c e v z⟩
 ·obtain ⟨m, ⟨o, _, _, ho, _⟩, _⟩ := I.loc
  exact free _ o (fun z => (hch _ z).2.1 rfl) ho I.free
 ·obtain ⟨v, o, ho, hd⟩ := I.cell x c e
  exact free c o (fun z => (hch c z).2.2.1 x c e rfl) ho (I.freeC x c e)
 ·obtain ⟨e, n, ne, nf, d⟩ := I.pin p hp
  have nch : p.1 ∉ ch := fun z => (hch p.1 z).2.2.2 p hp rfl
  exact ⟨keep p.1 p.2 ne nf nch e n, free p.1 p.2 nch e n, ne, nf, d⟩
theorem Inv.un {t' : Nat} (I : Inv X pins σ H s) (u : Un X.fs [] H H' s.heap h') (hok : HOk X.prog X.w H' h') : Inv X pins σ H' { s with heap := h', toks := t' } := by
 obtain ⟨m, ⟨o, es, ep, ho, r⟩, _⟩ := id I.loc
 obtain ⟨sl, hL⟩ := u.any ho I.free (by simp)
 exact I.step (g' := s.gens) (d' := s.drawn) (ch := []) (fun _ z => nomatch z) (fun b o _ hb _ e n => u.keep b o e n hb (by simp)) (fun b o _ hb _ e n => u.slot b o e n hb (by simp)) (fun b o _ e n => u.free b o e n (by simp)) (fun b o _ e => u.there b o e (by simp)) u.tups u.frzs u.tbls (fun m' hm => by
  obtain ⟨o', es', ep', ho', r'⟩ := hm
  rw [ho] at ho'; cases ho'
  exact ⟨_, es', ep', hL, r'⟩) hok I.bare
theorem Inv.call {g' : Array GenState} {t' : Nat} {d' : Drawn} {ch : List Addr} (I : Inv X pins σ H s) (u : Un (frs X.stack) ch H H' s.heap h') (hok : HOk X.prog X.w H' h') (hg : AllBare g')
  (hch : ∀ b ∈ ch, (b ∈ X.ex ∨ X.s₀.heap.objs.size ≤ b) ∧ b ≠ X.env.locals ∧ (∀ x c, X.env.cells.lookup x = some c → c ≠ b) ∧ ∀ p ∈ X.pn ++ pins, p.1 ≠ b) :
  Inv X pins σ H' { s with heap := h', gens := g', drawn := d', toks := t' } := by
 obtain ⟨m, ⟨o, es, ep, ho, r⟩, _⟩ := id I.loc
 obtain ⟨sl, hL⟩ := u.any ho I.free fun z => (hch _ z).2.1 rfl
 exact I.step (ch := ch) hch (fun b o hL hb hc e n => u.keep b o e n (fun z => (List.mem_cons.mp (I.stkSub b z)).elim hL hb) hc) (fun b o _ _ hc e n => u.any e n hc) (fun b o hc e n => u.free b o e n hc) (fun b o hc e => u.there b o e hc) u.tups u.frzs u.tbls (fun m' hm => by
  obtain ⟨o', es', ep', ho', r'⟩ := hm
  rw [ho] at ho'; cases ho'
  exact ⟨_, es', ep', hL, r'⟩) hok hg
theorem Inv.turned {t' : Nat} {it : Addr} (I : Inv X pins σ H s) (k : ∀ b o, b ≠ it → s.heap.get? b = some o → h'.get? b = some o) (hn : H it = none) (hL : it ≠ X.env.locals)
  (h1 : it ∈ X.ex ∨ X.s₀.heap.objs.size ≤ it) (h2 : ∀ x c, X.env.cells.lookup x = some c → c ≠ it) (h3 : ∀ p ∈ X.pn ++ pins, p.1 ≠ it) : Inv X pins σ H { s with heap := h', toks := t' } := by
 have nit : ∀ b u, H b = some u → b ≠ it := fun b u e z => by rw [z, hn] at e; cases e
 refine I.step (g' := s.gens) (d' := s.drawn) (ch := [it]) (fun b hb => ?_) (fun b o _ _ hc e _ => k b o (fun z => hc (by simp [z])) e) (fun b o _ _ hc e _ => ⟨o.slots, k b o (fun z => hc (by simp [z])) e⟩) (fun _ _ _ _ n => n)
  (fun b o hc e => ⟨o, k b o (fun z => hc (by simp [z])) e⟩) (fun _ _ e => e) (fun _ _ _ e => e) (fun b ps e => ⟨#[], by rw [e]; simp⟩) (fun m hm => ?_) (fun b u e => ?_) I.bare
 ·have e : b = it := by simpa using hb
  subst e
  exact ⟨h1, hL, h2, h3⟩
 ·obtain ⟨o, es, ep, ho, r⟩ := hm
  exact ⟨o, es, ep, k _ o (Ne.symm hL) ho, r⟩
 ·refine (I.hok b u e).stay (fun c v hc q => k c v ?_ q) (fun _ q => q) fun _ _ q => q
  rcases hc with z | z
  ·rw [z]; exact nit b u e
  ·exact nit c _ z
theorem Inv.tok (I : Inv X pins σ H s) (t : Nat) : Inv X pins σ H { s with toks := t } := I.un (h' := s.heap) (t' := t) Un.refl I.hok
theorem Inv.kept {t' : Nat} (I : Inv X pins σ H s) (k : ∀ b u, s.heap.get? b = some u → h'.get? b = some u) : Inv X pins σ H { s with heap := h', toks := t' } := I.un (Un.kept k) (I.hok.kept k)
theorem Inv.laid {a : Addr} {o : HO} {t' : Nat} (I : Inv X pins σ H s) (k : ∀ b u, s.heap.get? b = some u → h'.get? b = some u) (hp : s.heap.objs.size ≤ a) (new : ObjOk X.prog X.w (upd H a o) h' a o) :
  Inv X pins σ (upd H a o) { s with heap := h', toks := t' } := I.un (Un.laid k hp (I.hok.fresh hp)) (I.hok.laid k hp new)
theorem Inv.write {x e : Addr} {o : HO} {t' : Nat} (I : Inv X pins σ H s) (mu : Mut (H x)) (he : e = x ∨ H e = some (.own x)) (k : ∀ b u, b ≠ e → s.heap.get? b = some u → h'.get? b = some u) (heo : ∃ u, h'.get? e = some u)
  (new : ObjOk X.prog X.w (upd H x o) h' x o) : Inv X pins σ (upd H x o) { s with heap := h', toks := t' } := I.un (Un.write mu he k heo) (I.hok.write mu he k heo new)
theorem Inv.pins_of {pins' : List (Addr × Obj)} (I : Inv X pins σ H s) (h : ∀ p ∈ pins', s.heap.get? p.1 = some p.2 ∧ H p.1 = none ∧ p.1 ≠ X.env.locals ∧ p.1 ∉ X.fs ∧ ∀ v, p.2.data ≠ .cell v) : Inv X pins' σ H s :=
 ⟨I.ok, I.os, I.bare, I.base, I.loc, I.cell, I.free, I.freeC, fun p hp => (List.mem_append.mp hp).elim (fun z => I.pin p (List.mem_append_left _ z)) (h p), I.hok, I.len⟩
theorem nodup_ix {N : List Str} (hN : N.Nodup) {i j : Nat} {x : Str} (a : N[i]? = some x) (b : N[j]? = some x) : i = j := by
 obtain ⟨h1, e1⟩ := List.getElem?_eq_some_iff.mp a
 obtain ⟨h2, e2⟩ := List.getElem?_eq_some_iff.mp b
 exact (List.getElem_inj hN).mp (e1.trans e2.symm)
theorem store_ok2 {M : Model} {A : Around} {E : Value → Shared → Prop} {i : Nat} {x : Str} {v : V} {u : Value} {Q : Unit → Shared → Prop} (I : Inv X pins σ H s) (hN : X.N.Nodup) (hi : X.N[i]? = some x) (hx : Loc X.env.scope x) (r : RelV v u)
  (h : ∀ s', Inv X pins (σ.set i (some v)) H s' → (∃ a, Heap.SameBut a s.heap s'.heap ∧ (a = X.env.locals ∨ X.env.cells.lookup x = some a)) → Q () s') (hf : X.fn x = true ∨ X.env.scope.names.lookup x = some .local := by first | exact .inl rfl | exact .inr rfl | assumption) : wpAny M A (storeName X.env x u) Q E s := by
 obtain ⟨m, hn, hl⟩ := id I.loc
 have hcls : (X.env.scope.kind == .class || (X.env.scope.kind == .module && X.env.locals != X.env.globals)) = false := by rw [I.ok.kind]; rfl
 have hiσ : i < σ.length := by rw [I.len]; exact (List.getElem?_eq_some_iff.mp hi).1
 have cne := I.cne
 have tracked : ∀ {a : Addr} {h' : Heap}, (∃ o, s.heap.get? a = some o ∧ H a = none) → Heap.SameBut a s.heap h' → HOk X.prog X.w H h' := fun {a h'} ha hs b ob e => by
  obtain ⟨_, _, hfree⟩ := ha
  refine (I.hok b ob e).stay (fun c w' hc q => (hs.2 c ?_).trans q) (fun _ q => q) fun _ _ q => q
  rintro rfl
  rcases hc with rfl | hc
  ·rw [hfree] at e; cases e
  ·rw [hfree] at hc; cases hc
 rcases hx with hk | hk
 ·refine wpAny_storeName_local hk hn (fun h' hn' hs => ?_) hcls
  obtain ⟨oL, _, _, hoL, _⟩ := id hn
  refine h _ ⟨I.ok, I.os, I.bare, ⟨fun b o e n hb hx => ?_, fun b o e n hb hx => ?_, I.base.free, fun b o e hx => ?_, I.base.tups, I.base.frzs, I.base.tbls⟩, ⟨_, hn', fun j y v' e1 e2 e3 => ?_⟩, fun y c e => ?_, I.free, I.freeC, fun p hp => ?_, tracked ⟨oL, hoL, I.free⟩ hs, by simpa using I.len⟩ ⟨_, hs, .inl rfl⟩
  ·exact (hs.2 b (Nat.ne_of_lt (Nat.lt_of_lt_of_le (Heap.lt_size e) I.ok.above))).trans (I.base.keep b o e n hb hx)
  ·obtain ⟨sl, e1⟩ := I.base.slot b o e n hb hx
   exact ⟨sl, (hs.2 b (Nat.ne_of_lt (Nat.lt_of_lt_of_le (Heap.lt_size e) I.ok.above))).trans e1⟩
  ·obtain ⟨o', e1⟩ := I.base.there b o e hx
   exact ⟨o', (hs.2 b (Nat.ne_of_lt (Nat.lt_of_lt_of_le (Heap.lt_size e) I.ok.above))).trans e1⟩
  ·by_cases hj : j = i
   ·subst hj
    rw [hi] at e1; cases e1
    rw [List.getElem?_set_self hiσ] at e2
    cases e2
    exact ⟨u, r, .inl ⟨hk, by simp⟩⟩
   ·rw [List.getElem?_set_ne (Ne.symm hj)] at e2
    obtain ⟨u', r', q⟩ := hl j y v' e1 e2 e3
    refine ⟨u', r', ?_⟩
    rcases q with ⟨k, e⟩ | ⟨k, c, e, z⟩
    ·refine .inl ⟨k, ?_⟩
     have : y ≠ x := fun e => hj (nodup_ix hN e1 (e ▸ hi))
     simp [this, e]
    ·exact .inr ⟨k, c, e, z.sameBut hs (cne y c e)⟩
  ·obtain ⟨w', z⟩ := I.cell y c e
   exact ⟨w', z.sameBut hs (cne y c e)⟩
  ·obtain ⟨e, n, ne, nf, d⟩ := I.pin p hp
   exact ⟨(hs.2 p.1 ne).trans e, n, ne, nf, d⟩
 ·have hfn : X.fn x = true := by
   rcases hf with z | z
   ·exact z
   ·rw [z] at hk; cases hk
  obtain ⟨c, hc⟩ := I.ok.has x (.inl hk)
  obtain ⟨w', z⟩ := I.cell x c hc
  refine wpAny_storeName_cell I.ok.kind hk hc z (fun h' hc' hs => ?_)
  obtain ⟨oc, hoc, hocd⟩ := id z
  refine h { s with heap := h' } ⟨I.ok, I.os, I.bare, ⟨fun b o e n hb hx => ?_, fun b o e n hb hx => ?_, I.base.free, fun b o e hx => ?_, I.base.tups, I.base.frzs, I.base.tbls⟩, ⟨m, hn.sameBut hs (Ne.symm (cne x c hc)), fun j y v' e1 e2 e3 => ?_⟩, fun y c' e => ?_, I.free, I.freeC, fun p hp => ?_, tracked ⟨oc, hoc, I.freeC x c hc⟩ hs, by simpa using I.len⟩ ⟨c, hs, .inr hc⟩
  ·exact (hs.2 b (Nat.ne_of_lt (Nat.lt_of_lt_of_le (Heap.lt_size e) (I.ok.cab x c hfn hc)))).trans (I.base.keep b o e n hb hx)
  ·obtain ⟨sl, e1⟩ := I.base.slot b o e n hb hx
   exact ⟨sl, (hs.2 b (Nat.ne_of_lt (Nat.lt_of_lt_of_le (Heap.lt_size e) (I.ok.cab x c hfn hc)))).trans e1⟩
  ·obtain ⟨o', e1⟩ := I.base.there b o e hx
   exact ⟨o', (hs.2 b (Nat.ne_of_lt (Nat.lt_of_lt_of_le (Heap.lt_size e) (I.ok.cab x c hfn hc)))).trans e1⟩
  ·by_cases hj : j = i
   ·subst hj
    rw [hi] at e1; cases e1
    rw [List.getElem?_set_self hiσ] at e2
    cases e2
    exact ⟨u, r, .inr ⟨.inl hk, c, hc, hc'⟩⟩
   ·rw [List.getElem?_set_ne (Ne.symm hj)] at e2
    obtain ⟨u', r', q⟩ := hl j y v' e1 e2 e3
    refine ⟨u', r', ?_⟩
    rcases q with q | ⟨k, c', e, z'⟩
    ·exact .inl q
    ·refine .inr ⟨k, c', e, z'.sameBut hs ?_⟩
     rintro rfl
     exact hj (nodup_ix hN e1 (I.ok.inj _ _ _ e hc ▸ hi))
  ·by_cases hcc : c' = c
   ·subst hcc; exact ⟨_, hc'⟩
   ·obtain ⟨w2, z2⟩ := I.cell y c' e
    exact ⟨w2, z2.sameBut hs hcc⟩
  ·obtain ⟨e, n, ne, nf, d⟩ := I.pin p hp
   refine ⟨(hs.2 p.1 ?_).trans e, n, ne, nf, d⟩
   intro q
   rw [q, hoc] at e
   have q' : oc = p.2 := Option.some.inj e
   exact d w' (by rw [← q']; exact hocd)
theorem store_ok {M : Model} {A : Around} {E : Value → Shared → Prop} {i : Nat} {x : Str} {v : V} {u : Value} {Q : Unit → Shared → Prop} (I : Inv X pins σ H s) (hN : X.N.Nodup) (hi : X.N[i]? = some x) (hx : Loc X.env.scope x) (r : RelV v u)
  (h : ∀ s', Inv X pins (σ.set i (some v)) H s' → Q () s') (hf : X.fn x = true ∨ X.env.scope.names.lookup x = some .local := by first | exact .inl rfl | exact .inr rfl | assumption) : wpAny M A (storeName X.env x u) Q E s :=
 store_ok2 I hN hi hx r (fun s' I' _ => h s' I') hf
theorem Inv.call' {s' : Shared} {ch : List Addr} (I : Inv X pins σ H s) (ho : s'.os = s.os) (u : Un (frs X.stack) ch H H' s.heap s'.heap) (hok : HOk X.prog X.w H' s'.heap) (hg : AllBare s'.gens)
  (hch : ∀ b ∈ ch, (b ∈ X.ex ∨ X.s₀.heap.objs.size ≤ b) ∧ b ≠ X.env.locals ∧ (∀ x c, X.env.cells.lookup x = some c → c ≠ b) ∧ ∀ p ∈ X.pn ++ pins, p.1 ≠ b) : Inv X pins σ H' s' := by
 obtain ⟨h', g', d', t', o'⟩ := s'
 have e : o' = s.os := ho
 subst e
 exact I.call (g' := g') (t' := t') (d' := d') u hok hg hch
end
abbrev XK := Value → Option Addr → Hp → Prop
abbrev St := List (Option V)
abbrev VK := V → Hp → Prop
abbrev TE := St → Hp → VK → Prop
abbrev TT := St → Hp → (Bool → Hp → Prop) → Prop
abbrev TA := St → Hp → (List V → Hp → Prop) → Prop
structure Ends where
 nx : St → Hp → Prop
 rt : VK
 bk : St → Hp → Prop := fun _ _ => False
 ct : St → Hp → Prop := fun _ _ => False
abbrev TS := Ends → St → Hp → Prop
def EP (X : Cx) (pins : List (Addr × Obj)) (σ : St) (Q : VK) (u : Value) (s' : Shared) : Prop := ∃ v H', Inv X pins σ H' s' ∧ RelV v u ∧ Q v H'
def TP (X : Cx) (pins : List (Addr × Obj)) (σ : St) (Q : Bool → Hp → Prop) (b : Bool) (s' : Shared) : Prop := ∃ H', Inv X pins σ H' s' ∧ Q b H'
def AP (X : Cx) (pins : List (Addr × Obj)) (σ : St) (Q : List V → Hp → Prop) (us : List Value) (s' : Shared) : Prop := ∃ vs H', Inv X pins σ H' s' ∧ Vals vs us ∧ Q vs H'
def SP (X : Cx) (pins : List (Addr × Obj)) (D : Ends) (f : Flow) (s' : Shared) : Prop :=
 match f with
 | .next => ∃ σ' H', Inv X pins σ' H' s' ∧ D.nx σ' H'
 | .brk => ∃ σ' H', Inv X pins σ' H' s' ∧ D.bk σ' H'
 | .cont => ∃ σ' H', Inv X pins σ' H' s' ∧ D.ct σ' H'
 | .ret u => ∃ v σ' H', Inv X pins σ' H' s' ∧ RelV v u ∧ D.rt v H'
def PE (X : Cx) (e : Expr) (t : TE) : Prop :=
 ∀ (pins : List (Addr × Obj)) (s : Shared) (σ : St) (H : Hp) (Q : VK), Inv X pins σ H s → t σ H Q → wpAny (model X.prog X.w) X.A (eval e X.env) (EP X pins σ Q) X.xe s
def PT (X : Cx) (e : Expr) (t : TT) : Prop :=
 ∀ (pins : List (Addr × Obj)) (s : Shared) (σ : St) (H : Hp) (Q : Bool → Hp → Prop), Inv X pins σ H s → t σ H Q → wpAny (model X.prog X.w) X.A (isTrue e X.env (eval e X.env)) (TP X pins σ Q) X.xe s
def PW (X : Cx) (e : Expr) (t : TT) : Prop :=
 ∀ (whole : Sem Value) (pins : List (Addr × Obj)) (s : Shared) (σ : St) (H : Hp) (Q : Bool → Hp → Prop), Inv X pins σ H s → t σ H Q → wpAny (model X.prog X.w) X.A (isTrue e X.env whole) (TP X pins σ Q) X.xe s
theorem PW.pt {X : Cx} {e : Expr} {t : TT} (h : PW X e t) : PT X e t := h _
def PA (X : Cx) (es : List Expr) (t : TA) : Prop :=
 ∀ (pos : Pos) (pins : List (Addr × Obj)) (s : Shared) (σ : St) (H : Hp) (Q : List V → Hp → Prop), Inv X pins σ H s → t σ H Q → wpAny (model X.prog X.w) X.A (spliced (backTo pos (starEach es X.env))) (AP X pins σ Q) X.xe s
def PS (X : Cx) (st : Stmt) (t : TS) : Prop :=
 ∀ (pins : List (Addr × Obj)) (s : Shared) (σ : St) (H : Hp) (D : Ends), Inv X pins σ H s → t D σ H → wpAny (model X.prog X.w) X.A (exec st X.env) (SP X pins D) X.xe s
def PSs (X : Cx) (st : List Stmt) (t : TS) : Prop :=
 ∀ (pins : List (Addr × Obj)) (s : Shared) (σ : St) (H : Hp) (D : Ends), Inv X pins σ H s → t D σ H → wpAny (model X.prog X.w) X.A (execs st X.env) (SP X pins D) X.xe s
theorem thn {α : Type} {t : Sem α} {Q Q' : α → Shared → Prop} {M : Model} {A : Around} {E : Value → Shared → Prop} {s : Shared} (h : wpAny M A t Q E s) (hQ : ∀ a s, Q a s → Q' a s) : wpAny M A t Q' E s := wpAny_mono h hQ fun _ _ x => x
end L2
namespace L2
open PySem PySem.Spec PyProof.Rows
section
variable {X : Cx}
def tVar (i : Nat) : TE := fun σ H Q => ∃ v, σ[i]? = some (some v) ∧ Q v H
def tC (v : V) : TE := fun _ H Q => Q v H
theorem pe_var {i : Nat} {x : Str} {pos : Pos} (hN : X.N[i]? = some x) (hv : Vis X.env.scope x) (hd : (x == ("__debug__" : Str)) = false := by decide) (hcd : (x == ("__classdict__" : Str)) = false := by decide) : PE X (.Name x pos) (tVar i) := by
 intro pins s σ H Q I h
 obtain ⟨v, e, h⟩ := h
 obtain ⟨m, hn, hl⟩ := I.loc
 obtain ⟨u, r, l⟩ := hl i x v hN e hv
 have fin : EP X pins σ Q u s := ⟨v, H, I, r, h⟩
 rcases l with ⟨hk, hm⟩ | ⟨hk, c, hc, hcell⟩
 ·exact wpAny_Name (wpAny_loadName_local I.ok.kind hk hn hm fin) hd
 ·rcases hk with hk | hk
  ·exact wpAny_Name (wpAny_loadName_cell I.ok.kind hk hc hcell fin) hd
  ·exact wpAny_Name (wpAny_loadName_free I.ok.kind hk hc hcell fin hcd) hd
theorem pe_int {i j pos} : PE X (.Constant (.int i) j pos) (tC (.int i)) := fun _ _ _ H _ I h => wpAny_Constant_int ⟨.int i, H, I.tok _, ⟨_, rfl⟩, h⟩
theorem pe_bl {b j pos} : PE X (.Constant (.bool b) j pos) (tC (.bl b)) := fun _ _ _ H _ I h => Constant_bool ⟨.bl b, H, I, rfl, h⟩
theorem pe_non {j pos} : PE X (.Constant .none j pos) (tC .non) := fun _ _ _ H _ I h => Constant_none ⟨.non, H, I, rfl, h⟩
theorem pe_str {x j pos} : PE X (.Constant (.str x) j pos) (tC (.str x)) := fun _ _ _ H _ I h => Calls.Constant_str ⟨.str x, H, I.tok _, ⟨_, rfl⟩, h⟩
def Gl (X : Cx) (x : Str) : Prop := X.env.kindOf x = some .globalImplicit
theorem ld_glob {E : Value → Shared → Prop} {pins : List (Addr × Obj)} {s : Shared} {σ : St} {H : Hp} {x : Str} {u : Value} {pos : Pos} {Q : Value → Shared → Prop} (I : Inv X pins σ H s) (hg : Gl X x) (hm : X.mg x = some u) (h : Q u s)
  (hd : (x == ("__debug__" : Str)) = false := by decide) : wpAny (model X.prog X.w) X.A (eval (.Name x pos) X.env) Q E s :=
 Calls.Name_function_global I.ok.kind hg (Calls.loadGlobal_global (by rw [I.ok.glob]; exact I.mod.glob.keeps I.bk) hm h) hd
theorem ld_blt {E : Value → Shared → Prop} {pins : List (Addr × Obj)} {s : Shared} {σ : St} {H : Hp} {x : Str} {u : Value} {pos : Pos} {Q : Value → Shared → Prop} (I : Inv X pins σ H s) (hg : Gl X x) (hm : X.mg x = none) (hv : bootBuiltins x = some u) (h : Q u s)
  (hn : x ≠ "__name__" := by decide) (hd : (x == ("__debug__" : Str)) = false := by decide) : wpAny (model X.prog X.w) X.A (eval (.Name x pos) X.env) Q E s := by
 obtain ⟨mb, h1, h2⟩ := I.mod.blt
 exact Calls.Name_function_global I.ok.kind hg (Calls.loadGlobal_builtin (by rw [I.ok.glob]; exact I.mod.glob.keeps I.bk) hm (by rw [I.ok.blt]; exact h1.keeps I.bk) ((h2 x hn).trans hv) h) hd
theorem pe_bltn {x : Str} {v : V} {u : Value} {pos : Pos} (hg : Gl X x) (hm : X.mg x = none) (hv : bootBuiltins x = some u) (r : RelV v u) (hn : x ≠ "__name__" := by decide) (hd : (x == ("__debug__" : Str)) = false := by decide) : PE X (.Name x pos) (tC v) :=
 fun _ _ _ H _ I h => ld_blt I hg hm hv ⟨v, H, I, r, h⟩ hn hd
variable {a b : Expr} {ta tb : TE} {pos : Pos}
variable {tA tB' : TT} {rest : List Expr}
def tAnd (t u : TT) : TT := fun σ H Q => t σ H fun c H1 => if c = true then u σ H1 Q else Q false H1
def tOr (t u : TT) : TT := fun σ H Q => t σ H fun c H1 => if c = true then Q true H1 else u σ H1 Q
def tNot (t : TT) : TT := fun σ H Q => t σ H fun c H1 => Q (!c) H1
theorem pw_and1 (ha : PT X a tA) : PW X (.BoolOp .And [a] pos) tA := by
 intro wh pins s σ H Q I h
 refine isTrue_and (thn (ha pins s σ H Q I h) fun c s1 e => ?_)
 cases c with
 | true => exact isTrue_and_nil e
 | false => exact e
theorem pw_or1 (ha : PT X a tA) : PW X (.BoolOp .Or [a] pos) tA := by
 intro wh pins s σ H Q I h
 refine isTrue_or (thn (ha pins s σ H Q I h) fun c s1 e => ?_)
 cases c with
 | false => exact isTrue_or_nil e
 | true => exact e
theorem pw_and (ha : PT X a tA) (hb : PW X (.BoolOp .And (b :: rest) pos) tB') : PW X (.BoolOp .And (a :: b :: rest) pos) (tAnd tA tB') := by
 intro wh pins s σ H Q I h
 refine isTrue_and (thn (ha pins s σ H _ I h) fun c s1 ⟨H1, I1, q1⟩ => ?_)
 cases c with
 | true => exact hb wh pins s1 σ H1 Q I1 q1
 | false => exact ⟨H1, I1, q1⟩
theorem pw_or (ha : PT X a tA) (hb : PW X (.BoolOp .Or (b :: rest) pos) tB') : PW X (.BoolOp .Or (a :: b :: rest) pos) (tOr tA tB') := by
 intro wh pins s σ H Q I h
 refine isTrue_or (thn (ha pins s σ H _ I h) fun c s1 ⟨H1, I1, q1⟩ => ?_)
 cases c with
 | true => exact ⟨H1, I1, q1⟩
 | false => exact hb wh pins s1 σ H1 Q I1 q1
theorem pt_not (ha : PT X a tA) : PT X (.UnaryOp .Not a pos) (tNot tA) := by
 intro pins s σ H Q I h
 exact isTrue_not (ha pins s σ H (fun c H1 => Q (!c) H1) I h)
theorem pe_one {op} {t : TE} (h : PE X a t) : PE X (.BoolOp op [a] pos) t := fun pins s σ H Q I hw => BoolOp_one (h pins s σ H Q I hw)
def tIf (t : TT) (ta tb : TE) : TE := fun σ H Q => t σ H fun c H1 => if c = true then ta σ H1 Q else tb σ H1 Q
end
end L2
namespace L2
open PySem PySem.Spec PyProof.Rows
def SqL (K : PySem.W.Frag) (H : Hp) (a : Addr) (xs : List V) : Prop :=
 Rd H a (.lst xs) ∨
  ∃ (o : Obj) (its : Array Value) (n : Nat), K.lookup a = some o ∧ o.cls = .type "list" ∧ o.dict = none ∧ o.data = .seq its n ∧ its.size ≤ sizeLine ∧ Vals xs its.toList
def SqT (K : PySem.W.Frag) (H : Hp) (a : Addr) (xs : List V) : Prop :=
 Rd H a (.tup xs) ∨
  ∃ (o : Obj) (its : Array Value) (n : Nat), K.lookup a = some o ∧ o.cls = .type "tuple" ∧ o.data = .seq its n ∧ its.size ≤ sizeLine ∧ Vals xs its.toList
def absV : Value → Option V
 | .none => some .non
 | .bool b => some (.bl b)
 | .int i _ => some (.int i)
 | .str x _ => some (.str x)
 | .bytes b _ => some (.byt b)
 | .float b _ => some (.flt b)
 | .ref a => some (.ref a)
 | .type n => some (.ty n)
 | _ => none
theorem RelV.abs {x : V} {u : Value} (r : RelV x u) : absV u = some x := by
 cases x with
 | non => cases r; rfl
 | bl _ => cases r; rfl
 | int _ => obtain ⟨t, rfl⟩ := r; rfl
 | str _ => obtain ⟨t, rfl⟩ := r; rfl
 | byt _ => obtain ⟨t, rfl⟩ := r; rfl
 | flt _ => obtain ⟨t, rfl⟩ := r; rfl
 | ref _ => cases r; rfl
 | ty _ => cases r; rfl
theorem RelV.inj {x y : V} {u : Value} (r : RelV x u) (q : RelV y u) : x = y := Option.some.inj (r.abs.symm.trans q.abs)
theorem Vals.inj : ∀ {xs ys : List V} {us : List Value}, Vals xs us → Vals ys us → xs = ys
 | _, _, _, .nil, .nil => rfl
 | _, _, _, .cons r t, .cons r' t' => by rw [r.inj r', Vals.inj t t']
section
variable {X : Cx} {pins : List (Addr × Obj)} {σ : St} {H : Hp} {s : Shared} {a : Addr} {xs ys : List V}
theorem SqL.of {K : PySem.W.Frag} (h : H a = some (.lst xs)) : SqL K H a xs := .inl (.inl h)
theorem SqT.of {K : PySem.W.Frag} (h : H a = some (.tup xs)) : SqT K H a xs := .inl (.inl h)
theorem Inv.list (I : Inv X pins σ H s) (h : SqL X.K H a xs) : ∃ its : List Value, Vals xs its ∧ PlainL s.heap a its.toArray ∧ xs.length ≤ sizeLine := by
 rcases h with h | ⟨o, its, n, hk, hc, hd, hs, hz, r⟩
 ·obtain ⟨z, its, n, r, e⟩ := h.ok I.hok
  exact ⟨its, r, ⟨_, n, e, rfl, rfl, rfl⟩, z⟩
 ·refine ⟨its.toList, r, ⟨o, n, I.kIn a o hk, hc, hd, by simpa using hs⟩, ?_⟩
  have e := r.length
  simp only [Array.length_toList] at e
  omega
theorem Inv.tuple (I : Inv X pins σ H s) (h : SqT X.K H a xs) : ∃ its : List Value, Vals xs its ∧ IsTup s.heap a its.toArray ∧ xs.length ≤ sizeLine := by
 rcases h with h | ⟨o, its, n, hk, hc, hs, hz, r⟩
 ·obtain ⟨z, its, r, p⟩ := h.ok I.hok
  exact ⟨its, r, p, z⟩
 ·refine ⟨its.toList, r, ⟨o, I.kIn a o hk, hc, n, by simpa using hs⟩, ?_⟩
  have e := r.length
  simp only [Array.length_toList] at e
  omega
theorem Inv.list_inj (I : Inv X pins σ H s) (h : SqL X.K H a xs) (h' : SqL X.K H a ys) : xs = ys := by
 obtain ⟨its, r, ⟨o, n, e, _, _, d⟩, _⟩ := I.list h
 obtain ⟨its', r', ⟨o', n', e', _, _, d'⟩, _⟩ := I.list h'
 rw [e] at e'; cases e'
 rw [d] at d'
 injection d' with d1 _
 have : its = its' := by simpa using congrArg Array.toList d1
 subst this
 exact r.inj r'
theorem Inv.tuple_inj (I : Inv X pins σ H s) (h : SqT X.K H a xs) (h' : SqT X.K H a ys) : xs = ys := by
 obtain ⟨its, r, ⟨o, e, _, n, d⟩, _⟩ := I.tuple h
 obtain ⟨its', r', ⟨o', e', _, n', d'⟩, _⟩ := I.tuple h'
 rw [e] at e'; cases e'
 rw [d] at d'
 injection d' with d1 _
 have : its = its' := by simpa using congrArg Array.toList d1
 subst this
 exact r.inj r'
end
abbrev Cx.wish (X : Cx) (E : Value → Shared → Prop) : Cx := { X with xe := E }
abbrev Cx.nox (X : Cx) : Cx := X.wish fun _ _ => False
theorem Cx.Ok.wish {X : Cx} (ok : X.Ok) (E : Value → Shared → Prop) : (X.wish E).Ok :=
 ⟨ok.mod, ok.kind, ok.glob, ok.blt, ok.above, ok.inj, ok.has, ok.cab, ok.hd, ok.frames, ok.stk, ok.exf, ok.bs, ok.bsz, ok.noex, ok.exfs, ok.funs, ok.frf⟩
theorem Cx.Ok.unwish {X : Cx} {E : Value → Shared → Prop} (ok : (X.wish E).Ok) : X.Ok :=
 ⟨ok.mod, ok.kind, ok.glob, ok.blt, ok.above, ok.inj, ok.has, ok.cab, ok.hd, ok.frames, ok.stk, ok.exf, ok.bs, ok.bsz, ok.noex, ok.exfs, ok.funs, ok.frf⟩
section
variable {X : Cx} {pins : List (Addr × Obj)} {σ : St} {H : Hp} {s : Shared} {E : Value → Shared → Prop}
theorem Inv.wish (I : Inv X pins σ H s) (E : Value → Shared → Prop) : Inv (X.wish E) pins σ H s := ⟨I.ok.wish E, I.os, I.bare, I.base, I.loc, I.cell, I.free, I.freeC, I.pin, I.hok, I.len⟩
theorem Inv.unwish (I : Inv (X.wish E) pins σ H s) : Inv X pins σ H s := ⟨I.ok.unwish, I.os, I.bare, I.base, I.loc, I.cell, I.free, I.freeC, I.pin, I.hok, I.len⟩
theorem SP.unwish {D : Ends} {f : Flow} {s' : Shared} (h : SP (X.wish E) pins D f s') : SP X pins D f s' := by
 cases f with
 | next => obtain ⟨σ', H', I, q⟩ := h; exact ⟨σ', H', I.unwish, q⟩
 | brk => obtain ⟨σ', H', I, q⟩ := h; exact ⟨σ', H', I.unwish, q⟩
 | cont => obtain ⟨σ', H', I, q⟩ := h; exact ⟨σ', H', I.unwish, q⟩
 | ret u => obtain ⟨v, σ', H', I, r, q⟩ := h; exact ⟨v, σ', H', I.unwish, r, q⟩
theorem PSs.nox {st : List Stmt} {t : TS} (h : PSs X.nox st t) : PSs X st t := fun pins s σ H D I hw =>
 wpAny_mono (h pins s σ H D (I.wish _) hw) (fun _ _ q => q.unwish) fun _ _ z => False.elim z
end
section
variable {X : Cx} {st : Stmt} {rest : List Stmt} {t u : TS} {e : Expr} {te : TE} {pos : Pos}
def tNext : TS := fun D σ H => D.nx σ H
def tSeq (t u : TS) : TS := fun D σ H => t { D with nx := u D } σ H
theorem pss_nil : PSs X [] tNext := fun _ _ σ H _ I h => wpAny_execs_nil ⟨σ, H, I, h⟩
theorem pss_cons (h1 : PS X st t) (h2 : PSs X rest u) : PSs X (st :: rest) (tSeq t u) := by
 intro pins s σ H D I h
 refine wpAny_execs_cons (thn (h1 pins s σ H { D with nx := u D } I h) fun f s1 q => ?_)
 cases f with
 | next =>
  obtain ⟨σ', H', I', q⟩ := q
  exact h2 pins s1 σ' H' D I' q
 | ret v => exact q
 | brk => exact q
 | cont => exact q
theorem pss_one (h1 : PS X st t) : PSs X [st] t := by
 intro pins s σ H D I h
 refine wpAny_execs_cons (thn (h1 pins s σ H D I h) fun f s1 q => ?_)
 cases f with
 | next => exact wpAny_execs_nil q
 | ret v => exact q
 | brk => exact q
 | cont => exact q
def tBreak : TS := fun D σ H => D.bk σ H
def tCont : TS := fun D σ H => D.ct σ H
theorem Inv.quiet {pins : List (Addr × Obj)} {σ : St} {H : Hp} {s : Shared} (I : Inv X pins σ H s) : interactive X.env = false := by simp [interactive, I.ok.kind]
def tDrop (te : TE) : TS := fun D σ H => te σ H fun _ H1 => D.nx σ H1
theorem ps_expr (he : PE X e te) (hs : swapsWith e none pos.line X.env = pure false := by rfl) : PS X (.Expr e pos) (tDrop te) := by
 intro pins s σ H D I h
 exact wpAny_Expr_any (thn (he pins s σ H _ I h) fun v s1 ⟨x, H1, I1, r1, q1⟩ => ⟨σ, H1, I1, q1⟩) I.quiet hs
def tRet (te : TE) : TS := fun D σ H => te σ H D.rt
theorem ps_ret (he : PE X e te) : PS X (.Return (some e) pos) (tRet te) := by
 intro pins s σ H D I h
 exact wpAny_Return_some (thn (he pins s σ H _ I h) fun v s1 ⟨x, H1, I1, r1, q1⟩ => ⟨x, σ, H1, I1, r1, q1⟩)
def tIfS (c : TT) (t u : TS) : TS := fun D σ H => c σ H fun b H1 => if b = true then t D σ H1 else u D σ H1
theorem ps_if {c : Expr} {a b : List Stmt} {tc : TT} (hc : PT X c tc) (ha : PSs X a t) (hb : PSs X b u) : PS X (.If c a b pos) (tIfS tc t u) := by
 intro pins s σ H D I h
 refine wpAny_If (thn (hc pins s σ H _ I h) fun d s1 ⟨H1, I1, q1⟩ => ?_)
 cases d with
 | true => exact ha pins s1 σ H1 D I1 q1
 | false => exact hb pins s1 σ H1 D I1 q1
end
abbrev TG := V → St → Hp → (St → Hp → Prop) → Prop
abbrev TGs := List V → St → Hp → (St → Hp → Prop) → Prop
def PG (X : Cx) (target : Expr) (t : TG) : Prop :=
 ∀ (pins : List (Addr × Obj)) (s : Shared) (σ : St) (H : Hp) (v : V) (u : Value) (Q : St → Hp → Prop), Inv X pins σ H s → RelV v u → t v σ H Q →
  wpAny (model X.prog X.w) X.A (assign target X.env u) (fun _ s' => ∃ σ' H', Inv X pins σ' H' s' ∧ Q σ' H') X.xe s
def PGs (X : Cx) (ts : List Expr) (t : TGs) : Prop :=
 ∀ (pins : List (Addr × Obj)) (s : Shared) (σ : St) (H : Hp) (vs : List V) (us : List Value) (Q : St → Hp → Prop), Inv X pins σ H s → Vals vs us → t vs σ H Q →
  wpAny (model X.prog X.w) X.A (assignInOrder ((assignEach ts X.env).map (·.2)) us) (fun _ s' => ∃ σ' H', Inv X pins σ' H' s' ∧ Q σ' H') X.xe s
abbrev TSet := V → V → V → Hp → (Hp → Prop) → Prop
section
variable {X : Cx} {pos : Pos}
def gName (i : Nat) : TG := fun v σ H Q => Q (σ.set i (some v)) H
theorem pg_name {i : Nat} {x : Str} (hN : X.N.Nodup) (hi : X.N[i]? = some x) (hx : Loc X.env.scope x) (hf : X.fn x = true ∨ X.env.scope.names.lookup x = some .local := by first | exact .inl rfl | exact .inr rfl | assumption) : PG X (.Name x pos) (gName i) := by
 intro pins s σ H v u Q I r h
 exact wpAny_assign_Name (store_ok I hN hi hx r (fun s' I' => ⟨_, H, I', h⟩) hf)
def gNil : TGs := fun vs σ H Q => vs = [] ∧ Q σ H
def gCons (t : TG) (u : TGs) : TGs := fun vs σ H Q => ∃ v r, vs = v :: r ∧ t v σ H fun σ' H' => u r σ' H' Q
theorem pgs_nil : PGs X [] gNil := by
 intro pins s σ H vs us Q I r h
 obtain ⟨e, h⟩ := h
 subst e
 cases r
 exact assignInOrder_nil ⟨σ, H, I, h⟩
theorem pgs_cons {e : Expr} {es : List Expr} {t : TG} {u : TGs} (h1 : PG X e t) (h2 : PGs X es u)
  (hs : (assignEach (e :: es) X.env).map (·.2) = assign e X.env :: (assignEach es X.env).map (·.2) := by rfl) : PGs X (e :: es) (gCons t u) := by
 intro pins s σ H vs us Q I r h
 obtain ⟨v, vr, e1, h⟩ := h
 subst e1
 cases r with
 | cons r rr =>
  rw [hs]
  refine assignInOrder_cons (thn (h1 pins s σ H _ _ _ I r h) fun _ s1 ⟨σ1, H1, I1, q1⟩ => ?_)
  exact h2 pins s1 σ1 H1 _ _ Q I1 rr q1
def gTup (K : PySem.W.Frag) (n : Nat) (t : TGs) : TG := fun v σ H Q => ∃ a xs, v = .ref a ∧ SqT K H a xs ∧ xs.length = n ∧ t xs σ H Q
theorem pg_tup {es : List Expr} {k : Nat} {t : TGs} {n : Nat} (hc : X.calm = true) (h : PGs X es t)
  (hn : (assignEach es X.env).length = n := by rfl) (hst : (assignEach es X.env).findIdx? (·.1) = none := by rfl) : PG X (.Tuple es k pos) (gTup X.K n t) := by
 intro pins s σ H v u Q I r hw
 obtain ⟨a, xs, e1, hq, hl, hw⟩ := hw
 subst e1
 cases r
 obtain ⟨its, rv, ht, hz⟩ := I.tuple hq
 refine assign_Tuple_tuple (I.ok.hd hc) ht (by simp [hn, ← hl, rv.length]) hst fun h' hx => ?_
 have I1 : Inv X pins σ H { s with heap := h' } := I.kept (t' := s.toks) fun b o e => hx b o (Nat.ne_of_lt (Heap.lt_size e)) e
 exact h pins _ σ H xs _ Q I1 (by simpa using rv) hw
def gSub (to ti : TE) (t : TSet) : TG := fun v σ H Q => to σ H fun o H1 => ti σ H1 fun i H2 => t o i v H2 fun H3 => Q σ H3
def tAsg (te : TE) (g : TG) : TS := fun D σ H => te σ H fun x H1 => g x σ H1 D.nx
theorem ps_set {i : Nat} {x : Str} {e : Expr} {te : TE} {pos' : Pos} (hN : X.N.Nodup) (hi : X.N[i]? = some x) (hx : Loc X.env.scope x) (he : PE X e te) (hs : swapsWith e (some (.Name x pos')) pos.line X.env = pure false := by rfl) (hf : X.fn x = true ∨ X.env.scope.names.lookup x = some .local := by first | exact .inl rfl | exact .inr rfl | assumption) :
  PS X (.Assign [.Name x pos'] e pos) (tAsg te (gName i)) := by
 intro pins s σ H D I h
 refine wpAny_Assign_Name (thn (he pins s σ H _ I h) fun v s1 ⟨y, H1, I1, r1, q1⟩ => ?_) hs
 exact store_ok I1 hN hi hx r1 (fun s2 I2 => ⟨_, H1, I2, q1⟩) hf
end
section
variable {X : Cx} {pos : Pos}
def tWhile (c : TT) (tb : TS) : TS := fun D σ H => ∃ W : Nat → St → Hp → Prop, (∃ m, W m σ H) ∧ ∀ m σ H, W m σ H →
 c σ H fun b H1 => if b = true then ∃ N : St → Hp → Prop, (∀ σ' H', N σ' H' → ∃ m', m' < m ∧ W m' σ' H') ∧ tb { D with nx := N, ct := N, bk := D.nx } σ H1 else D.nx σ H1
end
structure It where
 go : Nat → Hp → Prop
 yld : Nat → Hp → V → Hp → Prop
 stop : Nat → Hp → Prop
def FpOk (X : Cx) (pins : List (Addr × Obj)) (H : Hp) (b : Addr) : Prop :=
 H b = none ∧ b ≠ X.env.locals ∧ b ∉ X.fs ∧ (b ∈ X.ex ∨ X.s₀.heap.objs.size ≤ b) ∧ (∀ x c, X.env.cells.lookup x = some c → c ≠ b) ∧ ∀ p ∈ X.pn ++ pins, p.1 ≠ b
theorem Inv.fpOk {X : Cx} {pins : List (Addr × Obj)} {σ : St} {H H' : Hp} {s : Shared} {b : Addr} (I : Inv X pins σ H s) (hb : s.heap.objs.size ≤ b) (hn : H' b = none) : FpOk X pins H' b := by
 refine ⟨hn, Nat.ne_of_gt (Nat.lt_of_lt_of_le I.lt hb), I.nofs hb, .inr (Nat.le_trans I.sz hb), fun x c e z => ?_, fun p hp z => ?_⟩
 ·obtain ⟨v, q⟩ := I.cell x c e
  exact absurd (Nat.lt_of_lt_of_le q.lt (by rw [z]; exact hb)) (Nat.lt_irrefl _)
 ·exact absurd (Nat.lt_of_lt_of_le (Heap.lt_size (I.pin p hp).1) (by rw [z]; exact hb)) (Nat.lt_irrefl _)
structure Turn (P : Program) (w : World) (K : PySem.W.Frag) (tg : Expr) (J : It) (fp : List Addr) (it : Addr) (tn : Nat → Heap → Prop) : Prop where
 mem : it ∈ fp
 obj : ∀ i h, tn i h → ∀ b ∈ fp, ∃ o, h.get? b = some o ∧ ∀ v, o.data ≠ .cell v
 keep : ∀ i h h', tn i h → (∀ b ∈ fp, ∀ o, h.get? b = some o → h'.get? b = some o) → tn i h'
 item : ∀ (X : Cx), X.prog = P → X.w = w → X.K = K → X.calm = true → ∀ (i : Nat) (pins : List (Addr × Obj)) (s : Shared) (σ : St) (H : Hp) (E : Value → Shared → Prop), Inv X pins σ H s → (∀ b ∈ fp, FpOk X pins H b) → tn i s.heap → J.go i H →
  wpAny (model P w) X.A (pyNext (.ref it)) (fun r s1 => ∃ u, r = some u ∧
   wpAny (model P w) X.A (letOwnedTupleGo tg (.ref it) u) (fun _ s2 => ∃ x H', Inv X pins σ H' s2 ∧ RelV x u ∧ J.yld i H x H' ∧ tn (i + 1) s2.heap ∧ ∀ b ∈ fp, H' b = none) E s1) E s
 done : ∀ (X : Cx), X.prog = P → X.w = w → X.K = K → X.calm = true → ∀ (i : Nat) (pins : List (Addr × Obj)) (s : Shared) (σ : St) (H : Hp) (E : Value → Shared → Prop), Inv X pins σ H s → (∀ b ∈ fp, FpOk X pins H b) → tn i s.heap → J.stop i H →
  wpAny (model P w) X.A (pyNext (.ref it)) (fun r s1 => r = none ∧ Inv X pins σ H s1) E s
 self : ∀ (A : Around) (i : Nat) (s : Shared) (Q : Value → Shared → Prop) (E : Value → Shared → Prop), tn i s.heap → Q (.ref it) s → wpAny (model P w) A (pyIter (.ref it)) Q E s
abbrev TI := St → Hp → (It → Hp → Prop) → Prop
def PIE (X : Cx) (pins : List (Addr × Obj)) (σ : St) (tg : Expr) (R : It → Hp → Prop) (itv : Value) (s2 : Shared) : Prop :=
 ∃ (it : Addr) (fp : List Addr) (tn : Nat → Heap → Prop) (J : It) (H' : Hp), itv = .ref it ∧ Inv X pins σ H' s2 ∧ Turn X.prog X.w X.K tg J fp it tn ∧ tn 0 s2.heap ∧ (∀ b ∈ fp, FpOk X pins H' b) ∧ R J H'
def PI (X : Cx) (tg iter : Expr) (wi : TI) : Prop :=
 ∀ (pins : List (Addr × Obj)) (s : Shared) (σ : St) (H : Hp) (R : It → Hp → Prop), Inv X pins σ H s → wi σ H R →
  wpAny (model X.prog X.w) X.A (eval iter X.env) (fun v s1 => wpAny (model X.prog X.w) X.A (pyIter v) (PIE X pins σ tg R) X.xe s1) X.xe s
theorem go_of {M : Model} {A : Around} {E : Value → Shared → Prop} {s : Shared} {tg : Expr} {it : Addr} {u : Value} {o : Obj} {n : String} {vs : Array Value} {Q : Unit → Shared → Prop} (ho : s.heap.get? it = some o) (hc : o.cls = .type n) (hd : o.data = .fields vs)
  (hn : ["enumerate", "zip", "dict_itemiterator", "dict_reverseitemiterator", "odict_iterator", "itertools.zip_longest", "itertools.pairwise"].contains n = false) (hQ : Q () s) : wpAny M A (letOwnedTupleGo tg (.ref it) u) Q E s := by
 unfold letOwnedTupleGo
 cases tg <;> first
  | exact wpAny_pure hQ
  | (cases u <;> first
    | exact wpAny_pure hQ
    | (refine wpAny_bind (wpAny_load ho ?_); rw [hc, hd]; show wpAny M A (if (["enumerate", "zip", "dict_itemiterator", "dict_reverseitemiterator", "odict_iterator", "itertools.zip_longest", "itertools.pairwise"].contains n && vs[0]? == some (rawInt _)) = true then _ else _) Q E s; rw [if_neg (by intro h; rw [hn, Bool.false_and] at h; cases h)]; exact wpAny_pure hQ))
def Itl (K : PySem.W.Frag) (a : Addr) : It :=
 ⟨fun i H => ∃ xs x, SqL K H a xs ∧ xs[i]? = some x, fun i H x H' => H' = H ∧ ∀ xs, SqL K H a xs → xs[i]? = some x, fun i H => ∃ xs, SqL K H a xs ∧ xs.length ≤ i⟩
def Itt (K : PySem.W.Frag) (a : Addr) : It :=
 ⟨fun i H => ∃ xs x, SqT K H a xs ∧ xs[i]? = some x, fun i H x H' => H' = H ∧ ∀ xs, SqT K H a xs → xs[i]? = some x, fun i H => ∃ xs, SqT K H a xs ∧ xs.length ≤ i⟩
def Itr (lo : Int) (n : Nat) : It := ⟨fun i _ => i < n, fun i H x H' => H' = H ∧ x = .int (lo + i), fun i _ => n ≤ i⟩
theorem turn_list {P : Program} {w : World} {K : PySem.W.Frag} {tg : Expr} (a it : Addr) : Turn P w K tg (Itl K a) [it] it (fun i h => h.IsListIter it a i) where
 mem := by simp
 obj := fun i h st b hb => by
  have e : b = it := by simpa using hb
  subst e
  obtain ⟨o, e, c, d⟩ := st
  exact ⟨o, e, fun v z => by rw [d] at z; cases z⟩
 keep := fun i h h' st k => st.at fun o e => k it (by simp) o e
 item := by
  intro X hP hw hK hc i pins s σ H E I hf st hg
  subst hP hw hK
  obtain ⟨xs, x, hq, hx⟩ := hg
  obtain ⟨its, rv, p, hz⟩ := I.list hq
  obtain ⟨u, hu, ru⟩ := rv.get hx
  obtain ⟨f0, f1, f2, f3, f4, f5⟩ := hf it (by simp)
  refine wpAny_pyNext_list_item st p.isList (x := u) (by simpa using hu) fun h' st' sb => ?_
  have I1 : Inv X pins σ H { s with heap := h' } := I.turned (t' := s.toks) (fun b o hb e => (sb.2 b hb).trans e) f0 f1 f3 f4 f5
  obtain ⟨o, e, c, d⟩ := id st'
  exact ⟨u, rfl, go_of (s := { s with heap := h' }) e c d (by decide) ⟨x, H, I1, ru, ⟨rfl, fun ys hy => by rw [I.list_inj hy hq]; exact hx⟩, st', fun b hb => (hf b hb).1⟩⟩
 done := by
  intro X hP hw hK hc i pins s σ H E I hf st hg
  subst hP hw hK
  obtain ⟨xs, hq, hx⟩ := hg
  obtain ⟨its, rv, p, hz⟩ := I.list hq
  obtain ⟨f0, f1, f2, f3, f4, f5⟩ := hf it (by simp)
  have hl := rv.length
  exact wpAny_pyNext_list_end (I.ok.hd hc) st p.isList (by simp; omega) fun h' eb => ⟨rfl, I.turned (t' := s.toks) (fun b o hb e => eb b o hb e) f0 f1 f3 f4 f5⟩
 self := fun _ _ _ _ _ st h => wpAny_pyIter_listiter st h
theorem turn_tuple {P : Program} {w : World} {K : PySem.W.Frag} {tg : Expr} (a it : Addr) : Turn P w K tg (Itt K a) [it] it (fun i h => h.IsTupleIter it a i) where
 mem := by simp
 obj := fun i h st b hb => by
  have e : b = it := by simpa using hb
  subst e
  obtain ⟨o, e, c, d⟩ := st
  exact ⟨o, e, fun v z => by rw [d] at z; cases z⟩
 keep := fun i h h' st k => st.at fun o e => k it (by simp) o e
 item := by
  intro X hP hw hK hc i pins s σ H E I hf st hg
  subst hP hw hK
  obtain ⟨xs, x, hq, hx⟩ := hg
  obtain ⟨its, rv, p, hz⟩ := I.tuple hq
  obtain ⟨u, hu, ru⟩ := rv.get hx
  obtain ⟨f0, f1, f2, f3, f4, f5⟩ := hf it (by simp)
  refine wpAny_pyNext_tuple_item st (show s.heap.IsTuple a its.toArray from p) (x := u) (by simpa using hu) fun h' st' sb => ?_
  have I1 : Inv X pins σ H { s with heap := h' } := I.turned (t' := s.toks) (fun b o hb e => (sb.2 b hb).trans e) f0 f1 f3 f4 f5
  obtain ⟨o, e, c, d⟩ := id st'
  exact ⟨u, rfl, go_of (s := { s with heap := h' }) e c d (by decide) ⟨x, H, I1, ru, ⟨rfl, fun ys hy => by rw [I.tuple_inj hy hq]; exact hx⟩, st', fun b hb => (hf b hb).1⟩⟩
 done := by
  intro X hP hw hK hc i pins s σ H E I hf st hg
  subst hP hw hK
  obtain ⟨xs, hq, hx⟩ := hg
  obtain ⟨its, rv, p, hz⟩ := I.tuple hq
  obtain ⟨f0, f1, f2, f3, f4, f5⟩ := hf it (by simp)
  have hl := rv.length
  exact wpAny_pyNext_tuple_end (I.ok.hd hc) st (show s.heap.IsTuple a its.toArray from p) (by simp; omega) fun h' eb => ⟨rfl, I.turned (t' := s.toks) (fun b o hb e => eb b o hb e) f0 f1 f3 f4 f5⟩
 self := fun _ _ _ _ _ st h => wpAny_pyIter_tupleiter st h
theorem turn_range {P : Program} {w : World} {K : PySem.W.Frag} {tg : Expr} (it : Addr) (lo : Int) (n : Nat) : Turn P w K tg (Itr lo n) [it] it (fun i h => IsRangeIter h it (lo + (i : Nat) * 1) ((n : Int) - (i : Nat)) 1) where
 mem := by simp
 obj := fun i h st b hb => by
  have e : b = it := by simpa using hb
  subst e
  exact ⟨_, st, fun v z => by
   have z' : Data.fields _ = Data.cell v := z
   cases z'⟩
 keep := fun i h h' st k => k it (by simp) _ st
 item := by
  intro X hP hw hK hc i pins s σ H E I hf st hg
  subst hP hw hK
  obtain ⟨f0, f1, f2, f3, f4, f5⟩ := hf it (by simp)
  have W := Walks.range (prog := X.prog) (w := X.w) (I.ok.hd hc) it lo 1 n
  refine W.item i s _ _ hg st fun v h' tk hv st' kk => ?_
  obtain ⟨t, rfl⟩ := hv
  have I1 : Inv X pins σ H { s with heap := h', toks := tk } := I.turned (fun b o hb e => kk b o (by simpa using hb) e) f0 f1 f3 f4 f5
  refine ⟨_, rfl, go_of (s := { s with heap := h', toks := tk }) (n := "range_iterator") st' rfl rfl (by decide) ⟨.int (lo + i), H, I1, ⟨t, ?_⟩, ⟨rfl, rfl⟩, st', fun b hb => (hf b hb).1⟩⟩
  rw [Int.mul_one]
 done := by
  intro X hP hw hK hc i pins s σ H E I hf st hg
  subst hP hw hK
  obtain ⟨f0, f1, f2, f3, f4, f5⟩ := hf it (by simp)
  exact wpAny_pyNext_range_end (I.ok.hd hc) st (by have : n ≤ i := hg; omega) fun h' eb => ⟨rfl, I.turned (t' := s.toks) (fun b o hb e => eb b o hb e) f0 f1 f3 f4 f5⟩
 self := fun _ _ _ _ _ st h => wpAny_pyIter_rangeiter st h
end L2
namespace L2
open PySem PySem.Spec PyProof.Rows
section
variable {X : Cx} {tg : Expr}
theorem range_it {pins : List (Addr × Obj)} {σ : St} {H : Hp} {s : Shared} {R : It → Hp → Prop} {E : Value → Shared → Prop} {lo hi : Int} {t u v : Tok} {tk : Nat} (I : Inv X pins σ H s) (h1 : -(2 ^ 62) ≤ lo) (h2 : lo < 2 ^ 62) (h3 : -(2 ^ 62) ≤ hi) (h4 : hi < 2 ^ 62)
  (q : R (Itr lo (hi - lo).toNat) H) : wpAny (model X.prog X.w) X.A (pyIter (.ref s.heap.objs.size)) (PIE X pins σ tg R) E { s with heap := s.heap.push { cls := .type "range", data := .fields #[.int lo t, .int hi u, .int 1 v] }, toks := tk } := by
 refine wpAny_pyIter_range (IsRange.new ..) (small_one h1 h2 h3 h4) ?_
 have I1 : Inv X pins σ H { s with heap := s.heap.push { cls := .type "range", data := .fields #[.int lo t, .int hi u, .int 1 v] }, toks := tk } := I.kept fun b o e => Heap.get?_push_of_some _ e
 refine ⟨(s.heap.push { cls := .type "range", data := .fields #[.int lo t, .int hi u, .int 1 v] }).objs.size, [(s.heap.push { cls := .type "range", data := .fields #[.int lo t, .int hi u, .int 1 v] }).objs.size], _, _, H, rfl,
  I1.kept (t' := tk) fun b o e => Heap.get?_push_of_some _ e, turn_range _ lo (hi - lo).toNat, ?_, fun b hb => ?_, q⟩
 ·have e1 : lo + ((0 : Nat) : Int) * 1 = lo := by simp
  have e2 : (((hi - lo).toNat : Nat) : Int) - ((0 : Nat) : Int) = Builtin.Range.rangeSize lo hi 1 := by rw [rangeSize_one]; split <;> omega
  show IsRangeIter _ _ (lo + ((0 : Nat) : Int) * 1) ((((hi - lo).toNat : Nat) : Int) - ((0 : Nat) : Int)) 1
  rw [e1, e2]
  exact Heap.get?_push_size _ rfl
 ·have e : b = (s.heap.push { cls := .type "range", data := .fields #[.int lo t, .int hi u, .int 1 v] }).objs.size := by simpa using hb
  subst e
  exact I1.fpOk (Nat.le_refl _) (I1.hok.fresh (Nat.le_refl _))
def tFor (wi : TI) (g : TG) (tb : TS) : TS := fun D σ H => wi σ H fun J H1 => ∃ W : Nat → Nat → St → Hp → Prop, (∃ m, W 0 m σ H1) ∧ ∀ i m σ H, W i m σ H →
 (J.stop i H ∧ D.nx σ H) ∨ (J.go i H ∧ ∃ N : St → Hp → Prop, (∀ σ' H', N σ' H' → ∃ m', m' < m ∧ W (i + 1) m' σ' H') ∧ ∀ x H', J.yld i H x H' → g x σ H' fun σ2 H2 => tb { D with nx := N, ct := N, bk := D.nx } σ2 H2)
def pinsAt (fp : List Addr) (h : Heap) : List (Addr × Obj) := fp.filterMap fun b => (h.get? b).map fun o => (b, o)
theorem mem_pinsAt {fp : List Addr} {h : Heap} {b : Addr} {o : Obj} (hb : b ∈ fp) (e : h.get? b = some o) : (b, o) ∈ pinsAt fp h := List.mem_filterMap.mpr ⟨b, hb, by rw [e]; rfl⟩
theorem of_pinsAt {fp : List Addr} {h : Heap} {p : Addr × Obj} (hp : p ∈ pinsAt fp h) : p.1 ∈ fp ∧ h.get? p.1 = some p.2 := by
 obtain ⟨b, hb, e⟩ := List.mem_filterMap.mp hp
 cases q : h.get? b with
 | none => rw [q] at e; cases e
 | some o =>
  rw [q] at e
  have e' : (b, o) = p := Option.some.inj e
  subst e'
  exact ⟨hb, q⟩
theorem Inv.pinned {pins : List (Addr × Obj)} {σ : St} {H : Hp} {s : Shared} {fp : List Addr} (I : Inv X pins σ H s) (hf : ∀ b ∈ fp, FpOk X pins H b) (ho : ∀ b ∈ fp, ∃ o, s.heap.get? b = some o ∧ ∀ v, o.data ≠ .cell v) : Inv X (pins ++ pinsAt fp s.heap) σ H s :=
 I.pins_of fun p hp => (List.mem_append.mp hp).elim (fun z => I.pin p (List.mem_append_right _ z)) fun z => by
  obtain ⟨hb, e⟩ := of_pinsAt z
  obtain ⟨f0, f1, f2, _⟩ := hf p.1 hb
  obtain ⟨o, e', d⟩ := ho p.1 hb
  rw [e] at e'; cases e'
  exact ⟨e, f0, f1, f2, d⟩
theorem Inv.unpinned {pins pl : List (Addr × Obj)} {σ : St} {H : Hp} {s : Shared} (I : Inv X (pins ++ pl) σ H s) : Inv X pins σ H s := I.pins_of fun p hp => I.pin p (List.mem_append_right _ (List.mem_append_left _ hp))
theorem ps_for {iter : Expr} {body : List Stmt} {wi : TI} {g : TG} {tb : TS} {pos : Pos} (hp : PassesOwn (model X.prog X.w) X.A X.env X.xe) (hc : X.calm = true) (hi : PI X tg iter wi) (hg : PG X tg g) (hb : PSs X body tb)
  (hs : ∀ x, foldedSetIterable iter X.env x = pure x := by intro _; rfl) : PS X (.For tg iter body [] pos) (tFor wi g tb) := by
 intro pins s σ H D I h
 refine wpAny_For (thn (hi pins s σ H _ I h) fun v s1 h1 => thn h1 fun itv s2 h2 => ?_) hs
 obtain ⟨it, fp, tn, J, H2, e, I2, T, st2, f2, W, ⟨m0, w0⟩, turn⟩ := h2
 subst e
 have stat : ∀ {H' : Hp}, (∀ b ∈ fp, H' b = none) → ∀ b ∈ fp, FpOk X pins H' b := fun hn b hb => ⟨hn b hb, (f2 b hb).2⟩
 refine codeAny_forLoop_any (fun n s' => ∃ i σ' H', Inv X pins σ' H' s' ∧ tn i s'.heap ∧ (∀ b ∈ fp, H' b = none) ∧ W i n σ' H') ?_ m0 ⟨0, σ, H2, I2, st2, fun b hb => (f2 b hb).1, w0⟩
 rintro n s3 ⟨i, σ3, H3, I3, st3, fr3, w3⟩
 rcases turn i n σ3 H3 w3 with ⟨stop, qn⟩ | ⟨go, N, hN, step⟩
 ·refine wpAny_passesOwn hp (thn (T.done X rfl rfl rfl hc i pins s3 σ3 H3 X.xe I3 (stat fr3) st3 stop) fun r s4 ⟨hr, I4⟩ => ?_)
  subst hr
  exact wpAny_execs_nil ⟨σ3, H3, I4, qn⟩
 ·refine wpAny_passesOwn hp (thn (T.item X rfl rfl rfl hc i pins s3 σ3 H3 X.xe I3 (stat fr3) st3 go) fun r s4 ⟨u, hr, h4⟩ => ?_)
  subst hr
  refine wpAny_passesOwn hp (thn h4 fun _ s5 ⟨x, H5, I5, r5, y5, st5, fr5⟩ => ?_)
  have I5' := I5.pinned (stat fr5) (T.obj _ _ st5)
  refine wpAny_passesOwn hp (thn (hg _ s5 σ3 H5 x u _ I5' r5 (step x H5 y5)) fun _ s6 ⟨σ6, H6, I6, q6⟩ => ?_)
  refine wpAny_passesOwn hp (thn (hb _ s6 σ6 H6 _ I6 q6) fun f s7 q7 => ?_)
  have again : ∀ {σ7 : St} {H7 : Hp}, Inv X (pins ++ pinsAt fp s5.heap) σ7 H7 s7 → N σ7 H7 → ∃ m, m < n ∧ ∃ i σ' H', Inv X pins σ' H' s7 ∧ tn i s7.heap ∧ (∀ b ∈ fp, H' b = none) ∧ W i m σ' H' := fun {σ7 H7} I7 n7 => by
   obtain ⟨m', hm, w7⟩ := hN σ7 H7 n7
   refine ⟨m', hm, i + 1, σ7, H7, I7.unpinned, T.keep _ _ _ st5 fun b hb o e => (I7.pin (b, o) (List.mem_append_right _ (List.mem_append_right _ (mem_pinsAt hb e)))).1, fun b hb => ?_, w7⟩
   obtain ⟨o, e, d⟩ := T.obj _ _ st5 b hb
   exact (I7.pin (b, o) (List.mem_append_right _ (List.mem_append_right _ (mem_pinsAt hb e)))).2.1
  cases f with
  | next => obtain ⟨σ7, H7, I7, n7⟩ := q7; exact again I7 n7
  | cont => obtain ⟨σ7, H7, I7, n7⟩ := q7; exact again I7 n7
  | brk => obtain ⟨σ7, H7, I7, q7⟩ := q7; exact ⟨σ7, H7, I7.unpinned, q7⟩
  | ret v => obtain ⟨x7, σ7, H7, I7, r7, q7⟩ := q7; exact ⟨x7, σ7, H7, I7.unpinned, r7, q7⟩
end
theorem for_list {K : PySem.W.Frag} {a : Addr} {xs : List V} {g : TG} {tb : TS} {D : Ends} {σ : St} {H : Hp} (Pv : Nat → St → Hp → Prop) (h0 : Pv 0 σ H) (hl : ∀ i σ H, i ≤ xs.length → Pv i σ H → SqL K H a xs)
  (hs : ∀ i x σ H, xs[i]? = some x → Pv i σ H → g x σ H fun σ2 H2 => tb { D with nx := Pv (i + 1), ct := Pv (i + 1), bk := D.nx } σ2 H2) (hd : ∀ σ H, Pv xs.length σ H → D.nx σ H) :
  ∃ W : Nat → Nat → St → Hp → Prop, (∃ m, W 0 m σ H) ∧ ∀ i m σ H, W i m σ H →
   ((Itl K a).stop i H ∧ D.nx σ H) ∨ ((Itl K a).go i H ∧ ∃ N : St → Hp → Prop, (∀ σ' H', N σ' H' → ∃ m', m' < m ∧ W (i + 1) m' σ' H') ∧ ∀ x H', (Itl K a).yld i H x H' → g x σ H' fun σ2 H2 => tb { D with nx := N, ct := N, bk := D.nx } σ2 H2) := by
 refine ⟨fun i m σ H => m = xs.length - i ∧ i ≤ xs.length ∧ Pv i σ H, ⟨xs.length, by simp, Nat.zero_le _, h0⟩, ?_⟩
 rintro i m σ H ⟨rfl, hi, p⟩
 have q := hl i σ H hi p
 by_cases hlt : i < xs.length
 ·refine .inr ⟨⟨xs, xs[i], q, by simp [hlt]⟩, Pv (i + 1), fun σ' H' p' => ⟨xs.length - (i + 1), by omega, rfl, hlt, p'⟩, fun x H' y => ?_⟩
  obtain ⟨e, y⟩ := y
  subst e
  exact hs i x σ _ (y xs q) p
 ·have e : i = xs.length := by omega
  subst e
  exact .inl ⟨⟨xs, q, Nat.le_refl _⟩, hd σ H p⟩
theorem for_tup {K : PySem.W.Frag} {a : Addr} {xs : List V} {g : TG} {tb : TS} {D : Ends} {σ : St} {H : Hp} (Pv : Nat → St → Hp → Prop) (h0 : Pv 0 σ H) (hl : ∀ i σ H, i ≤ xs.length → Pv i σ H → SqT K H a xs)
  (hs : ∀ i x σ H, xs[i]? = some x → Pv i σ H → g x σ H fun σ2 H2 => tb { D with nx := Pv (i + 1), ct := Pv (i + 1), bk := D.nx } σ2 H2) (hd : ∀ σ H, Pv xs.length σ H → D.nx σ H) :
  ∃ W : Nat → Nat → St → Hp → Prop, (∃ m, W 0 m σ H) ∧ ∀ i m σ H, W i m σ H →
   ((Itt K a).stop i H ∧ D.nx σ H) ∨ ((Itt K a).go i H ∧ ∃ N : St → Hp → Prop, (∀ σ' H', N σ' H' → ∃ m', m' < m ∧ W (i + 1) m' σ' H') ∧ ∀ x H', (Itt K a).yld i H x H' → g x σ H' fun σ2 H2 => tb { D with nx := N, ct := N, bk := D.nx } σ2 H2) := by
 refine ⟨fun i m σ H => m = xs.length - i ∧ i ≤ xs.length ∧ Pv i σ H, ⟨xs.length, by simp, Nat.zero_le _, h0⟩, ?_⟩
 rintro i m σ H ⟨rfl, hi, p⟩
 have q := hl i σ H hi p
 by_cases hlt : i < xs.length
 ·refine .inr ⟨⟨xs, xs[i], q, by simp [hlt]⟩, Pv (i + 1), fun σ' H' p' => ⟨xs.length - (i + 1), by omega, rfl, hlt, p'⟩, fun x H' y => ?_⟩
  obtain ⟨e, y⟩ := y
  subst e
  exact hs i x σ _ (y xs q) p
 ·have e : i = xs.length := by omega
  subst e
  exact .inl ⟨⟨xs, q, Nat.le_refl _⟩, hd σ H p⟩
theorem for_range {lo : Int} {n : Nat} {g : TG} {tb : TS} {D : Ends} {σ : St} {H : Hp} (Pv : Nat → St → Hp → Prop) (h0 : Pv 0 σ H)
  (hs : ∀ i σ H, i < n → Pv i σ H → g (.int (lo + i)) σ H fun σ2 H2 => tb { D with nx := Pv (i + 1), ct := Pv (i + 1), bk := D.nx } σ2 H2) (hd : ∀ σ H, Pv n σ H → D.nx σ H) :
  ∃ W : Nat → Nat → St → Hp → Prop, (∃ m, W 0 m σ H) ∧ ∀ i m σ H, W i m σ H →
   ((Itr lo n).stop i H ∧ D.nx σ H) ∨ ((Itr lo n).go i H ∧ ∃ N : St → Hp → Prop, (∀ σ' H', N σ' H' → ∃ m', m' < m ∧ W (i + 1) m' σ' H') ∧ ∀ x H', (Itr lo n).yld i H x H' → g x σ H' fun σ2 H2 => tb { D with nx := N, ct := N, bk := D.nx } σ2 H2) := by
 refine ⟨fun i m σ H => m = n - i ∧ i ≤ n ∧ Pv i σ H, ⟨n, by simp, Nat.zero_le _, h0⟩, ?_⟩
 rintro i m σ H ⟨rfl, hi, p⟩
 by_cases hlt : i < n
 ·refine .inr ⟨hlt, Pv (i + 1), fun σ' H' p' => ⟨n - (i + 1), by omega, rfl, hlt, p'⟩, fun x H' y => ?_⟩
  obtain ⟨e, y⟩ := y
  subst e y
  exact hs i σ _ hlt p
 ·have e : i = n := by omega
  subst e
  exact .inl ⟨Nat.le_refl _, hd σ H p⟩
end L2
namespace L2
open PySem PySem.Spec PyProof.Rows
abbrev R2 := V → V → Hp → VK → Prop
def OpR (X : Cx) (f : Value → Value → Sem Value) (r : R2) : Prop :=
 ∀ (pins : List (Addr × Obj)) (s : Shared) (σ : St) (H : Hp) (x y : V) (v u : Value) (Q : VK), Inv X pins σ H s → RelV x v → RelV y u → r x y H Q →
  wpAny (model X.prog X.w) X.A (f v u) (EP X pins σ Q) X.xe s
def UnR (X : Cx) (f : Value → Sem Value) (r : V → Hp → VK → Prop) : Prop :=
 ∀ (pins : List (Addr × Obj)) (s : Shared) (σ : St) (H : Hp) (x : V) (v : Value) (Q : VK), Inv X pins σ H s → RelV x v → r x H Q →
  wpAny (model X.prog X.w) X.A (f v) (EP X pins σ Q) X.xe s
def CallR (X : Cx) (f : Value) (r : List V → Hp → VK → Prop) : Prop :=
 ∀ (pins : List (Addr × Obj)) (s : Shared) (σ : St) (H : Hp) (xs : List V) (us : List Value) (Q : VK), Inv X pins σ H s → Vals xs us → r xs H Q →
  wpAny (model X.prog X.w) X.A (call f us) (EP X pins σ Q) X.xe s
def tOp (r : R2) (ta tb : TE) : TE := fun σ H Q => ta σ H fun x H1 => tb σ H1 fun y H2 => r x y H2 Q
def tUn (r : V → Hp → VK → Prop) (ta : TE) : TE := fun σ H Q => ta σ H fun x H1 => r x H1 Q
def rI (C : Int → Int → Prop) (g : Int → Int → V) : R2 := fun x y H Q => ∃ i j, x = .int i ∧ y = .int j ∧ C i j ∧ Q (g i j) H
def rI0 (g : Int → Int → V) : R2 := fun x y H Q => ∃ i j, x = .int i ∧ y = .int j ∧ Q (g i j) H
def rU (g : Int → V) : V → Hp → VK → Prop := fun x H Q => ∃ i, x = .int i ∧ Q (g i) H
section
variable {X : Cx} {a b c : Expr} {ta tb tc : TE} {pos : Pos}
theorem binT (ha : PE X a ta) (hb : PE X b tb) {pins : List (Addr × Obj)} {s : Shared} {σ : St} {H : Hp} {R : V → V → Hp → Prop} (I : Inv X pins σ H s)
  (h : ta σ H fun x H1 => tb σ H1 fun y H2 => R x y H2) {Q : Value → Shared → Prop} {f : Value → Value → Sem Value}
  (hf : ∀ v u s2 x y H2, Inv X pins σ H2 s2 → RelV x v → RelV y u → R x y H2 → wpAny (model X.prog X.w) X.A (f v u) Q X.xe s2) :
  wpAny (model X.prog X.w) X.A (eval a X.env) (fun v s₁ => wpAny (model X.prog X.w) X.A (eval b X.env) (fun u s₂ => wpAny (model X.prog X.w) X.A (f v u) Q X.xe s₂) X.xe s₁) X.xe s := by
 refine thn (ha pins s σ H _ I h) fun v s1 ⟨x, H1, I1, r1, q1⟩ => ?_
 refine thn (hb pins s1 σ H1 _ I1 q1) fun u s2 ⟨y, H2, I2, r2, q2⟩ => ?_
 exact hf v u s2 x y H2 I2 r1 r2 q2
theorem pe_op {op : Operator} {r : R2} (ho : OpR X (binaryOp op) r) (ha : PE X a ta) (hb : PE X b tb) : PE X (.BinOp a op b pos) (tOp r ta tb) := by
 intro pins s σ H Q I h
 exact wpAny_BinOp (binT ha hb I h fun v u s2 x y H2 I2 rx ry q => ho pins s2 σ H2 x y v u Q I2 rx ry q)
theorem pe_un {op : UnaryOp} {r : V → Hp → VK → Prop} (ho : UnR X (unaryOp op) r) (ha : PE X a ta) : PE X (.UnaryOp op a pos) (tUn r ta) := by
 intro pins s σ H Q I h
 exact UnaryOp_ (thn (ha pins s σ H _ I h) fun v s1 ⟨x, H1, I1, r1, q1⟩ => ho pins s1 σ H1 x v Q I1 r1 q1)
theorem opI {f : Value → Value → Sem Value} {C : Int → Int → Prop} {g : Int → Int → Int}
  (rule : ∀ (i j : Int) (t u : Tok) (s : Shared) (Q : Value → Shared → Prop) (E : Value → Shared → Prop), C i j → Q (.int (g i j) s.toks) { s with toks := s.toks + 1 } → wpAny (model X.prog X.w) X.A (f (.int i t) (.int j u)) Q E s) :
  OpR X f (rI C fun i j => .int (g i j)) := by
 intro pins s σ H x y v u Q I rx ry h
 obtain ⟨i, j, rfl, rfl, hc, q⟩ := h
 obtain ⟨t, rfl⟩ := rx
 obtain ⟨t', rfl⟩ := ry
 exact rule i j t t' s _ _ hc ⟨.int (g i j), H, I.tok _, ⟨_, rfl⟩, q⟩
theorem opI0 {f : Value → Value → Sem Value} {g : Int → Int → Int}
  (rule : ∀ (i j : Int) (t u : Tok) (s : Shared) (Q : Value → Shared → Prop) (E : Value → Shared → Prop), Q (.int (g i j) s.toks) { s with toks := s.toks + 1 } → wpAny (model X.prog X.w) X.A (f (.int i t) (.int j u)) Q E s) :
  OpR X f (rI0 fun i j => .int (g i j)) := by
 intro pins s σ H x y v u Q I rx ry h
 obtain ⟨i, j, rfl, rfl, q⟩ := h
 obtain ⟨t, rfl⟩ := rx
 obtain ⟨t', rfl⟩ := ry
 exact rule i j t t' s _ _ ⟨.int (g i j), H, I.tok _, ⟨_, rfl⟩, q⟩
theorem opB0 {f : Value → Value → Sem Value} {g : Int → Int → Bool}
  (rule : ∀ (i j : Int) (t u : Tok) (s : Shared) (Q : Value → Shared → Prop) (E : Value → Shared → Prop), Q (.bool (g i j)) s → wpAny (model X.prog X.w) X.A (f (.int i t) (.int j u)) Q E s) :
  OpR X f (rI0 fun i j => .bl (g i j)) := by
 intro pins s σ H x y v u Q I rx ry h
 obtain ⟨i, j, rfl, rfl, q⟩ := h
 obtain ⟨t, rfl⟩ := rx
 obtain ⟨t', rfl⟩ := ry
 exact rule i j t t' s _ _ ⟨.bl (g i j), H, I, rfl, q⟩
def CDiv (i j : Int) : Prop := 0 < j ∧ j < 1073741824
def CMul (i j : Int) : Prop := (-(2 ^ 64) < i ∧ i < 2 ^ 64) ∨ (-(2 ^ 64) < j ∧ j < 2 ^ 64)
theorem CMul.ok {i j : Int} (h : CMul i j) : IntMulOk i j := by
 rcases h with ⟨h1, h2⟩ | ⟨h1, h2⟩
 ·exact .of_left (intBits_le_64 h1 h2)
 ·exact .of_right (intBits_le_64 h1 h2)
theorem op_add : OpR X (binaryOp .Add) (rI0 fun i j => .int (i + j)) := opI0 fun _ _ _ _ _ _ _ q => add_int q
theorem op_sub : OpR X (binaryOp .Sub) (rI0 fun i j => .int (i - j)) := opI0 fun _ _ _ _ _ _ _ q => sub_int q
theorem op_mul : OpR X (binaryOp .Mult) (rI CMul fun i j => .int (i * j)) := opI fun _ _ _ _ _ _ _ hc q => mul_int q hc.ok
theorem op_fdiv : OpR X (binaryOp .FloorDiv) (rI CDiv fun i j => .int (i / j)) := opI fun i j _ _ _ _ _ hc q => by
 have h1 : (0 : Int) < j := hc.1
 have h2 : j < 1073741824 := hc.2
 exact floordiv_int (by omega) (by rw [Int.fdiv_eq_ediv_of_nonneg i (by omega)]; exact q) (.inl (PyProof.noPylong_small (by omega)))
theorem op_mod : OpR X (binaryOp .Mod) (rI (fun _ j => 0 < j) fun i j => .int (i % j)) := opI fun i j _ _ _ _ _ hc q => by
 have h1 : (0 : Int) < j := hc
 exact mod_int' (by omega) (by rw [Int.fmod_eq_emod_of_nonneg i (by omega)]; exact q)
theorem unI {f : Value → Sem Value} {g : Int → Int}
  (rule : ∀ (i : Int) (t : Tok) (s : Shared) (Q : Value → Shared → Prop) (E : Value → Shared → Prop), Q (.int (g i) s.toks) { s with toks := s.toks + 1 } → wpAny (model X.prog X.w) X.A (f (.int i t)) Q E s) :
  UnR X f (rU fun i => .int (g i)) := by
 intro pins s σ H x v Q I rx h
 obtain ⟨i, rfl, q⟩ := h
 obtain ⟨t, rfl⟩ := rx
 exact rule i t s _ _ ⟨.int (g i), H, I.tok _, ⟨_, rfl⟩, q⟩
theorem un_neg : UnR X (unaryOp .USub) (rU fun i => .int (-i)) := unI fun _ _ _ _ _ q => neg_int q
end
def scal : V → V → Bool
 | .non, .non => true | .non, .int _ => true | .int _, .non => true | .non, .bl _ => true | .bl _, .non => true | .non, .str _ => true | .str _, .non => true
 | .int _, .int _ => true | .bl _, .bl _ => true | .str _, .str _ => true | .byt _, .byt _ => true
 | .int _, .str _ => true | .str _, .int _ => true | .bl _, .str _ => true | .str _, .bl _ => true
 | _, _ => false
def rEq : R2 := fun x y H Q => scal x y = true ∧ Q (.bl (decide (x = y))) H
def rNe : R2 := fun x y H Q => scal x y = true ∧ Q (.bl (!decide (x = y))) H
theorem dec_int {i j : Int} : decide (V.int i = V.int j) = (i == j) := by
 rw [Bool.eq_iff_iff]
 simp
theorem dec_bl {i j : Bool} : decide (V.bl i = V.bl j) = (i == j) := by
 rw [Bool.eq_iff_iff]
 simp
theorem dec_str {i j : Str} : decide (V.str i = V.str j) = (i == j) := by
 rw [Bool.eq_iff_iff]
 simp
theorem dec_byt {i j : Array UInt8} : decide (V.byt i = V.byt j) = (i.toList == j.toList) := by
 rw [Bool.eq_iff_iff]
 cases i
 cases j
 simp
section
variable {X : Cx} {a b c : Expr} {ta tb tc : TE} {pos : Pos}
theorem fin_bl {pins : List (Addr × Obj)} {σ : St} {H : Hp} {s : Shared} {Q : VK} {k k' : Bool} (I : Inv X pins σ H s) (q : Q (.bl k) H) (e : k = k') : EP X pins σ Q (.bool k') s := by
 subst e
 exact ⟨.bl k, H, I, rfl, q⟩
theorem op_eq : OpR X (compareOp .Eq) rEq := by
 intro pins s σ H x y v u Q I rx ry h
 obtain ⟨hs, q⟩ := h
 cases x with
 | non =>
  cases rx
  cases y with
  | non => cases ry; exact PySem.EqNone.eq_none_none (fin_bl I q (by simp))
  | bl j => cases ry; exact PySem.EqNone.eq_none_bool (fin_bl I q (by simp))
  | int j => obtain ⟨t', rfl⟩ := ry; exact PySem.EqNone.eq_none_int (fin_bl I q (by simp))
  | str j => obtain ⟨t', rfl⟩ := ry; exact PySem.EqNone.eq_none_str (fin_bl I q (by simp))
  | _ => exact absurd (show false = true from hs) Bool.false_ne_true
 | bl i =>
  cases rx
  cases y with
  | non => cases ry; exact PySem.EqNone.eq_bool_none (fin_bl I q (by simp))
  | bl j => cases ry; exact eq_bool (fin_bl I q dec_bl)
  | str j => obtain ⟨t', rfl⟩ := ry; exact PySem.EqMixed.eq_bool_str (fin_bl I q (by simp))
  | _ => exact absurd (show false = true from hs) Bool.false_ne_true
 | int i =>
  obtain ⟨t, rfl⟩ := rx
  cases y with
  | non => cases ry; exact PySem.EqNone.eq_int_none (fin_bl I q (by simp))
  | int j => obtain ⟨t', rfl⟩ := ry; exact eq_int (fin_bl I q dec_int)
  | str j => obtain ⟨t', rfl⟩ := ry; exact PySem.EqMixed.eq_int_str (fin_bl I q (by simp))
  | _ => exact absurd (show false = true from hs) Bool.false_ne_true
 | str i =>
  obtain ⟨t, rfl⟩ := rx
  cases y with
  | non => cases ry; exact PySem.EqNone.eq_str_none (fin_bl I q (by simp))
  | bl j => cases ry; exact PySem.EqMixed.eq_str_bool (fin_bl I q (by simp))
  | int j => obtain ⟨t', rfl⟩ := ry; exact PySem.EqMixed.eq_str_int (fin_bl I q (by simp))
  | str j => obtain ⟨t', rfl⟩ := ry; exact eq_str (fin_bl I q dec_str)
  | _ => exact absurd (show false = true from hs) Bool.false_ne_true
 | byt i =>
  obtain ⟨t, rfl⟩ := rx
  cases y with
  | byt j => obtain ⟨t', rfl⟩ := ry; exact PySem.W.eq_bytes (fin_bl I q dec_byt)
  | _ => exact absurd (show false = true from hs) Bool.false_ne_true
 | _ => cases y <;> exact absurd (show false = true from hs) Bool.false_ne_true
theorem op_ne : OpR X (compareOp .NotEq) rNe := by
 intro pins s σ H x y v u Q I rx ry h
 obtain ⟨hs, q⟩ := h
 cases x with
 | non =>
  cases rx
  cases y with
  | non => cases ry; exact PySem.EqNone.ne_none_none (fin_bl I q (by simp))
  | bl j => cases ry; exact PySem.EqNone.ne_none_bool (fin_bl I q (by simp))
  | int j => obtain ⟨t', rfl⟩ := ry; exact PySem.EqNone.ne_none_int (fin_bl I q (by simp))
  | str j => obtain ⟨t', rfl⟩ := ry; exact PySem.EqNone.ne_none_str (fin_bl I q (by simp))
  | _ => exact absurd (show false = true from hs) Bool.false_ne_true
 | bl i =>
  cases rx
  cases y with
  | non => cases ry; exact PySem.EqNone.ne_bool_none (fin_bl I q (by simp))
  | bl j => cases ry; exact ne_bool (fin_bl I q (congrArg not dec_bl))
  | str j => obtain ⟨t', rfl⟩ := ry; exact PySem.EqMixed.ne_bool_str (fin_bl I q (by simp))
  | _ => exact absurd (show false = true from hs) Bool.false_ne_true
 | int i =>
  obtain ⟨t, rfl⟩ := rx
  cases y with
  | non => cases ry; exact PySem.EqNone.ne_int_none (fin_bl I q (by simp))
  | int j => obtain ⟨t', rfl⟩ := ry; exact ne_int (fin_bl I q (congrArg not dec_int))
  | str j => obtain ⟨t', rfl⟩ := ry; exact PySem.EqMixed.ne_int_str (fin_bl I q (by simp))
  | _ => exact absurd (show false = true from hs) Bool.false_ne_true
 | str i =>
  obtain ⟨t, rfl⟩ := rx
  cases y with
  | non => cases ry; exact PySem.EqNone.ne_str_none (fin_bl I q (by simp))
  | bl j => cases ry; exact PySem.EqMixed.ne_str_bool (fin_bl I q (by simp))
  | int j => obtain ⟨t', rfl⟩ := ry; exact PySem.EqMixed.ne_str_int (fin_bl I q (by simp))
  | str j => obtain ⟨t', rfl⟩ := ry; exact ne_str (fin_bl I q (congrArg not dec_str))
  | _ => exact absurd (show false = true from hs) Bool.false_ne_true
 | byt i =>
  obtain ⟨t, rfl⟩ := rx
  cases y with
  | byt j => obtain ⟨t', rfl⟩ := ry; exact PySem.W.ne_bytes (fin_bl I q (congrArg not dec_byt))
  | _ => exact absurd (show false = true from hs) Bool.false_ne_true
 | _ => cases y <;> exact absurd (show false = true from hs) Bool.false_ne_true
theorem op_lt : OpR X (compareOp .Lt) (rI0 fun i j => .bl (decide (i < j))) := opB0 fun _ _ _ _ _ _ _ q => lt_int q
theorem op_gt : OpR X (compareOp .Gt) (rI0 fun i j => .bl (decide (j < i))) := opB0 fun _ _ _ _ _ _ _ q => gt_int q
theorem op_isN : OpR X (compareOp .Is) (fun x y H Q => y = .non ∧ Q (.bl (decide (x = .non))) H) := by
 intro pins s σ H x y v u Q I rx ry h
 obtain ⟨rfl, q⟩ := h
 cases ry
 refine is_none_gen (fin_bl I q ?_)
 cases x <;> first
  | (cases rx; rfl)
  | (obtain ⟨t, rfl⟩ := rx; rfl)
theorem op_notN : OpR X (compareOp .IsNot) (fun x y H Q => y = .non ∧ Q (.bl (!decide (x = .non))) H) := by
 intro pins s σ H x y v u Q I rx ry h
 obtain ⟨rfl, q⟩ := h
 cases ry
 refine isnot_none_gen (fin_bl I q ?_)
 cases x <;> first
  | (cases rx; rfl)
  | (obtain ⟨t, rfl⟩ := rx; rfl)
theorem nomark (b : Expr) {op : CmpOp} (h : op ≠ .In := by decide) (h2 : op ≠ .NotIn := by decide) : behindInMarks op b = false := by
 have e1 : (op == CmpOp.In) = false := by cases op <;> first | rfl | exact absurd rfl h
 have e2 : (op == CmpOp.NotIn) = false := by cases op <;> first | rfl | exact absurd rfl h2
 cases b <;> simp [behindInMarks, e1, e2]
theorem pe_cmpR {op : CmpOp} {r : R2} (ho : OpR X (compareOp op) r) (ha : PE X a ta) (hb : PE X b tb) (hm : behindInMarks op b = false) : PE X (.Compare a [op] [b] pos) (tOp r ta tb) := by
 intro pins s σ H Q I h
 exact wpAny_Compare1 (binT ha hb I h fun v u s2 x y H2 I2 rx ry q => ho pins s2 σ H2 x y v u Q I2 rx ry q) hm
theorem line63 : (sizeLine : Nat) < 2 ^ 63 := by rw [sizeLine_eq]; decide
theorem op_add_str : OpR X (binaryOp .Add) (fun x y H Q => ∃ i j, x = .str i ∧ y = .str j ∧ i.length + j.length ≤ sizeLine ∧ Q (.str (i ++ j)) H) := by
 intro pins s σ H x y v u Q I rx ry h
 obtain ⟨i, j, rfl, rfl, hz, q⟩ := h
 obtain ⟨t, rfl⟩ := rx
 obtain ⟨t', rfl⟩ := ry
 exact add_str (fun t' tk => ⟨.str (i ++ j), H, I.tok _, ⟨_, rfl⟩, q⟩) hz
theorem vals1 {x : V} {us : List Value} (r : Vals [x] us) : ∃ u, us = [u] ∧ RelV x u := by
 cases r with
 | cons r1 r2 => cases r2; exact ⟨_, rfl, r1⟩
theorem vals2 {x y : V} {us : List Value} (r : Vals [x, y] us) : ∃ u w', us = [u, w'] ∧ RelV x u ∧ RelV y w' := by
 cases r with
 | cons r1 r2 =>
  cases r2 with
  | cons r3 r4 => cases r4; exact ⟨_, _, rfl, r1, r3⟩
end
end L2
namespace L2
open PySem PySem.Spec PyProof.Rows
structure ObjM (h : Heap) (x dx C : Addr) (mA : Str → Option Value) : Prop where
 obj : h.get? x = some (PySem.W.instObj C dx)
 ns : h.Ns1 dx mA
 ne : dx ≠ x
theorem lookIn_ns {h : Heap} {dx : Addr} {mA : Str → Option Value} (n : h.Ns1 dx mA) : ∃ od, h.get? dx = some od ∧ ∀ name, PySem.W.lookIn name od = some (mA name) := by
 obtain ⟨o, es, ep, ho, hd, hk, _, hm⟩ := n
 refine ⟨o, ho, fun name => ?_⟩
 have e := hm name
 unfold nsFind findBy at e
 rw [← Array.find?_toList] at e
 unfold PySem.W.lookIn
 rw [hd]
 dsimp only
 split
 ·rename_i y q
  rw [q] at e
  exact congrArg some e
 ·rename_i q
  rw [q] at e
  have a : es.toList.any (·.refKey) = false := by
   rw [List.any_eq_false]
   intro y hy
   obtain ⟨z, t, hkey⟩ := hk y (Array.mem_toList_iff.mp hy)
   simp [DictEntry.refKey, hkey]
  have a' : ¬ es.toList.any (·.refKey) = true := by rw [a]; exact Bool.false_ne_true
  rw [if_neg a']
  exact congrArg some e
theorem ObjM.look {h : Heap} {x dx C : Addr} {mA : Str → Option Value} (I : ObjM h x dx C mA) : ∃ od, PySem.W.InstAt h x (PySem.W.instObj C dx) C (some od) ∧ ∀ name, PySem.W.lookIn name od = some (mA name) :=
 let ⟨od, ho, hl⟩ := lookIn_ns I.ns
 ⟨od, ⟨I.obj, rfl, rfl, ho⟩, hl⟩
section
variable {prog : Program} {w : World} {A : Around} {E : Value → Shared → Prop} {s : Shared} {K : PySem.W.Frag} {x dx C f : Addr} {mA : Str → Option Value} {name : Str} {v : Value}
end
theorem RelO.some_of {v : V} {o : Option Value} (r : RelO (some v) o) : ∃ u, o = some u ∧ RelV v u := by
 cases o with
 | none => exact (show False from r).elim
 | some u => exact ⟨u, rfl, r⟩
theorem handed_of {v : V} {u : Value} (r : RelV v u) : PySem.W.handedIn u = true := by
 cases v with
 | non => cases (show u = Value.none from r); rfl
 | bl b => cases (show u = Value.bool b from r); rfl
 | int i => obtain ⟨t, e⟩ := (show ∃ t, u = Value.int i t from r); cases e; rfl
 | str x => obtain ⟨t, e⟩ := (show ∃ t, u = Value.str x t from r); cases e; rfl
 | byt b => obtain ⟨t, e⟩ := (show ∃ t, u = Value.bytes b t from r); cases e; rfl
 | flt b => obtain ⟨t, e⟩ := (show ∃ t, u = Value.float b t from r); cases e; rfl
 | ref a => cases (show u = Value.ref a from r); rfl
 | ty n => cases (show u = Value.type n from r); rfl
section
variable {P : Program} {w : World} {H H' : Hp} {h h' : Heap} {a C dx : Addr} {fs fs' : List (Str × V)}
theorem ins_get (hok : HOk P w H h) (e : H a = some (.ins C dx fs)) : ∃ mA, ObjM h a dx C mA ∧ (∀ f, RelO (fs.lookup f) (mA f)) ∧ PySem.Within mA (fs.map (·.1)) ∧ fs.length ≤ 1000 ∧ H dx = some (.own a) := by
 obtain ⟨d, z, ne, ob, mA, n, r, q⟩ := (show ObjOk P w H h a (.ins C dx fs) from hok a _ e)
 exact ⟨mA, ⟨ob, n, ne⟩, r, q, z, d⟩
end
structure Cls (K : PySem.W.Frag) (C : Addr) : Prop where
 pg : PySem.W.plainGet K C Str.empty = true
 hd : PySem.W.hasDictIn K C = true
 po : PySem.W.plainOver K C = true
 sa : PySem.W.findIn K (.ref C) "__setattr__" = some (some (.builtin "object.__setattr__"))
theorem Cls.get {K : PySem.W.Frag} {C : Addr} (c : Cls K C) (f : Str) : PySem.W.plainGet K C f = true := c.pg
def NoAttr (K : PySem.W.Frag) (C : Addr) (f : Str) : Prop := PySem.W.findIn K (.ref C) f = some none
structure Con (K : PySem.W.Frag) (C : Addr) (f : Str) (v : V) (u : Value) : Prop where
 at_ : PySem.W.findIn K (.ref C) f = some (some u)
 rel : RelV v u
 get : PySem.W.specialIn K u "__get__" = some none
 cp : PySem.W.copiedNames.contains f = false
structure Meth (K : PySem.W.Frag) (C : Addr) (m : Str) (f : Addr) : Prop where
 at_ : PySem.W.findIn K (.ref C) m = some (some (.ref f))
 fn : PySem.W.isFn K (.ref f) = true
 kp : PySem.W.keepIn K (.ref f) = true
section
variable {X : Cx} {pins : List (Addr × Obj)} {σ : St} {H : Hp} {s : Shared} {a C dx : Addr} {fs : List (Str × V)} {f : Str} {v : V} {A : Around} {E : Value → Shared → Prop}
theorem attr_of {prog : Program} {w : World} {env : Env} {e : Expr} {f : Str} {pos : Pos} {s : Shared} {Q : Value → Shared → Prop} (hb : attributeBase e f env (eval e env) = eval e env)
  (h : wpAny (model prog w) A (eval e env) (fun o s₁ => wpAny (model prog w) A (getAttr o f true) Q E s₁) E s) : wpAny (model prog w) A (eval (.Attribute e f pos) env) Q E s :=
 Attribute_any_ h (by rw [arm_eval_Attribute, hb])
end
section
variable {X : Cx} {o e value : Expr} {f : Str} {pos pos' tpos : Pos} {ta tv : TE}
end
section
variable {X : Cx} {pins : List (Addr × Obj)} {σ : St} {H : Hp} {s : Shared} {A : Around} {E : Value → Shared → Prop} {Q : Value → Shared → Prop} {c : Value} {b : Bool}
inductive TyOf (K : PySem.W.Frag) (H : Hp) : V → Value → Prop where
 | non : TyOf K H .non (.type "NoneType")
 | bl (x : Bool) : TyOf K H (.bl x) (.type "bool")
 | int (i : Int) : TyOf K H (.int i) (.type "int")
 | str (x : Str) : TyOf K H (.str x) (.type "str")
 | flt (x : UInt64) : TyOf K H (.flt x) (.type "float")
 | lst {a : Addr} {xs : List V} (e : H a = some (.lst xs)) : TyOf K H (.ref a) (.type "list")
 | frz {a : Addr} {o : Obj} {xs : List V} (e : H a = some (.frz o (.lst xs))) : TyOf K H (.ref a) (.type "list")
 | tup {a : Addr} {xs : List V} (e : H a = some (.tup xs)) : TyOf K H (.ref a) (.type "tuple")
 | dK {a : Addr} {kvs : List (Key × V)} (e : H a = some (.dK kvs)) : TyOf K H (.ref a) (.type "dict")
 | dT {a : Addr} {kvs : List (List Key × V)} (e : H a = some (.dT kvs)) : TyOf K H (.ref a) (.type "dict")
 | ins {a C dx : Addr} {fs : List (Str × V)} (e : H a = some (.ins C dx fs)) (cl : Cls K C) (ha : PySem.W.findIn K (.ref C) "__class__" = some (some (.builtin "object.__class__")))
   (hn : PySem.W.specialIn K (.builtin "object.__class__") "__get__" = some (some (.builtin "getset_descriptor.__get__"))) (htk : PySem.W.takesIn K (.builtin "object.__class__") = some true)
   (hm : PySem.W.mroIn K C (.type "object") = some true) : TyOf K H (.ref a) (.ref C)
theorem isinst_ok {x : V} {u t : Value} (I : Inv X pins σ H s) (rx : RelV x u) (ty : TyOf X.K H x t) (e : PySem.W.kitOne X.K t c = some b) (h : ∀ tk, Q (.bool b) { s with toks := tk }) :
  wpAny (model X.prog X.w) A (call (.builtin "isinstance") [u, c]) Q E s := by
 cases ty with
 | non => cases (show u = Value.none from rx); exact PySem.W.kia_one PySem.W.kitx_none I.kIn True.intro e (fun z => nomatch z) h
 | bl y => cases (show u = Value.bool y from rx); exact PySem.W.kia_one PySem.W.kitx_bool I.kIn True.intro e (fun z => nomatch z) h
 | int i => obtain ⟨t, q⟩ := (show ∃ t, u = Value.int i t from rx); cases q; exact PySem.W.kia_one PySem.W.kitx_int I.kIn True.intro e (fun z => nomatch z) h
 | str y => obtain ⟨t, q⟩ := (show ∃ t, u = Value.str y t from rx); cases q; exact PySem.W.kia_one PySem.W.kitx_str I.kIn True.intro e (fun z => nomatch z) h
 | flt y => obtain ⟨t, q⟩ := (show ∃ t, u = Value.float y t from rx); cases q; exact PySem.W.kia_one PySem.W.kitx_float I.kIn True.intro e (fun z => nomatch z) h
 | @lst a xs ea =>
  cases (show u = Value.ref a from rx)
  obtain ⟨_, _, n, _, h1⟩ := (show ObjOk X.prog X.w H s.heap a (.lst xs) from I.hok a _ ea)
  exact PySem.W.kia_one PySem.W.kitx_list I.kIn ⟨_, h1, rfl⟩ e (fun z => nomatch z) h
 | @frz a ob xs ea =>
  cases (show u = Value.ref a from rx)
  obtain ⟨_, _, _, n, _, h1⟩ := (show ObjOk X.prog X.w H s.heap a (.frz ob (.lst xs)) from I.hok a _ ea)
  exact PySem.W.kia_one PySem.W.kitx_list I.kIn ⟨_, h1, rfl⟩ e (fun z => nomatch z) h
 | @tup a xs ea =>
  cases (show u = Value.ref a from rx)
  obtain ⟨_, _, _, p⟩ := (show ObjOk X.prog X.w H s.heap a (.tup xs) from I.hok a _ ea)
  obtain ⟨o, h1, h2, _⟩ := p
  exact PySem.W.kia_one PySem.W.kitx_tuple I.kIn ⟨o, h1, h2⟩ e (fun z => nomatch z) h
 | @dK a kvs ea =>
  cases (show u = Value.ref a from rx)
  obtain ⟨_, _, vs, _, p⟩ := (show ObjOk X.prog X.w H s.heap a (.dK kvs) from I.hok a _ ea)
  obtain ⟨o, es, ep, h1, h2, _⟩ := p
  exact PySem.W.kia_one PySem.W.kitx_dict I.kIn ⟨o, h1, h2.1⟩ e (fun z => nomatch z) h
 | @dT a kvs ea =>
  cases (show u = Value.ref a from rx)
  obtain ⟨_, _, xs, _, o, es, ep, h1, h2, _⟩ := (show ObjOk X.prog X.w H s.heap a (.dT kvs) from I.hok a _ ea)
  exact PySem.W.kia_one PySem.W.kitx_dict I.kIn ⟨o, h1, h2.1⟩ e (fun z => nomatch z) h
 | @ins a C dx fs ea cl ha hn htk hm =>
  cases (show u = Value.ref a from rx)
  obtain ⟨mA, O, _⟩ := ins_get I.hok ea
  obtain ⟨od, J, _⟩ := O.look
  exact PySem.W.kia_one (PySem.W.kitx_own (cl.get _) cl.hd ha hn htk hm) I.kIn J e (fun z => nomatch z) h
end
end L2
namespace L2
open PySem PySem.Spec PyProof.Rows
structure Room (k : Nat) (A : Around) : Prop where
 hd : A.handled = none
 dp : A.depth + 3 * k + 5 < recursionLimit
 un : A.units + 16 * k + 200 < cLine
theorem Room.mono {j k : Nat} {A : Around} (r : Room k A) (h : j ≤ k) : Room j A := ⟨r.hd, by have := r.dp; omega, by have := r.un; omega⟩
theorem Room.deeper {k : Nat} {A : Around} (r : Room (k + 1) A) (env : Env) : Room k (A.deeper env) :=
 ⟨r.hd, by have := r.dp; show A.depth + 1 + 3 * k + 5 < _; omega, by have := r.un; show A.units + 3 + 16 * k + 200 < _; omega⟩
theorem make_depth {A : Around} {C : Addr} {us : List Value} {kw : List (Str × Value)} : (A.under (.builtin "type.__call__" ⟨.ref C :: us, kw⟩)).depth = A.depth + 1 := by
 first | rfl | simp [Around.under, Code.weight, Code.isCreation, Code.isGuard, Code.isCaller, Code.frames, Code.isFrame, guardIds]
theorem make_units {A : Around} {C : Addr} {us : List Value} {kw : List (Str × Value)} : (A.under (.builtin "type.__call__" ⟨.ref C :: us, kw⟩)).units = A.units + 1 := by
 first | rfl | simp [Around.under, Code.cUnits, Code.frames, Code.isFrame]
theorem Room.make {k : Nat} {A : Around} (r : Room (k + 1) A) (C : Addr) (us : List Value) (kw : List (Str × Value)) : Room k (A.under (.builtin "type.__call__" ⟨.ref C :: us, kw⟩)) :=
 ⟨r.hd, by have := r.dp; rw [make_depth]; omega, by have := r.un; rw [make_units]; omega⟩
theorem Room.depth {k : Nat} {A : Around} (r : Room k A) : A.depth < recursionLimit := by have := r.dp; omega
theorem Room.units {k : Nat} {A : Around} (r : Room k A) : A.units + 64 < cLine := by have := r.un; omega
def tNil : TA := fun _ H Q => Q [] H
def tCons (ta : TE) (tr : TA) : TA := fun σ H Q => ta σ H fun x H1 => tr σ H1 fun xs H2 => Q (x :: xs) H2
section
variable {X : Cx} {e : Expr} {es : List Expr} {te : TE} {t : TA} {pos : Pos}
theorem pa_nil : PA X [] tNil := fun _ _ _ _ H Q I h => Calls.spliced_nil ⟨[], H, I, .nil, h⟩
theorem pa_cons (ha : PE X e te) (hr : PA X es t) (hs : starEach (e :: es) X.env = (false, eval e X.env) :: starEach es X.env := by rfl) : PA X (e :: es) (tCons te t) := by
 intro pos pins s σ H Q I h
 rw [hs]
 show wpAny _ _ (spliced ((false, eval e X.env) :: backTo pos (starEach es X.env))) _ _ s
 refine Calls.spliced_cons (thn (ha pins s σ H _ I h) fun u s1 ⟨x, H1, I1, r1, q1⟩ => ?_)
 exact thn (hr pos pins s1 σ H1 _ I1 q1) fun us s2 ⟨xs, H2, I2, r2, q2⟩ => ⟨x :: xs, H2, I2, .cons r1 r2, q2⟩
end
abbrev Sp := List V → Hp → VK → XK → Prop
abbrev CXT := List Env → Hp → Shared → XK → Value → Shared → Prop
structure Env0 (P : Program) (w : World) (K : PySem.W.Frag) (mg : Str → Option Value) (base : Heap) (A : Around) (outer : List Env) (s : Shared) (H : Hp) : Prop where
 frames : A.frames = some outer
 mod : Mod K mg base
 bs : ∀ b o, base.get? b = some o → s.heap.get? b = some o ∧ H b = none
 bsz : base.objs.size ≤ s.heap.objs.size
 funs : s.heap.FunFrames base outer
 frf : ∀ b ∈ frs outer, H b = none
 hok : HOk P w H s.heap
 bare : AllBare s.gens
def CE (outer : List Env) (P : Program) (w : World) (H : Hp) (s : Shared) (Q : VK) (u : Value) (s' : Shared) : Prop :=
 ∃ v H', s'.os = s.os ∧ AllBare s'.gens ∧ Un (frs outer) [] H H' s.heap s'.heap ∧ HOk P w H' s'.heap ∧ RelV v u ∧ Q v H'
def CR (CX : CXT) (outer : List Env) (P : Program) (w : World) (H : Hp) (s : Shared) (Q : VK) (E : XK) (r : Result) (s' : Shared) : Prop :=
 match r with
 | .ok (.ret u) => CE outer P w H s Q u s'
 | .ok _ => False
 | .error e => CX outer H s E e s'
structure FnOk (P : Program) (w : World) (K : PySem.W.Frag) (mg : Str → Option Value) (base : Heap) (CX : CXT) (k : Nat) (f : Addr) (fd : FuncData) (ps : List Str) (sp : Sp) : Prop where
 len : ∀ vs H Q E, sp vs H Q E → vs.length = ps.length
 run : ∀ (A : Around) (outer : List Env) (s : Shared) (H : Hp) (args : Args) (us : List Value) (vs : List V) (Q : VK) (E : XK), Room k A → Env0 P w K mg base A outer s H → BindsTo s fd args (ps.zip us) → Vals vs us → sp vs H Q E →
  codeAny (model P w) A (.call (.ref f) args) (CR CX outer P w H s Q E) s
theorem FnOk.mono {P : Program} {w : World} {K : PySem.W.Frag} {mg : Str → Option Value} {base : Heap} {CX : CXT} {j k : Nat} {f : Addr} {fd : FuncData} {ps : List Str} {sp : Sp} (F : FnOk P w K mg base CX j f fd ps sp) (h : j ≤ k) :
  FnOk P w K mg base CX k f fd ps sp := ⟨F.len, fun A outer s H args us vs Q E hr => F.run A outer s H args us vs Q E (hr.mono h)⟩
theorem Env0.make {P : Program} {w : World} {K : PySem.W.Frag} {mg : Str → Option Value} {base : Heap} {A : Around} {outer : List Env} {s : Shared} {H : Hp} (e : Env0 P w K mg base A outer s H) (C : Addr) (us : List Value) (kw : List (Str × Value)) :
  Env0 P w K mg base (A.under (.builtin "type.__call__" ⟨.ref C :: us, kw⟩)) outer s H := ⟨by first | exact e.frames | (simpa [Around.under, Code.envs, Code.isFrame, pushEnvs] using e.frames), e.mod, e.bs, e.bsz, e.funs, e.frf, e.hok, e.bare⟩
section
variable {X : Cx} {pins : List (Addr × Obj)} {σ : St} {H : Hp} {s s' : Shared}
theorem Inv.env0 (I : Inv X pins σ H s) : Env0 X.prog X.w X.K X.mg X.base X.A X.stack s H :=
 ⟨I.ok.frames, I.ok.mod, I.bs, Nat.le_trans I.ok.bsz I.sz, I.stack, I.stkFree, I.hok, I.bare⟩
theorem Inv.after {Q : VK} {u : Value} (I : Inv X pins σ H s) (h : CE X.stack X.prog X.w H s Q u s') : EP X pins σ Q u s' := by
 obtain ⟨v, H', os, bare, un, hok, r, q⟩ := h
 obtain ⟨hh, g, d, t, os'⟩ := s'
 obtain rfl : os' = s.os := os
 exact ⟨v, H', I.call (h' := hh) (g' := g) (d' := d) (t' := t) (ch := []) un hok bare (fun b z => absurd z (by simp)), r, q⟩
end
def tCall (sp : Sp) (dvs : List V) (E : XK) (t : TA) : TE := fun σ H Q => t σ H fun vs H1 => sp (vs ++ dvs) H1 Q E
def Binds (K : PySem.W.Frag) (fd : FuncData) (ps : List Str) (ds : List Value) : Prop :=
 ∀ (s : Shared) (us : List Value), K.In s.heap → (us ++ ds).length = ps.length → BindsTo s fd ⟨us, []⟩ (ps.zip (us ++ ds))
theorem Binds.all {K : PySem.W.Frag} {fd : FuncData} {ps : List Str} (h : ∀ us : List Value, us.length = ps.length → bindArgs fd ⟨us, []⟩ = pure (ps.zip us)) : Binds K fd ps [] := fun s us _ hl => by
 rw [List.append_nil] at hl ⊢
 exact .of_eq (h us hl)
def Passes (CX : CXT) (X : Cx) (E : XK) : Prop := ∀ (pins : List (Addr × Obj)) (σ : St) (H : Hp) (s : Shared) (e : Value) (s' : Shared), Inv X pins σ H s → CX X.stack H s E e s' → X.xe e s'
section
variable {X : Cx} {CX : CXT} {k : Nat} {f C : Addr} {fd : FuncData} {ps : List Str} {sp : Sp} {dvs : List V} {ds : List Value} {E : XK} {x m : Str} {p pos apos : Pos} {e o : Expr} {es : List Expr} {ta : TE} {t : TA}
theorem run_fn {pins : List (Addr × Obj)} {σ : St} {H : Hp} {s : Shared} {Q : VK} {us : List Value} {vs : List V} (F : FnOk X.prog X.w X.K X.mg X.base CX k f fd ps sp) (hr : Room k X.A) (hb : Binds X.K fd ps ds) (hd : Vals dvs ds) (hx : Passes CX X E)
  (I : Inv X pins σ H s) (r : Vals vs us) (h : sp (vs ++ dvs) H Q E) : wpAny (model X.prog X.w) X.A (call (.ref f) us) (EP X pins σ Q) X.xe s := by
 have r2 : Vals (vs ++ dvs) (us ++ ds) := r.append hd
 have hl : (us ++ ds).length = ps.length := by rw [← r2.length]; exact F.len _ _ _ _ h
 refine wpAny_call (codeAny_mono (F.run X.A X.stack s H ⟨us, []⟩ (us ++ ds) (vs ++ dvs) Q E hr I.env0 (hb s us I.kIn hl) r2 h) fun r s' hq => ?_)
 cases r with
 | error e => exact hx pins σ H s e s' I hq
 | ok fl =>
  cases fl with
  | ret u => exact I.after hq
  | next => exact False.elim hq
  | brk => exact False.elim hq
  | cont => exact False.elim hq
theorem pe_call (F : FnOk X.prog X.w X.K X.mg X.base CX k f fd ps sp) (hr : Room k X.A) (hg : Gl X x) (hm : X.mg x = some (.ref f)) (hk : PySem.W.keepIn X.K (.ref f) = true) (hb : Binds X.K fd ps ds) (hd : Vals dvs ds) (hx : Passes CX X E)
  (ha : PA X (e :: es) t) (hdb : (x == ("__debug__" : Str)) = false := by decide) (he : starEach (e :: es) X.env = (false, eval e X.env) :: starEach es X.env := by rfl) (hpl : (backTo pos (starEach es X.env)).any (·.1) = false := by rfl) :
  PE X (.Call (.Name x p) (e :: es) [] pos) (tCall sp dvs E t) := by
 intro pins s σ H Q I h
 refine wpAny_Call_Name_kw (ld_glob I hg hm ?_ hdb)
 refine PySem.W.callWith_K (h₀ := X.base) I.ok.mod.kin hk (thn (ha pos pins s σ H _ I h) fun us s1 ⟨vs, H1, I1, r, q⟩ => ⟨I1.kIn, ?_⟩) he hpl
 exact run_fn F hr hb hd hx I1 r q
structure Mk (K : PySem.W.Frag) (C f : Addr) : Prop where
 makes : PySem.W.makesIn K C = true
 init : PySem.W.findIn K (.ref C) "__init__" = some (some (.ref f))
 fn : PySem.W.isFn K (.ref f) = true
 kp : PySem.W.keepIn K (.ref C) = true
end
section
variable {X : Cx} {CX : CXT} {k : Nat} {f C : Addr} {fd : FuncData} {ps ks : List Str} {sp : Sp} {E : XK} {x m : Str} {p pos apos kpos : Pos} {e o : Expr} {es : List Expr} {kws : List Keyword} {te ta : TE} {t tk : TA} {nm : Option Str}
structure KBinds (K : PySem.W.Frag) (fd : FuncData) (ps ks : List Str) (g : List Value → List Value → List Value) (gV : List V → List V → List V) : Prop where
 to : ∀ (s : Shared) (us ws : List Value), K.In s.heap → (g us ws).length = ps.length → BindsTo s fd ⟨us, ks.zip ws⟩ (ps.zip (g us ws))
 rel : ∀ {vs : List V} {us : List Value} {zs : List V} {ws : List Value}, Vals vs us → Vals zs ws → Vals (gV vs zs) (g us ws)
variable {g : List Value → List Value → List Value} {gV : List V → List V → List V}
end
structure FnScope (N P : List Str) (sc : Scope) : Prop where
 kind : sc.kind = .function
 co : sc.isCoroutine = false
 gen : sc.isGenerator = false
 nd : N.Nodup
 pre : N.take P.length = P
 par : ∀ x ∈ P, sc.names.lookup x = some .local ∨ sc.names.lookup x = some .cell
 nofree : ∀ y ∈ sc.names, y.2 ≠ .free
theorem bindL_out {kindOf : Str → Option NameKind} {x : Str} : ∀ {binds : List (Str × Value)} {m : Str → Option Value}, (∀ v, (x, v) ∉ binds) → bindL kindOf binds m x = m x
 | [], _, _ => rfl
 | (n, v) :: r, m, h => by
  unfold bindL
  rw [bindL_out fun w hw => h w (List.mem_cons_of_mem _ hw)]
  split
  ·have : x ≠ n := by rintro rfl; exact h v List.mem_cons_self
   simp [this]
  ·rfl
theorem bindC_out {kindOf : Str → Option NameKind} {x : Str} : ∀ {binds : List (Str × Value)} {m : Str → Option Value}, (∀ v, (x, v) ∉ binds) → bindC kindOf binds m x = m x
 | [], _, _ => rfl
 | (n, v) :: r, m, h => by
  unfold bindC
  rw [bindC_out fun w hw => h w (List.mem_cons_of_mem _ hw)]
  split
  ·rfl
  ·have : x ≠ n := by rintro rfl; exact h v List.mem_cons_self
   simp [this]
theorem bindL_get {kindOf : Str → Option NameKind} {x : Str} {v : Value} : ∀ {P : List Str} {vs : List Value} {i : Nat} {m : Str → Option Value}, P.Nodup → P[i]? = some x → vs[i]? = some v → kindOf x = some .local →
  bindL kindOf (P.zip vs) m x = some v
 | [], _, _, _, _, h, _, _ => by simp at h
 | _ :: _, [], _, _, _, _, h, _ => by simp at h
 | p :: P, w :: vs, 0, m, nd, h1, h2, hk => by
  simp at h1 h2; subst h1; subst h2
  show bindL kindOf ((p, w) :: P.zip vs) m p = _
  unfold bindL
  rw [bindL_out fun v hv => (List.nodup_cons.mp nd).1 (List.of_mem_zip hv).1, if_pos hk]
  simp
 | p :: P, w :: vs, i + 1, m, nd, h1, h2, hk => by
  show bindL kindOf ((p, w) :: P.zip vs) m x = _
  unfold bindL
  exact bindL_get (i := i) (List.nodup_cons.mp nd).2 (by simpa using h1) (by simpa using h2) hk
theorem bindC_get {kindOf : Str → Option NameKind} {x : Str} {v : Value} : ∀ {P : List Str} {vs : List Value} {i : Nat} {m : Str → Option Value}, P.Nodup → P[i]? = some x → vs[i]? = some v → kindOf x ≠ some .local →
  bindC kindOf (P.zip vs) m x = some v
 | [], _, _, _, _, h, _, _ => by simp at h
 | _ :: _, [], _, _, _, _, h, _ => by simp at h
 | p :: P, w :: vs, 0, m, nd, h1, h2, hk => by
  simp at h1 h2; subst h1; subst h2
  show bindC kindOf ((p, w) :: P.zip vs) m p = _
  unfold bindC
  rw [bindC_out fun v hv => (List.nodup_cons.mp nd).1 (List.of_mem_zip hv).1, if_neg hk]
  simp
 | p :: P, w :: vs, i + 1, m, nd, h1, h2, hk => by
  show bindC kindOf ((p, w) :: P.zip vs) m x = _
  unfold bindC
  exact bindC_get (i := i) (List.nodup_cons.mp nd).2 (by simpa using h1) (by simpa using h2) hk
def start (N : List Str) (vs : List V) : St := vs.map some ++ List.replicate (N.length - vs.length) none
def cxOf (CX : CXT) (P : Program) (w : World) (K : PySem.W.Frag) (mg : Str → Option Value) (base : Heap) (N : List Str) (qual : Str) (scope : Scope) (f : Addr) (cd : Value) (A : Around) (outer : List Env) (s : Shared) (H : Hp) (E : XK) : Cx where
 prog := P
 w := w
 K := K
 mg := mg
 base := base
 A := A.deeper (envOfC qual scope s.heap.objs.size f cd)
 N := N
 s₀ := s
 H₀ := H
 env := envOfC qual scope s.heap.objs.size f cd
 outer := outer
 stack := envOfC qual scope s.heap.objs.size f cd :: outer
 ex := []
 calm := true
 fn := fun _ => true
 pn := []
 xe := fun e s' => wpAny (model P w) (A.deeper (envOfC qual scope s.heap.objs.size f cd)) (leaving (envOfC qual scope s.heap.objs.size f cd) e) (fun _ s'' => CX outer H s E e s'') (fun e' s'' => CX outer H s E e' s'') s'
theorem cell_has {sc : Scope} {n : Nat} {x : Str} (h : sc.names.lookup x = some .cell) : ∃ c, (cellsFrom n sc.names []).lookup x = some c := by
 have q := PySem.W.cellsFrom_some sc.names n [] (.inl h)
 exact Option.isSome_iff_exists.mp q
theorem inv_start {CX : CXT} {P : Program} {w : World} {K : PySem.W.Frag} {mg : Str → Option Value} {base : Heap} {N ps : List Str} {qual : Str} {scope : Scope} {f : Addr} {cd : Value} {A : Around} {outer : List Env} {s s1 : Shared} {H : Hp} {E : XK} {us : List Value} {vs : List V}
  (S : FnScope N ps scope) (hd : A.handled = none) (e0 : Env0 P w K mg base A outer s H) (hl : vs.length = ps.length) (r : Vals vs us)
  (x : InCallC s s.heap.objs.size (bindL (envOfC qual scope s.heap.objs.size f cd).kindOf (ps.zip us) fun _ => none) (cellsFrom (s.heap.objs.size + 1) scope.names []) (bindC (envOfC qual scope s.heap.objs.size f cd).kindOf (ps.zip us) fun _ => none) s1) :
  Inv (cxOf CX P w K mg base N qual scope f cd A outer s H E) [] (start N vs) H s1 := by
 have hpl : ps.length ≤ N.length := by have := congrArg List.length S.pre; rw [List.length_take] at this; omega
 obtain ⟨h1, tk, rfl, hk⟩ := x.done
 have noA : ∀ b : Addr, b ∉ (cxOf CX P w K mg base N qual scope f cd A outer s H E).ex := fun b z => absurd (show b ∈ ([] : List Addr) from z) (by simp)
 refine ⟨⟨e0.mod, S.kind, rfl, rfl, Nat.le_refl _, fun y z c h1 h2 => ?_, fun y hy => ?_, fun y c _ h => ?_, fun _ => hd, Around.frames_deeper e0.frames, .inr ⟨rfl, rfl⟩, fun b z => absurd z (noA b), e0.bs, e0.bsz, fun b _ _ => noA b, fun b z => absurd z (noA b), e0.funs, e0.frf⟩,
  rfl, e0.bare, Un.kept hk, ⟨_, x.toInCall.ns, fun i y v h1 h2 h3 => ?_⟩, fun y c h => ⟨_, x.cell y c h⟩, e0.hok.fresh (Nat.le_refl _), fun y c h => ?_, fun p hp => absurd (show p ∈ ([] : List (Addr × Obj)) from hp) (by simp), e0.hok.kept hk, ?_⟩
 ·exact name_of_addr x.apart (PySem.mem_of_lookup h1) (PySem.mem_of_lookup h2)
 ·have hy : scope.names.lookup y = some .cell ∨ scope.names.lookup y = some .free := hy
  rcases hy with hy | hy
  ·exact cell_has hy
  ·exact absurd rfl (S.nofree _ (PySem.mem_of_lookup hy))
 ·exact Nat.le_of_lt (x.above y c (PySem.mem_of_lookup h))
 ·have hi : i < vs.length := by
   unfold start at h2
   by_cases hi : i < vs.length
   ·exact hi
   ·rw [List.getElem?_append_right (by simpa using hi)] at h2
    rw [List.getElem?_replicate] at h2
    split at h2 <;> cases h2
  have ha : vs[i]? = some v := by
   unfold start at h2
   rw [List.getElem?_append_left (by simpa using hi), List.getElem?_map] at h2
   cases e : vs[i]? with
   | none => rw [e] at h2; cases h2
   | some a => rw [e] at h2; cases h2; rfl
  obtain ⟨u, hu, rv⟩ := r.get ha
  have hp : ps[i]? = some y := by
   rw [← S.pre, List.getElem?_take_of_lt (by omega)]; exact h1
  have ndP : ps.Nodup := by rw [← S.pre]; exact S.nd.sublist (List.take_sublist _ _)
  refine ⟨u, rv, ?_⟩
  rcases S.par y (List.mem_of_getElem? hp) with k | k
  ·exact .inl ⟨k, bindL_get ndP hp hu k⟩
  ·obtain ⟨c, e⟩ := cell_has (n := s.heap.objs.size + 1) k
   refine .inr ⟨.inl k, c, e, ?_⟩
   have q := x.cell y c e
   rw [bindC_get ndP hp hu (by show scope.names.lookup y ≠ _; rw [k]; decide)] at q
   exact q
 ·exact e0.hok.fresh (Nat.le_of_lt (x.above y c (PySem.mem_of_lookup h)))
 ·unfold start
  show _ = N.length
  rw [List.length_append, List.length_map, List.length_replicate]
  omega
theorem fn_of {CX : CXT} {P : Program} {w : World} {K : PySem.W.Frag} {mg : Str → Option Value} {base : Heap} {k : Nat} {f : Addr} {name qual : Str} {params : Arguments} {body : List Stmt} {scope : Scope} {dV kV doc pm cdv ct oc : Value} {an od : Option Addr}
  {osl : Array (Option Value)} {N ps : List Str} {sp : Sp} (lk : K.lookup f = some ⟨oc, od, .func (PySem.W.fnOf name qual params body scope dV kV doc pm an cdv ct), osl⟩) (hcd : PySem.W.codeIn K cdv qual = true) (S : FnScope N ps scope)
  (len : ∀ vs H Q E, sp vs H Q E → vs.length = ps.length)
  (hbody : ∀ (A : Around) (outer : List Env) (s : Shared) (H : Hp) (vs : List V) (Q : VK) (E : XK), Room k (A.deeper (envOfC qual scope s.heap.objs.size f cdv)) → sp vs H Q E →
   ∃ t, PSs (cxOf CX P w K mg base N qual scope f cdv A outer s H E) body t ∧ t { nx := fun _ H' => Q .non H', rt := Q } (start N vs) H) :
  FnOk P w K mg base CX (k + 1) f (PySem.W.fnOf name qual params body scope dV kV doc pm an cdv ct) ps sp := by
 refine ⟨len, fun A outer s H args us vs Q E hr e0 hb r hsp => ?_⟩
 have hl := len _ _ _ _ hsp
 have KX : K.In s.heap := e0.mod.kin.keeps fun b o e => (e0.bs b o e).1
 have lim : s.heap.NoLimit := e0.mod.nolimit.keeps fun b o e => (e0.bs b o e).1
 have hkind : ∀ y ∈ ps.zip us, scope.names.lookup y.1 = some .local ∨ (scope.names.lookup y.1 = some .cell ∧ ((cellsFrom (s.heap.objs.size + 1) scope.names []).lookup y.1).isSome = true) := fun ⟨n, v⟩ hy => by
  rcases S.par n (List.of_mem_zip hy).1 with q | q
  ·exact .inl q
  ·exact .inr ⟨q, PySem.W.cellsFrom_some _ _ _ (.inl q)⟩
 refine codeAny_call_function hr.depth (KX _ _ lk) rfl S.co S.gen rfl (PySem.W.codeRec_of KX hcd) (hb _ _ _ _ ?_)
 refine wpAny_newFunctionEnv_cells S.kind hkind fun env he s1 x => ?_
 subst he
 refine ⟨lim.keeps x.toInCall.keep, codeAny_func ?_⟩
 obtain ⟨t, ht, hq⟩ := hbody A outer s H vs Q E (hr.deeper _) hsp
 have I : Inv (cxOf CX P w K mg base N qual scope f cdv A outer s H E) [] (start N vs) H s1 := inv_start S hr.hd e0 hl r x
 refine wpAny_mono (ht [] s1 (start N vs) H _ I hq) (fun fl s' hs => ?_) fun e s' hs => hs
 have fin : ∀ {σ' : St} {H' : Hp} {v : V} {u : Value}, Inv (cxOf CX P w K mg base N qual scope f cdv A outer s H E) [] σ' H' s' → RelV v u → Q v H' → CE outer P w H s Q u s' :=
  fun {σ' H' v u} J rv q => ⟨v, H', J.os, J.bare, J.base, J.hok, rv, q⟩
 cases fl with
 | ret u =>
  obtain ⟨v, σ', H', J, rv, q⟩ := hs
  exact fin J rv q
 | next =>
  obtain ⟨σ', H', J, q⟩ := hs
  exact fin (v := V.non) (u := Value.none) J rfl q
 | brk =>
  obtain ⟨_, _, _, q⟩ := hs
  exact False.elim q
 | cont =>
  obtain ⟨_, _, _, q⟩ := hs
  exact False.elim q
end L2
namespace L2
open PySem PySem.Spec PyProof.Rows
section
variable {X : Cx} {x : Str} {p pos : Pos} {e : Expr} {es : List Expr} {t : TA} {id T : String} {r : List V → Hp → VK → Prop}
def tCB (r : List V → Hp → VK → Prop) (t : TA) : TE := fun σ H Q => t σ H fun vs H1 => r vs H1 Q
theorem pe_callB (hc : CallR X (.builtin id) r) (hg : Gl X x) (hm : X.mg x = none) (hv : bootBuiltins x = some (.builtin id)) (ha : PA X (e :: es) t) (hn : x ≠ "__name__" := by decide) (hdb : (x == ("__debug__" : Str)) = false := by decide)
  (he : starEach (e :: es) X.env = (false, eval e X.env) :: starEach es X.env := by rfl) (hpl : (backTo pos (starEach es X.env)).any (·.1) = false := by rfl) : PE X (.Call (.Name x p) (e :: es) [] pos) (tCB r t) := by
 intro pins s σ H Q I h
 refine wpAny_Call_Name_kw (ld_blt I hg hm hv ?_ hn hdb)
 exact PyProof.Rows.callWith_builtin1 (thn (ha pos pins s σ H _ I h) fun us s1 ⟨vs, H1, I1, r1, q1⟩ => hc pins s1 σ H1 vs us Q I1 r1 q1) he hpl
theorem pe_callTy (hc : CallR X (.type T) r) (hg : Gl X x) (hm : X.mg x = none) (hv : bootBuiltins x = some (.type T)) (ha : PA X (e :: es) t) (hn : x ≠ "__name__" := by decide) (hdb : (x == ("__debug__" : Str)) = false := by decide)
  (he : starEach (e :: es) X.env = (false, eval e X.env) :: starEach es X.env := by rfl) (hpl : (backTo pos (starEach es X.env)).any (·.1) = false := by rfl) : PE X (.Call (.Name x p) (e :: es) [] pos) (tCB r t) := by
 intro pins s σ H Q I h
 refine wpAny_Call_Name_kw (ld_blt I hg hm hv ?_ hn hdb)
 exact PyProof.Rows.callWith_type1 (thn (ha pos pins s σ H _ I h) fun us s1 ⟨vs, H1, I1, r1, q1⟩ => hc pins s1 σ H1 vs us Q I1 r1 q1) he hpl
end
end L2
namespace HT
open PySem PyProof.Rows
section
open PySem.SeqAt
open PySem.AutoSeq1 (wpAny_loadPart')
open PySem.MeetsSeq PySem.MeetsSeq2 PySem.MeetsSeq3
end
section
variable {prog : Program} {w : World} {A : Around} {E : Value → Shared → Prop} {s : Shared}
theorem cat_tup {t b : Addr} {vs ws : List Value} {Q : Value → Shared → Prop} (ht : IsTup s.heap t vs.toArray) (hb : IsTup s.heap b ws.toArray) (hv : vs ≠ [])
  (h1 : ws = [] → Q (.ref t) s) (h2 : ws ≠ [] → Q (.ref s.heap.objs.size) { s with heap := s.heap.push { cls := .type "tuple", data := .seq (vs ++ ws).toArray } })
  (hsz : vs.length + ws.length ≤ sizeLine) : wpAny (model prog w) A (binaryOp .Add (.ref t) (.ref b)) Q E s := by
 obtain ⟨⟨cls, dd, data, sl⟩, ho, hc, n, hd⟩ := id ht
 obtain ⟨⟨cls2, dd2, data2, sl2⟩, ho2, hc2, n2, hd2⟩ := id hb
 simp only at hc hd hc2 hd2
 subst hc hd hc2 hd2
 have e : vs.toArray ++ ws.toArray = (vs ++ ws).toArray := by simp
 by_cases hw : ws = []
 ·exact concat_meets ⟨_, ho, rfl⟩ ⟨_, ho2, rfl⟩ noFill_tuple_add seq_tuple_add PySem.F.slot_tuple_add PySem.F.entry_tuple_add (PySem.F.args_tuple_add_2 _ _)
   (tuple_addW1 t b vs.toArray ws.toArray n n2 dd dd2 sl sl2 (by simpa using hv) (by simp [hw])) ⟨ho, ho2, h1 hw⟩
 ·refine concat_meets ⟨_, ho, rfl⟩ ⟨_, ho2, rfl⟩ noFill_tuple_add seq_tuple_add PySem.F.slot_tuple_add PySem.F.entry_tuple_add (PySem.F.args_tuple_add_2 _ _)
   (tuple_addW2 t b vs.toArray ws.toArray n n2 dd dd2 sl sl2 (by simpa using hv) (by simpa using hw) (by rw [List.size_toArray, List.size_toArray]; exact hsz)) ⟨ho, ho2, ?_⟩
  rw [e]
  exact h2 hw
def sIx (n d : Nat) : Option Int → Nat
 | none => d
 | some v => if v < 0 then (v + (n : Int)).toNat else min v.toNat n
theorem sIx_none (n d : Nat) : sIx n d none = d := rfl
theorem sIx_le (n d : Nat) (hd : d ≤ n) (o : Option Int) : sIx n d o ≤ n := by
 cases o with
 | none => exact hd
 | some v =>
  show (if v < 0 then (v + (n : Int)).toNat else min v.toNat n) ≤ n
  by_cases hv : v < 0
  ·rw [if_pos hv]; omega
  ·rw [if_neg hv]; exact Nat.min_le_right _ _
theorem clip_eq (v : Int) (n d : Nat) : (if v < 0 then max (v + (n : Int)) 0 else min v (n : Int)) = ((sIx n d (some v) : Nat) : Int) := by
 show (if v < 0 then max (v + (n : Int)) 0 else min v (n : Int)) = (((if v < 0 then (v + (n : Int)).toNat else min v.toNat n) : Nat) : Int)
 by_cases hv : v < 0
 ·simp only [if_pos hv]; omega
 ·simp only [if_neg hv]; omega
theorem adjust_gen (lo hi : Option Int) (n : Nat) : Builtin.Slice.sliceAdjust lo hi 1 (n : Int) = (((sIx n 0 lo : Nat) : Int), ((sIx n n hi : Nat) : Int)) := by
 have h1 : ¬ ((1 : Int) < 0) := by omega
 unfold Builtin.Slice.sliceAdjust
 simp only [h1, if_false]
 refine Prod.ext ?_ ?_
 ·cases lo with
  | none => rfl
  | some v => exact clip_eq v n 0
 ·cases hi with
  | none => rfl
  | some v => exact clip_eq v n n
theorem places_gen (i j : Nat) : Builtin.Slice.slicePlaces (i : Int) (j : Int) 1 = j - i := by
 unfold Builtin.Slice.slicePlaces
 have h1 : (1 : Int) > 0 := by omega
 simp only [h1, if_true, Int.ediv_one]
 split <;> omega
theorem slicePart_ {v : Value} {o : Option Int} {Q : Option Int → Shared → Prop} (p : IsPart v o) (h : Q o s) : wpAny (model prog w) A (Builtin.Slice.slicePartIndex v) Q E s := by
 cases p with
 | none => exact slicePart_none h
 | int i t => exact slicePart_int h
theorem sliceApplied_gen {sl : Addr} {vl vu : Value} {lo hi : Option Int} {n : Nat} {Q : Int × Int × Nat → Shared → Prop} (hs : s.heap.IsSliceOf sl vl vu .none) (pl : IsPart vl lo) (pu : IsPart vu hi)
  (h : Q (((sIx n 0 lo : Nat) : Int), 1, sIx n n hi - sIx n 0 lo) s) : wpAny (model prog w) A (Builtin.Slice.sliceApplied (.ref sl) (pure (n : Int))) Q E s := by
 obtain ⟨os, hos, hcs, hds⟩ := id hs
 unfold Builtin.Slice.sliceApplied Builtin.Slice.sliceFields
 refine wpAny_bind (wpAny_bind (wpAny_field hos hds (x := vl) rfl (wpAny_bind (wpAny_field hos hds (x := vu) rfl (wpAny_bind (wpAny_field hos hds (x := .none) rfl (wpAny_pure ?_)))))))
 refine wpAny_bind (slicePart_none ?_)
 show wpAny _ _ (if ((1 : Int) == 0) = true then _ else _) _ _ s
 rw [if_neg (by decide)]
 refine wpAny_bind (slicePart_ pl (wpAny_bind (slicePart_ pu (wpAny_bind (wpAny_pure ?_)))))
 show wpAny _ _ (match Builtin.Slice.sliceAdjust lo hi 1 (n : Int) with | (lo, hi) => pure (lo, (1 : Int), Builtin.Slice.slicePlaces lo hi 1)) _ _ s
 rw [adjust_gen lo hi n]
 show wpAny _ _ (pure (((sIx n 0 lo : Nat) : Int), (1 : Int), Builtin.Slice.slicePlaces ((sIx n 0 lo : Nat) : Int) ((sIx n n hi : Nat) : Int) 1)) _ _ s
 rw [places_gen]
 exact wpAny_pure h
theorem pick_gen (xs : Array Value) (i k : Nat) : ((List.range k).filterMap fun (m : Nat) => xs[((i : Int) + (m : Int) * 1).toNat]?).toArray = ((xs.toList.drop i).take k).toArray := by
 have e : (fun (m : Nat) => xs[((i : Int) + (m : Int) * 1).toNat]?) = fun m => xs[i + m]? := by
  funext m
  have : ((i : Int) + (m : Int) * 1).toNat = i + m := by omega
  rw [this]
 rw [e]
 have := pick_run xs i k
 rw [List.filterMap_map] at this
 have e2 : ((fun x => xs[x]?) ∘ fun x => i + x) = fun m => xs[i + m]? := rfl
 rw [e2] at this
 rw [this]
theorem getItem_tuple_cut {t sl : Addr} {items : Array Value} {vl vu : Value} {lo hi : Option Int} {Q : Value → Shared → Prop} (ht : IsTup s.heap t items) (hs : s.heap.IsSliceOf sl vl vu .none) (pl : IsPart vl lo) (pu : IsPart vu hi)
  (hw : ¬ (sIx items.size 0 lo = 0 ∧ sIx items.size items.size hi = items.size))
  (h : Q (.ref s.heap.objs.size) { s with heap := s.heap.push { cls := .type "tuple", data := .seq ((items.toList.drop (sIx items.size 0 lo)).take (sIx items.size items.size hi - sIx items.size 0 lo)).toArray } })
  (hsz : items.size ≤ sizeLine) : wpAny (model prog w) A (getItem (.ref t) (.ref sl)) Q E s := by
 have htake : sizeOk (.seq ((items.toList.drop (sIx items.size 0 lo)).take (sIx items.size items.size hi - sIx items.size 0 lo)).toArray) := by
  show ((items.toList.drop (sIx items.size 0 lo)).take (sIx items.size items.size hi - sIx items.size 0 lo)).toArray.size ≤ sizeLine
  rw [List.size_toArray, List.length_take, List.length_drop, Array.length_toList]
  omega
 have hj : sIx items.size items.size hi ≤ items.size := sIx_le _ _ (Nat.le_refl _) hi
 obtain ⟨os, hos, hcs, hds⟩ := id hs
 have hTs : s.TypeIs (.ref sl) "slice" := ⟨os, hos, hcs⟩
 unfold getItem
 try with_reducible refine wpAny_holding ?_
 first | refine wpAny_bind (wpAny_pure ?_) | skip
 refine wpAny_bind (wpAny_sequenceKey ht.typeIs (by decide) ?_)
 refine wpAny_bind (wpAny_callSpecial?_slot (name := Str.ofString "__getitem__") ht.typeIs PyProof.Rows.slot_tuple_getitem
  (wpAny_call_entry PyProof.Rows.slot_tuple_getitem ht.typeIs entry_tuple_getitem ?_ (args_tuple_getitem _ _)))
 show wpAny _ _ (Builtin.Tuple.tupleItemsOf (.ref t) >>= _) _ _ s
 refine wpAny_bind (tupleItemsOf_ ht ?_)
 refine wpAny_bind (wpAny_typeOf hTs ?_)
 rw [if_pos (by decide)]
 refine wpAny_bind (sliceApplied_gen hs pl pu ?_)
 have hno : ¬ ((((sIx items.size 0 lo : Nat) : Int) == 0 && (1 : Int) == 1 && (sIx items.size items.size hi - sIx items.size 0 lo) == items.size) = true) := by
  intro q
  rw [Bool.and_eq_true, Bool.and_eq_true] at q
  have q1 : ((sIx items.size 0 lo : Nat) : Int) = 0 := eq_of_beq q.1.1
  have q2 : sIx items.size items.size hi - sIx items.size 0 lo = items.size := eq_of_beq q.2
  exact hw ⟨by omega, by omega⟩
 show wpAny _ _ (if (((sIx items.size 0 lo : Nat) : Int) == 0 && (1 : Int) == 1 && (sIx items.size items.size hi - sIx items.size 0 lo) == items.size) = true then _ else _) _ _ s
 rw [if_neg hno, pick_gen]
 first
  | exact wpAny_bind (m := Builtin.Tuple.tupleExact _) (wpAny_newObj_type (wpAny_pure ⟨_, rfl, wpAny_pure h⟩) htake)
  | exact wpAny_bind (m := Builtin.Tuple.tupleExact _) (wpAny_newObj_type (wpAny_bind (wpAny_pure (wpAny_pure ⟨_, rfl, wpAny_pure h⟩))) htake)
  | exact wpAny_bind (wpAny_bind (m := Builtin.Tuple.tupleExact _) (wpAny_newObj_type (wpAny_pure (wpAny_pure ⟨_, rfl, wpAny_pure h⟩)) htake))
  | exact wpAny_bind (wpAny_bind (m := Builtin.Tuple.tupleExact _) (wpAny_newObj_type (wpAny_pure ⟨_, rfl, wpAny_pure h⟩) htake))
end
end HT
namespace L2
open PySem PySem.Spec PyProof.Rows
abbrev TO := St → Hp → (Option Int → Hp → Prop) → Prop
def PO (X : Cx) (e : Option Expr) (t : TO) : Prop :=
 ∀ (pins : List (Addr × Obj)) (s : Shared) (σ : St) (H : Hp) (Q : Option Int → Hp → Prop), Inv X pins σ H s → t σ H Q →
  wpAny (model X.prog X.w) X.A (evalPart e X.env) (fun u s' => ∃ o H', Inv X pins σ H' s' ∧ IsPart u o ∧ Q o H') X.xe s
def tNoPart : TO := fun _ H Q => Q none H
theorem intsAre_of {ns : List Int} : ∀ {us : List Value}, Vals (ns.map V.int) us → IntsAre us ns := by
 induction ns with
 | nil => intro us r; rw [List.map_nil] at r; cases r; exact .nil
 | cons n ns ih =>
  intro us r
  rw [List.map_cons] at r
  cases r with
  | cons r1 r2 =>
   obtain ⟨t, e⟩ := r1
   subst e
   exact .cons n t (ih r2)
section
variable {X : Cx} {e : Expr} {te : TE} {lo hi : Option Expr} {tl th : TO} {pos p2 : Pos}
theorem po_none : PO X none tNoPart := by
 intro pins s σ H Q I h
 rw [evalPart_none]
 exact wpAny_pure ⟨none, H, I, .none, h⟩
def SlR (X : Cx) (r : V → Option Int → Option Int → Hp → VK → Prop) : Prop :=
 ∀ (pins : List (Addr × Obj)) (s : Shared) (σ : St) (H : Hp) (x : V) (v vl vu : Value) (lo hi : Option Int) (sl : Addr) (Q : VK), Inv X pins σ H s → RelV x v → s.heap.IsSliceOf sl vl vu .none → IsPart vl lo → IsPart vu hi → r x lo hi H Q →
  ∃ T id, typeLookup (.type T) "__getitem__" = pure (some (.builtin id)) ∧ s.TypeIs v T ∧ wpAny (model X.prog X.w) X.A (getItem v (.ref sl)) (EP X pins σ Q) X.xe s
theorem SlR.or {r r' : V → Option Int → Option Int → Hp → VK → Prop} (h : SlR X r) (h' : SlR X r') : SlR X (fun x lo hi H Q => r x lo hi H Q ∨ r' x lo hi H Q) := by
 intro pins s σ H x v vl vu lo hi sl Q I rx hs pl pu q
 rcases q with q | q
 ·exact h pins s σ H x v vl vu lo hi sl Q I rx hs pl pu q
 ·exact h' pins s σ H x v vl vu lo hi sl Q I rx hs pl pu q
def tSl (r : V → Option Int → Option Int → Hp → VK → Prop) (te : TE) (tl th : TO) : TE := fun σ H Q => te σ H fun x H1 => tl σ H1 fun l H2 => th σ H2 fun u H3 => r x l u H3 Q
theorem pe_slice {r : V → Option Int → Option Int → Hp → VK → Prop} (hr : SlR X r) (he : PE X e te) (hl : PO X lo tl) (hu : PO X hi th) : PE X (.Subscript e (.Slice lo hi none p2) pos) (tSl r te tl th) := by
 intro pins s σ H Q I h
 refine Subscript_ (thn (he pins s σ H _ I h) fun v s1 ⟨x, H1, I1, r1, q1⟩ => ?_)
 refine wpAny_Slice (thn (hl pins s1 σ H1 _ I1 q1) fun vl s2 ⟨l, H2, I2, pl, q2⟩ => thn (hu pins s2 σ H2 _ I2 q2) fun vu s3 ⟨u, H3, I3, pu, q3⟩ => ?_)
 rw [evalPart_none]
 refine wpAny_pure ?_
 have I4 : Inv X pins σ H3 { s3 with heap := s3.heap.push { cls := .type "slice", data := .fields #[vl, vu, .none] } } := I3.kept (t' := s3.toks) fun b ob q => Heap.get?_push_of_some _ q
 obtain ⟨T, id, hT, ht, hg⟩ := hr pins { s3 with heap := s3.heap.push { cls := .type "slice", data := .fields #[vl, vu, .none] } } σ H3 x v vl vu l u s3.heap.objs.size Q I4 r1 (Heap.IsSliceOf.new ..) pl pu q3
 show wpAny (model X.prog X.w) X.A (subscriptTail e (.Slice lo hi none p2) v (.ref s3.heap.objs.size)) (EP X pins σ Q) X.xe { s3 with heap := s3.heap.push { cls := .type "slice", data := .fields #[vl, vu, .none] } }
 exact tail_any (ops := [.ref s3.heap.objs.size, v]) ht hT hg (by with_unfolding_all rfl)
def cutV (xs : List V) (lo hi : Option Int) : List V := (xs.drop (HT.sIx xs.length 0 lo)).take (HT.sIx xs.length xs.length hi - HT.sIx xs.length 0 lo)
theorem cutV_length (xs : List V) (lo hi : Option Int) : (cutV xs lo hi).length ≤ xs.length := by
 unfold cutV
 rw [List.length_take, List.length_drop]
 omega
def rSlT (K : PySem.W.Frag) : V → Option Int → Option Int → Hp → VK → Prop := fun x lo hi H Q => ∃ a xs, x = .ref a ∧ SqT K H a xs ∧
 ¬ (HT.sIx xs.length 0 lo = 0 ∧ HT.sIx xs.length xs.length hi = xs.length) ∧ ∀ p, H p = none → Q (.ref p) (upd H p (.tup (cutV xs lo hi)))
theorem sl_tup : SlR X (rSlT X.K) := by
 intro pins s σ H x v vl vu lo hi sl Q I rx hs pl pu h
 obtain ⟨a, xs, rfl, hx, hw, q⟩ := h
 cases rx
 obtain ⟨its, r, ht, hz⟩ := I.tuple hx
 have hlen : its.toArray.size = xs.length := by rw [List.size_toArray]; exact r.length.symm
 refine ⟨"tuple", _, PyProof.Rows.slot_tuple_getitem.lookup, ht.typeIs, ?_⟩
 refine HT.getItem_tuple_cut ht hs pl pu (by rw [hlen]; exact hw) ?_ (by rw [hlen]; exact hz)
 rw [hlen]
 refine ⟨.ref s.heap.objs.size, _, I.laid (t' := s.toks) (o := .tup (cutV xs lo hi)) (fun b ob q => Heap.get?_push_of_some _ q) (Nat.le_refl _) ?_, rfl, q _ (I.hok.fresh (Nat.le_refl _))⟩
 exact ⟨Nat.le_trans (cutV_length xs lo hi) hz, _, (r.drop (HT.sIx xs.length 0 lo)).take (HT.sIx xs.length xs.length hi - HT.sIx xs.length 0 lo), IsTup.new _ _⟩
def rCatT (K : PySem.W.Frag) : R2 := fun x y H Q => ∃ a b xs ys, x = .ref a ∧ y = .ref b ∧ SqT K H a xs ∧ SqT K H b ys ∧ xs ≠ [] ∧ xs.length + ys.length ≤ sizeLine ∧
 (ys = [] → Q (.ref a) H) ∧ (ys ≠ [] → ∀ p, H p = none → Q (.ref p) (upd H p (.tup (xs ++ ys))))
theorem Vals.nil_iff {xs : List V} {us : List Value} (r : Vals xs us) : us = [] ↔ xs = [] := by
 cases r with
 | nil => simp
 | cons _ _ => simp
theorem op_catT : OpR X (binaryOp .Add) (rCatT X.K) := by
 intro pins s σ H x y v u Q I rx ry h
 obtain ⟨a, b, xs, ys, rfl, rfl, ha, hb, hx, hz, q1, q2⟩ := h
 cases rx
 cases ry
 obtain ⟨its, r1, p1, _⟩ := I.tuple ha
 obtain ⟨its2, r2, p2, _⟩ := I.tuple hb
 refine HT.cat_tup p1 p2 (fun z => hx (r1.nil_iff.mp z)) (fun z => ⟨.ref a, H, I, rfl, q1 (r2.nil_iff.mp z)⟩) (fun z => ?_) (by rw [← r1.length, ← r2.length]; exact hz)
 refine ⟨.ref s.heap.objs.size, _, I.laid (t' := s.toks) (o := .tup (xs ++ ys)) (fun b ob q => Heap.get?_push_of_some _ q) (Nat.le_refl _) ?_, rfl, q2 (fun w => z (r2.nil_iff.mpr w)) _ (I.hok.fresh (Nat.le_refl _))⟩
 exact ⟨by rw [List.length_append]; exact hz, _, r1.append r2, IsTup.new _ _⟩
end
end L2
namespace L2
open PySem PySem.Spec PyProof.Rows
def ixN (n : Nat) (i : Int) : Option Nat := if 0 ≤ i then (if i < n then some i.toNat else none) else if -(n : Int) ≤ i then some (i + n).toNat else none
def atI {α : Type} (xs : List α) (i : Int) : Option α := (ixN xs.length i).bind fun j => xs[j]?
theorem ixN_seq {n : Nat} {i : Int} {j : Nat} (h : ixN n i = some j) : seqIndex? i n = some j ∧ j < n ∧ -(n : Int) ≤ i ∧ i < n := by
 unfold ixN at h
 by_cases h0 : 0 ≤ i
 ·rw [if_pos h0] at h
  by_cases h1 : i < n
  ·rw [if_pos h1] at h
   have e : i.toNat = j := Option.some.inj h
   exact ⟨by rw [seqIndex_of h0 h1, e], by omega, by omega, h1⟩
  ·rw [if_neg h1] at h; cases h
 ·rw [if_neg h0] at h
  by_cases h1 : -(n : Int) ≤ i
  ·rw [if_pos h1] at h
   have e : (i + n).toNat = j := Option.some.inj h
   exact ⟨by rw [seqIndex_neg (by omega) h1, e], by omega, h1, by omega⟩
  ·rw [if_neg h1] at h; cases h
theorem atI_get {α : Type} {xs : List α} {i : Int} {v : α} (h : atI xs i = some v) : ∃ j, seqIndex? i xs.length = some j ∧ xs[j]? = some v ∧ j < xs.length ∧ -(xs.length : Int) ≤ i ∧ i < xs.length := by
 unfold atI at h
 cases e : ixN xs.length i with
 | none => rw [e] at h; cases h
 | some j =>
  rw [e] at h
  obtain ⟨h1, h2, h3, h4⟩ := ixN_seq e
  exact ⟨j, h1, h, h2, h3, h4⟩
theorem atI_nat {α : Type} {xs : List α} {j : Nat} {v : α} (h : xs[j]? = some v) : atI xs (j : Int) = some v := by
 have hj : j < xs.length := (List.getElem?_eq_some_iff.mp h).1
 have e : ixN xs.length (j : Int) = some j := by
  unfold ixN
  rw [if_pos (by omega), if_pos (by omega)]; simp
 unfold atI; rw [e]; exact h
def PlainIx (b : Expr) : Prop := ∀ o i, subscripted b false o i = operate [o, i] (getItem o i)
def IxR (X : Cx) (r : R2) : Prop :=
 ∀ (value slice : Expr) (pins : List (Addr × Obj)) (s : Shared) (σ : St) (H : Hp) (x y : V) (v u : Value) (Q : VK), Inv X pins σ H s → RelV x v → RelV y u → r x y H Q →
  subscripted slice false v u = operate [v, u] (getItem v u) → wpAny (model X.prog X.w) X.A (subscriptTail value slice v u) (EP X pins σ Q) X.xe s
def MtR (X : Cx) (id : String) (r : V → List V → Hp → VK → Prop) : Prop :=
 ∀ (pins : List (Addr × Obj)) (s : Shared) (σ : St) (H : Hp) (x : V) (xs : List V) (v : Value) (us : List Value) (Q : VK), Inv X pins σ H s → RelV x v → Vals xs us → r x xs H Q →
  wpAny (model X.prog X.w) X.A (call (.builtin id) (v :: us)) (EP X pins σ Q) X.xe s
section
variable {X : Cx} {a b : Expr} {ta tb : TE} {pos : Pos}
theorem IxR.or {r r' : R2} (h : IxR X r) (h' : IxR X r') : IxR X (fun x y H Q => r x y H Q ∨ r' x y H Q) := by
 intro value slice pins s σ H x y v u Q I rx ry q hs
 rcases q with q | q
 ·exact h value slice pins s σ H x y v u Q I rx ry q hs
 ·exact h' value slice pins s σ H x y v u Q I rx ry q hs
theorem pe_ix {r : R2} (hr : IxR X r) (ha : PE X a ta) (hb : PE X b tb) (hs : PlainIx b) : PE X (.Subscript a b pos) (tOp r ta tb) := by
 intro pins s σ H Q I h
 exact Subscript_ (binT ha hb I h fun v u s2 x y H2 I2 rx ry q => hr a b pins s2 σ H2 x y v u Q I2 rx ry q (hs _ _))
def rIxL (K : PySem.W.Frag) : R2 := fun x y H Q => ∃ p xs i v, x = .ref p ∧ y = .int i ∧ SqL K H p xs ∧ atI xs i = some v ∧ Q v H
def rIxT (K : PySem.W.Frag) : R2 := fun x y H Q => ∃ p xs i v, x = .ref p ∧ y = .int i ∧ SqT K H p xs ∧ atI xs i = some v ∧ Q v H
def rIxS : R2 := fun x y H Q => ∃ z i c, x = .str z ∧ y = .int i ∧ z.length ≤ sizeLine ∧ atI z.cps.toList i = some c ∧ Q (.str ⟨#[c]⟩) H
theorem ix_list : IxR X (rIxL X.K) := by
 intro value slice pins s σ H x y v u Q I rx ry h hs
 obtain ⟨p, xs, i, z, rfl, rfl, hq, he, q⟩ := h
 cases rx
 obtain ⟨t, rfl⟩ := ry
 obtain ⟨its, r, pl, hz⟩ := I.list hq
 obtain ⟨j, h1, h2, h3, h4, h5⟩ := atI_get he
 obtain ⟨w, ew, rw'⟩ := r.get h2
 have hl := r.length
 have hn := line63
 have fin : EP X pins σ Q w s := ⟨z, H, I, rw', q⟩
 by_cases h0 : 0 ≤ i
 ·have hj : i.toNat = j := by
   rw [seqIndex_of h0 h5] at h1
   exact Option.some.inj h1
  exact item_listR pl.isList h0 (by omega) (by rw [hj]; simpa using ew) fin hs
 ·have hj : (i + (its.toArray.size : Int)).toNat = j := by
   rw [seqIndex_neg (by omega) h4] at h1
   rw [List.size_toArray, ← hl]
   exact Option.some.inj h1
  exact subscriptTail_builtinR (x := w) pl.isList.typeIs slot_list_getitem.lookup
   (wpAny_getItem_list_neg (Q := fun r s' => r = w ∧ EP X pins σ Q r s') pl.isList (by omega) (by rw [List.size_toArray] <;> omega) (by omega) (by rw [hj]; simpa using ew) ⟨rfl, fin⟩) hs
theorem ix_tup : IxR X (rIxT X.K) := by
 intro value slice pins s σ H x y v u Q I rx ry h hs
 obtain ⟨p, xs, i, z, rfl, rfl, hq, he, q⟩ := h
 cases rx
 obtain ⟨t, rfl⟩ := ry
 obtain ⟨its, r, pl, hz⟩ := I.tuple hq
 obtain ⟨j, h1, h2, h3, h4, h5⟩ := atI_get he
 obtain ⟨w, ew, rw'⟩ := r.get h2
 have hl := r.length
 have hn := line63
 have fin : EP X pins σ Q w s := ⟨z, H, I, rw', q⟩
 exact subscriptTail_builtinR (x := w) pl.typeIs slot_tuple_getitem.lookup
  (getItem_tuple (j := j) (Q := fun r s' => r = w ∧ EP X pins σ Q r s') pl (by omega) (by omega) (by rw [List.size_toArray, ← hl]; exact h1) (by simpa using ew) ⟨rfl, fin⟩) hs
theorem ix_str : IxR X rIxS := by
 intro value slice pins s σ H x y v u Q I rx ry h hs
 obtain ⟨z, i, c, rfl, rfl, hz, he, q⟩ := h
 obtain ⟨t, rfl⟩ := rx
 obtain ⟨t', rfl⟩ := ry
 obtain ⟨j, h1, h2, h3, h4, h5⟩ := atI_get he
 have hl : z.cps.toList.length = z.length := by simp [Str.length]
 rw [hl] at h1 h4 h5
 have hn := line63
 exact tail_any (typeIs_str s z t) slot_str_getitem.lookup (getItem_str (c := c) (by
  have e1 : decide (i < -(2 ^ 63 : Int)) = false := decide_eq_false (by omega)
  have e2 : decide (i ≥ 2 ^ 63) = false := decide_eq_false (by omega)
  rw [e1, e2, Bool.or_false]) (by rw [h1]; simpa using h2) ⟨.str ⟨#[c]⟩, H, I.tok _, ⟨_, rfl⟩, q⟩) hs
def rIx (K : PySem.W.Frag) : R2 := fun x y H Q => rIxL K x y H Q ∨ rIxT K x y H Q ∨ rIxS x y H Q
theorem ix_seq : IxR X (rIx X.K) := ix_list.or (ix_tup.or ix_str)
theorem slice_bounds (lo hi : Option Int) (n : Nat) : (sliceBounds lo hi none n).1 = ((HT.sIx n 0 lo : Nat) : Int) ∧ (sliceBounds lo hi none n).2.1 = ((HT.sIx n n hi : Nat) : Int) ∧ (sliceBounds lo hi none n).2.2 = 1 := by
 refine ⟨?_, ?_, rfl⟩
 ·cases lo with
  | none => simp [sliceBounds, HT.sIx]
  | some i =>
   simp only [sliceBounds, HT.sIx, Option.getD_none, show (1 : Int) > 0 by decide, if_true]
   by_cases h : i < 0
   ·simp only [h, if_true] <;> omega
   ·simp only [h, if_false] <;> omega
 ·cases hi with
  | none => simp [sliceBounds, HT.sIx]
  | some i =>
   simp only [sliceBounds, HT.sIx, Option.getD_none, show (1 : Int) > 0 by decide, if_true]
   by_cases h : i < 0
   ·simp only [h, if_true] <;> omega
   ·simp only [h, if_false] <;> omega
theorem slicePick_cut (its : List Value) (lo hi : Option Int) : slicePick its.toArray lo hi none = ((its.drop (HT.sIx its.length 0 lo)).take (HT.sIx its.length its.length hi - HT.sIx its.length 0 lo)).toArray := by
 obtain ⟨h1, h2, h3⟩ := slice_bounds lo hi its.toArray.size
 unfold slicePick
 rw [h1, h2, h3]
 simp only [sliceRange_one, pick_run, List.size_toArray] <;> rfl
def rSlL (K : PySem.W.Frag) : V → Option Int → Option Int → Hp → VK → Prop := fun x lo hi H Q => ∃ a xs, x = .ref a ∧ SqL K H a xs ∧ ∀ p, H p = none → Q (.ref p) (upd H p (.lst (cutV xs lo hi)))
theorem sl_list : SlR X (rSlL X.K) := by
 intro pins s σ H x v vl vu lo hi sl Q I rx hs pl pu h
 obtain ⟨a, xs, rfl, hx, q⟩ := h
 cases rx
 obtain ⟨its, r, ht, hz⟩ := I.list hx
 have hlen := r.length
 refine ⟨"list", _, slot_list_getitem.lookup, ht.isList.typeIs, ?_⟩
 refine wpAny_getItem_list_slice ht.isList hs pl pu .none (by simp) ?_ (by rw [List.size_toArray] <;> omega)
 rw [slicePick_cut, ← hlen]
 refine ⟨.ref s.heap.objs.size, _, I.laid (t' := s.toks) (o := .lst (cutV xs lo hi)) (fun b ob q => Heap.get?_push_of_some _ q) (Nat.le_refl _) ?_, rfl, q _ (I.hok.fresh (Nat.le_refl _))⟩
 exact ⟨Nat.le_trans (cutV_length xs lo hi) hz, _, 0, (r.drop (HT.sIx xs.length 0 lo)).take (HT.sIx xs.length xs.length hi - HT.sIx xs.length 0 lo), Heap.get?_push_size _ rfl⟩
def flatV : V → Bool
 | .non => true
 | .bl _ => true
 | .int _ => true
 | .str _ => true
 | _ => false
def eqV : V → V → Bool
 | .non, .non => true
 | .bl a, .bl b => a == b
 | .bl a, .int b => (if a then 1 else 0) == b
 | .int a, .bl b => a == (if b then 1 else 0)
 | .int a, .int b => a == b
 | .str a, .str b => a == b
 | _, _ => false
theorem eqAt_V {A : Around} {s : Shared} {y x : V} {u v : Value} (ry : RelV y u) (rx : RelV x v) (fy : flatV y = true) (fx : flatV x = true) : SeqAt.EqAt A s u v (eqV y x) := by
 cases y with
 | non =>
  cases ry
  cases x with
  | non => cases rx; exact SeqAt.EqAt.same _
  | bl b => cases rx; exact SeqAt.EqAt.none_bool b
  | int b => obtain ⟨t, rfl⟩ := rx; exact SeqAt.EqAt.none_int b t
  | str b => obtain ⟨t, rfl⟩ := rx; exact SeqAt.EqAt.none_str b t
  | _ => exact absurd (show false = true from fx) Bool.false_ne_true
 | bl a =>
  cases ry
  cases x with
  | non => cases rx; exact SeqAt.EqAt.bool_none a
  | bl b => cases rx; exact SeqAt.EqAt.bool_bool a b
  | int b => obtain ⟨t, rfl⟩ := rx; exact SeqAt.EqAt.bool_int a b t
  | str b => obtain ⟨t, rfl⟩ := rx; exact SeqAt.EqAt.bool_str a b t
  | _ => exact absurd (show false = true from fx) Bool.false_ne_true
 | int a =>
  obtain ⟨t', rfl⟩ := ry
  cases x with
  | non => cases rx; exact SeqAt.EqAt.int_none a t'
  | bl b => cases rx; exact SeqAt.EqAt.int_bool a t' b
  | int b => obtain ⟨t, rfl⟩ := rx; exact SeqAt.EqAt.int_int a t' b t
  | str b => obtain ⟨t, rfl⟩ := rx; exact SeqAt.EqAt.int_str a t' b t
  | _ => exact absurd (show false = true from fx) Bool.false_ne_true
 | str a =>
  obtain ⟨t', rfl⟩ := ry
  cases x with
  | non => cases rx; exact SeqAt.EqAt.str_none a t'
  | bl b => cases rx; exact SeqAt.EqAt.str_bool a t' b
  | int b => obtain ⟨t, rfl⟩ := rx; exact SeqAt.EqAt.str_int a t' b t
  | str b => obtain ⟨t, rfl⟩ := rx; exact SeqAt.EqAt.str_str a t' b t
  | _ => exact absurd (show false = true from fx) Bool.false_ne_true
 | _ => exact absurd (show false = true from fy) Bool.false_ne_true
def eqU (x : V) (u : Value) : Bool := match u with
 | .none => eqV .non x
 | .bool b => eqV (.bl b) x
 | .int i _ => eqV (.int i) x
 | .str z _ => eqV (.str z) x
 | _ => false
theorem eqU_of {x y : V} {u : Value} (r : RelV y u) (f : flatV y = true) : eqU x u = eqV y x := by
 cases y with
 | non => cases r; rfl
 | bl b => cases r; rfl
 | int i => obtain ⟨t, rfl⟩ := r; rfl
 | str z => obtain ⟨t, rfl⟩ := r; rfl
 | _ => exact absurd (show false = true from f) Bool.false_ne_true
theorem any_eqU {x : V} : ∀ {xs : List V} {us : List Value}, Vals xs us → xs.all flatV = true → us.any (eqU x) = xs.any fun y => eqV y x
 | _, _, .nil, _ => rfl
 | y :: xs, u :: us, .cons r t, f => by
  rw [List.all_cons, Bool.and_eq_true] at f
  rw [List.any_cons, List.any_cons, eqU_of r f.1, any_eqU t f.2]
theorem mem_eqAt {A : Around} {s : Shared} {x : V} {v : Value} (rx : RelV x v) (fx : flatV x = true) : ∀ {xs : List V} {us : List Value}, Vals xs us → xs.all flatV = true → ∀ u ∈ us, SeqAt.EqAt A s u v (eqU x u)
 | _, _, .nil, _ => fun u hu => by cases hu
 | y :: xs, u :: us, .cons r t, f => fun u' hu => by
  rw [List.all_cons, Bool.and_eq_true] at f
  rcases List.mem_cons.mp hu with rfl | hu
  ·rw [eqU_of r f.1]; exact eqAt_V r rx f.1 fx
  ·exact mem_eqAt rx fx t f.2 u' hu
def inV (x : V) (xs : List V) : Bool := xs.any fun y => eqV y x
def rIn (K : PySem.W.Frag) (neg : Bool) : R2 := fun x y H Q => ∃ p xs, y = .ref p ∧ (SqL K H p xs ∨ SqT K H p xs) ∧ flatV x = true ∧ xs.all flatV = true ∧ Q (.bl (if neg then !inV x xs else inV x xs)) H
theorem op_in_seq : OpR X (compareOp .In) (rIn X.K false) := by
 intro pins s σ H x y v u Q I rx ry h
 obtain ⟨p, xs, rfl, hq, fx, fs, q⟩ := h
 cases ry
 rcases hq with hq | hq
 ·obtain ⟨its, r, pl, hz⟩ := I.list hq
  refine SeqAt.in_listAt (eqU x) pl.isList (fun w hw => mem_eqAt rx fx r fs w (by simpa using hw)) ⟨.bl _, H, I, rfl, ?_⟩
  rw [show its.toArray.any (eqU x) = its.any (eqU x) by simp, any_eqU r fs]
  exact q
 ·obtain ⟨its, r, pl, hz⟩ := I.tuple hq
  refine SeqAt.in_tupleAt (eqU x) pl (fun w hw => mem_eqAt rx fx r fs w (by simpa using hw)) ⟨.bl _, H, I, rfl, ?_⟩
  rw [show its.toArray.any (eqU x) = its.any (eqU x) by simp, any_eqU r fs]
  exact q
theorem call_len_seq : CallR X (.builtin "len") (fun xs H Q => ∃ p ys, xs = [.ref p] ∧ (SqL X.K H p ys ∨ SqT X.K H p ys) ∧ Q (.int ys.length) H) := by
 intro pins s σ H xs us Q I r h
 obtain ⟨p, ys, rfl, hq, q⟩ := h
 obtain ⟨u, rfl, rx⟩ := vals1 r
 cases rx
 have hn := line63
 rcases hq with hq | hq
 ·obtain ⟨its, r', pl, hz⟩ := I.list hq
  have hlen := r'.length
  exact Calls.call_len_list pl.isList (by simp only [List.size_toArray] <;> omega) ⟨.int ys.length, H, I.tok _, ⟨s.toks + 1, by rw [List.size_toArray, hlen]⟩, q⟩
 ·obtain ⟨its, r', pl, hz⟩ := I.tuple hq
  have hlen := r'.length
  exact len_tuple pl (by simp only [List.size_toArray] <;> omega) ⟨.int ys.length, H, I.tok _, ⟨s.toks + 1, by rw [List.size_toArray, hlen]⟩, q⟩
theorem call_len_str : CallR X (.builtin "len") (fun xs H Q => ∃ z, xs = [.str z] ∧ z.length ≤ sizeLine ∧ Q (.int z.length) H) := by
 intro pins s σ H xs us Q I r h
 obtain ⟨z, rfl, hz, q⟩ := h
 obtain ⟨u, rfl, t, rfl⟩ := vals1 r
 have hn := line63
 exact len_str (by omega) ⟨.int z.length, H, I.tok _, ⟨_, rfl⟩, q⟩
theorem call_list_of : CallR X (.type "list") (fun xs H Q => ∃ p ys, xs = [.ref p] ∧ (SqL X.K H p ys ∨ SqT X.K H p ys) ∧ ∀ l, H l = none → Q (.ref l) (upd H l (.lst ys))) := by
 intro pins s σ H xs us Q I r h
 obtain ⟨p, ys, rfl, hq, q⟩ := h
 obtain ⟨u, rfl, rx⟩ := vals1 r
 cases rx
 have fin : ∀ (its : List Value), Vals ys its → ys.length ≤ sizeLine → ∀ (h' : Heap) (c' : Nat), (∀ b o', s.heap.get? b = some o' → h'.get? b = some o') →
   h'.get? s.heap.objs.size = some { cls := .type "list", dict := none, data := .seq its.toArray c', slots := #[] } → EP X pins σ Q (.ref s.heap.objs.size) { s with heap := h' } := fun its r' hz h' c' kp e =>
  ⟨.ref s.heap.objs.size, _, I.laid (t' := s.toks) kp (Nat.le_refl _) (show ObjOk X.prog X.w _ h' _ (.lst ys) from ⟨hz, its, c', r', e⟩), rfl, q _ (I.hok.fresh (Nat.le_refl _))⟩
 rcases hq with hq | hq
 ·obtain ⟨its, r', pl, hz⟩ := I.list hq
  have hlen := r'.length
  obtain ⟨o, ho, hc, n, hd⟩ := pl.isList
  exact call_list_seq p (.inl rfl) ho hc hd (fun h' c' kp e => fin its r' hz h' c' kp e) (by simp only [List.size_toArray] <;> omega)
 ·obtain ⟨its, r', pl, hz⟩ := I.tuple hq
  have hlen := r'.length
  obtain ⟨o, ho, hc, n, hd⟩ := pl
  exact call_list_seq p (.inr rfl) ho hc hd (fun h' c' kp e => fin its r' hz h' c' kp e) (by simp only [List.size_toArray] <;> omega)
theorem call_tuple_of : CallR X (.type "tuple") (fun xs H Q => ∃ p ys, xs = [.ref p] ∧ ((SqL X.K H p ys ∧ ∀ l, H l = none → Q (.ref l) (upd H l (.tup ys))) ∨ (SqT X.K H p ys ∧ Q (.ref p) H))) := by
 intro pins s σ H xs us Q I r h
 obtain ⟨p, ys, rfl, h⟩ := h
 obtain ⟨u, rfl, rx⟩ := vals1 r
 cases rx
 rcases h with ⟨hq, q⟩ | ⟨hq, q⟩
 ·obtain ⟨its, r', pl, hz⟩ := I.list hq
  have hlen := r'.length
  refine call_tuple_list pl.isList (fun h' kp => ?_) (by simp only [List.size_toArray] <;> omega)
  have I1 : Inv X pins σ H { s with heap := h' } := I.kept (t' := s.toks) kp
  have I2 : Inv X pins σ (upd H h'.objs.size (.tup ys)) { s with heap := h'.push { cls := .type "tuple", data := .seq its.toArray } } :=
   I1.laid (t' := s.toks) (fun b o e => Heap.get?_push_of_some _ e) (Nat.le_refl _) (show ObjOk X.prog X.w _ _ _ (.tup ys) from ⟨hz, its, r', IsTup.new _ _⟩)
  exact ⟨.ref h'.objs.size, _, I2, rfl, q _ (I1.hok.fresh (Nat.le_refl _))⟩
 ·obtain ⟨its, r', pl, hz⟩ := I.tuple hq
  exact call_tuple_same pl ⟨.ref p, H, I, rfl, q⟩
def tyV (K : PySem.W.Frag) (T : String) (x : V) (H : Hp) : Prop := match x with
 | .str _ => T = "str"
 | .int _ => T = "int"
 | .ref p => (T = "list" ∧ ∃ xs, SqL K H p xs) ∨ (T = "tuple" ∧ ∃ o, K.lookup p = some o ∧ o.cls = .type "tuple" ∧ o.dict = none) ∨
   (T = "dict" ∧ ((∃ kvs, H p = some (.dK kvs)) ∨ ∃ kvs, H p = some (.dT kvs))) ∨ (T = "set" ∧ ∃ S n, H p = some (.set S n))
 | _ => False
theorem tyV_is {pins : List (Addr × Obj)} {σ : St} {H : Hp} {s : Shared} {T : String} {x : V} {v : Value} (I : Inv X pins σ H s) (r : RelV x v) (ty : tyV X.K T x H) :
  s.TypeIs v T ∧ ∀ a, v = .ref a → ∃ ob, s.heap.get? a = some ob ∧ ob.dict = none := by
 cases x with
 | str z =>
  obtain ⟨t, rfl⟩ := r
  cases (show T = "str" from ty)
  exact ⟨typeIs_str s z t, fun _ e => nomatch e⟩
 | int i =>
  obtain ⟨t, rfl⟩ := r
  cases (show T = "int" from ty)
  exact ⟨typeIs_int s i t, fun _ e => nomatch e⟩
 | ref p =>
  cases r
  rcases ty with ⟨rfl, xs, hq⟩ | ⟨rfl, o, hk, hc, hd⟩ | ⟨rfl, hk⟩ | ⟨rfl, S, n, hk⟩
  ·obtain ⟨its, _, pl, _⟩ := I.list hq
   refine ⟨pl.isList.typeIs, fun a e => ?_⟩
   cases e
   obtain ⟨o, n, e, c, hd, _⟩ := pl
   exact ⟨o, e, hd⟩
  ·refine ⟨⟨o, I.kIn p o hk, hc⟩, fun a e => ?_⟩
   cases e
   exact ⟨o, I.kIn _ o hk, hd⟩
  ·have z : ∃ o, s.heap.get? p = some o ∧ o.ExactDict := by
    rcases hk with ⟨kvs, hk⟩ | ⟨kvs, hk⟩
    ·obtain ⟨_, _, _, _, o, _, _, e, ex, _⟩ := I.hok p _ hk
     exact ⟨o, e, ex⟩
    ·obtain ⟨_, _, _, _, o, _, _, e, ex, _⟩ := I.hok p _ hk
     exact ⟨o, e, ex⟩
   obtain ⟨o, e, ex⟩ := z
   refine ⟨⟨o, e, ex.1⟩, fun a e2 => ?_⟩
   cases e2
   exact ⟨o, e, ex.2.1⟩
  ·obtain ⟨o, _, _, _, e, ex, _⟩ := I.hok p _ hk
   refine ⟨⟨o, e, ex.1⟩, fun a e2 => ?_⟩
   cases e2
   exact ⟨o, e, ex.2.1⟩
 | _ => exact False.elim ty
variable {o e : Expr} {es : List Expr} {to : TE} {t : TA} {name : Str} {apos cpos : Pos} {T id : String} {r : V → List V → Hp → VK → Prop}
end
end L2
namespace L2
open PySem PySem.Spec PyProof.Rows
def MtM (X : Cx) (id : String) (r : V → List V → Hp → VK → Prop) : Prop :=
 ∀ (pins : List (Addr × Obj)) (s : Shared) (σ : St) (H : Hp) (x : V) (xs : List V) (v : Value) (us : List Value) (Q : VK), Inv X pins σ H s → RelV x v → Vals xs us → r x xs H Q →
  wpAny (model X.prog X.w) X.A (call (.builtin id) (v :: us)) (EP X pins σ Q) X.xe s
theorem Vals.one : ∀ {x : V} {us : List Value}, Vals [x] us → ∃ u, us = [u] ∧ RelV x u
 | _, _, .cons r .nil => ⟨_, rfl, r⟩
theorem Vals.rep {xs : List V} {us : List Value} (h : Vals xs us) : ∀ k : Nat, Vals (List.replicate k xs).flatten (List.replicate k us).flatten
 | 0 => .nil
 | k + 1 => by
  rw [List.replicate_succ, List.replicate_succ, List.flatten_cons, List.flatten_cons]
  exact Vals.append h (Vals.rep h k)
theorem foldl_rep (its : List Value) : ∀ (k : Nat) (acc : List Value),
  List.foldl (fun x1 x2 => x1 ++ x2) acc.toArray (List.replicate k its.toArray) = (acc ++ (List.replicate k its).flatten).toArray
 | 0, acc => by simp
 | k + 1, acc => by
  have e : acc.toArray ++ its.toArray = (acc ++ its).toArray := by simp
  have e2 : (acc ++ its) ++ (List.replicate k its).flatten = acc ++ (List.replicate (k + 1) its).flatten := by
   rw [List.replicate_succ, List.flatten_cons, List.append_assoc]
  rw [← e2, ← foldl_rep its k (acc ++ its), ← e, List.replicate_succ, List.foldl_cons]
section
variable {X : Cx} {pins : List (Addr × Obj)} {σ : St} {H : Hp} {s : Shared} {l b : Addr} {xs ys zs : List V}
theorem Inv.lset {its its' : List Value} {n : Nat} {f : Array Value → Array Value} {t' : Nat} (I : Inv X pins σ H s) (hH : H l = some (.lst xs))
  (e : s.heap.get? l = some { cls := .type "list", data := .seq its.toArray n }) (hf : f its.toArray = its'.toArray) (hv : Vals ys its') (hz : ys.length ≤ sizeLine) :
  Inv X pins σ (upd H l (.lst ys)) { s with heap := s.heap.update l (Obj.mapSeq f), toks := t' } := by
 have q := PySem.IsL.update e f
 rw [hf] at q
 refine I.write (x := l) (e := l) (by rw [hH]; exact trivial) (.inl rfl) (fun b' u hb hu => (Heap.get?_update_other s.heap (Obj.mapSeq f) (Ne.symm hb)).trans hu) ⟨_, q⟩ ?_
 exact ⟨hz, its', _, hv, q⟩
theorem Inv.lnew {its : List Value} {t' : Nat} (I : Inv X pins σ H s) (hv : Vals ys its) (hz : ys.length ≤ sizeLine) :
  Inv X pins σ (upd H s.heap.objs.size (.lst ys)) { s with heap := s.heap.push { cls := .type "list", data := .seq its.toArray }, toks := t' } :=
 I.laid (fun _ _ q => Heap.get?_push_of_some _ q) (Nat.le_refl _) ⟨hz, its, 0, hv, Heap.get?_push_size _ rfl⟩
theorem Inv.fresh (I : Inv X pins σ H s) : H s.heap.objs.size = none := I.hok.fresh (Nat.le_refl _)
theorem Inv.lstM (I : Inv X pins σ H s) (hH : H l = some (.lst xs)) : xs.length ≤ sizeLine ∧ ∃ (its : List Value) (n : Nat), Vals xs its ∧ xs.length = its.length ∧ s.heap.get? l = some { cls := .type "list", data := .seq its.toArray n } := by
 obtain ⟨z, its, n, r, e⟩ := I.hok l _ hH
 exact ⟨z, its, n, r, r.length, e⟩
theorem notLongL {n : Nat} (h : n ≤ sizeLine) : Builtin.List.listTooLong n = false := by
 unfold Builtin.List.listTooLong
 exact decide_eq_false (by omega)
end
section
variable {X : Cx}
def rAppend : V → List V → Hp → VK → Prop := fun x vs H Q => ∃ l xs y, x = .ref l ∧ vs = [y] ∧ H l = some (.lst xs) ∧ xs.length < sizeLine ∧ Q .non (upd H l (.lst (xs ++ [y])))
theorem mt_append : MtM X "list.append" rAppend := by
 intro pins s σ H x vs v us Q I rx rv h
 obtain ⟨l, xs, y, rfl, rfl, hH, hz, q⟩ := h
 cases rx
 obtain ⟨u, rfl, ru⟩ := rv.one
 obtain ⟨z, its, n, r, hl, e⟩ := I.lstM hH
 refine call_meets F.slot_list_append ⟨_, e, rfl⟩ F.entry_list_append (F.args_list_append_2 _ _) (PySem.list_append l its.toArray n u (by rw [List.size_toArray]; omega)) ⟨e, ?_⟩
 refine ⟨.non, _, I.lset (its' := its ++ [u]) hH e (by simp) (r.append (.cons ru .nil)) ?_, rfl, q⟩
 rw [List.length_append, List.length_singleton]
 omega
def rExtend : V → List V → Hp → VK → Prop := fun x vs H Q => ∃ l b xs zs, x = .ref l ∧ vs = [.ref b] ∧ H l = some (.lst xs) ∧ H b = some (.lst zs) ∧ xs.length + zs.length ≤ sizeLine ∧ Q .non (upd H l (.lst (xs ++ zs)))
theorem mt_extend : MtM X "list.extend" rExtend := by
 intro pins s σ H x vs v us Q I rx rv h
 obtain ⟨l, b, xs, zs, rfl, rfl, hH, hB, hz, q⟩ := h
 cases rx
 obtain ⟨u, rfl, ru⟩ := rv.one
 cases ru
 obtain ⟨z, its, n, r, hl, e⟩ := I.lstM hH
 obtain ⟨z2, its2, n2, r2, hl2, e2⟩ := I.lstM hB
 have hsz : its.toArray.size + its2.toArray.size ≤ sizeLine := by rw [List.size_toArray, List.size_toArray]; omega
 have hlong : ¬ (!its.toArray.isEmpty && Builtin.List.listTooLong (its.toArray.size + its2.toArray.size)) = true := by
  rw [notLongL hsz, Bool.and_false]
  exact Bool.false_ne_true
 refine call_meets F.slot_list_extend ⟨_, e, rfl⟩ F.entry_list_extend (F.args_list_extend_2 _ _)
  (AutoSeq1.list_extend_list_list_0 l its.toArray n b its2.toArray n2 hlong (by rw [List.size_toArray]; omega) (by omega)) ⟨e, e2, ?_⟩
 refine ⟨.non, _, I.lset (its' := its ++ its2) hH e (by simp) (r.append r2) ?_, rfl, q⟩
 rw [List.length_append]
 omega
def rCat : R2 := fun x y H Q => ∃ l b xs zs, x = .ref l ∧ y = .ref b ∧ H l = some (.lst xs) ∧ H b = some (.lst zs) ∧ xs.length + zs.length ≤ sizeLine ∧ ∀ p, H p = none → Q (.ref p) (upd H p (.lst (xs ++ zs)))
theorem op_cat : OpR X (binaryOp .Add) rCat := by
 intro pins s σ H x y v u Q I rx ry h
 obtain ⟨l, b, xs, zs, rfl, rfl, hH, hB, hz, q⟩ := h
 cases rx
 cases ry
 obtain ⟨z, its, n, r, hl, e⟩ := I.lstM hH
 obtain ⟨z2, its2, n2, r2, hl2, e2⟩ := I.lstM hB
 refine PySem.P.add_list e e2 ?_ (by rw [List.size_toArray, List.size_toArray]; omega)
 have ea : its.toArray ++ its2.toArray = (its ++ its2).toArray := by simp
 rw [ea]
 exact ⟨.ref _, _, I.lnew (t' := s.toks) (r.append r2) (by rw [List.length_append]; omega), rfl, q _ I.fresh⟩
theorem len_rep {α : Type} (xs : List α) (k : Nat) : (List.replicate k xs).flatten.length = k * xs.length := by
 induction k with
 | zero => simp
 | succ k ih => rw [List.replicate_succ, List.flatten_cons, List.length_append, ih, Nat.succ_mul, Nat.add_comm]
end
section
variable {prog : Program} {w : World} {A : Around} {E : Value → Shared → Prop} {s : Shared}
end
section
variable {X : Cx}
end
end L2
namespace Att
open PySem PySem.W PySem.Calls PyProof.Rows
theorem ints_of_wellAll {P : Params} {h : Heap} : ∀ (ns : List Int) (vs : List Value), WellAll P h vs (ns.map WData.int) → IntsAre vs ns := by
 intro ns
 induction ns with
 | nil =>
  intro vs w
  rw [List.map_nil] at w
  cases w
  exact .nil
 | cons n ns ih =>
  intro vs w
  rw [List.map_cons] at w
  cases w with
  | cons a b =>
   cases a
   exact .cons _ _ (ih _ b)
theorem script_of {l : OpenLaw} {n : Nat} (hn : l.most = some n) {P : Params} {h : Heap} {args : List WData} {vals : List Value}
  (hpre : l.row.toRowW.claim.pre args = true) (hwl : WellAll P h vals args) :
  ∃ a vs ns, vals = [Value.ref a] ∧ args = [WData.list (ns.map WData.int)] ∧ h.get? a = some { cls := .type "list", data := .seq vs.toArray } ∧ IntsAre vs ns ∧ ns.length ≤ n := by
 have hsh : WShape.hasAll [] args [.list .int] = true := (pre_splitW hpre).1
 have hc : l.pre.holds [] { args := args } = true := (pre_splitW hpre).2
 obtain ⟨d, r, rfl, h1, h2⟩ := hasAllW_cons hsh
 obtain rfl := hasAllW_nil h2
 obtain ⟨xs, rfl, h3⟩ := hasW_list h1
 obtain ⟨ns, rfl⟩ := items_int h3
 have hlen : ns.length ≤ n := by
  unfold OpenLaw.pre at hc
  have h4 : (WTm.not (.lt (.lit (.int (n : Int))) (.len (.arg 0)))).holds [] { args := [.list (ns.map .int)] } = true := by
   have h4 := (holds_andW hc).1
   rw [hn] at h4
   exact h4
  have h5 := condW_of h4 (w_not (w_lt w_lit (w_len_list (w_arg rfl))))
  rw [List.length_map] at h5
  refine Nat.le_of_not_lt fun q => ?_
  have q' : (n : Int) < ((ns.length : Nat) : Int) := by omega
  first
   | (rw [decide_eq_true q'] at h5; exact absurd h5 (by decide))
   | (simp at h5; omega)
 cases hwl with
 | cons w1 w2 =>
  cases w2
  cases w1 with
  | list ho hall => exact ⟨_, _, ns, rfl, rfl, ho, ints_of_wellAll ns _ hall, hlen⟩
theorem post_true (l : OpenLaw) (args : List WData) : l.row.toRowW.claim.post args (.bool true) args = true :=
 postW_of (r := l.row.toRowW) (X := (true == true))
  (show WShape.has [] (.bool true) .bool = true by first | rfl | decide | simp [WShape.has, WShape.arms, WShape.armsAll])
  (show (WTm.eq .res (.lit (.bool true))).value [] { args := args, res := some (.bool true), after := args } = some (.bool (true == true)) from w_eq_bool (w_res rfl) w_lit) rfl
theorem attach_call {l : OpenLaw} {n : Nat} {q : Program} {loose : List Str} {XP : (Str → Option Value) → Heap → Prop} {YP : World → Heap → Prop} {d : DefRec}
  (hn : l.most = some n) (hdf : d.params.defaults = [])
  (call : ∀ (w : World) (s₀ s₁ : Shared) (mg mb : Str → Option Value) (fa : Addr) (o : Obj) (pm cd doc : Value) (a : Addr) (vs : List Value) (ns : List Int),
   Ground q loose [] XP w s₀ mg mb s₁.heap → YP w s₁.heap →
   s₁.heap.get? fa = some o → o.data = .func (docDef d.name d.params d.body d.scope pm cd doc) → s₁.heap.CodeRec cd d.name → mg d.name = some (.ref fa) →
   s₁.heap.get? a = some { cls := .type "list", data := .seq vs.toArray } → IntsAre vs ns → ns.length ≤ n → s₁.gens = #[] →
   codeAny (model l.prog w) callerA (.call (.ref fa) ⟨[.ref a], []⟩) (fun r s' => r = .ok (.ret (.bool true)) ∧ OldK s₁.heap s'.heap ∧ s'.os = s₁.os ∧ AllBare s'.gens) s₁) :
  WalkO q loose XP YP l.row.toRowW d [] (fun f vs => PySem.call f vs) := by
 intro w s₀ s₁ mg mb G Y fa o pm cd doc dV kV ho hd hcd hD hmg hg args vals as hpre hlay hrd hwl hlo
 obtain rfl : dV = .none := Dflts.none hD hdf
 obtain rfl : kV = .none := Dflts.noKw hD
 obtain ⟨a, vs, ns, rfl, rfl, hobj, hints, hlen⟩ := script_of hn hpre hwl
 refine enter_call (codeAny_mono (call w s₀ s₁ mg mb fa o pm cd doc a vs ns G Y ho (fd_plain hd) hcd hmg hobj hints hlen hg) fun r s' hq => ?_)
 obtain ⟨rfl, h2, h3, h4⟩ := hq
 exact ⟨.inl ⟨.bool true, .bool true, [], rfl, fun _ => rfl, .bool true, post_true l _, fun _ => ⟨List.Pairwise.nil, fun _ hm => (nomatch hm)⟩⟩, h2, h3, h4⟩
section
variable {prog : Program} {w : World} {A : Around} {E : Value → Shared → Prop} {s : Shared} {K : Frag}
def ledger (h : Heap) (L d : Addr) : List (Addr × Obj) := (List.range h.objs.size).filterMap fun a => if a = L ∨ a = d then none else (h.get? a).map fun o => (a, o)
end
end Att
namespace L2
open PySem PySem.Spec PyProof.Rows
theorem vals_ints : ∀ {vs : List Value} {ns : List Int}, IntsAre vs ns → Vals (ns.map V.int) vs
 | _, _, .nil => .nil
 | _, _, .cons n t h => .cons ⟨t, rfl⟩ (vals_ints h)
def Only (H : Hp) : Prop := ∀ b, H b = none ∨ ∃ o xs, H b = some (.frz o (.lst xs))
theorem law_call {P : Program} {w : World} {K : PySem.W.Frag} {mg mb : Str → Option Value} {CX : CXT} {k : Nat} {fa a : Addr} {fd : FuncData} {x : Str} {sp : Sp} {s₁ : Shared} {vs : List Value} {ns : List Int}
  (KX : K.In s₁.heap) (hns : s₁.heap.Ns mainGlobals mg) (hb : s₁.heap.Ns builtinsNs mb) (hbb : ∀ x : Str, x ≠ "__name__" → mb x = bootBuiltins x) (hlim : s₁.heap.NoLimit) (hg : s₁.gens = #[])
  (ha : s₁.heap.get? a = some { cls := .type "list", data := .seq vs.toArray }) (hi : IntsAre vs ns) (hl : ns.length ≤ sizeLine) (hr : Room k callerA)
  (F : ∀ base : Heap, K.In base → base.Ns mainGlobals mg → FnOk P w K mg base CX k fa fd [x] sp) (hbind : ∀ (s : Shared) (u : Value), BindsTo s fd ⟨[u], []⟩ [(x, u)])
  (hsp : ∀ H : Hp, Only H → SqL K H a (ns.map V.int) → sp [.ref a] H (fun v _ => v = .bl true) fun _ _ _ => False)
  (hCX : ∀ H e s', CX [] H s₁ (fun _ _ _ => False) e s' → False) :
  codeAny (model P w) callerA (.call (.ref fa) ⟨[.ref a], []⟩) (fun r s' => r = .ok (.ret (.bool true)) ∧ OldK s₁.heap s'.heap ∧ s'.os = s₁.os ∧ AllBare s'.gens) s₁ := by
 have rv := vals_ints hi
 have lenV := hi.length
 have core : ∀ H : Hp, Only H → SqL K H a (ns.map V.int) → HOk P w H s₁.heap → (∀ b, H b ≠ none → b = a) → (H a ≠ none → K.lookup a = none) →
   codeAny (model P w) callerA (.call (.ref fa) ⟨[.ref a], []⟩) (fun r s' => r = .ok (.ret (.bool true)) ∧ OldK s₁.heap s'.heap ∧ s'.os = s₁.os ∧ AllBare s'.gens) s₁ := by
  intro H hO hS hok hA hK
  have base_of : ∀ {b : Addr} {o : Obj}, s₁.heap.get? b = some o → H b = none → (hidT s₁.heap H).get? b = some o := fun e n => hidT_get e n
  have noA : ∀ {b : Addr} {o : Obj} {es : Array DictEntry} {ep : Nat}, s₁.heap.get? b = some o → o.data = .dict es ep → H b = none := fun {b o es ep} e d => by
   cases q : H b with
   | none => rfl
   | some u =>
    have e' : b = a := hA b (by rw [q]; simp)
    subst e'
    rw [ha] at e; cases e
    have d' : Data.seq vs.toArray _ = Data.dict es ep := d
    cases d'
  have nsK : ∀ {b : Addr} {m : Str → Option Value}, s₁.heap.Ns b m → (hidT s₁.heap H).Ns b m := fun {b m} ⟨o, es, ep, e, d, r⟩ => ⟨o, es, ep, base_of e (noA e d), d, r⟩
  have hKb : K.In (hidT s₁.heap H) := fun b o e => base_of (KX b o e) (by
   cases q : H b with
   | none => rfl
   | some u =>
    have e' : b = a := hA b (by rw [q]; simp)
    subst e'
    rw [hK (by rw [q]; simp)] at e; cases e)
  have hM : Mod K mg (hidT s₁.heap H) := ⟨hKb, nsK hns, ⟨mb, nsK hb, hbb⟩, let ⟨mc, h1, h2⟩ := hlim; ⟨mc, nsK h1, h2⟩⟩
  have e0 : Env0 P w K mg (hidT s₁.heap H) callerA [] s₁ H := ⟨rfl, hM, fun b o e => of_hidT e, Nat.le_of_eq (hidT_size _ _), trivial, fun b hb => absurd (show b ∈ ([] : List Addr) from hb) (by simp), hok, .of_eq hg⟩
  refine codeAny_mono ((F _ hKb (nsK hns)).run callerA [] s₁ H ⟨[.ref a], []⟩ [.ref a] [.ref a] _ _ hr e0 (hbind s₁ (.ref a)) (.cons rfl .nil) (hsp H hO hS)) fun r s' h => ?_
  cases r with
  | error e => exact (hCX H e s' h).elim
  | ok fl =>
   cases fl with
   | next => exact False.elim h
   | brk => exact False.elim h
   | cont => exact False.elim h
   | ret u =>
    obtain ⟨v, H', os, bare, un, hok', r', q⟩ := h
    have q' : v = .bl true := q
    subst q'
    obtain rfl : u = Value.bool true := r'
    refine ⟨rfl, OldK.of_keep fun b o e => ?_, os, bare⟩
    cases q : H b with
    | none => exact un.keep b o e q (by intro z; exact absurd (show b ∈ ([] : List Addr) from z) (by simp)) (by simp)
    | some u =>
     rcases hO b with z | ⟨ob, xs, z⟩
     ·rw [q] at z; cases z
     ·have z2 := un.frzs b ob _ z
      obtain ⟨e1, _⟩ := hok b _ z
      obtain ⟨e2, _⟩ := hok' b _ z2
      rw [e] at e1; cases e1
      exact e2
 cases hk : K.lookup a with
 | some o =>
  have e := KX a o hk
  rw [ha] at e
  cases e
  refine core (fun _ => none) (fun _ => .inl rfl) (.inr ⟨_, vs.toArray, _, hk, rfl, rfl, rfl, by rw [List.size_toArray, lenV]; exact hl, by simpa using rv⟩) (fun b u z => by have z' : (none : Option HO) = some u := z; cases z') (fun b z => absurd rfl z) fun z => absurd rfl z
 | none =>
  refine core (fun b => if b = a then some (.frz { cls := .type "list", data := .seq vs.toArray } (.lst (ns.map V.int))) else none) (fun b => ?_) (.inl (.inr ⟨{ cls := .type "list", data := .seq vs.toArray }, if_pos rfl⟩)) (fun b u z => ?_) (fun b z => ?_) fun _ => hk
  ·by_cases hb : b = a
   ·exact .inr ⟨_, _, if_pos hb⟩
   ·exact .inl (if_neg hb)
  ·by_cases hb : b = a
   ·have z' := (if_pos hb).symm.trans z
    cases z'
    subst hb
    exact ⟨ha, by rw [List.length_map]; exact hl, vs, _, rv, ha⟩
   ·have z' := (if_neg hb).symm.trans z
    cases z'
  ·by_cases hb : b = a
   ·exact hb
   ·exact absurd (if_neg hb) z
end L2
namespace L2
open PySem PySem.Spec PyProof.Rows
theorem walk_of {l : PySem.W.OpenLaw} {n k : Nat} {q : Program} {loose : List Str} {XP : (Str → Option Value) → Heap → Prop} {YP : World → Heap → Prop} {d : DefRec} {K : Params → PySem.W.Frag} {CX : World → CXT} {sp : World → Sp} {x : Str}
  (hn : l.most = some n) (hn2 : n ≤ sizeLine) (hdf : d.params.defaults = []) (hr : Room k callerA)
  (hY : ∀ (w : World) (h : Heap), YP w h → (K w.params).In h)
  (F : ∀ (w : World) (mg : Str → Option Value) (fa : Addr) (h : Heap), (K w.params).In h → h.Ns mainGlobals mg → mg d.name = some (.ref fa) →
   ∃ fd : FuncData, (∀ (s : Shared) (u : Value), BindsTo s fd ⟨[u], []⟩ [(x, u)]) ∧
    ∀ base : Heap, (K w.params).In base → base.Ns mainGlobals mg → FnOk l.prog w (K w.params) mg base (CX w) k fa fd [x] (sp w))
  (hsp : ∀ (w : World) (H : Hp) (a : Addr) (ns : List Int), ns.length ≤ n → Only H → SqL (K w.params) H a (ns.map V.int) → sp w [.ref a] H (fun v _ => v = .bl true) fun _ _ _ => False)
  (hCX : ∀ (w : World) (H : Hp) (s : Shared) (e : Value) (s' : Shared), CX w [] H s (fun _ _ _ => False) e s' → False) :
  PySem.W.WalkO q loose XP YP l.row.toRowW d [] (fun f vs => PySem.call f vs) := by
 refine Att.attach_call hn hdf fun w s₀ s₁ mg mb fa o pm cd doc a vs ns G Y ho hd hcd hmg hobj hints hlen hg => ?_
 have KX := hY w _ Y
 obtain ⟨fd, hb, hF⟩ := F w mg fa _ KX G.T.g hmg
 exact law_call KX G.T.g G.T.b G.T.builtins G.T.nolimit hg hobj hints (Nat.le_trans hlen hn2) hr hF hb (fun H hO hS => hsp w H a ns hlen hO hS) fun H e s' => hCX w H s₁ e s'
end L2
namespace L2
open PySem PySem.Spec PyProof.Rows
def defArgs (s : Stmt) : Arguments := match s with
 | .FunctionDef _ a _ _ _ _ _ _ _ _ => a
 | _ => { posonlyargs := [], args := [], vararg := none, kwonlyargs := [], kw_defaults := [], kwarg := none, defaults := [] }
def defBody (s : Stmt) : List Stmt := match s with
 | .FunctionDef _ _ b _ _ _ _ _ _ _ => b
 | _ => []
def defScope (s : Stmt) : Scope := match s with
 | .FunctionDef _ _ _ _ _ _ sc _ _ _ => sc
 | _ => { kind := .function, names := [], isGenerator := false, isCoroutine := false }
abbrev CX0 : CXT := fun _ _ _ _ _ _ => False
abbrev E0 : XK := fun _ _ _ => False
theorem pass0 {X : Cx} : Passes CX0 X E0 := fun _ _ _ _ _ _ _ h => h.elim
structure Fun (K : PySem.W.Frag) (x qual : Str) (st : Stmt) (f : Addr) (fd : FuncData) : Prop where
 ex : ∃ (oc : Value) (od : Option Addr) (kV doc pm : Value) (an : Option Addr) (cdv ct : Value) (osl : Array (Option Value)),
  fd = PySem.W.fnOf x qual (defArgs st) (defBody st) (defScope st) .none kV doc pm an cdv ct ∧ K.lookup f = some ⟨oc, od, .func fd, osl⟩ ∧ PySem.W.codeIn K cdv qual = true
 kp : PySem.W.keepIn K (.ref f) = true
section
variable {P : Program} {w : World} {K : PySem.W.Frag} {mg : Str → Option Value} {base : Heap}
theorem Fun.ok {x qual : Str} {st : Stmt} {f : Addr} {fd : FuncData} {N ps : List Str} {k : Nat} {sp : Sp} (F : Fun K x qual st f fd) (S : FnScope N ps (defScope st)) (len : ∀ vs H Q E, sp vs H Q E → vs.length = ps.length)
  (hbody : ∀ (cdv : Value) (A : Around) (outer : List Env) (s : Shared) (H : Hp) (vs : List V) (Q : VK) (E : XK), Room k (A.deeper (envOfC qual (defScope st) s.heap.objs.size f cdv)) → sp vs H Q E →
   ∃ t, PSs (cxOf CX0 P w K mg base N qual (defScope st) f cdv A outer s H E).nox (defBody st) t ∧ t { nx := fun _ H' => Q .non H', rt := Q } (start N vs) H) : FnOk P w K mg base CX0 (k + 1) f fd ps sp := by
 obtain ⟨oc, od, kV, doc, pm, an, cdv, ct, osl, rfl, lk, hcd⟩ := F.ex
 refine fn_of lk hcd S len fun A outer s H vs Q E hr hsp => ?_
 obtain ⟨t, h, q⟩ := hbody cdv A outer s H vs Q E hr hsp
 exact ⟨t, h.nox, q⟩
theorem fun_mk {x qual : Str} {st : Stmt} {f : Addr} {oc : Value} {od an : Option Addr} {osl : Array (Option Value)} {kV doc pm cdv ct : Value} (l : K.lookup f = some ⟨oc, od, .func (PySem.W.fnOf x qual (defArgs st) (defBody st) (defScope st) .none kV doc pm an cdv ct), osl⟩)
  (c : PySem.W.codeIn K cdv qual = true) (k : PySem.W.keepIn K (.ref f) = true) : Fun K x qual st f (PySem.W.fnOf x qual (defArgs st) (defBody st) (defScope st) .none kV doc pm an cdv ct) := ⟨⟨oc, od, kV, doc, pm, an, cdv, ct, osl, rfl, l, c⟩, k⟩
end
theorem small1000 {n : Nat} (h : n ≤ 1000) : n < sizeLine := Nat.lt_of_le_of_lt h (by decide)
section
variable {X : Cx}
end
theorem ite2 {c A B : Prop} [Decidable c] (h1 : c → A) (h2 : ¬ c → B) : if c then A else B := by
 by_cases h : c
 ·rw [if_pos h]
  exact h1 h
 ·rw [if_neg h]
  exact h2 h
def Same (H H' : Hp) : Prop := ∀ b o, H b = some o → H' b = some o
theorem Same.refl (H : Hp) : Same H H := fun _ _ h => h
theorem Same.trans {H H1 H2 : Hp} (a : Same H H1) (b : Same H1 H2) : Same H H2 := fun c o h => b c o (a c o h)
theorem Same.seq {K : PySem.W.Frag} {H H' : Hp} {a : Addr} {xs : List V} (e : Same H H') (h : SqL K H a xs) : SqL K H' a xs := by
 rcases h with (h | ⟨o, h⟩) | h
 ·exact .inl (.inl (e _ _ h))
 ·exact .inl (.inr ⟨o, e _ _ h⟩)
 ·exact .inr h
end L2
namespace L2
open PySem PySem.Spec PyProof.Rows
section
variable {κ : Type} [DecidableEq κ]
def valV (kvs : List (κ × V)) (k : κ) : Option V := (kvs.find? fun kv => decide (kv.1 = k)).map (·.2)
def putK (kvs : List (κ × V)) (k : κ) (v : V) : List (κ × V) :=
 if (kvs.any fun kv => decide (kv.1 = k)) = true then kvs.map (fun kv => if kv.1 = k then (kv.1, v) else kv) else kvs ++ [(k, v)]
def dropK (kvs : List (κ × V)) (k : κ) : List (κ × V) := kvs.filter fun kv => decide (kv.1 ≠ k)
theorem valV_pos {p : κ × V} {r : List (κ × V)} {k : κ} (e : p.1 = k) : valV (p :: r) k = some p.2 := by simp [valV, List.find?_cons, e]
theorem RelO.getD {o : Option V} {u : Option Value} {d : V} {d' : Value} (r : RelO o u) (rd : RelV d d') : RelV (o.getD d) (u.getD d') := by
 cases o with
 | none => cases u with
  | none => exact rd
  | some _ => exact (show False from r).elim
 | some _ => cases u with
  | none => exact (show False from r).elim
  | some _ => exact r
theorem KV.length {kvs : List (κ × V)} {vs : List (κ × Value)} (r : KV kvs vs) : kvs.length = vs.length := Paired.length r
end
abbrev KT (H : Hp) : List (List Key × V) → List (List Key × Addr × Value) → Prop := Paired fun p q => p.1 = q.1 ∧ H q.2.1 = some (.tup (p.1.map kV)) ∧ RelV p.2 q.2.2
section
variable {P : Program} {w : World} {H : Hp} {h : Heap} {a : Addr}
end
def DGet (H : Hp) (a : Addr) (y : V) (r : Option V) : Prop :=
 (∃ kvs k, Rd H a (.dK kvs) ∧ y = kV k ∧ r = valV kvs k) ∨ ∃ kvs k b, Rd H a (.dT kvs) ∧ y = .ref b ∧ H b = some (.tup (k.map kV)) ∧ r = valV kvs k
def DPut (H : Hp) (a : Addr) (y v : V) (H' : Hp) : Prop :=
 (∃ kvs k, H a = some (.dK kvs) ∧ y = kV k ∧ kvs.length < sizeLine ∧ H' = upd H a (.dK (putK kvs k v))) ∨
 ∃ kvs k b, H a = some (.dT kvs) ∧ y = .ref b ∧ H b = some (.tup (k.map kV)) ∧ kvs.length < sizeLine ∧ H' = upd H a (.dT (putK kvs k v))
theorem DGet.t {H : Hp} {a b : Addr} {kvs : List (List Key × V)} {k : List Key} (e : H a = some (.dT kvs)) (eb : H b = some (.tup (k.map kV))) : DGet H a (.ref b) (valV kvs k) := .inr ⟨kvs, k, b, .inl e, rfl, eb, rfl⟩
theorem DPut.t {H : Hp} {a b : Addr} {kvs : List (List Key × V)} {k : List Key} {v : V} (e : H a = some (.dT kvs)) (eb : H b = some (.tup (k.map kV))) (hl : kvs.length < sizeLine) :
  DPut H a (.ref b) v (upd H a (.dT (putK kvs k v))) := .inr ⟨kvs, k, b, e, rfl, eb, hl, rfl⟩
section
variable {X : Cx} {pins : List (Addr × Obj)} {σ : St} {H : Hp} {s : Shared} {a : Addr} {y v : V} {u r : Value} {o : Option V} {A : Around} {E : Value → Shared → Prop}
end
section
variable {X : Cx} {pins : List (Addr × Obj)} {σ : St} {H : Hp} {s : Shared} {a : Addr} {kvs : List (Key × V)} {k : Key} {u : Value} {A : Around} {E : Value → Shared → Prop}
end
section
variable {X : Cx} {o i e value : Expr} {pos pos' tpos : Pos} {td ty tv : TE}
end
section
variable {X : Cx} {pos : Pos}
end
structure M1 (X : Cx) (o : Expr) (m : Str) (apos : Pos) (e : Expr) (cpos : Pos) : Prop where
 base : attributeBase o m X.env (eval o X.env) = eval o X.env
 few : ((backTo cpos (starEach [e] X.env)).all (fun x => !x.1) && (backToKw cpos (keywordEach [] X.env)).all (fun x => x.1.isSome)
  && decide (([e] : List Expr).length + ([] : List Keyword).length + (if ([] : List Keyword).isEmpty then 0 else 1) < 30)) = true
 line : (apos.endLine == cpos.line) = true
 trees : backTo cpos (starEach [e] X.env) = [(false, eval e X.env)]
structure M2 (X : Cx) (o : Expr) (m : Str) (apos : Pos) (e f : Expr) (cpos : Pos) : Prop where
 base : attributeBase o m X.env (eval o X.env) = eval o X.env
 few : ((backTo cpos (starEach [e, f] X.env)).all (fun x => !x.1) && (backToKw cpos (keywordEach [] X.env)).all (fun x => x.1.isSome)
  && decide (([e, f] : List Expr).length + ([] : List Keyword).length + (if ([] : List Keyword).isEmpty then 0 else 1) < 30)) = true
 line : (apos.endLine == cpos.line) = true
 trees : backTo cpos (starEach [e, f] X.env) = [(false, eval e X.env), (false, eval f X.env)]
section
variable {X : Cx} {pins : List (Addr × Obj)} {σ : St} {H : Hp} {s : Shared} {a : Addr} {y d : V} {u r : Value} {o : Option V} {A : Around} {E : Value → Shared → Prop}
end
section
variable {X : Cx} {o e f : Expr} {apos cpos : Pos} {td ty tx : TE}
end
section
variable {X : Cx} {pins : List (Addr × Obj)} {σ : St} {H : Hp} {s : Shared} {a : Addr} {kvs : List (Key × V)} {A : Around} {E : Value → Shared → Prop}
end
section
variable {X : Cx} {pins : List (Addr × Obj)} {σ : St} {H : Hp} {s : Shared} {a : Addr} {y : V} {u : Value} {A : Around} {E : Value → Shared → Prop}
end
end L2
namespace L2
open PySem PySem.Spec PyProof.Rows
section
variable {X : Cx}
end
section
variable {κ : Type} [DecidableEq κ]
end
end L2
set_option maxHeartbeats 4000000
namespace My
open PySem PySem.Spec L2
open PyProof.Rows hiding St
theorem cx_K {CX : CXT} {P : Program} {w : World} {K : PySem.W.Frag} {mg : Str → Option Value} {base : Heap} {N : List Str} {qual : Str} {scope : Scope} {f : Addr} {cd : Value} {A : Around} {outer : List Env} {s : Shared} {H : Hp} {E : XK} : (cxOf CX P w K mg base N qual scope f cd A outer s H E).K = K := rfl
section
variable {X : Cx}
theorem pe_imp {e : Expr} {t t' : TE} (h : PE X e t) (i : ∀ σ H Q, t' σ H Q → t σ H Q) : PE X e t' := fun pins s σ H Q I q => h pins s σ H Q I (i σ H Q q)
theorem ps_imp {e : Stmt} {t t' : TS} (h : PS X e t) (i : ∀ D σ H, t' D σ H → t D σ H) : PS X e t' := fun pins s σ H D I q => h pins s σ H D I (i D σ H q)
theorem op_imp {f : Value → Value → Sem Value} {r r' : R2} (h : OpR X f r) (i : ∀ x y H Q, r' x y H Q → r x y H Q) : OpR X f r' := fun pins s σ H x y v u Q I rx ry q => h pins s σ H x y v u Q I rx ry (i x y H Q q)
theorem ix_imp {r r' : R2} (h : IxR X r) (i : ∀ x y H Q, r' x y H Q → r x y H Q) : IxR X r' := fun value slice pins s σ H x y v u Q I rx ry q hs => h value slice pins s σ H x y v u Q I rx ry (i x y H Q q) hs
theorem sl_imp {r r' : V → Option Int → Option Int → Hp → VK → Prop} (h : SlR X r) (i : ∀ x lo hi H Q, r' x lo hi H Q → r x lo hi H Q) : SlR X r' := fun pins s σ H x v vl vu lo hi sl Q I rx hs pl pu q => h pins s σ H x v vl vu lo hi sl Q I rx hs pl pu (i x lo hi H Q q)
end
def New (H : Hp) (o : HO) (Q : VK) : Prop := ∀ (p : Addr) (H' : Hp), H p = none → Same H H' → H' p = some o → Q (.ref p) H'
theorem same_upd {H H1 : Hp} {p : Addr} (h : Same H H1) (n : H p = none) (o : HO) : Same H (upd H1 p o) := fun b u q => by
 rw [upd_ne (ne_of_none q n)]
 exact h b u q
theorem same_new {H : Hp} {p : Addr} (n : H p = none) (o : HO) : Same H (upd H p o) := same_upd (Same.refl H) n o
theorem New.at {H : Hp} {o : HO} {Q : VK} (h : New H o Q) : ∀ p, H p = none → Q (.ref p) (upd H p o) := fun p n => h p _ n (same_new n o) upd_same
def Tups (H H' : Hp) : Prop := (∀ b xs, H b = some (.tup xs) → H' b = some (.tup xs)) ∧ ∀ b o u, H b = some (.frz o u) → H' b = some (.frz o u)
theorem Tups.trans {H H1 H2 : Hp} (a : Tups H H1) (b : Tups H1 H2) : Tups H H2 := ⟨fun c xs h => b.1 c xs (a.1 c xs h), fun c o u h => b.2 c o u (a.2 c o u h)⟩
theorem same_tups {H H' : Hp} (a : Same H H') : Tups H H' := ⟨fun b xs h => a b _ h, fun b o u h => a b _ h⟩
theorem tups_upd {H : Hp} {p : Addr} {o : HO} (n : (∀ xs, H p ≠ some (.tup xs)) ∧ ∀ ob u, H p ≠ some (.frz ob u)) : Tups H (upd H p o) :=
 ⟨fun b xs h => by rw [upd_ne (by rintro rfl; exact n.1 xs h)]; exact h, fun b ob u h => by rw [upd_ne (by rintro rfl; exact n.2 ob u h)]; exact h⟩
theorem tups_lst {H : Hp} {p : Addr} {xs : List V} {o : HO} (h : H p = some (.lst xs)) : Tups H (upd H p o) := tups_upd ⟨fun ys z => (by rw [h] at z; cases z), fun ob u z => (by rw [h] at z; cases z)⟩
theorem Tups.sqT {K : PySem.W.Frag} {H H' : Hp} {a : Addr} {xs : List V} (t : Tups H H') (h : SqT K H a xs) : SqT K H' a xs := by
 rcases h with (h | ⟨o, h⟩) | h
 ·exact .inl (.inl (t.1 _ _ h))
 ·exact .inl (.inr ⟨o, t.2 _ _ _ h⟩)
 ·exact .inr h
mutual
def Has (K : PySem.W.Frag) (H : Hp) : V → PyData → Prop
 | v, .none => v = .non
 | v, .bool b => v = .bl b
 | v, .int i => v = .int i
 | v, .str x => v = .str x
 | v, .tuple ds => ∃ a xs, v = .ref a ∧ SqT K H a xs ∧ HasL K H xs ds
 | v, .list ds => ∃ a xs, v = .ref a ∧ SqL K H a xs ∧ HasL K H xs ds
 | _, .dict _ => False
def HasL (K : PySem.W.Frag) (H : Hp) : List V → List PyData → Prop
 | xs, [] => xs = []
 | xs, d :: ds => ∃ y ys, xs = y :: ys ∧ Has K H y d ∧ HasL K H ys ds
end
def gv : St → Nat → Option V
 | [], _ => none
 | x :: _, 0 => x
 | _ :: r, n + 1 => gv r n
def sv : St → Nat → V → St
 | [], _, _ => []
 | _ :: r, 0, v => some v :: r
 | x :: r, n + 1, v => x :: sv r n v
theorem gv_get : ∀ {σ : St} {i : Nat} {v : V}, gv σ i = some v → σ[i]? = some (some v)
 | [], _, _, h => by simp [gv] at h
 | x :: _, 0, v, h => by have h' : x = some v := h; simp [h']
 | _ :: r, n + 1, v, h => by
  have := gv_get (σ := r) (i := n) (v := v) h
  simpa using this
theorem sv_set : ∀ (σ : St) (i : Nat) (v : V), σ.set i (some v) = sv σ i v
 | [], _, _ => rfl
 | _ :: _, 0, _ => rfl
 | x :: r, n + 1, v => by
  show x :: r.set n (some v) = x :: sv r n v
  rw [sv_set r n v]
section
variable {X : Cx}
def mV (i : Nat) : TE := fun σ H Q => match gv σ i with
 | some v => Q v H
 | none => False
theorem m_var (i : Nat) {x : Str} {pos : Pos} (hN : X.N[i]? = some x := by rfl) (hv : Vis X.env.scope x := by first | exact Or.inl rfl | exact Or.inr (Or.inl rfl) | exact Or.inr (Or.inr rfl)) (hd : (x == ("__debug__" : Str)) = false := by decide)
  (hcd : (x == ("__classdict__" : Str)) = false := by decide) : PE X (.Name x pos) (mV i) := pe_imp (pe_var hN hv hd hcd) fun σ H Q q => by
 unfold mV at q
 split at q
 ·rename_i v e; exact ⟨v, gv_get e, q⟩
 ·exact q.elim
def mSet (i : Nat) (te : TE) : TS := fun D σ H => te σ H fun x H1 => D.nx (sv σ i x) H1
theorem m_set (i : Nat) {x : Str} {e : Expr} {te : TE} {pos pos' : Pos} (hN : X.N.Nodup) (he : PE X e te) (hi : X.N[i]? = some x := by rfl) (hx : Loc X.env.scope x := by first | exact Or.inl rfl | exact Or.inr rfl)
  (hs : swapsWith e (some (.Name x pos')) pos.line X.env = pure false := by rfl) (hf : X.fn x = true ∨ X.env.scope.names.lookup x = some .local := by first | exact .inl rfl | exact .inr rfl) : PS X (.Assign [.Name x pos'] e pos) (mSet i te) :=
 ps_imp (ps_set (i := i) hN hi hx he hs hf) fun D σ H q => by
  refine (?_ : tAsg te (gName i) D σ H)
  have e : (fun x H1 => D.nx (sv σ i x) H1) = fun x H1 => gName i x σ H1 D.nx := by
   funext x H1
   show D.nx (sv σ i x) H1 = D.nx (σ.set i (some x)) H1
   rw [sv_set]
  show te σ H fun x H1 => gName i x σ H1 D.nx
  rw [← e]
  exact q
def mG (i : Nat) : TG := fun v σ H Q => Q (sv σ i v) H
theorem m_tg (i : Nat) {x : Str} {pos : Pos} (hN : X.N.Nodup) (hi : X.N[i]? = some x := by rfl) (hx : Loc X.env.scope x := by first | exact Or.inl rfl | exact Or.inr rfl)
  (hf : X.fn x = true ∨ X.env.scope.names.lookup x = some .local := by first | exact .inl rfl | exact .inr rfl) : PG X (.Name x pos) (mG i) := by
 have h := pg_name (pos := pos) (X := X) hN hi hx hf
 have e : mG i = gName i := by
  funext v σ H Q
  show Q (sv σ i v) H = Q (σ.set i (some v)) H
  rw [sv_set]
 rw [e]
 exact h
def onBl (k : Bool → Hp → Prop) : V → Hp → Prop := fun x H => match x with
 | .bl c => k c H
 | _ => False
theorem onBl_mk {k : Bool → Hp → Prop} {c : Bool} {H : Hp} : onBl k (.bl c) H = k c H := rfl
def onInt (k : Int → Hp → Prop) : V → Hp → Prop := fun x H => match x with
 | .int c => k c H
 | _ => False
theorem onInt_mk {k : Int → Hp → Prop} {c : Int} {H : Hp} : onInt k (.int c) H = k c H := rfl
def onRef (k : Addr → Hp → Prop) : V → Hp → Prop := fun x H => match x with
 | .ref c => k c H
 | _ => False
theorem onRef_mk {k : Addr → Hp → Prop} {c : Addr} {H : Hp} : onRef k (.ref c) H = k c H := rfl
def on1 (k : V → Hp → Prop) : List V → Hp → Prop := fun x H => match x with
 | [c] => k c H
 | _ => False
theorem on1_mk {k : V → Hp → Prop} {c : V} {H : Hp} : on1 k [c] H = k c H := rfl
def mAdd (K : PySem.W.Frag) : R2 := fun x y H Q => match x, y with
 | .int i, .int j => Q (.int (i + j)) H
 | .str a, .str b => a.length + b.length ≤ sizeLine ∧ Q (.str (a ++ b)) H
 | .ref a, .ref b => (∃ xs ys, H a = some (.lst xs) ∧ H b = some (.lst ys) ∧ xs.length + ys.length ≤ sizeLine ∧ New H (.lst (xs ++ ys)) Q) ∨
   ∃ xs ys, SqT K H a xs ∧ SqT K H b ys ∧ xs.length + ys.length ≤ sizeLine ∧ ∀ (p : Addr) (H' : Hp), Same H H' → SqT K H' p (xs ++ ys) → Q (.ref p) H'
 | _, _ => False
theorem cat_tup0 {prog : Program} {w : World} {A : Around} {E : Value → Shared → Prop} {s : Shared} {t b : Addr} {ws : List Value} {Q : Value → Shared → Prop} (ht : IsTup s.heap t #[]) (hb : IsTup s.heap b ws.toArray) (h : Q (.ref b) s) :
  wpAny (model prog w) A (binaryOp .Add (.ref t) (.ref b)) Q E s := by
 obtain ⟨⟨cls, dd, data, sl⟩, ho, hc, n, hd⟩ := id ht
 obtain ⟨⟨cls2, dd2, data2, sl2⟩, ho2, hc2, n2, hd2⟩ := id hb
 simp only at hc hd hc2 hd2
 subst hc hd hc2 hd2
 exact concat_meets ⟨_, ho, rfl⟩ ⟨_, ho2, rfl⟩ noFill_tuple_add seq_tuple_add PySem.F.slot_tuple_add PySem.F.entry_tuple_add (PySem.F.args_tuple_add_2 _ _)
   (tuple_addW0 t b #[] ws.toArray n n2 dd dd2 sl sl2 (by simp)) ⟨ho, ho2, h⟩
theorem op_catTT : OpR X (binaryOp .Add) (fun x y H Q => ∃ a b xs ys, x = .ref a ∧ y = .ref b ∧ SqT X.K H a xs ∧ SqT X.K H b ys ∧ xs.length + ys.length ≤ sizeLine ∧ ∀ (p : Addr) (H' : Hp), Same H H' → SqT X.K H' p (xs ++ ys) → Q (.ref p) H') := by
 intro pins s σ H x y v u Q I rx ry h
 obtain ⟨a, b, xs, ys, rfl, rfl, ha, hb, hz, q⟩ := h
 by_cases e : xs = []
 ·subst e
  cases rx
  cases ry
  obtain ⟨its, r1, p1, _⟩ := I.tuple ha
  obtain ⟨its2, r2, p2, _⟩ := I.tuple hb
  cases r1
  exact cat_tup0 p1 p2 ⟨.ref b, H, I, rfl, q b H (Same.refl H) hb⟩
 ·refine op_catT pins s σ H _ _ v u Q I rx ry ⟨a, b, xs, ys, rfl, rfl, ha, hb, e, hz, fun z => ?_, fun _ p n => ?_⟩
  ·subst z
   exact q a H (Same.refl H) (by rw [List.append_nil]; exact ha)
  ·exact q p _ (same_new n _) (SqT.of upd_same)
theorem m_add : OpR X (binaryOp .Add) (mAdd X.K) := by
 intro pins s σ H x y v u Q I rx ry h
 cases x with
 | int i => cases y with
  | int j => exact op_add pins s σ H _ _ v u Q I rx ry ⟨i, j, rfl, rfl, h⟩
  | _ => exact (show False from h).elim
 | str i => cases y with
  | str j => exact op_add_str pins s σ H _ _ v u Q I rx ry ⟨i, j, rfl, rfl, h.1, h.2⟩
  | _ => exact (show False from h).elim
 | ref a => cases y with
  | ref b =>
   have h' : (∃ xs ys, H a = some (.lst xs) ∧ H b = some (.lst ys) ∧ xs.length + ys.length ≤ sizeLine ∧ New H (.lst (xs ++ ys)) Q) ∨
    ∃ xs ys, SqT X.K H a xs ∧ SqT X.K H b ys ∧ xs.length + ys.length ≤ sizeLine ∧ ∀ (p : Addr) (H' : Hp), Same H H' → SqT X.K H' p (xs ++ ys) → Q (.ref p) H' := h
   rcases h' with ⟨xs, ys, ha, hb, hz, q⟩ | ⟨xs, ys, ha, hb, hz, q⟩
   ·exact op_cat pins s σ H _ _ v u Q I rx ry ⟨a, b, xs, ys, rfl, rfl, ha, hb, hz, q.at⟩
   ·exact op_catTT pins s σ H _ _ v u Q I rx ry ⟨a, b, xs, ys, rfl, rfl, ha, hb, hz, q⟩
  | _ => exact (show False from h).elim
 | _ => exact (show False from by cases y <;> exact h).elim
def mII (C : Int → Int → Prop) (g : Int → Int → V) : R2 := fun x y H Q => match x, y with
 | .int i, .int j => C i j ∧ Q (g i j) H
 | _, _ => False
def mII0 (g : Int → Int → V) : R2 := fun x y H Q => match x, y with
 | .int i, .int j => Q (g i j) H
 | _, _ => False
theorem mII_rI {C : Int → Int → Prop} {g : Int → Int → V} (x y : V) (H : Hp) (Q : VK) (h : mII C g x y H Q) : rI C g x y H Q := by
 cases x with
 | int i => cases y with
  | int j => exact ⟨i, j, rfl, rfl, h.1, h.2⟩
  | _ => exact (show False from h).elim
 | _ => exact (show False from by cases y <;> exact h).elim
theorem mII0_rI {g : Int → Int → V} (x y : V) (H : Hp) (Q : VK) (h : mII0 g x y H Q) : rI0 g x y H Q := by
 cases x with
 | int i => cases y with
  | int j => exact ⟨i, j, rfl, rfl, h⟩
  | _ => exact (show False from h).elim
 | _ => exact (show False from by cases y <;> exact h).elim
theorem m_sub : OpR X (binaryOp .Sub) (mII0 fun i j => .int (i - j)) := op_imp op_sub mII0_rI
theorem m_mul : OpR X (binaryOp .Mult) (mII CMul fun i j => .int (i * j)) := op_imp op_mul mII_rI
theorem m_mod : OpR X (binaryOp .Mod) (mII (fun _ j => 0 < j) fun i j => .int (i % j)) := op_imp op_mod mII_rI
theorem m_fdiv : OpR X (binaryOp .FloorDiv) (mII CDiv fun i j => .int (i / j)) := op_imp op_fdiv mII_rI
theorem m_lt : OpR X (compareOp .Lt) (mII0 fun i j => .bl (decide (i < j))) := op_imp op_lt mII0_rI
theorem m_gt : OpR X (compareOp .Gt) (mII0 fun i j => .bl (decide (j < i))) := op_imp op_gt mII0_rI
def mEq (g : Bool → Bool) : R2 := fun x y H Q => match x, y with
 | .int i, .int j => Q (.bl (g (decide (i = j)))) H
 | .bl i, .bl j => Q (.bl (g (decide (i = j)))) H
 | .str i, .str j => Q (.bl (g (decide (i = j)))) H
 | .non, .non => Q (.bl (g true)) H
 | .non, .bl _ => Q (.bl (g false)) H
 | .bl _, .non => Q (.bl (g false)) H
 | .non, .int _ => Q (.bl (g false)) H
 | .int _, .non => Q (.bl (g false)) H
 | _, _ => False
theorem d_int (i j : Int) : decide (V.int i = V.int j) = decide (i = j) := by simp
theorem d_bl (i j : Bool) : decide (V.bl i = V.bl j) = decide (i = j) := by simp
theorem d_str (i j : Str) : decide (V.str i = V.str j) = decide (i = j) := by simp
theorem mEq_r {g : Bool → Bool} {x y : V} {H : Hp} {Q : VK} (h : mEq g x y H Q) : scal x y = true ∧ Q (.bl (g (decide (x = y)))) H := by
 cases x with
 | int i => cases y with
  | int j => exact ⟨rfl, by rw [d_int]; exact h⟩
  | non => exact ⟨rfl, by rw [decide_eq_false (by intro z; cases z)]; exact h⟩
  | _ => exact (show False from h).elim
 | bl i => cases y with
  | bl j => exact ⟨rfl, by rw [d_bl]; exact h⟩
  | non => exact ⟨rfl, by rw [decide_eq_false (by intro z; cases z)]; exact h⟩
  | _ => exact (show False from h).elim
 | str i => cases y with
  | str j => exact ⟨rfl, by rw [d_str]; exact h⟩
  | _ => exact (show False from h).elim
 | non => cases y with
  | non => exact ⟨rfl, by rw [decide_eq_true rfl]; exact h⟩
  | bl j => exact ⟨rfl, by rw [decide_eq_false (by intro z; cases z)]; exact h⟩
  | int j => exact ⟨rfl, by rw [decide_eq_false (by intro z; cases z)]; exact h⟩
  | _ => exact (show False from h).elim
 | _ => exact (show False from by cases y <;> exact h).elim
mutual
theorem has_reads {pins : List (Addr × Obj)} {σ : St} {H : Hp} {s : Shared} (I : Inv X pins σ H s) : ∀ (d : PyData) (v : V) (u : Value), Has X.K H v d → RelV v u → ∃ as, Reads s.heap u d as
 | .none, v, u, h, r => by
  have h' : v = .non := by simpa [Has] using h
  subst h'
  cases r
  exact ⟨_, .none⟩
 | .bool b, v, u, h, r => by
  have h' : v = .bl b := by simpa [Has] using h
  subst h'
  cases r
  exact ⟨_, .bool b⟩
 | .int i, v, u, h, r => by
  have h' : v = .int i := by simpa [Has] using h
  subst h'
  obtain ⟨t, rfl⟩ := r
  exact ⟨_, .int i t⟩
 | .str x, v, u, h, r => by
  have h' : v = .str x := by simpa [Has] using h
  subst h'
  obtain ⟨t, rfl⟩ := r
  exact ⟨_, .str x t⟩
 | .tuple ds, v, u, h, r => by
  have h' : ∃ a xs, v = .ref a ∧ SqT X.K H a xs ∧ HasL X.K H xs ds := by simpa [Has] using h
  obtain ⟨a, xs, rfl, hq, hl⟩ := h'
  cases r
  obtain ⟨its, rv, ⟨o, e, c, n, dd⟩, _⟩ := I.tuple hq
  obtain ⟨as, ra⟩ := hasL_reads I ds xs its hl rv
  exact ⟨_, .tuple e c dd ra⟩
 | .list ds, v, u, h, r => by
  have h' : ∃ a xs, v = .ref a ∧ SqL X.K H a xs ∧ HasL X.K H xs ds := by simpa [Has] using h
  obtain ⟨a, xs, rfl, hq, hl⟩ := h'
  cases r
  obtain ⟨its, rv, pl, _⟩ := I.list hq
  obtain ⟨o, e, c, n, dd⟩ := pl.isList
  obtain ⟨as, ra⟩ := hasL_reads I ds xs its hl rv
  exact ⟨_, .list e c dd ra⟩
 | .dict _, v, u, h, r => by
  have h' : False := by simpa [Has] using h
  exact h'.elim
theorem hasL_reads {pins : List (Addr × Obj)} {σ : St} {H : Hp} {s : Shared} (I : Inv X pins σ H s) : ∀ (ds : List PyData) (xs : List V) (us : List Value), HasL X.K H xs ds → Vals xs us → ∃ as, ReadsAll s.heap us ds as
 | [], xs, us, h, r => by
  have h' : xs = [] := by simpa [HasL] using h
  subst h'
  cases r
  exact ⟨_, .nil⟩
 | d :: ds, xs, us, h, r => by
  have h' : ∃ y ys, xs = y :: ys ∧ Has X.K H y d ∧ HasL X.K H ys ds := by simpa [HasL] using h
  obtain ⟨y, ys, rfl, h1, h2⟩ := h'
  cases r with
  | cons r1 r2 =>
   obtain ⟨as, ra⟩ := has_reads I d y _ h1 r1
   obtain ⟨bs, rb⟩ := hasL_reads I ds ys _ h2 r2
   exact ⟨_, .cons ra rb⟩
end
def mEqD (K : PySem.W.Frag) (g : Bool → Bool) : R2 := fun x y H Q => match x, y with
 | .ref a, .ref b => ∃ da db, Has K H (.ref a) da ∧ Has K H (.ref b) db ∧ SeqAt.shaped da = true ∧ SeqAt.shaped db = true ∧ Q (.bl (g (PyData.eqv da db))) H
 | x, y => mEq g x y H Q
theorem m_eq (hu : X.A.units + 64 < cLine) : OpR X (compareOp .Eq) (mEqD X.K id) := by
 intro pins s σ H x y v u Q I rx ry h
 have sc : mEq id x y H Q → wpAny (model X.prog X.w) X.A (compareOp .Eq v u) (EP X pins σ Q) X.xe s := fun h => op_eq pins s σ H x y v u Q I rx ry (mEq_r h)
 cases x with
 | ref a => cases y with
  | ref b =>
   obtain ⟨da, db, h1, h2, s1, s2, q⟩ := (show ∃ da db, Has X.K H (.ref a) da ∧ Has X.K H (.ref b) db ∧ SeqAt.shaped da = true ∧ SeqAt.shaped db = true ∧ Q (.bl (PyData.eqv da db)) H from h)
   obtain ⟨as, ra⟩ := has_reads I da _ _ h1 rx
   obtain ⟨bs, rb⟩ := has_reads I db _ _ h2 ry
   exact eq_dataH ra rb s1 s2 hu ⟨.bl _, H, I, rfl, q⟩
  | _ => exact sc h
 | _ => exact sc (by cases y <;> exact h)
theorem m_ne (hu : X.A.units + 64 < cLine) : OpR X (compareOp .NotEq) (mEqD X.K not) := by
 intro pins s σ H x y v u Q I rx ry h
 have sc : mEq not x y H Q → wpAny (model X.prog X.w) X.A (compareOp .NotEq v u) (EP X pins σ Q) X.xe s := fun h => op_ne pins s σ H x y v u Q I rx ry (mEq_r h)
 cases x with
 | ref a => cases y with
  | ref b =>
   obtain ⟨da, db, h1, h2, s1, s2, q⟩ := (show ∃ da db, Has X.K H (.ref a) da ∧ Has X.K H (.ref b) db ∧ SeqAt.shaped da = true ∧ SeqAt.shaped db = true ∧ Q (.bl (!PyData.eqv da db)) H from h)
   obtain ⟨as, ra⟩ := has_reads I da _ _ h1 rx
   obtain ⟨bs, rb⟩ := has_reads I db _ _ h2 ry
   exact ne_dataH ra rb s1 s2 hu ⟨.bl _, H, I, rfl, q⟩
  | _ => exact sc h
 | _ => exact sc (by cases y <;> exact h)
def mLe : R2 := fun x y H Q => match x, y with
 | .int i, .int j => Q (.bl (decide (i ≤ j))) H
 | .bl i, .bl j => Q (.bl (!i || j)) H
 | _, _ => False
def mIn (K : PySem.W.Frag) (neg : Bool) : R2 := fun x y H Q => match y with
 | .ref p => ∃ xs, (SqL K H p xs ∨ SqT K H p xs) ∧ flatV x = true ∧ xs.all flatV = true ∧ Q (.bl (if neg then !inV x xs else inV x xs)) H
 | _ => False
theorem mIn_r {K : PySem.W.Frag} {neg : Bool} (x y : V) (H : Hp) (Q : VK) (h : mIn K neg x y H Q) : rIn K neg x y H Q := by
 cases y with
 | ref p =>
  obtain ⟨xs, q⟩ := (show ∃ xs, (SqL K H p xs ∨ SqT K H p xs) ∧ flatV x = true ∧ xs.all flatV = true ∧ Q (.bl (if neg then !inV x xs else inV x xs)) H from h)
  exact ⟨p, xs, rfl, q⟩
 | _ => exact (show False from h).elim
theorem m_in : OpR X (compareOp .In) (mIn X.K false) := op_imp op_in_seq mIn_r
def mIx (K : PySem.W.Frag) : R2 := fun x y H Q => match x, y with
 | .str z, .int i => z.length ≤ sizeLine ∧ ∃ c, atI z.cps.toList i = some c ∧ Q (.str ⟨#[c]⟩) H
 | .ref p, .int i => ∃ xs v, (SqL K H p xs ∨ SqT K H p xs) ∧ atI xs i = some v ∧ Q v H
 | _, _ => False
theorem m_ixr : IxR X (mIx X.K) := ix_imp ix_seq fun x y H Q h => by
 cases x with
 | str z => cases y with
  | int i => exact .inr (.inr ⟨z, i, h.2.choose, rfl, rfl, h.1, h.2.choose_spec.1, h.2.choose_spec.2⟩)
  | _ => exact (show False from h).elim
 | ref p => cases y with
  | int i =>
   obtain ⟨xs, v, hs, e, q⟩ := (show ∃ xs v, (SqL X.K H p xs ∨ SqT X.K H p xs) ∧ atI xs i = some v ∧ Q v H from h)
   rcases hs with hs | hs
   ·exact .inl ⟨p, xs, i, v, rfl, rfl, hs, e, q⟩
   ·exact .inr (.inl ⟨p, xs, i, v, rfl, rfl, hs, e, q⟩)
  | _ => exact (show False from h).elim
 | _ => exact (show False from by cases y <;> exact h).elim
theorem m_ix {a b : Expr} {ta tb : TE} {pos : Pos} (ha : PE X a ta) (hb : PE X b tb) (hs : PlainIx b) : PE X (.Subscript a b pos) (tOp (mIx X.K) ta tb) := pe_ix m_ixr ha hb hs
theorem getItem_tuple_all {prog : Program} {w : World} {A : Around} {E : Value → Shared → Prop} {s : Shared} {t sl : Addr} {items : Array Value} {vl vu : Value} {lo hi : Option Int} {Q : Value → Shared → Prop} (ht : IsTup s.heap t items) (hs : s.heap.IsSliceOf sl vl vu .none) (pl : IsPart vl lo) (pu : IsPart vu hi)
  (hw : HT.sIx items.size 0 lo = 0 ∧ HT.sIx items.size items.size hi = items.size) (h : Q (.ref t) s) : wpAny (model prog w) A (getItem (.ref t) (.ref sl)) Q E s := by
 obtain ⟨os, hos, hcs, hds⟩ := id hs
 have hTs : s.TypeIs (.ref sl) "slice" := ⟨os, hos, hcs⟩
 unfold getItem
 try with_reducible refine wpAny_holding ?_
 first | refine wpAny_bind (wpAny_pure ?_) | skip
 refine wpAny_bind (wpAny_sequenceKey ht.typeIs (by decide) ?_)
 refine wpAny_bind (wpAny_callSpecial?_slot (name := Str.ofString "__getitem__") ht.typeIs PyProof.Rows.slot_tuple_getitem
  (wpAny_call_entry PyProof.Rows.slot_tuple_getitem ht.typeIs entry_tuple_getitem ?_ (args_tuple_getitem _ _)))
 show wpAny _ _ (Builtin.Tuple.tupleItemsOf (.ref t) >>= _) _ _ s
 refine wpAny_bind (tupleItemsOf_ ht ?_)
 refine wpAny_bind (wpAny_typeOf hTs ?_)
 rw [if_pos (by decide)]
 refine wpAny_bind (HT.sliceApplied_gen hs pl pu ?_)
 have hyes : (((HT.sIx items.size 0 lo : Nat) : Int) == 0 && (1 : Int) == 1 && (HT.sIx items.size items.size hi - HT.sIx items.size 0 lo) == items.size) = true := by
  rw [hw.1, hw.2]
  simp
 show wpAny _ _ (if (((HT.sIx items.size 0 lo : Nat) : Int) == 0 && (1 : Int) == 1 && (HT.sIx items.size items.size hi - HT.sIx items.size 0 lo) == items.size) = true then _ else _) _ _ s
 rw [if_pos hyes]
 have hex : ∀ {A' : Around} {Q' : Bool → Shared → Prop} {E' : Value → Shared → Prop}, Q' true s → wpAny (model prog w) A' (Builtin.Tuple.tupleIsExact (.ref t)) Q' E' s := fun q => by
  unfold Builtin.Tuple.tupleIsExact
  exact wpAny_bind (wpAny_typeOf ht.typeIs (wpAny_pure q))
 refine wpAny_bind (hex ?_)
 rw [if_pos rfl]
 exact wpAny_bind (wpAny_rule (wpAny_pure ⟨_, rfl, wpAny_pure h⟩))
theorem sl_tupA : SlR X (fun x lo hi H Q => ∃ a xs, x = .ref a ∧ SqT X.K H a xs ∧ ∀ (p : Addr) (H' : Hp), Same H H' → SqT X.K H' p (cutV xs lo hi) → Q (.ref p) H') := by
 intro pins s σ H x v vl vu lo hi sl Q I rx hs pl pu h
 obtain ⟨a, xs, rfl, hx, q⟩ := h
 by_cases hw : HT.sIx xs.length 0 lo = 0 ∧ HT.sIx xs.length xs.length hi = xs.length
 ·cases rx
  obtain ⟨its, r, ht, hz⟩ := I.tuple hx
  have hlen : its.toArray.size = xs.length := by rw [List.size_toArray]; exact r.length.symm
  refine ⟨"tuple", _, PyProof.Rows.slot_tuple_getitem.lookup, ht.typeIs, ?_⟩
  refine getItem_tuple_all ht hs pl pu (by rw [hlen]; exact hw) ⟨.ref a, H, I, rfl, q a H (Same.refl H) ?_⟩
  have e : cutV xs lo hi = xs := by
   unfold cutV
   rw [hw.1, hw.2]
   simp
  rw [e]
  exact hx
 ·exact sl_tup pins s σ H _ v vl vu lo hi sl Q I rx hs pl pu ⟨a, xs, rfl, hx, hw, fun p n => q p _ (same_new n _) (SqT.of upd_same)⟩
theorem part_of {v : Value} {o : Option Int} (p : IsPart v o) : ∃ l : Option (Int × Tok), v = partValue l ∧ l.map (·.1) = o := by
 cases p with
 | none => exact ⟨none, rfl, rfl⟩
 | int i t => exact ⟨some (i, t), rfl, rfl⟩
theorem sl_strA : SlR X (fun x lo hi H Q => ∃ z, x = .str z ∧ z.length ≤ sizeLine ∧ Q (.str (Txt.slice z lo hi)) H) := by
 intro pins s σ H x v vl vu lo hi sl Q I rx hs pl pu h
 obtain ⟨z, rfl, hz, q⟩ := h
 obtain ⟨t, rfl⟩ := rx
 obtain ⟨l, rfl, rfl⟩ := part_of pl
 obtain ⟨u, rfl, rfl⟩ := part_of pu
 refine ⟨"str", _, PySem.F.slot_str_getitem.lookup, typeIs_str _ _ _, ?_⟩
 refine wpAny_getItem_str_slice (l := l) (u := u) (st := none) hs rfl (post_val_or_str ⟨Nat.le_trans (Txt.slice_le z _ _) hz, fun t' k => ⟨.str (Txt.slice z (l.map (·.1)) (u.map (·.1))), H, I.tok k, ⟨t', rfl⟩, q⟩⟩)
def mSl (K : PySem.W.Frag) : V → Option Int → Option Int → Hp → VK → Prop := fun x lo hi H Q => match x with
 | .str z => z.length ≤ sizeLine ∧ Q (.str (Txt.slice z lo hi)) H
 | .ref a => (∃ xs, SqL K H a xs ∧ New H (.lst (cutV xs lo hi)) Q) ∨ ∃ xs, SqT K H a xs ∧ ∀ (p : Addr) (H' : Hp), Same H H' → SqT K H' p (cutV xs lo hi) → Q (.ref p) H'
 | _ => False
theorem m_slr : SlR X (mSl X.K) := sl_imp (sl_strA.or (sl_tupA.or sl_list)) fun x lo hi H Q h => by
 cases x with
 | str z => exact .inl ⟨z, rfl, h.1, h.2⟩
 | ref a =>
  have h' : (∃ xs, SqL X.K H a xs ∧ New H (.lst (cutV xs lo hi)) Q) ∨ ∃ xs, SqT X.K H a xs ∧ ∀ (p : Addr) (H' : Hp), Same H H' → SqT X.K H' p (cutV xs lo hi) → Q (.ref p) H' := h
  rcases h' with ⟨xs, hx, q⟩ | ⟨xs, hx, q⟩
  ·exact .inr (.inr ⟨a, xs, rfl, hx, q.at⟩)
  ·exact .inr (.inl ⟨a, xs, rfl, hx, q⟩)
 | _ => exact (show False from h).elim
def mPart (t : TE) : TO := fun σ H Q => t σ H (onInt fun i H1 => Q (some i) H1)
theorem m_part {e : Expr} {te : TE} (h : PE X e te) : PO X (some e) (mPart te) := by
 intro pins s σ H Q I hw
 rw [evalPart_some]
 refine thn (h pins s σ H _ I hw) fun u s1 ⟨x, H1, I1, r1, q1⟩ => ?_
 cases x with
 | int i =>
  obtain ⟨t, rfl⟩ := r1
  exact ⟨some i, H1, I1, .int i t, q1⟩
 | _ => exact (show False from q1).elim
theorem m_slice {e : Expr} {te : TE} {lo hi : Option Expr} {tl th : TO} {pos p2 : Pos} (he : PE X e te) (hl : PO X lo tl) (hu : PO X hi th) : PE X (.Subscript e (.Slice lo hi none p2) pos) (tSl (mSl X.K) te tl th) := pe_slice m_slr he hl hu
def mTup (t : TA) : TE := fun σ H Q => t σ H fun xs H1 => xs.length ≤ sizeLine ∧ New H1 (.tup xs) Q
def mLst (t : TA) : TE := fun σ H Q => t σ H fun xs H1 => xs.length ≤ sizeLine ∧ New H1 (.lst xs) Q
theorem m_tup {es : List Expr} {t : TA} {pos : Pos} {x1} (h : PA X es t) : PE X (.Tuple es x1 pos) (mTup t) := by
 intro pins s σ H Q I hq
 refine wpAny_Tuple_spliced (thn (h pos pins s σ H _ I hq) fun us s1 ⟨xs, H1, I1, r, z, q⟩ => ⟨by rw [← r.length]; exact z, ?_⟩)
 have hf : H1 s1.heap.objs.size = none := I1.hok.fresh (Nat.le_refl _)
 refine ⟨.ref s1.heap.objs.size, upd H1 s1.heap.objs.size (.tup xs), I1.laid (t' := s1.toks) (fun b u e => Heap.get?_push_of_some _ e) (Nat.le_refl _) ?_, rfl, q.at _ hf⟩
 exact ⟨z, us, r, ⟨_, Heap.get?_push_size _ rfl, rfl, _, rfl⟩⟩
theorem m_lst {es : List Expr} {t : TA} {pos : Pos} (h : PA X es t) : PE X (.List es pos) (mLst t) := by
 intro pins s σ H Q I hq
 refine wpAny_List_spliced (thn (h pos pins s σ H _ I hq) fun us s1 ⟨xs, H1, I1, r, z, q⟩ => ⟨by rw [← r.length]; exact z, ?_⟩)
 have hf : H1 s1.heap.objs.size = none := I1.hok.fresh (Nat.le_refl _)
 refine ⟨.ref s1.heap.objs.size, upd H1 s1.heap.objs.size (.lst xs), I1.laid (t' := s1.toks) (fun b u e => Heap.get?_push_of_some _ e) (Nat.le_refl _) ?_, rfl, q.at _ hf⟩
 exact ⟨z, us, 0, r, Heap.get?_push_size _ rfl⟩
def mB (t : TE) : TT := fun σ H Q => t σ H (onBl Q)
theorem m_test {a b : Expr} {op : CmpOp} {r : R2} {ta tb : TE} {pos : Pos} (ho : OpR X (compareOp op) r) (ha : PE X a ta) (hb : PE X b tb) (hm : behindInMarks op b = false) : PT X (.Compare a [op] [b] pos) (mB (tOp r ta tb)) := by
 intro pins s σ H Q I h
 refine wpAny_isTrue_Compare1 (thn (ha pins s σ H _ I h) fun v s1 ⟨x, H1, I1, r1, q1⟩ => thn (hb pins s1 σ H1 _ I1 q1) fun u s2 ⟨y, H2, I2, r2, q2⟩ =>
  thn (ho pins s2 σ H2 x y v u _ I2 r1 r2 q2) fun c s3 ⟨z, H3, I3, r3, q3⟩ => ?_) hm
 cases z with
 | bl k =>
  cases r3
  exact wpAny_truthy_bool ⟨H3, I3, q3⟩
 | _ => exact (show False from q3).elim
theorem m_val {e : Expr} {t : TE} (h : PE X e t) (he : ∀ whole, isTrue e X.env whole = (do let v ← whole; standAt e.pos; holding [v] (truthy v)) := by intro _; rfl) : PT X e (mB t) := by
 intro pins s σ H Q I hw
 refine isTrue_plain (thn (h pins s σ H _ I hw) fun v s1 ⟨x, H1, I1, r1, q1⟩ => ?_) (he _)
 cases x with
 | bl k =>
  cases r1
  exact wpAny_truthy_bool ⟨H1, I1, q1⟩
 | _ => exact (show False from q1).elim
def mAndV (ta tb : TE) : TE := fun σ H Q => ta σ H (onBl fun c H1 => if c = true then tb σ H1 Q else Q (.bl false) H1)
def mOrV (ta tb : TE) : TE := fun σ H Q => ta σ H (onBl fun c H1 => if c = true then Q (.bl true) H1 else tb σ H1 Q)
def mNotV (ta : TE) : TE := fun σ H Q => ta σ H (onBl fun c H1 => Q (.bl (!c)) H1)
theorem m_and {a b : Expr} {rest : List Expr} {ta tb : TE} {pos : Pos} (ha : PE X a ta) (hb : PE X (.BoolOp .And (b :: rest) pos) tb) : PE X (.BoolOp .And (a :: b :: rest) pos) (mAndV ta tb) := by
 intro pins s σ H Q I h
 refine BoolOp_and (thn (ha pins s σ H _ I h) fun v s1 ⟨x, H1, I1, r1, q1⟩ => ?_)
 cases x with
 | bl c =>
  cases r1
  refine wpAny_truthy_bool ?_
  cases c with
  | true => exact hb pins s1 σ H1 Q I1 q1
  | false => exact ⟨.bl false, H1, I1, rfl, q1⟩
 | _ => exact (show False from q1).elim
theorem m_or {a b : Expr} {rest : List Expr} {ta tb : TE} {pos : Pos} (ha : PE X a ta) (hb : PE X (.BoolOp .Or (b :: rest) pos) tb) : PE X (.BoolOp .Or (a :: b :: rest) pos) (mOrV ta tb) := by
 intro pins s σ H Q I h
 refine BoolOp_or (thn (ha pins s σ H _ I h) fun v s1 ⟨x, H1, I1, r1, q1⟩ => ?_)
 cases x with
 | bl c =>
  cases r1
  refine wpAny_truthy_bool ?_
  cases c with
  | false => exact hb pins s1 σ H1 Q I1 q1
  | true => exact ⟨.bl true, H1, I1, rfl, q1⟩
 | _ => exact (show False from q1).elim
theorem m_not {a : Expr} {ta : TE} {pos : Pos} (ha : PE X a ta) : PE X (.UnaryOp .Not a pos) (mNotV ta) := by
 intro pins s σ H Q I h
 refine UnaryOp_ (thn (ha pins s σ H _ I h) fun v s1 ⟨x, H1, I1, r1, q1⟩ => ?_)
 cases x with
 | bl c =>
  cases r1
  exact not_of (wpAny_truthy_bool ⟨.bl (!c), H1, I1, rfl, q1⟩)
 | _ => exact (show False from q1).elim
def mLen (K : PySem.W.Frag) : List V → Hp → VK → Prop := fun xs H Q => match xs with
 | [.str z] => z.length ≤ sizeLine ∧ Q (.int z.length) H
 | [.ref p] => ∃ ys, (SqL K H p ys ∨ SqT K H p ys) ∧ Q (.int ys.length) H
 | _ => False
theorem m_len : CallR X (.builtin "len") (mLen X.K) := by
 intro pins s σ H xs us Q I r h
 match xs, h with
 | [.str z], h => exact call_len_str pins s σ H _ us Q I r ⟨z, rfl, h.1, h.2⟩
 | [.ref p], h =>
  obtain ⟨ys, hs, q⟩ := (show ∃ ys, (SqL X.K H p ys ∨ SqT X.K H p ys) ∧ Q (.int ys.length) H from h)
  exact call_len_seq pins s σ H _ us Q I r ⟨p, ys, rfl, hs, q⟩
theorem one_ref {C : Addr → Prop} {xs : List V} (h : match xs with | [.ref p] => C p | _ => False) : ∃ p, xs = [.ref p] ∧ C p := by
 rcases xs with _ | ⟨x, _ | ⟨_, _⟩⟩
 ·exact (show False from h).elim
 ·cases x with
  | ref p => exact ⟨p, rfl, h⟩
  | _ => exact (show False from h).elim
 ·exact (show False from by cases x <;> exact h).elim
def mListOf (K : PySem.W.Frag) : List V → Hp → VK → Prop := fun xs H Q => match xs with
 | [.ref p] => ∃ ys, (SqL K H p ys ∨ SqT K H p ys) ∧ New H (.lst ys) Q
 | _ => False
theorem m_listOf : CallR X (.type "list") (mListOf X.K) := by
 intro pins s σ H xs us Q I r h
 obtain ⟨p, rfl, ys, hs, q⟩ := one_ref (C := fun p => ∃ ys, (SqL X.K H p ys ∨ SqT X.K H p ys) ∧ New H (.lst ys) Q) h
 exact call_list_of pins s σ H _ us Q I r ⟨p, ys, rfl, hs, q.at⟩
def mTupOf (K : PySem.W.Frag) : List V → Hp → VK → Prop := fun xs H Q => match xs with
 | [.ref p] => ∃ ys, (SqL K H p ys ∨ SqT K H p ys) ∧ ∀ (r : Addr) (H' : Hp), Same H H' → SqT K H' r ys → Q (.ref r) H'
 | _ => False
theorem m_tupOf : CallR X (.type "tuple") (mTupOf X.K) := by
 intro pins s σ H xs us Q I r h
 obtain ⟨p, rfl, ys, hs, q⟩ := one_ref (C := fun p => ∃ ys, (SqL X.K H p ys ∨ SqT X.K H p ys) ∧ ∀ (r : Addr) (H' : Hp), Same H H' → SqT X.K H' r ys → Q (.ref r) H') h
 rcases hs with hs | hs
 ·exact call_tuple_of pins s σ H _ us Q I r ⟨p, ys, rfl, .inl ⟨hs, fun l n => q l _ (same_new n _) (SqT.of upd_same)⟩⟩
 ·exact call_tuple_of pins s σ H _ us Q I r ⟨p, ys, rfl, .inr ⟨hs, q p H (Same.refl H) hs⟩⟩
inductive TyX (K : PySem.W.Frag) (H : Hp) : V → Value → Prop where
 | of {x : V} {t : Value} (h : TyOf K H x t) : TyX K H x t
 | tup {a : Addr} {xs : List V} (h : SqT K H a xs) : TyX K H (.ref a) (.type "tuple")
 | lst {a : Addr} {xs : List V} (h : SqL K H a xs) : TyX K H (.ref a) (.type "list")
def mIsI (K : PySem.W.Frag) : List V → Hp → VK → Prop := fun xs H Q => match xs with
 | [x, .ty c] => ∃ t b, TyX K H x t ∧ PySem.W.kitOne K t (.type c) = some b ∧ Q (.bl b) H
 | _ => False
theorem any_ty {C : V → String → Prop} {xs : List V} (h : match xs with | [x, .ty c] => C x c | _ => False) : ∃ x c, xs = [x, .ty c] ∧ C x c := by
 rcases xs with _ | ⟨x, _ | ⟨y, _ | ⟨_, _⟩⟩⟩
 ·exact (show False from h).elim
 ·exact (show False from h).elim
 ·cases y with
  | ty c => exact ⟨x, c, rfl, h⟩
  | _ => exact (show False from h).elim
 ·exact (show False from by cases y <;> exact h).elim
theorem m_isI : CallR X (.builtin "isinstance") (mIsI X.K) := by
 intro pins s σ H xs us Q I r h
 obtain ⟨x, c, rfl, t, b, ty, e, q⟩ := any_ty (C := fun x c => ∃ t b, TyX X.K H x t ∧ PySem.W.kitOne X.K t (.type c) = some b ∧ Q (.bl b) H) h
 obtain ⟨u, w', rfl, r1, r2⟩ := vals2 r
 cases r2
 cases ty with
 | of ty => exact isinst_ok I r1 ty e fun tk => ⟨.bl b, H, I.tok tk, rfl, q⟩
 | tup hq =>
  cases r1
  obtain ⟨its, _, ⟨o, h1, h2, _⟩, _⟩ := I.tuple hq
  exact PySem.W.kia_one PySem.W.kitx_tuple I.kIn ⟨o, h1, h2⟩ e (fun z => nomatch z) fun tk => ⟨.bl b, H, I.tok tk, rfl, q⟩
 | lst hq =>
  cases r1
  obtain ⟨its, _, pl, _⟩ := I.list hq
  obtain ⟨o, h1, h2, _⟩ := pl.isList
  exact PySem.W.kia_one PySem.W.kitx_list I.kIn ⟨o, h1, h2⟩ e (fun z => nomatch z) fun tk => ⟨.bl b, H, I.tok tk, rfl, q⟩
def mApp : V → List V → Hp → VK → Prop := fun x vs H Q => match x, vs with
 | .ref l, [y] => ∃ xs, H l = some (.lst xs) ∧ xs.length < sizeLine ∧ Q .non (upd H l (.lst (xs ++ [y])))
 | _, _ => False
theorem ref_one {C : Addr → V → Prop} {x : V} {vs : List V} (h : match x, vs with | .ref l, [y] => C l y | _, _ => False) : ∃ l y, x = .ref l ∧ vs = [y] ∧ C l y := by
 cases x with
 | ref l =>
  rcases vs with _ | ⟨y, _ | ⟨_, _⟩⟩
  ·exact (show False from h).elim
  ·exact ⟨l, y, rfl, rfl, h⟩
  ·exact (show False from h).elim
 | _ => exact (show False from by rcases vs with _ | ⟨y, _ | ⟨_, _⟩⟩ <;> exact h).elim
theorem m_app : MtR X "list.append" mApp := fun pins s σ H x xs v us Q I rx rs h => by
 obtain ⟨l, y, rfl, rfl, ys, e, z, q⟩ := ref_one (C := fun l y => ∃ ys, H l = some (.lst ys) ∧ ys.length < sizeLine ∧ Q .non (upd H l (.lst (ys ++ [y])))) h
 exact mt_append pins s σ H _ _ v us Q I rx rs ⟨l, ys, y, rfl, rfl, e, z, q⟩
def mPop : V → List V → Hp → VK → Prop := fun x vs H Q => match x, vs with
 | .ref l, [] => ∃ xs y, H l = some (.lst xs) ∧ xs[xs.length - 1]? = some y ∧ Q y (upd H l (.lst xs.dropLast))
 | _, _ => False
def mBM (r : V → List V → Hp → VK → Prop) (to : TE) (t : TA) : TE := fun σ H Q => to σ H fun x H1 => (∃ p xs, x = .ref p ∧ H1 p = some (.lst xs)) ∧ t σ H1 fun xs H2 => r x xs H2 Q
def mBM0 (r : V → List V → Hp → VK → Prop) (to : TE) : TE := fun σ H Q => to σ H fun x H1 => (∃ p xs, x = .ref p ∧ H1 p = some (.lst xs)) ∧ r x [] H1 Q
theorem m_bm {o e : Expr} {es : List Expr} {to : TE} {t : TA} {name : Str} {apos cpos : Pos} {id : String} {r : V → List V → Hp → VK → Prop} (slot : Slot "list" name id) (hty : typeOf (.builtin id) = pure (.type "method_descriptor")) (hm : MtR X id r) (ho : PE X o to) (ha : PA X (e :: es) t)
  (hbase : attributeBase o name X.env (eval o X.env) = eval o X.env := by rfl)
  (hfew : ((backTo cpos (starEach (e :: es) X.env)).all (fun x => !x.1) && (backToKw cpos (keywordEach [] X.env)).all (fun x => x.1.isSome)
   && decide ((e :: es).length + ([] : List Keyword).length + (if ([] : List Keyword).isEmpty then 0 else 1) < 30)) = true := by rfl)
  (hline : (apos.endLine == cpos.line) = true := by rfl) (hs : starEach (e :: es) X.env = (false, eval e X.env) :: starEach es X.env := by rfl) (hplain : (backTo cpos (starEach es X.env)).any (·.1) = false := by rfl) :
  PE X (.Call (.Attribute o name apos) (e :: es) [] cpos) (mBM r to t) := by
 intro pins s σ H Q I h
 refine wpAny_Call_method_late hbase hfew hline rfl (thn (ho pins s σ H _ I h) fun v s1 ⟨x, H1, I1, r1, ⟨p, xs, e, hp⟩, q1⟩ => ?_)
 subst e
 obtain ⟨h1, h2⟩ := tyV_is (T := "list") I1 r1 (.inl ⟨rfl, xs, SqL.of hp⟩)
 refine ⟨"list", id, PySem.F.plainAttrs_list, slot, hty, h1, h2, ?_⟩
 have hA := ha cpos pins s1 σ H1 _ I1 q1
 rw [hs] at hA ⊢
 refine Calls.callWith_builtin (by show (false || (backTo cpos (starEach es X.env)).any (·.1)) = false; rw [hplain] <;> rfl) (Calls.evalArgs_plain ?_)
 exact thn hA fun us s2 ⟨vs, H2, I2, r2, q2⟩ => hm pins s2 σ H2 _ vs v us Q I2 r1 r2 q2
def iSeq (K : PySem.W.Frag) (tl : TE) : TI := fun σ H R => tl σ H (onRef fun a H1 => ((∃ xs, SqL K H1 a xs) ∧ R (Itl K a) H1) ∨ ((∃ xs, SqT K H1 a xs) ∧ R (Itt K a) H1))
theorem pi_seq {tg l : Expr} {tl : TE} (hl : PE X l tl) : PI X tg l (iSeq X.K tl) := by
 intro pins s σ H R I h
 refine thn (hl pins s σ H _ I h) fun v s1 ⟨x, H1, I1, r1, q1⟩ => ?_
 cases x with
 | ref a =>
  cases r1
  rcases (show ((∃ xs, SqL X.K H1 a xs) ∧ R (Itl X.K a) H1) ∨ ((∃ xs, SqT X.K H1 a xs) ∧ R (Itt X.K a) H1) from q1) with ⟨⟨xs, hq⟩, q⟩ | ⟨⟨xs, hq⟩, q⟩
  ·obtain ⟨its, rv, p, hz⟩ := I1.list hq
   refine wpAny_pyIter_list p.isList ?_
   refine ⟨s1.heap.objs.size, [s1.heap.objs.size], _, _, H1, rfl, I1.kept (t' := s1.toks) fun b o e => Heap.get?_push_of_some _ e, turn_list a _, ⟨_, Heap.get?_push_size _ rfl, rfl, rfl⟩, fun b hb => ?_, q⟩
   have e : b = s1.heap.objs.size := by simpa using hb
   subst e
   exact I1.fpOk (Nat.le_refl _) (I1.hok.fresh (Nat.le_refl _))
  ·obtain ⟨its, rv, p, hz⟩ := I1.tuple hq
   refine wpAny_pyIter_tuple (show s1.heap.IsTuple a its.toArray from p) ?_
   refine ⟨s1.heap.objs.size, [s1.heap.objs.size], _, _, H1, rfl, I1.kept (t' := s1.toks) fun b o e => Heap.get?_push_of_some _ e, turn_tuple a _, ⟨_, Heap.get?_push_size _ rfl, rfl, rfl⟩, fun b hb => ?_, q⟩
   have e : b = s1.heap.objs.size := by simpa using hb
   subst e
   exact I1.fpOk (Nat.le_refl _) (I1.hok.fresh (Nat.le_refl _))
 | _ => exact (show False from q1).elim
def iR1 (ta : TA) : TI := fun σ H R => ta σ H (on1 (onInt fun j H1 => (-(2 ^ 62) ≤ j ∧ j < 2 ^ 62) ∧ R (Itr 0 j.toNat) H1))
theorem m_range1 {tg a : Expr} {ta : TA} {p pos : Pos} (hg : Gl X "range") (hm : X.mg "range" = none) (ha : PA X [a] ta) (hs : starEach [a] X.env = [(false, eval a X.env)] := by rfl) : PI X tg (.Call (.Name "range" p) [a] [] pos) (iR1 ta) := by
 intro pins s σ H R I h
 refine Call_ (ld_blt I hg hm boot_range (PyProof.Rows.callWith_type1 (thn (ha pos pins s σ H _ I h) fun us s1 ⟨vs, H1, I1, r1, q1⟩ => ?_) hs rfl))
 rcases vs with _ | ⟨x, _ | ⟨y, rr⟩⟩
 ·exact (show False from q1).elim
 ·cases x with
  | int j =>
   obtain ⟨⟨q1, q2⟩, q⟩ := (show (-(2 ^ 62) ≤ j ∧ j < 2 ^ 62) ∧ R (Itr 0 j.toNat) H1 from q1)
   cases r1 with
   | cons r rr =>
    cases rr
    obtain ⟨t, rfl⟩ := r
    exact call_range_1 (range_it I1 (by omega) (by omega) q1 q2 (by simpa using q))
  | _ => exact (show False from q1).elim
 ·exact (show False from q1).elim
def Loop (g : TG) (tb : TS) (J : It) (D : Ends) (σ : St) (H1 : Hp) : Prop := ∃ W : Nat → Nat → St → Hp → Prop, (∃ m, W 0 m σ H1) ∧ ∀ i m σ H, W i m σ H →
 (J.stop i H ∧ D.nx σ H) ∨ (J.go i H ∧ ∃ N : St → Hp → Prop, (∀ σ' H', N σ' H' → ∃ m', m' < m ∧ W (i + 1) m' σ' H') ∧ ∀ x H', J.yld i H x H' → g x σ H' fun σ2 H2 => tb { D with nx := N, ct := N, bk := D.nx } σ2 H2)
def mFor (wi : TI) (g : TG) (tb : TS) : TS := fun D σ H => wi σ H fun J H1 => Loop g tb J D σ H1
theorem m_for {tg iter : Expr} {body : List Stmt} {wi : TI} {g : TG} {tb : TS} {pos : Pos} (hp : PassesOwn (model X.prog X.w) X.A X.env X.xe) (hc : X.calm = true) (hi : PI X tg iter wi) (hg : PG X tg g) (hb : PSs X body tb)
  (hs : ∀ x, foldedSetIterable iter X.env x = pure x := by intro _; rfl) : PS X (.For tg iter body [] pos) (mFor wi g tb) := ps_for hp hc hi hg hb hs
theorem loop_list {K : PySem.W.Frag} {a : Addr} {xs : List V} {g : TG} {tb : TS} {D : Ends} {σ : St} {H : Hp} (Pv : Nat → St → Hp → Prop) (h0 : Pv 0 σ H) (hl : ∀ i σ H, i ≤ xs.length → Pv i σ H → SqL K H a xs)
  (hs : ∀ i x σ H, xs[i]? = some x → Pv i σ H → g x σ H fun σ2 H2 => tb { D with nx := Pv (i + 1), ct := Pv (i + 1), bk := D.nx } σ2 H2) (hd : ∀ σ H, Pv xs.length σ H → D.nx σ H) : Loop g tb (Itl K a) D σ H := for_list Pv h0 hl hs hd
theorem loop_tup {K : PySem.W.Frag} {a : Addr} {xs : List V} {g : TG} {tb : TS} {D : Ends} {σ : St} {H : Hp} (Pv : Nat → St → Hp → Prop) (h0 : Pv 0 σ H) (hl : ∀ i σ H, i ≤ xs.length → Pv i σ H → SqT K H a xs)
  (hs : ∀ i x σ H, xs[i]? = some x → Pv i σ H → g x σ H fun σ2 H2 => tb { D with nx := Pv (i + 1), ct := Pv (i + 1), bk := D.nx } σ2 H2) (hd : ∀ σ H, Pv xs.length σ H → D.nx σ H) : Loop g tb (Itt K a) D σ H := for_tup Pv h0 hl hs hd
theorem loop_range {n : Nat} {g : TG} {tb : TS} {D : Ends} {σ : St} {H : Hp} (Pv : Nat → St → Hp → Prop) (h0 : Pv 0 σ H)
  (hs : ∀ i σ H, i < n → Pv i σ H → g (.int (0 + (i : Int))) σ H fun σ2 H2 => tb { D with nx := Pv (i + 1), ct := Pv (i + 1), bk := D.nx } σ2 H2) (hd : ∀ σ H, Pv n σ H → D.nx σ H) : Loop g tb (Itr 0 n) D σ H := for_range Pv h0 hs hd
def WLoop (c : TT) (tb : TS) (D : Ends) (σ : St) (H : Hp) : Prop := tWhile c tb D σ H
def mWhile (c : TT) (tb : TS) : TS := fun D σ H => WLoop c tb D σ H
end
section
variable {K : PySem.W.Frag} {H : Hp} {Q : VK} {i j : Int} {x y : Str} {p r : Addr} {c d : Bool} {g : Bool → Bool} {v : V} {neg : Bool}
theorem q_addi : mAdd K (.int i) (.int j) H Q = Q (.int (i + j)) H := rfl
theorem q_adds : mAdd K (.str x) (.str y) H Q = (x.length + y.length ≤ sizeLine ∧ Q (.str (x ++ y)) H) := rfl
theorem q_addr : mAdd K (.ref p) (.ref r) H Q = ((∃ xs ys, H p = some (.lst xs) ∧ H r = some (.lst ys) ∧ xs.length + ys.length ≤ sizeLine ∧ New H (.lst (xs ++ ys)) Q) ∨
   ∃ xs ys, SqT K H p xs ∧ SqT K H r ys ∧ xs.length + ys.length ≤ sizeLine ∧ ∀ (p : Addr) (H' : Hp), Same H H' → SqT K H' p (xs ++ ys) → Q (.ref p) H') := rfl
theorem q_ii {C : Int → Int → Prop} {f : Int → Int → V} : mII C f (.int i) (.int j) H Q = (C i j ∧ Q (f i j) H) := rfl
theorem q_ii0 {f : Int → Int → V} : mII0 f (.int i) (.int j) H Q = Q (f i j) H := rfl
theorem q_eqi : mEqD K g (.int i) (.int j) H Q = Q (.bl (g (decide (i = j)))) H := rfl
theorem q_eqb : mEqD K g (.bl c) (.bl d) H Q = Q (.bl (g (decide (c = d)))) H := rfl
theorem q_eqs : mEqD K g (.str x) (.str y) H Q = Q (.bl (g (decide (x = y)))) H := rfl
theorem q_eqnn : mEqD K g .non .non H Q = Q (.bl (g true)) H := rfl
theorem q_eqnb : mEqD K g .non (.bl c) H Q = Q (.bl (g false)) H := rfl
theorem q_eqbn : mEqD K g (.bl c) .non H Q = Q (.bl (g false)) H := rfl
theorem q_eqni : mEqD K g .non (.int i) H Q = Q (.bl (g false)) H := rfl
theorem q_eqin : mEqD K g (.int i) .non H Q = Q (.bl (g false)) H := rfl
theorem q_eqr : mEqD K g (.ref p) (.ref r) H Q = (∃ da db, Has K H (.ref p) da ∧ Has K H (.ref r) db ∧ SeqAt.shaped da = true ∧ SeqAt.shaped db = true ∧ Q (.bl (g (PyData.eqv da db))) H) := rfl
theorem q_lei : mLe (.int i) (.int j) H Q = Q (.bl (decide (i ≤ j))) H := rfl
theorem q_leb : mLe (.bl c) (.bl d) H Q = Q (.bl (!c || d)) H := rfl
theorem q_in : mIn K neg v (.ref p) H Q = (∃ xs, (SqL K H p xs ∨ SqT K H p xs) ∧ flatV v = true ∧ xs.all flatV = true ∧ Q (.bl (if neg then !inV v xs else inV v xs)) H) := rfl
theorem q_ixs : mIx K (.str x) (.int i) H Q = (x.length ≤ sizeLine ∧ ∃ c, atI x.cps.toList i = some c ∧ Q (.str ⟨#[c]⟩) H) := rfl
theorem q_ixr : mIx K (.ref p) (.int i) H Q = (∃ xs v, (SqL K H p xs ∨ SqT K H p xs) ∧ atI xs i = some v ∧ Q v H) := rfl
theorem q_sls {lo hi : Option Int} : mSl K (.str x) lo hi H Q = (x.length ≤ sizeLine ∧ Q (.str (Txt.slice x lo hi)) H) := rfl
theorem q_slr {lo hi : Option Int} : mSl K (.ref p) lo hi H Q = ((∃ xs, SqL K H p xs ∧ New H (.lst (cutV xs lo hi)) Q) ∨ ∃ xs, SqT K H p xs ∧ ∀ (p : Addr) (H' : Hp), Same H H' → SqT K H' p (cutV xs lo hi) → Q (.ref p) H') := rfl
theorem q_lens : mLen K [.str x] H Q = (x.length ≤ sizeLine ∧ Q (.int x.length) H) := rfl
theorem q_lenr : mLen K [.ref p] H Q = (∃ ys, (SqL K H p ys ∨ SqT K H p ys) ∧ Q (.int ys.length) H) := rfl
theorem q_listOf : mListOf K [.ref p] H Q = (∃ ys, (SqL K H p ys ∨ SqT K H p ys) ∧ New H (.lst ys) Q) := rfl
theorem q_tupOf : mTupOf K [.ref p] H Q = (∃ ys, (SqL K H p ys ∨ SqT K H p ys) ∧ ∀ (r : Addr) (H' : Hp), Same H H' → SqT K H' r ys → Q (.ref r) H') := rfl
theorem q_isI {T : String} : mIsI K [v, .ty T] H Q = (∃ t b, TyX K H v t ∧ PySem.W.kitOne K t (.type T) = some b ∧ Q (.bl b) H) := rfl
theorem q_app : mApp (.ref p) [v] H Q = (∃ xs, H p = some (.lst xs) ∧ xs.length < sizeLine ∧ Q .non (upd H p (.lst (xs ++ [v])))) := rfl
theorem q_pop : mPop (.ref p) [] H Q = (∃ xs y, H p = some (.lst xs) ∧ xs[xs.length - 1]? = some y ∧ Q y (upd H p (.lst xs.dropLast))) := rfl
end
structure Callee (P : Program) (w : World) (K : PySem.W.Frag) (mg : Str → Option Value) (base : Heap) (k : Nat) (x : Str) (ps : List Str) (sp : Sp) : Prop where
 ex : ∃ (f : Addr) (fd : FuncData), FnOk P w K mg base CX0 k f fd ps sp ∧ Binds K fd ps [] ∧ PySem.W.keepIn K (.ref f) = true ∧ mg x = some (.ref f)
theorem m_call {X : Cx} {k k' : Nat} {x : Str} {ps : List Str} {sp : Sp} {t : TA} {e : Expr} {es : List Expr} {p pos : Pos} (C : Callee X.prog X.w X.K X.mg X.base k x ps sp) (hr : Room k' X.A) (hk : k ≤ k') (ha : PA X (e :: es) t) (hg : Gl X x := by rfl)
  (hdb : (x == ("__debug__" : Str)) = false := by decide) (he : starEach (e :: es) X.env = (false, eval e X.env) :: starEach es X.env := by rfl) (hpl : (backTo pos (starEach es X.env)).any (·.1) = false := by rfl) :
  PE X (.Call (.Name x p) (e :: es) [] pos) (tCall sp [] E0 t) := by
 obtain ⟨f, fd, F, b, kp, hm⟩ := C.ex
 exact pe_call F (hr.mono hk) hg hm kp b .nil pass0 ha hdb he hpl
theorem callee_mono {P : Program} {w : World} {K : PySem.W.Frag} {mg : Str → Option Value} {base : Heap} {k k' : Nat} {x : Str} {ps : List Str} {sp : Sp} (C : Callee P w K mg base k x ps sp) (h : k ≤ k') : Callee P w K mg base k' x ps sp := by
 obtain ⟨f, fd, F, b, kp, hm⟩ := C.ex
 exact ⟨f, fd, F.mono h, b, kp, hm⟩
structure Def (K : PySem.W.Frag) (mg : Str → Option Value) (x : Str) (st : Stmt) (ps : List Str) : Prop where
 ex : ∃ (f : Addr) (fd : FuncData), Fun K x x st f fd ∧ (∀ us : List Value, us.length = ps.length → bindArgs fd ⟨us, []⟩ = pure (ps.zip us)) ∧ mg x = some (.ref f)
section
variable {P : Program} {w : World} {K : PySem.W.Frag} {mg : Str → Option Value} {base : Heap}
theorem fun_ok {x : Str} {st : Stmt} {f : Addr} {fd : FuncData} {N ps : List Str} {k : Nat} {sp : Sp} (F : Fun K x x st f fd) (S : FnScope N ps (defScope st)) (len : ∀ vs H Q E, sp vs H Q E → vs.length = ps.length)
  (hbody : ∀ (f : Addr) (cdv : Value) (A : Around) (outer : List Env) (s : Shared) (H : Hp) (vs : List V) (Q : VK) (E : XK), Room k (A.deeper (envOfC x (defScope st) s.heap.objs.size f cdv)) → sp vs H Q E →
   ∃ σ t, start N vs = σ ∧ PSs (cxOf CX0 P w K mg base N x (defScope st) f cdv A outer s H E).nox (defBody st) t ∧ t { nx := fun _ H' => Q .non H', rt := Q } σ H) : FnOk P w K mg base CX0 (k + 1) f fd ps sp :=
 F.ok S len fun cdv A outer s H vs Q E hr h => by
  obtain ⟨σ, t, e, ht, q⟩ := hbody f cdv A outer s H vs Q E hr h
  exact ⟨t, ht, by rw [e]; exact q⟩
theorem Def.callee {x : Str} {st : Stmt} {N ps : List Str} {k : Nat} {sp : Sp} (F : Def K mg x st ps) (S : FnScope N ps (defScope st)) (len : ∀ vs H Q E, sp vs H Q E → vs.length = ps.length)
  (hbody : ∀ (f : Addr) (cdv : Value) (A : Around) (outer : List Env) (s : Shared) (H : Hp) (vs : List V) (Q : VK) (E : XK), Room k (A.deeper (envOfC x (defScope st) s.heap.objs.size f cdv)) → sp vs H Q E →
   ∃ σ t, start N vs = σ ∧ PSs (cxOf CX0 P w K mg base N x (defScope st) f cdv A outer s H E).nox (defBody st) t ∧ t { nx := fun _ H' => Q .non H', rt := Q } σ H) : Callee P w K mg base (k + 1) x ps sp := by
 obtain ⟨f, fd, F, b, hm⟩ := F.ex
 exact ⟨f, fd, fun_ok F S len hbody, .all b, F.kp, hm⟩
theorem def_mk {h : Heap} {x : Str} {st : Stmt} {ps : List Str} {f : Addr} {oc : Value} {od an : Option Addr} {osl : Array (Option Value)} {kV doc pm cdv ct : Value} (X : K.In h) (G : h.Ns mainGlobals mg)
  (a : PySem.W.nsIn K mainGlobals x = some (some (.ref f))) (l : K.lookup f = some ⟨oc, od, .func (PySem.W.fnOf x x (defArgs st) (defBody st) (defScope st) .none kV doc pm an cdv ct), osl⟩)
  (c : PySem.W.codeIn K cdv x = true) (k : PySem.W.keepIn K (.ref f) = true)
  (hb : ∀ (kV doc pm : Value) (an : Option Addr) (cdv ct : Value) (us : List Value), us.length = ps.length → bindArgs (PySem.W.fnOf x x (defArgs st) (defBody st) (defScope st) .none kV doc pm an cdv ct) ⟨us, []⟩ = pure (ps.zip us)) : Def K mg x st ps :=
 ⟨f, _, fun_mk l c k, hb kV doc pm an cdv ct, PySem.W.mg_of X G a⟩
end
end My
namespace My
open PySem PySem.Spec L2
open PyProof.Rows hiding St
def cxComp (X : Cx) (N' : List Str) (scope : Scope) (cl : List (Str × Addr)) (C : Addr) (s₀ : Shared) (H₀ : Hp) (ex : List Addr) : Cx where
 prog := X.prog
 w := X.w
 K := X.K
 mg := X.mg
 base := X.base
 A := X.A
 N := N'
 s₀ := s₀
 H₀ := H₀
 env := compEnvC scope cl C X.env
 outer := X.stack
 stack := X.stack
 ex := ex
 fn := fun _ => false
 calm := X.calm
 pn := []
 xe := fun _ _ => False
structure CompOk (X : Cx) (own N : List Str) (scope : Scope) (cl : List (Str × Addr)) : Prop where
 clos : closureFor scope X.env = pure cl
 sub : ∀ p ∈ cl, X.env.cells.lookup p.1 = some p.2
 have_ : ∀ p ∈ scope.names, p.2 = .free → ∃ c, cl.lookup p.1 = some c
 nocell : ∀ y ∈ scope.names, y.2 ≠ .cell
 kind : scope.kind = .function
 names : ∀ y ∈ scope.names, y.2 = .local → scope.names.lookup y.1 = some .local
 mine : ∀ x ∈ own, scope.names.lookup x = some .local
 nd : (own ++ N).Nodup
 cells : ∀ y ∈ N, X.env.kindOf y = some .cell ∨ X.env.kindOf y = some .free
 free : ∀ y ∈ N, ∃ c, cl.lookup y = some c
 vis : ∀ y ∈ N, (relabel scope X.env).names.lookup y = some .cell ∨ (relabel scope X.env).names.lookup y = some .free
theorem lookup_relabel {env : Env} : ∀ {names : List (Str × NameKind)} {x : Str} {k : NameKind},
  (names.map fun (n, k) => if (k == NameKind.free && env.scope.kind == .function && env.kindOf n == some .cell) then (n, NameKind.cell) else (n, k)).lookup x = some k →
  (k = .cell ∨ k = .free) → names.lookup x = some .cell ∨ names.lookup x = some .free
 | [], _, _, h, _ => by simp at h
 | (n, k') :: r, x, k, h, hk => by
  have ih := @lookup_relabel env r x k
  have h' : List.lookup x ((if (k' == NameKind.free && env.scope.kind == .function && env.kindOf n == some .cell) = true then (n, NameKind.cell) else (n, k')) :: (r.map fun (n, k) => if (k == NameKind.free && env.scope.kind == .function && env.kindOf n == some .cell) then (n, NameKind.cell) else (n, k))) = some k := h
  by_cases hc : (k' == NameKind.free && env.scope.kind == .function && env.kindOf n == some .cell) = true
  ·rw [if_pos hc] at h'
   have hk' : k' = .free := by
    rw [Bool.and_eq_true, Bool.and_eq_true] at hc
    exact eq_of_beq hc.1.1
   cases hx : x == n with
   | true => right; simp only [List.lookup_cons, hx, hk']
   | false =>
    simp only [List.lookup_cons, hx] at h' ⊢
    exact ih h' hk
  ·rw [if_neg hc] at h'
   cases hx : x == n with
   | true =>
    simp only [List.lookup_cons, hx] at h' ⊢
    cases h'
    rcases hk with rfl | rfl
    ·left; rfl
    ·right; rfl
   | false =>
    simp only [List.lookup_cons, hx] at h' ⊢
    exact ih h' hk
section
variable {X : Cx} {own N : List Str} {scope : Scope} {cl : List (Str × Addr)}
theorem CompOk.up (k : CompOk X own N scope cl) {y : Str} {c : Addr} (h : cl.lookup y = some c) : X.env.cells.lookup y = some c := k.sub (y, c) (PySem.mem_of_lookup h)
theorem ix_len {NX : List Str} {ixs : List Nat} {N : List Str} (h : ixs.map (fun i => NX[i]?) = N.map some) : ixs.length = N.length := by
 have := congrArg List.length h
 simpa using this
theorem ix_of {NX : List Str} {ixs : List Nat} {N : List Str} (h : ixs.map (fun i => NX[i]?) = N.map some) : ∀ (j : Nat) (i : Nat), ixs[j]? = some i → ∃ y, NX[i]? = some y ∧ N[j]? = some y := fun j i e => by
 have h1 : (ixs.map (fun i => NX[i]?))[j]? = (N.map some)[j]? := by rw [h]
 rw [List.getElem?_map, List.getElem?_map, e] at h1
 cases e2 : N[j]? with
 | none => rw [e2] at h1; cases h1
 | some y => rw [e2] at h1; exact ⟨y, Option.some.inj h1, rfl⟩
theorem compOk_mk (clos : closureFor scope X.env = pure cl) (sub : cl.map (fun p => X.env.cells.lookup p.1) = cl.map (fun p => some p.2))
  (b1 : (scope.names.all fun p => !(p.2 == .free) || (cl.lookup p.1).isSome) = true) (b2 : (scope.names.all fun p => !(p.2 == .cell)) = true) (kind : scope.kind = .function)
  (b3 : (scope.names.all fun p => !(p.2 == .local) || scope.names.lookup p.1 == some .local) = true) (ow : own.map (fun x => scope.names.lookup x) = own.map (fun _ => some .local)) (nd : (own ++ N).Nodup)
  (b4 : (N.all fun y => X.env.kindOf y == some .cell || X.env.kindOf y == some .free) = true) (b5 : (N.all fun y => (cl.lookup y).isSome) = true)
  (b6 : (N.all fun y => (relabel scope X.env).names.lookup y == some .cell || (relabel scope X.env).names.lookup y == some .free) = true) : CompOk X own N scope cl := by
 rw [List.all_eq_true] at b1 b2 b3 b4 b5 b6
 refine ⟨clos, List.map_inj_left.mp sub, fun p hp hf => ?_, fun p hp hc => ?_, kind, fun p hp hl => ?_, List.map_inj_left.mp ow, nd, fun y hy => ?_, fun y hy => Option.isSome_iff_exists.mp (b5 y hy), fun y hy => ?_⟩
 ·have h := b1 p hp
  rw [hf] at h
  exact Option.isSome_iff_exists.mp (by simpa using h)
 ·have h := b2 p hp
  rw [hc] at h
  simp at h
 ·have h := b3 p hp
  rw [hl] at h
  simpa using h
 ·have h := b4 y hy
  rw [Bool.or_eq_true] at h
  exact h.imp eq_of_beq eq_of_beq
 ·have h := b6 y hy
  rw [Bool.or_eq_true] at h
  exact h.imp eq_of_beq eq_of_beq
theorem comp_inv {pins : List (Addr × Obj)} {σ : St} {H : Hp} {s : Shared} {fp : List Addr} {h₁ : Heap} {tk : Nat} {ixs : List Nat} (k : CompOk X own N scope cl) (I : Inv X pins σ H s) (hf : ∀ b ∈ fp, FpOk X pins H b) (hfp : ∀ b ∈ fp, b < s.heap.objs.size)
  (hix : ∀ (j : Nat) (i : Nat), ixs[j]? = some i → ∃ y, X.N[i]? = some y ∧ N[j]? = some y) (hlen : ixs.length = N.length)
  (hns : h₁.Ns s.heap.objs.size fun _ => none) (hkeep : ∀ b o, b ≠ s.heap.objs.size → s.heap.get? b = some o → h₁.get? b = some o) :
  Inv (cxComp X (own ++ N) scope cl s.heap.objs.size s H fp) [] (own.map (fun _ => none) ++ ixs.map (gv σ)) H { s with heap := h₁, toks := tk } := by
 have old : ∀ b o, s.heap.get? b = some o → h₁.get? b = some o := fun b o e => hkeep b o (Nat.ne_of_lt (Heap.lt_size e)) e
 have nfs : ∀ b ∈ fp, b ∉ frs X.stack := fun b hb z => by
  rcases List.mem_cons.mp (I.stkSub b z) with e | e
  ·exact (hf b hb).2.1 e
  ·exact (hf b hb).2.2.1 e
 refine ⟨⟨I.ok.mod, ?_, I.ok.glob, I.ok.blt, Nat.le_refl _, ?_, ?_, ?_, I.ok.hd, I.ok.frames, .inl rfl, ?_, I.bs, Nat.le_trans I.ok.bsz I.sz, ?_, nfs, I.stack, I.stkFree⟩,
  rfl, I.bare, Un.kept old, ⟨fun _ => none, hns, ?_⟩, ?_, I.hok.fresh (Nat.le_refl _), ?_, fun p hp => absurd hp (by simp [cxComp]), I.hok.kept old, ?_⟩
 ·exact k.kind
 ·exact fun y z c h1 h2 => I.ok.inj y z c (k.up h1) (k.up h2)
 ·intro y hy
  have hy' : scope.names.lookup y = some .cell ∨ scope.names.lookup y = some .free := by
   rcases hy with hy | hy
   ·exact lookup_relabel (env := X.env) hy (.inl rfl)
   ·exact lookup_relabel (env := X.env) hy (.inr rfl)
  rcases hy' with hy' | hy'
  ·exact absurd rfl (k.nocell _ (PySem.mem_of_lookup hy'))
  ·exact k.have_ _ (PySem.mem_of_lookup hy') rfl
 ·intro y c h1
  exact absurd h1 (by simp [cxComp])
 ·intro b hb
  exact ⟨Nat.ne_of_lt (hfp b hb), fun y c e => (hf b hb).2.2.2.2.1 y c (k.up e)⟩
 ·intro b o e hb
  rcases (hf b hb).2.2.2.1 with z | z
  ·exact I.ok.noex b o e z
  ·exact absurd (Nat.lt_of_lt_of_le (Heap.lt_size e) (Nat.le_trans I.ok.bsz z)) (Nat.lt_irrefl _)
 ·intro i y v h1 h2 h3
  have h1 : (own ++ N)[i]? = some y := h1
  by_cases hio : i < own.length
  ·rw [List.getElem?_append_left (by simpa using hio)] at h2
   simp [hio] at h2
  ·have h2' : (ixs.map (gv σ))[i - own.length]? = some (some v) := by rw [List.getElem?_append_right (by simpa using hio)] at h2; simpa using h2
   have h1' : N[i - own.length]? = some y := by rw [List.getElem?_append_right (by omega)] at h1; exact h1
   generalize i - own.length = i at h1' h2'
   rw [List.getElem?_map] at h2'
   cases e : ixs[i]? with
   | none => rw [e] at h2'; cases h2'
   | some j =>
    rw [e] at h2'
    have h2'' : gv σ j = some v := by simpa using h2'
    obtain ⟨z, hz, hz'⟩ := hix i j e
    rw [h1'] at hz'
    cases hz'
    have hm := List.mem_of_getElem? h1'
    obtain ⟨m, hn, hl⟩ := I.loc
    have hvis : Vis X.env.scope y := .inr (k.cells y hm)
    obtain ⟨u, ru, l⟩ := hl j y v hz (gv_get h2'') hvis
    refine ⟨u, ru, ?_⟩
    rcases l with ⟨l, _⟩ | ⟨_, c, ec, ic⟩
    ·exfalso
     rcases k.cells y hm with z | z <;> (rw [l] at z; cases z)
    ·obtain ⟨c', ec'⟩ := k.free y hm
     have : c = c' := Option.some.inj (ec.symm.trans (k.up ec'))
     subst this
     refine .inr ⟨?_, c, ec', ?_⟩
     ·exact k.vis y hm
     ·obtain ⟨o, ho, hd⟩ := ic
      exact ⟨o, old _ _ ho, hd⟩
 ·intro y c e
  obtain ⟨v, o, ho, hd⟩ := I.cell y c (k.up e)
  exact ⟨v, o, old _ _ ho, hd⟩
 ·intro y c e
  exact I.freeC y c (k.up e)
 ·show (own.map (fun _ => none) ++ ixs.map (gv σ)).length = (own ++ N).length
  simp [hlen]
def PIf (X : Cx) (ifs : List Expr) (t : TT) : Prop := ∀ (pins : List (Addr × Obj)) (s : Shared) (σ : St) (H : Hp) (Q : Bool → Hp → Prop), Inv X pins σ H s → t σ H Q →
 wpAny (model X.prog X.w) X.A (forIn ifs true fun c r => if r = true then do let ok ← isTrue c X.env (eval c X.env); pure (ForInStep.yield ok) else pure (ForInStep.yield r)) (TP X pins σ Q) X.xe s
def tTrue : TT := fun _ H Q => Q true H
theorem pif_nil : PIf X [] tTrue := fun pins s σ H Q I h => by
 rw [List.forIn_nil]
 exact wpAny_pure ⟨H, I, h⟩
theorem pif_one {c : Expr} {tc : TT} (hc : PT X c tc) : PIf X [c] tc := fun pins s σ H Q I h => by
 rw [List.forIn_cons]
 simp only [if_true]
 refine wpAny_bind (wpAny_bind (thn (hc pins s σ H Q I h) fun b s1 h1 => wpAny_pure ?_))
 dsimp only
 rw [List.forIn_nil]
 exact wpAny_pure h1
theorem compTurn_one (elt target iter : Expr) (ifs : List Expr) (scope : Scope) (pos : Pos) (it acc : Value) (env : Env) :
  compTurn (.ListComp elt [⟨target, iter, ifs, 0⟩] scope pos) 0 it acc env = (standAt iter.pos >>= fun _ => pyNext it >>= fun r => match r with
   | none => pure (.done .next)
   | some v => letOwnedTupleGo target it v >>= fun _ => assign target env v >>= fun _ =>
    (forIn ifs true fun c r => if r = true then do let ok ← isTrue c env (eval c env); pure (ForInStep.yield ok) else pure (ForInStep.yield r)) >>= fun ok =>
     if ok = true then (eval elt env >>= fun x => call (.builtin "list.append") [acc, x] >>= fun _ => pure ()) >>= fun _ => again (.compLoop (.ListComp elt [⟨target, iter, ifs, 0⟩] scope pos) 0 it acc env)
     else again (.compLoop (.ListComp elt [⟨target, iter, ifs, 0⟩] scope pos) 0 it acc env)) := by rfl
theorem compLoop_mine {prog : Program} {w : World} {A : Around} {R : Result → Shared → Prop} {s : Shared} {elt target iter : Expr} {ifs : List Expr} {scope : Scope} {pos : Pos} {it acc : Value} {env : Env} (I : Nat → Shared → Prop)
  (turn : ∀ n s, I n s → ∀ E : Value → Shared → Prop, wpAny (model prog w) A (pyNext it) (fun r s₁ => match r with
   | none => R (.ok .next) s₁
   | some v => wpAny (model prog w) A (letOwnedTupleGo target it v) (fun _ s₁' => wpAny (model prog w) A (assign target env v) (fun _ s₂ =>
     wpAny (model prog w) A (forIn ifs true fun c r => if r = true then do let ok ← isTrue c env (eval c env); pure (ForInStep.yield ok) else pure (ForInStep.yield r)) (fun ok s₂' => if ok = true then wpAny (model prog w) A (eval elt env) (fun x s₃ =>
      wpAny (model prog w) A (call (.builtin "list.append") [acc, x]) (fun _ s₄ => ∃ m, m < n ∧ I m s₄) E s₃) E s₂' else ∃ m, m < n ∧ I m s₂') E s₂) E s₁') E s₁) E s)
  (n : Nat) (h : I n s) :
  codeAny (model prog w) A (.compLoop (.ListComp elt [⟨target, iter, ifs, 0⟩] scope pos) 0 it acc env) R s := by
 refine codeAny_loop rfl I (fun n s hI => ?_) n h
 show wpAny _ _ ((compTurn (.ListComp elt [⟨target, iter, ifs, 0⟩] scope pos) 0 it acc env).onRaise (fun x => do noteFrame x env; theTreesLotGoes x)) _ _ s
 refine wpAny_noted ?_
 rw [compTurn_one]
 refine wpAny_bind (wpAny_standAt (wpAny_bind (wpAny_mono (turn n s hI _) (fun r s₁ h₁ => ?_) fun _ _ h' => h')))
 cases r with
 | none => exact wpAny_pure h₁
 | some v =>
  refine wpAny_bind (wpAny_mono h₁ (fun _ s₁' h₁' => wpAny_bind (wpAny_mono h₁' (fun _ s₂ h₂ => wpAny_bind (wpAny_mono h₂ (fun ok s₂' h₂' => ?_) fun _ _ h' => h')) fun _ _ h' => h')) fun _ _ h' => h')
  cases ok with
  | true =>
   simp only [if_true] at h₂' ⊢
   exact wpAny_bind (wpAny_bind (wpAny_mono h₂' (fun x s₃ h₃ => wpAny_bind (wpAny_mono h₃ (fun _ s₄ h₄ => wpAny_pure (wpAny_pure ⟨rfl, h₄⟩)) fun _ _ h' => h')) fun _ _ h' => h'))
  | false =>
   simp only [Bool.false_eq_true, if_false] at h₂' ⊢
   exact wpAny_pure ⟨rfl, h₂'⟩
def CompL (no : Nat) (g : TG) (tt : TT) (te : TE) (ρ : St) (J : It) (Q : VK) (H1 : Hp) : Prop := ∀ (D : Addr) (H2 : Hp), H1 D = none → Same H1 H2 → H2 D = some (.lst []) →
 ∃ W : Nat → Nat → List V → Hp → Prop, (∃ m, W 0 m [] H2) ∧ ∀ i m ys H', W i m ys H' → H' D = some (.lst ys) ∧
  ((J.stop i H' ∧ Q (.ref D) H') ∨ (J.go i H' ∧ ys.length < sizeLine ∧ ∀ (τ : St) v H'', τ.length = no → J.yld i H' v H'' → g v (τ ++ ρ) H'' fun σ2 H3 => (∃ τ' : St, σ2 = τ' ++ ρ ∧ τ'.length = no) ∧ tt σ2 H3 fun b H4 =>
   if b = true then te σ2 H4 fun y H5 => H5 D = some (.lst ys) ∧ ∃ m', m' < m ∧ W (i + 1) m' (ys ++ [y]) (upd H5 D (.lst (ys ++ [y]))) else ∃ m', m' < m ∧ W (i + 1) m' ys H4))
def tComp (no : Nat) (ixs : List Nat) (wi : TI) (g : TG) (tt : Addr → Shared → Hp → List Addr → TT) (te : Addr → Shared → Hp → List Addr → TE) : TE := fun σ H Q => wi σ H fun J H1 => ∀ (C : Addr) (s₀ : Shared) (H₀ : Hp) (ex : List Addr), CompL no g (tt C s₀ H₀ ex) (te C s₀ H₀ ex) (ixs.map (gv σ)) J Q H1
theorem cc_K {X : Cx} {N' : List Str} {scope : Scope} {cl : List (Str × Addr)} {C : Addr} {s₀ : Shared} {H₀ : Hp} {ex : List Addr} : (cxComp X N' scope cl C s₀ H₀ ex).K = X.K := rfl
theorem comp_block {elt iter tg : Expr} {ifs : List Expr} {ixs : List Nat} {g : TG} {tt : Addr → Shared → Hp → List Addr → TT} {te : Addr → Shared → Hp → List Addr → TE} {pos : Pos} {pins : List (Addr × Obj)} {σ : St} {H : Hp} {s₂ : Shared} {it : Addr} {fp : List Addr} {tn : Nat → Heap → Prop} {J : It} {Q : VK} {RR : Value → Addr → Result → Shared → Prop} {E : Value → Shared → Prop}
  (k : CompOk X own N scope cl) (hcalm : X.calm = true) (hix : ∀ (j : Nat) (i : Nat), ixs[j]? = some i → ∃ y, X.N[i]? = some y ∧ N[j]? = some y) (hlen : ixs.length = N.length)
  (hg : ∀ (C : Addr) (s₀ : Shared) (H₀ : Hp) (ex : List Addr), PG (cxComp X (own ++ N) scope cl C s₀ H₀ ex) tg g)
  (ht : ∀ (C : Addr) (s₀ : Shared) (H₀ : Hp) (ex : List Addr), PIf (cxComp X (own ++ N) scope cl C s₀ H₀ ex) ifs (tt C s₀ H₀ ex))
  (he : ∀ (C : Addr) (s₀ : Shared) (H₀ : Hp) (ex : List Addr), PE (cxComp X (own ++ N) scope cl C s₀ H₀ ex) elt (te C s₀ H₀ ex))
  (I : Inv X pins σ H s₂) (T : Turn X.prog X.w X.K tg J fp it tn) (st : tn 0 s₂.heap) (hf : ∀ b ∈ fp, FpOk X pins H b)
  (q : ∀ (C : Addr) (s₀ : Shared) (H₀ : Hp) (ex : List Addr), CompL own.length g (tt C s₀ H₀ ex) (te C s₀ H₀ ex) (ixs.map (gv σ)) J Q H)
  (hRR : ∀ (D C : Addr) (H' : Hp) (s' : Shared) (m : Str → Option Value), Inv X pins σ H' s' → s'.heap.Ns C m → H' C = none → C ≠ X.env.locals → C ∉ X.fs → (∀ p ∈ X.pn ++ pins, p.1 ≠ C) → (∀ y c, X.env.cells.lookup y = some c → c ≠ C) → X.s₀.heap.objs.size ≤ C → Q (.ref D) H' → RR (.ref D) C (.ok .next) s') :
  wpAny (model X.prog X.w) X.A (newList []) (fun acc s₃ => wpAny (model X.prog X.w) X.A (newFunctionEnv scope X.env.globals cl [] X.env.qual none .none (some X.env)) (fun cenv s₄ =>
   codeAny (model X.prog X.w) X.A (.compStart (.ListComp elt [⟨tg, iter, ifs, 0⟩] scope pos) 0 (.ref it) acc { cenv with scope := relabel scope X.env }) (RR acc cenv.locals) s₄) E s₃) E s₂ := by
 refine wpAny_newObj_type (wpAny_newFunctionEnv k.nocell (by intro y hy; simp at hy) (fun h₁ hns₁ hsb₁ => ?_) k.kind)
 dsimp only at hns₁ hsb₁ ⊢
 have hfresh : H s₂.heap.objs.size = none := I.hok.fresh (Nat.le_refl _)
 have I3 : Inv X pins σ (upd H s₂.heap.objs.size (.lst [])) { s₂ with heap := s₂.heap.push { cls := .type "list", dict := none, data := .seq ([] : List Value).toArray } } :=
  I.laid (t' := s₂.toks) (fun b o e => Heap.get?_push_of_some _ e) (Nat.le_refl _) ⟨Nat.zero_le _, [], 0, .nil, Heap.get?_push_size _ rfl⟩
 obtain ⟨W, ⟨m0, w0⟩, turn⟩ := q (s₂.heap.push { cls := .type "list", dict := none, data := .seq ([] : List Value).toArray }).objs.size { s₂ with heap := s₂.heap.push { cls := .type "list", dict := none, data := .seq ([] : List Value).toArray } } (upd H s₂.heap.objs.size (.lst [])) fp s₂.heap.objs.size _ hfresh (same_new hfresh _) upd_same
 have keepPush : ∀ b o, s₂.heap.get? b = some o → (s₂.heap.push { cls := .type "list", dict := none, data := .seq ([] : List Value).toArray }).get? b = some o := fun b o e => Heap.get?_push_of_some _ e
 have fpOld : ∀ b ∈ fp, b < s₂.heap.objs.size := fun b hb => by
  obtain ⟨o, e, _⟩ := T.obj _ _ st b hb
  exact Heap.lt_size e
 have hf3 : ∀ b ∈ fp, FpOk X pins (upd H s₂.heap.objs.size (.lst [])) b := fun b hb => ⟨by rw [upd_ne (Nat.ne_of_lt (fpOld b hb))]; exact (hf b hb).1, (hf b hb).2⟩
 generalize hH3 : upd H s₂.heap.objs.size (.lst []) = H3 at I3 w0 hf3 turn
 generalize hh2 : s₂.heap.push { cls := .type "list", dict := none, data := .seq ([] : List Value).toArray } = h2 at I3 hns₁ hsb₁ keepPush turn ⊢
 have hszh2 : h2.objs.size = s₂.heap.objs.size + 1 := by rw [← hh2, Heap.size_push]
 have fp2 : ∀ b ∈ fp, b < h2.objs.size := fun b hb => by rw [hszh2]; exact Nat.lt_succ_of_lt (fpOld b hb)
 have hk1 : ∀ b o, b ≠ h2.objs.size → h2.get? b = some o → h₁.get? b = some o := fun b o hb e => hsb₁.extBut b o hb (Heap.get?_push_of_some _ e)
 have I4 := comp_inv (fp := fp) (h₁ := h₁) (tk := s₂.toks + ([] : List (Str × Value)).length) (s := { s₂ with heap := h2 }) k I3 hf3 fp2 hix hlen (by simpa using hns₁) hk1
 have st4 : tn 0 h₁ := T.keep _ _ _ st fun b hb o e => hk1 b o (Nat.ne_of_lt (fp2 b hb)) (keepPush b o e)
 have fr4 : ∀ b ∈ fp, H3 b = none := fun b hb => (hf3 b hb).1
 have blk : ∀ {H' : Hp}, (∀ b ∈ fp, H' b = none) → ∀ b ∈ fp, FpOk (cxComp X (own ++ N) scope cl h2.objs.size { s₂ with heap := h2 } H3 fp) [] H' b := fun hn b hb =>
  ⟨hn b hb, (I4.ok.exf b hb).1, I4.ok.exfs b hb, .inl hb, (I4.ok.exf b hb).2, fun p hp => absurd hp (by simp [cxComp])⟩
 have loop : ∀ s₃ : Shared, s₃ = { s₂ with heap := h₁, toks := s₂.toks + ([] : List (Str × Value)).length } →
   codeAny (model X.prog X.w) X.A (.compLoop (.ListComp elt [⟨tg, iter, ifs, 0⟩] scope pos) 0 (.ref it) (.ref s₂.heap.objs.size) (compEnvC scope cl h2.objs.size X.env)) (RR (.ref s₂.heap.objs.size) h2.objs.size) s₃ := by
  rintro s₃ rfl
  refine compLoop_mine (fun n s' => ∃ i τ ys H', τ.length = own.length ∧ Inv (cxComp X (own ++ N) scope cl h2.objs.size { s₂ with heap := h2 } H3 fp) [] (τ ++ ixs.map (gv σ)) H' s' ∧ tn i s'.heap ∧ (∀ b ∈ fp, H' b = none) ∧ W i n ys H') ?_ m0 ⟨0, own.map (fun _ => none), [], H3, by simp, I4, st4, fr4, w0⟩
  rintro n s5 ⟨i, τ, ys, H5, hτ, I5, st5, fr5, w5⟩ E'
  obtain ⟨hD, alt⟩ := turn i n ys H5 w5
  rcases alt with ⟨stop, qn⟩ | ⟨go, hz, step⟩
  ·refine wpAny_mono (T.done (cxComp X (own ++ N) scope cl h2.objs.size { s₂ with heap := h2 } H3 fp) rfl rfl rfl hcalm i [] s5 _ H5 E' I5 (blk fr5) st5 stop) (fun r s6 hr => ?_) fun _ _ e => e
   obtain ⟨rfl, I6⟩ := hr
   obtain ⟨m6, hn6, _⟩ := I6.loc
   have J6 : Inv X pins σ H5 s6 := by
    refine I3.call' (ch := fp) I6.os I6.base I6.hok I6.bare fun b hb => ?_
    obtain ⟨_, f1, f2, f3, f4, f5⟩ := hf3 b hb
    exact ⟨f3, f1, f4, f5⟩
   have szle : X.s₀.heap.objs.size ≤ h2.objs.size := I3.sz
   refine hRR s₂.heap.objs.size h2.objs.size H5 s6 m6 J6 hn6 I6.free (Nat.ne_of_gt I3.lt) (I3.nofs (Nat.le_refl _)) (fun p hp z => ?_) (fun y c e z => ?_) szle qn
   ·exact absurd (Heap.lt_size (I3.pin p hp).1) (by rw [z]; exact Nat.lt_irrefl _)
   ·obtain ⟨u, ic⟩ := I3.cell y c e
    exact absurd ic.lt (by rw [z]; exact Nat.lt_irrefl _)
  ·refine wpAny_mono (T.item (cxComp X (own ++ N) scope cl h2.objs.size { s₂ with heap := h2 } H3 fp) rfl rfl rfl hcalm i [] s5 _ H5 E' I5 (blk fr5) st5 go) (fun r s6 hr => ?_) fun _ _ e => e
   obtain ⟨u, rfl, h6⟩ := hr
   refine wpAny_mono h6 (fun _ s7 h7 => ?_) fun _ _ e => e
   obtain ⟨xv, H7, I7, r7, y7, st7, fr7⟩ := h7
   have I7' := I7.pinned (blk fr7) (T.obj _ _ st7)
   refine wpAny_mono (hg _ _ _ _ _ s7 _ H7 xv u _ I7' r7 (step τ xv H7 hτ y7)) (fun _ s8 h8 => ?_) fun _ _ e => e.elim
   obtain ⟨σ8, H8, I8, ⟨τ', rfl, hτ'⟩, q8⟩ := h8
   refine wpAny_mono (ht _ _ _ _ _ s8 _ H8 _ I8 q8) (fun ok s9 h9 => ?_) fun _ _ e => e.elim
   obtain ⟨H9, I9, q9⟩ := h9
   have back : ∀ (H10 : Hp) (s10 : Shared) (ys' : List V) (m' : Nat), Inv (cxComp X (own ++ N) scope cl h2.objs.size { s₂ with heap := h2 } H3 fp) ([] ++ pinsAt fp s7.heap) (τ' ++ ixs.map (gv σ)) H10 s10 → m' < n → W (i + 1) m' ys' H10 →
     ∃ m, m < n ∧ ∃ i τ ys H', τ.length = own.length ∧ Inv (cxComp X (own ++ N) scope cl h2.objs.size { s₂ with heap := h2 } H3 fp) [] (τ ++ ixs.map (gv σ)) H' s10 ∧ tn i s10.heap ∧ (∀ b ∈ fp, H' b = none) ∧ W i m ys H' := fun H10 s10 ys' m' I10 hm' w10 => by
    refine ⟨m', hm', i + 1, τ', ys', H10, hτ', I10.unpinned (pins := []), T.keep _ _ _ st7 fun b hb o e => (I10.pin (b, o) (List.mem_append_right _ (List.mem_append_right _ (mem_pinsAt hb e)))).1, fun b hb => ?_, w10⟩
    obtain ⟨o, e, d⟩ := T.obj _ _ st7 b hb
    exact (I10.pin (b, o) (List.mem_append_right _ (List.mem_append_right _ (mem_pinsAt hb e)))).2.1
   cases ok with
   | true =>
    simp only [if_true] at q9 ⊢
    refine wpAny_mono (he _ _ _ _ _ s9 _ H9 _ I9 q9) (fun y s10 h10 => ?_) fun _ _ e => e.elim
    obtain ⟨yv, H10, I10, r10, hD10, m', hm', w10⟩ := h10
    refine wpAny_mono (mt_append (X := cxComp X (own ++ N) scope cl h2.objs.size { s₂ with heap := h2 } H3 fp) _ s10 _ H10 (.ref s₂.heap.objs.size) [yv] (.ref s₂.heap.objs.size) [y] (fun v' H' => H' = upd H10 s₂.heap.objs.size (.lst (ys ++ [yv]))) I10 rfl (.cons r10 .nil) ⟨_, ys, yv, rfl, rfl, hD10, hz, rfl⟩) (fun _ s11 h11 => ?_) fun _ _ e => e.elim
    obtain ⟨_, H11, I11, _, rfl⟩ := h11
    exact back _ _ _ m' I11 hm' w10
   | false =>
    simp only [Bool.false_eq_true, if_false] at q9 ⊢
    obtain ⟨m', hm', w10⟩ := q9
    exact back _ _ _ m' I9 hm' w10
 exact codeAny_compStart_list (loop _ rfl) (T.self _ 0 _ _ _ st4 (loop _ rfl))
theorem inv_but {pins : List (Addr × Obj)} {σ : St} {H : Hp} {s : Shared} {C : Addr} {h'' : Heap} (I : Inv X pins σ H s) (hC : H C = none) (hL : C ≠ X.env.locals) (hp : ∀ p ∈ X.pn ++ pins, p.1 ≠ C) (hc : ∀ y c, X.env.cells.lookup y = some c → c ≠ C) (h0 : X.s₀.heap.objs.size ≤ C)
  (hs : ∀ b o, b ≠ C → s.heap.get? b = some o → h''.get? b = some o) : Inv X pins σ H { s with heap := h'' } :=
 I.turned (t' := s.toks) hs hC hL (.inr h0) hc hp
theorem m_comp {elt iter tg : Expr} {ifs : List Expr} {ixs : List Nat} {wi : TI} {g : TG} {tt : Addr → Shared → Hp → List Addr → TT} {te : Addr → Shared → Hp → List Addr → TE} {pos : Pos}
  (k : CompOk X own N scope cl) (hcalm : X.calm = true) (hi : PI X tg iter wi)
  (hg : ∀ (C : Addr) (s₀ : Shared) (H₀ : Hp) (ex : List Addr), PG (cxComp X (own ++ N) scope cl C s₀ H₀ ex) tg g) (ht : ∀ (C : Addr) (s₀ : Shared) (H₀ : Hp) (ex : List Addr), PIf (cxComp X (own ++ N) scope cl C s₀ H₀ ex) ifs (tt C s₀ H₀ ex))
  (he : ∀ (C : Addr) (s₀ : Shared) (H₀ : Hp) (ex : List Addr), PE (cxComp X (own ++ N) scope cl C s₀ H₀ ex) elt (te C s₀ H₀ ex))
  (hx : ixs.map (fun i => X.N[i]?) = N.map some)
  (hs : ∀ x, foldedSetIterable iter X.env x = pure x := by intro _; rfl) : PE X (.ListComp elt [⟨tg, iter, ifs, 0⟩] scope pos) (tComp own.length ixs wi g tt te) := by
 intro pins s σ H Q I h
 rw [eval_ListComp]
 refine wpAny_comprehension_free (use := none) rfl hs k.clos k.kind k.names (thn (hi pins s σ H _ I h) fun v s1 h1 => thn h1 fun itv s2 h2 => ?_)
 obtain ⟨it, fp, tn, J, H2, rfl, I2, T, st2, f2, q⟩ := h2
 refine comp_block (RR := fun acc C => compPost (model X.prog X.w) X.A X.xe none (EP X pins σ Q) acc C) k hcalm (ix_of hx) (ix_len hx) hg ht he I2 T st2 f2 q ?_
 intro D C H' s' m J' hn hC hL hfs hp hc h0 q'
 exact ⟨m, hn, fun h'' hs'' => ⟨.ref D, H', inv_but J' hC hL hp hc h0 (fun b o hb e => hs''.extBut b o hb e), rfl, q'⟩⟩
def mSetC (i : Nat) (t : TE) : TS := fun D σ H => t σ H fun x H1 => D.nx (sv σ i x) H1
theorem m_setComp (i : Nat) {elt iter tg : Expr} {ifs : List Expr} {y : Str} {py : Pos} {ixs : List Nat} {wi : TI} {g : TG} {tt : Addr → Shared → Hp → List Addr → TT} {te : Addr → Shared → Hp → List Addr → TE} {pos spos : Pos} (hN : X.N.Nodup)
  (k : CompOk X own N scope cl) (hcalm : X.calm = true) (hi : PI X tg iter wi)
  (hg : ∀ (C : Addr) (s₀ : Shared) (H₀ : Hp) (ex : List Addr), PG (cxComp X (own ++ N) scope cl C s₀ H₀ ex) tg g) (ht : ∀ (C : Addr) (s₀ : Shared) (H₀ : Hp) (ex : List Addr), PIf (cxComp X (own ++ N) scope cl C s₀ H₀ ex) ifs (tt C s₀ H₀ ex))
  (he : ∀ (C : Addr) (s₀ : Shared) (H₀ : Hp) (ex : List Addr), PE (cxComp X (own ++ N) scope cl C s₀ H₀ ex) elt (te C s₀ H₀ ex))
  (hx : ixs.map (fun i => X.N[i]?) = N.map some)
  (hy : X.N[i]? = some y := by rfl) (hyl : X.env.scope.names.lookup y = some .local := by rfl)
  (hsw : swapsWith (.ListComp elt [⟨tg, iter, ifs, 0⟩] scope pos) (some (.Name y py)) spos.line X.env = pure true := by rfl)
  (hs : ∀ x, foldedSetIterable iter X.env x = pure x := by intro _; rfl) : PS X (.Assign [.Name y py] (.ListComp elt [⟨tg, iter, ifs, 0⟩] scope pos) spos) (mSetC i (tComp own.length ixs wi g tt te)) := by
 intro pins s σ H D I h
 rw [exec_Assign_Name_used _ _ _ _ hsw]
 refine wpAny_bind (wpAny_standAt (wpAny_bind ?_))
 show wpAny _ X.A (do let _ ← comprehension (.ListComp elt [⟨tg, iter, ifs, 0⟩] scope pos) scope X.env _ (newList []) false (eval iter X.env) (some (assign (.Name y py) X.env))) _ _ s
 refine wpAny_bind (wpAny_mono (wpAny_comprehension_free (use := some (assign (.Name y py) X.env)) (Q := fun _ s' => SP X pins D .next s') rfl hs k.clos k.kind k.names (thn (hi pins s σ H _ I h) fun v s1 h1 => thn h1 fun itv s2 h2 => ?_)) (fun _ s' hq => wpAny_pure (wpAny_pure hq)) fun _ _ e => e)
 obtain ⟨it, fp, tn, J, H2, rfl, I2, T, st2, f2, q⟩ := h2
 refine comp_block (Q := fun x H1 => D.nx (sv σ i x) H1) (RR := fun acc C => compPost (model X.prog X.w) X.A X.xe (some (assign (.Name y py) X.env)) (fun _ s' => SP X pins D .next s') acc C) k hcalm (ix_of hx) (ix_len hx) hg ht he I2 T st2 f2 q ?_
 intro L C H' s' m J' hn hC hL hfs hp hc h0 q'
 obtain ⟨o, es, ep, ho, hd, hk, hm⟩ := id hn
 have J2 : Inv X (pins ++ [(C, o)]) σ H' s' := J'.pins_of fun p hp' => (List.mem_append.mp hp').elim (fun z => J'.pin p (List.mem_append_right _ z)) fun z => by
  have e : p = (C, o) := by simpa using z
  subst e
  exact ⟨ho, hC, hL, hfs, fun v z => by rw [hd] at z; cases z⟩
 have hg : PG X (.Name y py) (mG i) := m_tg i hN hy (.inl hyl) (.inr hyl)
 show wpAny (model X.prog X.w) X.A (assign (.Name y py) X.env (.ref L)) _ _ s'
 refine thn (hg _ s' σ H' (.ref L) (.ref L) D.nx J2 rfl q') fun _ s3 h3 => ?_
 obtain ⟨σ3, H3, I3, q3⟩ := h3
 have pc := I3.pin (C, o) (List.mem_append_right _ (List.mem_append_right _ (List.mem_singleton.mpr rfl)))
 refine ⟨m, ⟨o, es, ep, pc.1, hd, hk, hm⟩, fun h'' hs'' => ⟨σ3, H3, ?_, q3⟩⟩
 exact inv_but (I3.unpinned) pc.2.1 hL hp hc h0 (fun b ob hb e => hs''.extBut b ob hb e)
end
def CN (n i : Nat) (P : Prop) : Prop := ∃ m' : Nat, m' < n - i ∧ m' = n - (i + 1) ∧ i + 1 ≤ n ∧ P
theorem CN.mk {n i : Nat} {P : Prop} (h : i < n) (p : P) : CN n i P := ⟨n - (i + 1), by omega, rfl, h, p⟩
theorem one_of {τ : St} (h : τ.length = 1) : ∃ t, τ = [t] := by
 match τ, h with
 | [t], _ => exact ⟨t, rfl⟩
theorem two_of {τ : St} (h : τ.length = 2) : ∃ t u, τ = [t, u] := by
 match τ, h with
 | [t, u], _ => exact ⟨t, u, rfl⟩
def mG2 (K : PySem.W.Frag) (i j : Nat) : TG := fun v σ H Q => ∃ a x y, v = .ref a ∧ SqT K H a [x, y] ∧ Q (sv (sv σ i x) j y) H
def CTurn (tt : TT) (te : TE) (σ : St) (D : Addr) (n i : Nat) (ys : List V) (P : List V → Hp → Prop) (H : Hp) : Prop :=
 tt σ H fun b H4 => if b = true then te σ H4 fun y H5 => H5 D = some (.lst ys) ∧ CN n i (P (ys ++ [y]) (upd H5 D (.lst (ys ++ [y])))) else CN n i (P ys H4)
theorem comp_gen {J : It} {n : Nat} {no : Nat} {g : TG} {tt : TT} {te : TE} {ρ : St} {Q : VK} {H1 : Hp} (Pv : Addr → Nat → List V → Hp → Prop) (hsz : n ≤ sizeLine)
  (h0 : ∀ D H2, H1 D = none → Same H1 H2 → H2 D = some (.lst []) → Pv D 0 [] H2)
  (hl : ∀ D i ys H, i ≤ n → Pv D i ys H → H D = some (.lst ys) ∧ ys.length ≤ i)
  (hgo : ∀ D i ys H, i < n → Pv D i ys H → J.go i H) (hstop : ∀ D ys H, Pv D n ys H → J.stop n H)
  (hs : ∀ D i v ys H H' (τ : St), i < n → τ.length = no → Pv D i ys H → J.yld i H v H' → g v (τ ++ ρ) H' fun σ2 H3 => (∃ τ' : St, σ2 = τ' ++ ρ ∧ τ'.length = no) ∧ CTurn tt te σ2 D n i ys (Pv D (i + 1)) H3)
  (hd : ∀ D ys H, Pv D n ys H → Q (.ref D) H) : CompL no g tt te ρ J Q H1 := by
 intro D H2 n2 s2 e2
 refine ⟨fun i m ys H => m = n - i ∧ i ≤ n ∧ Pv D i ys H, ⟨n, by simp, Nat.zero_le _, h0 D H2 n2 s2 e2⟩, ?_⟩
 rintro i m ys H ⟨rfl, hi, p⟩
 obtain ⟨eD, ly⟩ := hl D i ys H hi p
 refine ⟨eD, ?_⟩
 by_cases hlt : i < n
 ·refine .inr ⟨hgo D i ys H hlt p, by omega, fun τ v H'' hτ y => ?_⟩
  exact hs D i v ys H H'' τ hlt hτ p y
 ·have e : i = n := by omega
  subst e
  exact .inl ⟨hstop D ys H p, hd D ys H p⟩
theorem compF_tup {K : PySem.W.Frag} {a : Addr} {xs : List V} {tt : TT} {te : TE} {ρ : St} {Q : VK} {H1 : Hp} (Pv : Addr → Nat → List V → Hp → Prop) (hsz : xs.length ≤ sizeLine)
  (h0 : ∀ D H2, H1 D = none → Same H1 H2 → H2 D = some (.lst []) → Pv D 0 [] H2)
  (hl : ∀ D i ys H, Pv D i ys H → SqT K H a xs ∧ H D = some (.lst ys) ∧ ys.length ≤ i)
  (hs : ∀ D i v ys H, xs[i]? = some v → Pv D i ys H → CTurn tt te (some v :: ρ) D xs.length i ys (Pv D (i + 1)) H)
  (hd : ∀ D ys H, Pv D xs.length ys H → Q (.ref D) H) : CompL 1 (mG 0) tt te ρ (Itt K a) Q H1 :=
 comp_gen Pv hsz h0 (fun D i ys H _ p => (hl D i ys H p).2) (fun D i ys H hi p => ⟨xs, xs[i], (hl D i ys H p).1, by simp [hi]⟩) (fun D ys H p => ⟨xs, (hl D _ ys H p).1, Nat.le_refl _⟩) (fun D i v ys H H' τ hi hτ p y => by
  obtain ⟨t, rfl⟩ := one_of hτ
  obtain ⟨e, y⟩ := y
  subst e
  exact ⟨⟨[some v], rfl, rfl⟩, hs D i v ys _ (y xs (hl D i ys _ p).1) p⟩) hd
theorem compF_lst {K : PySem.W.Frag} {a : Addr} {xs : List V} {tt : TT} {te : TE} {ρ : St} {Q : VK} {H1 : Hp} (Pv : Addr → Nat → List V → Hp → Prop) (hsz : xs.length ≤ sizeLine)
  (h0 : ∀ D H2, H1 D = none → Same H1 H2 → H2 D = some (.lst []) → Pv D 0 [] H2)
  (hl : ∀ D i ys H, Pv D i ys H → SqL K H a xs ∧ H D = some (.lst ys) ∧ ys.length ≤ i)
  (hs : ∀ D i v ys H, xs[i]? = some v → Pv D i ys H → CTurn tt te (some v :: ρ) D xs.length i ys (Pv D (i + 1)) H)
  (hd : ∀ D ys H, Pv D xs.length ys H → Q (.ref D) H) : CompL 1 (mG 0) tt te ρ (Itl K a) Q H1 :=
 comp_gen Pv hsz h0 (fun D i ys H _ p => (hl D i ys H p).2) (fun D i ys H hi p => ⟨xs, xs[i], (hl D i ys H p).1, by simp [hi]⟩) (fun D ys H p => ⟨xs, (hl D _ ys H p).1, Nat.le_refl _⟩) (fun D i v ys H H' τ hi hτ p y => by
  obtain ⟨t, rfl⟩ := one_of hτ
  obtain ⟨e, y⟩ := y
  subst e
  exact ⟨⟨[some v], rfl, rfl⟩, hs D i v ys _ (y xs (hl D i ys _ p).1) p⟩) hd
theorem compF_range {lo : Int} {n : Nat} {tt : TT} {te : TE} {ρ : St} {Q : VK} {H1 : Hp} (Pv : Addr → Nat → List V → Hp → Prop) (hsz : n ≤ sizeLine)
  (h0 : ∀ D H2, H1 D = none → Same H1 H2 → H2 D = some (.lst []) → Pv D 0 [] H2)
  (hl : ∀ D i ys H, Pv D i ys H → H D = some (.lst ys) ∧ ys.length ≤ i)
  (hs : ∀ D i ys H, i < n → Pv D i ys H → CTurn tt te (some (.int (lo + i)) :: ρ) D n i ys (Pv D (i + 1)) H)
  (hd : ∀ D ys H, Pv D n ys H → Q (.ref D) H) : CompL 1 (mG 0) tt te ρ (Itr lo n) Q H1 :=
 comp_gen Pv hsz h0 (fun D i ys H _ p => hl D i ys H p) (fun D i ys H hi p => hi) (fun D ys H p => Nat.le_refl _) (fun D i v ys H H' τ hi hτ p y => by
  obtain ⟨t, rfl⟩ := one_of hτ
  obtain ⟨e, y⟩ := y
  subst e y
  exact ⟨⟨[_], rfl, rfl⟩, hs D i ys _ hi p⟩) hd
theorem comp_tup {K : PySem.W.Frag} {a : Addr} {xs : List V} {te : TE} {ρ : St} {Q : VK} {H1 : Hp} (Pv : Addr → Nat → List V → Hp → Prop) (hsz : xs.length ≤ sizeLine)
  (h0 : ∀ D H2, H1 D = none → Same H1 H2 → H2 D = some (.lst []) → Pv D 0 [] H2)
  (hl : ∀ D i ys H, Pv D i ys H → SqT K H a xs ∧ H D = some (.lst ys) ∧ ys.length = i)
  (hs : ∀ D i v ys H, xs[i]? = some v → Pv D i ys H → te (some v :: ρ) H fun y H3 => H3 D = some (.lst ys) ∧ CN xs.length i (Pv D (i + 1) (ys ++ [y]) (upd H3 D (.lst (ys ++ [y])))))
  (hd : ∀ D ys H, Pv D xs.length ys H → Q (.ref D) H) : CompL 1 (mG 0) tTrue te ρ (Itt K a) Q H1 := compF_tup Pv hsz h0 (fun D i ys H p => let ⟨a1, a2, a3⟩ := hl D i ys H p; ⟨a1, a2, Nat.le_of_eq a3⟩) hs hd
theorem comp_lst {K : PySem.W.Frag} {a : Addr} {xs : List V} {te : TE} {ρ : St} {Q : VK} {H1 : Hp} (Pv : Addr → Nat → List V → Hp → Prop) (hsz : xs.length ≤ sizeLine)
  (h0 : ∀ D H2, H1 D = none → Same H1 H2 → H2 D = some (.lst []) → Pv D 0 [] H2)
  (hl : ∀ D i ys H, Pv D i ys H → SqL K H a xs ∧ H D = some (.lst ys) ∧ ys.length = i)
  (hs : ∀ D i v ys H, xs[i]? = some v → Pv D i ys H → te (some v :: ρ) H fun y H3 => H3 D = some (.lst ys) ∧ CN xs.length i (Pv D (i + 1) (ys ++ [y]) (upd H3 D (.lst (ys ++ [y])))))
  (hd : ∀ D ys H, Pv D xs.length ys H → Q (.ref D) H) : CompL 1 (mG 0) tTrue te ρ (Itl K a) Q H1 := compF_lst Pv hsz h0 (fun D i ys H p => let ⟨a1, a2, a3⟩ := hl D i ys H p; ⟨a1, a2, Nat.le_of_eq a3⟩) hs hd
theorem comp_range {lo : Int} {n : Nat} {te : TE} {ρ : St} {Q : VK} {H1 : Hp} (Pv : Addr → Nat → List V → Hp → Prop) (hsz : n ≤ sizeLine)
  (h0 : ∀ D H2, H1 D = none → Same H1 H2 → H2 D = some (.lst []) → Pv D 0 [] H2)
  (hl : ∀ D i ys H, Pv D i ys H → H D = some (.lst ys) ∧ ys.length = i)
  (hs : ∀ D i ys H, i < n → Pv D i ys H → te (some (.int (lo + i)) :: ρ) H fun y H3 => H3 D = some (.lst ys) ∧ CN n i (Pv D (i + 1) (ys ++ [y]) (upd H3 D (.lst (ys ++ [y])))))
  (hd : ∀ D ys H, Pv D n ys H → Q (.ref D) H) : CompL 1 (mG 0) tTrue te ρ (Itr lo n) Q H1 := compF_range Pv hsz h0 (fun D i ys H p => let ⟨a1, a2⟩ := hl D i ys H p; ⟨a1, Nat.le_of_eq a2⟩) hs hd
section
variable {X : Cx} {N : List Str} {scope : Scope} {cl : List (Str × Addr)}
theorem pg_own1 {x : Str} {px : Pos} (k : CompOk X [x] N scope cl) (C : Addr) (s₀ : Shared) (H₀ : Hp) (ex : List Addr) : PG (cxComp X ([x] ++ N) scope cl C s₀ H₀ ex) (.Name x px) (mG 0) :=
 m_tg 0 k.nd rfl (.inl (lookup_relabel_local (k.mine x (List.mem_singleton.mpr rfl)))) (.inr (lookup_relabel_local (k.mine x (List.mem_singleton.mpr rfl))))
end
section
variable {X : Cx}
theorem m_tg2 (i j : Nat) {x y : Str} {p p' pos : Pos} {k : Nat} (hc : X.calm = true) (hN : X.N.Nodup) (hi : X.N[i]? = some x := by rfl) (hj : X.N[j]? = some y := by rfl) (hx : Loc X.env.scope x := by first | exact Or.inl rfl | exact Or.inr rfl) (hy : Loc X.env.scope y := by first | exact Or.inl rfl | exact Or.inr rfl)
  (hf : X.fn x = true ∨ X.env.scope.names.lookup x = some .local := by first | exact .inl rfl | exact .inr rfl) (hf' : X.fn y = true ∨ X.env.scope.names.lookup y = some .local := by first | exact .inl rfl | exact .inr rfl)
  (hn : (assignEach [.Name x p, .Name y p'] X.env).length = 2 := by rfl) (hst : (assignEach [.Name x p, .Name y p'] X.env).findIdx? (·.1) = none := by rfl)
  (hs : (assignEach [.Name x p, .Name y p'] X.env).map (·.2) = assign (.Name x p) X.env :: (assignEach [.Name y p'] X.env).map (·.2) := by rfl) (hs' : (assignEach [.Name y p'] X.env).map (·.2) = assign (.Name y p') X.env :: (assignEach [] X.env).map (·.2) := by rfl) :
  PG X (.Tuple [.Name x p, .Name y p'] k pos) (mG2 X.K i j) := by
 intro pins s σ H v u Q I r h
 obtain ⟨a, x1, y1, rfl, hq, q⟩ := h
 exact pg_tup hc (pgs_cons (m_tg i hN hi hx hf) (pgs_cons (m_tg j hN hj hy hf') pgs_nil hs') hs) hn hst pins s σ H _ u Q I r ⟨a, _, rfl, hq, rfl, x1, _, rfl, y1, _, rfl, rfl, q⟩
variable {N : List Str} {scope : Scope} {cl : List (Str × Addr)} {elt iter : Expr} {ifs : List Expr} {ixs : List Nat} {wi : TI} {tt : Addr → Shared → Hp → List Addr → TT} {te : Addr → Shared → Hp → List Addr → TE} {pos px py pp spos pt : Pos} {x y z : Str} {kk : Nat}
theorem pg_own2 (k : CompOk X [x, y] N scope cl) (hc : X.calm = true) (C : Addr) (s₀ : Shared) (H₀ : Hp) (ex : List Addr) : PG (cxComp X ([x, y] ++ N) scope cl C s₀ H₀ ex) (.Tuple [.Name x px, .Name y py] kk pp) (mG2 X.K 0 1) :=
 m_tg2 (X := cxComp X ([x, y] ++ N) scope cl C s₀ H₀ ex) 0 1 hc k.nd rfl rfl (.inl (lookup_relabel_local (k.mine x (by simp)))) (.inl (lookup_relabel_local (k.mine y (by simp)))) (.inr (lookup_relabel_local (k.mine x (by simp)))) (.inr (lookup_relabel_local (k.mine y (by simp))))
theorem m_compN (k : CompOk X [x] N scope cl) (hc : X.calm = true) (hi : PI X (.Name x px) iter wi) (ht : ∀ (C : Addr) (s₀ : Shared) (H₀ : Hp) (ex : List Addr), PIf (cxComp X ([x] ++ N) scope cl C s₀ H₀ ex) ifs (tt C s₀ H₀ ex))
  (he : ∀ (C : Addr) (s₀ : Shared) (H₀ : Hp) (ex : List Addr), PE (cxComp X ([x] ++ N) scope cl C s₀ H₀ ex) elt (te C s₀ H₀ ex)) (hx : ixs.map (fun i => X.N[i]?) = N.map some) (hs : ∀ x, foldedSetIterable iter X.env x = pure x := by intro _; rfl) :
  PE X (.ListComp elt [⟨.Name x px, iter, ifs, 0⟩] scope pos) (tComp 1 ixs wi (mG 0) tt te) := m_comp k hc hi (pg_own1 k) ht he hx hs
theorem m_compP (k : CompOk X [x, y] N scope cl) (hc : X.calm = true) (hi : PI X (.Tuple [.Name x px, .Name y py] kk pp) iter wi) (ht : ∀ (C : Addr) (s₀ : Shared) (H₀ : Hp) (ex : List Addr), PIf (cxComp X ([x, y] ++ N) scope cl C s₀ H₀ ex) ifs (tt C s₀ H₀ ex))
  (he : ∀ (C : Addr) (s₀ : Shared) (H₀ : Hp) (ex : List Addr), PE (cxComp X ([x, y] ++ N) scope cl C s₀ H₀ ex) elt (te C s₀ H₀ ex)) (hx : ixs.map (fun i => X.N[i]?) = N.map some) (hs : ∀ x, foldedSetIterable iter X.env x = pure x := by intro _; rfl) :
  PE X (.ListComp elt [⟨.Tuple [.Name x px, .Name y py] kk pp, iter, ifs, 0⟩] scope pos) (tComp 2 ixs wi (mG2 X.K 0 1) tt te) := m_comp k hc hi (pg_own2 k hc) ht he hx hs
theorem m_setCompN (i : Nat) (hN : X.N.Nodup) (k : CompOk X [x] N scope cl) (hc : X.calm = true) (hi : PI X (.Name x px) iter wi) (ht : ∀ (C : Addr) (s₀ : Shared) (H₀ : Hp) (ex : List Addr), PIf (cxComp X ([x] ++ N) scope cl C s₀ H₀ ex) ifs (tt C s₀ H₀ ex))
  (he : ∀ (C : Addr) (s₀ : Shared) (H₀ : Hp) (ex : List Addr), PE (cxComp X ([x] ++ N) scope cl C s₀ H₀ ex) elt (te C s₀ H₀ ex)) (hx : ixs.map (fun i => X.N[i]?) = N.map some) (hy : X.N[i]? = some z := by rfl) (hyl : X.env.scope.names.lookup z = some .local := by rfl)
  (hsw : swapsWith (.ListComp elt [⟨.Name x px, iter, ifs, 0⟩] scope pos) (some (.Name z pt)) spos.line X.env = pure true := by rfl) (hs : ∀ x, foldedSetIterable iter X.env x = pure x := by intro _; rfl) :
  PS X (.Assign [.Name z pt] (.ListComp elt [⟨.Name x px, iter, ifs, 0⟩] scope pos) spos) (mSetC i (tComp 1 ixs wi (mG 0) tt te)) := m_setComp i hN k hc hi (pg_own1 k) ht he hx hy hyl hsw hs
end
end My
namespace My
open PySem PySem.Spec L2
open PyProof.Rows hiding St
section
variable {X : Cx}
theorem vals_bools : ∀ {bs : List Bool} {us : List Value}, Vals (bs.map V.bl) us → us = bs.map Value.bool
 | [], us, r => by cases r; rfl
 | b :: bs, us, r => by
  rw [List.map_cons] at r
  cases r with
  | cons r1 r2 =>
   have e : _ = Value.bool b := r1
   rw [e, vals_bools r2]
   rfl
def mMM (gi : Int → Int → Int) (gb : List Bool → Bool) (K : PySem.W.Frag) : List V → Hp → VK → Prop := fun xs H Q => match xs with
 | [.int i, .int j] => Q (.int (gi i j)) H
 | [.ref p] => ∃ bs : List Bool, SqL K H p (bs.map V.bl) ∧ 0 < bs.length ∧ Q (.bl (gb bs)) H
 | _ => False
theorem q_mmi {gi : Int → Int → Int} {gb : List Bool → Bool} {K : PySem.W.Frag} {H : Hp} {Q : VK} {i j : Int} : mMM gi gb K [.int i, .int j] H Q = Q (.int (gi i j)) H := rfl
theorem q_mmr {gi : Int → Int → Int} {gb : List Bool → Bool} {K : PySem.W.Frag} {H : Hp} {Q : VK} {p : Addr} : mMM gi gb K [.ref p] H Q = (∃ bs : List Bool, SqL K H p (bs.map V.bl) ∧ 0 < bs.length ∧ Q (.bl (gb bs)) H) := rfl
theorem vals_strs : ∀ {ss : List Str} {us : List Value}, Vals (ss.map V.str) us → StrsAre us ss
 | [], us, r => by cases r; exact .nil
 | x :: ss, us, r => by
  rw [List.map_cons] at r
  cases r with
  | cons r1 r2 =>
   obtain ⟨t, rfl⟩ := r1
   exact .cons x t (vals_strs r2)
theorem strs_vals : ∀ {us : List Value} {ss : List Str}, StrsAre us ss → Vals (ss.map V.str) us
 | _, _, .nil => .nil
 | _, _, .cons x t h => .cons ⟨t, rfl⟩ (strs_vals h)
end
end My
namespace My
open PySem PySem.Spec L2
open PyProof.Rows hiding St
theorem bt_len : bootBuiltins "len" = some (.builtin "len") := by decide +kernel
theorem bt_sorted : bootBuiltins "sorted" = some (.builtin "sorted") := by decide +kernel
theorem bt_isinstance : bootBuiltins "isinstance" = some (.builtin "isinstance") := by decide +kernel
theorem bt_list : bootBuiltins "list" = some (.type "list") := by decide +kernel
theorem bt_tuple : bootBuiltins "tuple" = some (.type "tuple") := by decide +kernel
theorem bt_set : bootBuiltins "set" = some (.type "set") := by decide +kernel
theorem bt_int : bootBuiltins "int" = some (.type "int") := by decide +kernel
theorem bt_bool : bootBuiltins "bool" = some (.type "bool") := by decide +kernel
theorem w01 : decide (Str.ofString "letter" = Str.ofString "not") = false := by decide +kernel
theorem w02 : decide (Str.ofString "letter" = Str.ofString "and") = false := by decide +kernel
theorem w03 : decide (Str.ofString "letter" = Str.ofString "or") = false := by decide +kernel
theorem w04 : decide (Str.ofString "letter" = Str.ofString "if") = false := by decide +kernel
theorem w10 : decide (Str.ofString "not" = Str.ofString "letter") = false := by decide +kernel
theorem w12 : decide (Str.ofString "not" = Str.ofString "and") = false := by decide +kernel
theorem w13 : decide (Str.ofString "not" = Str.ofString "or") = false := by decide +kernel
theorem w14 : decide (Str.ofString "not" = Str.ofString "if") = false := by decide +kernel
theorem w20 : decide (Str.ofString "and" = Str.ofString "letter") = false := by decide +kernel
theorem w21 : decide (Str.ofString "and" = Str.ofString "not") = false := by decide +kernel
theorem w23 : decide (Str.ofString "and" = Str.ofString "or") = false := by decide +kernel
theorem w24 : decide (Str.ofString "and" = Str.ofString "if") = false := by decide +kernel
theorem w30 : decide (Str.ofString "or" = Str.ofString "letter") = false := by decide +kernel
theorem w31 : decide (Str.ofString "or" = Str.ofString "not") = false := by decide +kernel
theorem w32 : decide (Str.ofString "or" = Str.ofString "and") = false := by decide +kernel
theorem w34 : decide (Str.ofString "or" = Str.ofString "if") = false := by decide +kernel
theorem w40 : decide (Str.ofString "if" = Str.ofString "letter") = false := by decide +kernel
theorem w41 : decide (Str.ofString "if" = Str.ofString "not") = false := by decide +kernel
theorem w42 : decide (Str.ofString "if" = Str.ofString "and") = false := by decide +kernel
theorem w43 : decide (Str.ofString "if" = Str.ofString "or") = false := by decide +kernel
inductive Op2 | con | dis | imp
def Op2.word : Op2 → Str
 | .con => "and"
 | .dis => "or"
 | .imp => "if"
def Op2.so : Op2 → Bool → Bool → Bool
 | .con, a, b => a && b
 | .dis, a, b => a || b
 | .imp, a, b => !a || b
inductive Say
 | letter (x : Str)
 | neg (s : Say)
 | bin (o : Op2) (s t : Say)
def Say.pieces : Say → Nat
 | .letter _ => 1
 | .neg s => s.pieces + 1
 | .bin _ s t => s.pieces + t.pieces + 1
theorem Say.pieces_pos : ∀ s : Say, 0 < s.pieces
 | .letter _ => Nat.one_pos
 | .neg _ => Nat.succ_pos _
 | .bin _ _ _ => Nat.succ_pos _
def Say.letters : Say → List Str
 | .letter x => [x]
 | .neg s => s.letters
 | .bin _ s t => s.letters ++ t.letters
def Say.so (hs : List Str) : Say → Bool
 | .letter x => hs.any fun y => y == x
 | .neg s => !s.so hs
 | .bin o s t => o.so (s.so hs) (t.so hs)
def SayAt (K : PySem.W.Frag) (H : Hp) : V → Say → Prop
 | v, .letter x => ∃ a, v = .ref a ∧ SqT K H a [.str "letter", .str x]
 | v, .neg s => ∃ a u, v = .ref a ∧ SqT K H a [.str "not", u] ∧ SayAt K H u s
 | v, .bin o s t => ∃ a u u', v = .ref a ∧ SqT K H a [.str o.word, u, u'] ∧ SayAt K H u s ∧ SayAt K H u' t
theorem SayAt.mono {K : PySem.W.Frag} {H H' : Hp} (t : Tups H H') : ∀ {s : Say} {v : V}, SayAt K H v s → SayAt K H' v s
 | .letter x, v, ⟨a, e, h⟩ => ⟨a, e, t.sqT h⟩
 | .neg s, v, ⟨a, u, e, h, h1⟩ => ⟨a, u, e, t.sqT h, SayAt.mono t h1⟩
 | .bin o s r, v, ⟨a, u, u', e, h, h1, h2⟩ => ⟨a, u, u', e, t.sqT h, SayAt.mono t h1, SayAt.mono t h2⟩
theorem all_strs (hs : List Str) : (hs.map V.str).all flatV = true := by
 rw [List.all_eq_true]
 intro x hx
 obtain ⟨y, _, rfl⟩ := List.mem_map.mp hx
 rfl
theorem in_strs (x : Str) (hs : List Str) : inV (.str x) (hs.map V.str) = hs.any fun y => y == x := by
 unfold inV
 rw [List.any_map]
 rfl
theorem sok_iff (x : Str) : PyData.strOk x = true ↔ ∀ c ∈ x.cps.toList, c < 0x110000 := by
 unfold PyData.strOk
 rw [← Array.all_toList, List.all_eq_true]
 exact ⟨fun h c hc => of_decide_eq_true (h c hc), fun h c hc => decide_eq_true (h c hc)⟩
theorem sok_app {x y : Str} (h1 : PyData.strOk x = true) (h2 : PyData.strOk y = true) : PyData.strOk (x ++ y) = true := by
 rw [sok_iff] at h1 h2 ⊢
 intro c hc
 have hc' : c ∈ (x.cps ++ y.cps).toList := hc
 rw [Array.toList_append] at hc'
 rcases List.mem_append.mp hc' with z | z
 ·exact h1 c z
 ·exact h2 c z
theorem sok_one {x : Str} {c : Nat} (h1 : PyData.strOk x = true) (h : c ∈ x.cps.toList) : PyData.strOk ⟨#[c]⟩ = true := by
 rw [sok_iff] at h1 ⊢
 intro d hd
 have : d = c := by simpa using hd
 rw [this]
 exact h1 c h
theorem sok_slice {x : Str} (h1 : PyData.strOk x = true) (l u : Option Int) : PyData.strOk (Txt.slice x l u) = true := by
 unfold Txt.slice
 split
 ·exact h1
 ·rw [sok_iff] at h1 ⊢
  intro c hc
  have hc' : c ∈ List.filterMap (fun i => x.cps[i]?) (Builtin.Str.strSliceIndices l u 1 x.length) := by simpa using hc
  obtain ⟨i, _, hi⟩ := List.mem_filterMap.mp hc'
  exact h1 c (by
   have := Array.mem_of_getElem? hi
   simpa using this)
def Nm (x : Str) : Prop := x.length ≤ 20 ∧ PyData.strOk x = true
theorem eqv_self {d : PyData} (h : SeqAt.shaped d = true) : PyData.eqv d d = true := SeqAt.eqv_refl d (SeqAt.canLay_of_shaped h)
def heldOf : Int → List Str → List Str
 | _, [] => []
 | n, x :: r => if n % 2 = 1 then x :: heldOf (n / 2) r else heldOf (n / 2) r
theorem heldOf_len : ∀ (n : Int) (xs : List Str), (heldOf n xs).length ≤ xs.length
 | _, [] => Nat.le_refl _
 | n, x :: r => by
  unfold heldOf
  have := heldOf_len (n / 2) r
  split <;> simp <;> omega
theorem nothing_left {P : Program} {w : World} {K : PySem.W.Frag} {mg : Str → Option Value} {base : Heap} {x : Str} {st : Stmt} {ps : List Str} {sp : Sp} (F : Def K mg x st ps) (no : ∀ vs H Q E, ¬ sp vs H Q E) : Callee P w K mg base 0 x ps sp := by
 obtain ⟨f, fd, F, b, hm⟩ := F.ex
 exact ⟨f, fd, ⟨fun vs H Q E h => absurd h (no vs H Q E), fun A outer s H args us vs Q E _ _ _ _ h => absurd h (no vs H Q E)⟩, .all b, F.kp, hm⟩
end My
namespace My
open PySem
namespace Tb
open PySem.SetTable
def av (m : Nat) (p : Probe) : Probe :=
 if p.more > 0 then { p with j := p.j + 1, more := p.more - 1 } else
 { p with j := (leap m p.i p.perturb).1, more := runEnd m (leap m p.i p.perturb).1 - (leap m p.i p.perturb).1, i := (leap m p.i p.perturb).1, perturb := (leap m p.i p.perturb).2 }
theorem advance_eq (t : SetTable) (p : Probe) : t.advance p = av t.mask p := rfl
def itr (m : Nat) : Nat → Probe → Probe
 | 0, p => p
 | k + 1, p => itr m k (av m p)
theorem itr_add (m : Nat) : ∀ (a b : Nat) (p : Probe), itr m (a + b) p = itr m b (itr m a p)
 | 0, b, p => by rw [Nat.zero_add]; rfl
 | a + 1, b, p => by
  rw [show a + 1 + b = (a + b) + 1 by omega]
  exact itr_add m a b (av m p)
theorem itr_succ (m k : Nat) (p : Probe) : itr m (k + 1) p = av m (itr m k p) := itr_add m k 1 p
def hd (m i p : Nat) : Probe := { j := i, more := runEnd m i - i, i := i, perturb := p, dummy := none }
def st0 (m : Nat) (h : Int) : Probe := hd m (bits h % (m + 1)) (bits h)
theorem run_in (m : Nat) : ∀ (r j i p : Nat) (d : Option Nat), itr m r { j := j, more := r, i := i, perturb := p, dummy := d } = { j := j + r, more := 0, i := i, perturb := p, dummy := d }
 | 0, _, _, _, _ => rfl
 | r + 1, j, i, p, d => by
  show itr m r (av m { j := j, more := r + 1, i := i, perturb := p, dummy := d }) = _
  have e : av m { j := j, more := r + 1, i := i, perturb := p, dummy := d } = { j := j + 1, more := r, i := i, perturb := p, dummy := d } := by
   unfold av; simp
  rw [e, run_in m r, show j + 1 + r = j + (r + 1) by omega]
theorem run_out (m i p : Nat) : itr m (runEnd m i - i + 1) (hd m i p) = hd m (leap m i p).1 (leap m i p).2 := by
 rw [itr_succ]
 unfold hd
 rw [run_in]
 rfl
theorem run_len (m i : Nat) : runEnd m i - i + 1 ≤ 10 := by
 unfold runEnd
 split <;> omega
def lp (m : Nat) : Nat → Nat × Nat → Nat × Nat
 | 0, x => x
 | n + 1, x => lp m n (leap m x.1 x.2)
theorem lp_run (m : Nat) : ∀ (n : Nat) (x : Nat × Nat), ∃ k, k ≤ 10 * n ∧ itr m k (hd m x.1 x.2) = hd m (lp m n x).1 (lp m n x).2
 | 0, x => ⟨0, Nat.le_refl _, rfl⟩
 | n + 1, x => by
  obtain ⟨k, hk, e⟩ := lp_run m n (leap m x.1 x.2)
  refine ⟨runEnd m x.1 - x.1 + 1 + k, by have := run_len m x.1; omega, ?_⟩
  rw [itr_add, run_out]
  exact e
theorem lp_add (m : Nat) : ∀ (a b : Nat) (x : Nat × Nat), lp m (a + b) x = lp m b (lp m a x)
 | 0, b, x => by rw [Nat.zero_add]; rfl
 | a + 1, b, x => by
  rw [show a + 1 + b = (a + b) + 1 by omega]
  exact lp_add m a b (leap m x.1 x.2)
theorem lp_snd (m : Nat) : ∀ (n : Nat) (x : Nat × Nat), (lp m n x).2 = x.2 / 32 ^ n
 | 0, x => by simp [lp]
 | n + 1, x => by
  show (lp m n (leap m x.1 x.2)).2 = _
  rw [lp_snd m n]
  show x.2 / 32 / 32 ^ n = _
  rw [Nat.div_div_eq_div_mul, Nat.pow_succ, Nat.mul_comm]
theorem bits_lt (h : Int) : bits h < 2 ^ 64 := by
 unfold bits
 have h1 : 0 ≤ h % (2 ^ 64 : Int) := Int.emod_nonneg _ (by decide)
 have h2 : h % (2 ^ 64 : Int) < 2 ^ 64 := Int.emod_lt_of_pos _ (by decide)
 omega
def cy (m : Nat) : Nat → Nat → Nat
 | 0, i => i
 | n + 1, i => cy m n ((i * 5 + 1) % (m + 1))
theorem cy_add (m : Nat) : ∀ (a b i : Nat), cy m (a + b) i = cy m b (cy m a i)
 | 0, b, i => by rw [Nat.zero_add]; rfl
 | a + 1, b, i => by
  rw [show a + 1 + b = (a + b) + 1 by omega]
  exact cy_add m a b _
theorem lp_cy (m : Nat) : ∀ (n i : Nat), lp m n (i, 0) = (cy m n i, 0)
 | 0, _ => rfl
 | n + 1, i => by
  show lp m n (leap m i 0) = _
  have e : leap m i 0 = ((i * 5 + 1) % (m + 1), 0) := by unfold leap; simp
  rw [e, lp_cy m n]
  rfl
theorem lp_le (m : Nat) (n : Nat) (x : Nat × Nat) : (lp m (n + 1) x).1 ≤ m := by
 rw [lp_add]
 show (leap m (lp m n x).1 (lp m n x).2).1 ≤ m
 unfold leap
 exact Nat.le_of_lt_succ (Nat.mod_lt _ (Nat.succ_pos m))
def Mk (m : Nat) : Prop := m = 7 ∨ m = 31 ∨ m = 127
def orbB (m : Nat) : Bool := (cy m (m + 1) 0 == 0) && (List.range (m + 1)).all fun e => (List.range (m + 1)).any fun a => cy m a 0 == e
theorem orb7 : orbB 7 = true := by decide +kernel
theorem orb {m : Nat} (hm : Mk m) : cy m (m + 1) 0 = 0 ∧ ∀ e, e ≤ m → ∃ a, a ≤ m ∧ cy m a 0 = e := by
 have h : orbB m = true := by rcases hm with rfl | rfl | rfl <;> first | exact orb7 | exact orb31 | exact orb127
 unfold orbB at h
 rw [Bool.and_eq_true, List.all_eq_true] at h
 refine ⟨by simpa using h.1, fun e he => ?_⟩
 have := h.2 e (List.mem_range.mpr (by omega))
 rw [List.any_eq_true] at this
 obtain ⟨a, ha, e'⟩ := this
 exact ⟨a, by have := List.mem_range.mp ha; omega, by simpa using e'⟩
theorem cover {m : Nat} (hm : Mk m) {i e : Nat} (hi : i ≤ m) (he : e ≤ m) : ∃ k, k ≤ m ∧ cy m k i = e := by
 obtain ⟨h0, h1⟩ := orb hm
 obtain ⟨a, ha, rfl⟩ := h1 i hi
 obtain ⟨b, hb, rfl⟩ := h1 e he
 by_cases hab : a ≤ b
 ·refine ⟨b - a, by omega, ?_⟩
  rw [← cy_add, show a + (b - a) = b by omega]
 ·refine ⟨b + (m + 1) - a, by omega, ?_⟩
  rw [← cy_add, show a + (b + (m + 1) - a) = (m + 1) + b by omega, cy_add, h0]
def pos (m : Nat) (h : Int) (k : Nat) : Nat := (itr m k (st0 m h)).j
theorem reach {m : Nat} (hm : Mk m) (h : Int) {e : Nat} (he : e ≤ m) : ∃ k, k ≤ 10 * (m + 13) ∧ pos m h k = e := by
 have h13 : lp m 13 (bits h % (m + 1), bits h) = ((lp m 13 (bits h % (m + 1), bits h)).1, 0) := by
  have : (lp m 13 (bits h % (m + 1), bits h)).2 = 0 := by
   rw [lp_snd]
   exact Nat.div_eq_of_lt (Nat.lt_trans (bits_lt h) (by decide))
  exact Prod.ext rfl this
 obtain ⟨k, hk, ek⟩ := cover hm (lp_le m 12 (bits h % (m + 1), bits h)) he
 obtain ⟨r, hr, er⟩ := lp_run m (13 + k) (bits h % (m + 1), bits h)
 refine ⟨r, by omega, ?_⟩
 unfold pos st0
 rw [er, lp_add, h13, lp_cy]
 exact ek
theorem least {P : Nat → Prop} : ∀ n : Nat, P n → ∃ k, k ≤ n ∧ P k ∧ ∀ k', k' < k → ¬ P k' := by
 intro n
 induction n using Nat.strongRecOn with
 | _ n ih =>
  intro h
  by_cases hc : ∃ k', k' < n ∧ P k'
  ·obtain ⟨k', hk, hp⟩ := hc
   obtain ⟨k, h1, h2, h3⟩ := ih k' hk hp
   exact ⟨k, by omega, h2, h3⟩
  ·exact ⟨n, Nat.le_refl _, h, fun k' hk hp => hc ⟨k', hk, hp⟩⟩
theorem pigeon : ∀ (n : Nat) (l : List Nat), (∀ e, e < n → e ∈ l) → n ≤ l.length
 | 0, _, _ => Nat.zero_le _
 | n + 1, l, h => by
  have hn := h n (Nat.lt_succ_self n)
  have h1 := pigeon n (l.erase n) fun e he => (List.mem_erase_of_ne (by omega)).mpr (h e (by omega))
  rw [List.length_erase_of_mem hn] at h1
  have := List.length_pos_of_mem hn
  omega
theorem first_free {m : Nat} (hm : Mk m) (h : Int) {l : List Nat} (hl : l.length ≤ m) : ∃ K, K ≤ 10 * (m + 13) ∧ pos m h K ∉ l ∧ ∀ k, k < K → pos m h k ∈ l := by
 have hex : ∃ e, e ≤ m ∧ e ∉ l := by
  by_cases hc : ∃ e, e ≤ m ∧ e ∉ l
  ·exact hc
  ·exfalso
   have := pigeon (m + 1) l fun e he => Classical.byContradiction fun hn => hc ⟨e, by omega, hn⟩
   omega
 obtain ⟨e, he, hn⟩ := hex
 obtain ⟨k, hk, ek⟩ := reach hm h he
 obtain ⟨K, h1, h2, h3⟩ := least (P := fun k => pos m h k ∉ l) k (by rw [ek]; exact hn)
 exact ⟨K, by omega, h2, fun k' hk' => Classical.byContradiction fun hc => h3 k' hk' hc⟩
theorem getD_mono {l : List Nat} (hr : l.Pairwise (· < ·)) {i i' d : Nat} (h : i < i') (h' : i' < l.length) : l.toArray.getD i d < l.toArray.getD i' d := by
 have := List.pairwise_iff_getElem.mp hr i i' (by omega) h' h
 simpa [Array.getD, h', show i < l.length by omega] using this
theorem below_go {l : List Nat} (hr : l.Pairwise (· < ·)) (j : Nat) : ∀ (fuel lo hi : Nat), hi ≤ l.length → lo ≤ hi → hi - lo ≤ fuel → (∀ i, i < lo → l.toArray.getD i j < j) → (∀ i, hi ≤ i → i < l.length → j ≤ l.toArray.getD i j) →
  below.go l.toArray j fuel lo hi ≤ l.length ∧ (∀ i, i < below.go l.toArray j fuel lo hi → l.toArray.getD i j < j) ∧ (∀ i, below.go l.toArray j fuel lo hi ≤ i → i < l.length → j ≤ l.toArray.getD i j)
 | 0, lo, hi, h1, h2, h3, h4, h5 => by
  unfold below.go
  exact ⟨by omega, h4, fun i hi' => h5 i (by omega)⟩
 | f + 1, lo, hi, h1, h2, h3, h4, h5 => by
  unfold below.go
  by_cases hlt : lo < hi
  ·rw [if_pos hlt]
   dsimp only
   by_cases hc : l.toArray.getD ((lo + hi) / 2) j < j
   ·rw [if_pos hc]
    refine below_go hr j f _ _ h1 (by omega) (by omega) (fun i hi' => ?_) h5
    by_cases e : i = (lo + hi) / 2
    ·rw [e]; exact hc
    ·exact Nat.lt_trans (getD_mono hr (by omega) (by omega)) hc
   ·rw [if_neg hc]
    refine below_go hr j f _ _ (by omega) (by omega) (by omega) h4 (fun i hi' hl => ?_)
    by_cases e : i = (lo + hi) / 2
    ·rw [e]; exact Nat.not_lt.mp hc
    ·exact Nat.le_trans (Nat.not_lt.mp hc) (Nat.le_of_lt (getD_mono hr (by omega) hl))
  ·rw [if_neg hlt]
   exact ⟨by omega, h4, fun i hi' => h5 i (by omega)⟩
theorem below_spec {l : List Nat} (hr : l.Pairwise (· < ·)) (j : Nat) : below l.toArray j ≤ l.length ∧ (∀ i, i < below l.toArray j → l.toArray.getD i j < j) ∧ (∀ i, below l.toArray j ≤ i → i < l.length → j ≤ l.toArray.getD i j) := by
 unfold below
 have hs : l.toArray.size = l.length := List.size_toArray
 rw [hs]
 exact below_go hr j l.length 0 l.length (Nat.le_refl _) (Nat.zero_le _) (by omega) (fun i hi => by omega) (fun i h1 h2 => by omega)
theorem getD_at {l : List Nat} {i d : Nat} (h : i < l.length) : l.toArray.getD i d = l[i] := by simp [Array.getD, h]
theorem below_mem {l : List Nat} (hr : l.Pairwise (· < ·)) {j : Nat} (h : j ∈ l) : l[below l.toArray j]? = some j := by
 obtain ⟨b1, b2, b3⟩ := below_spec hr j
 obtain ⟨i, hi, e⟩ := List.getElem_of_mem h
 have h1 : ¬ i < below l.toArray j := fun z => by
  have := b2 i z
  rw [getD_at hi, e] at this
  omega
 have h2 : ¬ below l.toArray j < i := fun z => by
  have h3 := b3 (below l.toArray j) (Nat.le_refl _) (by omega)
  have h4 := getD_mono (d := j) hr z hi
  rw [getD_at hi, e] at h4
  omega
 have : below l.toArray j = i := by omega
 rw [this, List.getElem?_eq_getElem hi, e]
theorem below_take {l : List Nat} (hr : l.Pairwise (· < ·)) {j : Nat} : (∀ x ∈ l.take (below l.toArray j), x < j) ∧ (∀ x ∈ l.drop (below l.toArray j), j ≤ x) := by
 obtain ⟨b1, b2, b3⟩ := below_spec hr j
 constructor
 ·intro x hx
  obtain ⟨i, hi, e⟩ := List.getElem_of_mem hx
  rw [List.length_take] at hi
  have := b2 i (by omega)
  rw [getD_at (by omega)] at this
  rw [List.getElem_take] at e
  omega
 ·intro x hx
  obtain ⟨i, hi, e⟩ := List.getElem_of_mem hx
  rw [List.length_drop] at hi
  have := b3 (below l.toArray j + i) (by omega) (by omega)
  rw [getD_at (by omega)] at this
  rw [List.getElem_drop] at e
  omega
theorem up_insert {l : List Nat} (hr : l.Pairwise (· < ·)) {j : Nat} (hj : j ∉ l) : (l.take (below l.toArray j) ++ j :: l.drop (below l.toArray j)).Pairwise (· < ·) := by
 obtain ⟨h1, h2⟩ := below_take hr (j := j)
 have hd : ∀ x ∈ l.drop (below l.toArray j), j < x := fun x hx => by
  have := h2 x hx
  have hne : x ≠ j := fun e => hj (e ▸ List.mem_of_mem_drop hx)
  omega
 refine List.pairwise_append.mpr ⟨hr.sublist (List.take_sublist _ _), List.pairwise_cons.mpr ⟨hd, hr.sublist (List.drop_sublist _ _)⟩, fun a ha b hb => ?_⟩
 rcases List.mem_cons.mp hb with rfl | hb
 ·exact h1 a ha
 ·exact Nat.lt_trans (h1 a ha) (hd b hb)
end Tb
end My
namespace My
open PySem
namespace Tb
open PySem.SetTable
structure Rep (L : List (Nat × (Int × Value))) (es : Array (Int × Value)) (t : SetTable) : Prop where
 es : es = (L.map (·.2)).toArray
 pl : t.place = (L.map (·.1)).toArray
 dm : t.dummies = #[]
 up : (L.map (·.1)).Pairwise (· < ·)
 pa : ∀ x ∈ L, ∃ k, pos t.mask x.2.1 k = x.1 ∧ ∀ k', k' < k → pos t.mask x.2.1 k' ∈ L.map (·.1)
 mz : Mk t.mask
 fl : L.length ≤ t.mask
variable {L : List (Nat × (Int × Value))} {es : Array (Int × Value)} {t : SetTable}
theorem Rep.fits (r : Rep L es t) : t.fits es.size = true := by
 unfold SetTable.fits SetTable.fill
 rw [r.pl, r.es, r.dm]
 simpa using r.fl
theorem Rep.odd (r : Rep L es t) : t.gaveWay = false := by
 unfold SetTable.gaveWay
 rcases r.mz with e | e | e <;> rw [e] <;> rfl
theorem has_nil (j : Nat) : has #[] j = false := by unfold has; simp
theorem Rep.slot_live (r : Rep L es t) {j : Nat} (h : j ∈ L.map (·.1)) : ∃ i e, t.slot j = .live i ∧ L[i]? = some (j, e) ∧ es[i]? = some e := by
 have hb := below_mem r.up h
 have hp : t.place[below t.place j]? = some j := by rw [r.pl]; simpa using hb
 rw [List.getElem?_map] at hb
 cases hx : L[below (L.map (·.1)).toArray j]? with
 | none => rw [hx] at hb; cases hb
 | some x =>
  rw [hx] at hb
  have e1 : x.1 = j := by simpa using hb
  refine ⟨below t.place j, x.2, ?_, ?_, ?_⟩
  ·unfold SetTable.slot
   dsimp only
   rw [hp]
   simp
  ·rw [r.pl, hx, ← e1]
  ·rw [r.es, r.pl]
   simp [hx]
theorem Rep.slot_free (r : Rep L es t) {j : Nat} (h : j ∉ L.map (·.1)) : t.slot j = .empty := by
 unfold SetTable.slot
 dsimp only
 have hp : (t.place[below t.place j]? == some j) = false := by
  rw [beq_eq_false_iff_ne]
  intro e
  rw [r.pl] at e
  exact h (by
   have := Array.mem_of_getElem? e
   simpa using this)
 rw [hp, r.dm, has_nil]
 simp
theorem itr_dummy (m : Nat) : ∀ (k : Nat) (p : Probe), (itr m k p).dummy = p.dummy
 | 0, _ => rfl
 | k + 1, p => by
  rw [itr, itr_dummy m k]
  unfold av
  split <;> rfl
theorem Rep.probe_go (r : Rep L es t) {hashAt : Nat → Int} (hh : ∀ i e, es[i]? = some e → hashAt i = e.1) (h : Int) {K : Nat} (hK : pos t.mask h K ∉ L.map (·.1)) (hk : ∀ k, k < K → pos t.mask h k ∈ L.map (·.1)) : ∀ (fuel m : Nat), m ≤ K → K - m < fuel →
  (probe.go t hashAt h fuel (itr t.mask m (st0 t.mask h)) = some (.empty (pos t.mask h K) none) ∧ ∀ k e, m ≤ k → k < K → (pos t.mask h k, e) ∈ L → e.1 ≠ h) ∨
  ∃ k i v, m ≤ k ∧ k < K ∧ probe.go t hashAt h fuel (itr t.mask m (st0 t.mask h)) = some (.candidate (pos t.mask h k) i (itr t.mask (k + 1) (st0 t.mask h))) ∧ t.slot (pos t.mask h k) = .live i ∧ es[i]? = some (h, v) ∧ (pos t.mask h k, (h, v)) ∈ L ∧ ∀ k' e, m ≤ k' → k' < k → (pos t.mask h k', e) ∈ L → e.1 ≠ h
 | 0, m, hm, hf => by omega
 | f + 1, m, hm, hf => by
  unfold probe.go
  have hj : (itr t.mask m (st0 t.mask h)).j = pos t.mask h m := rfl
  have hd : (itr t.mask m (st0 t.mask h)).dummy = none := by rw [itr_dummy]; rfl
  by_cases eK : m = K
  ·subst eK
   rw [hj, r.slot_free hK]
   dsimp only
   rw [hd]
   exact .inl ⟨rfl, fun k e h1 h2 => by omega⟩
  ·have hlt : m < K := by omega
   obtain ⟨i, el, hs, hL, he⟩ := r.slot_live (hk m hlt)
   rw [hj, hs]
   dsimp only
   have uniq : ∀ e', (pos t.mask h m, e') ∈ L → e' = el := fun e' he' => by
    obtain ⟨i', hi', e2⟩ := List.getElem_of_mem he'
    have hL' := (List.getElem?_eq_some_iff.mp hL)
    obtain ⟨hi, e3⟩ := hL'
    have : i' = i := by
     rcases Nat.lt_trichotomy i' i with z | z | z
     ·have := List.pairwise_iff_getElem.mp r.up i' i (by simpa using hi') (by simpa using hi) z
      simp [e2, e3] at this
     ·exact z
     ·have := List.pairwise_iff_getElem.mp r.up i i' (by simpa using hi) (by simpa using hi') z
      simp [e2, e3] at this
    subst this
    rw [e2] at e3
    exact (Prod.mk.inj e3).2
   by_cases hc : (hashAt i == h) = true
   ·rw [if_pos hc]
    have hel : el.1 = h := by rw [← hh i el he]; exact eq_of_beq hc
    refine .inr ⟨m, i, el.2, Nat.le_refl _, hlt, ?_, hs, ?_, ?_, fun k' e h1 h2 => by omega⟩
    ·rw [advance_eq, ← itr_succ]
    ·rw [he, ← hel]
    ·have e5 : ((h, el.2) : Int × Value) = el := Prod.ext hel.symm rfl
     rw [e5]
     exact List.mem_of_getElem? hL
   ·rw [if_neg hc, advance_eq, ← itr_succ]
    have hel : el.1 ≠ h := fun z => hc (by rw [hh i el he, z]; simp)
    rcases Rep.probe_go r hh h hK hk f (m + 1) (by omega) (by omega) with ⟨a, b⟩ | ⟨k, i', v, a1, a2, a3, a4, a5, a6, a7⟩
    ·refine .inl ⟨a, fun k e h1 h2 hm' => ?_⟩
     by_cases z : k = m
     ·subst z
      rw [uniq e hm']
      exact hel
     ·exact b k e (by omega) h2 hm'
    ·refine .inr ⟨k, i', v, by omega, a2, a3, a4, a5, a6, fun k' e h1 h2 hm' => ?_⟩
     by_cases z : k' = m
     ·subst z
      rw [uniq e hm']
      exact hel
     ·exact a7 k' e (by omega) h2 hm'
theorem map_insert {α β : Type} (f : α → β) (l : List α) (p : Nat) (x : α) : (l.take p ++ x :: l.drop p).map f = (l.map f).take p ++ f x :: (l.map f).drop p := by simp
theorem insertAt_list {α : Type} (l : List α) (p : Nat) (x : α) : insertAt l.toArray p x = (l.take p ++ x :: l.drop p).toArray := by
 apply Array.toList_inj.mp
 rw [SetTable.toList_insertAt]
def ins (L : List (Nat × (Int × Value))) (j : Nat) (e : Int × Value) : List (Nat × (Int × Value)) := L.take (below (L.map (·.1)).toArray j) ++ (j, e) :: L.drop (below (L.map (·.1)).toArray j)
theorem mem_ins {j : Nat} {e : Int × Value} {x : Nat × (Int × Value)} : x ∈ ins L j e ↔ x = (j, e) ∨ x ∈ L := by
 unfold ins
 rw [List.mem_append, List.mem_cons]
 constructor
 ·rintro (h | h | h)
  ·exact .inr (List.mem_of_mem_take h)
  ·exact .inl h
  ·exact .inr (List.mem_of_mem_drop h)
 ·rintro (h | h)
  ·exact .inr (.inl h)
  ·have : x ∈ L.take (below (L.map (·.1)).toArray j) ++ L.drop (below (L.map (·.1)).toArray j) := by rw [List.take_append_drop]; exact h
   rcases List.mem_append.mp this with z | z
   ·exact .inl z
   ·exact .inr (.inr z)
theorem ins_perm (j : Nat) (e : Int × Value) : (ins L j e).Perm ((j, e) :: L) := by
 unfold ins
 refine List.perm_middle.trans ?_
 rw [List.take_append_drop]
theorem Rep.put (r : Rep L es t) {h : Int} {x : Value} {K : Nat} (hK : pos t.mask h K ∉ L.map (·.1)) (hk : ∀ k, k < K → pos t.mask h k ∈ L.map (·.1)) (hl : L.length + 1 ≤ t.mask) :
  Rep (ins L (pos t.mask h K) (h, x)) (insertAt es (t.put (pos t.mask h K)).2 (h, x)) (t.put (pos t.mask h K)).1 := by
 have e1 : (t.put (pos t.mask h K)).2 = below (L.map (·.1)).toArray (pos t.mask h K) := by unfold SetTable.put; dsimp only; rw [r.pl]
 have e2 : (t.put (pos t.mask h K)).1.mask = t.mask := rfl
 refine ⟨?_, ?_, ?_, ?_, ?_, r.mz, ?_⟩
 ·rw [e1, r.es, insertAt_list]
  unfold ins
  rw [map_insert]
 ·unfold SetTable.put
  dsimp only
  rw [r.pl, insertAt_list]
  unfold ins
  rw [map_insert]
 ·unfold SetTable.put
  dsimp only
  rw [r.dm, has_nil]
  simp
 ·unfold ins
  rw [map_insert]
  exact up_insert r.up hK
 ·intro y hy
  rw [e2]
  have sub : ∀ j, j ∈ L.map (·.1) → j ∈ (ins L (pos t.mask h K) (h, x)).map (·.1) := fun j hj => by
   obtain ⟨z, hz, rfl⟩ := List.mem_map.mp hj
   exact List.mem_map.mpr ⟨z, mem_ins.mpr (.inr hz), rfl⟩
  rcases mem_ins.mp hy with rfl | hy
  ·exact ⟨K, rfl, fun k' hk' => sub _ (hk k' hk')⟩
  ·obtain ⟨k, h1, h2⟩ := r.pa y hy
   exact ⟨k, h1, fun k' hk' => sub _ (h2 k' hk')⟩
 ·have := (ins_perm (L := L) (pos t.mask h K) (h, x)).length_eq
  rw [this]
  exact hl
end Tb
end My
namespace My
open PySem
namespace Tb
open PySem.SetTable
theorem runEnd_le {m i : Nat} (h : i ≤ m) : runEnd m i ≤ m := by unfold runEnd; split <;> omega
theorem runEnd_ge (m i : Nat) : i ≤ runEnd m i := by unfold runEnd; split <;> omega
theorem itr_le (m : Nat) : ∀ (k : Nat) (p : Probe), p.j + p.more ≤ m → (itr m k p).j + (itr m k p).more ≤ m
 | 0, _, h => h
 | k + 1, p, h => by
  refine itr_le m k (av m p) ?_
  unfold av
  split
  ·show p.j + 1 + (p.more - 1) ≤ m
   omega
  ·have h1 : (leap m p.i p.perturb).1 ≤ m := by unfold leap; exact Nat.le_of_lt_succ (Nat.mod_lt _ (Nat.succ_pos m))
   have h2 := runEnd_le h1
   have h3 := runEnd_ge m (leap m p.i p.perturb).1
   show (leap m p.i p.perturb).1 + (runEnd m (leap m p.i p.perturb).1 - (leap m p.i p.perturb).1) ≤ m
   omega
theorem pos_le (m : Nat) (h : Int) (k : Nat) : pos m h k ≤ m := by
 have h1 : bits h % (m + 1) ≤ m := Nat.le_of_lt_succ (Nat.mod_lt _ (Nat.succ_pos m))
 have h2 := runEnd_le h1
 have h3 := runEnd_ge m (bits h % (m + 1))
 have := itr_le m k (st0 m h) (by show bits h % (m + 1) + (runEnd m (bits h % (m + 1)) - bits h % (m + 1)) ≤ m; omega)
 unfold pos
 omega
theorem run_part (m : Nat) : ∀ (k r j i p : Nat) (d : Option Nat), k ≤ r → (itr m k { j := j, more := r, i := i, perturb := p, dummy := d }).j = j + k
 | 0, _, _, _, _, _, _ => rfl
 | k + 1, r, j, i, p, d, h => by
  show (itr m k (av m { j := j, more := r, i := i, perturb := p, dummy := d })).j = _
  have e : av m { j := j, more := r, i := i, perturb := p, dummy := d } = { j := j + 1, more := r - 1, i := i, perturb := p, dummy := d } := by
   unfold av
   rw [if_pos (by show r > 0; omega)]
  rw [e, run_part m k (r - 1) (j + 1) i p d (by omega)]
  omega
theorem find_none {n : Nat} {p : Nat → Bool} (h : (List.range n).find? p = none) : ∀ k, k < n → p k = false := fun k hk => by
 have := List.find?_eq_none.mp h k (List.mem_range.mpr hk)
 simpa using this
theorem find_some {n k : Nat} {p : Nat → Bool} (h : (List.range n).find? p = some k) : k < n ∧ p k = true ∧ ∀ k', k' < k → p k' = false := by
 have h1 := List.find?_range_eq_some.mp h
 refine ⟨by simpa using h1.2.1, h1.1, fun k' hk' => by simpa using h1.2.2 k' hk'⟩
def fr (o : Array (Option Nat)) (j : Nat) : Bool := (o.getD j (some 0)).isNone
theorem free_spec (m : Nat) (o : Array (Option Nat)) : ∀ (f : Nat) (x : Nat × Nat) (n : Nat), n < f → fr o (lp m n x).1 = true →
  ∃ k, layClean.free m o f x.1 x.2 = some (itr m k (hd m x.1 x.2)).j ∧ fr o (itr m k (hd m x.1 x.2)).j = true ∧ ∀ k', k' < k → fr o (itr m k' (hd m x.1 x.2)).j = false
 | 0, _, _, h, _ => by omega
 | f + 1, x, n, hn, hfr => by
  unfold layClean.free
  have hre := runEnd_ge m x.1
  cases hc : (List.range (runEnd m x.1 + 1 - x.1)).find? fun k => (o.getD (x.1 + k) (some 0)).isNone with
  | some k =>
   obtain ⟨h1, h2, h3⟩ := find_some hc
   have ep : ∀ k', k' ≤ k → (itr m k' (hd m x.1 x.2)).j = x.1 + k' := fun k' hk' => run_part m k' _ _ _ _ _ (by omega)
   refine ⟨k, ?_, ?_, fun k' hk' => ?_⟩
   ·dsimp only
    rw [ep k (Nat.le_refl _)]
   ·rw [ep k (Nat.le_refl _)]; exact h2
   ·rw [ep k' (by omega)]; exact h3 k' hk'
  | none =>
   have h1 := find_none hc
   have ep : ∀ k', k' ≤ runEnd m x.1 - x.1 → (itr m k' (hd m x.1 x.2)).j = x.1 + k' := fun k' hk' => run_part m k' _ _ _ _ _ hk'
   cases n with
   | zero =>
    exfalso
    have := h1 0 (by omega)
    have h2 : fr o x.1 = true := hfr
    unfold fr at h2
    rw [Nat.add_zero] at this
    rw [this] at h2
    cases h2
   | succ n =>
    obtain ⟨k, e, a1, a2⟩ := free_spec m o f (leap m x.1 x.2) n (by omega) hfr
    have er : ∀ k', itr m (runEnd m x.1 - x.1 + 1 + k') (hd m x.1 x.2) = itr m k' (hd m (leap m x.1 x.2).1 (leap m x.1 x.2).2) := fun k' => by rw [itr_add, run_out]
    refine ⟨runEnd m x.1 - x.1 + 1 + k, ?_, ?_, fun k' hk' => ?_⟩
    ·rw [er]
     exact e
    ·rw [er]; exact a1
    ·by_cases z : k' < runEnd m x.1 - x.1 + 1
     ·rw [ep k' (by omega)]
      exact h1 k' (by omega)
     ·have := a2 (k' - (runEnd m x.1 - x.1 + 1)) (by omega)
      rw [← er, show runEnd m x.1 - x.1 + 1 + (k' - (runEnd m x.1 - x.1 + 1)) = k' by omega] at this
      exact this
theorem reach_lp {m : Nat} (hm : Mk m) (h : Int) {e : Nat} (he : e ≤ m) : ∃ n, n < turns m ∧ (lp m n (bits h % (m + 1), bits h)).1 = e := by
 have h13 : lp m 13 (bits h % (m + 1), bits h) = ((lp m 13 (bits h % (m + 1), bits h)).1, 0) := by
  have : (lp m 13 (bits h % (m + 1), bits h)).2 = 0 := by
   rw [lp_snd]
   exact Nat.div_eq_of_lt (Nat.lt_trans (bits_lt h) (by decide))
  exact Prod.ext rfl this
 obtain ⟨k, hk, ek⟩ := cover hm (lp_le m 12 (bits h % (m + 1), bits h)) he
 refine ⟨13 + k, by unfold turns; omega, ?_⟩
 rw [lp_add, h13, lp_cy]
 exact ek
def lv (m : Nat) (o : Array (Option Nat)) : List (Nat × Nat) := (List.range (m + 1)).filterMap fun j => (o.getD j none).map (j, ·)
theorem fm_congr {α β : Type} {g g' : α → Option β} : ∀ {l : List α}, (∀ a ∈ l, g' a = g a) → l.filterMap g' = l.filterMap g
 | [], _ => rfl
 | a :: l, h => by
  rw [List.filterMap_cons, List.filterMap_cons, h a List.mem_cons_self, fm_congr fun b hb => h b (List.mem_cons_of_mem _ hb)]
theorem fm_perm {β : Type} {g g' : Nat → Option β} {j : Nat} {b : β} (hg : g j = none) (hg' : g' j = some b) (hne : ∀ a, a ≠ j → g' a = g a) : ∀ {l : List Nat}, l.Nodup → j ∈ l → (l.filterMap g').Perm (b :: l.filterMap g)
 | [], _, h => by simp at h
 | a :: l, hn, h => by
  rw [List.nodup_cons] at hn
  rw [List.filterMap_cons, List.filterMap_cons]
  by_cases e : a = j
  ·subst e
   rw [hg, hg']
   dsimp only
   rw [fm_congr fun c hc => hne c fun z => hn.1 (z ▸ hc)]
  ·rw [hne a e]
   have hj : j ∈ l := by
    rcases List.mem_cons.mp h with z | z
    ·exact absurd z.symm e
    ·exact z
   have ih := fm_perm hg hg' hne hn.2 hj
   cases g a with
   | none => exact ih
   | some c => exact (ih.cons c).trans (.swap _ _ _)
structure Laid (m : Nat) (hs : List Int) (o : Array (Option Nat)) (Z : List (Nat × Nat)) : Prop where
 sz : o.size = m + 1
 pm : (lv m o).Perm Z
 ix : Z.map (·.2) = List.range hs.length
 fr : ∀ j, fr o j = true ↔ j ≤ m ∧ j ∉ Z.map (·.1)
 pa : ∀ z ∈ Z, ∀ h, hs[z.2]? = some h → ∃ k, pos m h k = z.1 ∧ ∀ k', k' < k → pos m h k' ∈ Z.map (·.1)
theorem Laid.zero (m : Nat) : Laid m [] (Array.replicate (m + 1) none) [] := by
 refine ⟨by simp, ?_, rfl, fun j => ?_, fun z hz => by simp at hz⟩
 ·unfold lv
  have : (List.range (m + 1)).filterMap (fun j => ((Array.replicate (m + 1) (none : Option Nat)).getD j none).map (j, ·)) = [] := by
   rw [List.filterMap_eq_nil_iff]
   intro j hj
   have hj' : j < m + 1 := List.mem_range.mp hj
   simp [Array.getD, hj']
  rw [this]
 ·unfold Tb.fr
  by_cases hj : j < m + 1
  ·simp [Array.getD, hj]; omega
  ·simp [Array.getD, hj]; omega
theorem Laid.step {m : Nat} {hs : List Int} {o : Array (Option Nat)} {Z : List (Nat × Nat)} (hm : Mk m) (la : Laid m hs o Z) (h : Int) (hl : hs.length + 1 ≤ m) :
  ∃ j, layClean.free m o (turns m) (bits h % (m + 1)) (bits h) = some j ∧ Laid m (hs ++ [h]) (o.setIfInBounds j (some hs.length)) (Z ++ [(j, hs.length)]) := by
 have hZ : Z.length = hs.length := by
  have := congrArg List.length la.ix
  simpa using this
 have hex : ∃ e, e ≤ m ∧ e ∉ Z.map (·.1) := by
  by_cases hc : ∃ e, e ≤ m ∧ e ∉ Z.map (·.1)
  ·exact hc
  ·exfalso
   have := pigeon (m + 1) (Z.map (·.1)) fun e he => Classical.byContradiction fun hn => hc ⟨e, by omega, hn⟩
   rw [List.length_map] at this
   omega
 obtain ⟨e, he, hen⟩ := hex
 obtain ⟨n, hn, en⟩ := reach_lp hm h he
 obtain ⟨k, e1, e2, e3⟩ := free_spec m o (turns m) (bits h % (m + 1), bits h) n hn (by rw [en]; exact (la.fr e).mpr ⟨he, hen⟩)
 have hpos : (itr m k (hd m (bits h % (m + 1)) (bits h))).j = pos m h k := rfl
 rw [hpos] at e1 e2
 obtain ⟨j1, j2⟩ := (la.fr _).mp e2
 refine ⟨pos m h k, e1, ?_, ?_, ?_, fun j => ?_, fun z hz h' hh => ?_⟩
 ·rw [Array.size_setIfInBounds]; exact la.sz
 ·have hlt : pos m h k < o.size := by rw [la.sz]; omega
  have hnone : o.getD (pos m h k) none = none := by
   unfold Tb.fr at e2
   simp only [Array.getD, hlt, dif_pos] at e2 ⊢
   simpa using e2
  have key : (lv m (o.setIfInBounds (pos m h k) (some hs.length))).Perm ((pos m h k, hs.length) :: lv m o) := by
   unfold lv
   refine fm_perm (j := pos m h k) ?_ ?_ ?_ List.nodup_range (List.mem_range.mpr (by omega))
   ·rw [hnone]; rfl
   ·have : (o.setIfInBounds (pos m h k) (some hs.length)).getD (pos m h k) none = some hs.length := by simp [Array.getD, hlt]
    rw [this]; rfl
   ·intro a ha
    have : (o.setIfInBounds (pos m h k) (some hs.length)).getD a none = o.getD a none := by
     by_cases hz : a < o.size
     ·simp [Array.getD, hz, Array.getElem_setIfInBounds, Ne.symm ha]
     ·simp [Array.getD, hz]
    rw [this]
  refine key.trans ((la.pm.cons _).trans ?_)
  exact (List.perm_append_singleton _ _).symm
 ·rw [List.map_append, la.ix, List.length_append, List.length_singleton, List.range_succ]; rfl
 ·have hlt : pos m h k < o.size := by rw [la.sz]; omega
  rw [List.map_append, List.mem_append]
  by_cases ej : j = pos m h k
  ·subst ej
   have : Tb.fr (o.setIfInBounds (pos m h k) (some hs.length)) (pos m h k) = false := by unfold Tb.fr; simp [Array.getD, hlt]
   rw [this]
   simp
  ·have : Tb.fr (o.setIfInBounds (pos m h k) (some hs.length)) j = Tb.fr o j := by
    unfold Tb.fr
    by_cases hz : j < o.size
    ·simp [Array.getD, hz, Array.getElem_setIfInBounds, Ne.symm ej]
    ·simp [Array.getD, hz]
   rw [this, la.fr]
   simp [ej]
 ·have sub : ∀ q, q ∈ Z.map (·.1) → q ∈ (Z ++ [(pos m h k, hs.length)]).map (·.1) := fun q hq => by rw [List.map_append]; exact List.mem_append_left _ hq
  rcases List.mem_append.mp hz with hz | hz
  ·have hlt : z.2 < hs.length := by
    have : z.2 ∈ Z.map (·.2) := List.mem_map_of_mem hz
    rw [la.ix] at this
    exact List.mem_range.mp this
   rw [List.getElem?_append_left hlt] at hh
   obtain ⟨k2, a1, a2⟩ := la.pa z hz h' hh
   exact ⟨k2, a1, fun k' hk' => sub _ (a2 k' hk')⟩
  ·rw [List.mem_singleton] at hz
   subst hz
   have : h' = h := by simpa using hh.symm
   subst this
   refine ⟨k, rfl, fun k' hk' => sub _ ?_⟩
   have hb := e3 k' hk'
   have hpos' : (itr m k' (hd m (bits h' % (m + 1)) (bits h'))).j = pos m h' k' := rfl
   rw [hpos'] at hb
   have hle : pos m h' k' ≤ m := pos_le m h' k'
   refine Classical.byContradiction fun hn => ?_
   have := (la.fr _).mpr ⟨hle, hn⟩
   rw [this] at hb
   cases hb
end Tb
end My
namespace My
open PySem
namespace Tb
open PySem.SetTable
def fstep (m : Nat) (acc : Option (Array (Option Nat) × Nat)) (h : Int) : Option (Array (Option Nat) × Nat) := do
 let (owner, k) ← acc
 let j ← layClean.free m owner (turns m) (bits h % (m + 1)) (bits h)
 pure (owner.setIfInBounds j (some k), k + 1)
theorem layClean_eq (m : Nat) (hs : Array Int) : layClean m hs = (hs.foldl (fstep m) (some (Array.replicate (m + 1) none, 0))).map (·.1) := rfl
theorem fold_laid {m : Nat} (hm : Mk m) : ∀ (rest done : List Int) (o : Array (Option Nat)) (Z : List (Nat × Nat)), Laid m done o Z → done.length + rest.length ≤ m →
  ∃ o' Z', rest.foldl (fstep m) (some (o, done.length)) = some (o', (done ++ rest).length) ∧ Laid m (done ++ rest) o' Z'
 | [], done, o, Z, la, _ => ⟨o, Z, by simp, by rw [List.append_nil]; exact la⟩
 | h :: rest, done, o, Z, la, hl => by
  rw [List.length_cons] at hl
  obtain ⟨j, e, la'⟩ := la.step hm h (by omega)
  obtain ⟨o', Z', e', la''⟩ := fold_laid hm rest (done ++ [h]) _ _ la' (by rw [List.length_append, List.length_singleton]; omega)
  refine ⟨o', Z', ?_, by rw [List.append_assoc] at la''; exact la''⟩
  rw [List.foldl_cons]
  have e2 : fstep m (some (o, done.length)) h = some (o.setIfInBounds j (some done.length), (done ++ [h]).length) := by
   unfold fstep
   show (layClean.free m o (turns m) (bits h % (m + 1)) (bits h)).bind _ = _
   rw [e]
   simp
  rw [e2, e', List.append_assoc]
  rfl
theorem fm_valid (es : Array (Int × Value)) : ∀ l : List (Nat × Nat), (∀ z ∈ l, z.2 < es.size) → (l.map (·.2)).filterMap (fun i => es[i]?) = l.map fun z => es.getD z.2 (0, Value.none)
 | [], _ => rfl
 | z :: l, h => by
  have hz := h z List.mem_cons_self
  rw [List.map_cons, List.filterMap_cons, List.map_cons, fm_valid es l fun y hy => h y (List.mem_cons_of_mem _ hy)]
  have e : es[z.2]? = some (es.getD z.2 (0, Value.none)) := by simp [Array.getD, hz]
  rw [e]
theorem map_range (es : Array (Int × Value)) : (List.range es.size).map (fun k => es.getD k (0, Value.none)) = es.toList := by
 apply List.ext_getElem
 ·simp
 ·intro i h1 h2
  have hi : i < es.size := by simpa using h1
  simp [Array.getD, hi]
theorem lv_up (m : Nat) (o : Array (Option Nat)) : ((lv m o).map (·.1)).Pairwise (· < ·) := by
 have e : ∀ l : List Nat, ((l.filterMap fun j => (o.getD j none).map (j, ·)).map (·.1)) = l.filter fun j => (o.getD j none).isSome := by
  intro l
  induction l with
  | nil => rfl
  | cons a l ih =>
   rw [List.filterMap_cons, List.filter_cons]
   cases hg : o.getD a none with
   | none => simpa using ih
   | some c => simpa using ih
 unfold lv
 rw [e]
 exact List.Pairwise.sublist List.filter_sublist List.pairwise_lt_range
theorem laid_rep {m : Nat} (hm : Mk m) (es : Array (Int × Value)) (hn : es.size ≤ m) (fi mv : Nat) (led plain : Bool) :
  ∃ t' order, laid m fi mv led plain (es.map (·.1)) = some (t', order) ∧ t'.mask = m ∧ t'.led = led ∧ t'.plain = plain ∧ ∃ L', Rep L' (order.filterMap (es[·]?)) t' ∧ (L'.map (·.2)).Perm es.toList := by
 obtain ⟨o, Z, e, la⟩ := fold_laid hm (es.map (·.1)).toList [] _ _ (Laid.zero m) (by simpa using hn)
 rw [List.nil_append] at e la
 have hlen : ((es.map (·.1)).toList).length = es.size := by simp
 have ec : layClean m (es.map (·.1)) = some o := by
  rw [layClean_eq, ← Array.foldl_toList]
  show Option.map _ (List.foldl (fstep m) (some (Array.replicate (m + 1) none, ([] : List Int).length)) _) = _
  rw [e]
  rfl
 have hv : ∀ z ∈ lv m o, z.2 < es.size := fun z hz => by
  have : z.2 ∈ Z.map (·.2) := List.mem_map_of_mem (la.pm.mem_iff.mp hz)
  rw [la.ix, hlen] at this
  exact List.mem_range.mp this
 refine ⟨_, _, by
  unfold laid
  rw [ec]
  rfl, rfl, rfl, rfl, (lv m o).map (fun z => (z.1, es.getD z.2 (0, Value.none))), ⟨?_, ?_, rfl, ?_, ?_, hm, ?_⟩, ?_⟩
 ·show Array.filterMap _ ((lv m o).map (·.2)).toArray = _
  apply Array.toList_inj.mp
  rw [Array.toList_filterMap]
  show List.filterMap _ ((lv m o).map (·.2)) = _
  rw [fm_valid es _ hv, List.map_map]
  rfl
 ·show ((lv m o).map (·.1)).toArray = _
  rw [List.map_map]
  rfl
 ·rw [List.map_map]
  exact lv_up m o
 ·intro x hx
  obtain ⟨z, hz, rfl⟩ := List.mem_map.mp hx
  have hz2 := hv z hz
  have hh : ((es.map (·.1)).toList)[z.2]? = some (es.getD z.2 (0, Value.none)).1 := by simp [Array.getD, hz2]
  obtain ⟨k, a1, a2⟩ := la.pa z (la.pm.mem_iff.mp hz) _ hh
  refine ⟨k, a1, fun k' hk' => ?_⟩
  rw [List.map_map]
  have := a2 k' hk'
  exact (la.pm.map (·.1)).mem_iff.mpr this
 ·have : (lv m o).length = es.size := by
   rw [la.pm.length_eq]
   have := congrArg List.length la.ix
   simpa using this
  rw [List.length_map, this]
  exact hn
 ·rw [List.map_map]
  have h1 : ((lv m o).map fun z => es.getD z.2 (0, Value.none)).Perm (Z.map fun z => es.getD z.2 (0, Value.none)) := la.pm.map _
  have h2 : (Z.map fun z => es.getD z.2 (0, Value.none)) = es.toList := by
   have : (Z.map fun z => es.getD z.2 (0, Value.none)) = (Z.map (·.2)).map fun k => es.getD k (0, Value.none) := by rw [List.map_map]; rfl
   rw [this, la.ix, hlen, map_range]
  rw [← h2]
  exact h1
def Room5 (L : List (Nat × (Int × Value))) (t : SetTable) : Prop := L.length * 5 < t.mask * 3
theorem relaid_rep {L : List (Nat × (Int × Value))} {es : Array (Int × Value)} {t : SetTable} (r : Rep L es t) (hb : L.length ≤ 76) (h0 : (L.length - 1) * 5 < t.mask * 3) (h1 : t.mask * 3 ≤ L.length * 5) :
  sizeAbove (grown L.length) ≤ 4096 ∧ ∃ t' order L', t.relaid (es.map (·.1)) (grown L.length) = some (t', order) ∧ t'.led = t.led ∧ t'.plain = t.plain ∧ Rep L' (order.filterMap (es[·]?)) t' ∧ (L'.map (·.2)).Perm (L.map (·.2)) ∧ Room5 L' t' := by
 have hes : es.size = L.length := by rw [r.es]; simp
 have key : ∀ m', Mk m' → L.length ≤ m' → sizeAbove (grown L.length) - 1 = m' → L.length * 5 < m' * 3 → ∃ t' order L', t.relaid (es.map (·.1)) (grown L.length) = some (t', order) ∧ t'.led = t.led ∧ t'.plain = t.plain ∧ Rep L' (order.filterMap (es[·]?)) t' ∧ (L'.map (·.2)).Perm (L.map (·.2)) ∧ Room5 L' t' := by
  intro m' hm' hl hs hr
  obtain ⟨t', order, e1, e2, e3, e4, L', rp, pm⟩ := laid_rep hm' es (by omega) t.finger (t.movedTo m') t.led t.plain
  have el : es.toList = L.map (·.2) := by rw [r.es]
  refine ⟨t', order, L', ?_, e3, e4, rp, by rw [← el]; exact pm, ?_⟩
  ·unfold SetTable.relaid
   rw [hs]
   exact e1
  ·unfold Room5
   have h5 : L'.length = L.length := by
    have := pm.length_eq
    rw [el] at this
    simpa using this
   rw [h5, e2]
   exact hr
 rcases r.mz with e | e | e
 ·rw [e] at h0 h1
  have hL : L.length = 5 := by omega
  rw [hL] at key ⊢
  exact ⟨by decide, key 31 (.inr (.inl rfl)) (by decide) (by decide) (by decide)⟩
 ·rw [e] at h0 h1
  have hL : L.length = 19 := by omega
  rw [hL] at key ⊢
  exact ⟨by decide, key 127 (.inr (.inr rfl)) (by decide) (by decide) (by decide)⟩
 ·rw [e] at h0 h1
  omega
end Tb
end My
namespace My
open PySem PySem.Spec PySem.W
section
variable {prog : Program} {w : World} {A : Around} {E : Value → Shared → Prop} {s : Shared}
def isBl : Bool → Value → Bool
 | b, .bool c => c == b
 | _, _ => false
theorem isBl_shape {b : Bool} {v : Value} (h : isBl b v = true) : v = .bool b := by
 cases v <;> simp_all [isBl]
theorem hash_bl {b : Bool} {Q : Int → Shared → Prop} (h : Q (if b = true then 1 else 0) { s with toks := s.toks + 1 }) : wpAny (model prog w) A (pyHash (.bool b)) Q E s := by
 show wpAny _ _ (pyHashByItsType (.bool b)) _ _ _
 refine pyHash_slot (T := "bool") rfl F.slot_bool_hash entry_int_hash (args_int_hash _) (beq_builtin_none _) (.inl rfl) ?_
 cases b
 ·exact (show wpAny _ _ (do ret (← mkInt 0)) _ _ s from wpAny_bind (wpAny_mkInt (wpAny_pure ⟨_, _, rfl, h⟩)))
 ·exact (show wpAny _ _ (do ret (← mkInt 1)) _ _ s from wpAny_bind (wpAny_mkInt (wpAny_pure ⟨_, _, rfl, h⟩)))
def blKind (prog : Program) (w : World) : PySem.KeyKind prog w Bool where
 is := isBl
 hash := fun b => if b = true then 1 else 0
 inj := fun v a b h1 h2 => by
  have e1 := isBl_shape h1
  have e2 := isBl_shape h2
  rw [e1] at e2
  exact Value.bool.inj e2
 byValue := fun k v h => by rw [isBl_shape h]; rfl
 pyHash := fun hv h => by rw [isBl_shape hv]; exact hash_bl h
 eqBool := fun {A E s a b u v Q} hu hv h => by
  rw [isBl_shape hu, isBl_shape hv]
  refine SeqAt.EqAt.bool_bool a b _ _ _ _ ?_
  have e : (a == b) = decide (a = b) := by cases a <;> cases b <;> rfl
  rw [e]; exact h
 «strs» := fun k x t v h => by simp [isBl] at h
abbrev Bt (prog : Program) (w : World) (h : Heap) (k : List Bool) (a : Addr) : Prop := IsTupleKey (blKind prog w) h k a
abbrev Bh (prog : Program) (w : World) (k : List Bool) : Int := tupleKeyHash (blKind prog w) k
theorem bt_items {h : Heap} {k : List Bool} {vs : List Value} (x : ItemsAre (blKind prog w) k vs) : ∀ v ∈ vs, ∃ b, v = .bool b := by
 induction x with
 | nil => intro v hv; simp at hv
 | cons h1 _ ih =>
  intro v hv
  rcases List.mem_cons.mp hv with rfl | hv
  ·exact ⟨_, isBl_shape h1⟩
  ·exact ih v hv
theorem bt_byValue {k : List Bool} {a : Addr} {Q : Bool → Shared → Prop} (hk : Bt prog w s.heap k a) (h : Q true s) : wpAny (model prog w) A (hashByValue 8 (.ref a)) Q E s := by
 have hT := hk.typeIs
 obtain ⟨o, items, n, ho, hc, hd, hi⟩ := hk
 unfold hashByValue
 refine wpAny_bind (wpAny_specialOf hT F.slot_tuple_hash.lookup ?_)
 show wpAny _ _ (seqItems? (.ref a) >>= _) _ _ s
 refine wpAny_bind (wpAny_seqItems ho hd ?_)
 refine wpAny_bind ?_
 show wpAny _ _ (forIn items _ _) _ _ s
 rw [← Array.forIn_toList]
 refine wpAny_forIn_list _ (fun rest r s' => r.1 = none ∧ s' = s ∧ ∀ v ∈ rest, ∃ b, v = .bool b) _ ?_ ?_ _ _ ⟨rfl, rfl, bt_items (h := s.heap) hi⟩
 ·rintro v rest r s' ⟨hr, rfl, hall⟩
  obtain ⟨b, rfl⟩ := hall v List.mem_cons_self
  refine wpAny_bind (wpAny_pure ?_)
  simp only [Bool.not_true, Bool.false_eq_true, if_false]
  exact wpAny_pure ⟨rfl, rfl, fun u hu' => hall u (List.mem_cons_of_mem _ hu')⟩
 ·rintro ⟨r1, r2⟩ s' ⟨hr, rfl, _⟩
  simp only at hr
  subst hr
  exact wpAny_pure h
theorem bt_class {k : List Bool} {a : Addr} {Q : Bool → Shared → Prop} (hk : Bt prog w s.heap k a) (h : Q false s) : wpAny (model prog w) A (ofAClassStatement 8 (.ref a)) Q E s := by
 have hT := hk.typeIs
 obtain ⟨o, items, n, ho, hc, hd, hi⟩ := hk
 unfold ofAClassStatement
 refine wpAny_bind (wpAny_typeOf hT ?_)
 show wpAny _ _ (pure true >>= _) _ _ s
 refine wpAny_bind (wpAny_pure ?_)
 simp only [Bool.not_true, Bool.false_eq_true, if_false]
 refine wpAny_bind (wpAny_seqItems ho hd ?_)
 refine wpAny_bind ?_
 show wpAny _ _ (forIn items _ _) _ _ s
 rw [← Array.forIn_toList]
 refine wpAny_forIn_list _ (fun rest r s' => r.1 = none ∧ s' = s ∧ ∀ v ∈ rest, ∃ b, v = .bool b) _ ?_ ?_ _ _ ⟨rfl, rfl, bt_items (h := s.heap) hi⟩
 ·rintro v rest r s' ⟨hr, rfl, hall⟩
  obtain ⟨b, rfl⟩ := hall v List.mem_cons_self
  refine wpAny_bind (wpAny_pure ?_)
  simp only [Bool.false_eq_true, if_false]
  exact wpAny_pure ⟨rfl, rfl, fun u hu' => hall u (List.mem_cons_of_mem _ hu')⟩
 ·rintro ⟨r1, r2⟩ s' ⟨hr, rfl, _⟩
  simp only at hr
  subst hr
  exact wpAny_pure h
theorem bt_unseen {k : List Bool} {a : Addr} {ys : List Value} {Q : Bool → Shared → Prop} (hk : Bt prog w s.heap k a) (hy : ∀ y ∈ ys, ∃ k' b, y = .ref b ∧ Bt prog w s.heap k' b) (h : Q false s) :
  wpAny (model prog w) A (searchCouldBeSeen (.ref a) ys) Q E s := by
 unfold searchCouldBeSeen
 refine wpAny_bind ?_
 refine wpAny_forIn_list _ (fun rest r s' => r.1 = none ∧ s' = s ∧ ∀ y ∈ rest, ∃ k' b, y = .ref b ∧ Bt prog w s.heap k' b) _ ?_ ?_ _ _ ⟨rfl, rfl, hy⟩
 ·rintro v rest r s' ⟨hr, rfl, hall⟩
  obtain ⟨k', b, rfl, hb⟩ := hall v List.mem_cons_self
  have nx : ∀ u ∈ rest, ∃ k' b, u = .ref b ∧ Bt prog w s'.heap k' b := fun u hu' => hall u (List.mem_cons_of_mem _ hu')
  dsimp only
  split
  ·exact wpAny_pure ⟨rfl, rfl, nx⟩
  ·refine wpAny_bind (wpAny_eqIsQuiet_tuple hk ?_)
   simp only [Bool.not_true, Bool.false_eq_true, if_false]
   refine wpAny_bind (wpAny_eqIsQuiet_tuple hb ?_)
   simp only [Bool.not_true, Bool.false_eq_true, if_false]
   refine wpAny_bind (bt_class hk ?_)
   simp only [Bool.false_eq_true, if_false]
   refine wpAny_bind (bt_class hb ?_)
   simp only [Bool.false_eq_true, if_false]
   exact wpAny_pure ⟨rfl, rfl, nx⟩
 ·rintro ⟨r1, r2⟩ s' ⟨hr, rfl, _⟩
  simp only at hr
  subst hr
  exact wpAny_pure h
end
end My
namespace My
open PySem PySem.Spec PySem.W
open Tb
section
variable {prog : Program} {w : World} {A : Around} {E : Value → Shared → Prop} {s : Shared}
def Elem (prog : Program) (w : World) (h : Heap) (e : Int × Value) (k : List Bool) : Prop := ∃ b, e.2 = .ref b ∧ Bt prog w h k b ∧ e.1 = Bh prog w k
theorem Elem.inj {h : Heap} {e : Int × Value} {k k' : List Bool} (x : Elem prog w h e k) (y : Elem prog w h e k') : k = k' := by
 obtain ⟨b, e1, h1, _⟩ := x
 obtain ⟨b', e2, h2, _⟩ := y
 rw [e1] at e2
 cases e2
 exact h1.inj h2
structure Good (prog : Program) (w : World) (h : Heap) (Es : List (Int × Value)) (D : List (List Bool)) : Prop where
 in1 : ∀ e ∈ Es, ∃ k, k ∈ D ∧ Elem prog w h e k
 in2 : ∀ k ∈ D, ∃ e ∈ Es, Elem prog w h e k
 one : Es.Pairwise fun e e' => ∀ k, Elem prog w h e k → ¬ Elem prog w h e' k
theorem Good.perm {h : Heap} {Es Es' : List (Int × Value)} {D : List (List Bool)} (g : Good prog w h Es D) (p : Es'.Perm Es) : Good prog w h Es' D :=
 ⟨fun e he => g.in1 e (p.mem_iff.mp he), fun k hk => let ⟨e, he, x⟩ := g.in2 k hk; ⟨e, p.mem_iff.mpr he, x⟩, (p.pairwise_iff (fun {x y} hxy k h1 h2 => hxy k h2 h1)).mpr g.one⟩
theorem Bt.mono {h h' : Heap} {k : List Bool} {a : Addr} (x : Bt prog w h k a) (hk : ∀ o, h.get? a = some o → h'.get? a = some o) : Bt prog w h' k a := by
 obtain ⟨o, items, n, ho, r⟩ := x
 exact ⟨o, items, n, hk o ho, r⟩
theorem Good.mono {h h' : Heap} {Es : List (Int × Value)} {D : List (List Bool)} (g : Good prog w h Es D) (hk : ∀ a o, o.cls = .type "tuple" → h.get? a = some o → h'.get? a = some o) : Good prog w h' Es D := by
 have up : ∀ e k, Elem prog w h e k → Elem prog w h' e k := fun e k ⟨b, e1, ⟨o, items, n, ho, hc, r⟩, h2⟩ => ⟨b, e1, ⟨o, items, n, hk b o hc ho, hc, r⟩, h2⟩
 refine ⟨fun e he => let ⟨k, h1, h2⟩ := g.in1 e he; ⟨k, h1, up e k h2⟩, fun k hk' => let ⟨e, h1, h2⟩ := g.in2 k hk'; ⟨e, h1, up e k h2⟩, ?_⟩
 refine (List.pairwise_iff_getElem.mpr fun i j hi hj hij => ?_)
 intro k h1 h2
 obtain ⟨k1, _, x1⟩ := g.in1 _ (List.getElem_mem hi)
 obtain ⟨k2, _, x2⟩ := g.in1 _ (List.getElem_mem hj)
 have e1 := (up _ _ x1).inj h1
 have e2 := (up _ _ x2).inj h2
 subst e1
 subst e2
 exact List.pairwise_iff_getElem.mp g.one i j hi hj hij _ x1 x2
abbrev setObj (es : Array (Int × Value)) (ep : Nat) (t : SetTable) : Obj := { cls := .type "set", dict := none, data := .set es ep t, slots := #[] }
theorem search_go (hu : A.units < cLine) {S : Addr} {ep : Nat} {es : Array (Int × Value)} {t : SetTable} {L : List (Nat × (Int × Value))} {D : List (List Bool)} (r : Rep L es t) (hS : s.heap.get? S = some (setObj es ep t)) (g : Good prog w s.heap (L.map (·.2)) D)
  {x : Addr} {kx : List Bool} (hx : Bt prog w s.heap kx x) {K : Nat} (hK : pos t.mask (Bh prog w kx) K ∉ L.map (·.1)) (hKk : ∀ k, k < K → pos t.mask (Bh prog w kx) k ∈ L.map (·.1)) (Kb : K ≤ 10 * (t.mask + 13)) {Q : SetFound → Shared → Prop}
  (q1 : (∃ e ∈ L.map (·.2), Elem prog w s.heap e kx) → Q (.there none) s) (q2 : (∀ e ∈ L.map (·.2), ¬ Elem prog w s.heap e kx) → Q (.free (pos t.mask (Bh prog w kx) K) false) s) :
  ∀ (f m : Nat) (stand : Option SetTable.Probe), m ≤ K → K - m < f → (∀ y ∈ L, ∀ k, k < m → pos t.mask (Bh prog w kx) k = y.1 → ¬ Elem prog w s.heap y.2 kx) → stand.getD (t.probeStart (Bh prog w kx)) = itr t.mask m (st0 t.mask (Bh prog w kx)) →
   wpAny (model prog w) A (setSearchFrom S (.ref x) (Bh prog w kx) true f stand) Q E s
 | 0, m, stand, _, hf, _, _ => by omega
 | f + 1, m, stand, hm, hf, hno, est => by
  unfold setSearchFrom
  refine wpAny_bind (wpAny_setState_of hS rfl r.fits ?_)
  dsimp only
  rw [r.odd]
  simp only [Bool.false_eq_true, if_false]
  rw [est]
  have hprobe : t.probe (fun i => (es[i]?.map (·.1)).getD 0) (Bh prog w kx) (itr t.mask m (st0 t.mask (Bh prog w kx))) = SetTable.probe.go t (fun i => (es[i]?.map (·.1)).getD 0) (Bh prog w kx) (10 * SetTable.turns t.mask) (itr t.mask m (st0 t.mask (Bh prog w kx))) := rfl
  have hash_ok : ∀ (i : Nat) (e : Int × Value), es[i]? = some e → (fun (i : Nat) => (es[i]?.map (·.1)).getD 0) i = e.1 := fun i e he => by simp [he]
  have hpg := r.probe_go hash_ok (Bh prog w kx) hK hKk (10 * SetTable.turns t.mask) m hm (by unfold SetTable.turns; omega)
  rw [← hprobe] at hpg
  split
  case h_2 hmet =>
   exfalso
   rcases hpg with ⟨e, _⟩ | ⟨k, i, v, _, _, e, _⟩
   ·exact hmet _ e
   ·exact hmet _ e
  rename_i met hmet
  rcases hpg with ⟨e, hne⟩ | ⟨k, i, v, h1, h2, e, hsl, hes, hL, hne⟩
  ·have em := Option.some.inj (hmet.symm.trans e)
   subst em
   dsimp only
   refine wpAny_pure (q2 fun el hel hE => ?_)
   obtain ⟨y, hy, rfl⟩ := List.mem_map.mp hel
   obtain ⟨k0, hk0, hk1⟩ := r.pa y hy
   have hh : y.2.1 = Bh prog w kx := by obtain ⟨b, _, _, h2⟩ := hE; exact h2
   rw [hh] at hk0 hk1
   have hlt : k0 < K := by
    refine Classical.byContradiction fun hn => ?_
    by_cases e0 : k0 = K
    ·subst e0
     exact hK (by rw [hk0]; exact List.mem_map_of_mem hy)
    ·exact hK (hk1 K (by omega))
   by_cases hlm : k0 < m
   ·exact hno y hy k0 hlm hk0 hE
   ·exact hne k0 y.2 (by omega) hlt (by rw [hk0]; exact hy) hh
  ·have em := Option.some.inj (hmet.symm.trans e)
   subst em
   dsimp only
   obtain ⟨kb, _, hE⟩ := g.in1 (Bh prog w kx, v) (List.mem_map.mpr ⟨_, hL, rfl⟩)
   obtain ⟨b, eb, hb, hbh⟩ := id hE
   dsimp only at eb hbh
   subst eb
   have rest : wpAny (model prog w) A (do
     let some (_, y) := es[i]? | unsupported "internal:set-entry"
     let equal ← holding [y] (eqBool y (.ref x))
     let (es', _, t') ← setState S
     if true && equal then return SetFound.there none
     let some sam := t'.sameMemory t.moves t.mask | unsupported "set.changed-during-lookup:is-the-new-block-at-the-old-address"
     let still ← match (if sam then t'.slot (pos t.mask (Bh prog w kx) k) else .empty) with
      | .live i' => match es'[i']? with
       | some (_, y') => do pure (if ← isSame y' y then some i' else none)
       | none => pure none
      | _ => pure none
     match still with
     | none => rule "set.search.anew"; setSearchFrom S (.ref x) (Bh prog w kx) true f none
     | some i' => if equal then return SetFound.there (some i') else setSearchFrom S (.ref x) (Bh prog w kx) true f (some (itr t.mask (k + 1) (st0 t.mask (Bh prog w kx))))) Q E s := by
    rw [hes]
    dsimp only
    refine wpAny_bind (wpAny_holding (wpAny_eqBool_tuple hu hb hx ?_))
    refine wpAny_bind (wpAny_setState_of hS rfl r.fits ?_)
    dsimp only
    by_cases hk : kb = kx
    ·rw [decide_eq_true hk]
     simp only [Bool.and_self, if_true]
     exact wpAny_pure (q1 ⟨(Bh prog w kx, .ref b), List.mem_map.mpr ⟨_, hL, rfl⟩, hk ▸ hE⟩)
    ·rw [decide_eq_false hk]
     simp only [Bool.and_false, Bool.false_eq_true, if_false]
     have hsm : t.sameMemory t.moves t.mask = some true := by unfold SetTable.sameMemory; simp
     rw [hsm]
     dsimp only
     simp only [if_true]
     rw [hsl]
     dsimp only
     rw [hes]
     dsimp only
     refine wpAny_bind (wpAny_isSame_ref_self (wpAny_bind (wpAny_pure ?_)))
     simp only [if_true]
     refine search_go hu r hS g hx hK hKk Kb q1 q2 f (k + 1) _ (by omega) (by omega) (fun y hy k' hk' ek' hEy => ?_) rfl
     have hh : y.2.1 = Bh prog w kx := by obtain ⟨b, _, _, h2⟩ := hEy; exact h2
     by_cases z1 : k' < m
     ·exact hno y hy k' z1 ek' hEy
     ·by_cases z2 : k' = k
      ·subst z2
       obtain ⟨i1, e1, s1, L1, s2⟩ := r.slot_live (List.mem_map_of_mem (f := (·.1)) hy)
       rw [← ek', hsl] at s1
       cases s1
       have hy2 : y.2 = e1 := by
        obtain ⟨i2, hi2, e2⟩ := List.getElem_of_mem hy
        obtain ⟨hi1, e3⟩ := List.getElem?_eq_some_iff.mp L1
        have : i2 = i := by
         rcases Nat.lt_trichotomy i2 i with z | z | z
         ·have := List.pairwise_iff_getElem.mp r.up i2 i (by simpa using hi2) (by simpa using hi1) z
          simp [e2, e3] at this
         ·exact z
         ·have := List.pairwise_iff_getElem.mp r.up i i2 (by simpa using hi1) (by simpa using hi2) z
          simp [e2, e3] at this
        subst this
        rw [e2] at e3
        rw [e3]
       rw [hes] at s2
       cases s2
       rw [hy2] at hEy
       exact hk (hE.inj hEy)
      ·exact hne k' y.2 (by omega) (by omega) (by rw [ek']; exact hy) hh
   by_cases hled : t.led = true
   ·rw [hled]
    simp only [Bool.not_true, Bool.false_eq_true, if_false]
    exact rest
   ·have hled' : t.led = false := by simpa using hled
    rw [hled']
    simp only [Bool.not_false, if_true]
    refine wpAny_bind (bt_unseen hx (fun y hy => ?_) ?_)
    ·obtain ⟨e1, he1, rfl⟩ := List.mem_map.mp hy
     have he2 : e1 ∈ L.map (·.2) := by
      have h3 : e1 ∈ es.toList := by
       have := (Array.mem_filter.mp (Array.mem_toList_iff.mp he1)).1
       exact Array.mem_toList_iff.mpr this
      rw [r.es] at h3
      exact h3
     obtain ⟨k1, _, b1, eb1, hb1, _⟩ := g.in1 e1 he2
     exact ⟨k1, b1, eb1, hb1⟩
    ·simp only [Bool.false_eq_true, if_false]
     exact rest
end
end My
namespace My
open PySem PySem.Spec PySem.W
open Tb
section
variable {prog : Program} {w : World} {A : Around} {E : Value → Shared → Prop} {s : Shared}
theorem store_set {S : Addr} {es es' : Array (Int × Value)} {ep : Nat} {t t' : SetTable} {Q : Unit → Shared → Prop} (hS : s.heap.get? S = some (setObj es ep t)) (hz : es'.size ≤ sizeLine)
  (h : ∀ h', h'.get? S = some (setObj es' (ep + 1) t') → Heap.SameBut S s.heap h' → Q () { s with heap := h' }) : wpAny (model prog w) A (storeSet S es' t') Q E s := by
 refine wpAny_storeSet_of hS rfl (h _ ?_ (Heap.SameBut.update s.heap S (Obj.putSet es' t'))) hz
 have e := Heap.get?_update_self (Obj.putSet es' t') hS (by rfl)
 exact e
theorem sb_tuple {S : Addr} {es : Array (Int × Value)} {ep : Nat} {t : SetTable} {h h' : Heap} (hS : h.get? S = some (setObj es ep t)) (sb : Heap.SameBut S h h') : ∀ a o, o.cls = .type "tuple" → h.get? a = some o → h'.get? a = some o := fun a o hc ho => by
 have hne : a ≠ S := by
  rintro rfl
  rw [hS] at ho
  cases ho
  simp at hc
 exact (sb.2 a hne).trans ho
theorem add_tup (hu : A.units + 1 < cLine) {S : Addr} {ep : Nat} {es : Array (Int × Value)} {t : SetTable} {L : List (Nat × (Int × Value))} {D : List (List Bool)} (r : Rep L es t) (r5 : Room5 L t) (hb : L.length < 76) (hS : s.heap.get? S = some (setObj es ep t)) (g : Good prog w s.heap (L.map (·.2)) D)
  {x : Addr} {kx : List Bool} (hx : Bt prog w s.heap kx x) {Q : Bool → Shared → Prop}
  (q : ∀ (b : Bool) (h' : Heap) (tk : Nat) (L' : List (Nat × (Int × Value))) (es' : Array (Int × Value)) (ep' : Nat) (t' : SetTable), h'.get? S = some (setObj es' ep' t') → Heap.SameBut S s.heap h' → Rep L' es' t' → Room5 L' t' → t'.led = t.led → t'.plain = t.plain →
   Good prog w h' (L'.map (·.2)) (D ++ [kx]) → L'.length ≤ L.length + 1 → (∀ e ∈ L'.map (·.2), e ∈ L.map (·.2) ∨ e.2 = .ref x) → Q b { s with heap := h', toks := tk }) : wpAny (model prog w) A (setAdd S (.ref x)) Q E s := by
 unfold setAdd
 refine wpAny_holding (wpAny_bind (wpAny_pyHash_tuple (by omega) hx ?_))
 unfold setAddHashed setAddHashedIn
 refine wpAny_holding (wpAny_bind (wpAny_setState_of (s := { s with toks := s.toks + (kx.length + 1) }) hS rfl r.fits ?_))
 dsimp only
 have hbs : byScan (.ref x) es = false := by unfold byScan; rfl
 rw [hbs]
 simp only [Bool.false_eq_true, if_false]
 have hm : t.mask ≤ 127 := by rcases r.mz with e | e | e <;> rw [e] <;> decide
 obtain ⟨K, Kb, hK, hKk⟩ := first_free r.mz (Bh prog w kx) (l := L.map (·.1)) (by rw [List.length_map]; exact r.fl)
 unfold setSearch
 refine wpAny_bind (search_go (s := { s with toks := s.toks + (kx.length + 1) }) (by omega) r hS g hx hK hKk Kb (fun hex => ?_) (fun hno => ?_) 100000 0 none (Nat.zero_le _) (by omega) (fun y _ k hk => absurd hk (Nat.not_lt_zero _)) rfl)
 ·dsimp only
  refine wpAny_pure (q false s.heap _ L es ep t hS (Heap.SameBut.refl S s.heap) r r5 rfl rfl ⟨fun e he => ?_, fun k hk => ?_, g.one⟩ (Nat.le_succ _) fun e he => .inl he)
  ·obtain ⟨k, h1, h2⟩ := g.in1 e he
   exact ⟨k, List.mem_append_left _ h1, h2⟩
  ·rcases List.mem_append.mp hk with hk | hk
   ·exact g.in2 k hk
   ·rw [List.mem_singleton.mp hk]
    exact hex
 ·dsimp only
  refine wpAny_bind (wpAny_setState_of (s := { s with toks := s.toks + (kx.length + 1) }) hS rfl r.fits ?_)
  dsimp only
  have hesz : es.size = L.length := by rw [r.es]; simp
  have r' := r.put (x := .ref x) hK hKk (by unfold Room5 at r5; omega)
  have hput : (t.put (pos t.mask (Bh prog w kx) K)).1.plain = t.plain ∧ (t.put (pos t.mask (Bh prog w kx) K)).1.led = t.led ∧ (t.put (pos t.mask (Bh prog w kx) K)).1.mask = t.mask := ⟨rfl, rfl, rfl⟩
  generalize hT : t.put (pos t.mask (Bh prog w kx) K) = T at r' hput ⊢
  obtain ⟨t1, p⟩ := T
  dsimp only at r' hput ⊢
  obtain ⟨hpl, hld, hmk⟩ := hput
  have hperm := ins_perm (L := L) (pos t.mask (Bh prog w kx) K) (Bh prog w kx, Value.ref x)
  generalize hL' : ins L (pos t.mask (Bh prog w kx) K) (Bh prog w kx, Value.ref x) = L1 at r' hperm
  have hlen : L1.length = L.length + 1 := by rw [hperm.length_eq]; rfl
  have hsz : (SetTable.insertAt es p (Bh prog w kx, Value.ref x)).size = L1.length := by rw [r'.es]; simp
  have good : ∀ h', Heap.SameBut S s.heap h' → Good prog w h' (L1.map (·.2)) (D ++ [kx]) := fun h' sb => by
   refine Good.mono ?_ (sb_tuple hS sb)
   refine Good.perm (Es := (Bh prog w kx, Value.ref x) :: L.map (·.2)) ⟨fun e he => ?_, fun k hk => ?_, List.pairwise_cons.mpr ⟨fun e he k h1 h2 => ?_, g.one⟩⟩ (hperm.map (·.2))
   ·rcases List.mem_cons.mp he with rfl | he
    ·exact ⟨kx, List.mem_append_right _ (List.mem_singleton.mpr rfl), x, rfl, hx, rfl⟩
    ·obtain ⟨k, h1, h2⟩ := g.in1 e he
     exact ⟨k, List.mem_append_left _ h1, h2⟩
   ·rcases List.mem_append.mp hk with hk | hk
    ·obtain ⟨e, h1, h2⟩ := g.in2 k hk
     exact ⟨e, List.mem_cons_of_mem _ h1, h2⟩
    ·rw [List.mem_singleton.mp hk]
     exact ⟨_, List.mem_cons_self, x, rfl, hx, rfl⟩
   ·have : k = kx := h1.inj ⟨x, rfl, hx, rfl⟩
    subst this
    exact hno e he h2
  have mem1 : ∀ e ∈ L1.map (·.2), e ∈ L.map (·.2) ∨ e.2 = .ref x := fun e he => by
   have := (hperm.map (·.2)).mem_iff.mp he
   rcases List.mem_cons.mp this with z | z
   ·exact .inr (by rw [z])
   ·exact .inl z
  have body : wpAny (model prog w) A (do
    storeSet S (SetTable.insertAt es p (Bh prog w kx, Value.ref x)) t1
    if (!false && t1.tooFull) = true then do
     setRelay S (SetTable.grown (es.size + 1))
     pure true
    else pure true) Q E { s with toks := s.toks + (kx.length + 1) } := by
   refine wpAny_bind (store_set (s := { s with toks := s.toks + (kx.length + 1) }) hS (by rw [hsz, sizeLine_eq]; omega) fun h1 hS1 sb1 => ?_)
   have htf : t1.tooFull = decide (t1.mask * 3 ≤ L1.length * 5) := by
    unfold SetTable.tooFull SetTable.fill
    rw [r'.pl, r'.dm]
    simp
   by_cases hfull : t1.mask * 3 ≤ L1.length * 5
   ·rw [htf, decide_eq_true hfull]
    simp only [Bool.not_false, Bool.and_self, if_true]
    obtain ⟨hsa, t2, order, L2, e1, e2, e3, r2, pm, r52⟩ := relaid_rep r' (by omega) (by unfold Room5 at r5; rw [hmk, hlen]; omega) hfull
    have hgr : SetTable.grown (es.size + 1) = SetTable.grown L1.length := by rw [hesz, hlen]
    rw [hgr]
    unfold setRelay
    refine wpAny_bind (wpAny_bind (wpAny_setState_of (s := { s with heap := h1, toks := s.toks + (kx.length + 1) }) hS1 rfl r'.fits ?_))
    dsimp only
    rw [if_neg (by rw [sizeLine_eq]; omega), e1]
    have hs2 : (order.filterMap ((SetTable.insertAt es p (Bh prog w kx, Value.ref x))[·]?)).size = L1.length := by
     rw [r2.es]
     have h6 := pm.length_eq
     simpa using h6
    refine wpAny_bind (show wpAny _ _ (if ((order.filterMap ((SetTable.insertAt es p (Bh prog w kx, Value.ref x))[·]?)).size != (SetTable.insertAt es p (Bh prog w kx, Value.ref x)).size) = true then _ else pure (order.filterMap ((SetTable.insertAt es p (Bh prog w kx, Value.ref x))[·]?), t2)) _ _ _ from ?_)
    rw [if_neg (by rw [hs2, hsz]; simp)]
    refine wpAny_pure ?_
    dsimp only
    refine store_set (s := { s with heap := h1, toks := s.toks + (kx.length + 1) }) hS1 (by rw [hs2, sizeLine_eq]; omega) fun h2 hS2 sb2 => ?_
    refine wpAny_pure (q true h2 _ L2 _ _ t2 hS2 (sb1.trans sb2) r2 r52 (e2.trans hld) (e3.trans hpl) ((good h2 (sb1.trans sb2)).perm pm) ?_ fun e he => mem1 e (pm.mem_iff.mp he))
    have h6 := pm.length_eq
    simp at h6
    omega
   ·rw [htf, decide_eq_false hfull]
    simp only [Bool.and_false, Bool.false_eq_true, if_false]
    exact wpAny_pure (q true h1 _ L1 _ _ t1 hS1 sb1 r' (by unfold Room5; omega) hld hpl (good h1 sb1) (by omega) mem1)
  split
  ·refine wpAny_bind (bt_byValue (s := { s with toks := s.toks + (kx.length + 1) }) hx ?_)
   simp only [if_true]
   exact body
  ·refine wpAny_bind (wpAny_pure ?_)
   simp only [if_true]
   exact body
end
end My
namespace My
open PySem PySem.Spec PySem.W
open Tb
section
variable {prog : Program} {w : World} {A : Around} {E : Value → Shared → Prop} {s : Shared}
abbrev byT (w : World) : Bool := w.params.followText "set-order"
abbrev emptySet (w : World) : Obj := setObj #[] 0 (.fresh 0 0 (!byT w))
theorem set_new (a : Value) {Q₁ : Value → Shared → Prop} (h : Q₁ (.ref s.heap.objs.size) { s with heap := s.heap.push (emptySet w) }) :
  codeAny (model prog w) A (.call (.builtin "set.__new__") ⟨[.type "set", a], []⟩) (wants Q₁ E) s := by
 refine codeAny_of_tree (show wpAny _ A.in1 (do checkBuiltinCall "set.__new__" ⟨[.type "set", a], []⟩; again (.builtin "set.__new__" ⟨[.type "set", a], []⟩)) _ _ s from ?_)
 refine wpAny_bind (wpAny_of_eq (PySem.F.newCall_set_1 a) (wpAny_pure ⟨plainId_quiet PySem.F.plain_set_new _, ?_⟩))
 refine codeAny_builtin PySem.F.entry_set_new (by
  rw [Around.under_plainId PySem.F.plain_set_new _]
  unfold Builtin.«set.__new__» Builtin.Frozenset.newClass
  have hsub := sub_set_self
  obtain ⟨hp, g, d, tk, os⟩ := s
  dsimp only
  wp_walk
  refine wpAny_askSetting (wpAny_pure ?_)
  dsimp only
  simp only [newObj]
  exact wpAny_bind (wpAny_alloc (wpAny_pure (wpAny_pure h))))
theorem set_fill {I S : Addr} {fp wr : List Addr} {n : Nat} {P : Nat → Value → Prop} {St : Nat → Heap → Prop} (W : Walks prog w A.in1 I fp wr n P St) (hSf : S ∉ fp) (J : Nat → Heap → Prop) (hJ : ∀ i h h', J i h → (∀ b o, b ∉ wr → h.get? b = some o → h'.get? b = some o) → J i h')
  (add : ∀ i v (s' : Shared) (Q : Bool → Shared → Prop) (E' : Value → Shared → Prop), i < n → P i v → J i s'.heap → (∀ b h' tk, Heap.SameBut S s'.heap h' → J (i + 1) h' → Q b { s' with heap := h', toks := tk }) → wpAny (model prog w) A.in1 (setAdd S v) Q E' s')
  {R : Result → Shared → Prop} (h₀ : Heap) (hR : ∀ (s' : Shared) h' tk, J n h' → (∀ b o, b ≠ S → b ∉ wr → h₀.get? b = some o → h'.get? b = some o) → s' = { s with heap := h', toks := tk } → R (.ok (.ret .none)) s') :
  ∀ (k i : Nat) (h : Heap) (tk : Nat), n - i = k → i ≤ n → St i h → J i h → (∀ b o, b ≠ S → b ∉ wr → h₀.get? b = some o → h.get? b = some o) → codeAny (model prog w) A (.builtin "set.update.loop" ⟨[.ref S, .ref I], []⟩) R { s with heap := h, toks := tk } := by
 intro k
 induction k with
 | zero =>
  intro i h tk hk hi st j keep
  have e : i = n := by omega
  subst e
  refine codeAny_builtin PyProof.Rows.F.entry_set_update_loop ?_
  rw [Around.under_plainId PyProof.Rows.F.plain_set_update_loop _]
  refine (show wpAny _ A.in1 (pyNext (.ref I) >>= _) _ _ _ from wpAny_bind (W.done { s with heap := h, toks := tk } _ _ st fun h' tk' hk' => ?_))
  exact (show wpAny _ A.in1 (ret Value.none) _ _ _ from wpAny_pure (hR _ h' tk' (hJ _ _ _ j hk') (fun b o h1 h2 h3 => hk' b o h2 (keep b o h1 h2 h3)) rfl))
 | succ k ih =>
  intro i h tk hk hi st j keep
  have hlt : i < n := by omega
  refine codeAny_builtin PyProof.Rows.F.entry_set_update_loop ?_
  rw [Around.under_plainId PyProof.Rows.F.plain_set_update_loop _]
  refine (show wpAny _ A.in1 (pyNext (.ref I) >>= _) _ _ _ from wpAny_bind (W.item i { s with heap := h, toks := tk } _ _ hlt st fun v h' tk' hP st' hk' => ?_))
  refine (show wpAny _ A.in1 (holding [v] (setAdd S v) >>= _) _ _ _ from wpAny_bind (wpAny_holding (add i v { s with heap := h', toks := tk' } _ _ hlt hP (hJ _ _ _ j hk') fun b h'' tk'' sb j' => ?_)))
  refine wpAny_pure ⟨plainId_quiet PyProof.Rows.F.plain_set_update_loop _, ih (i + 1) h'' tk'' (by omega) hlt ?_ j' fun b o h1 h2 h3 => ?_⟩
  ·exact W.frame _ _ _ st' fun b hb o e => (sb.2 b fun z => hSf (z ▸ hb)).trans e
  ·exact (sb.2 b h1).trans (hk' b o h2 (keep b o h1 h2 h3))
set_option maxHeartbeats 3200000 in
theorem set_of_seq {T : String} {l : Addr} {items : Array Value} {Q : Value → Shared → Prop} (n1 : isSubtype (.type T) (.type "set") = pure false) (n2 : isSubtype (.type T) (.type "frozenset") = pure false) (n3 : (Value.type T == Value.type "dict") = false) (hh : A.handled = none) (ol : Obj) (hol : s.heap.get? l = some ol) (hcl : ol.cls = .type T)
  (hit : ∀ (A' : Around) (s' : Shared) (E' : Value → Shared → Prop) (Q' : Value → Shared → Prop), A'.handled = none → s'.heap.get? l = some ol → (∀ (oI : Obj) (St : Nat → Heap → Prop), (∀ A'' : Around, A''.handled = none → Walks prog w A'' s'.heap.objs.size [s'.heap.objs.size, l] [s'.heap.objs.size] items.size (fun i v => items[i]? = some v) St) → St 0 (s'.heap.push oI) → Q' (.ref s'.heap.objs.size) { s' with heap := s'.heap.push oI }) → wpAny (model prog w) A' (pyIter (.ref l)) Q' E' s') (J : Nat → Heap → Prop) (hJ : ∀ i h h', J i h → (∀ b o, b ≠ s.heap.objs.size + 1 → h.get? b = some o → h'.get? b = some o) → J i h')
  (j0 : J 0 (s.heap.push (emptySet w)))
  (add : ∀ i v (A' : Around) (s' : Shared) (Q : Bool → Shared → Prop) (E' : Value → Shared → Prop), A'.units ≤ A.units + 8 → items[i]? = some v → J i s'.heap → (∀ b h' tk, Heap.SameBut s.heap.objs.size s'.heap h' → J (i + 1) h' → Q b { s' with heap := h', toks := tk }) → wpAny (model prog w) A' (setAdd s.heap.objs.size v) Q E' s')
  (h : ∀ (h' : Heap) (tk : Nat), J items.size h' → (∀ b o, s.heap.get? b = some o → h'.get? b = some o) → Q (.ref s.heap.objs.size) { s with heap := h', toks := tk }) :
  wpAny (model prog w) A (call (.type "set") [.ref l]) Q E s := by
 obtain ⟨c, tl, hmro⟩ := PySem.F.called_set.mro
 have hmade := PySem.F.called_set.made
 have hsub := PySem.F.called_set.sub
 refine wpAny_call (codeAny_of_tree (show wpAny _ _ (callAny (.type "set") _) _ _ _ from wpAny_pure ⟨Code.quiet_builtin _ (by decide +kernel), codeAny_builtin PySem.F.entry_type_call ?_⟩))
 rw [Around.under_plain (weight_type_call_type "set" [.ref l] []) rfl]
 have t1 := PySem.F.called_set.notType
 have t2 := PySem.F.called_set.canCreate
 have t3 := PySem.F.typeCall_set_1 (.ref l)
 repeat any_goals first | assumption | wp_step
 refine codeAny_mono (set_new (.ref l) (E := E) (Q₁ := fun obj s₁ => obj = .ref s.heap.objs.size ∧ s₁ = { s with heap := s.heap.push (emptySet w) }) ⟨rfl, rfl⟩) fun r s₁ hr => ?_
 cases r with
 | error e => exact hr
 | ok fl =>
  cases fl with
  | ret obj =>
   obtain ⟨rfl, rfl⟩ := hr
   have hS : (s.heap.push (emptySet w)).get? s.heap.objs.size = some (emptySet w) := Heap.get?_push_size _ rfl
   have hT : Shared.TypeIs { s with heap := s.heap.push (emptySet w) } (.ref s.heap.objs.size) "set" := ⟨_, hS, rfl⟩
   have i1 := PySem.F.called_set.init.lookup
   have i2 := PySem.F.called_set.init.bind (.ref s.heap.objs.size)
   repeat any_goals first | assumption | wp_step
   refine codeAny_mono (codeAny_call_builtin (R := wants (fun r s₂ => r = .none ∧ ∃ h' tk, s₂ = { s with heap := h', toks := tk } ∧ J items.size h' ∧ ∀ b o, s.heap.get? b = some o → h'.get? b = some o) E) PySem.F.called_set.init.plain PySem.F.entry_set_init (check_set_init_1 hT ?_)) fun r₂ s₂ hr₂ => ?_
   ·obtain ⟨ocls, odict, odata, oslots⟩ := ol
    simp only at hcl
    subst hcl
    have hol' : (s.heap.push (emptySet w)).get? l = some { cls := .type T, dict := odict, data := odata, slots := oslots } := Heap.get?_push_of_some _ hol
    unfold Builtin.«set.__init__» noKeywords Builtin.Frozenset.updateFrom
    generalize hPI : pyIter = PI
    wp_walk
    subst hPI
    refine hit _ _ _ _ (by simp [hh]) hol' fun oI St W st => (wpAny_bind (wpAny_runValue ?_))
    have lS : l < s.heap.objs.size := Heap.lt_size hol
    have esz : (s.heap.push (emptySet w)).objs.size = s.heap.objs.size + 1 := Heap.size_push _ _
    have hSf : s.heap.objs.size ∉ [(s.heap.push (emptySet w)).objs.size, l] := by
     rw [esz]
     simp only [List.mem_cons, List.not_mem_nil, or_false, not_or]
     exact ⟨Nat.ne_of_lt (Nat.lt_succ_self _), Nat.ne_of_gt lS⟩
    refine set_fill (s := s) (W _ (by simp [hh])) hSf J (fun i h h' j k => hJ i h h' j fun b o hb e => k b o (by rw [esz]; simpa using hb) e)
     (fun i v s' Q' E' hi hv j q => add i v _ s' Q' E' (by simp only [Around.in1_units]; omega) hv j q) s.heap ?_ (items.size - 0) 0 _ s.toks (by omega) (Nat.zero_le _) st (hJ 0 _ _ j0 fun b o _ e => Heap.get?_push_of_some _ e) fun b o _ _ e => Heap.get?_push_of_some _ (Heap.get?_push_of_some _ e)
    rintro s' h' tk j keep rfl
    refine (show wpAny _ _ _ _ _ _ from wpAny_pure (show wpAny _ _ (ret Value.none) _ _ _ from wpAny_pure ⟨rfl, h', tk, rfl, j, fun b o e => keep b o (Nat.ne_of_lt (Heap.lt_size e)) ?_ e⟩))
    rw [esz]
    have := Heap.lt_size e
    simp only [List.mem_singleton]
    exact Nat.ne_of_lt (Nat.lt_succ_of_lt this)
   ·cases r₂ with
    | error e => exact hr₂
    | ok fl₂ =>
     cases fl₂ with
     | ret r =>
      obtain ⟨rfl, h', tk, rfl, j, hk'⟩ := hr₂
      repeat any_goals first | assumption | wp_step
      exact h _ _ j hk'
     | _ => exact hr₂.elim
  | _ => exact hr.elim
theorem set_of_list {l : Addr} {items : Array Value} {Q : Value → Shared → Prop} (hh : A.handled = none) (hl : s.heap.IsList l items) (J : Nat → Heap → Prop) (hJ : ∀ i h h', J i h → (∀ b o, b ≠ s.heap.objs.size + 1 → h.get? b = some o → h'.get? b = some o) → J i h')
  (j0 : J 0 (s.heap.push (emptySet w)))
  (add : ∀ i v (A' : Around) (s' : Shared) (Q : Bool → Shared → Prop) (E' : Value → Shared → Prop), A'.units ≤ A.units + 8 → items[i]? = some v → J i s'.heap → (∀ b h' tk, Heap.SameBut s.heap.objs.size s'.heap h' → J (i + 1) h' → Q b { s' with heap := h', toks := tk }) → wpAny (model prog w) A' (setAdd s.heap.objs.size v) Q E' s')
  (h : ∀ (h' : Heap) (tk : Nat), J items.size h' → (∀ b o, s.heap.get? b = some o → h'.get? b = some o) → Q (.ref s.heap.objs.size) { s with heap := h', toks := tk }) :
  wpAny (model prog w) A (call (.type "set") [.ref l]) Q E s := by
 obtain ⟨ol, hol, hcl, nl, hdl⟩ := hl
 refine set_of_seq (T := "list") PySem.F.sub_list_set PySem.F.sub_list_frozenset (by decide) hh ol hol hcl (fun A' s' E' Q' hA' hol' k => ?_) J hJ j0 add h
 have hl1 : s'.heap.IsList l items := ⟨ol, hol', hcl, nl, hdl⟩
 exact wpAny_pyIter_list hl1 (k _ _ (fun A'' hA'' => Walks.list hA'' _ l (Nat.ne_of_lt (Heap.lt_size hol')) items) ⟨⟨_, Heap.get?_push_size _ rfl, rfl, rfl⟩, hl1.push _⟩)
theorem sub_tuple_set : isSubtype (.type "tuple") (.type "set") = pure false := by rw [isSubtype_type]; kernel_rfl
theorem sub_tuple_frz : isSubtype (.type "tuple") (.type "frozenset") = pure false := by rw [isSubtype_type]; kernel_rfl
theorem set_of_tuple {l : Addr} {items : Array Value} {Q : Value → Shared → Prop} (hh : A.handled = none) (hl : s.heap.IsTuple l items) (J : Nat → Heap → Prop) (hJ : ∀ i h h', J i h → (∀ b o, b ≠ s.heap.objs.size + 1 → h.get? b = some o → h'.get? b = some o) → J i h')
  (j0 : J 0 (s.heap.push (emptySet w)))
  (add : ∀ i v (A' : Around) (s' : Shared) (Q : Bool → Shared → Prop) (E' : Value → Shared → Prop), A'.units ≤ A.units + 8 → items[i]? = some v → J i s'.heap → (∀ b h' tk, Heap.SameBut s.heap.objs.size s'.heap h' → J (i + 1) h' → Q b { s' with heap := h', toks := tk }) → wpAny (model prog w) A' (setAdd s.heap.objs.size v) Q E' s')
  (h : ∀ (h' : Heap) (tk : Nat), J items.size h' → (∀ b o, s.heap.get? b = some o → h'.get? b = some o) → Q (.ref s.heap.objs.size) { s with heap := h', toks := tk }) :
  wpAny (model prog w) A (call (.type "set") [.ref l]) Q E s := by
 obtain ⟨ol, hol, hcl, nl, hdl⟩ := hl
 refine set_of_seq (T := "tuple") sub_tuple_set sub_tuple_frz (by decide) hh ol hol hcl (fun A' s' E' Q' hA' hol' k => ?_) J hJ j0 add h
 have hl1 : s'.heap.IsTuple l items := ⟨ol, hol', hcl, nl, hdl⟩
 exact wpAny_pyIter_tuple hl1 (k _ _ (fun A'' hA'' => Walks.tuple hA'' _ l (Nat.ne_of_lt (Heap.lt_size hol')) items) ⟨⟨_, Heap.get?_push_size _ rfl, rfl, rfl⟩, hl1.push _⟩)
theorem set_of {l : Addr} {items : Array Value} {Q : Value → Shared → Prop} (hh : A.handled = none) (hl : s.heap.IsList l items ∨ s.heap.IsTuple l items) (J : Nat → Heap → Prop) (hJ : ∀ i h h', J i h → (∀ b o, b ≠ s.heap.objs.size + 1 → h.get? b = some o → h'.get? b = some o) → J i h')
  (j0 : J 0 (s.heap.push (emptySet w)))
  (add : ∀ i v (A' : Around) (s' : Shared) (Q : Bool → Shared → Prop) (E' : Value → Shared → Prop), A'.units ≤ A.units + 8 → items[i]? = some v → J i s'.heap → (∀ b h' tk, Heap.SameBut s.heap.objs.size s'.heap h' → J (i + 1) h' → Q b { s' with heap := h', toks := tk }) → wpAny (model prog w) A' (setAdd s.heap.objs.size v) Q E' s')
  (h : ∀ (h' : Heap) (tk : Nat), J items.size h' → (∀ b o, s.heap.get? b = some o → h'.get? b = some o) → Q (.ref s.heap.objs.size) { s with heap := h', toks := tk }) :
  wpAny (model prog w) A (call (.type "set") [.ref l]) Q E s := by
 rcases hl with hl | hl
 ·exact set_of_list hh hl J hJ j0 add h
 ·exact set_of_tuple hh hl J hJ j0 add h
end
end My
namespace My
open PySem PySem.Spec PySem.W
open Tb
theorem si_next : Slot "set_iterator" "__next__" "set_iterator.__next__" :=
 Slot.of (n := "__next__") (owner := "set_iterator") (by rw [typeLookup_type, builtinLookup_eq_fast]; kernel_rfl)
  (by decide +kernel) (by decide +kernel) (by decide +kernel) (by first | exact Or.inl (by decide +kernel) | exact Or.inr (by decide +kernel)) (by rw [isSubtype_type]; kernel_rfl)
theorem si_entry : entryFor table "set_iterator.__next__" = some Builtin.«set_iterator.__next__» := entryFor_of_tree (by kernel_rfl)
theorem si_owner : Manifest.owners.lookup (String.ofList "rotareti_tes".toList.reverse) = some Manifest.sig_set_iterator := by kernel_rfl
theorem si_args (a : Value) : argsOk "set_iterator.__next__" ⟨[a], []⟩ := by
 unfold argsOk
 rw [signature?_of (id := "set_iterator.__next__") (n := "__txen__".toList) (o := "rotareti_tes".toList) (by kernel_rfl) si_owner]
 kernel_rfl
theorem set_iter_entry : entryFor table "set.__iter__" = some Builtin.«frozenset.__iter__» := entryFor_alias (id' := "frozenset.__iter__") (by kernel_rfl) rfl (by decide +kernel) (by kernel_rfl)
section
variable {prog : Program} {w : World} {A : Around} {E : Value → Shared → Prop} {s : Shared}
abbrev iterObj (first : Value) (i : Nat) (S : Addr) (n ep : Nat) : Obj := { cls := .type "set_iterator", dict := none, data := .fields #[first, .int i 0, .ref S, .int n 0, .int ep 0], slots := #[] }
theorem next_text {S : Addr} {es : Array (Int × Value)} {ep : Nat} {t : SetTable} {slot given : Nat} {Q : Option (Value × Nat) → Shared → Prop} (hS : s.heap.get? S = some (setObj es ep t)) (hf : t.fits es.size = true) (hb : byT w = true)
  (h : Q (((pickOrder (w.params.setOrder S ep) es)[given]?).map fun e => (e.2, slot)) s) : wpAny (model prog w) A (setNext S slot given ep) Q E s := by
 unfold setNext
 refine wpAny_bind (wpAny_setState_of hS rfl hf ?_)
 unfold setsByText
 refine wpAny_bind (wpAny_bind (wpAny_askSetting (wpAny_pure ?_)))
 show wpAny _ _ (if byT w = true then _ else _) _ _ _
 rw [if_pos hb]
 dsimp only
 rw [if_neg (by simp)]
 unfold setWalk setsByText
 refine wpAny_bind (wpAny_bind (wpAny_setState_of hS rfl hf ?_))
 refine wpAny_bind (wpAny_bind (wpAny_askSetting (wpAny_pure ?_)))
 show wpAny _ _ (if byT w = true then _ else _) _ _ _
 rw [if_pos hb]
 refine wpAny_bind (wpAny_askSetting (wpAny_pure (wpAny_pure h)))
theorem next_place {S : Addr} {es : Array (Int × Value)} {ep : Nat} {t : SetTable} {slot given : Nat} {Q : Option (Value × Nat) → Shared → Prop} (hS : s.heap.get? S = some (setObj es ep t)) (hf : t.fits es.size = true) (hb : byT w = false) (hd : (!t.plain && decide (es.size > 1)) = false) (hl : t.led = true)
  (h : Q (match es[SetTable.below t.place slot]?, t.place[SetTable.below t.place slot]? with | some (_, x), some j => some (x, j + 1) | _, _ => none) s) : wpAny (model prog w) A (setNext S slot given ep) Q E s := by
 unfold setNext
 refine wpAny_bind (wpAny_setState_of hS rfl hf ?_)
 unfold setsByText
 refine wpAny_bind (wpAny_bind (wpAny_askSetting (wpAny_pure ?_)))
 show wpAny _ _ (if byT w = true then _ else _) _ _ _
 rw [if_neg (by rw [hb]; exact Bool.false_ne_true)]
 show wpAny _ _ (if (!t.plain && decide (es.size > 1)) = true then _ else _) _ _ _
 rw [hd, if_neg Bool.false_ne_true]
 refine wpAny_bind (show wpAny _ _ (if (!t.led && !es.isEmpty) = true then _ else pure ()) _ _ _ from ?_)
 rw [hl, if_neg (by simp)]
 refine wpAny_pure (wpAny_pure h)
theorem next_drawn {S : Addr} {es : Array (Int × Value)} {ep : Nat} {t : SetTable} {place : Nat} {x : Int × Value} {Q : Value → Shared → Prop} (hS : s.heap.get? S = some (setObj es ep t)) (hf : t.fits es.size = true) (hx : es[place]? = some x) (h : Q x.2 s) :
  wpAny (model prog w) A (setNextDrawn S place ep) Q E s := by
 unfold setNextDrawn
 refine wpAny_bind (wpAny_setState_of hS rfl hf ?_)
 dsimp only
 rw [if_neg (by simp), hx]
 exact wpAny_pure h
theorem stop_it {I : Addr} {h1 : Heap} {Q : Option Value → Shared → Prop} (hh : A.handled = none) (hQ : ∀ h', (∀ b o, h1.get? b = some o → h'.get? b = some o) → Q none { s with heap := h' }) {Q' : PySem.Fin → Shared → Prop} :
  wpAny (model prog w) A.in1 (do raiseNew (← newExc (.type "StopIteration") []) : Sem PySem.Fin) Q' (fun e s' => wpAny (model prog w) A (do if ← isInstance e (.type "StopIteration") then pure none else throw e) Q E s') { s with heap := h1 } := by
 refine wpAny_bind ?_
 simp only [newExc, newTuple]
 refine wpAny_bind (wpAny_newObj_type ?_ (by size_fits))
 refine wpAny_bind (m := firstArgMember _ _) (wpAny_of_eq (a := Value.none) (by first | rfl | (simp only [firstArgMember]; rfl)) (wpAny_newObj_type ?_ (by size_fits)))
 simp only [raiseNew]
 refine wpAny_bind (wpAny_handled ?_)
 rw [show A.in1.handled = none from hh]
 refine wpAny_bind (wpAny_pure (wpAny_throw ?_))
 refine wpAny_bind (wpAny_isInstance (b := true) (T := "StopIteration") ⟨_, Heap.get?_push_size _ rfl, rfl⟩ isSubtype_stop ?_)
 exact wpAny_pure (hQ _ fun b o e => Heap.get?_push_of_some _ (Heap.get?_push_of_some _ e))
end
end My
namespace My
open PySem PySem.Spec PySem.W
open Tb
section
variable {prog : Program} {w : World} {A : Around} {E : Value → Shared → Prop} {s : Shared}
theorem fld {I : Addr} {vs : Array Value} {k : Nat} {x : Value} {Q : Unit → Shared → Prop} (ho : s.heap.get? I = some { cls := .type "set_iterator", dict := none, data := .fields vs, slots := #[] }) (hk : k < vs.size)
  (h : ∀ h', h'.get? I = some { cls := .type "set_iterator", dict := none, data := .fields (vs.setIfInBounds k x), slots := #[] } → Heap.SameBut I s.heap h' → Q () { s with heap := h' }) : wpAny (model prog w) A (setField (.ref I) k x) Q E s := wpAny_setField_rec ho hk h
theorem pn_int {I S : Addr} {es : Array (Int × Value)} {ep slot i : Nat} {t : SetTable} {Q : Option Value → Shared → Prop} (hh : A.handled = none) (hI : s.heap.get? I = some (iterObj (.int slot 0) i S es.size ep)) (hS : s.heap.get? S = some (setObj es ep t)) (hf : t.fits es.size = true)
  {r : Option (Value × Nat)} (hn : ∀ (A' : Around) (E' : Value → Shared → Prop) (Q' : Option (Value × Nat) → Shared → Prop), Q' r s → wpAny (model prog w) A' (setNext S slot i ep) Q' E' s)
  (q1 : ∀ x nx h', r = some (x, nx) → h'.get? I = some (iterObj (.int nx 0) (i + 1) S es.size ep) → Heap.SameBut I s.heap h' → Q (some x) { s with heap := h' })
  (q2 : ∀ h', r = none → (∀ b o, b ≠ I → s.heap.get? b = some o → h'.get? b = some o) → Q none { s with heap := h' }) : wpAny (model prog w) A (pyNext (.ref I)) Q E s := by
 have hT : s.TypeIs (.ref I) "set_iterator" := ⟨_, hI, rfl⟩
 unfold pyNext
 refine wpAny_bind (wpAny_attempt (wpAny_callSpecial?_slot (name := Str.ofString "__next__") hT si_next (wpAny_call_entry si_next hT si_entry ?_ (si_args _))))
 unfold Builtin.«set_iterator.__next__»
 refine wpAny_bind (wpAny_pure (wpAny_bind (wpAny_fieldsOf hI rfl ?_)))
 dsimp only
 refine wpAny_bind (wpAny_setEntries_of hS rfl hf ?_)
 rw [if_neg (by simp)]
 simp only [Int.toNat_natCast]
 refine wpAny_bind (hn _ _ _ ?_)
 cases r with
 | some y =>
  obtain ⟨x, nx⟩ := y
  dsimp only
  refine wpAny_bind (fld hI (by simp) fun h1 e1 s1 => ?_)
  refine wpAny_bind (fld (s := { s with heap := h1 }) e1 (by simp) fun h2 e2 s2 => ?_)
  exact wpAny_pure ⟨_, rfl, wpAny_pure (q1 x nx h2 rfl (by unfold iterObj; simpa [rawInt] using e2) (s1.trans s2))⟩
 | none =>
  dsimp only
  refine wpAny_bind (fld hI (by simp) fun h1 e1 s1 => ?_)
  exact stop_it (I := I) hh fun h' k => q2 h' rfl fun b o hb e => k b o ((s1.2 b hb).trans e)
theorem pn_tup {I S T : Addr} {es : Array (Int × Value)} {ep i : Nat} {t : SetTable} {ps : List Nat} {c : Nat} {Q : Option Value → Shared → Prop} (hh : A.handled = none) (hI : s.heap.get? I = some (iterObj (.ref T) i S es.size ep)) (hS : s.heap.get? S = some (setObj es ep t)) (hf : t.fits es.size = true)
  (hT' : ∃ o, s.heap.get? T = some o ∧ o.data = .seq (ps.map fun (i : Nat) => rawInt i).toArray c)
  (q1 : ∀ p x h', ps[i]? = some p → es[p]? = some x → h'.get? I = some (iterObj (.ref T) (i + 1) S es.size ep) → Heap.SameBut I s.heap h' → Q (some x.2) { s with heap := h' }) (hp : ∀ p, ps[i]? = some p → ∃ x, es[p]? = some x)
  (q2 : ∀ h', ps[i]? = none → (∀ b o, b ≠ I → s.heap.get? b = some o → h'.get? b = some o) → Q none { s with heap := h' }) : wpAny (model prog w) A (pyNext (.ref I)) Q E s := by
 have hT : s.TypeIs (.ref I) "set_iterator" := ⟨_, hI, rfl⟩
 obtain ⟨oT, eT, dT⟩ := hT'
 unfold pyNext
 refine wpAny_bind (wpAny_attempt (wpAny_callSpecial?_slot (name := Str.ofString "__next__") hT si_next (wpAny_call_entry si_next hT si_entry ?_ (si_args _))))
 unfold Builtin.«set_iterator.__next__»
 refine wpAny_bind (wpAny_pure (wpAny_bind (wpAny_fieldsOf hI rfl ?_)))
 dsimp only
 refine wpAny_bind (wpAny_setEntries_of hS rfl hf ?_)
 rw [if_neg (by simp)]
 simp only [Int.toNat_natCast]
 refine wpAny_bind (wpAny_seqItems eT dT ?_)
 dsimp only
 cases hpi : ps[i]? with
 | some p =>
  have e : ((ps.map fun (i : Nat) => rawInt i).toArray)[i]? = some (rawInt p) := by simp [hpi]
  rw [e]
  obtain ⟨x, hx⟩ := hp p hpi
  show wpAny _ _ (setNextDrawn S (Int.toNat (p : Int)) ep >>= _) _ _ _
  rw [Int.toNat_natCast]
  refine wpAny_bind (next_drawn hS hf hx ?_)
  refine wpAny_bind (fld hI (by simp) fun h1 e1 s1 => ?_)
  exact wpAny_pure ⟨_, rfl, wpAny_pure (q1 p x h1 hpi hx (by unfold iterObj; simpa [rawInt] using e1) s1)⟩
 | none =>
  have e : ((ps.map fun (i : Nat) => rawInt i).toArray)[i]? = none := by simpa using hpi
  rw [e]
  dsimp only
  refine wpAny_bind (fld hI (by simp) fun h1 e1 s1 => ?_)
  refine wpAny_bind (fld (s := { s with heap := h1 }) e1 (by simp) fun h2 e2 s2 => ?_)
  exact stop_it (I := I) hh fun h' k => q2 h' hpi fun b o hb e => k b o ((s2.2 b hb).trans ((s1.2 b hb).trans e))
theorem si_iter : Slot "set_iterator" "__iter__" "set_iterator.__iter__" :=
 Slot.of (n := "__iter__") (owner := "set_iterator") (by rw [typeLookup_type, builtinLookup_eq_fast]; kernel_rfl)
  (by decide +kernel) (by decide +kernel) (by decide +kernel) (by first | exact Or.inl (by decide +kernel) | exact Or.inr (by decide +kernel)) (by rw [isSubtype_type]; kernel_rfl)
theorem si_iter_entry : entryFor table "set_iterator.__iter__" = some Builtin.«dict_keyiterator.__iter__» := entryFor_alias (id' := "dict_keyiterator.__iter__") (by kernel_rfl) rfl (by decide +kernel) (by kernel_rfl)
theorem si_iter_args (a : Value) : argsOk "set_iterator.__iter__" ⟨[a], []⟩ := by
 unfold argsOk
 rw [signature?_of (id := "set_iterator.__iter__") (n := "__reti__".toList) (o := "rotareti_tes".toList) (by kernel_rfl) si_owner]
 kernel_rfl
theorem self_it {I : Addr} {fs : Array Value} {Q : Value → Shared → Prop} (hI : s.heap.get? I = some { cls := .type "set_iterator", dict := none, data := .fields fs, slots := #[] }) (h : Q (.ref I) s) : wpAny (model prog w) A (pyIter (.ref I)) Q E s := by
 have hT : s.TypeIs (.ref I) "set_iterator" := ⟨_, hI, rfl⟩
 refine wpAny_pyIter_slot hT si_iter (wpAny_call_entry si_iter hT si_iter_entry ?_ (si_iter_args _))
 refine (show wpAny _ _ (ret (.ref I)) _ _ s from ?_)
 exact wpAny_pure ⟨_, rfl, "set_iterator", _, hT, si_next.lookup, h⟩
end
end My
namespace My
open PySem PySem.Spec PySem.W
open Tb
theorem erase_perm {α : Type} : ∀ {l : List α} {i : Nat} (hi : i < l.length), (l[i] :: l.eraseIdx i).Perm l
 | a :: l, 0, _ => .rfl
 | a :: l, i + 1, hi => by
  have hi' : i < l.length := by simpa using hi
  have ih := erase_perm hi'
  show (l[i] :: a :: l.eraseIdx i).Perm (a :: l)
  exact (List.Perm.swap _ _ _).trans (ih.cons a)
theorem pick_go {α : Type} (next : Nat → Nat) : ∀ (fuel k : Nat) (left : List α) (out : Array α), left.length ≤ fuel → (pickOrder.go next fuel k left out).toList.Perm (out.toList ++ left)
 | 0, k, left, out, h => by
  have : left = [] := List.length_eq_zero_iff.mp (by omega)
  subst this
  unfold pickOrder.go
  simp
 | f + 1, k, left, out, h => by
  unfold pickOrder.go
  cases hc : left[next k % left.length]? with
  | none =>
   dsimp only
   have : left = [] := by
    rcases left with _ | ⟨a, l⟩
    ·rfl
    ·exfalso
     rw [List.getElem?_eq_none_iff] at hc
     have := Nat.mod_lt (next k) (show 0 < (a :: l).length by simp)
     omega
   subst this
   simp
  | some x =>
   dsimp only
   obtain ⟨hi, e⟩ := List.getElem?_eq_some_iff.mp hc
   have ih := pick_go next f (k + 1) (left.eraseIdx (next k % left.length)) (out.push x) (by rw [List.length_eraseIdx_of_lt hi]; omega)
   refine ih.trans ?_
   rw [Array.toList_push, List.append_assoc]
   refine List.Perm.append_left _ ?_
   have := erase_perm hi
   rw [e] at this
   exact this
theorem pick_perm {α : Type} (next : Nat → Nat) (xs : Array α) : (pickOrder next xs).toList.Perm xs.toList := by
 have := pick_go next xs.size 0 xs.toList #[] (by simp)
 simpa [pickOrder] using this
section
variable {prog : Program} {w : World} {A : Around} {E : Value → Shared → Prop} {s : Shared}
theorem wp_choose' {src : Source} {n : Nat} {Q : Nat → Shared → Prop} (hn : n ≠ 0) (h : ∀ i d, i < n → Q i { s with drawn := d }) : wpAny (model prog w) A (choose src n) Q E s := fun Γ p hΓ => by
 unfold choose
 rw [Sem.wp_choose]
 exact ⟨hn, h _ _ (Nat.mod_lt _ (Nat.pos_of_ne_zero hn))⟩
theorem wp_drawOrder {α : Type} : ∀ (n : Nat) (xs : List α) (s : Shared) (Q : List α → Shared → Prop), xs.length ≤ n → (∀ ys d, ys.Perm xs → Q ys { s with drawn := d }) → wpAny (model prog w) A (drawOrder n xs) Q E s
 | 0, xs, s, Q, hn, h => by
  have : xs = [] := List.length_eq_zero_iff.mp (by omega)
  subst this
  unfold drawOrder
  exact wpAny_pure (h [] s.drawn .rfl)
 | n + 1, [], s, Q, _, h => by
  unfold drawOrder
  exact wpAny_pure (h [] s.drawn .rfl)
 | n + 1, x :: xs, s, Q, hn, h => by
  unfold drawOrder
  refine wpAny_bind (wp_choose' (by simp) fun i d hi => ?_)
  have e : (x :: xs)[i]? = some (x :: xs)[i] := List.getElem?_eq_getElem hi
  rw [e]
  dsimp only
  refine wpAny_bind (wp_drawOrder n ((x :: xs).eraseIdx i) { s with drawn := d } _ (by rw [List.length_eraseIdx_of_lt hi]; simp at hn ⊢; omega) fun ys d' p => ?_)
  exact wpAny_pure (h _ d' ((p.cons _).trans (erase_perm hi)))
theorem walk_int {I S : Addr} {es : Array (Int × Value)} {ep : Nat} {t : SetTable} (hh : A.handled = none) (hf : t.fits es.size = true) (hne : I ≠ S) (vs : List Value) (hlen : vs.length = es.size) (sl : Nat → Nat)
  (hr : ∀ i (s' : Shared) (A' : Around) (E' : Value → Shared → Prop) (Q' : Option (Value × Nat) → Shared → Prop), i ≤ es.size → s'.heap.get? S = some (setObj es ep t) → Q' ((vs[i]?).map fun v => (v, sl (i + 1))) s' → wpAny (model prog w) A' (setNext S (sl i) i ep) Q' E' s') :
  Walks prog w A I [I, S] [I] es.size (fun i v => vs[i]? = some v) (fun i h => h.get? I = some (iterObj (.int (sl i) 0) i S es.size ep) ∧ h.get? S = some (setObj es ep t)) where
 sub := fun b hb => by simp at hb; simp [hb]
 frame := fun i h h' st k => ⟨k I (by simp) _ st.1, k S (by simp) _ st.2⟩
 item := fun i s Q E hi st hQ => by
  refine pn_int (t := t) hh st.1 st.2 hf (fun A' E' Q' q => hr i s A' E' Q' (by omega) st.2 q) (fun x nx h' e eI sb => ?_) (fun h' e => ?_)
  ·cases hv : vs[i]? with
   | none => rw [hv] at e; cases e
   | some v =>
    rw [hv] at e
    cases e
    refine hQ _ h' s.toks hv ⟨eI, (sb.2 S (Ne.symm hne)).trans st.2⟩ fun b o hb e => (sb.2 b fun z => hb (by simp [z])).trans e
  ·have : vs[i]? = some vs[i] := List.getElem?_eq_getElem (by omega)
   rw [this] at e
   cases e
 done := fun s Q E st hQ => by
  refine pn_int (t := t) hh st.1 st.2 hf (fun A' E' Q' q => hr _ s A' E' Q' (Nat.le_refl _) st.2 q) (fun x nx h' e eI sb => ?_) (fun h' e k => ?_)
  ·have : vs[es.size]? = none := List.getElem?_eq_none (by omega)
   rw [this] at e
   cases e
  ·exact hQ h' s.toks fun b o hb e => k b o (fun z => hb (by simp [z])) e
 self := fun i s Q E st hQ => self_it st.1 hQ
theorem walk_tup {I S T : Addr} {es : Array (Int × Value)} {ep : Nat} {t : SetTable} {ps : List Nat} {c : Nat} (hh : A.handled = none) (hf : t.fits es.size = true) (hne : I ≠ S) (hnT : I ≠ T) (hp : ps.Perm (List.range es.size)) :
  Walks prog w A I [I, S, T] [I] es.size (fun i v => (ps.map fun p => (es.getD p (0, Value.none)).2)[i]? = some v) (fun i h => h.get? I = some (iterObj (.ref T) i S es.size ep) ∧ h.get? S = some (setObj es ep t) ∧ ∃ o, h.get? T = some o ∧ o.data = .seq (ps.map fun (i : Nat) => rawInt i).toArray c) where
 sub := fun b hb => by simp at hb; simp [hb]
 frame := fun i h h' st k => ⟨k I (by simp) _ st.1, k S (by simp) _ st.2.1, let ⟨o, e, d⟩ := st.2.2; ⟨o, k T (by simp) _ e, d⟩⟩
 item := fun i s Q E hi st hQ => by
  have hlen : ps.length = es.size := by rw [hp.length_eq, List.length_range]
  refine pn_tup (t := t) hh st.1 st.2.1 hf st.2.2 (fun p x h' e1 e2 eI sb => ?_) (fun p e => ?_) (fun h' e => ?_)
  ·refine hQ _ h' s.toks ?_ ⟨eI, (sb.2 S (Ne.symm hne)).trans st.2.1, let ⟨o, e, d⟩ := st.2.2; ⟨o, (sb.2 T (Ne.symm hnT)).trans e, d⟩⟩ fun b o hb e => (sb.2 b fun z => hb (by simp [z])).trans e
   have hps : p < es.size := (Array.getElem?_eq_some_iff.mp e2).1
   have e3 : es.getD p (0, Value.none) = x := by
    have := (Array.getElem?_eq_some_iff.mp e2).2
    simp [Array.getD, hps, this]
   show (ps.map fun p => (es.getD p (0, Value.none)).2)[i]? = some x.2
   rw [List.getElem?_map, e1]
   show some (es.getD p (0, Value.none)).2 = some x.2
   rw [e3]
  ·have hm := List.mem_range.mp (hp.mem_iff.mp (List.mem_of_getElem? e))
   exact ⟨es[p], by simp [hm]⟩
  ·have : ps[i]? = some ps[i] := List.getElem?_eq_getElem (by omega)
   rw [this] at e
   cases e
 done := fun s Q E st hQ => by
  have hlen : ps.length = es.size := by rw [hp.length_eq, List.length_range]
  have hn : ps[es.size]? = none := List.getElem?_eq_none (by omega)
  refine pn_tup (t := t) hh st.1 st.2.1 hf st.2.2 (fun p x h' e1 => by rw [hn] at e1; cases e1) (fun p e => by rw [hn] at e; cases e) (fun h' e k => ?_)
  exact hQ h' s.toks fun b o hb e => k b o (fun z => hb (by simp [z])) e
 self := fun i s Q E st hQ => self_it st.1 hQ
end
theorem below_zero {pl : List Nat} (hr : pl.Pairwise (· < ·)) : SetTable.below pl.toArray 0 = 0 := by
 obtain ⟨b1, b2, b3⟩ := below_spec hr 0
 rcases Nat.eq_zero_or_pos (SetTable.below pl.toArray 0) with e | e
 ·exact e
 ·have := b2 0 e
  omega
theorem below_next {pl : List Nat} (hr : pl.Pairwise (· < ·)) {i : Nat} (hi : i < pl.length) : SetTable.below pl.toArray (pl[i] + 1) = i + 1 := by
 obtain ⟨b1, b2, b3⟩ := below_spec hr (pl[i] + 1)
 have h1 : i < SetTable.below pl.toArray (pl[i] + 1) := by
  refine Classical.byContradiction fun hn => ?_
  have := b3 i (by omega) hi
  rw [getD_at hi] at this
  omega
 have h2 : ¬ i + 1 < SetTable.below pl.toArray (pl[i] + 1) := fun z => by
  have h3 := b2 (i + 1) z
  have h4 : i + 1 < pl.length := by omega
  have h5 := getD_mono (d := pl[i] + 1) hr (show i < i + 1 by omega) h4
  rw [getD_at hi] at h5
  omega
 omega
end My
namespace My
open PySem PySem.Spec PySem.W
open Tb
section
variable {prog : Program} {w : World} {A : Around} {E : Value → Shared → Prop} {s : Shared}
theorem slot0_it (a : Addr) : Builtin.Frozenset.slot0 "__iter__" ⟨[.ref a], []⟩ = pure a := rfl
theorem wp_setDrawn {S : Addr} {es : Array (Int × Value)} {ep : Nat} {t : SetTable} {Q : Bool → Shared → Prop} (hS : s.heap.get? S = some (setObj es ep t)) (hf : t.fits es.size = true) (h : Q (!byT w && (!t.plain && decide (es.size > 1))) s) : wpAny (model prog w) A (setDrawn S) Q E s := by
 unfold setDrawn
 refine wpAny_bind (wpAny_setState_of hS rfl hf ?_)
 unfold setsByText
 refine wpAny_bind (wpAny_bind (wpAny_askSetting (wpAny_pure ?_)))
 exact wpAny_pure h
theorem fits_len {t : SetTable} {n : Nat} (hf : t.fits n = true) : t.place.size = n := by
 unfold SetTable.fits at hf
 rw [Bool.and_eq_true] at hf
 exact eq_of_beq hf.1
theorem iter_set {S : Addr} {es : Array (Int × Value)} {ep : Nat} {t : SetTable} {Q : Value → Shared → Prop} (hS : s.heap.get? S = some (setObj es ep t)) (hf : t.fits es.size = true) (hled : t.led = !byT w) (hup : t.plain = true → t.place.toList.Pairwise (· < ·)) (hz : es.size ≤ sizeLine)
  (h : ∀ (I : Addr) (h1 : Heap) (d : Drawn) (fp : List Addr) (ws : List Value) (St : Nat → Heap → Prop), ws.Perm (es.toList.map (·.2)) → (∀ A' : Around, A'.handled = none → Walks prog w A' I fp [I] es.size (fun i v => ws[i]? = some v) St) → St 0 h1 → (∀ b ∈ fp, b = S ∨ s.heap.objs.size ≤ b) →
   (∀ b o, s.heap.get? b = some o → h1.get? b = some o) → s.heap.objs.size ≤ I → Q (.ref I) { s with heap := h1, drawn := d }) : wpAny (model prog w) A (pyIter (.ref S)) Q E s := by
 have hT : s.TypeIs (.ref S) "set" := ⟨_, hS, rfl⟩
 have hlt : S < s.heap.objs.size := Heap.lt_size hS
 refine wpAny_pyIter_slot hT PySem.F.slot_set_iter (wpAny_call_entry PySem.F.slot_set_iter hT set_iter_entry ?_ (PySem.F.args_set_iter_1 _))
 unfold Builtin.«frozenset.__iter__»
 refine wpAny_bind (wpAny_of_eq (slot0_it S) ?_)
 unfold Builtin.Frozenset.sizeOf
 refine wpAny_bind (wpAny_bind (wpAny_setEntries_of hS rfl hf (wpAny_pure ?_)))
 refine wpAny_bind (wp_setDrawn hS hf ?_)
 have byInt : ∀ (ws : List Value) (sl : Nat → Nat), sl 0 = 0 → ws.Perm (es.toList.map (·.2)) →
   (∀ i (s' : Shared) (A' : Around) (E' : Value → Shared → Prop) (Q' : Option (Value × Nat) → Shared → Prop), i ≤ es.size → s'.heap.get? S = some (setObj es ep t) → Q' ((ws[i]?).map fun v => (v, sl (i + 1))) s' → wpAny (model prog w) A' (setNext S (sl i) i ep) Q' E' s') →
   wpAny (model prog w) A.in1 (do let first ← pure (rawInt 0); ret (← newFields "set_iterator" [first, rawInt 0, .ref S, rawInt es.size, rawInt (← setEpoch S)]))
    (fun fin s' => ∃ r, fin = .done (.ret r) ∧ ∃ T' r', s'.TypeIs r T' ∧ typeLookup (.type T') "__next__" = pure (some r') ∧ Q r s') E s := by
  intro ws sl h0 hp hr
  have hl : ws.length = es.size := by rw [hp.length_eq]; simp
  refine wpAny_bind (wpAny_pure (wpAny_bind (wpAny_setEpoch_of hS rfl hf (wpAny_bind ?_))))
  unfold newFields
  refine wpAny_newObj_type (wpAny_pure ⟨_, rfl, "set_iterator", _, ⟨_, Heap.get?_push_size _ rfl, rfl⟩, si_next.lookup, ?_⟩)
  refine h _ _ s.drawn [s.heap.objs.size, S] ws _ hp (fun A' hA' => walk_int hA' hf (Nat.ne_of_gt hlt) ws hl sl hr) ⟨?_, Heap.get?_push_of_some _ hS⟩ (fun b hb => ?_) (fun b o e => Heap.get?_push_of_some _ e) (Nat.le_refl _)
  ·rw [h0]
   exact Heap.get?_push_size _ rfl
  ·rcases List.mem_cons.mp hb with rfl | hb
   ·exact .inr (Nat.le_refl _)
   ·exact .inl (List.mem_singleton.mp hb)
 cases hb : byT w with
 | true =>
  simp only [Bool.not_true, Bool.false_and, Bool.false_eq_true, if_false]
  refine byInt ((pickOrder (w.params.setOrder S ep) es).toList.map (·.2)) (fun _ => 0) rfl ((pick_perm _ es).map _) fun i s' A' E' Q' hi hS' q => next_text hS' hf hb ?_
  rw [List.getElem?_map, Array.getElem?_toList, Option.map_map] at q
  exact q
 | false =>
  have hled' : t.led = true := by rw [hled, hb]; rfl
  cases hd : (!t.plain && decide (es.size > 1)) with
  | true =>
   simp only [Bool.not_false, Bool.and_self, if_true]
   refine wpAny_bind (wp_drawOrder es.size (List.range es.size) s _ (by simp) fun ps d hp => ?_)
   have hpl : ps.length = es.size := by rw [hp.length_eq, List.length_range]
   refine wpAny_bind (wpAny_newTuple ?_ (by rw [List.length_map, hpl]; exact hz))
   refine wpAny_bind (wpAny_setEpoch_of (s := { s with heap := _, drawn := d }) (Heap.get?_push_of_some _ hS) rfl hf (wpAny_bind ?_))
   unfold newFields
   refine wpAny_newObj_type (wpAny_pure ⟨_, rfl, "set_iterator", _, ⟨_, Heap.get?_push_size _ rfl, rfl⟩, si_next.lookup, ?_⟩)
   have esz : (s.heap.push (PyProof.Rows.seqObj "tuple" (ps.map fun (i : Nat) => rawInt i).toArray 0)).objs.size = s.heap.objs.size + 1 := Heap.size_push _ _
   refine h _ _ d [s.heap.objs.size + 1, S, s.heap.objs.size] (ps.map fun p => (es.getD p (0, Value.none)).2) (fun i h => h.get? (s.heap.objs.size + 1) = some (iterObj (.ref s.heap.objs.size) i S es.size ep) ∧ h.get? S = some (setObj es ep t) ∧ ∃ o, h.get? s.heap.objs.size = some o ∧ o.data = .seq (ps.map fun (i : Nat) => rawInt i).toArray 0) ?_ (fun A' hA' => ?_) ⟨?_, ?_, ?_⟩ (fun b hb' => ?_) (fun b o e => Heap.get?_push_of_some _ (Heap.get?_push_of_some _ e)) (by rw [esz]; exact Nat.le_succ _)
   ·have h1 := hp.map fun p => (es.getD p (0, Value.none)).2
    have h2 : (List.range es.size).map (fun p => (es.getD p (0, Value.none)).2) = es.toList.map (·.2) := by
     have := congrArg (List.map (·.2)) (map_range es)
     rw [List.map_map] at this
     exact this
    rw [h2] at h1
    exact h1
   ·have e1 : (s.heap.push (PyProof.Rows.seqObj "tuple" (ps.map fun (i : Nat) => rawInt i).toArray 0)).objs.size = s.heap.objs.size + 1 := esz
    have := walk_tup (A := A') (I := s.heap.objs.size + 1) (S := S) (T := s.heap.objs.size) (ep := ep) (c := 0) (prog := prog) (w := w) hA' hf (Nat.ne_of_gt (Nat.lt_succ_of_lt hlt)) (Nat.ne_of_gt (Nat.lt_succ_self _)) hp
    show Walks prog w A' (s.heap.push (PyProof.Rows.seqObj "tuple" (ps.map fun (i : Nat) => rawInt i).toArray 0)).objs.size _ [(s.heap.push (PyProof.Rows.seqObj "tuple" (ps.map fun (i : Nat) => rawInt i).toArray 0)).objs.size] _ _ _
    rw [e1]
    exact this
   ·have e2 := Heap.get?_push_size (s.heap.push (PyProof.Rows.seqObj "tuple" (ps.map fun (i : Nat) => rawInt i).toArray 0)) (o := iterObj (.ref s.heap.objs.size) 0 S es.size ep) rfl
    rw [esz] at e2
    exact e2
   ·exact Heap.get?_push_of_some _ (Heap.get?_push_of_some _ hS)
   ·exact ⟨_, Heap.get?_push_of_some _ (Heap.get?_push_size _ rfl), rfl⟩
   ·rcases List.mem_cons.mp hb' with rfl | hb'
    ·exact .inr (Nat.le_succ _)
    ·rcases List.mem_cons.mp hb' with rfl | hb'
     ·exact .inl rfl
     ·rw [List.mem_singleton.mp hb']
      exact .inr (Nat.le_refl _)
  | false =>
   simp only [Bool.and_false, Bool.false_eq_true, if_false]
   have hps := fits_len hf
   have up : t.place.toList.Pairwise (· < ·) := by
    cases hpl : t.plain with
    | true => exact hup hpl
    | false =>
     rw [hpl] at hd
     have hle : t.place.toList.length ≤ 1 := by
      rw [Array.length_toList, hps]
      simpa using hd
     match t.place.toList, hle with
     | [], _ => exact .nil
     | [a], _ => exact List.pairwise_singleton _ _
   refine byInt (es.toList.map (·.2)) (fun i => if i = 0 then 0 else t.place.getD (i - 1) 0 + 1) rfl .rfl fun i s' A' E' Q' hi hS' q => next_place hS' hf hb hd hled' ?_
   have hb2 : SetTable.below t.place (if i = 0 then 0 else t.place.getD (i - 1) 0 + 1) = i := by
    have e0 : t.place = t.place.toList.toArray := by simp
    by_cases hi0 : i = 0
    ·subst hi0
     rw [if_pos rfl, e0]
     exact below_zero up
    ·rw [if_neg hi0]
     have hi1 : i - 1 < t.place.toList.length := by rw [Array.length_toList, hps]; omega
     have := below_next up hi1
     have e1 : t.place.toList[i - 1] = t.place.getD (i - 1) 0 := by
      have : i - 1 < t.place.size := by omega
      simp [Array.getD, this]
     rw [e1] at this
     have e2 : t.place.toList.toArray = t.place := by simp
     rw [e2] at this
     rw [this]
     omega
   show Q' (match es[SetTable.below t.place (if i = 0 then 0 else t.place.getD (i - 1) 0 + 1)]?, t.place[SetTable.below t.place (if i = 0 then 0 else t.place.getD (i - 1) 0 + 1)]? with | some (_, x), some j => some (x, j + 1) | _, _ => none) s'
   rw [hb2]
   by_cases hlt' : i < es.size
   ·have e1 : es[i]? = some es[i] := by simp [hlt']
    have hp1 : i < t.place.size := by omega
    have e2 : t.place[i]? = some t.place[i] := by simp [hp1]
    rw [e1, e2]
    have e3 : (es.toList.map (·.2))[i]? = some es[i].2 := by simp [hlt']
    rw [e3] at q
    have e4 : t.place.getD i 0 = t.place[i] := by simp [Array.getD, hp1]
    have q' : Q' (some (es[i].2, t.place.getD i 0 + 1)) s' := q
    rw [e4] at q'
    exact q'
   ·have e1 : es[i]? = none := by simp; omega
    rw [e1]
    have e3 : (es.toList.map (·.2))[i]? = none := by simp; omega
    rw [e3] at q
    exact q
end
end My
namespace My
open PySem PySem.Spec PySem.W PySem.Calls
open PyProof.Rows hiding St
open Tb
section
variable {prog : Program} {w : World} {A : Around} {E : Value → Shared → Prop} {s : Shared}
theorem set_hint {S : Addr} {Q : Bool → Shared → Prop} (hT : s.TypeIs (.ref S) "set") (h : Q false s) : wpAny (model prog w) A (Builtin.List.listLengthHint (.ref S)) Q E s := by
 unfold Builtin.List.listLengthHint
 refine wpAny_bind (wpAny_specialOf hT PySem.F.slot_set_len.lookup ?_)
 generalize hid : ("set.__len__" : String) = id0
 wp_delta
 rw [show splitId id0 = some ("set", "__len__") from by subst hid; decide +kernel]
 subst hid
 refine wpAny_bind (wpAny_isInstance (b := true) (T := "set") hT sub_set_self (wpAny_ite_split (fun z => absurd z (by decide)) fun _ => ?_))
 exact wpAny_ite_split (fun _ => wpAny_bind (wpAny_typeOf hT (wpAny_pure h))) fun z => absurd (by decide +kernel) z
theorem set_extend {S l : Addr} {c : Nat} {es : Array (Int × Value)} {ep : Nat} {t : SetTable} {R : Result → Shared → Prop} {res : Value} (hh : A.handled = none) (hS : s.heap.get? S = some (setObj es ep t)) (hf : t.fits es.size = true) (hled : t.led = !byT w) (hup : t.plain = true → t.place.toList.Pairwise (· < ·)) (hz : es.size ≤ sizeLine)
  (hl : s.heap.get? l = some { cls := .type "list", data := .seq #[] c }) (hR : ∀ h' d tk (ws : List Value) c', ws.Perm (es.toList.map (·.2)) → (∀ b o, b ≠ l → s.heap.get? b = some o → h'.get? b = some o) → h'.get? l = some { cls := .type "list", dict := none, data := .seq ws.toArray c', slots := #[] } → R (.ok (.ret res)) { s with heap := h', drawn := d, toks := tk }) :
  wpAny (model prog w) A.in1 (Builtin.List.listExtendWith (.ref l) (.ref S) res) (fun fin s' => match fin with | .done f => R (.ok f) s' | .again c' => c'.quiet = true ∧ codeAny (model prog w) A c' R s') (fun e s' => R (.error e) s') s := by
 have hT : s.TypeIs (.ref S) "set" := ⟨_, hS, rfl⟩
 have hlS : l ≠ S := by
  rintro rfl
  have := congrArg Obj.cls (Option.some.inj (hS.symm.trans hl))
  simp at this
 unfold Builtin.List.listExtendWith
 refine wpAny_bind (wpAny_typeOf hT ?_)
 have n1 : Builtin.List.listSameRef (.ref l) (.ref S) = false := by simp [Builtin.List.listSameRef, hlS]
 have n2 : (Value.type "set" == Value.type "list") = false := by decide
 have n3 : (Value.type "set" == Value.type "tuple") = false := by decide
 simp only [n1, n2, n3, Bool.or_false, Bool.false_eq_true, if_false]
 refine wpAny_bind (iter_set hS hf hled hup hz fun I h1 d fp ws St hp W st hfp keep hI => ?_)
 have hlt : l < s.heap.objs.size := Heap.lt_size hl
 have hlf : l ∉ fp := fun z => by
  rcases hfp l z with e | e
  ·exact hlS e
  ·exact absurd hlt (Nat.not_lt.mpr e)
 have key : ∀ (h : Heap) (c₁ : Nat), St 0 h → (∀ b o, b ≠ l → s.heap.get? b = some o → h.get? b = some o) → h.get? l = some { cls := .type "list", data := .seq #[] c₁ } →
   codeAny (model prog w) A (.builtin "list.extend.loop" ⟨[.ref l, .ref I, res], []⟩) R { s with heap := h, drawn := d } := by
  intro h c₁ st' k' hl'
  refine codeAny_extend_loopS (W A.in1 hh).toS hz l hlf res es.size 0 { s with heap := h, drawn := d } #[] c₁ rfl (Nat.zero_le _) st' hl' (ItemsOf.nil _) fun s' acc c' hm he hacc => ?_
  rw [Moved.eq_with hm]
  have hws : acc = ws.toArray := by
   apply Array.toList_inj.mp
   have hl2 : ws.length = es.size := by rw [hp.length_eq]; simp
   apply List.ext_getElem?
   intro i
   by_cases hi : i < es.size
   ·have hsz : i < acc.size := by rw [hacc.1]; exact hi
    have h3 : acc[i]? = some acc[i] := Array.getElem?_eq_getElem hsz
    have h4 := hacc.2 i _ h3
    rw [Array.getElem?_toList, h3]
    exact h4.symm
   ·rw [List.getElem?_eq_none (by rw [Array.length_toList, hacc.1]; omega)]
    exact (List.getElem?_eq_none (by show ws.length ≤ i; omega)).symm
  rw [hws] at he
  refine hR s'.heap d s'.toks ws c' hp (fun b o hb e => hm.heap b o (fun z => ?_) (k' b o hb e)) he
  rcases List.mem_cons.mp z with e' | z
  ·exact hb e'
  ·rw [List.mem_singleton.mp z] at e
   exact absurd (Heap.lt_size e) (Nat.not_lt.mpr hI)
 have hT1 : Shared.TypeIs { s with heap := h1, drawn := d } (.ref S) "set" := ⟨_, keep _ _ hS, rfl⟩
 refine wpAny_bind (wpAny_holding (set_hint hT1 ?_))
 have hl1 := keep _ _ hl
 refine wpAny_ite_split (fun _ => ?_) (fun _ => wpAny_pure ⟨plainId_quiet PySem.F.plain_extend_loop _, key h1 c st (fun b o _ e => keep b o e) hl1⟩)
 refine wpAny_bind (wpAny_rule (wpAny_bind (show wpAny _ _ (updateSeq l (·.push .none) >>= fun _ => updateSeq l (·.pop)) _ _ _ from ?_)))
 refine wpAny_bind (wpAny_updateSeq hl1 rfl ?_)
 have hl2 := Heap.get?_update_self (Obj.mapSeq (·.push Value.none)) hl1 rfl
 refine wpAny_updateSeq (hz := by seq_fits) hl2 rfl ?_
 have hl3 := Heap.get?_update_self (Obj.mapSeq (·.pop)) hl2 rfl
 refine wpAny_pure ⟨plainId_quiet PySem.F.plain_extend_loop _, key _ _ ?_ (fun b o hb e => ?_) hl3⟩
 ·refine (W A.in1 hh).frame 0 _ _ st fun b hb o e => ?_
  have hb' : b ≠ l := fun z => hlf (z ▸ hb)
  exact (Heap.get?_update_other _ _ (Ne.symm hb')).trans ((Heap.get?_update_other _ _ (Ne.symm hb')).trans e)
 ·exact (Heap.get?_update_other _ _ (Ne.symm hb)).trans ((Heap.get?_update_other _ _ (Ne.symm hb)).trans (keep b o e))
theorem set_collect {S : Addr} {es : Array (Int × Value)} {ep : Nat} {t : SetTable} {R : List Value → Shared → Prop} (hh : A.handled = none) (hS : s.heap.get? S = some (setObj es ep t)) (hf : t.fits es.size = true) (hled : t.led = !byT w) (hup : t.plain = true → t.place.toList.Pairwise (· < ·)) (hz : es.size ≤ sizeLine)
  (h : ∀ h' d tk (ws : List Value), ws.Perm (es.toList.map (·.2)) → (∀ b o, s.heap.get? b = some o → h'.get? b = some o) → s.heap.objs.size < h'.objs.size → R ws { s with heap := h', drawn := d, toks := tk }) : wpAny (model prog w) A (collect (.ref S)) R E s := by
 unfold collect
 refine wpAny_bind (wpAny_runValue (codeAny_builtin entry_proto_collect' (by
  rw [Around.under_plainId PySem.F.plain_proto_collect _]
  refine (show wpAny _ A.in1 (newList [] >>= fun l => again (.builtin "list.__iadd__" ⟨[l, .ref S], []⟩)) _ _ s from wpAny_bind (wpAny_newObj_type ?_))
  refine wpAny_pure ⟨plainId_quiet PySem.F.plain_list_iadd _, codeAny_builtin entry_list_iadd' ?_⟩
  rw [Around.under_plainId PySem.F.plain_list_iadd _]
  refine (show wpAny _ A.in1 (Builtin.List.listExtendWith (.ref s.heap.objs.size) (.ref S) (.ref s.heap.objs.size)) _ _ _ from ?_)
  have hl : (s.heap.push { cls := .type "list", data := .seq ([] : List Value).toArray }).get? s.heap.objs.size = some { cls := .type "list", data := .seq #[] } := Heap.get?_push_size _ rfl
  have key := set_extend (prog := prog) (A := A) (s := { s with heap := s.heap.push { cls := .type "list", data := .seq ([] : List Value).toArray } }) (res := .ref s.heap.objs.size)
   (R := fun q s' => ∃ (h' : Heap) (d : Drawn) (tk : Nat) (ws : List Value) (c' : Nat), q = .ok (.ret (.ref s.heap.objs.size)) ∧ s' = { s with heap := h', drawn := d, toks := tk } ∧ ws.Perm (es.toList.map (·.2)) ∧ (∀ b o, s.heap.get? b = some o → h'.get? b = some o) ∧ h'.get? s.heap.objs.size = some { cls := .type "list", dict := none, data := .seq ws.toArray c', slots := #[] })
   hh (Heap.get?_push_of_some _ hS) hf hled hup hz hl fun h' d tk ws c' hp k e => ⟨h', d, tk, ws, c', rfl, rfl, hp, fun b o e' => k b o (Nat.ne_of_lt (Heap.lt_size e')) (Heap.get?_push_of_some _ e'), e⟩
  refine wpAny_mono key (fun fin s' x => ?_) fun e s' x => ?_
  ·cases fin with
   | done f =>
    obtain ⟨h', d, tk, ws, c', e, rfl, hp, k, el⟩ := x
    cases e
    exact (show wpAny _ A (load s.heap.objs.size >>= _) _ _ _ from wpAny_bind (wpAny_load el (wpAny_pure (h h' d tk ws hp k (Heap.lt_size el)))))
   | again c₁ =>
    refine ⟨x.1, codeAny_mono x.2 fun q s₂ y => ?_⟩
    obtain ⟨h', d, tk, ws, c', rfl, rfl, hp, k, el⟩ := y
    exact (show wpAny _ A (load s.heap.objs.size >>= _) _ _ _ from wpAny_bind (wpAny_load el (wpAny_pure (h h' d tk ws hp k (Heap.lt_size el)))))
  ·obtain ⟨_, _, _, _, _, e', _⟩ := x
   cases e')))
theorem sorted_set {S : Addr} {es : Array (Int × Value)} {ep : Nat} {t : SetTable} {Q : Value → Shared → Prop} (hh : A.handled = none) (hS : s.heap.get? S = some (setObj es ep t)) (hf : t.fits es.size = true) (hled : t.led = !byT w) (hup : t.plain = true → t.place.toList.Pairwise (· < ·)) (hz : es.size ≤ sizeLine)
  (h : ∀ D h' d tk (ws : List Value), ws.Perm (es.toList.map (·.2)) → (∀ b o, s.heap.get? b = some o → h'.get? b = some o) → s.heap.objs.size ≤ D → h'.get? D = some (seqObj "list" ws.toArray 0) →
   wpAny (model prog w) A.in1 (call (.builtin "list.sort") [.ref D]) (fun _ s' => Q (.ref D) s') E { s with heap := h', drawn := d, toks := tk }) : wpAny (model prog w) A (call (.builtin "sorted") [.ref S]) Q E s := by
 refine call_function_entry kind_sorted plain_sorted entry_sorted (args_sorted1 _) (by
  unfold Builtin.«sorted»
  refine wpAny_bind (m := checkCount "sorted" 1 1 _) (wpAny_pure (wpAny_bind (set_collect (A := A.in1) hh hS hf hled hup hz fun h' d tk ws hp k hle => ?_)))
  have hl : ws.length = es.size := by rw [hp.length_eq]; simp
  refine wpAny_bind (wpAny_newList ?_ (by rw [hl]; exact hz))
  have g := h h'.objs.size (h'.push (seqObj "list" ws.toArray 0)) d tk ws hp (fun b o e => Heap.get?_push_of_some _ (k b o e)) (Nat.le_of_lt hle) (Heap.get?_push_size _ rfl)
  exact wpAny_bind (wpAny_holding (wpAny_mono g (fun _ s' x => wpAny_pure ⟨_, rfl, x⟩) fun _ _ e => e)))
end
end My
namespace My
open PySem PySem.Spec PySem.W PySem.Calls
open Tb
theorem orStandIn_led (t : SetTable) (n : Nat) : (t.orStandIn n).led = t.led := by unfold SetTable.orStandIn SetTable.standIn; split <;> rfl
theorem layNew_led (t : SetTable) (es : Array (Int × Value)) (h : Int) (x : Value) : (layNew t es h x).2.1.led = t.led := by
 unfold layNew
 split
 ·exact orStandIn_led _ _
 ·rfl
theorem relaid_flags {t t' : SetTable} {hs : Array Int} {n : Nat} {o : Array Nat} (h : t.relaid hs n = some (t', o)) : t'.led = t.led ∧ t'.plain = t.plain := by
 unfold SetTable.relaid SetTable.laid at h
 cases hc : SetTable.layClean (SetTable.sizeAbove n - 1) hs with
 | none => rw [hc] at h; cases h
 | some ow =>
  rw [hc] at h
  have h' := (Prod.mk.inj (Option.some.inj h)).1
  rw [← h']
  exact ⟨rfl, rfl⟩
theorem relayAll_led (t : SetTable) (es : Array (Int × Value)) (n : Nat) : (relayAll t es n).2.1.led = t.led ∧ (t.plain = false → (relayAll t es n).2.1.plain = false) := by
 unfold relayAll
 split
 ·rename_i t' o e
  dsimp only
  have := relaid_flags e
  split
  ·exact ⟨this.1, fun h => this.2.trans h⟩
  ·exact ⟨rfl, fun _ => rfl⟩
 ·exact ⟨rfl, fun _ => rfl⟩
section
variable {prog : Program} {w : World} {A : Around} {E : Value → Shared → Prop} {s : Shared}
structure GoodS (w : World) (Es : List (Int × Value)) (D : List Str) : Prop where
 in1 : ∀ e ∈ Es, ∃ x t, x ∈ D ∧ e = (hashStr w x, .str x t)
 in2 : ∀ x ∈ D, ∃ t, (hashStr w x, .str x t) ∈ Es
 one : Es.Pairwise fun e e' => ∀ x t t', e.2 = .str x t → e'.2 ≠ .str x t'
theorem GoodS.perm {Es Es' : List (Int × Value)} {D : List Str} (g : GoodS w Es D) (p : Es'.Perm Es) : GoodS w Es' D :=
 ⟨fun e he => g.in1 e (p.mem_iff.mp he), fun x hx => let ⟨t, h⟩ := g.in2 x hx; ⟨t, p.mem_iff.mpr h⟩, (p.pairwise_iff (fun {a b} hab x t t' h1 h2 => hab x t' t h2 h1)).mpr g.one⟩
theorem GoodS.elems {Es : List (Int × Value)} {D : List Str} (g : GoodS w Es D) : ElemsOf (PySem.strKind prog w) Es := fun e he => by
 obtain ⟨x, t, _, rfl⟩ := g.in1 e he
 exact ⟨⟨x, by show Value.isStrOf x (.str x t) = true; simp [Value.isStrOf], rfl⟩, rfl⟩
theorem add_str {S : Addr} {ep : Nat} {es : Array (Int × Value)} {t : SetTable} {D : List Str} {x : Str} {tok : Tok} (hS : s.heap.get? S = some (setObj es ep t)) (hf : t.fits es.size = true) (g : GoodS w es.toList D) (hb : es.size + 1 < scanBound) (hpl : es.size ≠ 0 → t.plain = false) {Q : Bool → Shared → Prop}
  (q : ∀ (b : Bool) (h' : Heap) (tk : Nat) (es' : Array (Int × Value)) (ep' : Nat) (t' : SetTable), h'.get? S = some (setObj es' ep' t') → Heap.SameBut S s.heap h' → t'.fits es'.size = true → t'.led = t.led → (es'.size ≠ 0 → t'.plain = false) → GoodS w es'.toList (D ++ [x]) → es'.size ≤ es.size + 1 → Q b { s with heap := h', toks := tk }) :
  wpAny (model prog w) A (setAdd S (.str x tok)) Q E s := by
 have hkey : (PySem.strKind prog w).is x (.str x tok) = true := by show Value.isStrOf x (.str x tok) = true; simp [Value.isStrOf]
 unfold setAdd
 refine wpAny_holding (wpAny_bind ((PySem.strKind prog w).pyHash hkey ?_))
 have hS1 : ({ s with toks := s.toks + 1 } : Shared).heap.get? S = some (setObj es ep t) := hS
 unfold setAddHashed setAddHashedIn
 refine wpAny_holding (wpAny_bind (wpAny_setState_of hS1 rfl hf ?_))
 dsimp only
 rw [byScan_of (knd := PySem.strKind prog w) rfl (by omega) g.elems]
 simp only [if_true]
 unfold setAddByScan
 refine wpAny_bind (wpAny_bind (wpAny_rule (wpAny_bind (wpAny_setScan_of (knd := PySem.strKind prog w) hkey hS1 rfl hf g.elems ?_))))
 cases hr : List.findIdx? (fun e => (PySem.strKind prog w).is x e.2) es.toList with
 | some j =>
  dsimp only
  obtain ⟨hj, hpj, _⟩ := List.findIdx?_eq_some_iff_getElem.mp hr
  refine wpAny_pure (wpAny_pure (q false s.heap _ es ep t hS (Heap.SameBut.refl S s.heap) hf rfl hpl ⟨fun e he => ?_, fun y hy => ?_, g.one⟩ (Nat.le_succ _)))
  ·obtain ⟨y, t', h1, h2⟩ := g.in1 e he
   exact ⟨y, t', List.mem_append_left _ h1, h2⟩
  ·rcases List.mem_append.mp hy with hy | hy
   ·exact g.in2 y hy
   ·rw [List.mem_singleton.mp hy]
    have hm := List.getElem_mem hj
    obtain ⟨y', t', _, e⟩ := g.in1 _ hm
    rw [e] at hpj
    have : y' = x := by
     have h5 : Value.isStrOf x (.str y' t') = true := hpj
     simpa [Value.isStrOf] using h5
    subst this
    exact ⟨t', by rw [← e]; exact hm⟩
 | none =>
  dsimp only
  have hno : ∀ e ∈ es.toList, ∀ t', e.2 ≠ .str x t' := fun e he t' z => by
   have := List.findIdx?_eq_none_iff.mp hr e he
   rw [z] at this
   have h5 : Value.isStrOf x (.str x t') = false := this
   simp [Value.isStrOf] at h5
  have hperm := layNew_perm t es (hashStr w x) (.str x tok)
  have hfits := layNew_fits t es (hashStr w x) (.str x tok)
  have hled := layNew_led t es (hashStr w x) (.str x tok)
  have hh : (PySem.strKind prog w).hash x = hashStr w x := rfl
  rw [hh]
  generalize hL : layNew t es (hashStr w x) (.str x tok) = L at hperm hfits hled ⊢
  obtain ⟨es1, t1, wasDummy, gave⟩ := L
  dsimp only at hperm hfits hled ⊢
  rw [Array.toList_push] at hperm
  have hsz : es1.size = es.size + 1 := by
   have := hperm.length_eq
   simpa using this
  have good : GoodS w es1.toList (D ++ [x]) := by
   refine GoodS.perm (Es := (hashStr w x, Value.str x tok) :: es.toList) ⟨fun e he => ?_, fun y hy => ?_, List.pairwise_cons.mpr ⟨fun e he y t1 t2 h1 h2 => ?_, g.one⟩⟩ (hperm.trans (List.perm_append_singleton _ _))
   ·rcases List.mem_cons.mp he with rfl | he
    ·exact ⟨x, tok, List.mem_append_right _ (List.mem_singleton.mpr rfl), rfl⟩
    ·obtain ⟨y, t', h1, h2⟩ := g.in1 e he
     exact ⟨y, t', List.mem_append_left _ h1, h2⟩
   ·rcases List.mem_append.mp hy with hy | hy
    ·obtain ⟨t', h⟩ := g.in2 y hy
     exact ⟨t', List.mem_cons_of_mem _ h⟩
    ·rw [List.mem_singleton.mp hy]
     exact ⟨tok, List.mem_cons_self⟩
   ·cases h1
    exact hno e he t2 h2
  have hgw : ∀ (b : Bool) (s₁ : Shared) (Q' : Unit → Shared → Prop), Q' () s₁ → wpAny (model prog w) A (match b with | true => rule "set.scan.the-table-gave-way" | false => pure ()) Q' E s₁ := fun b s₁ Q' hq => by
   cases b
   ·exact wpAny_pure hq
   ·exact wpAny_rule hq
  have tail : ∀ t2 : SetTable, t2.fits es1.size = true → t2.led = t.led → t2.plain = false → ∀ (R : Option Bool → Shared → Prop), (∀ h' es' ep' t', h'.get? S = some (setObj es' ep' t') → Heap.SameBut S s.heap h' → t'.fits es'.size = true → t'.led = t.led → t'.plain = false → es'.toList.Perm es1.toList → R (some true) { s with heap := h', toks := s.toks + 1 }) →
    wpAny (model prog w) A (do
     storeSet S es1 t2
     if (!wasDummy && t2.tooFull) = true then do
      (match (relayAll t2 es1 (SetTable.grown es1.size)).2.2 with | true => rule "set.scan.the-table-gave-way" | false => pure ())
      storeSet S (relayAll t2 es1 (SetTable.grown es1.size)).1 (relayAll t2 es1 (SetTable.grown es1.size)).2.1
      pure (some true)
     else pure (some true)) R E { s with toks := s.toks + 1 } := by
   intro t2 f2 l2 p2 R hR
   refine wpAny_bind (store_set hS1 (fits_of_scanBound (by rw [hsz]; exact hb)) fun h1 hS2 sb1 => ?_)
   split
   ·have hp2 := relayAll_perm t2 es1 (SetTable.grown es1.size)
    have hf2 := relayAll_fits t2 es1 (SetTable.grown es1.size)
    obtain ⟨hl2, hpl2⟩ := relayAll_led t2 es1 (SetTable.grown es1.size)
    have hsz2 : (relayAll t2 es1 (SetTable.grown es1.size)).1.size = es1.size := by
     have := hp2.length_eq
     simpa using this
    refine wpAny_bind (hgw _ _ _ (wpAny_bind (store_set (s := { s with heap := h1, toks := s.toks + 1 }) hS2 (fits_of_scanBound (by rw [hsz2, hsz]; exact hb)) fun h2 hS3 sb2 => wpAny_pure ?_)))
    exact hR h2 _ _ _ hS3 (sb1.trans sb2) hf2 (hl2.trans l2) (hpl2 p2) hp2
   ·exact wpAny_pure (hR h1 es1 _ t2 hS2 sb1 f2 l2 p2 .rfl)
  have fin : ∀ h' es' ep' t', h'.get? S = some (setObj es' ep' t') → Heap.SameBut S s.heap h' → t'.fits es'.size = true → t'.led = t.led → t'.plain = false → es'.toList.Perm es1.toList → Q true { s with heap := h', toks := s.toks + 1 } := fun h' es' ep' t' e1 e2 e3 e4 e5 e6 => by
   refine q true h' _ es' ep' t' e1 e2 e3 e4 (fun _ => e5) (good.perm e6) ?_
   have := e6.length_eq
   simp at this
   omega
  refine wpAny_bind (hgw _ _ _ ?_)
  split
  ·rw [hashByValue_scannable 8 (x := .str x tok) rfl]
   refine wpAny_bind (wpAny_pure ?_)
   simp only [plainKind, Bool.false_eq_true, if_false]
   exact tail { t1 with plain := false } (SetTable.fits_plain_off hfits) hled rfl _ fun h' es' ep' t' e1 e2 e3 e4 e5 e6 => wpAny_pure (fin h' es' ep' t' e1 e2 e3 e4 e5 e6)
  ·rename_i hp1
   refine wpAny_bind (wpAny_pure ?_)
   simp only [if_true]
   exact tail t1 hfits hled (by simpa using hp1) _ fun h' es' ep' t' e1 e2 e3 e4 e5 e6 => wpAny_pure (fin h' es' ep' t' e1 e2 e3 e4 e5 e6)
end
end My
namespace My
open PySem PySem.Spec PySem.W PySem.Calls
open PyProof.Rows hiding St
namespace Srt
variable {O : KeyOrd} {key : Nat → O.α} {n : Nat}
def Ok {α : Type} (key : Nat → O.α) (n : Nat) : KasT α → (α → Prop) → Prop
 | .ret a, P => P a
 | .ask i j k, P => i < n ∧ j < n ∧ Ok key n (k (O.blt (key i) (key j))) P
theorem Ok.mono {α : Type} {P P' : α → Prop} (hp : ∀ a, P a → P' a) : ∀ {t : KasT α}, Ok key n t P → Ok key n t P'
 | .ret a, h => hp a h
 | .ask i j k, h => ⟨h.1, h.2.1, Ok.mono hp h.2.2⟩
theorem Ok.bind {α β : Type} {f : α → KasT β} {P : β → Prop} : ∀ {t : KasT α}, Ok key n t (fun a => Ok key n (f a) P) → Ok key n (t.bind f) P
 | .ret a, h => h
 | .ask i j k, h => ⟨h.1, h.2.1, Ok.bind h.2.2⟩
theorem Ok.wp {α : Type} {cmp : Nat → Nat → (Bool → Shared → Prop) → Shared → Prop} {P : α → Prop} {Q : α → Shared → Prop} {s : Shared} (hc : ∀ i j C, i < n → j < n → C (O.blt (key i) (key j)) s → cmp i j C s) (hq : ∀ a, P a → Q a s) : ∀ {t : KasT α}, Ok key n t P → t.kasWp cmp Q s
 | .ret a, h => hq a h
 | .ask i j k, h => hc i j _ h.1 h.2.1 (Ok.wp hc hq h.2.2)
def K (key : Nat → O.α) (p : Array Nat) (i : Nat) : O.α := key (p.getD i 0)
structure All (n : Nat) (p : Array Nat) : Prop where
 pm : p.toList.Perm (List.range n)
theorem All.size {p : Array Nat} (a : All n p) : p.size = n := by
 have := a.pm.length_eq
 simpa using this
theorem All.lt {p : Array Nat} (a : All n p) (hn : 0 < n) (i : Nat) : p.getD i 0 < n := by
 by_cases hi : i < p.size
 ·have e : p.getD i 0 = p[i] := by simp [Array.getD, hi]
  rw [e]
  have : p[i] ∈ p.toList := by simp
  exact List.mem_range.mp (a.pm.mem_iff.mp this)
 ·have e : p.getD i 0 = 0 := by simp [Array.getD, hi]
  rw [e]; exact hn
theorem All.of {p p' : Array Nat} (a : All n p) (h : p'.Perm p) : All n p' := ⟨(Array.perm_iff_toList_perm.mp h).trans a.pm⟩
theorem getD_of {p : Array Nat} {i : Nat} : p.getD i 0 = (p[i]?).getD 0 := by
 by_cases hi : i < p.size
 ·simp [Array.getD, hi]
 ·simp [Array.getD, hi]
theorem K_rev {p : Array Nat} {i j : Nat} (hj : j ≤ p.size) (k : Nat) : K key (kas_rev p i j) k = if i ≤ k ∧ k < j then K key p (i + j - 1 - k) else K key p k := by
 have e := getElem?_mirror_all (xs := p) (i := i) hj k
 unfold K kas_rev
 rw [getD_of, e]
 split
 ·rw [← getD_of]
 ·rw [← getD_of]
theorem K_bub {p : Array Nat} {src d : Nat} (hs : src < p.size) (hd : d ≤ src) (k : Nat) : K key (bubble p src d) k = if k = src - d then K key p src else if src - d < k ∧ k ≤ src then K key p (k - 1) else K key p k := by
 have e := getElem?_bubble hs d hd k
 unfold K
 rw [getD_of, e]
 by_cases h1 : k = src - d
 ·rw [if_pos h1, if_pos h1, ← getD_of]
 ·rw [if_neg h1, if_neg h1]
  by_cases h2 : src - d < k ∧ k ≤ src
  ·rw [if_pos h2, if_pos h2, ← getD_of]
  ·rw [if_neg h2, if_neg h2, ← getD_of]
def Up (key : Nat → O.α) (p : Array Nat) (m : Nat) : Prop := ∀ i j, i ≤ j → j < m → O.kle (K key p i) (K key p j)
def Dn (key : Nat → O.α) (p : Array Nat) (m : Nat) : Prop := ∀ i j, i ≤ j → j < m → O.kle (K key p j) (K key p i)
theorem Up.step {p : Array Nat} {m : Nat} (h : Up key p m) (h1 : 1 ≤ m) (hc : O.kle (K key p (m - 1)) (K key p m)) : Up key p (m + 1) := fun i j hij hj => by
 by_cases e : j = m
 ·subst e
  by_cases e2 : i = j
  ·subst e2; exact KeyOrd.kle_refl _
  ·exact KeyOrd.kle_trans (h i (j - 1) (by omega) (by omega)) hc
 ·exact h i j hij (by omega)
theorem Dn.step {p : Array Nat} {m : Nat} (h : Dn key p m) (h1 : 1 ≤ m) (hc : O.kle (K key p m) (K key p (m - 1))) : Dn key p (m + 1) := fun i j hij hj => by
 by_cases e : j = m
 ·subst e
  by_cases e2 : i = j
  ·subst e2; exact KeyOrd.kle_refl _
  ·exact KeyOrd.kle_trans hc (h i (j - 1) (by omega) (by omega))
 ·exact h i j hij (by omega)
theorem ok_asc {p : Array Nat} (a : All n p) (hn : 0 < n) : ∀ (f m : Nat), 1 ≤ m → Up key p m → Ok key n (kas_asc p f m) fun r => m ≤ r ∧ r ≤ m + f ∧ Up key p r ∧ (r = m + f ∨ O.klt (K key p r) (K key p (r - 1)))
 | 0, m, h1, h => ⟨Nat.le_refl _, Nat.le_refl _, h, .inl rfl⟩
 | f + 1, m, h1, h => by
  refine ⟨a.lt hn _, a.lt hn _, ?_⟩
  cases hc : O.blt (key (p.getD m 0)) (key (p.getD (m - 1) 0)) with
  | true => exact ⟨Nat.le_refl _, by omega, h, .inr hc⟩
  | false =>
   (try dsimp only); rw [if_neg Bool.false_ne_true]
   refine Ok.mono (fun r hr => ?_) (ok_asc a hn f (m + 1) (by omega) (h.step h1 hc))
   exact ⟨by omega, by omega, hr.2.2.1, hr.2.2.2.imp (fun e => by omega) id⟩
theorem same_rev {p : Array Nat} {i j : Nat} (hj : j ≤ p.size) (he : ∀ k, i ≤ k → k < j → K key p k = K key p (j - 1)) (k : Nat) : K key (kas_rev p i j) k = K key p k := by
 rw [K_rev hj]
 split
 ·rw [he _ (by omega) (by omega), he k (by omega) (by omega)]
 ·rfl
theorem rev_all {p : Array Nat} (a : All n p) (i j : Nat) : All n (kas_rev p i j) := a.of (mirror_perm _ _ _ _)
theorem ok_desc (hn : 0 < n) : ∀ (f : Nat) (p : Array Nat) (m q : Nat), All n p → 1 ≤ m → m + f ≤ n → q + 1 ≤ m → Dn key p m → (∀ k, m - (q + 1) ≤ k → k < m → K key p k = K key p (m - 1)) →
  Ok key n (kas_desc f p m q) fun r => All n r.1 ∧ m ≤ r.2.1 ∧ r.2.1 ≤ m + f ∧ r.2.2 + 1 ≤ r.2.1 ∧ Dn key r.1 r.2.1 ∧ ∀ k, r.2.1 - (r.2.2 + 1) ≤ k → k < r.2.1 → K key r.1 k = K key r.1 (r.2.1 - 1)
 | 0, p, m, q, a, h1, hf, hq, hd, he => ⟨a, Nat.le_refl _, Nat.le_refl _, hq, hd, he⟩
 | f + 1, p, m, q, a, h1, hf, hq, hd, he => by
  refine ⟨a.lt hn _, a.lt hn _, ?_⟩
  cases hc : O.blt (key (p.getD m 0)) (key (p.getD (m - 1) 0)) with
  | true =>
   (try dsimp only); rw [if_pos rfl]
   have hstep : Dn key p (m + 1) := hd.step h1 (KeyOrd.kle_of_klt hc)
   split
   ·have hsame := same_rev (key := key) (p := p) (i := m - (q + 1)) (j := m) (by rw [a.size]; omega) he
    refine Ok.mono (fun r hr => ⟨hr.1, by omega, by omega, hr.2.2.2⟩) (ok_desc hn f (kas_rev p (m - (q + 1)) m) (m + 1) 0 (rev_all a _ _) (by omega) (by omega) (by omega) (fun i j hij hj => ?_) fun k h1 h2 => ?_)
    ·rw [hsame, hsame]; exact hstep i j hij hj
    ·have : k = m + 1 - 1 := by omega
     rw [this]
   ·refine Ok.mono (fun r hr => ⟨hr.1, by omega, by omega, hr.2.2.2⟩) (ok_desc hn f p (m + 1) 0 a (by omega) (by omega) (by omega) hstep fun k h1 h2 => ?_)
    have : k = m + 1 - 1 := by omega
    rw [this]
  | false =>
   (try dsimp only); rw [if_neg Bool.false_ne_true]
   refine ⟨a.lt hn _, a.lt hn _, ?_⟩
   cases hc2 : O.blt (key (p.getD (m - 1) 0)) (key (p.getD m 0)) with
   | true =>
    (try dsimp only); rw [if_pos rfl]
    exact ⟨a, Nat.le_refl _, (by show m ≤ m + (f + 1); omega), hq, hd, he⟩
   | false =>
    (try dsimp only); rw [if_neg Bool.false_ne_true]
    have heq : K key p m = K key p (m - 1) := O.total _ _ hc hc2
    refine Ok.mono (fun r hr => ⟨hr.1, by omega, by omega, hr.2.2.2⟩) (ok_desc hn f p (m + 1) (q + 1) a (by omega) (by omega) (by omega) (hd.step h1 (by rw [heq]; exact KeyOrd.kle_refl _)) fun k h1 h2 => ?_)
    rw [show m + 1 - 1 = m by omega]
    by_cases e : k = m
    ·rw [e]
    ·rw [he k (by omega) (by omega), heq]
def Run (key : Nat → O.α) (n : Nat) (r : Nat × Array Nat) : Prop := All n r.2 ∧ 1 ≤ r.1 ∧ r.1 ≤ n ∧ Up key r.2 r.1
theorem ok_tail3 (hn : 0 < n) {p : Array Nat} {m : Nat} (a : All n p) (h1 : 1 ≤ m) (hm : m ≤ n) (hd : Dn key p m) : Ok key n (kas_tail3 m n p) (Run key n) := by
 unfold kas_tail3
 refine Ok.bind (Ok.mono (fun r hr => ?_) (ok_asc (rev_all a 0 m) hn (n - m) m h1 fun i j hij hj => ?_))
 ·exact ⟨rev_all a 0 m, by omega, by omega, hr.2.2.1⟩
 ·have hs : m ≤ p.size := by rw [a.size]; exact hm
  rw [K_rev hs, K_rev hs, if_pos ⟨by omega, by omega⟩, if_pos ⟨by omega, by omega⟩]
  exact hd _ _ (by omega) (by omega)
theorem ok_descPart (hn : 0 < n) {p : Array Nat} {m : Nat} (a : All n p) (h1 : 1 ≤ m) (hm : m < n) (hd : Dn key p (m + 1)) : Ok key n (kas_descPart m n p) (Run key n) := by
 unfold kas_descPart
 refine Ok.bind (Ok.mono (fun r hr => ?_) (ok_desc hn (n - (m + 1)) p (m + 1) 0 a (by omega) (by omega) (by omega) hd fun k h1 h2 => by rw [show k = m + 1 - 1 by omega]))
 obtain ⟨r1, r2, r3⟩ := r
 obtain ⟨a', b1, b2, b3, b4, b5⟩ := hr
 dsimp only at a' b1 b2 b3 b4 b5 ⊢
 split
 ·have hsame := same_rev (key := key) (p := r1) (i := r2 - (r3 + 1)) (j := r2) (by rw [a'.size]; omega) b5
  exact ok_tail3 hn (rev_all a' _ _) (by omega) (by omega) fun i j hij hj => by rw [hsame, hsame]; exact b4 i j hij hj
 ·exact ok_tail3 hn a' (by omega) (by omega) b4
theorem ok_count {p : Array Nat} (a : All n p) (hn : 0 < n) : Ok key n (kas_count n p) (Run key n) := by
 unfold kas_count
 refine Ok.bind (Ok.mono (fun r hr => ?_) (ok_asc a hn (n - 1) 1 (Nat.le_refl _) fun i j hij hj => by
  have : i = j := by omega
  subst this; exact KeyOrd.kle_refl _))
 obtain ⟨h1, h2, h3, h4⟩ := hr
 by_cases e : r = n
 ·subst e
  simp only [beq_self_eq_true, if_true]
  exact ⟨a, h1, Nat.le_refl _, h3⟩
 ·have e' : (r == n) = false := by simpa using e
  simp only [e', Bool.false_eq_true, if_false]
  have hlt : r < n := by omega
  have hdn : O.klt (K key p r) (K key p (r - 1)) := by
   rcases h4 with h4 | h4
   ·omega
   ·exact h4
  split
  ·refine ⟨a.lt hn _, a.lt hn _, ?_⟩
   cases hc : O.blt (key (p.getD 0 0)) (key (p.getD (r - 1) 0)) with
   | true =>
    (try dsimp only); rw [if_pos rfl]
    exact ⟨a, h1, by omega, h3⟩
   | false =>
    (try dsimp only); rw [if_neg Bool.false_ne_true]
    have heq : ∀ k, 0 ≤ k → k < r → K key p k = K key p (r - 1) := fun k _ hk => by
     refine KeyOrd.kle_antisymm (h3 k (r - 1) (by omega) (by omega)) ?_
     exact KeyOrd.kle_trans (show O.kle (K key p (r - 1)) (K key p 0) from hc) (h3 0 k (by omega) hk)
    have hsame := same_rev (key := key) (p := p) (i := 0) (j := r) (by rw [a.size]; omega) heq
    refine ok_descPart hn (rev_all a 0 r) h1 hlt fun i j hij hj => ?_
    rw [hsame, hsame]
    by_cases ej : j = r
    ·subst ej
     by_cases ei : i = j
     ·subst ei; exact KeyOrd.kle_refl _
     ·rw [heq i (by omega) (by omega)]
      exact KeyOrd.kle_of_klt hdn
    ·rw [heq i (by omega) (by omega), heq j (by omega) (by omega)]
     exact KeyOrd.kle_refl _
  ·have hr1 : r = 1 := by omega
   subst hr1
   refine ok_descPart hn a (Nat.le_refl _) hlt fun i j hij hj => ?_
   by_cases ei : i = j
   ·subst ei; exact KeyOrd.kle_refl _
   ·have hi : i = 0 := by omega
    have hj : j = 1 := by omega
    subst hi hj
    exact KeyOrd.kle_of_klt hdn
theorem ok_place {p : Array Nat} (a : All n p) (hn : 0 < n) (k : Nat) (hk : k < n) (hu : Up key p k) : ∀ (f l r : Nat), l ≤ r → r ≤ k → r - l ≤ f → (∀ i, i < l → O.kle (K key p i) (K key p k)) → (∀ i, r ≤ i → i < k → O.klt (K key p k) (K key p i)) →
  Ok key n (kas_place p k f l r) fun l' => l' ≤ k ∧ (∀ i, i < l' → O.kle (K key p i) (K key p k)) ∧ (∀ i, l' ≤ i → i < k → O.klt (K key p k) (K key p i))
 | 0, l, r, h1, h2, h3, h4, h5 => ⟨by omega, h4, fun i hi => h5 i (by omega)⟩
 | f + 1, l, r, h1, h2, h3, h4, h5 => by
  unfold kas_place
  split
  ·exact ⟨by omega, h4, fun i hi => h5 i (by omega)⟩
  ·refine ⟨a.lt hn _, a.lt hn _, ?_⟩
   cases hc : O.blt (key (p.getD k 0)) (key (p.getD ((l + r) / 2) 0)) with
   | true =>
    (try dsimp only); rw [if_pos rfl]
    exact ok_place a hn k hk hu f l ((l + r) / 2) (by omega) (by omega) (by omega) h4 fun i hi hik => KeyOrd.klt_of_klt_of_kle hc (hu _ _ hi hik)
   | false =>
    (try dsimp only); rw [if_neg Bool.false_ne_true]
    exact ok_place a hn k hk hu f ((l + r) / 2 + 1) r (by omega) h2 (by omega) (fun i hi => KeyOrd.kle_trans (hu i ((l + r) / 2) (by omega) (by omega)) (show O.kle (K key p ((l + r) / 2)) (K key p k) from hc)) h5
theorem ok_bin (hn : 0 < n) : ∀ (f : Nat) (p : Array Nat) (k : Nat), All n p → k + f = n → Up key p k → Ok key n (kas_bin f p k) fun r => All n r ∧ Up key r n
 | 0, p, k, a, hk, hu => ⟨a, by rw [← hk]; exact hu⟩
 | f + 1, p, k, a, hk, hu => by
  have hkn : k < n := by omega
  refine Ok.bind (Ok.mono (fun l hl => ?_) (ok_place a hn k hkn hu k 0 k (Nat.zero_le _) (Nat.le_refl _) (by omega) (fun i hi => by omega) (fun i h1 h2 => by omega)))
  obtain ⟨hlk, hlo, hhi⟩ := hl
  have hs : k < p.size := by rw [a.size]; exact hkn
  refine ok_bin hn f (bubble p k (k - l)) (k + 1) (a.of (bubble_perm _ _ _)) (by omega) fun i j hij hj => ?_
  rw [K_bub hs (by omega), K_bub hs (by omega), show k - (k - l) = l by omega]
  by_cases ei : i = l
  ·rw [if_pos ei]
   by_cases ej : j = l
   ·rw [if_pos ej]; exact KeyOrd.kle_refl _
   ·rw [if_neg ej, if_pos ⟨by omega, by omega⟩]
    exact KeyOrd.kle_of_klt (hhi _ (by omega) (by omega))
  ·rw [if_neg ei]
   by_cases ei2 : l < i ∧ i ≤ k
   ·rw [if_pos ei2, if_neg (by omega), if_pos ⟨by omega, by omega⟩]
    exact hu _ _ (by omega) (by omega)
   ·rw [if_neg ei2]
    have hil : i < l := by omega
    by_cases ej : j = l
    ·rw [if_pos ej]; exact hlo i hil
    ·rw [if_neg ej]
     by_cases ej2 : l < j ∧ j ≤ k
     ·rw [if_pos ej2]; exact hu _ _ (by omega) (by omega)
     ·rw [if_neg ej2]; exact hu _ _ hij (by omega)
theorem ok_sort (hn : 0 < n) : Ok key n (kas_sort n) fun r => All n r ∧ Up key r n := by
 unfold kas_sort
 have a0 : All n (List.toArray (List.range n)) := ⟨.rfl⟩
 refine Ok.bind (Ok.mono (fun r hr => ?_) (ok_count a0 hn))
 obtain ⟨m, p⟩ := r
 obtain ⟨a, h1, h2, h3⟩ := hr
 dsimp only at a h1 h2 h3 ⊢
 split
 ·rw [show max m 1 = m by omega]
  exact ok_bin hn (n - m) p m a (by omega) h3
 ·have : m = n := by omega
  subst this
  exact ⟨a, h3⟩
end Srt
end My
namespace My
open PySem PySem.Spec PySem.W PySem.Calls
open PyProof.Rows hiding St
section
variable {prog : Program} {w : World} {A : Around} {E : Value → Shared → Prop} {s : Shared}
theorem list_sort_by {D : Addr} {vs : List Value} {n0 : Nat} {P : PySem.Fin → Shared → Prop} (ho : s.heap.get? D = some (seqObj "list" vs.toArray n0)) (h64 : vs.length < 64) {O : KeyOrd} (key : Nat → O.α) (κ : SortKind)
  (hk : 2 ≤ vs.length → ∀ (s1 : Shared) (Q' : SortKind → Shared → Prop) (E' : Value → Shared → Prop), (∀ b o, b ≠ D → s.heap.get? b = some o → s1.heap.get? b = some o) → Q' κ s1 → wpAny (model prog w) A (keyKind' vs.toArray) Q' E' s1)
  (hc : ∀ (s1 : Shared) (i j : Nat) (C : Bool → Shared → Prop) (E' : Value → Shared → Prop), (∀ b o, b ≠ D → s.heap.get? b = some o → s1.heap.get? b = some o) → i < vs.length → j < vs.length → C (O.blt (key i) (key j)) s1 → wpAny (model prog w) A (keyLt' κ (vs.getD i Value.none) (vs.getD j Value.none)) C E' s1)
  (h : ∀ (p : Array Nat) (h' : Heap) (e : Nat), Srt.All vs.length p → Srt.Up key p vs.length → (∀ b o, b ≠ D → s.heap.get? b = some o → h'.get? b = some o) → h'.get? D = some (seqObj "list" (p.toList.map fun i => vs.getD i Value.none).toArray e) → P (.done (.ret .none)) { s with heap := h' }) :
  wpAny (model prog w) A (Builtin.«list.sort» ⟨[.ref D], []⟩) P E s := by
 have hD : D < s.heap.objs.size := Heap.lt_size ho
 obtain ⟨e1, ho1⟩ : ∃ e1, (s.heap.update D (Obj.mapSeq fun _ => (#[] : Array Value))).get? D = some (seqObj "list" #[] e1) := ⟨_, get?_update_seq ho fun _ => #[]⟩
 rw [list_sort_plain]
 refine wpAny_bind (listItems_at ho rfl (wpAny_bind (listUpdate_at ho rfl (wpAny_bind (seqEpoch_at ho1 rfl (wpAny_bind (wpAny_newTuple (wpAny_bind (wpAny_newList (wpAny_holding ?_) (Nat.zero_le _))) (by show vs.length ≤ _; rw [sizeLine_eq]; omega))))) (by rw [List.size_toArray, sizeLine_eq]; omega) (Nat.zero_le _))))
 generalize hH : ((s.heap.update D (Obj.mapSeq fun _ => (#[] : Array Value))).push (seqObj "tuple" vs.toArray 0)).push (seqObj "list" #[] 0) = H3
 have keep : ∀ b o, b ≠ D → s.heap.get? b = some o → H3.get? b = some o := fun b o hb e => by
  rw [← hH]
  exact Heap.get?_push_of_some _ (Heap.get?_push_of_some _ ((Heap.get?_update_other _ _ (Ne.symm hb)).trans e))
 have ho3 : H3.get? D = some (seqObj "list" #[] e1) := by
  rw [← hH]
  exact Heap.get?_push_of_some _ (Heap.get?_push_of_some _ ho1)
 have fin : ∀ (p : Array Nat), Srt.All vs.length p → Srt.Up key p vs.length → P (.done (.ret .none)) { s with heap := H3.update D (Obj.mapSeq fun _ => List.toArray (p.toList.map fun i => vs.getD i Value.none)) } := fun p hp hu =>
  h p _ _ hp hu (fun b o hb e => (Heap.get?_update_other _ _ (Ne.symm hb)).trans (keep b o hb e)) (get?_update_seq ho3 fun _ => List.toArray (p.toList.map fun i => vs.getD i Value.none))
 refine (show wpAny (model prog w) A _ P E { s with heap := H3 } from ?_)
 dsimp only
 have hsz : vs.toArray.size = vs.length := List.size_toArray
 by_cases h2 : vs.toArray.size < 2
 ·rw [if_pos h2, if_pos h2]
  refine wpAny_bind (wpAny_pure ?_)
  rw [StateT.run_pure]
  refine wpAny_bind (wpAny_pure ?_)
  dsimp only
  have hid : (arrOf (SortSt.mk' general' (vs.toArray.zip vs.toArray) #[] 7 none)).map (·.2) = List.toArray ((List.range vs.length).map fun i => vs.getD i Value.none) := by
   show (vs.toArray.zip vs.toArray).map (·.2) = _
   apply Array.toList_inj.mp
   apply List.ext_getElem
   ·simp
   ·intro i a1 a2
    have hi : i < vs.length := by simpa using a2
    simp [hi]
  refine wpAny_bind (seqEpoch_at ho3 rfl ?_)
  rw [hid]
  refine wpAny_bind (listUpdate_at ho3 rfl ?_ (Nat.zero_le _) (by rw [List.size_toArray, List.length_map, List.length_range, sizeLine_eq]; omega))
  simp only [bne_self_eq_false, Bool.false_eq_true, if_false]
  refine wpAny_pure ?_
  have := fin (List.toArray (List.range vs.length)) ⟨.rfl⟩ fun i j hij hj => by
   have : i = j := by omega
   subst this
   exact KeyOrd.kle_refl _
  exact this
 ·rw [if_neg h2, if_neg h2]
  have h2' : 2 ≤ vs.length := by omega
  refine wpAny_bind (hk h2' { s with heap := H3 } _ _ keep ?_)
  have ask : (kas_sort vs.length).kasWp (kas_ask prog w A κ vs) (fun p s' => s' = { s with heap := H3 } ∧ Srt.All vs.length p ∧ Srt.Up key p vs.length) { s with heap := H3 } :=
   Srt.Ok.wp (fun i j C hi hj q => hc { s with heap := H3 } i j C _ keep hi hj q) (fun p hp => ⟨rfl, hp.1, hp.2⟩) (Srt.ok_sort (by omega))
  refine wpAny_bind (wpAny_mono (kat_run (Q := fun st' s' => ∃ p : Array Nat, arrOf st' = p.map (kas_item (vs.toArray.zip vs.toArray)) ∧ failedOf st' = none ∧ s' = { s with heap := H3 } ∧ Srt.All vs.length p ∧ Srt.Up key p vs.length) rfl h2' h64 (fun p st' s' _ a2 a3 a4 => ⟨p, a2, a3, a4⟩) ask) ?_ fun _ _ e => e)
  rintro ⟨⟨⟩, st'⟩ s' ⟨p, har, hf, rfl, hp, hu⟩
  dsimp only
  rw [kat_snds rfl har]
  refine wpAny_bind (seqEpoch_at ho3 rfl (wpAny_bind (listUpdate_at ho3 rfl ?_ (Nat.zero_le _) ?_)))
  ·rw [hf]
   simp only [bne_self_eq_false, Bool.false_eq_true, if_false]
   exact wpAny_pure (fin p hp hu)
  ·have := hp.size
   rw [List.size_toArray, List.length_map, Array.length_toList, this, sizeLine_eq]
   omega
end
end My
namespace My
open PySem PySem.Spec PySem.W PySem.Calls
open PyProof.Rows hiding St
def lexB : List Bool → List Bool → Bool
 | [], [] => false
 | [], _ :: _ => true
 | _ :: _, [] => false
 | a :: x, b :: y => if a = b then lexB x y else !a && b
theorem lexB_irrefl : ∀ a, lexB a a = false
 | [] => rfl
 | a :: x => by rw [lexB, if_pos rfl]; exact lexB_irrefl x
theorem lexB_trans : ∀ a b c, lexB a b = true → lexB b c = true → lexB a c = true
 | [], [], _, h, _ => by simp [lexB] at h
 | [], _ :: _, [], _, h => by simp [lexB] at h
 | [], _ :: _, _ :: _, _, _ => rfl
 | _ :: _, [], _, h, _ => by simp [lexB] at h
 | _ :: _, _ :: _, [], _, h => by simp [lexB] at h
 | a :: x, b :: y, c :: z, h1, h2 => by
  have ih := lexB_trans x y z
  cases a <;> cases b <;> cases c <;> simp [lexB] at h1 h2 ⊢ <;> exact ih h1 h2
theorem lexB_neg : ∀ a b c, lexB a c = true → lexB a b = true ∨ lexB b c = true
 | [], [], [], h => by simp [lexB] at h
 | [], [], _ :: _, _ => .inr rfl
 | [], _ :: _, _, _ => .inl rfl
 | _ :: _, _, [], h => by simp [lexB] at h
 | _ :: _, [], _ :: _, _ => .inr rfl
 | a :: x, b :: y, c :: z, h => by
  have ih := lexB_neg x y z
  cases a <;> cases b <;> cases c <;> simp [lexB] at h ⊢ <;> exact ih h
theorem lexB_total : ∀ a b, lexB a b = false → lexB b a = false → a = b
 | [], [], _, _ => rfl
 | [], _ :: _, h, _ => by simp [lexB] at h
 | _ :: _, [], _, h => by simp [lexB] at h
 | a :: x, b :: y, h1, h2 => by
  have ih := lexB_total x y
  cases a <;> cases b <;> simp [lexB] at h1 h2 ⊢ <;> exact ih h1 h2
def ordB : KeyOrd where
 α := List Bool
 blt := lexB
 irrefl := lexB_irrefl
 trans := lexB_trans
 negTrans := lexB_neg
 total := lexB_total
section
variable {prog : Program} {w : World} {A : Around} {E : Value → Shared → Prop} {s : Shared}
theorem one_bl {a b : Bool} {Q : Bool → Shared → Prop} (h : Q (decide (b2i a < b2i b)) s) : wpAny (model prog w) A (oneLt' true (.bool a) (.bool b)) Q E s := by
 rw [oneLt'_eq]
 simp only [if_true]
 refine wpAny_bind (wpAny_cRoomFor_byValue rfl (wpAny_bind (wpAny_callSpecialIfBound?_slot (T := "bool") rfl PySem.F.slot_bool_lt (call_gives PySem.F.slot_bool_lt rfl PySem.F.entry_int_lt (PySem.F.args_int_lt_2 _ _) (gives_int_lt_bools a b) ?_))))
 exact wpAny_truthy_bool h
theorem blt_lt {a b : Bool} (h : a ≠ b) : decide (b2i a < b2i b) = (!a && b) := by cases a <;> cases b <;> first | rfl | exact absurd rfl h
theorem items_bl : ∀ {k : List Bool} {vs : List Value}, ItemsAre (blKind prog w) k vs → vs = k.map Value.bool
 | _, _, .nil => rfl
 | _, _, .cons h r => by rw [isBl_shape h, items_bl r]; rfl
theorem lex_bl (b fin : Bool) {Q : Bool → Shared → Prop} : ∀ (x y : List Bool) (i : Nat), fin = decide (x.length < y.length) → Q (lexB x y) s → KatLex prog w A b fin Q ((x.map Value.bool).zip (y.map Value.bool)) i s
 | [], [], i, hf, h => kat_nil (by rw [hf]; exact h)
 | [], _ :: _, i, hf, h => kat_nil (by rw [hf]; simpa [lexB] using h)
 | _ :: _, [], i, hf, h => kat_nil (by rw [hf]; simpa [lexB] using h)
 | a :: x, c :: y, i, hf, h => by
  refine kat_cons (SeqAt.EqAt.bool_bool a c _ _ _ _ ?_)
  by_cases e : a = c
  ·subst e
   have e2 : (a == a) = true := by simp
   rw [e2]
   refine kat_yes (lex_bl b fin x y (i + 1) (by rw [hf]; simp) ?_)
   rw [lexB, if_pos rfl] at h
   exact h
  ·have e2 : (a == c) = false := by simpa using e
   rw [e2]
   refine kat_no ?_
   rw [lexB, if_neg e] at h
   cases hb : (b && i == 0) with
   | true => exact one_bl (by rw [blt_lt e]; exact h)
   | false => exact kat_one _ _ (lt_bool (by rw [blt_lt e]; exact h))
theorem lt_rows {x y : Addr} {kx ky : List Bool} (b : Bool) {C : Bool → Shared → Prop} (hx : Bt prog w s.heap kx x) (hy : Bt prog w s.heap ky y) (h : C (lexB kx ky) s) : wpAny (model prog w) A (keyLt' (tuples' b) (.ref x) (.ref y)) C E s := by
 obtain ⟨ox, ix, nx, e1, _, d1, i1⟩ := hx
 obtain ⟨oy, iy, ny, e2, _, d2, i2⟩ := hy
 refine kat_lt e1 d1 e2 d2 ?_
 have h1 := items_bl i1
 have h2 := items_bl i2
 have l1 : ix.size = kx.length := by rw [← Array.length_toList, h1, List.length_map]
 have l2 : iy.size = ky.length := by rw [← Array.length_toList, h2, List.length_map]
 rw [h1, h2, l1, l2]
 exact lex_bl b _ kx ky 0 rfl h
theorem firsts_rows : ∀ (R : List (Addr × List Bool)), (∀ r ∈ R, Bt prog w s.heap r.2 r.1 ∧ r.2 ≠ []) → ∃ fs : List Value, KatTups s.heap (R.map fun r => Value.ref r.1) fs ∧ fs.length = R.length ∧ ∀ v ∈ fs, ∃ b, v = .bool b
 | [], _ => ⟨[], .nil, rfl, fun v hv => by simp at hv⟩
 | r :: R, h => by
  obtain ⟨fs, h1, h2, h3⟩ := firsts_rows R fun q hq => h q (List.mem_cons_of_mem _ hq)
  obtain ⟨⟨o, its, n, ho, hc, hd, hi⟩, hne⟩ := h r List.mem_cons_self
  have e := items_bl hi
  cases hk : r.2 with
  | nil => exact absurd hk hne
  | cons b k =>
   rw [hk, List.map_cons] at e
   refine ⟨.bool b :: fs, KatTups.cons ho hc hd (by rw [← Array.getElem?_toList, e]; rfl) h1, by simp [h2], fun v hv => ?_⟩
   rcases List.mem_cons.mp hv with rfl | hv
   ·exact ⟨b, rfl⟩
   ·exact h3 v hv
theorem sort_rows {D : Addr} {R : List (Addr × List Bool)} {n0 : Nat} {P : PySem.Fin → Shared → Prop} (ho : s.heap.get? D = some (seqObj "list" (R.map fun r => Value.ref r.1).toArray n0)) (hR : ∀ r ∈ R, Bt prog w s.heap r.2 r.1 ∧ r.2 ≠ []) (h64 : R.length < 64)
  (h : ∀ (R' : List (Addr × List Bool)) (h' : Heap) (e : Nat), R'.Perm R → (R'.map (·.2)).Pairwise (fun a b => lexB b a = false) → (∀ b o, b ≠ D → s.heap.get? b = some o → h'.get? b = some o) → h'.get? D = some (seqObj "list" (R'.map fun r => Value.ref r.1).toArray e) → P (.done (.ret .none)) { s with heap := h' }) :
  wpAny (model prog w) A (Builtin.«list.sort» ⟨[.ref D], []⟩) P E s := by
 have hl : (R.map fun r => Value.ref r.1).length = R.length := List.length_map _
 have tup : ∀ {h' : Heap}, (∀ b o, b ≠ D → s.heap.get? b = some o → h'.get? b = some o) → ∀ r ∈ R, Bt prog w h' r.2 r.1 ∧ r.2 ≠ [] := fun {h'} k r hr => by
  obtain ⟨⟨o, its, n, e, hc, hd, hi⟩, hne⟩ := hR r hr
  refine ⟨⟨o, its, n, k _ _ (fun z => ?_) e, hc, hd, hi⟩, hne⟩
  rw [z] at e
  have := congrArg Obj.cls (Option.some.inj (e.symm.trans ho))
  rw [hc] at this
  simp at this
 refine list_sort_by (O := ordB) ho (by rw [hl]; exact h64) (fun i => (R.getD i (0, [])).2) (tuples' true) (fun h2 s1 Q' E' k q => ?_) (fun s1 i j C E' k hi hj q => ?_) fun p h' e ha hu k eD => ?_
 ·obtain ⟨fs, h1, h2', h3⟩ := firsts_rows (s := s1) R (tup k)
  refine kat_kind (T := .type "bool") h1 (by rw [h2']; rw [hl] at h2; omega) (fun v hv => ?_) rfl q
  obtain ⟨b, rfl⟩ := h3 v hv
  exact Looks.of_pure rfl
 ·rw [hl] at hi hj
  have e1 : (R.map fun r => Value.ref r.1).getD i Value.none = .ref (R.getD i (0, [])).1 := by simp [hi]
  have e2 : (R.map fun r => Value.ref r.1).getD j Value.none = .ref (R.getD j (0, [])).1 := by simp [hj]
  have m1 : R.getD i (0, []) ∈ R := by simp [hi]
  have m2 : R.getD j (0, []) ∈ R := by simp [hj]
  rw [e1, e2]
  exact lt_rows true (tup k _ m1).1 (tup k _ m2).1 q
 ·rw [hl] at ha hu
  have hp : (p.toList.map fun i => R.getD i (0, [])).Perm R := by
   have h1 := ha.pm.map fun i => R.getD i (0, [])
   have h2 : (List.range R.length).map (fun i => R.getD i (0, [])) = R := by
    apply List.ext_getElem
    ·simp
    ·intro i a1 a2
     simp [a2]
   rw [h2] at h1
   exact h1
  refine h (p.toList.map fun i => R.getD i (0, [])) h' e hp ?_ k ?_
  ·rw [List.map_map, List.pairwise_iff_getElem]
   intro i j hi hj hij
   have hi' : i < p.size := by simpa using hi
   have hj' : j < p.size := by simpa using hj
   have := hu i j (Nat.le_of_lt hij) (by rw [← ha.size]; exact hj')
   have g1 : p.getD i 0 = p[i] := by simp [Array.getD, hi']
   have g2 : p.getD j 0 = p[j] := by simp [Array.getD, hj']
   unfold Srt.K at this
   rw [g1, g2] at this
   have h9 : lexB (R.getD p[j] (0, [])).2 (R.getD p[i] (0, [])).2 = false := this
   simpa using h9
  ·rw [eD, List.map_map]
   congr 3
   apply List.map_congr_left
   intro i hi
   have hi' : i < R.length := List.mem_range.mp (ha.pm.mem_iff.mp hi)
   simp [hi']
end
end My
namespace My
open PySem PySem.Spec PySem.W PySem.Calls L2
open PyProof.Rows hiding St
open Tb
theorem strs_at : ∀ {vs : List Value} {ss : List Str}, StrsAre vs ss → ∀ (i : Nat) (v : Value), vs[i]? = some v → ∃ x t, ss[i]? = some x ∧ v = .str x t
 | _, _, .nil, i, v, h => by simp at h
 | _, _, .cons x t r, 0, v, h => ⟨x, t, rfl, by simpa using h.symm⟩
 | _, _, .cons x t r, i + 1, v, h => by
  obtain ⟨y, u, h1, h2⟩ := strs_at r i v (by simpa using h)
  exact ⟨y, u, by simpa using h1, h2⟩
section
variable {X : Cx}
theorem inv_drew {pins : List (Addr × Obj)} {σ : St} {H : Hp} {s : Shared} (I : Inv X pins σ H s) (d : Drawn) : Inv X pins σ H { s with drawn := d } := ⟨I.ok, I.os, I.bare, I.base, I.loc, I.cell, I.free, I.freeC, I.pin, I.hok, I.len⟩
theorem ss_strs (hc : X.calm = true) {pins : List (Addr × Obj)} {σ : St} {H : Hp} {s : Shared} (I : Inv X pins σ H s) {p : Addr} {ss : List Str} {Q : VK} (hq : SqL X.K H p (ss.map V.str) ∨ SqT X.K H p (ss.map V.str)) (hlen : ss.length + 1 < scanBound) (h64 : ∀ ss' : List Str, ss'.Nodup → (∀ x ∈ ss', x ∈ ss) → ss'.length < 64)
  (q : ∀ ss' : List Str, ss'.Nodup → (∀ x, x ∈ ss' ↔ x ∈ ss) → sortedS ss' = true → New H (.lst (ss'.map V.str)) Q) :
  wpAny (model X.prog X.w) X.A (call (.type "set") [.ref p]) (fun u s' => wpAny (model X.prog X.w) X.A (call (.builtin "sorted") [u]) (EP X pins σ Q) X.xe s') X.xe s := by
 obtain ⟨its, rv, pl⟩ : ∃ its : List Value, Vals (ss.map V.str) its ∧ (s.heap.IsList p its.toArray ∨ s.heap.IsTuple p its.toArray) := by
  rcases hq with hq | hq
  ·obtain ⟨its, rv, pl, _⟩ := I.list hq
   exact ⟨its, rv, .inl pl.isList⟩
  ·obtain ⟨its, rv, pl, _⟩ := I.tuple hq
   exact ⟨its, rv, .inr pl⟩
 have hst := vals_strs rv
 have hil : its.length = ss.length := by rw [← rv.length, List.length_map]
 have hh : X.A.handled = none := I.ok.hd hc
 refine set_of hh pl (fun i h => ∃ es ep t, h.get? s.heap.objs.size = some (setObj es ep t) ∧ t.fits es.size = true ∧ t.led = !byT X.w ∧ (es.size ≠ 0 → t.plain = false) ∧ GoodS X.w es.toList (ss.take i) ∧ es.size ≤ i) ?_ ?_ ?_ ?_
 ·rintro i h h' ⟨es, ep, t, e, r⟩ k
  exact ⟨es, ep, t, k _ _ (Nat.ne_of_lt (Nat.lt_succ_self _)) e, r⟩
 ·refine ⟨#[], 0, _, Heap.get?_push_size _ rfl, rfl, rfl, fun z => absurd rfl z, ⟨fun e he => by simp at he, fun x hx => by simp at hx, .nil⟩, Nat.le_refl _⟩
 ·rintro i v A' s' Q' E' hu hv ⟨es, ep, t, e, f, l, pn, g, le⟩ qq
  have hv' : its[i]? = some v := by simpa using hv
  obtain ⟨x, tok, hx, rfl⟩ := strs_at hst i v hv'
  have hi : i < ss.length := (List.getElem?_eq_some_iff.mp hx).1
  refine add_str e f g (by omega) pn fun b h' tk es' ep' t' e' sb f' l' pn' g' le' => qq b h' tk sb ⟨es', ep', t', e', f', l'.trans l, pn', ?_, by omega⟩
  rw [List.take_add_one, hx]
  exact g'
 ·rintro h' tk ⟨es, ep, t, e, f, l, pn, g, le⟩ keep
  have hits : its.toArray.size = ss.length := by rw [List.size_toArray, hil]
  rw [hits, List.take_length] at g
  rw [hits] at le
  have hup : t.plain = true → t.place.toList.Pairwise (· < ·) := fun hp => by
   have h0 : es.size = 0 := Classical.byContradiction fun z => by rw [pn z] at hp; cases hp
   have := fits_len f
   have h1 : t.place.toList = [] := List.length_eq_zero_iff.mp (by rw [Array.length_toList, this, h0])
   rw [h1]
   exact .nil
  have hzl : es.size ≤ sizeLine := fits_of_scanBound (by omega)
  refine sorted_set (s := { s with heap := h', toks := tk }) hh e f l hup hzl fun D h2 d tk2 ws hp keep2 hD eD => ?_
  have hws : ∀ v, v ∈ ws → ∃ x t, v = .str x t := fun v hv => by
   obtain ⟨e1, he1, rfl⟩ := List.mem_map.mp (hp.mem_iff.mp hv)
   obtain ⟨x, t, _, rfl⟩ := g.in1 e1 he1
   exact ⟨x, t, rfl⟩
  have hS := strsAre_map ws hws
  have hmem : ∀ x, x ∈ ws.map strOf ↔ x ∈ ss := fun x => by
   constructor
   ·intro hx
    obtain ⟨v, hv, rfl⟩ := List.mem_map.mp hx
    obtain ⟨e1, he1, rfl⟩ := List.mem_map.mp (hp.mem_iff.mp hv)
    obtain ⟨y, t, hy, rfl⟩ := g.in1 e1 he1
    exact hy
   ·intro hx
    obtain ⟨t, ht⟩ := g.in2 x hx
    exact List.mem_map.mpr ⟨.str x t, hp.mem_iff.mpr (List.mem_map.mpr ⟨_, ht, rfl⟩), rfl⟩
  have hnd : (ws.map strOf).Nodup := by
   have h1 : (es.toList.map (·.2)).Pairwise fun v v' => ∀ x t t', v = .str x t → v' ≠ .str x t' := List.pairwise_map.mpr g.one
   have h2 := (hp.pairwise_iff (fun {a b} hab x t t' z1 z2 => hab x t' t z2 z1)).mpr h1
   refine List.pairwise_map.mpr (List.Pairwise.imp_of_mem (fun {a b} ha hb hab => ?_) h2)
   obtain ⟨x, t, rfl⟩ := hws a ha
   obtain ⟨y, t', rfl⟩ := hws b hb
   intro z
   have z' : x = y := z
   subst z'
   exact hab x t t' rfl rfl
  have hl64 : ws.length < 64 := by
   have := h64 _ hnd fun x hx => (hmem x).mp hx
   rwa [List.length_map] at this
  refine wpAny_call_entry slot_list_sort ⟨_, eD, rfl⟩ entry_list_sort (list_sort_treeK strKind_oneLt eD hS.keysOf (fun v₁ v₂ rest e => keyKind_strs (by rw [← e]; exact hS)) hl64 fun st' a1 a2 => ⟨_, rfl, ?_⟩) (args_list_sort _)
  obtain ⟨ss', b1, b2, b3⟩ := sorted_out_str hS a1 a2
  have hDs : s.heap.objs.size ≤ D := Nat.le_trans (Nat.le_of_lt (Heap.lt_size e)) hD
  obtain ⟨e2, he2⟩ := sortedHeap_at (out := (arrOf st').map (·.2)) eD
  have hn : H D = none := I.hok.fresh hDs
  refine ⟨.ref D, upd H D (.lst (ss'.map V.str)), ?_, rfl, (q ss' (b2.nodup_iff.mpr hnd) (fun x => (b2.mem_iff).trans (hmem x)) b3).at D hn⟩
  refine (inv_drew I d).laid (t' := tk2) (fun b o eb => ?_) hDs ⟨?_, ((arrOf st').map (·.2)).toList, e2, strs_vals b1, by rw [Array.toArray_toList]; exact he2⟩
  ·have hbs : b < s.heap.objs.size := Heap.lt_size eb
   have eb2 := keep2 b o (keep b o eb)
   rw [sortedHeap_old (Nat.ne_of_lt (Nat.lt_of_lt_of_le hbs hDs)) (Heap.lt_size eb2)]
   exact eb2
  ·rw [List.length_map, b2.length_eq, List.length_map]
   exact Nat.le_of_lt (Nat.lt_of_lt_of_le hl64 (by decide))
end
end My
namespace My
open PySem PySem.Spec PySem.W PySem.Calls L2
open PyProof.Rows hiding St
open Tb
theorem items_of {prog : Program} {w : World} : ∀ k : List Bool, ItemsAre (blKind prog w) k (k.map Value.bool)
 | [] => .nil
 | b :: k => .cons (by show isBl b (.bool b) = true; simp [isBl]) (items_of k)
section
variable {X : Cx}
theorem bt_of {pins : List (Addr × Obj)} {σ : St} {H : Hp} {s : Shared} (I : Inv X pins σ H s) {a : Addr} {k : List Bool} (h : SqT X.K H a (k.map V.bl)) : Bt X.prog X.w s.heap k a := by
 obtain ⟨its, rv, ⟨o, e, hc, n, d⟩, _⟩ := I.tuple h
 have := vals_bools rv
 subst this
 exact ⟨o, _, n, e, hc, d, items_of k⟩
theorem vals_refs : ∀ {as : List Addr} {us : List Value}, Vals (as.map V.ref) us → us = as.map Value.ref
 | [], us, r => by cases r; rfl
 | a :: as, us, r => by
  rw [List.map_cons] at r
  cases r with
  | cons r1 r2 =>
   cases r1
   rw [vals_refs r2]
   rfl
theorem refs_vals : ∀ (as : List Addr), Vals (as.map V.ref) (as.map Value.ref)
 | [] => .nil
 | a :: as => .cons rfl (refs_vals as)
theorem ss_rows (hc : X.calm = true) (hu : X.A.units + 64 < cLine) {pins : List (Addr × Obj)} {σ : St} {H : Hp} {s : Shared} (I : Inv X pins σ H s) {p : Addr} {R : List (Addr × List Bool)} {Q : VK} (hq : SqL X.K H p (R.map fun r => V.ref r.1)) (hR : ∀ r ∈ R, SqT X.K H r.1 (r.2.map V.bl) ∧ r.2 ≠ []) (h64 : R.length < 64)
  (q : ∀ R' : List (Addr × List Bool), (∀ r ∈ R', r ∈ R) → (R'.map (·.2)).Nodup → (∀ k, k ∈ R'.map (·.2) ↔ k ∈ R.map (·.2)) → (R'.map (·.2)).Pairwise (fun a b => lexB b a = false) → R'.length ≤ R.length → New H (.lst (R'.map fun r => V.ref r.1)) Q) :
  wpAny (model X.prog X.w) X.A (call (.type "set") [.ref p]) (fun u s' => wpAny (model X.prog X.w) X.A (call (.builtin "sorted") [u]) (EP X pins σ Q) X.xe s') X.xe s := by
 obtain ⟨its, rv, pl, hz⟩ := I.list hq
 have eits : its = R.map fun r => Value.ref r.1 := by
  have h1 : (R.map fun r => V.ref r.1) = (R.map (·.1)).map V.ref := by rw [List.map_map]; rfl
  rw [h1] at rv
  rw [vals_refs rv, List.map_map]
  rfl
 have hBt : ∀ r ∈ R, Bt X.prog X.w s.heap r.2 r.1 := fun r hr => bt_of I (hR r hr).1
 have hh : X.A.handled = none := I.ok.hd hc
 have old : ∀ {h : Heap}, (∀ b o, s.heap.get? b = some o → h.get? b = some o) → ∀ r ∈ R, Bt X.prog X.w h r.2 r.1 := fun {h} k r hr => (hBt r hr).mono fun o ho => k _ o ho
 refine set_of_list hh pl.isList (fun i h => ∃ L es ep t, h.get? s.heap.objs.size = some (setObj es ep t) ∧ Rep L es t ∧ Room5 L t ∧ t.led = !byT X.w ∧ Good X.prog X.w h (L.map (·.2)) ((R.take i).map (·.2)) ∧ L.length ≤ i ∧ (∀ e ∈ L.map (·.2), ∃ r ∈ R, e.2 = .ref r.1) ∧ ∀ r ∈ R, Bt X.prog X.w h r.2 r.1) ?_ ?_ ?_ ?_
 ·rintro i h h' ⟨L, es, ep, t, e, r, r5, l, g, le, me, ob⟩ k
  have kt : ∀ r ∈ R, Bt X.prog X.w h' r.2 r.1 := fun r hr => (ob r hr).mono fun o ho => k _ o (fun z => by
   obtain ⟨o2, _, _, e2, _⟩ := hBt r hr
   have := Heap.lt_size e2
   rw [z] at this
   exact absurd this (Nat.not_lt.mpr (Nat.le_succ _))) ho
  refine ⟨L, es, ep, t, k _ _ (Nat.ne_of_lt (Nat.lt_succ_self _)) e, r, r5, l, ?_, le, me, kt⟩
  have upE : ∀ e1 k1, e1 ∈ L.map (·.2) → Elem X.prog X.w h e1 k1 → Elem X.prog X.w h' e1 k1 := fun e1 k1 he1 x => by
   obtain ⟨r1, hr1, er1⟩ := me e1 he1
   obtain ⟨b, eb, hb, hh1⟩ := x
   rw [er1] at eb
   cases eb
   exact ⟨r1.1, er1, by
    have e3 := (ob r1 hr1).inj hb
    subst e3
    exact kt r1 hr1, hh1⟩
  have dnE : ∀ e1 k1, e1 ∈ L.map (·.2) → Elem X.prog X.w h' e1 k1 → Elem X.prog X.w h e1 k1 := fun e1 k1 he1 x => by
   obtain ⟨k2, _, x2⟩ := g.in1 e1 he1
   have := (upE e1 k2 he1 x2).inj x
   subst this
   exact x2
  exact ⟨fun e1 h1 => let ⟨k1, a1, a2⟩ := g.in1 e1 h1; ⟨k1, a1, upE e1 k1 h1 a2⟩, fun k1 h1 => let ⟨e1, a1, a2⟩ := g.in2 k1 h1; ⟨e1, a1, upE e1 k1 a1 a2⟩,
   List.Pairwise.imp_of_mem (fun {a b} ha hb hab k1 x1 x2 => hab k1 (dnE a k1 ha x1) (dnE b k1 hb x2)) g.one⟩
 ·refine ⟨[], #[], 0, _, Heap.get?_push_size _ rfl, ⟨rfl, rfl, rfl, .nil, fun x hx => by simp at hx, .inl rfl, by simp⟩, (show 0 * 5 < 7 * 3 by decide), rfl, ⟨fun e he => by simp at he, fun k hk => by simp at hk, .nil⟩, Nat.le_refl _, fun e he => by simp at he, old fun b o e => Heap.get?_push_of_some _ e⟩
 ·rintro i v A' s' Q' E' hu' hv ⟨L, es, ep, t, e, r, r5, l, g, le, me, ob⟩ qq
  rw [eits] at hv
  have hv' : (R.map fun r => Value.ref r.1)[i]? = some v := by simpa using hv
  rw [List.getElem?_map] at hv'
  cases hri : R[i]? with
  | none => rw [hri] at hv'; cases hv'
  | some r1 =>
   rw [hri] at hv'
   cases hv'
   have hm := List.mem_of_getElem? hri
   have hi : i < R.length := (List.getElem?_eq_some_iff.mp hri).1
   refine add_tup (by omega) r r5 (by omega) e g (ob r1 hm) fun b h' tk L' es' ep' t' e' sb r' r5' l' pl' g' le' me' => qq b h' tk sb ⟨L', es', ep', t', e', r', r5', l'.trans l, ?_, by omega, fun e1 he1 => ?_, fun r2 hr2 => ?_⟩
   ·rw [List.take_add_one, hri, List.map_append]
    exact g'
   ·rcases me' e1 he1 with z | z
    ·exact me e1 z
    ·exact ⟨r1, hm, z⟩
   ·obtain ⟨o2, i2, n2, e2, c2, rest⟩ := ob r2 hr2
    exact ⟨o2, i2, n2, sb_tuple e sb _ _ c2 e2, c2, rest⟩
 ·rintro h' tk ⟨L, es, ep, t, e, r, r5, l, g, le, me, ob⟩ keep
  have hits : its.toArray.size = R.length := by rw [eits, List.size_toArray, List.length_map]
  rw [hits] at g le
  rw [List.take_length] at g
  have hes : es.toList = L.map (·.2) := by rw [r.es]
  have hesz : es.size = L.length := by rw [r.es]; simp
  have hup : t.plain = true → t.place.toList.Pairwise (· < ·) := fun _ => by rw [r.pl]; exact r.up
  refine sorted_set (s := { s with heap := h', toks := tk }) hh e r.fits l hup (by rw [hesz, sizeLine_eq]; omega) fun D h2 d tk2 ws hp keep2 hD eD => ?_
  rw [hes] at hp
  have hrow : ∀ v ∈ ws, ∃ r1 ∈ R, v = .ref r1.1 := fun v hv => by
   obtain ⟨e1, he1, rfl⟩ := List.mem_map.mp (hp.mem_iff.mp hv)
   exact me e1 he1
  have pick : ∀ ws : List Value, (∀ v ∈ ws, ∃ r1 ∈ R, v = .ref r1.1) → ∃ R1 : List (Addr × List Bool), (∀ r1 ∈ R1, r1 ∈ R) ∧ ws = R1.map fun r1 => Value.ref r1.1 := by
   intro ws
   induction ws with
   | nil => exact fun _ => ⟨[], by simp, rfl⟩
   | cons v ws ih =>
    intro hws
    obtain ⟨R1, h1, h2⟩ := ih fun v hv => hws v (List.mem_cons_of_mem _ hv)
    obtain ⟨r1, hr1, e1⟩ := hws v List.mem_cons_self
    refine ⟨r1 :: R1, fun y hy => ?_, by rw [e1, h2]; rfl⟩
    rcases List.mem_cons.mp hy with rfl | hy
    ·exact hr1
    ·exact h1 y hy
  obtain ⟨R1, hR1, ews⟩ := pick ws hrow
  have elem_of : ∀ r1 ∈ R, ∀ e1 ∈ L.map (·.2), e1.2 = .ref r1.1 → Elem X.prog X.w h' e1 r1.2 := fun r1 hr1 e1 he1 z => by
   obtain ⟨k1, _, b, eb, hb, hh1⟩ := g.in1 e1 he1
   rw [z] at eb
   cases eb
   have := (ob r1 hr1).inj hb
   subst this
   exact ⟨r1.1, z, hb, hh1⟩
  have hmem : ∀ k, k ∈ R1.map (·.2) ↔ k ∈ R.map (·.2) := fun k => by
   constructor
   ·intro hk
    obtain ⟨r1, hr1, rfl⟩ := List.mem_map.mp hk
    exact List.mem_map_of_mem (hR1 r1 hr1)
   ·intro hk
    obtain ⟨e1, he1, hE⟩ := g.in2 k hk
    have hv : e1.2 ∈ ws := hp.mem_iff.mpr (List.mem_map_of_mem he1)
    rw [ews] at hv
    obtain ⟨r1, hr1, er1⟩ := List.mem_map.mp hv
    have := (elem_of r1 (hR1 r1 hr1) e1 he1 er1.symm).inj hE
    exact List.mem_map.mpr ⟨r1, hr1, this⟩
  have hnd : (R1.map (·.2)).Nodup := by
   have h1 : ((L.map (·.2)).map (·.2)).Pairwise fun v v' => ∀ r1 ∈ R, ∀ r2 ∈ R, v = .ref r1.1 → v' = .ref r2.1 → r1.2 ≠ r2.2 :=
    List.pairwise_map.mpr (List.Pairwise.imp_of_mem (fun {a b} ha hb hab r1 hr1 r2 hr2 z1 z2 z3 => hab r1.2 (elem_of r1 hr1 a ha z1) (z3 ▸ elem_of r2 hr2 b hb z2)) g.one)
   have h2 := (hp.pairwise_iff (fun {a b} hab r1 hr1 r2 hr2 z1 z2 z3 => hab r2 hr2 r1 hr1 z2 z1 z3.symm)).mpr h1
   rw [ews] at h2
   exact List.pairwise_map.mpr (List.Pairwise.imp_of_mem (fun {a b} ha hb hab z => hab a (hR1 a ha) b (hR1 b hb) rfl rfl z) (List.pairwise_map.mp h2))
  have hR1l : R1.length = L.length := by
   have := hp.length_eq
   rw [ews] at this
   simpa using this
  rw [ews] at eD
  refine wpAny_call_entry slot_list_sort ⟨_, eD, rfl⟩ entry_list_sort (sort_rows (prog := X.prog) (w := X.w) eD (fun r1 hr1 => ⟨(ob r1 (hR1 r1 hr1)).mono fun o ho => keep2 _ o ho, (hR r1 (hR1 r1 hr1)).2⟩) (by omega) fun R2 h3 e3 pm up k3 eD3 => ⟨_, rfl, ?_⟩) (args_list_sort _)
  have hDs : s.heap.objs.size ≤ D := Nat.le_trans (Nat.le_of_lt (Heap.lt_size e)) hD
  have hn : H D = none := I.hok.fresh hDs
  have q2 := q R2 (fun r1 hr1 => hR1 r1 (pm.mem_iff.mp hr1)) ((pm.map (·.2)).nodup_iff.mpr hnd) (fun k => ((pm.map (·.2)).mem_iff).trans (hmem k)) up (by rw [pm.length_eq]; omega)
  refine ⟨.ref D, upd H D (.lst (R2.map fun r1 => V.ref r1.1)), ?_, rfl, q2.at D hn⟩
  refine (inv_drew I d).laid (t' := tk2) (fun b o eb => ?_) hDs ⟨?_, R2.map (fun r1 => Value.ref r1.1), e3, ?_, eD3⟩
  ·have hbs : b < s.heap.objs.size := Heap.lt_size eb
   exact k3 b o (Nat.ne_of_lt (Nat.lt_of_lt_of_le hbs hDs)) (keep2 b o (keep b o eb))
  ·rw [List.length_map, pm.length_eq, sizeLine_eq]
   omega
  ·have h1 : (R2.map fun r => V.ref r.1) = (R2.map (·.1)).map V.ref := by rw [List.map_map]; rfl
   have h2 : (R2.map fun r => Value.ref r.1) = (R2.map (·.1)).map Value.ref := by rw [List.map_map]; rfl
   rw [h1, h2]
   exact refs_vals _
def mSS (K : PySem.W.Frag) : V → Hp → VK → Prop := fun v H Q => match v with
 | .ref p => (∃ ss : List Str, (SqL K H p (ss.map V.str) ∨ SqT K H p (ss.map V.str)) ∧ ss.length + 1 < scanBound ∧ (∀ ss' : List Str, ss'.Nodup → (∀ x ∈ ss', x ∈ ss) → ss'.length < 64) ∧ ∀ ss' : List Str, ss'.Nodup → (∀ x, x ∈ ss' ↔ x ∈ ss) → sortedS ss' = true → New H (.lst (ss'.map V.str)) Q) ∨
  ∃ R : List (Addr × List Bool), SqL K H p (R.map fun r => V.ref r.1) ∧ (∀ r ∈ R, SqT K H r.1 (r.2.map V.bl) ∧ r.2 ≠ []) ∧ R.length < 64 ∧
   ∀ R' : List (Addr × List Bool), (∀ r ∈ R', r ∈ R) → (R'.map (·.2)).Nodup → (∀ k, k ∈ R'.map (·.2) ↔ k ∈ R.map (·.2)) → (R'.map (·.2)).Pairwise (fun a b => lexB b a = false) → R'.length ≤ R.length → New H (.lst (R'.map fun r => V.ref r.1)) Q
 | _ => False
theorem q_ss {K : PySem.W.Frag} {H : Hp} {Q : VK} {p : Addr} : mSS K (.ref p) H Q = ((∃ ss : List Str, (SqL K H p (ss.map V.str) ∨ SqT K H p (ss.map V.str)) ∧ ss.length + 1 < scanBound ∧ (∀ ss' : List Str, ss'.Nodup → (∀ x ∈ ss', x ∈ ss) → ss'.length < 64) ∧ ∀ ss' : List Str, ss'.Nodup → (∀ x, x ∈ ss' ↔ x ∈ ss) → sortedS ss' = true → New H (.lst (ss'.map V.str)) Q) ∨
  ∃ R : List (Addr × List Bool), SqL K H p (R.map fun r => V.ref r.1) ∧ (∀ r ∈ R, SqT K H r.1 (r.2.map V.bl) ∧ r.2 ≠ []) ∧ R.length < 64 ∧
   ∀ R' : List (Addr × List Bool), (∀ r ∈ R', r ∈ R) → (R'.map (·.2)).Nodup → (∀ k, k ∈ R'.map (·.2) ↔ k ∈ R.map (·.2)) → (R'.map (·.2)).Pairwise (fun a b => lexB b a = false) → R'.length ≤ R.length → New H (.lst (R'.map fun r => V.ref r.1)) Q) := rfl
def tSS (K : PySem.W.Frag) (te : TE) : TE := fun σ H Q => te σ H fun v H1 => mSS K v H1 Q
theorem m_sortedSet {e : Expr} {te : TE} {p1 p2 pos1 pos2 : Pos} (hc : X.calm = true) (hu : X.A.units + 64 < cLine) (g1 : Gl X "sorted") (m1 : X.mg "sorted" = none) (g2 : Gl X "set") (m2 : X.mg "set" = none) (ha : PE X e te)
  (he1 : starEach [.Call (.Name "set" p2) [e] [] pos2] X.env = [(false, eval (.Call (.Name "set" p2) [e] [] pos2) X.env)] := by rfl) (he2 : starEach [e] X.env = [(false, eval e X.env)] := by rfl) :
  PE X (.Call (.Name "sorted" p1) [.Call (.Name "set" p2) [e] [] pos2] [] pos1) (tSS X.K te) := by
 intro pins s σ H Q I h
 refine wpAny_Call_Name_kw (ld_blt I g1 m1 bt_sorted (PyProof.Rows.callWith_builtin1 ?_ he1 rfl))
 rw [he1]
 refine (show wpAny _ _ (spliced ((false, eval (.Call (.Name "set" p2) [e] [] pos2) X.env) :: [])) _ _ s from Calls.spliced_cons ?_)
 refine wpAny_Call_Name_kw (ld_blt I g2 m2 bt_set (PyProof.Rows.callWith_type1 ?_ he2 rfl))
 rw [he2]
 refine (show wpAny _ _ (spliced ((false, eval e X.env) :: [])) _ _ s from Calls.spliced_cons (thn (ha pins s σ H _ I h) fun u s1 ⟨x, H1, I1, r1, q1⟩ => Calls.spliced_nil ?_))
 cases x with
 | ref a =>
  cases r1
  rcases (show _ ∨ _ from q1) with ⟨ss, b1, b2, b3, b4⟩ | ⟨R, b1, b2, b3, b4⟩
  ·exact thn (ss_strs hc I1 b1 b2 b3 b4) fun u2 s2 h2 => Calls.spliced_nil h2
  ·exact thn (ss_rows hc hu I1 b1 b2 b3 b4) fun u2 s2 h2 => Calls.spliced_nil h2
 | _ => exact (show False from q1).elim
end
end My
namespace My
open PySem PySem.Spec PySem.W PySem.Calls L2
open PyProof.Rows hiding St
theorem nodup_len {α : Type} [DecidableEq α] : ∀ {l m : List α}, l.Nodup → (∀ x ∈ l, x ∈ m) → l.length ≤ m.length
 | [], _, _, _ => Nat.zero_le _
 | a :: l, m, hn, hs => by
  rw [List.nodup_cons] at hn
  have ha := hs a List.mem_cons_self
  have ih := nodup_len (l := l) (m := m.erase a) hn.2 fun x hx => (List.mem_erase_of_ne (by intro z; subst z; exact hn.1 hx)).mpr (hs x (List.mem_cons_of_mem _ hx))
  rw [List.length_erase_of_mem ha] at ih
  have := List.length_pos_of_mem ha
  rw [List.length_cons]
  omega
def leS (a b : Str) : Prop := ltCps b.cps.toList a.cps.toList = false
theorem leS_iff {a b : Str} : leS a b ↔ strKind.kle a.cps.toList b.cps.toList := by
 unfold leS
 rw [ltCps_eq]
 exact Iff.rfl
theorem leS_trans {a b c : Str} (h1 : leS a b) (h2 : leS b c) : leS a c := leS_iff.mpr (KeyOrd.kle_trans (leS_iff.mp h1) (leS_iff.mp h2))
theorem leS_anti {a b : Str} (h1 : leS a b) (h2 : leS b a) : a = b := by
 have := KeyOrd.kle_antisymm (leS_iff.mp h1) (leS_iff.mp h2)
 cases a
 cases b
 congr 1
 exact Array.toList_inj.mp this
theorem rising_pairwise : ∀ (p : Str) (l : List Str), risingS p l = true → (p :: l).Pairwise leS
 | p, [], _ => List.pairwise_singleton _ _
 | p, x :: r, h => by
  have h' : (!ltCps x.cps.toList p.cps.toList && risingS x r) = true := h
  rw [Bool.and_eq_true] at h'
  have hpx : leS p x := by unfold leS; simpa using h'.1
  have ih := rising_pairwise x r h'.2
  refine List.pairwise_cons.mpr ⟨fun y hy => ?_, ih⟩
  rcases List.mem_cons.mp hy with rfl | hy
  ·exact hpx
  ·exact leS_trans hpx ((List.pairwise_cons.mp ih).1 y hy)
theorem sorted_pairwise : ∀ (l : List Str), sortedS l = true → l.Pairwise leS
 | [], _ => .nil
 | x :: r, h => rising_pairwise x r h
theorem sorted_eq {a b : List Str} (h1 : sortedS a = true) (h2 : sortedS b = true) (n1 : a.Nodup) (n2 : b.Nodup) (he : ∀ x, x ∈ a ↔ x ∈ b) : a = b :=
 List.Perm.eq_of_pairwise (fun _ _ _ _ x y => leS_anti x y) (sorted_pairwise a h1) (sorted_pairwise b h2) ((List.perm_ext_iff_of_nodup n1 n2).mpr he)
theorem rows_eq {a b : List (List Bool)} (h1 : a.Pairwise fun x y => lexB y x = false) (h2 : b.Pairwise fun x y => lexB y x = false) (n1 : a.Nodup) (n2 : b.Nodup) (he : ∀ x, x ∈ a ↔ x ∈ b) : a = b :=
 List.Perm.eq_of_pairwise (fun _ _ _ _ x y => lexB_total _ _ y x) h1 h2 ((List.perm_ext_iff_of_nodup n1 n2).mpr he)
open Classical in
theorem put_keys (kvs : List (Key × V)) (k : Key) (v : V) : (putK kvs k v).map (·.1) = if k ∈ kvs.map (·.1) then kvs.map (·.1) else kvs.map (·.1) ++ [k] := by
 unfold putK
 have hk : (kvs.any fun kv => decide (kv.1 = k)) = true ↔ k ∈ kvs.map (·.1) := by
  rw [List.any_eq_true, List.mem_map]
  constructor
  ·rintro ⟨x, h1, h2⟩
   exact ⟨x, h1, of_decide_eq_true h2⟩
  ·rintro ⟨x, h1, h2⟩
   exact ⟨x, h1, decide_eq_true h2⟩
 by_cases h : k ∈ kvs.map (·.1)
 ·rw [if_pos h, if_pos (hk.mpr h), List.map_map]
  apply List.map_congr_left
  intro x _
  show (if x.1 = k then (x.1, v) else x).1 = x.1
  split <;> rfl
 ·rw [if_neg h, if_neg (fun z => h (hk.mp z)), List.map_append]
  rfl
end My
namespace My
open PySem PySem.Spec L2
open PyProof.Rows hiding St
def Say.subs : Say → List Say
 | .letter _ => []
 | .neg s => [s]
 | .bin _ s t => [s, t]
theorem subs_pieces (s : Say) : s.pieces = 1 + (s.subs.map Say.pieces).sum := by
 cases s <;> simp [Say.subs, Say.pieces] <;> omega
theorem subs_letters {s : Say} (h : s.subs ≠ []) : s.letters = (s.subs.map Say.letters).flatten := by
 cases s <;> simp [Say.subs, Say.letters] at h ⊢
theorem letters_len : ∀ s : Say, s.letters.length ≤ s.pieces
 | .letter _ => Nat.le_refl _
 | .neg s => Nat.le_succ_of_le (letters_len s)
 | .bin _ s t => by
  have h1 := letters_len s
  have h2 := letters_len t
  simp only [Say.letters, Say.pieces, List.length_append]
  omega
theorem say_node {K : PySem.W.Frag} {H : Hp} {v : V} {s : Say} (h : SayAt K H v s) (hn : s.subs ≠ []) : ∃ a wd us, v = .ref a ∧ SqT K H a (.str wd :: us) ∧ decide (wd = Str.ofString "letter") = false ∧ us.length = s.subs.length ∧ us.length ≤ 2 ∧ ∀ (i : Nat) u, us[i]? = some u → ∃ t, s.subs[i]? = some t ∧ SayAt K H u t ∧ t.pieces < s.pieces := by
 cases s with
 | letter x => exact absurd rfl hn
 | neg t =>
  obtain ⟨a, u, rfl, ha, ht⟩ := h
  refine ⟨a, _, [u], rfl, ha, w10, rfl, by simp, fun i x hx => ?_⟩
  match i, hx with
  | 0, hx =>
   cases hx
   exact ⟨t, rfl, ht, Nat.lt_succ_self _⟩
  | i + 1, hx => simp at hx
 | bin o t t' =>
  obtain ⟨a, u, u', rfl, ha, ht, ht'⟩ := h
  refine ⟨a, _, [u, u'], rfl, ha, by cases o <;> first | exact w20 | exact w30 | exact w40, rfl, by simp, fun i x hx => ?_⟩
  match i, hx with
  | 0, hx =>
   cases hx
   exact ⟨t, rfl, ht, by simp only [Say.pieces]; omega⟩
  | 1, hx =>
   cases hx
   exact ⟨t', rfl, ht', by simp only [Say.pieces]; omega⟩
  | i + 2, hx => simp at hx
theorem at_head {α : Type} (x : α) (us : List α) : atI (x :: us) 0 = some x := atI_nat (xs := x :: us) (j := 0) rfl
theorem cut_tail (x : V) (us : List V) : cutV (x :: us) (some 1) none = us := by
 unfold cutV
 have e1 : HT.sIx (x :: us).length 0 (some 1) = 1 := by
  show (if (1 : Int) < 0 then ((1 : Int) + ((x :: us).length : Int)).toNat else min (1 : Int).toNat (x :: us).length) = 1
  rw [if_neg (by decide)]
  show min 1 (us.length + 1) = 1
  omega
 rw [e1, HT.sIx_none]
 show (us.take (us.length + 1 - 1)) = us
 rw [Nat.add_sub_cancel, List.take_length]
theorem flat_len : ∀ (ts : List Say), ((ts.map Say.letters).flatten).length ≤ (ts.map Say.pieces).sum
 | [] => Nat.le_refl _
 | t :: ts => by
  have h1 := letters_len t
  have h2 := flat_len ts
  simp only [List.map_cons, List.flatten_cons, List.length_append, List.sum_cons]
  omega
theorem take_sum (f : Say → Nat) : ∀ (ts : List Say) (i : Nat), ((ts.take i).map f).sum ≤ (ts.map f).sum
 | [], i => by simp
 | t :: ts, 0 => by simp
 | t :: ts, i + 1 => by
  have := take_sum f ts i
  simp only [List.take_succ_cons, List.map_cons, List.sum_cons]
  omega
end My
namespace My
open PySem PySem.Spec PySem.W PySem.Calls L2
open PyProof.Rows hiding St
section
variable {X : Cx}
def mIsN (neg : Bool) : R2 := fun x y H Q => y = .non ∧ Q (.bl (if neg then !decide (x = .non) else decide (x = .non))) H
theorem m_isN : OpR X (compareOp .Is) (mIsN false) := op_imp op_isN fun _ _ _ _ h => h
theorem m_notN : OpR X (compareOp .IsNot) (mIsN true) := op_imp op_notN fun _ _ _ _ h => h
def mIns : V → List V → Hp → VK → Prop := fun x vs H Q => match x, vs with
 | .ref l, [.int i, y] => ∃ xs, H l = some (.lst xs) ∧ xs.length < sizeLine ∧ 0 ≤ i ∧ i < 2 ^ 62 ∧ Q .non (upd H l (.lst (xs.take i.toNat ++ y :: xs.drop i.toNat)))
 | _, _ => False
theorem q_ins {l : Addr} {i : Int} {y : V} {H : Hp} {Q : VK} : mIns (.ref l) [.int i, y] H Q = ∃ xs, H l = some (.lst xs) ∧ xs.length < sizeLine ∧ 0 ≤ i ∧ i < 2 ^ 62 ∧ Q .non (upd H l (.lst (xs.take i.toNat ++ y :: xs.drop i.toNat))) := rfl
def mClr : V → List V → Hp → VK → Prop := fun x vs H Q => match x, vs with
 | .ref l, [] => ∃ xs, H l = some (.lst xs) ∧ Q .non (upd H l (.lst []))
 | _, _ => False
theorem q_clr {l : Addr} {H : Hp} {Q : VK} : mClr (.ref l) [] H Q = ∃ xs, H l = some (.lst xs) ∧ Q .non (upd H l (.lst [])) := rfl
theorem range_all (bs : List Bool) : (List.range bs.length).all (fun i => bs.getD i false) = bs.all id := by
 have e : bs = (List.range bs.length).map fun i => bs.getD i false := by
  apply List.ext_getElem
  ·simp
  ·intro i h1 h2
   simp [h1]
 have := congrArg (fun l : List Bool => l.all id) e
 simp only [List.all_map] at this
 exact this.symm
theorem range_any (bs : List Bool) : (List.range bs.length).any (fun i => bs.getD i false) = bs.any id := by
 have e : bs = (List.range bs.length).map fun i => bs.getD i false := by
  apply List.ext_getElem
  ·simp
  ·intro i h1 h2
   simp [h1]
 have := congrArg (fun l : List Bool => l.any id) e
 simp only [List.any_map] at this
 exact this.symm
def mAA (g : List Bool → Bool) (K : PySem.W.Frag) : List V → Hp → VK → Prop := fun xs H Q => match xs with
 | [.ref p] => ∃ bs : List Bool, SqL K H p (bs.map V.bl) ∧ Q (.bl (g bs)) H
 | _ => False
theorem q_aa {g : List Bool → Bool} {K : PySem.W.Frag} {p : Addr} {H : Hp} {Q : VK} : mAA g K [.ref p] H Q = ∃ bs : List Bool, SqL K H p (bs.map V.bl) ∧ Q (.bl (g bs)) H := rfl
theorem truth_bls {prog : Program} {w : World} {A : Around} (bs : List Bool) : TruthOf prog w A (fun i v => (bs.map Value.bool).toArray[i]? = some v) fun i => bs.getD i false := fun i v s Q E hv hQ => by
 have : (bs[i]?).map Value.bool = some v := by simpa using hv
 cases e : bs[i]? with
 | none => rw [e] at this; cases this
 | some b =>
  rw [e] at this
  cases this
  refine wpAny_truthy_bool ?_
  have hQ' : Q (bs.getD i false) s := hQ
  rw [List.getD_eq_getElem?_getD, e] at hQ'
  exact hQ'
theorem m_all (hc : X.calm = true) : CallR X (.builtin "all") (mAA (fun bs => bs.all id) X.K) := by
 intro pins s σ H xs us Q I r h
 match xs, h with
 | [.ref p], h =>
  obtain ⟨bs, hq, q⟩ := (show ∃ bs : List Bool, SqL X.K H p (bs.map V.bl) ∧ Q (.bl (bs.all id)) H from h)
  obtain ⟨u, rfl, rx⟩ := vals1 r
  cases rx
  obtain ⟨its, rv, pl, hz⟩ := I.list hq
  have e := vals_bools rv
  subst e
  have hlt : p < s.heap.objs.size := by obtain ⟨o, e, _⟩ := pl.isList; exact Heap.lt_size e
  refine call_all_walk (wpAny_pyIter_list pl.isList ?_)
  refine ⟨s.heap.objs.size, _, _, _, _, _, _, rfl, Walks.list (A := X.A.in1) (I.ok.hd hc) _ p (Nat.ne_of_lt hlt) (bs.map Value.bool).toArray, ⟨⟨_, Heap.get?_push_size _ rfl, rfl, rfl⟩, pl.isList.push _⟩, truth_bls bs, fun h' tk hk => ?_⟩
  have hsz : (bs.map Value.bool).toArray.size = bs.length := by simp
  rw [hsz, range_all]
  refine ⟨.bl (bs.all id), H, ?_, rfl, q⟩
  exact I.kept fun b o e => hk b o (fun z => absurd (Heap.lt_size e) (by rw [List.mem_singleton.mp z]; exact Nat.lt_irrefl _)) (Heap.get?_push_of_some _ e)
theorem m_any (hc : X.calm = true) : CallR X (.builtin "any") (mAA (fun bs => bs.any id) X.K) := by
 intro pins s σ H xs us Q I r h
 match xs, h with
 | [.ref p], h =>
  obtain ⟨bs, hq, q⟩ := (show ∃ bs : List Bool, SqL X.K H p (bs.map V.bl) ∧ Q (.bl (bs.any id)) H from h)
  obtain ⟨u, rfl, rx⟩ := vals1 r
  cases rx
  obtain ⟨its, rv, pl, hz⟩ := I.list hq
  have e := vals_bools rv
  subst e
  have hlt : p < s.heap.objs.size := by obtain ⟨o, e, _⟩ := pl.isList; exact Heap.lt_size e
  refine call_any_walk (wpAny_pyIter_list pl.isList ?_)
  refine ⟨s.heap.objs.size, _, _, _, _, _, _, rfl, Walks.list (A := X.A.in1) (I.ok.hd hc) _ p (Nat.ne_of_lt hlt) (bs.map Value.bool).toArray, ⟨⟨_, Heap.get?_push_size _ rfl, rfl, rfl⟩, pl.isList.push _⟩, truth_bls bs, fun h' tk hk => ?_⟩
  have hsz : (bs.map Value.bool).toArray.size = bs.length := by simp
  rw [hsz, range_any]
  refine ⟨.bl (bs.any id), H, ?_, rfl, q⟩
  exact I.kept fun b o e => hk b o (fun z => absurd (Heap.lt_size e) (by rw [List.mem_singleton.mp z]; exact Nat.lt_irrefl _)) (Heap.get?_push_of_some _ e)
theorem bt_all : bootBuiltins "all" = some (.builtin "all") := by decide +kernel
theorem bt_any : bootBuiltins "any" = some (.builtin "any") := by decide +kernel
end
end My
namespace My
open PySem PySem.Spec L2
open PyProof.Rows hiding St
def SaysAt (K : PySem.W.Frag) (H : Hp) : List V → List Say → Prop
 | [], [] => True
 | v :: vs, s :: ss => SayAt K H v s ∧ SaysAt K H vs ss
 | _, _ => False
theorem SaysAt.mono {K : PySem.W.Frag} {H H' : Hp} (t : Tups H H') : ∀ {vs : List V} {ss : List Say}, SaysAt K H vs ss → SaysAt K H' vs ss
 | [], [], _ => trivial
 | v :: vs, s :: ss, h => ⟨h.1.mono t, SaysAt.mono t h.2⟩
 | [], _ :: _, h => h.elim
 | _ :: _, [], h => h.elim
theorem SaysAt.app {K : PySem.W.Frag} {H : Hp} : ∀ {vs : List V} {ss : List Say} {vs' : List V} {ss' : List Say}, SaysAt K H vs ss → SaysAt K H vs' ss' → SaysAt K H (vs ++ vs') (ss ++ ss')
 | [], [], _, _, _, h => h
 | v :: vs, s :: ss, _, _, h, h' => ⟨h.1, SaysAt.app h.2 h'⟩
 | [], _ :: _, _, _, h, _ => h.elim
 | _ :: _, [], _, _, h, _ => h.elim
theorem SaysAt.len {K : PySem.W.Frag} {H : Hp} : ∀ {vs : List V} {ss : List Say}, SaysAt K H vs ss → vs.length = ss.length
 | [], [], _ => rfl
 | v :: vs, s :: ss, h => by rw [List.length_cons, List.length_cons, SaysAt.len h.2]
 | [], _ :: _, h => h.elim
 | _ :: _, [], h => h.elim
def allL (ts : List Say) : List Str := (ts.map Say.letters).flatten
theorem allL_app (a b : List Say) : allL (a ++ b) = allL a ++ allL b := by simp [allL]
def NamesOf (ts : List Say) (ss : List Str) : Prop := ss.Nodup ∧ (∀ x, x ∈ ss ↔ x ∈ allL ts) ∧ sortedS ss = true
theorem NamesOf.eq {ts : List Say} {a b : List Str} (h1 : NamesOf ts a) (h2 : NamesOf ts b) : a = b := sorted_eq h1.2.2 h2.2.2 h1.1 h2.1 fun x => (h1.2.1 x).trans (h2.2.1 x).symm
def rowOf (ts : List Say) (hs : List Str) : List Bool := ts.map fun t => t.so hs
theorem rowOf_len (ts : List Say) (hs : List Str) : (rowOf ts hs).length = ts.length := by simp [rowOf]
def FitRows (ts : List Say) (ss : List Str) (ks : List (List Bool)) : Prop := ks.Nodup ∧ (∀ k, k ∈ ks ↔ ∃ n, n < 2 ^ ss.length ∧ k = rowOf ts (heldOf (n : Nat) ss)) ∧ ks.Pairwise (fun a b => lexB b a = false)
theorem FitRows.eq {ts : List Say} {ss : List Str} {a b : List (List Bool)} (h1 : FitRows ts ss a) (h2 : FitRows ts ss b) : a = b := rows_eq h1.2.2 h2.2.2 h1.1 h2.1 fun x => (h1.2.1 x).trans (h2.2.1 x).symm
theorem mem_allL {x : Str} {ts : List Say} : x ∈ allL ts ↔ ∃ t ∈ ts, x ∈ t.letters := by
 unfold allL
 rw [List.mem_flatten]
 constructor
 ·rintro ⟨l, hl, hx⟩
  obtain ⟨t, ht, rfl⟩ := List.mem_map.mp hl
  exact ⟨t, ht, hx⟩
 ·rintro ⟨t, ht, hx⟩
  exact ⟨t.letters, List.mem_map_of_mem ht, hx⟩
theorem SaysAt.at {K : PySem.W.Frag} {H : Hp} : ∀ {vs : List V} {ts : List Say}, SaysAt K H vs ts → ∀ (i : Nat) v, vs[i]? = some v → ∃ t, ts[i]? = some t ∧ SayAt K H v t
 | [], [], _, i, v, h => by simp at h
 | v :: vs, t :: ts, h, 0, u, e => by
  cases e
  exact ⟨t, rfl, h.1⟩
 | v :: vs, t :: ts, h, i + 1, u, e => by simpa using SaysAt.at h.2 i u (by simpa using e)
 | [], _ :: _, h, _, _, _ => h.elim
 | _ :: _, [], h, _, _, _ => h.elim
structure Lst (ts : List Say) (xs : List Str) : Prop where
 lo : 1 ≤ ts.length
 hi : ts.length ≤ 6
 pc : ∀ t ∈ ts, t.pieces ≤ 40
 nm : ∀ x ∈ allL ts, x ∈ xs
 xl : xs.length ≤ 5
 ok : ∀ x ∈ xs, Nm x
theorem Lst.names {ts : List Say} {xs ss : List Str} (l : Lst ts xs) (h : NamesOf ts ss) : ss.length ≤ 5 ∧ ∀ x ∈ ss, Nm x :=
 ⟨Nat.le_trans (nodup_len h.1 fun x hx => l.nm x ((h.2.1 x).mp hx)) l.xl, fun x hx => l.ok x (l.nm x ((h.2.1 x).mp hx))⟩
end My
namespace My
open PySem PySem.Spec PySem.W PySem.Calls L2
open PyProof.Rows hiding St
section
variable {X : Cx}
def mExT (K : PySem.W.Frag) : V → List V → Hp → VK → Prop := fun x vs H Q => match x, vs with
 | .ref l, [.ref b] => ∃ xs zs, H l = some (.lst xs) ∧ (H b = some (.lst zs) ∨ SqT K H b zs) ∧ xs.length + zs.length ≤ sizeLine ∧ Q .non (upd H l (.lst (xs ++ zs)))
 | _, _ => False
theorem q_ext2 {K : PySem.W.Frag} {l b : Addr} {H : Hp} {Q : VK} : mExT K (.ref l) [.ref b] H Q = ∃ xs zs, H l = some (.lst xs) ∧ (H b = some (.lst zs) ∨ SqT K H b zs) ∧ xs.length + zs.length ≤ sizeLine ∧ Q .non (upd H l (.lst (xs ++ zs))) := rfl
theorem refR {C : Addr → Addr → Prop} {x : V} {vs : List V} (h : match x, vs with | .ref l, [.ref b] => C l b | _, _ => False) : ∃ l b, x = .ref l ∧ vs = [.ref b] ∧ C l b := by
 cases x with
 | ref l =>
  cases vs with
  | nil => exact (show False from h).elim
  | cons y t =>
   cases t with
   | nil =>
    cases y with
    | ref b => exact ⟨l, b, rfl, rfl, h⟩
    | _ => exact (show False from h).elim
   | cons _ _ => exact (show False from by cases y <;> exact h).elim
 | _ => exact (show False from by rcases vs with _ | ⟨y, _ | ⟨_, _⟩⟩ <;> first | exact h | (cases y <;> exact h)).elim
theorem m_ext2 : MtR X "list.extend" (mExT X.K) := fun pins s σ H x xs v us Q I rx rs h => by
 obtain ⟨l, b, rfl, rfl, ys, zs, e, e2, z, q⟩ := refR (C := fun l b => ∃ xs zs, H l = some (.lst xs) ∧ (H b = some (.lst zs) ∨ SqT X.K H b zs) ∧ xs.length + zs.length ≤ sizeLine ∧ Q .non (upd H l (.lst (xs ++ zs)))) h
 rcases e2 with e2 | e2
 ·exact mt_extend pins s σ H _ _ v us Q I rx rs ⟨l, b, ys, zs, rfl, rfl, e, e2, z, q⟩
 ·cases rx
  obtain ⟨u, rfl, ru⟩ := vals1 rs
  cases ru
  obtain ⟨hz, its, n, r, hl, el⟩ := I.lstM e
  obtain ⟨its2, r2, ⟨o2, eb, hc2, n2, hd2⟩, _⟩ := I.tuple e2
  have hl2 := r2.length
  refine wpAny_call_entry PySem.F.slot_list_extend ⟨_, el, rfl⟩ PySem.F.entry_list_extend ?_ (PySem.F.args_list_extend_2 _ _)
  refine (show wpAny _ _ (Builtin.List.listExtendWith (.ref l) (.ref b) .none) _ _ s from ?_)
  unfold Builtin.List.listExtendWith
  refine wpAny_bind (wpAny_typeOf (T := "tuple") ⟨_, eb, hc2⟩ ?_)
  simp only [show (Value.type "tuple" == Value.type "tuple") = true from by decide, Bool.or_true, if_true]
  refine wpAny_bind (listItems_at eb hd2 (wpAny_bind (listItems_at el rfl ?_)))
  have hsz : its.toArray.size + its2.toArray.size ≤ sizeLine := by rw [List.size_toArray, List.size_toArray]; omega
  rw [if_neg (by rw [notLongL hsz, Bool.and_false]; exact Bool.false_ne_true)]
  refine wpAny_bind (listUpdate_at el rfl ?_ (by rw [List.size_toArray]; omega) (by rw [Array.size_append]; omega))
  refine wpAny_bind (wpAny_pure (wpAny_pure ⟨_, rfl, ?_⟩))
  refine ⟨.non, _, I.lset (its' := its ++ its2) e el (by simp) (r.append r2) ?_, rfl, q⟩
  rw [List.length_append]
  omega
end
end My
namespace My
open PySem PySem.Spec L2
open PyProof.Rows hiding St
def PairsAt (K : PySem.W.Frag) (H : Hp) : List V → List (Nat × Bool) → Prop
 | [], [] => True
 | v :: vs, p :: ps => (∃ b, v = .ref b ∧ SqT K H b [.int (p.1 : Int), .bl p.2]) ∧ PairsAt K H vs ps
 | _, _ => False
theorem PairsAt.mono {K : PySem.W.Frag} {H H' : Hp} (t : Tups H H') : ∀ {vs : List V} {ps : List (Nat × Bool)}, PairsAt K H vs ps → PairsAt K H' vs ps
 | [], [], _ => trivial
 | v :: vs, p :: ps, ⟨⟨b, e, h⟩, r⟩ => ⟨⟨b, e, t.sqT h⟩, PairsAt.mono t r⟩
 | [], _ :: _, h => h.elim
 | _ :: _, [], h => h.elim
theorem PairsAt.app {K : PySem.W.Frag} {H : Hp} : ∀ {vs : List V} {ps : List (Nat × Bool)} {vs' : List V} {ps' : List (Nat × Bool)}, PairsAt K H vs ps → PairsAt K H vs' ps' → PairsAt K H (vs ++ vs') (ps ++ ps')
 | [], [], _, _, _, h => h
 | v :: vs, s :: ss, _, _, h, h' => ⟨h.1, PairsAt.app h.2 h'⟩
 | [], _ :: _, _, _, h, _ => h.elim
 | _ :: _, [], _, _, h, _ => h.elim
theorem PairsAt.len {K : PySem.W.Frag} {H : Hp} : ∀ {vs : List V} {ps : List (Nat × Bool)}, PairsAt K H vs ps → vs.length = ps.length
 | [], [], _ => rfl
 | v :: vs, s :: ss, h => by rw [List.length_cons, List.length_cons, PairsAt.len h.2]
 | [], _ :: _, h => h.elim
 | _ :: _, [], h => h.elim
theorem PairsAt.at {K : PySem.W.Frag} {H : Hp} : ∀ {vs : List V} {ps : List (Nat × Bool)}, PairsAt K H vs ps → ∀ (i : Nat) v, vs[i]? = some v → ∃ b p, ps[i]? = some p ∧ v = .ref b ∧ SqT K H b [.int (p.1 : Int), .bl p.2]
 | [], [], _, i, v, h => by simp at h
 | v :: vs, p :: ps, h, 0, u, e => by
  cases e
  obtain ⟨b, e1, h1⟩ := h.1
  exact ⟨b, p, rfl, e1, h1⟩
 | v :: vs, p :: ps, h, i + 1, u, e => by simpa using PairsAt.at h.2 i u (by simpa using e)
 | [], _ :: _, h, _, _, _ => h.elim
 | _ :: _, [], h, _, _, _ => h.elim
def agr (k : List Bool) (ps : List (Nat × Bool)) : Bool := ps.all fun p => k.getD p.1 false == p.2
theorem agr_take {k : List Bool} {ps : List (Nat × Bool)} {i : Nat} {p : Nat × Bool} (h : ps[i]? = some p) : agr k (ps.take (i + 1)) = (agr k (ps.take i) && (k.getD p.1 false == p.2)) := by
 rw [List.take_add_one, h]
 simp [agr]
theorem agr_no {k : List Bool} {ps : List (Nat × Bool)} {p : Nat × Bool} (hm : p ∈ ps) (h : (k.getD p.1 false == p.2) = false) : agr k ps = false := by
 unfold agr
 rw [Bool.eq_false_iff]
 intro z
 rw [List.all_eq_true] at z
 rw [z p hm] at h
 cases h
theorem at_row {k : List Bool} {n : Nat} (h : n < k.length) : atI (k.map V.bl) (n : Int) = some (.bl (k.getD n false)) := atI_nat (by rw [List.getElem?_map, List.getElem?_eq_getElem h]; simp [h])
end My
namespace My
open PySem PySem.Spec L2
open PyProof.Rows hiding St
theorem fit_row_len {ts : List Say} {ss : List Str} {ks : List (List Bool)} (h : FitRows ts ss ks) {k : List Bool} (hk : k ∈ ks) : k.length = ts.length := by
 obtain ⟨n, _, e⟩ := (h.2.1 k).mp hk
 rw [e]
 exact rowOf_len _ _
theorem fit_pos {ts : List Say} {ss : List Str} {R : List (Addr × List Bool)} (h : FitRows ts ss (R.map (·.2))) : 1 ≤ R.length := by
 have : rowOf ts (heldOf ((0 : Nat) : Int) ss) ∈ R.map (·.2) := (h.2.1 _).mpr ⟨0, Nat.two_pow_pos _, rfl⟩
 have := List.length_pos_of_mem this
 rw [List.length_map] at this
 exact this
def leftR (R : List (Addr × List Bool)) (ps : List (Nat × Bool)) : List (Addr × List Bool) := R.filter fun r => agr r.2 ps
def col (ks : List (List Bool)) (ps : List (Nat × Bool)) (j : Nat) : List Bool := (ks.filter fun k => agr k ps).map fun k => k.getD j false
theorem col_left (R : List (Addr × List Bool)) (ps : List (Nat × Bool)) (j : Nat) : col (R.map (·.2)) ps j = (leftR R ps).map fun r => r.2.getD j false := by
 unfold col leftR
 rw [List.filter_map, List.map_map]
 rfl
theorem leftR_take {R : List (Addr × List Bool)} {ps : List (Nat × Bool)} {i : Nat} {r : Addr × List Bool} (h : R[i]? = some r) : leftR (R.take (i + 1)) ps = leftR (R.take i) ps ++ if agr r.2 ps = true then [r] else [] := by
 unfold leftR
 rw [List.take_add_one, h, List.filter_append, Option.toList_some, List.filter_cons, List.filter_nil]
theorem leftR_len (R : List (Addr × List Bool)) (ps : List (Nat × Bool)) : (leftR R ps).length ≤ R.length := List.length_filter_le _ _
theorem leftR_take_len (R : List (Addr × List Bool)) (ps : List (Nat × Bool)) (i : Nat) : (leftR (R.take i) ps).length ≤ i := Nat.le_trans (leftR_len _ _) (by rw [List.length_take]; exact Nat.min_le_left _ _)
def tri (bs : List Bool) : V := if bs.all id = true then .bl true else if bs.any id = true then .non else .bl false
end My
namespace My
open PySem PySem.Spec PySem.W PySem.Calls L2
open AutoSeq1 (wpAny_loadPart')
open PyProof.Rows hiding St
section
variable {X : Cx} {pins : List (Addr × Obj)} {σ : St} {H : Hp} {s : Shared} {h' : Heap}
theorem turnedL {t' : Nat} (L : List Addr) (I : Inv X pins σ H s) (hf : ∀ b ∈ L, FpOk X pins H b) (k : ∀ b o, b ∉ L → s.heap.get? b = some o → h'.get? b = some o) : Inv X pins σ H { s with heap := h', toks := t' } := by
 have nit : ∀ b u, H b = some u → b ∉ L := fun b u e z => by rw [(hf b z).1] at e; cases e
 refine I.step (g' := s.gens) (d' := s.drawn) (ch := L) (fun b hb => ⟨(hf b hb).2.2.2.1, (hf b hb).2.1, (hf b hb).2.2.2.2.1, (hf b hb).2.2.2.2.2⟩) (fun b o _ _ hc e _ => k b o hc e) (fun b o _ _ hc e _ => ⟨o.slots, k b o hc e⟩) (fun _ _ _ _ n => n)
  (fun b o hc e => ⟨o, k b o hc e⟩) (fun _ _ e => e) (fun _ _ _ e => e) (fun b ps e => ⟨#[], by rw [e]; simp⟩) (fun m hm => ?_) (fun b u e => ?_) I.bare
 ·obtain ⟨o, es, ep, ho, r⟩ := hm; exact ⟨o, es, ep, k _ o (fun z => (hf _ z).2.1 rfl) ho, r⟩
 ·refine (I.hok b u e).stay (fun c v hc q => k c v (hc.elim (fun z => by rw [z]; exact nit b u e) fun z => nit c _ z) q) (fun _ q => q) fun _ _ q => q
end
section
variable {prog : Program} {w : World} {A : Around} {E : Value → Shared → Prop} {s : Shared}
theorem next_tup_item {it t : Addr} {i : Nat} {items : Array Value} {x : Value} {Q : Value → Shared → Prop} (hit : s.heap.IsTupleIter it t i) (ht : s.heap.IsTuple t items) (hx : items[i]? = some x)
  (hQ : ∀ h', h'.IsTupleIter it t (i + 1) → Heap.SameBut it s.heap h' → Q x { s with heap := h' }) : wpAny (model prog w) A (Builtin.SmallTypes.nextOf (.ref it)) Q E s := by
 obtain ⟨o, ho, hc, hd⟩ := id hit; obtain ⟨ol, hol, _, nl, hdl⟩ := ht
 unfold Builtin.SmallTypes.nextOf
 refine wpAny_bind (wpAny_callSpecial?_slot (name := Str.ofString "__next__") hit.typeIs F.slot_tuple_iterator_next (wpAny_call_entry F.slot_tuple_iterator_next hit.typeIs F.entry_tuple_iterator_next ?_ (F.args_tuple_iterator_next_1 _)))
 show wpAny _ _ (field (.ref it) 0 >>= _) _ _ s; refine wpAny_bind (wpAny_field ho hd (x := .ref t) rfl ?_)
 show wpAny _ _ (if (Value.ref t == Value.none) = true then _ else _) _ _ s; rw [if_neg (show ¬ ((Value.ref t == Value.none) = true) from Bool.false_ne_true)]
 show wpAny _ _ (field (.ref it) 1 >>= _) _ _ s; refine wpAny_bind (wpAny_field ho hd (x := .int i 0) rfl ?_)
 show wpAny _ _ (seqItems? (.ref t) >>= _) _ _ s; refine wpAny_bind (wpAny_seqItems hol hdl ?_); simp only [Int.toNat_natCast, hx]
 refine wpAny_bind (wpAny_setField ho hd (by simp) (wpAny_pure ⟨x, rfl, wpAny_pure (hQ _ ⟨_, Heap.get?_update_self _ ho (Obj.isFreed_of_fields (Obj.data_mapFields hd _)), (Obj.cls_mapFields ..).trans hc, by rw [Obj.data_mapFields hd]; simp [rawInt]⟩ (Heap.SameBut.update ..))⟩))
theorem next_tup_end {it t : Addr} {i : Nat} {items : Array Value} {Q : Value → Shared → Prop} (hh : A.handled = none) (hit : s.heap.IsTupleIter it t i) (ht : s.heap.IsTuple t items) (hx : items[i]? = none)
  (hE : ∀ h' e, Heap.ExtBut it s.heap h' → (∃ o, h'.get? e = some o ∧ o.cls = .type "StopIteration") → E (.ref e) { s with heap := h' }) : wpAny (model prog w) A (Builtin.SmallTypes.nextOf (.ref it)) Q E s := by
 obtain ⟨o, ho, hc, hd⟩ := id hit; obtain ⟨ol, hol, _, nl, hdl⟩ := ht
 unfold Builtin.SmallTypes.nextOf
 refine wpAny_bind (wpAny_callSpecial?_slot (name := Str.ofString "__next__") hit.typeIs F.slot_tuple_iterator_next (wpAny_call_entry F.slot_tuple_iterator_next hit.typeIs F.entry_tuple_iterator_next ?_ (F.args_tuple_iterator_next_1 _)))
 show wpAny _ _ (field (.ref it) 0 >>= _) _ _ s; refine wpAny_bind (wpAny_field ho hd (x := .ref t) rfl ?_)
 show wpAny _ _ (if (Value.ref t == Value.none) = true then _ else _) _ _ s; rw [if_neg (show ¬ ((Value.ref t == Value.none) = true) from Bool.false_ne_true)]
 show wpAny _ _ (field (.ref it) 1 >>= _) _ _ s; refine wpAny_bind (wpAny_field ho hd (x := .int i 0) rfl ?_)
 show wpAny _ _ (seqItems? (.ref t) >>= _) _ _ s; refine wpAny_bind (wpAny_seqItems hol hdl ?_); simp only [Int.toNat_natCast, hx]
 refine wpAny_bind (wpAny_rule (wpAny_bind (wpAny_setField ho hd (by simp) ?_))); show wpAny _ _ (newExc (.type "StopIteration") [] >>= _) _ _ _
 refine wpAny_bind ?_; simp only [newExc, newTuple]; refine wpAny_bind (wpAny_newObj_type ?_ (by size_fits))
 refine wpAny_bind (m := firstArgMember _ _) (wpAny_of_eq (a := Value.none) (by first | rfl | (simp only [firstArgMember]; rfl)) ?_); refine wpAny_newObj_type ?_ (by size_fits)
 simp only [raiseNew]; refine wpAny_bind (wpAny_handled ?_); first | rw [show A.in1.handled = none from hh] | rw [hh]
 refine wpAny_bind (wpAny_pure (wpAny_throw (hE _ _ (((Heap.SameBut.update ..).extBut.push _).push _) ⟨_, Heap.get?_push_size _ rfl, rfl⟩)))
end
theorem istup_but {h h' : Heap} {t it : Addr} {items : Array Value} (x : h.IsTuple t items) (hs : Heap.ExtBut it h h') (hne : t ≠ it) : h'.IsTuple t items := let ⟨o, ho, r⟩ := x; ⟨o, hs t o hne ho, r⟩
theorem draws_tup {prog : Program} {w : World} {A : Around} (hh : A.handled = none) (it t : Addr) (hne : t ≠ it) (items : Array Value) : Draws prog w A it [it, t] items.size (fun i v => items[i]? = some v) (fun i h => h.IsTupleIter it t i ∧ h.IsTuple t items) where
 live := fun _ _ st => st.1.elim fun o ho => ⟨o, ho.1⟩
 frame := fun _ _ _ st hk => ⟨st.1.at fun o e => hk it (by simp) o e, st.2.elim fun o ho => ⟨o, hk t (by simp) o ho.1, ho.2⟩⟩
 item := fun i s Q E hi st hQ => next_tup_item st.1 st.2 (x := items[i]) (by simp [hi]) fun h' hit' hs' => hQ _ h' s.toks (by simp [hi]) ⟨hit', istup_but st.2 hs'.extBut hne⟩ hs'
 done := fun s Q E st hE => next_tup_end hh st.1 st.2 (by simp) hE
end My
namespace My
open PySem PySem.Spec PySem.W PySem.Calls L2
open AutoSeq1 (wpAny_loadPart')
open PyProof.Rows hiding St
def tupIt (t : Addr) : Obj := { cls := .type "tuple_iterator", data := .fields #[.ref t, .int 0 0] }
def enumOb (it : Addr) : Obj := { cls := .type "enumerate", data := .fields #[.none, .bool false, .ref it, rawInt 0, .none, .none] }
theorem enum_newT (l : Addr) (items : Array Value) : Meets (Builtin.«enumerate.__new__» ⟨[.type "enumerate", .ref l], []⟩) (fun _ R s => s.heap.IsTuple l items ∧
  R (.ok (.ret (.ref (s.heap.push (tupIt l)).objs.size))) { s with heap := (s.heap.push (tupIt l)).push (enumOb s.heap.objs.size) }) :=
 .of_wp fun prog w A R s h => by
  obtain ⟨hp, g, d, tk, os⟩ := s; obtain ⟨hL, h⟩ := h; have hsub := sub_enumerate
  obtain ⟨o, hl, hc, n, hd⟩ := id hL
  replace hL : Heap.IsTuple (Shared.heap ⟨hp, g, d, tk, os⟩) l items := hL
  wp_walk using wpAny_loadPart' hl
  refine wpAny_stack_any fun st => wpAny_pure ?_; split
  ·rename_i c _ _ _ _ _; cases (c == Value.type "enumerate")
   ·wp_walk using wpAny_loadPart' hl, wpAny_pyIter_tuple hL; exact ⟨_, rfl, h⟩
   ·wp_walk using wpAny_loadPart' hl, wpAny_pyIter_tuple hL; exact ⟨_, rfl, h⟩
  ·wp_walk using wpAny_loadPart' hl, wpAny_pyIter_tuple hL; exact ⟨_, rfl, h⟩
section
variable {prog : Program} {w : World} {A : Around} {E : Value → Shared → Prop} {s : Shared}
theorem call_enumT {l : Addr} {items : Array Value} {Q : Value → Shared → Prop} (hL : s.heap.IsTuple l items)
  (h : ∀ h', IsEnum h' (s.heap.objs.size + 1) s.heap.objs.size 0 .none → h'.IsTupleIter s.heap.objs.size l 0 → (∀ b o, s.heap.get? b = some o → h'.get? b = some o) → Q (.ref (s.heap.objs.size + 1)) { s with heap := h' }) :
  wpAny (model prog w) A (call (.type "enumerate") [.ref l]) Q E s := by
 refine callType_new F.called_enumerate (by decide) (F.typeCall_enumerate_1 _) (F.newCall_enumerate_1 _) (fun obj => F.args_object_init_2 obj _) F.entry_enumerate_new (enum_newT l items) ⟨hL, ?_⟩
 have hz : (s.heap.push (tupIt l)).objs.size = s.heap.objs.size + 1 := Heap.size_push ..
 show _ ∧ _; rw [hz]
 have he : IsEnum ((s.heap.push (tupIt l)).push (enumOb s.heap.objs.size)) (s.heap.objs.size + 1) s.heap.objs.size 0 .none := by
  have := Heap.get?_push_size (s.heap.push (tupIt l)) (o := enumOb s.heap.objs.size) rfl; rw [hz] at this; exact this
 exact ⟨⟨_, he, rfl⟩, h _ he ⟨_, Heap.get?_push_of_some _ (Heap.get?_push_size _ rfl), rfl, rfl⟩ fun b o x => Heap.get?_push_of_some _ (Heap.get?_push_of_some _ x)⟩
end
theorem apart_enum {h : Heap} {a e it : Addr} {items : Array Value} {i : Int} {j : Nat} {old : Value} (ha : h.IsTuple a items) (he : IsEnum h e it i old) (hi : h.IsTupleIter it a j) : ∀ b ∈ [e, it], a ≠ b := fun b hb z => by
 obtain ⟨o, e1, c1, _⟩ := ha
 subst z
 rcases List.mem_cons.mp hb with z | z
 ·have he' : h.get? e = some _ := he
  rw [← z, e1] at he'
  have := Option.some.inj he'
  rw [this] at c1
  simp at c1
 ·have z := List.mem_singleton.mp z
  obtain ⟨o2, e2, c2, _⟩ := hi
  rw [← z, e1] at e2
  cases e2
  rw [c1] at c2
  simp at c2
def Ite (K : PySem.W.Frag) (a : Addr) : It :=
 ⟨fun i H => ∃ xs x, SqT K H a xs ∧ xs[i]? = some x, fun i H v H' => ∃ p x, v = .ref p ∧ H p = none ∧ H' = upd H p (.tup [.int (i : Int), x]) ∧ ∀ xs, SqT K H a xs → xs[i]? = some x, fun i H => ∃ xs, SqT K H a xs ∧ xs.length = i⟩
theorem turn_enumT {P : Program} {w : World} {K : PySem.W.Frag} {elts : List Expr} {k : Nat} {pos : Pos} (a e it : Addr) (hei : e ≠ it) : Turn P w K (.Tuple elts k pos) (Ite K a) [e, it] e (fun i h => (∃ old, IsEnum h e it ((i : Nat) : Int) old) ∧ h.IsTupleIter it a i) where
 mem := by simp
 obj := fun i h st b hb => by
  obtain ⟨⟨old, he⟩, hi⟩ := st
  rcases List.mem_cons.mp hb with rfl | hb
  ·exact ⟨_, he, fun v z => by cases (show Data.fields _ = Data.cell v from z)⟩
  ·rw [List.mem_singleton.mp hb]
   obtain ⟨o, e1, c, d⟩ := hi
   exact ⟨o, e1, fun v z => by rw [d] at z; cases z⟩
 keep := fun i h h' st kk => ⟨st.1.imp fun old he => kk e (by simp) _ he, st.2.at fun o e1 => kk it (by simp) o e1⟩
 item := by
  intro X hP hw hK hc i pins s σ H E I hf st hg
  subst hP hw hK
  obtain ⟨xs, x, hq, hx⟩ := hg
  obtain ⟨its, rv, p, hz⟩ := I.tuple hq
  obtain ⟨u, hu, ru⟩ := rv.get hx
  obtain ⟨⟨old, he⟩, hi⟩ := st
  have hit : s.heap.IsTuple a its.toArray := p
  have hilt : i < its.toArray.size := by
   have := (List.getElem?_eq_some_iff.mp hu).1
   simpa using this
  have hae : ∀ b ∈ [e, it], a ≠ b := apart_enum hit he hi
  refine wpAny_pyNext_enum_itemD (draws_tup (A := X.A.in1) (I.ok.hd hc) it a (hae it (by simp)) its.toArray) he ⟨hi, hit⟩ hilt hei (fun z => by
   rcases List.mem_cons.mp z with z | z
   ·exact hei z
   ·exact hae e (by simp) (List.mem_singleton.mp z).symm) fun y h1 tk hy ho hs1 hT hsz hk => ?_
  have ey : y = u := by
   have h1 : its.toArray[i]? = some y := hy
   have h2 : its.toArray[i]? = some u := by simpa using hu
   rw [h2] at h1
   exact (Option.some.inj h1).symm
  subst ey
  refine ⟨_, rfl, wpAny_letOwnedTupleGo_enum (s := { s with heap := h1, toks := tk + 1 }) ho fun h2 he2 hs2 => ?_⟩
  have elt : e < s.heap.objs.size := Heap.lt_size he
  have fr : H s.heap.objs.size = none := I.hok.fresh (Nat.le_refl _)
  have I1 : Inv X pins σ (upd H s.heap.objs.size (.tup [.int (i : Int), x])) { s with heap := s.heap.push { cls := .type "tuple", data := .seq #[.int i tk, y] }, toks := tk } :=
   I.laid (fun b o e1 => Heap.get?_push_of_some _ e1) (Nat.le_refl _) ⟨by simp only [List.length_cons, List.length_nil]; rw [sizeLine_eq]; decide, [.int i tk, y], .cons ⟨_, rfl⟩ (.cons ru .nil), ⟨_, Heap.get?_push_size _ rfl, rfl, _, rfl⟩⟩
  have lt2 : ∀ b ∈ [e, it], b < s.heap.objs.size := fun b hb => by
   rcases List.mem_cons.mp hb with rfl | hb
   ·exact elt
   ·rw [List.mem_singleton.mp hb]
    obtain ⟨o, e1, _⟩ := hi
    exact Heap.lt_size e1
  have hf1 : ∀ b ∈ [e, it], FpOk X pins (upd H s.heap.objs.size (.tup [.int (i : Int), x])) b := fun b hb => ⟨by rw [upd_ne (Nat.ne_of_lt (lt2 b hb))]; exact (hf b hb).1, (hf b hb).2⟩
  have I2 : Inv X pins σ (upd H s.heap.objs.size (.tup [.int (i : Int), x])) { s with heap := h2, toks := tk + 1 } := turnedL (s := { s with heap := s.heap.push { cls := .type "tuple", data := .seq #[.int i tk, y] }, toks := tk }) [e, it] I1 hf1 fun b o hb e1 => by
   have hbe : b ≠ e := fun z => hb (by simp [z])
   have hbi : b ≠ it := fun z => hb (by simp [z])
   refine (hs2.2 b hbe).trans ?_
   rcases Heap.get?_push_cases e1 with ⟨rfl, rfl⟩ | e1
   ·exact hT
   ·exact hk b o hbe hbi e1
  exact ⟨.ref s.heap.objs.size, upd H s.heap.objs.size (.tup [.int (i : Int), x]), I2, rfl, ⟨_, x, rfl, fr, rfl, fun ys hy2 => by rw [I.tuple_inj hy2 hq]; exact hx⟩, ⟨⟨_, by simpa using he2⟩, hs1.1.at fun o e1 => (hs2.2 it (Ne.symm hei)).trans e1⟩, fun b hb => (hf1 b hb).1⟩
 done := by
  intro X hP hw hK hc i pins s σ H E I hf st hg
  subst hP hw hK
  obtain ⟨xs, hq, hx⟩ := hg
  obtain ⟨its, rv, p, hz⟩ := I.tuple hq
  obtain ⟨⟨old, he⟩, hi⟩ := st
  have hit : s.heap.IsTuple a its.toArray := p
  have hae : ∀ b ∈ [e, it], a ≠ b := apart_enum hit he hi
  have hl : its.toArray.size = i := by rw [List.size_toArray, ← rv.length]; exact hx
  refine wpAny_pyNext_enum_endD (draws_tup (A := X.A.in1) (I.ok.hd hc) it a (hae it (by simp)) its.toArray) he ⟨by rw [hl]; exact hi, hit⟩ fun h1 eb => ⟨rfl, turnedL (t' := s.toks) [e, it] I hf fun b o hb e1 => eb b o (fun z => hb (by simp [z])) e1⟩
 self := fun _ _ _ _ _ st h => by
  obtain ⟨⟨old, he⟩, _⟩ := st
  exact wpAny_pyIter_enum he h
end My
namespace My
open PySem PySem.Spec PySem.W PySem.Calls L2
open PyProof.Rows hiding St
section
variable {X : Cx}
theorem bt_enum : bootBuiltins "enumerate" = some (.type "enumerate") := by decide +kernel
def iEn (K : PySem.W.Frag) (ta : TA) : TI := fun σ H R => ta σ H (on1 (onRef fun a H1 => (∃ xs, SqT K H1 a xs) ∧ R (Ite K a) H1))
theorem m_enum {elts : List Expr} {kk : Nat} {pt : Pos} {a : Expr} {ta : TA} {p pos : Pos} (hg : Gl X "enumerate") (hm : X.mg "enumerate" = none) (ha : PA X [a] ta) (hs : starEach [a] X.env = [(false, eval a X.env)] := by rfl) :
  PI X (.Tuple elts kk pt) (.Call (.Name "enumerate" p) [a] [] pos) (iEn X.K ta) := by
 intro pins s σ H R I h
 refine Call_ (ld_blt I hg hm bt_enum (PyProof.Rows.callWith_type1 (thn (ha pos pins s σ H _ I h) fun us s1 ⟨vs, H1, I1, r1, q1⟩ => ?_) hs rfl))
 rcases vs with _ | ⟨x, _ | ⟨y, rr⟩⟩
 ·exact (show False from q1).elim
 ·cases x with
  | ref b =>
   obtain ⟨⟨xs, hq⟩, q⟩ := (show (∃ xs, SqT X.K H1 b xs) ∧ R (Ite X.K b) H1 from q1)
   cases r1 with
   | cons r rr =>
    cases rr
    cases r
    obtain ⟨its, rv, p1, hz⟩ := I1.tuple hq
    refine call_enumT (show s1.heap.IsTuple b its.toArray from p1) fun h' he hi hk => ?_
    refine wpAny_pyIter_enum (s := { s1 with heap := h' }) he ?_
    have I2 : Inv X pins σ H1 { s1 with heap := h' } := I1.kept (t' := s1.toks) hk
    refine ⟨_, [s1.heap.objs.size + 1, s1.heap.objs.size], _, _, H1, rfl, I2, turn_enumT b _ _ (Nat.succ_ne_self _), ⟨⟨_, he⟩, hi⟩, fun c hc => ?_, q⟩
    have hge : s1.heap.objs.size ≤ c := by
     rcases List.mem_cons.mp hc with rfl | hc
     ·exact Nat.le_succ _
     ·rw [List.mem_singleton.mp hc]; exact Nat.le_refl _
    exact I1.fpOk hge (I1.hok.fresh hge)
  | _ => exact (show False from q1).elim
 ·exact (show False from q1).elim
end
theorem compE_tup {K : PySem.W.Frag} {a : Addr} {xs : List V} {tt : TT} {te : TE} {ρ : St} {Q : VK} {H1 : Hp} (Pv : Addr → Nat → List V → Hp → Prop) (hsz : xs.length ≤ sizeLine)
  (h0 : ∀ D H2, H1 D = none → Same H1 H2 → H2 D = some (.lst []) → Pv D 0 [] H2)
  (hl : ∀ D i ys H, Pv D i ys H → SqT K H a xs ∧ H D = some (.lst ys) ∧ ys.length ≤ i)
  (hs : ∀ D (i : Nat) v ys H H', xs[i]? = some v → Pv D i ys H → Same H H' → CTurn tt te (some (.int (i : Int)) :: some v :: ρ) D xs.length i ys (Pv D (i + 1)) H')
  (hd : ∀ D ys H, Pv D xs.length ys H → Q (.ref D) H) : CompL 2 (mG2 K 0 1) tt te ρ (Ite K a) Q H1 :=
 comp_gen Pv hsz h0 (fun D i ys H _ p => (hl D i ys H p).2) (fun D i ys H hi p => ⟨xs, xs[i], (hl D i ys H p).1, by simp [hi]⟩) (fun D ys H p => ⟨xs, (hl D _ ys H p).1, rfl⟩) (fun D i v ys H H' τ hi hτ p y => by
  obtain ⟨t, u, rfl⟩ := two_of hτ
  obtain ⟨b, x, rfl, hn, rfl, hx⟩ := y
  refine ⟨b, _, _, rfl, SqT.of upd_same, ⟨[some (.int (i : Int)), some x], rfl, rfl⟩, ?_⟩
  exact hs D i x ys H _ (hx xs (hl D i ys _ p).1) p (same_new hn _)) hd
end My
namespace My
open PySem PySem.Spec L2
open PyProof.Rows hiding St
structure JudgesAt (K : PySem.W.Frag) (H : Hp) (a : Addr) (J : List (Addr × List Bool)) (m : Nat) : Prop where
 sq : SqT K H a (J.map fun r => V.ref r.1)
 row : ∀ r ∈ J, SqT K H r.1 (r.2.map V.bl)
 len : ∀ r ∈ J, r.2.length = m
 lo : 1 ≤ J.length
 hi : J.length ≤ 100
theorem JudgesAt.mono {K : PySem.W.Frag} {H H' : Hp} {a : Addr} {J : List (Addr × List Bool)} {m : Nat} (t : Tups H H') (h : JudgesAt K H a J m) : JudgesAt K H' a J m := ⟨t.sqT h.sq, fun r hr => t.sqT (h.row r hr), h.len, h.lo, h.hi⟩
def sayers (ks : List (List Bool)) (j : Nat) (t : Bool) (i : Nat) : List Nat := (List.range i).filter fun n => (ks.getD n []).getD j false == t
theorem sayers_succ (ks : List (List Bool)) (j : Nat) (t : Bool) (i : Nat) : sayers ks j t (i + 1) = sayers ks j t i ++ if ((ks.getD i []).getD j false == t) = true then [i] else [] := by
 unfold sayers
 rw [List.range_succ, List.filter_append, List.filter_cons, List.filter_nil]
theorem sayers_len (ks : List (List Bool)) (j : Nat) (t : Bool) (i : Nat) : (sayers ks j t i).length ≤ i := Nat.le_trans (List.length_filter_le _ _) (by rw [List.length_range]; exact Nat.le_refl _)
def yesOf (ks : List (List Bool)) (j : Nat) : List (List Bool) := ks.filter fun k => k.getD j false
theorem sayers_yes (ks : List (List Bool)) (j : Nat) : ∀ i, i ≤ ks.length → (sayers ks j true i).length = (yesOf (ks.take i) j).length
 | 0, _ => by simp [sayers, yesOf]
 | i + 1, h => by
  have hi : i < ks.length := h
  rw [sayers_succ, List.length_append, sayers_yes ks j i (by omega)]
  have e : ks[i]? = some ks[i] := List.getElem?_eq_getElem hi
  have e2 : ks.getD i [] = ks[i] := by simp [hi]
  unfold yesOf
  rw [List.take_add_one, e, e2, List.filter_append, List.length_append, Option.toList_some, List.filter_cons, List.filter_nil]
  cases (ks[i]).getD j false <;> rfl
theorem sayers_all (ks : List (List Bool)) (j : Nat) : (sayers ks j true ks.length).length = (yesOf ks j).length := by
 have := sayers_yes ks j ks.length (Nat.le_refl _)
 rwa [List.take_length] at this
def mostAt (ks : List (List Bool)) (j : Nat) : Bool := decide ((ks.length : Int) < 2 * ((yesOf ks j).length : Int))
def mostRow (ks : List (List Bool)) (m : Nat) : List Bool := (List.range m).map (mostAt ks)
theorem mostRow_len (ks : List (List Bool)) (m : Nat) : (mostRow ks m).length = m := by simp [mostRow]
theorem mostRow_succ (ks : List (List Bool)) (m : Nat) : mostRow ks (m + 1) = mostRow ks m ++ [mostAt ks m] := by simp [mostRow, List.range_succ]
theorem yesOf_take {ks : List (List Bool)} {j i : Nat} {k : List Bool} (h : ks[i]? = some k) : yesOf (ks.take (i + 1)) j = yesOf (ks.take i) j ++ if k.getD j false = true then [k] else [] := by
 unfold yesOf
 rw [List.take_add_one, h, List.filter_append, Option.toList_some, List.filter_cons, List.filter_nil]
theorem yesOf_len (ks : List (List Bool)) (j i : Nat) : (yesOf (ks.take i) j).length ≤ i := Nat.le_trans (List.length_filter_le _ _) (by rw [List.length_take]; exact Nat.min_le_left _ _)
end My
namespace My
open PySem PySem.Spec PySem.W PySem.Calls L2
open PyProof.Rows hiding St
theorem rows_same (a b : List Bool) : ((List.range (min a.length b.length)).all (fun j => a.getD j false == b.getD j false) && a.length == b.length) = (a == b) := by
 rw [Bool.eq_iff_iff, Bool.and_eq_true, List.all_eq_true, beq_iff_eq, beq_iff_eq]
 constructor
 ·rintro ⟨h, e⟩
  apply List.ext_getElem e
  intro i h1 h2
  have := h i (List.mem_range.mpr (by omega))
  simpa [h1, h2] using this
 ·rintro rfl
  exact ⟨fun j _ => beq_self_eq_true _, rfl⟩
theorem ref2 {C : Addr → Addr → Prop} {x y : V} (h : match x, y with | .ref r, .ref p => C r p | _, _ => False) : ∃ r p, x = .ref r ∧ y = .ref p ∧ C r p := by
 cases x with
 | ref r =>
  cases y with
  | ref p => exact ⟨r, p, rfl, rfl, h⟩
  | _ => exact (show False from h).elim
 | _ => exact (show False from by cases y <;> exact h).elim
section
variable {X : Cx}
theorem row_eqAt {pins : List (Addr × Obj)} {σ : St} {H : Hp} {s : Shared} (I : Inv X pins σ H s) {A : Around} (hu : A.units < cLine) {x y : Addr} {a b : List Bool} (hx : SqT X.K H x (a.map V.bl)) (hy : SqT X.K H y (b.map V.bl)) : SeqAt.EqAt A s (.ref x) (.ref y) (a == b) := by
 by_cases e : x = y
 ·subst e
  have : a = b := by
   have := I.tuple_inj hx hy
   exact List.map_inj_right (fun _ _ z => V.bl.inj z) |>.mp this
  subst this
  rw [beq_self_eq_true]
  exact SeqAt.EqAt.same _
 ·obtain ⟨ix, rx, px, _⟩ := I.tuple hx
  obtain ⟨iy, ry, py, _⟩ := I.tuple hy
  have ex := vals_bools rx
  have ey := vals_bools ry
  subst ex ey
  have := SeqAt.RcAt.tuples (e := fun j => a.getD j false == b.getD j false) (show s.heap.IsTuple x _ from px) (show s.heap.IsTuple y _ from py) hu fun j h1 h2 => by
   have h1' : j < a.length := by simpa using h1
   have h2' : j < b.length := by simpa using h2
   simp only [List.getElem_toArray, List.getElem_map]
   rw [show a.getD j false = a[j] by simp [h1'], show b.getD j false = b[j] by simp [h2']]
   exact SeqAt.EqAt.bool_bool _ _
  have h2 := SeqAt.EqAt.of_refs e this
  rw [show (a.map Value.bool).toArray.size = a.length by simp, show (b.map Value.bool).toArray.size = b.length by simp, rows_same] at h2
  exact h2
def mInR (K : PySem.W.Frag) (g : Bool → Bool) : R2 := fun x y H Q => match x, y with
 | .ref r, .ref p => ∃ (k : List Bool) (R : List (Addr × List Bool)), SqT K H r (k.map V.bl) ∧ SqL K H p (R.map fun r => V.ref r.1) ∧ (∀ r ∈ R, SqT K H r.1 (r.2.map V.bl)) ∧ Q (.bl (g (R.any fun r => r.2 == k))) H
 | _, _ => False
theorem q_inr {K : PySem.W.Frag} {g : Bool → Bool} {r p : Addr} {H : Hp} {Q : VK} : mInR K g (.ref r) (.ref p) H Q = ∃ (k : List Bool) (R : List (Addr × List Bool)), SqT K H r (k.map V.bl) ∧ SqL K H p (R.map fun r => V.ref r.1) ∧ (∀ r ∈ R, SqT K H r.1 (r.2.map V.bl)) ∧ Q (.bl (g (R.any fun r => r.2 == k))) H := rfl
def atR (R : List (Addr × List Bool)) (k : List Bool) : Value → Bool
 | .ref b => R.any fun r => r.1 == b && r.2 == k
 | _ => false
theorem atR_eq {pins : List (Addr × Obj)} {σ : St} {H : Hp} {s : Shared} (I : Inv X pins σ H s) {R : List (Addr × List Bool)} (hR : ∀ r ∈ R, SqT X.K H r.1 (r.2.map V.bl)) (k : List Bool) {r : Addr × List Bool} (hr : r ∈ R) : atR R k (.ref r.1) = (r.2 == k) := by
 rw [Bool.eq_iff_iff]
 unfold atR
 rw [List.any_eq_true]
 constructor
 ·rintro ⟨q, hq, e⟩
  rw [Bool.and_eq_true, beq_iff_eq] at e
  have h1 := hR q hq
  rw [e.1] at h1
  have : q.2 = r.2 := List.map_inj_right (fun _ _ z => V.bl.inj z) |>.mp (I.tuple_inj h1 (hR r hr))
  rw [← this]
  exact e.2
 ·intro e
  exact ⟨r, hr, by rw [Bool.and_eq_true]; exact ⟨beq_self_eq_true _, e⟩⟩
theorem any_atR {pins : List (Addr × Obj)} {σ : St} {H : Hp} {s : Shared} (I : Inv X pins σ H s) {R : List (Addr × List Bool)} (hR : ∀ r ∈ R, SqT X.K H r.1 (r.2.map V.bl)) (k : List Bool) : ((R.map (·.1)).map Value.ref).toArray.any (atR R k) = R.any fun r => r.2 == k := by
 rw [List.any_toArray, List.map_map, List.any_map, Bool.eq_iff_iff, List.any_eq_true, List.any_eq_true]
 constructor
 ·rintro ⟨r, hr, e⟩
  exact ⟨r, hr, by rw [← atR_eq I hR k hr]; exact e⟩
 ·rintro ⟨r, hr, e⟩
  exact ⟨r, hr, by rw [← atR_eq I hR k hr] at e; exact e⟩
theorem in_pre {pins : List (Addr × Obj)} {σ : St} {H : Hp} {s : Shared} (I : Inv X pins σ H s) (hu : X.A.units + 64 < cLine) {r p : Addr} {k : List Bool} {R : List (Addr × List Bool)} (hr : SqT X.K H r (k.map V.bl)) (hp : SqL X.K H p (R.map fun r => V.ref r.1)) (hR : ∀ r ∈ R, SqT X.K H r.1 (r.2.map V.bl)) :
  s.heap.IsList p ((R.map (·.1)).map Value.ref).toArray ∧ ∀ y, y ∈ ((R.map (·.1)).map Value.ref).toArray → SeqAt.EqAt X.A.in1 s y (.ref r) (atR R k y) := by
 obtain ⟨its, rv, pl, _⟩ := I.list hp
 have e : its = (R.map (·.1)).map Value.ref := vals_refs (by rw [List.map_map]; exact rv)
 subst e
 refine ⟨pl.isList, fun y hy => ?_⟩
 have hy' : y ∈ (R.map (·.1)).map Value.ref := by simpa using hy
 rw [List.map_map] at hy'
 obtain ⟨q, hq, rfl⟩ := List.mem_map.mp hy'
 show SeqAt.EqAt X.A.in1 s (.ref q.1) (.ref r) (atR R k (.ref q.1))
 rw [atR_eq I hR k hq]
 exact row_eqAt I (show X.A.units + 1 < cLine by omega) (hR q hq) hr
theorem m_notinR (hu : X.A.units + 64 < cLine) : OpR X (compareOp .NotIn) (mInR X.K not) := by
 intro pins s σ H x y v u Q I rx ry h
 obtain ⟨r, p, rfl, rfl, k, R, hr, hp, hR, q⟩ := ref2 (C := fun r p => ∃ (k : List Bool) (R : List (Addr × List Bool)), SqT X.K H r (k.map V.bl) ∧ SqL X.K H p (R.map fun r => V.ref r.1) ∧ (∀ r ∈ R, SqT X.K H r.1 (r.2.map V.bl)) ∧ Q (.bl (!(R.any fun r => r.2 == k))) H) h
 cases rx
 cases ry
 obtain ⟨h1, h2⟩ := in_pre I hu hr hp hR
 exact SeqAt.notIn_listAt (atR R k) h1 h2 ⟨.bl _, H, I, rfl, by rw [any_atR I hR]; exact q⟩
end
end My
namespace My
open PySem PySem.Spec PySem.W PySem.Calls L2
open AutoSeq1 (wpAny_loadPart')
open PyProof.Rows hiding St
theorem noFill_tup_mul : fillsNumberSlot (.type "tuple") "mul" = pure false := PySem.fillsNumberSlot_seq (id := "tuple.__mul__") (r := some (.builtin "tuple.__rmul__")) PySem.F.slot_tuple_mul.lookup (by decide +kernel) PySem.F.slot_tuple_rmul.lookup (by decide +kernel)
theorem repeat_tup : seqRepeat? (.type "tuple") = pure (some (.builtin "tuple.__mul__")) := by
 unfold seqRepeat?; rw [PySem.seqSlot_of (T := "tuple") (name := "__mul__") (id := "tuple.__mul__") PySem.F.slot_tuple_mul.lookup (by decide +kernel), PySem.seqSlot_of (T := "tuple") (name := "__rmul__") (id := "tuple.__rmul__") PySem.F.slot_tuple_rmul.lookup (by decide +kernel)]; rfl
theorem rmul_int_tup (a : Int) (t : Tok) (l : Addr) (items : Array Value) (n : Nat) (dct : Option Addr) (sl : Array (Option Value)) : Meets (Builtin.«int.__rmul__» ⟨[.int a t, .ref l], []⟩) (fun _ R s => s.heap.get? l = some { cls := .type "tuple", dict := dct, data := .seq items n, slots := sl } ∧ R (.ok (.ret Value.notImplemented)) s) :=
 .of_wp fun prog w A R s h => by obtain ⟨hp, g, d, tk, os⟩ := s; obtain ⟨hl, h⟩ := h; wp_walk; exact ⟨_, rfl, h⟩
theorem mul_tup_same (l : Addr) (items : Array Value) (n : Nat) (dct : Option Addr) (sl : Array (Option Value)) (x : Int) (u : Tok) (h1 : -(2 ^ 63) ≤ x) (h2 : x < 2 ^ 63) (hc : (items.isEmpty || x == 1) = true) : Meets (Builtin.«tuple.__mul__» ⟨[.ref l, .int x u], []⟩) (fun _ R s => s.heap.get? l = some { cls := .type "tuple", dict := dct, data := .seq items n, slots := sl } ∧ R (.ok (.ret (.ref l))) s) :=
 .of_wp fun prog w A R s h => by
  obtain ⟨hp, g, d, tk, os⟩ := s; obtain ⟨hl, h⟩ := h
  have f2 := AutoSeq1.sub_tuple_tuple
  have hb : ¬ (decide (x < -(2 ^ 63)) || decide (x ≥ 2 ^ 63)) = true := by simp; omega
  wp_walk using wpAny_loadPart' hl
  rw [if_neg hb]
  wp_walk using wpAny_loadPart' hl
  exact ⟨_, rfl, h⟩
theorem mul_tup_new (l : Addr) (items : Array Value) (n : Nat) (dct : Option Addr) (sl : Array (Option Value)) (x : Int) (u : Tok) (h1 : 2 ≤ x) (h2 : x < 2 ^ 60) (h0 : ¬ (items.isEmpty || x == 1) = true) (hsz : items.size * x.toNat ≤ 1000) (hz : (List.foldl (fun x1 x2 => x1 ++ x2) #[] (List.replicate x.toNat items)).size ≤ sizeLine) : Meets (Builtin.«tuple.__mul__» ⟨[.ref l, .int x u], []⟩) (fun _ R s => s.heap.get? l = some { cls := .type "tuple", dict := dct, data := .seq items n, slots := sl } ∧ R (.ok (.ret (.ref s.heap.objs.size))) { s with heap := s.heap.push { cls := .type "tuple", data := .seq (List.foldl (fun x1 x2 => x1 ++ x2) #[] (List.replicate x.toNat items)) } }) :=
 .of_wp fun prog w A R s h => by
  obtain ⟨hp, g, d, tk, os⟩ := s; obtain ⟨hl, h⟩ := h
  have f2 := AutoSeq1.sub_tuple_tuple
  have hb : ¬ (decide (x < -(2 ^ 63)) || decide (x ≥ 2 ^ 63)) = true := by simp; omega
  wp_walk using wpAny_loadPart' hl
  rw [if_neg hb]
  wp_walk using wpAny_loadPart' hl
  have hb2 : ¬ (decide (x ≤ 0) || items.isEmpty) = true := by
   rw [Bool.or_eq_true, decide_eq_true_eq]
   rintro (z | z)
   ·omega
   ·exact h0 (by rw [z]; rfl)
  have hsz' : (items.size : Int) * x ≤ 1000 := by
   have e : x = ((x.toNat : Nat) : Int) := by omega
   rw [e]
   exact_mod_cast hsz
  rw [if_neg hb2]
  dsimp only
  rw [if_neg (show ¬ (items.size : Int) * x > (2 ^ 63 - 1) / 8 by omega)]
  have hb3 : ¬ Builtin.Tuple.tupleTooMany ((items.size : Int) * x) = true := by
   unfold Builtin.Tuple.tupleTooMany
   rw [sizeLine_eq, decide_eq_true_eq]
   omega
  rw [if_neg hb3]
  wp_walk using wpAny_loadPart' hl
  exact ⟨_, rfl, h⟩
section
variable {X : Cx}
def mRepT (K : PySem.W.Frag) : R2 := fun x y H Q => match x, y with
 | .ref a, .int k => ∃ xs, SqT K H a xs ∧ 1 ≤ k ∧ k < 2 ^ 60 ∧ xs.length * k.toNat ≤ 1000 ∧ ∀ (p : Addr) (H' : Hp), Same H H' → SqT K H' p (List.replicate k.toNat xs).flatten → Q (.ref p) H'
 | _, _ => False
theorem q_rept {K : PySem.W.Frag} {a : Addr} {k : Int} {H : Hp} {Q : VK} : mRepT K (.ref a) (.int k) H Q = ∃ xs, SqT K H a xs ∧ 1 ≤ k ∧ k < 2 ^ 60 ∧ xs.length * k.toNat ≤ 1000 ∧ ∀ (p : Addr) (H' : Hp), Same H H' → SqT K H' p (List.replicate k.toNat xs).flatten → Q (.ref p) H' := rfl
theorem refI {C : Addr → Int → Prop} {x y : V} (h : match x, y with | .ref r, .int p => C r p | _, _ => False) : ∃ r p, x = .ref r ∧ y = .int p ∧ C r p := by
 cases x with
 | ref r =>
  cases y with
  | int p => exact ⟨r, p, rfl, rfl, h⟩
  | _ => exact (show False from h).elim
 | _ => exact (show False from by cases y <;> exact h).elim
theorem m_repT : OpR X (binaryOp .Mult) (mRepT X.K) := by
 intro pins s σ H x y v u Q I rx ry h
 obtain ⟨a, k, rfl, rfl, xs, hq, h1, h2, hsz, q⟩ := refI (C := fun a k => ∃ xs, SqT X.K H a xs ∧ 1 ≤ k ∧ k < 2 ^ 60 ∧ xs.length * k.toNat ≤ 1000 ∧ ∀ (p : Addr) (H' : Hp), Same H H' → SqT X.K H' p (List.replicate k.toNat xs).flatten → Q (.ref p) H') h
 cases rx
 obtain ⟨t, rfl⟩ := ry
 obtain ⟨its, r, p1, hz⟩ := I.tuple hq
 have hl := r.length
 obtain ⟨⟨cls, dct, dt, sl⟩, e, hc, n, hd⟩ := (show s.heap.IsTuple a its.toArray from p1)
 replace hc : cls = .type "tuple" := hc
 replace hd : dt = .seq its.toArray n := hd
 subst hc hd
 refine wpAny_binaryOp_repeat_ref (T := "tuple") (U := "int") (by decide) ⟨_, e, rfl⟩ (fun s' => typeIs_int s' k t) noFill_tup_mul F.fills_int_mul F.slot_int_rmul repeat_tup F.slot_int_index.lookup
  (call_meets F.slot_int_rmul (typeIs_int s k t) F.entry_int_rmul (F.args_int_rmul_2 _ _) (rmul_int_tup k t a its.toArray n dct sl) ⟨e, rfl, ⟨_, e, rfl⟩, ?_⟩)
 have f0 : List.foldl (fun x1 x2 => x1 ++ x2) #[] (List.replicate k.toNat its.toArray) = (List.replicate k.toNat its).flatten.toArray := by
  have := foldl_rep its k.toNat []
  rw [List.nil_append] at this
  exact this
 have hlen : (List.replicate k.toNat its).flatten.length = k.toNat * its.length := len_rep _ _
 by_cases hc : (its.toArray.isEmpty || k == 1) = true
 ·refine call_meets F.slot_tuple_mul ⟨_, e, rfl⟩ F.entry_tuple_mul (F.args_tuple_mul_2 _ _) (mul_tup_same a its.toArray n dct sl k t (by omega) (by omega) hc) ⟨e, ?_⟩
  refine ⟨.ref a, H, I, rfl, q a H (Same.refl _) ?_⟩
  rw [Bool.or_eq_true] at hc
  rcases hc with hc | hc
  ·have : its = [] := by simpa using hc
   have hx : xs = [] := List.length_eq_zero_iff.mp (by rw [hl, this]; rfl)
   have e0 : (List.replicate k.toNat xs).flatten = xs := by rw [hx]; simp
   rw [e0]
   exact hq
  ·have : k = 1 := by simpa using hc
   subst this
   have e0 : (List.replicate (1 : Int).toNat xs).flatten = xs := by simp
   rw [e0]
   exact hq
 ·have h2k : 2 ≤ k := by
   have : ¬ k = 1 := fun z => hc (by rw [z]; simp)
   omega
  refine call_meets F.slot_tuple_mul ⟨_, e, rfl⟩ F.entry_tuple_mul (F.args_tuple_mul_2 _ _) (mul_tup_new a its.toArray n dct sl k t h2k h2 hc (by rw [List.size_toArray, ← hl]; exact hsz) (by rw [f0, List.size_toArray, hlen, sizeLine_eq, ← hl, Nat.mul_comm]; omega)) ⟨e, ?_⟩
  rw [f0]
  have hf : H s.heap.objs.size = none := I.hok.fresh (Nat.le_refl _)
  refine ⟨.ref s.heap.objs.size, upd H s.heap.objs.size (.tup (List.replicate k.toNat xs).flatten), I.laid (t' := s.toks) (fun b u e => Heap.get?_push_of_some _ e) (Nat.le_refl _) ?_, rfl, q _ _ (same_new hf _) (SqT.of upd_same)⟩
  exact ⟨by rw [len_rep, sizeLine_eq, Nat.mul_comm]; omega, _, r.rep k.toNat, ⟨_, Heap.get?_push_size _ rfl, rfl, _, rfl⟩⟩
end
end My
namespace My
open PySem PySem.Spec L2
open PyProof.Rows hiding St
def cxCompC (X : Cx) (N' : List Str) (scope : Scope) (cl : List (Str × Addr)) (x : Str) (C : Addr) (s₀ : Shared) (H₀ : Hp) (ex : List Addr) : Cx where
 prog := X.prog
 w := X.w
 K := X.K
 mg := X.mg
 base := X.base
 A := X.A
 N := N'
 s₀ := s₀
 H₀ := H₀
 env := compEnvC scope ((x, C + 1) :: cl) C X.env
 outer := X.stack
 stack := X.stack
 ex := ex
 fn := fun y => y == x
 calm := X.calm
 pn := []
 xe := fun _ _ => False
structure CompOkC (X : Cx) (x : Str) (N : List Str) (scope : Scope) (cl : List (Str × Addr)) : Prop where
 clos : closureFor scope X.env = pure cl
 sub : ∀ p ∈ cl, X.env.cells.lookup p.1 = some p.2
 have_ : ∀ p ∈ scope.names, p.2 = .free → ∃ c, cl.lookup p.1 = some c
 one : ∀ y ∈ scope.names, y.2 = .cell → y.1 = x
 cf : ∀ n, cellsFrom n scope.names cl = (x, n) :: cl
 pc : ∀ h : Heap, pushCells h scope.names = h.push { cls := .type "cell", data := .cell none }
 kind : scope.kind = .function
 names : ∀ y ∈ scope.names, y.2 = .local → scope.names.lookup y.1 = some .local
 mine : (relabel scope X.env).names.lookup x = some .cell
 nd : ([x] ++ N).Nodup
 cells : ∀ y ∈ N, X.env.kindOf y = some .cell ∨ X.env.kindOf y = some .free
 free : ∀ y ∈ N, ∃ c, cl.lookup y = some c
 vis : ∀ y ∈ N, (relabel scope X.env).names.lookup y = some .cell ∨ (relabel scope X.env).names.lookup y = some .free
theorem newFnEnvC {M : Model} {A : Around} {E : Value → Shared → Prop} {s : Shared} {scope : Scope} {globals : Addr} {cl : List (Str × Addr)} {qual : Str} {env : Env} {x : Str} {Q : Env → Shared → Prop}
  (cf : ∀ n, cellsFrom n scope.names cl = (x, n) :: cl) (pc : ∀ h : Heap, pushCells h scope.names = h.push { cls := .type "cell", data := .cell none })
  (hQ : ∀ h' : Heap, h'.Ns s.heap.objs.size (fun _ => none) → h'.IsCell (s.heap.objs.size + 1) none → (∀ b o, s.heap.get? b = some o → h'.get? b = some o) →
   Q (newEnv scope s.heap.objs.size globals ((x, s.heap.objs.size + 1) :: cl) qual none .none (some env) builtinsNs) { s with heap := h' }) :
  wpAny M A (newFunctionEnv scope globals cl [] qual none .none (some env)) Q E s := by
 simp only [newFunctionEnv, Option.isSome_some, if_true]
 refine wpAny_bind (wpAny_alloc ?_)
 refine wpAny_bind (wpAny_layCells _ (fun name kind cells => by cases hkc : kind == NameKind.cell <;> simp [hkc]) _ _ _ _ ?_)
 rw [show ({ s with heap := s.heap.push { cls := .type "dict", data := .dict #[] } } : Shared).heap.objs.size = s.heap.objs.size + 1 from Heap.size_push ..]
 rw [cf, pc]
 have h1 : (s.heap.push { cls := .type "dict", data := .dict #[] }).objs.size = s.heap.objs.size + 1 := Heap.size_push ..
 rw [List.forIn_nil]
 refine wpAny_bind (wpAny_pure (wpAny_pure (hQ _ ?_ ?_ ?_)))
 ·exact (Heap.Ns.new s.heap (.type "dict")).keeps fun b o e => Heap.get?_push_of_some _ e
 ·have g := Heap.get?_push_size (s.heap.push { cls := .type "dict", data := .dict #[] }) (o := { cls := .type "cell", data := .cell none }) rfl
  rw [h1] at g
  exact ⟨_, g, rfl⟩
 ·exact fun b o e => Heap.get?_push_of_some _ (Heap.get?_push_of_some _ e)
section
variable {X : Cx} {N : List Str} {scope : Scope} {cl : List (Str × Addr)} {x : Str}
theorem CompOkC.up (k : CompOkC X x N scope cl) {y : Str} {c : Addr} (h : cl.lookup y = some c) : X.env.cells.lookup y = some c := k.sub (y, c) (PySem.mem_of_lookup h)
theorem lk_cons {x y : Str} {c d : Addr} (h : ((x, d) :: cl).lookup y = some c) : (y = x ∧ c = d) ∨ (y ≠ x ∧ cl.lookup y = some c) := by
 rw [List.lookup_cons] at h
 by_cases e : y = x
 ·subst e
  simp at h
  exact .inl ⟨rfl, h.symm⟩
 ·rw [show (y == x) = false from beq_eq_false_iff_ne.mpr e] at h
  exact .inr ⟨e, h⟩
theorem lk_ne {x y : Str} {c d : Addr} (e : y ≠ x) (h : cl.lookup y = some c) : ((x, d) :: cl).lookup y = some c := by
 rw [List.lookup_cons, show (y == x) = false from beq_eq_false_iff_ne.mpr e]
 exact h
theorem compOkC_mk (clos : closureFor scope X.env = pure cl) (sub : cl.map (fun p => X.env.cells.lookup p.1) = cl.map (fun p => some p.2))
  (b1 : (scope.names.all fun p => !(p.2 == .free) || (cl.lookup p.1).isSome) = true) (b2 : (scope.names.all fun p => !(p.2 == .cell) || p.1 == x) = true)
  (cf : ∀ n, cellsFrom n scope.names cl = (x, n) :: cl) (pc : ∀ h : Heap, pushCells h scope.names = h.push { cls := .type "cell", data := .cell none }) (kind : scope.kind = .function)
  (b3 : (scope.names.all fun p => !(p.2 == .local) || scope.names.lookup p.1 == some .local) = true) (ow : (relabel scope X.env).names.lookup x = some .cell) (nd : ([x] ++ N).Nodup)
  (b4 : (N.all fun y => X.env.kindOf y == some .cell || X.env.kindOf y == some .free) = true) (b5 : (N.all fun y => (cl.lookup y).isSome) = true)
  (b6 : (N.all fun y => (relabel scope X.env).names.lookup y == some .cell || (relabel scope X.env).names.lookup y == some .free) = true) : CompOkC X x N scope cl := by
 rw [List.all_eq_true] at b1 b2 b3 b4 b5 b6
 refine ⟨clos, List.map_inj_left.mp sub, fun p hp hf => ?_, fun p hp hc => ?_, cf, pc, kind, fun p hp hl => ?_, ow, nd, fun y hy => ?_, fun y hy => Option.isSome_iff_exists.mp (b5 y hy), fun y hy => ?_⟩
 ·have h := b1 p hp
  rw [hf] at h
  exact Option.isSome_iff_exists.mp (by simpa using h)
 ·have h := b2 p hp
  rw [hc] at h
  simpa using h
 ·have h := b3 p hp
  rw [hl] at h
  simpa using h
 ·have h := b4 y hy
  rw [Bool.or_eq_true] at h
  exact h.imp eq_of_beq eq_of_beq
 ·have h := b6 y hy
  rw [Bool.or_eq_true] at h
  exact h.imp eq_of_beq eq_of_beq
theorem comp_invC {pins : List (Addr × Obj)} {σ : St} {H : Hp} {s : Shared} {fp : List Addr} {h₁ : Heap} {tk : Nat} {ixs : List Nat} (k : CompOkC X x N scope cl) (I : Inv X pins σ H s) (hf : ∀ b ∈ fp, FpOk X pins H b) (hfp : ∀ b ∈ fp, b < s.heap.objs.size)
  (hix : ∀ (j : Nat) (i : Nat), ixs[j]? = some i → ∃ y, X.N[i]? = some y ∧ N[j]? = some y) (hlen : ixs.length = N.length)
  (hns : h₁.Ns s.heap.objs.size fun _ => none) (hce : h₁.IsCell (s.heap.objs.size + 1) none) (hkeep : ∀ b o, b ≠ s.heap.objs.size → s.heap.get? b = some o → h₁.get? b = some o) :
  Inv (cxCompC X ([x] ++ N) scope cl x s.heap.objs.size s H fp) [] ([none] ++ ixs.map (gv σ)) H { s with heap := h₁, toks := tk } := by
 have old : ∀ b o, s.heap.get? b = some o → h₁.get? b = some o := fun b o e => hkeep b o (Nat.ne_of_lt (Heap.lt_size e)) e
 have nfs : ∀ b ∈ fp, b ∉ frs X.stack := fun b hb z => by
  rcases List.mem_cons.mp (I.stkSub b z) with e | e
  ·exact (hf b hb).2.1 e
  ·exact (hf b hb).2.2.1 e
 have oldc : ∀ y c, cl.lookup y = some c → c < s.heap.objs.size := fun y c e => by
  obtain ⟨v, ic⟩ := I.cell y c (k.up e)
  exact ic.lt
 refine ⟨⟨I.ok.mod, ?_, I.ok.glob, I.ok.blt, Nat.le_refl _, ?_, ?_, ?_, I.ok.hd, I.ok.frames, .inl rfl, ?_, I.bs, Nat.le_trans I.ok.bsz I.sz, ?_, nfs, I.stack, I.stkFree⟩,
  rfl, I.bare, Un.kept old, ⟨fun _ => none, hns, ?_⟩, ?_, I.hok.fresh (Nat.le_refl _), ?_, fun p hp => absurd hp (by simp [cxCompC]), I.hok.kept old, ?_⟩
 ·exact k.kind
 ·intro y z c h1 h2
  rcases lk_cons h1 with ⟨e1, f1⟩ | ⟨e1, f1⟩ <;> rcases lk_cons h2 with ⟨e2, f2⟩ | ⟨e2, f2⟩
  ·rw [e1, e2]
  ·exact absurd (oldc _ _ f2) (by rw [f1]; exact Nat.not_lt.mpr (Nat.le_succ _))
  ·exact absurd (oldc _ _ f1) (by rw [f2]; exact Nat.not_lt.mpr (Nat.le_succ _))
  ·exact I.ok.inj y z c (k.up f1) (k.up f2)
 ·intro y hy
  by_cases e : y = x
  ·subst e
   exact ⟨s.heap.objs.size + 1, by show List.lookup y ((y, s.heap.objs.size + 1) :: cl) = _; simp⟩
  have hy' : scope.names.lookup y = some .cell ∨ scope.names.lookup y = some .free := by
   rcases hy with hy | hy
   ·exact lookup_relabel (env := X.env) hy (.inl rfl)
   ·exact lookup_relabel (env := X.env) hy (.inr rfl)
  rcases hy' with hy' | hy'
  ·exact absurd (k.one _ (PySem.mem_of_lookup hy') rfl) e
  ·obtain ⟨c, hc⟩ := k.have_ _ (PySem.mem_of_lookup hy') rfl
   exact ⟨c, lk_ne e hc⟩
 ·intro y c h1 h2
  rcases lk_cons h2 with ⟨e2, f2⟩ | ⟨e2, f2⟩
  ·show s.heap.objs.size ≤ c
   rw [f2]
   exact Nat.le_succ _
  ·exact absurd (eq_of_beq h1) e2
 ·intro b hb
  refine ⟨Nat.ne_of_lt (hfp b hb), fun y c e => ?_⟩
  rcases lk_cons e with ⟨e2, f2⟩ | ⟨e2, f2⟩
  ·exact fun q => absurd (hfp b hb) (by rw [← q, f2]; exact Nat.not_lt.mpr (Nat.le_succ _))
  ·exact (hf b hb).2.2.2.2.1 y c (k.up f2)
 ·intro b o e hb
  rcases (hf b hb).2.2.2.1 with z | z
  ·exact I.ok.noex b o e z
  ·exact absurd (Nat.lt_of_lt_of_le (Heap.lt_size e) (Nat.le_trans I.ok.bsz z)) (Nat.lt_irrefl _)
 ·intro i y v h1 h2 h3
  cases i with
  | zero => simp at h2
  | succ i =>
   have h1' : N[i]? = some y := by simpa [cxCompC] using h1
   have h2' : (ixs.map (gv σ))[i]? = some (some v) := by simpa using h2
   rw [List.getElem?_map] at h2'
   cases e : ixs[i]? with
   | none => rw [e] at h2'; cases h2'
   | some j =>
    rw [e] at h2'
    have h2'' : gv σ j = some v := by simpa using h2'
    obtain ⟨z, hz, hz'⟩ := hix i j e
    rw [h1'] at hz'
    cases hz'
    have hm := List.mem_of_getElem? h1'
    have hyx : y ≠ x := fun z => by
     have := k.nd
     simp only [List.singleton_append, List.nodup_cons] at this
     exact this.1 (z ▸ hm)
    obtain ⟨m, hn, hl⟩ := I.loc
    have hvis : Vis X.env.scope y := .inr (k.cells y hm)
    obtain ⟨u, ru, l⟩ := hl j y v hz (gv_get h2'') hvis
    refine ⟨u, ru, ?_⟩
    rcases l with ⟨l, _⟩ | ⟨_, c, ec, ic⟩
    ·exfalso
     rcases k.cells y hm with z | z <;> (rw [l] at z; cases z)
    ·obtain ⟨c', ec'⟩ := k.free y hm
     have : c = c' := Option.some.inj (ec.symm.trans (k.up ec'))
     subst this
     refine .inr ⟨?_, c, lk_ne hyx ec', ?_⟩
     ·exact k.vis y hm
     ·obtain ⟨o, ho, hd⟩ := ic
      exact ⟨o, old _ _ ho, hd⟩
 ·intro y c e
  rcases lk_cons e with ⟨e2, f2⟩ | ⟨e2, f2⟩
  ·subst f2
   exact ⟨none, hce⟩
  ·obtain ⟨v, o, ho, hd⟩ := I.cell y c (k.up f2)
   exact ⟨v, o, old _ _ ho, hd⟩
 ·intro y c e
  rcases lk_cons e with ⟨e2, f2⟩ | ⟨e2, f2⟩
  ·subst f2
   exact I.hok.fresh (Nat.le_succ _)
  ·exact I.freeC y c (k.up f2)
 ·show ([none] ++ ixs.map (gv σ)).length = ([x] ++ N).length
  simp [hlen]
theorem comp_blockC {elt iter tg : Expr} {ifs : List Expr} {ixs : List Nat} {g : TG} {tt : Addr → Shared → Hp → List Addr → TT} {te : Addr → Shared → Hp → List Addr → TE} {pos : Pos} {pins : List (Addr × Obj)} {σ : St} {H : Hp} {s₂ : Shared} {it : Addr} {fp : List Addr} {tn : Nat → Heap → Prop} {J : It} {Q : VK} {RR : Value → Addr → Result → Shared → Prop} {E : Value → Shared → Prop}
  (k : CompOkC X x N scope cl) (hcalm : X.calm = true) (hix : ∀ (j : Nat) (i : Nat), ixs[j]? = some i → ∃ y, X.N[i]? = some y ∧ N[j]? = some y) (hlen : ixs.length = N.length)
  (hg : ∀ (C : Addr) (s₀ : Shared) (H₀ : Hp) (ex : List Addr), PG (cxCompC X ([x] ++ N) scope cl x C s₀ H₀ ex) tg g)
  (ht : ∀ (C : Addr) (s₀ : Shared) (H₀ : Hp) (ex : List Addr), PIf (cxCompC X ([x] ++ N) scope cl x C s₀ H₀ ex) ifs (tt C s₀ H₀ ex))
  (he : ∀ (C : Addr) (s₀ : Shared) (H₀ : Hp) (ex : List Addr), PE (cxCompC X ([x] ++ N) scope cl x C s₀ H₀ ex) elt (te C s₀ H₀ ex))
  (I : Inv X pins σ H s₂) (T : Turn X.prog X.w X.K tg J fp it tn) (st : tn 0 s₂.heap) (hf : ∀ b ∈ fp, FpOk X pins H b)
  (q : ∀ (C : Addr) (s₀ : Shared) (H₀ : Hp) (ex : List Addr), CompL 1 g (tt C s₀ H₀ ex) (te C s₀ H₀ ex) (ixs.map (gv σ)) J Q H)
  (hRR : ∀ (D C : Addr) (H' : Hp) (s' : Shared) (m : Str → Option Value), Inv X pins σ H' s' → s'.heap.Ns C m → H' C = none → C ≠ X.env.locals → C ∉ X.fs → (∀ p ∈ X.pn ++ pins, p.1 ≠ C) → (∀ y c, X.env.cells.lookup y = some c → c ≠ C) → X.s₀.heap.objs.size ≤ C → Q (.ref D) H' → RR (.ref D) C (.ok .next) s') :
  wpAny (model X.prog X.w) X.A (newList []) (fun acc s₃ => wpAny (model X.prog X.w) X.A (newFunctionEnv scope X.env.globals cl [] X.env.qual none .none (some X.env)) (fun cenv s₄ =>
   codeAny (model X.prog X.w) X.A (.compStart (.ListComp elt [⟨tg, iter, ifs, 0⟩] scope pos) 0 (.ref it) acc { cenv with scope := relabel scope X.env }) (RR acc cenv.locals) s₄) E s₃) E s₂ := by
 refine wpAny_newObj_type (newFnEnvC k.cf k.pc fun h₁ hns₁ hce₁ hsb₁ => ?_)
 dsimp only at hns₁ hsb₁ hce₁ ⊢
 have hfresh : H s₂.heap.objs.size = none := I.hok.fresh (Nat.le_refl _)
 have I3 : Inv X pins σ (upd H s₂.heap.objs.size (.lst [])) { s₂ with heap := s₂.heap.push { cls := .type "list", dict := none, data := .seq ([] : List Value).toArray } } :=
  I.laid (t' := s₂.toks) (fun b o e => Heap.get?_push_of_some _ e) (Nat.le_refl _) ⟨Nat.zero_le _, [], 0, .nil, Heap.get?_push_size _ rfl⟩
 obtain ⟨W, ⟨m0, w0⟩, turn⟩ := q (s₂.heap.push { cls := .type "list", dict := none, data := .seq ([] : List Value).toArray }).objs.size { s₂ with heap := s₂.heap.push { cls := .type "list", dict := none, data := .seq ([] : List Value).toArray } } (upd H s₂.heap.objs.size (.lst [])) fp s₂.heap.objs.size _ hfresh (same_new hfresh _) upd_same
 have keepPush : ∀ b o, s₂.heap.get? b = some o → (s₂.heap.push { cls := .type "list", dict := none, data := .seq ([] : List Value).toArray }).get? b = some o := fun b o e => Heap.get?_push_of_some _ e
 have fpOld : ∀ b ∈ fp, b < s₂.heap.objs.size := fun b hb => by
  obtain ⟨o, e, _⟩ := T.obj _ _ st b hb
  exact Heap.lt_size e
 have hf3 : ∀ b ∈ fp, FpOk X pins (upd H s₂.heap.objs.size (.lst [])) b := fun b hb => ⟨by rw [upd_ne (Nat.ne_of_lt (fpOld b hb))]; exact (hf b hb).1, (hf b hb).2⟩
 generalize hH3 : upd H s₂.heap.objs.size (.lst []) = H3 at I3 w0 hf3 turn
 generalize hh2 : s₂.heap.push { cls := .type "list", dict := none, data := .seq ([] : List Value).toArray } = h2 at I3 hns₁ hsb₁ hce₁ keepPush turn ⊢
 have hszh2 : h2.objs.size = s₂.heap.objs.size + 1 := by rw [← hh2, Heap.size_push]
 have fp2 : ∀ b ∈ fp, b < h2.objs.size := fun b hb => by rw [hszh2]; exact Nat.lt_succ_of_lt (fpOld b hb)
 have hk1 : ∀ b o, b ≠ h2.objs.size → h2.get? b = some o → h₁.get? b = some o := fun b o _ e => hsb₁ b o e
 have I4 := comp_invC (fp := fp) (h₁ := h₁) (tk := s₂.toks) (s := { s₂ with heap := h2 }) k I3 hf3 fp2 hix hlen hns₁ hce₁ hk1
 have st4 : tn 0 h₁ := T.keep _ _ _ st fun b hb o e => hk1 b o (Nat.ne_of_lt (fp2 b hb)) (keepPush b o e)
 have fr4 : ∀ b ∈ fp, H3 b = none := fun b hb => (hf3 b hb).1
 have blk : ∀ {H' : Hp}, (∀ b ∈ fp, H' b = none) → ∀ b ∈ fp, FpOk (cxCompC X ([x] ++ N) scope cl x h2.objs.size { s₂ with heap := h2 } H3 fp) [] H' b := fun hn b hb =>
  ⟨hn b hb, (I4.ok.exf b hb).1, I4.ok.exfs b hb, .inl hb, (I4.ok.exf b hb).2, fun p hp => absurd hp (by simp [cxCompC])⟩
 have loop : ∀ s₃ : Shared, s₃ = { s₂ with heap := h₁, toks := s₂.toks } →
   codeAny (model X.prog X.w) X.A (.compLoop (.ListComp elt [⟨tg, iter, ifs, 0⟩] scope pos) 0 (.ref it) (.ref s₂.heap.objs.size) (compEnvC scope ((x, h2.objs.size + 1) :: cl) h2.objs.size X.env)) (RR (.ref s₂.heap.objs.size) h2.objs.size) s₃ := by
  rintro s₃ rfl
  refine compLoop_mine (fun n s' => ∃ i τ ys H', τ.length = 1 ∧ Inv (cxCompC X ([x] ++ N) scope cl x h2.objs.size { s₂ with heap := h2 } H3 fp) [] (τ ++ ixs.map (gv σ)) H' s' ∧ tn i s'.heap ∧ (∀ b ∈ fp, H' b = none) ∧ W i n ys H') ?_ m0 ⟨0, [none], [], H3, by simp, I4, st4, fr4, w0⟩
  rintro n s5 ⟨i, τ, ys, H5, hτ, I5, st5, fr5, w5⟩ E'
  obtain ⟨hD, alt⟩ := turn i n ys H5 w5
  rcases alt with ⟨stop, qn⟩ | ⟨go, hz, step⟩
  ·refine wpAny_mono (T.done (cxCompC X ([x] ++ N) scope cl x h2.objs.size { s₂ with heap := h2 } H3 fp) rfl rfl rfl hcalm i [] s5 _ H5 E' I5 (blk fr5) st5 stop) (fun r s6 hr => ?_) fun _ _ e => e
   obtain ⟨rfl, I6⟩ := hr
   obtain ⟨m6, hn6, _⟩ := I6.loc
   have J6 : Inv X pins σ H5 s6 := by
    refine I3.call' (ch := fp) I6.os I6.base I6.hok I6.bare fun b hb => ?_
    obtain ⟨_, f1, f2, f3, f4, f5⟩ := hf3 b hb
    exact ⟨f3, f1, f4, f5⟩
   have szle : X.s₀.heap.objs.size ≤ h2.objs.size := I3.sz
   refine hRR s₂.heap.objs.size h2.objs.size H5 s6 m6 J6 hn6 I6.free (Nat.ne_of_gt I3.lt) (I3.nofs (Nat.le_refl _)) (fun p hp z => ?_) (fun y c e z => ?_) szle qn
   ·exact absurd (Heap.lt_size (I3.pin p hp).1) (by rw [z]; exact Nat.lt_irrefl _)
   ·obtain ⟨u, ic⟩ := I3.cell y c e
    exact absurd ic.lt (by rw [z]; exact Nat.lt_irrefl _)
  ·refine wpAny_mono (T.item (cxCompC X ([x] ++ N) scope cl x h2.objs.size { s₂ with heap := h2 } H3 fp) rfl rfl rfl hcalm i [] s5 _ H5 E' I5 (blk fr5) st5 go) (fun r s6 hr => ?_) fun _ _ e => e
   obtain ⟨u, rfl, h6⟩ := hr
   refine wpAny_mono h6 (fun _ s7 h7 => ?_) fun _ _ e => e
   obtain ⟨xv, H7, I7, r7, y7, st7, fr7⟩ := h7
   have I7' := I7.pinned (blk fr7) (T.obj _ _ st7)
   refine wpAny_mono (hg _ _ _ _ _ s7 _ H7 xv u _ I7' r7 (step τ xv H7 hτ y7)) (fun _ s8 h8 => ?_) fun _ _ e => e.elim
   obtain ⟨σ8, H8, I8, ⟨τ', rfl, hτ'⟩, q8⟩ := h8
   refine wpAny_mono (ht _ _ _ _ _ s8 _ H8 _ I8 q8) (fun ok s9 h9 => ?_) fun _ _ e => e.elim
   obtain ⟨H9, I9, q9⟩ := h9
   have back : ∀ (H10 : Hp) (s10 : Shared) (ys' : List V) (m' : Nat), Inv (cxCompC X ([x] ++ N) scope cl x h2.objs.size { s₂ with heap := h2 } H3 fp) ([] ++ pinsAt fp s7.heap) (τ' ++ ixs.map (gv σ)) H10 s10 → m' < n → W (i + 1) m' ys' H10 →
     ∃ m, m < n ∧ ∃ i τ ys H', τ.length = 1 ∧ Inv (cxCompC X ([x] ++ N) scope cl x h2.objs.size { s₂ with heap := h2 } H3 fp) [] (τ ++ ixs.map (gv σ)) H' s10 ∧ tn i s10.heap ∧ (∀ b ∈ fp, H' b = none) ∧ W i m ys H' := fun H10 s10 ys' m' I10 hm' w10 => by
    refine ⟨m', hm', i + 1, τ', ys', H10, hτ', I10.unpinned (pins := []), T.keep _ _ _ st7 fun b hb o e => (I10.pin (b, o) (List.mem_append_right _ (List.mem_append_right _ (mem_pinsAt hb e)))).1, fun b hb => ?_, w10⟩
    obtain ⟨o, e, d⟩ := T.obj _ _ st7 b hb
    exact (I10.pin (b, o) (List.mem_append_right _ (List.mem_append_right _ (mem_pinsAt hb e)))).2.1
   cases ok with
   | true =>
    simp only [if_true] at q9 ⊢
    refine wpAny_mono (he _ _ _ _ _ s9 _ H9 _ I9 q9) (fun y s10 h10 => ?_) fun _ _ e => e.elim
    obtain ⟨yv, H10, I10, r10, hD10, m', hm', w10⟩ := h10
    refine wpAny_mono (mt_append (X := cxCompC X ([x] ++ N) scope cl x h2.objs.size { s₂ with heap := h2 } H3 fp) _ s10 _ H10 (.ref s₂.heap.objs.size) [yv] (.ref s₂.heap.objs.size) [y] (fun v' H' => H' = upd H10 s₂.heap.objs.size (.lst (ys ++ [yv]))) I10 rfl (.cons r10 .nil) ⟨_, ys, yv, rfl, rfl, hD10, hz, rfl⟩) (fun _ s11 h11 => ?_) fun _ _ e => e.elim
    obtain ⟨_, H11, I11, _, rfl⟩ := h11
    exact back _ _ _ m' I11 hm' w10
   | false =>
    simp only [Bool.false_eq_true, if_false] at q9 ⊢
    obtain ⟨m', hm', w10⟩ := q9
    exact back _ _ _ m' I9 hm' w10
 exact codeAny_compStart_list (loop _ rfl) (T.self _ 0 _ _ _ st4 (loop _ rfl))
theorem m_setCompC0 (i : Nat) {elt iter tg : Expr} {ifs : List Expr} {y : Str} {py : Pos} {ixs : List Nat} {wi : TI} {g : TG} {tt : Addr → Shared → Hp → List Addr → TT} {te : Addr → Shared → Hp → List Addr → TE} {pos spos : Pos} (hN : X.N.Nodup)
  (k : CompOkC X x N scope cl) (hcalm : X.calm = true) (hi : PI X tg iter wi)
  (hg : ∀ (C : Addr) (s₀ : Shared) (H₀ : Hp) (ex : List Addr), PG (cxCompC X ([x] ++ N) scope cl x C s₀ H₀ ex) tg g) (ht : ∀ (C : Addr) (s₀ : Shared) (H₀ : Hp) (ex : List Addr), PIf (cxCompC X ([x] ++ N) scope cl x C s₀ H₀ ex) ifs (tt C s₀ H₀ ex))
  (he : ∀ (C : Addr) (s₀ : Shared) (H₀ : Hp) (ex : List Addr), PE (cxCompC X ([x] ++ N) scope cl x C s₀ H₀ ex) elt (te C s₀ H₀ ex))
  (hx : ixs.map (fun i => X.N[i]?) = N.map some)
  (hy : X.N[i]? = some y := by rfl) (hyl : X.env.scope.names.lookup y = some .local := by rfl)
  (hsw : swapsWith (.ListComp elt [⟨tg, iter, ifs, 0⟩] scope pos) (some (.Name y py)) spos.line X.env = pure true := by rfl)
  (hs : ∀ x, foldedSetIterable iter X.env x = pure x := by intro _; rfl) : PS X (.Assign [.Name y py] (.ListComp elt [⟨tg, iter, ifs, 0⟩] scope pos) spos) (mSetC i (tComp 1 ixs wi g tt te)) := by
 intro pins s σ H D I h
 rw [exec_Assign_Name_used _ _ _ _ hsw]
 refine wpAny_bind (wpAny_standAt (wpAny_bind ?_))
 show wpAny _ X.A (do let _ ← comprehension (.ListComp elt [⟨tg, iter, ifs, 0⟩] scope pos) scope X.env _ (newList []) false (eval iter X.env) (some (assign (.Name y py) X.env))) _ _ s
 refine wpAny_bind (wpAny_mono (wpAny_comprehension_free (use := some (assign (.Name y py) X.env)) (Q := fun _ s' => SP X pins D .next s') rfl hs k.clos k.kind k.names (thn (hi pins s σ H _ I h) fun v s1 h1 => thn h1 fun itv s2 h2 => ?_)) (fun _ s' hq => wpAny_pure (wpAny_pure hq)) fun _ _ e => e)
 obtain ⟨it, fp, tn, J, H2, rfl, I2, T, st2, f2, q⟩ := h2
 refine comp_blockC (Q := fun x H1 => D.nx (sv σ i x) H1) (RR := fun acc C => compPost (model X.prog X.w) X.A X.xe (some (assign (.Name y py) X.env)) (fun _ s' => SP X pins D .next s') acc C) k hcalm (ix_of hx) (ix_len hx) hg ht he I2 T st2 f2 q ?_
 intro L C H' s' m J' hn hC hL hfs hp hc h0 q'
 obtain ⟨o, es, ep, ho, hd, hk, hm⟩ := id hn
 have J2 : Inv X (pins ++ [(C, o)]) σ H' s' := J'.pins_of fun p hp' => (List.mem_append.mp hp').elim (fun z => J'.pin p (List.mem_append_right _ z)) fun z => by
  have e : p = (C, o) := by simpa using z
  subst e
  exact ⟨ho, hC, hL, hfs, fun v z => by rw [hd] at z; cases z⟩
 have hg : PG X (.Name y py) (mG i) := m_tg i hN hy (.inl hyl) (.inr hyl)
 show wpAny (model X.prog X.w) X.A (assign (.Name y py) X.env (.ref L)) _ _ s'
 refine thn (hg _ s' σ H' (.ref L) (.ref L) D.nx J2 rfl q') fun _ s3 h3 => ?_
 obtain ⟨σ3, H3, I3, q3⟩ := h3
 have pc := I3.pin (C, o) (List.mem_append_right _ (List.mem_append_right _ (List.mem_singleton.mpr rfl)))
 refine ⟨m, ⟨o, es, ep, pc.1, hd, hk, hm⟩, fun h'' hs'' => ⟨σ3, H3, ?_, q3⟩⟩
 exact inv_but (I3.unpinned) pc.2.1 hL hp hc h0 (fun b ob hb e => hs''.extBut b ob hb e)
theorem pg_ownC {px : Pos} (k : CompOkC X x N scope cl) (C : Addr) (s₀ : Shared) (H₀ : Hp) (ex : List Addr) : PG (cxCompC X ([x] ++ N) scope cl x C s₀ H₀ ex) (.Name x px) (mG 0) :=
 m_tg 0 k.nd rfl (.inr k.mine) (.inl (beq_self_eq_true x))
variable {elt iter : Expr} {px : Pos} {ifs : List Expr} {ixs : List Nat} {wi : TI} {tt : Addr → Shared → Hp → List Addr → TT} {te : Addr → Shared → Hp → List Addr → TE} {pos spos pt : Pos} {z : Str}
theorem m_setCompC (i : Nat) (hN : X.N.Nodup) (k : CompOkC X x N scope cl) (hc : X.calm = true) (hi : PI X (.Name x px) iter wi) (ht : ∀ (C : Addr) (s₀ : Shared) (H₀ : Hp) (ex : List Addr), PIf (cxCompC X ([x] ++ N) scope cl x C s₀ H₀ ex) ifs (tt C s₀ H₀ ex))
  (he : ∀ (C : Addr) (s₀ : Shared) (H₀ : Hp) (ex : List Addr), PE (cxCompC X ([x] ++ N) scope cl x C s₀ H₀ ex) elt (te C s₀ H₀ ex)) (hx : ixs.map (fun i => X.N[i]?) = N.map some) (hy : X.N[i]? = some z := by rfl) (hyl : X.env.scope.names.lookup z = some .local := by rfl)
  (hsw : swapsWith (.ListComp elt [⟨.Name x px, iter, ifs, 0⟩] scope pos) (some (.Name z pt)) spos.line X.env = pure true := by rfl) (hs : ∀ x, foldedSetIterable iter X.env x = pure x := by intro _; rfl) :
  PS X (.Assign [.Name z pt] (.ListComp elt [⟨.Name x px, iter, ifs, 0⟩] scope pos) spos) (mSetC i (tComp 1 ixs wi (mG 0) tt te)) := m_setCompC0 i hN k hc hi (pg_ownC k) ht he hx hy hyl hsw hs
end
end My
namespace My
open PySem PySem.Spec PySem.W PySem.Calls L2
open PyProof.Rows hiding St
structure Mk0 (K : PySem.W.Frag) (C : Addr) : Prop where
 makes : PySem.W.makesIn K C = true
 init : PySem.W.findIn K (.ref C) "__init__" = some (some (.builtin "object.__init__"))
 kp : PySem.W.keepIn K (.ref C) = true
section
variable {X : Cx}
end
structure DefM (K : PySem.W.Frag) (C : Addr) (x qual : Str) (st : Stmt) (ps : List Str) : Prop where
 ex : ∃ (f : Addr) (fd : FuncData), Fun K x qual st f fd ∧ (∀ us : List Value, us.length = ps.length → bindArgs fd ⟨us, []⟩ = pure (ps.zip us)) ∧ Meth K C x f ∧ Cls K C
structure CalleeM (P : Program) (w : World) (K : PySem.W.Frag) (mg : Str → Option Value) (base : Heap) (k : Nat) (C : Addr) (x : Str) (ps : List Str) (sp : Sp) : Prop where
 ex : ∃ (f : Addr) (fd : FuncData), FnOk P w K mg base CX0 k f fd ps sp ∧ Binds K fd ps [] ∧ Meth K C x f ∧ Cls K C
section
variable {P : Program} {w : World} {K : PySem.W.Frag} {mg : Str → Option Value} {base : Heap}
end
def subSt (st : Stmt) (j : Nat) : Stmt := match st with
 | .ClassDef _ _ _ b _ _ _ _ _ _ _ => b.getD j (.Pass ⟨0, 0, 0, 0⟩)
 | _ => .Pass ⟨0, 0, 0, 0⟩
end My
namespace My
open PySem PySem.Spec PySem.W PySem.Calls
open PyProof.Rows hiding St
def PairO (h : Heap) (a : Addr) (k : Int × Bool) : Prop := ∃ o t n, h.get? a = some o ∧ o.cls = .type "tuple" ∧ o.data = .seq #[.int k.1 t, .bool k.2] n
section
variable {prog : Program} {w : World} {A : Around} {E : Value → Shared → Prop} {s : Shared}
end
end My
namespace My
open PySem PySem.Spec PySem.W PySem.Calls L2
open PyProof.Rows hiding St
def pairD (p : Int × Bool) : PyData := .tuple [.int p.1, .bool p.2]
theorem has_pair {K : PySem.W.Frag} {H : Hp} {a : Addr} {n : Int} {b : Bool} (h : SqT K H a [.int n, .bl b]) : Has K H (.ref a) (pairD (n, b)) := by
 unfold pairD Has
 refine ⟨a, _, rfl, h, ?_⟩
 unfold HasL
 refine ⟨_, _, rfl, by unfold Has; rfl, ?_⟩
 unfold HasL
 refine ⟨_, _, rfl, by unfold Has; rfl, ?_⟩
 simp [HasL]
theorem shaped_pair (p : Int × Bool) : SeqAt.shaped (pairD p) = true := by
 unfold SeqAt.shaped pairD
 simp [PyData.canLay0, PyData.canLayAll0, PyData.depth, PyData.depthAll]
theorem eqv_pair (p q : Int × Bool) : PyData.eqv (pairD p) (pairD q) = decide (p = q) := by
 obtain ⟨a, u⟩ := p
 obtain ⟨b, v⟩ := q
 unfold pairD
 simp only [PyData.eqv, PyData.eqvAll, Bool.and_true]
 by_cases e : a = b
 ·subst e
  cases u <;> cases v <;> simp
 ·simp [e]
end My
namespace My
open PySem PySem.Spec PySem.W PySem.Calls L2
open PyProof.Rows hiding St
section
variable {X : Cx}
def tLR (ta : TA) : TE := fun σ H Q => ta σ H (on1 (onInt fun j H1 => (0 ≤ j ∧ j ≤ 1000) ∧ New H1 (.lst ((List.range j.toNat).map fun n => V.int ((n : Nat) : Int))) Q))
theorem vals_range {us : List Value} {n : Nat} (hl : us.length = n) (h : ∀ (i : Nat) v, us[i]? = some v → ∃ t, v = Value.int (i : Int) t) : Vals ((List.range n).map fun n => V.int ((n : Nat) : Int)) us := by
 induction n generalizing us with
 | zero =>
  rw [List.length_eq_zero_iff.mp hl]
  exact .nil
 | succ n ih =>
  rw [List.range_succ, List.map_append]
  obtain ⟨vs, v, rfl⟩ : ∃ vs v, us = vs ++ [v] := ⟨us.dropLast, us.getLast (by intro z; rw [z] at hl; simp at hl), (List.dropLast_concat_getLast _).symm⟩
  have hvl : vs.length = n := by simpa using hl
  refine (ih hvl fun i u hu => h i u ?_).append (.cons ?_ .nil)
  ·rw [List.getElem?_append_left (List.getElem?_eq_some_iff.mp hu).1]
   exact hu
  ·have := h n v (by rw [List.getElem?_append_right (by omega), hvl, Nat.sub_self]; rfl)
   exact this
theorem m_listRange {a : Expr} {ta : TA} {p1 p2 pos1 pos2 : Pos} (hc : X.calm = true) (g1 : Gl X "list") (m1 : X.mg "list" = none) (g2 : Gl X "range") (m2 : X.mg "range" = none) (ha : PA X [a] ta)
  (hs : starEach [a] X.env = [(false, eval a X.env)] := by rfl)
  (he1 : starEach [.Call (.Name "range" p2) [a] [] pos2] X.env = [(false, eval (.Call (.Name "range" p2) [a] [] pos2) X.env)] := by rfl) :
  PE X (.Call (.Name "list" p1) [.Call (.Name "range" p2) [a] [] pos2] [] pos1) (tLR ta) := by
 intro pins s σ H Q I h
 refine Call_ (ld_blt I g1 m1 bt_list (PyProof.Rows.callWith_type1 ?_ he1 rfl))
 rw [he1]
 refine (show wpAny _ _ (spliced ((false, eval (.Call (.Name "range" p2) [a] [] pos2) X.env) :: [])) _ _ s from Calls.spliced_cons ?_)
 refine Call_ (ld_blt I g2 m2 boot_range (PyProof.Rows.callWith_type1 (thn (ha pos2 pins s σ H _ I h) fun us s1 ⟨vs, H1, I1, r1, q1⟩ => ?_) hs rfl))
 rcases vs with _ | ⟨x, _ | ⟨y, rr⟩⟩
 ·exact (show False from q1).elim
 ·cases x with
  | int j =>
   obtain ⟨⟨q0, q2⟩, q⟩ := (show (0 ≤ j ∧ j ≤ 1000) ∧ New H1 (.lst ((List.range j.toNat).map fun n => V.int ((n : Nat) : Int))) Q from q1)
   cases r1 with
   | cons r rr =>
    cases rr
    obtain ⟨t, rfl⟩ := r
    refine call_range_1 ?_
    refine Calls.spliced_nil ?_
    have I2 : Inv X pins σ H1 { s1 with heap := s1.heap.push { cls := .type "range", data := .fields #[.int 0 s1.toks, .int j t, .int 1 (s1.toks + 1)] }, toks := s1.toks + 1 + 1 } := I1.kept fun b o e => Heap.get?_push_of_some _ e
    have hn : Builtin.Range.rangeSize 0 j 1 = ((j.toNat : Nat) : Int) := by
     rw [rangeSize_one]
     split <;> omega
    refine call_list_range (I2.ok.hd hc) (IsRange.new ..) (small_one (by decide) (by decide) (by omega) (by omega)) hn (by omega) fun h' tk acc' c' kp e hacc => ?_
    have hv : Vals ((List.range j.toNat).map fun n => V.int ((n : Nat) : Int)) acc'.toList := by
     refine vals_range (by simpa using hacc.1) fun i v hv => ?_
     obtain ⟨t, e⟩ := hacc.2 i v (by rw [← Array.getElem?_toList]; exact hv)
     refine ⟨t, ?_⟩
     rw [e]
     congr 1
     omega
    have hsz : ((List.range j.toNat).map fun n => V.int ((n : Nat) : Int)).length ≤ sizeLine := by
     rw [List.length_map, List.length_range, sizeLine_eq]
     omega
    exact ⟨.ref _, _, I2.laid (t' := tk) kp (Nat.le_refl _) (show ObjOk X.prog X.w _ h' _ (.lst _) from ⟨hsz, acc'.toList, c', hv, by simpa using e⟩), rfl, New.at q _ (I2.hok.fresh (Nat.le_refl _))⟩
  | _ => exact (show False from q1).elim
 ·exact (show False from q1).elim
def mPopI : V → List V → Hp → VK → Prop := fun x vs H Q => match x, vs with
 | .ref l, [.int i] => ∃ xs y, ∃ k : Nat, H l = some (.lst xs) ∧ i = (k : Int) ∧ k < 1000 ∧ xs[k]? = some y ∧ Q y (upd H l (.lst (xs.eraseIdx k)))
 | _, _ => False
theorem q_popi {l : Addr} {i : Int} {H : Hp} {Q : VK} : mPopI (.ref l) [.int i] H Q = ∃ xs y, ∃ k : Nat, H l = some (.lst xs) ∧ i = (k : Int) ∧ k < 1000 ∧ xs[k]? = some y ∧ Q y (upd H l (.lst (xs.eraseIdx k))) := rfl
end
end My
namespace My
open PySem
theorem len1 {us : List Value} (h : us.length = 1) : ∃ a, us = [a] := by
 cases us with
 | nil => cases h
 | cons a us => exact ⟨a, by rw [List.length_eq_zero_iff.mp (Nat.succ.inj h)]⟩
theorem len2 {us : List Value} (h : us.length = 2) : ∃ a b, us = [a, b] := by
 cases us with
 | nil => cases h
 | cons a us => obtain ⟨b, e⟩ := len1 (Nat.succ.inj h); exact ⟨a, b, by rw [e]⟩
theorem len3 {us : List Value} (h : us.length = 3) : ∃ a b c, us = [a, b, c] := by
 cases us with
 | nil => cases h
 | cons a us => obtain ⟨b, c, e⟩ := len2 (Nat.succ.inj h); exact ⟨a, b, c, by rw [e]⟩
theorem len4 {us : List Value} (h : us.length = 4) : ∃ a b c d, us = [a, b, c, d] := by
 cases us with
 | nil => cases h
 | cons a us => obtain ⟨b, c, d, e⟩ := len3 (Nat.succ.inj h); exact ⟨a, b, c, d, by rw [e]⟩
theorem len5 {us : List Value} (h : us.length = 5) : ∃ a b c d f, us = [a, b, c, d, f] := by
 cases us with
 | nil => cases h
 | cons a us => obtain ⟨b, c, d, f, e⟩ := len4 (Nat.succ.inj h); exact ⟨a, b, c, d, f, by rw [e]⟩
end My
namespace My
open PySem PySem.Spec PySem.W PySem.Calls L2
open PyProof.Rows hiding St
section
variable {X : Cx}
def PartsAt (K : PySem.W.Frag) (H : Hp) (T : List (Addr × List (Nat × Bool))) : Prop := ∀ t ∈ T, ∃ us, SqT K H t.1 us ∧ PairsAt K H us t.2
theorem pairO_of {pins : List (Addr × Obj)} {σ : St} {H : Hp} {s : Shared} (I : Inv X pins σ H s) {a : Addr} {n : Int} {b : Bool} (h : SqT X.K H a [.int n, .bl b]) : PairO s.heap a (n, b) := by
 obtain ⟨its, rv, ⟨o, e, hc, m, d⟩, _⟩ := I.tuple h
 cases rv with
 | cons r1 r2 =>
  cases r2 with
  | cons r3 r4 =>
   cases r4
   obtain ⟨t, rfl⟩ := r1
   cases r3
   exact ⟨o, t, m, e, hc, d⟩
end
end My
namespace My
open PySem PySem.Spec PySem.W PySem.Calls L2
open PyProof.Rows hiding St
theorem PairsAt.list {K : PySem.W.Frag} {H : Hp} : ∀ {us : List V} {ps : List (Nat × Bool)}, PairsAt K H us ps → ∃ R : List (Addr × (Nat × Bool)), us = (R.map fun r => V.ref r.1) ∧ ps = R.map (·.2) ∧ ∀ r ∈ R, SqT K H r.1 [.int (r.2.1 : Int), .bl r.2.2]
 | [], [], _ => ⟨[], rfl, rfl, fun r hr => by simp at hr⟩
 | v :: us, p :: ps, ⟨⟨b, e, h⟩, r⟩ => by
  obtain ⟨R, e1, e2, h2⟩ := PairsAt.list r
  refine ⟨(b, p) :: R, by rw [e, e1]; rfl, by rw [e2]; rfl, fun q hq => ?_⟩
  rcases List.mem_cons.mp hq with rfl | hq
  ·exact h
  ·exact h2 q hq
 | [], _ :: _, h => h.elim
 | _ :: _, [], h => h.elim
section
variable {X : Cx}
theorem pair_same (a b : Nat × Bool) : ((List.range (min 2 2)).all (fun j => if j = 0 then (a.1 : Int) == (b.1 : Int) else a.2 == b.2) && 2 == 2) = (a == b) := by
 obtain ⟨a1, a2⟩ := a
 obtain ⟨b1, b2⟩ := b
 rw [show (List.range (min 2 2)) = [0, 1] from rfl]
 have h1 : ((a1 : Int) == (b1 : Int)) = (a1 == b1) := by
  rw [Bool.eq_iff_iff, beq_iff_eq, beq_iff_eq]
  omega
 simp only [List.all_cons, List.all_nil, if_true, Bool.and_true, beq_self_eq_true, show ¬ (1 : Nat) = 0 by decide, if_false]
 rw [h1]
 rfl
theorem pair_inj {a b : Nat × Bool} (h : ([.int (a.1 : Int), .bl a.2] : List V) = [.int (b.1 : Int), .bl b.2]) : a = b := by
 simp only [List.cons.injEq, and_true] at h
 obtain ⟨h1, h2⟩ := h
 exact Prod.ext (Int.ofNat.inj (V.int.inj h1)) (V.bl.inj h2)
theorem pair_eqAtX {pins : List (Addr × Obj)} {σ : St} {H : Hp} {s : Shared} (I : Inv X pins σ H s) {A : Around} (hu : A.units < cLine) {x y : Addr} {a b : Nat × Bool} (hx : SqT X.K H x [.int (a.1 : Int), .bl a.2]) (hy : SqT X.K H y [.int (b.1 : Int), .bl b.2]) : SeqAt.EqAt A s (.ref x) (.ref y) (a == b) := by
 by_cases e : x = y
 ·subst e
  have : a = b := pair_inj (I.tuple_inj hx hy)
  subst this
  rw [beq_self_eq_true]
  exact SeqAt.EqAt.same _
 ·obtain ⟨ox, tx, nx, e1, c1, d1⟩ := pairO_of I hx
  obtain ⟨oy, ty, ny, e2, c2, d2⟩ := pairO_of I hy
  have := SeqAt.EqAt.of_refs e (SeqAt.RcAt.tuples (A := A) (s := s) (e := fun j => if j = 0 then (a.1 : Int) == (b.1 : Int) else a.2 == b.2) (items := #[.int (a.1 : Int) tx, .bool a.2]) (items2 := #[.int (b.1 : Int) ty, .bool b.2]) ⟨ox, e1, c1, nx, d1⟩ ⟨oy, e2, c2, ny, d2⟩ hu fun j h1 h2 => by
   have h1' : j < 2 := h1
   match j, h1' with
   | 0, _ => exact SeqAt.EqAt.int_int _ _ _ _
   | 1, _ => exact SeqAt.EqAt.bool_bool _ _)
  rw [← pair_same]
  exact this
def atP (R : List (Addr × (Nat × Bool))) (p : Nat × Bool) : Value → Bool
 | .ref b => R.any fun r => r.1 == b && r.2 == p
 | _ => false
theorem atP_eq {pins : List (Addr × Obj)} {σ : St} {H : Hp} {s : Shared} (I : Inv X pins σ H s) {R : List (Addr × (Nat × Bool))} (hR : ∀ r ∈ R, SqT X.K H r.1 [.int (r.2.1 : Int), .bl r.2.2]) (p : Nat × Bool) {r : Addr × (Nat × Bool)} (hr : r ∈ R) : atP R p (.ref r.1) = (r.2 == p) := by
 rw [Bool.eq_iff_iff]
 unfold atP
 rw [List.any_eq_true]
 constructor
 ·rintro ⟨q, hq, e⟩
  rw [Bool.and_eq_true, beq_iff_eq] at e
  have h1 := hR q hq
  rw [e.1] at h1
  have : q.2 = r.2 := pair_inj (I.tuple_inj h1 (hR r hr))
  rw [← this]
  exact e.2
 ·intro e
  exact ⟨r, hr, by rw [Bool.and_eq_true]; exact ⟨beq_self_eq_true _, e⟩⟩
end
end My
namespace My
open PySem PySem.Spec PySem.W PySem.Calls L2
open PyProof.Rows hiding St
def cd (p : Nat × Bool) : Nat := 2 * p.1 + (if p.2 = true then 1 else 0) + 1
def Sml (ps : List (Nat × Bool)) : Prop := ∀ p ∈ ps, p.1 < 6
section
variable {prog : Program} {w : World} {A : Around} {E : Value → Shared → Prop} {s : Shared}
def pI (p : Nat × Bool) : Int × Bool := ((p.1 : Int), p.2)
theorem pI_inj {p q : Nat × Bool} (h : pI p = pI q) : p = q := by
 obtain ⟨n, b⟩ := p
 obtain ⟨m, c⟩ := q
 unfold pI at h
 obtain ⟨h1, h2⟩ := Prod.mk.inj h
 simp only at h1 h2
 rw [h2, show n = m by omega]
def PairsX (h : Heap) : List Value → List (Nat × Bool) → Prop
 | [], ps => ps = []
 | v :: vs, ps => ∃ b p qs, v = .ref b ∧ ps = p :: qs ∧ PairO h b (pI p) ∧ PairsX h vs qs
def PartX (h : Heap) (a : Addr) (ps : List (Nat × Bool)) : Prop := ∃ o vs n, h.get? a = some o ∧ o.cls = .type "tuple" ∧ o.data = .seq vs n ∧ PairsX h vs.toList ps
end
end My
namespace My
open PySem PySem.Spec PySem.W PySem.Calls L2
open PyProof.Rows hiding St
open Tb
theorem ints_at : ∀ {vs : List Value} {ns : List Int}, IntsAre vs ns → ∀ (i : Nat) (v : Value), vs[i]? = some v → ∃ x t, ns[i]? = some x ∧ v = .int x t
 | _, _, .nil, i, v, h => by simp at h
 | _, _, .cons x t r, 0, v, h => ⟨x, t, rfl, by simpa using h.symm⟩
 | _, _, .cons x t r, i + 1, v, h => by
  obtain ⟨y, u, h1, h2⟩ := ints_at r i v (by simpa using h)
  exact ⟨y, u, by simpa using h1, h2⟩
section
variable {prog : Program} {w : World} {A : Around} {E : Value → Shared → Prop} {s : Shared}
def UpT (t : SetTable) : Prop := t.dummies = #[] ∧ (t.plain = true → t.place.toList.Pairwise (· < ·))
theorem no_dummy {t : SetTable} (h : t.dummies = #[]) (j : Nat) : t.slot j ≠ .dummy := by
 unfold SetTable.slot
 dsimp only
 split
 ·exact fun z => by cases z
 ·rw [h]
  have : SetTable.has #[] j = false := by simp [SetTable.has]
  rw [this]
  simp
theorem probe_dm {t : SetTable} (h : t.dummies = #[]) (ha : Nat → Int) (x : Int) : ∀ (f : Nat) (p : SetTable.Probe) (j : Nat) (d : Option Nat), p.dummy = none → SetTable.probe.go t ha x f p = some (.empty j d) → t.slot j = .empty ∧ d = none
 | 0, p, j, d, _, e => by simp [SetTable.probe.go] at e
 | f + 1, p, j, d, hp, e => by
  rw [SetTable.probe.go] at e
  cases hs : t.slot p.j with
  | empty =>
   rw [hs] at e
   simp only [Option.some.injEq, SetTable.Met.empty.injEq] at e
   obtain ⟨rfl, rfl⟩ := e
   exact ⟨hs, hp⟩
  | dummy => exact (no_dummy h p.j hs).elim
  | live i =>
   rw [hs] at e
   simp only at e
   have hadv : (t.advance p).dummy = none := by
    unfold SetTable.advance
    split
    ·exact hp
    ·exact hp
   split at e
   ·cases e
   ·exact probe_dm h ha x f _ j d hadv e
theorem empty_out {t : SetTable} {j : Nat} (h : t.slot j = .empty) (hr : t.place.toList.Pairwise (· < ·)) : j ∉ t.place.toList := fun hj => by
 have := below_mem hr hj
 unfold SetTable.slot at h
 dsimp only at h
 rw [Array.getElem?_toList, Array.toArray_toList] at this
 rw [this] at h
 simp at h
theorem UpT.stand (t : SetTable) (n : Nat) : UpT (t.standIn n) := ⟨rfl, fun z => by cases z⟩
theorem layNew_up {t : SetTable} (u : UpT t) (es : Array (Int × Value)) (h : Int) (x : Value) : UpT (layNew t es h x).2.1 := by
 unfold layNew
 cases hf : t.freeSlot h with
 | none => exact UpT.stand _ _
 | some sl =>
  obtain ⟨slot, wd⟩ := sl
  dsimp only
  unfold SetTable.orStandIn
  split
  ·unfold SetTable.freeSlot at hf
   cases hp : t.probe (fun _ => h + 1) h (t.probeStart h) with
   | none => rw [hp] at hf; cases hf
   | some m =>
    rw [hp] at hf
    cases m with
    | candidate a b c => cases hf
    | empty j d =>
     obtain ⟨h1, h2⟩ := probe_dm u.1 _ _ _ _ j d rfl hp
     subst h2
     simp only [Option.getD_none, Option.some.injEq, Prod.mk.injEq] at hf
     obtain ⟨rfl, _⟩ := hf
     refine ⟨?_, fun hpl => ?_⟩
     ·unfold SetTable.put
      dsimp only
      rw [u.1]
      have : SetTable.has #[] j = false := by simp [SetTable.has]
      rw [this]
      rfl
     ·have hr := u.2 hpl
      unfold SetTable.put
      dsimp only
      have e := insertAt_list t.place.toList (SetTable.below t.place j) j
      rw [Array.toArray_toList] at e
      rw [e]
      have := up_insert hr (empty_out h1 hr)
      rwa [Array.toArray_toList] at this
  ·exact UpT.stand _ _
theorem relayAll_up (t : SetTable) (es : Array (Int × Value)) (n : Nat) : UpT (relayAll t es n).2.1 := by
 unfold relayAll
 cases hr : t.relaid (es.map (·.1)) n with
 | none => exact UpT.stand _ _
 | some q =>
  obtain ⟨t', o⟩ := q
  dsimp only
  split
  ·unfold SetTable.relaid SetTable.laid at hr
   cases hl : SetTable.layClean (SetTable.sizeAbove n - 1) (es.map (·.1)) with
   | none => rw [hl] at hr; cases hr
   | some ow =>
    rw [hl] at hr
    have hr := Option.some.inj hr
    have e := (Prod.mk.inj hr).1
    rw [← e]
    exact ⟨rfl, fun _ => lv_up (SetTable.sizeAbove n - 1) ow⟩
  ·exact UpT.stand _ _
structure GoodI (Es : List (Int × Value)) (D : List Int) : Prop where
 in1 : ∀ e ∈ Es, ∃ x t, x ∈ D ∧ e = (hashInt x, .int x t)
 in2 : ∀ x ∈ D, ∃ t, (hashInt x, .int x t) ∈ Es
 one : Es.Pairwise fun e e' => ∀ x t t', e.2 = .int x t → e'.2 ≠ .int x t'
theorem GoodI.perm {Es Es' : List (Int × Value)} {D : List Int} (g : GoodI Es D) (p : Es'.Perm Es) : GoodI Es' D :=
 ⟨fun e he => g.in1 e (p.mem_iff.mp he), fun x hx => let ⟨t, h⟩ := g.in2 x hx; ⟨t, p.mem_iff.mpr h⟩, (p.pairwise_iff (fun {a b} hab x t t' h1 h2 => hab x t' t h2 h1)).mpr g.one⟩
theorem GoodI.elems {Es : List (Int × Value)} {D : List Int} (g : GoodI Es D) : ElemsOf (PySem.intKind prog w) Es := fun e he => by
 obtain ⟨x, t, _, rfl⟩ := g.in1 e he
 exact ⟨⟨x, by show Value.isInt x (.int x t) = true; simp [Value.isInt], rfl⟩, rfl⟩
theorem add_int {S : Addr} {ep : Nat} {es : Array (Int × Value)} {t : SetTable} {D : List Int} {x : Int} {tok : Tok} (hS : s.heap.get? S = some (setObj es ep t)) (hf : t.fits es.size = true) (g : GoodI es.toList D) (hb : es.size + 1 < scanBound) (hpl : UpT t) {Q : Bool → Shared → Prop}
  (q : ∀ (b : Bool) (h' : Heap) (tk : Nat) (es' : Array (Int × Value)) (ep' : Nat) (t' : SetTable), h'.get? S = some (setObj es' ep' t') → Heap.SameBut S s.heap h' → t'.fits es'.size = true → t'.led = t.led → UpT t' → GoodI es'.toList (D ++ [x]) → es'.size ≤ es.size + 1 → Q b { s with heap := h', toks := tk }) :
  wpAny (model prog w) A (setAdd S (.int x tok)) Q E s := by
 have hkey : (PySem.intKind prog w).is x (.int x tok) = true := by show Value.isInt x (.int x tok) = true; simp [Value.isInt]
 unfold setAdd
 refine wpAny_holding (wpAny_bind ((PySem.intKind prog w).pyHash hkey ?_))
 have hS1 : ({ s with toks := s.toks + 1 } : Shared).heap.get? S = some (setObj es ep t) := hS
 unfold setAddHashed setAddHashedIn
 refine wpAny_holding (wpAny_bind (wpAny_setState_of hS1 rfl hf ?_))
 dsimp only
 rw [byScan_of (knd := PySem.intKind prog w) rfl (by omega) g.elems]
 simp only [if_true]
 unfold setAddByScan
 refine wpAny_bind (wpAny_bind (wpAny_rule (wpAny_bind (wpAny_setScan_of (knd := PySem.intKind prog w) hkey hS1 rfl hf g.elems ?_))))
 cases hr : List.findIdx? (fun e => (PySem.intKind prog w).is x e.2) es.toList with
 | some j =>
  dsimp only
  obtain ⟨hj, hpj, _⟩ := List.findIdx?_eq_some_iff_getElem.mp hr
  refine wpAny_pure (wpAny_pure (q false s.heap _ es ep t hS (Heap.SameBut.refl S s.heap) hf rfl hpl ⟨fun e he => ?_, fun y hy => ?_, g.one⟩ (Nat.le_succ _)))
  ·obtain ⟨y, t', h1, h2⟩ := g.in1 e he
   exact ⟨y, t', List.mem_append_left _ h1, h2⟩
  ·rcases List.mem_append.mp hy with hy | hy
   ·exact g.in2 y hy
   ·rw [List.mem_singleton.mp hy]
    have hm := List.getElem_mem hj
    obtain ⟨y', t', _, e⟩ := g.in1 _ hm
    rw [e] at hpj
    have : y' = x := by
     have h5 : Value.isInt x (.int y' t') = true := hpj
     simpa [Value.isInt] using h5
    subst this
    exact ⟨t', by rw [← e]; exact hm⟩
 | none =>
  dsimp only
  have hno : ∀ e ∈ es.toList, ∀ t', e.2 ≠ .int x t' := fun e he t' z => by
   have := List.findIdx?_eq_none_iff.mp hr e he
   rw [z] at this
   have h5 : Value.isInt x (.int x t') = false := this
   simp [Value.isInt] at h5
  have hperm := layNew_perm t es (hashInt x) (.int x tok)
  have hfits := layNew_fits t es (hashInt x) (.int x tok)
  have hled := layNew_led t es (hashInt x) (.int x tok)
  have hupn := layNew_up hpl es (hashInt x) (.int x tok)
  have hh : (PySem.intKind prog w).hash x = hashInt x := rfl
  rw [hh]
  generalize hL : layNew t es (hashInt x) (.int x tok) = L at hperm hfits hled hupn ⊢
  obtain ⟨es1, t1, wasDummy, gave⟩ := L
  dsimp only at hperm hfits hled hupn ⊢
  rw [Array.toList_push] at hperm
  have hsz : es1.size = es.size + 1 := by
   have := hperm.length_eq
   simpa using this
  have good : GoodI es1.toList (D ++ [x]) := by
   refine GoodI.perm (Es := (hashInt x, Value.int x tok) :: es.toList) ⟨fun e he => ?_, fun y hy => ?_, List.pairwise_cons.mpr ⟨fun e he y t1 t2 h1 h2 => ?_, g.one⟩⟩ (hperm.trans (List.perm_append_singleton _ _))
   ·rcases List.mem_cons.mp he with rfl | he
    ·exact ⟨x, tok, List.mem_append_right _ (List.mem_singleton.mpr rfl), rfl⟩
    ·obtain ⟨y, t', h1, h2⟩ := g.in1 e he
     exact ⟨y, t', List.mem_append_left _ h1, h2⟩
   ·rcases List.mem_append.mp hy with hy | hy
    ·obtain ⟨t', h⟩ := g.in2 y hy
     exact ⟨t', List.mem_cons_of_mem _ h⟩
    ·rw [List.mem_singleton.mp hy]
     exact ⟨tok, List.mem_cons_self⟩
   ·cases h1
    exact hno e he t2 h2
  have hgw : ∀ (b : Bool) (s₁ : Shared) (Q' : Unit → Shared → Prop), Q' () s₁ → wpAny (model prog w) A (match b with | true => rule "set.scan.the-table-gave-way" | false => pure ()) Q' E s₁ := fun b s₁ Q' hq => by
   cases b
   ·exact wpAny_pure hq
   ·exact wpAny_rule hq
  have tail : ∀ t2 : SetTable, t2.fits es1.size = true → t2.led = t.led → UpT t2 → ∀ (R : Option Bool → Shared → Prop), (∀ h' es' ep' t', h'.get? S = some (setObj es' ep' t') → Heap.SameBut S s.heap h' → t'.fits es'.size = true → t'.led = t.led → UpT t' → es'.toList.Perm es1.toList → R (some true) { s with heap := h', toks := s.toks + 1 }) →
    wpAny (model prog w) A (do
     storeSet S es1 t2
     if (!wasDummy && t2.tooFull) = true then do
      (match (relayAll t2 es1 (SetTable.grown es1.size)).2.2 with | true => rule "set.scan.the-table-gave-way" | false => pure ())
      storeSet S (relayAll t2 es1 (SetTable.grown es1.size)).1 (relayAll t2 es1 (SetTable.grown es1.size)).2.1
      pure (some true)
     else pure (some true)) R E { s with toks := s.toks + 1 } := by
   intro t2 f2 l2 p2 R hR
   refine wpAny_bind (store_set hS1 (fits_of_scanBound (by rw [hsz]; exact hb)) fun h1 hS2 sb1 => ?_)
   split
   ·have hp2 := relayAll_perm t2 es1 (SetTable.grown es1.size)
    have hf2 := relayAll_fits t2 es1 (SetTable.grown es1.size)
    have hl2 := (relayAll_led t2 es1 (SetTable.grown es1.size)).1
    have hsz2 : (relayAll t2 es1 (SetTable.grown es1.size)).1.size = es1.size := by
     have := hp2.length_eq
     simpa using this
    refine wpAny_bind (hgw _ _ _ (wpAny_bind (store_set (s := { s with heap := h1, toks := s.toks + 1 }) hS2 (fits_of_scanBound (by rw [hsz2, hsz]; exact hb)) fun h2 hS3 sb2 => wpAny_pure ?_)))
    exact hR h2 _ _ _ hS3 (sb1.trans sb2) hf2 (hl2.trans l2) (relayAll_up _ _ _) hp2
   ·exact wpAny_pure (hR h1 es1 _ t2 hS2 sb1 f2 l2 p2 .rfl)
  have fin : ∀ h' es' ep' t', h'.get? S = some (setObj es' ep' t') → Heap.SameBut S s.heap h' → t'.fits es'.size = true → t'.led = t.led → UpT t' → es'.toList.Perm es1.toList → Q true { s with heap := h', toks := s.toks + 1 } := fun h' es' ep' t' e1 e2 e3 e4 e5 e6 => by
   refine q true h' _ es' ep' t' e1 e2 e3 e4 e5 (good.perm e6) ?_
   have := e6.length_eq
   simp at this
   omega
  refine wpAny_bind (hgw _ _ _ ?_)
  split
  ·rw [hashByValue_scannable 8 (x := .int x tok) rfl]
   refine wpAny_bind (wpAny_pure ?_)
   simp only [plainKind, if_true]
   exact tail t1 hfits hled hupn _ fun h' es' ep' t' e1 e2 e3 e4 e5 e6 => wpAny_pure (fin h' es' ep' t' e1 e2 e3 e4 e5 e6)
  ·rename_i hp1
   refine wpAny_bind (wpAny_pure ?_)
   simp only [if_true]
   exact tail t1 hfits hled hupn _ fun h' es' ep' t' e1 e2 e3 e4 e5 e6 => wpAny_pure (fin h' es' ep' t' e1 e2 e3 e4 e5 e6)
end
section
variable {X : Cx}
theorem ss_ints (hc : X.calm = true) {pins : List (Addr × Obj)} {σ : St} {H : Hp} {s : Shared} (I : Inv X pins σ H s) {p : Addr} {ss : List Int} {Q : VK} (hq : SqL X.K H p (ss.map V.int) ∨ SqT X.K H p (ss.map V.int)) (hlen : ss.length + 1 < scanBound) (h64 : ∀ ss' : List Int, ss'.Nodup → (∀ x ∈ ss', x ∈ ss) → ss'.length < 64)
  (q : ∀ ss' : List Int, ss'.Nodup → (∀ x, x ∈ ss' ↔ x ∈ ss) → ss'.Pairwise (· ≤ ·) → New H (.lst (ss'.map V.int)) Q) :
  wpAny (model X.prog X.w) X.A (call (.type "set") [.ref p]) (fun u s' => wpAny (model X.prog X.w) X.A (call (.builtin "sorted") [u]) (EP X pins σ Q) X.xe s') X.xe s := by
 obtain ⟨its, rv, pl⟩ : ∃ its : List Value, Vals (ss.map V.int) its ∧ (s.heap.IsList p its.toArray ∨ s.heap.IsTuple p its.toArray) := by
  rcases hq with hq | hq
  ·obtain ⟨its, rv, pl, _⟩ := I.list hq
   exact ⟨its, rv, .inl pl.isList⟩
  ·obtain ⟨its, rv, pl, _⟩ := I.tuple hq
   exact ⟨its, rv, .inr pl⟩
 have hst := intsAre_of rv
 have hil : its.length = ss.length := by rw [← rv.length, List.length_map]
 have hh : X.A.handled = none := I.ok.hd hc
 refine set_of hh pl (fun i h => ∃ es ep t, h.get? s.heap.objs.size = some (setObj es ep t) ∧ t.fits es.size = true ∧ t.led = !byT X.w ∧ UpT t ∧ GoodI es.toList (ss.take i) ∧ es.size ≤ i) ?_ ?_ ?_ ?_
 ·rintro i h h' ⟨es, ep, t, e, r⟩ k
  exact ⟨es, ep, t, k _ _ (Nat.ne_of_lt (Nat.lt_succ_self _)) e, r⟩
 ·refine ⟨#[], 0, _, Heap.get?_push_size _ rfl, rfl, rfl, ⟨rfl, fun _ => .nil⟩, ⟨fun e he => by simp at he, fun x hx => by simp at hx, .nil⟩, Nat.le_refl _⟩
 ·rintro i v A' s' Q' E' hu hv ⟨es, ep, t, e, f, l, pn, g, le⟩ qq
  have hv' : its[i]? = some v := by simpa using hv
  obtain ⟨x, tok, hx, rfl⟩ := ints_at hst i v hv'
  have hi : i < ss.length := (List.getElem?_eq_some_iff.mp hx).1
  refine add_int e f g (by omega) pn fun b h' tk es' ep' t' e' sb f' l' pn' g' le' => qq b h' tk sb ⟨es', ep', t', e', f', l'.trans l, pn', ?_, by omega⟩
  rw [List.take_add_one, hx]
  exact g'
 ·rintro h' tk ⟨es, ep, t, e, f, l, pn, g, le⟩ keep
  have hits : its.toArray.size = ss.length := by rw [List.size_toArray, hil]
  rw [hits, List.take_length] at g
  rw [hits] at le
  have hup := pn.2
  have hzl : es.size ≤ sizeLine := fits_of_scanBound (by omega)
  refine sorted_set (s := { s with heap := h', toks := tk }) hh e f l hup hzl fun D h2 d tk2 ws hp keep2 hD eD => ?_
  have hws : ∀ v, v ∈ ws → ∃ x t, v = .int x t := fun v hv => by
   obtain ⟨e1, he1, rfl⟩ := List.mem_map.mp (hp.mem_iff.mp hv)
   obtain ⟨x, t, _, rfl⟩ := g.in1 e1 he1
   exact ⟨x, t, rfl⟩
  have hS := intsAre_map ws hws
  have hmem : ∀ x, x ∈ ws.map numOf ↔ x ∈ ss := fun x => by
   constructor
   ·intro hx
    obtain ⟨v, hv, rfl⟩ := List.mem_map.mp hx
    obtain ⟨e1, he1, rfl⟩ := List.mem_map.mp (hp.mem_iff.mp hv)
    obtain ⟨y, t, hy, rfl⟩ := g.in1 e1 he1
    exact hy
   ·intro hx
    obtain ⟨t, ht⟩ := g.in2 x hx
    exact List.mem_map.mpr ⟨.int x t, hp.mem_iff.mpr (List.mem_map.mpr ⟨_, ht, rfl⟩), rfl⟩
  have hnd : (ws.map numOf).Nodup := by
   have h1 : (es.toList.map (·.2)).Pairwise fun v v' => ∀ x t t', v = .int x t → v' ≠ .int x t' := List.pairwise_map.mpr g.one
   have h2 := (hp.pairwise_iff (fun {a b} hab x t t' z1 z2 => hab x t' t z2 z1)).mpr h1
   refine List.pairwise_map.mpr (List.Pairwise.imp_of_mem (fun {a b} ha hb hab => ?_) h2)
   obtain ⟨x, t, rfl⟩ := hws a ha
   obtain ⟨y, t', rfl⟩ := hws b hb
   intro z
   have z' : x = y := z
   subst z'
   exact hab x t t' rfl rfl
  have hl64 : ws.length < 64 := by
   have := h64 _ hnd fun x hx => (hmem x).mp hx
   rwa [List.length_map] at this
  refine wpAny_call_entry slot_list_sort ⟨_, eD, rfl⟩ entry_list_sort (list_sort_tree eD hS hl64 fun out ss' b1 b2 b3 => ⟨_, rfl, ?_⟩) (args_list_sort _)
  have hDs : s.heap.objs.size ≤ D := Nat.le_trans (Nat.le_of_lt (Heap.lt_size e)) hD
  obtain ⟨e2, he2⟩ := sortedHeap_at (out := out) eD
  have hn : H D = none := I.hok.fresh hDs
  refine ⟨.ref D, upd H D (.lst (ss'.map V.int)), ?_, rfl, (q ss' (b2.nodup_iff.mpr hnd) (fun x => (b2.mem_iff).trans (hmem x)) b3).at D hn⟩
  refine (inv_drew I d).laid (t' := tk2) (fun b o eb => ?_) hDs ⟨?_, out.toList, e2, vals_ints b1, by rw [Array.toArray_toList]; exact he2⟩
  ·have hbs : b < s.heap.objs.size := Heap.lt_size eb
   have eb2 := keep2 b o (keep b o eb)
   rw [sortedHeap_old (Nat.ne_of_lt (Nat.lt_of_lt_of_le hbs hDs)) (Heap.lt_size eb2)]
   exact eb2
  ·rw [List.length_map, b2.length_eq, List.length_map]
   exact Nat.le_of_lt (Nat.lt_of_lt_of_le hl64 (by decide))
def mSSI (K : PySem.W.Frag) : V → Hp → VK → Prop := fun v H Q => match v with
 | .ref p => ∃ ns : List Int, (SqL K H p (ns.map V.int) ∨ SqT K H p (ns.map V.int)) ∧ ns.length < 60 ∧ ∀ ns' : List Int, ns'.Nodup → (∀ x, x ∈ ns' ↔ x ∈ ns) → ns'.Pairwise (· ≤ ·) → New H (.lst (ns'.map V.int)) Q
 | _ => False
theorem q_ssi {K : PySem.W.Frag} {H : Hp} {Q : VK} {p : Addr} : mSSI K (.ref p) H Q = ∃ ns : List Int, (SqL K H p (ns.map V.int) ∨ SqT K H p (ns.map V.int)) ∧ ns.length < 60 ∧ ∀ ns' : List Int, ns'.Nodup → (∀ x, x ∈ ns' ↔ x ∈ ns) → ns'.Pairwise (· ≤ ·) → New H (.lst (ns'.map V.int)) Q := rfl
def tSSI (K : PySem.W.Frag) (te : TE) : TE := fun σ H Q => te σ H fun v H1 => mSSI K v H1 Q
theorem m_sortedSetI {e : Expr} {te : TE} {p1 p2 pos1 pos2 : Pos} (hc : X.calm = true) (g1 : Gl X "sorted") (m1 : X.mg "sorted" = none) (g2 : Gl X "set") (m2 : X.mg "set" = none) (ha : PE X e te)
  (he1 : starEach [.Call (.Name "set" p2) [e] [] pos2] X.env = [(false, eval (.Call (.Name "set" p2) [e] [] pos2) X.env)] := by rfl) (he2 : starEach [e] X.env = [(false, eval e X.env)] := by rfl) :
  PE X (.Call (.Name "sorted" p1) [.Call (.Name "set" p2) [e] [] pos2] [] pos1) (tSSI X.K te) := by
 intro pins s σ H Q I h
 refine wpAny_Call_Name_kw (ld_blt I g1 m1 bt_sorted (PyProof.Rows.callWith_builtin1 ?_ he1 rfl))
 rw [he1]
 refine (show wpAny _ _ (spliced ((false, eval (.Call (.Name "set" p2) [e] [] pos2) X.env) :: [])) _ _ s from Calls.spliced_cons ?_)
 refine wpAny_Call_Name_kw (ld_blt I g2 m2 bt_set (PyProof.Rows.callWith_type1 ?_ he2 rfl))
 rw [he2]
 refine (show wpAny _ _ (spliced ((false, eval e X.env) :: [])) _ _ s from Calls.spliced_cons (thn (ha pins s σ H _ I h) fun u s1 ⟨x, H1, I1, r1, q1⟩ => Calls.spliced_nil ?_))
 cases x with
 | ref a =>
  cases r1
  obtain ⟨ns, b1, b2, b3⟩ := (show ∃ ns : List Int, (SqL X.K H1 a (ns.map V.int) ∨ SqT X.K H1 a (ns.map V.int)) ∧ ns.length < 60 ∧ ∀ ns' : List Int, ns'.Nodup → (∀ x, x ∈ ns' ↔ x ∈ ns) → ns'.Pairwise (· ≤ ·) → New H1 (.lst (ns'.map V.int)) Q from q1)
  exact thn (ss_ints hc I1 b1 (Nat.lt_trans (Nat.succ_lt_succ b2) (by decide)) (fun ss' h1 h2 => Nat.lt_of_le_of_lt (nodup_len h1 h2) (by omega)) b3) fun u2 s2 h2 => Calls.spliced_nil h2
 | _ => exact (show False from q1).elim
end
end My
namespace My
open PySem PySem.Spec PySem.W PySem.Calls L2
open PyProof.Rows hiding St
section
variable {X : Cx}
def mInPL (K : PySem.W.Frag) (g : Bool → Bool) : R2 := fun x y H Q => match x, y with
 | .ref c, .ref a => ∃ (p : Nat × Bool) (us : List V) (ps : List (Nat × Bool)), SqT K H c [.int (p.1 : Int), .bl p.2] ∧ SqL K H a us ∧ PairsAt K H us ps ∧ Q (.bl (g (ps.any fun r => r == p))) H
 | _, _ => False
theorem q_inpl {K : PySem.W.Frag} {g : Bool → Bool} {c a : Addr} {H : Hp} {Q : VK} : mInPL K g (.ref c) (.ref a) H Q = ∃ (p : Nat × Bool) (us : List V) (ps : List (Nat × Bool)), SqT K H c [.int (p.1 : Int), .bl p.2] ∧ SqL K H a us ∧ PairsAt K H us ps ∧ Q (.bl (g (ps.any fun r => r == p))) H := rfl
theorem m_notinPL (hu : X.A.units + 64 < cLine) : OpR X (compareOp .NotIn) (mInPL X.K not) := by
 intro pins s σ H x y v u Q I rx ry h
 match x, y, h with
 | .ref c, .ref a, h =>
  obtain ⟨p, us, ps, hc, ha, hP, q⟩ := (show ∃ (p : Nat × Bool) (us : List V) (ps : List (Nat × Bool)), SqT X.K H c [.int (p.1 : Int), .bl p.2] ∧ SqL X.K H a us ∧ PairsAt X.K H us ps ∧ Q (.bl (!(ps.any fun r => r == p))) H from h)
  cases rx
  cases ry
  obtain ⟨R, rfl, rfl, hR⟩ := hP.list
  obtain ⟨its, rv, pt, _⟩ := I.list ha
  have e : its = (R.map (·.1)).map Value.ref := vals_refs (by rw [List.map_map]; exact rv)
  subst e
  have hany : ((R.map (·.1)).map Value.ref).toArray.any (atP R p) = ((R.map (·.2)).any fun r => r == p) := by
   rw [List.any_toArray, List.map_map, List.any_map, List.any_map, Bool.eq_iff_iff, List.any_eq_true, List.any_eq_true]
   constructor
   ·rintro ⟨r, hr, e⟩
    exact ⟨r, hr, by have e' : atP R p (.ref r.1) = true := e; rw [atP_eq I hR p hr] at e'; exact e'⟩
   ·rintro ⟨r, hr, e⟩
    exact ⟨r, hr, by show atP R p (.ref r.1) = true; rw [atP_eq I hR p hr]; exact e⟩
  refine SeqAt.notIn_listAt (atP R p) pt.isList (fun y hy => ?_) ⟨.bl _, H, I, rfl, by rw [hany]; exact q⟩
  have hy' : y ∈ (R.map (·.1)).map Value.ref := by simpa using hy
  rw [List.map_map] at hy'
  obtain ⟨r, hr, rfl⟩ := List.mem_map.mp hy'
  show SeqAt.EqAt X.A.in1 s (.ref r.1) (.ref c) (atP R p (.ref r.1))
  rw [atP_eq I hR p hr]
  exact pair_eqAtX I (show X.A.units + 1 < cLine by omega) (hR r hr) hc
end
end My
namespace My
open PySem PySem.Spec PySem.W PySem.Calls L2
open PyProof.Rows hiding St
def Fly (h : Heap) (a C : Addr) (dx : Option Addr) (fl : Option (Addr × Value)) : Prop :=
 ∃ oe vs, h.get? a = some oe ∧ oe.cls = .ref C ∧ oe.dict = dx ∧ oe.data = .fields vs ∧ match fl with
  | none => vs[1]? = some .none
  | some (T, v) => vs[1]? = some (.ref T) ∧ T ≠ a ∧ ∃ oT ts, h.get? T = some oT ∧ oT.data = .fields ts ∧ ts[3]? = some v
structure Noted (fs : List Addr) (a : Addr) (old : Option (Addr × Value)) (h h' : Heap) : Prop where
 keep : ∀ b o, h.get? b = some o → b ∉ fs → b ≠ a → (∀ T v, old = some (T, v) → b ≠ T) → h'.get? b = some o
 slot : ∀ b o, h.get? b = some o → b ∈ fs → ∃ sl, h'.get? b = some { o with slots := sl }
 there : ∀ b o, h.get? b = some o → ∃ o', h'.get? b = some o'
section
variable {M : Model} {A : Around} {E : Value → Shared → Prop} {s : Shared} {base : Heap} {env : Env} {outer : List Env} {L a C : Addr} {dx : Option Addr}
theorem mapFields_dict (o : Obj) (f : Array Value → Array Value) : (o.mapFields f).dict = o.dict := by
 obtain ⟨c, d, dt, sl⟩ := o; cases dt <;> rfl
theorem note_new {oe : Obj} {vs : Array Value} {head : Value} {hadNext : Bool} {Q : Unit → Shared → Prop} (hfr : A.frames = some (env :: outer)) (hl : s.heap.FunFrames base (env :: outer)) (hf : env.frame = some L)
  (he : s.heap.get? a = some oe) (hc : oe.cls = .ref C) (hdx : oe.dict = dx) (hd : oe.data = .fields vs) (hsz : 1 < vs.size)
  (h : ∀ h' T, s.heap.objs.size ≤ T → Noted (frs (env :: outer)) a none s.heap h' → Fly h' a C dx (some (T, rawInt L)) → Q () { s with heap := h' }) :
  wpAny M A (do let x ← frameOf env; let pl ← entryPlaceOf L hadNext; let b ← EntryCells.newEntry head x .none (rawInt L) .none pl; setField (.ref a) 1 b) Q E s := by
 have hene : a ∉ (env :: outer).filterMap (·.frame) := fun hm => by
  obtain ⟨_, o, ho, hnf⟩ := hl.mem hm
  rw [he] at ho; injection ho with ho; subst ho; exact hnf vs hd
 refine wpAny_bind (wpAny_frameOf_fun hfr hl hf fun h₁ hs₁ => ?_)
 refine wpAny_bind (wpAny_entryPlaceOf fun pl hpl => ?_)
 unfold EntryCells.newEntry newFields
 refine wpAny_bind (wpAny_newObj_type ?_ (hpl.sizeOk5 _ _ _ _ _))
 have he₁ : h₁.get? a = some oe := (hs₁.2.1 a hene).trans he
 have he₂ := Heap.get?_push_of_some (h := h₁) { cls := .type "traceback", dict := none, data := .fields ([head, .ref L, .none, rawInt L, .none] ++ (if pl.isEmpty then List.replicate 6 Value.none else pl)).toArray } he₁
 refine wpAny_setField he₂ hd hsz ?_
 have hTe : h₁.objs.size ≠ a := Nat.ne_of_gt (Heap.lt_size he₁)
 have hd₃ := Obj.data_mapFields hd (·.setIfInBounds 1 (Value.ref h₁.objs.size))
 have he₃ := Heap.get?_update_self (Obj.mapFields (·.setIfInBounds 1 (Value.ref h₁.objs.size))) he₂ (Obj.isFreed_of_fields hd₃)
 have hT₃ := (Heap.get?_update_other (h₁.push { cls := .type "traceback", dict := none, data := .fields ([head, .ref L, .none, rawInt L, .none] ++ (if pl.isEmpty then List.replicate 6 Value.none else pl)).toArray })
  (Obj.mapFields (·.setIfInBounds 1 (Value.ref h₁.objs.size))) (Ne.symm hTe)).trans (Heap.get?_push_size h₁ rfl)
 have keep : ∀ b o, b ≠ a → h₁.get? b = some o →
   ((h₁.push { cls := .type "traceback", dict := none, data := .fields ([head, .ref L, .none, rawInt L, .none] ++ (if pl.isEmpty then List.replicate 6 Value.none else pl)).toArray }).update a (Obj.mapFields (·.setIfInBounds 1 (Value.ref h₁.objs.size)))).get? b = some o := fun b o hbe hb => by
  rw [Heap.get?_update_other _ _ (Ne.symm hbe)]
  exact Heap.get?_push_of_some _ hb
 refine h _ h₁.objs.size (by rw [hs₁.1]; exact Nat.le_refl _) ⟨fun b o hb hf hba _ => keep b o hba ((hs₁.2.1 b hf).trans hb), fun b o hb hf => ?_, fun b o hb => ?_⟩ ?_
 ·obtain ⟨sl, e⟩ := hs₁.2.2 b o hb
  exact ⟨sl, keep b _ (fun z => hene (z ▸ hf)) e⟩
 ·by_cases z : b = a
  ·subst z; exact ⟨_, he₃⟩
  ·obtain ⟨sl, e⟩ := hs₁.2.2 b o hb
   exact ⟨_, keep b _ z e⟩
 ·exact ⟨_, _, he₃, (Obj.cls_mapFields _ _).trans hc, (mapFields_dict _ _).trans hdx, hd₃, by simp [hsz], hTe, _, _, hT₃, rfl, by first | (simp; done) | (rcases hpl with rfl | ⟨_, _, _, _, _, _, _, rfl⟩ <;> simp)⟩
theorem note_x {old : Option (Addr × Value)} {Q : Unit → Shared → Prop} (hfr : A.frames = some (env :: outer)) (hl : s.heap.FunFrames base (env :: outer)) (hf : env.frame = some L)
  (F : Fly s.heap a C dx old) (ho : ∀ T v, old = some (T, v) → v = .none)
  (h : ∀ h' T, s.heap.objs.size ≤ T → Noted (frs (env :: outer)) a old s.heap h' → Fly h' a C dx (some (T, rawInt L)) → Q () { s with heap := h' }) :
  wpAny M A (noteFrame (.ref a) env) Q E s := by
 obtain ⟨oe, vs, he, hc, hdx, hd, r⟩ := F
 cases old with
 | none =>
  unfold noteFrame
  simp only [hf]
  refine wpAny_bind (wpAny_field he hd r ?_)
  rw [if_neg (by decide)]
  exact note_new hfr hl hf he hc hdx hd (Array.getElem?_eq_some_iff.mp r).1 h
 | some p =>
  obtain ⟨T, v⟩ := p
  obtain rfl := ho T v rfl
  obtain ⟨h1, hTe, oT, ts, hT, hdT, h3⟩ := r
  unfold noteFrame
  simp only [hf]
  refine wpAny_bind (wpAny_field he hd h1 ?_)
  rw [if_pos (show (Value.ref T != Value.none) = true from by simp)]
  refine wpAny_bind (wpAny_field hT hdT h3 ?_)
  rw [if_neg (show ¬ ((Value.none == rawInt L) = true) from by simp [rawInt])]
  refine wpAny_bind (wpAny_setField hT hdT (Array.getElem?_eq_some_iff.mp h3).1 ?_)
  have other : ∀ b, b ≠ T → (s.heap.update T (Obj.mapFields (·.setIfInBounds 3 Value.none))).get? b = s.heap.get? b := fun b hb => Heap.get?_update_other _ _ (Ne.symm hb)
  have noRecord : ∀ b o, s.heap.get? b = some o → (∀ vs, o.data ≠ .fields vs) → b ≠ T := fun b o hb hnf q => by
   rw [q, hT] at hb; injection hb with hb; subst hb; exact hnf ts hdT
  have hTs := Heap.get?_update_self (Obj.mapFields (·.setIfInBounds 3 Value.none)) hT (Obj.isFreed_of_fields (Obj.data_mapFields hdT _))
  refine note_new (s := { s with heap := s.heap.update T (Obj.mapFields (·.setIfInBounds 3 Value.none)) }) (base := base) hfr (hl.of_keeps fun b o hb hnf => ⟨o, (other b (noRecord b o hb hnf)).trans hb, rfl⟩) hf ((other a (Ne.symm hTe)).trans he) hc hdx hd (Array.getElem?_eq_some_iff.mp h1).1 fun h' T' hn N F => ?_
  refine h h' T' (Nat.le_trans (Nat.le_of_eq (Heap.size_after_update ..).symm) hn) ⟨fun b o hb hfs hba hbT => N.keep b o ((other b (hbT T _ rfl)).trans hb) hfs hba (fun _ _ z => nomatch z), fun b o hb hfs => N.slot b o ((other b (noRecord b o hb fun ws q => ?_)).trans hb) hfs, fun b o hb => ?_⟩ F
  ·obtain ⟨_, o', ho', hnf⟩ := hl.mem (b := b) hfs
   rw [hb] at ho'; cases ho'; exact hnf ws q
  ·by_cases z : b = T
   ·subst z; exact N.there b _ hTs
   ·exact N.there b o ((other b z).trans hb)
theorem flight_x {T : Addr} {v : Value} {Q : Unit → Shared → Prop} (F : Fly s.heap a C dx (some (T, v)))
  (h : ∀ h', (∀ b o, b ≠ T → s.heap.get? b = some o → h'.get? b = some o) → Fly h' a C dx (some (T, .none)) → Q () { s with heap := h' }) : wpAny M A (setFlight (.ref a) none) Q E s := by
 obtain ⟨oe, vs, he, hc, hdx, hd, h1, hTe, oT, ts, hT, hdT, h3⟩ := F
 refine wpAny_setFlight_none he hd h1 hT hdT (Array.getElem?_eq_some_iff.mp h3).1 (h _ (fun b o hb e => (Heap.get?_update_other _ _ (Ne.symm hb)).trans e) ?_)
 have hsz := (Array.getElem?_eq_some_iff.mp h3).1
 exact ⟨oe, vs, (Heap.get?_update_other _ _ hTe).trans he, hc, hdx, hd, h1, hTe, _, _, Heap.get?_update_self _ hT (Obj.isFreed_of_fields (Obj.data_mapFields hdT _)), Obj.data_mapFields hdT _, by simp [Array.getElem?_setIfInBounds, hsz]⟩
end
end My
namespace My
open PySem PySem.Spec PySem.W PySem.Calls L2
open PyProof.Rows hiding St
open Builtin Builtin.ObjectAttr
def vbm : List Value := [.type "ValueError", .type "Exception", .type "BaseException", .type "object"]
def overV : List Value → Bool
 | .ref _ :: r => overV r
 | l => l == vbm
def xIn (K : Frag) (C : Addr) : Bool := match K.lookup C with
 | some ⟨.type "type", _, .cls cd, sl⟩ => (match cd.mro, sl.toList with
  | .ref C' :: bm, [_, _, _, _, some (.builtin n), _] => C' == C && n == "ValueError.__new__" && !cd.hasDel && cd.hasDict && tailIn K vbm bm && overV bm
  | _, _ => false)
 | _ => false
structure XO (K : Frag) (C : Addr) (h : Heap) (cd : ClassData) : Prop where
 at_ : clsIn K C = some cd
 hd : cd.hasDict = true
 obj : ∃ bm N nm q bs hdct sn sub ab col dd k0 k1 k2 k3 k5, h.get? C = some (excClassObj nm q C N bs bm hdct sn sub ab col dd k0 k1 k2 k3 k5 "ValueError.__new__") ∧ OwnTail h vbm bm ∧ cd.mro = .ref C :: bm
 over : overV cd.mro = true
theorem x_of {K : Frag} {C : Addr} {h : Heap} (X : K.In h) (q : xIn K C = true) : ∃ cd, XO K C h cd := by
 unfold xIn at q
 split at q
 ·rename_i dd cd sl ho
  split at q
  ·rename_i C' bm k0 k1 k2 k3 n k5 hm hs
   simp only [Bool.and_eq_true, beq_iff_eq, Bool.not_eq_true'] at q
   obtain ⟨⟨⟨⟨⟨rfl, rfl⟩, hdel⟩, hdi⟩, ht⟩, hov⟩ := q
   refine ⟨cd, by unfold clsIn; rw [ho], hdi, ?_, by rw [hm]; exact hov⟩
   obtain ⟨nm, bs, mro, ns, qn, hd, sn, sub, ab, col, del⟩ := cd
   dsimp only at hm hdel
   subst hm hdel
   have hsl : sl = #[k0, k1, k2, k3, some (.builtin "ValueError.__new__"), k5] := by
    obtain ⟨l⟩ := sl
    simp only at hs
    rw [hs]
   subst hsl
   exact ⟨bm, ns, nm, qn, bs, hd, sn, sub, ab, col, dd, k0, k1, k2, k3, k5, X _ _ ho, tail_of_in X ht, rfl⟩
  ·cases q
 ·cases q
theorem overV_has {n : String} (h : vbm.contains (.type n) = true) : ∀ {l : List Value}, overV l = true → l.contains (.type n) = true
 | [], e => by cases e
 | v :: r, e => by
  cases v with
  | ref c => rw [List.contains_cons, overV_has h (l := r) e, Bool.or_true]
  | _ => rw [eq_of_beq (show ((_ :: r) == vbm) = true from e)]; exact h
theorem refuse_x (self : Value) : ∀ {l : List Value}, overV l = true → refuseLoop self "__setattr__" l = pure ()
 | [], e => by cases e
 | v :: r, e => by
  cases v with
  | ref c => rw [refuseLoop_ref]; exact refuse_x self (l := r) e
  | _ => rw [eq_of_beq (show ((_ :: r) == vbm) = true from e)]; exact PySem.F.store_ValueError.passes self
section
variable {prog : Program} {w : World} {A : Around} {E : Value → Shared → Prop} {s : Shared} {K : Frag} {a C : Addr}
theorem osa_openX {R : Result → Shared → Prop} {ox : Obj} {od : Option Obj} {name : Str} {tk : Tok} {v : Value} {cd : ClassData} (X : K.In s.heap) (I : InstAt s.heap a ox C od) (x : XO K C s.heap cd) (ht : takerIn K C name = some none)
  (h : ∀ b, wpAny (model prog w) A.in1 (storeInOwnDict (.ref a) (.ref C) (.str name tk) name v b)
   (fun fin s' => match fin with | .done f => R (.ok f) s' | .again c' => c'.quiet = true ∧ codeAny (model prog w) A c' R s') (fun e s' => R (.error e) s') s) :
  codeAny (model prog w) A (.call (.builtin "object.__setattr__") ⟨[.ref a, .str name tk, v], []⟩) R s := by
 have SF := PySem.F.store_object
 have ne : cd.mro.isEmpty = false := by cases q : cd.mro with | nil => have := x.over; rw [q] at this; cases this | cons _ _ => rfl
 have sub : Looks (model prog w) s.heap (isInstance (.ref a) (.type "object")) true := I.type.andThen (looks_mroIn X (by unfold mroIn; rw [x.at_, Option.bind_some, if_neg (by rw [ne]; decide), overV_has (by decide) x.over]))
 refine codeAny_call_builtin SF.slot.plain SF.entry (@check_slot (model prog w) _ _ s "object.__setattr__" "object" "__setattr__" (.ref a) [.str name tk, v] [] _ SF.kind SF.split sub (SF.args (.ref a) (.str name tk) v) ?_)
 obtain ⟨attr, ha, hr⟩ := Option.bind_eq_some_iff.mp ht
 have hm : Looks (model prog w) s.heap (mroOf (.ref C)) cd.mro := (looks_clsIn X x.at_).andThen .now
 have L3 : Looks (model prog w) s.heap (storeTaker? attr) none := by
  cases attr with
  | none => exact .now
  | some a =>
   obtain ⟨b, hb, e⟩ := Option.map_eq_some_iff.mp hr
   refine (looks_takesIn X hb).andThen ?_
   cases b with
   | false => exact .now
   | true => cases e
 rw [osa_eq, refuse_eq]
 refine wpAny_bind (wpAny_bind (I.type.here (wpAny_bind (hm.here ?_))))
 rw [refuse_x _ x.over]
 refine wpAny_pure (wpAny_bind (I.type.here (wpAny_bind ((looks_findIn X ha).here (wpAny_bind (L3.here ?_))))))
 exact h _
theorem set_x {oe : Obj} {vs : Array Value} {name : Str} {v : Value} {cd : ClassData} {Q : Unit → Shared → Prop} (X : K.In s.heap) (x : XO K C s.heap cd) (hs : findIn K (.ref C) "__setattr__" = some (some (.builtin "object.__setattr__"))) (ht : takerIn K C name = some none)
  (he : s.heap.get? a = some oe) (hc : oe.cls = .ref C) (hdn : oe.dict = none) (hd : oe.data = .fields vs)
  (h : ∀ h' dx tk, s.heap.objs.size ≤ dx → h'.Ns1 dx (fun y => if y = name then some v else none) → h'.get? a = some { oe with dict := some dx } → (∀ b o, b ≠ a → s.heap.get? b = some o → h'.get? b = some o) → Q () { s with heap := h', toks := tk }) :
  wpAny (model prog w) A (setAttr (.ref a) name v) Q E s := by
 have I : InstAt s.heap a oe C none := ⟨he, hc, by unfold notCls; rw [hd], by rw [hdn]; trivial⟩
 refine set_plain X I hs (osa_openX (s := { s with toks := s.toks + 1 }) X I x ht fun b => ?_)
 obtain ⟨oc, od, dt, sl⟩ := oe
 dsimp only at hc hdn hd
 subst hc hdn hd
 obtain ⟨hh, g, d, t, os⟩ := s
 have he₁ : (hh.push { cls := .type "dict", data := .dict #[] }).get? a = some ⟨.ref C, none, .fields vs, sl⟩ := Heap.get?_push_of_some _ he
 have hxs : a ≠ hh.objs.size := Nat.ne_of_lt (Heap.lt_size he)
 refine wpAny_bind (wpAny_pure (wpAny_bind (wpAny_bind (wpAny_loadPart he (wpAny_bind (PySem.W.Looks.here (looks_clsIn X x.at_) ?_))))))
 rw [x.hd]
 show wpAny _ _ _ _ _ _
 refine wpAny_bind (wpAny_alloc' ?_)
 refine wpAny_bind (wpAny_update' he₁ ?_)
 refine wpAny_pure ?_
 have hgd : ((hh.push { cls := .type "dict", data := .dict #[] }).update a fun o => { cls := o.cls, dict := some hh.objs.size, data := o.data, slots := o.slots }).get? hh.objs.size
   = some { cls := .type "dict", data := .dict #[] } := (Heap.get?_update_ne _ _ _ _ hxs.symm).trans (Heap.get?_push_at rfl rfl)
 have hnd : ((hh.push { cls := .type "dict", data := .dict #[] }).update a fun o => { cls := o.cls, dict := some hh.objs.size, data := o.data, slots := o.slots }).Ns hh.objs.size (fun _ => none) :=
  ⟨_, #[], _, hgd, rfl, fun e he => absurd he (by simp), fun _ => rfl⟩
 show wpAny _ _ (storeInDict hh.objs.size (.str name t) name v) _ _ _
 unfold storeInDict newKeyGuard
 refine wpAny_bind (wpAny_pure (wpAny_bind (wpAny_nsSet1 (Heap.Ns1.of_empty hnd) fun h' hn' hs => ?_)))
 obtain ⟨oD, esD, epD, hoD, hdD, hcD⟩ := hn'.count (Within.cons name v Within.nil)
 refine wpAny_bind (wpAny_lookBehind hoD (by rw [hdD]; exact pastItsLine_dict (Nat.le_trans hcD (by rw [List.length_cons, List.length_nil, sizeLine_eq]; omega))) ?_)
 refine wpAny_pure (h h' hh.objs.size _ (Nat.le_refl _) hn' ?_ fun b o hb e => ?_)
 ·refine (hs.2 a hxs).trans (Heap.get?_update_self _ he₁ rfl)
 ·exact (hs.2 b (Nat.ne_of_lt (Heap.lt_size e))).trans ((Heap.get?_update_ne _ _ _ _ hb).trans (Heap.get?_push_of_some _ e))
end
end My
namespace My
open PySem PySem.Spec PySem.W PySem.Calls L2
open PyProof.Rows hiding St
open Builtin Builtin.ObjectAttr
section
variable {prog : Program} {w : World} {A : Around} {E : Value → Shared → Prop} {h : Heap} {g : Array GenState} {d : Drawn} {t : Nat} {os : OsState} {K : Frag} {a C : Addr}
theorem get_x {ox od : Obj} {name : Str} {v : Value} {expr : Bool} {Q : Value → Shared → Prop} (X : K.In h) (I : InstAt h a ox C (some od)) (hga : findIn K (.ref C) "__getattribute__" = some (some (.builtin "BaseException.__getattribute__")))
  (hgt : findIn K (.ref C) "__getattr__" = some none) (hm : mroIn K C (.type "BaseException") = some true) (hf : findObj K C (some od) name = some (.value v)) (hh : handedIn v = true)
  (hq : Q v ⟨h, g, d, t + 1, os⟩) : wpAny (model prog w) A (getAttr (.ref a) name expr) Q E ⟨h, g, d, t, os⟩ := by
 have L0 := I.type (M := model prog w)
 have L1 := looks_findIn (M := model prog w) X hga
 have L2 := looks_findIn (M := model prog w) X hgt
 have L3 := looks_find (M := model prog w) X I hf
 have f3 := PySem.F.attr_ValueError.ga.bind (.ref a)
 have hx0 : (expr && onTheHeap (Value.builtin "BaseException.__getattribute__")) = false := by cases expr <;> rfl
 have hx2 : (Value.builtin "BaseException.__getattribute__" == Value.builtin "object.__getattribute__") = false := by decide +kernel
 have hx1 : (onTheHeap (Value.ref C) && Value.builtin "BaseException.__getattribute__" == Value.builtin "object.__getattribute__") = false := by rw [hx2]; rfl
 unfold getAttr
 refine wpAny_bind (wpAny_mkText ?_)
 repeat (any_goals (first | assumption | with_reducible refine L0.at ?_ | with_reducible refine L1.at ?_ | with_reducible refine L2.at ?_ | wp_step))
 refine codeAny_call_builtin PySem.F.attr_ValueError.ga.plain PySem.F.entry_bexc_ga (@check_slot (model prog w) _ _ ⟨h, g, d, t + 1, os⟩ "BaseException.__getattribute__" "BaseException" "__getattribute__" (.ref a) [.str name t] [] _ (by decide +kernel) (by decide +kernel) (L0.andThen (looks_mroIn X hm)) (PySem.F.args_bexc_ga _ _) ?_)
 have hho := handedOut_of hh
 repeat (any_goals (first | assumption | with_reducible refine L0.at ?_ | with_reducible refine L3.at ?_ | (rw [hho]) | wp_step))
theorem type_call_initT {bm : List Value} {N : Addr} {nm q : Str} {bs : List Value} {hdct : Bool} {sn : List Str} {sub : List Value} {ab : Bool} {col : Option Bool} {dd : Option Addr} {k0 k1 k2 k3 k5 : Option Value} {rest : List Value} {fI : Addr} {Q : Fin → Shared → Prop} (X : K.In h)
  (hC : h.get? C = some (excClassObj nm q C N bs bm hdct sn sub ab col dd k0 k1 k2 k3 k5 "ValueError.__new__")) (T : OwnTail h vbm bm) (hi : findIn K (.ref C) "__init__" = some (some (.ref fI))) (hf : typeIn K (.ref fI) = some (.type "function"))
  (hq : ∀ h' e, h.objs.size ≤ e → Heap.MadeExcOf h h' e (.ref C) rest →
   wpAny (model prog w) A (call (.ref fI) (.ref e :: rest)) (fun r s' => r = .none ∧ Q (.done (.ret (.ref e))) s') E ⟨h', g, d, t, os⟩) (hrest : rest.length ≤ sizeLine) :
  wpAny (model prog w) A (Builtin.«type.__call__» ⟨.ref C :: rest, []⟩) Q E ⟨h, g, d, t, os⟩ := by
 have F := PySem.F.excBase_ValueError
 repeat (first | with_reducible refine wpAny_loadPart_at hC ?_ | with_reducible refine wpAny_madeBy_exc hC ?_ | wp_step)
 refine codeAny_call_builtin_code (Code.quiet_builtin _ F.quiet) (wpAny_check_new_subT F T hC ?_)
 refine codeAny_exc_new_subT F T hC ?_ hrest
 show wpAny _ _ _ _ _ _
 have kp : ∀ b o, h.get? b = some o → ((h.push { cls := .type "tuple", data := .seq rest.toArray }).push { cls := .ref C, data := .fields #[.ref h.objs.size, .none, .none, .none, .bool false, .none] }).get? b = some o := fun b o e => Heap.get?_push_of_some _ (Heap.get?_push_of_some _ e)
 have hC₁ := kp _ _ hC
 have X₁ := X.keeps kp
 have hget : ((h.push { cls := .type "tuple", data := .seq rest.toArray }).push
   { cls := .ref C, data := .fields #[.ref h.objs.size, .none, .none, .none, .bool false, .none] }).get? (h.objs.size + 1) = some
   { cls := .ref C, data := .fields #[.ref h.objs.size, .none, .none, .none, .bool false, .none] } := by heap_get
 have hcC : (Value.ref C :: bm).contains (.ref C) = true := by simp
 unfold isInstance
 repeat (first | with_reducible refine wpAny_loadPart_at hget ?_ | (with_reducible refine wpAny_isSubtype_exc hC₁ ?_; rw [hcC]) | wp_step)
 show wpAny _ _ (typeLookup (.ref C) _) _ _ _
 refine (looks_findIn (M := model prog w) X₁ hi).at ?_
 refine wpAny_holding (wpAny_bind ?_)
 refine (bind_fn X₁ (.ref (h.objs.size + 1)) hf).at ?_
 refine wpAny_bind (wpAny_mono (hq _ (h.objs.size + 1) (Nat.le_succ _) ⟨kp, Heap.get?_none_of_le (Nat.le_succ _), h.objs.size, hget, Heap.get?_none_of_le (Nat.le_refl _), ?_⟩) (fun r s' hr => ?_) fun _ _ x => x)
 ·exact Heap.get?_push_of_some _ (Heap.get?_push_at rfl rfl)
 ·obtain ⟨rfl, hQ⟩ := hr
  wp_walk
  exact hQ
theorem call_initT {bm : List Value} {N : Addr} {nm q : Str} {bs : List Value} {hdct : Bool} {sn : List Str} {sub : List Value} {ab : Bool} {col : Option Bool} {dd : Option Addr} {k0 k1 k2 k3 k5 : Option Value} {rest : List Value} {fI : Addr} {Q : Value → Shared → Prop} (X : K.In h)
  (hC : h.get? C = some (excClassObj nm q C N bs bm hdct sn sub ab col dd k0 k1 k2 k3 k5 "ValueError.__new__")) (T : OwnTail h vbm bm) (hi : findIn K (.ref C) "__init__" = some (some (.ref fI))) (hf : typeIn K (.ref fI) = some (.type "function"))
  (hq : ∀ h' e, h.objs.size ≤ e → Heap.MadeExcOf h h' e (.ref C) rest →
   wpAny (model prog w) (A.under (.builtin "type.__call__" ⟨.ref C :: rest, []⟩)) (call (.ref fI) (.ref e :: rest)) (fun r s' => r = .none ∧ Q (.ref e) s') E ⟨h', g, d, t, os⟩) (hrest : rest.length ≤ sizeLine) :
  wpAny (model prog w) A (call (.ref C) rest) Q E ⟨h, g, d, t, os⟩ := by
 have f1 := tc_lookup
 have f2 := tc_bind (.ref C)
 have hT : (⟨h, g, d, t, os⟩ : Shared).TypeIs (.ref C) "type" := ⟨_, hC, rfl⟩
 refine wpAny_call (codeAny_of_tree ?_)
 show wpAny _ _ (callAny (.ref C) _) _ _ _
 repeat (any_goals (first | assumption | with_reducible refine wpAny_loadPart_at hC ?_ | wp_step))
 refine ⟨rfl, ?_⟩
 refine codeAny_call_builtin_at (Code.quiet_builtin _ (by decide +kernel)) entry_typeCall (wpAny_check_type_call_sub hC (type_call_initT X hC T hi hf (fun h' e hz hm => ?_) hrest))
 exact hq h' e hz hm
end
end My
namespace My
open PySem PySem.Spec PySem.W PySem.Calls L2
open PyProof.Rows hiding St
open Builtin Builtin.ObjectAttr
structure XCls (K : Frag) (C : Addr) : Prop where
 x : xIn K C = true
 ga : findIn K (.ref C) "__getattribute__" = some (some (.builtin "BaseException.__getattribute__"))
 gt : findIn K (.ref C) "__getattr__" = some none
 sa : findIn K (.ref C) "__setattr__" = some (some (.builtin "object.__setattr__"))
 mb : mroIn K C (.type "BaseException") = some true
 mo : mroIn K C (.type "object") = some true
 kp : keepIn K (.ref C) = true
 ca : findIn K (.ref C) "__class__" = some (some (.builtin "object.__class__"))
 cg : specialIn K (.builtin "object.__class__") "__get__" = some (some (.builtin "getset_descriptor.__get__"))
 ct : takesIn K (.builtin "object.__class__") = some true
theorem XCls.cls {K : Frag} {C : Addr} (c : XCls K C) : ∃ cd, clsIn K C = some cd ∧ cd.hasDict = true := by
 have q := c.x
 unfold xIn at q
 split at q
 ·rename_i dd cd sl ho
  split at q
  ·simp only [Bool.and_eq_true, beq_iff_eq, Bool.not_eq_true'] at q
   exact ⟨cd, by unfold clsIn; rw [ho], q.1.1.2⟩
  ·cases q
 ·cases q
section
variable {prog : Program} {w : World} {A : Around} {E : Value → Shared → Prop} {K : Frag} {a C : Addr}
theorem class_x {ox : Obj} {od : Option Obj} {s : Shared} {Q : Option Value → Shared → Prop} (X : K.In s.heap) (I : InstAt s.heap a ox C od) (c : XCls K C) (hq : Q (some (.ref C)) { s with toks := s.toks + 1 }) : wpAny (model prog w) A (getAttr? (.ref a) "__class__") Q E s := by
 obtain ⟨h, g, d, t, os⟩ := s
 obtain ⟨cd, hcd, hdi⟩ := c.cls
 have hf : findObj K C od "__class__" = some (.bind (.builtin "getset_descriptor.__get__") (.builtin "object.__class__")) := by simp only [findObj, hcd, c.ca, c.cg, c.ct, Option.bind_some]
 have L0 := I.type (M := model prog w)
 have L1 := looks_findIn (M := model prog w) X c.ga
 have L2 := looks_findIn (M := model prog w) X c.gt
 have L3 := looks_find (M := model prog w) X I hf
 have f3 := PySem.F.attr_ValueError.ga.bind (.ref a)
 have hx2 : (Value.builtin "BaseException.__getattribute__" == Value.builtin "object.__getattribute__") = false := by decide +kernel
 have hx1 : (onTheHeap (Value.ref C) && Value.builtin "BaseException.__getattribute__" == Value.builtin "object.__getattribute__") = false := by rw [hx2]; rfl
 unfold getAttr? getAttrBy?
 refine wpAny_bind (wpAny_mkText ?_)
 repeat (any_goals (first | assumption | with_reducible refine L0.at ?_ | with_reducible refine L1.at ?_ | with_reducible refine L2.at ?_ | wp_step))
 refine codeAny_call_builtin PySem.F.attr_ValueError.ga.plain PySem.F.entry_bexc_ga (@check_slot (model prog w) _ _ ⟨h, g, d, t + 1, os⟩ "BaseException.__getattribute__" "BaseException" "__getattribute__" (.ref a) [.str "__class__" t] [] _ (by decide +kernel) (by decide +kernel) (L0.andThen (looks_mroIn X c.mb)) (PySem.F.args_bexc_ga _ _) ?_)
 repeat (any_goals (first | assumption | with_reducible refine L0.at ?_ | with_reducible refine L3.at ?_ | wp_step))
 refine class_get (s := ⟨h, g, d, t + 1, os⟩) (ox := ox) (od := od) X I c.mo ?_
 repeat (any_goals (first | assumption | wp_step))
theorem kitx_x {ox : Obj} {od : Option Obj} (c : XCls K C) : KitX K (.ref a) (.ref C) (fun h => InstAt h a ox C od) where
 ty := fun _ _ _ I => I.type
 it := fun _ _ X _ => by
  obtain ⟨cdD, hcD, _⟩ := c.cls
  unfold clsIn at hcD
  split at hcD
  ·rename_i c' d' cd' sl' ho
   intro A' Q' E' s' k q
   unfold isType loadHead
   exact wpAny_bind (wpAny_loadPart (k _ _ (X _ _ ho)) (wpAny_pure q))
  ·cases hcD
 ne := fun h tp dd its n sl X htp => by
  obtain ⟨cdD, hcD, _⟩ := c.cls
  refine Bool.eq_false_iff.mpr fun q => ?_
  have e : C = tp := Value.ref.inj (beq_iff_eq.mp q)
  subst e
  unfold clsIn at hcD
  split at hcD
  ·rename_i c' d' cd' sl' ho
   have z := (X _ _ ho).symm.trans htp
   cases z
  ·cases hcD
 ca := fun X I k => class_x X I c k
end
def exO (a C : Addr) (dx : Option Addr) (n : Bool) : HO := .ext fun h => ∃ oe vs v1, h.get? a = some oe ∧ oe.cls = .ref C ∧ oe.dict = dx ∧ oe.data = .fields vs ∧ vs[1]? = some v1 ∧ (n = true → v1 = .none)
section
variable {P : Program} {w : World} {H : Hp} {h : Heap} {a C : Addr} {dx : Option Addr} {n : Bool}
theorem exO_ok (e : ∃ oe vs v1, h.get? a = some oe ∧ oe.cls = .ref C ∧ oe.dict = dx ∧ oe.data = .fields vs ∧ vs[1]? = some v1 ∧ (n = true → v1 = .none)) : ObjOk P w H h a (exO a C dx n) := by
 refine ⟨e, ?_, fun h1 h2 ⟨oe, vs, v1, e1, r⟩ k => ⟨oe, vs, v1, k _ e1, r⟩⟩
 obtain ⟨oe, _, _, e1, _⟩ := e
 exact ⟨oe, e1⟩
theorem exO_get (ok : HOk P w H h) (e : H a = some (exO a C dx n)) : ∃ oe vs v1, h.get? a = some oe ∧ oe.cls = .ref C ∧ oe.dict = dx ∧ oe.data = .fields vs ∧ vs[1]? = some v1 ∧ (n = true → v1 = .none) := (ok a _ e).1
end
section
variable {X : Cx} {pins : List (Addr × Obj)} {σ : St} {H : Hp} {s : Shared} {a C : Addr} {n : Bool}
theorem Inv.exDict {dx : Addr} {fs : List (Str × V)} {mA : Str → Option Value} {h' : Heap} {t' : Nat} (I : Inv X pins σ H s) (ea : H a = some (exO a C none n)) (hz : s.heap.objs.size ≤ dx) (k : ∀ b o, b ≠ a → s.heap.get? b = some o → h'.get? b = some o)
  (ns : h'.Ns1 dx mA) (r : ∀ f, RelO (fs.lookup f) (mA f)) (na : ∃ oe vs v1, h'.get? a = some oe ∧ oe.cls = .ref C ∧ oe.dict = some dx ∧ oe.data = .fields vs ∧ vs[1]? = some v1 ∧ (n = true → v1 = .none)) :
  Inv X pins σ (upd (upd H dx (.xd fs)) a (exO a C (some dx) n)) { s with heap := h', toks := t' } := by
 have hdx : H dx = none := I.hok.fresh hz
 have ne : dx ≠ a := fun z => by rw [z, ea] at hdx; cases hdx
 have at_ : ∀ b o, H b = some o → b ≠ a → (upd (upd H dx (.xd fs)) a (exO a C (some dx) n)) b = some o := fun b o e z => by rw [upd_ne z, upd_ne (fun q => by rw [q, hdx] at e; cases e)]; exact e
 refine I.un ⟨fun b o e q _ _ => k b o (fun z => by rw [z, ea] at q; cases q) e, fun b o e q _ _ => ⟨o.slots, k b o (fun z => by rw [z, ea] at q; cases q) e⟩, fun b o e q _ => ?_, fun b o e _ => ?_, fun b xs e => at_ b _ e fun z => ?_, fun b o u e => at_ b _ e fun z => ?_, fun b ps e => ⟨#[], ?_⟩⟩ fun b o e => ?_
 ·rw [upd_ne (fun z => by rw [z, ea] at q; cases q), upd_ne (Nat.ne_of_lt (Nat.lt_of_lt_of_le (Heap.lt_size e) hz))]; exact q
 ·by_cases z : b = a
  ·obtain ⟨oe, _, _, e1, _⟩ := na
   exact ⟨oe, z ▸ e1⟩
  ·exact ⟨o, k b o z e⟩
 ·rw [z, ea] at e; cases e
 ·rw [z, ea] at e; cases e
 ·rw [at_ b _ e fun z => by rw [z, ea] at e; cases e]; simp
 ·by_cases z : b = a
  ·subst z; rw [upd_same] at e; cases e; exact exO_ok na
  ·rw [upd_ne z] at e
   by_cases q : b = dx
   ·subst q; rw [upd_same] at e; cases e; exact ⟨mA, ns, r⟩
   ·rw [upd_ne q] at e
    refine (I.hok b o e).stay (fun c u hc g => k c u ?_ g) (fun c g => at_ c _ g fun y => ?_) fun c xs g => at_ c _ g fun y => ?_
    ·rcases hc with y | y
     ·rw [y]; exact z
     ·intro y'; rw [y', ea] at y; cases y
    ·rw [y, ea] at g; cases g
    ·rw [y, ea] at g; cases g
end
end My
namespace My
open PySem PySem.Spec PySem.W PySem.Calls L2
open PyProof.Rows hiding St
theorem x_in {K : Frag} {C : Addr} {h : Heap} (X : K.In h) (c : XCls K C) : ∃ bm N nm q bs hdct sn sub ab col dd k0 k1 k2 k3 k5, h.get? C = some (excClassObj nm q C N bs bm hdct sn sub ab col dd k0 k1 k2 k3 k5 "ValueError.__new__") ∧ OwnTail h vbm bm := by
 obtain ⟨cd, x⟩ := x_of X c.x
 obtain ⟨bm, N, nm, q, bs, hdct, sn, sub, ab, col, dd, k0, k1, k2, k3, k5, hC, T, _⟩ := x.obj
 exact ⟨bm, N, nm, q, bs, hdct, sn, sub, ab, col, dd, k0, k1, k2, k3, k5, hC, T⟩
def sFldX (K : Frag) (ta tv : TE) (f : Str) : TS := fun D σ H => tv σ H fun y H1 => ta σ H1 fun x H2 => ∃ a C n, x = .ref a ∧ H2 a = some (exO a C none n) ∧ XCls K C ∧ takerIn K C f = some none ∧
 ∀ dx, H2 dx = none → D.nx σ (upd (upd H2 dx (.xd [(f, y)])) a (exO a C (some dx) n))
def tFldX (K : Frag) (ta : TE) (f : Str) : TE := fun σ H Q => ta σ H fun x H1 => ∃ a C dx n fs v, x = .ref a ∧ H1 a = some (exO a C (some dx) n) ∧ H1 dx = some (.xd fs) ∧ XCls K C ∧ NoAttr K C f ∧ fs.lookup f = some v ∧ Q v H1
section
variable {X : Cx} {o e value : Expr} {f : Str} {pos pos' : Pos} {ta tv : TE}
theorem ps_fldX (ha : PE X o ta) (hv : PE X value tv) (hs : swapsWith value (some (.Attribute o f pos')) pos.line X.env = pure false) : PS X (.Assign [.Attribute o f pos'] value pos) (sFldX X.K ta tv f) := by
 intro pins s σ H D I h
 refine plainObj_wpAny_Assign_Attribute (thn (hv pins s σ H _ I h) fun u s1 ⟨y, H1, I1, ry, q⟩ => thn (ha pins s1 σ H1 _ I1 q) fun ov s2 ⟨x, H2, I2, rx, a, C, n, ex, ea, c, ht, q2⟩ => ?_) hs
 subst ex
 obtain rfl : ov = Value.ref a := rx
 obtain ⟨cd, x⟩ := x_of I2.kIn c.x
 obtain ⟨oe, vs, v1, e1, e2, e3, e4, e5, e6⟩ := exO_get I2.hok ea
 refine set_x I2.kIn x c.sa ht e1 e2 e3 e4 fun h' dx tk hz hn e' k => ?_
 have hr : ∀ g, RelO (([(f, y)] : List (Str × V)).lookup g) (if g = f then some u else none) := fun g => by
  by_cases z : g = f
  ·rw [if_pos z, z, List.lookup_cons_self]; exact ry
  ·rw [if_neg z, List.lookup_cons, beq_eq_false_iff_ne.mpr z]; exact True.intro
 refine ⟨σ, _, Inv.exDict (n := n) (t' := tk) I2 ea hz k hn hr ⟨_, vs, v1, e', e2, rfl, e4, e5, e6⟩, q2 dx (I2.hok.fresh hz)⟩
theorem pe_fldX (he : PE X e ta) (hb : attributeBase e f X.env (eval e X.env) = eval e X.env) : PE X (.Attribute e f pos) (tFldX X.K ta f) := by
 intro pins s σ H Q I h
 refine attr_of hb (thn (he pins s σ H _ I h) fun u s1 ⟨x, H1, I1, rx, a, C, dx, n, fs, v, ex, ea, ed, c, na, l, q⟩ => ?_)
 subst ex
 obtain rfl : u = Value.ref a := rx
 obtain ⟨oe, vs, v1, e1, e2, e3, e4, e5, e6⟩ := exO_get I1.hok ea
 obtain ⟨mA, ns, r⟩ := (show ∃ mA, s1.heap.Ns1 dx mA ∧ ∀ f, RelO (fs.lookup f) (mA f) from I1.hok dx _ ed)
 obtain ⟨w, hw, rw'⟩ := RelO.some_of (v := v) (o := mA f) (by rw [← l]; exact r f)
 obtain ⟨od, hod, hl⟩ := lookIn_ns ns
 obtain ⟨cd, hcd, hdi⟩ := c.cls
 obtain ⟨hh, g, d, t, os⟩ := s1
 have J : PySem.W.InstAt hh a oe C (some od) := ⟨e1, e2, by unfold notCls; rw [e4], by rw [e3]; exact hod⟩
 exact get_x I1.kIn J c.ga c.gt c.mb (findObj_own (by unfold hasDictIn; rw [hcd]; exact hdi) na rfl (by rw [hl, hw])) (handed_of rw') ⟨v, H1, I1.tok _, rw', q⟩
end
structure DefI (K : Frag) (C : Addr) (qual : Str) (st : Stmt) (ps : List Str) : Prop where
 ex : ∃ (f : Addr) (fd : FuncData), Fun K "__init__" qual st f fd ∧ (∀ us : List Value, us.length = ps.length → bindArgs fd ⟨us, []⟩ = pure (ps.zip us)) ∧ findIn K (.ref C) "__init__" = some (some (.ref f)) ∧ typeIn K (.ref f) = some (.type "function") ∧ XCls K C
structure CalleeI (P : Program) (w : World) (K : Frag) (mg : Str → Option Value) (base : Heap) (k : Nat) (C : Addr) (ps : List Str) (sp : Sp) : Prop where
 ex : ∃ (f : Addr) (fd : FuncData), FnOk P w K mg base CX0 k f fd ps sp ∧ Binds K fd ps [] ∧ findIn K (.ref C) "__init__" = some (some (.ref f)) ∧ typeIn K (.ref f) = some (.type "function") ∧ XCls K C
theorem DefI.callee {P : Program} {w : World} {K : Frag} {mg : Str → Option Value} {base : Heap} {C : Addr} {qual : Str} {st : Stmt} {N ps : List Str} {k : Nat} {sp : Sp} (F : DefI K C qual st ps) (S : FnScope N ps (defScope st)) (len : ∀ vs H Q E, sp vs H Q E → vs.length = ps.length)
  (hbody : ∀ (f : Addr) (cdv : Value) (A : Around) (outer : List Env) (s : Shared) (H : Hp) (vs : List V) (Q : VK) (E : XK), Room k (A.deeper (envOfC qual (defScope st) s.heap.objs.size f cdv)) → sp vs H Q E →
   ∃ σ t, start N vs = σ ∧ PSs (cxOf CX0 P w K mg base N qual (defScope st) f cdv A outer s H E).nox (defBody st) t ∧ t { nx := fun _ H' => Q .non H', rt := Q } σ H) : CalleeI P w K mg base (k + 1) C ps sp := by
 obtain ⟨f, fd, F, b, hi, hf, hc⟩ := F.ex
 refine ⟨f, fd, F.ok S len fun cdv A outer s H vs Q E hr h => ?_, .all b, hi, hf, hc⟩
 obtain ⟨σ, t, e, ht, q⟩ := hbody f cdv A outer s H vs Q E hr h
 exact ⟨t, ht, by rw [e]; exact q⟩
theorem defI_mk {K : Frag} {C : Addr} {qual : Str} {st : Stmt} {ps : List Str} {f : Addr} {oc : Value} {od an : Option Addr} {osl : Array (Option Value)} {kV doc pm cdv ct : Value}
  (a : findIn K (.ref C) "__init__" = some (some (.ref f))) (l : K.lookup f = some ⟨oc, od, .func (PySem.W.fnOf "__init__" qual (defArgs st) (defBody st) (defScope st) .none kV doc pm an cdv ct), osl⟩)
  (c : codeIn K cdv qual = true) (k : keepIn K (.ref f) = true) (n : typeIn K (.ref f) = some (.type "function")) (x : XCls K C)
  (h : ∀ (kV doc pm : Value) (an : Option Addr) (cdv ct : Value) (us : List Value), us.length = ps.length → bindArgs (PySem.W.fnOf "__init__" qual (defArgs st) (defBody st) (defScope st) .none kV doc pm an cdv ct) ⟨us, []⟩ = pure (ps.zip us)) : DefI K C qual st ps :=
 ⟨f, _, fun_mk l c k, fun us hl => h kV doc pm an cdv ct us hl, a, n, x⟩
def tNewX (C : Addr) (sp : Sp) (t : TA) : TE := fun σ H Q => t σ H fun vs H1 => vs.length ≤ sizeLine ∧ ∀ a, H1 a = none → sp (.ref a :: vs) (upd H1 a (exO a C none true)) (fun v H2 => v = .non ∧ Q (.ref a) H2) E0
theorem m_newX {X : Cx} {C : Addr} {x : Str} {e : Expr} {es : List Expr} {t : TA} {k k' : Nat} {ps : List Str} {sp : Sp} {p pos : Pos} (F : CalleeI X.prog X.w X.K X.mg X.base k C ps sp) (hr : Room k' X.A) (hk : k + 1 ≤ k') (hm : X.mg x = some (.ref C)) (ha : PA X (e :: es) t) (hg : Gl X x := by rfl)
  (hdb : (x == ("__debug__" : Str)) = false := by decide) (he : starEach (e :: es) X.env = (false, eval e X.env) :: starEach es X.env := by rfl) (hpl : (backTo pos (starEach es X.env)).any (·.1) = false := by rfl) :
  PE X (.Call (.Name x p) (e :: es) [] pos) (tNewX C sp t) := by
 intro pins s σ H Q I h
 obtain ⟨fI, fd, F, b, hi, hf, c⟩ := F.ex
 refine wpAny_Call_Name_kw (ld_glob I hg hm ?_ hdb)
 refine PySem.W.callWith_K (h₀ := X.base) I.ok.mod.kin c.kp (thn (ha pos pins s σ H _ I h) fun us s1 ⟨vs, H1, I1, r, hz, q⟩ => ⟨I1.kIn, ?_⟩) he hpl
 obtain ⟨bm, N, nm, qq, bs, hdct, sn, sub, ab, col, dd, k0, k1, k2, k3, k5, hC, T⟩ := x_in I1.kIn c
 obtain ⟨hh, g, d, tt, os⟩ := s1
 refine call_initT I1.kIn hC T hi hf (fun h' a hza hm' => ?_) (show us.length ≤ sizeLine by rw [← r.length]; exact hz)
 obtain ⟨tp, ht, _, _⟩ := hm'.there
 have I2 : Inv X pins σ (upd H1 a (exO a C none true)) ⟨h', g, d, tt, os⟩ := I1.laid (a := a) (t' := tt) hm'.keeps hza (exO_ok ⟨_, _, .none, ht, rfl, rfl, rfl, rfl, fun _ => rfl⟩)
 have hq := q a (I1.hok.fresh hza)
 have r2 : Vals (V.ref a :: vs) (Value.ref a :: us) := .cons rfl r
 have hl : ((Value.ref a :: us) ++ []).length = ps.length := by
  rw [List.append_nil]
  exact r2.length.symm.trans (F.len _ _ _ _ hq)
 have hb := b ⟨h', g, d, tt, os⟩ (Value.ref a :: us) I2.kIn hl
 rw [List.append_nil] at hb
 refine wpAny_call (codeAny_mono (F.run _ X.stack _ _ ⟨Value.ref a :: us, []⟩ (Value.ref a :: us) _ _ E0 ((hr.mono hk).make C us []) (I2.env0.make C us []) hb r2 hq) fun r s' hq' => ?_)
 cases r with
 | error e => exact False.elim hq'
 | ok fl =>
  cases fl with
  | ret u =>
   obtain ⟨v, H', I3, rv, ev, q3⟩ := I2.after hq'
   subst ev
   exact ⟨rv, ⟨V.ref a, H', I3, rfl, q3⟩⟩
  | next => exact False.elim hq'
  | brk => exact False.elim hq'
  | cont => exact False.elim hq'
end My
namespace My
open PySem PySem.Spec PySem.W PySem.Calls L2
open PyProof.Rows hiding St
def vcls : V → Option Value
 | .ref a => some (.ref a)
 | .ty n => some (.type n)
 | _ => none
theorem vcls_rel {c : V} {cv u : Value} (h : vcls c = some cv) (r : RelV c u) : u = cv := by
 cases c <;> first | (cases h; exact r) | cases h
def mIsX (K : Frag) : List V → Hp → VK → Prop := fun xs H Q => ∃ a C d n fs c cv b, xs = [.ref a, c] ∧ H a = some (exO a C (some d) n) ∧ H d = some (.xd fs) ∧ XCls K C ∧ vcls c = some cv ∧ kitOne K (.ref C) cv = some b ∧ Q (.bl b) H
section
variable {X : Cx}
theorem m_isX : CallR X (.builtin "isinstance") (mIsX X.K) := by
 intro pins s σ H xs us Q I r h
 obtain ⟨a, C, d, n, fs, c, cv, b, rfl, ea, ed, xc, rc, e, q⟩ := h
 obtain ⟨u, w', rfl, r1, r2⟩ := vals2 r
 cases r1
 obtain rfl := vcls_rel rc r2
 obtain ⟨oe, vs, v1, e1, e2, e3, e4, e5, e6⟩ := exO_get I.hok ea
 obtain ⟨mA, ns, _⟩ := (show ∃ mA, s.heap.Ns1 d mA ∧ ∀ f, RelO (fs.lookup f) (mA f) from I.hok d _ ed)
 obtain ⟨od, hod, hl⟩ := lookIn_ns ns
 have J : PySem.W.InstAt s.heap a oe C (some od) := ⟨e1, e2, by unfold notCls; rw [e4], by rw [e3]; exact hod⟩
 exact kia_one (kitx_x (ox := oe) (od := some od) xc) I.kIn J e (fun z => nomatch z) fun tk => ⟨.bl b, H, I.tok tk, rfl, q⟩
theorem m_glob {x : Str} {pos : Pos} {C : Addr} (hm : X.mg x = some (.ref C)) (hg : Gl X x := by rfl) (hdb : (x == ("__debug__" : Str)) = false := by decide) : PE X (.Name x pos) (tC (.ref C)) :=
 fun pins s σ H Q I h => ld_glob I hg hm ⟨.ref C, H, I, rfl, h⟩ hdb
end
section
variable {M : Model} {A : Around} {E : Value → Shared → Prop} {env : Env} {K : Frag}
theorem raise_x {s : Shared} {x : Sem Value} {Q : Flow → Shared → Prop} (hh : A.handled = none)
  (h : wpAny M A x (fun v s₁ => ∃ a C oe vs, v = .ref a ∧ K.In s₁.heap ∧ XCls K C ∧ s₁.heap.get? a = some oe ∧ oe.cls = .ref C ∧ oe.data = .fields vs ∧ vs[1]? = some .none ∧ E (.ref a) s₁) E s) :
  wpAny M A (raiseStmt env (some x) none) Q E s := by
 unfold raiseStmt
 refine wpAny_bind (wpAny_mono h (fun v s₁ h₁ => ?_) fun _ _ x => x)
 obtain ⟨a, C, oe, vs, rfl, KX, c, he, hc, hd, h1, hE⟩ := h₁
 obtain ⟨bm, N, nm, qq, bs, hdct, sn, sub, ab, col, dd, k0, k1, k2, k3, k5, hC, T⟩ := x_in KX c
 have hcB : (Value.ref C :: bm).contains (.type "BaseException") = true := by rw [List.contains_cons, T.hasType (b := true) (by decide), Bool.or_true]
 obtain ⟨oc, od, dt, sl⟩ := oe
 dsimp only at hc hd
 subst hc hd
 obtain ⟨hp, g, d, tk, os⟩ := s₁
 repeat (first | with_reducible refine wpAny_loadPart_at he ?_ | with_reducible refine wpAny_loadPart_at hC ?_ | (with_reducible refine wpAny_isSubtype_exc hC ?_; rw [hcB]) | with_reducible refine wpAny_field he rfl h1 ?_ | wp_step)
 exact wpAny_raiseNew_none hh hE
end
def Raises (X : Cx) (E : XK) : Prop := ∀ (pins : List (Addr × Obj)) (σ : St) (H : Hp) (s : Shared) (a C : Addr) (dx : Option Addr), Inv X pins σ H s → H a = some (exO a C dx true) → E (.ref a) dx (upd H a (exO a C dx false)) → X.xe (.ref a) s
def tRaise (K : Frag) (E : XK) (te : TE) : TS := fun D σ H => te σ H fun x H1 => ∃ a C dx, x = .ref a ∧ H1 a = some (exO a C dx true) ∧ XCls K C ∧ E (.ref a) dx (upd H1 a (exO a C dx false))
theorem ps_raise {X : Cx} {e : Expr} {te : TE} {E : XK} {pos : Pos} (he : PE X e te) (hx : Raises X E) (hh : X.A.handled = none) : PS X (.Raise (some e) none pos) (tRaise X.K E te) := by
 intro pins s σ H D I h
 rw [arm_exec_Raise]
 refine wpAny_bind (wpAny_standAt (raise_x (K := X.K) hh (wpAny_bind (thn (he pins s σ H _ I h) fun v s1 ⟨x, H1, I1, rx, a, C, dx, ex, ea, c, q⟩ => wpAny_bind (wpAny_standAt (wpAny_pure ?_))))))
 subst ex
 obtain rfl : v = Value.ref a := rx
 obtain ⟨oe, vs, v1, e1, e2, e3, e4, e5, e6⟩ := exO_get I1.hok ea
 obtain rfl := e6 rfl
 exact ⟨a, C, oe, vs, rfl, I1.kIn, c, e1, e2, e4, e5, hx pins σ H1 s1 a C dx I1 ea q⟩
end My
namespace My
open PySem PySem.Spec PySem.W PySem.Calls L2
open PyProof.Rows hiding St
def CXr (P : Program) (w : World) : CXT := fun outer H s E e s' => ∃ a C dx H' T, e = .ref a ∧ s'.os = s.os ∧ AllBare s'.gens ∧ Un (frs outer) [] H H' s.heap s'.heap ∧ HOk P w H' s'.heap ∧
 H' a = some (exO a C dx false) ∧ H' T = none ∧ s.heap.objs.size ≤ T ∧ Fly s'.heap a C dx (some (T, .none)) ∧ E e dx H'
theorem upd_id {H : Hp} {a : Addr} {o : HO} (e : H a = some o) : upd H a o = H := by
 funext b
 by_cases z : b = a
 ·rw [z, upd_same, e]
 ·rw [upd_ne z]
section
variable {P : Program} {w : World} {K : Frag} {mg : Str → Option Value} {base : Heap} {N : List Str} {qual : Str} {scope : Scope} {f : Addr} {cd : Value} {A : Around} {outer : List Env} {s₀ : Shared} {H₀ : Hp} {E : XK}
theorem noted_hok {X : Cx} {pins : List (Addr × Obj)} {σ : St} {H : Hp} {s : Shared} {a C T : Addr} {dx : Option Addr} {old : Option (Addr × Value)} {n : Bool} {h1 h2 : Heap} {fl : Option (Addr × Value)} (I : Inv X pins σ H s) (ea : H a = some (exO a C dx n)) (ho : ∀ T v, old = some (T, v) → H T = none)
  (N : Noted (frs X.stack) a old s.heap h1) (hz : s.heap.objs.size ≤ T) (k2 : ∀ b o, b ≠ T → h1.get? b = some o → h2.get? b = some o) (F2 : Fly h2 a C dx fl) : HOk X.prog X.w (upd H a (exO a C dx false)) h2 := by
 intro b o e
 by_cases z : b = a
 ·subst z
  rw [upd_same] at e
  cases e
  obtain ⟨oe, vs, e1, e2, e3, e4, r⟩ := F2
  cases fl with
  | none => exact exO_ok ⟨oe, vs, _, e1, e2, e3, e4, r, fun z => by cases z⟩
  | some p => exact exO_ok ⟨oe, vs, _, e1, e2, e3, e4, r.1, fun z => by cases z⟩
 ·rw [upd_ne z] at e
  refine (I.hok b o e).stay (fun c u hc g => ?_) (fun c g => ?_) fun c xs g => ?_
  ·have ht : H c ≠ none := by
    rcases hc with y | y
    ·rw [y, e]; exact fun q => by cases q
    ·rw [y]; exact fun q => by cases q
   refine k2 c u (Nat.ne_of_lt (Nat.lt_of_lt_of_le (Heap.lt_size g) hz)) (N.keep c u g (fun q => ht (I.stkFree c q)) (fun q => ?_) fun T' v' q y => ht (by rw [y]; exact ho T' v' q))
   rcases hc with y | y
   ·exact z (y.symm.trans q)
   ·rw [q, ea] at y; cases y
  ·rw [upd_ne fun y => by rw [y, ea] at g; cases g]; exact g
  ·rw [upd_ne fun y => by rw [y, ea] at g; cases g]; exact g
theorem leave_ok {pins : List (Addr × Obj)} {σ : St} {H : Hp} {s : Shared} {a C : Addr} {dx : Option Addr} {n : Bool} {old : Option (Addr × Value)} (I : Inv (cxOf (CXr P w) P w K mg base N qual scope f cd A outer s₀ H₀ E) pins σ H s) (ea : H a = some (exO a C dx n)) (F : Fly s.heap a C dx old)
  (ho : ∀ T v, old = some (T, v) → v = .none ∧ H T = none ∧ s₀.heap.objs.size ≤ T) (hE : E (.ref a) dx (upd H a (exO a C dx false))) : (cxOf (CXr P w) P w K mg base N qual scope f cd A outer s₀ H₀ E).xe (.ref a) s := by
 have hL : s₀.heap.objs.size ≤ s₀.heap.objs.size := Nat.le_refl _
 show wpAny (model P w) (A.deeper (envOfC qual scope s₀.heap.objs.size f cd)) (leaving (envOfC qual scope s₀.heap.objs.size f cd) (.ref a)) _ _ s
 unfold leaving
 refine wpAny_bind (note_x (base := base) (L := s₀.heap.objs.size) I.ok.frames I.stack rfl F (fun T v q => (ho T v q).1) fun h1 T hz N F1 => flight_x (s := { s with heap := h1 }) F1 fun h2 k2 F2 => ?_)
 have sz := I.sz
 have fsz : ∀ b o, s₀.heap.get? b = some o → b ≠ T := fun b o e => Nat.ne_of_lt (Nat.lt_of_lt_of_le (Heap.lt_size e) (Nat.le_trans sz hz))
 have mem : ∀ b, b ∈ frs (envOfC qual scope s₀.heap.objs.size f cd :: outer) → b = s₀.heap.objs.size ∨ b ∈ frs outer := fun b q => by
  unfold frs at q
  rw [List.filterMap_cons] at q
  exact List.mem_cons.mp q
 have na : ∀ b, H b = none → b ≠ a := fun b q z => by rw [z, ea] at q; cases q
 refine ⟨a, C, dx, upd H a (exO a C dx false), T, rfl, I.os, I.bare, ⟨fun b o e q hb hx => ?_, fun b o e q hb hx => ?_, fun b o e q hx => ?_, fun b o e hx => ?_, fun b xs e => ?_, fun b o u e => ?_, fun b ps e => ?_⟩, noted_hok I ea (fun T v q => (ho T v q).2.1) N hz k2 F2, upd_same, ?_, Nat.le_trans sz hz, F2, hE⟩
 ·have e1 := I.base.keep b o e q hb hx
  have e2 := I.base.free b o e q hx
  refine k2 b o (fsz b o e) (N.keep b o e1 (fun z => ?_) (na b e2) fun T' v' z y => ?_)
  ·rcases mem b z with y | y
   ·exact absurd (Heap.lt_size e) (by rw [y]; exact Nat.lt_irrefl _)
   ·exact hb y
  ·exact absurd (Heap.lt_size e) (by rw [y]; exact Nat.not_lt.mpr (ho T' v' z).2.2)
 ·obtain ⟨sl, e1⟩ := I.base.slot b o e q hb hx
  obtain ⟨sl2, e2⟩ := N.slot b _ e1 (by unfold frs; rw [List.filterMap_cons]; exact List.mem_cons_of_mem _ hb)
  exact ⟨sl2, k2 b _ (fsz b o e) e2⟩
 ·have e2 := I.base.free b o e q hx
  rw [upd_ne (na b e2)]; exact e2
 ·obtain ⟨o1, e1⟩ := I.base.there b o e hx
  obtain ⟨o2, e2⟩ := N.there b o1 e1
  exact ⟨o2, k2 b _ (fsz b o e) e2⟩
 ·have e1 := I.base.tups b xs e
  rw [upd_ne fun z => by rw [z, ea] at e1; cases e1]; exact e1
 ·have e1 := I.base.frzs b o u e
  rw [upd_ne fun z => by rw [z, ea] at e1; cases e1]; exact e1
 ·obtain ⟨m, e1⟩ := I.base.tbls b ps e
  exact ⟨m, by rw [upd_ne fun z => by rw [z, ea] at e1; cases e1]; exact e1⟩
 ·have e2 := I.hok.fresh hz
  rw [upd_ne (na T e2)]; exact e2
theorem raisesX : Raises (cxOf (CXr P w) P w K mg base N qual scope f cd A outer s₀ H₀ E) E := by
 intro pins σ H s a C dx I ea hE
 obtain ⟨oe, vs, v1, e1, e2, e3, e4, e5, e6⟩ := exO_get I.hok ea
 obtain rfl := e6 rfl
 exact leave_ok (old := none) I ea ⟨oe, vs, e1, e2, e3, e4, e5⟩ (fun _ _ z => nomatch z) hE
theorem passesX : Passes (CXr P w) (cxOf (CXr P w) P w K mg base N qual scope f cd A outer s₀ H₀ E) E := by
 intro pins σ H s e s' I h
 obtain ⟨a, C, dx, H', T, rfl, os, bare, un, hok, ea, hT, hz, F, hE⟩ := h
 have I' := Inv.call' (ch := []) I os un hok bare (fun b z => absurd z (by simp))
 exact leave_ok (old := some (T, .none)) I' ea F (fun T' v' z => by cases z; exact ⟨rfl, hT, Nat.le_trans I.sz hz⟩) (by rw [upd_id ea]; exact hE)
theorem okX {x : Str} {st : Stmt} {fd : FuncData} {ps : List Str} {k : Nat} {sp : Sp} (F : Fun K x qual st f fd) (S : FnScope N ps (defScope st)) (len : ∀ vs H Q E, sp vs H Q E → vs.length = ps.length)
  (hbody : ∀ (cdv : Value) (A : Around) (outer : List Env) (s : Shared) (H : Hp) (vs : List V) (Q : VK) (E : XK), Room k (A.deeper (envOfC qual (defScope st) s.heap.objs.size f cdv)) → sp vs H Q E →
   ∃ t, PSs (cxOf (CXr P w) P w K mg base N qual (defScope st) f cdv A outer s H E) (defBody st) t ∧ t { nx := fun _ H' => Q .non H', rt := Q } (start N vs) H) : FnOk P w K mg base (CXr P w) (k + 1) f fd ps sp := by
 obtain ⟨oc, od, kV, doc, pm, an, cdv, ct, osl, rfl, lk, hcd⟩ := F.ex
 exact fn_of lk hcd S len fun A outer s H vs Q E hr hsp => hbody cdv A outer s H vs Q E hr hsp
end
end My
namespace My
open PySem PySem.Spec PySem.W PySem.Calls L2
open PyProof.Rows hiding St
section
variable {X : Cx} {pins : List (Addr × Obj)} {σ : St} {H : Hp} {s : Shared}
theorem goes_ok {M : Model} {A : Around} {E : Value → Shared → Prop} {i : Nat} {x : Str} {pos : Pos} {Q : Unit → Shared → Prop} (I : Inv X pins σ H s) (hN : X.N.Nodup) (hi : X.N[i]? = some x) (hk : X.env.scope.names.lookup x = some .local)
  (h : ∀ s', Inv X pins (σ.set i none) H s' → Q () s') : wpAny M A (do bindName X.env x .none; unbindBehindTheSuite X.env x pos) Q E s := by
 obtain ⟨m, hn, hl⟩ := id I.loc
 have hcls : (X.env.scope.kind == .class || (X.env.scope.kind == .module && X.env.locals != X.env.globals)) = false := by rw [I.ok.kind]; rfl
 have hiσ : i < σ.length := by rw [I.len]; exact (List.getElem?_eq_some_iff.mp hi).1
 have cne := I.cne
 refine wpAny_nameGoes_keeps hk hn hcls fun h' v hn' hs => ?_
 obtain ⟨oL, _, _, hoL, _⟩ := id hn
 refine h _ ⟨I.ok, I.os, I.bare, ⟨fun b o e n hb hx => ?_, fun b o e n hb hx => ?_, I.base.free, fun b o e hx => ?_, I.base.tups, I.base.frzs, I.base.tbls⟩, ⟨_, hn', fun j y v' e1 e2 e3 => ?_⟩, fun y c e => ?_, I.free, I.freeC, fun p hp => ?_, fun b ob e => ?_, by simpa using I.len⟩
 ·exact (hs.2 b (Nat.ne_of_lt (Nat.lt_of_lt_of_le (Heap.lt_size e) I.ok.above))).trans (I.base.keep b o e n hb hx)
 ·obtain ⟨sl, e1⟩ := I.base.slot b o e n hb hx
  exact ⟨sl, (hs.2 b (Nat.ne_of_lt (Nat.lt_of_lt_of_le (Heap.lt_size e) I.ok.above))).trans e1⟩
 ·obtain ⟨o', e1⟩ := I.base.there b o e hx
  exact ⟨o', (hs.2 b (Nat.ne_of_lt (Nat.lt_of_lt_of_le (Heap.lt_size e) I.ok.above))).trans e1⟩
 ·by_cases hj : j = i
  ·subst hj
   rw [List.getElem?_set_self hiσ] at e2
   cases e2
  ·rw [List.getElem?_set_ne (Ne.symm hj)] at e2
   obtain ⟨u', r', q⟩ := hl j y v' e1 e2 e3
   refine ⟨u', r', ?_⟩
   rcases q with ⟨k, e⟩ | ⟨k, c, e, z⟩
   ·refine .inl ⟨k, ?_⟩
    have : y ≠ x := fun e => hj (nodup_ix hN e1 (e ▸ hi))
    simp [this, e]
   ·exact .inr ⟨k, c, e, z.sameBut hs (cne y c e)⟩
 ·obtain ⟨w', z⟩ := I.cell y c e
  exact ⟨w', z.sameBut hs (cne y c e)⟩
 ·obtain ⟨e, n, ne, nf, d⟩ := I.pin p hp
  exact ⟨(hs.2 p.1 ne).trans e, n, ne, nf, d⟩
 ·refine (I.hok b ob e).stay (fun c w' hc q => (hs.2 c ?_).trans q) (fun _ q => q) fun _ _ q => q
  rintro rfl
  rcases hc with rfl | hc
  ·rw [I.free] at e; cases e
  ·rw [I.free] at hc; cases hc
abbrev susX (X : Cx) (a : Addr) : Cx := { X with A := X.A.mark (some (.ref a)), calm := false, xe := fun _ _ => False }
theorem inv_sus (I : Inv X pins σ H s) (a : Addr) : Inv (susX X a) pins σ H s :=
 ⟨⟨I.ok.mod, I.ok.kind, I.ok.glob, I.ok.blt, I.ok.above, I.ok.inj, I.ok.has, I.ok.cab, (fun z => absurd (show false = true from z) Bool.false_ne_true), I.ok.frames, I.ok.stk, I.ok.exf, I.ok.bs, I.ok.bsz, I.ok.noex, I.ok.exfs, I.ok.funs, I.ok.frf⟩, I.os, I.bare, I.base, I.loc, I.cell, I.free, I.freeC, I.pin, I.hok, I.len⟩
theorem inv_unsus {a : Addr} (ok : X.Ok) (I : Inv (susX X a) pins σ H s) : Inv X pins σ H s := ⟨ok, I.os, I.bare, I.base, I.loc, I.cell, I.free, I.freeC, I.pin, I.hok, I.len⟩
end
section
variable {prog : Program} {w : World} {A : Around} {E : Value → Shared → Prop} {s : Shared} {env : Env} {K : Frag}
theorem excm_x {M : Model} {a C J : Addr} {oe : Obj} {Q : Bool → Shared → Prop} (X : K.In s.heap) (c : XCls K C) (j : XCls K J) (hm : mroIn K C (.ref J) = some true) (he : s.heap.get? a = some oe) (hc : oe.cls = .ref C) (hq : Q true s) : wpAny M A (excMatches (.ref a) (.ref J)) Q E s := by
 obtain ⟨bm, N, nm, qq, bs, hdct, sn, sub, ab, col, dd, k0, k1, k2, k3, k5, hJ, T⟩ := x_in X j
 have hcB : (Value.ref J :: bm).contains (.type "BaseException") = true := by rw [List.contains_cons, T.hasType (b := true) (by decide), Bool.or_true]
 have L : Looks M s.heap (isSubtype (.ref C) (.ref J)) true := looks_mroIn X hm
 have f := tc_notTuple
 obtain ⟨hp, g, d, tk, os⟩ := s
 unfold excMatches
 repeat (first | (with_reducible refine wpAny_loadPart_at he ?_; rw [hc]) | with_reducible refine wpAny_loadPart_at hJ ?_ | (with_reducible refine wpAny_isSubtype_exc hJ ?_; rw [hcB]) | with_reducible refine L.at ?_ | wp_step)
 exact hq
theorem handleBy_x {e : Addr} {t : Expr} {n : Str} {b₀ : Stmt} {suite : List Stmt} {pos : Pos} {rest : List ExceptHandler} {Q : Flow → Shared → Prop}
  (h : wpAny (model prog w) (A.mark (some (.ref e))) (eval t env) (fun c s₁ => wpAny (model prog w) (A.mark (some (.ref e))) (excMatches (.ref e) c) (fun b s₂ => b = true ∧
   wpAny (model prog w) (A.mark (some (.ref e))) (setFlight (.ref e) none) (fun _ s₃ => wpAny (model prog w) (A.mark (some (.ref e))) (storeName env n (.ref e)) (fun _ s₄ =>
    wpAny (model prog w) (A.mark (some (.ref e))) (execs (b₀ :: suite) env) (fun f s₅ => wpAny (model prog w) A (do bindName env n .none; unbindBehindTheSuite env n pos) (fun _ s₆ => Q f s₆) (fun _ _ => False) s₅)
     (fun _ _ => False) s₄) (fun _ _ => False) s₃) (fun _ _ => False) s₂) (fun _ _ => False) s₁) (fun _ _ => False) s) :
  wpAny (model prog w) A (handleBy (.ref e) env (.ExceptHandler (some t) (some n) (b₀ :: suite) pos :: rest)) Q E s := by
 refine wpAny_handleBy_cons (codeAny_handlers_test (wpAny_mono h (fun c s₁ h₁ => wpAny_mono h₁ (fun b s₂ h₂ => ?_) fun _ _ z => z.elim) fun _ _ z => z.elim)) (by intro q; cases q)
 obtain ⟨rfl, h₂⟩ := h₂
 refine codeAny_handlers_suite_as (wpAny_mono h₂ (fun _ s₃ h₃ => wpAny_mono h₃ (fun _ s₄ h₄ => wpAny_mono h₄ (fun f s₅ h₅ => ?_) fun _ _ z => z.elim) fun _ _ z => z.elim) fun _ _ z => z.elim)
 exact wpAny_mono h₅ (fun _ _ z => z) fun _ _ z => z.elim
end
def tTryX (K : Frag) (J : Addr) (sp : Sp) (ta : TA) (i : Nat) (ts : Addr → TS) : TS := fun D σ H => ta σ H fun vs H1 => sp vs H1 (fun _ H2 => D.nx σ H2) fun e dx H' => ∃ a C, e = .ref a ∧ H' a = some (exO a C dx false) ∧ XCls K C ∧ mroIn K C (.ref J) = some true ∧
 ts a { nx := fun σ' H'' => D.nx (σ'.set i none) H'', rt := D.rt } (σ.set i (some (.ref a))) H'
structure CalleeX (P : Program) (w : World) (K : Frag) (mg : Str → Option Value) (base : Heap) (k : Nat) (x : Str) (ps : List Str) (sp : Sp) : Prop where
 ex : ∃ (f : Addr) (fd : FuncData), FnOk P w K mg base (CXr P w) k f fd ps sp ∧ Binds K fd ps [] ∧ mg x = some (.ref f) ∧ keepIn K (.ref f) = true
theorem ps_tryX {X : Cx} {x n J : Str} {Ja : Addr} {e : Expr} {es : List Expr} {b₀ : Stmt} {suite : List Stmt} {i k k' : Nat} {ps : List Str} {sp : Sp} {ta : TA} {ts : Addr → TS} {p pos epos jp hpos tpos : Pos} (C : CalleeX X.prog X.w X.K X.mg X.base k x ps sp) (hr : Room k' X.A) (hk : k ≤ k') (ha : PA X.nox (e :: es) ta)
  (hJ : X.mg J = some (.ref Ja)) (xJ : XCls X.K Ja) (hs : ∀ a, PSs (susX X a) (b₀ :: suite) (ts a)) (hi : X.N[i]? = some n) (hN : X.N.Nodup) (hloc : X.env.scope.names.lookup n = some .local := by rfl) (hg : Gl X x := by rfl) (hgJ : Gl X J := by rfl)
  (hst : X.stack = X.env :: X.outer := by rfl) (hfm : X.env.frame = some X.env.locals := by rfl) (hsw : swapsWith (.Call (.Name x p) (e :: es) [] pos) none epos.line X.env = pure false := by rfl)
  (hdb : (x == ("__debug__" : Str)) = false := by decide) (hdJ : (J == ("__debug__" : Str)) = false := by decide) (he : starEach (e :: es) X.env = (false, eval e X.env) :: starEach es X.env := by rfl) (hpl : (backTo pos (starEach es X.env)).any (·.1) = false := by rfl) :
  PS X (.Try [.Expr (.Call (.Name x p) (e :: es) [] pos) epos] [.ExceptHandler (some (.Name J jp)) (some n) (b₀ :: suite) hpos] [] [] tpos) (tTryX X.K Ja sp ta i ts) := by
 intro pins s σ H D I h
 obtain ⟨f, fd, F, b, hm, hkp⟩ := C.ex
 refine wpAny_Try_except (wpAny_execs_cons (wpAny_Expr_any (wpAny_Call_Name_kw (ld_glob I hg hm ?_ hdb)) I.quiet hsw))
 refine PySem.W.callWith_K (h₀ := X.base) I.ok.mod.kin hkp (wpAny_mono (ha pos pins s σ H _ (I.wish _) h) (fun us s1 ⟨vs, H1, I1', r, q⟩ => ⟨I1'.kIn, ?_⟩) fun _ _ z => z.elim) he hpl
 have I1 := I1'.unwish
 have hl : (us ++ []).length = ps.length := by rw [List.append_nil]; exact r.length.symm.trans (F.len _ _ _ _ q)
 have hb := b s1 us I1.kIn hl
 rw [List.append_nil] at hb
 refine wpAny_call (codeAny_mono (F.run X.A X.stack s1 H1 ⟨us, []⟩ us vs _ _ (hr.mono hk) I1.env0 hb r q) fun r s' hq => ?_)
 cases r with
 | ok fl =>
  cases fl with
  | ret u =>
   obtain ⟨v, H2, I2, rv, q2⟩ := I1.after hq
   exact wpAny_execs_nil (wpAny_execs_nil (show SP X pins D .next s' from ⟨σ, H2, I2, q2⟩))
  | next => exact False.elim hq
  | brk => exact False.elim hq
  | cont => exact False.elim hq
 | error ev =>
  obtain ⟨a, C, dx, H', T, rfl, os, bare, un, hok, ea, hT, hz, Fl, a', C', ee, ea', xc, hmr, hts⟩ := hq
  cases ee
  obtain ⟨oe, ovs, ov, e1, e2, _⟩ := exO_get hok ea
  obtain ⟨oe', ovs', ov', e1', e2', _⟩ := exO_get hok ea'
  rw [e1] at e1'
  cases e1'
  rw [e2] at e2'
  cases e2'
  have no : ∀ b ∈ ([] : List Addr), (b ∈ X.ex ∨ X.s₀.heap.objs.size ≤ b) ∧ b ≠ X.env.locals ∧ (∀ x c, X.env.cells.lookup x = some c → c ≠ b) ∧ ∀ p ∈ X.pn ++ pins, p.1 ≠ b := fun b z => absurd z (by simp)
  have I' := Inv.call' (ch := []) I1 os un hok bare no
  refine note_x (base := X.base) (L := X.env.locals) (hst ▸ I'.ok.frames) (hst ▸ I'.stack) hfm Fl (fun T v z => by cases z; rfl) fun h1 T1 hz1 N F1 => flight_x (s := { s' with heap := h1 }) F1 fun h2 k2 F2 => ?_
  rw [← hst] at N
  have na : ∀ b, H' b = none → b ≠ a := fun b q z => by rw [z, ea] at q; cases q
  have mk : ∀ h2, (∀ b o, b ≠ T1 → h1.get? b = some o → h2.get? b = some o) → Fly h2 a C dx (some (T1, .none)) → Inv X pins σ H' { s' with heap := h2 } := fun h2 k2 F2 => by
   have hok2 := noted_hok I' ea (fun T' v' z => by cases z; exact hT) N hz1 k2 F2
   rw [upd_id ea] at hok2
   have nT : ∀ b o, s'.heap.get? b = some o → b ≠ T1 := fun b o e => Nat.ne_of_lt (Nat.lt_of_lt_of_le (Heap.lt_size e) hz1)
   refine Inv.call' (ch := []) I1 (s' := { s' with heap := h2 }) os ⟨fun b o e q hb hx => ?_, fun b o e q hb hx => ?_, un.free, fun b o e hx => ?_, un.tups, un.frzs, un.tbls⟩ hok2 bare no
   ·have g := un.keep b o e q hb hx
    refine k2 b o (nT b o g) (N.keep b o g hb (na b (un.free b o e q hx)) fun T' v' z y => ?_)
    cases z
    exact absurd (Heap.lt_size e) (by rw [y]; exact Nat.not_lt.mpr hz)
   ·obtain ⟨sl, g⟩ := un.slot b o e q hb hx
    obtain ⟨sl2, g2⟩ := N.slot b _ g hb
    exact ⟨sl2, k2 b _ (nT b _ g) g2⟩
   ·obtain ⟨o1, g⟩ := un.there b o e hx
    obtain ⟨o2, g2⟩ := N.there b o1 g
    exact ⟨o2, k2 b _ (nT b _ g) g2⟩
  have I2 := mk h2 k2 F2
  obtain ⟨oe2, vs2, g1, g2, g3, g4, g5⟩ := id F2
  refine handleBy_x (ld_glob (X := susX X a) (inv_sus I2 a) hgJ hJ ?_ hdJ)
  refine excm_x (K := X.K) (s := { s' with heap := h2 }) I2.kIn xc xJ hmr g1 g2 ⟨rfl, flight_x (s := { s' with heap := h2 }) F2 fun h3 k3 F3 => ?_⟩
  have I3 := mk h3 (fun b o z e => k3 b o z (k2 b o z e)) F3
  refine store_ok (X := susX X a) (inv_sus I3 a) hN hi (.inl hloc) (v := .ref a) rfl (fun s4 I4 => ?_) (.inr hloc)
  refine wpAny_mono (hs a pins s4 _ H' _ I4 hts) (fun f s5 q => ?_) fun _ _ z => z
  cases f with
  | next =>
   obtain ⟨σ', H'', I5, q⟩ := q
   exact goes_ok (inv_unsus I.ok I5) hN hi hloc fun s6 I6 => ⟨_, _, I6, q⟩
  | ret u =>
   obtain ⟨v, σ', H'', I5, rv, q⟩ := q
   exact goes_ok (inv_unsus I.ok I5) hN hi hloc fun s6 I6 => ⟨v, _, _, I6, rv, q⟩
  | brk => obtain ⟨_, _, _, q⟩ := q; exact q.elim
  | cont => obtain ⟨_, _, _, q⟩ := q; exact q.elim
end My
namespace My
open PySem PySem.Spec PySem.W PySem.Calls L2
open PyProof.Rows hiding St
theorem bt_ValueError : bootBuiltins "ValueError" = some (.type "ValueError") := by decide +kernel
section
variable {X : Cx}
def mEqX (K : Frag) : R2 := fun x y H Q => ∃ da db, Has K H x da ∧ Has K H y db ∧ SeqAt.shaped da = true ∧ SeqAt.shaped db = true ∧ Q (.bl (PyData.eqv da db)) H
theorem m_eqX (hu : X.A.units + 64 < cLine) : OpR X (compareOp .Eq) (mEqX X.K) := by
 intro pins s σ H x y v u Q I rx ry h
 obtain ⟨da, db, h1, h2, s1, s2, q⟩ := h
 obtain ⟨as, ra⟩ := has_reads I da _ _ h1 rx
 obtain ⟨bs, rb⟩ := has_reads I db _ _ h2 ry
 exact SeqAt.compareEq_shaped ra rb s1 s2 hu ⟨.bl _, H, I, rfl, q⟩
def mInQ (K : Frag) : R2 := fun x y H Q => ∃ (c a : Addr) (us : List V) (ps : List (Nat × Bool)), x = .ref c ∧ y = .ref a ∧ SqT K H a us ∧ PairsAt K H us ps ∧
 ((∃ p : Nat × Bool, SqT K H c [.int (p.1 : Int), .bl p.2] ∧ Q (.bl (ps.any fun r => r == p)) H) ∨ ∃ n : Nat, SqT K H c [.int (n : Int), .non] ∧ Q (.bl false) H)
theorem pair_eqN {pins : List (Addr × Obj)} {σ : St} {H : Hp} {s : Shared} (I : Inv X pins σ H s) {A : Around} (hu : A.units < cLine) {x y : Addr} {a : Nat × Bool} {n : Nat} (hx : SqT X.K H x [.int (a.1 : Int), .bl a.2]) (hy : SqT X.K H y [.int (n : Int), .non]) : SeqAt.EqAt A s (.ref x) (.ref y) false := by
 by_cases e : x = y
 ·subst e
  have := I.tuple_inj hx hy
  simp only [List.cons.injEq, and_true] at this
  cases this.2
 ·obtain ⟨ox, tx, nx, e1, c1, d1⟩ := pairO_of I hx
  obtain ⟨its, rv, ⟨oy, e2, c2, ny, d2⟩, _⟩ := I.tuple hy
  obtain ⟨u1, u2, rfl, r1, r2⟩ := vals2 rv
  obtain ⟨ty, rfl⟩ := (show ∃ t, u1 = Value.int (n : Int) t from r1)
  obtain rfl : u2 = Value.none := r2
  have := SeqAt.EqAt.of_refs e (SeqAt.RcAt.tuples (A := A) (s := s) (e := fun j => if j = 0 then (a.1 : Int) == (n : Int) else false) (items := #[.int (a.1 : Int) tx, .bool a.2]) (items2 := #[.int (n : Int) ty, .none]) ⟨ox, e1, c1, nx, d1⟩ ⟨oy, e2, c2, ny, d2⟩ hu fun j h1 h2 => by
   have h1' : j < 2 := h1
   match j, h1' with
   | 0, _ => exact SeqAt.EqAt.int_int _ _ _ _
   | 1, _ => exact SeqAt.EqAt.bool_none _)
  have e0 : ((List.range (min 2 2)).all (fun j => if j = 0 then (a.1 : Int) == (n : Int) else false) && 2 == 2) = false := by
   rw [show (List.range (min 2 2)) = [0, 1] from rfl]
   simp
  rw [← e0]
  exact this
theorem m_inQ (hu : X.A.units + 64 < cLine) : OpR X (compareOp .In) (mInQ X.K) := by
 intro pins s σ H x y v u Q I rx ry h
 obtain ⟨c, a, us, ps, rfl, rfl, ha, hP, h⟩ := h
 cases rx
 cases ry
 obtain ⟨R, rfl, rfl, hR⟩ := hP.list
 obtain ⟨its, rv, pt, _⟩ := I.tuple ha
 have e : its = (R.map (·.1)).map Value.ref := vals_refs (by rw [List.map_map]; exact rv)
 subst e
 rcases h with ⟨p, hc, q⟩ | ⟨n, hc, q⟩
 ·have hany : ((R.map (·.1)).map Value.ref).toArray.any (atP R p) = ((R.map (·.2)).any fun r => r == p) := by
   rw [List.any_toArray, List.map_map, List.any_map, List.any_map, Bool.eq_iff_iff, List.any_eq_true, List.any_eq_true]
   constructor
   ·rintro ⟨r, hr, e⟩
    exact ⟨r, hr, by have e' : atP R p (.ref r.1) = true := e; rw [atP_eq I hR p hr] at e'; exact e'⟩
   ·rintro ⟨r, hr, e⟩
    exact ⟨r, hr, by show atP R p (.ref r.1) = true; rw [atP_eq I hR p hr]; exact e⟩
  refine SeqAt.in_tupleAt (atP R p) (show s.heap.IsTuple a _ from pt) (fun y hy => ?_) ⟨.bl _, H, I, rfl, by rw [hany]; exact q⟩
  have hy' : y ∈ (R.map (·.1)).map Value.ref := by simpa using hy
  rw [List.map_map] at hy'
  obtain ⟨r, hr, rfl⟩ := List.mem_map.mp hy'
  show SeqAt.EqAt X.A.in1 s (.ref r.1) (.ref c) (atP R p (.ref r.1))
  rw [atP_eq I hR p hr]
  exact pair_eqAtX I (show X.A.units + 1 < cLine by omega) (hR r hr) hc
 ·refine SeqAt.in_tupleAt (fun _ => false) (show s.heap.IsTuple a _ from pt) (fun y hy => ?_) ⟨.bl false, H, I, by show Value.bool _ = Value.bool false; simp, q⟩
  have hy' : y ∈ (R.map (·.1)).map Value.ref := by simpa using hy
  rw [List.map_map] at hy'
  obtain ⟨r, hr, rfl⟩ := List.mem_map.mp hy'
  exact pair_eqN I (show X.A.units + 1 < cLine by omega) (hR r hr) hc
end
section
variable {P : Program} {w : World} {K : PySem.W.Frag} {mg : Str → Option Value} {base : Heap}
theorem Def.calleeX {x : Str} {st : Stmt} {N ps : List Str} {k : Nat} {sp : Sp} (F : Def K mg x st ps) (S : FnScope N ps (defScope st)) (len : ∀ vs H Q E, sp vs H Q E → vs.length = ps.length)
  (hbody : ∀ (f : Addr) (cdv : Value) (A : Around) (outer : List Env) (s : Shared) (H : Hp) (vs : List V) (Q : VK) (E : XK), Room k (A.deeper (envOfC x (defScope st) s.heap.objs.size f cdv)) → sp vs H Q E →
   ∃ σ t, start N vs = σ ∧ PSs (cxOf (CXr P w) P w K mg base N x (defScope st) f cdv A outer s H E) (defBody st) t ∧ t { nx := fun _ H' => Q .non H', rt := Q } σ H) : CalleeX P w K mg base (k + 1) x ps sp := by
 obtain ⟨f, fd, F, b, hm⟩ := F.ex
 refine ⟨f, fd, okX F S len fun cdv A outer s H vs Q E hr h => ?_, .all b, hm, F.kp⟩
 obtain ⟨σ, t, e, ht, q⟩ := hbody f cdv A outer s H vs Q E hr h
 exact ⟨t, ht, by rw [e]; exact q⟩
theorem m_callX {X : Cx} {k k' : Nat} {x : Str} {ps : List Str} {sp : Sp} {t : TA} {e : Expr} {es : List Expr} {p pos : Pos} {E : XK} (C : CalleeX X.prog X.w X.K X.mg X.base k x ps sp) (hx : Passes (CXr X.prog X.w) X E) (hr : Room k' X.A) (hk : k ≤ k') (ha : PA X (e :: es) t) (hg : Gl X x := by rfl)
  (hdb : (x == ("__debug__" : Str)) = false := by decide) (he : starEach (e :: es) X.env = (false, eval e X.env) :: starEach es X.env := by rfl) (hpl : (backTo pos (starEach es X.env)).any (·.1) = false := by rfl) :
  PE X (.Call (.Name x p) (e :: es) [] pos) (tCall sp [] E t) := by
 obtain ⟨f, fd, F, b, hm, kp⟩ := C.ex
 exact pe_call F (hr.mono hk) hg hm kp b .nil hx ha hdb he hpl
end
end My
namespace My
open PySem PySem.Spec PySem.W PySem.Calls L2
open PyProof.Rows hiding St
theorem ps_raiseC {X : Cx} {e : Expr} {te : TE} {E : XK} {pos : Pos} (he : PE X e te) (hx : Raises X E) (hc : X.calm = true) : PS X (.Raise (some e) none pos) (tRaise X.K E te) :=
 fun pins s σ H D I h => ps_raise he hx (I.ok.hd hc) pins s σ H D I h
theorem xcls_mk {K : Frag} {C : Addr} (x : xIn K C = true) (ga : findIn K (.ref C) "__getattribute__" = some (some (.builtin "BaseException.__getattribute__"))) (gt : findIn K (.ref C) "__getattr__" = some none)
  (sa : findIn K (.ref C) "__setattr__" = some (some (.builtin "object.__setattr__"))) (mb : mroIn K C (.type "BaseException") = some true) (mo : mroIn K C (.type "object") = some true) (kp : keepIn K (.ref C) = true)
  (ca : findIn K (.ref C) "__class__" = some (some (.builtin "object.__class__"))) (cg : specialIn K (.builtin "object.__class__") "__get__" = some (some (.builtin "getset_descriptor.__get__"))) (ct : takesIn K (.builtin "object.__class__") = some true) : XCls K C := ⟨x, ga, gt, sa, mb, mo, kp, ca, cg, ct⟩
end My
namespace Kx
open PySem PySem.Spec L2 My
open PyProof.Rows hiding St
def top (i : Nat) : Stmt := PySem.Challenge.pw_manyjudges_k24_barred.main.body.getD i (.Pass ⟨0, 0, 0, 0⟩)
theorem seq_i {t u : TS} {D : Ends} {σ : L2.St} {H : Hp} (h : t { D with nx := u D } σ H) : tSeq t u D σ H := h
end Kx
namespace Kx
open PySem PySem.Spec L2 My
open PyProof.Rows hiding St
set_option compiler.extract_closed false
local macro_rules | `(tactic| walk_at "r1") => `(tactic| first | dsimp only [tIfS, tNewX, sFldX, tFldX, tRaise, tTryX, tRet, tDrop, tBreak, tCont, mV, gv, sv, mSet, mG, tOp, tC, tCons, tNil, tCall, tCB, mPart, tNoPart, tSl, mTup, mLst, mB, mAndV, mOrV, mNotV, tAnd, tOr, tNot, tIf, mBM, mBM0, iSeq, iR1, iEn, mSetC, mFor, mWhile, tComp, tSSI, q_ssi, q_inpl, tLR, q_popi, onBl_mk, onInt_mk, onRef_mk, on1_mk, q_addi, q_adds, q_addr, q_ii, q_ii0, q_eqi, q_eqb, q_eqs, q_eqnn, q_eqnb, q_eqbn, q_eqni, q_eqin, q_eqr, q_inr, q_rept, q_lei, q_leb, q_in, q_ixs, q_ixr, q_sls, q_slr, q_lens, q_lenr, q_listOf, q_tupOf, q_isI, q_app, q_ext2, q_pop, q_mmi, q_mmr, q_ins, q_clr, q_aa, mIsN, tSS, q_ss, CTurn, tTrue, tAsg, gSub, mG2, List.map_cons, List.map_nil, id, cx_K, cc_K, decide_true, decide_false, Bool.not_true, Bool.not_false, if_true, if_false, ite_true, ite_false, reduceIte] | simp only [List.map_cons, List.map_nil, w01, w02, w03, w04, w10, w12, w13, w14, w20, w21, w23, w24, w30, w31, w32, w34, w40, w41, w42, w43, List.append_nil, decide_true, decide_false, Bool.not_true, Bool.not_false, if_true, if_false, Bool.false_eq_true, ite_true, ite_false, reduceIte])
local macro_rules | `(tactic| walk_at "rd") => `(tactic| (repeat (first | dsimp only [tSeq, tNext] | walk_at "r1")); try dsimp only)
local macro_rules | `(tactic| walk_at "rs") => `(tactic| (repeat (walk_at "r1")); try dsimp only)
local macro_rules | `(tactic| walk_at "rp") => `(tactic| (repeat (first | with_reducible refine seq_i ?_ | dsimp only [tNext] | walk_at "r1")); try dsimp only)
section
variable {P : Program} {w : World} {K : PySem.W.Frag} {mg : Str → Option Value} {base : Heap}
def spSo (K : PySem.W.Frag) (n : Nat) : Sp := fun vs H Q _ => ∃ (v : V) (h : Addr) (s : Say) (hs : List Str), vs = [v, .ref h] ∧ SayAt K H v s ∧ s.pieces ≤ n ∧ SqT K H h (hs.map V.str) ∧ Q (.bl (s.so hs)) H
theorem sc_is_so : FnScope ["saying", "held", "kind", "one", "other"] ["saying", "held"] (defScope (top 14)) := ⟨rfl, rfl, rfl, by decide +kernel, rfl, by decide +kernel, by decide +kernel⟩
theorem ok_is_so (D : Def K mg "is_so" (top 14) ["saying", "held"]) : ∀ n : Nat, Callee P w K mg base n "is_so" ["saying", "held"] (spSo K n)
 | 0 => nothing_left D fun vs H Q E h => by
  obtain ⟨v, h, s, hs, _, _, hp, _⟩ := h
  exact absurd s.pieces_pos (by omega)
 | n + 1 => by
  have C_is_so := ok_is_so D n
  refine D.callee sc_is_so (fun vs H Q E h => ?_) fun f cdv A outer s H vs Q E hr h => ?_
  ·obtain ⟨v, h, s, hs, rfl, _⟩ := h
   rfl
  have nd := sc_is_so.nd
  obtain ⟨v, h, s, hs, rfl, hv, hp, hh, q⟩ := h
  refine ⟨[some v, some (.ref h), none, none, none], _, rfl, (pss_cons (m_set 2 nd (m_ix (m_var 0) pe_int (fun _ _ => rfl)))
  (pss_cons (ps_if (m_test (m_eq hr.units) (m_var 2) pe_str (nomark _)) (pss_one (ps_ret (pe_cmpR m_in (m_ix (m_var 0) pe_int (fun _ _ => rfl)) (m_var 1) (by with_unfolding_all rfl)))) pss_nil)
  (pss_cons (ps_if (m_test (m_eq hr.units) (m_var 2) pe_str (nomark _)) (pss_one (ps_ret (m_not (m_call C_is_so hr (by omega) (pa_cons (m_ix (m_var 0) pe_int (fun _ _ => rfl)) (pa_cons (m_var 1) pa_nil)))))) pss_nil)
  (pss_cons (m_set 3 nd (m_call C_is_so hr (by omega) (pa_cons (m_ix (m_var 0) pe_int (fun _ _ => rfl)) (pa_cons (m_var 1) pa_nil))))
  (pss_cons (m_set 4 nd (m_call C_is_so hr (by omega) (pa_cons (m_ix (m_var 0) pe_int (fun _ _ => rfl)) (pa_cons (m_var 1) pa_nil))))
  (pss_cons (ps_if (m_test (m_eq hr.units) (m_var 2) pe_str (nomark _)) (pss_one (ps_ret (m_and (m_var 3) (pe_one (m_var 4))))) pss_nil)
  (pss_cons (ps_if (m_test (m_eq hr.units) (m_var 2) pe_str (nomark _)) (pss_one (ps_ret (m_or (m_var 3) (pe_one (m_var 4))))) pss_nil)
  (pss_one (ps_ret (m_or (m_not (m_var 3)) (pe_one (m_var 4)))))))))))), ?_⟩
  cases s with
  | letter x =>
   obtain ⟨a, rfl, ha⟩ := hv
   walk_at "rp"
   refine ⟨_, _, .inr ha, rfl, ?_⟩
   walk_at "rp"
   refine ⟨_, _, .inr ha, rfl, ?_⟩
   walk_at "rp"
   refine ⟨_, .inr hh, rfl, all_strs hs, ?_⟩
   rw [in_strs]
   exact q
  | neg t =>
   obtain ⟨a, u, rfl, ha, ht⟩ := hv
   walk_at "rp"
   refine ⟨_, _, .inr ha, rfl, ?_⟩
   walk_at "rp"
   refine ⟨_, _, .inr ha, rfl, ?_⟩
   walk_at "rp"
   exact ⟨u, h, t, hs, rfl, ht, by have := hp; simp only [Say.pieces] at this; omega, hh, q⟩
  | bin o t t' =>
   obtain ⟨a, u, u', rfl, ha, ht, ht'⟩ := hv
   have p1 : t.pieces ≤ n ∧ t'.pieces ≤ n := by have := hp; simp only [Say.pieces] at this; omega
   cases o <;>
   ·dsimp only [Op2.word] at ha
    walk_at "rp"
    refine ⟨_, _, .inr ha, rfl, ?_⟩
    walk_at "rp"
    refine ⟨_, _, .inr ha, rfl, ?_⟩
    walk_at "rp"
    refine ⟨u, h, t, hs, rfl, ht, p1.1, hh, ?_⟩
    refine ⟨_, _, .inr ha, rfl, ?_⟩
    refine ⟨u', h, t', hs, rfl, ht', p1.2, hh, ?_⟩
    walk_at "rp"
    simp only [Say.so, Op2.so] at q
    cases e : Say.so hs t <;> rw [e] at q <;> simpa using q
theorem at_ints {ns : List Int} {k : Int} (h0 : 0 ≤ k) (h : k < (ns.length : Int)) : ∃ v : Int, atI (ns.map V.int) k = some (.int v) := by
 have hk : k.toNat < ns.length := by omega
 have ek : k = ((k.toNat : Nat) : Int) := by omega
 have e : atI (ns.map V.int) ((k.toNat : Nat) : Int) = some (.int ns[k.toNat]) := atI_nat (by rw [List.getElem?_map, List.getElem?_eq_getElem hk] <;> rfl)
 rw [← ek] at e
 exact ⟨_, e⟩
theorem at_any {α : Type} {xs : List α} {k : Int} (h0 : 0 ≤ k) (h : k < (xs.length : Int)) : ∃ v, v ∈ xs ∧ atI xs k = some v := by
 have hk : k.toNat < xs.length := by omega
 have ek : k = ((k.toNat : Nat) : Int) := by omega
 have e : atI xs ((k.toNat : Nat) : Int) = some xs[k.toNat] := atI_nat (List.getElem?_eq_getElem hk)
 rw [← ek] at e
 exact ⟨_, List.getElem_mem hk, e⟩
theorem cm {i j : Int} (h : -(2 ^ 64) < i ∧ i < 2 ^ 64) : CMul i j := .inl h
theorem cm2 {i j : Int} (h : -(2 ^ 64) < j ∧ j < 2 ^ 64) : CMul i j := .inr h
def spCell (K : PySem.W.Frag) : Sp := fun vs H Q _ => ∃ (a : Addr) (ns : List Int) (k : Int), vs = [.ref a, .int k] ∧ SqL K H a (ns.map V.int) ∧ ns.length ≤ 5000 ∧ 0 ≤ k ∧ k ≤ 100000 ∧ ∀ r : Int, Q (.int r) H
theorem sc_cell : FnScope ["_law_script", "_law_k", "_law_number"] ["_law_script", "_law_k"] (defScope (top 36)) := ⟨rfl, rfl, rfl, by decide +kernel, rfl, by decide +kernel, by decide +kernel⟩
theorem ok_cell (D : Def K mg "_law_cell" (top 36) ["_law_script", "_law_k"]) (mg_len : mg "len" = none) : Callee P w K mg base 1 "_law_cell" ["_law_script", "_law_k"] (spCell K) := by
 refine D.callee sc_cell (fun vs H Q E h => ?_) fun f cdv A outer s H vs Q E hr h => ?_
 ·obtain ⟨a, ns, k, rfl, _⟩ := h
  rfl
 have nd := sc_cell.nd
 obtain ⟨a, ns, k, rfl, hS, h63, h0, hk, q⟩ := h
 refine ⟨[some (.ref a), some (.int k), none], _, rfl, (pss_cons (ps_if (m_test m_lt (m_var 1) (pe_callB m_len rfl mg_len bt_len (pa_cons (m_var 0) pa_nil)) (nomark _)) (pss_one (ps_ret (m_ix (m_var 0) (m_var 1) (fun _ _ => rfl)))) pss_nil)
  (pss_cons (m_set 2 nd (pe_op m_add (pe_op m_mul (m_var 1) pe_int) pe_int))
  (pss_cons (ps_if (m_test m_gt (pe_callB m_len rfl mg_len bt_len (pa_cons (m_var 0) pa_nil)) pe_int (nomark _)) (pss_one (m_set 2 nd (pe_op m_add (pe_op m_add (pe_op m_mul (pe_op m_mod (m_ix (m_var 0) (pe_op m_mod (m_var 1) (pe_callB m_len rfl mg_len bt_len (pa_cons (m_var 0) pa_nil))) (fun _ _ => rfl)) pe_int) pe_int) (pe_op m_mul (pe_op m_mul (m_var 1) (m_var 1)) pe_int)) pe_int))) pss_nil)
  (pss_one (ps_ret (pe_op m_mod (pe_op m_mul (m_var 2) (m_var 2)) pe_int)))))), ?_⟩
 walk_at "rp"
 refine ⟨_, .inl hS, ?_⟩
 rw [List.length_map]
 have hkk : k * k ≤ 100000 * 100000 := Int.mul_le_mul hk hk h0 (by decide)
 have hkn : 0 ≤ k * k := Int.mul_nonneg h0 h0
 refine ite2 (fun c => ?_) (fun c => ?_)
 ·obtain ⟨v, e⟩ := at_ints h0 (of_decide_eq_true c)
  exact ⟨_, _, .inl hS, e, q v⟩
 ·refine ⟨cm2 (by omega), _, .inl hS, ?_⟩
  rw [List.length_map]
  refine ite2 (fun d => ?_) (fun d => ?_)
  ·have d' : (0 : Int) < (ns.length : Int) := of_decide_eq_true d
   refine ⟨_, .inl hS, ?_⟩
   rw [List.length_map]
   obtain ⟨v, e⟩ := at_ints (ns := ns) (k := k % (ns.length : Int)) (Int.emod_nonneg _ (by omega)) (Int.emod_lt_of_pos _ d')
   refine ⟨d', _, _, .inl hS, e, ?_⟩
   walk_at "rp"
   exact ⟨by decide, cm2 (by omega), cm (by omega), cm (by omega), cm (by omega), by decide, q _⟩
  ·walk_at "rp"
   exact ⟨cm (by omega), by decide, q _⟩
def spPick (K : PySem.W.Frag) : Sp := fun vs H Q _ => ∃ (a : Addr) (ns : List Int) (k m : Int), vs = [.ref a, .int k, .int m] ∧ SqL K H a (ns.map V.int) ∧ ns.length ≤ 5000 ∧ 0 ≤ k ∧ k ≤ 100000 ∧ 0 < m ∧ ∀ r : Int, 0 ≤ r → r < m → Q (.int r) H
theorem sc_pick : FnScope ["_law_script", "_law_k", "_law_many", "_law_number"] ["_law_script", "_law_k", "_law_many"] (defScope (top 37)) := ⟨rfl, rfl, rfl, by decide +kernel, rfl, by decide +kernel, by decide +kernel⟩
theorem ok_pick (D : Def K mg "_law_pick" (top 37) ["_law_script", "_law_k", "_law_many"]) (C_law_cell : Callee P w K mg base 1 "_law_cell" ["_law_script", "_law_k"] (spCell K)) : Callee P w K mg base 2 "_law_pick" ["_law_script", "_law_k", "_law_many"] (spPick K) := by
 refine D.callee sc_pick (fun vs H Q E h => ?_) fun f cdv A outer s H vs Q E hr h => ?_
 ·obtain ⟨a, ns, k, m, rfl, _⟩ := h
  rfl
 have nd := sc_pick.nd
 obtain ⟨a, ns, k, m, rfl, hS, h63, h0, hk, hm, q⟩ := h
 refine ⟨[some (.ref a), some (.int k), some (.int m), none], _, rfl, (pss_cons (m_set 3 nd (pe_op m_add (pe_op m_mul (pe_op m_mod (m_call C_law_cell hr (by omega) (pa_cons (m_var 0) (pa_cons (m_var 1) pa_nil))) pe_int) (pe_op m_add pe_int (pe_op m_mul pe_int (m_var 1)))) (pe_op m_mul pe_int (m_var 1))))
  (pss_one (ps_ret (pe_op m_mod (pe_op m_fdiv (pe_op m_mod (m_var 3) pe_int) pe_int) (m_var 2))))), ?_⟩
 walk_at "rp"
 refine ⟨a, ns, k, rfl, hS, h63, h0, hk, fun r => ?_⟩
 walk_at "rp"
 exact ⟨by decide, cm (by omega), cm (by omega), cm (by omega), by decide, ⟨by decide, by decide⟩, hm, q _ (Int.emod_nonneg _ (by omega)) (Int.emod_lt_of_pos _ hm)⟩
def spJSo (K : PySem.W.Frag) (n : Nat) : Sp := fun vs H Q _ => ∃ (v : V) (h : Addr) (s : Say) (hs : List Str), vs = [v, .ref h] ∧ SayAt K H v s ∧ s.pieces ≤ n ∧ SqT K H h (hs.map V.str) ∧ Q (.bl (s.so hs)) H
theorem sc_jso : FnScope ["_law_saying_here", "_law_held", "_law_one", "_law_other"] ["_law_saying_here", "_law_held"] (defScope (top 44)) := ⟨rfl, rfl, rfl, by decide +kernel, rfl, by decide +kernel, by decide +kernel⟩
theorem ok_jso (D : Def K mg "_law_so" (top 44) ["_law_saying_here", "_law_held"]) : ∀ n : Nat, Callee P w K mg base n "_law_so" ["_law_saying_here", "_law_held"] (spJSo K n)
 | 0 => nothing_left D fun vs H Q E h => by
  obtain ⟨v, h, s, hs, _, _, hp, _⟩ := h
  exact absurd s.pieces_pos (by omega)
 | n + 1 => by
  have C_law_so := ok_jso D n
  refine D.callee sc_jso (fun vs H Q E h => ?_) fun f cdv A outer s H vs Q E hr h => ?_
  ·obtain ⟨v, h, s, hs, rfl, _⟩ := h
   rfl
  have nd := sc_jso.nd
  obtain ⟨v, h, s, hs, rfl, hv, hp, hh, q⟩ := h
  refine ⟨[some v, some (.ref h), none, none], _, rfl, (pss_cons (ps_if (m_test (m_eq hr.units) (m_ix (m_var 0) pe_int (fun _ _ => rfl)) pe_str (nomark _)) (pss_one (ps_ret (pe_cmpR m_in (m_ix (m_var 0) pe_int (fun _ _ => rfl)) (m_var 1) (by with_unfolding_all rfl)))) pss_nil)
  (pss_cons (ps_if (m_test (m_eq hr.units) (m_ix (m_var 0) pe_int (fun _ _ => rfl)) pe_str (nomark _)) (pss_one (ps_ret (m_not (m_call C_law_so hr (by omega) (pa_cons (m_ix (m_var 0) pe_int (fun _ _ => rfl)) (pa_cons (m_var 1) pa_nil)))))) pss_nil)
  (pss_cons (m_set 2 nd (m_call C_law_so hr (by omega) (pa_cons (m_ix (m_var 0) pe_int (fun _ _ => rfl)) (pa_cons (m_var 1) pa_nil))))
  (pss_cons (m_set 3 nd (m_call C_law_so hr (by omega) (pa_cons (m_ix (m_var 0) pe_int (fun _ _ => rfl)) (pa_cons (m_var 1) pa_nil))))
  (pss_cons (ps_if (m_test (m_eq hr.units) (m_ix (m_var 0) pe_int (fun _ _ => rfl)) pe_str (nomark _)) (pss_one (ps_ret (m_and (m_var 2) (pe_one (m_var 3))))) pss_nil)
  (pss_cons (ps_if (m_test (m_eq hr.units) (m_ix (m_var 0) pe_int (fun _ _ => rfl)) pe_str (nomark _)) (pss_one (ps_ret (m_or (m_var 2) (pe_one (m_var 3))))) pss_nil)
  (pss_one (ps_ret (m_or (m_var 3) (pe_one (m_not (m_var 2)))))))))))), ?_⟩
  cases s with
  | letter x =>
   obtain ⟨a, rfl, ha⟩ := hv
   walk_at "rp"
   refine ⟨_, _, .inr ha, rfl, ?_⟩
   walk_at "rp"
   refine ⟨_, _, .inr ha, rfl, ?_⟩
   walk_at "rp"
   refine ⟨_, .inr hh, rfl, all_strs hs, ?_⟩
   rw [in_strs]
   exact q
  | neg t =>
   obtain ⟨a, u, rfl, ha, ht⟩ := hv
   walk_at "rp"
   refine ⟨_, _, .inr ha, rfl, ?_⟩
   walk_at "rp"
   refine ⟨_, _, .inr ha, rfl, ?_⟩
   walk_at "rp"
   refine ⟨_, _, .inr ha, rfl, ?_⟩
   walk_at "rp"
   exact ⟨u, h, t, hs, rfl, ht, by have := hp; simp only [Say.pieces] at this; omega, hh, q⟩
  | bin o t t' =>
   obtain ⟨a, u, u', rfl, ha, ht, ht'⟩ := hv
   have p1 : t.pieces ≤ n ∧ t'.pieces ≤ n := by have := hp; simp only [Say.pieces] at this; omega
   cases o with
   | con =>
    dsimp only [Op2.word] at ha
    walk_at "rp"
    refine ⟨_, _, .inr ha, rfl, ?_⟩
    walk_at "rp"
    refine ⟨_, _, .inr ha, rfl, ?_⟩
    walk_at "rp"
    refine ⟨_, _, .inr ha, rfl, ?_⟩
    refine ⟨u, h, t, hs, rfl, ht, p1.1, hh, ?_⟩
    refine ⟨_, _, .inr ha, rfl, ?_⟩
    refine ⟨u', h, t', hs, rfl, ht', p1.2, hh, ?_⟩
    refine ⟨_, _, .inr ha, rfl, ?_⟩
    walk_at "rp"
    simp only [Say.so, Op2.so] at q
    cases e : Say.so hs t <;> rw [e] at q <;> simpa using q
   | dis =>
    dsimp only [Op2.word] at ha
    walk_at "rp"
    refine ⟨_, _, .inr ha, rfl, ?_⟩
    walk_at "rp"
    refine ⟨_, _, .inr ha, rfl, ?_⟩
    walk_at "rp"
    refine ⟨_, _, .inr ha, rfl, ?_⟩
    refine ⟨u, h, t, hs, rfl, ht, p1.1, hh, ?_⟩
    refine ⟨_, _, .inr ha, rfl, ?_⟩
    refine ⟨u', h, t', hs, rfl, ht', p1.2, hh, ?_⟩
    refine ⟨_, _, .inr ha, rfl, ?_⟩
    walk_at "rp"
    refine ⟨_, _, .inr ha, rfl, ?_⟩
    walk_at "rp"
    simp only [Say.so, Op2.so] at q
    cases e : Say.so hs t <;> rw [e] at q <;> simpa using q
   | imp =>
    dsimp only [Op2.word] at ha
    walk_at "rp"
    refine ⟨_, _, .inr ha, rfl, ?_⟩
    walk_at "rp"
    refine ⟨_, _, .inr ha, rfl, ?_⟩
    walk_at "rp"
    refine ⟨_, _, .inr ha, rfl, ?_⟩
    refine ⟨u, h, t, hs, rfl, ht, p1.1, hh, ?_⟩
    refine ⟨_, _, .inr ha, rfl, ?_⟩
    refine ⟨u', h, t', hs, rfl, ht', p1.2, hh, ?_⟩
    refine ⟨_, _, .inr ha, rfl, ?_⟩
    walk_at "rp"
    refine ⟨_, _, .inr ha, rfl, ?_⟩
    walk_at "rp"
    simp only [Say.so, Op2.so] at q
    cases e : Say.so hs t <;> cases e' : Say.so hs t' <;> rw [e, e'] at q <;> simpa using q
theorem str_len (x y : Str) : (x ++ y).length = x.length + y.length := by
 show (x.cps ++ y.cps).size = _
 exact Array.size_append
theorem lets_len : (Str.ofString "abcdefghijklmnopqrstuvwxyz").cps.toList.length = 26 := by decide +kernel
theorem lets_len' : (Str.ofString "abcdefghijklmnopqrstuvwxyz").length = 26 := by decide +kernel
theorem q_len : (Str.ofString "q").length = 1 := by decide +kernel
theorem lets_ok : PyData.strOk (Str.ofString "abcdefghijklmnopqrstuvwxyz") = true := by decide +kernel
theorem q_ok : PyData.strOk (Str.ofString "q") = true := by decide +kernel
theorem none_ok : PyData.strOk (Str.ofString "") = true := by decide +kernel
theorem sl24 {n : Nat} (h : n ≤ 1000) : n ≤ sizeLine := Nat.le_of_lt (small1000 h)
def spNames (K : PySem.W.Frag) : Sp := fun vs H Q _ => ∃ (a : Addr) (ns : List Int) (k m : Int), vs = [.ref a, .int k, .int m] ∧ SqL K H a (ns.map V.int) ∧ ns.length ≤ 5000 ∧ 0 ≤ k ∧ k ≤ 1000 ∧ 1 ≤ m ∧ m ≤ 5 ∧
 ∀ (p : Addr) (H' : Hp) (xs : List Str), H p = none → Same H H' → H' p = some (.lst (xs.map V.str)) → (xs.length : Int) = m → (∀ x ∈ xs, Nm x) → Q (.ref p) H'
theorem sc_names : FnScope ["_law_script", "_law_k", "_law_many", "_law_letters_here", "_law_word", "_law_j", "_law_at", "_law_first", "_law_names_here", "_law_name"] ["_law_script", "_law_k", "_law_many"] (defScope (top 38)) := ⟨rfl, rfl, rfl, by decide +kernel, rfl, by decide +kernel, by decide +kernel⟩
theorem ok_jnames (D : Def K mg "_law_names" (top 38) ["_law_script", "_law_k", "_law_many"]) (C_law_pick : Callee P w K mg base 2 "_law_pick" ["_law_script", "_law_k", "_law_many"] (spPick K)) (mg_len : mg "len" = none) (mg_range : mg "range" = none) : Callee P w K mg base 3 "_law_names" ["_law_script", "_law_k", "_law_many"] (spNames K) := by
 refine D.callee sc_names (fun vs H Q E h => ?_) fun f cdv A outer s H vs Q E hr h => ?_
 ·obtain ⟨a, ns, k, m, rfl, _⟩ := h
  rfl
 have nd := sc_names.nd
 obtain ⟨a, ns, k, m, rfl, hS, h63, h0, hk, hm, hm5, q⟩ := h
 refine ⟨[some (.ref a), some (.int k), some (.int m), none, none, none, none, none, none, none], _, rfl, (pss_cons (m_set 3 nd pe_str)
  (pss_cons (m_set 4 nd pe_str)
  (pss_cons (m_for PassesOwn.never rfl (m_range1 rfl mg_range (pa_cons (m_call C_law_pick hr (by omega) (pa_cons (m_var 0) (pa_cons (m_var 1) (pa_cons pe_int pa_nil)))) pa_nil)) (m_tg 5 nd) (pss_one (m_set 4 nd (pe_op m_add (m_var 4) (m_ix (m_var 3) (m_call C_law_pick hr (by omega) (pa_cons (m_var 0) (pa_cons (pe_op m_add (pe_op m_add (m_var 1) (pe_op m_mul pe_int (m_var 5))) pe_int) (pa_cons pe_int pa_nil)))) (fun _ _ => rfl))))))
  (pss_cons (m_set 6 nd (m_call C_law_pick hr (by omega) (pa_cons (m_var 0) (pa_cons (pe_op m_add (m_var 1) pe_int) (pa_cons (pe_op m_add (pe_callB m_len rfl mg_len bt_len (pa_cons (m_var 4) pa_nil)) pe_int) pa_nil)))))
  (pss_cons (m_set 7 nd (m_call C_law_pick hr (by omega) (pa_cons (m_var 0) (pa_cons (pe_op m_add (m_var 1) pe_int) (pa_cons pe_int pa_nil)))))
  (pss_cons (m_set 8 nd (m_lst pa_nil))
  (pss_cons (m_for PassesOwn.never rfl (m_range1 rfl mg_range (pa_cons (m_var 2) pa_nil)) (m_tg 5 nd) (pss_cons (m_set 9 nd (pe_op m_add (pe_op m_add (m_slice (m_var 4) po_none (m_part (m_var 6))) (m_ix (m_var 3) (pe_op m_mod (pe_op m_add (m_var 7) (pe_op m_mul pe_int (m_var 5))) pe_int) (fun _ _ => rfl))) (m_slice (m_var 4) (m_part (m_var 6)) po_none)))
  (pss_cons (ps_if (m_test m_in (m_var 9) (m_lst (pa_cons pe_str (pa_cons pe_str (pa_cons pe_str (pa_cons pe_str (pa_cons pe_str (pa_cons pe_str (pa_cons pe_str pa_nil)))))))) (by with_unfolding_all rfl)) (pss_one (m_set 9 nd (pe_op m_add (m_var 9) pe_str))) pss_nil)
  (pss_one (ps_expr (m_bm PySem.F.slot_list_append PySem.F.type_list_append m_app (m_var 8) (pa_cons (m_var 9) pa_nil)))))))
  (pss_one (ps_ret (m_var 8)))))))))), ?_⟩
 walk_at "rp"
 refine ⟨a, ns, k, 5, rfl, hS, h63, h0, by omega, by decide, fun r r0 r6 => ?_⟩
 walk_at "rp"
 refine ⟨⟨by omega, by omega⟩, ?_⟩
 refine loop_range (fun i σ H' => ∃ (word : Str) (jv : Option V), σ = [some (.ref a), some (.int k), some (.int m), some (.str "abcdefghijklmnopqrstuvwxyz"), some (.str word), jv, none, none, none, none] ∧ H' = H ∧ word.length = i ∧ i ≤ 4 ∧ PyData.strOk word = true) ⟨_, none, rfl, rfl, rfl, by decide, none_ok⟩ ?_ ?_
 ·rintro i σ H' hi ⟨word, jv, rfl, rfl, hw, hi5, hok⟩
  walk_at "rp"
  refine ⟨cm (by omega), a, ns, _, 26, rfl, hS, h63, by omega, by omega, by decide, fun r' r0' r21 => ?_⟩
  walk_at "rp"
  obtain ⟨c, hc, ec⟩ := at_any (xs := (Str.ofString "abcdefghijklmnopqrstuvwxyz").cps.toList) r0' (by rw [lets_len]; exact r21)
  refine ⟨by rw [lets_len']; exact sl24 (by decide), c, ec, ?_, ?_⟩
  ·show word.length + 1 ≤ sizeLine
   exact sl24 (by omega)
  ·refine ⟨_, _, rfl, trivial, ?_, by omega, sok_app hok (sok_one lets_ok hc)⟩
   rw [str_len, hw]
   rfl
 ·rintro σ H' ⟨word, jv, rfl, rfl, hw, hw5, hok⟩
  walk_at "rp"
  refine ⟨sl24 (by omega), a, ns, k + 2, _, rfl, hS, h63, by omega, by omega, by omega, fun at_ t0 tl => ?_⟩
  walk_at "rp"
  refine ⟨a, ns, k + 3, 26, rfl, hS, h63, by omega, by omega, by decide, fun first f0 f21 => ?_⟩
  walk_at "rp"
  refine ⟨sl24 (by simp), fun D H1 n1 s1 e1 => ?_⟩
  refine ⟨⟨by omega, by omega⟩, ?_⟩
  refine loop_range (fun i σ H2 => ∃ (xs : List Str) (jv nv : Option V), σ = [some (.ref a), some (.int k), some (.int m), some (.str "abcdefghijklmnopqrstuvwxyz"), some (.str word), jv, some (.int at_), some (.int first), some (.ref D), nv] ∧ xs.length = i ∧ (∀ x ∈ xs, Nm x) ∧ H2 D = some (.lst (xs.map V.str)) ∧ Same H' H2) ⟨[], _, _, rfl, rfl, by simp, e1, s1⟩ ?_ ?_
  ·rintro i σ H2 hi ⟨xs, jv, nv, rfl, hl, hx, e2, s2⟩
   walk_at "rp"
   obtain ⟨c2, hc2, ec⟩ := at_any (xs := (Str.ofString "abcdefghijklmnopqrstuvwxyz").cps.toList) (k := (first + 5 * (0 + (i : Int))) % 26) (Int.emod_nonneg _ (by decide)) (by rw [lets_len]; exact Int.emod_lt_of_pos _ (by decide))
   have b1 := Txt.slice_le word none (some at_)
   have b2 := Txt.slice_le word (some at_) none
   have b3 : (Txt.slice word none (some at_) ++ (⟨#[c2]⟩ : Str)).length ≤ 6 := by
    rw [str_len]
    show (Txt.slice word none (some at_)).length + 1 ≤ 6
    omega
   refine ⟨sl24 (by omega), cm (by omega), (by decide), (by rw [lets_len']; exact sl24 (by decide)), c2, ec, sl24 (by show (Txt.slice word none (some at_)).length + 1 ≤ 1000; omega), sl24 (by omega), sl24 (by omega), ?_⟩
   have l4 : (Txt.slice word none (some at_) ++ (⟨#[c2]⟩ : Str) ++ Txt.slice word (some at_) none).length ≤ 10 := by rw [str_len]; omega
   have o4 : PyData.strOk (Txt.slice word none (some at_) ++ (⟨#[c2]⟩ : Str) ++ Txt.slice word (some at_) none) = true := sok_app (sok_app (sok_slice hok _ _) (sok_one lets_ok hc2)) (sok_slice hok _ _)
   generalize Txt.slice word none (some at_) ++ (⟨#[c2]⟩ : Str) ++ Txt.slice word (some at_) none = nm at l4 o4
   refine ⟨sl24 (by simp), fun L H3 n3 s3 e3 => ?_⟩
   refine ⟨_, .inl (SqL.of e3), rfl, rfl, ?_⟩
   walk_at "rp"
   refine ite2 (fun c => ?_) (fun c => ?_)
   ·refine ⟨sl24 (by rw [q_len]; omega), ⟨_, _, rfl, s3 _ _ e2⟩, _, s3 _ _ e2, by rw [List.length_map, sizeLine_eq]; omega, xs ++ [nm ++ Str.ofString "q"], _, _, rfl, by rw [List.length_append, hl]; rfl, fun x hx' => ?_, ?_, same_upd (s2.trans s3) n1 _⟩
    ·rcases List.mem_append.mp hx' with z | z
     ·exact hx x z
     ·rw [List.mem_singleton.mp z]
      exact ⟨by rw [str_len, q_len]; omega, sok_app o4 q_ok⟩
    ·rw [upd_same, List.map_append]
     rfl
   ·refine ⟨⟨_, _, rfl, s3 _ _ e2⟩, _, s3 _ _ e2, by rw [List.length_map, sizeLine_eq]; omega, xs ++ [nm], _, _, rfl, by rw [List.length_append, hl]; rfl, fun x hx' => ?_, ?_, same_upd (s2.trans s3) n1 _⟩
    ·rcases List.mem_append.mp hx' with z | z
     ·exact hx x z
     ·rw [List.mem_singleton.mp z]
      exact ⟨by omega, o4⟩
    ·rw [upd_same, List.map_append]
     rfl
  ·rintro σ H2 ⟨xs, jv, nv, rfl, hl, hx, e2, s2⟩
   walk_at "rp"
   exact q D H2 xs n1 s2 e2 (by rw [hl]; omega) hx
theorem same_new_none {H H' : Hp} {p : Addr} (s : Same H H') (n : H' p = none) : H p = none := by
 cases e : H p with
 | none => rfl
 | some o => rw [s _ _ e] at n; cases n
theorem allL_take {ts : List Say} {i : Nat} {t : Say} (h : ts[i]? = some t) : allL (ts.take (i + 1)) = allL (ts.take i) ++ t.letters := by
 rw [List.take_add_one, h, allL_app]
 simp [allL]
def spJLetters (K : PySem.W.Frag) (n : Nat) : Sp := fun vs H Q _ => ∃ (v : V) (s : Say), vs = [v] ∧ SayAt K H v s ∧ s.pieces ≤ n ∧ s.pieces ≤ 1000 ∧ ∀ (p : Addr) (H' : Hp), H p = none → Same H H' → H' p = some (.lst (s.letters.map V.str)) → Q (.ref p) H'
theorem sc_jletters : FnScope ["_law_saying_here", "_law_found", "_law_part"] ["_law_saying_here"] (defScope (top 45)) := ⟨rfl, rfl, rfl, by decide +kernel, rfl, by decide +kernel, by decide +kernel⟩
theorem ok_jletters (D : Def K mg "_law_letters" (top 45) ["_law_saying_here"]) : ∀ n : Nat, Callee P w K mg base n "_law_letters" ["_law_saying_here"] (spJLetters K n)
 | 0 => nothing_left D fun vs H Q E h => by
  obtain ⟨v, s, _, _, hp, _⟩ := h
  exact absurd s.pieces_pos (by omega)
 | n + 1 => by
  have C_law_letters := ok_jletters D n
  refine D.callee sc_jletters (fun vs H Q E h => ?_) fun f cdv A outer s H vs Q E hr h => ?_
  ·obtain ⟨v, s, rfl, _⟩ := h
   rfl
  have nd := sc_jletters.nd
  obtain ⟨v, s, rfl, hv, hp, hp2, q⟩ := h
  refine ⟨[some v, none, none], _, rfl, (pss_cons (ps_if (m_test (m_eq hr.units) (m_ix (m_var 0) pe_int (fun _ _ => rfl)) pe_str (nomark _)) (pss_one (ps_ret (m_lst (pa_cons (m_ix (m_var 0) pe_int (fun _ _ => rfl)) pa_nil)))) pss_nil)
  (pss_cons (m_set 1 nd (m_lst pa_nil))
  (pss_cons (m_for PassesOwn.never rfl (pi_seq (m_slice (m_var 0) (m_part pe_int) po_none)) (m_tg 2 nd) (pss_one (m_set 1 nd (pe_op m_add (m_var 1) (m_call C_law_letters hr (by omega) (pa_cons (m_var 2) pa_nil))))))
  (pss_one (ps_ret (m_var 1)))))), ?_⟩
  by_cases hs : s.subs = []
  ·cases s with
   | letter x =>
    obtain ⟨a, rfl, ha⟩ := hv
    walk_at "rp"
    refine ⟨_, _, .inr ha, rfl, ?_⟩
    walk_at "rp"
    refine ⟨_, _, .inr ha, rfl, ?_⟩
    walk_at "rp"
    exact ⟨sl24 (by simp), fun p H1 n1 s1 e1 => q p H1 n1 s1 e1⟩
   | neg t => simp [Say.subs] at hs
   | bin o t t' => simp [Say.subs] at hs
  ·obtain ⟨a, wd, us, rfl, ha, hw, hl, hl2, hu⟩ := say_node hv hs
   walk_at "rp"
   refine ⟨_, _, .inr ha, at_head _ _, ?_⟩
   walk_at "rp"
   rw [hw]
   walk_at "rp"
   refine ⟨sl24 (by simp), fun r H0 n0 s0 e0 => ?_⟩
   refine .inr ⟨_, (same_tups s0).sqT ha, fun p H1 s1 h1 => .inr ⟨⟨_, h1⟩, ?_⟩⟩
   rw [cut_tail] at h1
   refine loop_tup (xs := us) (fun i σ H2 => ∃ (r : Addr) (iv : Option V), σ = [some (.ref a), some (.ref r), iv] ∧ H r = none ∧ H2 r = some (.lst ((((s.subs.take i).map Say.letters).flatten).map V.str)) ∧ Same H H2 ∧ Same H1 H2 ∧ i ≤ us.length) ⟨r, none, rfl, n0, s1 _ _ e0, s0.trans s1, Same.refl _, Nat.zero_le _⟩ ?_ ?_ ?_
   ·rintro i σ H2 _ ⟨r, iv, rfl, _, _, _, s2, _⟩
    exact (same_tups s2).sqT h1
   ·rintro i x σ H2 hx ⟨r, iv, rfl, nr, e2, s2, s2', hi⟩
    obtain ⟨t, ht, sv, pc⟩ := hu i x hx
    walk_at "rp"
    refine ⟨x, t, rfl, sv.mono (same_tups s2), by omega, by omega, fun z H3 n3 s3 e3 => ?_⟩
    walk_at "rp"
    have b1 := flat_len (s.subs.take i)
    have b2 := take_sum Say.pieces s.subs i
    have b3 := subs_pieces s
    have b4 := letters_len t
    refine .inl ⟨_, _, s3 _ _ e2, e3, by rw [List.length_map, List.length_map, sizeLine_eq]; omega, fun r2 H4 n4 s4 e4 => ⟨r2, some x, rfl, same_new_none (s2.trans s3) n4, ?_, s2.trans (s3.trans s4), s2'.trans (s3.trans s4), (List.getElem?_eq_some_iff.mp hx).1⟩⟩
    rw [e4, List.take_add_one, ht]
    simp
   ·rintro σ H2 ⟨r, iv, rfl, nr, e2, s2, _, _⟩
    walk_at "rp"
    rw [hl, List.take_length, ← subs_letters hs] at e2
    exact q r H2 nr s2 e2
def spJSaying (K : PySem.W.Frag) (n : Nat) : Sp := fun vs H Q _ => ∃ (a : Addr) (ns : List Int) (k : Int) (m : Nat) (b : Addr) (xs : List Str), vs = [.ref a, .int k, .int (m : Int), .ref b] ∧ SqL K H a (ns.map V.int) ∧ ns.length ≤ 5000 ∧ 0 ≤ k ∧ (k + 4) * 3 ^ m ≤ 90000 ∧ m < n ∧
 (SqL K H b (xs.map V.str) ∨ SqT K H b (xs.map V.str)) ∧ 0 < xs.length ∧ xs.length ≤ 100 ∧ ∀ (v : V) (H' : Hp) (s : Say), Same H H' → SayAt K H' v s → s.pieces + 1 ≤ 2 ^ (m + 1) → (∀ x ∈ s.letters, x ∈ xs) → Q v H'
theorem seq_same {H H' : Hp} {b : Addr} {xs : List V} (s : Same H H') (h : SqL K H b xs ∨ SqT K H b xs) : SqL K H' b xs ∨ SqT K H' b xs := h.imp s.seq (same_tups s).sqT
theorem at_strs {xs : List Str} {k : Int} (h0 : 0 ≤ k) (h : k < (xs.length : Int)) : ∃ x : Str, x ∈ xs ∧ atI (xs.map V.str) k = some (.str x) := by
 obtain ⟨v, hv, e⟩ := at_any (xs := xs.map V.str) h0 (by rw [List.length_map]; exact h)
 obtain ⟨x, hx, rfl⟩ := List.mem_map.mp hv
 exact ⟨x, hx, e⟩
theorem deep_k {k : Int} {m : Nat} {c : Int} (h0 : 0 ≤ k) (h : (k + 4) * 3 ^ (m + 1) ≤ 90000) (hc : c ≤ 8) : (3 * k + c + 4) * 3 ^ m ≤ 90000 := by
 have e : (k + 4) * 3 ^ (m + 1) = (3 * k + 12) * 3 ^ m := by
  rw [Int.pow_succ, show (3 : Int) ^ m * 3 = 3 * 3 ^ m from Int.mul_comm _ _, ← Int.mul_assoc]
  congr 1
  omega
 rw [e] at h
 exact Int.le_trans (Int.mul_le_mul_of_nonneg_right (by omega) (Int.pow_nonneg (by decide))) h
theorem deep_one {k : Int} {m : Nat} (h0 : 0 ≤ k) (h : (k + 4) * 3 ^ m ≤ 90000) : k + 4 ≤ 90000 := by
 have h1 : (1 : Int) ≤ 3 ^ m := by
  have := Int.pow_pos (n := (3 : Int)) (m := m) (by decide)
  omega
 have h2 := Int.mul_le_mul_of_nonneg_left h1 (show (0 : Int) ≤ k + 4 by omega)
 omega
theorem sc_jsaying : FnScope ["_law_script", "_law_k", "_law_deep", "_law_names_here", "_law_way", "_law_one", "_law_other"] ["_law_script", "_law_k", "_law_deep", "_law_names_here"] (defScope (top 39)) := ⟨rfl, rfl, rfl, by decide +kernel, rfl, by decide +kernel, by decide +kernel⟩
theorem ok_jsaying (D : Def K mg "_law_saying" (top 39) ["_law_script", "_law_k", "_law_deep", "_law_names_here"]) (C_law_pick : Callee P w K mg base 2 "_law_pick" ["_law_script", "_law_k", "_law_many"] (spPick K)) (mg_len : mg "len" = none) :
  ∀ n : Nat, Callee P w K mg base (n + 3) "_law_saying" ["_law_script", "_law_k", "_law_deep", "_law_names_here"] (spJSaying K n)
 | 0 => callee_mono (nothing_left D fun vs H Q E h => by
  obtain ⟨a, ns, k, m, b, xs, _, _, _, _, _, h2, _⟩ := h
  omega) (Nat.zero_le _)
 | n + 1 => by
  have C_law_saying := ok_jsaying D C_law_pick mg_len n
  refine D.callee sc_jsaying (fun vs H Q E h => ?_) fun f cdv A outer s H vs Q E hr h => ?_
  ·obtain ⟨a, ns, k, m, b, xs, rfl, _⟩ := h
   rfl
  have nd := sc_jsaying.nd
  obtain ⟨a, ns, k, m, b, xs, rfl, hS, h63, h0, hk, hm, hb, hx0, hx, q⟩ := h
  have hk1 := deep_one h0 hk
  refine ⟨[some (.ref a), some (.int k), some (.int (m : Int)), some (.ref b), none, none, none], _, rfl, (pss_cons (m_set 4 nd (m_call C_law_pick hr (by omega) (pa_cons (m_var 0) (pa_cons (m_var 1) (pa_cons pe_int pa_nil)))))
  (pss_cons (ps_if (PW.pt (pw_or (m_test (m_eq hr.units) (m_var 2) pe_int (nomark _)) (pw_or1 (m_test (m_eq hr.units) (m_var 4) pe_int (nomark _))))) (pss_one (ps_ret (m_tup (pa_cons pe_str (pa_cons (m_ix (m_var 3) (m_call C_law_pick hr (by omega) (pa_cons (m_var 0) (pa_cons (pe_op m_add (m_var 1) pe_int) (pa_cons (pe_callB m_len rfl mg_len bt_len (pa_cons (m_var 3) pa_nil)) pa_nil)))) (fun _ _ => rfl)) pa_nil))))) pss_nil)
  (pss_cons (m_set 5 nd (m_call C_law_saying hr (by omega) (pa_cons (m_var 0) (pa_cons (pe_op m_add (pe_op m_mul pe_int (m_var 1)) pe_int) (pa_cons (pe_op m_sub (m_var 2) pe_int) (pa_cons (m_var 3) pa_nil))))))
  (pss_cons (ps_if (m_test m_lt (m_var 4) pe_int (nomark _)) (pss_one (ps_ret (m_tup (pa_cons pe_str (pa_cons (m_var 5) pa_nil))))) pss_nil)
  (pss_cons (m_set 6 nd (m_call C_law_saying hr (by omega) (pa_cons (m_var 0) (pa_cons (pe_op m_add (pe_op m_mul pe_int (m_var 1)) pe_int) (pa_cons (pe_op m_sub (m_var 2) pe_int) (pa_cons (m_var 3) pa_nil))))))
  (pss_one (ps_ret (m_tup (pa_cons (m_ix (m_lst (pa_cons pe_str (pa_cons pe_str (pa_cons pe_str pa_nil)))) (pe_op m_mod (m_var 4) pe_int) (fun _ _ => rfl)) (pa_cons (m_var 5) (pa_cons (m_var 6) pa_nil))))))))))), ?_⟩
  walk_at "rd"
  refine ⟨a, ns, k, 8, rfl, hS, h63, h0, by omega, by decide, fun way w0 w8 => ?_⟩
  walk_at "rd"
  have letter : ∃ ys, (SqL K H b ys ∨ SqT K H b ys) ∧ spPick K [V.ref a, V.int (k + 1), V.int (ys.length : Int)] H (fun y H2 => match V.ref b, y with
    | V.str z, V.int i => z.length ≤ sizeLine ∧ ∃ c, atI z.cps.toList i = some c ∧ [V.str (Str.ofString "letter"), V.str { cps := #[c] }].length ≤ sizeLine ∧ New H2 (HO.tup [V.str (Str.ofString "letter"), V.str { cps := #[c] }]) Q
    | V.ref p, V.int i => ∃ xs v, (SqL K H2 p xs ∨ SqT K H2 p xs) ∧ atI xs i = some v ∧ [V.str (Str.ofString "letter"), v].length ≤ sizeLine ∧ New H2 (HO.tup [V.str (Str.ofString "letter"), v]) Q
    | x, x_1 => False) E0 := by
   refine ⟨_, hb, a, ns, k + 1, _, rfl, hS, h63, by omega, by omega, by rw [List.length_map]; omega, fun r r0 r1 => ?_⟩
   rw [List.length_map] at r1
   obtain ⟨x, hx1, ex⟩ := at_strs (xs := xs) r0 r1
   refine ⟨_, _, hb, ex, sl24 (by simp), fun p H' n1 s1 e1 => ?_⟩
   refine q _ H' (.letter x) s1 ⟨p, rfl, SqT.of e1⟩ ?_ fun y hy => ?_
   ·show 1 + 1 ≤ 2 ^ (m + 1)
    have := Nat.pow_le_pow_right (n := 2) (by decide) (show 1 ≤ m + 1 by omega)
    omega
   ·rw [List.mem_singleton.mp hy]
    exact hx1
  refine ite2 (fun _ => letter) (fun c1 => ?_)
  refine ite2 (fun _ => letter) (fun c2 => ?_)
  cases m with
  | zero => exact absurd (decide_eq_true rfl) c1
  | succ m =>
   have em : (((m + 1 : Nat) : Int) - 1) = ((m : Nat) : Int) := by omega
   rw [em]
   refine ⟨cm (by decide), a, ns, 3 * k + 7, m, b, xs, rfl, hS, h63, by omega, deep_k h0 hk (by decide), by omega, hb, hx0, hx, fun v H1 t s1 sv pc lt => ?_⟩
   walk_at "rd"
   refine ite2 (fun c3 => ?_) (fun c3 => ?_)
   ·refine ⟨sl24 (by simp), fun p H2 n2 s2 e2 => ?_⟩
    refine q _ H2 (.neg t) (s1.trans s2) ⟨p, v, rfl, SqT.of e2, sv.mono (same_tups s2)⟩ ?_ lt
    show t.pieces + 1 + 1 ≤ 2 ^ (m + 1 + 1)
    have h1 := t.pieces_pos
    rw [Nat.pow_succ]
    omega
   ·refine ⟨cm (by decide), a, ns, 3 * k + 8, m, b, xs, rfl, s1.seq hS, h63, by omega, deep_k h0 hk (by decide), by omega, seq_same s1 hb, hx0, hx, fun v' H2 t' s2 sv' pc' lt' => ?_⟩
    walk_at "rd"
    refine ⟨sl24 (by simp), fun p H3 n3 s3 e3 => ?_⟩
    refine ⟨by decide, ?_⟩
    have fin : ∀ (op : Op2), New H3 (HO.tup [V.str op.word, v, v']) Q := fun op p4 H4 n4 s4 e4 => by
     refine q _ H4 (.bin op t t') (s1.trans (s2.trans (s3.trans s4))) ⟨p4, v, v', rfl, SqT.of e4, sv.mono (same_tups (s2.trans (s3.trans s4))), sv'.mono (same_tups (s3.trans s4))⟩ ?_ fun x hx => ?_
     ·show t.pieces + t'.pieces + 1 + 1 ≤ 2 ^ (m + 1 + 1)
      rw [Nat.pow_succ]
      omega
     ·rcases List.mem_append.mp hx with z | z
      ·exact lt x z
      ·exact lt' x z
    have o' : way % 3 = 0 ∨ way % 3 = 1 ∨ way % 3 = 2 := by omega
    rcases o' with e | e | e <;> rw [e]
    ·exact ⟨_, _, .inl (SqL.of e3), rfl, sl24 (by simp), fin .con⟩
    ·exact ⟨_, _, .inl (SqL.of e3), rfl, sl24 (by simp), fin .dis⟩
    ·exact ⟨_, _, .inl (SqL.of e3), rfl, sl24 (by simp), fin .imp⟩
def spLetters (K : PySem.W.Frag) (n : Nat) : Sp := fun vs H Q _ => ∃ (v : V) (s : Say), vs = [v] ∧ SayAt K H v s ∧ s.pieces ≤ n ∧ s.pieces ≤ 1000 ∧ ∀ (p : Addr) (H' : Hp), H p = none → Same H H' → H' p = some (.lst (s.letters.map V.str)) → Q (.ref p) H'
theorem sc_letters : FnScope ["saying", "letters", "inner"] ["saying"] (defScope (top 12)) := ⟨rfl, rfl, rfl, by decide +kernel, rfl, by decide +kernel, by decide +kernel⟩
theorem ok_letters (D : Def K mg "letters_in" (top 12) ["saying"]) : ∀ n : Nat, Callee P w K mg base n "letters_in" ["saying"] (spLetters K n)
 | 0 => nothing_left D fun vs H Q E h => by
  obtain ⟨v, s, _, _, hp, _⟩ := h
  exact absurd s.pieces_pos (by omega)
 | n + 1 => by
  have C_letters_in := ok_letters D n
  refine D.callee sc_letters (fun vs H Q E h => ?_) fun f cdv A outer s H vs Q E hr h => ?_
  ·obtain ⟨v, s, rfl, _⟩ := h
   rfl
  have nd := sc_letters.nd
  obtain ⟨v, s, rfl, hv, hp, hp2, q⟩ := h
  refine ⟨[some v, none, none], _, rfl, (pss_cons (ps_if (m_test (m_eq hr.units) (m_ix (m_var 0) pe_int (fun _ _ => rfl)) pe_str (nomark _)) (pss_one (ps_ret (m_lst (pa_cons (m_ix (m_var 0) pe_int (fun _ _ => rfl)) pa_nil)))) pss_nil)
  (pss_cons (m_set 1 nd (m_lst pa_nil))
  (pss_cons (m_for PassesOwn.never rfl (pi_seq (m_slice (m_var 0) (m_part pe_int) po_none)) (m_tg 2 nd) (pss_one (ps_expr (m_bm PySem.F.slot_list_extend PySem.F.type_list_extend m_ext2 (m_var 1) (pa_cons (m_call C_letters_in hr (by omega) (pa_cons (m_var 2) pa_nil)) pa_nil)))))
  (pss_one (ps_ret (m_var 1)))))), ?_⟩
  by_cases hs : s.subs = []
  ·cases s with
   | letter x =>
    obtain ⟨a, rfl, ha⟩ := hv
    walk_at "rp"
    refine ⟨_, _, .inr ha, rfl, ?_⟩
    walk_at "rp"
    refine ⟨_, _, .inr ha, rfl, ?_⟩
    walk_at "rp"
    exact ⟨sl24 (by simp), fun p H1 n1 s1 e1 => q p H1 n1 s1 e1⟩
   | neg t => simp [Say.subs] at hs
   | bin o t t' => simp [Say.subs] at hs
  ·obtain ⟨a, wd, us, rfl, ha, hw, hl, hl2, hu⟩ := say_node hv hs
   walk_at "rp"
   refine ⟨_, _, .inr ha, at_head _ _, ?_⟩
   walk_at "rp"
   rw [hw]
   walk_at "rp"
   refine ⟨sl24 (by simp), fun r H0 n0 s0 e0 => ?_⟩
   refine .inr ⟨_, (same_tups s0).sqT ha, fun p H1 s1 h1 => .inr ⟨⟨_, h1⟩, ?_⟩⟩
   rw [cut_tail] at h1
   refine loop_tup (xs := us) (fun i σ H2 => ∃ iv, σ = [some (.ref a), some (.ref r), iv] ∧ H2 r = some (.lst ((((s.subs.take i).map Say.letters).flatten).map V.str)) ∧ Same H H2 ∧ SqT K H2 p us ∧ i ≤ us.length) ⟨none, rfl, s1 _ _ e0, s0.trans s1, h1, Nat.zero_le _⟩ ?_ ?_ ?_
   ·rintro i σ H2 _ ⟨iv, rfl, _, _, h2, _⟩
    exact h2
   ·rintro i x σ H2 hx ⟨iv, rfl, e2, s2, h2, hi⟩
    obtain ⟨t, ht, sv, pc⟩ := hu i x hx
    walk_at "rp"
    refine ⟨⟨_, _, rfl, e2⟩, x, t, rfl, sv.mono (same_tups s2), by omega, by omega, fun z H3 n3 s3 e3 => ?_⟩
    have hne : z ≠ r := fun e => by rw [e, e2] at n3; cases n3
    walk_at "rp"
    have b1 := flat_len (s.subs.take i)
    have b2 := take_sum Say.pieces s.subs i
    have b3 := subs_pieces s
    have b4 := letters_len t
    refine ⟨_, _, s3 _ _ e2, .inl e3, ?_, some x, rfl, ?_, same_upd (s2.trans s3) n0 _, ?_, (List.getElem?_eq_some_iff.mp hx).1⟩
    ·rw [List.length_map, List.length_map]
     rw [sizeLine_eq]; omega
    ·rw [upd_same, List.take_add_one, ht]
     simp
    ·exact (tups_lst (s3 _ _ e2)).sqT ((same_tups s3).sqT h2)
   ·rintro σ H2 ⟨iv, rfl, e2, s2, h2, _⟩
    walk_at "rp"
    rw [hl, List.take_length, ← subs_letters hs] at e2
    exact q r H2 n0 s2 e2
def spNamesIn (K : PySem.W.Frag) : Sp := fun vs H Q _ => ∃ (v : V) (s : Say), vs = [v] ∧ SayAt K H v s ∧ s.pieces ≤ 40 ∧ ∀ (p : Addr) (H' : Hp) (ss : List Str), Same H H' → SqT K H' p (ss.map V.str) → ss.Nodup → (∀ x, x ∈ ss ↔ x ∈ s.letters) → sortedS ss = true → Q (.ref p) H'
theorem sc_namesin : FnScope ["saying"] ["saying"] (defScope (top 13)) := ⟨rfl, rfl, rfl, by decide +kernel, rfl, by decide +kernel, by decide +kernel⟩
theorem ok_namesin (D : Def K mg "names_in" (top 13) ["saying"]) (C_letters_in : Callee P w K mg base 40 "letters_in" ["saying"] (spLetters K 40)) (mg_sorted : mg "sorted" = none) (mg_set : mg "set" = none) (mg_tuple : mg "tuple" = none) : Callee P w K mg base 41 "names_in" ["saying"] (spNamesIn K) := by
 refine D.callee sc_namesin (fun vs H Q E h => ?_) fun f cdv A outer s H vs Q E hr h => ?_
 ·obtain ⟨v, s, rfl, _⟩ := h
  rfl
 have nd := sc_namesin.nd
 obtain ⟨v, s, rfl, hv, hp, q⟩ := h
 refine ⟨[some v], _, rfl, (pss_one (ps_ret (pe_callTy m_tupOf rfl mg_tuple bt_tuple (pa_cons (m_sortedSet rfl hr.units rfl mg_sorted rfl mg_set (m_call C_letters_in hr (by omega) (pa_cons (m_var 0) pa_nil))) pa_nil)))), ?_⟩
 walk_at "rp"
 have hlen := letters_len s
 refine ⟨v, s, rfl, hv, hp, by omega, fun p H1 n1 s1 e1 => ?_⟩
 walk_at "rp"
 refine .inl ⟨_, .inl (SqL.of e1), by unfold scanBound; omega, fun ss' hn hs => ?_, fun ss' hn hm hst r H2 n2 s2 e2 => ?_⟩
 ·have := nodup_len hn hs
  omega
 ·walk_at "rp"
  exact ⟨_, .inl (SqL.of e2), fun r' H3 s3 h3 => q r' H3 ss' (s1.trans (s2.trans s3)) h3 hn hm hst⟩
theorem strs_step {xs : List Str} (i : Nat) (x : V) (hx : (xs.map V.str)[i]? = some x) : ∃ y, x = .str y ∧ i < xs.length ∧ xs.drop i = y :: xs.drop (i + 1) := by
 rw [List.getElem?_map] at hx
 cases e : xs[i]? with
 | none => rw [e] at hx; cases hx
 | some y =>
  rw [e] at hx
  obtain ⟨hi, ey⟩ := List.getElem?_eq_some_iff.mp e
  exact ⟨y, (Option.some.inj hx).symm, hi, by rw [List.drop_eq_getElem_cons hi, ey]⟩
def spWays (K : PySem.W.Frag) : Sp := fun vs H Q _ => ∃ (b : Addr) (xs : List Str), vs = [.ref b] ∧ SqT K H b (xs.map V.str) ∧ xs.length ≤ 10 ∧ Q (.int ((2 ^ xs.length : Nat) : Int)) H
theorem sc_ways : FnScope ["names", "ways", "name"] ["names"] (defScope (top 16)) := ⟨rfl, rfl, rfl, by decide +kernel, rfl, by decide +kernel, by decide +kernel⟩
theorem ok_ways (D : Def K mg "ways_to_hold" (top 16) ["names"]) : Callee P w K mg base 1 "ways_to_hold" ["names"] (spWays K) := by
 refine D.callee sc_ways (fun vs H Q E h => ?_) fun f cdv A outer s H vs Q E hr h => ?_
 ·obtain ⟨b, xs, rfl, _⟩ := h
  rfl
 have nd := sc_ways.nd
 obtain ⟨b, xs, rfl, hb, hx, q⟩ := h
 refine ⟨[some (.ref b), none, none], _, rfl, (pss_cons (m_set 1 nd pe_int)
  (pss_cons (m_for PassesOwn.never rfl (pi_seq (m_var 0)) (m_tg 2 nd) (pss_one (m_set 1 nd (pe_op m_mul (m_var 1) pe_int))))
  (pss_one (ps_ret (m_var 1))))), ?_⟩
 walk_at "rp"
 refine .inr ⟨⟨_, hb⟩, loop_tup (xs := xs.map V.str) (fun i σ H2 => ∃ nv, σ = [some (.ref b), some (.int ((2 ^ i : Nat) : Int)), nv] ∧ H2 = H) ⟨none, rfl, rfl⟩ ?_ ?_ ?_⟩
 ·rintro i σ H2 _ ⟨nv, rfl, rfl⟩
  exact hb
 ·rintro i x σ H2 hx' ⟨nv, rfl, rfl⟩
  walk_at "rp"
  refine ⟨cm2 (by decide), some x, ?_, trivial⟩
  rw [Nat.pow_succ, Int.natCast_mul]
  rfl
 ·rintro σ H2 ⟨nv, rfl, rfl⟩
  walk_at "rp"
  rw [List.length_map]
  exact q
def spHeldBy (K : PySem.W.Frag) : Sp := fun vs H Q _ => ∃ (n : Int) (b : Addr) (xs : List Str), vs = [.int n, .ref b] ∧ SqT K H b (xs.map V.str) ∧ xs.length ≤ 100 ∧ ∀ (r : Addr) (H' : Hp), Same H H' → SqT K H' r ((heldOf n xs).map V.str) → Q (.ref r) H'
theorem sc_heldby : FnScope ["number", "names", "held", "rest", "name"] ["number", "names"] (defScope (top 17)) := ⟨rfl, rfl, rfl, by decide +kernel, rfl, by decide +kernel, by decide +kernel⟩
theorem ok_heldby (D : Def K mg "held_by" (top 17) ["number", "names"]) (mg_tuple : mg "tuple" = none) : Callee P w K mg base 1 "held_by" ["number", "names"] (spHeldBy K) := by
 refine D.callee sc_heldby (fun vs H Q E h => ?_) fun f cdv A outer s H vs Q E hr h => ?_
 ·obtain ⟨n, b, xs, rfl, _⟩ := h
  rfl
 have nd := sc_heldby.nd
 obtain ⟨n, b, xs, rfl, hb, hx, q⟩ := h
 refine ⟨[some (.int n), some (.ref b), none, none, none], _, rfl, (pss_cons (m_set 2 nd (m_lst pa_nil))
  (pss_cons (m_set 3 nd (m_var 0))
  (pss_cons (m_for PassesOwn.never rfl (pi_seq (m_var 1)) (m_tg 4 nd) (pss_cons (ps_if (m_test (m_eq hr.units) (pe_op m_mod (m_var 3) pe_int) pe_int (nomark _)) (pss_one (ps_expr (m_bm PySem.F.slot_list_append PySem.F.type_list_append m_app (m_var 2) (pa_cons (m_var 4) pa_nil)))) pss_nil)
  (pss_one (m_set 3 nd (pe_op m_fdiv (m_var 3) pe_int)))))
  (pss_one (ps_ret (pe_callTy m_tupOf rfl mg_tuple bt_tuple (pa_cons (m_var 2) pa_nil))))))), ?_⟩
 walk_at "rp"
 refine ⟨sl24 (by simp), fun p H1 n1 s1 e1 => ?_⟩
 have hlen : (xs.map V.str).length = xs.length := List.length_map _
 refine .inr ⟨⟨_, (same_tups s1).sqT hb⟩, loop_tup (xs := xs.map V.str) (fun i σ H2 => ∃ (m : Int) (acc : List Str) (nv : Option V), σ = [some (.int n), some (.ref b), some (.ref p), some (.int m), nv] ∧ acc ++ heldOf m (xs.drop i) = heldOf n xs ∧ H2 p = some (.lst (acc.map V.str)) ∧ Same H H2 ∧ acc.length ≤ i) ⟨n, [], none, rfl, rfl, e1, s1, Nat.le_refl _⟩ ?_ ?_ ?_⟩
 ·rintro i σ H2 _ ⟨m, acc, nv, rfl, e, ep, s2, _⟩
  exact (same_tups s2).sqT hb
 ·rintro i x σ H2 hx' ⟨m, acc, nv, rfl, e, ep, s2, ha⟩
  obtain ⟨y, rfl, hi, ed⟩ := strs_step i x hx'
  rw [ed] at e
  walk_at "rp"
  refine ⟨by decide, ite2 (fun c => ?_) (fun c => ?_)⟩
  ·have c' : m % 2 = 1 := of_decide_eq_true c
   rw [heldOf, if_pos c'] at e
   refine ⟨⟨_, _, rfl, ep⟩, _, ep, by rw [List.length_map]; exact small1000 (by omega), ⟨by decide, by decide⟩, m / 2, acc ++ [y], _, rfl, by rw [List.append_assoc]; exact e, by rw [upd_same, List.map_append]; rfl, same_upd s2 n1 _, by rw [List.length_append, List.length_singleton]; omega⟩
  ·have c' : ¬ m % 2 = 1 := fun z => c (decide_eq_true z)
   rw [heldOf, if_neg c'] at e
   exact ⟨⟨by decide, by decide⟩, m / 2, acc, _, rfl, e, ep, s2, by omega⟩
 ·rintro σ H2 ⟨m, acc, nv, rfl, e, ep, s2, _⟩
  rw [hlen, List.drop_length] at e
  have e' : acc = heldOf n xs := by simpa [heldOf] using e
  walk_at "rp"
  exact ⟨_, .inl (SqL.of ep), fun r H' s3 hr3 => q r H' (s2.trans s3) (by rw [← e']; exact hr3)⟩
def spNamesOf (K : PySem.W.Frag) : Sp := fun vs H Q _ => ∃ (a : Addr) (us : List V) (ts : List Say) (xs : List Str), vs = [.ref a] ∧ SqT K H a us ∧ SaysAt K H us ts ∧ Lst ts xs ∧ ∀ (p : Addr) (H' : Hp) (ss : List Str), Same H H' → SqT K H' p (ss.map V.str) → NamesOf ts ss → Q (.ref p) H'
theorem sc_namesof : FnScope ["sayings", "names", "saying"] ["sayings"] (defScope (top 19)) := ⟨rfl, rfl, rfl, by decide +kernel, rfl, by decide +kernel, by decide +kernel⟩
theorem ok_namesof (D : Def K mg "names_of" (top 19) ["sayings"]) (C_names_in : Callee P w K mg base 41 "names_in" ["saying"] (spNamesIn K)) (mg_sorted : mg "sorted" = none) (mg_set : mg "set" = none) (mg_tuple : mg "tuple" = none) : Callee P w K mg base 42 "names_of" ["sayings"] (spNamesOf K) := by
 refine D.callee sc_namesof (fun vs H Q E h => ?_) fun f cdv A outer s H vs Q E hr h => ?_
 ·obtain ⟨a, us, ts, xs, rfl, _⟩ := h
  rfl
 have nd := sc_namesof.nd
 obtain ⟨a, us, ts, xs, rfl, ha, hS, hL, q⟩ := h
 have hl := hS.len
 refine ⟨[some (.ref a), none, none], _, rfl, (pss_cons (m_set 1 nd (m_lst pa_nil))
  (pss_cons (m_for PassesOwn.never rfl (pi_seq (m_var 0)) (m_tg 2 nd) (pss_one (ps_expr (m_bm PySem.F.slot_list_extend PySem.F.type_list_extend m_ext2 (m_var 1) (pa_cons (m_call C_names_in hr (by omega) (pa_cons (m_var 2) pa_nil)) pa_nil)))))
  (pss_one (ps_ret (pe_callTy m_tupOf rfl mg_tuple bt_tuple (pa_cons (m_sortedSet rfl hr.units rfl mg_sorted rfl mg_set (m_var 1)) pa_nil)))))), ?_⟩
 walk_at "rp"
 refine ⟨sl24 (by simp), fun r H1 n1 s1 e1 => ?_⟩
 refine .inr ⟨⟨_, (same_tups s1).sqT ha⟩, loop_tup (xs := us) (fun i σ H2 => ∃ (acc : List Str) (iv : Option V), σ = [some (.ref a), some (.ref r), iv] ∧ H2 r = some (.lst (acc.map V.str)) ∧ (∀ x, x ∈ acc ↔ x ∈ allL (ts.take i)) ∧ acc.length ≤ 40 * i ∧ Same H H2) ⟨[], none, rfl, e1, fun x => by simp [allL], Nat.le_refl _, s1⟩ ?_ ?_ ?_⟩
 ·rintro i σ H2 _ ⟨acc, iv, rfl, _, _, _, s2⟩
  exact (same_tups s2).sqT ha
 ·rintro i x σ H2 hx ⟨acc, iv, rfl, e2, hm, hc, s2⟩
  obtain ⟨t, ht, sv⟩ := hS.at i x hx
  have htm := List.mem_of_getElem? ht
  have hi : i < us.length := (List.getElem?_eq_some_iff.mp hx).1
  have h6 := hL.hi
  walk_at "rp"
  refine ⟨⟨_, _, rfl, e2⟩, x, t, rfl, sv.mono (same_tups s2), hL.pc t htm, fun p H3 ss s3 hp nds hmem _ => ?_⟩
  walk_at "rp"
  have hsl : ss.length ≤ 40 := Nat.le_trans (nodup_len nds fun y hy => (hmem y).mp hy) (Nat.le_trans (letters_len t) (hL.pc t htm))
  refine ⟨_, _, s3 _ _ e2, .inr hp, by rw [List.length_map, List.length_map, sizeLine_eq]; omega, acc ++ ss, some x, rfl, by rw [upd_same, List.map_append], fun y => ?_, by rw [List.length_append]; omega, same_upd (s2.trans s3) n1 _⟩
  rw [List.mem_append, hm y, hmem y, allL_take ht, List.mem_append]
 ·rintro σ H2 ⟨acc, iv, rfl, e2, hm, hc, s2⟩
  rw [hl, List.take_length] at hm
  have h6 := hL.hi
  walk_at "rp"
  refine .inl ⟨_, .inl (SqL.of e2), by unfold scanBound; omega, fun ss' hn hs => ?_, fun ss' hn hmm hst p H3 n3 s3 e3 => ?_⟩
  ·have := nodup_len hn fun y hy => hL.nm y ((hm y).mp (hs y hy))
   have := hL.xl
   omega
  ·walk_at "rp"
   exact ⟨_, .inl (SqL.of e3), fun p' H4 s4 h4 => q p' H4 ss' (s2.trans (s3.trans s4)) h4 ⟨hn, fun y => (hmm y).trans (hm y), hst⟩⟩
def spAllHeld (K : PySem.W.Frag) : Sp := fun vs H Q _ => ∃ (a : Addr) (us : List V) (ts : List Say) (xs : List Str), vs = [.ref a] ∧ SqT K H a us ∧ SaysAt K H us ts ∧ Lst ts xs ∧ ∀ (p : Addr) (H' : Hp) (ss : List Str) (as : List Addr), H p = none → Same H H' → H' p = some (.lst (as.map V.ref)) → NamesOf ts ss → as.length = 2 ^ ss.length →
 (∀ (n : Nat) b, as[n]? = some b → SqT K H' b ((heldOf (n : Int) ss).map V.str)) → Q (.ref p) H'
theorem sc_allheld : FnScope ["sayings", "names"] ["sayings"] (defScope (top 20)) := ⟨rfl, rfl, rfl, by decide +kernel, rfl, by decide +kernel, by decide +kernel⟩
theorem pow_5 {n : Nat} (h : n ≤ 5) : 2 ^ n ≤ 32 := Nat.pow_le_pow_right (by decide) h
theorem ok_allheld (D : Def K mg "all_held" (top 20) ["sayings"]) (C_names_of : Callee P w K mg base 42 "names_of" ["sayings"] (spNamesOf K)) (C_held_by : Callee P w K mg base 1 "held_by" ["number", "names"] (spHeldBy K)) (C_ways_to_hold : Callee P w K mg base 1 "ways_to_hold" ["names"] (spWays K)) (mg_range : mg "range" = none) :
  Callee P w K mg base 43 "all_held" ["sayings"] (spAllHeld K) := by
 refine D.callee sc_allheld (fun vs H Q E h => ?_) fun f cdv A outer s H vs Q E hr h => ?_
 ·obtain ⟨a, us, ts, xs, rfl, _⟩ := h
  rfl
 have nd := sc_allheld.nd
 obtain ⟨a, us, ts, xs, rfl, ha, hS, hL, q⟩ := h
 refine ⟨[some (.ref a), none], _, rfl, (pss_cons (m_set 1 nd (m_call C_names_of hr (by omega) (pa_cons (m_var 0) pa_nil)))
  (pss_one (ps_ret (m_compN (ixs := [1]) (compOk_mk (own := ["number"]) (N := ["names"]) rfl rfl rfl rfl rfl rfl rfl (by decide +kernel) rfl rfl rfl) rfl (m_range1 rfl mg_range (pa_cons (m_call C_ways_to_hold hr (by omega) (pa_cons (m_var 1) pa_nil)) pa_nil)) (fun _ _ _ _ => pif_nil) (fun _ _ _ _ => (m_call C_held_by hr (by omega) (pa_cons (m_var 0) (pa_cons (m_var 1) pa_nil)))) rfl)))), ?_⟩
 walk_at "rp"
 refine ⟨a, us, ts, xs, rfl, ha, hS, hL, fun b H1 ss s1 hb hN => ?_⟩
 obtain ⟨hss, hsn⟩ := hL.names hN
 have p5 := pow_5 hss
 have p5' : ((2 ^ ss.length : Nat) : Int) ≤ 32 := Int.ofNat_le.mpr p5
 have p50 : (0 : Int) ≤ ((2 ^ ss.length : Nat) : Int) := Int.natCast_nonneg _
 walk_at "rp"
 refine ⟨b, ss, rfl, hb, by omega, ?_⟩
 walk_at "rp"
 refine ⟨⟨by omega, by omega⟩, ?_⟩
 rw [Int.toNat_natCast]
 intro C s₀ H₀ ex
 refine comp_range (fun D i ys H2 => ∃ as : List Addr, ys = as.map V.ref ∧ as.length = i ∧ (∀ (n : Nat) c, as[n]? = some c → SqT K H2 c ((heldOf (n : Int) ss).map V.str)) ∧ H2 D = some (.lst ys) ∧ Same H1 H2 ∧ H1 D = none) (by rw [sizeLine_eq]; omega) ?_ ?_ ?_ ?_
 ·intro D H2 n2 s2 e2
  exact ⟨[], rfl, rfl, fun n c hc => by simp at hc, e2, s2, n2⟩
 ·rintro D i ys H2 ⟨as, rfl, hl, _, e2, _⟩
  exact ⟨e2, by simpa using hl⟩
 ·rintro D i ys H2 hi ⟨as, rfl, hl, hc, e2, s2, n2⟩
  walk_at "rp"
  refine ⟨_, b, ss, rfl, (same_tups s2).sqT hb, by omega, fun r H3 s3 h3 => ⟨s3 _ _ e2, CN.mk hi ⟨as ++ [r], by rw [List.map_append]; rfl, by rw [List.length_append, hl]; rfl, fun n c hn => ?_, upd_same, same_upd (s2.trans s3) n2 _, n2⟩⟩⟩
  have tl := tups_lst (o := .lst (as.map V.ref ++ [V.ref r])) (s3 _ _ e2)
  by_cases hlt : n < as.length
  ·rw [List.getElem?_append_left hlt] at hn
   exact tl.sqT ((same_tups s3).sqT (hc n c hn))
  ·rw [List.getElem?_append_right (by omega)] at hn
   have hnz : n - as.length = 0 := by
    cases h9 : n - as.length with
    | zero => rfl
    | succ m => rw [h9] at hn; simp at hn
   rw [hnz] at hn
   cases hn
   have : n = i := by omega
   subst this
   rw [Int.zero_add] at h3
   exact tl.sqT h3
 ·rintro D ys H2 ⟨as, rfl, hl, hc, e2, s2, n2⟩
  exact q D H2 ss as (same_new_none s1 n2) (s1.trans s2) e2 hN hl hc
def spRowOf (K : PySem.W.Frag) : Sp := fun vs H Q _ => ∃ (a h : Addr) (us : List V) (ts : List Say) (xs hs : List Str), vs = [.ref a, .ref h] ∧ SqT K H a us ∧ SaysAt K H us ts ∧ Lst ts xs ∧ SqT K H h (hs.map V.str) ∧ ∀ (p : Addr) (H' : Hp), Same H H' → SqT K H' p ((rowOf ts hs).map V.bl) → Q (.ref p) H'
theorem sc_rowof : FnScope ["sayings", "held"] ["sayings", "held"] (defScope (top 21)) := ⟨rfl, rfl, rfl, by decide +kernel, rfl, by decide +kernel, by decide +kernel⟩
theorem ok_rowof (D : Def K mg "row_of" (top 21) ["sayings", "held"]) (C_is_so : Callee P w K mg base 40 "is_so" ["saying", "held"] (spSo K 40)) (mg_tuple : mg "tuple" = none) : Callee P w K mg base 41 "row_of" ["sayings", "held"] (spRowOf K) := by
 refine D.callee sc_rowof (fun vs H Q E h => ?_) fun f cdv A outer s H vs Q E hr h => ?_
 ·obtain ⟨a, h, us, ts, xs, hs, rfl, _⟩ := h
  rfl
 have nd := sc_rowof.nd
 obtain ⟨a, h, us, ts, xs, hs, rfl, ha, hS, hL, hh, q⟩ := h
 have hl := hS.len
 have h6 := hL.hi
 refine ⟨[some (.ref a), some (.ref h)], _, rfl, (pss_one (ps_ret (pe_callTy m_tupOf rfl mg_tuple bt_tuple (pa_cons (m_compN (ixs := [1]) (compOk_mk (own := ["saying"]) (N := ["held"]) rfl rfl rfl rfl rfl rfl rfl (by decide +kernel) rfl rfl rfl) rfl (pi_seq (m_var 0)) (fun _ _ _ _ => pif_nil) (fun _ _ _ _ => (m_call C_is_so hr (by omega) (pa_cons (m_var 0) (pa_cons (m_var 1) pa_nil)))) rfl) pa_nil)))), ?_⟩
 walk_at "rp"
 refine .inr ⟨⟨_, ha⟩, fun C s₀ H₀ ex => ?_⟩
 refine comp_tup (xs := us) (fun D i ys H2 => ys = ((ts.take i).map fun t => t.so hs).map V.bl ∧ i ≤ us.length ∧ H2 D = some (.lst ys) ∧ Same H H2 ∧ H D = none) (by rw [sizeLine_eq]; omega) ?_ ?_ ?_ ?_
 ·intro D H2 n2 s2 e2
  exact ⟨rfl, Nat.zero_le _, e2, s2, n2⟩
 ·rintro D i ys H2 ⟨rfl, hi, e2, s2, _⟩
  exact ⟨(same_tups s2).sqT ha, e2, by simp; omega⟩
 ·rintro D i v ys H2 hv ⟨rfl, hi, e2, s2, n2⟩
  obtain ⟨t, ht, sv⟩ := hS.at i v hv
  walk_at "rp"
  refine ⟨v, h, t, hs, rfl, sv.mono (same_tups s2), hL.pc t (List.mem_of_getElem? ht), (same_tups s2).sqT hh, e2, CN.mk (List.getElem?_eq_some_iff.mp hv).1 ⟨?_, (List.getElem?_eq_some_iff.mp hv).1, upd_same, same_upd s2 n2 _, n2⟩⟩
  rw [List.take_add_one, ht]
  simp
 ·rintro D ys H2 ⟨rfl, hi, e2, s2, n2⟩
  rw [hl, List.take_length] at e2
  exact ⟨_, .inl (SqL.of e2), fun p H3 s3 h3 => q p H3 (s2.trans s3) h3⟩
def spFitRows (K : PySem.W.Frag) : Sp := fun vs H Q _ => ∃ (a : Addr) (us : List V) (ts : List Say) (xs : List Str), vs = [.ref a] ∧ SqT K H a us ∧ SaysAt K H us ts ∧ Lst ts xs ∧ ∀ (p : Addr) (H' : Hp) (ss : List Str) (R : List (Addr × List Bool)), H p = none → Same H H' → H' p = some (.lst (R.map fun r => V.ref r.1)) → (∀ r ∈ R, SqT K H' r.1 (r.2.map V.bl)) → NamesOf ts ss → FitRows ts ss (R.map (·.2)) → R.length ≤ 32 → Q (.ref p) H'
theorem sc_fitrows : FnScope ["sayings"] ["sayings"] (defScope (top 22)) := ⟨rfl, rfl, rfl, by decide +kernel, rfl, by decide +kernel, by decide +kernel⟩
theorem ok_fitrows (D : Def K mg "fit_rows" (top 22) ["sayings"]) (C_all_held : Callee P w K mg base 43 "all_held" ["sayings"] (spAllHeld K)) (C_row_of : Callee P w K mg base 41 "row_of" ["sayings", "held"] (spRowOf K)) (mg_sorted : mg "sorted" = none) (mg_set : mg "set" = none) :
  Callee P w K mg base 44 "fit_rows" ["sayings"] (spFitRows K) := by
 refine D.callee sc_fitrows (fun vs H Q E h => ?_) fun f cdv A outer s H vs Q E hr h => ?_
 ·obtain ⟨a, us, ts, xs, rfl, _⟩ := h
  rfl
 have nd := sc_fitrows.nd
 obtain ⟨a, us, ts, xs, rfl, ha, hS, hL, q⟩ := h
 refine ⟨[some (.ref a)], _, rfl, (pss_one (ps_ret (m_sortedSet rfl hr.units rfl mg_sorted rfl mg_set (m_compN (ixs := [0]) (compOk_mk (own := ["held"]) (N := ["sayings"]) rfl rfl rfl rfl rfl rfl rfl (by decide +kernel) rfl rfl rfl) rfl (pi_seq (m_call C_all_held hr (by omega) (pa_cons (m_var 0) pa_nil))) (fun _ _ _ _ => pif_nil) (fun _ _ _ _ => (m_call C_row_of hr (by omega) (pa_cons (m_var 1) (pa_cons (m_var 0) pa_nil)))) rfl)))), ?_⟩
 walk_at "rp"
 refine ⟨a, us, ts, xs, rfl, ha, hS, hL, fun b H1 ss as nb s1 hb hN has hheld => ?_⟩
 obtain ⟨hss, hsn⟩ := hL.names hN
 have p5 := pow_5 hss
 walk_at "rp"
 refine .inl ⟨⟨_, SqL.of hb⟩, fun C s₀ H₀ ex => ?_⟩
 refine comp_lst (xs := as.map V.ref) (fun D i ys H2 => ∃ R : List (Addr × List Bool), ys = (R.map fun r => V.ref r.1) ∧ R.map (·.2) = (List.range i).map (fun (n : Nat) => rowOf ts (heldOf (n : Int) ss)) ∧ (∀ r ∈ R, SqT K H2 r.1 (r.2.map V.bl)) ∧ H2 D = some (.lst ys) ∧ Same H1 H2 ∧ H1 D = none) (by rw [List.length_map, sizeLine_eq]; omega) ?_ ?_ ?_ ?_
 ·intro D H2 n2 s2 e2
  exact ⟨[], rfl, rfl, fun r hr => by simp at hr, e2, s2, n2⟩
 ·rintro D i ys H2 ⟨R, rfl, hR, _, e2, s2, _⟩
  refine ⟨SqL.of (s2 _ _ hb), e2, ?_⟩
  have := congrArg List.length hR
  simpa using this
 ·rintro D i v ys H2 hv ⟨R, rfl, hR, hT, e2, s2, n2⟩
  rw [List.getElem?_map] at hv
  cases hc : as[i]? with
  | none => rw [hc] at hv; cases hv
  | some c =>
   rw [hc] at hv
   cases hv
   have hi : i < as.length := (List.getElem?_eq_some_iff.mp hc).1
   walk_at "rp"
   refine ⟨a, c, us, ts, xs, _, rfl, (same_tups (s1.trans s2)).sqT ha, hS.mono (same_tups (s1.trans s2)), hL, (same_tups s2).sqT (hheld i c hc), fun p H3 s3 h3 => ⟨s3 _ _ e2, CN.mk (by rw [List.length_map]; exact hi) ⟨R ++ [(p, rowOf ts (heldOf (i : Int) ss))], by rw [List.map_append]; rfl, ?_, fun r hr => ?_, upd_same, same_upd (s2.trans s3) n2 _, n2⟩⟩⟩
   ·rw [List.map_append, hR, List.range_succ, List.map_append]
    rfl
   ·have tl := tups_lst (o := .lst ((R.map fun r => V.ref r.1) ++ [V.ref p])) (s3 _ _ e2)
    rcases List.mem_append.mp hr with hr | hr
    ·exact tl.sqT ((same_tups s3).sqT (hT r hr))
    ·rw [List.mem_singleton.mp hr]
     exact tl.sqT h3
 ·rintro D ys H2 ⟨R, rfl, hR, hT, e2, s2, n2⟩
  rw [List.length_map, has] at hR
  have hRl : R.length = 2 ^ ss.length := by
   have := congrArg List.length hR
   simpa using this
  refine .inr ⟨R, SqL.of e2, fun r hr => ⟨hT r hr, ?_⟩, by omega, fun R' hsub hnd hmem hst hle p H3 n3 s3 e3 => ?_⟩
  ·have : r.2 ∈ R.map (·.2) := List.mem_map_of_mem hr
   rw [hR] at this
   obtain ⟨n, _, e⟩ := List.mem_map.mp this
   intro z
   rw [← e] at z
   have h1 := rowOf_len ts (heldOf (n : Int) ss)
   rw [z] at h1
   have := hL.lo
   simp at h1
   omega
  ·refine q p H3 ss R' (same_new_none (s1.trans s2) n3) (s1.trans (s2.trans s3)) e3 (fun r hr => (same_tups s3).sqT (hT r (hsub r hr))) hN ⟨hnd, fun k => ?_, hst⟩ (by omega)
   rw [hmem k, hR, List.mem_map]
   constructor
   ·rintro ⟨n, hn, rfl⟩
    exact ⟨n, List.mem_range.mp hn, rfl⟩
   ·rintro ⟨n, hn, rfl⟩
    exact ⟨n, List.mem_range.mpr hn, rfl⟩
theorem SaysAt.take {K : PySem.W.Frag} {H : Hp} : ∀ {us : List V} {ts : List Say} (n : Nat), SaysAt K H us ts → SaysAt K H (us.take n) (ts.take n)
 | [], [], n, _ => by simp [SaysAt]
 | _ :: _, _ :: _, 0, _ => trivial
 | _ :: _, _ :: _, n + 1, h => ⟨h.1, SaysAt.take n h.2⟩
 | [], _ :: _, _, h => h.elim
 | _ :: _, [], _, h => h.elim
theorem SaysAt.drop {K : PySem.W.Frag} {H : Hp} : ∀ {us : List V} {ts : List Say} (n : Nat), SaysAt K H us ts → SaysAt K H (us.drop n) (ts.drop n)
 | [], [], n, _ => by simp [SaysAt]
 | _ :: _, _ :: _, 0, h => h
 | _ :: _, _ :: _, n + 1, h => SaysAt.drop n h.2
 | [], _ :: _, _, h => h.elim
 | _ :: _, [], _, h => h.elim
theorem cut_take (xs : List V) {j : Int} (h : 0 ≤ j) : cutV xs none (some j) = xs.take j.toNat := by
 unfold cutV
 rw [HT.sIx_none]
 have e : HT.sIx xs.length xs.length (some j) = min j.toNat xs.length := by
  show (if j < 0 then (j + (xs.length : Int)).toNat else min j.toNat xs.length) = _
  rw [if_neg (by omega)]
 rw [e, List.drop_zero, Nat.sub_zero]
 by_cases hj : j.toNat ≤ xs.length
 ·rw [Nat.min_eq_left hj]
 ·rw [Nat.min_eq_right (by omega), List.take_length, List.take_of_length_le (by omega)]
theorem cut_drop (xs : List V) {j : Int} (h : 0 ≤ j) : cutV xs (some j) none = xs.drop j.toNat := by
 unfold cutV
 rw [HT.sIx_none]
 have e : HT.sIx xs.length 0 (some j) = min j.toNat xs.length := by
  show (if j < 0 then (j + (xs.length : Int)).toNat else min j.toNat xs.length) = _
  rw [if_neg (by omega)]
 rw [e]
 by_cases hj : j.toNat ≤ xs.length
 ·rw [Nat.min_eq_left hj, List.take_of_length_le (by rw [List.length_drop]; exact Nat.le_refl _)]
 ·rw [Nat.min_eq_right (by omega), List.drop_eq_nil_of_le (Nat.le_refl _), List.drop_eq_nil_of_le (by omega), List.take_nil]
def spTurned (K : PySem.W.Frag) : Sp := fun vs H Q _ => ∃ (a : Addr) (ns : List Int) (k : Int) (v : V) (s : Say), vs = [.ref a, .int k, v] ∧ SqL K H a (ns.map V.int) ∧ ns.length ≤ 5000 ∧ 0 ≤ k ∧ k ≤ 1000 ∧ SayAt K H v s ∧ ∀ (v' : V) (H' : Hp) (s' : Say), Same H H' → SayAt K H' v' s' → s'.pieces ≤ s.pieces + 1 → (∀ x ∈ s'.letters, x ∈ s.letters) → Q v' H'
theorem sc_turned : FnScope ["_law_script", "_law_k", "_law_saying_here"] ["_law_script", "_law_k", "_law_saying_here"] (defScope (top 41)) := ⟨rfl, rfl, rfl, by decide +kernel, rfl, by decide +kernel, by decide +kernel⟩
theorem ok_turned (D : Def K mg "_law_turned" (top 41) ["_law_script", "_law_k", "_law_saying_here"]) (C_law_pick : Callee P w K mg base 2 "_law_pick" ["_law_script", "_law_k", "_law_many"] (spPick K)) : Callee P w K mg base 3 "_law_turned" ["_law_script", "_law_k", "_law_saying_here"] (spTurned K) := by
 refine D.callee sc_turned (fun vs H Q E h => ?_) fun f cdv A outer s H vs Q E hr h => ?_
 ·obtain ⟨a, ns, k, v, s, rfl, _⟩ := h
  rfl
 have nd := sc_turned.nd
 obtain ⟨a, ns, k, v, t, rfl, hS, h63, h0, hk, hv, q⟩ := h
 refine ⟨[some (.ref a), some (.int k), some v], _, rfl, (pss_cons (ps_if (m_test (m_eq hr.units) (m_call C_law_pick hr (by omega) (pa_cons (m_var 0) (pa_cons (m_var 1) (pa_cons pe_int pa_nil)))) pe_int (nomark _)) (pss_one (ps_ret (m_tup (pa_cons pe_str (pa_cons (m_var 2) pa_nil))))) pss_nil)
  (pss_one (ps_ret (m_var 2)))), ?_⟩
 walk_at "rp"
 refine ⟨a, ns, k, 4, rfl, hS, h63, h0, by omega, by decide, fun r _ _ => ?_⟩
 walk_at "rp"
 refine ite2 (fun c => ?_) (fun c => ?_)
 ·refine ⟨sl24 (by simp), fun p H1 n1 s1 e1 => ?_⟩
  exact q _ H1 (.neg t) s1 ⟨p, v, rfl, SqT.of e1, hv.mono (same_tups s1)⟩ (Nat.le_refl _) fun x hx => hx
 ·exact q v H t (Same.refl _) hv (Nat.le_succ _) fun x hx => hx
def spJoined (K : PySem.W.Frag) : Sp := fun vs H Q _ => ∃ (o : Op2) (b : Addr) (us : List V) (ts : List Say) (xs : List Str), vs = [.str o.word, .ref b] ∧ H b = some (.lst us) ∧ SaysAt K H us ts ∧ 1 ≤ ts.length ∧ (∀ t ∈ ts, t.pieces ≤ 2 ∧ ∀ x ∈ t.letters, x ∈ xs) ∧
 ∀ (v : V) (H' : Hp) (s : Say), Same H H' → SayAt K H' v s → s.pieces ≤ 3 * ts.length → (∀ x ∈ s.letters, x ∈ xs) → Q v H'
theorem sc_joined : FnScope ["_law_word", "_law_some", "_law_found", "_law_saying_here"] ["_law_word", "_law_some"] (defScope (top 40)) := ⟨rfl, rfl, rfl, by decide +kernel, rfl, by decide +kernel, by decide +kernel⟩
theorem ok_joined (D : Def K mg "_law_joined" (top 40) ["_law_word", "_law_some"]) : Callee P w K mg base 1 "_law_joined" ["_law_word", "_law_some"] (spJoined K) := by
 refine D.callee sc_joined (fun vs H Q E h => ?_) fun f cdv A outer s H vs Q E hr h => ?_
 ·obtain ⟨o, b, us, ts, xs, rfl, _⟩ := h
  rfl
 have nd := sc_joined.nd
 obtain ⟨o, b, us, ts, xs, rfl, e2, hS, hl, hsm, q⟩ := h
 refine ⟨[some (.str o.word), some (.ref b), none, none], _, rfl, (pss_cons (m_set 2 nd (m_ix (m_var 1) pe_int (fun _ _ => rfl)))
  (pss_cons (m_for PassesOwn.never rfl (pi_seq (m_slice (m_var 1) (m_part pe_int) po_none)) (m_tg 3 nd) (pss_one (m_set 2 nd (m_tup (pa_cons (m_var 0) (pa_cons (m_var 2) (pa_cons (m_var 3) pa_nil)))))))
  (pss_one (ps_ret (m_var 2))))), ?_⟩
 match us, ts, hS, hl, e2, hsm, q with
 | [], [], _, hl, _, _, _ => simp at hl
 | u :: us, t :: ts, hS, hl, e2, hsm, q =>
  walk_at "rp"
  refine ⟨_, _, .inl (SqL.of e2), at_head _ _, ?_⟩
  refine .inl ⟨_, SqL.of e2, fun r H3 n3 s3 e3 => ?_⟩
  rw [cut_tail] at e3
  refine .inl ⟨⟨_, SqL.of e3⟩, loop_list (xs := us) (fun i σ H4 => ∃ (v : V) (t : Say) (pv : Option V), σ = [some (.str o.word), some (.ref b), some v, pv] ∧ SayAt K H4 v t ∧ t.pieces ≤ 2 + 3 * i ∧ (∀ x ∈ t.letters, x ∈ xs) ∧ Same H3 H4) ⟨u, t, none, rfl, hS.1.mono (same_tups s3), (hsm t List.mem_cons_self).1, (hsm t List.mem_cons_self).2, Same.refl _⟩ ?_ ?_ ?_⟩
  ·rintro i σ H4 _ ⟨v, t', pv, rfl, _, _, _, s4⟩
   exact s4.seq (SqL.of e3)
  ·rintro i x σ H4 hx ⟨v, t', pv, rfl, sv, pc, lt, s4⟩
   obtain ⟨t2, ht2, sv2⟩ := hS.2.at i x hx
   have hm2 := hsm t2 (List.mem_cons_of_mem _ (List.mem_of_getElem? ht2))
   walk_at "rp"
   refine ⟨sl24 (by simp), fun c H5 n5 s5 e5 => ⟨.ref c, .bin o t' t2, some x, rfl, ⟨c, v, x, rfl, SqT.of e5, sv.mono (same_tups s5), sv2.mono (same_tups (s3.trans (s4.trans s5)))⟩, ?_, fun y hy => ?_, s4.trans s5⟩⟩
   ·have := hm2.1
    simp only [Say.pieces]
    omega
   ·rcases List.mem_append.mp hy with z | z
    ·exact lt y z
    ·exact hm2.2 y z
  ·rintro σ H4 ⟨v, t', pv, rfl, sv, pc, lt, s4⟩
   walk_at "rp"
   have h9 := hS.2.len
   exact q v H4 t' (s3.trans s4) sv (by rw [List.length_cons]; omega) lt
def spChain (K : PySem.W.Frag) : Sp := fun vs H Q _ => ∃ (a : Addr) (ns : List Int) (b : Addr) (xs : List Str), vs = [.ref a, .ref b] ∧ SqL K H a (ns.map V.int) ∧ ns.length ≤ 5000 ∧ SqL K H b (xs.map V.str) ∧ xs.length = 5 ∧
 ∀ (p : Addr) (H' : Hp) (us : List V) (ts : List Say), Same H H' → SqT K H' p us → SaysAt K H' us ts → 1 ≤ ts.length → ts.length ≤ 6 → (∀ t ∈ ts, t.pieces ≤ 40 ∧ ∀ x ∈ t.letters, x ∈ xs) → Q (.ref p) H'
theorem sc_chain : FnScope ["_law_script", "_law_names_here", "_law_many", "_law_some", "_law_total", "_law_sayings_here", "_law_at"] ["_law_script", "_law_names_here"] (defScope (top 42)) := ⟨rfl, rfl, rfl, by decide +kernel, rfl, by decide +kernel, by decide +kernel⟩
theorem ok_chain (D : Def K mg "_law_chain" (top 42) ["_law_script", "_law_names_here"]) (C_law_pick : Callee P w K mg base 2 "_law_pick" ["_law_script", "_law_k", "_law_many"] (spPick K)) (C_law_turned : Callee P w K mg base 3 "_law_turned" ["_law_script", "_law_k", "_law_saying_here"] (spTurned K)) (C_law_joined : Callee P w K mg base 1 "_law_joined" ["_law_word", "_law_some"] (spJoined K))
  (C_law_saying : Callee P w K mg base 7 "_law_saying" ["_law_script", "_law_k", "_law_deep", "_law_names_here"] (spJSaying K 4)) (mg_len : mg "len" = none) (mg_range : mg "range" = none) (mg_tuple : mg "tuple" = none) : Callee P w K mg base 8 "_law_chain" ["_law_script", "_law_names_here"] (spChain K) := by
 refine D.callee sc_chain (fun vs H Q E h => ?_) fun f cdv A outer s H vs Q E hr h => ?_
 ·obtain ⟨a, ns, b, xs, rfl, _⟩ := h
  rfl
 have nd := sc_chain.nd
 obtain ⟨a, ns, b, xs, rfl, hS, h63, hb, hx5, q⟩ := h
 refine ⟨[some (.ref a), some (.ref b), none, none, none, none, none], _, rfl, (pss_cons (m_set 2 nd (pe_op m_add pe_int (m_call C_law_pick hr (by omega) (pa_cons (m_var 0) (pa_cons pe_int (pa_cons pe_int pa_nil))))))
  (pss_cons (m_setCompN 3 nd (ixs := [0, 1]) (compOk_mk (own := ["_law_j"]) (N := ["_law_script", "_law_names_here"]) rfl rfl rfl rfl rfl rfl rfl (by decide +kernel) rfl rfl rfl) rfl (m_range1 rfl mg_range (pa_cons (m_var 2) pa_nil)) (fun _ _ _ _ => pif_nil) (fun _ _ _ _ => (m_call C_law_turned hr (by omega) (pa_cons (m_var 1) (pa_cons (pe_op m_add pe_int (m_var 0)) (pa_cons (m_tup (pa_cons pe_str (pa_cons (m_ix (m_var 2) (m_var 0) (fun _ _ => rfl)) pa_nil))) pa_nil))))) rfl)
  (pss_cons (m_set 4 nd (m_call C_law_turned hr (by omega) (pa_cons (m_var 0) (pa_cons pe_int (pa_cons (m_call C_law_joined hr (by omega) (pa_cons (m_ix (m_lst (pa_cons pe_str (pa_cons pe_str pa_nil))) (m_call C_law_pick hr (by omega) (pa_cons (m_var 0) (pa_cons pe_int (pa_cons pe_int pa_nil)))) (fun _ _ => rfl)) (pa_cons (m_var 3) pa_nil))) pa_nil)))))
  (pss_cons (m_set 5 nd (pe_op m_add (m_var 3) (m_lst (pa_cons (m_var 4) pa_nil))))
  (pss_cons (ps_if (PW.pt (pw_and (m_test m_lt (m_var 2) pe_int (nomark _)) (pw_and1 (m_test (m_eq hr.units) (m_call C_law_pick hr (by omega) (pa_cons (m_var 0) (pa_cons pe_int (pa_cons pe_int pa_nil)))) pe_int (nomark _))))) (pss_one (m_set 5 nd (pe_op m_add (m_var 5) (m_lst (pa_cons (m_call C_law_saying hr (by omega) (pa_cons (m_var 0) (pa_cons pe_int (pa_cons pe_int (pa_cons (m_slice (m_var 1) po_none (m_part (m_var 2))) pa_nil))))) pa_nil))))) pss_nil)
  (pss_cons (m_set 6 nd (m_call C_law_pick hr (by omega) (pa_cons (m_var 0) (pa_cons pe_int (pa_cons (pe_callB m_len rfl mg_len bt_len (pa_cons (m_var 5) pa_nil)) pa_nil)))))
  (pss_one (ps_ret (pe_callTy m_tupOf rfl mg_tuple bt_tuple (pa_cons (pe_op m_add (m_slice (m_var 5) (m_part (m_var 6)) po_none) (m_slice (m_var 5) po_none (m_part (m_var 6)))) pa_nil)))))))))), ?_⟩
 walk_at "rp"
 refine ⟨a, ns, _, 4, rfl, hS, h63, by decide, by decide, by decide, fun m m0 m4 => ?_⟩
 walk_at "rp"
 refine ⟨⟨by omega, by omega⟩, fun C s₀ H₀ ex => ?_⟩
 have hmn : (2 + m).toNat ≤ 5 ∧ 2 ≤ (2 + m).toNat := by omega
 refine comp_range (fun D i ys H1 => ∃ ts : List Say, SaysAt K H1 ys ts ∧ ts.length = i ∧ (∀ t ∈ ts, t.pieces ≤ 2 ∧ ∀ x ∈ t.letters, x ∈ xs) ∧ H1 D = some (.lst ys) ∧ Same H H1 ∧ H D = none) (sl24 (by omega)) ?_ ?_ ?_ ?_
 ·intro D H1 n1 s1 e1
  exact ⟨[], trivial, rfl, fun t ht => by simp at ht, e1, s1, n1⟩
 ·rintro D i ys H1 ⟨ts, hT, hl, _, e1, _⟩
  exact ⟨e1, by rw [hT.len, hl]⟩
 ·rintro D i ys H1 hi ⟨ts, hT, hl, hsm, e1, s1, n1⟩
  walk_at "rp"
  obtain ⟨x, hx1, ex1⟩ := at_strs (xs := xs) (k := 0 + (i : Int)) (by omega) (by omega)
  refine ⟨_, _, .inl (s1.seq hb), ex1, sl24 (by simp), fun c H2 n2 s2 e2 => ?_⟩
  refine ⟨a, ns, _, _, .letter x, rfl, (s1.trans s2).seq hS, h63, by omega, by omega, ⟨c, rfl, SqT.of e2⟩, fun v H3 t s3 sv pc lt => ?_⟩
  have e3 := (s2.trans s3) _ _ e1
  have tl := tups_lst (o := .lst (ys ++ [v])) e3
  refine ⟨e3, CN.mk hi ⟨ts ++ [t], SaysAt.app (hT.mono ((same_tups (s2.trans s3)).trans tl)) ⟨sv.mono tl, trivial⟩, by rw [List.length_append, hl]; rfl, fun u hu => ?_, upd_same, same_upd (s1.trans (s2.trans s3)) n1 _, n1⟩⟩
  rcases List.mem_append.mp hu with z | z
  ·exact hsm u z
  ·rw [List.mem_singleton.mp z]
   refine ⟨by have : t.pieces ≤ 1 + 1 := pc; omega, fun y hy => ?_⟩
   have := lt y hy
   rw [List.mem_singleton.mp this]
   exact hx1
 ·rintro D ys H1 ⟨ts, hT, hl, hsm, e1, s1, n1⟩
  walk_at "rp"
  refine ⟨sl24 (by simp), fun wl H2 n2 s2 e2 => ?_⟩
  have s12 := s1.trans s2
  refine ⟨a, ns, _, 2, rfl, s12.seq hS, h63, by decide, by decide, by decide, fun o o0 o2 => ?_⟩
  walk_at "rp"
  obtain ⟨op, eop⟩ : ∃ op : Op2, atI [V.str (Str.ofString "and"), V.str (Str.ofString "or")] o = some (.str op.word) := by
   have o' : o = 0 ∨ o = 1 := by omega
   rcases o' with rfl | rfl
   ·exact ⟨.con, rfl⟩
   ·exact ⟨.dis, rfl⟩
  refine ⟨_, _, .inl (SqL.of e2), eop, ?_⟩
  refine ⟨op, D, ys, ts, xs, rfl, s2 _ _ e1, hT.mono (same_tups s2), by omega, hsm, fun v H3 t s3 sv pc lt => ?_⟩
  walk_at "rp"
  refine ⟨a, ns, _, v, t, rfl, (s12.trans s3).seq hS, h63, by decide, by decide, sv, fun v' H4 t' s4 sv' pc' lt' => ?_⟩
  walk_at "rp"
  refine ⟨sl24 (by simp), fun tw H5 n5 s5 e5 => ?_⟩
  have s15 : Same H1 H5 := s2.trans (s3.trans (s4.trans s5))
  have hyl := hT.len
  refine .inl ⟨_, _, s15 _ _ e1, e5, by rw [hyl, sizeLine_eq]; simp only [List.length_cons, List.length_nil]; omega, fun L H6 n6 s6 e6 => ?_⟩
  have s16 := s15.trans s6
  have hT6 : SaysAt K H6 (ys ++ [v']) (ts ++ [t']) := SaysAt.app (hT.mono (same_tups s16)) ⟨sv'.mono (same_tups (s5.trans s6)), trivial⟩
  have hl6 : (ts ++ [t']).length = (2 + m).toNat + 1 := by rw [List.length_append, hl]; rfl
  have hpc6 : ∀ u ∈ ts ++ [t'], u.pieces ≤ 40 ∧ ∀ x ∈ u.letters, x ∈ xs := fun u hu => by
   rcases List.mem_append.mp hu with z | z
   ·exact ⟨by have := (hsm u z).1; omega, (hsm u z).2⟩
   ·rw [List.mem_singleton.mp z]
    exact ⟨by omega, fun x hx => lt x (lt' x hx)⟩
  have b16 : 1 ≤ (ts ++ [t']).length := by omega
  have b66 : (ts ++ [t']).length ≤ 6 := by omega
  walk_at "rp"
  refine ite2 (fun c => ?_) (fun c => ?_)
  ·have hm5 : 2 + m < 5 := of_decide_eq_true c
   refine ⟨a, ns, _, 2, rfl, (s1.trans s16).seq hS, h63, by decide, by decide, by decide, fun z _ _ => ?_⟩
   walk_at "rp"
   refine ite2 (fun c2 => ?_) (fun c2 => ?_)
   ·refine .inl ⟨_, Same.seq (s1.trans s16) hb, fun nl H7 n7 s7 e7 => ?_⟩
    rw [cut_take _ (show 0 ≤ 2 + m by omega), ← List.map_take] at e7
    have s17 := s16.trans s7
    refine ⟨a, ns, 100, 2, nl, xs.take (2 + m).toNat, rfl, (s1.trans s17).seq hS, h63, by decide, by decide, by decide, .inl (SqL.of e7), by rw [List.length_take]; omega, by rw [List.length_take]; omega, fun v2 H8 t2 s8 sv2 pc2 lt2 => ?_⟩
    refine ⟨sl24 (by simp), fun l9 H9 n9 s9 e9 => ?_⟩
    have s69 : Same H6 H9 := s7.trans (s8.trans s9)
    refine .inl ⟨_, _, s69 _ _ e6, e9, by rw [List.length_append, hyl, sizeLine_eq]; simp only [List.length_cons, List.length_nil]; omega, fun LA H10 n10 s10 e10 => ?_⟩
    have s610 := s69.trans s10
    have hT10 : SaysAt K H10 ((ys ++ [v']) ++ [v2]) ((ts ++ [t']) ++ [t2]) := SaysAt.app (hT6.mono (same_tups s610)) ⟨sv2.mono (same_tups (s9.trans s10)), trivial⟩
    have hl10 : ((ts ++ [t']) ++ [t2]).length = (2 + m).toNat + 2 := by rw [List.length_append, hl6]; rfl
    have hpc10 : ∀ u ∈ (ts ++ [t']) ++ [t2], u.pieces ≤ 40 ∧ ∀ x ∈ u.letters, x ∈ xs := fun u hu => by
     rcases List.mem_append.mp hu with z | z
     ·exact hpc6 u z
     ·rw [List.mem_singleton.mp z]
      have pc2' : t2.pieces + 1 ≤ 8 := pc2
      exact ⟨by omega, fun x hx => List.mem_of_mem_take (lt2 x hx)⟩
    have b110 : 1 ≤ ((ts ++ [t']) ++ [t2]).length := by omega
    have b610 : ((ts ++ [t']) ++ [t2]).length ≤ 6 := by omega
    walk_at "rp"
    have hlz := SaysAt.len (hT10)
    refine ⟨_, .inl (SqL.of e10), ?_⟩
    refine ⟨a, ns, 8, _, rfl, Same.seq (s1.trans (s16.trans s610)) hS, h63, by decide, by decide, by have := b110; omega, fun r r0 r1 => ?_⟩
    walk_at "rp"
    refine .inl ⟨_, SqL.of e10, fun A1 HA nA sA eA => ?_⟩
    refine .inl ⟨_, SqL.of (sA _ _ e10), fun A2 HB nB sB eB => ?_⟩
    rw [cut_drop _ r0] at eA
    rw [cut_take _ r0] at eB
    refine .inl ⟨_, _, sB _ _ eA, eB, by rw [List.length_drop, List.length_take, sizeLine_eq]; have := b610; omega, fun A3 HC nC sC eC => ?_⟩
    refine ⟨_, .inl (SqL.of eC), fun p HD sD hD => ?_⟩
    have tt := same_tups (sA.trans (sB.trans (sC.trans sD)))
    refine q p HD _ (List.drop r.toNat ((ts ++ [t']) ++ [t2]) ++ List.take r.toNat ((ts ++ [t']) ++ [t2])) (Same.trans (s1.trans (s16.trans s610)) (sA.trans (sB.trans (sC.trans sD)))) hD (SaysAt.app (SaysAt.drop _ (SaysAt.mono tt (hT10))) (SaysAt.take _ (SaysAt.mono tt (hT10)))) ?_ ?_ fun u hu => ?_
    ·rw [List.length_append, List.length_drop, List.length_take]; have := b110; omega
    ·rw [List.length_append, List.length_drop, List.length_take]; have := b610; omega
    ·exact hpc10 u ((List.mem_append.mp hu).elim List.mem_of_mem_drop List.mem_of_mem_take)
   ·walk_at "rp"
    have hlz := SaysAt.len (hT6)
    refine ⟨_, .inl (SqL.of e6), ?_⟩
    refine ⟨a, ns, 8, _, rfl, Same.seq (s1.trans s16) hS, h63, by decide, by decide, by have := b16; omega, fun r r0 r1 => ?_⟩
    walk_at "rp"
    refine .inl ⟨_, SqL.of e6, fun A1 HA nA sA eA => ?_⟩
    refine .inl ⟨_, SqL.of (sA _ _ e6), fun A2 HB nB sB eB => ?_⟩
    rw [cut_drop _ r0] at eA
    rw [cut_take _ r0] at eB
    refine .inl ⟨_, _, sB _ _ eA, eB, by rw [List.length_drop, List.length_take, sizeLine_eq]; have := b66; omega, fun A3 HC nC sC eC => ?_⟩
    refine ⟨_, .inl (SqL.of eC), fun p HD sD hD => ?_⟩
    have tt := same_tups (sA.trans (sB.trans (sC.trans sD)))
    refine q p HD _ (List.drop r.toNat (ts ++ [t']) ++ List.take r.toNat (ts ++ [t'])) (Same.trans (s1.trans s16) (sA.trans (sB.trans (sC.trans sD)))) hD (SaysAt.app (SaysAt.drop _ (SaysAt.mono tt (hT6))) (SaysAt.take _ (SaysAt.mono tt (hT6)))) ?_ ?_ fun u hu => ?_
    ·rw [List.length_append, List.length_drop, List.length_take]; have := b16; omega
    ·rw [List.length_append, List.length_drop, List.length_take]; have := b66; omega
    ·exact hpc6 u ((List.mem_append.mp hu).elim List.mem_of_mem_drop List.mem_of_mem_take)
  ·walk_at "rp"
   have hlz := SaysAt.len (hT6)
   refine ⟨_, .inl (SqL.of e6), ?_⟩
   refine ⟨a, ns, 8, _, rfl, Same.seq (s1.trans s16) hS, h63, by decide, by decide, by have := b16; omega, fun r r0 r1 => ?_⟩
   walk_at "rp"
   refine .inl ⟨_, SqL.of e6, fun A1 HA nA sA eA => ?_⟩
   refine .inl ⟨_, SqL.of (sA _ _ e6), fun A2 HB nB sB eB => ?_⟩
   rw [cut_drop _ r0] at eA
   rw [cut_take _ r0] at eB
   refine .inl ⟨_, _, sB _ _ eA, eB, by rw [List.length_drop, List.length_take, sizeLine_eq]; have := b66; omega, fun A3 HC nC sC eC => ?_⟩
   refine ⟨_, .inl (SqL.of eC), fun p HD sD hD => ?_⟩
   have tt := same_tups (sA.trans (sB.trans (sC.trans sD)))
   refine q p HD _ (List.drop r.toNat (ts ++ [t']) ++ List.take r.toNat (ts ++ [t'])) (Same.trans (s1.trans s16) (sA.trans (sB.trans (sC.trans sD)))) hD (SaysAt.app (SaysAt.drop _ (SaysAt.mono tt (hT6))) (SaysAt.take _ (SaysAt.mono tt (hT6)))) ?_ ?_ fun u hu => ?_
   ·rw [List.length_append, List.length_drop, List.length_take]; have := b16; omega
   ·rw [List.length_append, List.length_drop, List.length_take]; have := b66; omega
   ·exact hpc6 u ((List.mem_append.mp hu).elim List.mem_of_mem_drop List.mem_of_mem_take)
def spJSayings (K : PySem.W.Frag) : Sp := fun vs H Q _ => ∃ (a : Addr) (ns : List Int), vs = [.ref a] ∧ SqL K H a (ns.map V.int) ∧ ns.length ≤ 5000 ∧ ∀ (p : Addr) (H' : Hp) (us : List V) (ts : List Say) (xs : List Str), Same H H' → SqT K H' p us → SaysAt K H' us ts → Lst ts xs → Q (.ref p) H'
theorem sc_jsays : FnScope ["_law_script", "_law_names_here", "_law_many"] ["_law_script"] (defScope (top 43)) := ⟨rfl, rfl, rfl, by decide +kernel, rfl, by decide +kernel, by decide +kernel⟩
theorem ok_jsays (D : Def K mg "_law_sayings" (top 43) ["_law_script"]) (C_law_pick : Callee P w K mg base 2 "_law_pick" ["_law_script", "_law_k", "_law_many"] (spPick K)) (C_law_names : Callee P w K mg base 3 "_law_names" ["_law_script", "_law_k", "_law_many"] (spNames K)) (C_law_chain : Callee P w K mg base 8 "_law_chain" ["_law_script", "_law_names_here"] (spChain K))
  (C_law_saying : Callee P w K mg base 7 "_law_saying" ["_law_script", "_law_k", "_law_deep", "_law_names_here"] (spJSaying K 4)) (mg_range : mg "range" = none) (mg_tuple : mg "tuple" = none) : Callee P w K mg base 9 "_law_sayings" ["_law_script"] (spJSayings K) := by
 refine D.callee sc_jsays (fun vs H Q E h => ?_) fun f cdv A outer s H vs Q E hr h => ?_
 ·obtain ⟨a, ns, rfl, _⟩ := h
  rfl
 have nd := sc_jsays.nd
 obtain ⟨a, ns, rfl, hS, h63, q⟩ := h
 refine ⟨[some (.ref a), none, none], _, rfl, (pss_cons (ps_if (m_test (m_eq hr.units) (m_call C_law_pick hr (by omega) (pa_cons (m_var 0) (pa_cons pe_int (pa_cons pe_int pa_nil)))) pe_int (nomark _)) (pss_one (ps_ret (m_call C_law_chain hr (by omega) (pa_cons (m_var 0) (pa_cons (m_call C_law_names hr (by omega) (pa_cons (m_var 0) (pa_cons pe_int (pa_cons pe_int pa_nil)))) pa_nil))))) pss_nil)
  (pss_cons (m_set 1 nd (m_call C_law_names hr (by omega) (pa_cons (m_var 0) (pa_cons pe_int (pa_cons (pe_op m_add pe_int (m_call C_law_pick hr (by omega) (pa_cons (m_var 0) (pa_cons pe_int (pa_cons pe_int pa_nil))))) pa_nil)))))
  (pss_cons (m_set 2 nd (pe_op m_add pe_int (m_call C_law_pick hr (by omega) (pa_cons (m_var 0) (pa_cons pe_int (pa_cons pe_int pa_nil))))))
  (pss_one (ps_ret (pe_callTy m_tupOf rfl mg_tuple bt_tuple (pa_cons (m_compN (ixs := [0, 1]) (compOk_mk (own := ["_law_j"]) (N := ["_law_script", "_law_names_here"]) rfl rfl rfl rfl rfl rfl rfl (by decide +kernel) rfl rfl rfl) rfl (m_range1 rfl mg_range (pa_cons (m_var 2) pa_nil)) (fun _ _ _ _ => pif_nil) (fun _ _ _ _ => (m_call C_law_saying hr (by omega) (pa_cons (m_var 1) (pa_cons (pe_op m_add pe_int (pe_op m_mul pe_int (m_var 0))) (pa_cons (pe_op m_add pe_int (m_call C_law_pick hr (by omega) (pa_cons (m_var 1) (pa_cons (pe_op m_add pe_int (m_var 0)) (pa_cons pe_int pa_nil))))) (pa_cons (m_var 2) pa_nil)))))) rfl) pa_nil))))))), ?_⟩
 walk_at "rp"
 refine ⟨a, ns, _, 2, rfl, hS, h63, by decide, by decide, by decide, fun r _ _ => ?_⟩
 walk_at "rp"
 refine ite2 (fun c => ?_) (fun c => ?_)
 ·refine ⟨a, ns, _, 5, rfl, hS, h63, by decide, by decide, by decide, by decide, fun b H1 xs nb s1 eb lb hx => ?_⟩
  refine ⟨a, ns, b, xs, rfl, s1.seq hS, h63, SqL.of eb, by omega, fun p H2 us ts s2 h2 hSa h1 h6 hpc => ?_⟩
  refine q p H2 us ts xs (s1.trans s2) h2 hSa ⟨h1, h6, fun t ht => (hpc t ht).1, fun x hx' => ?_, by omega, hx⟩
  obtain ⟨t, ht, hxt⟩ := mem_allL.mp hx'
  exact (hpc t ht).2 x hxt
 ·refine ⟨a, ns, _, 5, rfl, hS, h63, by decide, by decide, by decide, fun r1 r10 r11 => ?_⟩
  walk_at "rp"
  refine ⟨a, ns, _, _, rfl, hS, h63, by decide, by decide, by omega, by omega, fun b H1 xs nb s1 eb lb hx => ?_⟩
  walk_at "rp"
  refine ⟨a, ns, _, 6, rfl, s1.seq hS, h63, by decide, by decide, by decide, fun r2 r20 r21 => ?_⟩
  walk_at "rp"
  refine ⟨⟨by omega, by omega⟩, fun C s₀ H₀ ex => ?_⟩
  refine comp_range (fun D i ys H2 => ∃ ts : List Say, SaysAt K H2 ys ts ∧ ts.length = i ∧ (∀ t ∈ ts, t.pieces ≤ 40 ∧ ∀ x ∈ t.letters, x ∈ xs) ∧ H2 D = some (.lst ys) ∧ Same H1 H2 ∧ H1 D = none) (sl24 (by omega)) ?_ ?_ ?_ ?_
  ·intro D H2 n2 s2 e2
   exact ⟨[], trivial, rfl, fun t ht => by simp at ht, e2, s2, n2⟩
  ·rintro D i ys H2 ⟨ts, hT, hl, _, e2, _⟩
   exact ⟨e2, by rw [hT.len, hl]⟩
  ·rintro D i ys H2 hi ⟨ts, hT, hl, hsm, e2, s2, n2⟩
   walk_at "rp"
   refine ⟨cm (by omega), a, ns, _, 3, rfl, (s1.trans s2).seq hS, h63, by omega, by omega, by decide, fun r3 r30 r31 => ?_⟩
   walk_at "rp"
   have em : (1 + r3 : Int) = (((1 + r3).toNat : Nat) : Int) := by omega
   have hm3 : (1 + r3).toNat = 1 ∨ (1 + r3).toNat = 2 ∨ (1 + r3).toNat = 3 := by omega
   rw [em]
   generalize (1 + r3).toNat = m at hm3
   refine ⟨a, ns, _, m, b, xs, rfl, (s1.trans s2).seq hS, h63, by omega, ?_, by omega, .inl (s2.seq (SqL.of eb)), by omega, by omega, fun v H3 t s3 sv pc lt => ?_⟩
   ·rcases hm3 with rfl | rfl | rfl <;> simp <;> omega
   ·have e3 := s3 _ _ e2
    have tl := tups_lst (o := .lst (ys ++ [v])) e3
    refine ⟨e3, CN.mk hi ⟨ts ++ [t], SaysAt.app (hT.mono ((same_tups s3).trans tl)) ⟨sv.mono tl, trivial⟩, by rw [List.length_append, hl]; rfl, fun u hu => ?_, upd_same, same_upd (s2.trans s3) n2 _, n2⟩⟩
    rcases List.mem_append.mp hu with z | z
    ·exact hsm u z
    ·rw [List.mem_singleton.mp z]
     refine ⟨?_, lt⟩
     rcases hm3 with rfl | rfl | rfl <;> simp at pc <;> omega
  ·rintro D ys H2 ⟨ts, hT, hl, hsm, e2, s2, n2⟩
   refine ⟨_, .inl (SqL.of e2), fun p H3 s3 h3 => q p H3 ys ts xs (s1.trans (s2.trans s3)) h3 (hT.mono (same_tups s3)) ⟨by omega, by omega, fun t ht => (hsm t ht).1, fun x hx' => ?_, by omega, hx⟩⟩
   obtain ⟨t, ht, hxt⟩ := mem_allL.mp hx'
   exact (hsm t ht).2 x hxt
theorem heldOf_low : ∀ (xs : List Str) (x : Str) (n : Nat), n < 2 ^ xs.length → heldOf (n : Int) (xs ++ [x]) = heldOf (n : Int) xs
 | [], x, n, h => by
  have : n = 0 := by simpa using h
  subst this
  rfl
 | y :: xs, x, n, h => by
  rw [List.length_cons, Nat.pow_succ] at h
  generalize hp : 2 ^ xs.length = p at h
  have ih := heldOf_low xs x (n / 2) (by omega)
  have e : ((n : Nat) : Int) / 2 = ((n / 2 : Nat) : Int) := by omega
  show (if (n : Int) % 2 = 1 then y :: heldOf ((n : Int) / 2) (xs ++ [x]) else heldOf ((n : Int) / 2) (xs ++ [x])) = (if (n : Int) % 2 = 1 then y :: heldOf ((n : Int) / 2) xs else heldOf ((n : Int) / 2) xs)
  rw [e, ih]
theorem heldOf_high : ∀ (xs : List Str) (x : Str) (n : Nat), n < 2 ^ xs.length → heldOf ((2 ^ xs.length + n : Nat) : Int) (xs ++ [x]) = heldOf (n : Int) xs ++ [x]
 | [], x, n, h => by
  have : n = 0 := by simpa using h
  subst this
  rfl
 | y :: xs, x, n, h => by
  have ih := heldOf_high xs x (n / 2)
  rw [List.length_cons, Nat.pow_succ] at h ⊢
  generalize hp : 2 ^ xs.length = p at h ih ⊢
  have ih := ih (by omega)
  have e : (((p * 2 + n : Nat) : Int)) / 2 = ((p + n / 2 : Nat) : Int) := by omega
  have e1 : ((n : Nat) : Int) / 2 = ((n / 2 : Nat) : Int) := by omega
  have e2 : (((p * 2 + n : Nat) : Int)) % 2 = (n : Int) % 2 := by omega
  show (if ((p * 2 + n : Nat) : Int) % 2 = 1 then y :: heldOf (((p * 2 + n : Nat) : Int) / 2) (xs ++ [x]) else heldOf (((p * 2 + n : Nat) : Int) / 2) (xs ++ [x])) = (if (n : Int) % 2 = 1 then y :: heldOf ((n : Int) / 2) xs else heldOf ((n : Int) / 2) xs) ++ [x]
  rw [e, e2, ih, e1]
  split <;> rfl
theorem take_succ_at {ss : List Str} {i : Nat} {x : Str} (h : ss[i]? = some x) : ss.take (i + 1) = ss.take i ++ [x] := by
 rw [List.take_add_one, h]
 rfl
theorem sc_jrows : FnScope ["_law_sayings_here", "_law_names_here", "_law_saying_here", "_law_holds", "_law_name", "_law_rows_here"] ["_law_sayings_here"] (defScope (top 46)) := ⟨rfl, rfl, rfl, by decide +kernel, rfl, by decide +kernel, by decide +kernel⟩
theorem ok_jrows (D : Def K mg "_law_rows" (top 46) ["_law_sayings_here"]) (C_law_letters : Callee P w K mg base 40 "_law_letters" ["_law_saying_here"] (spJLetters K 40)) (C_law_so : Callee P w K mg base 40 "_law_so" ["_law_saying_here", "_law_held"] (spJSo K 40))
  (mg_sorted : mg "sorted" = none) (mg_set : mg "set" = none) (mg_tuple : mg "tuple" = none) : Callee P w K mg base 41 "_law_rows" ["_law_sayings_here"] (spFitRows K) := by
 refine D.callee sc_jrows (fun vs H Q E h => ?_) fun f cdv A outer s H vs Q E hr h => ?_
 ·obtain ⟨a, us, ts, xs, rfl, _⟩ := h
  rfl
 have nd := sc_jrows.nd
 obtain ⟨a, us, ts, xs, rfl, ha, hS, hL, q⟩ := h
 have hl := hS.len
 have h6 := hL.hi
 refine ⟨[some (.ref a), none, none, none, none, none], _, rfl, (pss_cons (m_set 1 nd (m_lst pa_nil))
  (pss_cons (m_for PassesOwn.never rfl (pi_seq (m_var 0)) (m_tg 2 nd) (pss_one (m_set 1 nd (pe_op m_add (m_var 1) (m_call C_law_letters hr (by omega) (pa_cons (m_var 2) pa_nil))))))
  (pss_cons (m_set 1 nd (m_sortedSet rfl hr.units rfl mg_sorted rfl mg_set (m_var 1)))
  (pss_cons (m_set 3 nd (m_lst (pa_cons (m_tup pa_nil) pa_nil)))
  (pss_cons (m_for PassesOwn.never rfl (pi_seq (m_var 1)) (m_tg 4 nd) (pss_one (m_set 3 nd (pe_op m_add (m_var 3) (m_compN (ixs := [4]) (compOk_mk (own := ["_law_held"]) (N := ["_law_name"]) rfl rfl rfl rfl rfl rfl rfl (by decide +kernel) rfl rfl rfl) rfl (pi_seq (m_var 3)) (fun _ _ _ _ => pif_nil) (fun _ _ _ _ => (pe_op m_add (m_var 0) (m_tup (pa_cons (m_var 1) pa_nil)))) rfl)))))
  (pss_cons (m_setCompC 5 nd (ixs := [0]) (compOkC_mk (x := "_law_held") (N := ["_law_sayings_here"]) rfl rfl rfl rfl (fun _ => rfl) (fun _ => rfl) rfl rfl rfl (by decide +kernel) rfl rfl rfl) rfl (pi_seq (m_var 3)) (fun _ _ _ _ => pif_nil) (fun _ _ _ _ => (pe_callTy m_tupOf rfl mg_tuple bt_tuple (pa_cons (m_compN (ixs := [0]) (compOk_mk (own := ["_law_saying_here"]) (N := ["_law_held"]) rfl rfl rfl rfl rfl rfl rfl (by decide +kernel) rfl rfl rfl) rfl (pi_seq (m_var 1)) (fun _ _ _ _ => pif_nil) (fun _ _ _ _ => (m_call C_law_so hr (by omega) (pa_cons (m_var 0) (pa_cons (m_var 1) pa_nil)))) rfl) pa_nil))) rfl)
  (pss_one (ps_ret (m_sortedSet rfl hr.units rfl mg_sorted rfl mg_set (m_var 5)))))))))), ?_⟩
 walk_at "rp"
 refine ⟨sl24 (by simp), fun r H1 n1 s1 e1 => ?_⟩
 refine .inr ⟨⟨_, (same_tups s1).sqT ha⟩, loop_tup (xs := us) (fun i σ H2 => ∃ (r : Addr) (iv : Option V), σ = [some (.ref a), some (.ref r), iv, none, none, none] ∧ H2 r = some (.lst ((allL (ts.take i)).map V.str)) ∧ (allL (ts.take i)).length ≤ 40 * i ∧ Same H H2) ⟨r, none, rfl, e1, by simp [allL], s1⟩ ?_ ?_ ?_⟩
 ·rintro i σ H2 _ ⟨r, iv, rfl, _, _, s2⟩
  exact (same_tups s2).sqT ha
 ·rintro i x σ H2 hx ⟨r, iv, rfl, e2, hc, s2⟩
  obtain ⟨t, ht, sv⟩ := hS.at i x hx
  have htm := List.mem_of_getElem? ht
  have hi : i < us.length := (List.getElem?_eq_some_iff.mp hx).1
  have hpc := hL.pc t htm
  have b4 := letters_len t
  walk_at "rp"
  refine ⟨x, t, rfl, sv.mono (same_tups s2), hpc, by omega, fun z H3 n3 s3 e3 => ?_⟩
  walk_at "rp"
  refine .inl ⟨_, _, s3 _ _ e2, e3, by rw [List.length_map, List.length_map, sizeLine_eq]; omega, fun r2 H4 n4 s4 e4 => ⟨r2, some x, rfl, ?_, ?_, s2.trans (s3.trans s4)⟩⟩
  ·rw [e4, allL_take ht, List.map_append]
  ·rw [allL_take ht, List.length_append]
   omega
 rintro σ H2 ⟨r, iv, rfl, e2, hc, s2⟩
 rw [hl, List.take_length] at e2 hc
 walk_at "rp"
 refine .inl ⟨_, .inl (SqL.of e2), by unfold scanBound; omega, fun ss' hn hs => ?_, fun ss hn hmm hst b H3 n3 s3 e3 => ?_⟩
 ·have := nodup_len hn fun y hy => hL.nm y (hs y hy)
  have := hL.xl
  omega
 have hN : NamesOf ts ss := ⟨hn, fun y => hmm y, hst⟩
 obtain ⟨hss, hsn⟩ := hL.names hN
 have p5 := pow_5 hss
 walk_at "rp"
 refine ⟨sl24 (by simp), fun e H4 n4 s4 e4 => ?_⟩
 refine ⟨sl24 (by simp), fun d H5 n5 s5 e5 => ?_⟩
 walk_at "rp"
 have s35 := s4.trans s5
 have s05 := s2.trans (s3.trans s35)
 refine .inl ⟨⟨_, SqL.of (s35 _ _ e3)⟩, loop_list (xs := ss.map V.str) (fun i σ H6 => ∃ (d : Addr) (as : List Addr) (nv : Option V), σ = [some (.ref a), some (.ref b), iv, some (.ref d), nv, none] ∧ H6 d = some (.lst (as.map V.ref)) ∧ as.length = 2 ^ i ∧ (∀ (n : Nat) c, as[n]? = some c → SqT K H6 c ((heldOf (n : Int) (ss.take i)).map V.str)) ∧ Same H5 H6 ∧ i ≤ ss.length) ⟨d, [e], none, rfl, e5, rfl, ?_, Same.refl _, Nat.zero_le _⟩ ?_ ?_ ?_⟩
 ·intro n c hc
  cases n with
  | zero =>
   cases hc
   exact SqT.of (s5 _ _ e4)
  | succ n => simp at hc
 ·rintro i σ H6 _ ⟨d, as, nv, rfl, _, _, _, s6, _⟩
  exact SqL.of (s6 _ _ (s35 _ _ e3))
 ·rintro i x σ H6 hx ⟨d, as, nv, rfl, e6, hal, hat, s6, hi⟩
  rw [List.getElem?_map] at hx
  cases hy : ss[i]? with
  | none => rw [hy] at hx; cases hx
  | some y =>
  rw [hy] at hx
  cases hx
  have hi' : i < ss.length := (List.getElem?_eq_some_iff.mp hy).1
  have p6 := pow_5 (n := i) (by omega)
  walk_at "rp"
  refine .inl ⟨⟨_, SqL.of e6⟩, fun C s₀ H₀ ex => ?_⟩
  refine comp_lst (xs := as.map V.ref) (fun D j ys H7 => ∃ cs : List Addr, ys = cs.map V.ref ∧ cs.length = j ∧ (∀ (n : Nat) c, cs[n]? = some c → SqT K H7 c ((heldOf (n : Int) (ss.take i) ++ [y]).map V.str)) ∧ H7 D = some (.lst ys) ∧ Same H6 H7 ∧ H6 D = none) (by rw [List.length_map, sizeLine_eq]; omega) ?_ ?_ ?_ ?_
  ·intro D H7 n7 s7 e7
   exact ⟨[], rfl, rfl, fun n c hc => by simp at hc, e7, s7, n7⟩
  ·rintro D j ys H7 ⟨cs, rfl, hcl, _, e7, s7, _⟩
   exact ⟨SqL.of (s7 _ _ e6), e7, by rw [List.length_map, hcl]⟩
  ·rintro D j v ys H7 hv ⟨cs, rfl, hcl, hct, e7, s7, n7⟩
   rw [List.getElem?_map] at hv
   cases hc : as[j]? with
   | none => rw [hc] at hv; cases hv
   | some c =>
   rw [hc] at hv
   cases hv
   have hj : j < as.length := (List.getElem?_eq_some_iff.mp hc).1
   walk_at "rp"
   refine ⟨sl24 (by simp), fun t H8 n8 s8 e8 => ?_⟩
   have hb := heldOf_len (j : Int) (ss.take i)
   rw [List.length_take] at hb
   refine .inr ⟨_, _, (same_tups (s7.trans s8)).sqT (hat j c hc), SqT.of e8, by rw [List.length_map, sizeLine_eq]; simp; omega, fun p H9 s9 h9 => ⟨(s8.trans s9) _ _ e7, CN.mk (by rw [List.length_map]; exact hj) ⟨cs ++ [p], by rw [List.map_append]; rfl, by rw [List.length_append, hcl]; rfl, fun n c' hc' => ?_, upd_same, same_upd (s7.trans (s8.trans s9)) n7 _, n7⟩⟩⟩
   have tl := tups_lst (o := .lst (cs.map V.ref ++ [V.ref p])) ((s8.trans s9) _ _ e7)
   by_cases hnc : n < cs.length
   ·rw [List.getElem?_append_left hnc] at hc'
    exact tl.sqT ((same_tups (s8.trans s9)).sqT (hct n c' hc'))
   ·have hn2 : n = cs.length := by
     have := (List.getElem?_eq_some_iff.mp hc').1
     simp at this
     omega
    subst hn2
    rw [List.getElem?_append_right (Nat.le_refl _), Nat.sub_self] at hc'
    cases hc'
    rw [hcl, List.map_append]
    exact tl.sqT h9
  ·rintro D ys H7 ⟨cs, rfl, hcl, hct, e7, s7, n7⟩
   rw [List.length_map] at hcl
   refine .inl ⟨_, _, s7 _ _ e6, e7, by rw [List.length_map, List.length_map, sizeLine_eq]; omega, fun g H8 n8 s8 e8 => ⟨g, as ++ cs, some (.str y), rfl, by rw [e8, List.map_append], by rw [List.length_append, hcl, hal, Nat.pow_succ]; omega, fun n c hc => ?_, s6.trans (s7.trans s8), hi'⟩⟩
   rw [take_succ_at hy]
   have htl : (ss.take i).length = i := by rw [List.length_take]; omega
   by_cases hna : n < as.length
   ·rw [List.getElem?_append_left hna] at hc
    rw [heldOf_low _ _ _ (by rw [htl, ← hal]; exact hna)]
    exact (same_tups (s7.trans s8)).sqT (hat n c hc)
   ·rw [List.getElem?_append_right (by omega)] at hc
    have hnc : n - as.length < cs.length := (List.getElem?_eq_some_iff.mp hc).1
    have hh := heldOf_high (ss.take i) y (n - as.length) (by rw [htl, ← hal]; omega)
    rw [htl, ← hal, Nat.add_sub_cancel' (by omega)] at hh
    rw [hh]
    exact (same_tups s8).sqT (hct _ c hc)
 rintro σ H6 ⟨d, as, nv, rfl, e6, hal, hat, s6, _⟩
 rw [List.length_map] at hal hat
 rw [List.take_length] at hat
 have s06 := s05.trans s6
 walk_at "rp"
 refine .inl ⟨⟨_, SqL.of e6⟩, fun C s₀ H₀ ex => ?_⟩
 refine comp_lst (xs := as.map V.ref) (fun D i ys H7 => ∃ R : List (Addr × List Bool), ys = (R.map fun r => V.ref r.1) ∧ R.map (·.2) = (List.range i).map (fun (n : Nat) => rowOf ts (heldOf (n : Int) ss)) ∧ (∀ r ∈ R, SqT K H7 r.1 (r.2.map V.bl)) ∧ H7 D = some (.lst ys) ∧ Same H6 H7 ∧ H6 D = none) (by rw [List.length_map, sizeLine_eq]; omega) ?_ ?_ ?_ ?_
 ·intro D H7 n7 s7 e7
  exact ⟨[], rfl, rfl, fun r hr => by simp at hr, e7, s7, n7⟩
 ·rintro D i ys H7 ⟨R, rfl, hR, _, e7, s7, _⟩
  refine ⟨SqL.of (s7 _ _ e6), e7, ?_⟩
  have := congrArg List.length hR
  simpa using this
 ·rintro D i v ys H7 hv ⟨R, rfl, hR, hT, e7, s7, n7⟩
  rw [List.getElem?_map] at hv
  cases hc : as[i]? with
  | none => rw [hc] at hv; cases hv
  | some c =>
  rw [hc] at hv
  cases hv
  have hi : i < as.length := (List.getElem?_eq_some_iff.mp hc).1
  have hh7 := (same_tups s7).sqT (hat i c hc)
  have s07 := s06.trans s7
  walk_at "rp"
  refine .inr ⟨⟨_, (same_tups s07).sqT ha⟩, fun C s₀ H₀ ex => ?_⟩
  refine comp_tup (xs := us) (fun D' j zs H8 => zs = ((ts.take j).map fun t => t.so (heldOf (i : Int) ss)).map V.bl ∧ j ≤ us.length ∧ H8 D' = some (.lst zs) ∧ Same H7 H8 ∧ H7 D' = none) (by rw [sizeLine_eq]; omega) ?_ ?_ ?_ ?_
  ·intro D' H8 n8 s8 e8
   exact ⟨rfl, Nat.zero_le _, e8, s8, n8⟩
  ·rintro D' j zs H8 ⟨rfl, hj, e8, s8, _⟩
   exact ⟨(same_tups (s07.trans s8)).sqT ha, e8, by simp; omega⟩
  ·rintro D' j v zs H8 hv ⟨rfl, hj, e8, s8, n8⟩
   obtain ⟨t, ht, sv⟩ := hS.at j v hv
   walk_at "rp"
   refine ⟨v, c, t, heldOf (i : Int) ss, rfl, sv.mono (same_tups (s07.trans s8)), hL.pc t (List.mem_of_getElem? ht), (same_tups s8).sqT hh7, ⟨e8, CN.mk (List.getElem?_eq_some_iff.mp hv).1 ⟨?_, (List.getElem?_eq_some_iff.mp hv).1, upd_same, same_upd s8 n8 _, n8⟩⟩⟩
   rw [List.take_add_one, ht]
   simp
  ·rintro D' zs H8 ⟨rfl, hj, e8, s8, n8⟩
   rw [hl, List.take_length] at e8
   refine ⟨_, .inl (SqL.of e8), fun p H9 s9 h9 => ⟨(s8.trans s9) _ _ e7, CN.mk (by rw [List.length_map]; exact hi) ⟨R ++ [(p, rowOf ts (heldOf (i : Int) ss))], by rw [List.map_append]; rfl, ?_, fun r hr => ?_, upd_same, same_upd (s7.trans (s8.trans s9)) n7 _, n7⟩⟩⟩
   ·rw [List.map_append, hR, List.range_succ, List.map_append]
    rfl
   ·have tl := tups_lst (o := .lst ((R.map fun r => V.ref r.1) ++ [V.ref p])) ((s8.trans s9) _ _ e7)
    rcases List.mem_append.mp hr with hr | hr
    ·exact tl.sqT ((same_tups (s8.trans s9)).sqT (hT r hr))
    ·rw [List.mem_singleton.mp hr]
     exact tl.sqT h9
 ·rintro D ys H7 ⟨R, rfl, hR, hT, e7, s7, n7⟩
  rw [List.length_map, hal] at hR
  have hRl : R.length = 2 ^ ss.length := by
   have := congrArg List.length hR
   simpa using this
  walk_at "rp"
  refine .inr ⟨R, SqL.of e7, fun r hr => ⟨hT r hr, ?_⟩, by omega, fun R' hsub hnd hmem hst hle p H8 n8 s8 e8 => ?_⟩
  ·have : r.2 ∈ R.map (·.2) := List.mem_map_of_mem hr
   rw [hR] at this
   obtain ⟨n, _, e⟩ := List.mem_map.mp this
   intro z
   rw [← e] at z
   have h1 := rowOf_len ts (heldOf (n : Int) ss)
   rw [z] at h1
   have := hL.lo
   simp at h1
   omega
  ·refine q p H8 ss R' (same_new_none (s06.trans s7) n8) (s06.trans (s7.trans s8)) e8 (fun r hr => (same_tups s8).sqT (hT r (hsub r hr))) hN ⟨hnd, fun k => ?_, hst⟩ (by omega)
   rw [hmem k, hR, List.mem_map]
   constructor
   ·rintro ⟨n, hn, rfl⟩
    exact ⟨n, List.mem_range.mp hn, rfl⟩
   ·rintro ⟨n, hn, rfl⟩
    exact ⟨n, List.mem_range.mpr hn, rfl⟩
def spWho (K : PySem.W.Frag) : Sp := fun vs H Q _ => ∃ (a : Addr) (J : List (Addr × List Bool)) (m j : Nat) (t : Bool), vs = [.ref a, .int (j : Int), .bl t] ∧ JudgesAt K H a J m ∧ j < m ∧
 ∀ (p : Addr) (H' : Hp), H p = none → Same H H' → H' p = some (.lst ((sayers (J.map (·.2)) j t J.length).map fun (n : Nat) => V.int (n : Int))) → Q (.ref p) H'
theorem sc_who : FnScope ["judges", "number", "truth"] ["judges", "number", "truth"] (defScope (top 1)) := ⟨rfl, rfl, rfl, by decide +kernel, rfl, by decide +kernel, by decide +kernel⟩
theorem ok_who (D : Def K mg "who_say" (top 1) ["judges", "number", "truth"]) (mg_enumerate : mg "enumerate" = none) : Callee P w K mg base 1 "who_say" ["judges", "number", "truth"] (spWho K) := by
 refine D.callee sc_who (fun vs H Q E h => ?_) fun f cdv A outer s H vs Q E hr h => ?_
 ·obtain ⟨a, J, m, j, t, rfl, _⟩ := h
  rfl
 have nd := sc_who.nd
 obtain ⟨a, J, m, j, t, rfl, hJ, hj, q⟩ := h
 have hhi := hJ.hi
 refine ⟨[some (.ref a), some (.int (j : Int)), some (.bl t)], _, rfl, (pss_one (ps_ret (m_compP (ixs := [1, 2]) (compOk_mk (own := ["judge", "row"]) (N := ["number", "truth"]) rfl rfl rfl rfl rfl rfl rfl (by decide +kernel) rfl rfl rfl) rfl (m_enum rfl mg_enumerate (pa_cons (m_var 0) pa_nil)) (fun _ _ _ _ => (pif_one (m_test (m_eq hr.units) (m_ix (m_var 1) (m_var 2) (fun _ _ => rfl)) (m_var 3) (nomark _)))) (fun _ _ _ _ => (m_var 0)) rfl))), ?_⟩
 walk_at "rp"
 refine ⟨⟨_, hJ.sq⟩, fun C s₀ H₀ ex => ?_⟩
 refine compE_tup (xs := J.map fun r => V.ref r.1) (fun D i ys H2 => ys = (sayers (J.map (·.2)) j t i).map (fun (n : Nat) => V.int (n : Int)) ∧ H2 D = some (.lst ys) ∧ Same H H2 ∧ H D = none) (by rw [List.length_map, sizeLine_eq]; omega) ?_ ?_ ?_ ?_
 ·intro D H2 n2 s2 e2
  exact ⟨rfl, e2, s2, n2⟩
 ·rintro D i ys H2 ⟨rfl, e2, s2, _⟩
  exact ⟨(same_tups s2).sqT hJ.sq, e2, by rw [List.length_map]; exact sayers_len _ _ _ _⟩
 ·rintro D i v ys H2 H3 hv ⟨rfl, e2, s2, n2⟩ s3
  rw [List.getElem?_map] at hv
  cases hc2 : J[i]? with
  | none => rw [hc2] at hv; cases hv
  | some r =>
   rw [hc2] at hv
   cases hv
   have hi : i < J.length := (List.getElem?_eq_some_iff.mp hc2).1
   have hrm := List.mem_of_getElem? hc2
   have eg : (J.map (·.2)).getD i [] = r.2 := by rw [List.getD_eq_getElem?_getD, List.getElem?_map, hc2]; rfl
   walk_at "rp"
   refine ⟨_, _, .inr ((same_tups (s2.trans s3)).sqT (hJ.row r hrm)), at_row (by rw [hJ.len r hrm]; exact hj), ?_⟩
   walk_at "rp"
   have he : decide (r.2.getD j false = t) = (r.2.getD j false == t) := by cases r.2.getD j false <;> cases t <;> rfl
   rw [he]
   cases hc : (r.2.getD j false == t) with
   | true =>
    walk_at "rp"
    refine ⟨s3 _ _ e2, CN.mk (by rw [List.length_map]; exact hi) ⟨?_, upd_same, same_upd (s2.trans s3) n2 _, n2⟩⟩
    rw [sayers_succ, eg, if_pos hc, List.map_append]
    rfl
   | false =>
    walk_at "rp"
    refine CN.mk (by rw [List.length_map]; exact hi) ⟨?_, s3 _ _ e2, s2.trans s3, n2⟩
    rw [sayers_succ, eg, if_neg (by rw [hc]; decide), List.append_nil]
 ·rintro D ys H2 ⟨rfl, e2, s2, n2⟩
  rw [List.length_map] at e2
  exact q D H2 n2 s2 e2
def spMostYes (K : PySem.W.Frag) : Sp := fun vs H Q _ => ∃ (a : Addr) (J : List (Addr × List Bool)) (m j : Nat), vs = [.ref a, .int (j : Int)] ∧ JudgesAt K H a J m ∧ j < m ∧ ∀ H', Same H H' → Q (.bl (mostAt (J.map (·.2)) j)) H'
theorem sc_mostyes : FnScope ["judges", "number"] ["judges", "number"] (defScope (top 2)) := ⟨rfl, rfl, rfl, by decide +kernel, rfl, by decide +kernel, by decide +kernel⟩
theorem ok_mostyes (D : Def K mg "most_say_yes" (top 2) ["judges", "number"]) (C_who_say : Callee P w K mg base 1 "who_say" ["judges", "number", "truth"] (spWho K)) (mg_len : mg "len" = none) : Callee P w K mg base 2 "most_say_yes" ["judges", "number"] (spMostYes K) := by
 refine D.callee sc_mostyes (fun vs H Q E h => ?_) fun f cdv A outer s H vs Q E hr h => ?_
 ·obtain ⟨a, J, m, j, rfl, _⟩ := h
  rfl
 have nd := sc_mostyes.nd
 obtain ⟨a, J, m, j, rfl, hJ, hj, q⟩ := h
 have hhi := hJ.hi
 refine ⟨[some (.ref a), some (.int (j : Int))], _, rfl, (pss_one (ps_ret (pe_cmpR m_gt (pe_op m_mul pe_int (pe_callB m_len rfl mg_len bt_len (pa_cons (m_call C_who_say hr (by omega) (pa_cons (m_var 0) (pa_cons (m_var 1) (pa_cons pe_bl pa_nil)))) pa_nil))) (pe_callB m_len rfl mg_len bt_len (pa_cons (m_var 0) pa_nil)) (nomark _)))), ?_⟩
 walk_at "rp"
 refine ⟨a, J, m, j, true, rfl, hJ, hj, fun p H1 n1 s1 e1 => ?_⟩
 walk_at "rp"
 refine ⟨_, .inl (SqL.of e1), ?_⟩
 have e := sayers_all (J.map (·.2)) j
 rw [List.length_map] at e
 have hle := sayers_len (J.map (·.2)) j true J.length
 rw [List.length_map]
 refine ⟨cm (by omega), _, .inr ((same_tups s1).sqT hJ.sq), ?_⟩
 have := q H1 s1
 unfold mostAt at this
 rw [List.length_map] at this ⊢
 rw [e]
 exact this
def spMost (K : PySem.W.Frag) : Sp := fun vs H Q _ => ∃ (a : Addr) (J : List (Addr × List Bool)) (m : Nat), vs = [.ref a] ∧ JudgesAt K H a J m ∧ m ≤ 10 ∧ ∀ (p : Addr) (H' : Hp), Same H H' → SqT K H' p ((mostRow (J.map (·.2)) m).map V.bl) → Q (.ref p) H'
theorem first_judge {K : PySem.W.Frag} {H : Hp} {a : Addr} {J : List (Addr × List Bool)} {m : Nat} (h : JudgesAt K H a J m) : ∃ r, r ∈ J ∧ atI (J.map fun r => V.ref r.1) 0 = some (.ref r.1) := by
 have := h.lo
 match J, this with
 | r :: R, _ => exact ⟨r, by simp, atI_nat (j := 0) rfl⟩
theorem sc_most : FnScope ["judges"] ["judges"] (defScope (top 3)) := ⟨rfl, rfl, rfl, by decide +kernel, rfl, by decide +kernel, by decide +kernel⟩
theorem ok_most (D : Def K mg "most" (top 3) ["judges"]) (C_most_say_yes : Callee P w K mg base 2 "most_say_yes" ["judges", "number"] (spMostYes K)) (mg_len : mg "len" = none) (mg_range : mg "range" = none) (mg_tuple : mg "tuple" = none) : Callee P w K mg base 3 "most" ["judges"] (spMost K) := by
 refine D.callee sc_most (fun vs H Q E h => ?_) fun f cdv A outer s H vs Q E hr h => ?_
 ·obtain ⟨a, J, m, rfl, _⟩ := h
  rfl
 have nd := sc_most.nd
 obtain ⟨a, J, m, rfl, hJ, hm, q⟩ := h
 obtain ⟨r, hr0, er⟩ := first_judge hJ
 refine ⟨[some (.ref a)], _, rfl, (pss_one (ps_ret (pe_callTy m_tupOf rfl mg_tuple bt_tuple (pa_cons (m_compN (ixs := [0]) (compOk_mk (own := ["number"]) (N := ["judges"]) rfl rfl rfl rfl rfl rfl rfl (by decide +kernel) rfl rfl rfl) rfl (m_range1 rfl mg_range (pa_cons (pe_callB m_len rfl mg_len bt_len (pa_cons (m_ix (m_var 0) pe_int (fun _ _ => rfl)) pa_nil)) pa_nil)) (fun _ _ _ _ => pif_nil) (fun _ _ _ _ => (m_call C_most_say_yes hr (by omega) (pa_cons (m_var 1) (pa_cons (m_var 0) pa_nil)))) rfl) pa_nil)))), ?_⟩
 walk_at "rp"
 refine ⟨_, _, .inr hJ.sq, er, ?_⟩
 walk_at "rp"
 refine ⟨_, .inr (hJ.row r hr0), ?_⟩
 rw [List.length_map, hJ.len r hr0]
 refine ⟨⟨by omega, by omega⟩, fun C s₀ H₀ ex => ?_⟩
 rw [Int.toNat_natCast]
 refine comp_range (fun D i ys H2 => ys = (mostRow (J.map (·.2)) i).map V.bl ∧ H2 D = some (.lst ys) ∧ Same H H2 ∧ H D = none) (sl24 (by omega)) ?_ ?_ ?_ ?_
 ·intro D H2 n2 s2 e2
  exact ⟨rfl, e2, s2, n2⟩
 ·rintro D i ys H2 ⟨rfl, e2, s2, _⟩
  exact ⟨e2, by rw [List.length_map, mostRow_len]⟩
 ·rintro D i ys H2 hi ⟨rfl, e2, s2, n2⟩
  walk_at "rp"
  rw [Int.zero_add]
  refine ⟨a, J, m, i, rfl, hJ.mono (same_tups s2), hi, fun H3 s3 => ⟨s3 _ _ e2, CN.mk hi ⟨?_, upd_same, same_upd (s2.trans s3) n2 _, n2⟩⟩⟩
  rw [mostRow_succ, List.map_append]
  rfl
 ·rintro D ys H2 ⟨rfl, e2, s2, n2⟩
  exact ⟨_, .inl (SqL.of e2), fun p H3 s3 h3 => q p H3 (s2.trans s3) h3⟩
theorem sc_jlmost : FnScope ["_law_judges", "_law_row", "_law_number"] ["_law_judges"] (defScope (top 47)) := ⟨rfl, rfl, rfl, by decide +kernel, rfl, by decide +kernel, by decide +kernel⟩
theorem ok_jlmost (D : Def K mg "_law_most" (top 47) ["_law_judges"]) (mg_len : mg "len" = none) (mg_range : mg "range" = none) (mg_tuple : mg "tuple" = none) : Callee P w K mg base 1 "_law_most" ["_law_judges"] (spMost K) := by
 refine D.callee sc_jlmost (fun vs H Q E h => ?_) fun f cdv A outer s H vs Q E hr h => ?_
 ·obtain ⟨a, J, m, rfl, _⟩ := h
  rfl
 have nd := sc_jlmost.nd
 obtain ⟨a, J, m, rfl, hJ, hm, q⟩ := h
 obtain ⟨r, hr0, er⟩ := first_judge hJ
 have hhi := hJ.hi
 refine ⟨[some (.ref a), none, none], _, rfl, (pss_cons (m_set 1 nd (m_lst pa_nil))
  (pss_cons (m_for PassesOwn.never rfl (m_range1 rfl mg_range (pa_cons (pe_callB m_len rfl mg_len bt_len (pa_cons (m_ix (m_var 0) pe_int (fun _ _ => rfl)) pa_nil)) pa_nil)) (m_tg 2 nd) (pss_one (ps_expr (m_bm PySem.F.slot_list_append PySem.F.type_list_append m_app (m_var 1) (pa_cons (pe_cmpR m_gt (pe_op m_mul pe_int (pe_callB m_len rfl mg_len bt_len (pa_cons (m_compN (ixs := [2]) (compOk_mk (own := ["_law_judge"]) (N := ["_law_number"]) rfl rfl rfl rfl rfl rfl rfl (by decide +kernel) rfl rfl rfl) rfl (pi_seq (m_var 0)) (fun _ _ _ _ => (pif_one (m_val (m_ix (m_var 0) (m_var 1) (fun _ _ => rfl))))) (fun _ _ _ _ => (m_var 0)) rfl) pa_nil))) (pe_callB m_len rfl mg_len bt_len (pa_cons (m_var 0) pa_nil)) (nomark _)) pa_nil)))))
  (pss_one (ps_ret (pe_callTy m_tupOf rfl mg_tuple bt_tuple (pa_cons (m_var 1) pa_nil)))))), ?_⟩
 walk_at "rp"
 refine ⟨sl24 (by simp), fun l H1 n1 s1 e1 => ?_⟩
 refine ⟨_, _, .inr ((same_tups s1).sqT hJ.sq), er, ?_⟩
 walk_at "rp"
 refine ⟨_, .inr ((same_tups s1).sqT (hJ.row r hr0)), ?_⟩
 rw [List.length_map, hJ.len r hr0]
 refine ⟨⟨by omega, by omega⟩, ?_⟩
 rw [Int.toNat_natCast]
 refine loop_range (fun i σ H2 => ∃ x2, σ = [some (.ref a), some (.ref l), x2] ∧ i ≤ m ∧ H2 l = some (.lst ((mostRow (J.map (·.2)) i).map V.bl)) ∧ Same H H2) ⟨_, rfl, Nat.zero_le _, e1, s1⟩ ?_ ?_
 ·rintro i σ H2 hi ⟨x2, rfl, _, e2, s2⟩
  walk_at "rp"
  refine ⟨⟨_, _, rfl, e2⟩, ?_⟩
  refine .inr ⟨⟨_, (same_tups s2).sqT hJ.sq⟩, fun C s₀ H₀ ex => ?_⟩
  refine compF_tup (xs := J.map fun r => V.ref r.1) (fun D n ys H3 => ys.length = (yesOf ((J.map (·.2)).take n) i).length ∧ H3 D = some (.lst ys) ∧ Same H2 H3 ∧ H2 D = none) (by rw [List.length_map, sizeLine_eq]; omega) ?_ ?_ ?_ ?_
  ·intro D H3 n3 s3 e3
   exact ⟨rfl, e3, s3, n3⟩
  ·rintro D n ys H3 ⟨hy, e3, s3, _⟩
   exact ⟨(same_tups (s2.trans s3)).sqT hJ.sq, e3, by rw [hy]; exact yesOf_len _ _ _⟩
  ·rintro D n v ys H3 hv ⟨hy, e3, s3, n3⟩
   rw [List.getElem?_map] at hv
   cases hc2 : J[n]? with
   | none => rw [hc2] at hv; cases hv
   | some r2 =>
    rw [hc2] at hv
    cases hv
    have hn : n < J.length := (List.getElem?_eq_some_iff.mp hc2).1
    have hrm := List.mem_of_getElem? hc2
    have ek : (J.map (·.2))[n]? = some r2.2 := by rw [List.getElem?_map, hc2]; rfl
    walk_at "rp"
    rw [Int.zero_add]
    refine ⟨_, _, .inr ((same_tups (s2.trans s3)).sqT (hJ.row r2 hrm)), at_row (by rw [hJ.len r2 hrm]; exact hi), ?_⟩
    walk_at "rp"
    cases hc : r2.2.getD i false with
    | true =>
     walk_at "rp"
     refine ⟨e3, CN.mk (by rw [List.length_map]; exact hn) ⟨?_, upd_same, same_upd s3 n3 _, n3⟩⟩
     rw [yesOf_take ek, if_pos hc, List.length_append, List.length_append, hy]
     rfl
    | false =>
     walk_at "rp"
     refine CN.mk (by rw [List.length_map]; exact hn) ⟨?_, e3, s3, n3⟩
     rw [yesOf_take ek, if_neg (by rw [hc]; decide), List.append_nil, hy]
  ·rintro D ys H3 ⟨hy, e3, s3, n3⟩
   have s23 := s2.trans s3
   rw [List.length_map, show J.length = (J.map (·.2)).length by simp, List.take_length] at hy
   have hyl : (yesOf (J.map (·.2)) i).length ≤ J.length := by
    have := yesOf_len (J.map (·.2)) i J.length
    rw [show (J.map (·.2)).take J.length = J.map (·.2) by rw [List.take_of_length_le]; simp] at this
    exact this
   walk_at "rp"
   refine ⟨_, .inl (SqL.of e3), cm (by omega), _, .inr ((same_tups s23).sqT hJ.sq), ?_⟩
   walk_at "rp"
   refine ⟨_, s3 _ _ e2, by rw [List.length_map, mostRow_len, sizeLine_eq]; omega, _, rfl, hi, ?_, same_upd s23 n1 _⟩
   ·rw [upd_same, mostRow_succ, List.map_append]
    congr 3
    show [V.bl _] = [V.bl _]
    unfold mostAt
    rw [hy, List.length_map, List.length_map]
 ·rintro σ H2 ⟨x2, rfl, _, e2, s2⟩
  walk_at "rp"
  exact ⟨_, .inl (SqL.of e2), fun p H3 s3 h3 => q p H3 (s2.trans s3) h3⟩
def spSplit (K : PySem.W.Frag) : Sp := fun vs H Q _ => ∃ (a : Addr) (ns : List Int) (b : Addr) (R : List (Addr × List Bool)) (m : Nat), vs = [.ref a, .ref b] ∧ SqL K H a (ns.map V.int) ∧ ns.length ≤ 5000 ∧ H b = some (.lst (R.map fun r => V.ref r.1)) ∧ (∀ r ∈ R, SqT K H r.1 (r.2.map V.bl) ∧ r.2.length = m) ∧ 1 ≤ R.length ∧ R.length ≤ 64 ∧ m ≤ 10 ∧
 ∀ (p : Addr) (H' : Hp) (J : List (Addr × List Bool)), Same H H' → SqT K H' p (J.map fun r => V.ref r.1) → (J.length = 0 ∨ J.length = 3) → (∀ r ∈ J, r ∈ R) → Q (.ref p) H'
theorem sc_split : FnScope ["_law_script", "_law_rows_here", "_law_at", "_law_near", "_law_i", "_law_j", "_law_k", "_law_three"] ["_law_script", "_law_rows_here"] (defScope (top 48)) := ⟨rfl, rfl, rfl, by decide +kernel, rfl, by decide +kernel, by decide +kernel⟩
theorem ok_split (D : Def K mg "_law_split_three" (top 48) ["_law_script", "_law_rows_here"]) (C_law_cell : Callee P w K mg base 1 "_law_cell" ["_law_script", "_law_k"] (spCell K)) (C_law_most : Callee P w K mg base 1 "_law_most" ["_law_judges"] (spMost K)) (mg_len : mg "len" = none) (mg_range : mg "range" = none) : Callee P w K mg base 2 "_law_split_three" ["_law_script", "_law_rows_here"] (spSplit K) := by
 refine D.callee sc_split (fun vs H Q E h => ?_) fun f cdv A outer s H vs Q E hr h => ?_
 ·obtain ⟨a, ns, b, R, m, rfl, _⟩ := h
  rfl
 have nd := sc_split.nd
 obtain ⟨a, ns, b, R, m, rfl, hS, h63, hb, hR, hR1, hR64, hm, q⟩ := h
 refine ⟨[some (.ref a), some (.ref b), none, none, none, none, none, none], _, rfl, (pss_cons (m_set 2 nd (pe_op m_mod (m_call C_law_cell hr (by omega) (pa_cons (m_var 0) (pa_cons pe_int pa_nil))) (pe_callB m_len rfl mg_len bt_len (pa_cons (m_var 1) pa_nil))))
  (pss_cons (m_set 3 nd (m_slice (pe_op m_add (m_slice (m_var 1) (m_part (m_var 2)) po_none) (m_slice (m_var 1) po_none (m_part (m_var 2)))) po_none (m_part pe_int)))
  (pss_cons (m_for PassesOwn.never rfl (m_range1 rfl mg_range (pa_cons (pe_callB m_len rfl mg_len bt_len (pa_cons (m_var 3) pa_nil)) pa_nil)) (m_tg 4 nd) (pss_one (m_for PassesOwn.never rfl (m_range1 rfl mg_range (pa_cons (m_var 4) pa_nil)) (m_tg 5 nd) (pss_one (m_for PassesOwn.never rfl (m_range1 rfl mg_range (pa_cons (m_var 5) pa_nil)) (m_tg 6 nd) (pss_cons (m_set 7 nd (m_tup (pa_cons (m_ix (m_var 3) (m_var 4) (fun _ _ => rfl)) (pa_cons (m_ix (m_var 3) (m_var 5) (fun _ _ => rfl)) (pa_cons (m_ix (m_var 3) (m_var 6) (fun _ _ => rfl)) pa_nil)))))
  (pss_one (ps_if (m_test (m_notinR hr.units) (m_call C_law_most hr (by omega) (pa_cons (m_var 7) pa_nil)) (m_var 1) (by with_unfolding_all rfl)) (pss_one (ps_ret (m_var 7))) pss_nil))))))))
  (pss_one (ps_ret (m_tup pa_nil)))))), ?_⟩
 walk_at "rp"
 refine ⟨a, ns, _, rfl, hS, h63, by decide, by decide, fun cc => ?_⟩
 walk_at "rp"
 refine ⟨_, .inl (SqL.of hb), ?_⟩
 rw [List.length_map]
 have hpos : (0 : Int) < (R.length : Int) := by omega
 refine ⟨hpos, ?_⟩
 have r0 : 0 ≤ cc % (R.length : Int) := Int.emod_nonneg _ (by omega)
 have r1 : cc % (R.length : Int) < (R.length : Int) := Int.emod_lt_of_pos _ hpos
 generalize cc % (R.length : Int) = at_ at r0 r1
 walk_at "rp"
 refine .inl ⟨_, SqL.of hb, fun A1 H1 n1 s1 e1 => ?_⟩
 refine .inl ⟨_, SqL.of (s1 _ _ hb), fun A2 H2 n2 s2 e2 => ?_⟩
 rw [cut_drop _ r0, ← List.map_drop] at e1
 rw [cut_take _ r0, ← List.map_take] at e2
 refine .inl ⟨_, _, s2 _ _ e1, e2, by rw [List.length_map, List.length_map, List.length_drop, List.length_take, sizeLine_eq]; omega, fun A3 H3 n3 s3 e3 => ?_⟩
 rw [← List.map_append] at e3
 refine .inl ⟨_, SqL.of e3, fun A4 H4 n4 s4 e4 => ?_⟩
 rw [cut_take _ (by decide), ← List.map_take] at e4
 have s04 : Same H H4 := s1.trans (s2.trans (s3.trans s4))
 have hNm : ∀ r ∈ (R.drop at_.toNat ++ R.take at_.toNat).take (12 : Int).toNat, r ∈ R := fun r hr => (List.mem_append.mp (List.mem_of_mem_take hr)).elim List.mem_of_mem_drop List.mem_of_mem_take
 have hNl : ((R.drop at_.toNat ++ R.take at_.toNat).take (12 : Int).toNat).length ≤ 12 := by rw [List.length_take]; exact Nat.min_le_left _ _
 generalize (R.drop at_.toNat ++ R.take at_.toNat).take (12 : Int).toNat = N at e4 hNm hNl
 refine ⟨_, .inl (SqL.of e4), ?_⟩
 rw [List.length_map]
 refine ⟨⟨by omega, by omega⟩, ?_⟩
 rw [Int.toNat_natCast]
 have inN : ∀ n : Nat, n < N.length → ∃ r ∈ N, atI (N.map fun r => V.ref r.1) (0 + (n : Int)) = some (.ref r.1) := fun n hn => by
  rw [Int.zero_add]
  exact ⟨N[n], List.getElem_mem hn, atI_nat (by rw [List.getElem?_map, List.getElem?_eq_getElem hn]; rfl)⟩
 refine loop_range (fun i σ H5 => ∃ x4 x5 x6 x7, σ = [some (.ref a), some (.ref b), some (.int at_), some (.ref A4), x4, x5, x6, x7] ∧ Same H4 H5) ⟨_, _, _, _, rfl, Same.refl _⟩ ?_ ?_
 ·rintro i σ H5 hi ⟨x4, x5, x6, x7, rfl, s5⟩
  walk_at "rp"
  refine ⟨⟨by omega, by omega⟩, ?_⟩
  refine loop_range (fun j σ H6 => ∃ x5 x6 x7, σ = [some (.ref a), some (.ref b), some (.int at_), some (.ref A4), some (.int (0 + (i : Int))), x5, x6, x7] ∧ Same H4 H6) ⟨_, _, _, rfl, s5⟩ ?_ ?_
  ·rintro j σ H6 hj ⟨x5, x6, x7, rfl, s6⟩
   walk_at "rp"
   refine ⟨⟨by omega, by omega⟩, ?_⟩
   refine loop_range (fun k σ H7 => ∃ x6 x7, σ = [some (.ref a), some (.ref b), some (.int at_), some (.ref A4), some (.int (0 + (i : Int))), some (.int (0 + (j : Int))), x6, x7] ∧ Same H4 H7) ⟨_, _, rfl, s6⟩ ?_ ?_
   ·rintro k σ H7 hk ⟨x6, x7, rfl, s7⟩
    walk_at "rp"
    obtain ⟨ri, hri, ei⟩ := inN i hi
    obtain ⟨rj, hrj, ej⟩ := inN j (by omega)
    obtain ⟨rk, hrk, ek⟩ := inN k (by omega)
    have e7 := s7 _ _ e4
    refine ⟨_, _, .inl (SqL.of e7), ei, _, _, .inl (SqL.of e7), ej, _, _, .inl (SqL.of e7), ek, sl24 (by simp), fun T H8 n8 s8 e8 => ?_⟩
    have s08 := s04.trans (s7.trans s8)
    have hJ3 : ∀ r ∈ [ri, rj, rk], r ∈ R := fun r hr => by
     simp only [List.mem_cons, List.not_mem_nil, or_false] at hr
     rcases hr with rfl | rfl | rfl
     ·exact hNm _ hri
     ·exact hNm _ hrj
     ·exact hNm _ hrk
    refine ⟨T, [ri, rj, rk], m, rfl, ⟨SqT.of e8, fun r hr => (same_tups s08).sqT (hR r (hJ3 r hr)).1, fun r hr => (hR r (hJ3 r hr)).2, by simp, by simp⟩, hm, fun p H9 s9 h9 => ?_⟩
    walk_at "rp"
    have s09 := s08.trans s9
    refine ⟨_, R, h9, SqL.of (s09 _ _ hb), fun r hr => (same_tups s09).sqT (hR r hr).1, ?_⟩
    walk_at "rp"
    refine ite2 (fun c => ?_) (fun c => ?_)
    ·exact q T H9 [ri, rj, rk] s09 ((same_tups s9).sqT (SqT.of e8)) (.inr rfl) hJ3
    ·exact ⟨_, _, rfl, s7.trans (s8.trans s9)⟩
   ·rintro σ H7 ⟨x6, x7, rfl, s7⟩
    walk_at "rp"
    exact ⟨_, _, _, rfl, s7⟩
  ·rintro σ H6 ⟨x5, x6, x7, rfl, s6⟩
   walk_at "rp"
   exact ⟨_, _, _, _, rfl, s6⟩
 ·rintro σ H5 ⟨x4, x5, x6, x7, rfl, s5⟩
  walk_at "rp"
  exact ⟨sl24 (by simp), fun T H6 n6 s6 e6 => q T H6 [] (s04.trans (s5.trans s6)) (SqT.of e6) (.inl rfl) fun r hr => by simp at hr⟩
def spOdd (K : PySem.W.Frag) : Sp := fun vs H Q _ => ∃ (a : Addr) (ns : List Int) (b : Addr) (R : List (Addr × List Bool)) (m : Nat), vs = [.ref a, .ref b] ∧ SqL K H a (ns.map V.int) ∧ ns.length ≤ 5000 ∧ H b = some (.lst (R.map fun r => V.ref r.1)) ∧ (∀ r ∈ R, SqT K H r.1 (r.2.map V.bl) ∧ r.2.length = m) ∧ 1 ≤ R.length ∧ R.length ≤ 64 ∧ m ≤ 10 ∧
 ∀ (p : Addr) (H' : Hp) (J : List (Addr × List Bool)), Same H H' → JudgesAt K H' p J m → (∀ r ∈ J, r ∈ R) → J.length % 2 = 1 → J.length ≤ 21 → Q (.ref p) H'
theorem sc_odd : FnScope ["_law_script", "_law_rows_here", "_law_judges", "_law_j"] ["_law_script", "_law_rows_here"] (defScope (top 49)) := ⟨rfl, rfl, rfl, by decide +kernel, rfl, by decide +kernel, by decide +kernel⟩
theorem ok_odd (D : Def K mg "_law_odd" (top 49) ["_law_script", "_law_rows_here"]) (C_law_cell : Callee P w K mg base 1 "_law_cell" ["_law_script", "_law_k"] (spCell K)) (C_law_pick : Callee P w K mg base 2 "_law_pick" ["_law_script", "_law_k", "_law_many"] (spPick K)) (C_law_split_three : Callee P w K mg base 2 "_law_split_three" ["_law_script", "_law_rows_here"] (spSplit K)) (mg_len : mg "len" = none) (mg_range : mg "range" = none) (mg_tuple : mg "tuple" = none) (mg_list : mg "list" = none) :
  Callee P w K mg base 3 "_law_odd" ["_law_script", "_law_rows_here"] (spOdd K) := by
 refine D.callee sc_odd (fun vs H Q E h => ?_) fun f cdv A outer s H vs Q E hr h => ?_
 ·obtain ⟨a, ns, b, R, m, rfl, _⟩ := h
  rfl
 have nd := sc_odd.nd
 obtain ⟨a, ns, b, R, m, rfl, hS, h63, hb, hR, hR1, hR64, hm, q⟩ := h
 refine ⟨[some (.ref a), some (.ref b), none, none], _, rfl, (pss_cons (m_set 2 nd (m_lst pa_nil))
  (pss_cons (ps_if (m_test (m_eq hr.units) (m_call C_law_pick hr (by omega) (pa_cons (m_var 0) (pa_cons pe_int (pa_cons pe_int pa_nil)))) pe_int (nomark _)) (pss_one (m_set 2 nd (pe_callTy m_listOf rfl mg_list bt_list (pa_cons (pe_op m_repT (m_call C_law_split_three hr (by omega) (pa_cons (m_var 0) (pa_cons (m_var 1) pa_nil))) (m_ix (m_lst (pa_cons pe_int (pa_cons pe_int (pa_cons pe_int (pa_cons pe_int pa_nil))))) (m_call C_law_pick hr (by omega) (pa_cons (m_var 0) (pa_cons pe_int (pa_cons pe_int pa_nil)))) (fun _ _ => rfl))) pa_nil)))) pss_nil)
  (pss_cons (ps_if (m_test (m_eq hr.units) (pe_callB m_len rfl mg_len bt_len (pa_cons (m_var 2) pa_nil)) pe_int (nomark _)) (pss_one (m_for PassesOwn.never rfl (m_range1 rfl mg_range (pa_cons (m_ix (m_lst (pa_cons pe_int (pa_cons pe_int (pa_cons pe_int (pa_cons pe_int (pa_cons pe_int (pa_cons pe_int (pa_cons pe_int (pa_cons pe_int pa_nil))))))))) (m_call C_law_pick hr (by omega) (pa_cons (m_var 0) (pa_cons pe_int (pa_cons pe_int pa_nil)))) (fun _ _ => rfl)) pa_nil)) (m_tg 3 nd) (pss_one (ps_expr (m_bm PySem.F.slot_list_append PySem.F.type_list_append m_app (m_var 2) (pa_cons (m_ix (m_var 1) (pe_op m_mod (m_call C_law_cell hr (by omega) (pa_cons (m_var 0) (pa_cons (pe_op m_add pe_int (m_var 3)) pa_nil))) (pe_callB m_len rfl mg_len bt_len (pa_cons (m_var 1) pa_nil))) (fun _ _ => rfl)) pa_nil)))))) pss_nil)
  (pss_one (ps_ret (pe_callTy m_tupOf rfl mg_tuple bt_tuple (pa_cons (m_var 2) pa_nil))))))), ?_⟩
 walk_at "rp"
 refine ⟨sl24 (by simp), fun l H1 n1 s1 e1 => ?_⟩
 have fin : ∀ (L : Addr) (H9 : Hp) (J : List (Addr × List Bool)), Same H H9 → H9 L = some (.lst (J.map fun r => V.ref r.1)) → (∀ r ∈ J, r ∈ R) → J.length % 2 = 1 → J.length ≤ 21 → ∃ ys, (SqL K H9 L ys ∨ SqT K H9 L ys) ∧ ∀ (p : Addr) (H' : Hp), Same H9 H' → SqT K H' p ys → Q (.ref p) H' := by
  intro L H9 J s9 e9 hJ ho hl
  refine ⟨_, .inl (SqL.of e9), fun p H' s' h' => q p H' J (s9.trans s') ⟨h', fun r hr => (same_tups (s9.trans s')).sqT (hR r (hJ r hr)).1, fun r hr => (hR r (hJ r hr)).2, by omega, by omega⟩ hJ ho hl⟩
 refine ⟨a, ns, _, 2, rfl, s1.seq hS, h63, by decide, by decide, by decide, fun z _ _ => ?_⟩
 walk_at "rp"
 refine ite2 (fun c => ?_) (fun c => ?_)
 ·refine ⟨a, ns, b, R, m, rfl, s1.seq hS, h63, s1 _ _ hb, fun r hr => ⟨(same_tups s1).sqT (hR r hr).1, (hR r hr).2⟩, hR1, hR64, hm, fun p H2 J s2 hp hJl hJ => ?_⟩
  walk_at "rp"
  refine ⟨sl24 (by simp), fun w0 H3 n3 s3 e3 => ?_⟩
  have s03 : Same H H3 := s1.trans (s2.trans s3)
  refine ⟨a, ns, _, 4, rfl, s03.seq hS, h63, by decide, by decide, by decide, fun r r0 r4 => ?_⟩
  walk_at "rp"
  obtain ⟨c, ec, c1⟩ : ∃ c : Int, atI [V.int 1, V.int 1, V.int 3, V.int 5] r = some (.int c) ∧ (c = 1 ∨ c = 3 ∨ c = 5) := by
   have o' : r = 0 ∨ r = 1 ∨ r = 2 ∨ r = 3 := by omega
   rcases o' with rfl | rfl | rfl | rfl
   ·exact ⟨_, rfl, .inl rfl⟩
   ·exact ⟨_, rfl, .inl rfl⟩
   ·exact ⟨_, rfl, .inr (.inl rfl)⟩
   ·exact ⟨_, rfl, .inr (.inr rfl)⟩
  have hJ3 : J.length ≤ 3 := by omega
  have hc5 : c.toNat ≤ 5 := by omega
  refine ⟨_, _, .inl (SqL.of e3), ec, ?_⟩
  walk_at "rp"
  refine ⟨_, (same_tups s3).sqT hp, by omega, by omega, ?_, fun p4 H4 s4 h4 => ?_⟩
  ·rw [List.length_map]
   exact Nat.le_trans (Nat.mul_le_mul hJ3 hc5) (by decide)
  walk_at "rp"
  refine ⟨_, .inr h4, fun L H5 n5 s5 e5 => ?_⟩
  have eJ : (List.replicate c.toNat (J.map fun r => V.ref r.1)).flatten = ((List.replicate c.toNat J).flatten).map fun r => V.ref r.1 := by rw [List.map_flatten, List.map_replicate]
  rw [eJ] at e5
  refine ⟨_, .inl (SqL.of e5), ?_⟩
  rw [List.length_map]
  have s05 : Same H H5 := s03.trans (s4.trans s5)
  have nL : H L = none := same_new_none (s03.trans s4) n5
  rcases hJl with h0 | h3
  ·have e0 : (List.replicate c.toNat J).flatten = [] := by rw [List.length_eq_zero_iff.mp h0]; simp
   rw [e0] at e5 ⊢
   walk_at "rp"
   refine ⟨sl24 (by simp), fun w1 Ha na sa ea => ?_⟩
   refine ⟨a, ns, _, 8, rfl, Same.seq (Same.trans (s05) sa) hS, h63, by decide, by decide, by decide, fun r r0 r8 => ?_⟩
   walk_at "rp"
   obtain ⟨c, ec, c1, c2, c3⟩ : ∃ c : Int, atI [V.int 1, V.int 3, V.int 3, V.int 5, V.int 7, V.int 9, V.int 3, V.int 21] r = some (.int c) ∧ 1 ≤ c ∧ c ≤ 21 ∧ c % 2 = 1 := by
    have o' : r = 0 ∨ r = 1 ∨ r = 2 ∨ r = 3 ∨ r = 4 ∨ r = 5 ∨ r = 6 ∨ r = 7 := by omega
    rcases o' with rfl | rfl | rfl | rfl | rfl | rfl | rfl | rfl <;> exact ⟨_, rfl, by decide, by decide, by decide⟩
   refine ⟨_, _, .inl (SqL.of ea), ec, ?_⟩
   walk_at "rp"
   refine ⟨⟨by omega, by omega⟩, ?_⟩
   refine loop_range (fun i σ H5 => ∃ (J : List (Addr × List Bool)) (x3 : Option V), σ = [some (.ref a), some (.ref b), some (.ref L), x3] ∧ J.length = i ∧ (∀ r ∈ J, r ∈ R) ∧ H5 L = some (.lst (J.map fun r => V.ref r.1)) ∧ Same H H5) ⟨[], _, rfl, rfl, by simp, sa _ _ e5, Same.trans (s05) sa⟩ ?_ ?_
   ·rintro i σ H5 hi ⟨J, x3, rfl, hl, hJ, e5, s5⟩
    walk_at "rp"
    refine ⟨⟨_, _, rfl, e5⟩, ?_⟩
    refine ⟨a, ns, _, rfl, s5.seq hS, h63, by omega, by omega, fun cc => ?_⟩
    walk_at "rp"
    refine ⟨_, .inl (SqL.of (s5 _ _ hb)), ?_⟩
    rw [List.length_map]
    have hpos : (0 : Int) < (R.length : Int) := by omega
    obtain ⟨v, hv, ev⟩ := at_any (xs := R.map fun r => V.ref r.1) (k := cc % (R.length : Int)) (Int.emod_nonneg _ (by omega)) (by rw [List.length_map]; exact Int.emod_lt_of_pos _ hpos)
    obtain ⟨r', hr', rfl⟩ := List.mem_map.mp hv
    refine ⟨hpos, _, _, .inl (SqL.of (s5 _ _ hb)), ev, ?_⟩
    walk_at "rp"
    refine ⟨_, e5, by rw [List.length_map, sizeLine_eq]; omega, J ++ [r'], _, rfl, by rw [List.length_append, hl]; rfl, fun x hx => ?_, ?_, same_upd s5 nL _⟩
    ·rcases List.mem_append.mp hx with y | y
     ·exact hJ x y
     ·rw [List.mem_singleton.mp y]; exact hr'
    ·rw [upd_same, List.map_append]; rfl
   ·rintro σ H5 ⟨J, x3, rfl, hl, hJ, e5, s5⟩
    walk_at "rp"
    exact fin L H5 J s5 e5 hJ (by omega) (by omega)
  ·have hlen : (List.replicate c.toNat J).flatten.length = c.toNat * 3 := by rw [len_rep, h3]
   have hne : ¬ (((List.replicate c.toNat J).flatten.length : Nat) : Int) = 0 := by omega
   walk_at "rp"
   rw [decide_eq_false hne]
   walk_at "rp"
   refine fin L H5 _ s05 e5 (fun r hr => ?_) (by omega) (by omega)
   obtain ⟨l2, hl2, hr2⟩ := List.mem_flatten.mp hr
   rw [(List.mem_replicate.mp hl2).2] at hr2
   exact hJ r hr2
 ·refine ⟨_, .inl (SqL.of e1), ?_⟩
  walk_at "rp"
  refine ⟨sl24 (by simp), fun w1 Ha na sa ea => ?_⟩
  refine ⟨a, ns, _, 8, rfl, Same.seq (Same.trans (s1) sa) hS, h63, by decide, by decide, by decide, fun r r0 r8 => ?_⟩
  walk_at "rp"
  obtain ⟨c, ec, c1, c2, c3⟩ : ∃ c : Int, atI [V.int 1, V.int 3, V.int 3, V.int 5, V.int 7, V.int 9, V.int 3, V.int 21] r = some (.int c) ∧ 1 ≤ c ∧ c ≤ 21 ∧ c % 2 = 1 := by
   have o' : r = 0 ∨ r = 1 ∨ r = 2 ∨ r = 3 ∨ r = 4 ∨ r = 5 ∨ r = 6 ∨ r = 7 := by omega
   rcases o' with rfl | rfl | rfl | rfl | rfl | rfl | rfl | rfl <;> exact ⟨_, rfl, by decide, by decide, by decide⟩
  refine ⟨_, _, .inl (SqL.of ea), ec, ?_⟩
  walk_at "rp"
  refine ⟨⟨by omega, by omega⟩, ?_⟩
  refine loop_range (fun i σ H5 => ∃ (J : List (Addr × List Bool)) (x3 : Option V), σ = [some (.ref a), some (.ref b), some (.ref l), x3] ∧ J.length = i ∧ (∀ r ∈ J, r ∈ R) ∧ H5 l = some (.lst (J.map fun r => V.ref r.1)) ∧ Same H H5) ⟨[], _, rfl, rfl, by simp, sa _ _ e1, Same.trans (s1) sa⟩ ?_ ?_
  ·rintro i σ H5 hi ⟨J, x3, rfl, hl, hJ, e5, s5⟩
   walk_at "rp"
   refine ⟨⟨_, _, rfl, e5⟩, ?_⟩
   refine ⟨a, ns, _, rfl, s5.seq hS, h63, by omega, by omega, fun cc => ?_⟩
   walk_at "rp"
   refine ⟨_, .inl (SqL.of (s5 _ _ hb)), ?_⟩
   rw [List.length_map]
   have hpos : (0 : Int) < (R.length : Int) := by omega
   obtain ⟨v, hv, ev⟩ := at_any (xs := R.map fun r => V.ref r.1) (k := cc % (R.length : Int)) (Int.emod_nonneg _ (by omega)) (by rw [List.length_map]; exact Int.emod_lt_of_pos _ hpos)
   obtain ⟨r', hr', rfl⟩ := List.mem_map.mp hv
   refine ⟨hpos, _, _, .inl (SqL.of (s5 _ _ hb)), ev, ?_⟩
   walk_at "rp"
   refine ⟨_, e5, by rw [List.length_map, sizeLine_eq]; omega, J ++ [r'], _, rfl, by rw [List.length_append, hl]; rfl, fun x hx => ?_, ?_, same_upd s5 n1 _⟩
   ·rcases List.mem_append.mp hx with y | y
    ·exact hJ x y
    ·rw [List.mem_singleton.mp y]; exact hr'
   ·rw [upd_same, List.map_append]; rfl
  ·rintro σ H5 ⟨J, x3, rfl, hl, hJ, e5, s5⟩
   walk_at "rp"
   exact fin l H5 J s5 e5 hJ (by omega) (by omega)
def spAgrees (K : PySem.W.Frag) : Sp := fun vs H Q _ => ∃ (r a : Addr) (k : List Bool) (us : List V) (ps : List (Nat × Bool)), vs = [.ref r, .ref a] ∧ SqT K H r (k.map V.bl) ∧ SqT K H a us ∧ PairsAt K H us ps ∧ (∀ p ∈ ps, p.1 < k.length) ∧ Q (.bl (agr k ps)) H
theorem sc_agrees : FnScope ["row", "part", "number", "truth"] ["row", "part"] (defScope (top 23)) := ⟨rfl, rfl, rfl, by decide +kernel, rfl, by decide +kernel, by decide +kernel⟩
theorem ok_agrees (D : Def K mg "agrees" (top 23) ["row", "part"]) : Callee P w K mg base 1 "agrees" ["row", "part"] (spAgrees K) := by
 refine D.callee sc_agrees (fun vs H Q E h => ?_) fun f cdv A outer s H vs Q E hr h => ?_
 ·obtain ⟨r, a, k, us, ps, rfl, _⟩ := h
  rfl
 have nd := sc_agrees.nd
 obtain ⟨r, a, k, us, ps, rfl, hk, ha, hP, hlt, q⟩ := h
 refine ⟨[some (.ref r), some (.ref a), none, none], _, rfl, (pss_cons (m_for PassesOwn.never rfl (pi_seq (m_var 1)) (m_tg2 2 3 rfl nd) (pss_one (ps_if (m_test (m_ne hr.units) (m_ix (m_var 0) (m_var 2) (fun _ _ => rfl)) (m_var 3) (nomark _)) (pss_one (ps_ret pe_bl)) pss_nil)))
  (pss_one (ps_ret pe_bl))), ?_⟩
 walk_at "rp"
 refine .inr ⟨⟨_, ha⟩, loop_tup (xs := us) (fun i σ H2 => ∃ x2 x3, σ = [some (.ref r), some (.ref a), x2, x3] ∧ H2 = H ∧ agr k (ps.take i) = true) ⟨none, none, rfl, rfl, rfl⟩ ?_ ?_ ?_⟩
 ·rintro i σ H2 _ ⟨x2, x3, rfl, rfl, _⟩
  exact ha
 ·rintro i x σ H2 hx ⟨x2, x3, rfl, rfl, hag⟩
  obtain ⟨b, p, hp, rfl, hb⟩ := hP.at i x hx
  have hpm := List.mem_of_getElem? hp
  walk_at "rp"
  refine ⟨b, _, _, rfl, hb, ?_⟩
  walk_at "rp"
  refine ⟨_, _, .inr hk, at_row (hlt p hpm), ?_⟩
  walk_at "rp"
  have he : decide (k.getD p.1 false = p.2) = (k.getD p.1 false == p.2) := by cases k.getD p.1 false <;> cases p.2 <;> rfl
  rw [he]
  cases hc : (k.getD p.1 false == p.2) with
  | true =>
   walk_at "rp"
   exact ⟨_, _, rfl, trivial, by rw [agr_take hp, hag, hc]; rfl⟩
  | false =>
   walk_at "rp"
   rw [agr_no hpm hc] at q
   exact q
 ·rintro σ H2 ⟨x2, x3, rfl, rfl, hag⟩
  walk_at "rp"
  rw [hP.len, List.take_length] at hag
  rw [hag] at q
  exact q
def spAny (K : PySem.W.Frag) : Sp := fun vs H Q _ => ∃ (r a : Addr) (R : List (Addr × List Bool)) (us : List V) (ps : List (Nat × Bool)), vs = [.ref r, .ref a] ∧ SqL K H r (R.map fun q => V.ref q.1) ∧ (∀ q ∈ R, SqT K H q.1 (q.2.map V.bl)) ∧ SqT K H a us ∧ PairsAt K H us ps ∧ (∀ q ∈ R, ∀ p ∈ ps, p.1 < q.2.length) ∧ Q (.bl (R.any fun q => agr q.2 ps)) H
theorem sc_any_agrees : FnScope ["rows", "part", "row"] ["rows", "part"] (defScope (top 24)) := ⟨rfl, rfl, rfl, by decide +kernel, rfl, by decide +kernel, by decide +kernel⟩
theorem ok_any_agrees (D : Def K mg "any_agrees" (top 24) ["rows", "part"]) (C_agrees : Callee P w K mg base 1 "agrees" ["row", "part"] (spAgrees K)) : Callee P w K mg base 2 "any_agrees" ["rows", "part"] (spAny K) := by
 refine D.callee sc_any_agrees (fun vs H Q E h => ?_) fun f cdv A outer s H vs Q E hr h => ?_
 ·obtain ⟨r, a, R, us, ps, rfl, _⟩ := h
  rfl
 have nd := sc_any_agrees.nd
 obtain ⟨r, a, R, us, ps, rfl, hr0, hR, ha, hP, hlt, q⟩ := h
 refine ⟨[some (.ref r), some (.ref a), none], _, rfl, (pss_cons (m_for PassesOwn.never rfl (pi_seq (m_var 0)) (m_tg 2 nd) (pss_one (ps_if (m_val (m_call C_agrees hr (by omega) (pa_cons (m_var 2) (pa_cons (m_var 1) pa_nil)))) (pss_one (ps_ret pe_bl)) pss_nil)))
  (pss_one (ps_ret pe_bl))), ?_⟩
 walk_at "rp"
 refine .inl ⟨⟨_, hr0⟩, loop_list (xs := R.map fun q => V.ref q.1) (fun i σ H2 => ∃ x2, σ = [some (.ref r), some (.ref a), x2] ∧ H2 = H ∧ ((R.take i).any fun q => agr q.2 ps) = false) ⟨none, rfl, rfl, rfl⟩ ?_ ?_ ?_⟩
 ·rintro i σ H2 _ ⟨x2, rfl, rfl, _⟩
  exact hr0
 ·rintro i x σ H2 hx ⟨x2, rfl, rfl, hno⟩
  rw [List.getElem?_map] at hx
  cases hi : R[i]? with
  | none => rw [hi] at hx; cases hx
  | some e =>
   rw [hi] at hx
   cases hx
   have hm := List.mem_of_getElem? hi
   walk_at "rp"
   refine ⟨e.1, a, e.2, us, ps, rfl, hR e hm, ha, hP, hlt e hm, ?_⟩
   walk_at "rp"
   refine ite2 (fun c9 => ?_) (fun c9 => ?_)
   ·have : (R.any fun q => agr q.2 ps) = true := List.any_eq_true.mpr ⟨e, hm, c9⟩
    rw [this] at q
    exact q
   ·refine ⟨_, rfl, trivial, ?_⟩
    rw [List.take_add_one, hi, List.any_append, hno]
    simpa using c9
 ·rintro σ H2 ⟨x2, rfl, rfl, hno⟩
  walk_at "rp"
  rw [List.length_map, List.take_length] at hno
  rw [hno] at q
  exact q
def lessP (p : Nat × Bool) (ps : List (Nat × Bool)) : List (Nat × Bool) := ps.filter fun q => decide (q ≠ p)
theorem lessP_take {p q : Nat × Bool} {ps : List (Nat × Bool)} {i : Nat} (h : ps[i]? = some q) : lessP p (ps.take (i + 1)) = lessP p (ps.take i) ++ (if q = p then [] else [q]) := by
 unfold lessP
 rw [List.take_add_one, h, List.filter_append]
 by_cases e : q = p
 ·simp [e]
 ·simp [e]
def spWithout (K : PySem.W.Frag) : Sp := fun vs H Q _ => ∃ (a b : Addr) (us : List V) (ps : List (Nat × Bool)) (p : Nat × Bool), vs = [.ref a, .ref b] ∧ SqT K H a us ∧ PairsAt K H us ps ∧ ps.length < 64 ∧ SqT K H b [.int (p.1 : Int), .bl p.2] ∧
 ∀ (r : Addr) (H' : Hp) (us' : List V), Same H H' → SqT K H' r us' → PairsAt K H' us' (lessP p ps) → Q (.ref r) H'
theorem sc_without : FnScope ["part", "pair"] ["part", "pair"] (defScope (top 27)) := ⟨rfl, rfl, rfl, by decide +kernel, rfl, by decide +kernel, by decide +kernel⟩
theorem ok_without (D : Def K mg "without" (top 27) ["part", "pair"]) (mg_tuple : mg "tuple" = none) : Callee P w K mg base 1 "without" ["part", "pair"] (spWithout K) := by
 refine D.callee sc_without (fun vs H Q E h => ?_) fun f cdv A outer s H vs Q E hr h => ?_
 ·obtain ⟨a, b, us, ps, p, rfl, _⟩ := h
  rfl
 have nd := sc_without.nd
 obtain ⟨a, b, us, ps, p, rfl, ha, hP, h64, hb, q⟩ := h
 refine ⟨[some (.ref a), some (.ref b)], _, rfl, (pss_one (ps_ret (pe_callTy m_tupOf rfl mg_tuple bt_tuple (pa_cons (m_compN (ixs := [1]) (compOk_mk (own := ["kept"]) (N := ["pair"]) rfl rfl rfl rfl rfl rfl rfl (by decide +kernel) rfl rfl rfl) rfl (pi_seq (m_var 0)) (fun _ _ _ _ => (pif_one (m_test (m_ne hr.units) (m_var 0) (m_var 1) (nomark _)))) (fun _ _ _ _ => (m_var 0)) rfl) pa_nil)))), ?_⟩
 walk_at "rp"
 refine .inr ⟨⟨_, ha⟩, fun C s₀ H₀ ex => ?_⟩
 have hl := hP.len
 refine compF_tup (xs := us) (fun D n ys H3 => PairsAt K H ys (lessP p (ps.take n)) ∧ ys.length ≤ n ∧ H3 D = some (.lst ys) ∧ Same H H3 ∧ H D = none) (by rw [sizeLine_eq]; omega) ?_ ?_ ?_ ?_
 ·intro D H3 n3 s3 e3
  exact ⟨trivial, Nat.le_refl _, e3, s3, n3⟩
 ·rintro D n ys H3 ⟨_, hy, e3, s3, _⟩
  exact ⟨(same_tups s3).sqT ha, e3, hy⟩
 ·rintro D n v ys H3 hv ⟨hy, hyl, e3, s3, n3⟩
  obtain ⟨c, p2, hp2, rfl, hc⟩ := hP.at n v hv
  have hn : n < us.length := (List.getElem?_eq_some_iff.mp hv).1
  walk_at "rp"
  refine ⟨_, _, has_pair ((same_tups s3).sqT hc), has_pair ((same_tups s3).sqT hb), shaped_pair _, shaped_pair _, ?_⟩
  rw [eqv_pair]
  by_cases e : p2 = p
  ·have : decide ((((p2.1 : Nat) : Int), p2.2) = (((p.1 : Nat) : Int), p.2)) = true := by rw [e]; simp
   rw [this]
   walk_at "rp"
   refine CN.mk hn ⟨?_, by omega, e3, s3, n3⟩
   rw [lessP_take hp2, if_pos e, List.append_nil]
   exact hy
  ·have : decide ((((p2.1 : Nat) : Int), p2.2) = (((p.1 : Nat) : Int), p.2)) = false := by
    refine decide_eq_false fun z => e ?_
    injection z with z1 z2
    exact Prod.ext (Int.ofNat.inj z1) z2
   rw [this]
   walk_at "rp"
   refine ⟨e3, CN.mk hn ⟨?_, by rw [List.length_append]; simp only [List.length_cons, List.length_nil]; omega, upd_same, same_upd s3 n3 _, n3⟩⟩
   rw [lessP_take hp2, if_neg e]
   exact PairsAt.app hy ⟨⟨c, rfl, hc⟩, trivial⟩
 ·rintro D ys H3 ⟨hy, hyl, e3, s3, n3⟩
  walk_at "rp"
  rw [hl, List.take_length] at hy
  exact ⟨_, .inl (SqL.of e3), fun r H4 s4 h4 => q r H4 ys (s3.trans s4) h4 (hy.mono (same_tups (s3.trans s4)))⟩
def needF (R : List (List Bool)) (os : List (Nat × Bool)) (l nd : List (Nat × Bool)) : List (Nat × Bool) := l.foldl (fun nd p => if (R.any fun k => agr k (lessP p nd ++ os)) = true then nd else lessP p nd) nd
theorem lessP_len (p : Nat × Bool) (ps : List (Nat × Bool)) : (lessP p ps).length ≤ ps.length := List.length_filter_le _ _
theorem lessP_mem {p q : Nat × Bool} {ps : List (Nat × Bool)} (h : q ∈ lessP p ps) : q ∈ ps := (List.mem_filter.mp h).1
theorem needF_take {R : List (List Bool)} {os l nd : List (Nat × Bool)} {i : Nat} {p : Nat × Bool} (h : l[i]? = some p) : needF R os (l.take (i + 1)) nd = if (R.any fun k => agr k (lessP p (needF R os (l.take i) nd) ++ os)) = true then needF R os (l.take i) nd else lessP p (needF R os (l.take i) nd) := by
 unfold needF
 rw [List.take_add_one, h, List.foldl_append]
 rfl
theorem any_map2 {R : List (Addr × List Bool)} {f : List Bool → Bool} : (R.any fun q => f q.2) = ((R.map (·.2)).any f) := by
 rw [List.any_map]; rfl
def spNeeded (K : PySem.W.Frag) : Sp := fun vs H Q _ => ∃ (r a o : Addr) (R : List (Addr × List Bool)) (us ws : List V) (ps os : List (Nat × Bool)), vs = [.ref r, .ref a, .ref o] ∧ SqL K H r (R.map fun q => V.ref q.1) ∧ (∀ q ∈ R, SqT K H q.1 (q.2.map V.bl)) ∧ SqT K H a us ∧ PairsAt K H us ps ∧ SqT K H o ws ∧ PairsAt K H ws os ∧
 ps.length < 64 ∧ os.length < 64 ∧ (∀ q ∈ R, ∀ p ∈ ps, p.1 < q.2.length) ∧ (∀ q ∈ R, ∀ p ∈ os, p.1 < q.2.length) ∧
 ∀ (c : Addr) (H' : Hp) (us' : List V), Same H H' → SqT K H' c us' → PairsAt K H' us' (needF (R.map (·.2)) os ps ps) → Q (.ref c) H'
theorem sc_needed : FnScope ["rows", "part", "others", "needed", "pair", "less"] ["rows", "part", "others"] (defScope (top 28)) := ⟨rfl, rfl, rfl, by decide +kernel, rfl, by decide +kernel, by decide +kernel⟩
theorem ok_needed (D : Def K mg "needed_against" (top 28) ["rows", "part", "others"]) (C_without : Callee P w K mg base 1 "without" ["part", "pair"] (spWithout K)) (C_any_agrees : Callee P w K mg base 2 "any_agrees" ["rows", "part"] (spAny K)) : Callee P w K mg base 3 "needed_against" ["rows", "part", "others"] (spNeeded K) := by
 refine D.callee sc_needed (fun vs H Q E h => ?_) fun f cdv A outer s H vs Q E hr h => ?_
 ·obtain ⟨r, a, o, R, us, ws, ps, os, rfl, _⟩ := h
  rfl
 have nd := sc_needed.nd
 obtain ⟨r, a, o, R, us, ws, ps, os, rfl, hr0, hR, ha, hP, ho, hO, h64, h64', hlt, hlt', q⟩ := h
 refine ⟨[some (.ref r), some (.ref a), some (.ref o), none, none, none], _, rfl, (pss_cons (m_set 3 nd (m_var 1))
  (pss_cons (m_for PassesOwn.never rfl (pi_seq (m_var 1)) (m_tg 4 nd) (pss_cons (m_set 5 nd (m_call C_without hr (by omega) (pa_cons (m_var 3) (pa_cons (m_var 4) pa_nil))))
  (pss_one (ps_if (pt_not (m_val (m_call C_any_agrees hr (by omega) (pa_cons (m_var 0) (pa_cons (pe_op m_add (m_var 5) (m_var 2)) pa_nil))))) (pss_one (m_set 3 nd (m_var 5))) pss_nil))))
  (pss_one (ps_ret (m_var 3))))), ?_⟩
 have hl := hP.len
 walk_at "rp"
 refine .inr ⟨⟨_, ha⟩, loop_tup (xs := us) (fun i σ H2 => ∃ c cs x4 x5, σ = [some (.ref r), some (.ref a), some (.ref o), some (.ref c), x4, x5] ∧ Same H H2 ∧ SqT K H2 c cs ∧ PairsAt K H2 cs (needF (R.map (·.2)) os (ps.take i) ps) ∧ (∀ p ∈ needF (R.map (·.2)) os (ps.take i) ps, p ∈ ps) ∧ (needF (R.map (·.2)) os (ps.take i) ps).length ≤ ps.length) ⟨a, us, none, none, rfl, Same.refl _, ha, hP, fun p hp => hp, Nat.le_refl _⟩ ?_ ?_ ?_⟩
 ·rintro i σ H2 _ ⟨c, cs, x4, x5, rfl, s2, _⟩
  exact (same_tups s2).sqT ha
 ·rintro i x σ H2 hx ⟨c, cs, x4, x5, rfl, s2, hc, hcs, hin, hle⟩
  obtain ⟨b, p, hp, rfl, hb⟩ := hP.at i x hx
  walk_at "rp"
  refine ⟨c, b, cs, _, p, rfl, hc, hcs, by omega, (same_tups s2).sqT hb, fun d H3 ds s3 hd hds => ?_⟩
  walk_at "rp"
  have s23 := s2.trans s3
  have hll := lessP_len p (needF (R.map (·.2)) os (ps.take i) ps)
  refine .inr ⟨ds, ws, hd, (same_tups s23).sqT ho, by rw [hds.len, hO.len, sizeLine_eq]; omega, fun e H4 s4 he => ?_⟩
  have s234 := s23.trans s4
  refine ⟨r, e, R, ds ++ ws, lessP p (needF (R.map (·.2)) os (ps.take i) ps) ++ os, rfl, s234.seq hr0, fun q hq => (same_tups s234).sqT (hR q hq), he, PairsAt.app (hds.mono (same_tups s4)) (hO.mono (same_tups s234)), fun q hq y hy => ?_, ?_⟩
  ·rcases List.mem_append.mp hy with z | z
   ·exact hlt q hq y (hin y (lessP_mem z))
   ·exact hlt' q hq y z
  walk_at "rp"
  rw [needF_take hp, any_map2 (f := fun k => agr k (lessP p (needF (R.map (·.2)) os (ps.take i) ps) ++ os))]
  cases hc9 : ((R.map (·.2)).any fun k => agr k (lessP p (needF (R.map (·.2)) os (ps.take i) ps) ++ os)) with
  | true =>
   walk_at "rp"
   exact ⟨c, cs, _, _, rfl, s234, (same_tups (s3.trans s4)).sqT hc, hcs.mono (same_tups (s3.trans s4)), hin, hle⟩
  | false =>
   walk_at "rp"
   exact ⟨d, ds, _, _, rfl, s234, (same_tups s4).sqT hd, hds.mono (same_tups s4), fun y hy => hin y (lessP_mem hy), by omega⟩
 ·rintro σ H2 ⟨c, cs, x4, x5, rfl, s2, hc, hcs, _⟩
  walk_at "rp"
  rw [hl, List.take_length] at hcs
  exact q c H2 cs s2 hc hcs
theorem sz1 {a : V} : [a].length ≤ sizeLine := by simp only [List.length_cons, List.length_nil]; rw [sizeLine_eq]; decide
theorem sz2 {a b : V} : [a, b].length ≤ sizeLine := by simp only [List.length_cons, List.length_nil]; rw [sizeLine_eq]; decide
def ReasonAt (K : PySem.W.Frag) (H : Hp) (v : V) (word : Str) (xs : List V) : Prop := ∃ r c, v = .ref r ∧ SqT K H r [.str word, .ref c] ∧ SqT K H c xs
theorem ReasonAt.mono {K : PySem.W.Frag} {H H' : Hp} {v : V} {word : Str} {xs : List V} (t : Tups H H') (h : ReasonAt K H v word xs) : ReasonAt K H' v word xs :=
 let ⟨r, c, e, a, b⟩ := h; ⟨r, c, e, t.sqT a, t.sqT b⟩
def spByJudges (K : PySem.W.Frag) : Sp := fun vs H Q _ => ∃ (a : Addr) (J : List (Addr × List Bool)) (m j : Nat) (t : Bool), vs = [.ref a, .int (j : Int), .bl t] ∧ JudgesAt K H a J m ∧ j < m ∧
 ∀ (v : V) (H' : Hp), Same H H' → ReasonAt K H' v "judges" ((sayers (J.map (·.2)) j t J.length).map fun n => V.int ((n : Nat) : Int)) → Q v H'
theorem sc_by_judges : FnScope ["judges", "number", "truth"] ["judges", "number", "truth"] (defScope (top 30)) := ⟨rfl, rfl, rfl, by decide +kernel, rfl, by decide +kernel, by decide +kernel⟩
theorem ok_by_judges (D : Def K mg "by_judges" (top 30) ["judges", "number", "truth"]) (C_who_say : Callee P w K mg base 1 "who_say" ["judges", "number", "truth"] (spWho K)) (mg_tuple : mg "tuple" = none) : Callee P w K mg base 2 "by_judges" ["judges", "number", "truth"] (spByJudges K) := by
 refine D.callee sc_by_judges (fun vs H Q E h => ?_) fun f cdv A outer s H vs Q E hr h => ?_
 ·obtain ⟨a, J, m, j, t, rfl, _⟩ := h
  rfl
 have nd := sc_by_judges.nd
 obtain ⟨a, J, m, j, t, rfl, hJ, hj, q⟩ := h
 refine ⟨[some (.ref a), some (.int (j : Int)), some (.bl t)], _, rfl, (pss_one (ps_ret (m_tup (pa_cons pe_str (pa_cons (pe_callTy m_tupOf rfl mg_tuple bt_tuple (pa_cons (m_call C_who_say hr (by omega) (pa_cons (m_var 0) (pa_cons (m_var 1) (pa_cons (m_var 2) pa_nil)))) pa_nil)) pa_nil))))), ?_⟩
 walk_at "rp"
 refine ⟨a, J, m, j, t, rfl, hJ, hj, fun p H1 n1 s1 e1 => ?_⟩
 walk_at "rp"
 refine ⟨_, .inl (SqL.of e1), fun c H2 s2 h2 => ⟨sz2, fun r H3 n3 s3 e3 => ?_⟩⟩
 exact q _ H3 (s1.trans (s2.trans s3)) ⟨r, c, rfl, SqT.of e3, (same_tups s3).sqT h2⟩
def spByPart (K : PySem.W.Frag) : Sp := fun vs H Q _ => ∃ (r a : Addr) (R : List (Addr × List Bool)) (us : List V) (ps : List (Nat × Bool)) (j : Nat) (t : Bool), vs = [.ref r, .ref a, .int (j : Int), .bl t] ∧ SqL K H r (R.map fun q => V.ref q.1) ∧ (∀ q ∈ R, SqT K H q.1 (q.2.map V.bl)) ∧ SqT K H a us ∧ PairsAt K H us ps ∧ ps.length < 64 ∧ (∀ q ∈ R, ∀ p ∈ ps, p.1 < q.2.length) ∧ (∀ q ∈ R, j < q.2.length) ∧
 ∀ (v : V) (H' : Hp) (us' : List V), Same H H' → ReasonAt K H' v "follows" us' → PairsAt K H' us' (needF (R.map (·.2)) [(j, !t)] ps ps) → Q v H'
theorem sc_by_part : FnScope ["rows", "part", "number", "truth"] ["rows", "part", "number", "truth"] (defScope (top 31)) := ⟨rfl, rfl, rfl, by decide +kernel, rfl, by decide +kernel, by decide +kernel⟩
theorem ok_by_part (D : Def K mg "by_part" (top 31) ["rows", "part", "number", "truth"]) (C_needed_against : Callee P w K mg base 3 "needed_against" ["rows", "part", "others"] (spNeeded K)) : Callee P w K mg base 4 "by_part" ["rows", "part", "number", "truth"] (spByPart K) := by
 refine D.callee sc_by_part (fun vs H Q E h => ?_) fun f cdv A outer s H vs Q E hr h => ?_
 ·obtain ⟨r, a, R, us, ps, j, t, rfl, _⟩ := h
  rfl
 have nd := sc_by_part.nd
 obtain ⟨r, a, R, us, ps, j, t, rfl, hr0, hR, ha, hP, h64, hlt, hj, q⟩ := h
 refine ⟨[some (.ref r), some (.ref a), some (.int (j : Int)), some (.bl t)], _, rfl, (pss_one (ps_ret (m_tup (pa_cons pe_str (pa_cons (m_call C_needed_against hr (by omega) (pa_cons (m_var 0) (pa_cons (m_var 1) (pa_cons (m_tup (pa_cons (m_tup (pa_cons (m_var 2) (pa_cons (m_not (m_var 3)) pa_nil))) pa_nil)) pa_nil)))) pa_nil))))), ?_⟩
 walk_at "rp"
 refine ⟨sz2, fun x H1 n1 s1 e1 => ⟨sz1, fun y H2 n2 s2 e2 => ?_⟩⟩
 have s12 := s1.trans s2
 refine ⟨r, a, y, R, us, [.ref x], ps, [(j, !t)], rfl, s12.seq hr0, fun q hq => (same_tups s12).sqT (hR q hq), (same_tups s12).sqT ha, hP.mono (same_tups s12), SqT.of e2, ⟨⟨x, rfl, (same_tups s2).sqT (SqT.of e1)⟩, trivial⟩, h64, (by show 1 < 64; decide), hlt, fun q hq p hp => ?_, fun c H3 us' s3 h3 h4 => ?_⟩
 ·rw [List.mem_singleton.mp hp]
  exact hj q hq
 walk_at "rp"
 refine ⟨sz2, fun z H4 n4 s4 e4 => ?_⟩
 exact q _ H4 us' (s12.trans (s3.trans s4)) ⟨z, c, rfl, SqT.of e4, (same_tups s4).sqT h3⟩ (h4.mono (same_tups s4))
def spTruthAmong (K : PySem.W.Frag) : Sp := fun vs H Q _ => ∃ (a c : Addr) (R : List (Addr × List Bool)) (m : Nat) (cs : List V) (ps : List (Nat × Bool)) (j : Nat), vs = [.ref a, .ref c, .int (j : Int)] ∧ SqL K H a (R.map fun r => V.ref r.1) ∧ (∀ r ∈ R, SqT K H r.1 (r.2.map V.bl) ∧ r.2.length = m) ∧ R.length ≤ 1000 ∧ SqT K H c cs ∧ PairsAt K H cs ps ∧ (∀ p ∈ ps, p.1 < m) ∧ j < m ∧ ∀ H', Same H H' → Q (tri (col (R.map (·.2)) ps j)) H'
theorem sc_truth_among : FnScope ["rows", "part", "number", "truths"] ["rows", "part", "number"] (defScope (top 25)) := ⟨rfl, rfl, rfl, by decide +kernel, rfl, by decide +kernel, by decide +kernel⟩
theorem ok_truth_among (D : Def K mg "truth_among" (top 25) ["rows", "part", "number"]) (C_agrees : Callee P w K mg base 1 "agrees" ["row", "part"] (spAgrees K)) (mg_all : mg "all" = none) (mg_any : mg "any" = none) : Callee P w K mg base 2 "truth_among" ["rows", "part", "number"] (spTruthAmong K) := by
 refine D.callee sc_truth_among (fun vs H Q E h => ?_) fun f cdv A outer s H vs Q E hr h => ?_
 ·obtain ⟨a, c, R, m, cs, ps, j, rfl, _⟩ := h
  rfl
 have nd := sc_truth_among.nd
 obtain ⟨a, c, R, m, cs, ps, j, rfl, ha, hR, hRl, hc, hP, hlt, hj, q⟩ := h
 refine ⟨[some (.ref a), some (.ref c), some (.int (j : Int)), none], _, rfl, (pss_cons (m_setCompN 3 nd (ixs := [2, 1]) (compOk_mk (own := ["row"]) (N := ["number", "part"]) rfl rfl rfl rfl rfl rfl rfl (by decide +kernel) rfl rfl rfl) rfl (pi_seq (m_var 0)) (fun _ _ _ _ => (pif_one (m_val (m_call C_agrees hr (by omega) (pa_cons (m_var 0) (pa_cons (m_var 2) pa_nil)))))) (fun _ _ _ _ => (m_ix (m_var 0) (m_var 1) (fun _ _ => rfl))) rfl)
  (pss_cons (ps_if (m_val (pe_callB (m_all rfl) rfl mg_all bt_all (pa_cons (m_var 3) pa_nil))) (pss_one (ps_ret pe_bl)) pss_nil)
  (pss_cons (ps_if (m_val (pe_callB (m_any rfl) rfl mg_any bt_any (pa_cons (m_var 3) pa_nil))) (pss_one (ps_ret pe_non)) pss_nil)
  (pss_one (ps_ret pe_bl))))), ?_⟩
 walk_at "rp"
 refine .inl ⟨⟨_, ha⟩, fun C s₀ H₀ ex => ?_⟩
 refine compF_lst (xs := R.map fun r => V.ref r.1) (fun D i ys H2 => ys = ((leftR (R.take i) ps).map fun r => r.2.getD j false).map V.bl ∧ H2 D = some (.lst ys) ∧ Same H H2 ∧ H D = none) (by rw [List.length_map, sizeLine_eq]; omega) ?_ ?_ ?_ ?_
 ·intro D H2 n2 s2 e2
  exact ⟨rfl, e2, s2, n2⟩
 ·rintro D i ys H2 ⟨rfl, e2, s2, _⟩
  exact ⟨s2.seq ha, e2, by rw [List.length_map, List.length_map]; exact leftR_take_len _ _ _⟩
 ·rintro D i v ys H2 hv ⟨rfl, e2, s2, n2⟩
  rw [List.getElem?_map] at hv
  cases hc2 : R[i]? with
  | none => rw [hc2] at hv; cases hv
  | some r =>
   rw [hc2] at hv
   cases hv
   have hi : i < R.length := (List.getElem?_eq_some_iff.mp hc2).1
   obtain ⟨hr1, hr2⟩ := hR r (List.mem_of_getElem? hc2)
   have hr3 := (same_tups s2).sqT hr1
   walk_at "rp"
   refine ⟨r.1, c, r.2, cs, ps, rfl, hr3, (same_tups s2).sqT hc, hP.mono (same_tups s2), fun p hp => by rw [hr2]; exact hlt p hp, ?_⟩
   walk_at "rp"
   cases hag : agr r.2 ps with
   | true =>
    walk_at "rp"
    refine ⟨_, _, .inr hr3, at_row (by omega), e2, CN.mk (by rw [List.length_map]; exact hi) ⟨?_, upd_same, same_upd s2 n2 _, n2⟩⟩
    rw [leftR_take hc2, if_pos hag, List.map_append, List.map_append]
    rfl
   | false =>
    walk_at "rp"
    refine CN.mk (by rw [List.length_map]; exact hi) ⟨?_, e2, s2, n2⟩
    rw [leftR_take hc2, if_neg (by rw [hag]; decide), List.append_nil]
 ·rintro D ys H2 ⟨rfl, e2, s2, n2⟩
  rw [List.length_map, List.take_length, ← col_left] at e2
  have q2 := q H2 s2
  generalize col (R.map (·.2)) ps j = bs at e2 q2
  unfold tri at q2
  refine ⟨bs, SqL.of e2, ?_⟩
  walk_at "rp"
  refine ite2 (fun c1 => ?_) (fun c1 => ?_)
  ·rw [if_pos c1] at q2
   exact q2
  ·rw [if_neg c1] at q2
   refine ⟨bs, SqL.of e2, ?_⟩
   walk_at "rp"
   refine ite2 (fun c2 => ?_) (fun c2 => ?_)
   ·rw [if_pos c2] at q2
    exact q2
   ·rw [if_neg c2] at q2
    exact q2
def spBarredI (K : PySem.W.Frag) (C : Addr) : Sp := fun vs H Q _ => ∃ (a : Addr) (v : V) (n : Bool), vs = [.ref a, v] ∧ H a = some (exO a C none n) ∧ ∀ dx, H dx = none → Q .non (upd (upd H dx (.xd [("part", v)])) a (exO a C (some dx) n))
theorem sc_barred : FnScope ["self", "part"] ["self", "part"] (defScope (subSt (top 10) 0)) := ⟨rfl, rfl, rfl, by decide +kernel, rfl, by decide +kernel, by decide +kernel⟩
theorem ok_barredI {C : Addr} (D : DefI K C "Barred.__init__" (subSt (top 10) 0) ["self", "part"]) (xb : XCls K C) (ht : PySem.W.takerIn K C "part" = some none) : CalleeI P w K mg base 1 C ["self", "part"] (spBarredI K C) := by
 refine D.callee sc_barred (fun vs H Q E h => ?_) fun f cdv A outer s H vs Q E hr h => ?_
 ·obtain ⟨a, v, n, rfl, _⟩ := h
  rfl
 have nd := sc_barred.nd
 obtain ⟨a, v, n, rfl, ea, q⟩ := h
 refine ⟨[some (.ref a), some v], _, rfl, (pss_one (ps_fldX (m_var 0) (m_var 1) rfl)), ?_⟩
 walk_at "rp"
 exact ⟨a, C, n, rfl, ea, xb, ht, q⟩
def gps (said : Nat → Bool) (gs : List Nat) : List (Nat × Bool) := gs.map fun n => (n, said n)
theorem gps_len (said : Nat → Bool) (gs : List Nat) : (gps said gs).length = gs.length := List.length_map ..
theorem gps_take {said : Nat → Bool} {gs : List Nat} {i n : Nat} (h : gs[i]? = some n) : gps said (gs.take (i + 1)) = gps said (gs.take i) ++ [(n, said n)] := by
 unfold gps
 rw [List.take_add_one, h, List.map_append]
 rfl
theorem gps_lt {said : Nat → Bool} {gs : List Nat} {m : Nat} (h : ∀ n ∈ gs, n < m) : ∀ p ∈ gps said gs, p.1 < m := fun p hp => by
 obtain ⟨n, hn, rfl⟩ := List.mem_map.mp hp
 exact h n hn
theorem most_at {ks : List (List Bool)} {m n : Nat} (h : n < m) : atI ((mostRow ks m).map V.bl) ((n : Nat) : Int) = some (V.bl (mostAt ks n)) := atI_nat (by simp [mostRow, h])
def BarE (K : PySem.W.Frag) (Cb : Addr) (H : Hp) (ps : List (Nat × Bool)) (E : XK) : Prop := ∀ (a dx t : Addr) (H' : Hp) (us : List V), Same H H' → H' a = some (exO a Cb (some dx) false) → H' dx = some (.xd [("part", .ref t)]) → SqT K H' t us → PairsAt K H' us ps → E (.ref a) (some dx) H'
def spGAnswers (K : PySem.W.Frag) (Cb : Addr) : Sp := fun vs H Q E => ∃ (r c g : Addr) (R J : List (Addr × List Bool)) (m : Nat) (gs : List Nat), vs = [.ref r, .ref c, .ref g] ∧ SqL K H r (R.map fun q => V.ref q.1) ∧ (∀ q ∈ R, SqT K H q.1 (q.2.map V.bl)) ∧ (∀ q ∈ R, q.2.length = m) ∧ JudgesAt K H c J m ∧ m ≤ 10 ∧ SqT K H g (gs.map fun n => V.int ((n : Nat) : Int)) ∧ (∀ n ∈ gs, n < m) ∧ gs.length ≤ 10 ∧
 (((R.map (·.2)).any fun k => agr k (gps (mostAt (J.map (·.2))) gs)) = true → ∀ (p : Addr) (H' : Hp) (us : List V), Same H H' → SqT K H' p us → PairsAt K H' us (gps (mostAt (J.map (·.2))) gs) → Q (.ref p) H') ∧
 (((R.map (·.2)).any fun k => agr k (gps (mostAt (J.map (·.2))) gs)) = false → BarE K Cb H (needF (R.map (·.2)) [] (gps (mostAt (J.map (·.2))) gs) (gps (mostAt (J.map (·.2))) gs)) E)
theorem sc_ganswers : FnScope ["rows", "judges", "grounds", "said", "part"] ["rows", "judges", "grounds"] (defScope (top 32)) := ⟨rfl, rfl, rfl, by decide +kernel, rfl, by decide +kernel, by decide +kernel⟩
theorem ok_ganswers {Cb : Addr} (D : Def K mg "grounds_answers" (top 32) ["rows", "judges", "grounds"]) (C_most : Callee P w K mg base 3 "most" ["judges"] (spMost K)) (C_any_agrees : Callee P w K mg base 2 "any_agrees" ["rows", "part"] (spAny K)) (C_needed_against : Callee P w K mg base 3 "needed_against" ["rows", "part", "others"] (spNeeded K)) (C_Barred : CalleeI P w K mg base 1 Cb ["self", "part"] (spBarredI K Cb)) (mg_Barred : mg "Barred" = some (.ref Cb)) (xb : XCls K Cb) (mg_tuple : mg "tuple" = none) : CalleeX P w K mg base 4 "grounds_answers" ["rows", "judges", "grounds"] (spGAnswers K Cb) := by
 refine D.calleeX sc_ganswers (fun vs H Q E h => ?_) fun f cdv A outer s H vs Q E hr h => ?_
 ·obtain ⟨r, c, g, R, J, m, gs, rfl, _⟩ := h
  rfl
 have nd := sc_ganswers.nd
 obtain ⟨r, c, g, R, J, m, gs, rfl, hr0, hR, hRm, hJ, h10, hg, hgm, hgl, qy, qn⟩ := h
 refine ⟨[some (.ref r), some (.ref c), some (.ref g), none, none], _, rfl, (pss_cons (m_set 3 nd (m_call C_most hr (by omega) (pa_cons (m_var 1) pa_nil)))
  (pss_cons (m_set 4 nd (pe_callTy m_tupOf rfl mg_tuple bt_tuple (pa_cons (m_compN (ixs := [3]) (compOk_mk (own := ["number"]) (N := ["said"]) rfl rfl rfl rfl rfl rfl rfl (by decide +kernel) rfl rfl rfl) rfl (pi_seq (m_var 2)) (fun _ _ _ _ => pif_nil) (fun _ _ _ _ => (m_tup (pa_cons (m_var 0) (pa_cons (m_ix (m_var 1) (m_var 0) (fun _ _ => rfl)) pa_nil)))) rfl) pa_nil)))
  (pss_cons (ps_if (pt_not (m_val (m_call C_any_agrees hr (by omega) (pa_cons (m_var 0) (pa_cons (m_var 4) pa_nil))))) (pss_one (ps_raiseC (m_newX C_Barred hr (by omega) mg_Barred (pa_cons (m_call C_needed_against hr (by omega) (pa_cons (m_var 0) (pa_cons (m_var 4) (pa_cons (m_tup pa_nil) pa_nil)))) pa_nil)) raisesX rfl)) pss_nil)
  (pss_one (ps_ret (m_var 4)))))), ?_⟩
 walk_at "rp"
 refine ⟨c, J, m, rfl, hJ, h10, fun p1 H1 s1 h1 => ?_⟩
 walk_at "rp"
 refine .inr ⟨⟨_, (same_tups s1).sqT hg⟩, fun C s₀ H₀ ex => ?_⟩
 refine comp_tup (xs := gs.map fun n => V.int ((n : Nat) : Int)) (fun D i ys H2 => PairsAt K H2 ys (gps (mostAt (J.map (·.2))) (gs.take i)) ∧ i ≤ gs.length ∧ H2 D = some (.lst ys) ∧ Same H1 H2 ∧ H1 D = none) (by rw [List.length_map, sizeLine_eq]; omega) ?_ ?_ ?_ ?_
 ·intro D H2 n2 s2 e2
  exact ⟨trivial, Nat.zero_le _, e2, s2, n2⟩
 ·rintro D i ys H2 ⟨hys, hil, e2, s2, _⟩
  refine ⟨(same_tups (s1.trans s2)).sqT hg, e2, ?_⟩
  rw [hys.len, gps_len, List.length_take]
  omega
 ·rintro D i v ys H2 hv ⟨hys, _, e2, s2, n2⟩
  rw [List.getElem?_map] at hv
  cases hc : gs[i]? with
  | none => rw [hc] at hv; cases hv
  | some n =>
   rw [hc] at hv
   cases hv
   have hi : i < gs.length := (List.getElem?_eq_some_iff.mp hc).1
   have hnm := hgm n (List.mem_of_getElem? hc)
   walk_at "rp"
   refine ⟨_, _, .inr ((same_tups s2).sqT h1), most_at hnm, ?_⟩
   walk_at "rp"
   refine ⟨sz2, fun b H3 n3 s3 e3 => ?_⟩
   walk_at "rp"
   have t5 : Tups H3 (upd H3 D (.lst (ys ++ [.ref b]))) := tups_lst (s3 _ _ e2)
   refine ⟨s3 _ _ e2, CN.mk (by rw [List.length_map]; exact hi) ⟨?_, hi, upd_same, same_upd (s2.trans s3) n2 _, n2⟩⟩
   rw [gps_take hc]
   exact PairsAt.app (hys.mono ((same_tups s3).trans t5)) ⟨⟨b, rfl, t5.sqT (SqT.of e3)⟩, trivial⟩
 ·rintro D ys H2 ⟨hys, _, e2, s2, n2⟩
  rw [List.length_map, List.take_length] at hys
  walk_at "rp"
  refine ⟨_, .inl (SqL.of e2), fun p H3 s3 h3 => ?_⟩
  walk_at "rp"
  have s13 := s1.trans (s2.trans s3)
  have hP := hys.mono (same_tups s3)
  have hlt : ∀ q ∈ R, ∀ x ∈ gps (mostAt (J.map (·.2))) gs, x.1 < q.2.length := fun q hq x hx => by rw [hRm q hq]; exact gps_lt hgm x hx
  have hgl2 := gps_len (mostAt (J.map (·.2))) gs
  generalize hps : gps (mostAt (J.map (·.2))) gs = ps at *
  refine ⟨r, p, R, ys, ps, rfl, s13.seq hr0, fun q hq => (same_tups s13).sqT (hR q hq), h3, hP, hlt, ?_⟩
  rw [any_map2 (f := fun k => agr k ps)]
  cases hany : ((R.map (·.2)).any fun k => agr k ps) with
  | true =>
   walk_at "rp"
   exact qy hany p H3 ys s13 h3 hP
  | false =>
   walk_at "rp"
   refine ⟨Nat.zero_le _, fun o H4 n4 s4 e4 => ?_⟩
   walk_at "rp"
   have s14 := s13.trans s4
   refine ⟨r, p, o, R, ys, [], ps, [], rfl, s14.seq hr0, fun q hq => (same_tups s14).sqT (hR q hq), (same_tups s4).sqT h3, hP.mono (same_tups s4), SqT.of e4, trivial, by omega, by decide, hlt, fun q hq x hx => (by cases hx), fun t H5 us5 s5 h5 hp5 => ?_⟩
   walk_at "rp"
   refine ⟨by rw [sizeLine_eq]; simp, fun a ha => ⟨a, .ref t, true, rfl, upd_same, fun dx hdx => ⟨rfl, a, Cb, some dx, rfl, upd_same, xb, ?_⟩⟩⟩
   have hda : dx ≠ a := fun z => by rw [z, upd_same] at hdx; cases hdx
   have hd5 : H5 dx = none := by rw [upd_ne hda] at hdx; exact hdx
   have s6 : Same H5 (upd (upd (upd (upd H5 a (exO a Cb none true)) dx (.xd [("part", .ref t)])) a (exO a Cb (some dx) true)) a (exO a Cb (some dx) false)) := same_upd (same_upd (same_upd (same_upd (Same.refl _) ha _) hd5 _) ha _) ha _
   exact qn hany a dx t _ us5 (s14.trans (s5.trans s6)) upd_same (by rw [upd_ne hda, upd_ne hda, upd_same]) ((same_tups s6).sqT h5) (hp5.mono (same_tups s6))
def gRsn (K : PySem.W.Frag) (H : Hp) (R : List (List Bool)) (J : List (List Bool)) (ps : List (Nat × Bool)) (j : Nat) (v w : V) : Prop :=
 (∃ t, v = .bl t ∧ ((j, t) ∈ ps ∧ ReasonAt K H w "judges" ((sayers J j t J.length).map fun n => V.int ((n : Nat) : Int)) ∨ (j, t) ∉ ps ∧ ∃ us, ReasonAt K H w "follows" us ∧ PairsAt K H us (needF R [(j, !t)] ps ps))) ∨ v = .non ∧ w = .non
theorem gRsn.mono {K : PySem.W.Frag} {H H' : Hp} {R J : List (List Bool)} {ps : List (Nat × Bool)} {j : Nat} {v w : V} (t : Tups H H') (h : gRsn K H R J ps j v w) : gRsn K H' R J ps j v w := by
 rcases h with ⟨b, e, ⟨m, r⟩ | ⟨m, us, r, p⟩⟩ | h
 ·exact .inl ⟨b, e, .inl ⟨m, r.mono t⟩⟩
 ·exact .inl ⟨b, e, .inr ⟨m, us, r.mono t, p.mono t⟩⟩
 ·exact .inr h
def spGReason (K : PySem.W.Frag) : Sp := fun vs H Q _ => ∃ (r c a : Addr) (R J : List (Addr × List Bool)) (us : List V) (ps : List (Nat × Bool)) (m j : Nat) (v : V), vs = [.ref r, .ref c, .ref a, .int (j : Int), v] ∧ (v = .non ∨ ∃ t, v = .bl t) ∧ SqL K H r (R.map fun q => V.ref q.1) ∧ (∀ q ∈ R, SqT K H q.1 (q.2.map V.bl)) ∧ (∀ q ∈ R, q.2.length = m) ∧ JudgesAt K H c J m ∧ SqT K H a us ∧ PairsAt K H us ps ∧ ps.length < 64 ∧ (∀ p ∈ ps, p.1 < m) ∧ j < m ∧
 ∀ (w : V) (H' : Hp), Same H H' → gRsn K H' (R.map (·.2)) (J.map (·.2)) ps j v w → Q w H'
theorem sc_greason : FnScope ["rows", "judges", "part", "number", "truth"] ["rows", "judges", "part", "number", "truth"] (defScope (top 33)) := ⟨rfl, rfl, rfl, by decide +kernel, rfl, by decide +kernel, by decide +kernel⟩
theorem ok_greason (D : Def K mg "grounds_reason" (top 33) ["rows", "judges", "part", "number", "truth"]) (C_by_judges : Callee P w K mg base 2 "by_judges" ["judges", "number", "truth"] (spByJudges K)) (C_by_part : Callee P w K mg base 4 "by_part" ["rows", "part", "number", "truth"] (spByPart K)) : Callee P w K mg base 5 "grounds_reason" ["rows", "judges", "part", "number", "truth"] (spGReason K) := by
 refine D.callee sc_greason (fun vs H Q E h => ?_) fun f cdv A outer s H vs Q E hr h => ?_
 ·obtain ⟨r, c, a, R, J, us, ps, m, j, v, rfl, _⟩ := h
  rfl
 have nd := sc_greason.nd
 obtain ⟨r, c, a, R, J, us, ps, m, j, v, rfl, hv, hr0, hR, hRm, hJ, ha, hP, h64, hlt, hjm, q⟩ := h
 refine ⟨[some (.ref r), some (.ref c), some (.ref a), some (.int (j : Int)), some v], _, rfl, (pss_cons (ps_if (m_test (m_inQ hr.units) (m_tup (pa_cons (m_var 3) (pa_cons (m_var 4) pa_nil))) (m_var 2) (by with_unfolding_all rfl)) (pss_one (ps_ret (m_call C_by_judges hr (by omega) (pa_cons (m_var 1) (pa_cons (m_var 3) (pa_cons (m_var 4) pa_nil)))))) pss_nil)
  (pss_cons (ps_if (m_test m_isN (m_var 4) pe_non (nomark _)) (pss_one (ps_ret pe_non)) pss_nil)
  (pss_one (ps_ret (m_call C_by_part hr (by omega) (pa_cons (m_var 0) (pa_cons (m_var 2) (pa_cons (m_var 3) (pa_cons (m_var 4) pa_nil))))))))), ?_⟩
 walk_at "rp"
 refine ⟨sz2, fun b H1 n1 s1 e1 => ?_⟩
 walk_at "rp"
 have hP1 := hP.mono (same_tups s1)
 have ha1 := (same_tups s1).sqT ha
 rcases hv with rfl | ⟨t, rfl⟩
 ·refine ⟨b, a, us, ps, rfl, rfl, ha1, hP1, .inr ⟨j, SqT.of e1, ?_⟩⟩
  walk_at "rp"
  exact ⟨trivial, q .non H1 s1 (.inr ⟨rfl, rfl⟩)⟩
 ·refine ⟨b, a, us, ps, rfl, rfl, ha1, hP1, .inl ⟨(j, t), SqT.of e1, ?_⟩⟩
  cases hany : (ps.any fun r => r == (j, t)) with
  | true =>
   obtain ⟨x, hx, hb⟩ := List.any_eq_true.mp hany
   have e := eq_of_beq hb
   subst e
   walk_at "rp"
   refine ⟨c, J, m, j, t, rfl, hJ.mono (same_tups s1), hjm, fun w H2 s2 h2 => ?_⟩
   rw [← List.length_map (f := fun r : Addr × List Bool => r.2)] at h2
   exact q w H2 (s1.trans s2) (.inl ⟨t, rfl, .inl ⟨hx, h2⟩⟩)
  | false =>
   have hnot : (j, t) ∉ ps := fun hm => by
    have : (ps.any fun r => r == (j, t)) = true := List.any_eq_true.mpr ⟨_, hm, beq_self_eq_true _⟩
    rw [this] at hany
    cases hany
   walk_at "rp"
   simp only [show decide (V.bl t = V.non) = false from decide_eq_false (fun z => by cases z), Bool.false_eq_true, if_false, true_and]
   walk_at "rp"
   refine ⟨r, a, R, us, ps, j, t, rfl, s1.seq hr0, fun q hq => (same_tups s1).sqT (hR q hq), ha1, hP1, h64, fun q hq p hp => by rw [hRm q hq]; exact hlt p hp, fun q hq => by rw [hRm q hq]; exact hjm, fun w H2 us' s2 h2 h3 => ?_⟩
   exact q w H2 (s1.trans s2) (.inl ⟨t, rfl, .inr ⟨hnot, us', h2, h3⟩⟩)
theorem tri_or (bs : List Bool) : tri bs = .non ∨ ∃ t, tri bs = .bl t := by
 unfold tri
 split
 ·exact .inr ⟨_, rfl⟩
 ·split
  ·exact .inl rfl
  ·exact .inr ⟨_, rfl⟩
def spGFirst (K : PySem.W.Frag) (Cb : Addr) : Sp := fun vs H Q E => ∃ (b c g : Addr) (us : List V) (ts : List Say) (xs : List Str) (J : List (Addr × List Bool)) (gs : List Nat), vs = [.ref b, .ref c, .ref g] ∧ SqT K H b us ∧ SaysAt K H us ts ∧ Lst ts xs ∧ JudgesAt K H c J ts.length ∧ SqT K H g (gs.map fun n => V.int ((n : Nat) : Int)) ∧ (∀ n ∈ gs, n < ts.length) ∧ gs.length ≤ 10 ∧ ∀ (ss : List Str) (ks : List (List Bool)), NamesOf ts ss → FitRows ts ss ks →
 ((ks.any fun k => agr k (gps (mostAt (J.map (·.2))) gs)) = true → ∀ (p e l : Addr) (H' : Hp) (rs : List V), Same H H' → SqT K H' p [.ref e, .ref l] → SqT K H' e ((List.range ts.length).map fun j => tri (col ks (gps (mostAt (J.map (·.2))) gs) j)) → H' l = some (.lst rs) → rs.length = ts.length → (∀ j v, rs[j]? = some v → gRsn K H' ks (J.map (·.2)) (gps (mostAt (J.map (·.2))) gs) j (tri (col ks (gps (mostAt (J.map (·.2))) gs) j)) v) → Q (.ref p) H') ∧
 ((ks.any fun k => agr k (gps (mostAt (J.map (·.2))) gs)) = false → BarE K Cb H (needF ks [] (gps (mostAt (J.map (·.2))) gs) (gps (mostAt (J.map (·.2))) gs)) E)
theorem sc_gfirst : FnScope ["sayings", "judges", "grounds", "rows", "part", "row"] ["sayings", "judges", "grounds"] (defScope (top 34)) := ⟨rfl, rfl, rfl, by decide +kernel, rfl, by decide +kernel, by decide +kernel⟩
theorem ok_gfirst {Cb : Addr} (D : Def K mg "grounds_first" (top 34) ["sayings", "judges", "grounds"]) (C_fit_rows : Callee P w K mg base 44 "fit_rows" ["sayings"] (spFitRows K)) (C_grounds_answers : CalleeX P w K mg base 4 "grounds_answers" ["rows", "judges", "grounds"] (spGAnswers K Cb)) (C_truth_among : Callee P w K mg base 2 "truth_among" ["rows", "part", "number"] (spTruthAmong K)) (C_grounds_reason : Callee P w K mg base 5 "grounds_reason" ["rows", "judges", "part", "number", "truth"] (spGReason K)) (mg_tuple : mg "tuple" = none) (mg_len : mg "len" = none) (mg_range : mg "range" = none) (mg_enumerate : mg "enumerate" = none) : CalleeX P w K mg base 45 "grounds_first" ["sayings", "judges", "grounds"] (spGFirst K Cb) := by
 refine D.calleeX sc_gfirst (fun vs H Q E h => ?_) fun f cdv A outer s H vs Q E hr h => ?_
 ·obtain ⟨b, c, g, us, ts, xs, J, gs, rfl, _⟩ := h
  rfl
 have nd := sc_gfirst.nd
 obtain ⟨b, c, g, us, ts, xs, J, gs, rfl, hb, hT, hL, hJ, hg, hgm, hgl, q⟩ := h
 have hhi := hL.hi
 have hlen := hT.len
 refine ⟨[some (.ref b), some (.ref c), some (.ref g), none, none, none], _, rfl, (pss_cons (m_set 3 nd (m_call C_fit_rows hr (by omega) (pa_cons (m_var 0) pa_nil)))
  (pss_cons (m_set 4 nd (m_callX C_grounds_answers passesX hr (by omega) (pa_cons (m_var 3) (pa_cons (m_var 1) (pa_cons (m_var 2) pa_nil)))))
  (pss_cons (m_set 5 nd (pe_callTy m_tupOf rfl mg_tuple bt_tuple (pa_cons (m_compN (ixs := [3, 4]) (compOk_mk (own := ["number"]) (N := ["rows", "part"]) rfl rfl rfl rfl rfl rfl rfl (by decide +kernel) rfl rfl rfl) rfl (m_range1 rfl mg_range (pa_cons (pe_callB m_len rfl mg_len bt_len (pa_cons (m_var 0) pa_nil)) pa_nil)) (fun _ _ _ _ => pif_nil) (fun _ _ _ _ => (m_call C_truth_among hr (by omega) (pa_cons (m_var 1) (pa_cons (m_var 2) (pa_cons (m_var 0) pa_nil))))) rfl) pa_nil)))
  (pss_one (ps_ret (m_tup (pa_cons (m_var 5) (pa_cons (m_compP (ixs := [3, 1, 4]) (compOk_mk (own := ["number", "truth"]) (N := ["rows", "judges", "part"]) rfl rfl rfl rfl rfl rfl rfl (by decide +kernel) rfl rfl rfl) rfl (m_enum rfl mg_enumerate (pa_cons (m_var 5) pa_nil)) (fun _ _ _ _ => pif_nil) (fun _ _ _ _ => (m_call C_grounds_reason hr (by omega) (pa_cons (m_var 2) (pa_cons (m_var 3) (pa_cons (m_var 4) (pa_cons (m_var 0) (pa_cons (m_var 1) pa_nil))))))) rfl) pa_nil)))))))), ?_⟩
 walk_at "rp"
 refine ⟨b, us, ts, xs, rfl, hb, hT, hL, fun d H1 ss R n1 s1 e1 hR hN hF hRl => ?_⟩
 have hRm : ∀ r ∈ R, r.2.length = ts.length := fun r hr => fit_row_len hF (List.mem_map_of_mem (f := (·.2)) hr)
 obtain ⟨qy, qn⟩ := q ss _ hN hF
 walk_at "rp"
 have hgl2 := gps_len (mostAt (J.map (·.2))) gs
 have hglt := gps_lt (said := mostAt (J.map (·.2))) hgm
 refine ⟨d, c, g, R, J, ts.length, gs, rfl, SqL.of e1, hR, hRm, hJ.mono (same_tups s1), by omega, (same_tups s1).sqT hg, hgm, hgl, fun hy p H2 us2 s2 h2 hP2 => ?_, fun hn a dx t H2 us2 s2 ea ed ht hp => qn hn a dx t H2 us2 (s1.trans s2) ea ed ht hp⟩
 have qy := qy hy
 generalize gps (mostAt (J.map (·.2))) gs = ps at *
 walk_at "rp"
 have s12 := s1.trans s2
 refine ⟨_, .inr ((same_tups s12).sqT hb), ?_⟩
 rw [hlen]
 refine ⟨⟨by omega, by omega⟩, fun C s₀ H₀ ex => ?_⟩
 rw [Int.toNat_natCast]
 refine comp_range (fun D i ys H3 => ys = ((List.range i).map fun j => tri (col (R.map (·.2)) ps j)) ∧ H3 D = some (.lst ys) ∧ Same H2 H3 ∧ H2 D = none) (by rw [sizeLine_eq]; omega) ?_ ?_ ?_ ?_
 ·intro D H3 n3 s3 e3
  exact ⟨rfl, e3, s3, n3⟩
 ·rintro D i ys H3 ⟨rfl, e3, s3, _⟩
  exact ⟨e3, by rw [List.length_map, List.length_range]⟩
 ·rintro D i ys H3 hi ⟨rfl, e3, s3, n3⟩
  walk_at "rp"
  rw [Int.zero_add]
  have s23 := s2.trans s3
  refine ⟨d, p, R, ts.length, us2, ps, i, rfl, s23.seq (SqL.of e1), fun r hr => ⟨(same_tups s23).sqT (hR r hr), hRm r hr⟩, by omega, (same_tups s3).sqT h2, hP2.mono (same_tups s3), hglt, hi, fun H4 s4 => ?_⟩
  walk_at "rp"
  refine ⟨s4 _ _ e3, CN.mk hi ⟨?_, upd_same, same_upd (s3.trans s4) n3 _, n3⟩⟩
  rw [List.range_succ, List.map_append]
  rfl
 ·rintro D ys H3 ⟨rfl, e3, s3, n3⟩
  walk_at "rp"
  refine ⟨_, .inl (SqL.of e3), fun e H4 s4 h4 => ?_⟩
  walk_at "rp"
  refine ⟨⟨_, h4⟩, fun C s₀ H₀ ex => ?_⟩
  have s24 := s3.trans s4
  have s14 := s2.trans s24
  refine compE_tup (xs := (List.range ts.length).map fun j => tri (col (R.map (·.2)) ps j)) (fun D i ys H5 => ys.length = i ∧ (∀ j v, ys[j]? = some v → gRsn K H5 (R.map (·.2)) (J.map (·.2)) ps j (tri (col (R.map (·.2)) ps j)) v) ∧ H5 D = some (.lst ys) ∧ Same H4 H5 ∧ H4 D = none) (by rw [List.length_map, List.length_range, sizeLine_eq]; omega) ?_ ?_ ?_ ?_
  ·intro D H5 n5 s5 e5
   exact ⟨rfl, fun j v h => by simp at h, e5, s5, n5⟩
  ·rintro D i ys H5 ⟨hl, _, e5, s5, _⟩
   exact ⟨(same_tups s5).sqT h4, e5, Nat.le_of_eq hl⟩
  ·rintro D i v ys H5 H6 hv ⟨hl, hrs, e5, s5, n5⟩ s6
   rw [List.getElem?_map] at hv
   by_cases hi : i < ts.length
   ·rw [List.getElem?_range hi] at hv
    cases hv
    have s46 := s5.trans s6
    have s16 := s14.trans s46
    walk_at "rp"
    refine ⟨d, c, p, R, J, us2, ps, ts.length, i, _, rfl, tri_or _, s16.seq (SqL.of e1), fun r hr => (same_tups s16).sqT (hR r hr), hRm, hJ.mono (same_tups (s1.trans s16)), (same_tups (s24.trans s46)).sqT h2, hP2.mono (same_tups (s24.trans s46)), by omega, hglt, hi, fun w H7 s7 h7 => ?_⟩
    walk_at "rp"
    have t7 := tups_lst (o := .lst (ys ++ [w])) ((s6.trans s7) _ _ e5)
    refine ⟨(s6.trans s7) _ _ e5, CN.mk (by rw [List.length_map, List.length_range]; exact hi) ⟨by rw [List.length_append, hl]; rfl, fun j u hu => ?_, upd_same, same_upd (s46.trans s7) n5 _, n5⟩⟩
    by_cases hn : j < ys.length
    ·rw [List.getElem?_append_left hn] at hu
     exact (hrs j u hu).mono ((same_tups (s6.trans s7)).trans t7)
    ·rw [List.getElem?_append_right (by omega)] at hu
     have h0 : j - ys.length = 0 := by
      have := (List.getElem?_eq_some_iff.mp hu).1
      simp only [List.length_singleton] at this
      omega
     rw [h0] at hu
     cases hu
     obtain rfl : j = i := by omega
     exact h7.mono t7
   ·rw [List.getElem?_eq_none (by rw [List.length_range]; omega)] at hv
    cases hv
  ·rintro D ys H5 ⟨hl, hrs, e5, s5, n5⟩
   rw [List.length_map, List.length_range] at hl
   walk_at "rp"
   refine ⟨sz2, fun z H6 n6 s6 e6 => ?_⟩
   walk_at "rp"
   exact qy z e D H6 ys (s12.trans (s24.trans (s5.trans s6))) (SqT.of e6) ((same_tups (s5.trans s6)).sqT h4) (s6 _ _ e5) hl fun j v hv => (hrs j v hv).mono (same_tups s6)
theorem tk_fil {R : List (Addr × List Bool)} {n : Nat} {e : Addr × List Bool} {f : Addr × List Bool → Bool} (hc : R[n]? = some e) : (R.take (n + 1)).filter f = (R.take n).filter f ++ (if f e = true then [e] else []) := by
 rw [List.take_add_one, hc, List.filter_append, show (some e).toList = [e] from rfl, List.filter_cons, List.filter_nil]
def spAgreeing (K : PySem.W.Frag) : Sp := fun vs H Q _ => ∃ (r a : Addr) (R : List (Addr × List Bool)) (us : List V) (ps : List (Nat × Bool)), vs = [.ref r, .ref a] ∧ H r = some (.lst (R.map fun q => V.ref q.1)) ∧ (∀ q ∈ R, SqT K H q.1 (q.2.map V.bl)) ∧ (SqL K H a us ∨ SqT K H a us) ∧ PairsAt K H us ps ∧ ps.length ≤ 1000 ∧ (∀ q ∈ R, ∀ p ∈ ps, p.1 < q.2.length) ∧ R.length ≤ 32 ∧ ∀ (p : Addr) (H' : Hp), Same H H' → H' p = some (.lst ((R.filter fun q => agr q.2 ps).map fun q => V.ref q.1)) → Q (.ref p) H'
theorem sc_agreeing : FnScope ["_law_rows_here", "_law_part", "_law_found", "_law_row"] ["_law_rows_here", "_law_part"] (defScope (top 50)) := ⟨rfl, rfl, rfl, by decide +kernel, rfl, by decide +kernel, by decide +kernel⟩
theorem ok_agreeing (D : Def K mg "_law_agreeing" (top 50) ["_law_rows_here", "_law_part"]) (mg_len : mg "len" = none) : Callee P w K mg base 1 "_law_agreeing" ["_law_rows_here", "_law_part"] (spAgreeing K) := by
 refine D.callee sc_agreeing (fun vs H Q E h => ?_) fun f cdv A outer s H vs Q E hr h => ?_
 ·obtain ⟨r, a, R, us, ps, rfl, _⟩ := h
  rfl
 have nd := sc_agreeing.nd
 obtain ⟨r, a, R, us, ps, rfl, hr0, hR, ha, hP, hle, hlt, h32, q⟩ := h
 have hul := hP.len
 refine ⟨[some (.ref r), some (.ref a), none, none], _, rfl, (pss_cons (m_set 2 nd (m_lst pa_nil))
  (pss_cons (m_for PassesOwn.never rfl (pi_seq (m_var 0)) (m_tg 3 nd) (pss_one (ps_if (m_test (m_eq hr.units) (pe_callB m_len rfl mg_len bt_len (pa_cons (m_compN (ixs := [3]) (compOk_mk (own := ["_law_pair"]) (N := ["_law_row"]) rfl rfl rfl rfl rfl rfl rfl (by decide +kernel) rfl rfl rfl) rfl (pi_seq (m_var 1)) (fun _ _ _ _ => (pif_one (m_test (m_ne hr.units) (m_ix (m_var 1) (m_ix (m_var 0) pe_int (fun _ _ => rfl)) (fun _ _ => rfl)) (m_ix (m_var 0) pe_int (fun _ _ => rfl)) (nomark _)))) (fun _ _ _ _ => (m_var 0)) rfl) pa_nil)) pe_int (nomark _)) (pss_one (ps_expr (m_bm PySem.F.slot_list_append PySem.F.type_list_append m_app (m_var 2) (pa_cons (m_var 3) pa_nil)))) pss_nil)))
  (pss_one (ps_ret (m_var 2))))), ?_⟩
 walk_at "rp"
 refine ⟨by rw [sizeLine_eq]; simp, fun l H1 n1 s1 e1 => ?_⟩
 walk_at "rp"
 refine .inl ⟨⟨_, SqL.of (s1 _ _ hr0)⟩, loop_list (xs := R.map fun q => V.ref q.1) (fun i σ H2 => ∃ x3, σ = [some (.ref r), some (.ref a), some (.ref l), x3] ∧ H2 l = some (.lst (((R.take i).filter fun q => agr q.2 ps).map fun q => V.ref q.1)) ∧ Same H H2) ⟨none, rfl, e1, s1⟩ ?_ ?_ ?_⟩
 ·rintro i σ H2 _ ⟨x3, rfl, _, s2⟩
  exact SqL.of (s2 _ _ hr0)
 ·rintro i v σ H2 hv ⟨x3, rfl, e2, s2⟩
  rw [List.getElem?_map] at hv
  cases hc : R[i]? with
  | none => rw [hc] at hv; cases hv
  | some e =>
   rw [hc] at hv
   cases hv
   have hm := List.mem_of_getElem? hc
   have hil : i < R.length := (List.getElem?_eq_some_iff.mp hc).1
   walk_at "rp"
   rcases ha with ha | ha
   ·refine .inl ⟨⟨_, s2.seq ha⟩, fun C s₀ H₀ ex => ?_⟩
    refine compF_lst (xs := us) (fun D j zs H3 => (zs = [] ↔ agr e.2 (ps.take j) = true) ∧ zs.length ≤ j ∧ H3 D = some (.lst zs) ∧ Same H2 H3 ∧ H2 D = none) (by rw [sizeLine_eq]; omega) ?_ ?_ ?_ ?_
    ·intro D H3 n3 s3 e3
     exact ⟨by simp [agr], Nat.le_refl _, e3, s3, n3⟩
    ·rintro D j zs H3 ⟨_, hz, e3, s3, _⟩
     exact ⟨(s2.trans s3).seq ha, e3, hz⟩
    ·rintro D j v zs H3 hv ⟨hz0, hz, e3, s3, n3⟩
     obtain ⟨b, p, hp, rfl, hb⟩ := hP.at j v hv
     have hj : j < us.length := (List.getElem?_eq_some_iff.mp hv).1
     have hb3 := (same_tups (s2.trans s3)).sqT hb
     have hagr := agr_take (k := e.2) hp
     walk_at "rp"
     refine ⟨_, _, .inr hb3, rfl, ?_⟩
     walk_at "rp"
     refine ⟨_, _, .inr ((same_tups (s2.trans s3)).sqT (hR e hm)), at_row (hlt e hm p (List.mem_of_getElem? hp)), ?_⟩
     walk_at "rp"
     refine ⟨_, _, .inr hb3, rfl, ?_⟩
     walk_at "rp"
     have hee : decide (e.2.getD p.1 false = p.2) = (e.2.getD p.1 false == p.2) := by cases e.2.getD p.1 false <;> cases p.2 <;> rfl
     rw [hee]
     cases hc2 : (e.2.getD p.1 false == p.2) with
     | true =>
      walk_at "rp"
      refine CN.mk hj ⟨?_, by omega, e3, s3, n3⟩
      rw [hagr, hc2, Bool.and_true]
      exact hz0
     | false =>
      walk_at "rp"
      refine ⟨e3, CN.mk hj ⟨?_, by rw [List.length_append]; simp only [List.length_singleton]; omega, upd_same, same_upd s3 n3 _, n3⟩⟩
      rw [hagr, hc2, Bool.and_false]
      exact ⟨fun z => by simp at z, fun z => by cases z⟩
    ·rintro D zs H3 ⟨hz0, hz, e3, s3, n3⟩
     rw [hul, List.take_length] at hz0
     walk_at "rp"
     refine ⟨_, .inl (SqL.of e3), ?_⟩
     have s03 := s2.trans s3
     have hlen : decide ((zs.length : Int) = 0) = agr e.2 ps := by
      cases hag : agr e.2 ps with
      | true => rw [hz0.mpr hag]; rfl
      | false =>
       refine decide_eq_false fun z => ?_
       have : zs = [] := List.length_eq_zero_iff.mp (by omega)
       rw [hz0.mp this] at hag
       cases hag
     rw [hlen]
     refine ite2 (fun c9 => ?_) (fun c9 => ?_)
     ·walk_at "rp"
      refine ⟨⟨_, _, rfl, s3 _ _ e2⟩, ?_⟩
      walk_at "rp"
      refine ⟨_, s3 _ _ e2, by have := List.length_filter_le (fun q : Addr × List Bool => agr q.2 ps) (R.take i); have := List.length_take_le i R; rw [List.length_map, sizeLine_eq]; omega, _, rfl, ?_, same_upd s03 n1 _⟩
      rw [upd_same, tk_fil hc, if_pos c9, List.map_append]
      rfl
     ·walk_at "rp"
      refine ⟨_, rfl, ?_, s03⟩
      rw [tk_fil hc, if_neg c9, List.append_nil]
      exact s3 _ _ e2
   ·refine .inr ⟨⟨_, (same_tups s2).sqT ha⟩, fun C s₀ H₀ ex => ?_⟩
    refine compF_tup (xs := us) (fun D j zs H3 => (zs = [] ↔ agr e.2 (ps.take j) = true) ∧ zs.length ≤ j ∧ H3 D = some (.lst zs) ∧ Same H2 H3 ∧ H2 D = none) (by rw [sizeLine_eq]; omega) ?_ ?_ ?_ ?_
    ·intro D H3 n3 s3 e3
     exact ⟨by simp [agr], Nat.le_refl _, e3, s3, n3⟩
    ·rintro D j zs H3 ⟨_, hz, e3, s3, _⟩
     exact ⟨(same_tups (s2.trans s3)).sqT ha, e3, hz⟩
    ·rintro D j v zs H3 hv ⟨hz0, hz, e3, s3, n3⟩
     obtain ⟨b, p, hp, rfl, hb⟩ := hP.at j v hv
     have hj : j < us.length := (List.getElem?_eq_some_iff.mp hv).1
     have hb3 := (same_tups (s2.trans s3)).sqT hb
     have hagr := agr_take (k := e.2) hp
     walk_at "rp"
     refine ⟨_, _, .inr hb3, rfl, ?_⟩
     walk_at "rp"
     refine ⟨_, _, .inr ((same_tups (s2.trans s3)).sqT (hR e hm)), at_row (hlt e hm p (List.mem_of_getElem? hp)), ?_⟩
     walk_at "rp"
     refine ⟨_, _, .inr hb3, rfl, ?_⟩
     walk_at "rp"
     have hee : decide (e.2.getD p.1 false = p.2) = (e.2.getD p.1 false == p.2) := by cases e.2.getD p.1 false <;> cases p.2 <;> rfl
     rw [hee]
     cases hc2 : (e.2.getD p.1 false == p.2) with
     | true =>
      walk_at "rp"
      refine CN.mk hj ⟨?_, by omega, e3, s3, n3⟩
      rw [hagr, hc2, Bool.and_true]
      exact hz0
     | false =>
      walk_at "rp"
      refine ⟨e3, CN.mk hj ⟨?_, by rw [List.length_append]; simp only [List.length_singleton]; omega, upd_same, same_upd s3 n3 _, n3⟩⟩
      rw [hagr, hc2, Bool.and_false]
      exact ⟨fun z => by simp at z, fun z => by cases z⟩
    ·rintro D zs H3 ⟨hz0, hz, e3, s3, n3⟩
     rw [hul, List.take_length] at hz0
     walk_at "rp"
     refine ⟨_, .inl (SqL.of e3), ?_⟩
     have s03 := s2.trans s3
     have hlen : decide ((zs.length : Int) = 0) = agr e.2 ps := by
      cases hag : agr e.2 ps with
      | true => rw [hz0.mpr hag]; rfl
      | false =>
       refine decide_eq_false fun z => ?_
       have : zs = [] := List.length_eq_zero_iff.mp (by omega)
       rw [hz0.mp this] at hag
       cases hag
     rw [hlen]
     refine ite2 (fun c9 => ?_) (fun c9 => ?_)
     ·walk_at "rp"
      refine ⟨⟨_, _, rfl, s3 _ _ e2⟩, ?_⟩
      walk_at "rp"
      refine ⟨_, s3 _ _ e2, by have := List.length_filter_le (fun q : Addr × List Bool => agr q.2 ps) (R.take i); have := List.length_take_le i R; rw [List.length_map, sizeLine_eq]; omega, _, rfl, ?_, same_upd s03 n1 _⟩
      rw [upd_same, tk_fil hc, if_pos c9, List.map_append]
      rfl
     ·walk_at "rp"
      refine ⟨_, rfl, ?_, s03⟩
      rw [tk_fil hc, if_neg c9, List.append_nil]
      exact s3 _ _ e2
 ·rintro σ H2 ⟨x3, rfl, e2, s2⟩
  walk_at "rp"
  rw [List.length_map, List.take_length] at e2
  exact q l H2 s2 e2
theorem kit_same (c : String) : PySem.W.kitOne K (.type c) (.type c) = some true := by
 unfold PySem.W.kitOne
 rw [if_pos (beq_self_eq_true _)]
theorem kit_ib : PySem.W.kitOne K (.type "int") (.type "bool") = some false := by rfl
def spIsPart (K : PySem.W.Frag) : Sp := fun vs H Q _ => ∃ (a : Addr) (us : List V) (ps : List (Nat × Bool)), vs = [.ref a] ∧ SqT K H a us ∧ PairsAt K H us ps ∧ (ps.Pairwise fun p q => p.1 < q.1) ∧ ps.length ≤ 10 ∧ ∀ H', Same H H' → Q (.bl true) H'
theorem sc_ispart : FnScope ["_law_part", "_law_pair", "_law_numbers"] ["_law_part"] (defScope (top 51)) := ⟨rfl, rfl, rfl, by decide +kernel, rfl, by decide +kernel, by decide +kernel⟩
theorem rise_int : ∀ {l m : List Int}, l.Pairwise (· < ·) → m.Pairwise (· ≤ ·) → m.Nodup → (∀ x, x ∈ m ↔ x ∈ l) → m = l
 | [], m, _, _, _, h => List.eq_nil_iff_forall_not_mem.mpr fun x hx => by have := (h x).mp hx; cases this
 | a :: l, [], _, _, _, h => by have := (h a).mpr List.mem_cons_self; cases this
 | a :: l, b :: m, h1, h2, h3, h => by
  obtain ⟨h4, h5⟩ := List.pairwise_cons.mp h1
  obtain ⟨h6, h7⟩ := List.pairwise_cons.mp h2
  obtain ⟨h8, h9⟩ := List.nodup_cons.mp h3
  have e : b = a := by
   rcases List.mem_cons.mp ((h b).mp List.mem_cons_self) with e | hb
   ·exact e
   ·rcases List.mem_cons.mp ((h a).mpr List.mem_cons_self) with e | ha
    ·exact e.symm
    ·have := h4 b hb
     have := h6 a ha
     omega
  subst e
  rw [rise_int h5 h7 h9 fun x => ?_]
  constructor
  ·intro hx
   rcases List.mem_cons.mp ((h x).mp (List.mem_cons_of_mem _ hx)) with e | hx2
   ·rw [e] at hx; exact (h8 hx).elim
   ·exact hx2
  ·intro hx
   rcases List.mem_cons.mp ((h x).mpr (List.mem_cons_of_mem _ hx)) with e | hx2
   ·rw [e] at hx; exact (Int.lt_irrefl _ (h4 _ hx)).elim
   ·exact hx2
def intsD (ns : List Int) : PyData := .list (ns.map PyData.int)
theorem hasL_ints {H : Hp} : ∀ ns : List Int, HasL K H (ns.map V.int) (ns.map PyData.int)
 | [] => by simp [HasL]
 | n :: ns => by
  rw [List.map_cons, List.map_cons]
  unfold HasL
  exact ⟨_, _, rfl, by unfold Has; rfl, hasL_ints ns⟩
theorem has_ints {H : Hp} {a : Addr} {ns : List Int} (h : SqL K H a (ns.map V.int)) : Has K H (.ref a) (intsD ns) := by
 unfold intsD Has
 exact ⟨a, _, rfl, h, hasL_ints ns⟩
theorem shaped_ints (ns : List Int) : SeqAt.shaped (intsD ns) = true := by
 have h1 : ∀ ms : List Int, PyData.canLayAll0 (ms.map PyData.int) = true ∧ PyData.depthAll (ms.map PyData.int) ≤ 1 := fun ms => by
  induction ms with
  | nil => simp [PyData.canLayAll0, PyData.depthAll]
  | cons m ms ih =>
   rw [List.map_cons, PyData.canLayAll0, PyData.depthAll, ih.1]
   have : PyData.depth (.int m) ≤ 1 := by simp [PyData.depth]
   exact ⟨by simp [PyData.canLay0], by omega⟩
 unfold SeqAt.shaped intsD
 have := h1 ns
 simp only [PyData.canLay0, PyData.depth, this.1]
 simp
 omega
theorem ok_ispart (D : Def K mg "_law_is_part" (top 51) ["_law_part"]) (mg_isinstance : mg "isinstance" = none) (mg_tuple : mg "tuple" = none) (mg_len : mg "len" = none) (mg_bool : mg "bool" = none) (mg_int : mg "int" = none) (mg_sorted : mg "sorted" = none) (mg_set : mg "set" = none) : Callee P w K mg base 1 "_law_is_part" ["_law_part"] (spIsPart K) := by
 refine D.callee sc_ispart (fun vs H Q E h => ?_) fun f cdv A outer s H vs Q E hr h => ?_
 ·obtain ⟨a, us, ps, rfl, _⟩ := h
  rfl
 have nd := sc_ispart.nd
 obtain ⟨a, us, ps, rfl, ha, hP, hup, h10, q⟩ := h
 have hul := hP.len
 refine ⟨[some (.ref a), none, none], _, rfl, (pss_cons (ps_if (pt_not (m_val (pe_callB m_isI rfl mg_isinstance bt_isinstance (pa_cons (m_var 0) (pa_cons (pe_bltn (v := .ty "tuple") rfl mg_tuple bt_tuple rfl) pa_nil))))) (pss_one (ps_ret pe_bl)) pss_nil)
  (pss_cons (m_for PassesOwn.never rfl (pi_seq (m_var 0)) (m_tg 1 nd) (pss_cons (ps_if (PW.pt (pw_or (pt_not (m_val (pe_callB m_isI rfl mg_isinstance bt_isinstance (pa_cons (m_var 1) (pa_cons (pe_bltn (v := .ty "tuple") rfl mg_tuple bt_tuple rfl) pa_nil))))) (pw_or (m_test (m_ne hr.units) (pe_callB m_len rfl mg_len bt_len (pa_cons (m_var 1) pa_nil)) pe_int (nomark _)) (pw_or1 (pt_not (m_val (pe_callB m_isI rfl mg_isinstance bt_isinstance (pa_cons (m_ix (m_var 1) pe_int (fun _ _ => rfl)) (pa_cons (pe_bltn (v := .ty "bool") rfl mg_bool bt_bool rfl) pa_nil))))))))) (pss_one (ps_ret pe_bl)) pss_nil)
  (pss_one (ps_if (PW.pt (pw_or (pt_not (m_val (pe_callB m_isI rfl mg_isinstance bt_isinstance (pa_cons (m_ix (m_var 1) pe_int (fun _ _ => rfl)) (pa_cons (pe_bltn (v := .ty "int") rfl mg_int bt_int rfl) pa_nil))))) (pw_or1 (m_val (pe_callB m_isI rfl mg_isinstance bt_isinstance (pa_cons (m_ix (m_var 1) pe_int (fun _ _ => rfl)) (pa_cons (pe_bltn (v := .ty "bool") rfl mg_bool bt_bool rfl) pa_nil))))))) (pss_one (ps_ret pe_bl)) pss_nil))))
  (pss_cons (m_setCompN 2 nd (ixs := []) (compOk_mk (own := ["_law_pair"]) (N := []) rfl rfl rfl rfl rfl rfl rfl (by decide +kernel) rfl rfl rfl) rfl (pi_seq (m_var 0)) (fun _ _ _ _ => pif_nil) (fun _ _ _ _ => (m_ix (m_var 0) pe_int (fun _ _ => rfl))) rfl)
  (pss_one (ps_ret (pe_cmpR (m_eq hr.units) (m_var 2) (m_sortedSetI rfl rfl mg_sorted rfl mg_set (m_var 2)) (nomark _))))))), ?_⟩
 walk_at "rp"
 refine ⟨_, true, .tup ha, kit_same _, ?_⟩
 walk_at "rp"
 refine .inr ⟨⟨_, ha⟩, loop_tup (xs := us) (fun i σ H2 => ∃ x1, σ = [some (.ref a), x1, none] ∧ Same H H2) ⟨none, rfl, Same.refl _⟩ ?_ ?_ ?_⟩
 ·rintro i σ H2 _ ⟨x1, rfl, s2⟩
  exact (same_tups s2).sqT ha
 ·rintro i v σ H2 hv ⟨x1, rfl, s2⟩
  obtain ⟨b, p, hp, rfl, hb⟩ := hP.at i v hv
  have hb2 := (same_tups s2).sqT hb
  walk_at "rp"
  refine ⟨_, true, .tup hb2, kit_same _, ?_⟩
  walk_at "rp"
  refine ⟨_, .inr hb2, ?_⟩
  rw [show ((([V.int (p.1 : Int), V.bl p.2] : List V).length : Nat) : Int) = 2 from rfl]
  walk_at "rp"
  refine ⟨_, _, .inr hb2, rfl, ?_⟩
  walk_at "rp"
  refine ⟨_, true, .of (.bl _), kit_same _, ?_⟩
  walk_at "rp"
  refine ⟨_, _, .inr hb2, rfl, ?_⟩
  walk_at "rp"
  refine ⟨_, true, .of (.int _), kit_same _, ?_⟩
  walk_at "rp"
  refine ⟨_, _, .inr hb2, rfl, ?_⟩
  walk_at "rp"
  refine ⟨_, false, .of (.int _), kit_ib, ?_⟩
  walk_at "rp"
  exact ⟨_, rfl, s2⟩
 ·rintro σ H2 ⟨x1, rfl, s2⟩
  walk_at "rp"
  refine .inr ⟨⟨_, (same_tups s2).sqT ha⟩, fun C s₀ H₀ ex => ?_⟩
  refine comp_tup (xs := us) (fun D j ys H3 => ys = ((ps.take j).map fun p => V.int ((p.1 : Nat) : Int)) ∧ j ≤ ps.length ∧ H3 D = some (.lst ys) ∧ Same H2 H3 ∧ H2 D = none) (by rw [sizeLine_eq]; omega) ?_ ?_ ?_ ?_
  ·intro D H3 n3 s3 e3
   exact ⟨rfl, Nat.zero_le _, e3, s3, n3⟩
  ·rintro D j ys H3 ⟨rfl, hjl, e3, s3, _⟩
   refine ⟨(same_tups (s2.trans s3)).sqT ha, e3, ?_⟩
   rw [List.length_map, List.length_take]
   omega
  ·rintro D j v ys H3 hv ⟨rfl, _, e3, s3, n3⟩
   obtain ⟨b, p, hp, rfl, hb⟩ := hP.at j v hv
   have hj : j < us.length := (List.getElem?_eq_some_iff.mp hv).1
   walk_at "rp"
   refine ⟨_, _, .inr ((same_tups (s2.trans s3)).sqT hb), rfl, e3, CN.mk hj ⟨?_, by omega, upd_same, same_upd s3 n3 _, n3⟩⟩
   rw [List.take_add_one, hp, List.map_append]
   rfl
  ·rintro D ys H3 ⟨rfl, _, e3, s3, n3⟩
   rw [hul, List.take_length] at e3
   have e3' : H3 D = some (.lst ((ps.map fun p => ((p.1 : Nat) : Int)).map V.int)) := by rw [List.map_map]; exact e3
   have hr2 : (ps.map fun p => ((p.1 : Nat) : Int)).Pairwise (· < ·) := List.pairwise_map.mpr (hup.imp fun h => Int.ofNat_lt.mpr h)
   walk_at "rp"
   refine ⟨ps.map fun p => ((p.1 : Nat) : Int), .inl (SqL.of e3'), by rw [List.length_map]; omega, fun ns' h1 h2 h3 so H4 n4 s4 e4 => ?_⟩
   have eN := rise_int hr2 h3 h1 h2
   rw [eN] at e4
   walk_at "rp"
   refine ⟨_, _, has_ints (SqL.of (s4 _ _ e3')), has_ints (SqL.of e4), shaped_ints _, shaped_ints _, ?_⟩
   rw [eqv_self (shaped_ints _)]
   exact q H4 (s2.trans (s3.trans s4))
def partD (ps : List (Nat × Bool)) : PyData := .tuple (ps.map fun p => pairD ((p.1 : Int), p.2))
theorem hasL_part {H : Hp} : ∀ {us : List V} {ps : List (Nat × Bool)}, PairsAt K H us ps → HasL K H us (ps.map fun p => pairD ((p.1 : Int), p.2))
 | [], [], _ => by simp [HasL]
 | v :: us, p :: ps, ⟨⟨b, e, h⟩, r⟩ => by
  rw [List.map_cons]
  unfold HasL
  exact ⟨v, us, rfl, by rw [e]; exact has_pair h, hasL_part r⟩
 | [], _ :: _, h => h.elim
 | _ :: _, [], h => h.elim
theorem has_part {H : Hp} {a : Addr} {us : List V} {ps : List (Nat × Bool)} (h : SqT K H a us) (hp : PairsAt K H us ps) : Has K H (.ref a) (partD ps) := by
 unfold partD Has
 exact ⟨a, us, rfl, h, hasL_part hp⟩
theorem shaped_part (ps : List (Nat × Bool)) : SeqAt.shaped (partD ps) = true := by
 have h1 : ∀ qs : List (Nat × Bool), PyData.canLayAll0 (qs.map fun p => pairD ((p.1 : Int), p.2)) = true := fun qs => by
  induction qs with
  | nil => simp [PyData.canLayAll0]
  | cons q qs ih =>
   rw [List.map_cons, PyData.canLayAll0, ih]
   simp [My.pairD, PyData.canLay0, PyData.canLayAll0]
 have h2 : ∀ qs : List (Nat × Bool), PyData.depthAll (qs.map fun p => pairD ((p.1 : Int), p.2)) ≤ 1 + 1 := fun qs => by
  induction qs with
  | nil => simp [PyData.depthAll]
  | cons q qs ih =>
   rw [List.map_cons, PyData.depthAll]
   have : PyData.depth (pairD ((q.1 : Int), q.2)) ≤ 2 := by simp [My.pairD, PyData.depth, PyData.depthAll]
   omega
 unfold SeqAt.shaped partD
 have := h2 ps
 simp only [PyData.canLay0, PyData.depth, h1 ps]
 simp
 omega
theorem has_str {H : Hp} (x : Str) : Has K H (.str x) (.str x) := by unfold Has; rfl
theorem eqv_ps (ps : List (Nat × Bool)) (x : Str) : PyData.eqv (partD ps) (.str x) = false := by unfold partD; rw [PyData.eqv]
def spPartOf (K : PySem.W.Frag) : Sp := fun vs H Q _ => ∃ (b c g : Addr) (us : List V) (ts : List Say) (xs : List Str) (J : List (Addr × List Bool)) (gs : List Nat), vs = [.ref b, .ref c, .ref g] ∧ SqT K H b us ∧ SaysAt K H us ts ∧ Lst ts xs ∧ JudgesAt K H c J ts.length ∧ SqT K H g (gs.map fun n => V.int ((n : Nat) : Int)) ∧ (∀ n ∈ gs, n < ts.length) ∧ gs.length ≤ 10 ∧ ∀ (ss : List Str) (ks : List (List Bool)), NamesOf ts ss → FitRows ts ss ks →
 ((ks.any fun k => agr k (gps (mostAt (J.map (·.2))) gs)) = true → ∀ H', Same H H' → Q .non H') ∧
 ((ks.any fun k => agr k (gps (mostAt (J.map (·.2))) gs)) = false → ∀ (t : Addr) (H' : Hp) (us' : List V), Same H H' → SqT K H' t us' → PairsAt K H' us' (needF ks [] (gps (mostAt (J.map (·.2))) gs) (gps (mostAt (J.map (·.2))) gs)) → Q (.ref t) H')
theorem sc_partof : FnScope ["_law_sayings_here", "_law_judges", "_law_grounds", "_law_found", "error", "_law_others"] ["_law_sayings_here", "_law_judges", "_law_grounds"] (defScope (top 52)) := ⟨rfl, rfl, rfl, by decide +kernel, rfl, by decide +kernel, by decide +kernel⟩
theorem ok_partof {Cb Cj C1 C2 C3 C4 : Addr} (D : Def K mg "_law_part_of" (top 52) ["_law_sayings_here", "_law_judges", "_law_grounds"]) (C_grounds_first : CalleeX P w K mg base 45 "grounds_first" ["sayings", "judges", "grounds"] (spGFirst K Cb)) (mg_Barred : mg "Barred" = some (.ref Cb)) (mg_JudgeError : mg "JudgeError" = some (.ref Cj)) (mg_BadRow : mg "BadRow" = some (.ref C1)) (mg_Even : mg "Even" = some (.ref C2)) (mg_NoText : mg "NoText" = some (.ref C3)) (mg_OutOfBounds : mg "OutOfBounds" = some (.ref C4)) (mg_ValueError : mg "ValueError" = none) (mg_isinstance : mg "isinstance" = none) (xb : XCls K Cb) (x_JudgeError : XCls K Cj) (na : NoAttr K Cb "part") (km : PySem.W.mroIn K Cb (.ref Cj) = some true)
  (k0 : PySem.W.kitOne K (.ref Cb) (.ref Cb) = some true) (k1 : PySem.W.kitOne K (.ref Cb) (.ref C1) = some false) (k2 : PySem.W.kitOne K (.ref Cb) (.ref C2) = some false) (k3 : PySem.W.kitOne K (.ref Cb) (.ref C3) = some false) (k4 : PySem.W.kitOne K (.ref Cb) (.ref C4) = some false) (k5 : PySem.W.kitOne K (.ref Cb) (.type "ValueError") = some true) : Callee P w K mg base 46 "_law_part_of" ["_law_sayings_here", "_law_judges", "_law_grounds"] (spPartOf K) := by
 refine D.callee sc_partof (fun vs H Q E h => ?_) fun f cdv A outer s H vs Q E hr h => ?_
 ·obtain ⟨b, c, g, us, ts, xs, J, gs, rfl, _⟩ := h
  rfl
 have nd := sc_partof.nd
 obtain ⟨b, c, g, us, ts, xs, J, gs, rfl, hb, hT, hL, hJ, hg, hgm, hgl, q⟩ := h
 refine ⟨[some (.ref b), some (.ref c), some (.ref g), none, none, none], _, rfl, (pss_cons (m_set 3 nd pe_non)
  (pss_cons (ps_tryX (i := 4) C_grounds_first hr (by omega) (pa_cons (m_var 0) (pa_cons (m_var 1) (pa_cons (m_var 2) pa_nil))) mg_JudgeError x_JudgeError (fun _ => (pss_cons (ps_if (m_val (pe_callB m_isX rfl mg_isinstance bt_isinstance (pa_cons (m_var 4) (pa_cons (m_glob mg_Barred) pa_nil)))) (pss_one (m_set 3 nd (pe_fldX (m_var 4) rfl))) pss_nil)
  (pss_cons (m_set 5 nd (m_lst (pa_cons (pe_callB m_isX rfl mg_isinstance bt_isinstance (pa_cons (m_var 4) (pa_cons (m_glob mg_BadRow) pa_nil))) (pa_cons (pe_callB m_isX rfl mg_isinstance bt_isinstance (pa_cons (m_var 4) (pa_cons (m_glob mg_Even) pa_nil))) (pa_cons (pe_callB m_isX rfl mg_isinstance bt_isinstance (pa_cons (m_var 4) (pa_cons (m_glob mg_NoText) pa_nil))) pa_nil)))))
  (pss_one (ps_if (PW.pt (pw_or (m_test m_in pe_bl (m_var 5) (by with_unfolding_all rfl)) (pw_or (m_val (pe_callB m_isX rfl mg_isinstance bt_isinstance (pa_cons (m_var 4) (pa_cons (m_glob mg_OutOfBounds) pa_nil)))) (pw_or1 (pt_not (m_val (pe_callB m_isX rfl mg_isinstance bt_isinstance (pa_cons (m_var 4) (pa_cons (pe_bltn (v := .ty "ValueError") rfl mg_ValueError bt_ValueError rfl) pa_nil))))))))) (pss_one (m_set 3 nd pe_str)) pss_nil))))) rfl nd)
  (pss_one (ps_ret (m_var 3))))), ?_⟩
 walk_at "rp"
 refine ⟨b, c, g, us, ts, xs, J, gs, rfl, hb, hT, hL, hJ, hg, hgm, hgl, fun ss ks hN hF => ⟨fun hy p e l H1 rs s1 _ _ _ _ _ => ?_, fun hn a dx t H1 us1 s1 ea ed ht hp => ⟨a, Cb, rfl, ea, xb, km, ?_⟩⟩⟩
 ·walk_at "rp"
  exact (q ss ks hN hF).1 hy H1 s1
 ·walk_at "rp"
  refine ⟨a, Cb, dx, false, _, _, _, true, rfl, ea, ed, xb, rfl, k0, ?_⟩
  walk_at "rp"
  refine ⟨a, Cb, dx, false, _, _, rfl, ea, ed, xb, na, List.lookup_cons_self, ?_⟩
  walk_at "rp"
  refine ⟨a, Cb, dx, false, _, _, _, false, rfl, ea, ed, xb, rfl, k1, a, Cb, dx, false, _, _, _, false, rfl, ea, ed, xb, rfl, k2, a, Cb, dx, false, _, _, _, false, rfl, ea, ed, xb, rfl, k3, ?_⟩
  walk_at "rp"
  refine ⟨by rw [sizeLine_eq]; simp, fun l H2 n2 s2 e2 => ?_⟩
  walk_at "rp"
  refine ⟨_, .inl (SqL.of e2), rfl, rfl, ?_⟩
  rw [show inV (V.bl true) [V.bl false, V.bl false, V.bl false] = false from rfl]
  walk_at "rp"
  refine ⟨a, Cb, dx, false, _, _, _, false, rfl, s2 _ _ ea, s2 _ _ ed, xb, rfl, k4, ?_⟩
  walk_at "rp"
  refine ⟨a, Cb, dx, false, _, _, _, true, rfl, s2 _ _ ea, s2 _ _ ed, xb, rfl, k5, ?_⟩
  walk_at "rp"
  exact (q ss ks hN hF).2 hn t H2 us1 (s1.trans s2) ((same_tups s2).sqT ht) (hp.mono (same_tups s2))
theorem fil_any (R : List (Addr × List Bool)) (ps : List (Nat × Bool)) : decide ((0 : Int) < ((R.filter fun q => agr q.2 ps).length : Int)) = ((R.map (·.2)).any fun k => agr k ps) := by
 rw [← any_map2 (f := fun k => agr k ps)]
 cases h : (R.any fun q => agr q.2 ps) with
 | true =>
  obtain ⟨x, hx, ha⟩ := List.any_eq_true.mp h
  have := List.length_pos_of_mem ((List.mem_filter (p := fun q : Addr × List Bool => agr q.2 ps)).mpr ⟨hx, ha⟩)
  exact decide_eq_true (by omega)
 | false =>
  have e : (R.filter fun q => agr q.2 ps) = [] := List.filter_eq_nil_iff.mpr fun x hx ha => by
   rw [List.any_eq_true.mpr ⟨x, hx, ha⟩] at h
   cases h
  rw [e]
  rfl
theorem fil_zero (R : List (Addr × List Bool)) (ps : List (Nat × Bool)) : decide (((R.filter fun q => agr q.2 ps).length : Int) = 0) = !((R.map (·.2)).any fun k => agr k ps) := by
 rw [← fil_any, ← decide_not, decide_eq_decide]
 omega
def spSmallest (K : PySem.W.Frag) : Sp := fun vs H Q _ => ∃ (r h a : Addr) (R : List (Addr × List Bool)) (hs us : List V) (qs ps : List (Nat × Bool)) (m : Nat), vs = [.ref r, .ref a, .ref h] ∧ H r = some (.lst (R.map fun q => V.ref q.1)) ∧ (∀ q ∈ R, SqT K H q.1 (q.2.map V.bl)) ∧ (∀ q ∈ R, q.2.length = m) ∧ R.length ≤ 32 ∧ SqL K H h hs ∧ PairsAt K H hs qs ∧ SqT K H a us ∧ PairsAt K H us ps ∧ ps.length ≤ 10 ∧ (∀ p ∈ ps, p.1 < m) ∧ (ps.Pairwise fun p q => p.1 < q.1) ∧ (∀ p ∈ ps, p ∈ qs) ∧ ((R.map (·.2)).any fun k => agr k ps) = false ∧ (∀ p ∈ ps, ((R.map (·.2)).any fun k => agr k (lessP p ps)) = true) ∧ ∀ H', Same H H' → Q (.bl true) H'
theorem lessP_tk {ps : List (Nat × Bool)} {j : Nat} {p x : Nat × Bool} (h : ps[j]? = some x) : lessP p (ps.take (j + 1)) = lessP p (ps.take j) ++ (if decide (x ≠ p) = true then [x] else []) := by
 unfold lessP
 rw [List.take_add_one, h, List.filter_append, show (some x).toList = [x] from rfl, List.filter_cons, List.filter_nil]
theorem pair_dec (x p : Nat × Bool) : decide ((((x.1 : Nat) : Int), x.2) = (((p.1 : Nat) : Int), p.2)) = !decide (x ≠ p) := by
 rw [← decide_not, decide_eq_decide]
 constructor
 ·intro h z
  exact z (pI_inj h)
 ·intro h
  have : x = p := Classical.byContradiction fun z => h z
  rw [this]
theorem sc_smallest : FnScope ["_law_rows_here", "_law_part", "_law_answers", "_law_pair"] ["_law_rows_here", "_law_part", "_law_answers"] (defScope (top 53)) := ⟨rfl, rfl, rfl, by decide +kernel, rfl, by decide +kernel, by decide +kernel⟩
theorem ok_smallest (D : Def K mg "_law_smallest" (top 53) ["_law_rows_here", "_law_part", "_law_answers"]) (C_law_is_part : Callee P w K mg base 1 "_law_is_part" ["_law_part"] (spIsPart K)) (C_law_agreeing : Callee P w K mg base 1 "_law_agreeing" ["_law_rows_here", "_law_part"] (spAgreeing K)) (mg_len : mg "len" = none) : Callee P w K mg base 2 "_law_smallest" ["_law_rows_here", "_law_part", "_law_answers"] (spSmallest K) := by
 refine D.callee sc_smallest (fun vs H Q E h => ?_) fun f cdv A outer s H vs Q E hr h => ?_
 ·obtain ⟨r, h, a, R, hs, us, qs, ps, m, rfl, _⟩ := h
  rfl
 have nd := sc_smallest.nd
 obtain ⟨r, h, a, R, hs, us, qs, ps, m, rfl, hr0, hR, hRm, h32, hh, hQ, ha, hP, h10, hlt, hup, hin, hno, hyes, q⟩ := h
 have hul := hP.len
 have hlt2 : ∀ q ∈ R, ∀ p ∈ ps, p.1 < q.2.length := fun q hq p hp => by rw [hRm q hq]; exact hlt p hp
 refine ⟨[some (.ref r), some (.ref a), some (.ref h), none], _, rfl, (pss_cons (ps_if (PW.pt (pw_or (pt_not (m_val (m_call C_law_is_part hr (by omega) (pa_cons (m_var 1) pa_nil)))) (pw_or1 (m_test m_gt (pe_callB m_len rfl mg_len bt_len (pa_cons (m_compN (ixs := [2]) (compOk_mk (own := ["_law_pair"]) (N := ["_law_answers"]) rfl rfl rfl rfl rfl rfl rfl (by decide +kernel) rfl rfl rfl) rfl (pi_seq (m_var 1)) (fun _ _ _ _ => (pif_one (m_test (m_notinPL hr.units) (m_var 0) (m_var 1) (by with_unfolding_all rfl)))) (fun _ _ _ _ => (m_var 0)) rfl) pa_nil)) pe_int (nomark _))))) (pss_one (ps_ret pe_bl)) pss_nil)
  (pss_cons (ps_if (m_test m_gt (pe_callB m_len rfl mg_len bt_len (pa_cons (m_call C_law_agreeing hr (by omega) (pa_cons (m_var 0) (pa_cons (m_var 1) pa_nil))) pa_nil)) pe_int (nomark _)) (pss_one (ps_ret pe_bl)) pss_nil)
  (pss_cons (m_for PassesOwn.never rfl (pi_seq (m_var 1)) (m_tg 3 nd) (pss_one (ps_if (m_test (m_eq hr.units) (pe_callB m_len rfl mg_len bt_len (pa_cons (m_call C_law_agreeing hr (by omega) (pa_cons (m_var 0) (pa_cons (m_compN (ixs := [3]) (compOk_mk (own := ["_law_other"]) (N := ["_law_pair"]) rfl rfl rfl rfl rfl rfl rfl (by decide +kernel) rfl rfl rfl) rfl (pi_seq (m_var 1)) (fun _ _ _ _ => (pif_one (m_test (m_ne hr.units) (m_var 0) (m_var 1) (nomark _)))) (fun _ _ _ _ => (m_var 0)) rfl) pa_nil))) pa_nil)) pe_int (nomark _)) (pss_one (ps_ret pe_bl)) pss_nil)))
  (pss_one (ps_ret pe_bl))))), ?_⟩
 walk_at "rp"
 refine ⟨a, us, ps, rfl, ha, hP, hup, h10, fun H1 s1 => ?_⟩
 walk_at "rp"
 refine .inr ⟨⟨_, (same_tups s1).sqT ha⟩, fun C s₀ H₀ ex => ?_⟩
 refine compF_tup (xs := us) (fun D j ys H2 => ys = [] ∧ H2 D = some (.lst ys) ∧ Same H1 H2 ∧ H1 D = none) (by rw [sizeLine_eq]; omega) ?_ ?_ ?_ ?_
 ·intro D H2 n2 s2 e2
  exact ⟨rfl, e2, s2, n2⟩
 ·rintro D j ys H2 ⟨rfl, e2, s2, _⟩
  exact ⟨(same_tups (s1.trans s2)).sqT ha, e2, Nat.zero_le _⟩
 ·rintro D j v ys H2 hv ⟨rfl, e2, s2, n2⟩
  obtain ⟨b, p, hp, rfl, hb⟩ := hP.at j v hv
  have hj : j < us.length := (List.getElem?_eq_some_iff.mp hv).1
  have s02 := s1.trans s2
  walk_at "rp"
  refine ⟨p, hs, qs, (same_tups s02).sqT hb, s02.seq hh, hQ.mono (same_tups s02), ?_⟩
  have hany : (qs.any fun r => r == p) = true := List.any_eq_true.mpr ⟨p, hin p (List.mem_of_getElem? hp), beq_self_eq_true _⟩
  rw [hany]
  walk_at "rp"
  exact CN.mk hj ⟨trivial, e2, s2, n2⟩
 ·rintro D ys H2 ⟨rfl, e2, s2, n2⟩
  have s02 := s1.trans s2
  walk_at "rp"
  refine ⟨_, .inl (SqL.of e2), ?_⟩
  walk_at "rp"
  refine ⟨r, a, R, us, ps, rfl, s02 _ _ hr0, fun q hq => (same_tups s02).sqT (hR q hq), .inr ((same_tups s02).sqT ha), hP.mono (same_tups s02), by omega, hlt2, h32, fun g H3 s3 e3 => ?_⟩
  walk_at "rp"
  refine ⟨_, .inl (SqL.of e3), ?_⟩
  rw [List.length_map, fil_any, hno]
  walk_at "rp"
  have s03 := s02.trans s3
  refine .inr ⟨⟨_, (same_tups s03).sqT ha⟩, loop_tup (xs := us) (fun i σ H4 => ∃ x3, σ = [some (.ref r), some (.ref a), some (.ref h), x3] ∧ Same H3 H4) ⟨none, rfl, Same.refl _⟩ ?_ ?_ ?_⟩
  ·rintro i σ H4 _ ⟨x3, rfl, s4⟩
   exact (same_tups (s03.trans s4)).sqT ha
  ·rintro i v σ H4 hv ⟨x3, rfl, s4⟩
   obtain ⟨b, p, hp, rfl, hb⟩ := hP.at i v hv
   have hpm := List.mem_of_getElem? hp
   have s04 := s03.trans s4
   walk_at "rp"
   refine .inr ⟨⟨_, (same_tups s04).sqT ha⟩, fun C s₀ H₀ ex => ?_⟩
   refine compF_tup (xs := us) (fun D j ys H5 => PairsAt K H5 ys (lessP p (ps.take j)) ∧ H5 D = some (.lst ys) ∧ Same H4 H5 ∧ H4 D = none) (by rw [sizeLine_eq]; omega) ?_ ?_ ?_ ?_
   ·intro D H5 n5 s5 e5
    exact ⟨trivial, e5, s5, n5⟩
   ·rintro D j ys H5 ⟨hys, e5, s5, _⟩
    refine ⟨(same_tups (s04.trans s5)).sqT ha, e5, ?_⟩
    rw [hys.len]
    exact Nat.le_trans (lessP_len _ _) (List.length_take_le _ _)
   ·rintro D j v ys H5 hv ⟨hys, e5, s5, n5⟩
    obtain ⟨c, x, hx, rfl, hc⟩ := hP.at j v hv
    have hj : j < us.length := (List.getElem?_eq_some_iff.mp hv).1
    have s05 := s04.trans s5
    walk_at "rp"
    refine ⟨_, _, has_pair ((same_tups s05).sqT hc), has_pair ((same_tups s05).sqT hb), shaped_pair _, shaped_pair _, ?_⟩
    rw [eqv_pair, pair_dec, Bool.not_not]
    walk_at "rp"
    refine ite2 (fun c9 => ⟨e5, CN.mk hj ⟨?_, upd_same, same_upd s5 n5 _, n5⟩⟩) fun c9 => CN.mk hj ⟨?_, e5, s5, n5⟩
    ·rw [lessP_tk hx, if_pos c9]
     have t5 : Tups H5 (upd H5 D (.lst (ys ++ [.ref c]))) := tups_lst e5
     exact PairsAt.app (hys.mono t5) ⟨⟨c, rfl, t5.sqT ((same_tups s05).sqT hc)⟩, trivial⟩
    ·rw [lessP_tk hx, if_neg c9, List.append_nil]
     exact hys
   ·rintro D ys H5 ⟨hys, e5, s5, n5⟩
    rw [hul, List.take_length] at hys
    have s05 := s04.trans s5
    have hll := lessP_len p ps
    walk_at "rp"
    refine ⟨r, D, R, ys, lessP p ps, rfl, s05 _ _ hr0, fun q hq => (same_tups s05).sqT (hR q hq), .inl (SqL.of e5), hys, by omega, fun q hq x hx => hlt2 q hq x (List.mem_filter.mp hx).1, h32, fun g H6 s6 e6 => ?_⟩
    walk_at "rp"
    refine ⟨_, .inl (SqL.of e6), ?_⟩
    rw [List.length_map, fil_zero, hyes p hpm]
    walk_at "rp"
    exact ⟨_, rfl, s4.trans (s5.trans s6)⟩
  ·rintro σ H4 ⟨x3, rfl, s4⟩
   walk_at "rp"
   exact q H4 (s03.trans s4)
theorem agr_sub {k : List Bool} {ps qs : List (Nat × Bool)} (h : ∀ q ∈ qs, q ∈ ps) (ha : agr k ps = true) : agr k qs = true := by
 unfold agr at ha ⊢
 rw [List.all_eq_true] at ha ⊢
 exact fun q hq => ha q (h q hq)
theorem need_sub (R : List (List Bool)) (os : List (Nat × Bool)) : ∀ (l nd : List (Nat × Bool)), ∀ p ∈ needF R os l nd, p ∈ nd
 | [], nd, p, hp => hp
 | x :: l, nd, p, hp => by
  unfold needF at hp
  rw [List.foldl_cons] at hp
  have := need_sub R os l _ p hp
  split at this
  ·exact this
  ·exact (List.mem_filter.mp this).1
theorem need_no {R : List (List Bool)} {os : List (Nat × Bool)} : ∀ (l nd : List (Nat × Bool)), (R.any fun k => agr k (nd ++ os)) = false → (R.any fun k => agr k (needF R os l nd ++ os)) = false
 | [], nd, h => h
 | x :: l, nd, h => by
  unfold needF
  rw [List.foldl_cons]
  refine need_no l _ ?_
  split
  ·exact h
  ·rename_i h1
   cases h2 : (R.any fun k => agr k (lessP x nd ++ os)) with
   | false => rfl
   | true => exact (h1 h2).elim
theorem need_each {R : List (List Bool)} {os : List (Nat × Bool)} : ∀ (l nd : List (Nat × Bool)), ∀ p ∈ needF R os l nd, p ∈ l → (R.any fun k => agr k (lessP p (needF R os l nd) ++ os)) = true
 | [], _, _, _, hl => by cases hl
 | x :: l, nd, p, hp, hl => by
  have e : needF R os (x :: l) nd = needF R os l (if (R.any fun k => agr k (lessP x nd ++ os)) = true then nd else lessP x nd) := by
   unfold needF
   rw [List.foldl_cons]
  rw [e] at hp ⊢
  by_cases hpl : p ∈ l
  ·exact need_each l _ p hp hpl
  ·have epx : p = x := by
    rcases List.mem_cons.mp hl with e | e
    ·exact e
    ·exact (hpl e).elim
   subst epx
   have hin := need_sub R os l _ p hp
   by_cases h1 : (R.any fun k => agr k (lessP p nd ++ os)) = true
   ·rw [if_pos h1] at hp hin ⊢
    obtain ⟨k, hk, ha⟩ := List.any_eq_true.mp h1
    refine List.any_eq_true.mpr ⟨k, hk, agr_sub (fun q hq => ?_) ha⟩
    rcases List.mem_append.mp hq with hq | hq
    ·obtain ⟨h2, h3⟩ := List.mem_filter.mp hq
     exact List.mem_append_left _ (List.mem_filter.mpr ⟨need_sub R os l nd q h2, h3⟩)
    ·exact List.mem_append_right _ hq
   ·rw [if_neg h1] at hin
    have := (List.mem_filter.mp hin).2
    simp at this
theorem need_rise {R : List (List Bool)} {os : List (Nat × Bool)} : ∀ (l nd : List (Nat × Bool)), (nd.Pairwise fun p q => p.1 < q.1) → (needF R os l nd).Pairwise fun p q => p.1 < q.1
 | [], nd, h => h
 | x :: l, nd, h => by
  unfold needF
  rw [List.foldl_cons]
  refine need_rise l _ ?_
  split
  ·exact h
  ·exact h.sublist List.filter_sublist
theorem need_len (R : List (List Bool)) (os : List (Nat × Bool)) : ∀ (l nd : List (Nat × Bool)), (needF R os l nd).length ≤ nd.length
 | [], nd => Nat.le_refl _
 | x :: l, nd => by
  unfold needF
  rw [List.foldl_cons]
  refine Nat.le_trans (need_len R os l _) ?_
  split
  ·exact Nat.le_refl _
  ·exact lessP_len _ _
def gsOf (m : Nat) (o : Int) : List Nat := (List.range m).filter fun n => decide (¬ ((n : Nat) : Int) = o)
theorem gs_lt {m : Nat} {o : Int} : ∀ n ∈ gsOf m o, n < m := fun n hn => List.mem_range.mp (List.mem_filter.mp hn).1
theorem gs_len (m : Nat) (o : Int) : (gsOf m o).length ≤ m := Nat.le_trans (List.length_filter_le _ _) (by rw [List.length_range]; exact Nat.le_refl _)
theorem gs_rise (said : Nat → Bool) (m : Nat) (o : Int) : (gps said (gsOf m o)).Pairwise fun p q => p.1 < q.1 := by
 unfold gps
 rw [List.pairwise_map]
 exact List.pairwise_lt_range.sublist List.filter_sublist
def spLaw (K : PySem.W.Frag) : Sp := fun vs H Q _ => ∃ (a : Addr) (ns : List Int), vs = [.ref a] ∧ SqL K H a (ns.map V.int) ∧ ns.length ≤ 63 ∧ ∀ H', Q (.bl true) H'
theorem sc_law : FnScope ["_law_script", "_law_sayings_here", "_law_rows_here", "_law_judges", "_law_said", "_law_numbers", "_law_out", "_law_grounds", "_law_answers", "_law_part"] ["_law_script"] (defScope (top 54)) := ⟨rfl, rfl, rfl, by decide +kernel, rfl, by decide +kernel, by decide +kernel⟩
theorem ok_law {f : Addr} {fd : FuncData} {Cb : Addr} (D : Fun K "law" "law" (top 54) f fd) (C_law_sayings : Callee P w K mg base 9 "_law_sayings" ["_law_script"] (spJSayings K)) (C_law_rows : Callee P w K mg base 41 "_law_rows" ["_law_sayings_here"] (spFitRows K)) (C_law_odd : Callee P w K mg base 3 "_law_odd" ["_law_script", "_law_rows_here"] (spOdd K)) (C_law_most : Callee P w K mg base 1 "_law_most" ["_law_judges"] (spMost K)) (C_law_part_of : Callee P w K mg base 46 "_law_part_of" ["_law_sayings_here", "_law_judges", "_law_grounds"] (spPartOf K)) (C_law_agreeing : Callee P w K mg base 1 "_law_agreeing" ["_law_rows_here", "_law_part"] (spAgreeing K)) (C_law_smallest : Callee P w K mg base 2 "_law_smallest" ["_law_rows_here", "_law_part", "_law_answers"] (spSmallest K)) (C_Barred : CalleeI P w K mg base 1 Cb ["self", "part"] (spBarredI K Cb)) (mg_Barred : mg "Barred" = some (.ref Cb)) (xb : XCls K Cb) (na : NoAttr K Cb "part")
  (mg_len : mg "len" = none) (mg_range : mg "range" = none) (mg_tuple : mg "tuple" = none) (mg_list : mg "list" = none) : FnOk P w K mg base CX0 47 f fd ["_law_script"] (spLaw K) := by
 refine fun_ok D sc_law (fun vs H Q E h => ?_) fun f cdv A outer s H vs Q E hr h => ?_
 ·obtain ⟨a, ns, rfl, _⟩ := h
  rfl
 have nd := sc_law.nd
 obtain ⟨a, ns, rfl, hS, h63', q⟩ := h
 have h63 : ns.length ≤ 5000 := Nat.le_trans h63' (by decide)
 refine ⟨[some (.ref a), none, none, none, none, none, none, none, none, none], _, rfl, (pss_cons (m_set 1 nd (m_call C_law_sayings hr (by omega) (pa_cons (m_var 0) pa_nil)))
  (pss_cons (m_set 2 nd (m_call C_law_rows hr (by omega) (pa_cons (m_var 1) pa_nil)))
  (pss_cons (m_set 3 nd (m_call C_law_odd hr (by omega) (pa_cons (m_var 0) (pa_cons (m_var 2) pa_nil))))
  (pss_cons (m_set 4 nd (m_call C_law_most hr (by omega) (pa_cons (m_var 3) pa_nil)))
  (pss_cons (m_set 5 nd (m_listRange rfl rfl mg_list rfl mg_range (pa_cons (pe_callB m_len rfl mg_len bt_len (pa_cons (m_var 1) pa_nil)) pa_nil)))
  (pss_cons (m_for PassesOwn.never rfl (pi_seq (pe_op m_add (m_lst (pa_cons (pe_un un_neg pe_int) pa_nil)) (m_var 5))) (m_tg 6 nd) (pss_cons (m_set 7 nd (pe_callTy m_tupOf rfl mg_tuple bt_tuple (pa_cons (m_compN (ixs := [6]) (compOk_mk (own := ["_law_number"]) (N := ["_law_out"]) rfl rfl rfl rfl rfl rfl rfl (by decide +kernel) rfl rfl rfl) rfl (pi_seq (m_var 5)) (fun _ _ _ _ => (pif_one (m_test (m_ne hr.units) (m_var 0) (m_var 1) (nomark _)))) (fun _ _ _ _ => (m_var 0)) rfl) pa_nil)))
  (pss_cons (m_setCompN 8 nd (ixs := [4]) (compOk_mk (own := ["_law_number"]) (N := ["_law_said"]) rfl rfl rfl rfl rfl rfl rfl (by decide +kernel) rfl rfl rfl) rfl (pi_seq (m_var 7)) (fun _ _ _ _ => pif_nil) (fun _ _ _ _ => (m_tup (pa_cons (m_var 0) (pa_cons (m_ix (m_var 1) (m_var 0) (fun _ _ => rfl)) pa_nil)))) rfl)
  (pss_cons (m_set 9 nd (m_call C_law_part_of hr (by omega) (pa_cons (m_var 1) (pa_cons (m_var 3) (pa_cons (m_var 7) pa_nil)))))
  (pss_one (ps_if (m_test m_gt (pe_callB m_len rfl mg_len bt_len (pa_cons (m_call C_law_agreeing hr (by omega) (pa_cons (m_var 2) (pa_cons (m_var 8) pa_nil))) pa_nil)) pe_int (nomark _)) (pss_one (ps_if (m_test m_notN (m_var 9) pe_non (nomark _)) (pss_one (ps_ret pe_bl)) pss_nil)) (pss_one (ps_if (PW.pt (pw_or (m_test m_isN (m_var 9) pe_non (nomark _)) (pw_or (m_test (m_eqX hr.units) (m_var 9) pe_str (nomark _)) (pw_or1 (pt_not (m_val (m_call C_law_smallest hr (by omega) (pa_cons (m_var 2) (pa_cons (m_var 9) (pa_cons (m_var 8) pa_nil)))))))))) (pss_one (ps_ret pe_bl)) pss_nil))))))))
  (pss_one (ps_ret (pe_cmpR (m_eq hr.units) (pe_fldX (m_newX C_Barred hr (by omega) mg_Barred (pa_cons (m_tup (pa_cons (m_tup (pa_cons pe_int (pa_cons pe_bl pa_nil))) pa_nil)) pa_nil)) rfl) (m_tup (pa_cons (m_tup (pa_cons pe_int (pa_cons pe_bl pa_nil))) pa_nil)) (nomark _)))))))))), ?_⟩
 walk_at "rp"
 refine ⟨a, ns, rfl, hS, h63, fun b H1 us ts xs s1 hb hT hL => ?_⟩
 have hhi := hL.hi
 have hlen := hT.len
 walk_at "rp"
 refine ⟨b, us, ts, xs, rfl, hb, hT, hL, fun d H2 ss R n2 s2 e2 hR hN hF hRl => ?_⟩
 have hR1 := fit_pos hF
 have hRm : ∀ r ∈ R, r.2.length = ts.length := fun r hr => fit_row_len hF (List.mem_map_of_mem (f := (·.2)) hr)
 walk_at "rp"
 refine ⟨a, ns, d, R, ts.length, rfl, (s1.trans s2).seq hS, h63, e2, fun r hr => ⟨hR r hr, hRm r hr⟩, hR1, by omega, by omega, fun c H3 J s3 hJ hJR hodd hJl => ?_⟩
 walk_at "rp"
 refine ⟨c, J, ts.length, rfl, hJ, by omega, fun m1 H4 s4 h4 => ?_⟩
 walk_at "rp"
 have s14 := s2.trans (s3.trans s4)
 have s24 := s3.trans s4
 refine ⟨_, .inr ((same_tups s14).sqT hb), ?_⟩
 rw [hlen]
 refine ⟨⟨by omega, by omega⟩, fun nl H5 n5 s5 e5 => ?_⟩
 rw [Int.toNat_natCast] at e5
 walk_at "rp"
 refine ⟨1, rfl, ?_⟩
 walk_at "rp"
 refine ⟨by rw [sizeLine_eq]; simp, fun l1 H6 n6 s6 e6 => ?_⟩
 walk_at "rp"
 refine .inl ⟨_, _, e6, s6 _ _ e5, by rw [List.length_map, List.length_range, sizeLine_eq]; simp only [List.length_cons, List.length_nil]; omega, fun l2 H7 n7 s7 e7 => ?_⟩
 walk_at "rp"
 have s57 := s6.trans s7
 have s47 := s5.trans s57
 have s27 := s24.trans s47
 have s17 := s14.trans s47
 generalize hsaid : mostAt (J.map (·.2)) = said at *
 refine .inl ⟨⟨_, SqL.of e7⟩, loop_list (xs := [V.int (-1)] ++ (List.range ts.length).map fun n => V.int ((n : Nat) : Int)) (fun i σ H8 => ∃ x6 x7 x8 x9, σ = [some (.ref a), some (.ref b), some (.ref d), some (.ref c), some (.ref m1), some (.ref nl), x6, x7, x8, x9] ∧ Same H7 H8) ⟨none, none, none, none, rfl, Same.refl _⟩ ?_ ?_ ?_⟩
 ·rintro i σ H8 _ ⟨x6, x7, x8, x9, rfl, s8⟩
  exact SqL.of (s8 _ _ e7)
 ·rintro i v σ H8 hv ⟨x6, x7, x8, x9, rfl, s8⟩
  obtain ⟨o, rfl⟩ : ∃ o : Int, v = V.int o := by
   have hm := List.mem_of_getElem? hv
   rcases List.mem_append.mp hm with hm | hm
   ·exact ⟨-1, List.mem_singleton.mp hm⟩
   ·obtain ⟨n, _, rfl⟩ := List.mem_map.mp hm
    exact ⟨_, rfl⟩
  walk_at "rp"
  have e8 := (s57.trans s8) _ _ e5
  refine .inl ⟨⟨_, SqL.of e8⟩, fun C s₀ H₀ ex => ?_⟩
  refine compF_lst (xs := (List.range ts.length).map fun n => V.int ((n : Nat) : Int)) (fun D j ys H9 => ys = ((gsOf j o).map fun n => V.int ((n : Nat) : Int)) ∧ H9 D = some (.lst ys) ∧ Same H8 H9 ∧ H8 D = none) (by rw [List.length_map, List.length_range, sizeLine_eq]; omega) ?_ ?_ ?_ ?_
  ·intro D H9 n9 s9 e9
   exact ⟨rfl, e9, s9, n9⟩
  ·rintro D j ys H9 ⟨rfl, e9, s9, _⟩
   exact ⟨SqL.of (s9 _ _ e8), e9, by rw [List.length_map]; exact gs_len _ _⟩
  ·rintro D j v ys H9 hv ⟨rfl, e9, s9, n9⟩
   rw [List.getElem?_map] at hv
   have hj : j < ts.length := by
    refine Classical.byContradiction fun z => ?_
    rw [List.getElem?_eq_none (by rw [List.length_range]; omega)] at hv
    cases hv
   rw [List.getElem?_range hj] at hv
   cases hv
   have hjl : j < ((List.range ts.length).map fun n => V.int ((n : Nat) : Int)).length := by rw [List.length_map, List.length_range]; exact hj
   walk_at "rp"
   have hgs : gsOf (j + 1) o = gsOf j o ++ (if decide (¬ ((j : Nat) : Int) = o) = true then [j] else []) := by
    unfold gsOf
    rw [List.range_succ, List.filter_append, List.filter_cons, List.filter_nil]
   rw [← decide_not]
   refine ite2 (fun c9 => ⟨e9, CN.mk hjl ⟨?_, upd_same, same_upd s9 n9 _, n9⟩⟩) fun c9 => CN.mk hjl ⟨?_, e9, s9, n9⟩
   ·rw [hgs, if_pos c9, List.map_append]
    rfl
   ·rw [hgs, if_neg c9, List.append_nil]
  ·rintro D ys H9 ⟨rfl, e9, s9, n9⟩
   rw [List.length_map, List.length_range] at e9
   have hgl := gs_len ts.length o
   have hglt := gs_lt (m := ts.length) (o := o)
   have hgr := gs_rise said ts.length o
   generalize gsOf ts.length o = gs at *
   walk_at "rp"
   refine ⟨_, .inl (SqL.of e9), fun g H10 s10 hg => ?_⟩
   walk_at "rp"
   have s710 := s8.trans (s9.trans s10)
   have s410 := s47.trans s710
   refine .inr ⟨⟨_, hg⟩, fun C s₀ H₀ ex => ?_⟩
   refine comp_tup (xs := gs.map fun n => V.int ((n : Nat) : Int)) (fun D i ys H11 => PairsAt K H11 ys (gps said (gs.take i)) ∧ i ≤ gs.length ∧ H11 D = some (.lst ys) ∧ Same H10 H11 ∧ H10 D = none) (by rw [List.length_map, sizeLine_eq]; omega) ?_ ?_ ?_ ?_
   ·intro D H11 n11 s11 e11
    exact ⟨trivial, Nat.zero_le _, e11, s11, n11⟩
   ·rintro D i ys H11 ⟨hys, hil, e11, s11, _⟩
    refine ⟨(same_tups s11).sqT hg, e11, ?_⟩
    rw [hys.len, gps_len, List.length_take]
    omega
   ·rintro D i v ys H11 hv ⟨hys, _, e11, s11, n11⟩
    rw [List.getElem?_map] at hv
    cases hc : gs[i]? with
    | none => rw [hc] at hv; cases hv
    | some n =>
     rw [hc] at hv
     cases hv
     have hi : i < gs.length := (List.getElem?_eq_some_iff.mp hc).1
     have hnm := hglt n (List.mem_of_getElem? hc)
     walk_at "rp"
     refine ⟨_, _, .inr ((same_tups (s410.trans s11)).sqT h4), most_at hnm, ?_⟩
     rw [hsaid]
     walk_at "rp"
     refine ⟨sz2, fun z H12 n12 s12 e12 => ?_⟩
     walk_at "rp"
     have t5 : Tups H12 (upd H12 D (.lst (ys ++ [.ref z]))) := tups_lst (s12 _ _ e11)
     refine ⟨s12 _ _ e11, CN.mk (by rw [List.length_map]; exact hi) ⟨?_, hi, upd_same, same_upd (s11.trans s12) n11 _, n11⟩⟩
     rw [gps_take hc]
     exact PairsAt.app (hys.mono ((same_tups s12).trans t5)) ⟨⟨z, rfl, t5.sqT (SqT.of e12)⟩, trivial⟩
   ·rintro D ys H11 ⟨hys, _, e11, s11, n11⟩
    rw [List.length_map, List.take_length] at hys
    walk_at "rp"
    have s411 := s410.trans s11
    have s211 := s24.trans s411
    have s111 := s14.trans s411
    have hgl2 := gps_len said gs
    have hglt2 := gps_lt (said := said) hglt
    refine ⟨b, c, g, us, ts, xs, J, gs, rfl, (same_tups s111).sqT hb, hT.mono (same_tups s111), hL, hJ.mono (same_tups (s4.trans s411)), (same_tups s11).sqT hg, hglt, by omega, fun ss' ks' hN' hF' => ?_⟩
    have es := NamesOf.eq hN' hN
    subst es
    have ek := FitRows.eq hF' hF
    subst ek
    rw [hsaid]
    generalize gps said gs = ps at *
    refine ⟨fun hy H12 s12 => ?_, fun hn t H12 us' s12 ht hp => ?_⟩
    ·walk_at "rp"
     have s212 := s211.trans s12
     refine ⟨d, D, R, ys, ps, rfl, s212 _ _ e2, fun r hr => (same_tups s212).sqT (hR r hr), .inl (SqL.of (s12 _ _ e11)), hys.mono (same_tups s12), by omega, fun r hr x hx => by rw [hRm r hr]; exact hglt2 x hx, hRl, fun e H13 s13 e13 => ?_⟩
     walk_at "rp"
     refine ⟨_, .inl (SqL.of e13), ?_⟩
     rw [List.length_map, fil_any, hy]
     walk_at "rp"
     exact ⟨trivial, _, _, _, _, rfl, s710.trans (s11.trans (s12.trans s13))⟩
    ·walk_at "rp"
     have s212 := s211.trans s12
     refine ⟨d, D, R, ys, ps, rfl, s212 _ _ e2, fun r hr => (same_tups s212).sqT (hR r hr), .inl (SqL.of (s12 _ _ e11)), hys.mono (same_tups s12), by omega, fun r hr x hx => by rw [hRm r hr]; exact hglt2 x hx, hRl, fun e H13 s13 e13 => ?_⟩
     walk_at "rp"
     refine ⟨_, .inl (SqL.of e13), ?_⟩
     rw [List.length_map, fil_any, hn]
     walk_at "rp"
     have ht3 := (same_tups s13).sqT ht
     have hp3 := hp.mono (same_tups s13)
     simp only [show decide (V.ref t = V.non) = false from decide_eq_false (fun z => by cases z), Bool.false_eq_true, if_false, true_and]
     walk_at "rp"
     refine ⟨_, _, has_part ht3 hp3, has_str _, shaped_part _, by decide +kernel, ?_⟩
     rw [eqv_ps]
     walk_at "rp"
     have hno := need_no ps ps (os := []) (R := R.map (·.2)) (by rw [List.append_nil]; exact hn)
     rw [List.append_nil] at hno
     have hsub := need_sub (R.map (·.2)) [] ps ps
     have hnl := need_len (R.map (·.2)) [] ps ps
     refine ⟨d, D, t, R, ys, us', ps, _, ts.length, rfl, (s212.trans s13) _ _ e2, fun r hr => (same_tups (s212.trans s13)).sqT (hR r hr), hRm, hRl, SqL.of ((s12.trans s13) _ _ e11), hys.mono (same_tups (s12.trans s13)), ht3, hp3, by omega, fun p hp' => hglt2 p (hsub p hp'), need_rise ps ps hgr, hsub, hno, fun p hp' => ?_, fun H14 s14' => ?_⟩
     ·have := need_each (R := R.map (·.2)) (os := []) ps ps p hp' (hsub p hp')
      rw [List.append_nil] at this
      exact this
     ·walk_at "rp"
      exact ⟨_, _, _, _, rfl, s710.trans (s11.trans (s12.trans (s13.trans s14')))⟩
 ·rintro σ H8 ⟨x6, x7, x8, x9, rfl, s8⟩
  walk_at "rp"
  refine ⟨sz2, fun p1 H9 n9 s9 e9 => ⟨sz1, fun p2 H10 n10 s10 e10 => ?_⟩⟩
  walk_at "rp"
  refine ⟨by rw [sizeLine_eq]; simp, fun x hx => ⟨x, .ref p2, true, rfl, upd_same, fun dx hdx => ⟨rfl, ?_⟩⟩⟩
  have hdxx : dx ≠ x := fun z => by rw [z, upd_same] at hdx; cases hdx
  have hd5 : H10 dx = none := by rw [upd_ne hdxx] at hdx; exact hdx
  have s11 : Same H10 (upd (upd (upd H10 x (exO x Cb none true)) dx (.xd [("part", .ref p2)])) x (exO x Cb (some dx) true)) := same_upd (same_upd (same_upd (Same.refl _) hx _) hd5 _) hx _
  refine ⟨x, Cb, dx, true, _, _, rfl, upd_same, by rw [upd_ne hdxx, upd_same], xb, na, List.lookup_cons_self, ?_⟩
  walk_at "rp"
  refine ⟨sz2, fun p3 H12 n12 s12 e12 => ⟨sz1, fun p4 H13 n13 s13 e13 => ?_⟩⟩
  walk_at "rp"
  have t1 : SqT K H13 p2 [.ref p1] := (same_tups (s11.trans (s12.trans s13))).sqT (SqT.of e10)
  have t2 : PairsAt K H13 [.ref p1] [(0, true)] := ⟨⟨p1, rfl, (same_tups (s10.trans (s11.trans (s12.trans s13)))).sqT (SqT.of e9)⟩, trivial⟩
  have t3 : PairsAt K H13 [.ref p3] [(0, true)] := ⟨⟨p3, rfl, (same_tups s13).sqT (SqT.of e12)⟩, trivial⟩
  refine ⟨_, _, has_part t1 t2, has_part (SqT.of e13) t3, shaped_part _, shaped_part _, ?_⟩
  rw [eqv_self (shaped_part _)]
  exact q _
end
end Kx
namespace Kx
open PySem PySem.Spec L2 My
open PyProof.Rows hiding St
theorem all_mk {l : PySem.W.OpenLaw} {w : World} {K : PySem.W.Frag} {h : Heap} {mg : Str → Option Value} {fa : Addr} (X : K.In h) (G : h.Ns mainGlobals mg) (hfa : mg "law" = some (.ref fa))
  {f_1 : Addr} {od_1 an_1 : Option Addr} {sl_1 : Array (Option Value)} {oc_1 kV_1 dc_1 pm_1 cd_1 ct_1 : Value}
  {f_2 : Addr} {od_2 an_2 : Option Addr} {sl_2 : Array (Option Value)} {oc_2 kV_2 dc_2 pm_2 cd_2 ct_2 : Value}
  {f_3 : Addr} {od_3 an_3 : Option Addr} {sl_3 : Array (Option Value)} {oc_3 kV_3 dc_3 pm_3 cd_3 ct_3 : Value}
  {f_12 : Addr} {od_12 an_12 : Option Addr} {sl_12 : Array (Option Value)} {oc_12 kV_12 dc_12 pm_12 cd_12 ct_12 : Value}
  {f_13 : Addr} {od_13 an_13 : Option Addr} {sl_13 : Array (Option Value)} {oc_13 kV_13 dc_13 pm_13 cd_13 ct_13 : Value}
  {f_14 : Addr} {od_14 an_14 : Option Addr} {sl_14 : Array (Option Value)} {oc_14 kV_14 dc_14 pm_14 cd_14 ct_14 : Value}
  {f_16 : Addr} {od_16 an_16 : Option Addr} {sl_16 : Array (Option Value)} {oc_16 kV_16 dc_16 pm_16 cd_16 ct_16 : Value}
  {f_17 : Addr} {od_17 an_17 : Option Addr} {sl_17 : Array (Option Value)} {oc_17 kV_17 dc_17 pm_17 cd_17 ct_17 : Value}
  {f_19 : Addr} {od_19 an_19 : Option Addr} {sl_19 : Array (Option Value)} {oc_19 kV_19 dc_19 pm_19 cd_19 ct_19 : Value}
  {f_20 : Addr} {od_20 an_20 : Option Addr} {sl_20 : Array (Option Value)} {oc_20 kV_20 dc_20 pm_20 cd_20 ct_20 : Value}
  {f_21 : Addr} {od_21 an_21 : Option Addr} {sl_21 : Array (Option Value)} {oc_21 kV_21 dc_21 pm_21 cd_21 ct_21 : Value}
  {f_22 : Addr} {od_22 an_22 : Option Addr} {sl_22 : Array (Option Value)} {oc_22 kV_22 dc_22 pm_22 cd_22 ct_22 : Value}
  {f_23 : Addr} {od_23 an_23 : Option Addr} {sl_23 : Array (Option Value)} {oc_23 kV_23 dc_23 pm_23 cd_23 ct_23 : Value}
  {f_24 : Addr} {od_24 an_24 : Option Addr} {sl_24 : Array (Option Value)} {oc_24 kV_24 dc_24 pm_24 cd_24 ct_24 : Value}
  {f_25 : Addr} {od_25 an_25 : Option Addr} {sl_25 : Array (Option Value)} {oc_25 kV_25 dc_25 pm_25 cd_25 ct_25 : Value}
  {f_27 : Addr} {od_27 an_27 : Option Addr} {sl_27 : Array (Option Value)} {oc_27 kV_27 dc_27 pm_27 cd_27 ct_27 : Value}
  {f_28 : Addr} {od_28 an_28 : Option Addr} {sl_28 : Array (Option Value)} {oc_28 kV_28 dc_28 pm_28 cd_28 ct_28 : Value}
  {f_30 : Addr} {od_30 an_30 : Option Addr} {sl_30 : Array (Option Value)} {oc_30 kV_30 dc_30 pm_30 cd_30 ct_30 : Value}
  {f_31 : Addr} {od_31 an_31 : Option Addr} {sl_31 : Array (Option Value)} {oc_31 kV_31 dc_31 pm_31 cd_31 ct_31 : Value}
  {f_32 : Addr} {od_32 an_32 : Option Addr} {sl_32 : Array (Option Value)} {oc_32 kV_32 dc_32 pm_32 cd_32 ct_32 : Value}
  {f_33 : Addr} {od_33 an_33 : Option Addr} {sl_33 : Array (Option Value)} {oc_33 kV_33 dc_33 pm_33 cd_33 ct_33 : Value}
  {f_34 : Addr} {od_34 an_34 : Option Addr} {sl_34 : Array (Option Value)} {oc_34 kV_34 dc_34 pm_34 cd_34 ct_34 : Value}
  {f_36 : Addr} {od_36 an_36 : Option Addr} {sl_36 : Array (Option Value)} {oc_36 kV_36 dc_36 pm_36 cd_36 ct_36 : Value}
  {f_37 : Addr} {od_37 an_37 : Option Addr} {sl_37 : Array (Option Value)} {oc_37 kV_37 dc_37 pm_37 cd_37 ct_37 : Value}
  {f_38 : Addr} {od_38 an_38 : Option Addr} {sl_38 : Array (Option Value)} {oc_38 kV_38 dc_38 pm_38 cd_38 ct_38 : Value}
  {f_39 : Addr} {od_39 an_39 : Option Addr} {sl_39 : Array (Option Value)} {oc_39 kV_39 dc_39 pm_39 cd_39 ct_39 : Value}
  {f_40 : Addr} {od_40 an_40 : Option Addr} {sl_40 : Array (Option Value)} {oc_40 kV_40 dc_40 pm_40 cd_40 ct_40 : Value}
  {f_41 : Addr} {od_41 an_41 : Option Addr} {sl_41 : Array (Option Value)} {oc_41 kV_41 dc_41 pm_41 cd_41 ct_41 : Value}
  {f_42 : Addr} {od_42 an_42 : Option Addr} {sl_42 : Array (Option Value)} {oc_42 kV_42 dc_42 pm_42 cd_42 ct_42 : Value}
  {f_43 : Addr} {od_43 an_43 : Option Addr} {sl_43 : Array (Option Value)} {oc_43 kV_43 dc_43 pm_43 cd_43 ct_43 : Value}
  {f_44 : Addr} {od_44 an_44 : Option Addr} {sl_44 : Array (Option Value)} {oc_44 kV_44 dc_44 pm_44 cd_44 ct_44 : Value}
  {f_45 : Addr} {od_45 an_45 : Option Addr} {sl_45 : Array (Option Value)} {oc_45 kV_45 dc_45 pm_45 cd_45 ct_45 : Value}
  {f_46 : Addr} {od_46 an_46 : Option Addr} {sl_46 : Array (Option Value)} {oc_46 kV_46 dc_46 pm_46 cd_46 ct_46 : Value}
  {f_47 : Addr} {od_47 an_47 : Option Addr} {sl_47 : Array (Option Value)} {oc_47 kV_47 dc_47 pm_47 cd_47 ct_47 : Value}
  {f_48 : Addr} {od_48 an_48 : Option Addr} {sl_48 : Array (Option Value)} {oc_48 kV_48 dc_48 pm_48 cd_48 ct_48 : Value}
  {f_49 : Addr} {od_49 an_49 : Option Addr} {sl_49 : Array (Option Value)} {oc_49 kV_49 dc_49 pm_49 cd_49 ct_49 : Value}
  {f_50 : Addr} {od_50 an_50 : Option Addr} {sl_50 : Array (Option Value)} {oc_50 kV_50 dc_50 pm_50 cd_50 ct_50 : Value}
  {f_51 : Addr} {od_51 an_51 : Option Addr} {sl_51 : Array (Option Value)} {oc_51 kV_51 dc_51 pm_51 cd_51 ct_51 : Value}
  {f_52 : Addr} {od_52 an_52 : Option Addr} {sl_52 : Array (Option Value)} {oc_52 kV_52 dc_52 pm_52 cd_52 ct_52 : Value}
  {f_53 : Addr} {od_53 an_53 : Option Addr} {sl_53 : Array (Option Value)} {oc_53 kV_53 dc_53 pm_53 cd_53 ct_53 : Value}
  {f_law : Addr} {od_law an_law : Option Addr} {sl_law : Array (Option Value)} {oc_law kV_law dc_law pm_law cd_law ct_law : Value}
  {c_Barred : Addr}
  {f_Barred_init : Addr} {od_Barred_init an_Barred_init : Option Addr} {sl_Barred_init : Array (Option Value)} {oc_Barred_init kV_Barred_init dc_Barred_init pm_Barred_init cd_Barred_init ct_Barred_init : Value}
  {c_JudgeError : Addr}
  {c_BadRow : Addr}
  {c_Even : Addr}
  {c_NoText : Addr}
  {c_OutOfBounds : Addr}
  (a_1 : PySem.W.nsIn K mainGlobals "who_say" = some (some (.ref f_1))) (l_1 : K.lookup f_1 = some ⟨oc_1, od_1, .func (PySem.W.fnOf "who_say" "who_say" (defArgs (top 1)) (defBody (top 1)) (defScope (top 1)) .none kV_1 dc_1 pm_1 an_1 cd_1 ct_1), sl_1⟩) (c_1 : PySem.W.codeIn K cd_1 "who_say" = true) (k_1 : PySem.W.keepIn K (.ref f_1) = true)
  (a_2 : PySem.W.nsIn K mainGlobals "most_say_yes" = some (some (.ref f_2))) (l_2 : K.lookup f_2 = some ⟨oc_2, od_2, .func (PySem.W.fnOf "most_say_yes" "most_say_yes" (defArgs (top 2)) (defBody (top 2)) (defScope (top 2)) .none kV_2 dc_2 pm_2 an_2 cd_2 ct_2), sl_2⟩) (c_2 : PySem.W.codeIn K cd_2 "most_say_yes" = true) (k_2 : PySem.W.keepIn K (.ref f_2) = true)
  (a_3 : PySem.W.nsIn K mainGlobals "most" = some (some (.ref f_3))) (l_3 : K.lookup f_3 = some ⟨oc_3, od_3, .func (PySem.W.fnOf "most" "most" (defArgs (top 3)) (defBody (top 3)) (defScope (top 3)) .none kV_3 dc_3 pm_3 an_3 cd_3 ct_3), sl_3⟩) (c_3 : PySem.W.codeIn K cd_3 "most" = true) (k_3 : PySem.W.keepIn K (.ref f_3) = true)
  (a_12 : PySem.W.nsIn K mainGlobals "letters_in" = some (some (.ref f_12))) (l_12 : K.lookup f_12 = some ⟨oc_12, od_12, .func (PySem.W.fnOf "letters_in" "letters_in" (defArgs (top 12)) (defBody (top 12)) (defScope (top 12)) .none kV_12 dc_12 pm_12 an_12 cd_12 ct_12), sl_12⟩) (c_12 : PySem.W.codeIn K cd_12 "letters_in" = true) (k_12 : PySem.W.keepIn K (.ref f_12) = true)
  (a_13 : PySem.W.nsIn K mainGlobals "names_in" = some (some (.ref f_13))) (l_13 : K.lookup f_13 = some ⟨oc_13, od_13, .func (PySem.W.fnOf "names_in" "names_in" (defArgs (top 13)) (defBody (top 13)) (defScope (top 13)) .none kV_13 dc_13 pm_13 an_13 cd_13 ct_13), sl_13⟩) (c_13 : PySem.W.codeIn K cd_13 "names_in" = true) (k_13 : PySem.W.keepIn K (.ref f_13) = true)
  (a_14 : PySem.W.nsIn K mainGlobals "is_so" = some (some (.ref f_14))) (l_14 : K.lookup f_14 = some ⟨oc_14, od_14, .func (PySem.W.fnOf "is_so" "is_so" (defArgs (top 14)) (defBody (top 14)) (defScope (top 14)) .none kV_14 dc_14 pm_14 an_14 cd_14 ct_14), sl_14⟩) (c_14 : PySem.W.codeIn K cd_14 "is_so" = true) (k_14 : PySem.W.keepIn K (.ref f_14) = true)
  (a_16 : PySem.W.nsIn K mainGlobals "ways_to_hold" = some (some (.ref f_16))) (l_16 : K.lookup f_16 = some ⟨oc_16, od_16, .func (PySem.W.fnOf "ways_to_hold" "ways_to_hold" (defArgs (top 16)) (defBody (top 16)) (defScope (top 16)) .none kV_16 dc_16 pm_16 an_16 cd_16 ct_16), sl_16⟩) (c_16 : PySem.W.codeIn K cd_16 "ways_to_hold" = true) (k_16 : PySem.W.keepIn K (.ref f_16) = true)
  (a_17 : PySem.W.nsIn K mainGlobals "held_by" = some (some (.ref f_17))) (l_17 : K.lookup f_17 = some ⟨oc_17, od_17, .func (PySem.W.fnOf "held_by" "held_by" (defArgs (top 17)) (defBody (top 17)) (defScope (top 17)) .none kV_17 dc_17 pm_17 an_17 cd_17 ct_17), sl_17⟩) (c_17 : PySem.W.codeIn K cd_17 "held_by" = true) (k_17 : PySem.W.keepIn K (.ref f_17) = true)
  (a_19 : PySem.W.nsIn K mainGlobals "names_of" = some (some (.ref f_19))) (l_19 : K.lookup f_19 = some ⟨oc_19, od_19, .func (PySem.W.fnOf "names_of" "names_of" (defArgs (top 19)) (defBody (top 19)) (defScope (top 19)) .none kV_19 dc_19 pm_19 an_19 cd_19 ct_19), sl_19⟩) (c_19 : PySem.W.codeIn K cd_19 "names_of" = true) (k_19 : PySem.W.keepIn K (.ref f_19) = true)
  (a_20 : PySem.W.nsIn K mainGlobals "all_held" = some (some (.ref f_20))) (l_20 : K.lookup f_20 = some ⟨oc_20, od_20, .func (PySem.W.fnOf "all_held" "all_held" (defArgs (top 20)) (defBody (top 20)) (defScope (top 20)) .none kV_20 dc_20 pm_20 an_20 cd_20 ct_20), sl_20⟩) (c_20 : PySem.W.codeIn K cd_20 "all_held" = true) (k_20 : PySem.W.keepIn K (.ref f_20) = true)
  (a_21 : PySem.W.nsIn K mainGlobals "row_of" = some (some (.ref f_21))) (l_21 : K.lookup f_21 = some ⟨oc_21, od_21, .func (PySem.W.fnOf "row_of" "row_of" (defArgs (top 21)) (defBody (top 21)) (defScope (top 21)) .none kV_21 dc_21 pm_21 an_21 cd_21 ct_21), sl_21⟩) (c_21 : PySem.W.codeIn K cd_21 "row_of" = true) (k_21 : PySem.W.keepIn K (.ref f_21) = true)
  (a_22 : PySem.W.nsIn K mainGlobals "fit_rows" = some (some (.ref f_22))) (l_22 : K.lookup f_22 = some ⟨oc_22, od_22, .func (PySem.W.fnOf "fit_rows" "fit_rows" (defArgs (top 22)) (defBody (top 22)) (defScope (top 22)) .none kV_22 dc_22 pm_22 an_22 cd_22 ct_22), sl_22⟩) (c_22 : PySem.W.codeIn K cd_22 "fit_rows" = true) (k_22 : PySem.W.keepIn K (.ref f_22) = true)
  (a_23 : PySem.W.nsIn K mainGlobals "agrees" = some (some (.ref f_23))) (l_23 : K.lookup f_23 = some ⟨oc_23, od_23, .func (PySem.W.fnOf "agrees" "agrees" (defArgs (top 23)) (defBody (top 23)) (defScope (top 23)) .none kV_23 dc_23 pm_23 an_23 cd_23 ct_23), sl_23⟩) (c_23 : PySem.W.codeIn K cd_23 "agrees" = true) (k_23 : PySem.W.keepIn K (.ref f_23) = true)
  (a_24 : PySem.W.nsIn K mainGlobals "any_agrees" = some (some (.ref f_24))) (l_24 : K.lookup f_24 = some ⟨oc_24, od_24, .func (PySem.W.fnOf "any_agrees" "any_agrees" (defArgs (top 24)) (defBody (top 24)) (defScope (top 24)) .none kV_24 dc_24 pm_24 an_24 cd_24 ct_24), sl_24⟩) (c_24 : PySem.W.codeIn K cd_24 "any_agrees" = true) (k_24 : PySem.W.keepIn K (.ref f_24) = true)
  (a_25 : PySem.W.nsIn K mainGlobals "truth_among" = some (some (.ref f_25))) (l_25 : K.lookup f_25 = some ⟨oc_25, od_25, .func (PySem.W.fnOf "truth_among" "truth_among" (defArgs (top 25)) (defBody (top 25)) (defScope (top 25)) .none kV_25 dc_25 pm_25 an_25 cd_25 ct_25), sl_25⟩) (c_25 : PySem.W.codeIn K cd_25 "truth_among" = true) (k_25 : PySem.W.keepIn K (.ref f_25) = true)
  (a_27 : PySem.W.nsIn K mainGlobals "without" = some (some (.ref f_27))) (l_27 : K.lookup f_27 = some ⟨oc_27, od_27, .func (PySem.W.fnOf "without" "without" (defArgs (top 27)) (defBody (top 27)) (defScope (top 27)) .none kV_27 dc_27 pm_27 an_27 cd_27 ct_27), sl_27⟩) (c_27 : PySem.W.codeIn K cd_27 "without" = true) (k_27 : PySem.W.keepIn K (.ref f_27) = true)
  (a_28 : PySem.W.nsIn K mainGlobals "needed_against" = some (some (.ref f_28))) (l_28 : K.lookup f_28 = some ⟨oc_28, od_28, .func (PySem.W.fnOf "needed_against" "needed_against" (defArgs (top 28)) (defBody (top 28)) (defScope (top 28)) .none kV_28 dc_28 pm_28 an_28 cd_28 ct_28), sl_28⟩) (c_28 : PySem.W.codeIn K cd_28 "needed_against" = true) (k_28 : PySem.W.keepIn K (.ref f_28) = true)
  (a_30 : PySem.W.nsIn K mainGlobals "by_judges" = some (some (.ref f_30))) (l_30 : K.lookup f_30 = some ⟨oc_30, od_30, .func (PySem.W.fnOf "by_judges" "by_judges" (defArgs (top 30)) (defBody (top 30)) (defScope (top 30)) .none kV_30 dc_30 pm_30 an_30 cd_30 ct_30), sl_30⟩) (c_30 : PySem.W.codeIn K cd_30 "by_judges" = true) (k_30 : PySem.W.keepIn K (.ref f_30) = true)
  (a_31 : PySem.W.nsIn K mainGlobals "by_part" = some (some (.ref f_31))) (l_31 : K.lookup f_31 = some ⟨oc_31, od_31, .func (PySem.W.fnOf "by_part" "by_part" (defArgs (top 31)) (defBody (top 31)) (defScope (top 31)) .none kV_31 dc_31 pm_31 an_31 cd_31 ct_31), sl_31⟩) (c_31 : PySem.W.codeIn K cd_31 "by_part" = true) (k_31 : PySem.W.keepIn K (.ref f_31) = true)
  (a_32 : PySem.W.nsIn K mainGlobals "grounds_answers" = some (some (.ref f_32))) (l_32 : K.lookup f_32 = some ⟨oc_32, od_32, .func (PySem.W.fnOf "grounds_answers" "grounds_answers" (defArgs (top 32)) (defBody (top 32)) (defScope (top 32)) .none kV_32 dc_32 pm_32 an_32 cd_32 ct_32), sl_32⟩) (c_32 : PySem.W.codeIn K cd_32 "grounds_answers" = true) (k_32 : PySem.W.keepIn K (.ref f_32) = true)
  (a_33 : PySem.W.nsIn K mainGlobals "grounds_reason" = some (some (.ref f_33))) (l_33 : K.lookup f_33 = some ⟨oc_33, od_33, .func (PySem.W.fnOf "grounds_reason" "grounds_reason" (defArgs (top 33)) (defBody (top 33)) (defScope (top 33)) .none kV_33 dc_33 pm_33 an_33 cd_33 ct_33), sl_33⟩) (c_33 : PySem.W.codeIn K cd_33 "grounds_reason" = true) (k_33 : PySem.W.keepIn K (.ref f_33) = true)
  (a_34 : PySem.W.nsIn K mainGlobals "grounds_first" = some (some (.ref f_34))) (l_34 : K.lookup f_34 = some ⟨oc_34, od_34, .func (PySem.W.fnOf "grounds_first" "grounds_first" (defArgs (top 34)) (defBody (top 34)) (defScope (top 34)) .none kV_34 dc_34 pm_34 an_34 cd_34 ct_34), sl_34⟩) (c_34 : PySem.W.codeIn K cd_34 "grounds_first" = true) (k_34 : PySem.W.keepIn K (.ref f_34) = true)
  (a_36 : PySem.W.nsIn K mainGlobals "_law_cell" = some (some (.ref f_36))) (l_36 : K.lookup f_36 = some ⟨oc_36, od_36, .func (PySem.W.fnOf "_law_cell" "_law_cell" (defArgs (top 36)) (defBody (top 36)) (defScope (top 36)) .none kV_36 dc_36 pm_36 an_36 cd_36 ct_36), sl_36⟩) (c_36 : PySem.W.codeIn K cd_36 "_law_cell" = true) (k_36 : PySem.W.keepIn K (.ref f_36) = true)
  (a_37 : PySem.W.nsIn K mainGlobals "_law_pick" = some (some (.ref f_37))) (l_37 : K.lookup f_37 = some ⟨oc_37, od_37, .func (PySem.W.fnOf "_law_pick" "_law_pick" (defArgs (top 37)) (defBody (top 37)) (defScope (top 37)) .none kV_37 dc_37 pm_37 an_37 cd_37 ct_37), sl_37⟩) (c_37 : PySem.W.codeIn K cd_37 "_law_pick" = true) (k_37 : PySem.W.keepIn K (.ref f_37) = true)
  (a_38 : PySem.W.nsIn K mainGlobals "_law_names" = some (some (.ref f_38))) (l_38 : K.lookup f_38 = some ⟨oc_38, od_38, .func (PySem.W.fnOf "_law_names" "_law_names" (defArgs (top 38)) (defBody (top 38)) (defScope (top 38)) .none kV_38 dc_38 pm_38 an_38 cd_38 ct_38), sl_38⟩) (c_38 : PySem.W.codeIn K cd_38 "_law_names" = true) (k_38 : PySem.W.keepIn K (.ref f_38) = true)
  (a_39 : PySem.W.nsIn K mainGlobals "_law_saying" = some (some (.ref f_39))) (l_39 : K.lookup f_39 = some ⟨oc_39, od_39, .func (PySem.W.fnOf "_law_saying" "_law_saying" (defArgs (top 39)) (defBody (top 39)) (defScope (top 39)) .none kV_39 dc_39 pm_39 an_39 cd_39 ct_39), sl_39⟩) (c_39 : PySem.W.codeIn K cd_39 "_law_saying" = true) (k_39 : PySem.W.keepIn K (.ref f_39) = true)
  (a_40 : PySem.W.nsIn K mainGlobals "_law_joined" = some (some (.ref f_40))) (l_40 : K.lookup f_40 = some ⟨oc_40, od_40, .func (PySem.W.fnOf "_law_joined" "_law_joined" (defArgs (top 40)) (defBody (top 40)) (defScope (top 40)) .none kV_40 dc_40 pm_40 an_40 cd_40 ct_40), sl_40⟩) (c_40 : PySem.W.codeIn K cd_40 "_law_joined" = true) (k_40 : PySem.W.keepIn K (.ref f_40) = true)
  (a_41 : PySem.W.nsIn K mainGlobals "_law_turned" = some (some (.ref f_41))) (l_41 : K.lookup f_41 = some ⟨oc_41, od_41, .func (PySem.W.fnOf "_law_turned" "_law_turned" (defArgs (top 41)) (defBody (top 41)) (defScope (top 41)) .none kV_41 dc_41 pm_41 an_41 cd_41 ct_41), sl_41⟩) (c_41 : PySem.W.codeIn K cd_41 "_law_turned" = true) (k_41 : PySem.W.keepIn K (.ref f_41) = true)
  (a_42 : PySem.W.nsIn K mainGlobals "_law_chain" = some (some (.ref f_42))) (l_42 : K.lookup f_42 = some ⟨oc_42, od_42, .func (PySem.W.fnOf "_law_chain" "_law_chain" (defArgs (top 42)) (defBody (top 42)) (defScope (top 42)) .none kV_42 dc_42 pm_42 an_42 cd_42 ct_42), sl_42⟩) (c_42 : PySem.W.codeIn K cd_42 "_law_chain" = true) (k_42 : PySem.W.keepIn K (.ref f_42) = true)
  (a_43 : PySem.W.nsIn K mainGlobals "_law_sayings" = some (some (.ref f_43))) (l_43 : K.lookup f_43 = some ⟨oc_43, od_43, .func (PySem.W.fnOf "_law_sayings" "_law_sayings" (defArgs (top 43)) (defBody (top 43)) (defScope (top 43)) .none kV_43 dc_43 pm_43 an_43 cd_43 ct_43), sl_43⟩) (c_43 : PySem.W.codeIn K cd_43 "_law_sayings" = true) (k_43 : PySem.W.keepIn K (.ref f_43) = true)
  (a_44 : PySem.W.nsIn K mainGlobals "_law_so" = some (some (.ref f_44))) (l_44 : K.lookup f_44 = some ⟨oc_44, od_44, .func (PySem.W.fnOf "_law_so" "_law_so" (defArgs (top 44)) (defBody (top 44)) (defScope (top 44)) .none kV_44 dc_44 pm_44 an_44 cd_44 ct_44), sl_44⟩) (c_44 : PySem.W.codeIn K cd_44 "_law_so" = true) (k_44 : PySem.W.keepIn K (.ref f_44) = true)
  (a_45 : PySem.W.nsIn K mainGlobals "_law_letters" = some (some (.ref f_45))) (l_45 : K.lookup f_45 = some ⟨oc_45, od_45, .func (PySem.W.fnOf "_law_letters" "_law_letters" (defArgs (top 45)) (defBody (top 45)) (defScope (top 45)) .none kV_45 dc_45 pm_45 an_45 cd_45 ct_45), sl_45⟩) (c_45 : PySem.W.codeIn K cd_45 "_law_letters" = true) (k_45 : PySem.W.keepIn K (.ref f_45) = true)
  (a_46 : PySem.W.nsIn K mainGlobals "_law_rows" = some (some (.ref f_46))) (l_46 : K.lookup f_46 = some ⟨oc_46, od_46, .func (PySem.W.fnOf "_law_rows" "_law_rows" (defArgs (top 46)) (defBody (top 46)) (defScope (top 46)) .none kV_46 dc_46 pm_46 an_46 cd_46 ct_46), sl_46⟩) (c_46 : PySem.W.codeIn K cd_46 "_law_rows" = true) (k_46 : PySem.W.keepIn K (.ref f_46) = true)
  (a_47 : PySem.W.nsIn K mainGlobals "_law_most" = some (some (.ref f_47))) (l_47 : K.lookup f_47 = some ⟨oc_47, od_47, .func (PySem.W.fnOf "_law_most" "_law_most" (defArgs (top 47)) (defBody (top 47)) (defScope (top 47)) .none kV_47 dc_47 pm_47 an_47 cd_47 ct_47), sl_47⟩) (c_47 : PySem.W.codeIn K cd_47 "_law_most" = true) (k_47 : PySem.W.keepIn K (.ref f_47) = true)
  (a_48 : PySem.W.nsIn K mainGlobals "_law_split_three" = some (some (.ref f_48))) (l_48 : K.lookup f_48 = some ⟨oc_48, od_48, .func (PySem.W.fnOf "_law_split_three" "_law_split_three" (defArgs (top 48)) (defBody (top 48)) (defScope (top 48)) .none kV_48 dc_48 pm_48 an_48 cd_48 ct_48), sl_48⟩) (c_48 : PySem.W.codeIn K cd_48 "_law_split_three" = true) (k_48 : PySem.W.keepIn K (.ref f_48) = true)
  (a_49 : PySem.W.nsIn K mainGlobals "_law_odd" = some (some (.ref f_49))) (l_49 : K.lookup f_49 = some ⟨oc_49, od_49, .func (PySem.W.fnOf "_law_odd" "_law_odd" (defArgs (top 49)) (defBody (top 49)) (defScope (top 49)) .none kV_49 dc_49 pm_49 an_49 cd_49 ct_49), sl_49⟩) (c_49 : PySem.W.codeIn K cd_49 "_law_odd" = true) (k_49 : PySem.W.keepIn K (.ref f_49) = true)
  (a_50 : PySem.W.nsIn K mainGlobals "_law_agreeing" = some (some (.ref f_50))) (l_50 : K.lookup f_50 = some ⟨oc_50, od_50, .func (PySem.W.fnOf "_law_agreeing" "_law_agreeing" (defArgs (top 50)) (defBody (top 50)) (defScope (top 50)) .none kV_50 dc_50 pm_50 an_50 cd_50 ct_50), sl_50⟩) (c_50 : PySem.W.codeIn K cd_50 "_law_agreeing" = true) (k_50 : PySem.W.keepIn K (.ref f_50) = true)
  (a_51 : PySem.W.nsIn K mainGlobals "_law_is_part" = some (some (.ref f_51))) (l_51 : K.lookup f_51 = some ⟨oc_51, od_51, .func (PySem.W.fnOf "_law_is_part" "_law_is_part" (defArgs (top 51)) (defBody (top 51)) (defScope (top 51)) .none kV_51 dc_51 pm_51 an_51 cd_51 ct_51), sl_51⟩) (c_51 : PySem.W.codeIn K cd_51 "_law_is_part" = true) (k_51 : PySem.W.keepIn K (.ref f_51) = true)
  (a_52 : PySem.W.nsIn K mainGlobals "_law_part_of" = some (some (.ref f_52))) (l_52 : K.lookup f_52 = some ⟨oc_52, od_52, .func (PySem.W.fnOf "_law_part_of" "_law_part_of" (defArgs (top 52)) (defBody (top 52)) (defScope (top 52)) .none kV_52 dc_52 pm_52 an_52 cd_52 ct_52), sl_52⟩) (c_52 : PySem.W.codeIn K cd_52 "_law_part_of" = true) (k_52 : PySem.W.keepIn K (.ref f_52) = true)
  (a_53 : PySem.W.nsIn K mainGlobals "_law_smallest" = some (some (.ref f_53))) (l_53 : K.lookup f_53 = some ⟨oc_53, od_53, .func (PySem.W.fnOf "_law_smallest" "_law_smallest" (defArgs (top 53)) (defBody (top 53)) (defScope (top 53)) .none kV_53 dc_53 pm_53 an_53 cd_53 ct_53), sl_53⟩) (c_53 : PySem.W.codeIn K cd_53 "_law_smallest" = true) (k_53 : PySem.W.keepIn K (.ref f_53) = true)
  (a_law : PySem.W.nsIn K mainGlobals "law" = some (some (.ref f_law))) (l_law : K.lookup f_law = some ⟨oc_law, od_law, .func (PySem.W.fnOf "law" "law" (defArgs (top 54)) (defBody (top 54)) (defScope (top 54)) .none kV_law dc_law pm_law an_law cd_law ct_law), sl_law⟩) (c_law : PySem.W.codeIn K cd_law "law" = true) (k_law : PySem.W.keepIn K (.ref f_law) = true)
  (ca_Barred : PySem.W.nsIn K mainGlobals "Barred" = some (some (.ref c_Barred)))
  (xx_Barred : xIn K c_Barred = true)
  (xga_Barred : PySem.W.findIn K (.ref c_Barred) "__getattribute__" = some (some (.builtin "BaseException.__getattribute__")))
  (xgt_Barred : PySem.W.findIn K (.ref c_Barred) "__getattr__" = some none)
  (xsa_Barred : PySem.W.findIn K (.ref c_Barred) "__setattr__" = some (some (.builtin "object.__setattr__")))
  (xmb_Barred : PySem.W.mroIn K c_Barred (.type "BaseException") = some true)
  (xmo_Barred : PySem.W.mroIn K c_Barred (.type "object") = some true)
  (xkp_Barred : PySem.W.keepIn K (.ref c_Barred) = true)
  (xcc_Barred : PySem.W.findIn K (.ref c_Barred) "__class__" = some (some (.builtin "object.__class__")))
  (xcg_Barred : PySem.W.specialIn K (.builtin "object.__class__") "__get__" = some (some (.builtin "getset_descriptor.__get__")))
  (xct_Barred : PySem.W.takesIn K (.builtin "object.__class__") = some true)
  (a_Barred_init : PySem.W.findIn K (.ref c_Barred) "__init__" = some (some (.ref f_Barred_init))) (l_Barred_init : K.lookup f_Barred_init = some ⟨oc_Barred_init, od_Barred_init, .func (PySem.W.fnOf "__init__" "Barred.__init__" (defArgs (subSt (top 10) 0)) (defBody (subSt (top 10) 0)) (defScope (subSt (top 10) 0)) .none kV_Barred_init dc_Barred_init pm_Barred_init an_Barred_init cd_Barred_init ct_Barred_init), sl_Barred_init⟩) (c_Barred_init : PySem.W.codeIn K cd_Barred_init "Barred.__init__" = true) (k_Barred_init : PySem.W.keepIn K (.ref f_Barred_init) = true) (n_Barred_init : PySem.W.typeIn K (.ref f_Barred_init) = some (.type "function")) (tk_Barred_init : PySem.W.takerIn K c_Barred "part" = some none) (na_Barred_init : NoAttr K c_Barred "part")
  (ca_JudgeError : PySem.W.nsIn K mainGlobals "JudgeError" = some (some (.ref c_JudgeError)))
  (xx_JudgeError : xIn K c_JudgeError = true)
  (xga_JudgeError : PySem.W.findIn K (.ref c_JudgeError) "__getattribute__" = some (some (.builtin "BaseException.__getattribute__")))
  (xgt_JudgeError : PySem.W.findIn K (.ref c_JudgeError) "__getattr__" = some none)
  (xsa_JudgeError : PySem.W.findIn K (.ref c_JudgeError) "__setattr__" = some (some (.builtin "object.__setattr__")))
  (xmb_JudgeError : PySem.W.mroIn K c_JudgeError (.type "BaseException") = some true)
  (xmo_JudgeError : PySem.W.mroIn K c_JudgeError (.type "object") = some true)
  (xkp_JudgeError : PySem.W.keepIn K (.ref c_JudgeError) = true)
  (xcc_JudgeError : PySem.W.findIn K (.ref c_JudgeError) "__class__" = some (some (.builtin "object.__class__")))
  (xcg_JudgeError : PySem.W.specialIn K (.builtin "object.__class__") "__get__" = some (some (.builtin "getset_descriptor.__get__")))
  (xct_JudgeError : PySem.W.takesIn K (.builtin "object.__class__") = some true)
  (ca_BadRow : PySem.W.nsIn K mainGlobals "BadRow" = some (some (.ref c_BadRow)))
  (ca_Even : PySem.W.nsIn K mainGlobals "Even" = some (some (.ref c_Even)))
  (ca_NoText : PySem.W.nsIn K mainGlobals "NoText" = some (some (.ref c_NoText)))
  (ca_OutOfBounds : PySem.W.nsIn K mainGlobals "OutOfBounds" = some (some (.ref c_OutOfBounds)))
  (ki_Barred_Barred : PySem.W.kitOne K (.ref c_Barred) (.ref c_Barred) = some true)
  (ki_Barred_BadRow : PySem.W.kitOne K (.ref c_Barred) (.ref c_BadRow) = some false)
  (ki_Barred_Even : PySem.W.kitOne K (.ref c_Barred) (.ref c_Even) = some false)
  (ki_Barred_NoText : PySem.W.kitOne K (.ref c_Barred) (.ref c_NoText) = some false)
  (ki_Barred_OutOfBounds : PySem.W.kitOne K (.ref c_Barred) (.ref c_OutOfBounds) = some false)
  (ki_Barred_ValueError : PySem.W.kitOne K (.ref c_Barred) (.type "ValueError") = some true)
  (km_Barred_JudgeError : PySem.W.mroIn K c_Barred (.ref c_JudgeError) = some true)
  (z_len : PySem.W.nsIn K mainGlobals "len" = some none)
  (z_range : PySem.W.nsIn K mainGlobals "range" = some none)
  (z_tuple : PySem.W.nsIn K mainGlobals "tuple" = some none)
  (z_list : PySem.W.nsIn K mainGlobals "list" = some none)
  (z_sorted : PySem.W.nsIn K mainGlobals "sorted" = some none)
  (z_set : PySem.W.nsIn K mainGlobals "set" = some none)
  (z_enumerate : PySem.W.nsIn K mainGlobals "enumerate" = some none)
  (z_isinstance : PySem.W.nsIn K mainGlobals "isinstance" = some none)
  (z_bool : PySem.W.nsIn K mainGlobals "bool" = some none)
  (z_int : PySem.W.nsIn K mainGlobals "int" = some none)
  (z_all : PySem.W.nsIn K mainGlobals "all" = some none)
  (z_any : PySem.W.nsIn K mainGlobals "any" = some none)
  (z_ValueError : PySem.W.nsIn K mainGlobals "ValueError" = some none) :
  ∃ fd : FuncData, (∀ (s : Shared) (v : Value), BindsTo s fd ⟨[v], []⟩ [("_law_script", v)]) ∧ ∀ base : Heap, K.In base → base.Ns mainGlobals mg → FnOk l.prog w K mg base CX0 47 fa fd ["_law_script"] (spLaw K) := by
 have e := hfa.symm.trans (PySem.W.mg_of X G a_law)
 cases e
 have D_who_say : Def K mg "who_say" (top 1) ["judges", "number", "truth"] := def_mk X G a_1 l_1 c_1 k_1 fun _ _ _ _ _ _ us hl => by obtain ⟨_, _, _, e⟩ := len3 hl; rw [e]; rfl
 have D_most_say_yes : Def K mg "most_say_yes" (top 2) ["judges", "number"] := def_mk X G a_2 l_2 c_2 k_2 fun _ _ _ _ _ _ us hl => by obtain ⟨_, _, e⟩ := len2 hl; rw [e]; rfl
 have D_most : Def K mg "most" (top 3) ["judges"] := def_mk X G a_3 l_3 c_3 k_3 fun _ _ _ _ _ _ us hl => by obtain ⟨_, e⟩ := len1 hl; rw [e]; rfl
 have D_letters_in : Def K mg "letters_in" (top 12) ["saying"] := def_mk X G a_12 l_12 c_12 k_12 fun _ _ _ _ _ _ us hl => by obtain ⟨_, e⟩ := len1 hl; rw [e]; rfl
 have D_names_in : Def K mg "names_in" (top 13) ["saying"] := def_mk X G a_13 l_13 c_13 k_13 fun _ _ _ _ _ _ us hl => by obtain ⟨_, e⟩ := len1 hl; rw [e]; rfl
 have D_is_so : Def K mg "is_so" (top 14) ["saying", "held"] := def_mk X G a_14 l_14 c_14 k_14 fun _ _ _ _ _ _ us hl => by obtain ⟨_, _, e⟩ := len2 hl; rw [e]; rfl
 have D_ways_to_hold : Def K mg "ways_to_hold" (top 16) ["names"] := def_mk X G a_16 l_16 c_16 k_16 fun _ _ _ _ _ _ us hl => by obtain ⟨_, e⟩ := len1 hl; rw [e]; rfl
 have D_held_by : Def K mg "held_by" (top 17) ["number", "names"] := def_mk X G a_17 l_17 c_17 k_17 fun _ _ _ _ _ _ us hl => by obtain ⟨_, _, e⟩ := len2 hl; rw [e]; rfl
 have D_names_of : Def K mg "names_of" (top 19) ["sayings"] := def_mk X G a_19 l_19 c_19 k_19 fun _ _ _ _ _ _ us hl => by obtain ⟨_, e⟩ := len1 hl; rw [e]; rfl
 have D_all_held : Def K mg "all_held" (top 20) ["sayings"] := def_mk X G a_20 l_20 c_20 k_20 fun _ _ _ _ _ _ us hl => by obtain ⟨_, e⟩ := len1 hl; rw [e]; rfl
 have D_row_of : Def K mg "row_of" (top 21) ["sayings", "held"] := def_mk X G a_21 l_21 c_21 k_21 fun _ _ _ _ _ _ us hl => by obtain ⟨_, _, e⟩ := len2 hl; rw [e]; rfl
 have D_fit_rows : Def K mg "fit_rows" (top 22) ["sayings"] := def_mk X G a_22 l_22 c_22 k_22 fun _ _ _ _ _ _ us hl => by obtain ⟨_, e⟩ := len1 hl; rw [e]; rfl
 have D_agrees : Def K mg "agrees" (top 23) ["row", "part"] := def_mk X G a_23 l_23 c_23 k_23 fun _ _ _ _ _ _ us hl => by obtain ⟨_, _, e⟩ := len2 hl; rw [e]; rfl
 have D_any_agrees : Def K mg "any_agrees" (top 24) ["rows", "part"] := def_mk X G a_24 l_24 c_24 k_24 fun _ _ _ _ _ _ us hl => by obtain ⟨_, _, e⟩ := len2 hl; rw [e]; rfl
 have D_truth_among : Def K mg "truth_among" (top 25) ["rows", "part", "number"] := def_mk X G a_25 l_25 c_25 k_25 fun _ _ _ _ _ _ us hl => by obtain ⟨_, _, _, e⟩ := len3 hl; rw [e]; rfl
 have D_without : Def K mg "without" (top 27) ["part", "pair"] := def_mk X G a_27 l_27 c_27 k_27 fun _ _ _ _ _ _ us hl => by obtain ⟨_, _, e⟩ := len2 hl; rw [e]; rfl
 have D_needed_against : Def K mg "needed_against" (top 28) ["rows", "part", "others"] := def_mk X G a_28 l_28 c_28 k_28 fun _ _ _ _ _ _ us hl => by obtain ⟨_, _, _, e⟩ := len3 hl; rw [e]; rfl
 have D_by_judges : Def K mg "by_judges" (top 30) ["judges", "number", "truth"] := def_mk X G a_30 l_30 c_30 k_30 fun _ _ _ _ _ _ us hl => by obtain ⟨_, _, _, e⟩ := len3 hl; rw [e]; rfl
 have D_by_part : Def K mg "by_part" (top 31) ["rows", "part", "number", "truth"] := def_mk X G a_31 l_31 c_31 k_31 fun _ _ _ _ _ _ us hl => by obtain ⟨_, _, _, _, e⟩ := len4 hl; rw [e]; rfl
 have D_grounds_answers : Def K mg "grounds_answers" (top 32) ["rows", "judges", "grounds"] := def_mk X G a_32 l_32 c_32 k_32 fun _ _ _ _ _ _ us hl => by obtain ⟨_, _, _, e⟩ := len3 hl; rw [e]; rfl
 have D_grounds_reason : Def K mg "grounds_reason" (top 33) ["rows", "judges", "part", "number", "truth"] := def_mk X G a_33 l_33 c_33 k_33 fun _ _ _ _ _ _ us hl => by obtain ⟨_, _, _, _, _, e⟩ := len5 hl; rw [e]; rfl
 have D_grounds_first : Def K mg "grounds_first" (top 34) ["sayings", "judges", "grounds"] := def_mk X G a_34 l_34 c_34 k_34 fun _ _ _ _ _ _ us hl => by obtain ⟨_, _, _, e⟩ := len3 hl; rw [e]; rfl
 have D_law_cell : Def K mg "_law_cell" (top 36) ["_law_script", "_law_k"] := def_mk X G a_36 l_36 c_36 k_36 fun _ _ _ _ _ _ us hl => by obtain ⟨_, _, e⟩ := len2 hl; rw [e]; rfl
 have D_law_pick : Def K mg "_law_pick" (top 37) ["_law_script", "_law_k", "_law_many"] := def_mk X G a_37 l_37 c_37 k_37 fun _ _ _ _ _ _ us hl => by obtain ⟨_, _, _, e⟩ := len3 hl; rw [e]; rfl
 have D_law_names : Def K mg "_law_names" (top 38) ["_law_script", "_law_k", "_law_many"] := def_mk X G a_38 l_38 c_38 k_38 fun _ _ _ _ _ _ us hl => by obtain ⟨_, _, _, e⟩ := len3 hl; rw [e]; rfl
 have D_law_saying : Def K mg "_law_saying" (top 39) ["_law_script", "_law_k", "_law_deep", "_law_names_here"] := def_mk X G a_39 l_39 c_39 k_39 fun _ _ _ _ _ _ us hl => by obtain ⟨_, _, _, _, e⟩ := len4 hl; rw [e]; rfl
 have D_law_joined : Def K mg "_law_joined" (top 40) ["_law_word", "_law_some"] := def_mk X G a_40 l_40 c_40 k_40 fun _ _ _ _ _ _ us hl => by obtain ⟨_, _, e⟩ := len2 hl; rw [e]; rfl
 have D_law_turned : Def K mg "_law_turned" (top 41) ["_law_script", "_law_k", "_law_saying_here"] := def_mk X G a_41 l_41 c_41 k_41 fun _ _ _ _ _ _ us hl => by obtain ⟨_, _, _, e⟩ := len3 hl; rw [e]; rfl
 have D_law_chain : Def K mg "_law_chain" (top 42) ["_law_script", "_law_names_here"] := def_mk X G a_42 l_42 c_42 k_42 fun _ _ _ _ _ _ us hl => by obtain ⟨_, _, e⟩ := len2 hl; rw [e]; rfl
 have D_law_sayings : Def K mg "_law_sayings" (top 43) ["_law_script"] := def_mk X G a_43 l_43 c_43 k_43 fun _ _ _ _ _ _ us hl => by obtain ⟨_, e⟩ := len1 hl; rw [e]; rfl
 have D_law_so : Def K mg "_law_so" (top 44) ["_law_saying_here", "_law_held"] := def_mk X G a_44 l_44 c_44 k_44 fun _ _ _ _ _ _ us hl => by obtain ⟨_, _, e⟩ := len2 hl; rw [e]; rfl
 have D_law_letters : Def K mg "_law_letters" (top 45) ["_law_saying_here"] := def_mk X G a_45 l_45 c_45 k_45 fun _ _ _ _ _ _ us hl => by obtain ⟨_, e⟩ := len1 hl; rw [e]; rfl
 have D_law_rows : Def K mg "_law_rows" (top 46) ["_law_sayings_here"] := def_mk X G a_46 l_46 c_46 k_46 fun _ _ _ _ _ _ us hl => by obtain ⟨_, e⟩ := len1 hl; rw [e]; rfl
 have D_law_most : Def K mg "_law_most" (top 47) ["_law_judges"] := def_mk X G a_47 l_47 c_47 k_47 fun _ _ _ _ _ _ us hl => by obtain ⟨_, e⟩ := len1 hl; rw [e]; rfl
 have D_law_split_three : Def K mg "_law_split_three" (top 48) ["_law_script", "_law_rows_here"] := def_mk X G a_48 l_48 c_48 k_48 fun _ _ _ _ _ _ us hl => by obtain ⟨_, _, e⟩ := len2 hl; rw [e]; rfl
 have D_law_odd : Def K mg "_law_odd" (top 49) ["_law_script", "_law_rows_here"] := def_mk X G a_49 l_49 c_49 k_49 fun _ _ _ _ _ _ us hl => by obtain ⟨_, _, e⟩ := len2 hl; rw [e]; rfl
 have D_law_agreeing : Def K mg "_law_agreeing" (top 50) ["_law_rows_here", "_law_part"] := def_mk X G a_50 l_50 c_50 k_50 fun _ _ _ _ _ _ us hl => by obtain ⟨_, _, e⟩ := len2 hl; rw [e]; rfl
 have D_law_is_part : Def K mg "_law_is_part" (top 51) ["_law_part"] := def_mk X G a_51 l_51 c_51 k_51 fun _ _ _ _ _ _ us hl => by obtain ⟨_, e⟩ := len1 hl; rw [e]; rfl
 have D_law_part_of : Def K mg "_law_part_of" (top 52) ["_law_sayings_here", "_law_judges", "_law_grounds"] := def_mk X G a_52 l_52 c_52 k_52 fun _ _ _ _ _ _ us hl => by obtain ⟨_, _, _, e⟩ := len3 hl; rw [e]; rfl
 have D_law_smallest : Def K mg "_law_smallest" (top 53) ["_law_rows_here", "_law_part", "_law_answers"] := def_mk X G a_53 l_53 c_53 k_53 fun _ _ _ _ _ _ us hl => by obtain ⟨_, _, _, e⟩ := len3 hl; rw [e]; rfl
 have mg_Barred := PySem.W.mg_of X G ca_Barred
 have x_Barred : XCls K c_Barred := xcls_mk xx_Barred xga_Barred xgt_Barred xsa_Barred xmb_Barred xmo_Barred xkp_Barred xcc_Barred xcg_Barred xct_Barred
 have D_Barred_init : DefI K c_Barred "Barred.__init__" (subSt (top 10) 0) ["self", "part"] := defI_mk a_Barred_init l_Barred_init c_Barred_init k_Barred_init n_Barred_init x_Barred fun _ _ _ _ _ _ us hl => by obtain ⟨_, _, e⟩ := len2 hl; rw [e]; rfl
 have mg_JudgeError := PySem.W.mg_of X G ca_JudgeError
 have x_JudgeError : XCls K c_JudgeError := xcls_mk xx_JudgeError xga_JudgeError xgt_JudgeError xsa_JudgeError xmb_JudgeError xmo_JudgeError xkp_JudgeError xcc_JudgeError xcg_JudgeError xct_JudgeError
 have mg_BadRow := PySem.W.mg_of X G ca_BadRow
 have mg_Even := PySem.W.mg_of X G ca_Even
 have mg_NoText := PySem.W.mg_of X G ca_NoText
 have mg_OutOfBounds := PySem.W.mg_of X G ca_OutOfBounds
 have mg_len := PySem.W.mg_none_of X G z_len
 have mg_range := PySem.W.mg_none_of X G z_range
 have mg_tuple := PySem.W.mg_none_of X G z_tuple
 have mg_list := PySem.W.mg_none_of X G z_list
 have mg_sorted := PySem.W.mg_none_of X G z_sorted
 have mg_set := PySem.W.mg_none_of X G z_set
 have mg_enumerate := PySem.W.mg_none_of X G z_enumerate
 have mg_isinstance := PySem.W.mg_none_of X G z_isinstance
 have mg_bool := PySem.W.mg_none_of X G z_bool
 have mg_int := PySem.W.mg_none_of X G z_int
 have mg_all := PySem.W.mg_none_of X G z_all
 have mg_any := PySem.W.mg_none_of X G z_any
 have mg_ValueError := PySem.W.mg_none_of X G z_ValueError
 have F_law := fun_mk (st := top 54) l_law c_law k_law
 refine ⟨PySem.W.fnOf "law" "law" (defArgs (top 54)) (defBody (top 54)) (defScope (top 54)) .none kV_law dc_law pm_law an_law cd_law ct_law, fun s v => .of_eq rfl, fun base _ _ => ?_⟩
 have C_cell := ok_cell (P := l.prog) (w := w) (base := base) D_law_cell mg_len
 have C_pick := ok_pick D_law_pick C_cell
 have C_names := ok_jnames D_law_names C_pick mg_len mg_range
 have C_saying := ok_jsaying (P := l.prog) (w := w) (base := base) D_law_saying C_pick mg_len 4
 have C_turned := ok_turned D_law_turned C_pick
 have C_joined := ok_joined (P := l.prog) (w := w) (base := base) D_law_joined
 have C_chain := ok_chain D_law_chain C_pick C_turned C_joined C_saying mg_len mg_range mg_tuple
 have C_says := ok_jsays D_law_sayings C_pick C_names C_chain C_saying mg_range mg_tuple
 have C_rows := ok_jrows D_law_rows (ok_jletters (P := l.prog) (w := w) (base := base) D_law_letters 40) (ok_jso (P := l.prog) (w := w) (base := base) D_law_so 40) mg_sorted mg_set mg_tuple
 have C_so := ok_is_so (P := l.prog) (w := w) (base := base) D_is_so 40
 have C_namesin := ok_namesin (P := l.prog) (w := w) (base := base) D_names_in (ok_letters D_letters_in 40) mg_sorted mg_set mg_tuple
 have C_namesof := ok_namesof D_names_of C_namesin mg_sorted mg_set mg_tuple
 have C_heldby := ok_heldby (P := l.prog) (w := w) (base := base) D_held_by mg_tuple
 have C_allheld := ok_allheld D_all_held C_namesof C_heldby (ok_ways D_ways_to_hold) mg_range
 have C_rowof := ok_rowof D_row_of C_so mg_tuple
 have C_fit := ok_fitrows D_fit_rows C_allheld C_rowof mg_sorted mg_set
 have C_who := ok_who (P := l.prog) (w := w) (base := base) D_who_say mg_enumerate
 have C_mostyes := ok_mostyes D_most_say_yes C_who mg_len
 have C_most := ok_most D_most C_mostyes mg_len mg_range mg_tuple
 have C_lmost := ok_jlmost (P := l.prog) (w := w) (base := base) D_law_most mg_len mg_range mg_tuple
 have C_split := ok_split D_law_split_three C_cell C_lmost mg_len mg_range
 have C_odd := ok_odd D_law_odd C_cell C_pick C_split mg_len mg_range mg_tuple mg_list
 have C_anyag := ok_any_agrees D_any_agrees (ok_agrees (P := l.prog) (w := w) (base := base) D_agrees)
 have C_needed := ok_needed D_needed_against (ok_without (P := l.prog) (w := w) (base := base) D_without mg_tuple) C_anyag
 have C_agreeing := ok_agreeing (P := l.prog) (w := w) (base := base) D_law_agreeing mg_len
 have C_ispart := ok_ispart (P := l.prog) (w := w) (base := base) D_law_is_part mg_isinstance mg_tuple mg_len mg_bool mg_int mg_sorted mg_set
 have C_truth := ok_truth_among D_truth_among (ok_agrees (P := l.prog) (w := w) (base := base) D_agrees) mg_all mg_any
 have C_barred := ok_barredI (P := l.prog) (w := w) (mg := mg) (base := base) D_Barred_init x_Barred tk_Barred_init
 have C_answers := ok_ganswers D_grounds_answers C_most C_anyag C_needed C_barred mg_Barred x_Barred mg_tuple
 have C_greason := ok_greason D_grounds_reason (ok_by_judges D_by_judges C_who mg_tuple) (ok_by_part D_by_part C_needed)
 have C_gfirst := ok_gfirst D_grounds_first C_fit C_answers C_truth C_greason mg_tuple mg_len mg_range mg_enumerate
 have C_partof := ok_partof D_law_part_of C_gfirst mg_Barred mg_JudgeError mg_BadRow mg_Even mg_NoText mg_OutOfBounds mg_ValueError mg_isinstance x_Barred x_JudgeError na_Barred_init km_Barred_JudgeError ki_Barred_Barred ki_Barred_BadRow ki_Barred_Even ki_Barred_NoText ki_Barred_OutOfBounds ki_Barred_ValueError
 have C_smallest := ok_smallest D_law_smallest C_ispart C_agreeing mg_len
 exact ok_law F_law C_says C_rows C_odd C_lmost C_partof C_agreeing C_smallest C_barred mg_Barred x_Barred na_Barred_init mg_len mg_range mg_tuple mg_list
theorem walk {l : PySem.W.OpenLaw} {q : Program} {loose : List Str} {XP : (Str → Option Value) → Heap → Prop} {YP : World → Heap → Prop} {d : DefRec} {K : Params → PySem.W.Frag} (hn : l.most = some 63) (hdf : d.params.defaults = [])
  (hY : ∀ (w : World) (h : Heap), YP w h → (K w.params).In h)
  (F : ∀ (w : World) (mg : Str → Option Value) (fa : Addr) (h : Heap), (K w.params).In h → h.Ns mainGlobals mg → mg d.name = some (.ref fa) →
   ∃ fd : FuncData, (∀ (s : Shared) (u : Value), BindsTo s fd ⟨[u], []⟩ [("_law_script", u)]) ∧ ∀ base : Heap, (K w.params).In base → base.Ns mainGlobals mg → FnOk l.prog w (K w.params) mg base CX0 47 fa fd ["_law_script"] (spLaw (K w.params))) :
  PySem.W.WalkO q loose XP YP l.row.toRowW d [] (fun f vs => PySem.call f vs) :=
 L2.walk_of (n := 63) (k := 47) (x := "_law_script") (CX := fun _ => CX0) (sp := fun w => spLaw (K w.params)) hn (by decide) hdf ⟨rfl, by decide, by decide⟩ hY F (fun _ _ a ns hl _ hS => ⟨a, ns, rfl, hS, hl, fun _ => rfl⟩) fun _ _ _ _ _ z => z
end Kx
open PySem PySem.W PyProof.Rows
set_option maxRecDepth 100000 in
set_option maxHeartbeats 0 in
theorem PySem.Challenge.cw_manyjudges_k24_barred_holds : PySem.Challenge.rw_manyjudges_k24_barred.Holds := by
 w_on; o_law; k_head; (case hw => w_witness2)
 k_fill
 refine Kx.walk (l := PySem.Challenge.rw_manyjudges_k24_barred) rfl rfl (fun w h Y => PySem.W.kIn_of Y) ?F
 case F =>
  intro w mg fa h KX G hmg
  refine' Kx.all_mk KX G hmg ?a_1 ?l_1 ?c_1 ?k_1 ?a_2 ?l_2 ?c_2 ?k_2 ?a_3 ?l_3 ?c_3 ?k_3 ?a_12 ?l_12 ?c_12 ?k_12 ?a_13 ?l_13 ?c_13 ?k_13 ?a_14 ?l_14 ?c_14 ?k_14 ?a_16 ?l_16 ?c_16 ?k_16 ?a_17 ?l_17 ?c_17 ?k_17 ?a_19 ?l_19 ?c_19 ?k_19 ?a_20 ?l_20 ?c_20 ?k_20 ?a_21 ?l_21 ?c_21 ?k_21 ?a_22 ?l_22 ?c_22 ?k_22 ?a_23 ?l_23 ?c_23 ?k_23 ?a_24 ?l_24 ?c_24 ?k_24 ?a_25 ?l_25 ?c_25 ?k_25 ?a_27 ?l_27 ?c_27 ?k_27 ?a_28 ?l_28 ?c_28 ?k_28 ?a_30 ?l_30 ?c_30 ?k_30 ?a_31 ?l_31 ?c_31 ?k_31 ?a_32 ?l_32 ?c_32 ?k_32 ?a_33 ?l_33 ?c_33 ?k_33 ?a_34 ?l_34 ?c_34 ?k_34 ?a_36 ?l_36 ?c_36 ?k_36 ?a_37 ?l_37 ?c_37 ?k_37 ?a_38 ?l_38 ?c_38 ?k_38 ?a_39 ?l_39 ?c_39 ?k_39 ?a_40 ?l_40 ?c_40 ?k_40 ?a_41 ?l_41 ?c_41 ?k_41 ?a_42 ?l_42 ?c_42 ?k_42 ?a_43 ?l_43 ?c_43 ?k_43 ?a_44 ?l_44 ?c_44 ?k_44 ?a_45 ?l_45 ?c_45 ?k_45 ?a_46 ?l_46 ?c_46 ?k_46 ?a_47 ?l_47 ?c_47 ?k_47 ?a_48 ?l_48 ?c_48 ?k_48 ?a_49 ?l_49 ?c_49 ?k_49 ?a_50 ?l_50 ?c_50 ?k_50 ?a_51 ?l_51 ?c_51 ?k_51 ?a_52 ?l_52 ?c_52 ?k_52 ?a_53 ?l_53 ?c_53 ?k_53 ?a_law ?l_law ?c_law ?k_law ?ca_Barred ?xx_Barred ?xga_Barred ?xgt_Barred ?xsa_Barred ?xmb_Barred ?xmo_Barred ?xkp_Barred ?xcc_Barred ?xcg_Barred ?xct_Barred ?a_Barred_init ?l_Barred_init ?c_Barred_init ?k_Barred_init ?n_Barred_init ?tk_Barred_init ?na_Barred_init ?ca_JudgeError ?xx_JudgeError ?xga_JudgeError ?xgt_JudgeError ?xsa_JudgeError ?xmb_JudgeError ?xmo_JudgeError ?xkp_JudgeError ?xcc_JudgeError ?xcg_JudgeError ?xct_JudgeError ?ca_BadRow ?ca_Even ?ca_NoText ?ca_OutOfBounds ?ki_Barred_Barred ?ki_Barred_BadRow ?ki_Barred_Even ?ki_Barred_NoText ?ki_Barred_OutOfBounds ?ki_Barred_ValueError ?km_Barred_JudgeError ?z_len ?z_range ?z_tuple ?z_list ?z_sorted ?z_set ?z_enumerate ?z_isinstance ?z_bool ?z_int ?z_all ?z_any ?z_ValueError
  (case a_1 => k_is); (case l_1 => k_is); (case c_1 => k_is); (case k_1 => k_is)
  (case a_2 => k_is); (case l_2 => k_is); (case c_2 => k_is); (case k_2 => k_is)
  (case a_3 => k_is); (case l_3 => k_is); (case c_3 => k_is); (case k_3 => k_is)
  (case a_12 => k_is); (case l_12 => k_is); (case c_12 => k_is); (case k_12 => k_is)
  (case a_13 => k_is); (case l_13 => k_is); (case c_13 => k_is); (case k_13 => k_is)
  (case a_14 => k_is); (case l_14 => k_is); (case c_14 => k_is); (case k_14 => k_is)
  (case a_16 => k_is); (case l_16 => k_is); (case c_16 => k_is); (case k_16 => k_is)
  (case a_17 => k_is); (case l_17 => k_is); (case c_17 => k_is); (case k_17 => k_is)
  (case a_19 => k_is); (case l_19 => k_is); (case c_19 => k_is); (case k_19 => k_is)
  (case a_20 => k_is); (case l_20 => k_is); (case c_20 => k_is); (case k_20 => k_is)
  (case a_21 => k_is); (case l_21 => k_is); (case c_21 => k_is); (case k_21 => k_is)
  (case a_22 => k_is); (case l_22 => k_is); (case c_22 => k_is); (case k_22 => k_is)
  (case a_23 => k_is); (case l_23 => k_is); (case c_23 => k_is); (case k_23 => k_is)
  (case a_24 => k_is); (case l_24 => k_is); (case c_24 => k_is); (case k_24 => k_is)
  (case a_25 => k_is); (case l_25 => k_is); (case c_25 => k_is); (case k_25 => k_is)
  (case a_27 => k_is); (case l_27 => k_is); (case c_27 => k_is); (case k_27 => k_is)
  (case a_28 => k_is); (case l_28 => k_is); (case c_28 => k_is); (case k_28 => k_is)
  (case a_30 => k_is); (case l_30 => k_is); (case c_30 => k_is); (case k_30 => k_is)
  (case a_31 => k_is); (case l_31 => k_is); (case c_31 => k_is); (case k_31 => k_is)
  (case a_32 => k_is); (case l_32 => k_is); (case c_32 => k_is); (case k_32 => k_is)
  (case a_33 => k_is); (case l_33 => k_is); (case c_33 => k_is); (case k_33 => k_is)
  (case a_34 => k_is); (case l_34 => k_is); (case c_34 => k_is); (case k_34 => k_is)
  (case a_36 => k_is); (case l_36 => k_is); (case c_36 => k_is); (case k_36 => k_is)
  (case a_37 => k_is); (case l_37 => k_is); (case c_37 => k_is); (case k_37 => k_is)
  (case a_38 => k_is); (case l_38 => k_is); (case c_38 => k_is); (case k_38 => k_is)
  (case a_39 => k_is); (case l_39 => k_is); (case c_39 => k_is); (case k_39 => k_is)
  (case a_40 => k_is); (case l_40 => k_is); (case c_40 => k_is); (case k_40 => k_is)
  (case a_41 => k_is); (case l_41 => k_is); (case c_41 => k_is); (case k_41 => k_is)
  (case a_42 => k_is); (case l_42 => k_is); (case c_42 => k_is); (case k_42 => k_is)
  (case a_43 => k_is); (case l_43 => k_is); (case c_43 => k_is); (case k_43 => k_is)
  (case a_44 => k_is); (case l_44 => k_is); (case c_44 => k_is); (case k_44 => k_is)
  (case a_45 => k_is); (case l_45 => k_is); (case c_45 => k_is); (case k_45 => k_is)
  (case a_46 => k_is); (case l_46 => k_is); (case c_46 => k_is); (case k_46 => k_is)
  (case a_47 => k_is); (case l_47 => k_is); (case c_47 => k_is); (case k_47 => k_is)
  (case a_48 => k_is); (case l_48 => k_is); (case c_48 => k_is); (case k_48 => k_is)
  (case a_49 => k_is); (case l_49 => k_is); (case c_49 => k_is); (case k_49 => k_is)
  (case a_50 => k_is); (case l_50 => k_is); (case c_50 => k_is); (case k_50 => k_is)
  (case a_51 => k_is); (case l_51 => k_is); (case c_51 => k_is); (case k_51 => k_is)
  (case a_52 => k_is); (case l_52 => k_is); (case c_52 => k_is); (case k_52 => k_is)
  (case a_53 => k_is); (case l_53 => k_is); (case c_53 => k_is); (case k_53 => k_is)
  (case a_law => k_is); (case l_law => k_is); (case c_law => k_is); (case k_law => k_is)
  (case ca_Barred => k_is)
  (case xx_Barred => kernel_rfl); (case xga_Barred => k_is); (case xgt_Barred => k_is); (case xsa_Barred => k_is); (case xmb_Barred => k_is); (case xmo_Barred => k_is); (case xkp_Barred => k_is); (case xcc_Barred => k_is); (case xcg_Barred => k_is); (case xct_Barred => k_is)
  (case a_Barred_init => k_is); (case l_Barred_init => k_is); (case c_Barred_init => k_is); (case k_Barred_init => k_is); (case n_Barred_init => k_is); (case tk_Barred_init => k_is); (case na_Barred_init => (show PySem.W.findIn _ _ _ = _; k_is))
  (case ca_JudgeError => k_is)
  (case xx_JudgeError => kernel_rfl); (case xga_JudgeError => k_is); (case xgt_JudgeError => k_is); (case xsa_JudgeError => k_is); (case xmb_JudgeError => k_is); (case xmo_JudgeError => k_is); (case xkp_JudgeError => k_is); (case xcc_JudgeError => k_is); (case xcg_JudgeError => k_is); (case xct_JudgeError => k_is)
  (case ca_BadRow => k_is)
  (case ca_Even => k_is)
  (case ca_NoText => k_is)
  (case ca_OutOfBounds => k_is)
  (case ki_Barred_Barred => kernel_rfl)
  (case ki_Barred_BadRow => kernel_rfl)
  (case ki_Barred_Even => kernel_rfl)
  (case ki_Barred_NoText => kernel_rfl)
  (case ki_Barred_OutOfBounds => kernel_rfl)
  (case ki_Barred_ValueError => kernel_rfl)
  (case km_Barred_JudgeError => k_is)
  (case z_len => k_is)
  (case z_range => k_is)
  (case z_tuple => k_is)
  (case z_list => k_is)
  (case z_sorted => k_is)
  (case z_set => k_is)
  (case z_enumerate => k_is)
  (case z_isinstance => k_is)
  (case z_bool => k_is)
  (case z_int => k_is)
  (case z_all => k_is)
  (case z_any => k_is)
  (case z_ValueError => k_is)
#print axioms PySem.Challenge.cw_manyjudges_k24_barred_holds
