import PyProof.Rows.All
import Wide.All
import OpenK.AllK
import Wide.FinOn
import Lean
import PyProof.EqAt
import PyProof.EqKinds
import PyProof.TupleCall
import PySem.Challenge.RW_manyjudges_k66_read_as_written
set_option compiler.extract_closed false
set_option genSizeOfSpec false
set_option Elab.async false
set_option linter.all false
set_option maxRecDepth 100000
namespace PySem.W.Fast
theorem tw2014724814444063349:True:=trivial
theorem tw12492270611233897113:True:=trivial
theorem tw11684814717763209360:True:=trivial
theorem tw11843415852747406946:True:=trivial
theorem tw1406170052162414720:True:=trivial
theorem tw15869030938749797278:True:=trivial
theorem tw1211558959420984345:True:=trivial
theorem tw14773622255785295838:True:=trivial
theorem tw12960965087325707434:True:=trivial
theorem tw10314571014342362097:True:=trivial
theorem tw2560009547118951313:True:=trivial
theorem tw2585837649075637930:True:=trivial
theorem tw3936082712487396957:True:=trivial
theorem tw11021065081177604581:True:=trivial
theorem tw13872420505566709851:True:=trivial
theorem tw17897267939190618598:True:=trivial
theorem tw10367479246599880501:True:=trivial
theorem tw156974465381225878:True:=trivial
theorem tw285936698834934998:True:=trivial
theorem tw11646462851207722152:True:=trivial
theorem tw5767942864927500173:True:=trivial
theorem tw9594654974764291681:True:=trivial
theorem tw5004853443360345765:True:=trivial
theorem tw3677978312976847749:True:=trivial
theorem tw4550362328420134880:True:=trivial
theorem tw445678200005128361:True:=trivial
theorem tw4610592162946918969:True:=trivial
theorem tw8650297623409611414:True:=trivial
theorem tw7023633061390233179:True:=trivial
theorem tw4474796728619154629:True:=trivial
theorem tw8484943806079891605:True:=trivial
theorem tw4649618053016089553:True:=trivial
theorem tw708693355276967029:True:=trivial
theorem tw11868777568824617926:True:=trivial
theorem tw1015078062310981765:True:=trivial
theorem tw15430296814298574069:True:=trivial
theorem tw464580303979785324:True:=trivial
theorem tw10114154629566366027:True:=trivial
theorem tw6946415392385093644:True:=trivial
theorem tw7881564995434954261:True:=trivial
theorem tw12614732691816043845:True:=trivial
theorem tw16354737503727411151:True:=trivial
theorem tw13952454250253651196:True:=trivial
theorem tw4093959477873839518:True:=trivial
theorem tw1807140937416662255:True:=trivial
theorem tw13066205029435554423:True:=trivial
theorem tw10500010686997232665:True:=trivial
theorem tw10176707264093859791:True:=trivial
theorem tw9751437236393503536:True:=trivial
theorem tw13039136307996802792:True:=trivial
theorem tw15903457392585179701:True:=trivial
theorem tw16705546286837817262:True:=trivial
theorem tw9200750418201469820:True:=trivial
theorem tw11120627295921747331:True:=trivial
theorem tw10236124597898151017:True:=trivial
theorem tw6712126513539922421:True:=trivial
theorem tw10565698754570341383:True:=trivial
theorem tw14480373515216720857:True:=trivial
theorem tw17988940611007730420:True:=trivial
theorem tw5560432627628522314:True:=trivial
theorem tw8506806952281006580:True:=trivial
theorem tw9746448658108840597:True:=trivial
theorem tw9845395773592340072:True:=trivial
theorem tw12302719165831682045:True:=trivial
theorem tw2287901629466989968:True:=trivial
end PySem.W.Fast
section
open PySem
abbrev Da:=Value->Shared->Prop
abbrev FB:=Str->Option Value
abbrev GE:=List Value
abbrev GM:=List Str
abbrev GT:=List Addr
abbrev HK:=Option Addr
abbrev KB:=List (Addr×Obj)
abbrev KF:=List (Addr×List Bool)
abbrev KM:=List (List Bool)
abbrev Nc:=List Bool
abbrev Nd:=List Expr
abbrev Nf:=List Nat
abbrev Ng:=Nat->Heap->Prop
abbrev Nh:=Array (Option Value)
abbrev Ni:=List (Str×Addr)
abbrev Nj:=List Int
abbrev Nk:=Array Value
abbrev Nl:=W.Frag
abbrev Nn:=Program
abbrev No:=World
abbrev Np:=Shared
abbrev Nq:=Value
abbrev Nr:=Around
abbrev Nu:=Scope
abbrev Nv:=Expr
abbrev Nw:=Heap
abbrev Nx:=Stmt
abbrev Ny:=Option (Addr×Value)
abbrev Nz:=List Stmt
abbrev N0:=FuncData
def WC:=@PySem.wpAny_bind
def WB:=@PySem.Heap.get?_push_of_some
def WA:=@List.length_map
def VZ:=@PySem.wpAny_pure
def VY:=@List.getElem?_eq_some_iff
def VX:=@List.mem_singleton
def VW:=@Nat.le_refl
def VV:=@PySem.Heap.lt_size
def VU:=@List.length_append
def VT:=@decide_eq_true
def VS:=@PySem.Heap.get?_push_size
def VR:=@List.mem_of_getElem?
def VQ:=@List.mem_append
def VP:=@PySem.sizeLine_eq
def VO:=@List.size_toArray
def VN:=@List.length_cons
def VM:=@List.mem_append_right
def VL:=@List.map_append
def VJ:=@List.mem_cons_of_mem
def VI:=@List.mem_cons
def VH:=@decide_eq_false
def VG:=@Bool.false_ne_true
def VF:=@if_neg
def VE:=@List.mem_cons_self
def VD:=@Nat.ne_of_lt
def VC:=@List.mem_map
def VB:=@if_pos
def VA:=@List.getElem?_map
def V9:=@of_decide_eq_true
def V8:=@Nat.lt_of_lt_of_le
def V7:=@List.take_add_one
def V6:=@PySem.wpAny_mono
def V5:=@Nat.zero_le
def V4:=@List.take_length
def V3:=@Option.some.inj
def V2:=@List.getElem?_eq_getElem
def V1:=@List.length_drop
def V0:=@PySem.Heap.get?_update_other
def Vz:=@Nat.le_trans
def Vy:=@Bool.and_eq_true
def Vx:=@List.length_nil
def Vw:=@List.length_take
def Vv:=@W.mg_none_of
def Vu:=@Int.toNat_natCast
def Vt:=@PySem.PassesOwn.never
def Vs:=@List.mem_map_of_mem
def Vr:=@List.getD_eq_getElem?_getD
def Vq:=@PySem.wpAny_newObj_type
def Vp:=@congrArg
def Vo:=@PySem.wpAny_field
def Vn:=@PySem.Heap.get?_update_self
def Vm:=@List.append_assoc
def Vl:=@List.isPrefixOf_iff_prefix
def Vk:=@PySem.Heap.size_push
def Vj:=@Nat.lt_irrefl
def Vi:=@List.map_map
def Vh:=@PySem.wpAny_holding
def Vg:=@PySem.wpAny_call_entry
def Vf:=@List.all_eq_true
def Ve:=@Array.getElem?_eq_some_iff
def Vc:=@List.mem_range
def Vb:=@PySem.wpAny_callSpecial?_slot
def Va:=@List.filterMap_cons
def UZ:=@PySem.mem_of_lookup
def UY:=@W.mg_of
def UX:=@List.pairwise_iff_getElem
def UW:=@List.any_eq_true
def UV:=@List.mem_append_left
def UU:=@List.filter_append
def UT:=@PyProof.Rows.slot_tuple_getitem
def US:=@Array.length_toList
def UR:=@Array.toList_append
def UQ:=@Nat.le_of_lt
def UP:=@W.kia_one
def UO:=@PySem.wpAny_setState_of
def UN:=@Classical.byContradiction
def UM:=@List.take_of_length_le
def UL:=@beq_iff_eq
def UK:=@F.slot_list_append
def UJ:=@F.type_list_append
def UI:=@Nat.lt_succ_self
def UH:=@List.filter_cons
def UG:=@Nat.le_succ
def UF:=@List.length_singleton
def UE:=@PyProof.Rows.callWith_type1
def UD:=@PySem.wpAny_loadPart_at
def UC:=@List.length_eq_zero_iff
def UB:=@PySem.wpAny_Call_Name_kw
def UA:=@Bool.eq_iff_iff
def U9:=@List.getElem?_append_left
def U8:=@beq_eq_false_iff_ne
def U7:=@List.replicate_succ
def U6:=@Ne.symm
def U5:=@List.length_replicate
def U4:=@List.getElem?_take_of_lt
def U3:=@PySem.wpAny_seqItems
def U2:=@Nat.lt_or_ge
def U1:=@F.called_set
def U0:=@PySem.Obj.data_mapFields
def Uz:=@List.mem_of_mem_drop
def Uy:=@Nat.lt_succ_of_lt
def Ux:=@PySem.Str.cps_append
def Uw:=@Nat.ne_of_gt
def Uv:=@PyProof.Rows.KeyOrd.kle_refl
def Uu:=@List.take_append_drop
def Ut:=@List.length_filter_le
def Us:=@PySem.wpAny_pyIter_tuple
def Ur:=@Array.toList_inj
def Uq:=@beq_self_eq_true
def Uo:=@Option.isSome_iff_exists
def Um:=@List.flatten_cons
def Ul:=@PySem.wpAny_truthy_bool
def Uk:=@PySem.wpAny_pyIter_list
def Uj:=@PySem.wpAny_execs_nil
def Ui:=@PyProof.Rows.F.plain_set_update_loop
def Uh:=@PySem.Heap.SameBut.update
def Ug:=@List.length_pos_iff
def Uf:=@PySem.wpAny_Call_method_late
def Ue:=@Calls.callWith_builtin
def Ud:=@Nat.le_of_eq
def Uc:=@List.sum_cons
def Ub:=@List.lookup_cons
def Ua:=@List.getElem_mem
def TZ:=@List.getElem?_append_right
def TY:=@F.slot_tuple_iterator_next
def TX:=@W.callWith_K
def TW:=@Int.emod_lt_of_pos
def TV:=@PySem.wpAny_setField_rec
def TU:=@decide_eq_true_iff
def TR:=@PySem.Obj.isFreed_of_fields
def TQ:=@PySem.StrLaws.glued_eq_join
def TN:=@List.drop_eq_getElem_cons
def TM:=@PySem.wpAny_passesOwn
def TL:=@List.nodup_cons
def TK:=@PySem.wpAny_loadPart'
def TJ:=@PySem.Heap.get?_none_of_le
def TH:=@Calls.evalArgs_plain
def TF:=@List.mem_of_mem_take
def TD:=@PySem.Around.under_plainId
def TC:=@PySem.codeAny_call_builtin
def T9:=@PySem.codeAny_mono
def T8:=@PySem.wpAny_comprehension_free
def T7:=@List.Pairwise.imp_of_mem
def T6:=@List.eq_of_mem_replicate
def T5:=@PySem.wpAny_standAt
def T4:=@Nat.not_lt
def T3:=@List.getElem_of_mem
def T2:=@F.attr_ValueError
def T0:=@List.ext_getElem
def Tz:=@PySem.wpAny_askSetting
def Tx:=@PySem.wpAny_setField
def Tw:=@List.drop_eq_nil_of_le
def Tv:=@F.plainAttrs_str
def Tu:=@List.pairwise_cons
def Tt:=@PySem.Code.quiet_builtin
def Ts:=@List.getElem?_drop
def Tr:=@PySem.typeIs_str
def Tq:=@List.nil_append
def Tp:=@List.find?_cons
def To:=@Bool.or_eq_true
def Tn:=@Int.emod_nonneg
def Tl:=@PySem.codeAny_builtin
def Tk:=@List.getElem?_eq_none
def Tj:=@F.slot_zip_next
def Ti:=@List.takeWhile_prefix
def Th:=@Nat.lt_trichotomy
def Tg:=@List.pairwise_map
def Tf:=@PySem.SeqAt.EqAt.bool_bool
def Te:=@PySem.call_meets
def Td:=@PyProof.Rows.KeyOrd.kle_trans
def Tc:=@Nat.le_add_right
def SZ:=@PySem.wpAny_typeOf
def SY:=@Array.getElem?_eq_getElem
def SX:=@PySem.wpAny_isSubtype_exc
def SW:=@F.args_tuple_add_2
def SV:=@F.slot_list_extend
def SU:=@List.any_cons
def SS:=@List.mem_filter
def SR:=@List.mem_filterMap
def SQ:=@PySem.wpAny_call
def SO:=@PySem.wpAny_rule
def SN:=@F.entry_tuple_add
def SM:=@F.slot_list_index
def SL:=@List.prefix_iff_eq_take
def SK:=@List.getElem?_set_self
def SJ:=@PySem.wpAny_pyNext_list_item
def SI:=@F.slot_tuple_add
def SH:=@PySem.codeAny_compStart_list
def SG:=@List.length_pos_of_mem
def SE:=@Calls.spliced_nil
def SD:=@List.length_range
def SA:=@PyProof.Rows.KeyOrd.kle_of_klt
def S9:=@Array.size_append
def S8:=@Bool.and_false
def S7:=@List.forIn_nil
def S6:=@Nat.succ_pos
def S5:=@Nat.zero_add
def S4:=@W.looks_findIn
def S3:=@PySem.wpAny_execs_cons
def S0:=@List.not_mem_nil
def Sz:=@PySem.wpAny_isInstance
def Sy:=@List.drop_length
def Sx:=@PySem.plainId_quiet
def Sw:=@PySem.wpAny_attempt
def Sv:=@PySem.wpAny_of_eq
def Su:=@List.set_cons_succ
def Ss:=@List.set_cons_zero
def Sr:=@F.type_list_extend
end
namespace L2
open PySem PySem.Spec PyProof.Rows
abbrev Key:=Sum Int Str
def qw:Key->Value->Bool
 | .inl k,v=>Value.isInt k v
 | .inr x,v=>Value.isStrOf x v
def WS(w:World):Key->Int
 | .inl k=>hashInt k
 | .inr x=>hashStr w x
theorem yj:∀{k:Key}{v:Value},qw k v=true->(∃i t,k=Sum.inl i/\v=Value.int i t)\/(∃x t,k=Sum.inr x/\v=Value.str x t)
 | .inl i,v,h=>by
  obtain⟨t,e⟩:=Value.isInt_shape (k:=i) (v:=v) h;exact .inl ⟨i,t,rfl,e⟩
 | .inr x,v,h=>by
  obtain⟨t,e⟩:=Value.isStrOf_shape (x:=x) (v:=v) h;exact .inr ⟨x,t,rfl,e⟩
def ia(i:Int)(t:Tok):qw (.inl i) (.int i t)=true:=by simp[qw,Value.isInt]
def ib(x:Str)(t:Tok):qw (.inr x) (.str x t)=true:=by simp[qw,Value.isStrOf]
def ZE(a b:Int):decide ((Sum.inl a:Key)=Sum.inl b)=(a==b):=by
 by_cases e:a=b
 ·subst e;simp
 ·have h:¬(Sum.inl a:Key)=Sum.inl b:=λq=>e (Sum.inl.inj q);rw[VH h];exact(U8.mpr e).symm
def ZH(a b:Str):decide ((Sum.inr a:Key)=Sum.inr b)=decide (a=b):=by
 by_cases e:a=b
 ·subst e;simp
 ·have h:¬(Sum.inr a:Key)=Sum.inr b:=λq=>e (Sum.inr.inj q);rw[VH h,VH e]
def ZF(a:Int)(b:Str):decide ((Sum.inl a:Key)=Sum.inr b)=false:=VH (λq=>nomatch q)
def ZG(a:Str)(b:Int):decide ((Sum.inr a:Key)=Sum.inl b)=false:=VH (λq=>nomatch q)
def ye(prog:Nn)(w:No):PySem.KeyKind prog w Key where
 is:=qw
 hash:=WS w
 inj:=λv a b ha hb=>by
  rcases yj ha with⟨i,t,rfl,rfl⟩|⟨x,t,rfl,rfl⟩
  ·rcases yj hb with⟨j,u,rfl,e⟩|⟨y,u,rfl,e⟩
   ·injection e with e1 _;rw[e1]
   ·exact nomatch e
  ·rcases yj hb with⟨j,u,rfl,e⟩|⟨y,u,rfl,e⟩
   ·exact nomatch e
   ·injection e with e1 _;rw[e1]
 byValue:=λk v h=>by
  rcases yj h with⟨i,t,rfl,rfl⟩|⟨x,t,rfl,rfl⟩<;>rfl
 pyHash:=λhv h=>by
  rcases yj hv with⟨i,t,rfl,rfl⟩|⟨x,t,rfl,rfl⟩
  ·exact wpAny_pyHash_int h
  ·exact wpAny_pyHash_str h
 eqBool:=λhu hv h=>by
  rcases yj hu with⟨i,t,rfl,rfl⟩|⟨x,t,rfl,rfl⟩
  ·rcases yj hv with⟨j,u,rfl,rfl⟩|⟨y,u,rfl,rfl⟩
   ·rw[ZE]at h;exact wpAny_eqBool_int h
   ·rw[ZF]at h;exact SeqAt.EqAt.int_str i t y u _ _ _ _ h
  ·rcases yj hv with⟨j,u,rfl,rfl⟩|⟨y,u,rfl,rfl⟩
   ·rw[ZG]at h;exact SeqAt.EqAt.str_int x t j u _ _ _ _ h
   ·rw[ZH]at h;exact wpAny_eqBool_str h
 «strs»:=λk x t v h=>by
  rcases yj h with⟨i,u,rfl,e⟩|⟨y,u,rfl,e⟩
  ·exact nomatch e
  ·injection e with e1 _;subst e1;cases v<;>rfl
def nw(prog:Nn)(w:No)(i:Int)(t:Tok):(ye prog w).is (.inl i) (.int i t)=true:=ia i t
def xa(prog:Nn)(w:No)(x:Str)(t:Tok):(ye prog w).is (.inr x) (.str x t)=true:=ib x t
end L2
namespace L2
open PySem PySem.Spec PyProof.Rows
variable{a b:Addr}{h:Nw}{o ob:Obj}
inductive V where
 |non|bl (b:Bool)|int (i:Int)|str (x:Str)|byt (b:Array UInt8)|flt (b:UInt64)|ref (a:Addr)|ty (n:String)
 deriving DecidableEq
abbrev N1:=List V
abbrev N2:=List (Str×V)
def RelV:V->Value->Prop
 | .non,u=>u=Value.none
 | .bl b,u=>u=Value.bool b
 | .int i,u=>∃t,u=Value.int i t
 | .str x,u=>∃t,u=Value.str x t
 | .byt b,u=>∃t,u=Value.bytes b t
 | .flt b,u=>∃t,u=Value.float b t
 | .ref a,u=>u=Value.ref a
 | .ty n,u=>u=Value.type n
abbrev Vals:List V->List Value->Prop:=Paired RelV
theorem Vals.length{xs:N1}{us:GE}(r:Vals xs us):xs.length=us.length:=Paired.length r
theorem Vals.get:∀{xs:List V}{us:List Value}{i:Nat}{x:V},Vals xs us->xs[i]?=some x->∃u,us[i]?=some u/\RelV x u
 |_,_,_,_,.nil,e=>by simp at e
 |_,_,0,_,.cons r _,e=>by simp at e;subst e;exact⟨_,rfl,r⟩
 |_,_,i+1,x,.cons _ t,e=>by
  obtain⟨u,h1,h2⟩:=Vals.get (i:=i) (x:=x) t (by simpa using e);exact⟨u,by simpa using h1,h2⟩
theorem Vals.set{x:V}{u:Value}(r:RelV x u):∀{xs:List V}{us:List Value}(i:Nat),Vals xs us->Vals (xs.set i x) (us.set i u)
 |_,_,_,.nil=>.nil
 |_,_,0,.cons _ t=>.cons r t
 |_,_,i+1,.cons q t=>.cons q (Vals.set r i t)
theorem Vals.append:∀{xs ys:List V}{us ws:List Value},Vals xs us->Vals ys ws->Vals (xs++ys) (us++ws)
 |_,_,_,_,.nil,s=>s
 |_,_,_,_,.cons r t,s=>.cons r (Vals.append t s)
theorem Vals.take:∀{xs:List V}{us:List Value}(n:Nat),Vals xs us->Vals (xs.take n) (us.take n)
 |_,_,0,_=>.nil
 |_,_,_+1,.nil=>.nil
 |_,_,n+1,.cons r t=>.cons r (Vals.take n t)
theorem Vals.drop:∀{xs:List V}{us:List Value}(n:Nat),Vals xs us->Vals (xs.drop n) (us.drop n)
 |_,_,0,r=>r
 |_,_,_+1,.nil=>.nil
 |_,_,n+1,.cons _ t=>Vals.drop n t
def RelO:Option V->Option Value->Prop
 |some v,some u=>RelV v u
 |none,none=>True
 |_,_=>False
def KV{κ:Type}:List (κ×V)->List (κ×Value)->Prop:=Paired λ(p:κ×V)(q:κ×Value)=>p.1=q.1/\RelV p.2 q.2
def kV:Key->V
 | .inl i=>.int i
 | .inr x=>.str x
inductive HO where
 |lst (xs:List V)
 |tup (xs:List V)
 |dK (kvs:List (Key×V))|dT (kvs:List (List Key×V))
 |set (S:Int->Bool) (n:Nat)
 |ins (C dx:Addr) (fs:List (Str×V))
 |own (x:Addr)
 |xd (fs:List (Str×V))
 |met (f x:Addr)
 |rng (lo hi:Int)
 |frz (o:Obj) (u:HO)
 |tbl (ps:Array Value)
 |ext (φ:Heap->Prop)
abbrev Hp:=Addr->Option HO
def upd(H:Hp)(a:Addr)(o:HO):Hp:=λb=>if b=a then some o else H b
def zv{H:Hp}{o:HO}:upd H a o a=some o:=by unfold upd;rw[VB rfl]
def ze{H:Hp}{o:HO}(h:b≠a):upd H a o b=H b:=by unfold upd;rw[VF h]
def Xl{H:Hp}{o u:HO}(h:H a=some o)(h':H b=some u)(d:o≠u):a≠b:=by
 intro e;subst e;rw[h]at h';exact d (V3 h')
def xm{H:Hp}{o:HO}(h:H a=some o)(h':H b=none):a≠b:=by
 intro e;subst e;rw[h]at h';cases h'
section
variable (P:Nn) (w:No)
def ObjOk(H:Hp)(h:Heap)(a:Addr):HO->Prop
 | .lst xs=>xs.length<=sizeLine/\∃(Af:List Value)(n:Nat),Vals xs Af/\h.get? a=some { cls:=.type "list",data:=.seq Af.toArray n }
 | .tup xs=>xs.length<=sizeLine/\∃Af:List Value,Vals xs Af/\IsTup h a Af.toArray
 | .dK kvs=>kvs.length<=sizeLine/\(a==sysModules)=false/\∃vs,KV kvs vs/\h.DictOf (ye P w) a vs
 | .dT kvs=>kvs.length<=sizeLine/\(a==sysModules)=false/\∃xs:List (List Key×Addr×Value),
   Paired (λ(p:List Key×V)(q:List Key×Addr×Value)=>p.1=q.1/\H q.2.1=some (.tup (p.1.map kV))/\RelV p.2 q.2.2) kvs xs /\
   ∃o es ep,h.get? a=some o/\o.ExactDict/\o.data = .dict es ep/\es.toList=xs.map (entryOfKey (tupleKind (ye P w)))/\(xs.map (·.1)).Nodup
 | .set S n=>h.SetOf (intKind P w) a S n
 | .ins C dx fs=>H dx=some (.own a)/\fs.length<=1000/\dx≠a/\h.get? a=some (W.instObj C dx) /\
   ∃mA,h.Ns1 dx mA/\(∀f,RelO (fs.lookup f) (mA f))/\PySem.Within mA (fs.map (·.1))
 | .own _=>∃o,h.get? a=some o
 | .xd fs=>∃mA,h.Ns1 a mA/\∀f,RelO (fs.lookup f) (mA f)
 | .rng lo hi=>∃t u v,h.get? a=some { cls:=.type "range",data:=.fields #[.int lo t,.int hi u,.int 1 v] }
 | .frz o u=>h.get? a=some o/\ObjOk H h a u
 | .tbl ps=>h.get? a=some { cls:=.none,data:=.fields ps }
 | .met f x=>h.get? a=some (W.methodObj (.ref f) (.ref x))
 | .ext φ=>φ h/\(∃o,h.get? a=some o)/\∀h1 h2:Heap,φ h1->(∀o,h1.get? a=some o->h2.get? a=some o)->φ h2
def HOk(H:Hp)(h:Nw):Prop:=∀a o,H a=some o->ObjOk P w H h a o
end
section
variable {P:Nn}{w:No}{H H':Hp}{h h':Nw}{a:Addr}{o:HO}
theorem ObjOk.lt(x:ObjOk P w H h a o):a<h.objs.size:=by
 cases o with
 |lst xs=>obtain⟨_,_,_,_,e⟩:=x;exact VV e
 |tup xs=>obtain⟨_,_,_,p⟩:=x;exact p.lt
 |dK kvs=>obtain⟨_,_,_,_,o,_,_,e,_⟩:=x;exact VV e
 |dT kvs=>obtain⟨_,_,_,_,o,_,_,e,_⟩:=x;exact VV e
 |set S n=>obtain⟨o,_,_,_,e,_⟩:=x;exact VV e
 |ins C dx fs=>obtain⟨_,_,_,e,_⟩:=x;exact VV e
 |own y=>obtain⟨_,e⟩:=x;exact VV e
 |xd fs=>obtain⟨_,⟨_,_,_,e,_⟩,_⟩:=x;exact VV e
 |rng lo hi=>obtain⟨_,_,_,e⟩:=x;exact VV e
 |frz ob u=>obtain⟨e,_⟩:=x;exact VV e
 |tbl ps=>exact VV (show h.get? a=some _ from x)
 |met f y=>exact VV (show h.get? a=some _ from x)
 |ext φ=>obtain⟨_,⟨_,e⟩,_⟩:=x;exact VV e
theorem Paired.mapP{α β:Type}{F G:α->β->Prop}:∀{RW:List α}{l₂:List β},Paired F RW l₂->(∀a b,F a b->G a b)->Paired G RW l₂
 |_,_,.nil,_=>.nil
 |_,_,.cons r t,f=>.cons (f _ _ r) (Paired.mapP t f)
theorem ObjOk.stay(x:ObjOk P w H h a o)(k:∀b u,(b=a\/H b=some (.own a))->h.get? b=some u->h'.get? b=some u)
  (ho:∀b,H b=some (.own a)->H' b=some (.own a)) (ht:∀b xs,H b=some (.tup xs)->H' b=some (.tup xs)):ObjOk P w H' h' a o:=by
 induction o with
 |lst xs=>obtain⟨z,Af,n,r,e⟩:=x;exact⟨z,Af,n,r,k _ _ (.inl rfl) e⟩
 |tup xs=>obtain⟨z,Af,r,ob,e,c⟩:=x;exact⟨z,Af,r,ob,k _ _ (.inl rfl) e,c⟩
 |dK kvs=>obtain⟨z,y,vs,r,ob,es,ep,e,c⟩:=x;exact⟨z,y,vs,r,ob,es,ep,k _ _ (.inl rfl) e,c⟩
 |dT kvs =>
  obtain⟨z,y,xs,r,ob,es,ep,e,c⟩:=x;exact⟨z,y,xs,Paired.mapP r λp q z=>⟨z.1,ht _ _ z.2.1,z.2.2⟩,ob,es,ep,k _ _ (.inl rfl) e,c⟩
 |set S n=>obtain⟨ob,es,ep,t,e,c⟩:=x;exact⟨ob,es,ep,t,k _ _ (.inl rfl) e,c⟩
 |ins C dx fs =>
  obtain⟨d,z,ne,e,mA,⟨od,es,ep,e2,c⟩,r⟩:=x;exact⟨ho _ d,z,ne,k _ _ (.inl rfl) e,mA,⟨od,es,ep,k _ _ (.inr d) e2,c⟩,r⟩
 |own y=>obtain⟨ob,e⟩:=x;exact⟨ob,k _ _ (.inl rfl) e⟩
 |xd fs=>obtain⟨mA,⟨od,es,ep,e,c⟩,r⟩:=x;exact⟨mA,⟨od,es,ep,k _ _ (.inl rfl) e,c⟩,r⟩
 |rng lo hi=>obtain⟨t,u,v,e⟩:=x;exact⟨t,u,v,k _ _ (.inl rfl) e⟩
 |frz ob u ih=>obtain⟨e,q⟩:=x;exact⟨k _ _ (.inl rfl) e,ih q⟩
 |tbl ps =>
  have e:h.get? a=some { cls:=.none,data:=.fields ps }:=x;show h'.get? a=some { cls:=.none,data:=.fields ps };exact k a _ (.inl rfl) e
 |met f y =>
  have e:h.get? a=some (W.methodObj (.ref f) (.ref y)):=x;show h'.get? a=some (W.methodObj (.ref f) (.ref y));exact k a _ (.inl rfl) e
 |ext φ=>obtain⟨p,⟨o,e⟩,st⟩:=x;exact⟨st _ _ p λo q=>k _ _ (.inl rfl) q,⟨o,k _ _ (.inl rfl) e⟩,st⟩
theorem HOk.lt(x:HOk P w H h)(e:H a=some o):a<h.objs.size:=(x a o e).lt
def HOk.fresh(x:HOk P w H h)(e:h.objs.size<=a):H a=none:=by
 cases q:H a with
 |none=>rfl
 |some u=>exact absurd (V8 (x.lt q) e) (Vj _)
def HOk.kept(x:HOk P w H h)(k:∀b u,h.get? b=some u->h'.get? b=some u):HOk P w H h':=λa o e =>
 (x a o e).stay (λb u _ q=>k b u q) (λ_ q=>q) λ_ _ q=>q
def HOk.laid(x:HOk P w H h)(k:∀b u,h.get? b=some u->h'.get? b=some u)(hp:h.objs.size<=a)(new:ObjOk P w (upd H a o) h' a o):HOk P w (upd H a o) h':=λb u e=>by
 have hn:=x.fresh hp
 by_cases hb:b=a
 ·subst hb;rw[zv]at e;cases e;exact new
 ·rw[ze hb]at e;exact(x b u e).stay (λc v _ q=>k c v q) (λc q=>by rw[ze (xm q hn)];exact q) λc xs q=>by rw[ze (xm q hn)];exact q
end
def Rd(H:Hp)(a:Addr)(u:HO):Prop:=H a=some u\/∃o,H a=some (.frz o u)
def Rd.ok{P:Nn}{w:No}{H:Hp}{u:HO}(r:Rd H a u)(x:HOk P w H h):ObjOk P w H h a u:=by
 rcases r with r|⟨o,r⟩
 ·exact x a u r
 ·obtain⟨_,q⟩:=x a _ r;exact q
def Mut:Option HO->Prop
 |some (.lst _)=>True
 |some (.dK _)=>True
 |some (.dT _)=>True
 |some (.set _ _)=>True
 |some (.ins _ _ _)=>True
 |some (.ext _)=>True
 |_=>False
section
variable {P:Nn}{w:No}{H:Hp}{h h':Nw}{x e:Addr}{o':HO}
def HOk.write(ok:HOk P w H h)(mu:Mut (H x))(he:e=x\/H e=some (.own x))(k:∀b u,b≠e->h.get? b=some u->h'.get? b=some u)(Li:∃u,h'.get? e=some u)
  (new:ObjOk P w (upd H x o') h' x o'):HOk P w (upd H x o') h':=λb u q=>by
 have LL:∀c y,H c=some (.own y)->c≠x:=λc y r z=>by subst z;rw[r]at mu;exact mu
 have ntup:∀c xs,H c=some (.tup xs)->c≠x:=λc xs r z=>by subst z;rw[r]at mu;exact mu
 by_cases hb:b=x
 ·subst hb;rw[zv]at q;cases q;exact new
 ·rw[ze hb]at q
  by_cases Hg:b=e
  ·have q':H b=some (.own x):=by
    rcases he with z|z
    ·exact absurd (Hg.trans z) hb
    ·rw[Hg];exact z
   rw[q]at q';cases q';obtain⟨v,hv⟩:=Li;exact⟨v,by rw[Hg];exact hv⟩
  ·refine(ok b u q).stay (λc v hc r=>k c v ?_ r) (λc r=>by rw[ze (LL c b r)];exact r) λc xs r=>by rw[ze (ntup c xs r)];exact r
   rcases hc with rfl|hc
   ·exact Hg
   ·rintro rfl;rcases he with z|z
    ·exact LL c b hc z
    ·rw[hc]at z;cases z;exact hb rfl
end
structure Un(fs ex:GT)(H H':Hp)(h h':Nw):Prop where
 keep:∀b o,h.get? b=some o->H b=none->b∉fs->b∉ex->h'.get? b=some o
 slot:∀b o,h.get? b=some o->H b=none->b∈fs->b∉ex->∃sl,h'.get? b=some { o with slots:=sl }
 free:∀b o,h.get? b=some o->H b=none->b∉ex->H' b=none
 there:∀b o,h.get? b=some o->b∉ex->∃o',h'.get? b=some o'
 tups:∀b xs,H b=some (.tup xs)->H' b=some (.tup xs)
 frzs:∀b o u,H b=some (.frz o u)->H' b=some (.frz o u)
 tbls:∀b ps,H b=some (.tbl ps)->∃more,H' b=some (.tbl (ps++more))
section
variable {fs fs' ex ex':GT}{H H1 H2:Hp}{h h1 h2 h':Nw}{a x e:Addr}{o:HO}
def Un.any(u:Un fs ex H H1 h h1)(q:h.get? b=some ob)(n:H b=none)(hx:b∉ex):∃sl,h1.get? b=some { ob with slots:=sl }:=by
 by_cases hb:b∈fs
 ·exact u.slot b ob q n hb hx
 ·exact⟨ob.slots,u.keep b ob q n hb hx⟩
theorem Un.trans(a:Un fs ex H H1 h h1)(b:Un fs ex H1 H2 h1 h2):Un fs ex H H2 h h2 where
 keep:=λc ob q n hc hx=>b.keep c ob (a.keep c ob q n hc hx) (a.free c ob q n hx) hc hx
 slot:=λc ob q n hc hx=>by
  obtain⟨sl,e1⟩:=a.slot c ob q n hc hx;obtain⟨LD,e2⟩:=b.slot c _ e1 (a.free c ob q n hx) hc hx;exact⟨LD,e2⟩
 free:=λc ob q n hx=>by
  obtain⟨o',e1⟩:=a.there c ob q hx;exact b.free c o' e1 (a.free c ob q n hx) hx
 there:=λc ob q hx=>by
  obtain⟨o',e1⟩:=a.there c ob q hx;exact b.there c o' e1 hx
 tups:=λc xs q=>b.tups c xs (a.tups c xs q)
 frzs:=λc ob xs q=>b.frzs c ob xs (a.frzs c ob xs q)
 tbls:=λc ps q=>by
  obtain⟨m1,e1⟩:=a.tbls c ps q;obtain⟨m2,e2⟩:=b.tbls c _ e1;exact⟨m1++m2,by rw[e2,Array.append_assoc]⟩
def Un.kept(k:∀b u,h.get? b=some u->h'.get? b=some u):Un fs ex H H h h' :=
 ⟨λb ob q _ _ _=>k b ob q,λb ob q _ _ _=>⟨ob.slots,k b ob q⟩,λ_ _ _ n _=>n,λb ob q _=>⟨ob,k b ob q⟩,λ_ _ q=>q,λ_ _ _ q=>q,λ_ ps q=>⟨#[],by rw[q];simp⟩⟩
def Un.refl:Un fs ex H H h h:=Un.kept λ_ _ q=>q
def Un.laid(k:∀b u,h.get? b=some u->h'.get? b=some u)(hp:h.objs.size<=a)(hn:H a=none):Un fs ex H (upd H a o) h h' where
 keep:=λb u q _ _ _=>k b u q
 slot:=λb u q _ _ _=>⟨u.slots,k b u q⟩
 free:=λb u q n _=>by rw[ze (VD (V8 (VV q) hp))];exact n
 there:=λb u q _=>⟨u,k b u q⟩
 tups:=λb xs q=>by rw[ze (xm q hn)];exact q
 frzs:=λb u xs q=>by rw[ze (xm q hn)];exact q
 tbls:=λb ps q=>⟨#[],by rw[ze (xm q hn),q];simp⟩
def Un.write(mu:Mut (H x))(he:e=x\/H e=some (.own x))(k:∀b u,b≠e->h.get? b=some u->h'.get? b=some u)(Li:∃u,h'.get? e=some u):Un fs ex H (upd H x o) h h':=by
 have hx:∀b,H b=none->b≠x:=λb n z=>by subst z;rw[n]at mu;exact mu
 have hb:∀b,H b=none->b≠e:=λb n z=>by
  subst z;rcases he with r|r
  ·exact hx b n r
  ·rw[n]at r;cases r
 have hm:∀b u,H b=some u->¬Mut (some u)->b≠x:=λb u q nm z=>by subst z;rw[q]at mu;exact nm mu
 refine⟨λb u q n _ _=>k b u (hb b n) q,λb u q n _ _=>⟨u.slots,k b u (hb b n) q⟩,λb u q n _=>by rw[ze (hx b n)];exact n,λb u q _=>?_,
  λb xs q=>by rw[ze (hm b _ q λz=>z)];exact q,λb u xs q=>by rw[ze (hm b _ q λz=>z)];exact q,λb ps q=>⟨#[],by rw[ze (hm b _ q λz=>z),q];simp⟩⟩
 by_cases Hg:b=e
 ·subst Hg;exact Li
 ·exact⟨u,k b u Hg q⟩
end
def trk(h:Nw)(H:Hp):List Addr:=(List.range h.objs.size).filter λa=>(H a).isSome
def pV(h:Nw)(H:Hp):Heap:=W.hideAll h (trk h H)
def iV(h:Nw)(H:Hp):(pV h H).objs.size=h.objs.size:=W.hideAll_size _ _
def dk{H:Hp}(e:h.get? b=some o)(n:H b=none):(pV h H).get? b=some o :=
 W.hideAll_get _ e λhm=>by
  have q:(H b).isSome=true:=(SS.mp hm).2;rw[n]at q;simp at q
def bx{H:Hp}(e:(pV h H).get? b=some o):h.get? b=some o/\H b=none:=by
 have e':h.get? b=some o:=W.of_hideAll (trk h H) e;refine⟨e',?_⟩;cases q:H b with
 |none=>rfl
 |some x =>
  have hm:b∈trk h H:=SS.mpr ⟨Vc.mpr (VV e'),by simp[q]⟩;have z:(pV h H).get? b=none:=W.hideAll_none (trk h H) hm;rw[z]at e;cases e
def bN(g h:Nw)(L:Addr):List (Addr×Obj):=(List.range h.objs.size).filterMap λa=>if a=L\/(g.get? a).isSome=true then none else(h.get? a).map λo=>(a,o)
def rest(g h:Nw)(L d:Addr):List (Addr×Obj):=(bN g h L).filter λp=>decide (p.1≠d)
end L2
namespace L2
open PySem PySem.Spec PyProof.Rows
variable{a b it:Addr}{g':Array GenState}{i j t':Nat}{d':Drawn}{ch:GT}{x:Str}{M:Model}{A:Nr}{E:Da}{v:V}{u:Nq}{Q:Unit->Shared->Prop}{s s':Np}
structure Mod(K:Nl)(mg:FB)(base:Nw):Prop where
 kin:K.In base
 glob:base.Ns mainGlobals mg
 blt:∃mb,base.Ns builtinsNs mb/\∀x:Str,x≠"__name__"->mb x=bootBuiltins x
 nolimit:base.NoLimit
structure Cx where
 prog:Program
 w:World
 K:W.Frag
 mg:Str->Option Value
 base:Heap
 A:Around
 N:List Str
 s₀:Shared
 H₀:Hp
 env:Env
 outer:List Env
 stack:List Env
 ex:List Addr
 fn:Str->Bool
 calm:Bool
 pn:List (Addr×Obj)
 xe:Value->Shared->Prop
def frs(l:List Env):List Addr:=l.filterMap (·.frame)
abbrev Cx.fs(X:Cx):List Addr:=frs X.outer
def Vis(sc:Nu)(x:Str):Prop:=sc.names.lookup x=some .local\/sc.names.lookup x=some .cell\/sc.names.lookup x=some .free
def Loc(sc:Nu)(x:Str):Prop:=sc.names.lookup x=some .local\/sc.names.lookup x=some .cell
def WH(env:Env)(h:Nw)(m:FB)(x:Str)(u:Nq):Prop :=
 (env.kindOf x=some .local/\m x=some u)\/((env.kindOf x=some .cell\/env.kindOf x=some .free)/\∃c,env.cells.lookup x=some c/\h.IsCell c (some u))
structure Cx.Ok(X:Cx):Prop where
 mod:Mod X.K X.mg X.base
 kind:X.env.scope.kind = .function
 glob:X.env.globals=mainGlobals
 blt:X.env.builtins=builtinsNs
 above:X.s₀.heap.objs.size<=X.env.locals
 inj:∀x y c,X.env.cells.lookup x=some c->X.env.cells.lookup y=some c->x=y
 has:∀x,(X.env.kindOf x=some .cell\/X.env.kindOf x=some .free)->∃c,X.env.cells.lookup x=some c
 cab:∀x c,X.fn x=true->X.env.cells.lookup x=some c->X.s₀.heap.objs.size<=c
 hd:X.calm=true->X.A.handled=none
 frames:X.A.frames=some X.stack
 stk:X.stack=X.outer\/(X.stack=X.env::X.outer/\X.env.frame=some X.env.locals)
 exf:∀b∈X.ex,b≠X.env.locals/\∀x c,X.env.cells.lookup x=some c->c≠b
 bs:∀b o,X.base.get? b=some o->X.s₀.heap.get? b=some o/\X.H₀ b=none
 bsz:X.base.objs.size<=X.s₀.heap.objs.size
 noex:∀b o,X.base.get? b=some o->b∉X.ex
 exfs:∀b∈X.ex,b∉X.fs
 funs:X.s₀.heap.FunFrames X.base X.outer
 frf:∀b∈X.fs,X.H₀ b=none
structure Inv(X:Cx)(pins:KB)(σ:List (Option V))(H:Hp)(s:Np):Prop where
 ok:X.Ok
 os:s.os=X.s₀.os
 bare:AllBare s.gens
 base:Un X.fs X.ex X.H₀ H X.s₀.heap s.heap
 loc:∃m,s.heap.Ns X.env.locals m/\∀(i:Nat)(x:Str)(v:V),X.N[i]?=some x->σ[i]?=some (some v)->Vis X.env.scope x->∃u,RelV v u/\WH X.env s.heap m x u
 cell:∀x c,X.env.cells.lookup x=some c->∃v,s.heap.IsCell c v
 free:H X.env.locals=none
 freeC:∀x c,X.env.cells.lookup x=some c->H c=none
 pin:∀p∈X.pn++pins,s.heap.get? p.1=some p.2/\H p.1=none/\p.1≠X.env.locals/\p.1∉X.fs/\∀v,p.2.data≠.cell v
 hok:HOk X.prog X.w H s.heap
 len:σ.length=X.N.length
section
variable {X:Cx}{pins:KB}{σ:List (Option V)}{H H':Hp}{s:Np}{h':Nw}
def Cx.Ok.nofr(ok:X.Ok){o:Obj}(e:X.base.get? b=some o):b∉X.fs:=λhb=>by
 have:=(ok.funs.mem hb).1;rw[e]at this;cases this
theorem Inv.bs(I:Inv X pins σ H s):∀b o,X.base.get? b=some o->s.heap.get? b=some o/\H b=none:=λb o e =>
 ⟨I.base.keep b o (I.ok.bs b o e).1 (I.ok.bs b o e).2 (I.ok.nofr e) (I.ok.noex b o e),I.base.free b o (I.ok.bs b o e).1 (I.ok.bs b o e).2 (I.ok.noex b o e)⟩
def Inv.bk(I:Inv X pins σ H s):∀b o,X.base.get? b=some o->s.heap.get? b=some o:=λb o e=>(I.bs b o e).1
theorem Inv.mod(I:Inv X pins σ H s):Mod X.K X.mg X.base:=I.ok.mod
def Inv.kIn(I:Inv X pins σ H s):X.K.In s.heap:=I.ok.mod.kin.keeps I.bk
theorem Inv.lt(I:Inv X pins σ H s):X.env.locals<s.heap.objs.size:=let⟨_,hn,_⟩:=I.loc;hn.lt
def Inv.sz(I:Inv X pins σ H s):X.s₀.heap.objs.size<=s.heap.objs.size:=Vz I.ok.above (UQ I.lt)
def Inv.nofs(I:Inv X pins σ H s)(h:s.heap.objs.size<=a):a∉X.fs:=λhb=>by
 obtain⟨_,o,ho,_⟩:=I.ok.funs.mem hb;exact absurd (V8 (VV ho) (Vz I.sz h)) (Vj _)
def Inv.cne(I:Inv X pins σ H s):∀x c,X.env.cells.lookup x=some c->c≠X.env.locals:=λx c e z=>by
 obtain⟨v,o,ho,hd⟩:=I.cell x c e;obtain⟨m,⟨o',es,ep,F4,Hf,_⟩,_⟩:=I.loc;rw[z,F4]at ho;cases ho;rw[Hf]at hd;cases hd
theorem Inv.funs(I:Inv X pins σ H s):s.heap.FunFrames X.base X.outer:=by
 have all:∀(l:List Env),(∀b∈frs l,b∈X.fs)->X.s₀.heap.FunFrames X.base l->s.heap.FunFrames X.base l:=by
  intro l
  induction l with
  |nil=>intro _ _;trivial
  |cons env r ih =>
   intro hs hl;obtain⟨hk,⟨L,o,hf,hn,ho,hd⟩,hr⟩:=hl;have hL:L∈X.fs:=hs L (by unfold frs;rw[Va,hf];exact VE);obtain⟨sl,e⟩:=I.base.slot L o ho (I.ok.frf L hL) hL λz=>I.ok.exfs L z hL;exact⟨hk,⟨L,_,hf,hn,e,hd⟩,ih (λb hb=>hs b (by unfold frs;rw[Va,hf];exact VJ _ hb)) hr⟩
 exact all X.outer (λ_ hb=>hb) I.ok.funs
theorem Inv.stack(I:Inv X pins σ H s):s.heap.FunFrames X.base X.stack:=by
 rcases I.ok.stk with e|⟨e,hf⟩
 ·rw[e];exact I.funs
 ·rw[e];obtain⟨m,hn,_⟩:=I.loc;refine .cons (by rw[I.ok.kind];decide) hf hn ?_ I.funs;exact TJ (Vz I.ok.bsz I.ok.above)
def Inv.stkSub(I:Inv X pins σ H s):∀b∈frs X.stack,b∈X.env.locals::X.fs:=λb hb=>by
 rcases I.ok.stk with e|⟨e,hf⟩
 ·rw[e]at hb;exact VJ _ hb
 ·rw[e]at hb;unfold frs at hb;rw[Va,hf]at hb;exact hb
def Inv.stkFree(I:Inv X pins σ H s):∀b∈frs X.stack,H b=none:=λb hb=>by
 rcases VI.mp (I.stkSub b hb)with e|hb
 ·rw[e];exact I.free
 ·obtain⟨_,o,ho,_⟩:=I.ok.funs.mem hb;exact I.base.free b o ho (I.ok.frf b hb) λz=>I.ok.exfs b z hb
def Inv.step(I:Inv X pins σ H s)
  (CB:∀b∈ch,(b∈X.ex\/X.s₀.heap.objs.size<=b)/\b≠X.env.locals/\(∀x c,X.env.cells.lookup x=some c->c≠b)/\∀p∈X.pn++pins,p.1≠b)
  (keep:∀b o,b≠X.env.locals->b∉X.fs->b∉ch->s.heap.get? b=some o->H b=none->h'.get? b=some o)
  (slot:∀b o,b≠X.env.locals->b∈X.fs->b∉ch->s.heap.get? b=some o->H b=none->∃sl,h'.get? b=some { o with slots:=sl }) (free:∀b o,b∉ch->s.heap.get? b=some o->H b=none->H' b=none)
  (there:∀b o,b∉ch->s.heap.get? b=some o->∃o',h'.get? b=some o')
  (tups:∀b xs,H b=some (.tup xs)->H' b=some (.tup xs)) (frzs:∀b o u,H b=some (.frz o u)->H' b=some (.frz o u)) (tbls:∀b ps,H b=some (.tbl ps)->∃more,H' b=some (.tbl (ps++more)))
  (ns:∀m,s.heap.Ns X.env.locals m->h'.Ns X.env.locals m) (hok:HOk X.prog X.w H' h') (hg:AllBare g') :
  Inv X pins σ H' { s with heap:=h',gens:=g',drawn:=d',toks:=t' }:=by
 have neL:∀b o,X.s₀.heap.get? b=some o->b≠X.env.locals:=λb o e=>VD (V8 (VV e) I.ok.above);have neC:∀b o,X.s₀.heap.get? b=some o->b∉X.ex->b∉ch:=λb o e hx hb=>by
  rcases(CB b hb).1 with z|z
  ·exact hx z
  ·exact absurd (V8 (VV e) z) (Vj _)
 have JK:∀x c,X.env.cells.lookup x=some c->∀v,s.heap.IsCell c v->h'.IsCell c v:=λx c e v ⟨o,ho,hd⟩=>by
  have LO:c∉ch:=λz=>(CB c z).2.2.1 x c e rfl
  by_cases hc:c∈X.fs
  ·obtain⟨sl,q⟩:=slot c o (I.cne x c e) hc LO ho (I.freeC x c e);exact⟨_,q,hd⟩
  ·exact⟨o,keep c o (I.cne x c e) hc LO ho (I.freeC x c e),hd⟩
 refine⟨I.ok,I.os,hg,⟨λb o e n hb hx=>?_,λb o e n hb hx=>?_,λb o e n hx=>?_,λb o e hx=>?_,λb xs e=>tups b xs (I.base.tups b xs e),λb o xs e=>frzs b o xs (I.base.frzs b o xs e),λb ps e=>?_⟩,?_,λx c e=>?_,?_,λx c e=>?_,λp hp=>?_,hok,I.len⟩
 ·exact keep b o (neL b o e) hb (neC b o e hx) (I.base.keep b o e n hb hx) (I.base.free b o e n hx)
 ·obtain⟨sl,e1⟩:=I.base.slot b o e n hb hx;obtain⟨LD,e2⟩:=slot b _ (neL b o e) hb (neC b o e hx) e1 (I.base.free b o e n hx);exact⟨LD,e2⟩
 ·obtain⟨o',e1⟩:=I.base.there b o e hx;exact free b o' (neC b o e hx) e1 (I.base.free b o e n hx)
 ·obtain⟨o',e1⟩:=I.base.there b o e hx;exact there b o' (neC b o e hx) e1
 ·obtain⟨m1,e1⟩:=I.base.tbls b ps e;obtain⟨m2,e2⟩:=tbls b _ e1;exact⟨m1++m2,by rw[e2,Array.append_assoc]⟩
 ·obtain⟨m,hn,hl⟩:=I.loc;refine⟨m,ns m hn,λi x v e1 e2 e3=>?_⟩;obtain⟨u,r,l⟩:=hl i x v e1 e2 e3;refine⟨u,r,?_⟩;rcases l with l|⟨k,c,e,z⟩
  ·exact .inl l
  ·exact .inr ⟨k,c,e,JK x c e _ z⟩
 ·obtain⟨v,z⟩:=I.cell x c e;exact⟨v,JK x c e v z⟩
 ·obtain⟨m,⟨o,_,_,ho,_⟩,_⟩:=I.loc;exact free _ o (λz=>(CB _ z).2.1 rfl) ho I.free
 ·obtain⟨v,o,ho,hd⟩:=I.cell x c e;exact free c o (λz=>(CB c z).2.2.1 x c e rfl) ho (I.freeC x c e)
 ·obtain⟨e,n,ne,nf,d⟩:=I.pin p hp;have LO:p.1∉ch:=λz=>(CB p.1 z).2.2.2 p hp rfl;exact⟨keep p.1 p.2 ne nf LO e n,free p.1 p.2 LO e n,ne,nf,d⟩
def Inv.un(I:Inv X pins σ H s)(u:Un X.fs [] H H' s.heap h')(hok:HOk X.prog X.w H' h'):Inv X pins σ H' { s with heap:=h',toks:=t' }:=by
 obtain⟨m,⟨o,es,ep,ho,r⟩,_⟩:=id I.loc;obtain⟨sl,hL⟩:=u.any ho I.free (by simp);exact I.step (g':=s.gens) (d':=s.drawn) (ch:=[]) (λ_ z=>nomatch z) (λb o _ hb _ e n=>u.keep b o e n hb (by simp)) (λb o _ hb _ e n=>u.slot b o e n hb (by simp)) (λb o _ e n=>u.free b o e n (by simp)) (λb o _ e=>u.there b o e (by simp)) u.tups u.frzs u.tbls (λm' hm=>by
  obtain⟨o',Bp,Eg,F4,r'⟩:=hm;rw[ho]at F4;cases F4;exact⟨_,Bp,Eg,hL,r'⟩) hok I.bare
def Inv.call(I:Inv X pins σ H s)(u:Un (frs X.stack) ch H H' s.heap h')(hok:HOk X.prog X.w H' h')(hg:AllBare g')
  (CB:∀b∈ch,(b∈X.ex\/X.s₀.heap.objs.size<=b)/\b≠X.env.locals/\(∀x c,X.env.cells.lookup x=some c->c≠b)/\∀p∈X.pn++pins,p.1≠b) :
  Inv X pins σ H' { s with heap:=h',gens:=g',drawn:=d',toks:=t' }:=by
 obtain⟨m,⟨o,es,ep,ho,r⟩,_⟩:=id I.loc;obtain⟨sl,hL⟩:=u.any ho I.free λz=>(CB _ z).2.1 rfl;exact I.step (ch:=ch) CB (λb o hL hb hc e n=>u.keep b o e n (λz=>(VI.mp (I.stkSub b z)).elim hL hb) hc) (λb o _ _ hc e n=>u.any e n hc) (λb o hc e n=>u.free b o e n hc) (λb o hc e=>u.there b o e hc) u.tups u.frzs u.tbls (λm' hm=>by
  obtain⟨o',Bp,Eg,F4,r'⟩:=hm;rw[ho]at F4;cases F4;exact⟨_,Bp,Eg,hL,r'⟩) hok hg
def Inv.turned(I:Inv X pins σ H s)(k:∀b o,b≠it->s.heap.get? b=some o->h'.get? b=some o)(hn:H it=none)(hL:it≠X.env.locals)
  (h1:it∈X.ex\/X.s₀.heap.objs.size<=it) (h2:∀x c,X.env.cells.lookup x=some c->c≠it) (h3:∀p∈X.pn++pins,p.1≠it):Inv X pins σ H { s with heap:=h',toks:=t' }:=by
 have LN:∀b u,H b=some u->b≠it:=λb u e z=>by rw[z,hn]at e;cases e
 refine I.step (g':=s.gens) (d':=s.drawn) (ch:=[it]) (λb hb=>?_) (λb o _ _ hc e _=>k b o (λz=>hc (by simp[z])) e) (λb o _ _ hc e _=>⟨o.slots,k b o (λz=>hc (by simp[z])) e⟩) (λ_ _ _ _ n=>n)
  (λb o hc e=>⟨o,k b o (λz=>hc (by simp[z])) e⟩) (λ_ _ e=>e) (λ_ _ _ e=>e) (λb ps e=>⟨#[],by rw[e];simp⟩) (λm hm=>?_) (λb u e=>?_) I.bare
 ·have e:b=it:=by simpa using hb
  subst e;exact⟨h1,hL,h2,h3⟩
 ·obtain⟨o,es,ep,ho,r⟩:=hm;exact⟨o,es,ep,k _ o (U6 hL) ho,r⟩
 ·refine(I.hok b u e).stay (λc v hc q=>k c v ?_ q) (λ_ q=>q) λ_ _ q=>q;rcases hc with z|z
  ·rw[z];exact LN b u e
  ·exact LN c _ z
def Inv.tok(I:Inv X pins σ H s)(t:Nat):Inv X pins σ H { s with toks:=t }:=I.un (h':=s.heap) (t':=t) Un.refl I.hok
theorem Inv.kept{t':Nat}(I:Inv X pins σ H s)(k:∀b u,s.heap.get? b=some u->h'.get? b=some u):Inv X pins σ H { s with heap:=h',toks:=t' }:=I.un (Un.kept k) (I.hok.kept k)
theorem Inv.laid{a:Addr}{o:HO}{t':Nat}(I:Inv X pins σ H s)(k:∀b u,s.heap.get? b=some u->h'.get? b=some u)(hp:s.heap.objs.size<=a)(new:ObjOk X.prog X.w (upd H a o) h' a o):
  Inv X pins σ (upd H a o) { s with heap:=h',toks:=t' }:=I.un (Un.laid k hp (I.hok.fresh hp)) (I.hok.laid k hp new)
theorem Inv.write{x e:Addr}{o:HO}{t':Nat}(I:Inv X pins σ H s)(mu:Mut (H x))(he:e=x\/H e=some (.own x))(k:∀b u,b≠e->s.heap.get? b=some u->h'.get? b=some u)(Li:∃u,h'.get? e=some u)
  (new:ObjOk X.prog X.w (upd H x o) h' x o):Inv X pins σ (upd H x o) { s with heap:=h',toks:=t' }:=I.un (Un.write mu he k Li) (I.hok.write mu he k Li new)
def Inv.pins_of{Jv:KB}(I:Inv X pins σ H s)(h:∀p∈Jv,s.heap.get? p.1=some p.2/\H p.1=none/\p.1≠X.env.locals/\p.1∉X.fs/\∀v,p.2.data≠.cell v):Inv X Jv σ H s :=
 ⟨I.ok,I.os,I.bare,I.base,I.loc,I.cell,I.free,I.freeC,λp hp=>(VQ.mp hp).elim (λz=>I.pin p (UV _ z)) (h p),I.hok,I.len⟩
def tB{N:GM}(hN:N.Nodup)(a:N[i]?=some x)(b:N[j]?=some x):i=j:=by
 obtain⟨h1,e1⟩:=VY.mp a;obtain⟨h2,e2⟩:=VY.mp b;exact(List.getElem_inj hN).mp (e1.trans e2.symm)
def jQ(I:Inv X pins σ H s)(hN:X.N.Nodup)(hi:X.N[i]?=some x)(hx:Loc X.env.scope x)(r:RelV v u)
  (h:∀s',Inv X pins (σ.set i (some v)) H s'->(∃a,Heap.SameBut a s.heap s'.heap/\(a=X.env.locals\/X.env.cells.lookup x=some a))->Q () s') (hf:X.fn x=true\/X.env.scope.names.lookup x=some .local:=by first|exact .inl rfl|exact .inr rfl|assumption):wpAny M A (storeName X.env x u) Q E s:=by
 obtain⟨m,hn,hl⟩:=id I.loc;have Kw:(X.env.scope.kind == .class||(X.env.scope.kind == .module&&X.env.locals != X.env.globals))=false:=by rw[I.ok.kind];rfl
 have hiσ:i<σ.length:=by rw[I.len];exact(VY.mp hi).1
 have cne:=I.cne;have Ge:∀{a:Addr}{h':Nw},(∃o,s.heap.get? a=some o/\H a=none)->Heap.SameBut a s.heap h'->HOk X.prog X.w H h':=λ{a h'} ha hs b ob e=>by
  obtain⟨_,_,J8⟩:=ha;refine(I.hok b ob e).stay (λc w' hc q=>(hs.2 c ?_).trans q) (λ_ q=>q) λ_ _ q=>q;rintro rfl;rcases hc with rfl|hc
  ·rw[J8]at e;cases e
  ·rw[J8]at hc;cases hc
 rcases hx with hk|hk
 ·refine wpAny_storeName_local hk hn (λh' IF hs=>?_) Kw;obtain⟨oL,_,_,hoL,_⟩:=id hn;refine h _ ⟨I.ok,I.os,I.bare,⟨λb o e n hb hx=>?_,λb o e n hb hx=>?_,I.base.free,λb o e hx=>?_,I.base.tups,I.base.frzs,I.base.tbls⟩,⟨_,IF,λj y v' e1 e2 e3=>?_⟩,λy c e=>?_,I.free,I.freeC,λp hp=>?_,Ge ⟨oL,hoL,I.free⟩ hs,by simpa using I.len⟩ ⟨_,hs,.inl rfl⟩
  ·exact(hs.2 b (VD (V8 (VV e) I.ok.above))).trans (I.base.keep b o e n hb hx)
  ·obtain⟨sl,e1⟩:=I.base.slot b o e n hb hx;exact⟨sl,(hs.2 b (VD (V8 (VV e) I.ok.above))).trans e1⟩
  ·obtain⟨o',e1⟩:=I.base.there b o e hx;exact⟨o',(hs.2 b (VD (V8 (VV e) I.ok.above))).trans e1⟩
  ·by_cases hj:j=i
   ·subst hj;rw[hi]at e1;cases e1;rw[SK hiσ]at e2;cases e2;exact⟨u,r,.inl ⟨hk,by simp⟩⟩
   ·rw[List.getElem?_set_ne (U6 hj)]at e2;obtain⟨u',r',q⟩:=hl j y v' e1 e2 e3;refine⟨u',r',?_⟩;rcases q with⟨k,e⟩|⟨k,c,e,z⟩
    ·refine .inl ⟨k,?_⟩;have:y≠x:=λe=>hj (tB hN e1 (e▸hi));simp[this,e]
    ·exact .inr ⟨k,c,e,z.sameBut hs (cne y c e)⟩
  ·obtain⟨w',z⟩:=I.cell y c e;exact⟨w',z.sameBut hs (cne y c e)⟩
  ·obtain⟨e,n,ne,nf,d⟩:=I.pin p hp;exact⟨(hs.2 p.1 ne).trans e,n,ne,nf,d⟩
 ·have hfn:X.fn x=true:=by
   rcases hf with z|z
   ·exact z
   ·rw[z]at hk;cases hk
  obtain⟨c,hc⟩:=I.ok.has x (.inl hk);obtain⟨w',z⟩:=I.cell x c hc;refine wpAny_storeName_cell I.ok.kind hk hc z (λh' Gr hs=>?_);obtain⟨oc,hoc,hocd⟩:=id z;refine h { s with heap:=h' } ⟨I.ok,I.os,I.bare,⟨λb o e n hb hx=>?_,λb o e n hb hx=>?_,I.base.free,λb o e hx=>?_,I.base.tups,I.base.frzs,I.base.tbls⟩,⟨m,hn.sameBut hs (U6 (cne x c hc)),λj y v' e1 e2 e3=>?_⟩,λy c' e=>?_,I.free,I.freeC,λp hp=>?_,Ge ⟨oc,hoc,I.freeC x c hc⟩ hs,by simpa using I.len⟩ ⟨c,hs,.inr hc⟩
  ·exact(hs.2 b (VD (V8 (VV e) (I.ok.cab x c hfn hc)))).trans (I.base.keep b o e n hb hx)
  ·obtain⟨sl,e1⟩:=I.base.slot b o e n hb hx;exact⟨sl,(hs.2 b (VD (V8 (VV e) (I.ok.cab x c hfn hc)))).trans e1⟩
  ·obtain⟨o',e1⟩:=I.base.there b o e hx;exact⟨o',(hs.2 b (VD (V8 (VV e) (I.ok.cab x c hfn hc)))).trans e1⟩
  ·by_cases hj:j=i
   ·subst hj;rw[hi]at e1;cases e1;rw[SK hiσ]at e2;cases e2;exact⟨u,r,.inr ⟨.inl hk,c,hc,Gr⟩⟩
   ·rw[List.getElem?_set_ne (U6 hj)]at e2;obtain⟨u',r',q⟩:=hl j y v' e1 e2 e3;refine⟨u',r',?_⟩;rcases q with q|⟨k,c',e,z'⟩
    ·exact .inl q
    ·refine .inr ⟨k,c',e,z'.sameBut hs ?_⟩;rintro rfl;exact hj (tB hN e1 (I.ok.inj _ _ _ e hc▸hi))
  ·by_cases hcc:c'=c
   ·subst hcc;exact⟨_,Gr⟩
   ·obtain⟨w2,z2⟩:=I.cell y c' e;exact⟨w2,z2.sameBut hs hcc⟩
  ·obtain⟨e,n,ne,nf,d⟩:=I.pin p hp;refine⟨(hs.2 p.1 ?_).trans e,n,ne,nf,d⟩;intro q;rw[q,hoc]at e;have q':oc=p.2:=V3 e;exact d w' (by rw[<-q'];exact hocd)
def vX(I:Inv X pins σ H s)(hN:X.N.Nodup)(hi:X.N[i]?=some x)(hx:Loc X.env.scope x)(r:RelV v u)
  (h:∀s',Inv X pins (σ.set i (some v)) H s'->Q () s') (hf:X.fn x=true\/X.env.scope.names.lookup x=some .local:=by first|exact .inl rfl|exact .inr rfl|assumption):wpAny M A (storeName X.env x u) Q E s :=
 jQ I hN hi hx r (λs' I' _=>h s' I') hf
def Inv.call'(I:Inv X pins σ H s)(ho:s'.os=s.os)(u:Un (frs X.stack) ch H H' s.heap s'.heap)(hok:HOk X.prog X.w H' s'.heap)(hg:AllBare s'.gens)
  (CB:∀b∈ch,(b∈X.ex\/X.s₀.heap.objs.size<=b)/\b≠X.env.locals/\(∀x c,X.env.cells.lookup x=some c->c≠b)/\∀p∈X.pn++pins,p.1≠b):Inv X pins σ H' s':=by
 obtain⟨h',g',d',t',o'⟩:=s';have e:o'=s.os:=ho;subst e;exact I.call (g':=g') (t':=t') (d':=d') u hok hg CB
end
abbrev XK:=Value->Option Addr->Hp->Prop
abbrev St:=List (Option V)
abbrev VK:=V->Hp->Prop
abbrev TE:=St->Hp->VK->Prop
abbrev TT:=St->Hp->(Bool->Hp->Prop)->Prop
abbrev TA:=St->Hp->(List V->Hp->Prop)->Prop
structure xX where
 nx:St->Hp->Prop
 rt:VK
 bk:St->Hp->Prop:=λ_ _=>False
 ct:St->Hp->Prop:=λ_ _=>False
abbrev TS:=xX->St->Hp->Prop
def EP(X:Cx)(pins:KB)(σ:St)(Q:VK)(u:Nq)(s':Np):Prop:=∃v H',Inv X pins σ H' s'/\RelV v u/\Q v H'
def TP(X:Cx)(pins:KB)(σ:St)(Q:Bool->Hp->Prop)(b:Bool)(s':Np):Prop:=∃H',Inv X pins σ H' s'/\Q b H'
def AP(X:Cx)(pins:KB)(σ:St)(Q:List V->Hp->Prop)(us:GE)(s':Np):Prop:=∃vs H',Inv X pins σ H' s'/\Vals vs us/\Q vs H'
def SP(X:Cx)(pins:List (Addr×Obj))(D:xX)(f:Flow)(s':Shared):Prop :=
 match f with
 | .next=>∃σ' H',Inv X pins σ' H' s'/\D.nx σ' H'
 | .brk=>∃σ' H',Inv X pins σ' H' s'/\D.bk σ' H'
 | .cont=>∃σ' H',Inv X pins σ' H' s'/\D.ct σ' H'
 | .ret u=>∃v σ' H',Inv X pins σ' H' s'/\RelV v u/\D.rt v H'
def PE(X:Cx)(e:Nv)(t:TE):Prop :=
 ∀(pins:KB)(s:Np)(σ:St)(H:Hp)(Q:VK),Inv X pins σ H s->t σ H Q->wpAny (model X.prog X.w) X.A (eval e X.env) (EP X pins σ Q) X.xe s
def PT(X:Cx)(e:Nv)(t:TT):Prop :=
 ∀(pins:KB)(s:Np)(σ:St)(H:Hp)(Q:Bool->Hp->Prop),Inv X pins σ H s->t σ H Q->wpAny (model X.prog X.w) X.A (isTrue e X.env (eval e X.env)) (TP X pins σ Q) X.xe s
def PW(X:Cx)(e:Nv)(t:TT):Prop :=
 ∀(Gd:Sem Value)(pins:KB)(s:Np)(σ:St)(H:Hp)(Q:Bool->Hp->Prop),Inv X pins σ H s->t σ H Q->wpAny (model X.prog X.w) X.A (isTrue e X.env Gd) (TP X pins σ Q) X.xe s
def PW.pt{X:Cx}{e:Nv}{t:TT}(h:PW X e t):PT X e t:=h _
def PA(X:Cx)(es:Nd)(t:TA):Prop :=
 ∀(pos:Pos)(pins:KB)(s:Np)(σ:St)(H:Hp)(Q:List V->Hp->Prop),Inv X pins σ H s->t σ H Q->wpAny (model X.prog X.w) X.A (spliced (backTo pos (starEach es X.env))) (AP X pins σ Q) X.xe s
def PS(X:Cx)(st:Nx)(t:TS):Prop :=
 ∀(pins:KB)(s:Np)(σ:St)(H:Hp)(D:xX),Inv X pins σ H s->t D σ H->wpAny (model X.prog X.w) X.A (exec st X.env) (SP X pins D) X.xe s
def PSs(X:Cx)(st:Nz)(t:TS):Prop :=
 ∀(pins:KB)(s:Np)(σ:St)(H:Hp)(D:xX),Inv X pins σ H s->t D σ H->wpAny (model X.prog X.w) X.A (execs st X.env) (SP X pins D) X.xe s
def thn{α:Type}{t:Sem α}{Q Q':α->Shared->Prop}(h:wpAny M A t Q E s)(hQ:∀a s,Q a s->Q' a s):wpAny M A t Q' E s:=V6 h hQ λ_ _ x=>x
end L2
namespace L2
open PySem PySem.Spec PyProof.Rows
variable{x:Str}{pos:Pos}{E Q:Da}{pins:KB}{s:Np}{H:Hp}{u:Nq}
section
variable {X:Cx}
def Wt(i:Nat):TE:=fun σ H Q=>∃v,σ[i]?=some (some v)/\Q v H
def tC(v:V):TE:=λ_ H Q=>Q v H
def Zo{i:Nat}(hN:X.N[i]?=some x)(hv:Vis X.env.scope x)(hd:(x==("__debug__":Str))=false:=by decide)(Ev:(x==("__classdict__":Str))=false:=by decide):PE X (.Name x pos) (Wt i):=by
 intro pins s σ H Q I h;obtain⟨v,e,h⟩:=h;obtain⟨m,hn,hl⟩:=I.loc;obtain⟨u,r,l⟩:=hl i x v hN e hv;have A9:EP X pins σ Q u s:=⟨v,H,I,r,h⟩
 rcases l with⟨hk,hm⟩|⟨hk,c,hc,hcell⟩
 ·exact wpAny_Name (wpAny_loadName_local I.ok.kind hk hn hm A9) hd
 ·rcases hk with hk|hk
  ·exact wpAny_Name (wpAny_loadName_cell I.ok.kind hk hc hcell A9) hd
  ·exact wpAny_Name (wpAny_loadName_free I.ok.kind hk hc hcell A9 Ev) hd
def z5{i j pos}:PE X (.Constant (.int i) j pos) (tC (.int i)):=λ_ _ _ H _ I h=>wpAny_Constant_int ⟨.int i,H,I.tok _,⟨_,rfl⟩,h⟩
def wX{b j pos}:PE X (.Constant (.bool b) j pos) (tC (.bl b)):=λ_ _ _ H _ I h=>Constant_bool ⟨.bl b,H,I,rfl,h⟩
def yr{j pos}:PE X (.Constant .none j pos) (tC .non):=λ_ _ _ H _ I h=>Constant_none ⟨.non,H,I,rfl,h⟩
def zy{x j pos}:PE X (.Constant (.str x) j pos) (tC (.str x)):=λ_ _ _ H _ I h=>Calls.Constant_str ⟨.str x,H,I.tok _,⟨_,rfl⟩,h⟩
def Gl(X:Cx)(x:Str):Prop:=X.env.kindOf x=some .globalImplicit
def xQ{σ:St}(I:Inv X pins σ H s)(hg:Gl X x)(hm:X.mg x=some u)(h:Q u s)
  (hd:(x==("__debug__":Str))=false:=by decide):wpAny (model X.prog X.w) X.A (eval (.Name x pos) X.env) Q E s :=
 Calls.Name_function_global I.ok.kind hg (Calls.loadGlobal_global (by rw[I.ok.glob];exact I.mod.glob.keeps I.bk) hm h) hd
def wc{σ:St}(I:Inv X pins σ H s)(hg:Gl X x)(hm:X.mg x=none)(hv:bootBuiltins x=some u)(h:Q u s)
  (hn:x≠"__name__":=by decide) (hd:(x==("__debug__":Str))=false:=by decide):wpAny (model X.prog X.w) X.A (eval (.Name x pos) X.env) Q E s:=by
 obtain⟨mb,h1,h2⟩:=I.mod.blt;exact Calls.Name_function_global I.ok.kind hg (Calls.loadGlobal_builtin (by rw[I.ok.glob];exact I.mod.glob.keeps I.bk) hm (by rw[I.ok.blt];exact h1.keeps I.bk) ((h2 x hn).trans hv) h) hd
def ya{v:V}(hg:Gl X x)(hm:X.mg x=none)(hv:bootBuiltins x=some u)(r:RelV v u)(hn:x≠"__name__":=by decide)(hd:(x==("__debug__":Str))=false:=by decide):PE X (.Name x pos) (tC v) :=
 λ_ _ _ H _ I h=>wc I hg hm hv ⟨v,H,I,r,h⟩ hn hd
variable {a b:Nv}{ta tb:TE}{pos:Pos}
variable {tA tB':TT}{rest:Nd}
def Ya(t u:TT):TT:=fun σ H Q=>t σ H λc H1=>if c=true then u σ H1 Q else Q false H1
def tOr(t u:TT):TT:=fun σ H Q=>t σ H λc H1=>if c=true then Q true H1 else u σ H1 Q
def Ye(t:TT):TT:=fun σ H Q=>t σ H λc H1=>Q (!c) H1
def xG(ha:PT X a tA):PW X (.BoolOp .And [a] pos) tA:=by
 intro wh pins s σ H Q I h;refine isTrue_and (thn (ha pins s σ H Q I h) λc s1 e=>?_);cases c with
 |true=>exact isTrue_and_nil e
 |false=>exact e
def yS(ha:PT X a tA):PW X (.BoolOp .Or [a] pos) tA:=by
 intro wh pins s σ H Q I h;refine isTrue_or (thn (ha pins s σ H Q I h) λc s1 e=>?_);cases c with
 |false=>exact isTrue_or_nil e
 |true=>exact e
def wQ(ha:PT X a tA)(hb:PW X (.BoolOp .And (b::rest) pos) tB'):PW X (.BoolOp .And (a::b::rest) pos) (Ya tA tB'):=by
 intro wh pins s σ H Q I h;refine isTrue_and (thn (ha pins s σ H _ I h) λc s1 ⟨H1,I1,q1⟩=>?_);cases c with
 |true=>exact hb wh pins s1 σ H1 Q I1 q1
 |false=>exact⟨H1,I1,q1⟩
def yR(ha:PT X a tA)(hb:PW X (.BoolOp .Or (b::rest) pos) tB'):PW X (.BoolOp .Or (a::b::rest) pos) (tOr tA tB'):=by
 intro wh pins s σ H Q I h;refine isTrue_or (thn (ha pins s σ H _ I h) λc s1 ⟨H1,I1,q1⟩=>?_);cases c with
 |true=>exact⟨H1,I1,q1⟩
 |false=>exact hb wh pins s1 σ H1 Q I1 q1
def wn(ha:PT X a tA):PT X (.UnaryOp .Not a pos) (Ye tA):=by
 intro pins s σ H Q I h;exact isTrue_not (ha pins s σ H (λc H1=>Q (!c) H1) I h)
def wP{op}{t:TE}(h:PE X a t):PE X (.BoolOp op [a] pos) t:=λpins s σ H Q I hw=>BoolOp_one (h pins s σ H Q I hw)
def tIf(t:TT)(ta tb:TE):TE:=fun σ H Q=>t σ H λc H1=>if c=true then ta σ H1 Q else tb σ H1 Q
def fb{c:Expr}(hc:PT X c tA)(ha:PE X a ta)(hb:PE X b tb):PE X (.IfExp c a b pos) (tIf tA ta tb):=by
 intro pins s σ H Q I h;refine wpAny_IfExp (thn (hc pins s σ H _ I h) λd s1 ⟨H1,I1,q1⟩=>?_);cases d with
 |true=>exact ha pins s1 σ H1 Q I1 q1
 |false=>exact hb pins s1 σ H1 Q I1 q1
end
end L2
namespace L2
open PySem PySem.Spec PyProof.Rows
variable{x:Str}{u:Nq}{E:Da}{a body st:Nz}{t tb:TS}{pins:KB}{H H':Hp}{s:Np}{c e tg:Nv}{b it:Addr}{tc:TT}{i k:Nat}{es:Nd}{te ti to:TE}{P:Nn}{w:No}
def SqL(K:Nl)(H:Hp)(a:Addr)(xs:N1):Prop :=
 Rd H a (.lst xs) \/
  ∃(o:Obj)(Af:Nk)(n:Nat),K.lookup a=some o/\o.cls = .type "list"/\o.dict=none/\o.data = .seq Af n/\Af.size<=sizeLine/\Vals xs Af.toList
def SqT(K:Nl)(H:Hp)(a:Addr)(xs:N1):Prop :=
 Rd H a (.tup xs) \/
  ∃(o:Obj)(Af:Nk)(n:Nat),K.lookup a=some o/\o.cls = .type "tuple"/\o.data = .seq Af n/\Af.size<=sizeLine/\Vals xs Af.toList
def WK:Value->Option V
 | .none=>some .non
 | .bool b=>some (.bl b)
 | .int i _=>some (.int i)
 | .str x _=>some (.str x)
 | .bytes b _=>some (.byt b)
 | .float b _=>some (.flt b)
 | .ref a=>some (.ref a)
 | .type n=>some (.ty n)
 |_=>none
def RelV.abs{x:V}(r:RelV x u):WK u=some x:=by
 cases x with
 |non=>cases r;rfl
 |bl _=>cases r;rfl
 |int _=>obtain⟨t,rfl⟩:=r;rfl
 |str _=>obtain⟨t,rfl⟩:=r;rfl
 |byt _=>obtain⟨t,rfl⟩:=r;rfl
 |flt _=>obtain⟨t,rfl⟩:=r;rfl
 |ref _=>cases r;rfl
 |ty _=>cases r;rfl
def RelV.inj{x y:V}(r:RelV x u)(q:RelV y u):x=y:=V3 (r.abs.symm.trans q.abs)
theorem Vals.inj:∀{xs ys:List V}{us:List Value},Vals xs us->Vals ys us->xs=ys
 |_,_,_,.nil,.nil=>rfl
 |_,_,_,.cons r t,.cons r' t'=>by rw[r.inj r',Vals.inj t t']
section
variable {X:Cx}{pins:KB}{σ:St}{H:Hp}{s:Np}{a:Addr}{xs ys:N1}
def SqL.of{K:Nl}(h:H a=some (.lst xs)):SqL K H a xs:=.inl (.inl h)
def SqT.of{K:Nl}(h:H a=some (.tup xs)):SqT K H a xs:=.inl (.inl h)
def Inv.list(I:Inv X pins σ H s)(h:SqL X.K H a xs):∃Af:List Value,Vals xs Af/\PlainL s.heap a Af.toArray/\xs.length<=sizeLine:=by
 rcases h with h|⟨o,Af,n,hk,hc,hd,hs,hz,r⟩
 ·obtain⟨z,Af,n,r,e⟩:=h.ok I.hok;exact⟨Af,r,⟨_,n,e,rfl,rfl,rfl⟩,z⟩
 ·refine⟨Af.toList,r,⟨o,n,I.kIn a o hk,hc,hd,by simpa using hs⟩,?_⟩;have e:=r.length;simp only[US]at e;lia
theorem Inv.tuple(I:Inv X pins σ H s)(h:SqT X.K H a xs):∃Af:List Value,Vals xs Af/\IsTup s.heap a Af.toArray/\xs.length<=sizeLine:=by
 rcases h with h|⟨o,Af,n,hk,hc,hs,hz,r⟩
 ·obtain⟨z,Af,r,p⟩:=h.ok I.hok;exact⟨Af,r,p,z⟩
 ·refine⟨Af.toList,r,⟨o,I.kIn a o hk,hc,n,by simpa using hs⟩,?_⟩;have e:=r.length;simp only[US]at e;lia
def Inv.list_inj(I:Inv X pins σ H s)(h:SqL X.K H a xs)(h':SqL X.K H a ys):xs=ys:=by
 obtain⟨Af,r,⟨o,n,e,_,_,d⟩,_⟩:=I.list h;obtain⟨its',r',⟨o',n',e',_,_,d'⟩,_⟩:=I.list h';rw[e]at e';cases e';rw[d]at d';injection d' with d1 _;have:Af=its':=by simpa using Vp Array.toList d1
 subst this;exact r.inj r'
def Inv.tuple_inj(I:Inv X pins σ H s)(h:SqT X.K H a xs)(h':SqT X.K H a ys):xs=ys:=by
 obtain⟨Af,r,⟨o,e,_,n,d⟩,_⟩:=I.tuple h;obtain⟨its',r',⟨o',e',_,n',d'⟩,_⟩:=I.tuple h';rw[e]at e';cases e';rw[d]at d';injection d' with d1 _;have:Af=its':=by simpa using Vp Array.toList d1
 subst this;exact r.inj r'
end
abbrev Cx.wish(X:Cx)(E:Da):Cx:={ X with xe:=E }
abbrev Cx.nox(X:Cx):Cx:=X.wish λ_ _=>False
theorem Cx.Ok.wish{X:Cx}(ok:X.Ok)(E:Da):(X.wish E).Ok :=
 ⟨ok.mod,ok.kind,ok.glob,ok.blt,ok.above,ok.inj,ok.has,ok.cab,ok.hd,ok.frames,ok.stk,ok.exf,ok.bs,ok.bsz,ok.noex,ok.exfs,ok.funs,ok.frf⟩
def Cx.Ok.unwish{X:Cx}(ok:(X.wish E).Ok):X.Ok :=
 ⟨ok.mod,ok.kind,ok.glob,ok.blt,ok.above,ok.inj,ok.has,ok.cab,ok.hd,ok.frames,ok.stk,ok.exf,ok.bs,ok.bsz,ok.noex,ok.exfs,ok.funs,ok.frf⟩
section
variable {X:Cx}{pins:KB}{σ:St}{H:Hp}{s:Np}{E:Da}
theorem Inv.wish(I:Inv X pins σ H s)(E:Da):Inv (X.wish E) pins σ H s:=⟨I.ok.wish E,I.os,I.bare,I.base,I.loc,I.cell,I.free,I.freeC,I.pin,I.hok,I.len⟩
theorem Inv.unwish(I:Inv (X.wish E) pins σ H s):Inv X pins σ H s:=⟨I.ok.unwish,I.os,I.bare,I.base,I.loc,I.cell,I.free,I.freeC,I.pin,I.hok,I.len⟩
theorem SP.unwish{D:xX}{f:Flow}{s':Shared}(h:SP (X.wish E) pins D f s'):SP X pins D f s':=by
 cases f with
 |next=>obtain⟨σ',H',I,q⟩:=h;exact⟨σ',H',I.unwish,q⟩
 |brk=>obtain⟨σ',H',I,q⟩:=h;exact⟨σ',H',I.unwish,q⟩
 |cont=>obtain⟨σ',H',I,q⟩:=h;exact⟨σ',H',I.unwish,q⟩
 |ret u=>obtain⟨v,σ',H',I,r,q⟩:=h;exact⟨v,σ',H',I.unwish,r,q⟩
theorem PSs.nox(h:PSs X.nox st t):PSs X st t:=λpins s σ H D I hw =>
 V6 (h pins s σ H D (I.wish _) hw) (λ_ _ q=>q.unwish) λ_ _ z=>False.elim z
end
section
variable {X:Cx}{st:Nx}{rest:Nz}{t u:TS}{e:Nv}{te:TE}{pos:Pos}
def gh:TS:=λD σ H=>D.nx σ H
def o4(t u:TS):TS:=λD σ H=>t { D with nx:=u D } σ H
def zt:PSs X [] gh:=λ_ _ σ H _ I h=>Uj ⟨σ,H,I,h⟩
def z6(h1:PS X st t)(h2:PSs X rest u):PSs X (st::rest) (o4 t u):=by
 intro pins s σ H D I h;refine S3 (thn (h1 pins s σ H { D with nx:=u D } I h) λf s1 q=>?_);cases f with
 |next =>
  obtain⟨σ',H',I',q⟩:=q;exact h2 pins s1 σ' H' D I' q
 |ret v=>exact q
 |brk=>exact q
 |cont=>exact q
def z4(h1:PS X st t):PSs X [st] t:=by
 intro pins s σ H D I h;refine S3 (thn (h1 pins s σ H D I h) λf s1 q=>?_);cases f with
 |next=>exact Uj q
 |ret v=>exact q
 |brk=>exact q
 |cont=>exact q
def aL:TS:=λD σ H=>D.bk σ H
def Yb:TS:=λD σ H=>D.ct σ H
def Inv.quiet{σ:St}(I:Inv X pins σ H s):interactive X.env=false:=by simp[interactive,I.ok.kind]
def bD(te:TE):TS:=λD σ H=>te σ H λ_ H1=>D.nx σ H1
def zE(he:PE X e te)(hs:swapsWith e none pos.line X.env=pure false:=by rfl):PS X (.Expr e pos) (bD te):=by
 intro pins s σ H D I h;exact wpAny_Expr_any (thn (he pins s σ H _ I h) λv s1 ⟨x,H1,I1,r1,q1⟩=>⟨σ,H1,I1,q1⟩) I.quiet hs
def Yf(te:TE):TS:=λD σ H=>te σ H D.rt
def zr(he:PE X e te):PS X (.Return (some e) pos) (Yf te):=by
 intro pins s σ H D I h;exact wpAny_Return_some (thn (he pins s σ H _ I h) λv s1 ⟨x,H1,I1,r1,q1⟩=>⟨x,σ,H1,I1,r1,q1⟩)
def aM(c:TT)(t u:TS):TS:=λD σ H=>c σ H λb H1=>if b=true then t D σ H1 else u D σ H1
def zf{b:List Stmt}(hc:PT X c tc)(ha:PSs X a t)(hb:PSs X b u):PS X (.If c a b pos) (aM tc t u):=by
 intro pins s σ H D I h;refine wpAny_If (thn (hc pins s σ H _ I h) λd s1 ⟨H1,I1,q1⟩=>?_);cases d with
 |true=>exact ha pins s1 σ H1 D I1 q1
 |false=>exact hb pins s1 σ H1 D I1 q1
end
abbrev TG:=V->St->Hp->(St->Hp->Prop)->Prop
abbrev TGs:=List V->St->Hp->(St->Hp->Prop)->Prop
def PG(X:Cx)(AJ:Nv)(t:TG):Prop :=
 ∀(pins:KB)(s:Np)(σ:St)(H:Hp)(v:V)(u:Nq)(Q:St->Hp->Prop),Inv X pins σ H s->RelV v u->t v σ H Q ->
  wpAny (model X.prog X.w) X.A (assign AJ X.env u) (λ_ s'=>∃σ' H',Inv X pins σ' H' s'/\Q σ' H') X.xe s
def PGs(X:Cx)(ts:Nd)(t:TGs):Prop :=
 ∀(pins:KB)(s:Np)(σ:St)(H:Hp)(vs:N1)(us:GE)(Q:St->Hp->Prop),Inv X pins σ H s->Vals vs us->t vs σ H Q ->
  wpAny (model X.prog X.w) X.A (assignInOrder ((assignEach ts X.env).map (·.2)) us) (λ_ s'=>∃σ' H',Inv X pins σ' H' s'/\Q σ' H') X.xe s
abbrev bK:=V->V->V->Hp->(Hp->Prop)->Prop
def Yt(X:Cx)(t:bK):Prop :=
 ∀(pins:KB)(s:Np)(σ:St)(H:Hp)(o i v:V)(ov iv u:Nq)(Q:Hp->Prop),Inv X pins σ H s->RelV o ov->RelV i iv->RelV v u->t o i v H Q ->
  wpAny (model X.prog X.w) X.A (setItem ov iv u) (λ_ s'=>∃H',Inv X pins σ H' s'/\Q H') X.xe s
section
variable {X:Cx}{pos:Pos}
def qk(i:Nat):TG:=λv σ H Q=>Q (σ.set i (some v)) H
def cQ(hN:X.N.Nodup)(hi:X.N[i]?=some x)(hx:Loc X.env.scope x)(hf:X.fn x=true\/X.env.scope.names.lookup x=some .local:=by first|exact .inl rfl|exact .inr rfl|assumption):PG X (.Name x pos) (qk i):=by
 intro pins s σ H v u Q I r h;exact wpAny_assign_Name (vX I hN hi hx r (λs' I'=>⟨_,H,I',h⟩) hf)
def WQ:TGs:=λvs σ H Q=>vs=[]/\Q σ H
def XD(t:TG)(u:TGs):TGs:=λvs σ H Q=>∃v r,vs=v::r/\t v σ H fun σ' H'=>u r σ' H' Q
def kK:PGs X [] WQ:=by
 intro pins s σ H vs us Q I r h;obtain⟨e,h⟩:=h;subst e;cases r;exact assignInOrder_nil ⟨σ,H,I,h⟩
theorem vQ{t:TG}{u:TGs}(h1:PG X e t)(h2:PGs X es u)
  (hs:(assignEach (e::es) X.env).map (·.2)=assign e X.env::(assignEach es X.env).map (·.2):=by rfl):PGs X (e::es) (XD t u):=by
 intro pins s σ H vs us Q I r h;obtain⟨v,vr,e1,h⟩:=h;subst e1;cases r with
 |cons r rr =>
  rw[hs];refine assignInOrder_cons (thn (h1 pins s σ H _ _ _ I r h) λ_ s1 ⟨σ1,H1,I1,q1⟩=>?_);exact h2 pins s1 σ1 H1 _ _ Q I1 rr q1
def WR(K:Nl)(n:Nat)(t:TGs):TG:=λv σ H Q=>∃a xs,v = .ref a/\SqT K H a xs/\xs.length=n/\t xs σ H Q
def Zr{t:TGs}{n:Nat}(hc:X.calm=true)(h:PGs X es t)
  (hn:(assignEach es X.env).length=n:=by rfl) (BF:(assignEach es X.env).findIdx? (·.1)=none:=by rfl):PG X (.Tuple es k pos) (WR X.K n t):=by
 intro pins s σ H v u Q I r hw;obtain⟨a,xs,e1,hq,hl,hw⟩:=hw;subst e1;cases r;obtain⟨Af,rv,ht,hz⟩:=I.tuple hq;refine assign_Tuple_tuple (I.ok.hd hc) ht (by simp[hn,<-hl,rv.length]) BF λh' hx=>?_;have I1:Inv X pins σ H { s with heap:=h' }:=I.kept (t':=s.toks) λb o e=>hx b o (VD (VV e)) e;exact h pins _ σ H xs _ Q I1 (by simpa using rv) hw
def Y7(to ti:TE)(t:bK):TG:=λv σ H Q=>to σ H λo H1=>ti σ H1 λi H2=>t o i v H2 λH3=>Q σ H3
def Zq{o i:Nv}{t:bK}(ho:PE X o to)(hi:PE X i ti)(hs:Yt X t)
  (ha:∀v,assign (.Subscript o i pos) X.env v=(do
   let ov <-holding [v] (eval o X.env)
   let iv <-holding [v,ov] (eval i X.env)
   standAt pos
   holding [v,ov,iv] (setItem ov iv v)
   release [v,ov,iv] []):=by intro _;rfl):PG X (.Subscript o i pos) (Y7 to ti t):=by
 intro pins s σ H v u Q I r h;rw[ha];refine WC (Vh (thn (ho pins s σ H _ I h) λov s1 ⟨x,H1,I1,r1,q1⟩=>?_));refine WC (Vh (thn (hi pins s1 σ H1 _ I1 q1) λiv s2 ⟨y,H2,I2,r2,q2⟩=>?_));refine WC (T5 (WC (Vh (thn (hs pins s2 σ H2 x y v ov iv u _ I2 r1 r2 r q2) λ_ s3 ⟨H3,I3,q3⟩=>?_))));exact wpAny_release ⟨σ,H3,I3,q3⟩
def ge(te:TE)(g:TG):TS:=λD σ H=>te σ H λx H1=>g x σ H1 D.nx
def fm{g:TG}(he:PE X e te)(hg:PG X tg g)(hs:swapsWithSole [tg] e pos.line X.env=pure false:=by rfl)(hw:swappedStores [tg] e X.env=pure none:=by rfl)
  (h1:(assignEach [tg] X.env).map (·.2)=[assign tg X.env]:=by rfl):PS X (.Assign [tg] e pos) (ge te g):=by
 intro pins s σ H D I h;refine wpAny_Assign_stores (thn (he pins s σ H _ I h) λv s1 ⟨x,H1,I1,r1,q1⟩=>?_) hs hw;rw[h1];exact thn (hg pins s1 σ H1 x v _ I1 r1 q1) λ_ s2 q=>q
def Zv{CH:Pos}(hN:X.N.Nodup)(hi:X.N[i]?=some x)(hx:Loc X.env.scope x)(he:PE X e te)(hs:swapsWith e (some (.Name x CH)) pos.line X.env=pure false:=by rfl)(hf:X.fn x=true\/X.env.scope.names.lookup x=some .local:=by first|exact .inl rfl|exact .inr rfl|assumption):
  PS X (.Assign [.Name x CH] e pos) (ge te (qk i)):=by
 intro pins s σ H D I h;refine wpAny_Assign_Name (thn (he pins s σ H _ I h) λv s1 ⟨y,H1,I1,r1,q1⟩=>?_) hs;exact vX I1 hN hi hx r1 (λs2 I2=>⟨_,H1,I2,q1⟩) hf
end
section
variable {X:Cx}{pos:Pos}
def gj(c:TT)(tb:TS):TS:=λD σ H=>∃W:Nat->St->Hp->Prop,(∃m,W m σ H)/\∀m σ H,W m σ H ->
 c σ H λb H1=>if b=true then∃N:St->Hp->Prop,(∀σ' H',N σ' H'->∃m',m'<m/\W m' σ' H')/\tb { D with nx:=N,ct:=N,bk:=D.nx } σ H1 else D.nx σ H1
def fq(hp:PassesOwn (model X.prog X.w) X.A X.env X.xe)(hc:PT X c tc)(hb:PSs X body tb):PS X (.While c body [] pos) (gj tc tb):=by
 intro pins s σ H D I h;obtain⟨W,⟨m0,w0⟩,Bf⟩:=h;refine wpAny_While (codeAny_whileLoop (λn s'=>∃σ' H',Inv X pins σ' H' s'/\W n σ' H') ?_ m0 ⟨σ,H,I,w0⟩);rintro n s1 ⟨σ1,H1,I1,w1⟩;refine TM hp (thn (hc pins s1 σ1 H1 _ I1 (Bf n σ1 H1 w1)) λb s2 ⟨H2,I2,q2⟩=>?_);cases b with
 |true =>
  obtain⟨N,hN,q2⟩:=q2;rw[VB rfl];refine TM hp (thn (hb pins s2 σ1 H2 _ I2 q2) λf s3 q3=>?_);cases f with
  |next =>
   obtain⟨σ3,H3,I3,n3⟩:=q3;obtain⟨m',hm,w3⟩:=hN σ3 H3 n3;exact⟨m',hm,σ3,H3,I3,w3⟩
  |cont =>
   obtain⟨σ3,H3,I3,n3⟩:=q3;obtain⟨m',hm,w3⟩:=hN σ3 H3 n3;exact⟨m',hm,σ3,H3,I3,w3⟩
  |brk=>exact q3
  |ret v=>exact q3
 |false =>
  rw[VF VG];exact Uj ⟨σ1,H2,I2,q2⟩
end
structure It where
 go:Nat->Hp->Prop
 yld:Nat->Hp->V->Hp->Prop
 stop:Nat->Hp->Prop
def xV(X:Cx)(pins:KB)(H:Hp)(b:Addr):Prop :=
 H b=none/\b≠X.env.locals/\b∉X.fs/\(b∈X.ex\/X.s₀.heap.objs.size<=b)/\(∀x c,X.env.cells.lookup x=some c->c≠b)/\∀p∈X.pn++pins,p.1≠b
def Inv.fpOk{X:Cx}{σ:St}(I:Inv X pins σ H s)(hb:s.heap.objs.size<=b)(hn:H' b=none):xV X pins H' b:=by
 refine⟨hn,Uw (V8 I.lt hb),I.nofs hb,.inr (Vz I.sz hb),λx c e z=>?_,λp hp z=>?_⟩
 ·obtain⟨v,q⟩:=I.cell x c e;exact absurd (V8 q.lt (by rw[z];exact hb)) (Vj _)
 ·exact absurd (V8 (VV (I.pin p hp).1) (by rw[z];exact hb)) (Vj _)
structure sM(P:Nn)(w:No)(K:Nl)(tg:Nv)(J:It)(fp:GT)(it:Addr)(tn:Ng):Prop where
 mem:it∈fp
 obj:∀i h,tn i h->∀b∈fp,∃o,h.get? b=some o/\∀v,o.data≠.cell v
 keep:∀i h h',tn i h->(∀b∈fp,∀o,h.get? b=some o->h'.get? b=some o)->tn i h'
 item:∀(X:Cx),X.prog=P->X.w=w->X.K=K->X.calm=true->∀(i:Nat)(pins:KB)(s:Np)(σ:St)(H:Hp)(E:Da),Inv X pins σ H s->(∀b∈fp,xV X pins H b)->tn i s.heap->J.go i H ->
  wpAny (model P w) X.A (pyNext (.ref it)) (λr s1=>∃u,r=some u /\
   wpAny (model P w) X.A (letOwnedTupleGo tg (.ref it) u) (λ_ s2=>∃x H',Inv X pins σ H' s2/\RelV x u/\J.yld i H x H'/\tn (i+1) s2.heap/\∀b∈fp,H' b=none) E s1) E s
 done:∀(X:Cx),X.prog=P->X.w=w->X.K=K->X.calm=true->∀(i:Nat)(pins:KB)(s:Np)(σ:St)(H:Hp)(E:Da),Inv X pins σ H s->(∀b∈fp,xV X pins H b)->tn i s.heap->J.stop i H ->
  wpAny (model P w) X.A (pyNext (.ref it)) (λr s1=>r=none/\Inv X pins σ H s1) E s
 self:∀(A:Nr)(i:Nat)(s:Np)(Q:Da)(E:Da),tn i s.heap->Q (.ref it) s->wpAny (model P w) A (pyIter (.ref it)) Q E s
abbrev TI:=St->Hp->(It->Hp->Prop)->Prop
def PIE(X:Cx)(pins:KB)(σ:St)(tg:Nv)(R:It->Hp->Prop)(IN:Nq)(s2:Np):Prop :=
 ∃(it:Addr)(fp:GT)(tn:Ng)(J:It)(H':Hp),IN = .ref it/\Inv X pins σ H' s2/\sM X.prog X.w X.K tg J fp it tn/\tn 0 s2.heap/\(∀b∈fp,xV X pins H' b)/\R J H'
def PI(X:Cx)(tg iter:Nv)(wi:TI):Prop :=
 ∀(pins:KB)(s:Np)(σ:St)(H:Hp)(R:It->Hp->Prop),Inv X pins σ H s->wi σ H R ->
  wpAny (model X.prog X.w) X.A (eval iter X.env) (λv s1=>wpAny (model X.prog X.w) X.A (pyIter v) (PIE X pins σ tg R) X.xe s1) X.xe s
theorem sd{M:Model}{A:Around}{o:Obj}{n:String}{vs:Array Value}{Q:Unit->Shared->Prop}(ho:s.heap.get? it=some o)(hc:o.cls = .type n)(hd:o.data = .fields vs)
  (hn:["enumerate","zip","dict_itemiterator","dict_reverseitemiterator","odict_iterator","itertools.zip_longest","itertools.pairwise"].contains n=false) (hQ:Q () s):wpAny M A (letOwnedTupleGo tg (.ref it) u) Q E s:=by
 unfold letOwnedTupleGo;cases tg<;>first
  |exact VZ hQ
  |(cases u<;>first
    |exact VZ hQ
    |(refine WC (wpAny_load ho ?_);rw[hc,hd];show wpAny M A (if(["enumerate","zip","dict_itemiterator","dict_reverseitemiterator","odict_iterator","itertools.zip_longest","itertools.pairwise"].contains n&&vs[0]?==some (rawInt _))=true then _ else _) Q E s;rw[VF (by intro h;rw[hn,Bool.false_and]at h;cases h)];exact VZ hQ))
def Itl(K:Nl)(a:Addr):It :=
 ⟨λi H=>∃xs x,SqL K H a xs/\xs[i]?=some x,λi H x H'=>H'=H/\∀xs,SqL K H a xs->xs[i]?=some x,λi H=>∃xs,SqL K H a xs/\xs.length<=i⟩
def Itt(K:Nl)(a:Addr):It :=
 ⟨λi H=>∃xs x,SqT K H a xs/\xs[i]?=some x,λi H x H'=>H'=H/\∀xs,SqT K H a xs->xs[i]?=some x,λi H=>∃xs,SqT K H a xs/\xs.length<=i⟩
def Itr(lo:Int)(n:Nat):It:=⟨λi _=>i<n,λi H x H'=>H'=H/\x = .int (lo+i),λi _=>n<=i⟩
def vA{K:Nl}(a it:Addr):sM P w K tg (Itl K a) [it] it (λi h=>h.IsListIter it a i)where
 mem:=by simp
 obj:=λi h st b hb=>by
  have e:b=it:=by simpa using hb
  subst e;obtain⟨o,e,c,d⟩:=st;exact⟨o,e,λv z=>by rw[d]at z;cases z⟩
 keep:=λi h h' st k=>st.at λo e=>k it (by simp) o e
 item:=by
  intro X hP hw hK hc i pins s σ H E I hf st hg;subst hP hw hK;obtain⟨xs,x,hq,hx⟩:=hg;obtain⟨Af,rv,p,hz⟩:=I.list hq;obtain⟨u,hu,ru⟩:=rv.get hx;obtain⟨f0,f1,f2,f3,f4,f5⟩:=hf it (by simp);refine SJ st p.isList (x:=u) (by simpa using hu) λh' Bz sb=>?_;have I1:Inv X pins σ H { s with heap:=h' }:=I.turned (t':=s.toks) (λb o hb e=>(sb.2 b hb).trans e) f0 f1 f3 f4 f5;obtain⟨o,e,c,d⟩:=id Bz;exact⟨u,rfl,sd (s:={ s with heap:=h' }) e c d (by decide) ⟨x,H,I1,ru,⟨rfl,λys hy=>by rw[I.list_inj hy hq];exact hx⟩,Bz,λb hb=>(hf b hb).1⟩⟩
 done:=by
  intro X hP hw hK hc i pins s σ H E I hf st hg;subst hP hw hK;obtain⟨xs,hq,hx⟩:=hg;obtain⟨Af,rv,p,hz⟩:=I.list hq;obtain⟨f0,f1,f2,f3,f4,f5⟩:=hf it (by simp);have hl:=rv.length;exact wpAny_pyNext_list_end (I.ok.hd hc) st p.isList (by simp;lia) λh' eb=>⟨rfl,I.turned (t':=s.toks) (λb o hb e=>eb b o hb e) f0 f1 f3 f4 f5⟩
 self:=λ_ _ _ _ _ st h=>wpAny_pyIter_listiter st h
def m3{K:Nl}(a it:Addr):sM P w K tg (Itt K a) [it] it (λi h=>h.IsTupleIter it a i)where
 mem:=by simp
 obj:=λi h st b hb=>by
  have e:b=it:=by simpa using hb
  subst e;obtain⟨o,e,c,d⟩:=st;exact⟨o,e,λv z=>by rw[d]at z;cases z⟩
 keep:=λi h h' st k=>st.at λo e=>k it (by simp) o e
 item:=by
  intro X hP hw hK hc i pins s σ H E I hf st hg;subst hP hw hK;obtain⟨xs,x,hq,hx⟩:=hg;obtain⟨Af,rv,p,hz⟩:=I.tuple hq;obtain⟨u,hu,ru⟩:=rv.get hx;obtain⟨f0,f1,f2,f3,f4,f5⟩:=hf it (by simp);refine wpAny_pyNext_tuple_item st (show s.heap.IsTuple a Af.toArray from p) (x:=u) (by simpa using hu) λh' Bz sb=>?_;have I1:Inv X pins σ H { s with heap:=h' }:=I.turned (t':=s.toks) (λb o hb e=>(sb.2 b hb).trans e) f0 f1 f3 f4 f5;obtain⟨o,e,c,d⟩:=id Bz;exact⟨u,rfl,sd (s:={ s with heap:=h' }) e c d (by decide) ⟨x,H,I1,ru,⟨rfl,λys hy=>by rw[I.tuple_inj hy hq];exact hx⟩,Bz,λb hb=>(hf b hb).1⟩⟩
 done:=by
  intro X hP hw hK hc i pins s σ H E I hf st hg;subst hP hw hK;obtain⟨xs,hq,hx⟩:=hg;obtain⟨Af,rv,p,hz⟩:=I.tuple hq;obtain⟨f0,f1,f2,f3,f4,f5⟩:=hf it (by simp);have hl:=rv.length;exact wpAny_pyNext_tuple_end (I.ok.hd hc) st (show s.heap.IsTuple a Af.toArray from p) (by simp;lia) λh' eb=>⟨rfl,I.turned (t':=s.toks) (λb o hb e=>eb b o hb e) f0 f1 f3 f4 f5⟩
 self:=λ_ _ _ _ _ st h=>wpAny_pyIter_tupleiter st h
def my{K:Nl}(it:Addr)(lo:Int)(n:Nat):sM P w K tg (Itr lo n) [it] it (λi h=>IsRangeIter h it (lo+(i:Nat)*1) ((n:Int)-(i:Nat)) 1)where
 mem:=by simp
 obj:=λi h st b hb=>by
  have e:b=it:=by simpa using hb
  subst e;exact⟨_,st,λv z=>by
   have z':Data.fields _=Data.cell v:=z;cases z'⟩
 keep:=λi h h' st k=>k it (by simp) _ st
 item:=by
  intro X hP hw hK hc i pins s σ H E I hf st hg;subst hP hw hK;obtain⟨f0,f1,f2,f3,f4,f5⟩:=hf it (by simp);have W:=Walks.range (prog:=X.prog) (w:=X.w) (I.ok.hd hc) it lo 1 n;refine W.item i s _ _ hg st λv h' tk hv Bz kk=>?_;obtain⟨t,rfl⟩:=hv;have I1:Inv X pins σ H { s with heap:=h',toks:=tk }:=I.turned (λb o hb e=>kk b o (by simpa using hb) e) f0 f1 f3 f4 f5;refine⟨_,rfl,sd (s:={ s with heap:=h',toks:=tk }) (n:="range_iterator") Bz rfl rfl (by decide) ⟨.int (lo+i),H,I1,⟨t,?_⟩,⟨rfl,rfl⟩,Bz,λb hb=>(hf b hb).1⟩⟩;rw[Int.mul_one]
 done:=by
  intro X hP hw hK hc i pins s σ H E I hf st hg;subst hP hw hK;obtain⟨f0,f1,f2,f3,f4,f5⟩:=hf it (by simp);exact wpAny_pyNext_range_end (I.ok.hd hc) st (by have:n<=i:=hg;lia) λh' eb=>⟨rfl,I.turned (t':=s.toks) (λb o hb e=>eb b o hb e) f0 f1 f3 f4 f5⟩
 self:=λ_ _ _ _ _ st h=>wpAny_pyIter_rangeiter st h
end L2
namespace L2
open PySem PySem.Spec PyProof.Rows
variable{pins pl:KB}{H:Hp}{s:Np}{hi lo:Int}{n tk:Nat}{fp:GT}{h:Nw}{a b:Addr}{g:TG}{tb:TS}{xs:N1}{D:xX}
section
variable {X:Cx}{tg:Nv}
def f7{σ:St}{R:It->Hp->Prop}{E:Da}{t u v:Tok}(I:Inv X pins σ H s)(h1:-(2 ^ 62)<=lo)(h2:lo<2 ^ 62)(h3:-(2 ^ 62)<=hi)(h4:hi<2 ^ 62)
  (q:R (Itr lo (hi-lo).toNat) H):wpAny (model X.prog X.w) X.A (pyIter (.ref s.heap.objs.size)) (PIE X pins σ tg R) E { s with heap:=s.heap.push { cls:=.type "range",data:=.fields #[.int lo t,.int hi u,.int 1 v] },toks:=tk }:=by
 refine wpAny_pyIter_range (IsRange.new ..) (small_one h1 h2 h3 h4) ?_;have I1:Inv X pins σ H { s with heap:=s.heap.push { cls:=.type "range",data:=.fields #[.int lo t,.int hi u,.int 1 v] },toks:=tk }:=I.kept λb o e=>WB _ e;refine⟨(s.heap.push { cls:=.type "range",data:=.fields #[.int lo t,.int hi u,.int 1 v] }).objs.size,[(s.heap.push { cls:=.type "range",data:=.fields #[.int lo t,.int hi u,.int 1 v] }).objs.size],_,_,H,rfl,
  I1.kept (t':=tk) λb o e=>WB _ e,my _ lo (hi-lo).toNat,?_,λb hb=>?_,q⟩
 ·have e1:lo+((0:Nat):Int)*1=lo:=by simp
  have e2:(((hi-lo).toNat:Nat):Int)-((0:Nat):Int)=Builtin.Range.rangeSize lo hi 1:=by rw[rangeSize_one];split<;>lia
  show IsRangeIter _ _ (lo+((0:Nat):Int)*1) ((((hi-lo).toNat:Nat):Int)-((0:Nat):Int)) 1;rw[e1,e2];exact VS _ rfl
 ·have e:b=(s.heap.push { cls:=.type "range",data:=.fields #[.int lo t,.int hi u,.int 1 v] }).objs.size:=by simpa using hb
  subst e;exact I1.fpOk (VW _) (I1.hok.fresh (VW _))
def Ws(wi:TI)(g:TG)(tb:TS):TS:=λD σ H=>wi σ H λJ H1=>∃W:Nat->Nat->St->Hp->Prop,(∃m,W 0 m σ H1)/\∀i m σ H,W i m σ H ->
 (J.stop i H/\D.nx σ H)\/(J.go i H/\∃N:St->Hp->Prop,(∀σ' H',N σ' H'->∃m',m'<m/\W (i+1) m' σ' H')/\∀x H',J.yld i H x H'->g x σ H' fun σ2 H2=>tb { D with nx:=N,ct:=N,bk:=D.nx } σ2 H2)
def wm(fp:GT)(h:Nw):List (Addr×Obj):=fp.filterMap λb=>(h.get? b).map λo=>(b,o)
def yi{o:Obj}(hb:b∈fp)(e:h.get? b=some o):(b,o)∈wm fp h:=SR.mpr ⟨b,hb,by rw[e];rfl⟩
def i3{p:Addr×Obj}(hp:p∈wm fp h):p.1∈fp/\h.get? p.1=some p.2:=by
 obtain⟨b,hb,e⟩:=SR.mp hp;cases q:h.get? b with
 |none=>rw[q]at e;cases e
 |some o =>
  rw[q]at e;have e':(b,o)=p:=V3 e;subst e';exact⟨hb,q⟩
def Inv.pinned{σ:St}(I:Inv X pins σ H s)(hf:∀b∈fp,xV X pins H b)(ho:∀b∈fp,∃o,s.heap.get? b=some o/\∀v,o.data≠.cell v):Inv X (pins++wm fp s.heap) σ H s :=
 I.pins_of λp hp=>(VQ.mp hp).elim (λz=>I.pin p (VM _ z)) λz=>by
  obtain⟨hb,e⟩:=i3 z;obtain⟨f0,f1,f2,_⟩:=hf p.1 hb;obtain⟨o,e',d⟩:=ho p.1 hb;rw[e]at e';cases e';exact⟨e,f0,f1,f2,d⟩
def Inv.unpinned{σ:St}(I:Inv X (pins++pl) σ H s):Inv X pins σ H s:=I.pins_of λp hp=>I.pin p (VM _ (UV _ hp))
theorem Zt{iter:Expr}{body:List Stmt}{wi:TI}{pos:Pos}(hp:PassesOwn (model X.prog X.w) X.A X.env X.xe)(hc:X.calm=true)(hi:PI X tg iter wi)(hg:PG X tg g)(hb:PSs X body tb)
  (hs:∀x,foldedSetIterable iter X.env x=pure x:=by intro _;rfl):PS X (.For tg iter body [] pos) (Ws wi g tb):=by
 intro pins s σ H D I h;refine wpAny_For (thn (hi pins s σ H _ I h) λv s1 h1=>thn h1 λIN s2 h2=>?_) hs;obtain⟨it,fp,tn,J,H2,e,I2,T,HA,f2,W,⟨m0,w0⟩,Bf⟩:=h2;subst e;have Fq:∀{H':Hp},(∀b∈fp,H' b=none)->∀b∈fp,xV X pins H' b:=λhn b hb=>⟨hn b hb,(f2 b hb).2⟩
 refine codeAny_forLoop_any (λn s'=>∃i σ' H',Inv X pins σ' H' s'/\tn i s'.heap/\(∀b∈fp,H' b=none)/\W i n σ' H') ?_ m0 ⟨0,σ,H2,I2,HA,λb hb=>(f2 b hb).1,w0⟩;rintro n s3 ⟨i,σ3,H3,I3,LC,MB,w3⟩;rcases Bf i n σ3 H3 w3 with⟨stop,qn⟩|⟨go,N,hN,step⟩
 ·refine TM hp (thn (T.done X rfl rfl rfl hc i pins s3 σ3 H3 X.xe I3 (Fq MB) LC stop) λr s4 ⟨hr,I4⟩=>?_);subst hr;exact Uj ⟨σ3,H3,I4,qn⟩
 ·refine TM hp (thn (T.item X rfl rfl rfl hc i pins s3 σ3 H3 X.xe I3 (Fq MB) LC go) λr s4 ⟨u,hr,h4⟩=>?_);subst hr;refine TM hp (thn h4 λ_ s5 ⟨x,H5,I5,r5,y5,Fm,Hi⟩=>?_);have I5':=I5.pinned (Fq Hi) (T.obj _ _ Fm);refine TM hp (thn (hg _ s5 σ3 H5 x u _ I5' r5 (step x H5 y5)) λ_ s6 ⟨σ6,H6,I6,q6⟩=>?_);refine TM hp (thn (hb _ s6 σ6 H6 _ I6 q6) λf s7 q7=>?_);have again:∀{σ7:St}{H7:Hp},Inv X (pins++wm fp s5.heap) σ7 H7 s7->N σ7 H7->∃m,m<n/\∃i σ' H',Inv X pins σ' H' s7/\tn i s7.heap/\(∀b∈fp,H' b=none)/\W i m σ' H':=λ{σ7 H7} I7 n7=>by
   obtain⟨m',hm,w7⟩:=hN σ7 H7 n7;refine⟨m',hm,i+1,σ7,H7,I7.unpinned,T.keep _ _ _ Fm λb hb o e=>(I7.pin (b,o) (VM _ (VM _ (yi hb e)))).1,λb hb=>?_,w7⟩;obtain⟨o,e,d⟩:=T.obj _ _ Fm b hb;exact(I7.pin (b,o) (VM _ (VM _ (yi hb e)))).2.1
  cases f with
  |next=>obtain⟨σ7,H7,I7,n7⟩:=q7;exact again I7 n7
  |cont=>obtain⟨σ7,H7,I7,n7⟩:=q7;exact again I7 n7
  |brk=>obtain⟨σ7,H7,I7,q7⟩:=q7;exact⟨σ7,H7,I7.unpinned,q7⟩
  |ret v=>obtain⟨x7,σ7,H7,I7,r7,q7⟩:=q7;exact⟨x7,σ7,H7,I7.unpinned,r7,q7⟩
end
def dh{K:Nl}{σ:St}(Pv:Nat->St->Hp->Prop)(h0:Pv 0 σ H)(hl:∀i σ H,i<=xs.length->Pv i σ H->SqL K H a xs)
  (hs:∀i x σ H,xs[i]?=some x->Pv i σ H->g x σ H fun σ2 H2=>tb { D with nx:=Pv (i+1),ct:=Pv (i+1),bk:=D.nx } σ2 H2) (hd:∀σ H,Pv xs.length σ H->D.nx σ H) :
  ∃W:Nat->Nat->St->Hp->Prop,(∃m,W 0 m σ H)/\∀i m σ H,W i m σ H ->
   ((Itl K a).stop i H/\D.nx σ H)\/((Itl K a).go i H/\∃N:St->Hp->Prop,(∀σ' H',N σ' H'->∃m',m'<m/\W (i+1) m' σ' H')/\∀x H',(Itl K a).yld i H x H'->g x σ H' fun σ2 H2=>tb { D with nx:=N,ct:=N,bk:=D.nx } σ2 H2):=by
 refine⟨λi m σ H=>m=xs.length-i/\i<=xs.length/\Pv i σ H,⟨xs.length,by simp,V5 _,h0⟩,?_⟩;rintro i m σ H ⟨rfl,hi,p⟩;have q:=hl i σ H hi p
 by_cases A3:i<xs.length
 ·refine .inr ⟨⟨xs,xs[i],q,by simp[A3]⟩,Pv (i+1),fun σ' H' p'=>⟨xs.length-(i+1),by lia,rfl,A3,p'⟩,λx H' y=>?_⟩;obtain⟨e,y⟩:=y;subst e;exact hs i x σ _ (y xs q) p
 ·have e:i=xs.length:=by lia
  subst e;exact .inl ⟨⟨xs,q,VW _⟩,hd σ H p⟩
def bY{K:Nl}{σ:St}(Pv:Nat->St->Hp->Prop)(h0:Pv 0 σ H)(hl:∀i σ H,i<=xs.length->Pv i σ H->SqT K H a xs)
  (hs:∀i x σ H,xs[i]?=some x->Pv i σ H->g x σ H fun σ2 H2=>tb { D with nx:=Pv (i+1),ct:=Pv (i+1),bk:=D.nx } σ2 H2) (hd:∀σ H,Pv xs.length σ H->D.nx σ H) :
  ∃W:Nat->Nat->St->Hp->Prop,(∃m,W 0 m σ H)/\∀i m σ H,W i m σ H ->
   ((Itt K a).stop i H/\D.nx σ H)\/((Itt K a).go i H/\∃N:St->Hp->Prop,(∀σ' H',N σ' H'->∃m',m'<m/\W (i+1) m' σ' H')/\∀x H',(Itt K a).yld i H x H'->g x σ H' fun σ2 H2=>tb { D with nx:=N,ct:=N,bk:=D.nx } σ2 H2):=by
 refine⟨λi m σ H=>m=xs.length-i/\i<=xs.length/\Pv i σ H,⟨xs.length,by simp,V5 _,h0⟩,?_⟩;rintro i m σ H ⟨rfl,hi,p⟩;have q:=hl i σ H hi p
 by_cases A3:i<xs.length
 ·refine .inr ⟨⟨xs,xs[i],q,by simp[A3]⟩,Pv (i+1),fun σ' H' p'=>⟨xs.length-(i+1),by lia,rfl,A3,p'⟩,λx H' y=>?_⟩;obtain⟨e,y⟩:=y;subst e;exact hs i x σ _ (y xs q) p
 ·have e:i=xs.length:=by lia
  subst e;exact .inl ⟨⟨xs,q,VW _⟩,hd σ H p⟩
def iT{σ:St}(Pv:Nat->St->Hp->Prop)(h0:Pv 0 σ H)
  (hs:∀i σ H,i<n->Pv i σ H->g (.int (lo+i)) σ H fun σ2 H2=>tb { D with nx:=Pv (i+1),ct:=Pv (i+1),bk:=D.nx } σ2 H2) (hd:∀σ H,Pv n σ H->D.nx σ H) :
  ∃W:Nat->Nat->St->Hp->Prop,(∃m,W 0 m σ H)/\∀i m σ H,W i m σ H ->
   ((Itr lo n).stop i H/\D.nx σ H)\/((Itr lo n).go i H/\∃N:St->Hp->Prop,(∀σ' H',N σ' H'->∃m',m'<m/\W (i+1) m' σ' H')/\∀x H',(Itr lo n).yld i H x H'->g x σ H' fun σ2 H2=>tb { D with nx:=N,ct:=N,bk:=D.nx } σ2 H2):=by
 refine⟨λi m σ H=>m=n-i/\i<=n/\Pv i σ H,⟨n,by simp,V5 _,h0⟩,?_⟩;rintro i m σ H ⟨rfl,hi,p⟩
 by_cases A3:i<n
 ·refine .inr ⟨A3,Pv (i+1),fun σ' H' p'=>⟨n-(i+1),by lia,rfl,A3,p'⟩,λx H' y=>?_⟩;obtain⟨e,y⟩:=y;subst e y;exact hs i σ _ A3 p
 ·have e:i=n:=by lia
  subst e;exact .inl ⟨VW _,hd σ H p⟩
end L2
namespace L2
open PySem PySem.Spec PyProof.Rows
variable{pins:KB}{s:Np}{H:Hp}{f:Value->Value->Sem Value}{op:CmpOp}{g:Int->Int->Int}{i j:Int}{x y:V}{us:GE}
abbrev R2:=V->V->Hp->VK->Prop
def OpR(X:Cx)(f:Value->Value->Sem Value)(r:R2):Prop :=
 ∀(pins:KB)(s:Np)(σ:St)(H:Hp)(x y:V)(v u:Nq)(Q:VK),Inv X pins σ H s->RelV x v->RelV y u->r x y H Q ->
  wpAny (model X.prog X.w) X.A (f v u) (EP X pins σ Q) X.xe s
def UnR(X:Cx)(f:Value->Sem Value)(r:V->Hp->VK->Prop):Prop :=
 ∀(pins:KB)(s:Np)(σ:St)(H:Hp)(x:V)(v:Nq)(Q:VK),Inv X pins σ H s->RelV x v->r x H Q ->
  wpAny (model X.prog X.w) X.A (f v) (EP X pins σ Q) X.xe s
def xo(X:Cx)(f:Nq)(r:List V->Hp->VK->Prop):Prop :=
 ∀(pins:KB)(s:Np)(σ:St)(H:Hp)(xs:N1)(us:GE)(Q:VK),Inv X pins σ H s->Vals xs us->r xs H Q ->
  wpAny (model X.prog X.w) X.A (call f us) (EP X pins σ Q) X.xe s
def tOp(r:R2)(ta tb:TE):TE:=fun σ H Q=>ta σ H λx H1=>tb σ H1 λy H2=>r x y H2 Q
def tUn(r:V->Hp->VK->Prop)(ta:TE):TE:=fun σ H Q=>ta σ H λx H1=>r x H1 Q
def rI(C:Int->Int->Prop)(g:Int->Int->V):R2:=λx y H Q=>∃i j,x = .int i/\y = .int j/\C i j/\Q (g i j) H
def rI0(g:Int->Int->V):R2:=λx y H Q=>∃i j,x = .int i/\y = .int j/\Q (g i j) H
def rU(g:Int->V):V->Hp->VK->Prop:=λx H Q=>∃i,x = .int i/\Q (g i) H
section
variable {X:Cx}{a b c:Nv}{ta tb tc:TE}{pos:Pos}
def Yy(ha:PE X a ta)(hb:PE X b tb){σ:St}{R:V->V->Hp->Prop}(I:Inv X pins σ H s)
  (h:ta σ H λx H1=>tb σ H1 λy H2=>R x y H2) {Q:Da}
  (hf:∀v u s2 x y H2,Inv X pins σ H2 s2->RelV x v->RelV y u->R x y H2->wpAny (model X.prog X.w) X.A (f v u) Q X.xe s2) :
  wpAny (model X.prog X.w) X.A (eval a X.env) (λv X'=>wpAny (model X.prog X.w) X.A (eval b X.env) (λu Y'=>wpAny (model X.prog X.w) X.A (f v u) Q X.xe Y') X.xe X') X.xe s:=by
 refine thn (ha pins s σ H _ I h) λv s1 ⟨x,H1,I1,r1,q1⟩=>?_;refine thn (hb pins s1 σ H1 _ I1 q1) λu s2 ⟨y,H2,I2,r2,q2⟩=>?_;exact hf v u s2 x y H2 I2 r1 r2 q2
def zu{op:Operator}{r:R2}(ho:OpR X (binaryOp op) r)(ha:PE X a ta)(hb:PE X b tb):PE X (.BinOp a op b pos) (tOp r ta tb):=by
 intro pins s σ H Q I h;exact wpAny_BinOp (Yy ha hb I h λv u s2 x y H2 I2 rx ry q=>ho pins s2 σ H2 x y v u Q I2 rx ry q)
def vw{op:UnaryOp}{r:V->Hp->VK->Prop}(ho:UnR X (unaryOp op) r)(ha:PE X a ta):PE X (.UnaryOp op a pos) (tUn r ta):=by
 intro pins s σ H Q I h;exact UnaryOp_ (thn (ha pins s σ H _ I h) λv s1 ⟨x,H1,I1,r1,q1⟩=>ho pins s1 σ H1 x v Q I1 r1 q1)
def opI{C:Int->Int->Prop}
  (rule:∀(i j:Int)(t u:Tok)(s:Np)(Q:Da)(E:Da),C i j->Q (.int (g i j) s.toks) { s with toks:=s.toks+1 }->wpAny (model X.prog X.w) X.A (f (.int i t) (.int j u)) Q E s) :
  OpR X f (rI C λi j=>.int (g i j)):=by
 intro pins s σ H x y v u Q I rx ry h;obtain⟨i,j,rfl,rfl,hc,q⟩:=h;obtain⟨t,rfl⟩:=rx;obtain⟨t',rfl⟩:=ry;exact rule i j t t' s _ _ hc ⟨.int (g i j),H,I.tok _,⟨_,rfl⟩,q⟩
def Xr
  (rule:∀(i j:Int)(t u:Tok)(s:Np)(Q:Da)(E:Da),Q (.int (g i j) s.toks) { s with toks:=s.toks+1 }->wpAny (model X.prog X.w) X.A (f (.int i t) (.int j u)) Q E s) :
  OpR X f (rI0 λi j=>.int (g i j)):=by
 intro pins s σ H x y v u Q I rx ry h;obtain⟨i,j,rfl,rfl,q⟩:=h;obtain⟨t,rfl⟩:=rx;obtain⟨t',rfl⟩:=ry;exact rule i j t t' s _ _ ⟨.int (g i j),H,I.tok _,⟨_,rfl⟩,q⟩
def Zf{g:Int->Int->Bool}
  (rule:∀(i j:Int)(t u:Tok)(s:Np)(Q:Da)(E:Da),Q (.bool (g i j)) s->wpAny (model X.prog X.w) X.A (f (.int i t) (.int j u)) Q E s) :
  OpR X f (rI0 λi j=>.bl (g i j)):=by
 intro pins s σ H x y v u Q I rx ry h;obtain⟨i,j,rfl,rfl,q⟩:=h;obtain⟨t,rfl⟩:=rx;obtain⟨t',rfl⟩:=ry;exact rule i j t t' s _ _ ⟨.bl (g i j),H,I,rfl,q⟩
def Ww(i j:Int):Prop:=0<j/\j<1073741824
def CMul(i j:Int):Prop:=(-(2 ^ 64)<i/\i<2 ^ 64)\/(-(2 ^ 64)<j/\j<2 ^ 64)
def CMul.ok(h:CMul i j):IntMulOk i j:=by
 rcases h with⟨h1,h2⟩|⟨h1,h2⟩
 ·exact .of_left (intBits_le_64 h1 h2)
 ·exact .of_right (intBits_le_64 h1 h2)
def Zg:OpR X (binaryOp .Add) (rI0 λi j=>.int (i+j)):=Xr λ_ _ _ _ _ _ _ q=>add_int q
def Zl:OpR X (binaryOp .Sub) (rI0 λi j=>.int (i-j)):=Xr λ_ _ _ _ _ _ _ q=>sub_int q
def Zk:OpR X (binaryOp .Mult) (rI CMul λi j=>.int (i*j)):=opI λ_ _ _ _ _ _ _ hc q=>mul_int q hc.ok
def cM:OpR X (binaryOp .FloorDiv) (rI Ww λi j=>.int (i / j)):=opI λi j _ _ _ _ _ hc q=>by
 have h1:(0:Int)<j:=hc.1;have h2:j<1073741824:=hc.2;exact floordiv_int (by lia) (by rw[Int.fdiv_eq_ediv_of_nonneg i (by lia)];exact q) (.inl (PyProof.noPylong_small (by lia)))
def Zj:OpR X (binaryOp .Mod) (rI (λ_ j=>0<j) λi j=>.int (i % j)):=opI λi j _ _ _ _ _ hc q=>by
 have h1:(0:Int)<j:=hc;exact mod_int' (by lia) (by rw[Int.fmod_eq_emod_of_nonneg i (by lia)];exact q)
def unI{f:Value->Sem Value}{g:Int->Int}
  (rule:∀(i:Int)(t:Tok)(s:Np)(Q:Da)(E:Da),Q (.int (g i) s.toks) { s with toks:=s.toks+1 }->wpAny (model X.prog X.w) X.A (f (.int i t)) Q E s) :
  UnR X f (rU λi=>.int (g i)):=by
 intro pins s σ H x v Q I rx h;obtain⟨i,rfl,q⟩:=h;obtain⟨t,rfl⟩:=rx;exact rule i t s _ _ ⟨.int (g i),H,I.tok _,⟨_,rfl⟩,q⟩
def xC:UnR X (unaryOp .USub) (rU λi=>.int (-i)):=unI λ_ _ _ _ _ q=>neg_int q
end
def aA:V->V->Bool
 | .non,.non=>true|.non,.int _=>true|.int _,.non=>true|.non,.bl _=>true|.bl _,.non=>true|.non,.str _=>true|.str _,.non=>true
 | .int _,.int _=>true|.bl _,.bl _=>true|.str _,.str _=>true|.byt _,.byt _=>true
 | .int _,.str _=>true|.str _,.int _=>true|.bl _,.str _=>true|.str _,.bl _=>true
 |_,_=>false
def rEq:R2:=λx y H Q=>aA x y=true/\Q (.bl (decide (x=y))) H
def rNe:R2:=λx y H Q=>aA x y=true/\Q (.bl (!decide (x=y))) H
def jn:decide (V.int i=V.int j)=(i==j):=by
 rw[UA];simp
def de{i j:Bool}:decide (V.bl i=V.bl j)=(i==j):=by
 rw[UA];simp
def jo{i j:Str}:decide (V.str i=V.str j)=(i==j):=by
 rw[UA];simp
def jm{i j:Array UInt8}:decide (V.byt i=V.byt j)=(i.toList==j.toList):=by
 rw[UA];cases i;cases j;simp
section
variable {X:Cx}{a b c:Nv}{ta tb tc:TE}{pos:Pos}
def zL{σ:St}{Q:VK}{k k':Bool}(I:Inv X pins σ H s)(q:Q (.bl k) H)(e:k=k'):EP X pins σ Q (.bool k') s:=by
 subst e;exact⟨.bl k,H,I,rfl,q⟩
def Xs:OpR X (compareOp .Eq) rEq:=by
 intro pins s σ H x y v u Q I rx ry h;obtain⟨hs,q⟩:=h;cases x with
 |non =>
  cases rx;cases y with
  |non=>cases ry;exact PySem.EqNone.eq_none_none (zL I q (by simp))
  |bl j=>cases ry;exact PySem.EqNone.eq_none_bool (zL I q (by simp))
  |int j=>obtain⟨t',rfl⟩:=ry;exact PySem.EqNone.eq_none_int (zL I q (by simp))
  |str j=>obtain⟨t',rfl⟩:=ry;exact PySem.EqNone.eq_none_str (zL I q (by simp))
  |_=>exact absurd (show false=true from hs) VG
 |bl i =>
  cases rx;cases y with
  |non=>cases ry;exact PySem.EqNone.eq_bool_none (zL I q (by simp))
  |bl j=>cases ry;exact eq_bool (zL I q de)
  |str j=>obtain⟨t',rfl⟩:=ry;exact PySem.EqMixed.eq_bool_str (zL I q (by simp))
  |_=>exact absurd (show false=true from hs) VG
 |int i =>
  obtain⟨t,rfl⟩:=rx;cases y with
  |non=>cases ry;exact PySem.EqNone.eq_int_none (zL I q (by simp))
  |int j=>obtain⟨t',rfl⟩:=ry;exact eq_int (zL I q jn)
  |str j=>obtain⟨t',rfl⟩:=ry;exact PySem.EqMixed.eq_int_str (zL I q (by simp))
  |_=>exact absurd (show false=true from hs) VG
 |str i =>
  obtain⟨t,rfl⟩:=rx;cases y with
  |non=>cases ry;exact PySem.EqNone.eq_str_none (zL I q (by simp))
  |bl j=>cases ry;exact PySem.EqMixed.eq_str_bool (zL I q (by simp))
  |int j=>obtain⟨t',rfl⟩:=ry;exact PySem.EqMixed.eq_str_int (zL I q (by simp))
  |str j=>obtain⟨t',rfl⟩:=ry;exact eq_str (zL I q jo)
  |_=>exact absurd (show false=true from hs) VG
 |byt i =>
  obtain⟨t,rfl⟩:=rx;cases y with
  |byt j=>obtain⟨t',rfl⟩:=ry;exact W.eq_bytes (zL I q jm)
  |_=>exact absurd (show false=true from hs) VG
 |_=>cases y<;>exact absurd (show false=true from hs) VG
def Xw:OpR X (compareOp .NotEq) rNe:=by
 intro pins s σ H x y v u Q I rx ry h;obtain⟨hs,q⟩:=h;cases x with
 |non =>
  cases rx;cases y with
  |non=>cases ry;exact PySem.EqNone.ne_none_none (zL I q (by simp))
  |bl j=>cases ry;exact PySem.EqNone.ne_none_bool (zL I q (by simp))
  |int j=>obtain⟨t',rfl⟩:=ry;exact PySem.EqNone.ne_none_int (zL I q (by simp))
  |str j=>obtain⟨t',rfl⟩:=ry;exact PySem.EqNone.ne_none_str (zL I q (by simp))
  |_=>exact absurd (show false=true from hs) VG
 |bl i =>
  cases rx;cases y with
  |non=>cases ry;exact PySem.EqNone.ne_bool_none (zL I q (by simp))
  |bl j=>cases ry;exact ne_bool (zL I q (Vp not de))
  |str j=>obtain⟨t',rfl⟩:=ry;exact PySem.EqMixed.ne_bool_str (zL I q (by simp))
  |_=>exact absurd (show false=true from hs) VG
 |int i =>
  obtain⟨t,rfl⟩:=rx;cases y with
  |non=>cases ry;exact PySem.EqNone.ne_int_none (zL I q (by simp))
  |int j=>obtain⟨t',rfl⟩:=ry;exact ne_int (zL I q (Vp not jn))
  |str j=>obtain⟨t',rfl⟩:=ry;exact PySem.EqMixed.ne_int_str (zL I q (by simp))
  |_=>exact absurd (show false=true from hs) VG
 |str i =>
  obtain⟨t,rfl⟩:=rx;cases y with
  |non=>cases ry;exact PySem.EqNone.ne_str_none (zL I q (by simp))
  |bl j=>cases ry;exact PySem.EqMixed.ne_str_bool (zL I q (by simp))
  |int j=>obtain⟨t',rfl⟩:=ry;exact PySem.EqMixed.ne_str_int (zL I q (by simp))
  |str j=>obtain⟨t',rfl⟩:=ry;exact ne_str (zL I q (Vp not jo))
  |_=>exact absurd (show false=true from hs) VG
 |byt i =>
  obtain⟨t,rfl⟩:=rx;cases y with
  |byt j=>obtain⟨t',rfl⟩:=ry;exact W.ne_bytes (zL I q (Vp not jm))
  |_=>exact absurd (show false=true from hs) VG
 |_=>cases y<;>exact absurd (show false=true from hs) VG
def Xv:OpR X (compareOp .Lt) (rI0 λi j=>.bl (decide (i<j))):=Zf λ_ _ _ _ _ _ _ q=>lt_int q
def Xu:OpR X (compareOp .LtE) (rI0 λi j=>.bl (decide (i<=j))):=Zf λ_ _ _ _ _ _ _ q=>le_int q
def Xt:OpR X (compareOp .Gt) (rI0 λi j=>.bl (decide (j<i))):=Zf λ_ _ _ _ _ _ _ q=>gt_int q
def Zi:OpR X (compareOp .Is) (λx y H Q=>y = .non/\Q (.bl (decide (x = .non))) H):=by
 intro pins s σ H x y v u Q I rx ry h;obtain⟨rfl,q⟩:=h;cases ry;refine is_none_gen (zL I q ?_);cases x<;>first
  |(cases rx;rfl)
  |(obtain⟨t,rfl⟩:=rx;rfl)
def cN:OpR X (compareOp .IsNot) (λx y H Q=>y = .non/\Q (.bl (!decide (x = .non))) H):=by
 intro pins s σ H x y v u Q I rx ry h;obtain⟨rfl,q⟩:=h;cases ry;refine isnot_none_gen (zL I q ?_);cases x<;>first
  |(cases rx;rfl)
  |(obtain⟨t,rfl⟩:=rx;rfl)
def zp(b:Nv)(h:op≠.In:=by decide)(h2:op≠.NotIn:=by decide):behindInMarks op b=false:=by
 have e1:(op==CmpOp.In)=false:=by cases op<;>first|rfl|exact absurd rfl h
 have e2:(op==CmpOp.NotIn)=false:=by cases op<;>first|rfl|exact absurd rfl h2
 cases b<;>simp[behindInMarks,e1,e2]
def yH{r:R2}(ho:OpR X (compareOp op) r)(ha:PE X a ta)(hb:PE X b tb)(hm:behindInMarks op b=false):PE X (.Compare a [op] [b] pos) (tOp r ta tb):=by
 intro pins s σ H Q I h;exact wpAny_Compare1 (Yy ha hb I h λv u s2 x y H2 I2 rx ry q=>ho pins s2 σ H2 x y v u Q I2 rx ry q) hm
def ut:(sizeLine:Nat)<2 ^ 63:=by rw[VP];decide
def mL:OpR X (binaryOp .Add) (λx y H Q=>∃i j,x = .str i/\y = .str j/\i.length+j.length<=sizeLine/\Q (.str (i++j)) H):=by
 intro pins s σ H x y v u Q I rx ry h;obtain⟨i,j,rfl,rfl,hz,q⟩:=h;obtain⟨t,rfl⟩:=rx;obtain⟨t',rfl⟩:=ry;exact add_str (λt' tk=>⟨.str (i++j),H,I.tok _,⟨_,rfl⟩,q⟩) hz
def xM(r:Vals [x] us):∃u,us=[u]/\RelV x u:=by
 cases r with
 |cons r1 r2=>cases r2;exact⟨_,rfl,r1⟩
theorem tw(r:Vals [x,y] us):∃u w',us=[u,w']/\RelV x u/\RelV y w':=by
 cases r with
 |cons r1 r2 =>
  cases r2 with
  |cons r3 r4=>cases r4;exact⟨_,_,rfl,r1,r3⟩
def iG(hc:X.calm=true):xo X (.builtin "max") (λxs H Q=>∃i j,xs=[.int i,.int j]/\Q (.int (if j>i then j else i)) H):=by
 intro pins s σ H xs us Q I r h;obtain⟨i,j,rfl,q⟩:=h;obtain⟨u,w',rfl,⟨t,rfl⟩,⟨t',rfl⟩⟩:=tw r;refine max_two_ints (I.ok.hd hc) λh' tk k=>⟨_,H,I.kept k,?_,q⟩
 by_cases hj:j>i
 ·rw[VB hj,VB hj];exact⟨_,rfl⟩
 ·rw[VF hj,VF hj];exact⟨_,rfl⟩
def iH(hc:X.calm=true):xo X (.builtin "min") (λxs H Q=>∃i j,xs=[.int i,.int j]/\Q (.int (if j<i then j else i)) H):=by
 intro pins s σ H xs us Q I r h;obtain⟨i,j,rfl,q⟩:=h;obtain⟨u,w',rfl,⟨t,rfl⟩,⟨t',rfl⟩⟩:=tw r;refine min_two_ints (I.ok.hd hc) λh' tk k=>⟨_,H,I.kept k,?_,q⟩
 by_cases hj:j<i
 ·rw[VB hj,VB hj];exact⟨_,rfl⟩
 ·rw[VF hj,VF hj];exact⟨_,rfl⟩
def iF:xo X (.type "int") (λxs H Q=>(∃i,xs=[.int i]/\Q (.int i) H)\/∃k,xs=[.bl k]/\Q (.int (if k then 1 else 0)) H):=by
 intro pins s σ H xs us Q I r h;rcases h with⟨i,rfl,q⟩|⟨k,rfl,q⟩
 ·obtain⟨u,rfl,t,rfl⟩:=xM r;exact call_int_int ⟨.int i,H,I,⟨_,rfl⟩,q⟩
 ·obtain⟨u,rfl,r1⟩:=xM r;cases r1;exact call_int_bool ⟨.int (if k then 1 else 0),H,I.tok _,⟨_,rfl⟩,q⟩
end
end L2
namespace L2
open PySem PySem.Spec PyProof.Rows
variable{h:Nw}{C dx g:Addr}{mA:FB}{v x y:V}{Ii b:Bool}{Q:Da}{pl:Sem Bool}{o:Option Value}{t u:Nq}{f m:Str}
structure ObjM(h:Nw)(x dx C:Addr)(mA:FB):Prop where
 obj:h.get? x=some (W.instObj C dx)
 ns:h.Ns1 dx mA
 ne:dx≠x
def uv(n:h.Ns1 dx mA):∃od,h.get? dx=some od/\∀name,W.lookIn name od=some (mA name):=by
 obtain⟨o,es,ep,ho,hd,hk,_,hm⟩:=n;refine⟨o,ho,λname=>?_⟩;have e:=hm name;unfold nsFind findBy at e;rw[<-Array.find?_toList]at e;unfold W.lookIn;rw[hd];dsimp only;split
 ·rename_i y q;rw[q]at e;exact Vp some e
 ·rename_i q;rw[q]at e;have a:es.toList.any (·.refKey)=false:=by
   rw[List.any_eq_false];intro y hy;obtain⟨z,t,IT⟩:=hk y (Array.mem_toList_iff.mp hy);simp[DictEntry.refKey,IT]
  have a':¬es.toList.any (·.refKey)=true:=by rw[a];exact VG
  rw[VF a'];exact Vp some e
def ObjM.look{x:Addr}(I:ObjM h x dx C mA):∃od,W.InstAt h x (W.instObj C dx) C (some od)/\∀name,W.lookIn name od=some (mA name) :=
 let⟨od,ho,hl⟩:=uv I.ns
 ⟨od,⟨I.obj,rfl,rfl,ho⟩,hl⟩
section
variable {prog:Nn}{w:No}{A:Nr}{E:Da}{s:Np}{K:Nl}{x dx C f:Addr}{mA:FB}{name:Str}{v:Nq}
def bZ(X:K.In s.heap)(I:ObjM s.heap x dx C mA)(hg:W.plainGet K C name=true)(hh:W.hasDictIn K C=true)
  (ha:W.findIn K (.ref C) name=some none) (hv:mA name=some v) (HI:W.handedIn v=true) (h:Q v { s with toks:=s.toks+1 }) :
  wpAny (model prog w) A (getAttr (.ref x) name Ii) Q E s:=by
 obtain⟨od,J,hl⟩:=I.look;exact W.get_value X J (W.plainGet_of hg).1 (W.findObj_own hh ha rfl (by rw[hl,hv])) HI h
def dj{Q:Value×List Value->Shared->Prop}(X:K.In s.heap)(I:ObjM s.heap x dx C mA)(hg:W.plainGet K C name=true)
  (hf:W.findIn K (.ref C) name=some (some (.ref f))) (ht:W.isFn K (.ref f)=true) (hv:mA name=none) (h:Q (.ref f,[.ref x]) s) :
  wpAny (model prog w) A (getMethod (.ref x) name pl) Q E s:=by
 obtain⟨od,J,hl⟩:=I.look;exact W.method_fn X J (W.plainGet_of hg).1 (W.plainGet_of hg).2 hf (UL.mp ht) (by show(W.lookIn name od).map (·.isSome)=some false;rw[hl,hv];rfl) h
def cr{ns:GM}{Q:Unit->Shared->Prop}(X:K.In s.heap)(I:ObjM s.heap x dx C mA)
  (hs:W.findIn K (.ref C) "__setattr__"=some (some (.builtin "object.__setattr__"))) (hp:W.plainOver K C=true) (ht:W.takerIn K C name=some none) (hh:W.hasDictIn K C=true)
  (hw:PySem.Within mA ns) (hsz:ns.length<=sizeLine)
  (h:∀h',ObjM h' x dx C (λy=>if y=name then some v else mA y)->Heap.SameBut dx s.heap h'->Q () { s with heap:=h',toks:=s.toks+2 }) :
  wpAny (model prog w) A (setAttr (.ref x) name v) Q E s:=by
 obtain⟨od,J,hl⟩:=I.look;refine W.set_plain X J hs (W.osa_open (s:={ s with toks:=s.toks+1 }) (r:=none) X J hp ht λb=>?_);obtain⟨cd,hc,Hf⟩:=W.any_some hh;have hx:s.heap.get? x=some ⟨.ref C,some dx,.plain,#[]⟩:=I.obj;refine WC (VZ (WC (WC (wpAny_loadPart hx (WC (W.Looks.here (s:={ s with toks:=s.toks+1 }) (W.looks_clsIn X hc) ?_))))));rw[Hf];refine VZ (a:=some dx) (WC (VZ (WC ?_)));refine wpAny_nsSet1 (s:={ s with toks:=s.toks+1 }) I.ns λh' IE Ee=>?_;obtain⟨oD,esD,epD,hoD,hdD,Ib⟩:=IE.count (PySem.Within.cons name v hw);refine WC (wpAny_lookBehind hoD (by rw[hdD];exact pastItsLine_dict (Vz Ib (by rw[VN];lia))) ?_);exact VZ (h _ ⟨(Ee.2 _ (U6 I.ne)).trans I.obj,IE,I.ne⟩ Ee)
def eY{R:Result->Shared->Prop}{vs:GE}{kw:List (Str×Value)}(X:K.In s.heap)(hm:W.makesIn K C=true)
  (hi:W.findIn K (.ref C) "__init__"=some (some (.ref f))) (hf:W.typeIn K (.ref f)=some (.type "function"))
  (h:codeAny (model prog w) (A.under (.builtin "type.__call__" ⟨.ref C::vs,kw⟩)) (.call (.ref f) ⟨.ref (s.heap.objs.size+1)::vs,kw⟩) (W.InitBack (s.heap.objs.size+1) R)
   { s with heap:=(s.heap.push W.emptyDict).push (W.instObj C s.heap.objs.size) }) :
  codeAny (model prog w) A (.call (.ref C) ⟨vs,kw⟩) R s:=by
 obtain⟨hh,g,d,t,os⟩:=s;exact W.make_core (W.makes_of X hm) (W.looks_findIn X hi) (λself=>W.bind_fn X self hf) (.inl rfl) h
end
def wV(f:Str)(v:V):List (Str×V)->List (Str×V)
 |[]=>[(f,v)]
 |(g,x)::r=>if g=f then(g,v)::r else(g,x)::wV f v r
theorem ua(f g:Str)(v:V):∀fs:List (Str×V),(wV f v fs).lookup g=if g=f then some v else fs.lookup g
 |[]=>by
  show List.lookup g [(f,v)]=_
  by_cases h:g=f
  ·have hb:(g==f)=true:=UL.mpr h;simp only[List.lookup,hb,VB h]
  ·have hb:(g==f)=false:=U8.mpr h;simp only[List.lookup,hb,VF h]
 |(k,x)::r=>by
  have ih:=ua f g v r;rw[show wV f v ((k,x)::r)=(if k=f then(k,v)::r else(k,x)::wV f v r)from rfl]
  by_cases hk:k=f
  ·rw[VB hk]
   by_cases h:g=k
   ·have hb:(g==k)=true:=UL.mpr h;simp only[List.lookup,hb,VB (h.trans hk)]
   ·have hb:(g==k)=false:=U8.mpr h;simp only[List.lookup,hb,VF (λe:g=f=>h (e.trans hk.symm))]
  ·rw[VF hk]
   by_cases h:g=k
   ·have hb:(g==k)=true:=UL.mpr h;simp only[List.lookup,hb,VF (λe:g=f=>hk (h.symm.trans e))]
   ·have hb:(g==k)=false:=U8.mpr h;simp only[List.lookup,hb];exact ih
theorem ur(f:Str)(v:V):∀fs:List (Str×V),f∈(wV f v fs).map (·.1)/\∀g,g∈fs.map (·.1)->g∈(wV f v fs).map (·.1)
 |[]=>⟨by simp[wV],λg h=>by simp at h⟩
 |(k,x)::r=>by
  obtain⟨i1,i2⟩:=ur f v r;rw[show wV f v ((k,x)::r)=(if k=f then(k,v)::r else(k,x)::wV f v r)from rfl]
  by_cases hk:k=f
  ·rw[VB hk];subst hk;exact⟨by simp,λg h=>by simpa using h⟩
  ·rw[VF hk];refine⟨?_,λg h=>?_⟩
   ·rw[List.map_cons];exact VJ _ i1
   ·rw[List.map_cons]at h ⊢;rcases VI.mp h with e|e
    ·exact VI.mpr (.inl e)
    ·exact VJ _ (i2 g e)
theorem uX(f:Str)(v:V):∀fs:List (Str×V),(wV f v fs).length<=fs.length+1
 |[]=>by simp[wV]
 |(k,x)::r=>by
  have ih:=uX f v r;rw[show wV f v ((k,x)::r)=(if k=f then(k,v)::r else(k,x)::wV f v r)from rfl]
  by_cases hk:k=f
  ·rw[VB hk,VN,VN];lia
  ·rw[VF hk,VN,VN];lia
def RelO.some_of(r:RelO (some v) o):∃u,o=some u/\RelV v u:=by
 cases o with
 |none=>exact(show False from r).elim
 |some u=>exact⟨u,rfl,r⟩
def RelO.none_of(r:RelO none o):o=none:=by
 cases o with
 |none=>rfl
 |some u=>exact(show False from r).elim
def ql(r:RelV v u):W.handedIn u=true:=by
 cases v with
 |non=>cases(show u=Value.none from r);rfl
 |bl b=>cases(show u=Value.bool b from r);rfl
 |int i=>obtain⟨t,e⟩:=(show∃t,u=Value.int i t from r);cases e;rfl
 |str x=>obtain⟨t,e⟩:=(show∃t,u=Value.str x t from r);cases e;rfl
 |byt b=>obtain⟨t,e⟩:=(show∃t,u=Value.bytes b t from r);cases e;rfl
 |flt b=>obtain⟨t,e⟩:=(show∃t,u=Value.float b t from r);cases e;rfl
 |ref a=>cases(show u=Value.ref a from r);rfl
 |ty n=>cases(show u=Value.type n from r);rfl
section
variable {P:Nn}{w:No}{H H':Hp}{h h':Nw}{a C dx:Addr}{fs fs':N2}
def uD(hok:HOk P w H h)(e:H a=some (.ins C dx fs)):∃mA,ObjM h a dx C mA/\(∀f,RelO (fs.lookup f) (mA f))/\PySem.Within mA (fs.map (·.1))/\fs.length<=1000/\H dx=some (.own a):=by
 obtain⟨d,z,ne,ob,mA,n,r,q⟩:=(show ObjOk P w H h a (.ins C dx fs)from hok a _ e)
 exact⟨mA,⟨ob,n,ne⟩,r,q,z,d⟩
end
structure Cls(K:Nl)(C:Addr):Prop where
 pg:W.plainGet K C Str.empty=true
 hd:W.hasDictIn K C=true
 po:W.plainOver K C=true
 sa:W.findIn K (.ref C) "__setattr__"=some (some (.builtin "object.__setattr__"))
def Cls.get{K:Nl}(c:Cls K C)(f:Str):W.plainGet K C f=true:=c.pg
def NoAttr(K:Nl)(C:Addr)(f:Str):Prop:=W.findIn K (.ref C) f=some none
def NoAttr.taker{K:Nl}(n:NoAttr K C f):W.takerIn K C f=some none:=by
 unfold W.takerIn;rw[show W.findIn K (.ref C) f=some none from n]
 rfl
structure Con(K:Nl)(C:Addr)(f:Str)(v:V)(u:Nq):Prop where
 at_:W.findIn K (.ref C) f=some (some u)
 rel:RelV v u
 get:W.specialIn K u "__get__"=some none
 cp:W.copiedNames.contains f=false
structure iA(K:Nl)(C:Addr)(m:Str)(f:Addr):Prop where
 at_:W.findIn K (.ref C) m=some (some (.ref f))
 fn:W.isFn K (.ref f)=true
 kp:W.keepIn K (.ref f)=true
section
variable {X:Cx}{pins:KB}{σ:St}{H:Hp}{s:Np}{a C dx:Addr}{fs:N2}{f:Str}{v:V}{A:Nr}{E:Da}
def lN(I:Inv X pins σ H s)(e:H a=some (.ins C dx fs))(c:Cls X.K C)(n:NoAttr X.K C f)(l:fs.lookup f=some v)
  (h:∀u s',Inv X pins σ H s'->RelV v u->Q u s'):wpAny (model X.prog X.w) A (getAttr (.ref a) f b) Q E s:=by
 obtain⟨mA,O,r,_,_,_⟩:=uD I.hok e;obtain⟨u,hu,ru⟩:=RelO.some_of (v:=v) (o:=mA f) (by rw[<-l];exact r f);exact bZ I.kIn O (c.get f) c.hd n hu (ql ru) (h u _ (I.tok _) ru)
def sZ{Q:Value×List Value->Shared->Prop}(I:Inv X pins σ H s)(e:H a=some (.ins C dx fs))(c:Cls X.K C)(k:iA X.K C m g)(l:fs.lookup m=none)
  (h:Q (.ref g,[.ref a]) s):wpAny (model X.prog X.w) A (getMethod (.ref a) m pl) Q E s:=by
 obtain⟨mA,O,r,_,_,_⟩:=uD I.hok e;have hn:mA m=none:=RelO.none_of (by rw[<-l];exact r m);exact dj I.kIn O (c.get m) k.at_ k.fn hn h
def mY{Q:Unit->Shared->Prop}(I:Inv X pins σ H s)(e:H a=some (.ins C dx fs))(c:Cls X.K C)(n:NoAttr X.K C f)(hl:fs.length<1000)(ry:RelV y u)
  (h:∀s',Inv X pins σ (upd H a (.ins C dx (wV f y fs))) s'->Q () s'):wpAny (model X.prog X.w) A (setAttr (.ref a) f u) Q E s:=by
 obtain⟨mA,O,r,wi,_,ho⟩:=uD I.hok e;have hz:(fs.map (·.1)).length<=sizeLine:=by rw[WA,VP];lia
 refine cr I.kIn O c.sa c.po n.taker c.hd wi hz λh' O' sb=>h _ ?_;have hd:∃o,h'.get? dx=some o:=let⟨o,_,_,e',_⟩:=O'.ns;⟨o,e'⟩;refine I.write (x:=a) (e:=dx) (by rw[e];exact True.intro) (.inr ho) (λb q hb z=>(sb.2 b hb).trans z) hd ?_;refine⟨by rw[ze O.ne];exact ho,?_,O.ne,O'.obj,_,O'.ns,λg=>?_,λg hg=>?_⟩
 ·have:=uX f y fs;lia
 ·show RelO ((wV f y fs).lookup g) (if g=f then some u else mA g);rw[ua]
  by_cases q:g=f
  ·rw[VB q,VB q];exact ry
  ·rw[VF q,VF q];exact r g
 ·by_cases q:g=f
  ·rw[q];exact(ur f y fs).1
  ·refine(ur f y fs).2 g (wi g λz=>hg ?_);show(if g=f then some u else mA g)=none;rw[VF q];exact z
def Inv.made(I:Inv X pins σ H s):Inv X pins σ (upd (upd H s.heap.objs.size (.own (s.heap.objs.size+1))) (s.heap.objs.size+1) (.ins C s.heap.objs.size []))
  { s with heap:=(s.heap.push W.emptyDict).push (W.instObj C s.heap.objs.size) }:=by
 have e1:(s.heap.push W.emptyDict).get? s.heap.objs.size=some W.emptyDict:=VS s.heap rfl;have e2:((s.heap.push W.emptyDict).push (W.instObj C s.heap.objs.size)).get? (s.heap.objs.size+1)=some (W.instObj C s.heap.objs.size):=by
  have:=VS (s.heap.push W.emptyDict) (o:=W.instObj C s.heap.objs.size) rfl
  rwa [Vk]at this
 have e3:(s.heap.push W.emptyDict).Ns s.heap.objs.size (λ_=>none):=⟨W.emptyDict,#[],_,e1,rfl,(λe he=>absurd he (by simp)),λ_=>rfl⟩
 have I1:=I.laid (a:=s.heap.objs.size) (o:=.own (s.heap.objs.size+1)) (h':=s.heap.push W.emptyDict) (t':=s.toks) (λb u q=>WB _ q) (VW _) ⟨_,e1⟩;refine I1.laid (a:=s.heap.objs.size+1) (o:=.ins C s.heap.objs.size []) (t':=s.toks) (λb u q=>WB _ q) (Ud (Vk _ _)) ?_;have ne:s.heap.objs.size≠s.heap.objs.size+1:=VD (UI _);refine⟨by rw[ze ne,zv],V5 _,ne,e2,λ_=>none,(Heap.Ns1.of_empty e3).at λo q=>WB _ q,λ_=>True.intro,λy hy=>absurd rfl hy⟩
def jg{prog:Nn}{w:No}{env:Env}{e:Nv}{f:Str}{pos:Pos}{s:Np}(hb:attributeBase e f env (eval e env)=eval e env)
  (h:wpAny (model prog w) A (eval e env) (λo X'=>wpAny (model prog w) A (getAttr o f true) Q E X') E s):wpAny (model prog w) A (eval (.Attribute e f pos) env) Q E s :=
 Attribute_any_ h (by rw[arm_eval_Attribute,hb])
end
def Yd(K:Nl)(ta:TE)(f:Str):TE:=fun σ H Q=>ta σ H λx H1=>∃a C dx fs v,x = .ref a/\H1 a=some (.ins C dx fs)/\Cls K C/\NoAttr K C f/\fs.lookup f=some v/\Q v H1
def YT(K:Nl)(ta tv:TE)(f:Str):TS:=λD σ H=>tv σ H λy H1=>ta σ H1 λx H2=>∃a C dx fs,x = .ref a/\H2 a=some (.ins C dx fs)/\Cls K C/\NoAttr K C f/\fs.length<1000 /\
 D.nx σ (upd H2 a (.ins C dx (wV f y fs)))
section
variable {X:Cx}{o e value:Nv}{f:Str}{pos CH tpos:Pos}{ta tv:TE}
def xz(he:PE X e ta)(hb:attributeBase e f X.env (eval e X.env)=eval e X.env):PE X (.Attribute e f pos) (Yd X.K ta f):=by
 intro pins s σ H Q I h;refine jg hb (thn (he pins s σ H _ I h) λu s1 ⟨x,H1,I1,rx,a,C,dx,fs,v,ex,ea,c,n,l,q⟩=>?_);subst ex;obtain rfl:u=Value.ref a:=rx;exact lN I1 ea c n l λu' s2 I2 ru=>⟨v,H1,I2,ru,q⟩
def u4(ha:PE X o ta)(hv:PE X value tv)(hs:swapsWith value (some (.Attribute o f CH)) pos.line X.env=pure false):PS X (.Assign [.Attribute o f CH] value pos) (YT X.K ta tv f):=by
 intro pins s σ H D I h;refine plainObj_wpAny_Assign_Attribute (thn (hv pins s σ H _ I h) λu s1 ⟨y,H1,I1,ry,q⟩=>thn (ha pins s1 σ H1 _ I1 q) λov s2 ⟨x,H2,I2,rx,a,C,dx,fs,ex,ea,c,n,l,q2⟩=>?_) hs;subst ex;obtain rfl:ov=Value.ref a:=rx;exact mY I2 ea c n l ry λs3 I3=>⟨σ,_,I3,q2⟩
end
section
variable {X:Cx}{pins:KB}{σ:St}{H:Hp}{s:Np}{A:Nr}{E:Da}{Q:Da}{c:Nq}{b:Bool}
inductive TyOf (K:W.Frag) (H:Hp):V->Value->Prop where
 |non:TyOf K H .non (.type "NoneType")
 |bl (x:Bool):TyOf K H (.bl x) (.type "bool")
 |int (i:Int):TyOf K H (.int i) (.type "int")
 |str (x:Str):TyOf K H (.str x) (.type "str")
 |flt (x:UInt64):TyOf K H (.flt x) (.type "float")
 |lst {a:Addr}{xs:List V} (e:H a=some (.lst xs)):TyOf K H (.ref a) (.type "list")
 |frz {a:Addr}{o:Obj}{xs:List V} (e:H a=some (.frz o (.lst xs))):TyOf K H (.ref a) (.type "list")
 |tup {a:Addr}{xs:List V} (e:H a=some (.tup xs)):TyOf K H (.ref a) (.type "tuple")
 |dK {a:Addr}{kvs:List (Key×V)} (e:H a=some (.dK kvs)):TyOf K H (.ref a) (.type "dict")
 |dT {a:Addr}{kvs:List (List Key×V)} (e:H a=some (.dT kvs)):TyOf K H (.ref a) (.type "dict")
 |ins {a C dx:Addr}{fs:List (Str×V)} (e:H a=some (.ins C dx fs)) (cl:Cls K C) (ha:W.findIn K (.ref C) "__class__"=some (some (.builtin "object.__class__")))
   (hn:W.specialIn K (.builtin "object.__class__") "__get__"=some (some (.builtin "getset_descriptor.__get__"))) (htk:W.takesIn K (.builtin "object.__class__")=some true)
   (hm:W.mroIn K C (.type "object")=some true):TyOf K H (.ref a) (.ref C)
def iY(I:Inv X pins σ H s)(rx:RelV x u)(ty:TyOf X.K H x t)(e:W.kitOne X.K t c=some b)(h:∀tk,Q (.bool b) { s with toks:=tk }):
  wpAny (model X.prog X.w) A (call (.builtin "isinstance") [u,c]) Q E s:=by
 cases ty with
 |non=>cases(show u=Value.none from rx);exact UP W.kitx_none I.kIn True.intro e (λz=>nomatch z) h
 |bl y=>cases(show u=Value.bool y from rx);exact UP W.kitx_bool I.kIn True.intro e (λz=>nomatch z) h
 |int i=>obtain⟨t,q⟩:=(show∃t,u=Value.int i t from rx);cases q;exact UP W.kitx_int I.kIn True.intro e (λz=>nomatch z) h
 |str y=>obtain⟨t,q⟩:=(show∃t,u=Value.str y t from rx);cases q;exact UP W.kitx_str I.kIn True.intro e (λz=>nomatch z) h
 |flt y=>obtain⟨t,q⟩:=(show∃t,u=Value.float y t from rx);cases q;exact UP W.kitx_float I.kIn True.intro e (λz=>nomatch z) h
 | @lst a xs ea =>
  cases(show u=Value.ref a from rx);obtain⟨_,_,n,_,h1⟩:=(show ObjOk X.prog X.w H s.heap a (.lst xs)from I.hok a _ ea)
  exact UP W.kitx_list I.kIn ⟨_,h1,rfl⟩ e (λz=>nomatch z) h
 | @frz a ob xs ea =>
  cases(show u=Value.ref a from rx);obtain⟨_,_,_,n,_,h1⟩:=(show ObjOk X.prog X.w H s.heap a (.frz ob (.lst xs))from I.hok a _ ea)
  exact UP W.kitx_list I.kIn ⟨_,h1,rfl⟩ e (λz=>nomatch z) h
 | @tup a xs ea =>
  cases(show u=Value.ref a from rx);obtain⟨_,_,_,p⟩:=(show ObjOk X.prog X.w H s.heap a (.tup xs)from I.hok a _ ea)
  obtain⟨o,h1,h2,_⟩:=p;exact UP W.kitx_tuple I.kIn ⟨o,h1,h2⟩ e (λz=>nomatch z) h
 | @dK a kvs ea =>
  cases(show u=Value.ref a from rx);obtain⟨_,_,vs,_,p⟩:=(show ObjOk X.prog X.w H s.heap a (.dK kvs)from I.hok a _ ea)
  obtain⟨o,es,ep,h1,h2,_⟩:=p;exact UP W.kitx_dict I.kIn ⟨o,h1,h2.1⟩ e (λz=>nomatch z) h
 | @dT a kvs ea =>
  cases(show u=Value.ref a from rx);obtain⟨_,_,xs,_,o,es,ep,h1,h2,_⟩:=(show ObjOk X.prog X.w H s.heap a (.dT kvs)from I.hok a _ ea)
  exact UP W.kitx_dict I.kIn ⟨o,h1,h2.1⟩ e (λz=>nomatch z) h
 | @ins a C dx fs ea cl ha hn htk hm =>
  cases(show u=Value.ref a from rx);obtain⟨mA,O,_⟩:=uD I.hok ea;obtain⟨od,J,_⟩:=O.look;exact UP (W.kitx_own (cl.get _) cl.hd ha hn htk hm) I.kIn J e (λz=>nomatch z) h
end
end L2
namespace L2
open PySem PySem.Spec PyProof.Rows
variable{j k n:Nat}{A:Nr}{C f:Addr}{us:GE}{kw:List (Str×Value)}{P:Nn}{w:No}{mg:FB}{base:Nw}{fd:N0}{N ps:GM}{outer:List Env}{s s1:Np}{H:Hp}{Q:VK}{cd cdv ct dV doc kV oc pm u:Nq}{pins:KB}{vs:N1}{pl:Sem Bool}{sc scope:Nu}{name qual x:Str}
structure Room(k:Nat)(A:Nr):Prop where
 hd:A.handled=none
 dp:A.depth+3*k+5<recursionLimit
 un:A.units+16*k+200<cLine
def Room.mono(r:Room k A)(h:j<=k):Room j A:=⟨r.hd,by have:=r.dp;lia,by have:=r.un;lia⟩
theorem Room.deeper(r:Room (k+1) A)(env:Env):Room k (A.deeper env) :=
 ⟨r.hd,by have:=r.dp;show A.depth+1+3*k+5<_;lia,by have:=r.un;show A.units+3+16*k+200<_;lia⟩
def ll:(A.under (.builtin "type.__call__" ⟨.ref C::us,kw⟩)).depth=A.depth+1:=by
 first|rfl|simp[Around.under,Code.weight,Code.isCreation,Code.isGuard,Code.isCaller,Code.frames,Code.isFrame,guardIds]
def lm:(A.under (.builtin "type.__call__" ⟨.ref C::us,kw⟩)).units=A.units+1:=by
 first|rfl|simp[Around.under,Code.cUnits,Code.frames,Code.isFrame]
def Room.make(r:Room (k+1) A)(C:Addr)(us:GE)(kw:List (Str×Value)):Room k (A.under (.builtin "type.__call__" ⟨.ref C::us,kw⟩)) :=
 ⟨r.hd,by have:=r.dp;rw[ll];lia,by have:=r.un;rw[lm];lia⟩
theorem Room.depth(r:Room k A):A.depth<recursionLimit:=by have:=r.dp;lia
theorem Room.units(r:Room k A):A.units+64<cLine:=by have:=r.un;lia
def dE:TA:=λ_ H Q=>Q [] H
def bC(ta:TE)(tr:TA):TA:=fun σ H Q=>ta σ H λx H1=>tr σ H1 λxs H2=>Q (x::xs) H2
section
variable {X:Cx}{e:Nv}{es:Nd}{te:TE}{t:TA}{pos:Pos}
def z7:PA X [] dE:=λ_ _ _ _ H Q I h=>SE ⟨[],H,I,.nil,h⟩
def z9(ha:PE X e te)(hr:PA X es t)(hs:starEach (e::es) X.env=(false,eval e X.env)::starEach es X.env:=by rfl):PA X (e::es) (bC te t):=by
 intro pos pins s σ H Q I h;rw[hs];show wpAny _ _ (spliced ((false,eval e X.env)::backTo pos (starEach es X.env))) _ _ s;refine Calls.spliced_cons (thn (ha pins s σ H _ I h) λu s1 ⟨x,H1,I1,r1,q1⟩=>?_);exact thn (hr pos pins s1 σ H1 _ I1 q1) λus s2 ⟨xs,H2,I2,r2,q2⟩=>⟨x::xs,H2,I2,.cons r1 r2,q2⟩
end
abbrev Sp:=List V->Hp->VK->XK->Prop
abbrev CXT:=List Env->Hp->Shared->XK->Value->Shared->Prop
structure Env0(P:Nn)(w:No)(K:Nl)(mg:FB)(base:Nw)(A:Nr)(outer:List Env)(s:Np)(H:Hp):Prop where
 frames:A.frames=some outer
 mod:Mod K mg base
 bs:∀b o,base.get? b=some o->s.heap.get? b=some o/\H b=none
 bsz:base.objs.size<=s.heap.objs.size
 funs:s.heap.FunFrames base outer
 frf:∀b∈frs outer,H b=none
 hok:HOk P w H s.heap
 bare:AllBare s.gens
def CE(outer:List Env)(P:Nn)(w:No)(H:Hp)(s:Np)(Q:VK)(u:Nq)(s':Np):Prop :=
 ∃v H',s'.os=s.os/\AllBare s'.gens/\Un (frs outer) [] H H' s.heap s'.heap/\HOk P w H' s'.heap/\RelV v u/\Q v H'
def CR(CX:CXT)(outer:List Env)(P:Program)(w:World)(H:Hp)(s:Shared)(Q:VK)(E:XK)(r:Result)(s':Shared):Prop :=
 match r with
 | .ok (.ret u)=>CE outer P w H s Q u s'
 | .ok _=>False
 | .error e=>CX outer H s E e s'
structure FnOk(P:Nn)(w:No)(K:Nl)(mg:FB)(base:Nw)(CX:CXT)(k:Nat)(f:Addr)(fd:N0)(ps:GM)(sp:Sp):Prop where
 len:∀vs H Q E,sp vs H Q E->vs.length=ps.length
 run:∀(A:Nr)(outer:List Env)(s:Np)(H:Hp)(args:Args)(us:GE)(vs:N1)(Q:VK)(E:XK),Room k A->Env0 P w K mg base A outer s H->BindsTo s fd args (ps.zip us)->Vals vs us->sp vs H Q E ->
  codeAny (model P w) A (.call (.ref f) args) (CR CX outer P w H s Q E) s
theorem FnOk.mono{P:Nn}{w:No}{K:Nl}{mg:FB}{base:Nw}{CX:CXT}{j k:Nat}{f:Addr}{fd:N0}{ps:GM}{sp:Sp}(F:FnOk P w K mg base CX j f fd ps sp)(h:j<=k):
  FnOk P w K mg base CX k f fd ps sp:=⟨F.len,λA outer s H args us vs Q E hr=>F.run A outer s H args us vs Q E (hr.mono h)⟩
def FnOk.imp{K:Nl}{CX:CXT}{sp Jt:Sp}(F:FnOk P w K mg base CX k f fd ps sp)
  (h:∀vs H Q E,Jt vs H Q E->sp vs H Q E):FnOk P w K mg base CX k f fd ps Jt :=
 ⟨λvs H Q E q=>F.len vs H Q E (h _ _ _ _ q),λA outer s H args us vs Q E hr he hb hv hs=>F.run A outer s H args us vs Q E hr he hb hv (h _ _ _ _ hs)⟩
def Env0.make{K:Nl}(e:Env0 P w K mg base A outer s H)(C:Addr)(us:GE)(kw:List (Str×Value)):
  Env0 P w K mg base (A.under (.builtin "type.__call__" ⟨.ref C::us,kw⟩)) outer s H:=⟨by first|exact e.frames|(simpa[Around.under,Code.envs,Code.isFrame,pushEnvs]using e.frames),e.mod,e.bs,e.bsz,e.funs,e.frf,e.hok,e.bare⟩
section
variable {X:Cx}{pins:KB}{σ:St}{H:Hp}{s s':Np}
def Inv.env0(I:Inv X pins σ H s):Env0 X.prog X.w X.K X.mg X.base X.A X.stack s H :=
 ⟨I.ok.frames,I.ok.mod,I.bs,Vz I.ok.bsz I.sz,I.stack,I.stkFree,I.hok,I.bare⟩
def Inv.after(I:Inv X pins σ H s)(h:CE X.stack X.prog X.w H s Q u s'):EP X pins σ Q u s':=by
 obtain⟨v,H',os,bare,un,hok,r,q⟩:=h;obtain⟨hh,g,d,t,os'⟩:=s';obtain rfl:os'=s.os:=os;exact⟨v,H',I.call (h':=hh) (g':=g) (d':=d) (t':=t) (ch:=[]) un hok bare (λb z=>absurd z (by simp)),r,q⟩
end
def k4(sp:Sp)(DY:N1)(E:XK)(t:TA):TE:=fun σ H Q=>t σ H λvs H1=>sp (vs++DY) H1 Q E
def re(C:Addr)(m:Str)(sp:Sp)(DY:N1)(E:XK)(ta:TE)(t:TA):TE:=fun σ H Q=>ta σ H λx H1=>∃a dx fs,x = .ref a/\H1 a=some (.ins C dx fs)/\fs.lookup m=none /\
 t σ H1 λvs H2=>sp (x::(vs++DY)) H2 Q E
def gf(C:Addr)(sp:Sp)(DY:N1)(E:XK)(t:TA):TE:=fun σ H Q=>t σ H λvs H1=>∀x dx,H1 x=none->H1 dx=none->dx≠x ->
 sp (.ref x::(vs++DY)) (upd (upd H1 dx (.own x)) x (.ins C dx [])) (λv H2=>v = .non/\Q (.ref x) H2) E
def Binds(K:Nl)(fd:N0)(ps:GM)(ds:GE):Prop :=
 ∀(s:Np)(us:GE),K.In s.heap->(us++ds).length=ps.length->BindsTo s fd ⟨us,[]⟩ (ps.zip (us++ds))
def Binds.all{K:Nl}(h:∀us:List Value,us.length=ps.length->bindArgs fd ⟨us,[]⟩=pure (ps.zip us)):Binds K fd ps []:=λs us _ hl=>by
 rw[List.append_nil]at hl ⊢;exact .of_eq (h us hl)
def xW(CX:CXT)(X:Cx)(E:XK):Prop:=∀(pins:KB)(σ:St)(H:Hp)(s:Np)(e:Nq)(s':Np),Inv X pins σ H s->CX X.stack H s E e s'->X.xe e s'
section
variable {X:Cx}{CX:CXT}{k:Nat}{f C:Addr}{fd:N0}{ps:GM}{sp:Sp}{DY:N1}{ds:GE}{E:XK}{x m:Str}{p pos apos:Pos}{e o:Nv}{es:Nd}{ta:TE}{t:TA}
theorem mW{σ:St}(F:FnOk X.prog X.w X.K X.mg X.base CX k f fd ps sp)(hr:Room k X.A)(hb:Binds X.K fd ps ds)(hd:Vals DY ds)(hx:xW CX X E)
  (I:Inv X pins σ H s) (r:Vals vs us) (h:sp (vs++DY) H Q E):wpAny (model X.prog X.w) X.A (call (.ref f) us) (EP X pins σ Q) X.xe s:=by
 have r2:Vals (vs++DY) (us++ds):=r.append hd;have hl:(us++ds).length=ps.length:=by rw[<-r2.length];exact F.len _ _ _ _ h
 refine SQ (T9 (F.run X.A X.stack s H ⟨us,[]⟩ (us++ds) (vs++DY) Q E hr I.env0 (hb s us I.kIn hl) r2 h) λr s' hq=>?_);cases r with
 |error e=>exact hx pins σ H s e s' I hq
 |ok fl =>
  cases fl with
  |ret u=>exact I.after hq
  |next=>exact False.elim hq
  |brk=>exact False.elim hq
  |cont=>exact False.elim hq
def kH(F:FnOk X.prog X.w X.K X.mg X.base CX k f fd ps sp)(hr:Room k X.A)(hg:Gl X x)(hm:X.mg x=some (.ref f))(hk:W.keepIn X.K (.ref f)=true)(hb:Binds X.K fd ps ds)(hd:Vals DY ds)(hx:xW CX X E)
  (ha:PA X (e::es) t) (CQ:(x==("__debug__":Str))=false:=by decide) (he:starEach (e::es) X.env=(false,eval e X.env)::starEach es X.env:=by rfl) (AZ:(backTo pos (starEach es X.env)).any (·.1)=false:=by rfl) :
  PE X (.Call (.Name x p) (e::es) [] pos) (k4 sp DY E t):=by
 intro pins s σ H Q I h;refine UB (xQ I hg hm ?_ CQ);refine TX (h₀:=X.base) I.ok.mod.kin hk (thn (ha pos pins s σ H _ I h) λus s1 ⟨vs,H1,I1,r,q⟩=>⟨I1.kIn,?_⟩) he AZ;exact mW F hr hb hd hx I1 r q
def kJ(he:PE X o ta)(c:Cls X.K C)(hm:iA X.K C m f)(F:FnOk X.prog X.w X.K X.mg X.base CX k f fd ps sp)(hr:Room k X.A)(hb:Binds X.K fd ps ds)(hd:Vals DY ds)(hx:xW CX X E)(ha:PA X (e::es) t)
  (BF:starEach (e::es) X.env=(false,eval e X.env)::starEach es X.env:=by rfl) (AZ:(backTo pos (starEach es X.env)).any (·.1)=false:=by rfl)
  (ht:eval (.Call (.Attribute o m apos) (e::es) [] pos) X.env=(do
   let ov <-eval o X.env
   standAt apos.atName
   let(f,first) <-holding [ov] (getMethod ov m pl)
   callWith pos f first (backTo pos (starEach (e::es) X.env)) (backToKw pos (keywordEach [] X.env))):=by rfl) :
  PE X (.Call (.Attribute o m apos) (e::es) [] pos) (re C m sp DY E ta t):=by
 intro pins s σ H Q I h;refine W.methodCall_KW (pl:=pl) (thn (he pins s σ H _ I h) λu s1 ⟨x,H1,I1,rx,a,dx,fs,ex,ea,l,q⟩=>?_) ht;subst ex;obtain rfl:u=Value.ref a:=rx;refine sZ I1 ea c hm l ?_;refine TX (first:=[.ref a]) (h₀:=X.base) I.ok.mod.kin hm.kp (thn (ha pos pins s1 σ H1 _ I1 q) λus s2 ⟨vs,H2,I2,r,q2⟩=>⟨I2.kIn,?_⟩) BF AZ;exact mW (us:=.ref a::us) (vs:=.ref a::vs) F hr hb hd hx I2 (.cons rfl r) q2
def fc(he:PE X o ta)(c:Cls X.K C)(hm:iA X.K C m f)(F:FnOk X.prog X.w X.K X.mg X.base CX k f fd ps sp)(hr:Room k X.A)(hb:Binds X.K fd ps ds)(hd:Vals DY ds)(hx:xW CX X E)
  (ht:eval (.Call (.Attribute o m apos) [] [] pos) X.env=(do
   let ov <-eval o X.env
   standAt apos.atName
   let(f,first) <-holding [ov] (getMethod ov m pl)
   callWith pos f first (backTo pos (starEach [] X.env)) (backToKw pos (keywordEach [] X.env))):=by rfl) :
  PE X (.Call (.Attribute o m apos) [] [] pos) (re C m sp DY E ta dE):=by
 intro pins s σ H Q I h;refine W.methodCall_KW (pl:=pl) (thn (he pins s σ H _ I h) λu s1 ⟨x,H1,I1,rx,a,dx,fs,ex,ea,l,q⟩=>?_) ht;subst ex;obtain rfl:u=Value.ref a:=rx;refine sZ I1 ea c hm l ?_;exact W.callWith_K0 (first:=[.ref a]) I1.kIn hm.kp (mW (us:=[.ref a]) (vs:=[.ref a]) F hr hb hd hx I1 (.cons rfl .nil) q)
structure Mk(K:Nl)(C f:Addr):Prop where
 makes:W.makesIn K C=true
 init:W.findIn K (.ref C) "__init__"=some (some (.ref f))
 fn:W.isFn K (.ref f)=true
 kp:W.keepIn K (.ref C)=true
theorem gB{σ:St}(M:Mk X.K C f)(F:FnOk X.prog X.w X.K X.mg X.base CX k f fd ps sp)(hr:Room (k+1) X.A)(hb:Binds X.K fd ps ds)(hd:Vals DY ds)
  (hx:xW CX X E) (I:Inv X pins σ H s) (r:Vals vs us)
  (h:∀x dx,H x=none->H dx=none->dx≠x->sp (.ref x::(vs++DY)) (upd (upd H dx (.own x)) x (.ins C dx [])) (λv H2=>v = .non/\Q (.ref x) H2) E) :
  wpAny (model X.prog X.w) X.A (call (.ref C) us) (EP X pins σ Q) X.xe s:=by
 have hq:=h (s.heap.objs.size+1) s.heap.objs.size (I.hok.fresh (UG _)) (I.hok.fresh (VW _)) (VD (UI _));have I2:=Inv.made (C:=C) I;have r2:Vals (V.ref (s.heap.objs.size+1)::(vs++DY)) (Value.ref (s.heap.objs.size+1)::(us++ds)):=.cons rfl (r.append hd);have hl:(Value.ref (s.heap.objs.size+1)::us++ds).length=ps.length:=by
  have e:=r2.length;rw[F.len _ _ _ _ hq]at e;exact e.symm
 refine SQ (eY (f:=f) I.kIn M.makes M.init (UL.mp M.fn) (T9 (F.run _ X.stack _ _ ⟨Value.ref (s.heap.objs.size+1)::us,[]⟩ (Value.ref (s.heap.objs.size+1)::(us++ds)) _ _ E (hr.make C us [])
  (I2.env0.make C us []) (hb _ (Value.ref (s.heap.objs.size+1)::us) I2.kIn hl) r2 hq) λr s' HL=>?_))
 cases r with
 |error e=>exact hx pins σ _ _ e s' I2 HL
 |ok fl =>
  cases fl with
  |ret u =>
   obtain⟨v,H',I3,rv,ev,q3⟩:=I2.after HL;subst ev;exact⟨rv,⟨V.ref (s.heap.objs.size+1),H',I3,rfl,q3⟩⟩
  |next=>exact False.elim HL
  |brk=>exact False.elim HL
  |cont=>exact False.elim HL
def cP(M:Mk X.K C f)(F:FnOk X.prog X.w X.K X.mg X.base CX k f fd ps sp)(hr:Room (k+1) X.A)(hg:Gl X x)(hm:X.mg x=some (.ref C))(hb:Binds X.K fd ps ds)(hd:Vals DY ds)(hx:xW CX X E)
  (ha:PA X (e::es) t) (CQ:(x==("__debug__":Str))=false:=by decide) (he:starEach (e::es) X.env=(false,eval e X.env)::starEach es X.env:=by rfl) (AZ:(backTo pos (starEach es X.env)).any (·.1)=false:=by rfl) :
  PE X (.Call (.Name x p) (e::es) [] pos) (gf C sp DY E t):=by
 intro pins s σ H Q I h;refine UB (xQ I hg hm ?_ CQ);refine TX (h₀:=X.base) I.ok.mod.kin M.kp (thn (ha pos pins s σ H _ I h) λus s1 ⟨vs,H1,I1,r,q⟩=>⟨I1.kIn,?_⟩) he AZ;exact gB M F hr hb hd hx I1 r q
end
section
variable {X:Cx}{CX:CXT}{k:Nat}{f C:Addr}{fd:N0}{ps ks:GM}{sp:Sp}{E:XK}{x m:Str}{p pos apos kpos:Pos}{e o:Nv}{es:Nd}{kws:List Keyword}{te ta:TE}{t tk:TA}{nm:Option Str}
structure WG(K:Nl)(fd:N0)(ps ks:GM)(g:List Value->List Value->List Value)(gV:List V->List V->List V):Prop where
 to:∀(s:Np)(us ws:GE),K.In s.heap->(g us ws).length=ps.length->BindsTo s fd ⟨us,ks.zip ws⟩ (ps.zip (g us ws))
 rel:∀{vs:N1}{us:GE}{zs:N1}{ws:GE},Vals vs us->Vals zs ws->Vals (gV vs zs) (g us ws)
variable {g:List Value->List Value->List Value}{gV:List V->List V->List V}
end
structure yl(N P:GM)(sc:Nu):Prop where
 kind:sc.kind = .function
 co:sc.isCoroutine=false
 gen:sc.isGenerator=false
 nd:N.Nodup
 pre:N.take P.length=P
 par:∀x∈P,sc.names.lookup x=some .local\/sc.names.lookup x=some .cell
 nofree:∀y∈sc.names,y.2≠.free
theorem qe{kindOf:Str->Option NameKind}{x:Str}:∀{EW:List (Str×Value)}{m:Str->Option Value},(∀v,(x,v)∉EW)->bindL kindOf EW m x=m x
 |[],_,_=>rfl
 |(n,v)::r,m,h=>by
  unfold bindL;rw[qe λw hw=>h w (VJ _ hw)];split
  ·have:x≠n:=by rintro rfl;exact h v VE
   simp[this]
  ·rfl
theorem qc{kindOf:Str->Option NameKind}{x:Str}:∀{EW:List (Str×Value)}{m:Str->Option Value},(∀v,(x,v)∉EW)->bindC kindOf EW m x=m x
 |[],_,_=>rfl
 |(n,v)::r,m,h=>by
  unfold bindC;rw[qc λw hw=>h w (VJ _ hw)];split
  ·rfl
  ·have:x≠n:=by rintro rfl;exact h v VE
   simp[this]
theorem qd{kindOf:Str->Option NameKind}{x:Str}{v:Value}:∀{P:List Str}{vs:List Value}{i:Nat}{m:Str->Option Value},P.Nodup->P[i]?=some x->vs[i]?=some v->kindOf x=some .local ->
  bindL kindOf (P.zip vs) m x=some v
 |[],_,_,_,_,h,_,_=>by simp at h
 |_::_,[],_,_,_,_,h,_=>by simp at h
 |p::P,w::vs,0,m,nd,h1,h2,hk=>by
  simp at h1 h2;subst h1;subst h2;show bindL kindOf ((p,w)::P.zip vs) m p=_;unfold bindL;rw[qe λv hv=>(TL.mp nd).1 (List.of_mem_zip hv).1,VB hk];simp
 |p::P,w::vs,i+1,m,nd,h1,h2,hk=>by
  show bindL kindOf ((p,w)::P.zip vs) m x=_;unfold bindL;exact qd (i:=i) (TL.mp nd).2 (by simpa using h1) (by simpa using h2) hk
theorem qZ{kindOf:Str->Option NameKind}{x:Str}{v:Value}:∀{P:List Str}{vs:List Value}{i:Nat}{m:Str->Option Value},P.Nodup->P[i]?=some x->vs[i]?=some v->kindOf x≠some .local ->
  bindC kindOf (P.zip vs) m x=some v
 |[],_,_,_,_,h,_,_=>by simp at h
 |_::_,[],_,_,_,_,h,_=>by simp at h
 |p::P,w::vs,0,m,nd,h1,h2,hk=>by
  simp at h1 h2;subst h1;subst h2;show bindC kindOf ((p,w)::P.zip vs) m p=_;unfold bindC;rw[qc λv hv=>(TL.mp nd).1 (List.of_mem_zip hv).1,VF hk];simp
 |p::P,w::vs,i+1,m,nd,h1,h2,hk=>by
  show bindC kindOf ((p,w)::P.zip vs) m x=_;unfold bindC;exact qZ (i:=i) (TL.mp nd).2 (by simpa using h1) (by simpa using h2) hk
def start(N:GM)(vs:N1):St:=vs.map some++List.replicate (N.length-vs.length) none
def xu(CX:CXT)(P:Nn)(w:No)(K:Nl)(mg:FB)(base:Nw)(N:GM)(qual:Str)(scope:Nu)(f:Addr)(cd:Nq)(A:Nr)(outer:List Env)(s:Np)(H:Hp)(E:XK):Cx where
 prog:=P
 w:=w
 K:=K
 mg:=mg
 base:=base
 A:=A.deeper (envOfC qual scope s.heap.objs.size f cd)
 N:=N
 s₀:=s
 H₀:=H
 env:=envOfC qual scope s.heap.objs.size f cd
 outer:=outer
 stack:=envOfC qual scope s.heap.objs.size f cd::outer
 ex:=[]
 calm:=true
 fn:=λ_=>true
 pn:=[]
 xe:=λe s'=>wpAny (model P w) (A.deeper (envOfC qual scope s.heap.objs.size f cd)) (leaving (envOfC qual scope s.heap.objs.size f cd) e) (λ_ s''=>CX outer H s E e s'') (λe' s''=>CX outer H s E e' s'') s'
def nF(h:sc.names.lookup x=some .cell):∃c,(cellsFrom n sc.names []).lookup x=some c:=by
 have q:=W.cellsFrom_some sc.names n [] (.inl h);exact Uo.mp q
theorem iW{CX:CXT}{K:W.Frag}{E:XK}
  (S:yl N ps scope) (hd:A.handled=none) (e0:Env0 P w K mg base A outer s H) (hl:vs.length=ps.length) (r:Vals vs us)
  (x:InCallC s s.heap.objs.size (bindL (envOfC qual scope s.heap.objs.size f cd).kindOf (ps.zip us) λ_=>none) (cellsFrom (s.heap.objs.size+1) scope.names []) (bindC (envOfC qual scope s.heap.objs.size f cd).kindOf (ps.zip us) λ_=>none) s1) :
  Inv (xu CX P w K mg base N qual scope f cd A outer s H E) [] (start N vs) H s1:=by
 have AZ:ps.length<=N.length:=by have:=Vp List.length S.pre;rw[Vw]at this;lia
 obtain⟨h1,tk,rfl,hk⟩:=x.done;have LM:∀b:Addr,b∉(xu CX P w K mg base N qual scope f cd A outer s H E).ex:=λb z=>absurd (show b∈([]:List Addr)from z) (by simp);refine⟨⟨e0.mod,S.kind,rfl,rfl,VW _,λy z c h1 h2=>?_,λy hy=>?_,λy c _ h=>?_,λ_=>hd,Around.frames_deeper e0.frames,.inr ⟨rfl,rfl⟩,λb z=>absurd z (LM b),e0.bs,e0.bsz,λb _ _=>LM b,λb z=>absurd z (LM b),e0.funs,e0.frf⟩,
  rfl,e0.bare,Un.kept hk,⟨_,x.toInCall.ns,λi y v h1 h2 h3=>?_⟩,λy c h=>⟨_,x.cell y c h⟩,e0.hok.fresh (VW _),λy c h=>?_,λp hp=>absurd (show p∈([]:List (Addr×Obj))from hp) (by simp),e0.hok.kept hk,?_⟩
 ·exact name_of_addr x.apart (UZ h1) (UZ h2)
 ·have hy:scope.names.lookup y=some .cell\/scope.names.lookup y=some .free:=hy;rcases hy with hy|hy
  ·exact nF hy
  ·exact absurd rfl (S.nofree _ (UZ hy))
 ·exact UQ (x.above y c (UZ h))
 ·have hi:i<vs.length:=by
   unfold start at h2
   by_cases hi:i<vs.length
   ·exact hi
   ·rw[TZ (by simpa using hi)]at h2;rw[List.getElem?_replicate]at h2;split at h2<;>cases h2
  have ha:vs[i]?=some v:=by
   unfold start at h2;rw[U9 (by simpa using hi),VA]at h2;cases e:vs[i]? with
   |none=>rw[e]at h2;cases h2
   |some a=>rw[e]at h2;cases h2;rfl
  obtain⟨u,hu,rv⟩:=r.get ha;have hp:ps[i]?=some y:=by
   rw[<-S.pre,U4 (by lia)];exact h1
  have ndP:ps.Nodup:=by rw[<-S.pre];exact S.nd.sublist (List.take_sublist _ _)
  refine⟨u,rv,?_⟩;rcases S.par y (VR hp)with k|k
  ·exact .inl ⟨k,qd ndP hp hu k⟩
  ·obtain⟨c,e⟩:=nF (n:=s.heap.objs.size+1) k;refine .inr ⟨.inl k,c,e,?_⟩;have q:=x.cell y c e;rw[qZ ndP hp hu (by show scope.names.lookup y≠_;rw[k];decide)]at q;exact q
 ·exact e0.hok.fresh (UQ (x.above y c (UZ h)))
 ·unfold start;show _=N.length;rw[VU,WA,U5];lia
theorem dg{CX:CXT}{K:W.Frag}{params:Arguments}{body:List Stmt}{an od:Option Addr}
  {osl:Array (Option Value)}{sp:Sp} (lk:K.lookup f=some ⟨oc,od,.func (W.fnOf name qual params body scope dV kV doc pm an cdv ct),osl⟩) (Ev:W.codeIn K cdv qual=true) (S:yl N ps scope)
  (len:∀vs H Q E,sp vs H Q E->vs.length=ps.length)
  (A7:∀(A:Around)(outer:List Env)(s:Shared)(H:Hp)(vs:List V)(Q:VK)(E:XK),Room k (A.deeper (envOfC qual scope s.heap.objs.size f cdv))->sp vs H Q E ->
   ∃t,PSs (xu CX P w K mg base N qual scope f cdv A outer s H E) body t/\t { nx:=λ_ H'=>Q .non H',rt:=Q } (start N vs) H) :
  FnOk P w K mg base CX (k+1) f (W.fnOf name qual params body scope dV kV doc pm an cdv ct) ps sp:=by
 refine⟨len,λA outer s H args us vs Q E hr e0 hb r Hc=>?_⟩;have hl:=len _ _ _ _ Hc;have KX:K.In s.heap:=e0.mod.kin.keeps λb o e=>(e0.bs b o e).1;have lim:s.heap.NoLimit:=e0.mod.nolimit.keeps λb o e=>(e0.bs b o e).1;have Mm:∀y∈ps.zip us,scope.names.lookup y.1=some .local\/(scope.names.lookup y.1=some .cell/\((cellsFrom (s.heap.objs.size+1) scope.names []).lookup y.1).isSome=true):=λ⟨n,v⟩ hy=>by
  rcases S.par n (List.of_mem_zip hy).1 with q|q
  ·exact .inl q
  ·exact .inr ⟨q,W.cellsFrom_some _ _ _ (.inl q)⟩
 refine codeAny_call_function hr.depth (KX _ _ lk) rfl S.co S.gen rfl (W.codeRec_of KX Ev) (hb _ _ _ _ ?_);refine wpAny_newFunctionEnv_cells S.kind Mm λenv he s1 x=>?_;subst he;refine⟨lim.keeps x.toInCall.keep,codeAny_func ?_⟩;obtain⟨t,ht,hq⟩:=A7 A outer s H vs Q E (hr.deeper _) Hc;have I:Inv (xu CX P w K mg base N qual scope f cdv A outer s H E) [] (start N vs) H s1:=iW S hr.hd e0 hl r x;refine V6 (ht [] s1 (start N vs) H _ I hq) (λfl s' hs=>?_) λe s' hs=>hs;have A9:∀{σ':St}{H':Hp}{v:V}{u:Value},Inv (xu CX P w K mg base N qual scope f cdv A outer s H E) [] σ' H' s'->RelV v u->Q v H'->CE outer P w H s Q u s' :=
  λ{σ' H' v u} J rv q=>⟨v,H',J.os,J.bare,J.base,J.hok,rv,q⟩
 cases fl with
 |ret u =>
  obtain⟨v,σ',H',J,rv,q⟩:=hs;exact A9 J rv q
 |next =>
  obtain⟨σ',H',J,q⟩:=hs;exact A9 (v:=V.non) (u:=Value.none) J rfl q
 |brk =>
  obtain⟨_,_,_,q⟩:=hs;exact False.elim q
 |cont =>
  obtain⟨_,_,_,q⟩:=hs;exact False.elim q
end L2
namespace L2
open PySem PySem.Spec PyProof.Rows
section
variable {X:Cx}{x:Str}{p pos:Pos}{e:Nv}{es:Nd}{t:TA}{id T:String}{r:List V->Hp->VK->Prop}
def tCB(r:List V->Hp->VK->Prop)(t:TA):TE:=fun σ H Q=>t σ H λvs H1=>r vs H1 Q
def zw(hc:xo X (.builtin id) r)(hg:Gl X x)(hm:X.mg x=none)(hv:bootBuiltins x=some (.builtin id))(ha:PA X (e::es) t)(hn:x≠"__name__":=by decide)(CQ:(x==("__debug__":Str))=false:=by decide)
  (he:starEach (e::es) X.env=(false,eval e X.env)::starEach es X.env:=by rfl) (AZ:(backTo pos (starEach es X.env)).any (·.1)=false:=by rfl):PE X (.Call (.Name x p) (e::es) [] pos) (tCB r t):=by
 intro pins s σ H Q I h;refine UB (wc I hg hm hv ?_ hn CQ);exact PyProof.Rows.callWith_builtin1 (thn (ha pos pins s σ H _ I h) λus s1 ⟨vs,H1,I1,r1,q1⟩=>hc pins s1 σ H1 vs us Q I1 r1 q1) he AZ
def zJ(hc:xo X (.type T) r)(hg:Gl X x)(hm:X.mg x=none)(hv:bootBuiltins x=some (.type T))(ha:PA X (e::es) t)(hn:x≠"__name__":=by decide)(CQ:(x==("__debug__":Str))=false:=by decide)
  (he:starEach (e::es) X.env=(false,eval e X.env)::starEach es X.env:=by rfl) (AZ:(backTo pos (starEach es X.env)).any (·.1)=false:=by rfl):PE X (.Call (.Name x p) (e::es) [] pos) (tCB r t):=by
 intro pins s σ H Q I h;refine UB (wc I hg hm hv ?_ hn CQ);exact UE (thn (ha pos pins s σ H _ I h) λus s1 ⟨vs,H1,I1,r1,q1⟩=>hc pins s1 σ H1 vs us Q I1 r1 q1) he AZ
end
end L2
namespace HT
open PySem PyProof.Rows
variable{b sl t:Addr}{Q:Da}{v vl vu:Nq}{hi lo o:Option Int}
section
open PySem.SeqAt
open PySem.AutoSeq1 (wpAny_loadPart')
open PySem.MeetsSeq PySem.MeetsSeq2 PySem.MeetsSeq3
end
section
variable {prog:Nn}{w:No}{A:Nr}{E:Da}{s:Np}
def cat_tup{vs ws:GE}(ht:IsTup s.heap t vs.toArray)(hb:IsTup s.heap b ws.toArray)(hv:vs≠[])
  (h1:ws=[]->Q (.ref t) s) (h2:ws≠[]->Q (.ref s.heap.objs.size) { s with heap:=s.heap.push { cls:=.type "tuple",data:=.seq (vs++ws).toArray } })
  (hsz:vs.length+ws.length<=sizeLine):wpAny (model prog w) A (binaryOp .Add (.ref t) (.ref b)) Q E s:=by
 obtain⟨⟨cls,dd,data,sl⟩,ho,hc,n,hd⟩:=id ht;obtain⟨⟨cls2,dd2,data2,IB⟩,Km,Ic,n2,Kv⟩:=id hb;simp only at hc hd Ic Kv;subst hc hd Ic Kv;have e:vs.toArray++ws.toArray=(vs++ws).toArray:=by simp
 by_cases hw:ws=[]
 ·exact concat_meets ⟨_,ho,rfl⟩ ⟨_,Km,rfl⟩ noFill_tuple_add seq_tuple_add SI SN (SW _ _)
   (tuple_addW1 t b vs.toArray ws.toArray n n2 dd dd2 sl IB (by simpa using hv) (by simp[hw])) ⟨ho,Km,h1 hw⟩
 ·refine concat_meets ⟨_,ho,rfl⟩ ⟨_,Km,rfl⟩ noFill_tuple_add seq_tuple_add SI SN (SW _ _)
   (tuple_addW2 t b vs.toArray ws.toArray n n2 dd dd2 sl IB (by simpa using hv) (by simpa using hw) (by rw[VO,VO];exact hsz)) ⟨ho,Km,?_⟩
  rw[e];exact h2 hw
def sIx(n d:Nat):Option Int->Nat
 |none=>d
 |some v=>if v<0 then(v+(n:Int)).toNat else min v.toNat n
def sIx_none(n d:Nat):sIx n d none=d:=rfl
def Z9(n d:Nat)(hd:d<=n)(o:Option Int):sIx n d o<=n:=by
 cases o with
 |none=>exact hd
 |some v =>
  show(if v<0 then(v+(n:Int)).toNat else min v.toNat n)<=n
  by_cases hv:v<0
  ·rw[VB hv];lia
  ·rw[VF hv];exact Nat.min_le_right _ _
def jj(v:Int)(n d:Nat):(if v<0 then max (v+(n:Int)) 0 else min v (n:Int))=((sIx n d (some v):Nat):Int):=by
 show(if v<0 then max (v+(n:Int)) 0 else min v (n:Int))=(((if v<0 then(v+(n:Int)).toNat else min v.toNat n):Nat):Int)
 by_cases hv:v<0
 ·simp only[VB hv];lia
 ·simp only[VF hv];lia
def k8(lo hi:Option Int)(n:Nat):Builtin.Slice.sliceAdjust lo hi 1 (n:Int)=(((sIx n 0 lo:Nat):Int),((sIx n n hi:Nat):Int)):=by
 have h1:¬((1:Int)<0):=by lia
 unfold Builtin.Slice.sliceAdjust;simp only[h1,if_false];refine Prod.ext ?_ ?_
 ·cases lo with
  |none=>rfl
  |some v=>exact jj v n 0
 ·cases hi with
  |none=>rfl
  |some v=>exact jj v n n
def mP(i j:Nat):Builtin.Slice.slicePlaces (i:Int) (j:Int) 1=j-i:=by
 unfold Builtin.Slice.slicePlaces;have h1:(1:Int)>0:=by lia
 simp only[h1,if_true,Int.ediv_one];split<;>lia
def tT{Q:Option Int->Shared->Prop}(p:IsPart v o)(h:Q o s):wpAny (model prog w) A (Builtin.Slice.slicePartIndex v) Q E s:=by
 cases p with
 |none=>exact slicePart_none h
 |int i t=>exact slicePart_int h
def sliceApplied_gen{n:Nat}{Q:Int×Int×Nat->Shared->Prop}(hs:s.heap.IsSliceOf sl vl vu .none)(pl:IsPart vl lo)(pu:IsPart vu hi)
  (h:Q (((sIx n 0 lo:Nat):Int),1,sIx n n hi-sIx n 0 lo) s):wpAny (model prog w) A (Builtin.Slice.sliceApplied (.ref sl) (pure (n:Int))) Q E s:=by
 obtain⟨os,Kk,JB,Ms⟩:=id hs;unfold Builtin.Slice.sliceApplied Builtin.Slice.sliceFields;refine WC (WC (Vo Kk Ms (x:=vl) rfl (WC (Vo Kk Ms (x:=vu) rfl (WC (Vo Kk Ms (x:=.none) rfl (VZ ?_)))))));refine WC (slicePart_none ?_);show wpAny _ _ (if((1:Int)==0)=true then _ else _) _ _ s;rw[VF (by decide)];refine WC (tT pl (WC (tT pu (WC (VZ ?_)))));show wpAny _ _ (match Builtin.Slice.sliceAdjust lo hi 1 (n:Int)with|(lo,hi)=>pure (lo,(1:Int),Builtin.Slice.slicePlaces lo hi 1)) _ _ s;rw[k8 lo hi n];show wpAny _ _ (pure (((sIx n 0 lo:Nat):Int),(1:Int),Builtin.Slice.slicePlaces ((sIx n 0 lo:Nat):Int) ((sIx n n hi:Nat):Int) 1)) _ _ s;rw[mP];exact VZ h
def fg(xs:Nk)(i k:Nat):((List.range k).filterMap λ(m:Nat)=>xs[((i:Int)+(m:Int)*1).toNat]?).toArray=((xs.toList.drop i).take k).toArray:=by
 have e:(λ(m:Nat)=>xs[((i:Int)+(m:Int)*1).toNat]?)=λm=>xs[i+m]?:=by
  funext m
  have:((i:Int)+(m:Int)*1).toNat=i+m:=by lia
  rw[this]
 rw[e];have:=pick_run xs i k;rw[List.filterMap_map]at this;have e2:((λx=>xs[x]?)∘λx=>i+x)=λm=>xs[i+m]?:=rfl;rw[e2]at this;rw[this]
theorem getItem_tuple_cut{items:Array Value}(ht:IsTup s.heap t items)(hs:s.heap.IsSliceOf sl vl vu .none)(pl:IsPart vl lo)(pu:IsPart vu hi)
  (hw:¬(sIx items.size 0 lo=0/\sIx items.size items.size hi=items.size))
  (h:Q (.ref s.heap.objs.size) { s with heap:=s.heap.push { cls:=.type "tuple",data:=.seq ((items.toList.drop (sIx items.size 0 lo)).take (sIx items.size items.size hi-sIx items.size 0 lo)).toArray } })
  (hsz:items.size<=sizeLine):wpAny (model prog w) A (getItem (.ref t) (.ref sl)) Q E s:=by
 have Gk:sizeOk (.seq ((items.toList.drop (sIx items.size 0 lo)).take (sIx items.size items.size hi-sIx items.size 0 lo)).toArray):=by
  show((items.toList.drop (sIx items.size 0 lo)).take (sIx items.size items.size hi-sIx items.size 0 lo)).toArray.size<=sizeLine;rw[VO,Vw,V1,US];lia
 have hj:sIx items.size items.size hi<=items.size:=Z9 _ _ (VW _) hi;obtain⟨os,Kk,JB,Ms⟩:=id hs;have Mz:s.TypeIs (.ref sl) "slice":=⟨os,Kk,JB⟩
 unfold getItem
 try with_reducible refine Vh ?_
 first|refine WC (VZ ?_)|skip
 refine WC (wpAny_sequenceKey ht.typeIs (by decide) ?_);refine WC (Vb (name:=("__getitem__":Str)) ht.typeIs UT
  (Vg UT ht.typeIs entry_tuple_getitem ?_ (args_tuple_getitem _ _)))
 show wpAny _ _ (Builtin.Tuple.tupleItemsOf (.ref t) >>= _) _ _ s;refine WC (tupleItemsOf_ ht ?_);refine WC (SZ Mz ?_);rw[VB (by decide)];refine WC (sliceApplied_gen hs pl pu ?_);have CA:¬((((sIx items.size 0 lo:Nat):Int)==0&&(1:Int)==1&&(sIx items.size items.size hi-sIx items.size 0 lo)==items.size)=true):=by
  intro q;rw[Vy,Vy]at q;have q1:((sIx items.size 0 lo:Nat):Int)=0:=eq_of_beq q.1.1;have q2:sIx items.size items.size hi-sIx items.size 0 lo=items.size:=eq_of_beq q.2;exact hw ⟨by lia,by lia⟩
 show wpAny _ _ (if(((sIx items.size 0 lo:Nat):Int)==0&&(1:Int)==1&&(sIx items.size items.size hi-sIx items.size 0 lo)==items.size)=true then _ else _) _ _ s;rw[VF CA,fg]
 first
  |exact WC (m:=Builtin.Tuple.tupleExact _) (Vq (VZ ⟨_,rfl,VZ h⟩) Gk)
  |exact WC (m:=Builtin.Tuple.tupleExact _) (Vq (WC (VZ (VZ ⟨_,rfl,VZ h⟩))) Gk)
  |exact WC (WC (m:=Builtin.Tuple.tupleExact _) (Vq (VZ (VZ ⟨_,rfl,VZ h⟩)) Gk))
  |exact WC (WC (m:=Builtin.Tuple.tupleExact _) (Vq (VZ ⟨_,rfl,VZ h⟩) Gk))
end
end HT
namespace L2
open PySem PySem.Spec PyProof.Rows
variable{r r':V->Option Int->Option Int->Hp->VK->Prop}
abbrev TO:=St->Hp->(Option Int->Hp->Prop)->Prop
def PO(X:Cx)(e:Option Expr)(t:TO):Prop :=
 ∀(pins:KB)(s:Np)(σ:St)(H:Hp)(Q:Option Int->Hp->Prop),Inv X pins σ H s->t σ H Q ->
  wpAny (model X.prog X.w) X.A (evalPart e X.env) (λu s'=>∃o H',Inv X pins σ H' s'/\IsPart u o/\Q o H') X.xe s
def k6:TO:=λ_ H Q=>Q none H
def lQ{ns:List Int}:∀{us:List Value},Vals (ns.map V.int) us->IntsAre us ns:=by
 induction ns with
 |nil=>intro us r;rw[List.map_nil]at r;cases r;exact .nil
 |cons n ns ih =>
  intro us r;rw[List.map_cons]at r;cases r with
  |cons r1 r2 =>
   obtain⟨t,e⟩:=r1;subst e;exact .cons n t (ih r2)
section
variable {X:Cx}{e:Nv}{te:TE}{lo hi:Option Expr}{tl th:TO}{pos p2:Pos}
def zM:PO X none k6:=by
 intro pins s σ H Q I h;rw[evalPart_none];exact VZ ⟨none,H,I,.none,h⟩
def SlR(X:Cx)(r:V->Option Int->Option Int->Hp->VK->Prop):Prop :=
 ∀(pins:KB)(s:Np)(σ:St)(H:Hp)(x:V)(v vl vu:Nq)(lo hi:Option Int)(sl:Addr)(Q:VK),Inv X pins σ H s->RelV x v->s.heap.IsSliceOf sl vl vu .none->IsPart vl lo->IsPart vu hi->r x lo hi H Q ->
  ∃T id,typeLookup (.type T) "__getitem__"=pure (some (.builtin id))/\s.TypeIs v T/\wpAny (model X.prog X.w) X.A (getItem v (.ref sl)) (EP X pins σ Q) X.xe s
def SlR.or(h:SlR X r)(h':SlR X r'):SlR X (λx lo hi H Q=>r x lo hi H Q\/r' x lo hi H Q):=by
 intro pins s σ H x v vl vu lo hi sl Q I rx hs pl pu q;rcases q with q|q
 ·exact h pins s σ H x v vl vu lo hi sl Q I rx hs pl pu q
 ·exact h' pins s σ H x v vl vu lo hi sl Q I rx hs pl pu q
def tSl(r:V->Option Int->Option Int->Hp->VK->Prop)(te:TE)(tl th:TO):TE:=fun σ H Q=>te σ H λx H1=>tl σ H1 λl H2=>th σ H2 λu H3=>r x l u H3 Q
def fe(hr:SlR X r)(he:PE X e te)(hl:PO X lo tl)(hu:PO X hi th):PE X (.Subscript e (.Slice lo hi none p2) pos) (tSl r te tl th):=by
 intro pins s σ H Q I h;refine Subscript_ (thn (he pins s σ H _ I h) λv s1 ⟨x,H1,I1,r1,q1⟩=>?_);refine wpAny_Slice (thn (hl pins s1 σ H1 _ I1 q1) λvl s2 ⟨l,H2,I2,pl,q2⟩=>thn (hu pins s2 σ H2 _ I2 q2) λvu s3 ⟨u,H3,I3,pu,q3⟩=>?_);rw[evalPart_none];refine VZ ?_;have I4:Inv X pins σ H3 { s3 with heap:=s3.heap.push { cls:=.type "slice",data:=.fields #[vl,vu,.none] } }:=I3.kept (t':=s3.toks) λb ob q=>WB _ q;obtain⟨T,id,hT,ht,hg⟩:=hr pins { s3 with heap:=s3.heap.push { cls:=.type "slice",data:=.fields #[vl,vu,.none] } } σ H3 x v vl vu l u s3.heap.objs.size Q I4 r1 (Heap.IsSliceOf.new ..) pl pu q3;show wpAny (model X.prog X.w) X.A (subscriptTail e (.Slice lo hi none p2) v (.ref s3.heap.objs.size)) (EP X pins σ Q) X.xe { s3 with heap:=s3.heap.push { cls:=.type "slice",data:=.fields #[vl,vu,.none] } };exact tail_any (ops:=[.ref s3.heap.objs.size,v]) ht hT hg (by with_unfolding_all rfl)
def xA(xs:N1)(lo hi:Option Int):List V:=(xs.drop (HT.sIx xs.length 0 lo)).take (HT.sIx xs.length xs.length hi-HT.sIx xs.length 0 lo)
def uV(xs:N1)(lo hi:Option Int):(xA xs lo hi).length<=xs.length:=by
 unfold xA;rw[Vw,V1];lia
def Wn(K:Nl):V->Option Int->Option Int->Hp->VK->Prop:=λx lo hi H Q=>∃a xs,x = .ref a/\SqT K H a xs /\
 ¬(HT.sIx xs.length 0 lo=0/\HT.sIx xs.length xs.length hi=xs.length)/\∀p,H p=none->Q (.ref p) (upd H p (.tup (xA xs lo hi)))
def aH:SlR X (Wn X.K):=by
 intro pins s σ H x v vl vu lo hi sl Q I rx hs pl pu h;obtain⟨a,xs,rfl,hx,hw,q⟩:=h;cases rx;obtain⟨Af,r,ht,hz⟩:=I.tuple hx;have Ar:Af.toArray.size=xs.length:=by rw[VO];exact r.length.symm
 refine⟨"tuple",_,UT.lookup,ht.typeIs,?_⟩;refine HT.getItem_tuple_cut ht hs pl pu (by rw[Ar];exact hw) ?_ (by rw[Ar];exact hz);rw[Ar];refine⟨.ref s.heap.objs.size,_,I.laid (t':=s.toks) (o:=.tup (xA xs lo hi)) (λb ob q=>WB _ q) (VW _) ?_,rfl,q _ (I.hok.fresh (VW _))⟩;exact⟨Vz (uV xs lo hi) hz,_,(r.drop (HT.sIx xs.length 0 lo)).take (HT.sIx xs.length xs.length hi-HT.sIx xs.length 0 lo),IsTup.new _ _⟩
def YI(K:Nl):R2:=λx y H Q=>∃a b xs ys,x = .ref a/\y = .ref b/\SqT K H a xs/\SqT K H b ys/\xs≠[]/\xs.length+ys.length<=sizeLine /\
 (ys=[]->Q (.ref a) H)/\(ys≠[]->∀p,H p=none->Q (.ref p) (upd H p (.tup (xs++ys))))
def Vals.nil_iff{xs:List V}{us:List Value}(r:Vals xs us):us=[]↔xs=[]:=by
 cases r with
 |nil=>simp
 |cons _ _=>simp
def cL:OpR X (binaryOp .Add) (YI X.K):=by
 intro pins s σ H x y v u Q I rx ry h;obtain⟨a,b,xs,ys,rfl,rfl,ha,hb,hx,hz,q1,q2⟩:=h;cases rx;cases ry;obtain⟨Af,r1,p1,_⟩:=I.tuple ha;obtain⟨CO,r2,p2,_⟩:=I.tuple hb;refine HT.cat_tup p1 p2 (λz=>hx (r1.nil_iff.mp z)) (λz=>⟨.ref a,H,I,rfl,q1 (r2.nil_iff.mp z)⟩) (λz=>?_) (by rw[<-r1.length,<-r2.length];exact hz);refine⟨.ref s.heap.objs.size,_,I.laid (t':=s.toks) (o:=.tup (xs++ys)) (λb ob q=>WB _ q) (VW _) ?_,rfl,q2 (λw=>z (r2.nil_iff.mpr w)) _ (I.hok.fresh (VW _))⟩;exact⟨by rw[VU];exact hz,_,r1.append r2,IsTup.new _ _⟩
end
end L2
namespace L2
open PySem PySem.Spec PyProof.Rows
variable{α:Type}{j n n':Nat}{i:Int}{r r':R2}{pins:KB}{H:Hp}{s:Np}{x y:V}{u v:Nq}
def ixN(n:Nat)(i:Int):Option Nat:=if 0<=i then(if i<n then some i.toNat else none)else if -(n:Int)<=i then some (i+n).toNat else none
def atI(xs:List α)(i:Int):Option α:=(ixN xs.length i).bind λj=>xs[j]?
def jt(h:ixN n i=some j):seqIndex? i n=some j/\j<n/\-(n:Int)<=i/\i<n:=by
 unfold ixN at h
 by_cases h0:0<=i
 ·rw[VB h0]at h
  by_cases h1:i<n
  ·rw[VB h1]at h;have e:i.toNat=j:=V3 h;exact⟨by rw[seqIndex_of h0 h1,e],by lia,by lia,h1⟩
  ·rw[VF h1]at h;cases h
 ·rw[VF h0]at h
  by_cases h1:-(n:Int)<=i
  ·rw[VB h1]at h;have e:(i+n).toNat=j:=V3 h;exact⟨by rw[seqIndex_neg (by lia) h1,e],by lia,h1,by lia⟩
  ·rw[VF h1]at h;cases h
def pJ{xs:List α}{v:α}(h:atI xs i=some v):∃j,seqIndex? i xs.length=some j/\xs[j]?=some v/\j<xs.length/\-(xs.length:Int)<=i/\i<xs.length:=by
 unfold atI at h;cases e:ixN xs.length i with
 |none=>rw[e]at h;cases h
 |some j =>
  rw[e]at h;obtain⟨h1,h2,h3,h4⟩:=jt e;exact⟨j,h1,h,h2,h3,h4⟩
def xf{xs:List α}{v:α}(h:xs[j]?=some v):atI xs (j:Int)=some v:=by
 have hj:j<xs.length:=(VY.mp h).1;have e:ixN xs.length (j:Int)=some j:=by
  unfold ixN;rw[VB (by lia),VB (by lia)];simp
 unfold atI;rw[e];exact h
def jc(b:Nv):Prop:=∀o i,subscripted b false o i=operate [o,i] (getItem o i)
def IxR(X:Cx)(r:R2):Prop :=
 ∀(value slice:Nv)(pins:KB)(s:Np)(σ:St)(H:Hp)(x y:V)(v u:Nq)(Q:VK),Inv X pins σ H s->RelV x v->RelV y u->r x y H Q ->
  subscripted slice false v u=operate [v,u] (getItem v u)->wpAny (model X.prog X.w) X.A (subscriptTail value slice v u) (EP X pins σ Q) X.xe s
def MtR(X:Cx)(id:String)(r:V->List V->Hp->VK->Prop):Prop :=
 ∀(pins:KB)(s:Np)(σ:St)(H:Hp)(x:V)(xs:N1)(v:Nq)(us:GE)(Q:VK),Inv X pins σ H s->RelV x v->Vals xs us->r x xs H Q ->
  wpAny (model X.prog X.w) X.A (call (.builtin id) (v::us)) (EP X pins σ Q) X.xe s
section
variable {X:Cx}{a b:Nv}{ta tb:TE}{pos:Pos}
def IxR.or(h:IxR X r)(h':IxR X r'):IxR X (λx y H Q=>r x y H Q\/r' x y H Q):=by
 intro value slice pins s σ H x y v u Q I rx ry q hs;rcases q with q|q
 ·exact h value slice pins s σ H x y v u Q I rx ry q hs
 ·exact h' value slice pins s σ H x y v u Q I rx ry q hs
def Xx(hr:IxR X r)(ha:PE X a ta)(hb:PE X b tb)(hs:jc b):PE X (.Subscript a b pos) (tOp r ta tb):=by
 intro pins s σ H Q I h;exact Subscript_ (Yy ha hb I h λv u s2 x y H2 I2 rx ry q=>hr a b pins s2 σ H2 x y v u Q I2 rx ry q (hs _ _))
def YJ(K:Nl):R2:=λx y H Q=>∃p xs i v,x = .ref p/\y = .int i/\SqL K H p xs/\atI xs i=some v/\Q v H
def YL(K:Nl):R2:=λx y H Q=>∃p xs i v,x = .ref p/\y = .int i/\SqT K H p xs/\atI xs i=some v/\Q v H
def YK:R2:=λx y H Q=>∃z i c,x = .str z/\y = .int i/\z.length<=sizeLine/\atI z.cps.toList i=some c/\Q (.str ⟨#[c]⟩) H
def ix_list:IxR X (YJ X.K):=by
 intro value slice pins s σ H x y v u Q I rx ry h hs;obtain⟨p,xs,i,z,rfl,rfl,hq,he,q⟩:=h;cases rx;obtain⟨t,rfl⟩:=ry;obtain⟨Af,r,pl,hz⟩:=I.list hq;obtain⟨j,h1,h2,h3,h4,h5⟩:=pJ he;obtain⟨w,ew,G6⟩:=r.get h2;have hl:=r.length;have hn:=ut;have A9:EP X pins σ Q w s:=⟨z,H,I,G6,q⟩
 by_cases h0:0<=i
 ·have hj:i.toNat=j:=by
   rw[seqIndex_of h0 h5]at h1;exact V3 h1
  exact item_listR pl.isList h0 (by lia) (by rw[hj];simpa using ew) A9 hs
 ·have hj:(i+(Af.toArray.size:Int)).toNat=j:=by
   rw[seqIndex_neg (by lia) h4]at h1;rw[VO,<-hl];exact V3 h1
  exact subscriptTail_builtinR (x:=w) pl.isList.typeIs slot_list_getitem.lookup
   (wpAny_getItem_list_neg (Q:=λr s'=>r=w/\EP X pins σ Q r s') pl.isList (by lia) (by rw[VO]<;>lia) (by lia) (by rw[hj];simpa using ew) ⟨rfl,A9⟩) hs
def ix_tup:IxR X (YL X.K):=by
 intro value slice pins s σ H x y v u Q I rx ry h hs;obtain⟨p,xs,i,z,rfl,rfl,hq,he,q⟩:=h;cases rx;obtain⟨t,rfl⟩:=ry;obtain⟨Af,r,pl,hz⟩:=I.tuple hq;obtain⟨j,h1,h2,h3,h4,h5⟩:=pJ he;obtain⟨w,ew,G6⟩:=r.get h2;have hl:=r.length;have hn:=ut;have A9:EP X pins σ Q w s:=⟨z,H,I,G6,q⟩
 exact subscriptTail_builtinR (x:=w) pl.typeIs slot_tuple_getitem.lookup
  (getItem_tuple (j:=j) (Q:=λr s'=>r=w/\EP X pins σ Q r s') pl (by lia) (by lia) (by rw[VO,<-hl];exact h1) (by simpa using ew) ⟨rfl,A9⟩) hs
def ZC:IxR X YK:=by
 intro value slice pins s σ H x y v u Q I rx ry h hs;obtain⟨z,i,c,rfl,rfl,hz,he,q⟩:=h;obtain⟨t,rfl⟩:=rx;obtain⟨t',rfl⟩:=ry;obtain⟨j,h1,h2,h3,h4,h5⟩:=pJ he;have hl:z.cps.toList.length=z.length:=by simp[Str.length]
 rw[hl]at h1 h4 h5;have hn:=ut;exact tail_any (Tr s z t) slot_str_getitem.lookup (getItem_str (c:=c) (by
  have e1:decide (i < -(2 ^ 63:Int))=false:=VH (by lia);have e2:decide (i≥2 ^ 63)=false:=VH (by lia);rw[e1,e2,Bool.or_false]) (by rw[h1];simpa using h2) ⟨.str ⟨#[c]⟩,H,I.tok _,⟨_,rfl⟩,q⟩) hs
def rIx(K:Nl):R2:=λx y H Q=>YJ K x y H Q\/YL K x y H Q\/YK x y H Q
def ZB:IxR X (rIx X.K):=ix_list.or (ix_tup.or ZC)
def lq(Af:GE)(n j:Nat)(u:Nq):Obj.mapSeq (·.setIfInBounds j u) { cls:=.type "list",data:=.seq Af.toArray n }={ cls:=.type "list",data:=.seq (Af.set j u).toArray n }:=by
 simp[Obj.mapSeq]
theorem Inv.lst{pins:KB}{σ:St}{H:Hp}{s:Np}{p:Addr}{xs:N1}(I:Inv X pins σ H s)(h:H p=some (.lst xs)):
  ∃(Af:GE)(n:Nat),Vals xs Af/\s.heap.get? p=some { cls:=.type "list",data:=.seq Af.toArray n }/\xs.length<=sizeLine:=by
 obtain⟨z,Af,n,r,e⟩:=I.hok p _ h;exact⟨Af,n,r,e,z⟩
def Inv.lstUpd{σ:St}{p:Addr}{xs ys:N1}{Af its':GE}{f:Obj->Obj}(I:Inv X pins σ H s)(h:H p=some (.lst xs))
  (ho:s.heap.get? p=some { cls:=.type "list",data:=.seq Af.toArray n }) (hf:f { cls:=.type "list",data:=.seq Af.toArray n }={ cls:=.type "list",data:=.seq its'.toArray n' }) (r:Vals ys its') (hz:ys.length<=sizeLine) (t:Nat) :
  Inv X pins σ (upd H p (.lst ys)) { s with heap:=s.heap.update p f,toks:=t }:=by
 have e:(s.heap.update p f).get? p=some { cls:=.type "list",data:=.seq its'.toArray n' }:=by
  rw[Vn f ho (by rw[hf]<;>rfl),hf]
 refine I.write (x:=p) (e:=p) (by rw[h];trivial) (.inl rfl) (λb u hb q=>(V0 _ _ (U6 hb)).trans q) ⟨_,e⟩ ?_;exact⟨hz,its',n',r,e⟩
def YO:V->V->V->Hp->(Hp->Prop)->Prop:=λo i v H Q=>∃p xs k j,o = .ref p/\i = .int k/\H p=some (.lst xs)/\ixN xs.length k=some j/\Q (upd H p (.lst (xs.set j v)))
def gJ:Yt X YO:=by
 intro pins s σ H o i v ov iv u Q I ro ri rv h;obtain⟨p,xs,k,j,rfl,rfl,hp,hj,q⟩:=h;cases ro;obtain⟨t,rfl⟩:=ri;obtain⟨Af,n,r,ho,hz⟩:=I.lst hp;obtain⟨h1,h2,h3,h4⟩:=jt hj;have hl:=r.length;have hn:=ut;have I':Inv X pins σ (upd H p (.lst (xs.set j v))) { s with heap:=s.heap.update p (Obj.mapSeq (·.setIfInBounds j u)) } :=
  I.lstUpd hp ho (lq Af n j u) (r.set rv j) (by rw[List.length_set];exact hz) s.toks
 by_cases h0:0<=k
 ·have hk:k.toNat=j:=by
   rw[seqIndex_of h0 h4]at h1;exact V3 h1
  exact W.ki_setAt ho h0 (by lia) (by rw[VO,<-hl];exact h4) (by rw[hk];exact⟨_,I',q⟩)
 ·have hk:(k+(Af.toArray.size:Int)).toNat=j:=by
   rw[seqIndex_neg (by lia) h3]at h1;rw[VO,<-hl];exact V3 h1
  exact W.ki_setBack ho (by lia) (by rw[VO,<-hl];exact h3) (by lia) (by rw[hk];exact⟨_,I',q⟩)
def qJ(lo hi:Option Int)(n:Nat):(sliceBounds lo hi none n).1=((HT.sIx n 0 lo:Nat):Int)/\(sliceBounds lo hi none n).2.1=((HT.sIx n n hi:Nat):Int)/\(sliceBounds lo hi none n).2.2=1:=by
 refine⟨?_,?_,rfl⟩
 ·cases lo with
  |none=>simp[sliceBounds,HT.sIx]
  |some i =>
   simp only[sliceBounds,HT.sIx,Option.getD_none,show(1:Int)>0 by decide,if_true]
   by_cases h:i<0
   ·simp only[h,if_true]<;>lia
   ·simp only[h,if_false]<;>lia
 ·cases hi with
  |none=>simp[sliceBounds,HT.sIx]
  |some i =>
   simp only[sliceBounds,HT.sIx,Option.getD_none,show(1:Int)>0 by decide,if_true]
   by_cases h:i<0
   ·simp only[h,if_true]<;>lia
   ·simp only[h,if_false]<;>lia
def sF(Af:GE)(lo hi:Option Int):slicePick Af.toArray lo hi none=((Af.drop (HT.sIx Af.length 0 lo)).take (HT.sIx Af.length Af.length hi-HT.sIx Af.length 0 lo)).toArray:=by
 obtain⟨h1,h2,h3⟩:=qJ lo hi Af.toArray.size;unfold slicePick;rw[h1,h2,h3];simp only[sliceRange_one,pick_run,VO]<;>rfl
def Wm(K:Nl):V->Option Int->Option Int->Hp->VK->Prop:=λx lo hi H Q=>∃a xs,x = .ref a/\SqL K H a xs/\∀p,H p=none->Q (.ref p) (upd H p (.lst (xA xs lo hi)))
def c0:SlR X (Wm X.K):=by
 intro pins s σ H x v vl vu lo hi sl Q I rx hs pl pu h;obtain⟨a,xs,rfl,hx,q⟩:=h;cases rx;obtain⟨Af,r,ht,hz⟩:=I.list hx;have Ar:=r.length;refine⟨"list",_,slot_list_getitem.lookup,ht.isList.typeIs,?_⟩;refine wpAny_getItem_list_slice ht.isList hs pl pu .none (by simp) ?_ (by rw[VO]<;>lia);rw[sF,<-Ar];refine⟨.ref s.heap.objs.size,_,I.laid (t':=s.toks) (o:=.lst (xA xs lo hi)) (λb ob q=>WB _ q) (VW _) ?_,rfl,q _ (I.hok.fresh (VW _))⟩;exact⟨Vz (uV xs lo hi) hz,_,0,(r.drop (HT.sIx xs.length 0 lo)).take (HT.sIx xs.length xs.length hi-HT.sIx xs.length 0 lo),VS _ rfl⟩
def xI:V->Bool
 | .non=>true
 | .bl _=>true
 | .int _=>true
 | .str _=>true
 |_=>false
def eqV:V->V->Bool
 | .non,.non=>true
 | .bl a,.bl b=>a==b
 | .bl a,.int b=>(if a then 1 else 0)==b
 | .int a,.bl b=>a==(if b then 1 else 0)
 | .int a,.int b=>a==b
 | .str a,.str b=>a==b
 |_,_=>false
def Y5{A:Around}(ry:RelV y u)(rx:RelV x v)(fy:xI y=true)(fx:xI x=true):SeqAt.EqAt A s u v (eqV y x):=by
 cases y with
 |non =>
  cases ry;cases x with
  |non=>cases rx;exact SeqAt.EqAt.same _
  |bl b=>cases rx;exact SeqAt.EqAt.none_bool b
  |int b=>obtain⟨t,rfl⟩:=rx;exact SeqAt.EqAt.none_int b t
  |str b=>obtain⟨t,rfl⟩:=rx;exact SeqAt.EqAt.none_str b t
  |_=>exact absurd (show false=true from fx) VG
 |bl a =>
  cases ry;cases x with
  |non=>cases rx;exact SeqAt.EqAt.bool_none a
  |bl b=>cases rx;exact Tf a b
  |int b=>obtain⟨t,rfl⟩:=rx;exact SeqAt.EqAt.bool_int a b t
  |str b=>obtain⟨t,rfl⟩:=rx;exact SeqAt.EqAt.bool_str a b t
  |_=>exact absurd (show false=true from fx) VG
 |int a =>
  obtain⟨t',rfl⟩:=ry;cases x with
  |non=>cases rx;exact SeqAt.EqAt.int_none a t'
  |bl b=>cases rx;exact SeqAt.EqAt.int_bool a t' b
  |int b=>obtain⟨t,rfl⟩:=rx;exact SeqAt.EqAt.int_int a t' b t
  |str b=>obtain⟨t,rfl⟩:=rx;exact SeqAt.EqAt.int_str a t' b t
  |_=>exact absurd (show false=true from fx) VG
 |str a =>
  obtain⟨t',rfl⟩:=ry;cases x with
  |non=>cases rx;exact SeqAt.EqAt.str_none a t'
  |bl b=>cases rx;exact SeqAt.EqAt.str_bool a t' b
  |int b=>obtain⟨t,rfl⟩:=rx;exact SeqAt.EqAt.str_int a t' b t
  |str b=>obtain⟨t,rfl⟩:=rx;exact SeqAt.EqAt.str_str a t' b t
  |_=>exact absurd (show false=true from fx) VG
 |_=>exact absurd (show false=true from fy) VG
def eqU(x:V)(u:Value):Bool:=match u with
 | .none=>eqV .non x
 | .bool b=>eqV (.bl b) x
 | .int i _=>eqV (.int i) x
 | .str z _=>eqV (.str z) x
 |_=>false
def df(r:RelV y u)(f:xI y=true):eqU x u=eqV y x:=by
 cases y with
 |non=>cases r;rfl
 |bl b=>cases r;rfl
 |int i=>obtain⟨t,rfl⟩:=r;rfl
 |str z=>obtain⟨t,rfl⟩:=r;rfl
 |_=>exact absurd (show false=true from f) VG
theorem pI{x:V}:∀{xs:List V}{us:List Value},Vals xs us->xs.all xI=true->us.any (eqU x)=xs.any λy=>eqV y x
 |_,_,.nil,_=>rfl
 |y::xs,u::us,.cons r t,f=>by
  rw[List.all_cons,Vy]at f;rw[SU,SU,df r f.1,pI t f.2]
theorem sy{A:Around}{s:Shared}{x:V}{v:Value}(rx:RelV x v)(fx:xI x=true):∀{xs:List V}{us:List Value},Vals xs us->xs.all xI=true->∀u∈us,SeqAt.EqAt A s u v (eqU x u)
 |_,_,.nil,_=>λu hu=>by cases hu
 |y::xs,u::us,.cons r t,f=>λu' hu=>by
  rw[List.all_cons,Vy]at f;rcases VI.mp hu with rfl|hu
  ·rw[df r f.1];exact Y5 r rx f.1 fx
  ·exact sy rx fx t f.2 u' hu
def inV(x:V)(xs:N1):Bool:=xs.any λy=>eqV y x
def rIn(K:Nl)(neg:Bool):R2:=λx y H Q=>∃p xs,y = .ref p/\(SqL K H p xs\/SqT K H p xs)/\xI x=true/\xs.all xI=true/\Q (.bl (if neg then !inV x xs else inV x xs)) H
def jC:OpR X (compareOp .In) (rIn X.K false):=by
 intro pins s σ H x y v u Q I rx ry h;obtain⟨p,xs,rfl,hq,fx,fs,q⟩:=h;cases ry;rcases hq with hq|hq
 ·obtain⟨Af,r,pl,hz⟩:=I.list hq;refine SeqAt.in_listAt (eqU x) pl.isList (λw hw=>sy rx fx r fs w (by simpa using hw)) ⟨.bl _,H,I,rfl,?_⟩;rw[show Af.toArray.any (eqU x)=Af.any (eqU x)by simp,pI r fs];exact q
 ·obtain⟨Af,r,pl,hz⟩:=I.tuple hq;refine SeqAt.in_tupleAt (eqU x) pl (λw hw=>sy rx fx r fs w (by simpa using hw)) ⟨.bl _,H,I,rfl,?_⟩;rw[show Af.toArray.any (eqU x)=Af.any (eqU x)by simp,pI r fs];exact q
def pK:xo X (.builtin "len") (λxs H Q=>∃p ys,xs=[.ref p]/\(SqL X.K H p ys\/SqT X.K H p ys)/\Q (.int ys.length) H):=by
 intro pins s σ H xs us Q I r h;obtain⟨p,ys,rfl,hq,q⟩:=h;obtain⟨u,rfl,rx⟩:=xM r;cases rx;have hn:=ut;rcases hq with hq|hq
 ·obtain⟨Af,r',pl,hz⟩:=I.list hq;have Ar:=r'.length;exact Calls.call_len_list pl.isList (by simp only[VO]<;>lia) ⟨.int ys.length,H,I.tok _,⟨s.toks+1,by rw[VO,Ar]⟩,q⟩
 ·obtain⟨Af,r',pl,hz⟩:=I.tuple hq;have Ar:=r'.length;exact len_tuple pl (by simp only[VO]<;>lia) ⟨.int ys.length,H,I.tok _,⟨s.toks+1,by rw[VO,Ar]⟩,q⟩
def pL:xo X (.builtin "len") (λxs H Q=>∃z,xs=[.str z]/\z.length<=sizeLine/\Q (.int z.length) H):=by
 intro pins s σ H xs us Q I r h;obtain⟨z,rfl,hz,q⟩:=h;obtain⟨u,rfl,t,rfl⟩:=xM r;have hn:=ut;exact len_str (by lia) ⟨.int z.length,H,I.tok _,⟨_,rfl⟩,q⟩
def vp:xo X (.type "tuple") (λxs H Q=>∃p ys,xs=[.ref p]/\((SqL X.K H p ys/\∀l,H l=none->Q (.ref l) (upd H l (.tup ys)))\/(SqT X.K H p ys/\Q (.ref p) H))):=by
 intro pins s σ H xs us Q I r h;obtain⟨p,ys,rfl,h⟩:=h;obtain⟨u,rfl,rx⟩:=xM r;cases rx;rcases h with⟨hq,q⟩|⟨hq,q⟩
 ·obtain⟨Af,r',pl,hz⟩:=I.list hq;have Ar:=r'.length;refine call_tuple_list pl.isList (λh' kp=>?_) (by simp only[VO]<;>lia);have I1:Inv X pins σ H { s with heap:=h' }:=I.kept (t':=s.toks) kp;have I2:Inv X pins σ (upd H h'.objs.size (.tup ys)) { s with heap:=h'.push { cls:=.type "tuple",data:=.seq Af.toArray } } :=
   I1.laid (t':=s.toks) (λb o e=>WB _ e) (VW _) (show ObjOk X.prog X.w _ _ _ (.tup ys)from⟨hz,Af,r',IsTup.new _ _⟩)
  exact⟨.ref h'.objs.size,_,I2,rfl,q _ (I1.hok.fresh (VW _))⟩
 ·obtain⟨Af,r',pl,hz⟩:=I.tuple hq;exact call_tuple_same pl ⟨.ref p,H,I,rfl,q⟩
def tyV(K:W.Frag)(T:String)(x:V)(H:Hp):Prop:=match x with
 | .str _=>T="str"
 | .int _=>T="int"
 | .ref p=>(T="list"/\∃xs,SqL K H p xs)\/(T="tuple"/\∃o,K.lookup p=some o/\o.cls = .type "tuple"/\o.dict=none) \/
   (T="dict"/\((∃kvs,H p=some (.dK kvs))\/∃kvs,H p=some (.dT kvs)))\/(T="set"/\∃S n,H p=some (.set S n))
 |_=>False
theorem aP{σ:St}{T:String}(I:Inv X pins σ H s)(r:RelV x v)(ty:tyV X.K T x H):
  s.TypeIs v T/\∀a,v = .ref a->∃ob,s.heap.get? a=some ob/\ob.dict=none:=by
 cases x with
 |str z =>
  obtain⟨t,rfl⟩:=r;cases(show T="str" from ty);exact⟨Tr s z t,λ_ e=>nomatch e⟩
 |int i =>
  obtain⟨t,rfl⟩:=r;cases(show T="int" from ty);exact⟨typeIs_int s i t,λ_ e=>nomatch e⟩
 |ref p =>
  cases r;rcases ty with⟨rfl,xs,hq⟩|⟨rfl,o,hk,hc,hd⟩|⟨rfl,hk⟩|⟨rfl,S,n,hk⟩
  ·obtain⟨Af,_,pl,_⟩:=I.list hq;refine⟨pl.isList.typeIs,λa e=>?_⟩;cases e;obtain⟨o,n,e,c,hd,_⟩:=pl;exact⟨o,e,hd⟩
  ·refine⟨⟨o,I.kIn p o hk,hc⟩,λa e=>?_⟩;cases e;exact⟨o,I.kIn _ o hk,hd⟩
  ·have z:∃o,s.heap.get? p=some o/\o.ExactDict:=by
    rcases hk with⟨kvs,hk⟩|⟨kvs,hk⟩
    ·obtain⟨_,_,_,_,o,_,_,e,ex,_⟩:=I.hok p _ hk;exact⟨o,e,ex⟩
    ·obtain⟨_,_,_,_,o,_,_,e,ex,_⟩:=I.hok p _ hk;exact⟨o,e,ex⟩
   obtain⟨o,e,ex⟩:=z;refine⟨⟨o,e,ex.1⟩,λa e2=>?_⟩;cases e2;exact⟨o,e,ex.2.1⟩
  ·obtain⟨o,_,_,_,e,ex,_⟩:=I.hok p _ hk;refine⟨⟨o,e,ex.1⟩,λa e2=>?_⟩;cases e2;exact⟨o,e,ex.2.1⟩
 |_=>exact False.elim ty
variable {o e:Nv}{es:Nd}{to:TE}{t:TA}{name:Str}{apos cpos:Pos}{T id:String}{r:V->List V->Hp->VK->Prop}
end
end L2
namespace L2
open PySem PySem.Spec PyProof.Rows
variable{Af its':GE}{n t':Nat}
def MtM(X:Cx)(id:String)(r:V->List V->Hp->VK->Prop):Prop :=
 ∀(pins:KB)(s:Np)(σ:St)(H:Hp)(x:V)(xs:N1)(v:Nq)(us:GE)(Q:VK),Inv X pins σ H s->RelV x v->Vals xs us->r x xs H Q ->
  wpAny (model X.prog X.w) X.A (call (.builtin id) (v::us)) (EP X pins σ Q) X.xe s
theorem Vals.one:∀{x:V}{us:List Value},Vals [x] us->∃u,us=[u]/\RelV x u
 |_,_,.cons r .nil=>⟨_,rfl,r⟩
theorem Vals.rep{xs:List V}{us:List Value}(h:Vals xs us):∀k:Nat,Vals (List.replicate k xs).flatten (List.replicate k us).flatten
 |0=>.nil
 |k+1=>by
  rw[U7,U7,Um,Um];exact Vals.append h (Vals.rep h k)
theorem qi(Af:List Value):∀(k:Nat)(Aw:List Value),
  List.foldl (λx1 x2=>x1++x2) Aw.toArray (List.replicate k Af.toArray)=(Aw++(List.replicate k Af).flatten).toArray
 |0,Aw=>by simp
 |k+1,Aw=>by
  have e:Aw.toArray++Af.toArray=(Aw++Af).toArray:=by simp
  have e2:(Aw++Af)++(List.replicate k Af).flatten=Aw++(List.replicate (k+1) Af).flatten:=by
   rw[U7,Um,Vm]
  rw[<-e2,<-qi Af k (Aw++Af),<-e,U7,List.foldl_cons]
section
variable {X:Cx}{pins:KB}{σ:St}{H:Hp}{s:Np}{l b:Addr}{xs ys zs:N1}
def Inv.lset{f:Array Value->Array Value}(I:Inv X pins σ H s)(hH:H l=some (.lst xs))
  (e:s.heap.get? l=some { cls:=.type "list",data:=.seq Af.toArray n }) (hf:f Af.toArray=its'.toArray) (hv:Vals ys its') (hz:ys.length<=sizeLine) :
  Inv X pins σ (upd H l (.lst ys)) { s with heap:=s.heap.update l (Obj.mapSeq f),toks:=t' }:=by
 have q:=PySem.IsL.update e f;rw[hf]at q;refine I.write (x:=l) (e:=l) (by rw[hH];exact trivial) (.inl rfl) (λb' u hb hu=>(V0 s.heap (Obj.mapSeq f) (U6 hb)).trans hu) ⟨_,q⟩ ?_;exact⟨hz,its',_,hv,q⟩
def Inv.lnew(I:Inv X pins σ H s)(hv:Vals ys Af)(hz:ys.length<=sizeLine):
  Inv X pins σ (upd H s.heap.objs.size (.lst ys)) { s with heap:=s.heap.push { cls:=.type "list",data:=.seq Af.toArray },toks:=t' } :=
 I.laid (λ_ _ q=>WB _ q) (VW _) ⟨hz,Af,0,hv,VS _ rfl⟩
theorem Inv.fresh(I:Inv X pins σ H s):H s.heap.objs.size=none:=I.hok.fresh (VW _)
def Inv.lstM(I:Inv X pins σ H s)(hH:H l=some (.lst xs)):xs.length<=sizeLine/\∃(Af:GE)(n:Nat),Vals xs Af/\xs.length=Af.length/\s.heap.get? l=some { cls:=.type "list",data:=.seq Af.toArray n }:=by
 obtain⟨z,Af,n,r,e⟩:=I.hok l _ hH;exact⟨z,Af,n,r,r.length,e⟩
def tD(h:n<=sizeLine):Builtin.List.listTooLong n=false:=by
 unfold Builtin.List.listTooLong;exact VH (by lia)
end
section
variable {X:Cx}
def cV:V->List V->Hp->VK->Prop:=λx vs H Q=>∃l xs y,x = .ref l/\vs=[y]/\H l=some (.lst xs)/\xs.length<sizeLine/\Q .non (upd H l (.lst (xs++[y])))
def wD:MtM X "list.append" cV:=by
 intro pins s σ H x vs v us Q I rx rv h;obtain⟨l,xs,y,rfl,rfl,hH,hz,q⟩:=h;cases rx;obtain⟨u,rfl,ru⟩:=rv.one;obtain⟨z,Af,n,r,hl,e⟩:=I.lstM hH;refine Te F.slot_list_append ⟨_,e,rfl⟩ F.entry_list_append (F.args_list_append_2 _ _) (PySem.list_append l Af.toArray n u (by rw[VO];lia)) ⟨e,?_⟩;refine⟨.non,_,I.lset (its':=Af++[u]) hH e (by simp) (r.append (.cons ru .nil)) ?_,rfl,q⟩;rw[VU,UF];lia
def cW:V->List V->Hp->VK->Prop:=λx vs H Q=>∃l b xs zs,x = .ref l/\vs=[.ref b]/\H l=some (.lst xs)/\H b=some (.lst zs)/\xs.length+zs.length<=sizeLine/\Q .non (upd H l (.lst (xs++zs)))
def iu:MtM X "list.extend" cW:=by
 intro pins s σ H x vs v us Q I rx rv h;obtain⟨l,b,xs,zs,rfl,rfl,hH,hB,hz,q⟩:=h;cases rx;obtain⟨u,rfl,ru⟩:=rv.one;cases ru;obtain⟨z,Af,n,r,hl,e⟩:=I.lstM hH;obtain⟨z2,CO,n2,r2,F6,e2⟩:=I.lstM hB;have hsz:Af.toArray.size+CO.toArray.size<=sizeLine:=by rw[VO,VO];lia
 have HQ:¬(!Af.toArray.isEmpty&&Builtin.List.listTooLong (Af.toArray.size+CO.toArray.size))=true:=by
  rw[tD hsz,S8];exact VG
 refine Te F.slot_list_extend ⟨_,e,rfl⟩ F.entry_list_extend (F.args_list_extend_2 _ _)
  (AutoSeq1.list_extend_list_list_0 l Af.toArray n b CO.toArray n2 HQ (by rw[VO];lia) (by lia)) ⟨e,e2,?_⟩
 refine⟨.non,_,I.lset (its':=Af++CO) hH e (by simp) (r.append r2) ?_,rfl,q⟩;rw[VU];lia
def Wk:R2:=λx y H Q=>∃l b xs zs,x = .ref l/\y = .ref b/\H l=some (.lst xs)/\H b=some (.lst zs)/\xs.length+zs.length<=sizeLine/\∀p,H p=none->Q (.ref p) (upd H p (.lst (xs++zs)))
def Zh:OpR X (binaryOp .Add) Wk:=by
 intro pins s σ H x y v u Q I rx ry h;obtain⟨l,b,xs,zs,rfl,rfl,hH,hB,hz,q⟩:=h;cases rx;cases ry;obtain⟨z,Af,n,r,hl,e⟩:=I.lstM hH;obtain⟨z2,CO,n2,r2,F6,e2⟩:=I.lstM hB;refine PySem.P.add_list e e2 ?_ (by rw[VO,VO];lia);have ea:Af.toArray++CO.toArray=(Af++CO).toArray:=by simp
 rw[ea];exact⟨.ref _,_,I.lnew (t':=s.toks) (r.append r2) (by rw[VU];lia),rfl,q _ I.fresh⟩
def Wl:R2:=λx y H Q=>∃l k xs,x = .ref l/\y = .int k/\H l=some (.lst xs)/\-(2 ^ 63)<=k/\k<2 ^ 63/\xs.length*k.toNat<=sizeLine /\
 ∀p,H p=none->Q (.ref p) (upd H p (.lst (List.replicate k.toNat xs).flatten))
def bd{α:Type}(xs:List α)(k:Nat):(List.replicate k xs).flatten.length=k*xs.length:=by
 induction k with
 |zero=>simp
 |succ k ih=>rw[U7,Um,VU,ih,Nat.succ_mul,Nat.add_comm]
def fW:OpR X (binaryOp .Mult) Wl:=by
 intro pins s σ H x y v u Q I rx ry h;obtain⟨l,k,xs,rfl,rfl,hH,h1,h2,hz,q⟩:=h;cases rx;obtain⟨t,rfl⟩:=ry;obtain⟨z,Af,n,r,hl,e⟩:=I.lstM hH;have Ar:Af.toArray.size*k.toNat<=sizeLine:=by rw[VO,<-hl];exact hz
 have hcap:¬Af.toArray.size*k.toNat>(2 ^ 63-1) / 8:=by
  have:(sizeLine:Nat)<=(2 ^ 63-1) / 8:=by decide
  lia
 have hfit:¬(!Builtin.List.listFitsIndex k)=true:=by
  rw[fitsIndex_both h1 h2];exact VG
 have HQ:¬Builtin.List.listTooLong (Af.toArray.size*k.toNat)=true:=by
  rw[tD Ar];exact VG
 have hnew:List.foldl (λx1 x2=>x1++x2) #[] (List.replicate (if Af.toArray.isEmpty=true then 0 else k.toNat) Af.toArray)=(List.replicate k.toNat Af).flatten.toArray:=by
  have f0:∀m:Nat,List.foldl (λx1 x2=>x1++x2) #[] (List.replicate m Af.toArray)=(List.replicate m Af).flatten.toArray:=λm=>by
   have:=qi Af m [];rw[Tq]at this;exact this
  rw[f0];cases Af with
  |nil=>simp
  |cons a r'=>rw[VF (by simp)]
 refine wpAny_binaryOp_repeat_ref (T:="list") (U:="int") (by decide) ⟨_,e,rfl⟩ (λs'=>typeIs_int s' k t) noFill_list_mul F.fills_int_mul F.slot_int_rmul repeat_list F.slot_int_index.lookup
  (Te F.slot_int_rmul (typeIs_int s k t) F.entry_int_rmul (F.args_int_rmul_2 _ _) (int___rmul___int_list k t l Af.toArray n)
   ⟨e,rfl,⟨_,e,rfl⟩,Te F.slot_list_mul ⟨_,e,rfl⟩ F.entry_list_mul (F.args_list_mul_2 _ _) (AutoListH.list___mul___list_int_3 l Af.toArray n k t hfit hcap HQ) ⟨e,?_⟩⟩)
 rw[hnew];exact⟨.ref _,_,I.lnew (t':=s.toks) (r.rep k.toNat) (by rw[bd,Nat.mul_comm];exact hz),rfl,q _ I.fresh⟩
end
section
variable {prog:Nn}{w:No}{A:Nr}{E:Da}{s:Np}
end
section
variable {X:Cx}
end
end L2
namespace Att
open PySem PySem.W PySem.Calls PyProof.Rows
variable{P:Params}{h:Nw}{l:OpenLaw}{n:Nat}
def uS:∀(ns:List Int)(vs:List Value),WellAll P h vs (ns.map WData.int)->IntsAre vs ns:=by
 intro ns
 induction ns with
 |nil =>
  intro vs w;rw[List.map_nil]at w;cases w;exact .nil
 |cons n ns ih =>
  intro vs w;rw[List.map_cons]at w;cases w with
  |cons a b =>
   cases a;exact .cons _ _ (ih _ b)
theorem jM(hn:l.most=some n){args:List WData}{JQ:List Value}
  (E7:l.row.toRowW.claim.pre args=true) (Jx:WellAll P h JQ args) :
  ∃a vs ns,JQ=[Value.ref a]/\args=[WData.list (ns.map WData.int)]/\h.get? a=some { cls:=.type "list",data:=.seq vs.toArray }/\IntsAre vs ns/\ns.length<=n:=by
 have hsh:WShape.hasAll [] args [.list .int]=true:=(pre_splitW E7).1;have hc:l.pre.holds [] { args:=args }=true:=(pre_splitW E7).2;obtain⟨d,r,rfl,h1,h2⟩:=hasAllW_cons hsh;obtain rfl:=hasAllW_nil h2;obtain⟨xs,rfl,h3⟩:=hasW_list h1;obtain⟨ns,rfl⟩:=items_int h3;have Ar:ns.length<=n:=by
  unfold OpenLaw.pre at hc;have h4:(WTm.not (.lt (.lit (.int (n:Int))) (.len (.arg 0)))).holds [] { args:=[.list (ns.map .int)] }=true:=by
   have h4:=(holds_andW hc).1;rw[hn]at h4;exact h4
  have h5:=condW_of h4 (w_not (w_lt w_lit (w_len_list (w_arg rfl))));rw[WA]at h5;refine Nat.le_of_not_lt λq=>?_;have q':(n:Int)<((ns.length:Nat):Int):=by lia
  first
   |(rw[VT q']at h5;exact absurd h5 (by decide))
   |(simp at h5;lia)
 cases Jx with
 |cons w1 w2 =>
  cases w2;cases w1 with
  |list ho A0=>exact⟨_,_,ns,rfl,rfl,ho,uS ns _ A0,Ar⟩
def jH(l:OpenLaw)(args:List WData):l.row.toRowW.claim.post args (.bool true) args=true :=
 postW_of (r:=l.row.toRowW) (X:=(true==true))
  (show WShape.has [] (.bool true) .bool=true by first|rfl|decide|simp[WShape.has,WShape.arms,WShape.armsAll])
  (show(WTm.eq .res (.lit (.bool true))).value [] { args:=args,res:=some (.bool true),after:=args }=some (.bool (true==true))from w_eq_bool (w_res rfl) w_lit) rfl
def attach_call{q:Nn}{Et:GM}{XP:(Str->Option Value)->Heap->Prop}{YP:World->Heap->Prop}{d:DefRec}
  (hn:l.most=some n) (Mt:d.params.defaults=[])
  (call:∀(w:No)(s₀ X':Np)(mg mb:FB)(fa:Addr)(o:Obj)(pm cd doc:Nq)(a:Addr)(vs:GE)(ns:Nj),
   Ground q Et [] XP w s₀ mg mb X'.heap->YP w X'.heap ->
   X'.heap.get? fa=some o->o.data = .func (docDef d.name d.params d.body d.scope pm cd doc)->X'.heap.CodeRec cd d.name->mg d.name=some (.ref fa) ->
   X'.heap.get? a=some { cls:=.type "list",data:=.seq vs.toArray }->IntsAre vs ns->ns.length<=n->X'.gens=#[] ->
   codeAny (model l.prog w) callerA (.call (.ref fa) ⟨[.ref a],[]⟩) (λr s'=>r = .ok (.ret (.bool true))/\OldK X'.heap s'.heap/\s'.os=X'.os/\AllBare s'.gens) X') :
  WalkO q Et XP YP l.row.toRowW d [] (λf vs=>PySem.call f vs):=by
 intro w s₀ X' mg mb G Y fa o pm cd doc dV kV ho hd Ev hD Mi hg args JQ as E7 GD Mc Jx E9;obtain rfl:dV = .none:=Dflts.none hD Mt;obtain rfl:kV = .none:=Dflts.noKw hD;obtain⟨a,vs,ns,rfl,rfl,Kl,HY,Ar⟩:=jM hn E7 Jx;refine enter_call (T9 (call w s₀ X' mg mb fa o pm cd doc a vs ns G Y ho (fd_plain hd) Ev Mi Kl HY Ar hg) λr s' hq=>?_);obtain⟨rfl,h2,h3,h4⟩:=hq;exact⟨.inl ⟨.bool true,.bool true,[],rfl,λ_=>rfl,.bool true,jH l _,λ_=>⟨List.Pairwise.nil,λ_ hm=>(nomatch hm)⟩⟩,h2,h3,h4⟩
section
variable {prog:Nn}{w:No}{A:Nr}{E:Da}{s:Np}{K:Nl}
def WU(h:Nw)(L d:Addr):List (Addr×Obj):=(List.range h.objs.size).filterMap λa=>if a=L\/a=d then none else(h.get? a).map λo=>(a,o)
end
end Att
namespace L2
open PySem PySem.Spec PyProof.Rows
theorem rq:∀{vs:List Value}{ns:List Int},IntsAre vs ns->Vals (ns.map V.int) vs
 |_,_,.nil=>.nil
 |_,_,.cons n t h=>.cons ⟨t,rfl⟩ (rq h)
def Yr(H:Hp):Prop:=∀b,H b=none\/∃o xs,H b=some (.frz o (.lst xs))
theorem d5{P:Program}{w:World}{K:W.Frag}{mg mb:Str->Option Value}{CX:CXT}{k:Nat}{fa a:Addr}{fd:FuncData}{x:Str}{sp:Sp}{X':Shared}{vs:List Value}{ns:List Int}
  (KX:K.In X'.heap) (C9:X'.heap.Ns mainGlobals mg) (hb:X'.heap.Ns builtinsNs mb) (hbb:∀x:Str,x≠"__name__"->mb x=bootBuiltins x) (hlim:X'.heap.NoLimit) (hg:X'.gens=#[])
  (ha:X'.heap.get? a=some { cls:=.type "list",data:=.seq vs.toArray }) (hi:IntsAre vs ns) (hl:ns.length<=sizeLine) (hr:Room k callerA)
  (F:∀base:Heap,K.In base->base.Ns mainGlobals mg->FnOk P w K mg base CX k fa fd [x] sp) (Mw:∀(s:Shared)(u:Value),BindsTo s fd ⟨[u],[]⟩ [(x,u)])
  (Hc:∀H:Hp,Yr H->SqL K H a (ns.map V.int)->sp [.ref a] H (λv _=>v = .bl true) λ_ _ _=>False)
  (hCX:∀H e s',CX [] H X' (λ_ _ _=>False) e s'->False) :
  codeAny (model P w) callerA (.call (.ref fa) ⟨[.ref a],[]⟩) (λr s'=>r = .ok (.ret (.bool true))/\OldK X'.heap s'.heap/\s'.os=X'.os/\AllBare s'.gens) X':=by
 have rv:=rq hi;have lenV:=hi.length;have MI:∀H:Hp,Yr H->SqL K H a (ns.map V.int)->HOk P w H X'.heap->(∀b,H b≠none->b=a)->(H a≠none->K.lookup a=none) ->
   codeAny (model P w) callerA (.call (.ref fa) ⟨[.ref a],[]⟩) (λr s'=>r = .ok (.ret (.bool true))/\OldK X'.heap s'.heap/\s'.os=X'.os/\AllBare s'.gens) X':=by
  intro H hO hS hok hA hK;have Gw:∀{b:Addr}{o:Obj},X'.heap.get? b=some o->H b=none->(pV X'.heap H).get? b=some o:=λe n=>dk e n;have LM:∀{b:Addr}{o:Obj}{es:Array DictEntry}{ep:Nat},X'.heap.get? b=some o->o.data = .dict es ep->H b=none:=λ{b o es ep} e d=>by
   cases q:H b with
   |none=>rfl
   |some u =>
    have e':b=a:=hA b (by rw[q];simp);subst e';rw[ha]at e;cases e;have d':Data.seq vs.toArray _=Data.dict es ep:=d;cases d'
  have nsK:∀{b:Addr}{m:Str->Option Value},X'.heap.Ns b m->(pV X'.heap H).Ns b m:=λ{b m} ⟨o,es,ep,e,d,r⟩=>⟨o,es,ep,Gw e (LM e d),d,r⟩
  have hKb:K.In (pV X'.heap H):=λb o e=>Gw (KX b o e) (by
   cases q:H b with
   |none=>rfl
   |some u =>
    have e':b=a:=hA b (by rw[q];simp);subst e';rw[hK (by rw[q];simp)]at e;cases e)
  have hM:Mod K mg (pV X'.heap H):=⟨hKb,nsK C9,⟨mb,nsK hb,hbb⟩,let⟨mc,h1,h2⟩:=hlim;⟨mc,nsK h1,h2⟩⟩
  have e0:Env0 P w K mg (pV X'.heap H) callerA [] X' H:=⟨rfl,hM,λb o e=>bx e,Ud (iV _ _),trivial,λb hb=>absurd (show b∈([]:List Addr)from hb) (by simp),hok,.of_eq hg⟩
  refine T9 ((F _ hKb (nsK C9)).run callerA [] X' H ⟨[.ref a],[]⟩ [.ref a] [.ref a] _ _ hr e0 (Mw X' (.ref a)) (.cons rfl .nil) (Hc H hO hS)) λr s' h=>?_;cases r with
  |error e=>exact(hCX H e s' h).elim
  |ok fl =>
   cases fl with
   |next=>exact False.elim h
   |brk=>exact False.elim h
   |cont=>exact False.elim h
   |ret u =>
    obtain⟨v,H',os,bare,un,hok',r',q⟩:=h;have q':v = .bl true:=q;subst q';obtain rfl:u=Value.bool true:=r';refine⟨rfl,OldK.of_keep λb o e=>?_,os,bare⟩;cases q:H b with
    |none=>exact un.keep b o e q (by intro z;exact absurd (show b∈([]:List Addr)from z) (by simp)) (by simp)
    |some u =>
     rcases hO b with z|⟨ob,xs,z⟩
     ·rw[q]at z;cases z
     ·have z2:=un.frzs b ob _ z;obtain⟨e1,_⟩:=hok b _ z;obtain⟨e2,_⟩:=hok' b _ z2;rw[e]at e1;cases e1;exact e2
 cases hk:K.lookup a with
 |some o =>
  have e:=KX a o hk;rw[ha]at e;cases e;refine MI (λ_=>none) (λ_=>.inl rfl) (.inr ⟨_,vs.toArray,_,hk,rfl,rfl,rfl,by rw[VO,lenV];exact hl,by simpa using rv⟩) (λb u z=>by have z':(none:Option HO)=some u:=z;cases z') (λb z=>absurd rfl z) λz=>absurd rfl z
 |none =>
  refine MI (λb=>if b=a then some (.frz { cls:=.type "list",data:=.seq vs.toArray } (.lst (ns.map V.int)))else none) (λb=>?_) (.inl (.inr ⟨{ cls:=.type "list",data:=.seq vs.toArray },VB rfl⟩)) (λb u z=>?_) (λb z=>?_) λ_=>hk
  ·by_cases hb:b=a
   ·exact .inr ⟨_,_,VB hb⟩
   ·exact .inl (VF hb)
  ·by_cases hb:b=a
   ·have z':=(VB hb).symm.trans z;cases z';subst hb;exact⟨ha,by rw[WA];exact hl,vs,_,rv,ha⟩
   ·have z':=(VF hb).symm.trans z;cases z'
  ·by_cases hb:b=a
   ·exact hb
   ·exact absurd (VF hb) z
end L2
namespace L2
open PySem PySem.Spec PyProof.Rows
def walk_of{l:W.OpenLaw}{n k:Nat}{q:Nn}{Et:GM}{XP:(Str->Option Value)->Heap->Prop}{YP:World->Heap->Prop}{d:DefRec}{K:Params->W.Frag}{CX:World->CXT}{sp:World->Sp}{x:Str}
  (hn:l.most=some n) (IE:n<=sizeLine) (Mt:d.params.defaults=[]) (hr:Room k callerA)
  (hY:∀(w:No)(h:Nw),YP w h->(K w.params).In h)
  (F:∀(w:No)(mg:FB)(fa:Addr)(h:Nw),(K w.params).In h->h.Ns mainGlobals mg->mg d.name=some (.ref fa) ->
   ∃fd:FuncData,(∀(s:Np)(u:Nq),BindsTo s fd ⟨[u],[]⟩ [(x,u)]) /\
    ∀base:Heap,(K w.params).In base->base.Ns mainGlobals mg->FnOk l.prog w (K w.params) mg base (CX w) k fa fd [x] (sp w))
  (Hc:∀(w:No)(H:Hp)(a:Addr)(ns:Nj),ns.length<=n->Yr H->SqL (K w.params) H a (ns.map V.int)->sp w [.ref a] H (λv _=>v = .bl true) λ_ _ _=>False)
  (hCX:∀(w:No)(H:Hp)(s:Np)(e:Nq)(s':Np),CX w [] H s (λ_ _ _=>False) e s'->False) :
  W.WalkO q Et XP YP l.row.toRowW d [] (λf vs=>PySem.call f vs):=by
 refine Att.attach_call hn Mt λw s₀ X' mg mb fa o pm cd doc a vs ns G Y ho hd Ev Mi Kl HY Ar hg=>?_;have KX:=hY w _ Y;obtain⟨fd,hb,hF⟩:=F w mg fa _ KX G.T.g Mi;exact d5 KX G.T.g G.T.b G.T.builtins G.T.nolimit hg Kl HY (Vz Ar IE) hr hF hb (λH hO hS=>Hc w H a ns Ar hO hS) λH e s'=>hCX w H X' e s'
end L2
namespace L2
open PySem PySem.Spec PyProof.Rows
variable{qual x:Str}{st:Nx}{a f:Addr}{k n:Nat}{cdv ct doc kV oc pm:Nq}{H H' H1 H2:Hp}
def y8(s:Stmt):Arguments:=match s with
 | .FunctionDef _ a _ _ _ _ _ _ _ _=>a
 |_=>{ posonlyargs:=[],args:=[],vararg:=none,kwonlyargs:=[],kw_defaults:=[],kwarg:=none,defaults:=[] }
def zN(s:Stmt):List Stmt:=match s with
 | .FunctionDef _ _ b _ _ _ _ _ _ _=>b
 |_=>[]
def zj(s:Stmt):Scope:=match s with
 | .FunctionDef _ _ _ _ _ _ sc _ _ _=>sc
 |_=>{ kind:=.function,names:=[],isGenerator:=false,isCoroutine:=false }
abbrev CX0:CXT:=λ_ _ _ _ _ _=>False
abbrev E0:XK:=λ_ _ _=>False
def fY{X:Cx}:xW CX0 X E0:=λ_ _ _ _ _ _ _ h=>h.elim
structure Fun(K:Nl)(x qual:Str)(st:Nx)(f:Addr)(fd:N0):Prop where
 ex:∃(oc:Nq)(od:HK)(kV doc pm:Nq)(an:HK)(cdv ct:Nq)(osl:Nh),
  fd=W.fnOf x qual (y8 st) (zN st) (zj st) .none kV doc pm an cdv ct/\K.lookup f=some ⟨oc,od,.func fd,osl⟩/\W.codeIn K cdv qual=true
 kp:W.keepIn K (.ref f)=true
section
variable {P:Nn}{w:No}{K:Nl}{mg:FB}{base:Nw}
def Fun.ok{fd:N0}{N ps:GM}{sp:Sp}(F:Fun K x qual st f fd)(S:yl N ps (zj st))(len:∀vs H Q E,sp vs H Q E->vs.length=ps.length)
  (A7:∀(cdv:Nq)(A:Nr)(outer:List Env)(s:Np)(H:Hp)(vs:N1)(Q:VK)(E:XK),Room k (A.deeper (envOfC qual (zj st) s.heap.objs.size f cdv))->sp vs H Q E ->
   ∃t,PSs (xu CX0 P w K mg base N qual (zj st) f cdv A outer s H E).nox (zN st) t/\t { nx:=λ_ H'=>Q .non H',rt:=Q } (start N vs) H):FnOk P w K mg base CX0 (k+1) f fd ps sp:=by
 obtain⟨oc,od,kV,doc,pm,an,cdv,ct,osl,rfl,lk,Ev⟩:=F.ex;refine dg lk Ev S len λA outer s H vs Q E hr Hc=>?_;obtain⟨t,h,q⟩:=A7 cdv A outer s H vs Q E hr Hc;exact⟨t,h.nox,q⟩
def pS{od an:HK}{osl:Nh}(l:K.lookup f=some ⟨oc,od,.func (W.fnOf x qual (y8 st) (zN st) (zj st) .none kV doc pm an cdv ct),osl⟩)
  (c:W.codeIn K cdv qual=true) (k:W.keepIn K (.ref f)=true):Fun K x qual st f (W.fnOf x qual (y8 st) (zN st) (zj st) .none kV doc pm an cdv ct):=⟨⟨oc,od,kV,doc,pm,an,cdv,ct,osl,rfl,l,c⟩,k⟩
end
def xO(h:n<=1000):n<sizeLine:=Nat.lt_of_le_of_lt h (by decide)
section
variable {X:Cx}
end
def yx{c A B:Prop}[Decidable c](h1:c->A)(h2:¬c->B):if c then A else B:=by
 by_cases h:c
 ·rw[VB h];exact h1 h
 ·rw[VF h];exact h2 h
def Same(H H':Hp):Prop:=∀b o,H b=some o->H' b=some o
def Same.refl(H:Hp):Same H H:=λ_ _ h=>h
theorem Same.trans(a:Same H H1)(b:Same H1 H2):Same H H2:=λc o h=>b c o (a c o h)
def Same.seq{K:Nl}{xs:N1}(e:Same H H')(h:SqL K H a xs):SqL K H' a xs:=by
 rcases h with(h|⟨o,h⟩)|h
 ·exact .inl (.inl (e _ _ h))
 ·exact .inl (.inr ⟨o,e _ _ h⟩)
 ·exact .inr h
end L2
namespace L2
open PySem PySem.Spec PyProof.Rows
variable{o:Option V}{d' u:Nq}{d y:V}{P prog:Nn}{w:No}{H H':Hp}{kvs:List (List Key×V)}{xs:List (List Key×Addr×Value)}{h':Nw}{E Q:Da}
section
variable {κ:Type} [DecidableEq κ]
def sI(kvs:List (κ×V))(k:κ):Option V:=(kvs.find? λkv=>decide (kv.1=k)).map (·.2)
def u5(kvs:List (κ×V))(k:κ)(v:V):List (κ×V) :=
 if(kvs.any λkv=>decide (kv.1=k))=true then kvs.map (λkv=>if kv.1=k then(kv.1,v)else kv)else kvs++[(k,v)]
def WE(kvs:List (κ×V))(k:κ):List (κ×V):=kvs.filter λkv=>decide (kv.1≠k)
theorem o9{p:κ×V}{r:List (κ×V)}{k:κ}(e:p.1=k):sI (p::r) k=some p.2:=by simp[sI,Tp,e]
def o8{p:κ×V}{r:List (κ×V)}{k:κ}(e:¬p.1=k):sI (p::r) k=sI r k:=by simp[sI,Tp,e]
theorem o7(k:κ):∀kvs:List (κ×V),(kvs.any λkv=>decide (kv.1=k))=(sI kvs k).isSome
 |[]=>rfl
 |p::r=>by
  rw[SU]
  by_cases e:p.1=k
  ·simp only[o9 e,VT e,Bool.true_or,Option.isSome_some]
  ·rw[o8 e,VH e,Bool.false_or];exact o7 k r
def uY(kvs:List (κ×V))(k:κ)(v:V):(u5 kvs k v).length<=kvs.length+1:=by
 unfold u5;split
 ·rw[WA];lia
 ·rw[VU,VN,Vx];lia
def RelO.isSome_eq{u:Option Value}(r:RelO o u):o.isSome=u.isSome:=by
 cases o with
 |none=>cases u with
  |none=>rfl
  |some _=>exact(show False from r).elim
 |some _=>cases u with
  |none=>exact(show False from r).elim
  |some _=>rfl
theorem RelO.getD{u:Option Value}(r:RelO o u)(rd:RelV d d'):RelV (o.getD d) (u.getD d'):=by
 cases o with
 |none=>cases u with
  |none=>exact rd
  |some _=>exact(show False from r).elim
 |some _=>cases u with
  |none=>exact(show False from r).elim
  |some _=>exact r
theorem KV.any{kvs:List (κ×V)}{vs:List (κ×Value)}(r:KV kvs vs)(k:κ):(kvs.any λkv=>decide (kv.1=k))=vs.any λkv=>decide (kv.1=k):=by
 unfold KV at r
 induction r with
 |nil=>rfl
 |cons h t ih=>rw[SU,SU,ih,h.1]
theorem KV.repl{kvs:List (κ×V)}{vs:List (κ×Value)}(r:KV kvs vs)(k:κ)(ry:RelV y u):
  KV (kvs.map λkv=>if kv.1=k then(kv.1,y)else kv) (vs.map λkv=>if kv.1=k then(kv.1,u)else kv):=by
 unfold KV at r ⊢
 induction r with
 |nil=>exact .nil
 | @cons p q ps qs h t ih =>
  rw[List.map_cons,List.map_cons];refine .cons ?_ ih;obtain⟨h1,h2⟩:=h
  by_cases e:p.1=k
  ·rw[VB e,VB (h1.symm.trans e)];exact⟨h1,ry⟩
  ·rw[VF e,VF (λz=>e (h1.trans z))];exact⟨h1,h2⟩
def KV.put{kvs:List (κ×V)}{vs:List (κ×Value)}(r:KV kvs vs)(k:κ)(ry:RelV y u):KV (u5 kvs k y) (stored vs k u):=by
 unfold u5 stored;rw[r.any k]
 by_cases e:(vs.any λkv=>decide (kv.1=k))=true
 ·rw[VB e,VB e];exact r.repl k ry
 ·rw[VF e,VF e];exact Paired.snoc r ⟨rfl,ry⟩
theorem KV.length{kvs:List (κ×V)}{vs:List (κ×Value)}(r:KV kvs vs):kvs.length=vs.length:=Paired.length r
end
def jz{k:Key}(r:RelV (kV k) u):(ye P w).is k u=true:=by
 cases k with
 |inl i=>obtain⟨t,e⟩:=(show∃t,u=Value.int i t from r);subst e;exact nw P w i t
 |inr x=>obtain⟨t,e⟩:=(show∃t,u=Value.str x t from r);subst e;exact xa P w x t
theorem qr{P:Program}{w:World}:∀{ks:List Key}{us:List Value},Vals (ks.map kV) us->ItemsAre (ye P w) ks us
 |[],_,r=>by rw[List.map_nil]at r;cases r;exact .nil
 |k::ks,_,r=>by
  rw[List.map_cons]at r;cases r with
  |cons h t=>exact .cons (jz h) (qr t)
abbrev KT(H:Hp):List (List Key×V)->List (List Key×Addr×Value)->Prop:=Paired λp q=>p.1=q.1/\H q.2.1=some (.tup (p.1.map kV))/\RelV p.2 q.2.2
def KT.val(r:KT H kvs xs)(k:List Key):RelO (sI kvs k) ((atKey xs k).map (·.2)):=by
 induction r with
 |nil=>exact True.intro
 | @cons p q ps qs h t ih =>
  obtain⟨h1,_,h2⟩:=h
  by_cases e:p.1=k
  ·have e':q.1=k:=h1.symm.trans e;have b:atKey (q::qs) k=some q.2:=by simp[atKey,Tp,e']
   rw[o9 e,b];exact h2
  ·have e':¬q.1=k:=λz=>e (h1.trans z);have b:atKey (q::qs) k=atKey qs k:=by simp[atKey,Tp,e']
   rw[o8 e,b];exact ih
theorem KT.repl(r:KT H kvs xs)(k:List Key)(ry:RelV y u):
  KT H (kvs.map λkv=>if kv.1=k then(kv.1,y)else kv) (xs.map (putAt k u)):=by
 induction r with
 |nil=>exact .nil
 | @cons p q ps qs h t ih =>
  rw[List.map_cons,List.map_cons];refine .cons ?_ ih;obtain⟨h1,h2,h3⟩:=h;unfold putAt
  by_cases e:p.1=k
  ·rw[VB e,VB (h1.symm.trans e)];exact⟨h1,h2,ry⟩
  ·rw[VF e,VF (λz=>e (h1.trans z))];exact⟨h1,h2,h3⟩
def KT.put(r:KT H kvs xs)(k:List Key){b:Addr}(hb:H b=some (.tup (k.map kV)))(ry:RelV y u):
  KT H (u5 kvs k y) (storedH xs k b u):=by
 have e:(kvs.any λkv=>decide (kv.1=k))=(atKey xs k).isSome:=by
  rw[o7,(r.val k).isSome_eq,Option.isSome_map]
 unfold u5 storedH;rw[e]
 by_cases q:(atKey xs k).isSome=true
 ·rw[VB q,VB q];exact r.repl k ry
 ·rw[VF q,VF q];exact Paired.snoc r ⟨rfl,hb,ry⟩
def KT.keeps(r:KT H kvs xs)(ht:∀b ys,H b=some (.tup ys)->H' b=some (.tup ys)):KT H' kvs xs :=
 Paired.mapP r λ_ _ z=>⟨z.1,ht _ _ z.2.1,z.2.2⟩
section
variable {P:Nn}{w:No}{H:Hp}{h:Nw}{a:Addr}
def au{u:HO}(ok:HOk P w H h)(e:Rd H a u):ObjOk P w H h a u:=e.ok ok
def XA{kvs:List (Key×V)}(ok:HOk P w H h)(e:Rd H a (.dK kvs)):kvs.length<=sizeLine/\(a==sysModules)=false/\∃vs,KV kvs vs/\h.DictOf (ye P w) a vs :=
 show ObjOk P w H h a (.dK kvs)from au ok e
def W9{kvs:List (Key×V)}(ok:HOk P w H h)(e:H a=some (.dK kvs)):kvs.length<=sizeLine/\(a==sysModules)=false/\∃vs,KV kvs vs/\h.DictOf (ye P w) a vs:=XA ok (.inl e)
def dw{ks:List Key}(ok:HOk P w H h)(e:H a=some (.tup (ks.map kV))):(tupleKind (ye P w)).is h ks a:=by
 obtain⟨_,Af,r,o,h1,h2,n,h3⟩:=(show ObjOk P w H h a (.tup (ks.map kV))from ok a _ e)
 exact⟨o,Af.toArray,n,h1,h2,h3,by simpa using qr r⟩
theorem XC(ok:HOk P w H h)(e:Rd H a (.dT kvs)):kvs.length<=sizeLine/\(a==sysModules)=false /\
  ∃xs,KT H kvs xs/\h.DictOfH (tupleKind (ye P w)) a xs:=by
 obtain⟨z,y,xs,r,o,es,ep,h1,h2,h3,h4,h5⟩:=(show ObjOk P w H h a (.dT kvs)from au ok e)
 refine⟨z,y,xs,r,o,es,ep,h1,h2,h3,h4,λx hx=>?_,h5⟩;have all:∀{l:List (List Key×V)}{m:List (List Key×Addr×Value)},KT H l m->∀x∈m,(tupleKind (ye P w)).is h x.1 x.2.1:=by
  intro l m q
  induction q with
  |nil=>intro x hx;exact nomatch hx
  | @cons p q ps qs hq t ih =>
   intro x hx;rcases VI.mp hx with e|hx
   ·subst e;exact dw ok (by rw[<-hq.1];exact hq.2.1)
   ·exact ih x hx
 exact all r x hx
def XB(ok:HOk P w H h)(e:H a=some (.dT kvs)):kvs.length<=sizeLine/\(a==sysModules)=false /\
  ∃xs,KT H kvs xs/\h.DictOfH (tupleKind (ye P w)) a xs:=XC ok (.inl e)
end
def DGet(H:Hp)(a:Addr)(y:V)(r:Option V):Prop :=
 (∃kvs k,Rd H a (.dK kvs)/\y=kV k/\r=sI kvs k)\/∃kvs k b,Rd H a (.dT kvs)/\y = .ref b/\H b=some (.tup (k.map kV))/\r=sI kvs k
def DPut(H:Hp)(a:Addr)(y v:V)(H':Hp):Prop :=
 (∃kvs k,H a=some (.dK kvs)/\y=kV k/\kvs.length<sizeLine/\H'=upd H a (.dK (u5 kvs k v))) \/
 ∃kvs k b,H a=some (.dT kvs)/\y = .ref b/\H b=some (.tup (k.map kV))/\kvs.length<sizeLine/\H'=upd H a (.dT (u5 kvs k v))
theorem DGet.k{H:Hp}{a:Addr}{kvs:List (Key×V)}{k:Key}(e:H a=some (.dK kvs)):DGet H a (kV k) (sI kvs k):=.inl ⟨kvs,k,.inl e,rfl,rfl⟩
theorem DPut.k{H:Hp}{a:Addr}{kvs:List (Key×V)}{k:Key}{v:V}(e:H a=some (.dK kvs))(hl:kvs.length<sizeLine):DPut H a (kV k) v (upd H a (.dK (u5 kvs k v))):=.inl ⟨kvs,k,e,rfl,hl,rfl⟩
section
variable {X:Cx}{pins:KB}{σ:St}{H:Hp}{s:Np}{a:Addr}{y v:V}{u r:Nq}{o:Option V}{A:Nr}{E:Da}
def jk{t':Nat}{ob:HO}(I:Inv X pins σ H s)(mu:Mut (H a))(hs:Heap.SameBut a s.heap h')(he:∃q,h'.get? a=some q)(new:ObjOk X.prog X.w (upd H a ob) h' a ob):
  Inv X pins σ (upd H a ob) { s with heap:=h',toks:=t' } :=
 I.write (x:=a) (e:=a) mu (.inl rfl) (λb q hb z=>(hs.2 b hb).trans z) he new
def Y4{kvs:List (Key×V)}{vs:List (Key×Value)}(z:kvs.length<=sizeLine)(hd:(a==sysModules)=false)(rel:KV kvs vs)(dd:h'.DictOf (ye P w) a vs):
  ObjOk P w H' h' a (.dK kvs):=⟨z,hd,vs,rel,dd⟩
def iO{Q:Unit->Shared->Prop}(hu:A.units+1<cLine)(I:Inv X pins σ H s)(g:DPut H a y v H')(ry:RelV y u)(rv:RelV v r)(h:∀s',Inv X pins σ H' s'->Q () s'):
  wpAny (model X.prog X.w) A (setItem (.ref a) u r) Q E s:=by
 rcases g with⟨kvs,k,e,ey,l,eH⟩|⟨kvs,k,b,e,ey,eb,l,eH⟩
 ·subst ey eH;obtain⟨z,hd,vs,rel,dd⟩:=W9 I.hok e;have hz:vs.length<=sizeLine:=by rw[<-rel.length];exact z
  have hl:(u5 kvs k v).length<=sizeLine:=by have:=uY kvs k v;lia
  refine wpAny_setItem_pairs (hsz:=hz) (jz ry) dd λh' dd' hs=>h _ ?_;have he:∃q,h'.get? a=some q:=let⟨q,_,_,hq,_⟩:=dd';⟨q,hq⟩;exact jk I (by rw[e];exact True.intro) hs he (Y4 hl hd (rel.put k rv) dd')
 ·subst ey eH;cases(show u=Value.ref b from ry);obtain⟨z,hd,xs,rel,dd⟩:=XB I.hok e;have hz:xs.length<=sizeLine:=by rw[<-Paired.length rel];exact z
  have hl:(u5 kvs k v).length<=sizeLine:=by have:=uY kvs k v;lia
  refine wpAny_setItem_heap (hsz:=hz) (tupleKind_room_in1 hu) (dw I.hok eb) dd λh' dd' hs=>h _ ?_;obtain⟨q,es,ep,hq,h2,h3,h4,_,h5⟩:=dd';refine jk I (by rw[e];exact True.intro) hs ⟨q,hq⟩ ⟨hl,hd,_,(rel.put k eb rv).keeps λc ys ec=>?_,q,es,ep,hq,h2,h3,h4,h5⟩;rw[ze (Xl ec e (λz=>nomatch z))];exact ec
end
section
variable {X:Cx}{pins:KB}{σ:St}{H:Hp}{s:Np}{a:Addr}{kvs:List (Key×V)}{k:Key}{u:Nq}{A:Nr}{E:Da}
end
def Wy(i:Nv):Prop:=∀ov iv,subscripted i false ov iv=operate [ov,iv] (getItem ov iv)
theorem dD{A:Around}{s:Shared}{env:Env}{value slice:Expr}{pos:Pos}{T id:String}
  (hl:typeLookup (.type T) "__getitem__"=pure (some (.builtin id))) (hs:Wy slice)
  (h:wpAny (model prog w) A (eval value env) (λo X'=>wpAny (model prog w) A (eval slice env) (λi Y'=>Y'.TypeIs o T/\wpAny (model prog w) A (getItem o i) Q E Y') E X') E s) :
  wpAny (model prog w) A (eval (.Subscript value slice pos) env) Q E s:=by
 refine Subscript_ (V6 h (λo X' h₁=>V6 h₁ (λi Y' V'=>?_) λ_ _ x=>x) λ_ _ x=>x);obtain⟨hT,V'⟩:=V';unfold subscriptTail;refine WC ?_;rw[getitemInPython_of_ne hT.not_modules];refine WC (wpAny_specialOf hT hl ?_);have A9:wpAny (model prog w) A (subscripted slice false o i) (λr W'=>wpAny (model prog w) A (letTemporaryGo value o r >>=λ_=>pure r) Q E W') E Y':=by
  rw[hs o i];exact wpAny_operating (V6 V' (λr W' Sm=>WC (wpAny_letTemporaryGo (VZ Sm))) λ_ _ x=>x)
 first
  |exact VZ (WC A9)
  |exact WC (VZ (WC A9))
  |exact WC A9
section
variable {X:Cx}{o i e value:Nv}{pos CH tpos:Pos}{td ty tv:TE}
end
section
variable {X:Cx}{pos:Pos}
end
structure M1(X:Cx)(o:Nv)(m:Str)(apos:Pos)(e:Nv)(cpos:Pos):Prop where
 base:attributeBase o m X.env (eval o X.env)=eval o X.env
 few:((backTo cpos (starEach [e] X.env)).all (λx=>!x.1)&&(backToKw cpos (keywordEach [] X.env)).all (λx=>x.1.isSome)
 &&decide (([e]:Nd).length+([]:List Keyword).length+(if([]:List Keyword).isEmpty then 0 else 1)<30))=true
 line:(apos.endLine==cpos.line)=true
 trees:backTo cpos (starEach [e] X.env)=[(false,eval e X.env)]
structure M2(X:Cx)(o:Nv)(m:Str)(apos:Pos)(e f:Nv)(cpos:Pos):Prop where
 base:attributeBase o m X.env (eval o X.env)=eval o X.env
 few:((backTo cpos (starEach [e,f] X.env)).all (λx=>!x.1)&&(backToKw cpos (keywordEach [] X.env)).all (λx=>x.1.isSome)
 &&decide (([e,f]:Nd).length+([]:List Keyword).length+(if([]:List Keyword).isEmpty then 0 else 1)<30))=true
 line:(apos.endLine==cpos.line)=true
 trees:backTo cpos (starEach [e,f] X.env)=[(false,eval e X.env),(false,eval f X.env)]
section
variable {X:Cx}{pins:KB}{σ:St}{H:Hp}{s:Np}{a:Addr}{y d:V}{u r:Nq}{o:Option V}{A:Nr}{E:Da}
end
section
variable {X:Cx}{o e f:Nv}{apos cpos:Pos}{td ty tx:TE}
end
section
variable {X:Cx}{pins:KB}{σ:St}{H:Hp}{s:Np}{a:Addr}{kvs:List (Key×V)}{A:Nr}{E:Da}
end
section
variable {X:Cx}{pins:KB}{σ:St}{H:Hp}{s:Np}{a:Addr}{y:V}{u:Nq}{A:Nr}{E:Da}
end
end L2
namespace L2
open PySem PySem.Spec PyProof.Rows
section
variable {X:Cx}
end
section
variable {κ:Type} [DecidableEq κ]
end
end L2
set_option maxHeartbeats 4000000
namespace My
open PySem PySem.Spec L2
open PyProof.Rows hiding St
variable{P prog:Nn}{w:No}{mg:FB}{base h:Nw}{N ps:GM}{name qual x:Str}{f g:Int->Int->V}{cd cdv ct doc kV oc pm v vl vu:Nq}{A:Nr}{s:Np}{H H' H1 H2:Hp}{E Q:Da}{a b e iter l tg:Nv}{t:TA}{t' ta te tl to:TE}{p sl:Addr}{o:HO}{vs xs:N1}{apos cpos p2 pos:Pos}{k k' n:Nat}{c neg:Bool}{C:Int->Int->Prop}{tb:TS}{hi lo:Option Int}{es rest:Nd}{body:Nz}{D:xX}{sp:Sp}{st:Nx}
theorem WN{CX:CXT}{K:Nl}{scope:Nu}{f:Addr}{outer:List Env}{E:XK}:(xu CX P w K mg base N qual scope f cd A outer s H E).K=K:=rfl
section
variable {X:Cx}
def Zn{t:TE}(h:PE X e t)(i:∀σ H Q,t' σ H Q->t σ H Q):PE X e t':=λpins s σ H Q I q=>h pins s σ H Q I (i σ H Q q)
def Zu{e:Nx}{t t':TS}(h:PS X e t)(i:∀D σ H,t' D σ H->t D σ H):PS X e t':=λpins s σ H D I q=>h pins s σ H D I (i D σ H q)
def wj{f:Value->Value->Sem Value}{r r':R2}(h:OpR X f r)(i:∀x y H Q,r' x y H Q->r x y H Q):OpR X f r':=λpins s σ H x y v u Q I rx ry q=>h pins s σ H x y v u Q I rx ry (i x y H Q q)
def Y9{r r':R2}(h:IxR X r)(i:∀x y H Q,r' x y H Q->r x y H Q):IxR X r':=λvalue slice pins s σ H x y v u Q I rx ry q hs=>h value slice pins s σ H x y v u Q I rx ry (i x y H Q q) hs
def aG{r r':V->Option Int->Option Int->Hp->VK->Prop}(h:SlR X r)(i:∀x lo hi H Q,r' x lo hi H Q->r x lo hi H Q):SlR X r':=λpins s σ H x v vl vu lo hi sl Q I rx hs pl pu q=>h pins s σ H x v vl vu lo hi sl Q I rx hs pl pu (i x lo hi H Q q)
end
def New(H:Hp)(o:HO)(Q:VK):Prop:=∀(p:Addr)(H':Hp),H p=none->Same H H'->H' p=some o->Q (.ref p) H'
def zi(h:Same H H1)(n:H p=none)(o:HO):Same H (upd H1 p o):=λb u q=>by
 rw[ze (xm q n)];exact h b u q
def yY(n:H p=none)(o:HO):Same H (upd H p o):=zi (Same.refl H) n o
def New.at{Q:VK}(h:New H o Q):∀p,H p=none->Q (.ref p) (upd H p o):=λp n=>h p _ n (yY n o) zv
def Tups(H H':Hp):Prop:=(∀b xs,H b=some (.tup xs)->H' b=some (.tup xs))/\∀b o u,H b=some (.frz o u)->H' b=some (.frz o u)
def Tups.refl(H:Hp):Tups H H:=⟨λ_ _ h=>h,λ_ _ _ h=>h⟩
theorem Tups.trans(a:Tups H H1)(b:Tups H1 H2):Tups H H2:=⟨λc xs h=>b.1 c xs (a.1 c xs h),λc o u h=>b.2 c o u (a.2 c o u h)⟩
def zz(a:Same H H'):Tups H H':=⟨λb xs h=>a b _ h,λb o u h=>a b _ h⟩
def gm(n:(∀xs,H p≠some (.tup xs))/\∀ob u,H p≠some (.frz ob u)):Tups H (upd H p o) :=
 ⟨λb xs h=>by rw[ze (by rintro rfl;exact n.1 xs h)];exact h,λb ob u h=>by rw[ze (by rintro rfl;exact n.2 ob u h)];exact h⟩
def yT(h:H p=some (.lst xs)):Tups H (upd H p o):=gm ⟨λys z=>(by rw[h]at z;cases z),λob u z=>(by rw[h]at z;cases z)⟩
def Tups.sqT{K:Nl}{a:Addr}(t:Tups H H')(h:SqT K H a xs):SqT K H' a xs:=by
 rcases h with(h|⟨o,h⟩)|h
 ·exact .inl (.inl (t.1 _ _ h))
 ·exact .inl (.inr ⟨o,t.2 _ _ _ h⟩)
 ·exact .inr h
mutual
def Has(K:W.Frag)(H:Hp):V->PyData->Prop
 |v,.none=>v = .non
 |v,.bool b=>v = .bl b
 |v,.int i=>v = .int i
 |v,.str x=>v = .str x
 |v,.tuple ds=>∃a xs,v = .ref a/\SqT K H a xs/\HasL K H xs ds
 |v,.list ds=>∃a xs,v = .ref a/\SqL K H a xs/\HasL K H xs ds
 |_,.dict _=>False
def HasL(K:W.Frag)(H:Hp):List V->List PyData->Prop
 |xs,[]=>xs=[]
 |xs,d::ds=>∃y ys,xs=y::ys/\Has K H y d/\HasL K H ys ds
end
def gv:St->Nat->Option V
 |[],_=>none
 |x::_,0=>x
 |_::r,n+1=>gv r n
def sv:St->Nat->V->St
 |[],_,_=>[]
 |_::r,0,v=>some v::r
 |x::r,n+1,v=>x::sv r n v
theorem pT:∀{σ:St}{i:Nat}{v:V},gv σ i=some v->σ[i]?=some (some v)
 |[],_,_,h=>by simp[gv]at h
 |x::_,0,v,h=>by have h':x=some v:=h;simp[h']
 |_::r,n+1,v,h=>by
  have:=pT (σ:=r) (i:=n) (v:=v) h;simpa using this
theorem qU:∀(σ:St)(i:Nat)(v:V),σ.set i (some v)=sv σ i v
 |[],_,_=>rfl
 |_::_,0,_=>rfl
 |x::r,n+1,v=>by
  show x::r.set n (some v)=x::sv r n v;rw[qU r n v]
section
variable {X:Cx}
def mV(i:Nat):TE:=fun σ H Q=>match gv σ i with
 |some v=>Q v H
 |none=>False
def z8(i:Nat)(hN:X.N[i]?=some x:=by rfl)(hv:Vis X.env.scope x:=by first|exact Or.inl rfl|exact Or.inr (Or.inl rfl)|exact Or.inr (Or.inr rfl))(hd:(x==("__debug__":Str))=false:=by decide)
  (Ev:(x==("__classdict__":Str))=false:=by decide):PE X (.Name x pos) (mV i):=Zn (Zo hN hv hd Ev) fun σ H Q q=>by
 unfold mV at q;split at q
 ·rename_i v e;exact⟨v,pT e,q⟩
 ·exact q.elim
def Xe(i:Nat)(te:TE):TS:=λD σ H=>te σ H λx H1=>D.nx (sv σ i x) H1
def zh(i:Nat){x:Str}{e:Nv}{te:TE}{pos CH:Pos}(hN:X.N.Nodup)(he:PE X e te)(hi:X.N[i]?=some x:=by rfl)(hx:Loc X.env.scope x:=by first|exact Or.inl rfl|exact Or.inr rfl)
  (hs:swapsWith e (some (.Name x CH)) pos.line X.env=pure false:=by rfl) (hf:X.fn x=true\/X.env.scope.names.lookup x=some .local:=by first|exact .inl rfl|exact .inr rfl):PS X (.Assign [.Name x CH] e pos) (Xe i te) :=
 Zu (Zv (i:=i) hN hi hx he hs hf) λD σ H q=>by
  refine(?_:ge te (qk i) D σ H);have e:(λx H1=>D.nx (sv σ i x) H1)=λx H1=>qk i x σ H1 D.nx:=by
   funext x H1
   show D.nx (sv σ i x) H1=D.nx (σ.set i (some x)) H1;rw[qU]
  show te σ H λx H1=>qk i x σ H1 D.nx;rw[<-e];exact q
def mG(i:Nat):TG:=λv σ H Q=>Q (sv σ i v) H
def xt(i:Nat)(hN:X.N.Nodup)(hi:X.N[i]?=some x:=by rfl)(hx:Loc X.env.scope x:=by first|exact Or.inl rfl|exact Or.inr rfl)
  (hf:X.fn x=true\/X.env.scope.names.lookup x=some .local:=by first|exact .inl rfl|exact .inr rfl):PG X (.Name x pos) (mG i):=by
 have h:=cQ (pos:=pos) (X:=X) hN hi hx hf;have e:mG i=qk i:=by
  funext v σ H Q
  show Q (sv σ i v) H=Q (σ.set i (some v)) H;rw[qU]
 rw[e];exact h
def fP(k:Bool->Hp->Prop):V->Hp->Prop:=λx H=>match x with
 | .bl c=>k c H
 |_=>False
theorem cH{k:Bool->Hp->Prop}:fP k (.bl c) H=k c H:=rfl
def fQ(k:Int->Hp->Prop):V->Hp->Prop:=λx H=>match x with
 | .int c=>k c H
 |_=>False
theorem fR{k:Int->Hp->Prop}{c:Int}:fQ k (.int c) H=k c H:=rfl
def oH(k:Addr->Hp->Prop):V->Hp->Prop:=λx H=>match x with
 | .ref c=>k c H
 |_=>False
theorem fT{k:Addr->Hp->Prop}{c:Addr}:oH k (.ref c) H=k c H:=rfl
def on1(k:V->Hp->Prop):List V->Hp->Prop:=λx H=>match x with
 |[c]=>k c H
 |_=>False
theorem Zd{k:V->Hp->Prop}{c:V}:on1 k [c] H=k c H:=rfl
def bi(K:W.Frag):R2:=λx y H Q=>match x,y with
 | .int i,.int j=>Q (.int (i+j)) H
 | .str a,.str b=>a.length+b.length<=sizeLine/\Q (.str (a++b)) H
 | .ref a,.ref b=>(∃xs ys,H a=some (.lst xs)/\H b=some (.lst ys)/\xs.length+ys.length<=sizeLine/\New H (.lst (xs++ys)) Q) \/
   ∃xs ys,SqT K H a xs/\SqT K H b ys/\xs.length+ys.length<=sizeLine/\∀(p:Addr)(H':Hp),Same H H'->SqT K H' p (xs++ys)->Q (.ref p) H'
 |_,_=>False
def dZ{t b:Addr}{ws:GE}(ht:IsTup s.heap t #[])(hb:IsTup s.heap b ws.toArray)(h:Q (.ref b) s):
  wpAny (model prog w) A (binaryOp .Add (.ref t) (.ref b)) Q E s:=by
 obtain⟨⟨cls,dd,data,sl⟩,ho,hc,n,hd⟩:=id ht;obtain⟨⟨cls2,dd2,data2,IB⟩,Km,Ic,n2,Kv⟩:=id hb;simp only at hc hd Ic Kv;subst hc hd Ic Kv;exact concat_meets ⟨_,ho,rfl⟩ ⟨_,Km,rfl⟩ noFill_tuple_add seq_tuple_add SI SN (SW _ _)
   (tuple_addW0 t b #[] ws.toArray n n2 dd dd2 sl IB (by simp)) ⟨ho,Km,h⟩
def fV:OpR X (binaryOp .Add) (λx y H Q=>∃a b xs ys,x = .ref a/\y = .ref b/\SqT X.K H a xs/\SqT X.K H b ys/\xs.length+ys.length<=sizeLine/\∀(p:Addr)(H':Hp),Same H H'->SqT X.K H' p (xs++ys)->Q (.ref p) H'):=by
 intro pins s σ H x y v u Q I rx ry h;obtain⟨a,b,xs,ys,rfl,rfl,ha,hb,hz,q⟩:=h
 by_cases e:xs=[]
 ·subst e;cases rx;cases ry;obtain⟨Af,r1,p1,_⟩:=I.tuple ha;obtain⟨CO,r2,p2,_⟩:=I.tuple hb;cases r1;exact dZ p1 p2 ⟨.ref b,H,I,rfl,q b H (Same.refl H) hb⟩
 ·refine cL pins s σ H _ _ v u Q I rx ry ⟨a,b,xs,ys,rfl,rfl,ha,hb,e,hz,λz=>?_,λ_ p n=>?_⟩
  ·subst z;exact q a H (Same.refl H) (by rw[List.append_nil];exact ha)
  ·exact q p _ (yY n _) (SqT.of zv)
def zk:OpR X (binaryOp .Add) (bi X.K):=by
 intro pins s σ H x y v u Q I rx ry h;cases x with
 |int i=>cases y with
  |int j=>exact Zg pins s σ H _ _ v u Q I rx ry ⟨i,j,rfl,rfl,h⟩
  |_=>exact(show False from h).elim
 |str i=>cases y with
  |str j=>exact mL pins s σ H _ _ v u Q I rx ry ⟨i,j,rfl,rfl,h.1,h.2⟩
  |_=>exact(show False from h).elim
 |ref a=>cases y with
  |ref b =>
   have h':(∃xs ys,H a=some (.lst xs)/\H b=some (.lst ys)/\xs.length+ys.length<=sizeLine/\New H (.lst (xs++ys)) Q) \/
    ∃xs ys,SqT X.K H a xs/\SqT X.K H b ys/\xs.length+ys.length<=sizeLine/\∀(p:Addr)(H':Hp),Same H H'->SqT X.K H' p (xs++ys)->Q (.ref p) H':=h
   rcases h' with⟨xs,ys,ha,hb,hz,q⟩|⟨xs,ys,ha,hb,hz,q⟩
   ·exact Zh pins s σ H _ _ v u Q I rx ry ⟨a,b,xs,ys,rfl,rfl,ha,hb,hz,q.at⟩
   ·exact fV pins s σ H _ _ v u Q I rx ry ⟨a,b,xs,ys,rfl,rfl,ha,hb,hz,q⟩
  |_=>exact(show False from h).elim
 |_=>exact(show False from by cases y<;>exact h).elim
def mII(C:Int->Int->Prop)(g:Int->Int->V):R2:=λx y H Q=>match x,y with
 | .int i,.int j=>C i j/\Q (g i j) H
 |_,_=>False
def eG(g:Int->Int->V):R2:=λx y H Q=>match x,y with
 | .int i,.int j=>Q (g i j) H
 |_,_=>False
def lc(x y:V)(H:Hp)(Q:VK)(h:mII C g x y H Q):rI C g x y H Q:=by
 cases x with
 |int i=>cases y with
  |int j=>exact⟨i,j,rfl,rfl,h.1,h.2⟩
  |_=>exact(show False from h).elim
 |_=>exact(show False from by cases y<;>exact h).elim
def ph(x y:V)(H:Hp)(Q:VK)(h:eG g x y H Q):rI0 g x y H Q:=by
 cases x with
 |int i=>cases y with
  |int j=>exact⟨i,j,rfl,rfl,h⟩
  |_=>exact(show False from h).elim
 |_=>exact(show False from by cases y<;>exact h).elim
def vv:OpR X (binaryOp .Sub) (eG λi j=>.int (i-j)):=wj Zl ph
def xU:OpR X (binaryOp .Mult) (mII CMul λi j=>.int (i*j)):=wj Zk lc
def xE:OpR X (binaryOp .Mod) (mII (λ_ j=>0<j) λi j=>.int (i % j)):=wj Zj lc
def lf:OpR X (binaryOp .FloorDiv) (mII Ww λi j=>.int (i / j)):=wj cM lc
def vh:OpR X (compareOp .Lt) (eG λi j=>.bl (decide (i<j))):=wj Xv ph
def vg:OpR X (compareOp .Gt) (eG λi j=>.bl (decide (j<i))):=wj Xt ph
def mEq(g:Bool->Bool):R2:=λx y H Q=>match x,y with
 | .int i,.int j=>Q (.bl (g (decide (i=j)))) H
 | .bl i,.bl j=>Q (.bl (g (decide (i=j)))) H
 | .str i,.str j=>Q (.bl (g (decide (i=j)))) H
 | .non,.non=>Q (.bl (g true)) H
 | .non,.bl _=>Q (.bl (g false)) H
 | .bl _,.non=>Q (.bl (g false)) H
 | .non,.int _=>Q (.bl (g false)) H
 | .int _,.non=>Q (.bl (g false)) H
 |_,_=>False
def W7(i j:Int):decide (V.int i=V.int j)=decide (i=j):=by simp
def WO(i j:Bool):decide (V.bl i=V.bl j)=decide (i=j):=by simp
def W8(i j:Str):decide (V.str i=V.str j)=decide (i=j):=by simp
def ag{g:Bool->Bool}{x y:V}{Q:VK}(h:mEq g x y H Q):aA x y=true/\Q (.bl (g (decide (x=y)))) H:=by
 cases x with
 |int i=>cases y with
  |int j=>exact⟨rfl,by rw[W7];exact h⟩
  |non=>exact⟨rfl,by rw[VH (by intro z;cases z)];exact h⟩
  |_=>exact(show False from h).elim
 |bl i=>cases y with
  |bl j=>exact⟨rfl,by rw[WO];exact h⟩
  |non=>exact⟨rfl,by rw[VH (by intro z;cases z)];exact h⟩
  |_=>exact(show False from h).elim
 |str i=>cases y with
  |str j=>exact⟨rfl,by rw[W8];exact h⟩
  |_=>exact(show False from h).elim
 |non=>cases y with
  |non=>exact⟨rfl,by rw[VT rfl];exact h⟩
  |bl j=>exact⟨rfl,by rw[VH (by intro z;cases z)];exact h⟩
  |int j=>exact⟨rfl,by rw[VH (by intro z;cases z)];exact h⟩
  |_=>exact(show False from h).elim
 |_=>exact(show False from by cases y<;>exact h).elim
mutual
theorem xi{pins:List (Addr×Obj)}{σ:St}{H:Hp}{s:Shared}(I:Inv X pins σ H s):∀(d:PyData)(v:V)(u:Value),Has X.K H v d->RelV v u->∃as,Reads s.heap u d as
 | .none,v,u,h,r=>by
  have h':v = .non:=by simpa[Has]using h
  subst h';cases r;exact⟨_,.none⟩
 | .bool b,v,u,h,r=>by
  have h':v = .bl b:=by simpa[Has]using h
  subst h';cases r;exact⟨_,.bool b⟩
 | .int i,v,u,h,r=>by
  have h':v = .int i:=by simpa[Has]using h
  subst h';obtain⟨t,rfl⟩:=r;exact⟨_,.int i t⟩
 | .str x,v,u,h,r=>by
  have h':v = .str x:=by simpa[Has]using h
  subst h';obtain⟨t,rfl⟩:=r;exact⟨_,.str x t⟩
 | .tuple ds,v,u,h,r=>by
  have h':∃a xs,v = .ref a/\SqT X.K H a xs/\HasL X.K H xs ds:=by simpa[Has]using h
  obtain⟨a,xs,rfl,hq,hl⟩:=h';cases r;obtain⟨Af,rv,⟨o,e,c,n,dd⟩,_⟩:=I.tuple hq;obtain⟨as,ra⟩:=hasL_reads I ds xs Af hl rv;exact⟨_,.tuple e c dd ra⟩
 | .list ds,v,u,h,r=>by
  have h':∃a xs,v = .ref a/\SqL X.K H a xs/\HasL X.K H xs ds:=by simpa[Has]using h
  obtain⟨a,xs,rfl,hq,hl⟩:=h';cases r;obtain⟨Af,rv,pl,_⟩:=I.list hq;obtain⟨o,e,c,n,dd⟩:=pl.isList;obtain⟨as,ra⟩:=hasL_reads I ds xs Af hl rv;exact⟨_,.list e c dd ra⟩
 | .dict _,v,u,h,r=>by
  have h':False:=by simpa[Has]using h
  exact h'.elim
theorem hasL_reads{pins:List (Addr×Obj)}{σ:St}{H:Hp}{s:Shared}(I:Inv X pins σ H s):∀(ds:List PyData)(xs:List V)(us:List Value),HasL X.K H xs ds->Vals xs us->∃as,ReadsAll s.heap us ds as
 |[],xs,us,h,r=>by
  have h':xs=[]:=by simpa[HasL]using h
  subst h';cases r;exact⟨_,.nil⟩
 |d::ds,xs,us,h,r=>by
  have h':∃y ys,xs=y::ys/\Has X.K H y d/\HasL X.K H ys ds:=by simpa[HasL]using h
  obtain⟨y,ys,rfl,h1,h2⟩:=h';cases r with
  |cons r1 r2 =>
   obtain⟨as,ra⟩:=xi I d y _ h1 r1;obtain⟨bs,rb⟩:=hasL_reads I ds ys _ h2 r2;exact⟨_,.cons ra rb⟩
end
def sm(K:W.Frag)(g:Bool->Bool):R2:=λx y H Q=>match x,y with
 | .ref a,.ref b=>∃da db,Has K H (.ref a) da/\Has K H (.ref b) db/\SeqAt.shaped da=true/\SeqAt.shaped db=true/\Q (.bl (g (PyData.eqv da db))) H
 |x,y=>mEq g x y H Q
def yt(hu:X.A.units+64<cLine):OpR X (compareOp .Eq) (sm X.K id):=by
 intro pins s σ H x y v u Q I rx ry h;have sc:mEq id x y H Q->wpAny (model X.prog X.w) X.A (compareOp .Eq v u) (EP X pins σ Q) X.xe s:=λh=>Xs pins s σ H x y v u Q I rx ry (ag h);cases x with
 |ref a=>cases y with
  |ref b =>
   obtain⟨da,db,h1,h2,s1,s2,q⟩:=(show∃da db,Has X.K H (.ref a) da/\Has X.K H (.ref b) db/\SeqAt.shaped da=true/\SeqAt.shaped db=true/\Q (.bl (PyData.eqv da db)) H from h)
   obtain⟨as,ra⟩:=xi I da _ _ h1 rx;obtain⟨bs,rb⟩:=xi I db _ _ h2 ry;exact eq_dataH ra rb s1 s2 hu ⟨.bl _,H,I,rfl,q⟩
  |_=>exact sc h
 |_=>exact sc (by cases y<;>exact h)
def ux(hu:X.A.units+64<cLine):OpR X (compareOp .NotEq) (sm X.K not):=by
 intro pins s σ H x y v u Q I rx ry h;have sc:mEq not x y H Q->wpAny (model X.prog X.w) X.A (compareOp .NotEq v u) (EP X pins σ Q) X.xe s:=λh=>Xw pins s σ H x y v u Q I rx ry (ag h);cases x with
 |ref a=>cases y with
  |ref b =>
   obtain⟨da,db,h1,h2,s1,s2,q⟩:=(show∃da db,Has X.K H (.ref a) da/\Has X.K H (.ref b) db/\SeqAt.shaped da=true/\SeqAt.shaped db=true/\Q (.bl (!PyData.eqv da db)) H from h)
   obtain⟨as,ra⟩:=xi I da _ _ h1 rx;obtain⟨bs,rb⟩:=xi I db _ _ h2 ry;exact ne_dataH ra rb s1 s2 hu ⟨.bl _,H,I,rfl,q⟩
  |_=>exact sc h
 |_=>exact sc (by cases y<;>exact h)
def mLe:R2:=λx y H Q=>match x,y with
 | .int i,.int j=>Q (.bl (decide (i<=j))) H
 | .bl i,.bl j=>Q (.bl (!i||j)) H
 |_,_=>False
def Wb:OpR X (compareOp .LtE) mLe:=by
 intro pins s σ H x y v u Q I rx ry h
 match x,y,h with
 | .int i,.int j,h=>exact Xu pins s σ H _ _ v u Q I rx ry ⟨i,j,rfl,rfl,h⟩
 | .bl i,.bl j,h =>
  cases rx;cases ry;exact le_bool ⟨.bl (!i||j),H,I,by cases i<;>cases j<;>rfl,h⟩
def mIn(K:W.Frag)(neg:Bool):R2:=λx y H Q=>match y with
 | .ref p=>∃xs,(SqL K H p xs\/SqT K H p xs)/\xI x=true/\xs.all xI=true/\Q (.bl (if neg then !inV x xs else inV x xs)) H
 |_=>False
def XW{K:W.Frag}(x y:V)(H:Hp)(Q:VK)(h:mIn K neg x y H Q):rIn K neg x y H Q:=by
 cases y with
 |ref p =>
  obtain⟨xs,q⟩:=(show∃xs,(SqL K H p xs\/SqT K H p xs)/\xI x=true/\xs.all xI=true/\Q (.bl (if neg then !inV x xs else inV x xs)) H from h)
  exact⟨p,xs,rfl,q⟩
 |_=>exact(show False from h).elim
def bt:OpR X (compareOp .In) (mIn X.K false):=wj jC XW
def mIx(K:W.Frag):R2:=λx y H Q=>match x,y with
 | .str z,.int i=>z.length<=sizeLine/\∃c,atI z.cps.toList i=some c/\Q (.str ⟨#[c]⟩) H
 | .ref p,.int i=>∃xs v,(SqL K H p xs\/SqT K H p xs)/\atI xs i=some v/\Q v H
 |_,_=>False
def Xj:IxR X (mIx X.K):=Y9 ZB λx y H Q h=>by
 cases x with
 |str z=>cases y with
  |int i=>exact .inr (.inr ⟨z,i,h.2.choose,rfl,rfl,h.1,h.2.choose_spec.1,h.2.choose_spec.2⟩)
  |_=>exact(show False from h).elim
 |ref p=>cases y with
  |int i =>
   obtain⟨xs,v,hs,e,q⟩:=(show∃xs v,(SqL X.K H p xs\/SqT X.K H p xs)/\atI xs i=some v/\Q v H from h)
   rcases hs with hs|hs
   ·exact .inl ⟨p,xs,i,v,rfl,rfl,hs,e,q⟩
   ·exact .inr (.inl ⟨p,xs,i,v,rfl,rfl,hs,e,q⟩)
  |_=>exact(show False from h).elim
 |_=>exact(show False from by cases y<;>exact h).elim
def zQ{tb:TE}(ha:PE X a ta)(hb:PE X b tb)(hs:jc b:=by intro _ _;rfl):PE X (.Subscript a b pos) (tOp (mIx X.K) ta tb):=Xx Xj ha hb hs
def vH{t:Addr}{items:Nk}(ht:IsTup s.heap t items)(hs:s.heap.IsSliceOf sl vl vu .none)(pl:IsPart vl lo)(pu:IsPart vu hi)
  (hw:HT.sIx items.size 0 lo=0/\HT.sIx items.size items.size hi=items.size) (h:Q (.ref t) s):wpAny (model prog w) A (getItem (.ref t) (.ref sl)) Q E s:=by
 obtain⟨os,Kk,JB,Ms⟩:=id hs;have Mz:s.TypeIs (.ref sl) "slice":=⟨os,Kk,JB⟩
 unfold getItem
 try with_reducible refine Vh ?_
 first|refine WC (VZ ?_)|skip
 refine WC (wpAny_sequenceKey ht.typeIs (by decide) ?_);refine WC (Vb (name:=("__getitem__":Str)) ht.typeIs UT
  (Vg UT ht.typeIs entry_tuple_getitem ?_ (args_tuple_getitem _ _)))
 show wpAny _ _ (Builtin.Tuple.tupleItemsOf (.ref t) >>= _) _ _ s;refine WC (tupleItemsOf_ ht ?_);refine WC (SZ Mz ?_);rw[VB (by decide)];refine WC (HT.sliceApplied_gen hs pl pu ?_);have E5:(((HT.sIx items.size 0 lo:Nat):Int)==0&&(1:Int)==1&&(HT.sIx items.size items.size hi-HT.sIx items.size 0 lo)==items.size)=true:=by
  rw[hw.1,hw.2];simp
 show wpAny _ _ (if(((HT.sIx items.size 0 lo:Nat):Int)==0&&(1:Int)==1&&(HT.sIx items.size items.size hi-HT.sIx items.size 0 lo)==items.size)=true then _ else _) _ _ s;rw[VB E5];have hex:∀{A':Nr}{Q':Bool->Shared->Prop}{E':Da},Q' true s->wpAny (model prog w) A' (Builtin.Tuple.tupleIsExact (.ref t)) Q' E' s:=λq=>by
  unfold Builtin.Tuple.tupleIsExact;exact WC (SZ ht.typeIs (VZ q))
 refine WC (hex ?_);rw[VB rfl];exact WC (SO (VZ ⟨_,rfl,VZ h⟩))
def sl_tupA:SlR X (λx lo hi H Q=>∃a xs,x = .ref a/\SqT X.K H a xs/\∀(p:Addr)(H':Hp),Same H H'->SqT X.K H' p (xA xs lo hi)->Q (.ref p) H'):=by
 intro pins s σ H x v vl vu lo hi sl Q I rx hs pl pu h;obtain⟨a,xs,rfl,hx,q⟩:=h
 by_cases hw:HT.sIx xs.length 0 lo=0/\HT.sIx xs.length xs.length hi=xs.length
 ·cases rx;obtain⟨Af,r,ht,hz⟩:=I.tuple hx;have Ar:Af.toArray.size=xs.length:=by rw[VO];exact r.length.symm
  refine⟨"tuple",_,UT.lookup,ht.typeIs,?_⟩;refine vH ht hs pl pu (by rw[Ar];exact hw) ⟨.ref a,H,I,rfl,q a H (Same.refl H) ?_⟩;have e:xA xs lo hi=xs:=by
   unfold xA;rw[hw.1,hw.2];simp
  rw[e];exact hx
 ·exact aH pins s σ H _ v vl vu lo hi sl Q I rx hs pl pu ⟨a,xs,rfl,hx,hw,λp n=>q p _ (yY n _) (SqT.of zv)⟩
def uM{o:Option Int}(p:IsPart v o):∃l:Option (Int×Tok),v=partValue l/\l.map (·.1)=o:=by
 cases p with
 |none=>exact⟨none,rfl,rfl⟩
 |int i t=>exact⟨some (i,t),rfl,rfl⟩
def sl_strA:SlR X (λx lo hi H Q=>∃z,x = .str z/\z.length<=sizeLine/\Q (.str (Txt.slice z lo hi)) H):=by
 intro pins s σ H x v vl vu lo hi sl Q I rx hs pl pu h;obtain⟨z,rfl,hz,q⟩:=h;obtain⟨t,rfl⟩:=rx;obtain⟨l,rfl,rfl⟩:=uM pl;obtain⟨u,rfl,rfl⟩:=uM pu;refine⟨"str",_,F.slot_str_getitem.lookup,Tr _ _ _,?_⟩;refine wpAny_getItem_str_slice (l:=l) (u:=u) (st:=none) hs rfl (post_val_or_str ⟨Vz (Txt.slice_le z _ _) hz,λt' k=>⟨.str (Txt.slice z (l.map (·.1)) (u.map (·.1))),H,I.tok k,⟨t',rfl⟩,q⟩⟩)
def mSl(K:W.Frag):V->Option Int->Option Int->Hp->VK->Prop:=λx lo hi H Q=>match x with
 | .str z=>z.length<=sizeLine/\Q (.str (Txt.slice z lo hi)) H
 | .ref a=>(∃xs,SqL K H a xs/\New H (.lst (xA xs lo hi)) Q)\/∃xs,SqT K H a xs/\∀(p:Addr)(H':Hp),Same H H'->SqT K H' p (xA xs lo hi)->Q (.ref p) H'
 |_=>False
def Xk:SlR X (mSl X.K):=aG (sl_strA.or (sl_tupA.or c0)) λx lo hi H Q h=>by
 cases x with
 |str z=>exact .inl ⟨z,rfl,h.1,h.2⟩
 |ref a =>
  have h':(∃xs,SqL X.K H a xs/\New H (.lst (xA xs lo hi)) Q)\/∃xs,SqT X.K H a xs/\∀(p:Addr)(H':Hp),Same H H'->SqT X.K H' p (xA xs lo hi)->Q (.ref p) H':=h;rcases h' with⟨xs,hx,q⟩|⟨xs,hx,q⟩
  ·exact .inr (.inr ⟨a,xs,rfl,hx,q.at⟩)
  ·exact .inr (.inl ⟨a,xs,rfl,hx,q⟩)
 |_=>exact(show False from h).elim
def aj(t:TE):TO:=fun σ H Q=>t σ H (fQ λi H1=>Q (some i) H1)
def za(h:PE X e te):PO X (some e) (aj te):=by
 intro pins s σ H Q I hw;rw[evalPart_some];refine thn (h pins s σ H _ I hw) λu s1 ⟨x,H1,I1,r1,q1⟩=>?_;cases x with
 |int i =>
  obtain⟨t,rfl⟩:=r1;exact⟨some i,H1,I1,.int i t,q1⟩
 |_=>exact(show False from q1).elim
def zX{lo hi:Option Expr}{tl th:TO}(he:PE X e te)(hl:PO X lo tl)(hu:PO X hi th):PE X (.Subscript e (.Slice lo hi none p2) pos) (tSl (mSl X.K) te tl th):=fe Xk he hl hu
def Xf(t:TA):TE:=fun σ H Q=>t σ H λxs H1=>xs.length<=sizeLine/\New H1 (.tup xs) Q
def Xa(t:TA):TE:=fun σ H Q=>t σ H λxs H1=>xs.length<=sizeLine/\New H1 (.lst xs) Q
def xF{x1}(h:PA X es t):PE X (.Tuple es x1 pos) (Xf t):=by
 intro pins s σ H Q I hq;refine wpAny_Tuple_spliced (thn (h pos pins s σ H _ I hq) λus s1 ⟨xs,H1,I1,r,z,q⟩=>⟨by rw[<-r.length];exact z,?_⟩);have hf:H1 s1.heap.objs.size=none:=I1.hok.fresh (VW _);refine⟨.ref s1.heap.objs.size,upd H1 s1.heap.objs.size (.tup xs),I1.laid (t':=s1.toks) (λb u e=>WB _ e) (VW _) ?_,rfl,q.at _ hf⟩;exact⟨z,us,r,⟨_,VS _ rfl,rfl,_,rfl⟩⟩
def zP(h:PA X es t):PE X (.List es pos) (Xa t):=by
 intro pins s σ H Q I hq;refine wpAny_List_spliced (thn (h pos pins s σ H _ I hq) λus s1 ⟨xs,H1,I1,r,z,q⟩=>⟨by rw[<-r.length];exact z,?_⟩);have hf:H1 s1.heap.objs.size=none:=I1.hok.fresh (VW _);refine⟨.ref s1.heap.objs.size,upd H1 s1.heap.objs.size (.lst xs),I1.laid (t':=s1.toks) (λb u e=>WB _ e) (VW _) ?_,rfl,q.at _ hf⟩;exact⟨z,us,0,r,VS _ rfl⟩
def mB(t:TE):TT:=fun σ H Q=>t σ H (fP Q)
def zo{op:CmpOp}{r:R2}{tb:TE}(ho:OpR X (compareOp op) r)(ha:PE X a ta)(hb:PE X b tb)(hm:behindInMarks op b=false):PT X (.Compare a [op] [b] pos) (mB (tOp r ta tb)):=by
 intro pins s σ H Q I h;refine wpAny_isTrue_Compare1 (thn (ha pins s σ H _ I h) λv s1 ⟨x,H1,I1,r1,q1⟩=>thn (hb pins s1 σ H1 _ I1 q1) λu s2 ⟨y,H2,I2,r2,q2⟩ =>
  thn (ho pins s2 σ H2 x y v u _ I2 r1 r2 q2) λc s3 ⟨z,H3,I3,r3,q3⟩=>?_) hm
 cases z with
 |bl k =>
  cases r3;exact Ul ⟨H3,I3,q3⟩
 |_=>exact(show False from q3).elim
def yg{t:TE}(h:PE X e t)(he:∀Gd,isTrue e X.env Gd=(do let v <-Gd;standAt e.pos;holding [v] (truthy v)):=by intro _;rfl):PT X e (mB t):=by
 intro pins s σ H Q I hw;refine isTrue_plain (thn (h pins s σ H _ I hw) λv s1 ⟨x,H1,I1,r1,q1⟩=>?_) (he _);cases x with
 |bl k =>
  cases r1;exact Ul ⟨H1,I1,q1⟩
 |_=>exact(show False from q1).elim
def af(ta tb:TE):TE:=fun σ H Q=>ta σ H (fP λc H1=>if c=true then tb σ H1 Q else Q (.bl false) H1)
def Xd(ta tb:TE):TE:=fun σ H Q=>ta σ H (fP λc H1=>if c=true then Q (.bl true) H1 else tb σ H1 Q)
def ai(ta:TE):TE:=fun σ H Q=>ta σ H (fP λc H1=>Q (.bl (!c)) H1)
def rA{tb:TE}(ha:PE X a ta)(hb:PE X (.BoolOp .And (b::rest) pos) tb):PE X (.BoolOp .And (a::b::rest) pos) (af ta tb):=by
 intro pins s σ H Q I h;refine BoolOp_and (thn (ha pins s σ H _ I h) λv s1 ⟨x,H1,I1,r1,q1⟩=>?_);cases x with
 |bl c =>
  cases r1;refine Ul ?_;cases c with
  |true=>exact hb pins s1 σ H1 Q I1 q1
  |false=>exact⟨.bl false,H1,I1,rfl,q1⟩
 |_=>exact(show False from q1).elim
def ZS{tb:TE}(ha:PE X a ta)(hb:PE X (.BoolOp .Or (b::rest) pos) tb):PE X (.BoolOp .Or (a::b::rest) pos) (Xd ta tb):=by
 intro pins s σ H Q I h;refine BoolOp_or (thn (ha pins s σ H _ I h) λv s1 ⟨x,H1,I1,r1,q1⟩=>?_);cases x with
 |bl c =>
  cases r1;refine Ul ?_;cases c with
  |false=>exact hb pins s1 σ H1 Q I1 q1
  |true=>exact⟨.bl true,H1,I1,rfl,q1⟩
 |_=>exact(show False from q1).elim
def j8(ha:PE X a ta):PE X (.UnaryOp .Not a pos) (ai ta):=by
 intro pins s σ H Q I h;refine UnaryOp_ (thn (ha pins s σ H _ I h) λv s1 ⟨x,H1,I1,r1,q1⟩=>?_);cases x with
 |bl c =>
  cases r1;exact not_of (Ul ⟨.bl (!c),H1,I1,rfl,q1⟩)
 |_=>exact(show False from q1).elim
def ZM(K:W.Frag):List V->Hp->VK->Prop:=λxs H Q=>match xs with
 |[.str z]=>z.length<=sizeLine/\Q (.int z.length) H
 |[.ref p]=>∃ys,(SqL K H p ys\/SqT K H p ys)/\Q (.int ys.length) H
 |_=>False
def zR:xo X (.builtin "len") (ZM X.K):=by
 intro pins s σ H xs us Q I r h
 match xs,h with
 |[.str z],h=>exact pL pins s σ H _ us Q I r ⟨z,rfl,h.1,h.2⟩
 |[.ref p],h =>
  obtain⟨ys,hs,q⟩:=(show∃ys,(SqL X.K H p ys\/SqT X.K H p ys)/\Q (.int ys.length) H from h)
  exact pK pins s σ H _ us Q I r ⟨p,ys,rfl,hs,q⟩
def cK{C:Addr->Prop}(h:match xs with|[.ref p]=>C p|_=>False):∃p,xs=[.ref p]/\C p:=by
 rcases xs with _|⟨x,_|⟨_,_⟩⟩
 ·exact(show False from h).elim
 ·cases x with
  |ref p=>exact⟨p,rfl,h⟩
  |_=>exact(show False from h).elim
 ·exact(show False from by cases x<;>exact h).elim
def bj(K:W.Frag):List V->Hp->VK->Prop:=λxs H Q=>match xs with
 |[.ref p]=>∃ys,(SqL K H p ys\/SqT K H p ys)/\New H (.lst ys) Q
 |_=>False
def eM(K:W.Frag):List V->Hp->VK->Prop:=λxs H Q=>match xs with
 |[.ref p]=>∃ys,(SqL K H p ys\/SqT K H p ys)/\∀(r:Addr)(H':Hp),Same H H'->SqT K H' r ys->Q (.ref r) H'
 |_=>False
def yN:xo X (.type "tuple") (eM X.K):=by
 intro pins s σ H xs us Q I r h;obtain⟨p,rfl,ys,hs,q⟩:=cK (C:=λp=>∃ys,(SqL X.K H p ys\/SqT X.K H p ys)/\∀(r:Addr)(H':Hp),Same H H'->SqT X.K H' r ys->Q (.ref r) H') h;rcases hs with hs|hs
 ·exact vp pins s σ H _ us Q I r ⟨p,ys,rfl,.inl ⟨hs,λl n=>q l _ (yY n _) (SqT.of zv)⟩⟩
 ·exact vp pins s σ H _ us Q I r ⟨p,ys,rfl,.inr ⟨hs,q p H (Same.refl H) hs⟩⟩
inductive TyX (K:W.Frag) (H:Hp):V->Value->Prop where
 |of {x:V}{t:Value} (h:TyOf K H x t):TyX K H x t
 |tup {a:Addr}{xs:List V} (h:SqT K H a xs):TyX K H (.ref a) (.type "tuple")
 |lst {a:Addr}{xs:List V} (h:SqL K H a xs):TyX K H (.ref a) (.type "list")
def XY(K:W.Frag):List V->Hp->VK->Prop:=λxs H Q=>match xs with
 |[x,.ty c]=>∃t b,TyX K H x t/\W.kitOne K t (.type c)=some b/\Q (.bl b) H
 |_=>False
def Yw{C:V->String->Prop}(h:match xs with|[x,.ty c]=>C x c|_=>False):∃x c,xs=[x,.ty c]/\C x c:=by
 rcases xs with _|⟨x,_|⟨y,_|⟨_,_⟩⟩⟩
 ·exact(show False from h).elim
 ·exact(show False from h).elim
 ·cases y with
  |ty c=>exact⟨x,c,rfl,h⟩
  |_=>exact(show False from h).elim
 ·exact(show False from by cases y<;>exact h).elim
def wx:xo X (.builtin "isinstance") (XY X.K):=by
 intro pins s σ H xs us Q I r h;obtain⟨x,c,rfl,t,b,ty,e,q⟩:=Yw (C:=λx c=>∃t b,TyX X.K H x t/\W.kitOne X.K t (.type c)=some b/\Q (.bl b) H) h;obtain⟨u,w',rfl,r1,r2⟩:=tw r;cases r2;cases ty with
 |of ty=>exact iY I r1 ty e λtk=>⟨.bl b,H,I.tok tk,rfl,q⟩
 |tup hq =>
  cases r1;obtain⟨Af,_,⟨o,h1,h2,_⟩,_⟩:=I.tuple hq;exact UP W.kitx_tuple I.kIn ⟨o,h1,h2⟩ e (λz=>nomatch z) λtk=>⟨.bl b,H,I.tok tk,rfl,q⟩
 |lst hq =>
  cases r1;obtain⟨Af,_,pl,_⟩:=I.list hq;obtain⟨o,h1,h2,_⟩:=pl.isList;exact UP W.kitx_list I.kIn ⟨o,h1,h2⟩ e (λz=>nomatch z) λtk=>⟨.bl b,H,I.tok tk,rfl,q⟩
def XS:V->List V->Hp->VK->Prop:=λx vs H Q=>match x,vs with
 | .ref l,[y]=>∃xs,H l=some (.lst xs)/\xs.length<sizeLine/\Q .non (upd H l (.lst (xs++[y])))
 |_,_=>False
def cY{C:Addr->V->Prop}{x:V}(h:match x,vs with|.ref l,[y]=>C l y|_,_=>False):∃l y,x = .ref l/\vs=[y]/\C l y:=by
 cases x with
 |ref l =>
  rcases vs with _|⟨y,_|⟨_,_⟩⟩
  ·exact(show False from h).elim
  ·exact⟨l,y,rfl,rfl,h⟩
  ·exact(show False from h).elim
 |_=>exact(show False from by rcases vs with _|⟨y,_|⟨_,_⟩⟩<;>exact h).elim
def su:MtR X "list.append" XS:=λpins s σ H x xs v us Q I rx rs h=>by
 obtain⟨l,y,rfl,rfl,ys,e,z,q⟩:=cY (C:=λl y=>∃ys,H l=some (.lst ys)/\ys.length<sizeLine/\Q .non (upd H l (.lst (ys++[y])))) h;exact wD pins s σ H _ _ v us Q I rx rs ⟨l,ys,y,rfl,rfl,e,z,q⟩
def WZ:V->List V->Hp->VK->Prop:=λx vs H Q=>match x,vs with
 | .ref l,[]=>∃xs y,H l=some (.lst xs)/\xs[xs.length-1]?=some y/\Q y (upd H l (.lst xs.dropLast))
 |_,_=>False
def mBM(r:V->List V->Hp->VK->Prop)(to:TE)(t:TA):TE:=fun σ H Q=>to σ H λx H1=>(∃p xs,x = .ref p/\H1 p=some (.lst xs))/\t σ H1 λxs H2=>r x xs H2 Q
def WV(r:V->List V->Hp->VK->Prop)(to:TE):TE:=fun σ H Q=>to σ H λx H1=>(∃p xs,x = .ref p/\H1 p=some (.lst xs))/\r x [] H1 Q
def uT{o:Nv}{id:String}{r:V->List V->Hp->VK->Prop}(slot:Slot "list" name id)(hty:typeOf (.builtin id)=pure (.type "method_descriptor"))(hm:MtR X id r)(ho:PE X o to)(ha:PA X (e::es) t)
  (Cd:attributeBase o name X.env (eval o X.env)=eval o X.env:=by rfl)
  (CP:((backTo cpos (starEach (e::es) X.env)).all (λx=>!x.1)&&(backToKw cpos (keywordEach [] X.env)).all (λx=>x.1.isSome)
  &&decide ((e::es).length+([]:List Keyword).length+(if([]:List Keyword).isEmpty then 0 else 1)<30))=true:=by rfl)
  (Cc:(apos.endLine==cpos.line)=true:=by rfl) (hs:starEach (e::es) X.env=(false,eval e X.env)::starEach es X.env:=by rfl) (Kh:(backTo cpos (starEach es X.env)).any (·.1)=false:=by rfl) :
  PE X (.Call (.Attribute o name apos) (e::es) [] cpos) (mBM r to t):=by
 intro pins s σ H Q I h;refine Uf Cd CP Cc rfl (thn (ho pins s σ H _ I h) λv s1 ⟨x,H1,I1,r1,⟨p,xs,e,hp⟩,q1⟩=>?_);subst e;obtain⟨h1,h2⟩:=aP (T:="list") I1 r1 (.inl ⟨rfl,xs,SqL.of hp⟩);refine⟨"list",id,F.plainAttrs_list,slot,hty,h1,h2,?_⟩;have hA:=ha cpos pins s1 σ H1 _ I1 q1;rw[hs]at hA ⊢;refine Ue (by show(false||(backTo cpos (starEach es X.env)).any (·.1))=false;rw[Kh]<;>rfl) (TH ?_);exact thn hA λus s2 ⟨vs,H2,I2,r2,q2⟩=>hm pins s2 σ H2 _ vs v us Q I2 r1 r2 q2
def XG(K:Nl)(tl:TE):TI:=fun σ H R=>tl σ H (oH λa H1=>((∃xs,SqL K H1 a xs)/\R (Itl K a) H1)\/((∃xs,SqT K H1 a xs)/\R (Itt K a) H1))
def zA(hl:PE X l tl):PI X tg l (XG X.K tl):=by
 intro pins s σ H R I h;refine thn (hl pins s σ H _ I h) λv s1 ⟨x,H1,I1,r1,q1⟩=>?_;cases x with
 |ref a =>
  cases r1;rcases(show((∃xs,SqL X.K H1 a xs)/\R (Itl X.K a) H1)\/((∃xs,SqT X.K H1 a xs)/\R (Itt X.K a) H1)from q1)with⟨⟨xs,hq⟩,q⟩|⟨⟨xs,hq⟩,q⟩
  ·obtain⟨Af,rv,p,hz⟩:=I1.list hq;refine Uk p.isList ?_;refine⟨s1.heap.objs.size,[s1.heap.objs.size],_,_,H1,rfl,I1.kept (t':=s1.toks) λb o e=>WB _ e,vA a _,⟨_,VS _ rfl,rfl,rfl⟩,λb hb=>?_,q⟩;have e:b=s1.heap.objs.size:=by simpa using hb
   subst e;exact I1.fpOk (VW _) (I1.hok.fresh (VW _))
  ·obtain⟨Af,rv,p,hz⟩:=I1.tuple hq;refine Us (show s1.heap.IsTuple a Af.toArray from p) ?_;refine⟨s1.heap.objs.size,[s1.heap.objs.size],_,_,H1,rfl,I1.kept (t':=s1.toks) λb o e=>WB _ e,m3 a _,⟨_,VS _ rfl,rfl,rfl⟩,λb hb=>?_,q⟩;have e:b=s1.heap.objs.size:=by simpa using hb
   subst e;exact I1.fpOk (VW _) (I1.hok.fresh (VW _))
 |_=>exact(show False from q1).elim
def iR1(ta:TA):TI:=fun σ H R=>ta σ H (on1 (fQ λj H1=>(-(2 ^ 62)<=j/\j<2 ^ 62)/\R (Itr 0 j.toNat) H1))
def yQ{ta:TA}{p:Pos}(hg:Gl X "range")(hm:X.mg "range"=none)(ha:PA X [a] ta)(hs:starEach [a] X.env=[(false,eval a X.env)]:=by rfl):PI X tg (.Call (.Name "range" p) [a] [] pos) (iR1 ta):=by
 intro pins s σ H R I h;refine Call_ (wc I hg hm boot_range (UE (thn (ha pos pins s σ H _ I h) λus s1 ⟨vs,H1,I1,r1,q1⟩=>?_) hs rfl));rcases vs with _|⟨x,_|⟨y,rr⟩⟩
 ·exact(show False from q1).elim
 ·cases x with
  |int j =>
   obtain⟨⟨q1,q2⟩,q⟩:=(show(-(2 ^ 62)<=j/\j<2 ^ 62)/\R (Itr 0 j.toNat) H1 from q1)
   cases r1 with
   |cons r rr =>
    cases rr;obtain⟨t,rfl⟩:=r;exact call_range_1 (f7 I1 (by lia) (by lia) q1 q2 (by simpa using q))
  |_=>exact(show False from q1).elim
 ·exact(show False from q1).elim
def sJ(g:TG)(tb:TS)(J:It)(D:xX)(σ:St)(H1:Hp):Prop:=∃W:Nat->Nat->St->Hp->Prop,(∃m,W 0 m σ H1)/\∀i m σ H,W i m σ H ->
 (J.stop i H/\D.nx σ H)\/(J.go i H/\∃N:St->Hp->Prop,(∀σ' H',N σ' H'->∃m',m'<m/\W (i+1) m' σ' H')/\∀x H',J.yld i H x H'->g x σ H' fun σ2 H2=>tb { D with nx:=N,ct:=N,bk:=D.nx } σ2 H2)
def ZK(wi:TI)(g:TG)(tb:TS):TS:=λD σ H=>wi σ H λJ H1=>sJ g tb J D σ H1
def xq{wi:TI}{g:TG}(hp:PassesOwn (model X.prog X.w) X.A X.env X.xe)(hc:X.calm=true)(hi:PI X tg iter wi)(hg:PG X tg g)(hb:PSs X body tb)
  (hs:∀x,foldedSetIterable iter X.env x=pure x:=by intro _;rfl):PS X (.For tg iter body [] pos) (ZK wi g tb):=Zt hp hc hi hg hb hs
def xj{K:Nl}{a:Addr}{g:TG}{σ:St}(Pv:Nat->St->Hp->Prop)(h0:Pv 0 σ H)(hl:∀i σ H,i<=xs.length->Pv i σ H->SqL K H a xs)
  (hs:∀i x σ H,xs[i]?=some x->Pv i σ H->g x σ H fun σ2 H2=>tb { D with nx:=Pv (i+1),ct:=Pv (i+1),bk:=D.nx } σ2 H2) (hd:∀σ H,Pv xs.length σ H->D.nx σ H):sJ g tb (Itl K a) D σ H:=dh Pv h0 hl hs hd
def xY{K:Nl}{a:Addr}{g:TG}{σ:St}(Pv:Nat->St->Hp->Prop)(h0:Pv 0 σ H)(hl:∀i σ H,i<=xs.length->Pv i σ H->SqT K H a xs)
  (hs:∀i x σ H,xs[i]?=some x->Pv i σ H->g x σ H fun σ2 H2=>tb { D with nx:=Pv (i+1),ct:=Pv (i+1),bk:=D.nx } σ2 H2) (hd:∀σ H,Pv xs.length σ H->D.nx σ H):sJ g tb (Itt K a) D σ H:=bY Pv h0 hl hs hd
def we{g:TG}{σ:St}(Pv:Nat->St->Hp->Prop)(h0:Pv 0 σ H)
  (hs:∀i σ H,i<n->Pv i σ H->g (.int (0+(i:Int))) σ H fun σ2 H2=>tb { D with nx:=Pv (i+1),ct:=Pv (i+1),bk:=D.nx } σ2 H2) (hd:∀σ H,Pv n σ H->D.nx σ H):sJ g tb (Itr 0 n) D σ H:=iT Pv h0 hs hd
def W3(c:TT)(tb:TS)(D:xX)(σ:St)(H:Hp):Prop:=gj c tb D σ H
def eN(c:TT)(tb:TS):TS:=λD σ H=>W3 c tb D σ H
def pj{c:Nv}{tc:TT}(hp:PassesOwn (model X.prog X.w) X.A X.env X.xe)(hc:PT X c tc)(hb:PSs X body tb):PS X (.While c body [] pos) (eN tc tb):=fq hp hc hb
end
section
variable {K:Nl}{H:Hp}{Q:VK}{i j:Int}{x y:Str}{p r:Addr}{c d:Bool}{g:Bool->Bool}{v:V}{neg:Bool}
theorem Zw:bi K (.int i) (.int j) H Q=Q (.int (i+j)) H:=rfl
theorem Zy:bi K (.str x) (.str y) H Q=(x.length+y.length<=sizeLine/\Q (.str (x++y)) H):=rfl
theorem Zx:bi K (.ref p) (.ref r) H Q=((∃xs ys,H p=some (.lst xs)/\H r=some (.lst ys)/\xs.length+ys.length<=sizeLine/\New H (.lst (xs++ys)) Q) \/
   ∃xs ys,SqT K H p xs/\SqT K H r ys/\xs.length+ys.length<=sizeLine/\∀(p:Addr)(H':Hp),Same H H'->SqT K H' p (xs++ys)->Q (.ref p) H'):=rfl
theorem Wh:mII C f (.int i) (.int j) H Q=(C i j/\Q (f i j) H):=rfl
theorem X4:eG f (.int i) (.int j) H Q=Q (f i j) H:=rfl
theorem X1:sm K g (.int i) (.int j) H Q=Q (.bl (g (decide (i=j)))) H:=rfl
theorem X0:sm K g (.bl c) (.bl d) H Q=Q (.bl (g (decide (c=d)))) H:=rfl
theorem X3:sm K g (.str x) (.str y) H Q=Q (.bl (g (decide (x=y)))) H:=rfl
theorem Z3:sm K g .non .non H Q=Q (.bl (g true)) H:=rfl
theorem Z1:sm K g .non (.bl c) H Q=Q (.bl (g false)) H:=rfl
theorem Zz:sm K g (.bl c) .non H Q=Q (.bl (g false)) H:=rfl
theorem Z2:sm K g .non (.int i) H Q=Q (.bl (g false)) H:=rfl
theorem Z0:sm K g (.int i) .non H Q=Q (.bl (g false)) H:=rfl
theorem X2:sm K g (.ref p) (.ref r) H Q=(∃da db,Has K H (.ref p) da/\Has K H (.ref r) db/\SeqAt.shaped da=true/\SeqAt.shaped db=true/\Q (.bl (g (PyData.eqv da db))) H):=rfl
theorem YB:mLe (.int i) (.int j) H Q=Q (.bl (decide (i<=j))) H:=rfl
theorem YA:mLe (.bl c) (.bl d) H Q=Q (.bl (!c||d)) H:=rfl
theorem Wi:mIn K neg v (.ref p) H Q=(∃xs,(SqL K H p xs\/SqT K H p xs)/\xI v=true/\xs.all xI=true/\Q (.bl (if neg then !inV v xs else inV v xs)) H):=rfl
theorem X9:mIx K (.str x) (.int i) H Q=(x.length<=sizeLine/\∃c,atI x.cps.toList i=some c/\Q (.str ⟨#[c]⟩) H):=rfl
theorem X8:mIx K (.ref p) (.int i) H Q=(∃xs v,(SqL K H p xs\/SqT K H p xs)/\atI xs i=some v/\Q v H):=rfl
theorem YH:mSl K (.str x) lo hi H Q=(x.length<=sizeLine/\Q (.str (Txt.slice x lo hi)) H):=rfl
theorem YG:mSl K (.ref p) lo hi H Q=((∃xs,SqL K H p xs/\New H (.lst (xA xs lo hi)) Q)\/∃xs,SqT K H p xs/\∀(p:Addr)(H':Hp),Same H H'->SqT K H' p (xA xs lo hi)->Q (.ref p) H'):=rfl
theorem Z7:ZM K [.str x] H Q=(x.length<=sizeLine/\Q (.int x.length) H):=rfl
theorem Z6:ZM K [.ref p] H Q=(∃ys,(SqL K H p ys\/SqT K H p ys)/\Q (.int ys.length) H):=rfl
theorem ft:bj K [.ref p] H Q=(∃ys,(SqL K H p ys\/SqT K H p ys)/\New H (.lst ys) Q):=rfl
theorem cU:eM K [.ref p] H Q=(∃ys,(SqL K H p ys\/SqT K H p ys)/\∀(r:Addr)(H':Hp),Same H H'->SqT K H' r ys->Q (.ref r) H'):=rfl
theorem X7{T:String}:XY K [v,.ty T] H Q=(∃t b,TyX K H v t/\W.kitOne K t (.type T)=some b/\Q (.bl b) H):=rfl
theorem Xz:XS (.ref p) [v] H Q=(∃xs,H p=some (.lst xs)/\xs.length<sizeLine/\Q .non (upd H p (.lst (xs++[v])))):=rfl
theorem YE:WZ (.ref p) [] H Q=(∃xs y,H p=some (.lst xs)/\xs[xs.length-1]?=some y/\Q y (upd H p (.lst xs.dropLast))):=rfl
end
structure zq(P:Nn)(w:No)(K:Nl)(mg:FB)(base:Nw)(k:Nat)(x:Str)(ps:GM)(sp:Sp):Prop where
 ex:∃(f:Addr)(fd:N0),FnOk P w K mg base CX0 k f fd ps sp/\Binds K fd ps []/\W.keepIn K (.ref f)=true/\mg x=some (.ref f)
def zn{X:Cx}{p:Pos}(C:zq X.prog X.w X.K X.mg X.base k x ps sp)(hr:Room k' X.A)(ha:PA X (e::es) t)(hk:k<=k':=by lia)(hg:Gl X x:=by rfl)
  (CQ:(x==("__debug__":Str))=false:=by decide) (he:starEach (e::es) X.env=(false,eval e X.env)::starEach es X.env:=by rfl) (AZ:(backTo pos (starEach es X.env)).any (·.1)=false:=by rfl) :
  PE X (.Call (.Name x p) (e::es) [] pos) (k4 sp [] E0 t):=by
 obtain⟨f,fd,F,b,kp,hm⟩:=C.ex;exact kH F (hr.mono hk) hg hm kp b .nil fY ha CQ he AZ
def nE{K:Nl}(C:zq P w K mg base k x ps sp)(h:k<=k'):zq P w K mg base k' x ps sp:=by
 obtain⟨f,fd,F,b,kp,hm⟩:=C.ex;exact⟨f,fd,F.mono h,b,kp,hm⟩
structure Def(K:Nl)(mg:FB)(x:Str)(st:Nx)(ps:GM):Prop where
 ex:∃(f:Addr)(fd:N0),Fun K x x st f fd/\(∀us:List Value,us.length=ps.length->bindArgs fd ⟨us,[]⟩=pure (ps.zip us))/\mg x=some (.ref f)
section
variable {P:Nn}{w:No}{K:Nl}{mg:FB}{base:Nw}
def di{f:Addr}{fd:N0}(F:Fun K x x st f fd)(S:yl N ps (zj st))(len:∀vs H Q E,sp vs H Q E->vs.length=ps.length)
  (A7:∀(f:Addr)(cdv:Nq)(A:Nr)(outer:List Env)(s:Np)(H:Hp)(vs:N1)(Q:VK)(E:XK),Room k (A.deeper (envOfC x (zj st) s.heap.objs.size f cdv))->N.Nodup->sp vs H Q E ->
   ∃σ t,start N vs=σ/\PSs (xu CX0 P w K mg base N x (zj st) f cdv A outer s H E).nox (zN st) t/\t { nx:=λ_ H'=>Q .non H',rt:=Q } σ H):FnOk P w K mg base CX0 (k+1) f fd ps sp :=
 F.ok S len λcdv A outer s H vs Q E hr h=>by
  obtain⟨σ,t,e,ht,q⟩:=A7 f cdv A outer s H vs Q E hr S.nd h;exact⟨t,ht,by rw[e];exact q⟩
def Def.callee(F:Def K mg x st ps)(S:yl N ps (zj st))(len:∀vs H Q E,sp vs H Q E->vs.length=ps.length)
  (A7:∀(f:Addr)(cdv:Nq)(A:Nr)(outer:List Env)(s:Np)(H:Hp)(vs:N1)(Q:VK)(E:XK),Room k (A.deeper (envOfC x (zj st) s.heap.objs.size f cdv))->N.Nodup->sp vs H Q E ->
   ∃σ t,start N vs=σ/\PSs (xu CX0 P w K mg base N x (zj st) f cdv A outer s H E).nox (zN st) t/\t { nx:=λ_ H'=>Q .non H',rt:=Q } σ H):zq P w K mg base (k+1) x ps sp:=by
 obtain⟨f,fd,F,b,hm⟩:=F.ex;exact⟨f,fd,di F S len A7,.all b,F.kp,hm⟩
def def_mk{f:Addr}{od an:HK}{osl:Nh}(X:K.In h)(G:h.Ns mainGlobals mg)
  (a:W.nsIn K mainGlobals x=some (some (.ref f))) (l:K.lookup f=some ⟨oc,od,.func (W.fnOf x x (y8 st) (zN st) (zj st) .none kV doc pm an cdv ct),osl⟩)
  (c:W.codeIn K cdv x=true) (k:W.keepIn K (.ref f)=true)
  (hb:∀(kV doc pm:Nq)(an:HK)(cdv ct:Nq)(us:GE),us.length=ps.length->bindArgs (W.fnOf x x (y8 st) (zN st) (zj st) .none kV doc pm an cdv ct) ⟨us,[]⟩=pure (ps.zip us)):Def K mg x st ps :=
 ⟨f,_,pS l c k,hb kV doc pm an cdv ct,UY X G a⟩
end
end My
namespace My
open PySem PySem.Spec L2
open PyProof.Rows hiding St
variable{x y:Str}{C a c it:Addr}{N' NX:GM}{ixs:Nf}{pins:KB}{H H1 H₀:Hp}{Y' s s₀:Np}{ex fp:GT}{JG h₁:Nw}{i k n no tk:Nat}{AG AJ iter tg:Nv}{AE:Nd}{B2 p p' pos px py:Pos}{g:TG}{tt:Addr->Shared->Hp->List Addr->TT}{te:Addr->Shared->Hp->List Addr->TE}{J:It}{Q:VK}{wi:TI}{xs:N1}{lo:Int}
def zT(X:Cx)(N':GM)(scope:Nu)(cl:Ni)(C:Addr)(s₀:Np)(H₀:Hp)(ex:GT):Cx where
 prog:=X.prog
 w:=X.w
 K:=X.K
 mg:=X.mg
 base:=X.base
 A:=X.A
 N:=N'
 s₀:=s₀
 H₀:=H₀
 env:=compEnvC scope cl C X.env
 outer:=X.stack
 stack:=X.stack
 ex:=ex
 fn:=λ_=>false
 calm:=X.calm
 pn:=[]
 xe:=λ_ _=>False
structure CompOk(X:Cx)(own N:GM)(scope:Nu)(cl:Ni):Prop where
 clos:closureFor scope X.env=pure cl
 sub:∀p∈cl,X.env.cells.lookup p.1=some p.2
 have_:∀p∈scope.names,p.2 = .free->∃c,cl.lookup p.1=some c
 nocell:∀y∈scope.names,y.2≠.cell
 kind:scope.kind = .function
 names:∀y∈scope.names,y.2 = .local->scope.names.lookup y.1=some .local
 mine:∀x∈own,scope.names.lookup x=some .local
 nd:(own++N).Nodup
 cells:∀y∈N,X.env.kindOf y=some .cell\/X.env.kindOf y=some .free
 free:∀y∈N,∃c,cl.lookup y=some c
 vis:∀y∈N,(relabel scope X.env).names.lookup y=some .cell\/(relabel scope X.env).names.lookup y=some .free
theorem yP{env:Env}:∀{names:List (Str×NameKind)}{x:Str}{k:NameKind},
  (names.map λ(n,k)=>if(k==NameKind.free&&env.scope.kind == .function&&env.kindOf n==some .cell)then(n,NameKind.cell)else(n,k)).lookup x=some k ->
  (k = .cell\/k = .free)->names.lookup x=some .cell\/names.lookup x=some .free
 |[],_,_,h,_=>by simp at h
 |(n,k')::r,x,k,h,hk=>by
  have ih:=@yP env r x k;have h':List.lookup x ((if(k'==NameKind.free&&env.scope.kind == .function&&env.kindOf n==some .cell)=true then(n,NameKind.cell)else(n,k'))::(r.map λ(n,k)=>if(k==NameKind.free&&env.scope.kind == .function&&env.kindOf n==some .cell)then(n,NameKind.cell)else(n,k)))=some k:=h
  by_cases hc:(k'==NameKind.free&&env.scope.kind == .function&&env.kindOf n==some .cell)=true
  ·rw[VB hc]at h';have B0:k' = .free:=by
    rw[Vy,Vy]at hc;exact eq_of_beq hc.1.1
   cases hx:x==n with
   |true=>right;simp only[Ub,hx,B0]
   |false =>
    simp only[Ub,hx]at h' ⊢;exact ih h' hk
  ·rw[VF hc]at h';cases hx:x==n with
   |true =>
    simp only[Ub,hx]at h' ⊢;cases h';rcases hk with rfl|rfl
    ·left;rfl
    ·right;rfl
   |false =>
    simp only[Ub,hx]at h' ⊢;exact ih h' hk
section
variable {X:Cx}{own N:GM}{scope:Nu}{cl:Ni}
def CompOk.up(k:CompOk X own N scope cl)(h:cl.lookup y=some c):X.env.cells.lookup y=some c:=k.sub (y,c) (UZ h)
def pW{N:GM}(h:ixs.map (λi=>NX[i]?)=N.map some):ixs.length=N.length:=by
 have:=Vp List.length h;simpa using this
def ju{N:List Str}(h:ixs.map (λi=>NX[i]?)=N.map some):∀(j:Nat)(i:Nat),ixs[j]?=some i->∃y,NX[i]?=some y/\N[j]?=some y:=λj i e=>by
 have h1:(ixs.map (λi=>NX[i]?))[j]?=(N.map some)[j]?:=by rw[h]
 rw[VA,VA,e]at h1;cases e2:N[j]? with
 |none=>rw[e2]at h1;cases h1
 |some y=>rw[e2]at h1;exact⟨y,V3 h1,rfl⟩
def zU(clos:closureFor scope X.env=pure cl)(sub:cl.map (λp=>X.env.cells.lookup p.1)=cl.map (λp=>some p.2):=by rfl)
  (b1:(scope.names.all λp=>!(p.2 == .free)||(cl.lookup p.1).isSome)=true:=by rfl) (b2:(scope.names.all λp=>!(p.2 == .cell))=true:=by rfl) (kind:scope.kind = .function:=by rfl)
  (b3:(scope.names.all λp=>!(p.2 == .local)||scope.names.lookup p.1==some .local)=true:=by rfl) (ow:own.map (λx=>scope.names.lookup x)=own.map (λ_=>some .local):=by rfl) (nd:(own++N).Nodup:=by decide +kernel)
  (b4:(N.all λy=>X.env.kindOf y==some .cell||X.env.kindOf y==some .free)=true:=by rfl) (b5:(N.all λy=>(cl.lookup y).isSome)=true:=by rfl)
  (b6:(N.all λy=>(relabel scope X.env).names.lookup y==some .cell||(relabel scope X.env).names.lookup y==some .free)=true:=by rfl):CompOk X own N scope cl:=by
 rw[Vf]at b1 b2 b3 b4 b5 b6;refine⟨clos,List.map_inj_left.mp sub,λp hp hf=>?_,λp hp hc=>?_,kind,λp hp hl=>?_,List.map_inj_left.mp ow,nd,λy hy=>?_,λy hy=>Uo.mp (b5 y hy),λy hy=>?_⟩
 ·have h:=b1 p hp;rw[hf]at h;exact Uo.mp (by simpa using h)
 ·have h:=b2 p hp;rw[hc]at h;simp at h
 ·have h:=b3 p hp;rw[hl]at h;simpa using h
 ·have h:=b4 y hy;rw[To]at h;exact h.imp eq_of_beq eq_of_beq
 ·have h:=b6 y hy;rw[To]at h;exact h.imp eq_of_beq eq_of_beq
theorem nJ{σ:St}(k:CompOk X own N scope cl)(I:Inv X pins σ H s)(hf:∀b∈fp,xV X pins H b)(IX:∀b∈fp,b<s.heap.objs.size)
  (IU:∀(j:Nat)(i:Nat),ixs[j]?=some i->∃y,X.N[i]?=some y/\N[j]?=some y) (Ar:ixs.length=N.length)
  (C9:h₁.Ns s.heap.objs.size λ_=>none) (HU:∀b o,b≠s.heap.objs.size->s.heap.get? b=some o->h₁.get? b=some o) :
  Inv (zT X (own++N) scope cl s.heap.objs.size s H fp) [] (own.map (λ_=>none)++ixs.map (gv σ)) H { s with heap:=h₁,toks:=tk }:=by
 have old:∀b o,s.heap.get? b=some o->h₁.get? b=some o:=λb o e=>HU b o (VD (VV e)) e;have nfs:∀b∈fp,b∉frs X.stack:=λb hb z=>by
  rcases VI.mp (I.stkSub b z)with e|e
  ·exact(hf b hb).2.1 e
  ·exact(hf b hb).2.2.1 e
 refine⟨⟨I.ok.mod,?_,I.ok.glob,I.ok.blt,VW _,?_,?_,?_,I.ok.hd,I.ok.frames,.inl rfl,?_,I.bs,Vz I.ok.bsz I.sz,?_,nfs,I.stack,I.stkFree⟩,
  rfl,I.bare,Un.kept old,⟨λ_=>none,C9,?_⟩,?_,I.hok.fresh (VW _),?_,λp hp=>absurd hp (by simp[zT]),I.hok.kept old,?_⟩
 ·exact k.kind
 ·exact λy z c h1 h2=>I.ok.inj y z c (k.up h1) (k.up h2)
 ·intro y hy;have Fn:scope.names.lookup y=some .cell\/scope.names.lookup y=some .free:=by
   rcases hy with hy|hy
   ·exact yP (env:=X.env) hy (.inl rfl)
   ·exact yP (env:=X.env) hy (.inr rfl)
  rcases Fn with Fn|Fn
  ·exact absurd rfl (k.nocell _ (UZ Fn))
  ·exact k.have_ _ (UZ Fn) rfl
 ·intro y c h1;exact absurd h1 (by simp[zT])
 ·intro b hb;exact⟨VD (IX b hb),λy c e=>(hf b hb).2.2.2.2.1 y c (k.up e)⟩
 ·intro b o e hb;rcases(hf b hb).2.2.2.1 with z|z
  ·exact I.ok.noex b o e z
  ·exact absurd (V8 (VV e) (Vz I.ok.bsz z)) (Vj _)
 ·intro i y v h1 h2 h3;have h1:(own++N)[i]?=some y:=h1
  by_cases hio:i<own.length
  ·rw[U9 (by simpa using hio)]at h2;simp[hio]at h2
  ·have D4:(ixs.map (gv σ))[i-own.length]?=some (some v):=by rw[TZ (by simpa using hio)]at h2;simpa using h2
   have Gu:N[i-own.length]?=some y:=by rw[TZ (by lia)]at h1;exact h1
   generalize i-own.length=i at Gu D4;rw[VA]at D4;cases e:ixs[i]? with
   |none=>rw[e]at D4;cases D4
   |some j =>
    rw[e]at D4;have K3:gv σ j=some v:=by simpa using D4
    obtain⟨z,hz,Gj⟩:=IU i j e;rw[Gu]at Gj;cases Gj;have hm:=VR Gu;obtain⟨m,hn,hl⟩:=I.loc;have Ke:Vis X.env.scope y:=.inr (k.cells y hm);obtain⟨u,ru,l⟩:=hl j y v hz (pT K3) Ke;refine⟨u,ru,?_⟩;rcases l with⟨l,_⟩|⟨_,c,ec,ic⟩
    ·exfalso;rcases k.cells y hm with z|z<;>(rw[l]at z;cases z)
    ·obtain⟨c',MF⟩:=k.free y hm;have:c=c':=V3 (ec.symm.trans (k.up MF));subst this;refine .inr ⟨?_,c,MF,?_⟩
     ·exact k.vis y hm
     ·obtain⟨o,ho,hd⟩:=ic;exact⟨o,old _ _ ho,hd⟩
 ·intro y c e;obtain⟨v,o,ho,hd⟩:=I.cell y c (k.up e);exact⟨v,o,old _ _ ho,hd⟩
 ·intro y c e;exact I.freeC y c (k.up e)
 ·show(own.map (λ_=>none)++ixs.map (gv σ)).length=(own++N).length;simp[Ar]
def PIf(X:Cx)(AE:Nd)(t:TT):Prop:=∀(pins:KB)(s:Np)(σ:St)(H:Hp)(Q:Bool->Hp->Prop),Inv X pins σ H s->t σ H Q ->
 wpAny (model X.prog X.w) X.A (forIn AE true λc r=>if r=true then do let ok <-isTrue c X.env (eval c X.env);pure (ForInStep.yield ok)else pure (ForInStep.yield r)) (TP X pins σ Q) X.xe s
def wT:TT:=λ_ H Q=>Q true H
def zD:PIf X [] wT:=λpins s σ H Q I h=>by
 rw[S7];exact VZ ⟨H,I,h⟩
def uN{c:Nv}{tc:TT}(hc:PT X c tc):PIf X [c] tc:=λpins s σ H Q I h=>by
 rw[List.forIn_cons];simp only[if_true];refine WC (WC (thn (hc pins s σ H Q I h) λb s1 h1=>VZ ?_));dsimp only;rw[S7];exact VZ h1
theorem pM(AG AJ iter:Expr)(AE:List Expr)(scope:Scope)(pos:Pos)(it Aw:Value)(env:Env):
  compTurn (.ListComp AG [⟨AJ,iter,AE,0⟩] scope pos) 0 it Aw env=(standAt iter.pos >>=λ_=>pyNext it >>=λr=>match r with
   |none=>pure (.done .next)
   |some v=>letOwnedTupleGo AJ it v >>=λ_=>assign AJ env v >>=λ_ =>
    (forIn AE true λc r=>if r=true then do let ok <-isTrue c env (eval c env);pure (ForInStep.yield ok)else pure (ForInStep.yield r)) >>=λok =>
     if ok=true then(eval AG env >>=λx=>call (.builtin "list.append") [Aw,x] >>=λ_=>pure ()) >>=λ_=>again (.compLoop (.ListComp AG [⟨AJ,iter,AE,0⟩] scope pos) 0 it Aw env)
     else again (.compLoop (.ListComp AG [⟨AJ,iter,AE,0⟩] scope pos) 0 it Aw env)):=by rfl
theorem w9{prog:Program}{w:World}{A:Around}{R:Result->Shared->Prop}{scope:Scope}{it Aw:Value}{env:Env}(I:Nat->Shared->Prop)
  (Bf:∀n s,I n s->∀E:Value->Shared->Prop,wpAny (model prog w) A (pyNext it) (λr X'=>match r with
   |none=>R (.ok .next) X'
   |some v=>wpAny (model prog w) A (letOwnedTupleGo AJ it v) (λ_ RV=>wpAny (model prog w) A (assign AJ env v) (λ_ Y' =>
     wpAny (model prog w) A (forIn AE true λc r=>if r=true then do let ok <-isTrue c env (eval c env);pure (ForInStep.yield ok)else pure (ForInStep.yield r)) (λok Sc=>if ok=true then wpAny (model prog w) A (eval AG env) (λx W' =>
      wpAny (model prog w) A (call (.builtin "list.append") [Aw,x]) (λ_ Sq=>∃m,m<n/\I m Sq) E W') E Sc else∃m,m<n/\I m Sc) E Y') E RV) E X') E s)
  (n:Nat) (h:I n s) :
  codeAny (model prog w) A (.compLoop (.ListComp AG [⟨AJ,iter,AE,0⟩] scope pos) 0 it Aw env) R s:=by
 refine codeAny_loop rfl I (λn s hI=>?_) n h;show wpAny _ _ ((compTurn (.ListComp AG [⟨AJ,iter,AE,0⟩] scope pos) 0 it Aw env).onRaise (λx=>do noteFrame x env;theTreesLotGoes x)) _ _ s;refine wpAny_noted ?_;rw[pM];refine WC (T5 (WC (V6 (Bf n s hI _) (λr X' h₁=>?_) λ_ _ h'=>h')));cases r with
 |none=>exact VZ h₁
 |some v =>
  refine WC (V6 h₁ (λ_ RV RM=>WC (V6 RM (λ_ Y' V'=>WC (V6 V' (λok Sc Si=>?_) λ_ _ h'=>h')) λ_ _ h'=>h')) λ_ _ h'=>h');cases ok with
  |true =>
   simp only[if_true]at Si ⊢;exact WC (WC (V6 Si (λx W' Sm=>WC (V6 Sm (λ_ Sq Se=>VZ (VZ ⟨rfl,Se⟩)) λ_ _ h'=>h')) λ_ _ h'=>h'))
  |false =>
   simp only[Bool.false_eq_true,if_false]at Si ⊢;exact VZ ⟨rfl,Si⟩
def xp(no:Nat)(g:TG)(tt:TT)(te:TE)(ρ:St)(J:It)(Q:VK)(H1:Hp):Prop:=∀(D:Addr)(H2:Hp),H1 D=none->Same H1 H2->H2 D=some (.lst []) ->
 ∃W:Nat->Nat->List V->Hp->Prop,(∃m,W 0 m [] H2)/\∀i m ys H',W i m ys H'->H' D=some (.lst ys) /\
  ((J.stop i H'/\Q (.ref D) H')\/(J.go i H'/\ys.length<sizeLine/\∀(τ:St) v JN,τ.length=no->J.yld i H' v JN->g v (τ++ρ) JN fun σ2 H3=>(∃τ':St,σ2=τ'++ρ/\τ'.length=no)/\tt σ2 H3 λb H4 =>
   if b=true then te σ2 H4 λy H5=>H5 D=some (.lst ys)/\∃m',m'<m/\W (i+1) m' (ys++[y]) (upd H5 D (.lst (ys++[y])))else∃m',m'<m/\W (i+1) m' ys H4))
def vZ(no:Nat)(ixs:Nf)(wi:TI)(g:TG)(tt:Addr->Shared->Hp->List Addr->TT)(te:Addr->Shared->Hp->List Addr->TE):TE:=fun σ H Q=>wi σ H λJ H1=>∀(C:Addr)(s₀:Np)(H₀:Hp)(ex:GT),xp no g (tt C s₀ H₀ ex) (te C s₀ H₀ ex) (ixs.map (gv σ)) J Q H1
theorem WM{X:Cx}{scope:Nu}{cl:Ni}:(zT X N' scope cl C s₀ H₀ ex).K=X.K:=rfl
theorem sV{σ:St}{tn:Nat->Heap->Prop}{RR:Value->Addr->Result->Shared->Prop}{E:Value->Shared->Prop}
  (k:CompOk X own N scope cl) (AN:X.calm=true) (IU:∀(j:Nat)(i:Nat),ixs[j]?=some i->∃y,X.N[i]?=some y/\N[j]?=some y) (Ar:ixs.length=N.length)
  (hg:∀(C:Addr)(s₀:Shared)(H₀:Hp)(ex:List Addr),PG (zT X (own++N) scope cl C s₀ H₀ ex) tg g)
  (ht:∀(C:Addr)(s₀:Shared)(H₀:Hp)(ex:List Addr),PIf (zT X (own++N) scope cl C s₀ H₀ ex) AE (tt C s₀ H₀ ex))
  (he:∀(C:Addr)(s₀:Shared)(H₀:Hp)(ex:List Addr),PE (zT X (own++N) scope cl C s₀ H₀ ex) AG (te C s₀ H₀ ex))
  (I:Inv X pins σ H Y') (T:sM X.prog X.w X.K tg J fp it tn) (st:tn 0 Y'.heap) (hf:∀b∈fp,xV X pins H b)
  (q:∀(C:Addr)(s₀:Shared)(H₀:Hp)(ex:List Addr),xp own.length g (tt C s₀ H₀ ex) (te C s₀ H₀ ex) (ixs.map (gv σ)) J Q H)
  (M0:∀(D C:Addr)(H':Hp)(s':Shared)(m:Str->Option Value),Inv X pins σ H' s'->s'.heap.Ns C m->H' C=none->C≠X.env.locals->C∉X.fs->(∀p∈X.pn++pins,p.1≠C)->(∀y c,X.env.cells.lookup y=some c->c≠C)->X.s₀.heap.objs.size<=C->Q (.ref D) H'->RR (.ref D) C (.ok .next) s') :
  wpAny (model X.prog X.w) X.A (newList []) (λAw W'=>wpAny (model X.prog X.w) X.A (newFunctionEnv scope X.env.globals cl [] X.env.qual none .none (some X.env)) (λEV Sq =>
   codeAny (model X.prog X.w) X.A (.compStart (.ListComp AG [⟨tg,iter,AE,0⟩] scope pos) 0 (.ref it) Aw { EV with scope:=relabel scope X.env }) (RR Aw EV.locals) Sq) E W') E Y':=by
 refine Vq (wpAny_newFunctionEnv k.nocell (by intro y hy;simp at hy) (λh₁ U' S'=>?_) k.kind);dsimp only at U' S' ⊢;have B8:H Y'.heap.objs.size=none:=I.hok.fresh (VW _);have I3:Inv X pins σ (upd H Y'.heap.objs.size (.lst [])) { Y' with heap:=Y'.heap.push { cls:=.type "list",dict:=none,data:=.seq ([]:List Value).toArray } } :=
  I.laid (t':=Y'.toks) (λb o e=>WB _ e) (VW _) ⟨V5 _,[],0,.nil,VS _ rfl⟩
 obtain⟨W,⟨m0,w0⟩,Bf⟩:=q (Y'.heap.push { cls:=.type "list",dict:=none,data:=.seq ([]:List Value).toArray }).objs.size { Y' with heap:=Y'.heap.push { cls:=.type "list",dict:=none,data:=.seq ([]:List Value).toArray } } (upd H Y'.heap.objs.size (.lst [])) fp Y'.heap.objs.size _ B8 (yY B8 _) zv;have AH:∀b o,Y'.heap.get? b=some o->(Y'.heap.push { cls:=.type "list",dict:=none,data:=.seq ([]:List Value).toArray }).get? b=some o:=λb o e=>WB _ e;have CC:∀b∈fp,b<Y'.heap.objs.size:=λb hb=>by
  obtain⟨o,e,_⟩:=T.obj _ _ st b hb;exact VV e
 have Gq:∀b∈fp,xV X pins (upd H Y'.heap.objs.size (.lst [])) b:=λb hb=>⟨by rw[ze (VD (CC b hb))];exact(hf b hb).1,(hf b hb).2⟩
 generalize hH3:upd H Y'.heap.objs.size (.lst [])=H3 at I3 w0 Gq Bf;generalize hh2:Y'.heap.push { cls:=.type "list",dict:=none,data:=.seq ([]:List Value).toArray }=h2 at I3 U' S' AH Bf ⊢;have EO:h2.objs.size=Y'.heap.objs.size+1:=by rw[<-hh2,Vk]
 have JH:∀b∈fp,b<h2.objs.size:=λb hb=>by rw[EO];exact Uy (CC b hb)
 have Fo:∀b o,b≠h2.objs.size->h2.get? b=some o->h₁.get? b=some o:=λb o hb e=>S'.extBut b o hb (WB _ e);have I4:=nJ (fp:=fp) (h₁:=h₁) (tk:=Y'.toks+([]:List (Str×Value)).length) (s:={ Y' with heap:=h2 }) k I3 Gq JH IU Ar (by simpa using U') Fo;have Js:tn 0 h₁:=T.keep _ _ _ st λb hb o e=>Fo b o (VD (JH b hb)) (AH b o e);have MA:∀b∈fp,H3 b=none:=λb hb=>(Gq b hb).1;have Il:∀{H':Hp},(∀b∈fp,H' b=none)->∀b∈fp,xV (zT X (own++N) scope cl h2.objs.size { Y' with heap:=h2 } H3 fp) [] H' b:=λhn b hb =>
  ⟨hn b hb,(I4.ok.exf b hb).1,I4.ok.exfs b hb,.inl hb,(I4.ok.exf b hb).2,λp hp=>absurd hp (by simp[zT])⟩
 have loop:∀W':Shared,W'={ Y' with heap:=h₁,toks:=Y'.toks+([]:List (Str×Value)).length } ->
   codeAny (model X.prog X.w) X.A (.compLoop (.ListComp AG [⟨tg,iter,AE,0⟩] scope pos) 0 (.ref it) (.ref Y'.heap.objs.size) (compEnvC scope cl h2.objs.size X.env)) (RR (.ref Y'.heap.objs.size) h2.objs.size) W':=by
  rintro W' rfl;refine w9 (λn s'=>∃i τ ys H',τ.length=own.length/\Inv (zT X (own++N) scope cl h2.objs.size { Y' with heap:=h2 } H3 fp) [] (τ++ixs.map (gv σ)) H' s'/\tn i s'.heap/\(∀b∈fp,H' b=none)/\W i n ys H') ?_ m0 ⟨0,own.map (λ_=>none),[],H3,by simp,I4,Js,MA,w0⟩;rintro n s5 ⟨i,τ,ys,H5,hτ,I5,Fm,Hi,w5⟩ E';obtain⟨hD,MU⟩:=Bf i n ys H5 w5;rcases MU with⟨stop,qn⟩|⟨go,hz,step⟩
  ·refine V6 (T.done (zT X (own++N) scope cl h2.objs.size { Y' with heap:=h2 } H3 fp) rfl rfl rfl AN i [] s5 _ H5 E' I5 (Il Hi) Fm stop) (λr s6 hr=>?_) λ_ _ e=>e;obtain⟨rfl,I6⟩:=hr;obtain⟨m6,Mh,_⟩:=I6.loc;have J6:Inv X pins σ H5 s6:=by
    refine I3.call' (ch:=fp) I6.os I6.base I6.hok I6.bare λb hb=>?_;obtain⟨_,f1,f2,f3,f4,f5⟩:=Gq b hb;exact⟨f3,f1,f4,f5⟩
   have Hy:X.s₀.heap.objs.size<=h2.objs.size:=I3.sz;refine M0 Y'.heap.objs.size h2.objs.size H5 s6 m6 J6 Mh I6.free (Uw I3.lt) (I3.nofs (VW _)) (λp hp z=>?_) (λy c e z=>?_) Hy qn
   ·exact absurd (VV (I3.pin p hp).1) (by rw[z];exact Vj _)
   ·obtain⟨u,ic⟩:=I3.cell y c e;exact absurd ic.lt (by rw[z];exact Vj _)
  ·refine V6 (T.item (zT X (own++N) scope cl h2.objs.size { Y' with heap:=h2 } H3 fp) rfl rfl rfl AN i [] s5 _ H5 E' I5 (Il Hi) Fm go) (λr s6 hr=>?_) λ_ _ e=>e;obtain⟨u,rfl,h6⟩:=hr;refine V6 h6 (λ_ s7 h7=>?_) λ_ _ e=>e;obtain⟨xv,H7,I7,r7,y7,Hz,M9⟩:=h7;have MX:=I7.pinned (Il M9) (T.obj _ _ Hz);refine V6 (hg _ _ _ _ _ s7 _ H7 xv u _ MX r7 (step τ xv H7 hτ y7)) (λ_ s8 h8=>?_) λ_ _ e=>e.elim;obtain⟨σ8,H8,I8,⟨τ',rfl,hτ'⟩,q8⟩:=h8;refine V6 (ht _ _ _ _ _ s8 _ H8 _ I8 q8) (λok s9 h9=>?_) λ_ _ e=>e.elim;obtain⟨H9,I9,q9⟩:=h9;have EX:∀(Cf:Hp)(BX:Shared)(Gz:List V)(m':Nat),Inv (zT X (own++N) scope cl h2.objs.size { Y' with heap:=h2 } H3 fp) ([]++wm fp s7.heap) (τ'++ixs.map (gv σ)) Cf BX->m'<n->W (i+1) m' Gz Cf ->
     ∃m,m<n/\∃i τ ys H',τ.length=own.length/\Inv (zT X (own++N) scope cl h2.objs.size { Y' with heap:=h2 } H3 fp) [] (τ++ixs.map (gv σ)) H' BX/\tn i BX.heap/\(∀b∈fp,H' b=none)/\W i m ys H':=λCf BX Gz m' EY BG w10=>by
    refine⟨m',BG,i+1,τ',Gz,Cf,hτ',EY.unpinned (pins:=[]),T.keep _ _ _ Hz λb hb o e=>(EY.pin (b,o) (VM _ (VM _ (yi hb e)))).1,λb hb=>?_,w10⟩;obtain⟨o,e,d⟩:=T.obj _ _ Hz b hb;exact(EY.pin (b,o) (VM _ (VM _ (yi hb e)))).2.1
   cases ok with
   |true =>
    simp only[if_true]at q9 ⊢;refine V6 (he _ _ _ _ _ s9 _ H9 _ I9 q9) (λy BX M8=>?_) λ_ _ e=>e.elim;obtain⟨yv,Cf,EY,LH,Ie,m',BG,w10⟩:=M8;refine V6 (wD (X:=zT X (own++N) scope cl h2.objs.size { Y' with heap:=h2 } H3 fp) _ BX _ Cf (.ref Y'.heap.objs.size) [yv] (.ref Y'.heap.objs.size) [y] (λv' H'=>H'=upd Cf Y'.heap.objs.size (.lst (ys++[yv]))) EY rfl (.cons LH .nil) ⟨_,ys,yv,rfl,rfl,Ie,hz,rfl⟩) (λ_ GY M7=>?_) λ_ _ e=>e.elim;obtain⟨_,Jh,MY,_,rfl⟩:=M7;exact EX _ _ _ m' MY BG w10
   |false =>
    simp only[Bool.false_eq_true,if_false]at q9 ⊢;obtain⟨m',BG,w10⟩:=q9;exact EX _ _ _ m' I9 BG w10
 exact SH (loop _ rfl) (T.self _ 0 _ _ _ Js (loop _ rfl))
def uE{σ:St}(I:Inv X pins σ H s)(hC:H C=none)(hL:C≠X.env.locals)(hp:∀p∈X.pn++pins,p.1≠C)(hc:∀y c,X.env.cells.lookup y=some c->c≠C)(h0:X.s₀.heap.objs.size<=C)
  (hs:∀b o,b≠C->s.heap.get? b=some o->JG.get? b=some o):Inv X pins σ H { s with heap:=JG } :=
 I.turned (t':=s.toks) hs hC hL (.inr h0) hc hp
def ZO
  (k:CompOk X own N scope cl) (AN:X.calm=true) (hi:PI X tg iter wi)
  (hg:∀(C:Addr)(s₀:Np)(H₀:Hp)(ex:GT),PG (zT X (own++N) scope cl C s₀ H₀ ex) tg g) (ht:∀(C:Addr)(s₀:Np)(H₀:Hp)(ex:GT),PIf (zT X (own++N) scope cl C s₀ H₀ ex) AE (tt C s₀ H₀ ex))
  (he:∀(C:Addr)(s₀:Np)(H₀:Hp)(ex:GT),PE (zT X (own++N) scope cl C s₀ H₀ ex) AG (te C s₀ H₀ ex))
  (hx:ixs.map (λi=>X.N[i]?)=N.map some)
  (hs:∀x,foldedSetIterable iter X.env x=pure x:=by intro _;rfl):PE X (.ListComp AG [⟨tg,iter,AE,0⟩] scope pos) (vZ own.length ixs wi g tt te):=by
 intro pins s σ H Q I h;rw[eval_ListComp];refine T8 (use:=none) rfl hs k.clos k.kind k.names (thn (hi pins s σ H _ I h) λv s1 h1=>thn h1 λIN s2 h2=>?_);obtain⟨it,fp,tn,J,H2,rfl,I2,T,HA,f2,q⟩:=h2;refine sV (RR:=λAw C=>compPost (model X.prog X.w) X.A X.xe none (EP X pins σ Q) Aw C) k AN (ju hx) (pW hx) hg ht he I2 T HA f2 q ?_;intro D C H' s' m J' hn hC hL HZ hp hc h0 q';exact⟨m,hn,λJG Fy=>⟨.ref D,H',uE J' hC hL hp hc h0 (λb o hb e=>Fy.extBut b o hb e),rfl,q'⟩⟩
def sr(i:Nat)(t:TE):TS:=λD σ H=>t σ H λx H1=>D.nx (sv σ i x) H1
def iq(i:Nat)(hN:X.N.Nodup)
  (k:CompOk X own N scope cl) (AN:X.calm=true) (hi:PI X tg iter wi)
  (hg:∀(C:Addr)(s₀:Np)(H₀:Hp)(ex:GT),PG (zT X (own++N) scope cl C s₀ H₀ ex) tg g) (ht:∀(C:Addr)(s₀:Np)(H₀:Hp)(ex:GT),PIf (zT X (own++N) scope cl C s₀ H₀ ex) AE (tt C s₀ H₀ ex))
  (he:∀(C:Addr)(s₀:Np)(H₀:Hp)(ex:GT),PE (zT X (own++N) scope cl C s₀ H₀ ex) AG (te C s₀ H₀ ex))
  (hx:ixs.map (λi=>X.N[i]?)=N.map some)
  (hy:X.N[i]?=some y:=by rfl) (EI:X.env.scope.names.lookup y=some .local:=by rfl)
  (GA:swapsWith (.ListComp AG [⟨tg,iter,AE,0⟩] scope pos) (some (.Name y py)) B2.line X.env=pure true:=by rfl)
  (hs:∀x,foldedSetIterable iter X.env x=pure x:=by intro _;rfl):PS X (.Assign [.Name y py] (.ListComp AG [⟨tg,iter,AE,0⟩] scope pos) B2) (sr i (vZ own.length ixs wi g tt te)):=by
 intro pins s σ H D I h;rw[exec_Assign_Name_used _ _ _ _ GA];refine WC (T5 (WC ?_));show wpAny _ X.A (do let _ <-comprehension (.ListComp AG [⟨tg,iter,AE,0⟩] scope pos) scope X.env _ (newList []) false (eval iter X.env) (some (assign (.Name y py) X.env))) _ _ s;refine WC (V6 (T8 (use:=some (assign (.Name y py) X.env)) (Q:=λ_ s'=>SP X pins D .next s') rfl hs k.clos k.kind k.names (thn (hi pins s σ H _ I h) λv s1 h1=>thn h1 λIN s2 h2=>?_)) (λ_ s' hq=>VZ (VZ hq)) λ_ _ e=>e);obtain⟨it,fp,tn,J,H2,rfl,I2,T,HA,f2,q⟩:=h2;refine sV (Q:=λx H1=>D.nx (sv σ i x) H1) (RR:=λAw C=>compPost (model X.prog X.w) X.A X.xe (some (assign (.Name y py) X.env)) (λ_ s'=>SP X pins D .next s') Aw C) k AN (ju hx) (pW hx) hg ht he I2 T HA f2 q ?_;intro L C H' s' m J' hn hC hL HZ hp hc h0 q';obtain⟨o,es,ep,ho,hd,hk,hm⟩:=id hn;have J2:Inv X (pins++[(C,o)]) σ H' s':=J'.pins_of λp Kj=>(VQ.mp Kj).elim (λz=>J'.pin p (VM _ z)) λz=>by
  have e:p=(C,o):=by simpa using z
  subst e;exact⟨ho,hC,hL,HZ,λv z=>by rw[hd]at z;cases z⟩
 have hg:PG X (.Name y py) (mG i):=xt i hN hy (.inl EI) (.inr EI);show wpAny (model X.prog X.w) X.A (assign (.Name y py) X.env (.ref L)) _ _ s';refine thn (hg _ s' σ H' (.ref L) (.ref L) D.nx J2 rfl q') λ_ s3 h3=>?_;obtain⟨σ3,H3,I3,q3⟩:=h3;have pc:=I3.pin (C,o) (VM _ (VM _ (VX.mpr rfl)));refine⟨m,⟨o,es,ep,pc.1,hd,hk,hm⟩,λJG Fy=>⟨σ3,H3,?_,q3⟩⟩;exact uE (I3.unpinned) pc.2.1 hL hp hc h0 (λb ob hb e=>Fy.extBut b ob hb e)
end
def CN(n i:Nat)(P:Prop):Prop:=∃m':Nat,m'<n-i/\m'=n-(i+1)/\i+1<=n/\P
def CN.mk{P:Prop}(h:i<n)(p:P):CN n i P:=⟨n-(i+1),by lia,rfl,h,p⟩
def uz{τ:St}(h:τ.length=1):∃t,τ=[t]:=by
 match τ,h with
 |[t],_=>exact⟨t,rfl⟩
def mG2(K:Nl)(i j:Nat):TG:=λv σ H Q=>∃a x y,v = .ref a/\SqT K H a [x,y]/\Q (sv (sv σ i x) j y) H
def qX(tt:TT)(te:TE)(σ:St)(D:Addr)(n i:Nat)(ys:N1)(P:List V->Hp->Prop)(H:Hp):Prop :=
 tt σ H λb H4=>if b=true then te σ H4 λy H5=>H5 D=some (.lst ys)/\CN n i (P (ys++[y]) (upd H5 D (.lst (ys++[y]))))else CN n i (P ys H4)
def wv{tt:TT}{te:TE}{ρ:St}(Pv:Addr->Nat->List V->Hp->Prop)(hsz:n<=sizeLine)
  (h0:∀D H2,H1 D=none->Same H1 H2->H2 D=some (.lst [])->Pv D 0 [] H2)
  (hl:∀D i ys H,i<=n->Pv D i ys H->H D=some (.lst ys)/\ys.length<=i)
  (hgo:∀D i ys H,i<n->Pv D i ys H->J.go i H) (LZ:∀D ys H,Pv D n ys H->J.stop n H)
  (hs:∀D i v ys H H' (τ:St),i<n->τ.length=no->Pv D i ys H->J.yld i H v H'->g v (τ++ρ) H' fun σ2 H3=>(∃τ':St,σ2=τ'++ρ/\τ'.length=no)/\qX tt te σ2 D n i ys (Pv D (i+1)) H3)
  (hd:∀D ys H,Pv D n ys H->Q (.ref D) H):xp no g tt te ρ J Q H1:=by
 intro D H2 n2 s2 e2;refine⟨λi m ys H=>m=n-i/\i<=n/\Pv D i ys H,⟨n,by simp,V5 _,h0 D H2 n2 s2 e2⟩,?_⟩;rintro i m ys H ⟨rfl,hi,p⟩;obtain⟨eD,ly⟩:=hl D i ys H hi p;refine⟨eD,?_⟩
 by_cases A3:i<n
 ·refine .inr ⟨hgo D i ys H A3 p,by lia,fun τ v JN hτ y=>?_⟩;exact hs D i v ys H JN τ A3 hτ p y
 ·have e:i=n:=by lia
  subst e;exact .inl ⟨LZ D ys H p,hd D ys H p⟩
def iK{K:Nl}{tt:TT}{te:TE}{ρ:St}(Pv:Addr->Nat->List V->Hp->Prop)(hsz:xs.length<=sizeLine)
  (h0:∀D H2,H1 D=none->Same H1 H2->H2 D=some (.lst [])->Pv D 0 [] H2)
  (hl:∀D i ys H,Pv D i ys H->SqT K H a xs/\H D=some (.lst ys)/\ys.length<=i)
  (hs:∀D i v ys H,xs[i]?=some v->Pv D i ys H->qX tt te (some v :: ρ) D xs.length i ys (Pv D (i+1)) H)
  (hd:∀D ys H,Pv D xs.length ys H->Q (.ref D) H):xp 1 (mG 0) tt te ρ (Itt K a) Q H1 :=
 wv Pv hsz h0 (λD i ys H _ p=>(hl D i ys H p).2) (λD i ys H hi p=>⟨xs,xs[i],(hl D i ys H p).1,by simp[hi]⟩) (λD ys H p=>⟨xs,(hl D _ ys H p).1,VW _⟩) (λD i v ys H H' τ hi hτ p y=>by
  obtain⟨t,rfl⟩:=uz hτ;obtain⟨e,y⟩:=y;subst e;exact⟨⟨[some v],rfl,rfl⟩,hs D i v ys _ (y xs (hl D i ys _ p).1) p⟩) hd
def v3{K:Nl}{tt:TT}{te:TE}{ρ:St}(Pv:Addr->Nat->List V->Hp->Prop)(hsz:xs.length<=sizeLine)
  (h0:∀D H2,H1 D=none->Same H1 H2->H2 D=some (.lst [])->Pv D 0 [] H2)
  (hl:∀D i ys H,Pv D i ys H->SqL K H a xs/\H D=some (.lst ys)/\ys.length<=i)
  (hs:∀D i v ys H,xs[i]?=some v->Pv D i ys H->qX tt te (some v :: ρ) D xs.length i ys (Pv D (i+1)) H)
  (hd:∀D ys H,Pv D xs.length ys H->Q (.ref D) H):xp 1 (mG 0) tt te ρ (Itl K a) Q H1 :=
 wv Pv hsz h0 (λD i ys H _ p=>(hl D i ys H p).2) (λD i ys H hi p=>⟨xs,xs[i],(hl D i ys H p).1,by simp[hi]⟩) (λD ys H p=>⟨xs,(hl D _ ys H p).1,VW _⟩) (λD i v ys H H' τ hi hτ p y=>by
  obtain⟨t,rfl⟩:=uz hτ;obtain⟨e,y⟩:=y;subst e;exact⟨⟨[some v],rfl,rfl⟩,hs D i v ys _ (y xs (hl D i ys _ p).1) p⟩) hd
def nG{tt:TT}{te:TE}{ρ:St}(Pv:Addr->Nat->List V->Hp->Prop)(hsz:n<=sizeLine)
  (h0:∀D H2,H1 D=none->Same H1 H2->H2 D=some (.lst [])->Pv D 0 [] H2)
  (hl:∀D i ys H,Pv D i ys H->H D=some (.lst ys)/\ys.length<=i)
  (hs:∀D i ys H,i<n->Pv D i ys H->qX tt te (some (.int (lo+i)) :: ρ) D n i ys (Pv D (i+1)) H)
  (hd:∀D ys H,Pv D n ys H->Q (.ref D) H):xp 1 (mG 0) tt te ρ (Itr lo n) Q H1 :=
 wv Pv hsz h0 (λD i ys H _ p=>hl D i ys H p) (λD i ys H hi p=>hi) (λD ys H p=>VW _) (λD i v ys H H' τ hi hτ p y=>by
  obtain⟨t,rfl⟩:=uz hτ;obtain⟨e,y⟩:=y;subst e y;exact⟨⟨[_],rfl,rfl⟩,hs D i ys _ hi p⟩) hd
def xH{K:Nl}{te:TE}{ρ:St}(Pv:Addr->Nat->List V->Hp->Prop)(hsz:xs.length<=sizeLine)
  (h0:∀D H2,H1 D=none->Same H1 H2->H2 D=some (.lst [])->Pv D 0 [] H2)
  (hl:∀D i ys H,Pv D i ys H->SqT K H a xs/\H D=some (.lst ys)/\ys.length=i)
  (hs:∀D i v ys H,xs[i]?=some v->Pv D i ys H->te (some v :: ρ) H λy H3=>H3 D=some (.lst ys)/\CN xs.length i (Pv D (i+1) (ys++[y]) (upd H3 D (.lst (ys++[y])))))
  (hd:∀D ys H,Pv D xs.length ys H->Q (.ref D) H):xp 1 (mG 0) wT te ρ (Itt K a) Q H1:=iK Pv hsz h0 (λD i ys H p=>let⟨a1,a2,a3⟩:=hl D i ys H p;⟨a1,a2,Ud a3⟩) hs hd
def vE{K:Nl}{te:TE}{ρ:St}(Pv:Addr->Nat->List V->Hp->Prop)(hsz:xs.length<=sizeLine)
  (h0:∀D H2,H1 D=none->Same H1 H2->H2 D=some (.lst [])->Pv D 0 [] H2)
  (hl:∀D i ys H,Pv D i ys H->SqL K H a xs/\H D=some (.lst ys)/\ys.length=i)
  (hs:∀D i v ys H,xs[i]?=some v->Pv D i ys H->te (some v :: ρ) H λy H3=>H3 D=some (.lst ys)/\CN xs.length i (Pv D (i+1) (ys++[y]) (upd H3 D (.lst (ys++[y])))))
  (hd:∀D ys H,Pv D xs.length ys H->Q (.ref D) H):xp 1 (mG 0) wT te ρ (Itl K a) Q H1:=v3 Pv hsz h0 (λD i ys H p=>let⟨a1,a2,a3⟩:=hl D i ys H p;⟨a1,a2,Ud a3⟩) hs hd
def yD{te:TE}{ρ:St}(Pv:Addr->Nat->List V->Hp->Prop)(hsz:n<=sizeLine)
  (h0:∀D H2,H1 D=none->Same H1 H2->H2 D=some (.lst [])->Pv D 0 [] H2)
  (hl:∀D i ys H,Pv D i ys H->H D=some (.lst ys)/\ys.length=i)
  (hs:∀D i ys H,i<n->Pv D i ys H->te (some (.int (lo+i)) :: ρ) H λy H3=>H3 D=some (.lst ys)/\CN n i (Pv D (i+1) (ys++[y]) (upd H3 D (.lst (ys++[y])))))
  (hd:∀D ys H,Pv D n ys H->Q (.ref D) H):xp 1 (mG 0) wT te ρ (Itr lo n) Q H1:=nG Pv hsz h0 (λD i ys H p=>let⟨a1,a2⟩:=hl D i ys H p;⟨a1,Ud a2⟩) hs hd
section
variable {X:Cx}{N:GM}{scope:Nu}{cl:Ni}
def pz(k:CompOk X [x] N scope cl)(C:Addr)(s₀:Np)(H₀:Hp)(ex:GT):PG (zT X ([x]++N) scope cl C s₀ H₀ ex) (.Name x px) (mG 0) :=
 xt 0 k.nd rfl (.inl (lookup_relabel_local (k.mine x (VX.mpr rfl)))) (.inr (lookup_relabel_local (k.mine x (VX.mpr rfl))))
end
section
variable {X:Cx}
def ar(i j:Nat)(hc:X.calm=true)(hN:X.N.Nodup)(hi:X.N[i]?=some x:=by rfl)(hj:X.N[j]?=some y:=by rfl)(hx:Loc X.env.scope x:=by first|exact Or.inl rfl|exact Or.inr rfl)(hy:Loc X.env.scope y:=by first|exact Or.inl rfl|exact Or.inr rfl)
  (hf:X.fn x=true\/X.env.scope.names.lookup x=some .local:=by first|exact .inl rfl|exact .inr rfl) (hf':X.fn y=true\/X.env.scope.names.lookup y=some .local:=by first|exact .inl rfl|exact .inr rfl)
  (hn:(assignEach [.Name x p,.Name y p'] X.env).length=2:=by rfl) (BF:(assignEach [.Name x p,.Name y p'] X.env).findIdx? (·.1)=none:=by rfl)
  (hs:(assignEach [.Name x p,.Name y p'] X.env).map (·.2)=assign (.Name x p) X.env::(assignEach [.Name y p'] X.env).map (·.2):=by rfl) (J1:(assignEach [.Name y p'] X.env).map (·.2)=assign (.Name y p') X.env::(assignEach [] X.env).map (·.2):=by rfl) :
  PG X (.Tuple [.Name x p,.Name y p'] k pos) (mG2 X.K i j):=by
 intro pins s σ H v u Q I r h;obtain⟨a,x1,y1,rfl,hq,q⟩:=h;exact Zr hc (vQ (xt i hN hi hx hf) (vQ (xt j hN hj hy hf') kK J1) hs) hn BF pins s σ H _ u Q I r ⟨a,_,rfl,hq,rfl,x1,_,rfl,y1,_,rfl,rfl,q⟩
variable {N:GM}{scope:Nu}{cl:Ni}{AG iter:Nv}{AE:Nd}{ixs:Nf}{wi:TI}{tt:Addr->Shared->Hp->List Addr->TT}{te:Addr->Shared->Hp->List Addr->TE}{pos px py pp B2 pt:Pos}{x y z:Str}{kk:Nat}
def yd(k:CompOk X [x] N scope cl)(hc:X.calm=true)(hi:PI X (.Name x px) iter wi)(ht:∀(C:Addr)(s₀:Np)(H₀:Hp)(ex:GT),PIf (zT X ([x]++N) scope cl C s₀ H₀ ex) AE (tt C s₀ H₀ ex))
  (he:∀(C:Addr)(s₀:Np)(H₀:Hp)(ex:GT),PE (zT X ([x]++N) scope cl C s₀ H₀ ex) AG (te C s₀ H₀ ex)) (hx:ixs.map (λi=>X.N[i]?)=N.map some) (hs:∀x,foldedSetIterable iter X.env x=pure x:=by intro _;rfl) :
  PE X (.ListComp AG [⟨.Name x px,iter,AE,0⟩] scope pos) (vZ 1 ixs wi (mG 0) tt te):=ZO k hc hi (pz k) ht he hx hs
def xk(i:Nat)(hN:X.N.Nodup)(k:CompOk X [x] N scope cl)(hc:X.calm=true)(hi:PI X (.Name x px) iter wi)(ht:∀(C:Addr)(s₀:Np)(H₀:Hp)(ex:GT),PIf (zT X ([x]++N) scope cl C s₀ H₀ ex) AE (tt C s₀ H₀ ex))
  (he:∀(C:Addr)(s₀:Np)(H₀:Hp)(ex:GT),PE (zT X ([x]++N) scope cl C s₀ H₀ ex) AG (te C s₀ H₀ ex)) (hx:ixs.map (λi=>X.N[i]?)=N.map some) (hy:X.N[i]?=some z:=by rfl) (EI:X.env.scope.names.lookup z=some .local:=by rfl)
  (GA:swapsWith (.ListComp AG [⟨.Name x px,iter,AE,0⟩] scope pos) (some (.Name z pt)) B2.line X.env=pure true:=by rfl) (hs:∀x,foldedSetIterable iter X.env x=pure x:=by intro _;rfl) :
  PS X (.Assign [.Name z pt] (.ListComp AG [⟨.Name x px,iter,AE,0⟩] scope pos) B2) (sr i (vZ 1 ixs wi (mG 0) tt te)):=iq i hN k hc hi (pz k) ht he hx hy EI GA hs
end
end My
namespace My
open PySem PySem.Spec L2
open PyProof.Rows hiding St
variable{bs:Nc}{i:Nat}{gi:Int->Int->Int}{gb:List Bool->Bool}{H:Hp}{Q:VK}
section
variable {X:Cx}
theorem yU:∀{bs:List Bool}{us:List Value},Vals (bs.map V.bl) us->us=bs.map Value.bool
 |[],us,r=>by cases r;rfl
 |b::bs,us,r=>by
  rw[List.map_cons]at r;cases r with
  |cons r1 r2 =>
   have e:_=Value.bool b:=r1;rw[e,yU r2]
   rfl
def dR(hi:i<bs.length)(h:∀j,j<=bs.length-1->b2i (bs.getD i false)<=b2i (bs.getD j false)):bs.getD i false=bs.all id:=by
 cases e:bs.all id with
 |true =>
  rw[Vf]at e;have:=e (bs[i]) (Ua hi);simpa[Vr,hi]using this
 |false =>
  rw[List.all_eq_false]at e;obtain⟨x,hx,hn⟩:=e;obtain⟨j,hj,rfl⟩:=List.mem_iff_getElem.mp hx;have h1:=h j (by lia);have e2:bs.getD j false=false:=by simpa[Vr,hj]using hn
  rw[e2]at h1;cases e3:bs.getD i false with
  |false=>rfl
  |true=>rw[e3]at h1;exact absurd h1 (by decide)
def dS(hi:i<bs.length)(h:∀j,j<=bs.length-1->b2i (bs.getD j false)<=b2i (bs.getD i false)):bs.getD i false=bs.any id:=by
 cases e:bs.any id with
 |false =>
  rw[List.any_eq_false]at e;have:=e (bs[i]) (Ua hi);simpa[Vr,hi]using this
 |true =>
  rw[UW]at e;obtain⟨x,hx,hn⟩:=e;obtain⟨j,hj,rfl⟩:=List.mem_iff_getElem.mp hx;have h1:=h j (by lia);have e2:bs.getD j false=true:=by simpa[Vr,hj]using hn
  rw[e2]at h1;cases e3:bs.getD i false with
  |true=>rfl
  |false=>rw[e3]at h1;exact absurd h1 (by decide)
def mMM(gi:Int->Int->Int)(gb:List Bool->Bool)(K:W.Frag):List V->Hp->VK->Prop:=λxs H Q=>match xs with
 |[.int i,.int j]=>Q (.int (gi i j)) H
 |[.ref p]=>∃bs:List Bool,SqL K H p (bs.map V.bl)/\0<bs.length/\Q (.bl (gb bs)) H
 |_=>False
def aq(hc:X.calm=true):xo X (.builtin "min") (mMM (λi j=>if j<i then j else i) (λbs=>bs.all id) X.K):=by
 intro pins s σ H xs us Q I r h
 match xs,h with
 |[.int i,.int j],h=>exact iH hc pins s σ H _ us Q I r ⟨i,j,rfl,h⟩
 |[.ref p],h =>
  obtain⟨bs,hq,Be,q⟩:=(show∃bs:List Bool,SqL X.K H p (bs.map V.bl)/\0<bs.length/\Q (.bl (bs.all id)) H from h)
  obtain⟨u,rfl,rx⟩:=xM r;cases rx;obtain⟨Af,rv,pl,hz⟩:=I.list hq;have e:=yU rv;subst e;have A3:p<s.heap.objs.size:=by obtain⟨o,e,_⟩:=pl.isList;exact VV e
  refine call_min_walk (Uk pl.isList ?_);refine⟨s.heap.objs.size,_,_,_,_,_,λi j=>decide (b2i (bs.getD i false)<b2i (bs.getD j false)),rfl,Walks.list (A:=X.A.in1) (I.ok.hd hc) _ p (VD A3) (bs.map Value.bool).toArray,⟨⟨_,VS _ rfl,rfl,rfl⟩,pl.isList.push _⟩,λb hb=>?_,by simpa using Be,?_,λv h' tk hP hk=>?_⟩
  ·show b<(s.heap.push _).objs.size;rw[Vk];rcases VI.mp hb with rfl|hb
   ·exact UI _
   ·rw[VX.mp hb];exact Uy A3
  ·intro i j vi vj s' Q' E' hi hj hQ;have ei:vi = .bool (bs.getD i false):=by
    have:(bs[i]?).map Value.bool=some vi:=by simpa using hi
    cases e:bs[i]? with
    |none=>rw[e]at this;cases this
    |some b=>rw[e]at this;rw[Vr,e];exact(V3 this).symm
   have ej:vj = .bool (bs.getD j false):=by
    have:(bs[j]?).map Value.bool=some vj:=by simpa using hj
    cases e:bs[j]? with
    |none=>rw[e]at this;cases this
    |some b=>rw[e]at this;rw[Vr,e];exact(V3 this).symm
   subst ei ej;exact lt_bool hQ
  ·obtain⟨h1,h2⟩:=argBest_lt (λi=>b2i (bs.getD i false)) ((bs.map Value.bool).toArray.size-1);have hsz:(bs.map Value.bool).toArray.size=bs.length:=by simp
   rw[hsz]at h1 h2 hP;have hb:=dR (bs:=bs) (i:=argBest (λi j=>decide (b2i (bs.getD i false)<b2i (bs.getD j false))) (bs.length-1)) (by lia) (λj hj=>h2 j hj);have ev:v = .bool (bs.all id):=by
    have h3:(bs[argBest (λi j=>decide (b2i (bs.getD i false)<b2i (bs.getD j false))) (bs.length-1)]?).map Value.bool=some v:=by simpa using hP
    rw[Vr]at hb;cases e:bs[argBest (λi j=>decide (b2i (bs.getD i false)<b2i (bs.getD j false))) (bs.length-1)]? with
    |none=>rw[e]at h3;cases h3
    |some b=>rw[e]at h3 hb;rw[<-hb];exact(V3 h3).symm
   subst ev;refine⟨.bl (bs.all id),H,?_,rfl,q⟩;exact I.kept λb o e=>hk b o (λz=>absurd (VV e) (by rw[VX.mp z];exact Vj _)) (WB _ e)
def ao(hc:X.calm=true):xo X (.builtin "max") (mMM (λi j=>if j>i then j else i) (λbs=>bs.any id) X.K):=by
 intro pins s σ H xs us Q I r h
 match xs,h with
 |[.int i,.int j],h=>exact iG hc pins s σ H _ us Q I r ⟨i,j,rfl,h⟩
 |[.ref p],h =>
  obtain⟨bs,hq,Be,q⟩:=(show∃bs:List Bool,SqL X.K H p (bs.map V.bl)/\0<bs.length/\Q (.bl (bs.any id)) H from h)
  obtain⟨u,rfl,rx⟩:=xM r;cases rx;obtain⟨Af,rv,pl,hz⟩:=I.list hq;have e:=yU rv;subst e;have A3:p<s.heap.objs.size:=by obtain⟨o,e,_⟩:=pl.isList;exact VV e
  refine call_max_walk (Uk pl.isList ?_);refine⟨s.heap.objs.size,_,_,_,_,_,λi j=>decide (b2i (bs.getD i false)>b2i (bs.getD j false)),rfl,Walks.list (A:=X.A.in1) (I.ok.hd hc) _ p (VD A3) (bs.map Value.bool).toArray,⟨⟨_,VS _ rfl,rfl,rfl⟩,pl.isList.push _⟩,λb hb=>?_,by simpa using Be,?_,λv h' tk hP hk=>?_⟩
  ·show b<(s.heap.push _).objs.size;rw[Vk];rcases VI.mp hb with rfl|hb
   ·exact UI _
   ·rw[VX.mp hb];exact Uy A3
  ·intro i j vi vj s' Q' E' hi hj hQ;have ei:vi = .bool (bs.getD i false):=by
    have:(bs[i]?).map Value.bool=some vi:=by simpa using hi
    cases e:bs[i]? with
    |none=>rw[e]at this;cases this
    |some b=>rw[e]at this;rw[Vr,e];exact(V3 this).symm
   have ej:vj = .bool (bs.getD j false):=by
    have:(bs[j]?).map Value.bool=some vj:=by simpa using hj
    cases e:bs[j]? with
    |none=>rw[e]at this;cases this
    |some b=>rw[e]at this;rw[Vr,e];exact(V3 this).symm
   subst ei ej;exact gt_bool hQ
  ·obtain⟨h1,h2⟩:=argBest_gt (λi=>b2i (bs.getD i false)) ((bs.map Value.bool).toArray.size-1);have hsz:(bs.map Value.bool).toArray.size=bs.length:=by simp
   rw[hsz]at h1 h2 hP;have hb:=dS (bs:=bs) (i:=argBest (λi j=>decide (b2i (bs.getD i false)>b2i (bs.getD j false))) (bs.length-1)) (by lia) (λj hj=>h2 j hj);have ev:v = .bool (bs.any id):=by
    have h3:(bs[argBest (λi j=>decide (b2i (bs.getD i false)>b2i (bs.getD j false))) (bs.length-1)]?).map Value.bool=some v:=by simpa using hP
    rw[Vr]at hb;cases e:bs[argBest (λi j=>decide (b2i (bs.getD i false)>b2i (bs.getD j false))) (bs.length-1)]? with
    |none=>rw[e]at h3;cases h3
    |some b=>rw[e]at h3 hb;rw[<-hb];exact(V3 h3).symm
   subst ev;refine⟨.bl (bs.any id),H,?_,rfl,q⟩;exact I.kept λb o e=>hk b o (λz=>absurd (VV e) (by rw[VX.mp z];exact Vj _)) (WB _ e)
theorem YC{K:Nl}{i j:Int}:mMM gi gb K [.int i,.int j] H Q=Q (.int (gi i j)) H:=rfl
theorem YD{K:Nl}{p:Addr}:mMM gi gb K [.ref p] H Q=(∃bs:List Bool,SqL K H p (bs.map V.bl)/\0<bs.length/\Q (.bl (gb bs)) H):=rfl
theorem rz:∀{ss:List Str}{us:List Value},Vals (ss.map V.str) us->StrsAre us ss
 |[],us,r=>by cases r;exact .nil
 |x::ss,us,r=>by
  rw[List.map_cons]at r;cases r with
  |cons r1 r2 =>
   obtain⟨t,rfl⟩:=r1;exact .cons x t (rz r2)
theorem rZ:∀{us:List Value}{ss:List Str},StrsAre us ss->Vals (ss.map V.str) us
 |_,_,.nil=>.nil
 |_,_,.cons x t h=>.cons ⟨t,rfl⟩ (rZ h)
end
end My
namespace My
open PySem PySem.Spec L2
open PyProof.Rows hiding St
def zZ:bootBuiltins "len"=some (.builtin "len"):=by decide +kernel
def dW:bootBuiltins "max"=some (.builtin "max"):=by decide +kernel
def dX:bootBuiltins "min"=some (.builtin "min"):=by decide +kernel
def iC:bootBuiltins "sorted"=some (.builtin "sorted"):=by decide +kernel
def zg:bootBuiltins "isinstance"=some (.builtin "isinstance"):=by decide +kernel
def ji:bootBuiltins "list"=some (.type "list"):=by decide +kernel
def yo:bootBuiltins "tuple"=some (.type "tuple"):=by decide +kernel
def Y1:bootBuiltins "set"=some (.type "set"):=by decide +kernel
def uk:bootBuiltins "int"=some (.type "int"):=by decide +kernel
def uA:bootBuiltins "bool"=some (.type "bool"):=by decide +kernel
theorem w01:decide (("letter":Str)=("not":Str))=false:=by decide +kernel
theorem w02:decide (("letter":Str)=("and":Str))=false:=by decide +kernel
theorem w03:decide (("letter":Str)=("or":Str))=false:=by decide +kernel
theorem w04:decide (("letter":Str)=("if":Str))=false:=by decide +kernel
theorem w10:decide (("not":Str)=("letter":Str))=false:=by decide +kernel
theorem w12:decide (("not":Str)=("and":Str))=false:=by decide +kernel
theorem w13:decide (("not":Str)=("or":Str))=false:=by decide +kernel
theorem w14:decide (("not":Str)=("if":Str))=false:=by decide +kernel
theorem w20:decide (("and":Str)=("letter":Str))=false:=by decide +kernel
theorem w21:decide (("and":Str)=("not":Str))=false:=by decide +kernel
theorem w23:decide (("and":Str)=("or":Str))=false:=by decide +kernel
theorem w24:decide (("and":Str)=("if":Str))=false:=by decide +kernel
theorem w30:decide (("or":Str)=("letter":Str))=false:=by decide +kernel
theorem w31:decide (("or":Str)=("not":Str))=false:=by decide +kernel
theorem w32:decide (("or":Str)=("and":Str))=false:=by decide +kernel
theorem w34:decide (("or":Str)=("if":Str))=false:=by decide +kernel
theorem w40:decide (("if":Str)=("letter":Str))=false:=by decide +kernel
theorem w41:decide (("if":Str)=("not":Str))=false:=by decide +kernel
theorem w42:decide (("if":Str)=("and":Str))=false:=by decide +kernel
theorem w43:decide (("if":Str)=("or":Str))=false:=by decide +kernel
inductive Op2|con|dis|imp
def Op2.word:Op2->Str
 | .con=>"and"
 | .dis=>"or"
 | .imp=>"if"
def Op2.so:Op2->Bool->Bool->Bool
 | .con,a,b=>a&&b
 | .dis,a,b=>a||b
 | .imp,a,b=>!a||b
inductive Say
 |letter (x:Str)
 |neg (s:Say)
 |bin (o:Op2) (s t:Say)
abbrev N3:=List Say
def Say.pieces:Say->Nat
 | .letter _=>1
 | .neg s=>s.pieces+1
 | .bin _ s t=>s.pieces+t.pieces+1
theorem Say.pieces_pos:∀s:Say,0<s.pieces
 | .letter _=>Nat.one_pos
 | .neg _=>S6 _
 | .bin _ _ _=>S6 _
def Say.letters:Say->List Str
 | .letter x=>[x]
 | .neg s=>s.letters
 | .bin _ s t=>s.letters++t.letters
def Say.so(hs:List Str):Say->Bool
 | .letter x=>hs.any λy=>y==x
 | .neg s=>!s.so hs
 | .bin o s t=>o.so (s.so hs) (t.so hs)
def SayAt(K:W.Frag)(H:Hp):V->Say->Prop
 |v,.letter x=>∃a,v = .ref a/\SqT K H a [.str "letter",.str x]
 |v,.neg s=>∃a u,v = .ref a/\SqT K H a [.str "not",u]/\SayAt K H u s
 |v,.bin o s t=>∃a u u',v = .ref a/\SqT K H a [.str o.word,u,u']/\SayAt K H u s/\SayAt K H u' t
theorem SayAt.mono{K:W.Frag}{H H':Hp}(t:Tups H H'):∀{s:Say}{v:V},SayAt K H v s->SayAt K H' v s
 | .letter x,v,⟨a,e,h⟩=>⟨a,e,t.sqT h⟩
 | .neg s,v,⟨a,u,e,h,h1⟩=>⟨a,u,e,t.sqT h,SayAt.mono t h1⟩
 | .bin o s r,v,⟨a,u,u',e,h,h1,h2⟩=>⟨a,u,u',e,t.sqT h,SayAt.mono t h1,SayAt.mono t h2⟩
def nA(hs:GM):(hs.map V.str).all xI=true:=by
 rw[Vf];intro x hx;obtain⟨y,_,rfl⟩:=VC.mp hx
 rfl
def uC(x:Str)(hs:GM):inV (.str x) (hs.map V.str)=hs.any λy=>y==x:=by
 unfold inV;rw[List.any_map]
 rfl
def c9(x:Str):PyData.strOk x=true↔∀c∈x.cps.toList,c<0x110000:=by
 unfold PyData.strOk;rw[<-Array.all_toList,Vf];exact⟨λh c hc=>V9 (h c hc),λh c hc=>VT (h c hc)⟩
def Nm(x:Str):Prop:=x.length<=20/\PyData.strOk x=true
theorem qo(K:W.Frag)(H:Hp):∀ss:List Str,HasL K H (ss.map V.str) (ss.map PyData.str)
 |[]=>by simp[HasL]
 |x::ss=>by
  have ih:=qo K H ss;rw[List.map_cons,List.map_cons];unfold HasL;exact⟨_,_,rfl,by unfold Has;rfl,ih⟩
def wK{d:PyData}(h:SeqAt.shaped d=true):PyData.eqv d d=true:=SeqAt.eqv_refl d (SeqAt.canLay_of_shaped h)
def zO:Int->List Str->List Str
 |_,[]=>[]
 |n,x::r=>if n % 2=1 then x::zO (n / 2) r else zO (n / 2) r
def zB{P:Nn}{w:No}{K:Nl}{mg:FB}{base:Nw}{x:Str}{st:Nx}{ps:GM}{sp:Sp}(F:Def K mg x st ps)(no:∀vs H Q E,¬sp vs H Q E):zq P w K mg base 0 x ps sp:=by
 obtain⟨f,fd,F,b,hm⟩:=F.ex;exact⟨f,fd,⟨λvs H Q E h=>absurd h (no vs H Q E),λA outer s H args us vs Q E _ _ _ _ h=>absurd h (no vs H Q E)⟩,.all b,F.kp,hm⟩
end My
namespace My
open PySem
namespace Tb
open PySem.SetTable
variable{d e i i' j m:Nat}{l:Nf}
def av(m:Nat)(p:Probe):Probe :=
 if p.more>0 then{ p with j:=p.j+1,more:=p.more-1 }else
 { p with j:=(leap m p.i p.perturb).1,more:=runEnd m (leap m p.i p.perturb).1-(leap m p.i p.perturb).1,i:=(leap m p.i p.perturb).1,perturb:=(leap m p.i p.perturb).2 }
def sN(t:SetTable)(p:Probe):t.advance p=av t.mask p:=rfl
def itr(m:Nat):Nat->Probe->Probe
 |0,p=>p
 |k+1,p=>itr m k (av m p)
theorem uF(m:Nat):∀(a b:Nat)(p:Probe),itr m (a+b) p=itr m b (itr m a p)
 |0,b,p=>by rw[S5];rfl
 |a+1,b,p=>by
  rw[show a+1+b=(a+b)+1 by lia];exact uF m a b (av m p)
def sg(m k:Nat)(p:Probe):itr m (k+1) p=av m (itr m k p):=uF m k 1 p
def hd(m i p:Nat):Probe:={ j:=i,more:=runEnd m i-i,i:=i,perturb:=p,dummy:=none }
def st0(m:Nat)(h:Int):Probe:=hd m (bits h % (m+1)) (bits h)
theorem gA(m:Nat):∀(r j i p:Nat)(d:Option Nat),itr m r { j:=j,more:=r,i:=i,perturb:=p,dummy:=d }={ j:=j+r,more:=0,i:=i,perturb:=p,dummy:=d }
 |0,_,_,_,_=>rfl
 |r+1,j,i,p,d=>by
  show itr m r (av m { j:=j,more:=r+1,i:=i,perturb:=p,dummy:=d })=_;have e:av m { j:=j,more:=r+1,i:=i,perturb:=p,dummy:=d }={ j:=j+1,more:=r,i:=i,perturb:=p,dummy:=d }:=by
   unfold av;simp
  rw[e,gA m r,show j+1+r=j+(r+1)by lia]
def kQ(m i p:Nat):itr m (runEnd m i-i+1) (hd m i p)=hd m (leap m i p).1 (leap m i p).2:=by
 rw[sg];unfold hd;rw[gA]
 rfl
def ci(m i:Nat):runEnd m i-i+1<=10:=by
 unfold runEnd;split<;>lia
def lp(m:Nat):Nat->Nat×Nat->Nat×Nat
 |0,x=>x
 |n+1,x=>lp m n (leap m x.1 x.2)
theorem eE(m:Nat):∀(n:Nat)(x:Nat×Nat),∃k,k<=10*n/\itr m k (hd m x.1 x.2)=hd m (lp m n x).1 (lp m n x).2
 |0,x=>⟨0,VW _,rfl⟩
 |n+1,x=>by
  obtain⟨k,hk,e⟩:=eE m n (leap m x.1 x.2);refine⟨runEnd m x.1-x.1+1+k,by have:=ci m x.1;lia,?_⟩;rw[uF,kQ];exact e
theorem pe(m:Nat):∀(a b:Nat)(x:Nat×Nat),lp m (a+b) x=lp m b (lp m a x)
 |0,b,x=>by rw[S5];rfl
 |a+1,b,x=>by
  rw[show a+1+b=(a+b)+1 by lia];exact pe m a b (leap m x.1 x.2)
theorem lY(m:Nat):∀(n:Nat)(x:Nat×Nat),(lp m n x).2=x.2 / 32 ^ n
 |0,x=>by simp[lp]
 |n+1,x=>by
  show(lp m n (leap m x.1 x.2)).2=_;rw[lY m n];show x.2 / 32 / 32 ^ n=_;rw[Nat.div_div_eq_div_mul,Nat.pow_succ,Nat.mul_comm]
def jh(h:Int):bits h<2 ^ 64:=by
 unfold bits;have h1:0<=h % (2 ^ 64:Int):=Tn _ (by decide);have h2:h % (2 ^ 64:Int)<2 ^ 64:=TW _ (by decide);lia
def cy(m:Nat):Nat->Nat->Nat
 |0,i=>i
 |n+1,i=>cy m n ((i*5+1) % (m+1))
theorem pN(m:Nat):∀(a b i:Nat),cy m (a+b) i=cy m b (cy m a i)
 |0,b,i=>by rw[S5];rfl
 |a+1,b,i=>by
  rw[show a+1+b=(a+b)+1 by lia];exact pN m a b _
theorem eC(m:Nat):∀(n i:Nat),lp m n (i,0)=(cy m n i,0)
 |0,_=>rfl
 |n+1,i=>by
  show lp m n (leap m i 0)=_;have e:leap m i 0=((i*5+1) % (m+1),0):=by unfold leap;simp
  rw[e,eC m n]
  rfl
def ae(m:Nat)(n:Nat)(x:Nat×Nat):(lp m (n+1) x).1<=m:=by
 rw[pe];show(leap m (lp m n x).1 (lp m n x).2).1<=m;unfold leap;exact Nat.le_of_lt_succ (Nat.mod_lt _ (S6 m))
def Mk(m:Nat):Prop:=m=7\/m=31\/m=127
def Zm(m:Nat):Bool:=(cy m (m+1) 0==0)&&(List.range (m+1)).all λe=>(List.range (m+1)).any λa=>cy m a 0==e
def We:Zm 7=true:=by decide +kernel
def orb(hm:Mk m):cy m (m+1) 0=0/\∀e,e<=m->∃a,a<=m/\cy m a 0=e:=by
 have h:Zm m=true:=by rcases hm with rfl|rfl|rfl<;>first|exact We|exact orb31|exact orb127
 unfold Zm at h;rw[Vy,Vf]at h;refine⟨by simpa using h.1,λe he=>?_⟩;have:=h.2 e (Vc.mpr (by lia));rw[UW]at this;obtain⟨a,ha,e'⟩:=this;exact⟨a,by have:=Vc.mp ha;lia,by simpa using e'⟩
def aX(hm:Mk m)(hi:i<=m)(he:e<=m):∃k,k<=m/\cy m k i=e:=by
 obtain⟨h0,h1⟩:=orb hm;obtain⟨a,ha,rfl⟩:=h1 i hi;obtain⟨b,hb,rfl⟩:=h1 e he
 by_cases EU:a<=b
 ·refine⟨b-a,by lia,?_⟩;rw[<-pN,show a+(b-a)=b by lia]
 ·refine⟨b+(m+1)-a,by lia,?_⟩;rw[<-pN,show a+(b+(m+1)-a)=(m+1)+b by lia,pN,h0]
def pos(m:Nat)(h:Int)(k:Nat):Nat:=(itr m k (st0 m h)).j
def YQ(hm:Mk m)(h:Int)(he:e<=m):∃k,k<=10*(m+13)/\pos m h k=e:=by
 have h13:lp m 13 (bits h % (m+1),bits h)=((lp m 13 (bits h % (m+1),bits h)).1,0):=by
  have:(lp m 13 (bits h % (m+1),bits h)).2=0:=by
   rw[lY];exact Nat.div_eq_of_lt (Nat.lt_trans (jh h) (by decide))
  exact Prod.ext rfl this
 obtain⟨k,hk,ek⟩:=aX hm (ae m 12 (bits h % (m+1),bits h)) he;obtain⟨r,hr,er⟩:=eE m (13+k) (bits h % (m+1),bits h);refine⟨r,by lia,?_⟩;unfold pos st0;rw[er,pe,h13,eC];exact ek
def XQ{P:Nat->Prop}:∀n:Nat,P n->∃k,k<=n/\P k/\∀k',k'<k->¬P k':=by
 intro n
 induction n using Nat.strongRecOn with
 |_ n ih =>
  intro h
  by_cases hc:∃k',k'<n/\P k'
  ·obtain⟨k',hk,hp⟩:=hc;obtain⟨k,h1,h2,h3⟩:=ih k' hk hp;exact⟨k,by lia,h2,h3⟩
  ·exact⟨n,VW _,h,λk' hk hp=>hc ⟨k',hk,hp⟩⟩
theorem mO:∀(n:Nat)(l:List Nat),(∀e,e<n->e∈l)->n<=l.length
 |0,_,_=>V5 _
 |n+1,l,h=>by
  have hn:=h n (UI n);have h1:=mO n (l.erase n) λe he=>(List.mem_erase_of_ne (by lia)).mpr (h e (by lia));rw[List.length_erase_of_mem hn]at h1;have:=SG hn;lia
def lM(hm:Mk m)(h:Int)(hl:l.length<=m):∃K,K<=10*(m+13)/\pos m h K∉l/\∀k,k<K->pos m h k∈l:=by
 have hex:∃e,e<=m/\e∉l:=by
  by_cases hc:∃e,e<=m/\e∉l
  ·exact hc
  ·exfalso;have:=mO (m+1) l λe he=>UN λhn=>hc ⟨e,by lia,hn⟩;lia
 obtain⟨e,he,hn⟩:=hex;obtain⟨k,hk,ek⟩:=YQ hm h he;obtain⟨K,h1,h2,h3⟩:=XQ (P:=λk=>pos m h k∉l) k (by rw[ek];exact hn);exact⟨K,by lia,h2,λk' B0=>UN λhc=>h3 k' B0 hc⟩
def v8(hr:l.Pairwise (·<·))(h:i<i')(h':i'<l.length):l.toArray.getD i d<l.toArray.getD i' d:=by
 have:=UX.mp hr i i' (by lia) h' h;simpa[Array.getD,h',show i<l.length by lia]using this
theorem sT{l:List Nat}(hr:l.Pairwise (·<·))(j:Nat):∀(D8 lo hi:Nat),hi<=l.length->lo<=hi->hi-lo<=D8->(∀i,i<lo->l.toArray.getD i j<j)->(∀i,hi<=i->i<l.length->j<=l.toArray.getD i j) ->
  below.go l.toArray j D8 lo hi<=l.length/\(∀i,i<below.go l.toArray j D8 lo hi->l.toArray.getD i j<j)/\(∀i,below.go l.toArray j D8 lo hi<=i->i<l.length->j<=l.toArray.getD i j)
 |0,lo,hi,h1,h2,h3,h4,h5=>by
  unfold below.go;exact⟨by lia,h4,λi Go=>h5 i (by lia)⟩
 |f+1,lo,hi,h1,h2,h3,h4,h5=>by
  unfold below.go
  by_cases A3:lo<hi
  ·rw[VB A3];dsimp only
   by_cases hc:l.toArray.getD ((lo+hi) / 2) j<j
   ·rw[VB hc];refine sT hr j f _ _ h1 (by lia) (by lia) (λi Go=>?_) h5
    by_cases e:i=(lo+hi) / 2
    ·rw[e];exact hc
    ·exact Nat.lt_trans (v8 hr (by lia) (by lia)) hc
   ·rw[VF hc];refine sT hr j f _ _ (by lia) (by lia) (by lia) h4 (λi Go hl=>?_)
    by_cases e:i=(lo+hi) / 2
    ·rw[e];exact T4.mp hc
    ·exact Vz (T4.mp hc) (UQ (v8 hr (by lia) hl))
  ·rw[VF A3];exact⟨by lia,h4,λi Go=>h5 i (by lia)⟩
def wa(hr:l.Pairwise (·<·))(j:Nat):below l.toArray j<=l.length/\(∀i,i<below l.toArray j->l.toArray.getD i j<j)/\(∀i,below l.toArray j<=i->i<l.length->j<=l.toArray.getD i j):=by
 unfold below;have hs:l.toArray.size=l.length:=VO;rw[hs];exact sT hr j l.length 0 l.length (VW _) (V5 _) (by lia) (λi hi=>by lia) (λi h1 h2=>by lia)
def v7(h:i<l.length):l.toArray.getD i d=l[i]:=by simp[Array.getD,h]
def iB(hr:l.Pairwise (·<·))(h:j∈l):l[below l.toArray j]?=some j:=by
 obtain⟨b1,b2,b3⟩:=wa hr j;obtain⟨i,hi,e⟩:=T3 h;have h1:¬i<below l.toArray j:=λz=>by
  have:=b2 i z;rw[v7 hi,e]at this;lia
 have h2:¬below l.toArray j<i:=λz=>by
  have h3:=b3 (below l.toArray j) (VW _) (by lia);have h4:=v8 (d:=j) hr z hi;rw[v7 hi,e]at h4;lia
 have:below l.toArray j=i:=by lia
 rw[this,V2 hi,e]
def lB(hr:l.Pairwise (·<·)):(∀x∈l.take (below l.toArray j),x<j)/\(∀x∈l.drop (below l.toArray j),j<=x):=by
 obtain⟨b1,b2,b3⟩:=wa hr j;constructor
 ·intro x hx;obtain⟨i,hi,e⟩:=T3 hx;rw[Vw]at hi;have:=b2 i (by lia);rw[v7 (by lia)]at this;rw[List.getElem_take]at e;lia
 ·intro x hx;obtain⟨i,hi,e⟩:=T3 hx;rw[V1]at hi;have:=b3 (below l.toArray j+i) (by lia) (by lia);rw[v7 (by lia)]at this;rw[List.getElem_drop]at e;lia
def jX(hr:l.Pairwise (·<·))(hj:j∉l):(l.take (below l.toArray j)++j::l.drop (below l.toArray j)).Pairwise (·<·):=by
 obtain⟨h1,h2⟩:=lB hr (j:=j);have hd:∀x∈l.drop (below l.toArray j),j<x:=λx hx=>by
  have:=h2 x hx;have Be:x≠j:=λe=>hj (e▸Uz hx);lia
 refine List.pairwise_append.mpr ⟨hr.sublist (List.take_sublist _ _),Tu.mpr ⟨hd,hr.sublist (List.drop_sublist _ _)⟩,λa ha b hb=>?_⟩;rcases VI.mp hb with rfl|hb
 ·exact h1 a ha
 ·exact Nat.lt_trans (h1 a ha) (hd b hb)
end Tb
end My
namespace My
open PySem
namespace Tb
open PySem.SetTable
variable{j:Nat}{α β:Type}
structure Rep(L:List (Nat×(Int×Value)))(es:Array (Int×Value))(t:SetTable):Prop where
 es:es=(L.map (·.2)).toArray
 pl:t.place=(L.map (·.1)).toArray
 dm:t.dummies=#[]
 up:(L.map (·.1)).Pairwise (·<·)
 pa:∀x∈L,∃k,pos t.mask x.2.1 k=x.1/\∀k',k'<k->pos t.mask x.2.1 k'∈L.map (·.1)
 mz:Mk t.mask
 fl:L.length<=t.mask
variable {L:List (Nat×(Int×Value))}{es:Array (Int×Value)}{t:SetTable}
theorem Rep.fits(r:Rep L es t):t.fits es.size=true:=by
 unfold SetTable.fits SetTable.fill;rw[r.pl,r.es,r.dm];simpa using r.fl
def Rep.odd(r:Rep L es t):t.gaveWay=false:=by
 unfold SetTable.gaveWay;rcases r.mz with e|e|e<;>rw[e]<;>rfl
def v9(j:Nat):has #[] j=false:=by unfold has;simp
def Rep.slot_live(r:Rep L es t)(h:j∈L.map (·.1)):∃i e,t.slot j = .live i/\L[i]?=some (j,e)/\es[i]?=some e:=by
 have hb:=iB r.up h;have hp:t.place[below t.place j]?=some j:=by rw[r.pl];simpa using hb
 rw[VA]at hb;cases hx:L[below (L.map (·.1)).toArray j]? with
 |none=>rw[hx]at hb;cases hb
 |some x =>
  rw[hx]at hb;have e1:x.1=j:=by simpa using hb
  refine⟨below t.place j,x.2,?_,?_,?_⟩
  ·unfold SetTable.slot;dsimp only;rw[hp];simp
  ·rw[r.pl,hx,<-e1]
  ·rw[r.es,r.pl];simp[hx]
def Rep.slot_free(r:Rep L es t)(h:j∉L.map (·.1)):t.slot j = .empty:=by
 unfold SetTable.slot;dsimp only;have hp:(t.place[below t.place j]?==some j)=false:=by
  rw[U8];intro e;rw[r.pl]at e;exact h (by
   have:=Array.mem_of_getElem? e;simpa using this)
 rw[hp,r.dm,v9];simp
theorem qt(m:Nat):∀(k:Nat)(p:Probe),(itr m k p).dummy=p.dummy
 |0,_=>rfl
 |k+1,p=>by
  rw[itr,qt m k];unfold av;split<;>rfl
theorem Rep.probe_go(r:Rep L es t){hashAt:Nat->Int}(hh:∀i e,es[i]?=some e->hashAt i=e.1)(h:Int){K:Nat}(hK:pos t.mask h K∉L.map (·.1))(hk:∀k,k<K->pos t.mask h k∈L.map (·.1)):∀(D8 m:Nat),m<=K->K-m<D8 ->
  (probe.go t hashAt h D8 (itr t.mask m (st0 t.mask h))=some (.empty (pos t.mask h K) none)/\∀k e,m<=k->k<K->(pos t.mask h k,e)∈L->e.1≠h) \/
  ∃k i v,m<=k/\k<K/\probe.go t hashAt h D8 (itr t.mask m (st0 t.mask h))=some (.candidate (pos t.mask h k) i (itr t.mask (k+1) (st0 t.mask h)))/\t.slot (pos t.mask h k) = .live i/\es[i]?=some (h,v)/\(pos t.mask h k,(h,v))∈L/\∀k' e,m<=k'->k'<k->(pos t.mask h k',e)∈L->e.1≠h
 |0,m,hm,hf=>by lia
 |f+1,m,hm,hf=>by
  unfold probe.go;have hj:(itr t.mask m (st0 t.mask h)).j=pos t.mask h m:=rfl;have hd:(itr t.mask m (st0 t.mask h)).dummy=none:=by rw[qt];rfl
  by_cases eK:m=K
  ·subst eK;rw[hj,r.slot_free hK];dsimp only;rw[hd];exact .inl ⟨rfl,λk e h1 h2=>by lia⟩
  ·have A3:m<K:=by lia
   obtain⟨i,el,hs,hL,he⟩:=r.slot_live (hk m A3);rw[hj,hs];dsimp only;have LA:∀e',(pos t.mask h m,e')∈L->e'=el:=λe' Lj=>by
    obtain⟨i',Go,e2⟩:=T3 Lj;have hL':=(VY.mp hL)
    obtain⟨hi,e3⟩:=hL';have:i'=i:=by
     rcases Th i' i with z|z|z
     ·have:=UX.mp r.up i' i (by simpa using Go) (by simpa using hi) z;simp[e2,e3]at this
     ·exact z
     ·have:=UX.mp r.up i i' (by simpa using hi) (by simpa using Go) z;simp[e2,e3]at this
    subst this;rw[e2]at e3;exact(Prod.mk.inj e3).2
   by_cases hc:(hashAt i==h)=true
   ·rw[VB hc];have Kt:el.1=h:=by rw[<-hh i el he];exact eq_of_beq hc
    refine .inr ⟨m,i,el.2,VW _,A3,?_,hs,?_,?_,λk' e h1 h2=>by lia⟩
    ·rw[sN,<-sg]
    ·rw[he,<-Kt]
    ·have e5:((h,el.2):Int×Value)=el:=Prod.ext Kt.symm rfl;rw[e5];exact VR hL
   ·rw[VF hc,sN,<-sg];have Kt:el.1≠h:=λz=>hc (by rw[hh i el he,z];simp);rcases Rep.probe_go r hh h hK hk f (m+1) (by lia) (by lia)with⟨a,b⟩|⟨k,i',v,a1,a2,a3,a4,a5,a6,a7⟩
    ·refine .inl ⟨a,λk e h1 h2 BG=>?_⟩
     by_cases z:k=m
     ·subst z;rw[LA e BG];exact Kt
     ·exact b k e (by lia) h2 BG
    ·refine .inr ⟨k,i',v,by lia,a2,a3,a4,a5,a6,λk' e h1 h2 BG=>?_⟩
     by_cases z:k'=m
     ·subst z;rw[LA e BG];exact Kt
     ·exact a7 k' e (by lia) h2 BG
def vk(f:α->β)(l:List α)(p:Nat)(x:α):(l.take p++x::l.drop p).map f=(l.map f).take p++f x::(l.map f).drop p:=by simp
def vt(l:List α)(p:Nat)(x:α):insertAt l.toArray p x=(l.take p++x::l.drop p).toArray:=by
 apply Ur.mp;rw[SetTable.toList_insertAt]
def ins(L:List (Nat×(Int×Value)))(j:Nat)(e:Int×Value):List (Nat×(Int×Value)):=L.take (below (L.map (·.1)).toArray j)++(j,e)::L.drop (below (L.map (·.1)).toArray j)
def mem_ins{e:Int×Value}{x:Nat×(Int×Value)}:x∈ins L j e↔x=(j,e)\/x∈L:=by
 unfold ins;rw[VQ,VI];constructor
 ·rintro(h|h|h)
  ·exact .inr (TF h)
  ·exact .inl h
  ·exact .inr (Uz h)
 ·rintro(h|h)
  ·exact .inr (.inl h)
  ·have:x∈L.take (below (L.map (·.1)).toArray j)++L.drop (below (L.map (·.1)).toArray j):=by rw[Uu];exact h
   rcases VQ.mp this with z|z
   ·exact .inl z
   ·exact .inr (.inr z)
def nW(j:Nat)(e:Int×Value):(ins L j e).Perm ((j,e)::L):=by
 unfold ins;refine List.perm_middle.trans ?_;rw[Uu]
theorem Rep.put(r:Rep L es t){h:Int}{x:Nq}{K:Nat}(hK:pos t.mask h K∉L.map (·.1))(hk:∀k,k<K->pos t.mask h k∈L.map (·.1))(hl:L.length+1<=t.mask):
  Rep (ins L (pos t.mask h K) (h,x)) (insertAt es (t.put (pos t.mask h K)).2 (h,x)) (t.put (pos t.mask h K)).1:=by
 have e1:(t.put (pos t.mask h K)).2=below (L.map (·.1)).toArray (pos t.mask h K):=by unfold SetTable.put;dsimp only;rw[r.pl]
 have e2:(t.put (pos t.mask h K)).1.mask=t.mask:=rfl;refine⟨?_,?_,?_,?_,?_,r.mz,?_⟩
 ·rw[e1,r.es,vt];unfold ins;rw[vk]
 ·unfold SetTable.put;dsimp only;rw[r.pl,vt];unfold ins;rw[vk]
 ·unfold SetTable.put;dsimp only;rw[r.dm,v9];simp
 ·unfold ins;rw[vk];exact jX r.up hK
 ·intro y hy;rw[e2];have sub:∀j,j∈L.map (·.1)->j∈(ins L (pos t.mask h K) (h,x)).map (·.1):=λj hj=>by
   obtain⟨z,hz,rfl⟩:=VC.mp hj;exact VC.mpr ⟨z,mem_ins.mpr (.inr hz),rfl⟩
  rcases mem_ins.mp hy with rfl|hy
  ·exact⟨K,rfl,λk' B0=>sub _ (hk k' B0)⟩
  ·obtain⟨k,h1,h2⟩:=r.pa y hy;exact⟨k,h1,λk' B0=>sub _ (h2 k' B0)⟩
 ·have:=(nW (L:=L) (pos t.mask h K) (h,x)).length_eq;rw[this];exact hl
end Tb
end My
namespace My
open PySem
namespace Tb
open PySem.SetTable
variable{e i k m n:Nat}{p:Nat->Bool}
def rM(h:i<=m):runEnd m i<=m:=by unfold runEnd;split<;>lia
def u6(m i:Nat):i<=runEnd m i:=by unfold runEnd;split<;>lia
theorem dq(m:Nat):∀(k:Nat)(p:Probe),p.j+p.more<=m->(itr m k p).j+(itr m k p).more<=m
 |0,_,h=>h
 |k+1,p,h=>by
  refine dq m k (av m p) ?_;unfold av;split
  ·show p.j+1+(p.more-1)<=m;lia
  ·have h1:(leap m p.i p.perturb).1<=m:=by unfold leap;exact Nat.le_of_lt_succ (Nat.mod_lt _ (S6 m))
   have h2:=rM h1;have h3:=u6 m (leap m p.i p.perturb).1;show(leap m p.i p.perturb).1+(runEnd m (leap m p.i p.perturb).1-(leap m p.i p.perturb).1)<=m;lia
def Zs(m:Nat)(h:Int)(k:Nat):pos m h k<=m:=by
 have h1:bits h % (m+1)<=m:=Nat.le_of_lt_succ (Nat.mod_lt _ (S6 m));have h2:=rM h1;have h3:=u6 m (bits h % (m+1));have:=dq m k (st0 m h) (by show bits h % (m+1)+(runEnd m (bits h % (m+1))-bits h % (m+1))<=m;lia);unfold pos;lia
theorem tN(m:Nat):∀(k r j i p:Nat)(d:Option Nat),k<=r->(itr m k { j:=j,more:=r,i:=i,perturb:=p,dummy:=d }).j=j+k
 |0,_,_,_,_,_,_=>rfl
 |k+1,r,j,i,p,d,h=>by
  show(itr m k (av m { j:=j,more:=r,i:=i,perturb:=p,dummy:=d })).j=_;have e:av m { j:=j,more:=r,i:=i,perturb:=p,dummy:=d }={ j:=j+1,more:=r-1,i:=i,perturb:=p,dummy:=d }:=by
   unfold av;rw[VB (by show r>0;lia)]
  rw[e,tN m k (r-1) (j+1) i p d (by lia)];lia
def iR(h:(List.range n).find? p=none):∀k,k<n->p k=false:=λk hk=>by
 have:=List.find?_eq_none.mp h k (Vc.mpr hk);simpa using this
def iS(h:(List.range n).find? p=some k):k<n/\p k=true/\∀k',k'<k->p k'=false:=by
 have h1:=List.find?_range_eq_some.mp h;refine⟨by simpa using h1.2.1,h1.1,λk' B0=>by simpa using h1.2.2 k' B0⟩
def fr(o:Array (Option Nat))(j:Nat):Bool:=(o.getD j (some 0)).isNone
theorem qj(m:Nat)(o:Array (Option Nat)):∀(f:Nat)(x:Nat×Nat)(n:Nat),n<f->fr o (lp m n x).1=true ->
  ∃k,layClean.free m o f x.1 x.2=some (itr m k (hd m x.1 x.2)).j/\fr o (itr m k (hd m x.1 x.2)).j=true/\∀k',k'<k->fr o (itr m k' (hd m x.1 x.2)).j=false
 |0,_,_,h,_=>by lia
 |f+1,x,n,hn,Kq=>by
  unfold layClean.free;have hre:=u6 m x.1;cases hc:(List.range (runEnd m x.1+1-x.1)).find? λk=>(o.getD (x.1+k) (some 0)).isNone with
  |some k =>
   obtain⟨h1,h2,h3⟩:=iS hc;have ep:∀k',k'<=k->(itr m k' (hd m x.1 x.2)).j=x.1+k':=λk' B0=>tN m k' _ _ _ _ _ (by lia);refine⟨k,?_,?_,λk' B0=>?_⟩
   ·dsimp only;rw[ep k (VW _)]
   ·rw[ep k (VW _)];exact h2
   ·rw[ep k' (by lia)];exact h3 k' B0
  |none =>
   have h1:=iR hc;have ep:∀k',k'<=runEnd m x.1-x.1->(itr m k' (hd m x.1 x.2)).j=x.1+k':=λk' B0=>tN m k' _ _ _ _ _ B0;cases n with
   |zero =>
    exfalso;have:=h1 0 (by lia);have h2:fr o x.1=true:=Kq;unfold fr at h2;rw[Nat.add_zero]at this;rw[this]at h2;cases h2
   |succ n =>
    obtain⟨k,e,a1,a2⟩:=qj m o f (leap m x.1 x.2) n (by lia) Kq;have er:∀k',itr m (runEnd m x.1-x.1+1+k') (hd m x.1 x.2)=itr m k' (hd m (leap m x.1 x.2).1 (leap m x.1 x.2).2):=λk'=>by rw[uF,kQ]
    refine⟨runEnd m x.1-x.1+1+k,?_,?_,λk' B0=>?_⟩
    ·rw[er];exact e
    ·rw[er];exact a1
    ·by_cases z:k'<runEnd m x.1-x.1+1
     ·rw[ep k' (by lia)];exact h1 k' (by lia)
     ·have:=a2 (k'-(runEnd m x.1-x.1+1)) (by lia);rw[<-er,show runEnd m x.1-x.1+1+(k'-(runEnd m x.1-x.1+1))=k' by lia]at this;exact this
def f8(hm:Mk m)(h:Int)(he:e<=m):∃n,n<turns m/\(lp m n (bits h % (m+1),bits h)).1=e:=by
 have h13:lp m 13 (bits h % (m+1),bits h)=((lp m 13 (bits h % (m+1),bits h)).1,0):=by
  have:(lp m 13 (bits h % (m+1),bits h)).2=0:=by
   rw[lY];exact Nat.div_eq_of_lt (Nat.lt_trans (jh h) (by decide))
  exact Prod.ext rfl this
 obtain⟨k,hk,ek⟩:=aX hm (ae m 12 (bits h % (m+1),bits h)) he;refine⟨13+k,by unfold turns;lia,?_⟩;rw[pe,h13,eC];exact ek
def lv(m:Nat)(o:Array (Option Nat)):List (Nat×Nat):=(List.range (m+1)).filterMap λj=>(o.getD j none).map (j,·)
theorem nO{α β:Type}{g g':α->Option β}:∀{l:List α},(∀a∈l,g' a=g a)->l.filterMap g'=l.filterMap g
 |[],_=>rfl
 |a::l,h=>by
  rw[Va,Va,h a VE,nO λb hb=>h b (VJ _ hb)]
theorem jq{β:Type}{g g':Nat->Option β}{j:Nat}{b:β}(hg:g j=none)(Mp:g' j=some b)(Be:∀a,a≠j->g' a=g a):∀{l:List Nat},l.Nodup->j∈l->(l.filterMap g').Perm (b::l.filterMap g)
 |[],_,h=>by simp at h
 |a::l,hn,h=>by
  rw[TL]at hn;rw[Va,Va]
  by_cases e:a=j
  ·subst e;rw[hg,Mp];dsimp only;rw[nO λc hc=>Be c λz=>hn.1 (z▸hc)]
  ·rw[Be a e];have hj:j∈l:=by
    rcases VI.mp h with z|z
    ·exact absurd z.symm e
    ·exact z
   have ih:=jq hg Mp Be hn.2 hj;cases g a with
   |none=>exact ih
   |some c=>exact(ih.cons c).trans (.swap _ _ _)
structure Laid(m:Nat)(hs:Nj)(o:Array (Option Nat))(Z:List (Nat×Nat)):Prop where
 sz:o.size=m+1
 pm:(lv m o).Perm Z
 ix:Z.map (·.2)=List.range hs.length
 fr:∀j,fr o j=true↔j<=m/\j∉Z.map (·.1)
 pa:∀z∈Z,∀h,hs[z.2]?=some h->∃k,pos m h k=z.1/\∀k',k'<k->pos m h k'∈Z.map (·.1)
def Laid.zero(m:Nat):Laid m [] (Array.replicate (m+1) none) []:=by
 refine⟨by simp,?_,rfl,λj=>?_,λz hz=>by simp at hz⟩
 ·unfold lv;have:(List.range (m+1)).filterMap (λj=>((Array.replicate (m+1) (none:Option Nat)).getD j none).map (j,·))=[]:=by
   rw[List.filterMap_eq_nil_iff];intro j hj;have GF:j<m+1:=Vc.mp hj;simp[Array.getD,GF]
  rw[this]
 ·unfold Tb.fr
  by_cases hj:j<m+1
  ·simp[Array.getD,hj];lia
  ·simp[Array.getD,hj];lia
def Laid.step{hs:Nj}{o:Array (Option Nat)}{Z:List (Nat×Nat)}(hm:Mk m)(la:Laid m hs o Z)(h:Int)(hl:hs.length+1<=m):
  ∃j,layClean.free m o (turns m) (bits h % (m+1)) (bits h)=some j/\Laid m (hs++[h]) (o.setIfInBounds j (some hs.length)) (Z++[(j,hs.length)]):=by
 have hZ:Z.length=hs.length:=by
  have:=Vp List.length la.ix;simpa using this
 have hex:∃e,e<=m/\e∉Z.map (·.1):=by
  by_cases hc:∃e,e<=m/\e∉Z.map (·.1)
  ·exact hc
  ·exfalso;have:=mO (m+1) (Z.map (·.1)) λe he=>UN λhn=>hc ⟨e,by lia,hn⟩;rw[WA]at this;lia
 obtain⟨e,he,hen⟩:=hex;obtain⟨n,hn,en⟩:=f8 hm h he;obtain⟨k,e1,e2,e3⟩:=qj m o (turns m) (bits h % (m+1),bits h) n hn (by rw[en];exact(la.fr e).mpr ⟨he,hen⟩);have GB:(itr m k (hd m (bits h % (m+1)) (bits h))).j=pos m h k:=rfl;rw[GB]at e1 e2;obtain⟨j1,j2⟩:=(la.fr _).mp e2;refine⟨pos m h k,e1,?_,?_,?_,λj=>?_,λz hz h' hh=>?_⟩
 ·rw[Array.size_setIfInBounds];exact la.sz
 ·have A3:pos m h k<o.size:=by rw[la.sz];lia
  have Mg:o.getD (pos m h k) none=none:=by
   unfold Tb.fr at e2;simp only[Array.getD,A3,dif_pos]at e2 ⊢;simpa using e2
  have key:(lv m (o.setIfInBounds (pos m h k) (some hs.length))).Perm ((pos m h k,hs.length)::lv m o):=by
   unfold lv;refine jq (j:=pos m h k) ?_ ?_ ?_ List.nodup_range (Vc.mpr (by lia))
   ·rw[Mg];rfl
   ·have:(o.setIfInBounds (pos m h k) (some hs.length)).getD (pos m h k) none=some hs.length:=by simp[Array.getD,A3]
    rw[this];rfl
   ·intro a ha;have:(o.setIfInBounds (pos m h k) (some hs.length)).getD a none=o.getD a none:=by
     by_cases hz:a<o.size
     ·simp[Array.getD,hz,Array.getElem_setIfInBounds,U6 ha]
     ·simp[Array.getD,hz]
    rw[this]
  refine key.trans ((la.pm.cons _).trans ?_);exact(List.perm_append_singleton _ _).symm
 ·rw[VL,la.ix,VU,UF,List.range_succ];rfl
 ·have A3:pos m h k<o.size:=by rw[la.sz];lia
  rw[VL,VQ]
  by_cases ej:j=pos m h k
  ·subst ej;have:Tb.fr (o.setIfInBounds (pos m h k) (some hs.length)) (pos m h k)=false:=by unfold Tb.fr;simp[Array.getD,A3]
   rw[this];simp
  ·have:Tb.fr (o.setIfInBounds (pos m h k) (some hs.length)) j=Tb.fr o j:=by
    unfold Tb.fr
    by_cases hz:j<o.size
    ·simp[Array.getD,hz,Array.getElem_setIfInBounds,U6 ej]
    ·simp[Array.getD,hz]
   rw[this,la.fr];simp[ej]
 ·have sub:∀q,q∈Z.map (·.1)->q∈(Z++[(pos m h k,hs.length)]).map (·.1):=λq hq=>by rw[VL];exact UV _ hq
  rcases VQ.mp hz with hz|hz
  ·have A3:z.2<hs.length:=by
    have:z.2∈Z.map (·.2):=Vs hz;rw[la.ix]at this;exact Vc.mp this
   rw[U9 A3]at hh;obtain⟨k2,a1,a2⟩:=la.pa z hz h' hh;exact⟨k2,a1,λk' B0=>sub _ (a2 k' B0)⟩
  ·rw[VX]at hz;subst hz;have:h'=h:=by simpa using hh.symm
   subst this;refine⟨k,rfl,λk' B0=>sub _ ?_⟩;have hb:=e3 k' B0;have Me:(itr m k' (hd m (bits h' % (m+1)) (bits h'))).j=pos m h' k':=rfl;rw[Me]at hb;have Hd:pos m h' k'<=m:=Zs m h' k';refine UN λhn=>?_;have:=(la.fr _).mpr ⟨Hd,hn⟩;rw[this]at hb;cases hb
end Tb
end My
namespace My
open PySem
namespace Tb
open PySem.SetTable
def nQ(m:Nat)(Aw:Option (Array (Option Nat)×Nat))(h:Int):Option (Array (Option Nat)×Nat):=do
 let(owner,k) <-Aw
 let j <-layClean.free m owner (turns m) (bits h % (m+1)) (bits h)
 pure (owner.setIfInBounds j (some k),k+1)
def nc(m:Nat)(hs:Array Int):layClean m hs=(hs.foldl (nQ m) (some (Array.replicate (m+1) none,0))).map (·.1):=rfl
theorem qh{m:Nat}(hm:Mk m):∀(rest done:List Int)(o:Array (Option Nat))(Z:List (Nat×Nat)),Laid m done o Z->done.length+rest.length<=m ->
  ∃o' Z',rest.foldl (nQ m) (some (o,done.length))=some (o',(done++rest).length)/\Laid m (done++rest) o' Z'
 |[],done,o,Z,la,_=>⟨o,Z,by simp,by rw[List.append_nil];exact la⟩
 |h::rest,done,o,Z,la,hl=>by
  rw[VN]at hl;obtain⟨j,e,la'⟩:=la.step hm h (by lia);obtain⟨o',Z',e',LR⟩:=qh hm rest (done++[h]) _ _ la' (by rw[VU,UF];lia);refine⟨o',Z',?_,by rw[Vm]at LR;exact LR⟩;rw[List.foldl_cons];have e2:nQ m (some (o,done.length)) h=some (o.setIfInBounds j (some done.length),(done++[h]).length):=by
   unfold nQ;show(layClean.free m o (turns m) (bits h % (m+1)) (bits h)).bind _=_;rw[e];simp
  rw[e2,e',Vm]
  rfl
theorem nP(es:Array (Int×Value)):∀l:List (Nat×Nat),(∀z∈l,z.2<es.size)->(l.map (·.2)).filterMap (λi=>es[i]?)=l.map λz=>es.getD z.2 (0,Value.none)
 |[],_=>rfl
 |z::l,h=>by
  have hz:=h z VE;rw[List.map_cons,Va,List.map_cons,nP es l λy hy=>h y (VJ _ hy)];have e:es[z.2]?=some (es.getD z.2 (0,Value.none)):=by simp[Array.getD,hz]
  rw[e]
def rC(es:Array (Int×Value)):(List.range es.size).map (λk=>es.getD k (0,Value.none))=es.toList:=by
 apply T0
 ·simp
 ·intro i h1 h2;have hi:i<es.size:=by simpa using h1
  simp[Array.getD,hi]
def XR(m:Nat)(o:Array (Option Nat)):((lv m o).map (·.1)).Pairwise (·<·):=by
 have e:∀l:List Nat,((l.filterMap λj=>(o.getD j none).map (j,·)).map (·.1))=l.filter λj=>(o.getD j none).isSome:=by
  intro l
  induction l with
  |nil=>rfl
  |cons a l ih =>
   rw[Va,UH];cases hg:o.getD a none with
   |none=>simpa using ih
   |some c=>simpa using ih
 unfold lv;rw[e];exact List.Pairwise.sublist List.filter_sublist List.pairwise_lt_range
def d4{m:Nat}(hm:Mk m)(es:Array (Int×Value))(hn:es.size<=m)(fi mv:Nat)(led plain:Bool):
  ∃t' order,laid m fi mv led plain (es.map (·.1))=some (t',order)/\t'.mask=m/\t'.led=led/\t'.plain=plain/\∃L',Rep L' (order.filterMap (es[·]?)) t'/\(L'.map (·.2)).Perm es.toList:=by
 obtain⟨o,Z,e,la⟩:=qh hm (es.map (·.1)).toList [] _ _ (Laid.zero m) (by simpa using hn);rw[Tq]at e la;have Ar:((es.map (·.1)).toList).length=es.size:=by simp
 have ec:layClean m (es.map (·.1))=some o:=by
  rw[nc,<-Array.foldl_toList];show Option.map _ (List.foldl (nQ m) (some (Array.replicate (m+1) none,([]:Nj).length)) _)=_;rw[e]
  rfl
 have hv:∀z∈lv m o,z.2<es.size:=λz hz=>by
  have:z.2∈Z.map (·.2):=Vs (la.pm.mem_iff.mp hz);rw[la.ix,Ar]at this;exact Vc.mp this
 refine⟨_,_,by
  unfold laid;rw[ec]
  rfl,rfl,rfl,rfl,(lv m o).map (λz=>(z.1,es.getD z.2 (0,Value.none))),⟨?_,?_,rfl,?_,?_,hm,?_⟩,?_⟩
 ·show Array.filterMap _ ((lv m o).map (·.2)).toArray=_;apply Ur.mp;rw[Array.toList_filterMap];show List.filterMap _ ((lv m o).map (·.2))=_;rw[nP es _ hv,Vi]
  rfl
 ·show((lv m o).map (·.1)).toArray=_;rw[Vi]
  rfl
 ·rw[Vi];exact XR m o
 ·intro x hx;obtain⟨z,hz,rfl⟩:=VC.mp hx;have Ka:=hv z hz;have hh:((es.map (·.1)).toList)[z.2]?=some (es.getD z.2 (0,Value.none)).1:=by simp[Array.getD,Ka]
  obtain⟨k,a1,a2⟩:=la.pa z (la.pm.mem_iff.mp hz) _ hh;refine⟨k,a1,λk' B0=>?_⟩;rw[Vi];have:=a2 k' B0;exact(la.pm.map (·.1)).mem_iff.mpr this
 ·have:(lv m o).length=es.size:=by
   rw[la.pm.length_eq];have:=Vp List.length la.ix;simpa using this
  rw[WA,this];exact hn
 ·rw[Vi];have h1:((lv m o).map λz=>es.getD z.2 (0,Value.none)).Perm (Z.map λz=>es.getD z.2 (0,Value.none)):=la.pm.map _;have h2:(Z.map λz=>es.getD z.2 (0,Value.none))=es.toList:=by
   have:(Z.map λz=>es.getD z.2 (0,Value.none))=(Z.map (·.2)).map λk=>es.getD k (0,Value.none):=by rw[Vi];rfl
   rw[this,la.ix,Ar,rC]
  rw[<-h2];exact h1
def vC(L:List (Nat×(Int×Value)))(t:SetTable):Prop:=L.length*5<t.mask*3
def mU{L:List (Nat×(Int×Value))}{es:Array (Int×Value)}{t:SetTable}(r:Rep L es t)(hb:L.length<=76)(h0:(L.length-1)*5<t.mask*3)(h1:t.mask*3<=L.length*5):
  sizeAbove (grown L.length)<=4096/\∃t' order L',t.relaid (es.map (·.1)) (grown L.length)=some (t',order)/\t'.led=t.led/\t'.plain=t.plain/\Rep L' (order.filterMap (es[·]?)) t'/\(L'.map (·.2)).Perm (L.map (·.2))/\vC L' t':=by
 have Lh:es.size=L.length:=by rw[r.es];simp
 have key:∀m',Mk m'->L.length<=m'->sizeAbove (grown L.length)-1=m'->L.length*5<m'*3->∃t' order L',t.relaid (es.map (·.1)) (grown L.length)=some (t',order)/\t'.led=t.led/\t'.plain=t.plain/\Rep L' (order.filterMap (es[·]?)) t'/\(L'.map (·.2)).Perm (L.map (·.2))/\vC L' t':=by
  intro m' BG hl hs hr;obtain⟨t',order,e1,e2,e3,e4,L',rp,pm⟩:=d4 BG es (by lia) t.finger (t.movedTo m') t.led t.plain;have el:es.toList=L.map (·.2):=by rw[r.es]
  refine⟨t',order,L',?_,e3,e4,rp,by rw[<-el];exact pm,?_⟩
  ·unfold SetTable.relaid;rw[hs];exact e1
  ·unfold vC;have h5:L'.length=L.length:=by
    have:=pm.length_eq;rw[el]at this;simpa using this
   rw[h5,e2];exact hr
 rcases r.mz with e|e|e
 ·rw[e]at h0 h1;have hL:L.length=5:=by lia
  rw[hL]at key ⊢;exact⟨by decide,key 31 (.inr (.inl rfl)) (by decide) (by decide) (by decide)⟩
 ·rw[e]at h0 h1;have hL:L.length=19:=by lia
  rw[hL]at key ⊢;exact⟨by decide,key 127 (.inr (.inr rfl)) (by decide) (by decide) (by decide)⟩
 ·rw[e]at h0 h1;lia
end Tb
end My
namespace My
open PySem PySem.Spec PySem.W
variable{b:Bool}{Q:Bool->Shared->Prop}{k:Nc}{vs ys:GE}{a:Addr}
section
variable {prog:Nn}{w:No}{A:Nr}{E:Da}{s:Np}
def iX:Bool->Value->Bool
 |b,.bool c=>c==b
 |_,_=>false
def yO{v:Nq}(h:iX b v=true):v = .bool b:=by
 cases v<;>simp_all [iX]
def ba{Q:Int->Shared->Prop}(h:Q (if b=true then 1 else 0) { s with toks:=s.toks+1 }):wpAny (model prog w) A (pyHash (.bool b)) Q E s:=by
 show wpAny _ _ (pyHashByItsType (.bool b)) _ _ _;refine pyHash_slot (T:="bool") rfl F.slot_bool_hash entry_int_hash (args_int_hash _) (beq_builtin_none _) (.inl rfl) ?_;cases b
 ·exact(show wpAny _ _ (do ret (<-mkInt 0)) _ _ s from WC (wpAny_mkInt (VZ ⟨_,_,rfl,h⟩)))
 ·exact(show wpAny _ _ (do ret (<-mkInt 1)) _ _ s from WC (wpAny_mkInt (VZ ⟨_,_,rfl,h⟩)))
def sU(prog:Nn)(w:No):PySem.KeyKind prog w Bool where
 is:=iX
 hash:=λb=>if b=true then 1 else 0
 inj:=λv a b h1 h2=>by
  have e1:=yO h1;have e2:=yO h2;rw[e1]at e2;exact Value.bool.inj e2
 byValue:=λk v h=>by rw[yO h];rfl
 pyHash:=λhv h=>by rw[yO hv];exact ba h
 eqBool:=λ{A E s a b u v Q} hu hv h=>by
  rw[yO hu,yO hv];refine Tf a b _ _ _ _ ?_;have e:(a==b)=decide (a=b):=by cases a<;>cases b<;>rfl
  rw[e];exact h
 «strs»:=λk x t v h=>by simp[iX]at h
abbrev Bt(prog:Nn)(w:No)(h:Nw)(k:Nc)(a:Addr):Prop:=IsTupleKey (sU prog w) h k a
abbrev Bh(prog:Nn)(w:No)(k:Nc):Int:=tupleKeyHash (sU prog w) k
def nD{h:Heap}(x:ItemsAre (sU prog w) k vs):∀v∈vs,∃b,v = .bool b:=by
 induction x with
 |nil=>intro v hv;simp at hv
 |cons h1 _ ih =>
  intro v hv;rcases VI.mp hv with rfl|hv
  ·exact⟨_,yO h1⟩
  ·exact ih v hv
def lE(hk:Bt prog w s.heap k a)(h:Q true s):wpAny (model prog w) A (hashByValue 8 (.ref a)) Q E s:=by
 have hT:=hk.typeIs;obtain⟨o,items,n,ho,hc,hd,hi⟩:=hk;unfold hashByValue;refine WC (wpAny_specialOf hT F.slot_tuple_hash.lookup ?_);show wpAny _ _ (seqItems? (.ref a) >>= _) _ _ s;refine WC (U3 ho hd ?_);refine WC ?_;show wpAny _ _ (forIn items _ _) _ _ s;rw[<-Array.forIn_toList];refine wpAny_forIn_list _ (λrest r s'=>r.1=none/\s'=s/\∀v∈rest,∃b,v = .bool b) _ ?_ ?_ _ _ ⟨rfl,rfl,nD (h:=s.heap) hi⟩
 ·rintro v rest r s' ⟨hr,rfl,A0⟩;obtain⟨b,rfl⟩:=A0 v VE;refine WC (VZ ?_);simp only[Bool.not_true,Bool.false_eq_true,if_false];exact VZ ⟨rfl,rfl,λu KZ=>A0 u (VJ _ KZ)⟩
 ·rintro⟨r1,r2⟩ s' ⟨hr,rfl,_⟩;simp only at hr;subst hr;exact VZ h
def nC(hk:Bt prog w s.heap k a)(h:Q false s):wpAny (model prog w) A (ofAClassStatement 8 (.ref a)) Q E s:=by
 have hT:=hk.typeIs;obtain⟨o,items,n,ho,hc,hd,hi⟩:=hk;unfold ofAClassStatement;refine WC (SZ hT ?_);show wpAny _ _ (pure true >>= _) _ _ s;refine WC (VZ ?_);simp only[Bool.not_true,Bool.false_eq_true,if_false];refine WC (U3 ho hd ?_);refine WC ?_;show wpAny _ _ (forIn items _ _) _ _ s;rw[<-Array.forIn_toList];refine wpAny_forIn_list _ (λrest r s'=>r.1=none/\s'=s/\∀v∈rest,∃b,v = .bool b) _ ?_ ?_ _ _ ⟨rfl,rfl,nD (h:=s.heap) hi⟩
 ·rintro v rest r s' ⟨hr,rfl,A0⟩;obtain⟨b,rfl⟩:=A0 v VE;refine WC (VZ ?_);simp only[Bool.false_eq_true,if_false];exact VZ ⟨rfl,rfl,λu KZ=>A0 u (VJ _ KZ)⟩
 ·rintro⟨r1,r2⟩ s' ⟨hr,rfl,_⟩;simp only at hr;subst hr;exact VZ h
def iD(hk:Bt prog w s.heap k a)(hy:∀y∈ys,∃k' b,y = .ref b/\Bt prog w s.heap k' b)(h:Q false s):
  wpAny (model prog w) A (searchCouldBeSeen (.ref a) ys) Q E s:=by
 unfold searchCouldBeSeen;refine WC ?_;refine wpAny_forIn_list _ (λrest r s'=>r.1=none/\s'=s/\∀y∈rest,∃k' b,y = .ref b/\Bt prog w s.heap k' b) _ ?_ ?_ _ _ ⟨rfl,rfl,hy⟩
 ·rintro v rest r s' ⟨hr,rfl,A0⟩;obtain⟨k',b,rfl,hb⟩:=A0 v VE;have nx:∀u∈rest,∃k' b,u = .ref b/\Bt prog w s'.heap k' b:=λu KZ=>A0 u (VJ _ KZ);dsimp only;split
  ·exact VZ ⟨rfl,rfl,nx⟩
  ·refine WC (wpAny_eqIsQuiet_tuple hk ?_);simp only[Bool.not_true,Bool.false_eq_true,if_false];refine WC (wpAny_eqIsQuiet_tuple hb ?_);simp only[Bool.not_true,Bool.false_eq_true,if_false];refine WC (nC hk ?_);simp only[Bool.false_eq_true,if_false];refine WC (nC hb ?_);simp only[Bool.false_eq_true,if_false];exact VZ ⟨rfl,rfl,nx⟩
 ·rintro⟨r1,r2⟩ s' ⟨hr,rfl,_⟩;simp only at hr;subst hr;exact VZ h
end
end My
namespace My
open PySem PySem.Spec PySem.W
open Tb
variable{h h':Nw}{Es M':List (Int×Value)}{D:KM}
section
variable {prog:Nn}{w:No}{A:Nr}{E:Da}{s:Np}
def Elem(prog:Nn)(w:No)(h:Nw)(e:Int×Value)(k:Nc):Prop:=∃b,e.2 = .ref b/\Bt prog w h k b/\e.1=Bh prog w k
theorem Elem.inj{h:Nw}{e:Int×Value}{k k':Nc}(x:Elem prog w h e k)(y:Elem prog w h e k'):k=k':=by
 obtain⟨b,e1,h1,_⟩:=x;obtain⟨b',e2,h2,_⟩:=y;rw[e1]at e2;cases e2;exact h1.inj h2
structure Good(prog:Nn)(w:No)(h:Nw)(Es:List (Int×Value))(D:KM):Prop where
 in1:∀e∈Es,∃k,k∈D/\Elem prog w h e k
 in2:∀k∈D,∃e∈Es,Elem prog w h e k
 one:Es.Pairwise λe e'=>∀k,Elem prog w h e k->¬Elem prog w h e' k
def Good.perm(g:Good prog w h Es D)(p:M'.Perm Es):Good prog w h M' D :=
 ⟨λe he=>g.in1 e (p.mem_iff.mp he),λk hk=>let⟨e,he,x⟩:=g.in2 k hk;⟨e,p.mem_iff.mpr he,x⟩,(p.pairwise_iff (λ{x y} LX k h1 h2=>LX k h2 h1)).mpr g.one⟩
def Bt.mono{k:Nc}{a:Addr}(x:Bt prog w h k a)(hk:∀o,h.get? a=some o->h'.get? a=some o):Bt prog w h' k a:=by
 obtain⟨o,items,n,ho,r⟩:=x;exact⟨o,items,n,hk o ho,r⟩
def Good.mono(g:Good prog w h Es D)(hk:∀a o,o.cls = .type "tuple"->h.get? a=some o->h'.get? a=some o):Good prog w h' Es D:=by
 have up:∀e k,Elem prog w h e k->Elem prog w h' e k:=λe k ⟨b,e1,⟨o,items,n,ho,hc,r⟩,h2⟩=>⟨b,e1,⟨o,items,n,hk b o hc ho,hc,r⟩,h2⟩
 refine⟨λe he=>let⟨k,h1,h2⟩:=g.in1 e he;⟨k,h1,up e k h2⟩,λk B0=>let⟨e,h1,h2⟩:=g.in2 k B0;⟨e,h1,up e k h2⟩,?_⟩;refine(UX.mpr λi j hi hj EJ=>?_);intro k h1 h2;obtain⟨k1,_,x1⟩:=g.in1 _ (Ua hi);obtain⟨k2,_,x2⟩:=g.in1 _ (Ua hj);have e1:=(up _ _ x1).inj h1;have e2:=(up _ _ x2).inj h2;subst e1;subst e2;exact UX.mp g.one i j hi hj EJ _ x1 x2
abbrev zI(es:Array (Int×Value))(ep:Nat)(t:SetTable):Obj:={ cls:=.type "set",dict:=none,data:=.set es ep t,slots:=#[] }
theorem rO(hu:A.units<cLine){S:Addr}{ep:Nat}{es:Array (Int×Value)}{t:SetTable}{L:List (Nat×(Int×Value))}{D:List (List Bool)}(r:Rep L es t)(hS:s.heap.get? S=some (zI es ep t))(g:Good prog w s.heap (L.map (·.2)) D)
  {x:Addr}{kx:List Bool} (hx:Bt prog w s.heap kx x) {K:Nat} (hK:pos t.mask (Bh prog w kx) K∉L.map (·.1)) (M5:∀k,k<K->pos t.mask (Bh prog w kx) k∈L.map (·.1)) (Kb:K<=10*(t.mask+13)) {Q:SetFound->Shared->Prop}
  (q1:(∃e∈L.map (·.2),Elem prog w s.heap e kx)->Q (.there none) s) (q2:(∀e∈L.map (·.2),¬Elem prog w s.heap e kx)->Q (.free (pos t.mask (Bh prog w kx) K) false) s) :
  ∀(f m:Nat)(Gf:Option SetTable.Probe),m<=K->K-m<f->(∀y∈L,∀k,k<m->pos t.mask (Bh prog w kx) k=y.1->¬Elem prog w s.heap y.2 kx)->Gf.getD (t.probeStart (Bh prog w kx))=itr t.mask m (st0 t.mask (Bh prog w kx)) ->
   wpAny (model prog w) A (setSearchFrom S (.ref x) (Bh prog w kx) true f Gf) Q E s
 |0,m,Gf,_,hf,_,_=>by lia
 |f+1,m,Gf,hm,hf,CA,est=>by
  unfold setSearchFrom;refine WC (UO hS rfl r.fits ?_);dsimp only;rw[r.odd];simp only[Bool.false_eq_true,if_false];rw[est];have Kg:t.probe (λi=>(es[i]?.map (·.1)).getD 0) (Bh prog w kx) (itr t.mask m (st0 t.mask (Bh prog w kx)))=SetTable.probe.go t (λi=>(es[i]?.map (·.1)).getD 0) (Bh prog w kx) (10*SetTable.turns t.mask) (itr t.mask m (st0 t.mask (Bh prog w kx))):=rfl;have IZ:∀(i:Nat)(e:Int×Value),es[i]?=some e->(λ(i:Nat)=>(es[i]?.map (·.1)).getD 0) i=e.1:=λi e he=>by simp[he]
  have hpg:=r.probe_go IZ (Bh prog w kx) hK M5 (10*SetTable.turns t.mask) m hm (by unfold SetTable.turns;lia);rw[<-Kg]at hpg;split
  case h_2 HN =>
   exfalso;rcases hpg with⟨e,_⟩|⟨k,i,v,_,_,e,_⟩
   ·exact HN _ e
   ·exact HN _ e
  rename_i met HN;rcases hpg with⟨e,Be⟩|⟨k,i,v,h1,h2,e,IC,Lh,hL,Be⟩
  ·have em:=V3 (HN.symm.trans e);subst em;dsimp only;refine VZ (q2 λel Kt hE=>?_);obtain⟨y,hy,rfl⟩:=VC.mp Kt;obtain⟨k0,HV,Fo⟩:=r.pa y hy;have hh:y.2.1=Bh prog w kx:=by obtain⟨b,_,_,h2⟩:=hE;exact h2
   rw[hh]at HV Fo;have A3:k0<K:=by
    refine UN λhn=>?_
    by_cases e0:k0=K
    ·subst e0;exact hK (by rw[HV];exact Vs hy)
    ·exact hK (Fo K (by lia))
   by_cases IS:k0<m
   ·exact CA y hy k0 IS HV hE
   ·exact Be k0 y.2 (by lia) A3 (by rw[HV];exact hy) hh
  ·have em:=V3 (HN.symm.trans e);subst em;dsimp only;obtain⟨kb,_,hE⟩:=g.in1 (Bh prog w kx,v) (VC.mpr ⟨_,hL,rfl⟩);obtain⟨b,eb,hb,hbh⟩:=id hE;dsimp only at eb hbh;subst eb;have rest:wpAny (model prog w) A (do
     let some (_,y):=es[i]?|unsupported "internal:set-entry"
     let equal <-holding [y] (eqBool y (.ref x))
     let(Bp,_,t') <-setState S
     if true&&equal then return SetFound.there none
     let some sam:=t'.sameMemory t.moves t.mask|unsupported "set.changed-during-lookup:is-the-new-block-at-the-old-address"
     let still <-match(if sam then t'.slot (pos t.mask (Bh prog w kx) k)else .empty)with
      | .live i'=>match Bp[i']? with
       |some (_,y')=>do pure (if <-isSame y' y then some i' else none)
       |none=>pure none
      |_=>pure none
     match still with
     |none=>rule "set.search.anew";setSearchFrom S (.ref x) (Bh prog w kx) true f none
     |some i'=>if equal then return SetFound.there (some i')else setSearchFrom S (.ref x) (Bh prog w kx) true f (some (itr t.mask (k+1) (st0 t.mask (Bh prog w kx))))) Q E s:=by
    rw[Lh];dsimp only;refine WC (Vh (wpAny_eqBool_tuple hu hb hx ?_));refine WC (UO hS rfl r.fits ?_);dsimp only
    by_cases hk:kb=kx
    ·rw[VT hk];simp only[Bool.and_self,if_true];exact VZ (q1 ⟨(Bh prog w kx,.ref b),VC.mpr ⟨_,hL,rfl⟩,hk▸hE⟩)
    ·rw[VH hk];simp only[S8,Bool.false_eq_true,if_false];have hsm:t.sameMemory t.moves t.mask=some true:=by unfold SetTable.sameMemory;simp
     rw[hsm];dsimp only;simp only[if_true];rw[IC];dsimp only;rw[Lh];dsimp only;refine WC (wpAny_isSame_ref_self (WC (VZ ?_)));simp only[if_true];refine rO hu r hS g hx hK M5 Kb q1 q2 f (k+1) _ (by lia) (by lia) (λy hy k' B0 ek' hEy=>?_) rfl;have hh:y.2.1=Bh prog w kx:=by obtain⟨b,_,_,h2⟩:=hEy;exact h2
     by_cases z1:k'<m
     ·exact CA y hy k' z1 ek' hEy
     ·by_cases z2:k'=k
      ·subst z2;obtain⟨i1,e1,s1,L1,s2⟩:=r.slot_live (Vs (f:=(·.1)) hy);rw[<-ek',IC]at s1;cases s1;have Kc:y.2=e1:=by
        obtain⟨i2,hi2,e2⟩:=T3 hy;obtain⟨hi1,e3⟩:=VY.mp L1;have:i2=i:=by
         rcases Th i2 i with z|z|z
         ·have:=UX.mp r.up i2 i (by simpa using hi2) (by simpa using hi1) z;simp[e2,e3]at this
         ·exact z
         ·have:=UX.mp r.up i i2 (by simpa using hi1) (by simpa using hi2) z;simp[e2,e3]at this
        subst this;rw[e2]at e3;rw[e3]
       rw[Lh]at s2;cases s2;rw[Kc]at hEy;exact hk (hE.inj hEy)
      ·exact Be k' y.2 (by lia) (by lia) (by rw[ek'];exact hy) hh
   by_cases BU:t.led=true
   ·rw[BU];simp only[Bool.not_true,Bool.false_eq_true,if_false];exact rest
   ·have HS:t.led=false:=by simpa using BU
    rw[HS];simp only[Bool.not_false,if_true];refine WC (iD hx (λy hy=>?_) ?_)
    ·obtain⟨e1,DV,rfl⟩:=VC.mp hy;have J9:e1∈L.map (·.2):=by
      have h3:e1∈es.toList:=by
       have:=(Array.mem_filter.mp (Array.mem_toList_iff.mp DV)).1;exact Array.mem_toList_iff.mpr this
      rw[r.es]at h3;exact h3
     obtain⟨k1,_,b1,eb1,hb1,_⟩:=g.in1 e1 J9;exact⟨k1,b1,eb1,hb1⟩
    ·simp only[Bool.false_eq_true,if_false];exact rest
end
end My
namespace My
open PySem PySem.Spec PySem.W
open Tb
variable{S x:Addr}{Bp es:Array (Int×Value)}{ep:Nat}{t t':SetTable}
section
variable {prog:Nn}{w:No}{A:Nr}{E:Da}{s:Np}
def wI{Q:Unit->Shared->Prop}(hS:s.heap.get? S=some (zI es ep t))(hz:Bp.size<=sizeLine)
  (h:∀h',h'.get? S=some (zI Bp (ep+1) t')->Heap.SameBut S s.heap h'->Q () { s with heap:=h' }):wpAny (model prog w) A (storeSet S Bp t') Q E s:=by
 refine wpAny_storeSet_of hS rfl (h _ ?_ (Uh s.heap S (Obj.putSet Bp t'))) hz;have e:=Vn (Obj.putSet Bp t') hS (by rfl);exact e
def oU{h h':Nw}(hS:h.get? S=some (zI es ep t))(sb:Heap.SameBut S h h'):∀a o,o.cls = .type "tuple"->h.get? a=some o->h'.get? a=some o:=λa o hc ho=>by
 have Be:a≠S:=by
  rintro rfl;rw[hS]at ho;cases ho;simp at hc
 exact(sb.2 a Be).trans ho
def bM(hu:A.units+1<cLine){L:List (Nat×(Int×Value))}{D:KM}(r:Rep L es t)(r5:vC L t)(hb:L.length<76)(hS:s.heap.get? S=some (zI es ep t))(g:Good prog w s.heap (L.map (·.2)) D)
  {kx:Nc} (hx:Bt prog w s.heap kx x) {Q:Bool->Shared->Prop}
  (q:∀(b:Bool)(h':Nw)(tk:Nat)(L':List (Nat×(Int×Value)))(Bp:Array (Int×Value))(Eg:Nat)(t':SetTable),h'.get? S=some (zI Bp Eg t')->Heap.SameBut S s.heap h'->Rep L' Bp t'->vC L' t'->t'.led=t.led->t'.plain=t.plain ->
   Good prog w h' (L'.map (·.2)) (D++[kx])->L'.length<=L.length+1->(∀e∈L'.map (·.2),e∈L.map (·.2)\/e.2 = .ref x)->Q b { s with heap:=h',toks:=tk }):wpAny (model prog w) A (setAdd S (.ref x)) Q E s:=by
 unfold setAdd;refine Vh (WC (wpAny_pyHash_tuple (by lia) hx ?_));unfold setAddHashed setAddHashedIn;refine Vh (WC (UO (s:={ s with toks:=s.toks+(kx.length+1) }) hS rfl r.fits ?_));dsimp only;have Mv:byScan (.ref x) es=false:=by unfold byScan;rfl
 rw[Mv];simp only[Bool.false_eq_true,if_false];have hm:t.mask<=127:=by rcases r.mz with e|e|e<;>rw[e]<;>decide
 obtain⟨K,Kb,hK,M5⟩:=lM r.mz (Bh prog w kx) (l:=L.map (·.1)) (by rw[WA];exact r.fl);unfold setSearch;refine WC (rO (s:={ s with toks:=s.toks+(kx.length+1) }) (by lia) r hS g hx hK M5 Kb (λhex=>?_) (λCA=>?_) 100000 0 none (V5 _) (by lia) (λy _ k hk=>absurd hk (Nat.not_lt_zero _)) rfl)
 ·dsimp only;refine VZ (q false s.heap _ L es ep t hS (Heap.SameBut.refl S s.heap) r r5 rfl rfl ⟨λe he=>?_,λk hk=>?_,g.one⟩ (UG _) λe he=>.inl he)
  ·obtain⟨k,h1,h2⟩:=g.in1 e he;exact⟨k,UV _ h1,h2⟩
  ·rcases VQ.mp hk with hk|hk
   ·exact g.in2 k hk
   ·rw[VX.mp hk];exact hex
 ·dsimp only;refine WC (UO (s:={ s with toks:=s.toks+(kx.length+1) }) hS rfl r.fits ?_);dsimp only;have Kr:es.size=L.length:=by rw[r.es];simp
  have r':=r.put (x:=.ref x) hK M5 (by unfold vC at r5;lia);have Kf:(t.put (pos t.mask (Bh prog w kx) K)).1.plain=t.plain/\(t.put (pos t.mask (Bh prog w kx) K)).1.led=t.led/\(t.put (pos t.mask (Bh prog w kx) K)).1.mask=t.mask:=⟨rfl,rfl,rfl⟩
  generalize hT:t.put (pos t.mask (Bh prog w kx) K)=T at r' Kf ⊢;obtain⟨t1,p⟩:=T;dsimp only at r' Kf ⊢;obtain⟨AZ,hld,hmk⟩:=Kf;have BN:=nW (L:=L) (pos t.mask (Bh prog w kx) K) (Bh prog w kx,Value.ref x);generalize hL':ins L (pos t.mask (Bh prog w kx) K) (Bh prog w kx,Value.ref x)=L1 at r' BN;have Ar:L1.length=L.length+1:=by rw[BN.length_eq];rfl
  have hsz:(SetTable.insertAt es p (Bh prog w kx,Value.ref x)).size=L1.length:=by rw[r'.es];simp
  have Jd:∀h',Heap.SameBut S s.heap h'->Good prog w h' (L1.map (·.2)) (D++[kx]):=λh' sb=>by
   refine Good.mono ?_ (oU hS sb);refine Good.perm (Es:=(Bh prog w kx,Value.ref x)::L.map (·.2)) ⟨λe he=>?_,λk hk=>?_,Tu.mpr ⟨λe he k h1 h2=>?_,g.one⟩⟩ (BN.map (·.2))
   ·rcases VI.mp he with rfl|he
    ·exact⟨kx,VM _ (VX.mpr rfl),x,rfl,hx,rfl⟩
    ·obtain⟨k,h1,h2⟩:=g.in1 e he;exact⟨k,UV _ h1,h2⟩
   ·rcases VQ.mp hk with hk|hk
    ·obtain⟨e,h1,h2⟩:=g.in2 k hk;exact⟨e,VJ _ h1,h2⟩
    ·rw[VX.mp hk];exact⟨_,VE,x,rfl,hx,rfl⟩
   ·have:k=kx:=h1.inj ⟨x,rfl,hx,rfl⟩;subst this;exact CA e he h2
  have LP:∀e∈L1.map (·.2),e∈L.map (·.2)\/e.2 = .ref x:=λe he=>by
   have:=(BN.map (·.2)).mem_iff.mp he;rcases VI.mp this with z|z
   ·exact .inr (by rw[z])
   ·exact .inl z
  have body:wpAny (model prog w) A (do
    storeSet S (SetTable.insertAt es p (Bh prog w kx,Value.ref x)) t1
    if(!false&&t1.tooFull)=true then do
     setRelay S (SetTable.grown (es.size+1))
     pure true
    else pure true) Q E { s with toks:=s.toks+(kx.length+1) }:=by
   refine WC (wI (s:={ s with toks:=s.toks+(kx.length+1) }) hS (by rw[hsz,VP];lia) λh1 Kz JS=>?_);have htf:t1.tooFull=decide (t1.mask*3<=L1.length*5):=by
    unfold SetTable.tooFull SetTable.fill;rw[r'.pl,r'.dm];simp
   by_cases hfull:t1.mask*3<=L1.length*5
   ·rw[htf,VT hfull];simp only[Bool.not_false,Bool.and_self,if_true];obtain⟨hsa,t2,order,L2,e1,e2,e3,r2,pm,r52⟩:=mU r' (by lia) (by unfold vC at r5;rw[hmk,Ar];lia) hfull;have hgr:SetTable.grown (es.size+1)=SetTable.grown L1.length:=by rw[Kr,Ar]
    rw[hgr];unfold setRelay;refine WC (WC (UO (s:={ s with heap:=h1,toks:=s.toks+(kx.length+1) }) Kz rfl r'.fits ?_));dsimp only;rw[VF (by rw[VP];lia),e1];have Ee:(order.filterMap ((SetTable.insertAt es p (Bh prog w kx,Value.ref x))[·]?)).size=L1.length:=by
     rw[r2.es];have h6:=pm.length_eq;simpa using h6
    refine WC (show wpAny _ _ (if((order.filterMap ((SetTable.insertAt es p (Bh prog w kx,Value.ref x))[·]?)).size != (SetTable.insertAt es p (Bh prog w kx,Value.ref x)).size)=true then _ else pure (order.filterMap ((SetTable.insertAt es p (Bh prog w kx,Value.ref x))[·]?),t2)) _ _ _ from ?_);rw[VF (by rw[Ee,hsz];simp)];refine VZ ?_;dsimp only;refine wI (s:={ s with heap:=h1,toks:=s.toks+(kx.length+1) }) Kz (by rw[Ee,VP];lia) λh2 hS2 sb2=>?_;refine VZ (q true h2 _ L2 _ _ t2 hS2 (JS.trans sb2) r2 r52 (e2.trans hld) (e3.trans AZ) ((Jd h2 (JS.trans sb2)).perm pm) ?_ λe he=>LP e (pm.mem_iff.mp he));have h6:=pm.length_eq;simp at h6;lia
   ·rw[htf,VH hfull];simp only[S8,Bool.false_eq_true,if_false];exact VZ (q true h1 _ L1 _ _ t1 Kz JS r' (by unfold vC;lia) hld AZ (Jd h1 JS) (by lia) LP)
  split
  ·refine WC (lE (s:={ s with toks:=s.toks+(kx.length+1) }) hx ?_);simp only[if_true];exact body
  ·refine WC (VZ ?_);simp only[if_true];exact body
end
end My
namespace My
open PySem PySem.Spec PySem.W
open Tb
variable{Q Q₁:Da}{I S l:Addr}{items:Nk}
section
variable {prog:Nn}{w:No}{A:Nr}{E:Da}{s:Np}
abbrev byT(w:No):Bool:=w.params.followText "set-order"
abbrev yX(w:No):Obj:=zI #[] 0 (.fresh 0 0 (!byT w))
def cu(a:Nq)(h:Q₁ (.ref s.heap.objs.size) { s with heap:=s.heap.push (yX w) }):
  codeAny (model prog w) A (.call (.builtin "set.__new__") ⟨[.type "set",a],[]⟩) (wants Q₁ E) s:=by
 refine codeAny_of_tree (show wpAny _ A.in1 (do checkBuiltinCall "set.__new__" ⟨[.type "set",a],[]⟩;again (.builtin "set.__new__" ⟨[.type "set",a],[]⟩)) _ _ s from ?_);refine WC (Sv (F.newCall_set_1 a) (VZ ⟨Sx F.plain_set_new _,?_⟩));refine Tl F.entry_set_new (by
  rw[TD F.plain_set_new _];unfold Builtin.«set.__new__» Builtin.Frozenset.newClass;have E6:=sub_set_self;obtain⟨hp,g,d,tk,os⟩:=s;dsimp only
  wp_walk
  refine Tz (VZ ?_);dsimp only;simp only[newObj];exact WC (wpAny_alloc (VZ (VZ h))))
theorem gH{fp wr:List Addr}{n:Nat}{P:Nat->Value->Prop}{St:Nat->Heap->Prop}(W:Walks prog w A.in1 I fp wr n P St)(hSf:S∉fp)(J:Nat->Heap->Prop)(hJ:∀i h h',J i h->(∀b o,b∉wr->h.get? b=some o->h'.get? b=some o)->J i h')
  (IH:∀i v (s':Shared) (Q:Bool->Shared->Prop) (E':Value->Shared->Prop),i<n->P i v->J i s'.heap->(∀b h' tk,Heap.SameBut S s'.heap h'->J (i+1) h'->Q b { s' with heap:=h',toks:=tk })->wpAny (model prog w) A.in1 (setAdd S v) Q E' s')
  {R:Result->Shared->Prop} (h₀:Heap) (hR:∀(s':Shared) h' tk,J n h'->(∀b o,b≠S->b∉wr->h₀.get? b=some o->h'.get? b=some o)->s'={ s with heap:=h',toks:=tk }->R (.ok (.ret .none)) s') :
  ∀(k i:Nat)(h:Heap)(tk:Nat),n-i=k->i<=n->St i h->J i h->(∀b o,b≠S->b∉wr->h₀.get? b=some o->h.get? b=some o)->codeAny (model prog w) A (.builtin "set.update.loop" ⟨[.ref S,.ref I],[]⟩) R { s with heap:=h,toks:=tk }:=by
 intro k
 induction k with
 |zero =>
  intro i h tk hk hi st j keep;have e:i=n:=by lia
  subst e;refine Tl PyProof.Rows.F.entry_set_update_loop ?_;rw[TD Ui _];refine(show wpAny _ A.in1 (pyNext (.ref I) >>= _) _ _ _ from WC (W.done { s with heap:=h,toks:=tk } _ _ st λh' tk' B0=>?_));exact(show wpAny _ A.in1 (ret Value.none) _ _ _ from VZ (hR _ h' tk' (hJ _ _ _ j B0) (λb o h1 h2 h3=>B0 b o h2 (keep b o h1 h2 h3)) rfl))
 |succ k ih =>
  intro i h tk hk hi st j keep;have A3:i<n:=by lia
  refine Tl PyProof.Rows.F.entry_set_update_loop ?_;rw[TD Ui _];refine(show wpAny _ A.in1 (pyNext (.ref I) >>= _) _ _ _ from WC (W.item i { s with heap:=h,toks:=tk } _ _ A3 st λv h' tk' hP Bz B0=>?_));refine(show wpAny _ A.in1 (holding [v] (setAdd S v) >>= _) _ _ _ from WC (Vh (IH i v { s with heap:=h',toks:=tk' } _ _ A3 hP (hJ _ _ _ j B0) λb JG tk'' sb j'=>?_)));refine VZ ⟨Sx Ui _,ih (i+1) JG tk'' (by lia) A3 ?_ j' λb o h1 h2 h3=>?_⟩
  ·exact W.frame _ _ _ Bz λb hb o e=>(sb.2 b λz=>hSf (z▸hb)).trans e
  ·exact(sb.2 b h1).trans (B0 b o h2 (keep b o h1 h2 h3))
set_option maxHeartbeats 3200000 in
theorem tS{T:String}(n1:isSubtype (.type T) (.type "set")=pure false)(n2:isSubtype (.type T) (.type "frozenset")=pure false)(n3:(Value.type T==Value.type "dict")=false)(hh:A.handled=none)(ol:Obj)(E8:s.heap.get? l=some ol)(JC:ol.cls = .type T)
  (EA:∀(A':Around)(s':Shared)(E':Value->Shared->Prop)(Q':Value->Shared->Prop),A'.handled=none->s'.heap.get? l=some ol->(∀(oI:Obj)(St:Nat->Heap->Prop),(∀A'':Around,A''.handled=none->Walks prog w A'' s'.heap.objs.size [s'.heap.objs.size,l] [s'.heap.objs.size] items.size (λi v=>items[i]?=some v) St)->St 0 (s'.heap.push oI)->Q' (.ref s'.heap.objs.size) { s' with heap:=s'.heap.push oI })->wpAny (model prog w) A' (pyIter (.ref l)) Q' E' s') (J:Nat->Heap->Prop) (hJ:∀i h h',J i h->(∀b o,b≠s.heap.objs.size+1->h.get? b=some o->h'.get? b=some o)->J i h')
  (j0:J 0 (s.heap.push (yX w)))
  (IH:∀i v (A':Around) (s':Shared) (Q:Bool->Shared->Prop) (E':Value->Shared->Prop),A'.units<=A.units+8->items[i]?=some v->J i s'.heap->(∀b h' tk,Heap.SameBut s.heap.objs.size s'.heap h'->J (i+1) h'->Q b { s' with heap:=h',toks:=tk })->wpAny (model prog w) A' (setAdd s.heap.objs.size v) Q E' s')
  (h:∀(h':Heap)(tk:Nat),J items.size h'->(∀b o,s.heap.get? b=some o->h'.get? b=some o)->Q (.ref s.heap.objs.size) { s with heap:=h',toks:=tk }) :
  wpAny (model prog w) A (call (.type "set") [.ref l]) Q E s:=by
 obtain⟨c,tl,hmro⟩:=U1.mro;have hmade:=U1.made;have E6:=U1.sub;refine SQ (codeAny_of_tree (show wpAny _ _ (callAny (.type "set") _) _ _ _ from VZ ⟨Tt _ (by decide +kernel),Tl F.entry_type_call ?_⟩));rw[Around.under_plain (weight_type_call_type "set" [.ref l] []) rfl];have t1:=U1.notType;have t2:=U1.canCreate;have t3:=F.typeCall_set_1 (.ref l)
 repeat any_goals first|assumption|wp_step
 refine T9 (cu (.ref l) (E:=E) (Q₁:=λobj X'=>obj = .ref s.heap.objs.size/\X'={ s with heap:=s.heap.push (yX w) }) ⟨rfl,rfl⟩) λr X' hr=>?_;cases r with
 |error e=>exact hr
 |ok fl =>
  cases fl with
  |ret obj =>
   obtain⟨rfl,rfl⟩:=hr;have hS:(s.heap.push (yX w)).get? s.heap.objs.size=some (yX w):=VS _ rfl;have hT:Shared.TypeIs { s with heap:=s.heap.push (yX w) } (.ref s.heap.objs.size) "set":=⟨_,hS,rfl⟩
   have i1:=U1.init.lookup;have i2:=U1.init.bind (.ref s.heap.objs.size)
   repeat any_goals first|assumption|wp_step
   refine T9 (TC (R:=wants (λr Y'=>r = .none/\∃h' tk,Y'={ s with heap:=h',toks:=tk }/\J items.size h'/\∀b o,s.heap.get? b=some o->h'.get? b=some o) E) U1.init.plain F.entry_set_init (check_set_init_1 hT ?_)) λSl Y' Sf=>?_
   ·obtain⟨ocls,LJ,LK,JV⟩:=ol;simp only at JC;subst JC;have F0:(s.heap.push (yX w)).get? l=some { cls:=.type T,dict:=LJ,data:=LK,slots:=JV }:=WB _ E8;unfold Builtin.«set.__init__» noKeywords Builtin.Frozenset.updateFrom;generalize hPI:pyIter=PI
    wp_walk
    subst hPI;refine EA _ _ _ _ (by simp[hh]) F0 λoI St W st=>(WC (wpAny_runValue ?_))
    have lS:l<s.heap.objs.size:=VV E8;have K5:(s.heap.push (yX w)).objs.size=s.heap.objs.size+1:=Vk _ _;have hSf:s.heap.objs.size∉[(s.heap.push (yX w)).objs.size,l]:=by
     rw[K5];simp only[VI,S0,or_false,not_or];exact⟨VD (UI _),Uw lS⟩
    refine gH (s:=s) (W _ (by simp[hh])) hSf J (λi h h' j k=>hJ i h h' j λb o hb e=>k b o (by rw[K5];simpa using hb) e)
     (λi v s' Q' E' hi hv j q=>IH i v _ s' Q' E' (by simp only[Around.in1_units];lia) hv j q) s.heap ?_ (items.size-0) 0 _ s.toks (by lia) (V5 _) st (hJ 0 _ _ j0 λb o _ e=>WB _ e) λb o _ _ e=>WB _ (WB _ e)
    rintro s' h' tk j keep rfl;refine(show wpAny _ _ _ _ _ _ from VZ (show wpAny _ _ (ret Value.none) _ _ _ from VZ ⟨rfl,h',tk,rfl,j,λb o e=>keep b o (VD (VV e)) ?_ e⟩));rw[K5];have:=VV e;simp only[VX];exact VD (Uy this)
   ·cases Sl with
    |error e=>exact Sf
    |ok RT =>
     cases RT with
     |ret r =>
      obtain⟨rfl,h',tk,rfl,j,B0⟩:=Sf
      repeat any_goals first|assumption|wp_step
      exact h _ _ j B0
     |_=>exact Sf.elim
  |_=>exact hr.elim
def uf(hh:A.handled=none)(hl:s.heap.IsList l items)(J:Ng)(hJ:∀i h h',J i h->(∀b o,b≠s.heap.objs.size+1->h.get? b=some o->h'.get? b=some o)->J i h')
  (j0:J 0 (s.heap.push (yX w)))
  (IH:∀i v (A':Nr) (s':Np) (Q:Bool->Shared->Prop) (E':Da),A'.units<=A.units+8->items[i]?=some v->J i s'.heap->(∀b h' tk,Heap.SameBut s.heap.objs.size s'.heap h'->J (i+1) h'->Q b { s' with heap:=h',toks:=tk })->wpAny (model prog w) A' (setAdd s.heap.objs.size v) Q E' s')
  (h:∀(h':Nw)(tk:Nat),J items.size h'->(∀b o,s.heap.get? b=some o->h'.get? b=some o)->Q (.ref s.heap.objs.size) { s with heap:=h',toks:=tk }) :
  wpAny (model prog w) A (call (.type "set") [.ref l]) Q E s:=by
 obtain⟨ol,E8,JC,nl,Fp⟩:=hl;refine tS (T:="list") F.sub_list_set F.sub_list_frozenset (by decide) hh ol E8 JC (λA' s' E' Q' M6 F0 k=>?_) J hJ j0 IH h;have Gm:s'.heap.IsList l items:=⟨ol,F0,JC,nl,Fp⟩
 exact Uk Gm (k _ _ (λA'' K2=>Walks.list K2 _ l (VD (VV F0)) items) ⟨⟨_,VS _ rfl,rfl,rfl⟩,Gm.push _⟩)
def sH:isSubtype (.type "tuple") (.type "set")=pure false:=by rw[isSubtype_type];kernel_rfl
def sG:isSubtype (.type "tuple") (.type "frozenset")=pure false:=by rw[isSubtype_type];kernel_rfl
def qF(hh:A.handled=none)(hl:s.heap.IsTuple l items)(J:Ng)(hJ:∀i h h',J i h->(∀b o,b≠s.heap.objs.size+1->h.get? b=some o->h'.get? b=some o)->J i h')
  (j0:J 0 (s.heap.push (yX w)))
  (IH:∀i v (A':Nr) (s':Np) (Q:Bool->Shared->Prop) (E':Da),A'.units<=A.units+8->items[i]?=some v->J i s'.heap->(∀b h' tk,Heap.SameBut s.heap.objs.size s'.heap h'->J (i+1) h'->Q b { s' with heap:=h',toks:=tk })->wpAny (model prog w) A' (setAdd s.heap.objs.size v) Q E' s')
  (h:∀(h':Nw)(tk:Nat),J items.size h'->(∀b o,s.heap.get? b=some o->h'.get? b=some o)->Q (.ref s.heap.objs.size) { s with heap:=h',toks:=tk }) :
  wpAny (model prog w) A (call (.type "set") [.ref l]) Q E s:=by
 obtain⟨ol,E8,JC,nl,Fp⟩:=hl;refine tS (T:="tuple") sH sG (by decide) hh ol E8 JC (λA' s' E' Q' M6 F0 k=>?_) J hJ j0 IH h;have Gm:s'.heap.IsTuple l items:=⟨ol,F0,JC,nl,Fp⟩
 exact Us Gm (k _ _ (λA'' K2=>Walks.tuple K2 _ l (VD (VV F0)) items) ⟨⟨_,VS _ rfl,rfl,rfl⟩,Gm.push _⟩)
def aB(hh:A.handled=none)(hl:s.heap.IsList l items\/s.heap.IsTuple l items)(J:Ng)(hJ:∀i h h',J i h->(∀b o,b≠s.heap.objs.size+1->h.get? b=some o->h'.get? b=some o)->J i h')
  (j0:J 0 (s.heap.push (yX w)))
  (IH:∀i v (A':Nr) (s':Np) (Q:Bool->Shared->Prop) (E':Da),A'.units<=A.units+8->items[i]?=some v->J i s'.heap->(∀b h' tk,Heap.SameBut s.heap.objs.size s'.heap h'->J (i+1) h'->Q b { s' with heap:=h',toks:=tk })->wpAny (model prog w) A' (setAdd s.heap.objs.size v) Q E' s')
  (h:∀(h':Nw)(tk:Nat),J items.size h'->(∀b o,s.heap.get? b=some o->h'.get? b=some o)->Q (.ref s.heap.objs.size) { s with heap:=h',toks:=tk }) :
  wpAny (model prog w) A (call (.type "set") [.ref l]) Q E s:=by
 rcases hl with hl|hl
 ·exact uf hh hl J hJ j0 IH h
 ·exact qF hh hl J hJ j0 IH h
end
end My
namespace My
open PySem PySem.Spec PySem.W
open Tb
variable{S:Addr}{es:Array (Int×Value)}{ep given place slot:Nat}{t:SetTable}{Q:Option (Value×Nat)->Shared->Prop}
def si_next:Slot "set_iterator" "__next__" "set_iterator.__next__" :=
 Slot.of (n:="__next__") (owner:="set_iterator") (by rw[typeLookup_type,builtinLookup_eq_fast];kernel_rfl)
  (by decide +kernel) (by decide +kernel) (by decide +kernel) (by first|exact Or.inl (by decide +kernel)|exact Or.inr (by decide +kernel)) (by rw[isSubtype_type];kernel_rfl)
def oW:entryFor table "set_iterator.__next__"=some Builtin.«set_iterator.__next__»:=entryFor_of_tree (by kernel_rfl)
def oX:Manifest.owners.lookup (String.ofList "rotareti_tes".toList.reverse)=some Manifest.sig_set_iterator:=by kernel_rfl
def kS(a:Nq):argsOk "set_iterator.__next__" ⟨[a],[]⟩:=by
 unfold argsOk;rw[signature?_of (id:="set_iterator.__next__") (n:="__txen__".toList) (o:="rotareti_tes".toList) (by kernel_rfl) oX]
 kernel_rfl
def tR:entryFor table "set.__iter__"=some Builtin.«frozenset.__iter__»:=entryFor_alias (id':="frozenset.__iter__") (by kernel_rfl) rfl (by decide +kernel) (by kernel_rfl)
section
variable {prog:Nn}{w:No}{A:Nr}{E:Da}{s:Np}
abbrev xg(first:Nq)(i:Nat)(S:Addr)(n ep:Nat):Obj:={ cls:=.type "set_iterator",dict:=none,data:=.fields #[first,.int i 0,.ref S,.int n 0,.int ep 0],slots:=#[] }
def iz(hS:s.heap.get? S=some (zI es ep t))(hf:t.fits es.size=true)(hb:byT w=true)
  (h:Q (((pickOrder (w.params.setOrder S ep) es)[given]?).map λe=>(e.2,slot)) s):wpAny (model prog w) A (setNext S slot given ep) Q E s:=by
 unfold setNext;refine WC (UO hS rfl hf ?_);unfold setsByText;refine WC (WC (Tz (VZ ?_)));show wpAny _ _ (if byT w=true then _ else _) _ _ _;rw[VB hb];dsimp only;rw[VF (by simp)];unfold setWalk setsByText;refine WC (WC (UO hS rfl hf ?_));refine WC (WC (Tz (VZ ?_)));show wpAny _ _ (if byT w=true then _ else _) _ _ _;rw[VB hb];refine WC (Tz (VZ (VZ h)))
def lz(hS:s.heap.get? S=some (zI es ep t))(hf:t.fits es.size=true)(hb:byT w=false)(hd:(!t.plain&&decide (es.size>1))=false)(hl:t.led=true)
  (h:Q (match es[SetTable.below t.place slot]?,t.place[SetTable.below t.place slot]? with|some (_,x),some j=>some (x,j+1)|_,_=>none) s):wpAny (model prog w) A (setNext S slot given ep) Q E s:=by
 unfold setNext;refine WC (UO hS rfl hf ?_);unfold setsByText;refine WC (WC (Tz (VZ ?_)));show wpAny _ _ (if byT w=true then _ else _) _ _ _;rw[VF (by rw[hb];exact VG)];show wpAny _ _ (if(!t.plain&&decide (es.size>1))=true then _ else _) _ _ _;rw[hd,VF VG];refine WC (show wpAny _ _ (if(!t.led&&!es.isEmpty)=true then _ else pure ()) _ _ _ from ?_);rw[hl,VF (by simp)];refine VZ (VZ h)
def lx{x:Int×Value}{Q:Da}(hS:s.heap.get? S=some (zI es ep t))(hf:t.fits es.size=true)(hx:es[place]?=some x)(h:Q x.2 s):
  wpAny (model prog w) A (setNextDrawn S place ep) Q E s:=by
 unfold setNextDrawn;refine WC (UO hS rfl hf ?_);dsimp only;rw[VF (by simp),hx];exact VZ h
def kq{I:Addr}{h1:Nw}{Q:Option Value->Shared->Prop}(hh:A.handled=none)(hQ:∀h',(∀b o,h1.get? b=some o->h'.get? b=some o)->Q none { s with heap:=h' }){Q':PySem.Fin->Shared->Prop}:
  wpAny (model prog w) A.in1 (do raiseNew (<-newExc (.type "StopIteration") []):Sem PySem.Fin) Q' (λe s'=>wpAny (model prog w) A (do if <-isInstance e (.type "StopIteration")then pure none else throw e) Q E s') { s with heap:=h1 }:=by
 refine WC ?_;simp only[newExc,newTuple];refine WC (Vq ?_ (by size_fits));refine WC (m:=firstArgMember _ _) (Sv (a:=Value.none) (by first|rfl|(simp only[firstArgMember];rfl)) (Vq ?_ (by size_fits)));simp only[raiseNew];refine WC (wpAny_handled ?_);rw[show A.in1.handled=none from hh];refine WC (VZ (wpAny_throw ?_));refine WC (Sz (b:=true) (T:="StopIteration") ⟨_,VS _ rfl,rfl⟩ isSubtype_stop ?_);exact VZ (hQ _ λb o e=>WB _ (WB _ e))
end
end My
namespace My
open PySem PySem.Spec PySem.W
open Tb
variable{I S T:Addr}{fs vs:Nk}{c ep i k slot:Nat}{Q:Option Value->Shared->Prop}{es:Array (Int×Value)}{t:SetTable}
section
variable {prog:Nn}{w:No}{A:Nr}{E:Da}{s:Np}
def fld{x:Nq}{Q:Unit->Shared->Prop}(ho:s.heap.get? I=some { cls:=.type "set_iterator",dict:=none,data:=.fields vs,slots:=#[] })(hk:k<vs.size)
  (h:∀h',h'.get? I=some { cls:=.type "set_iterator",dict:=none,data:=.fields (vs.setIfInBounds k x),slots:=#[] }->Heap.SameBut I s.heap h'->Q () { s with heap:=h' }):wpAny (model prog w) A (setField (.ref I) k x) Q E s:=TV ho hk h
theorem fh(hh:A.handled=none)(hI:s.heap.get? I=some (xg (.int slot 0) i S es.size ep))(hS:s.heap.get? S=some (zI es ep t))(hf:t.fits es.size=true)
  {r:Option (Value×Nat)} (hn:∀(A':Around)(E':Value->Shared->Prop)(Q':Option (Value×Nat)->Shared->Prop),Q' r s->wpAny (model prog w) A' (setNext S slot i ep) Q' E' s)
  (q1:∀x nx h',r=some (x,nx)->h'.get? I=some (xg (.int nx 0) (i+1) S es.size ep)->Heap.SameBut I s.heap h'->Q (some x) { s with heap:=h' })
  (q2:∀h',r=none->(∀b o,b≠I->s.heap.get? b=some o->h'.get? b=some o)->Q none { s with heap:=h' }):wpAny (model prog w) A (pyNext (.ref I)) Q E s:=by
 have hT:s.TypeIs (.ref I) "set_iterator":=⟨_,hI,rfl⟩
 unfold pyNext;refine WC (Sw (Vb (name:=("__next__":Str)) hT si_next (Vg si_next hT oW ?_ (kS _))));unfold Builtin.«set_iterator.__next__»;refine WC (VZ (WC (wpAny_fieldsOf hI rfl ?_)));dsimp only;refine WC (wpAny_setEntries_of hS rfl hf ?_);rw[VF (by simp)];simp only[Vu];refine WC (hn _ _ _ ?_);cases r with
 |some y =>
  obtain⟨x,nx⟩:=y;dsimp only;refine WC (fld hI (by simp) λh1 e1 s1=>?_);refine WC (fld (s:={ s with heap:=h1 }) e1 (by simp) λh2 e2 s2=>?_);exact VZ ⟨_,rfl,VZ (q1 x nx h2 rfl (by unfold xg;simpa[rawInt]using e2) (s1.trans s2))⟩
 |none =>
  dsimp only;refine WC (fld hI (by simp) λh1 e1 s1=>?_);exact kq (I:=I) hh λh' k=>q2 h' rfl λb o hb e=>k b o ((s1.2 b hb).trans e)
theorem fj{ps:List Nat}(hh:A.handled=none)(hI:s.heap.get? I=some (xg (.ref T) i S es.size ep))(hS:s.heap.get? S=some (zI es ep t))(hf:t.fits es.size=true)
  (Ln:∃o,s.heap.get? T=some o/\o.data = .seq (ps.map λ(i:Nat)=>rawInt i).toArray c)
  (q1:∀p x h',ps[i]?=some p->es[p]?=some x->h'.get? I=some (xg (.ref T) (i+1) S es.size ep)->Heap.SameBut I s.heap h'->Q (some x.2) { s with heap:=h' }) (hp:∀p,ps[i]?=some p->∃x,es[p]?=some x)
  (q2:∀h',ps[i]?=none->(∀b o,b≠I->s.heap.get? b=some o->h'.get? b=some o)->Q none { s with heap:=h' }):wpAny (model prog w) A (pyNext (.ref I)) Q E s:=by
 have hT:s.TypeIs (.ref I) "set_iterator":=⟨_,hI,rfl⟩
 obtain⟨oT,eT,dT⟩:=Ln;unfold pyNext;refine WC (Sw (Vb (name:=("__next__":Str)) hT si_next (Vg si_next hT oW ?_ (kS _))));unfold Builtin.«set_iterator.__next__»;refine WC (VZ (WC (wpAny_fieldsOf hI rfl ?_)));dsimp only;refine WC (wpAny_setEntries_of hS rfl hf ?_);rw[VF (by simp)];simp only[Vu];refine WC (U3 eT dT ?_);dsimp only;cases hpi:ps[i]? with
 |some p =>
  have e:((ps.map λ(i:Nat)=>rawInt i).toArray)[i]?=some (rawInt p):=by simp[hpi]
  rw[e];obtain⟨x,hx⟩:=hp p hpi;show wpAny _ _ (setNextDrawn S (Int.toNat (p:Int)) ep >>= _) _ _ _;rw[Vu];refine WC (lx hS hf hx ?_);refine WC (fld hI (by simp) λh1 e1 s1=>?_);exact VZ ⟨_,rfl,VZ (q1 p x h1 hpi hx (by unfold xg;simpa[rawInt]using e1) s1)⟩
 |none =>
  have e:((ps.map λ(i:Nat)=>rawInt i).toArray)[i]?=none:=by simpa using hpi
  rw[e];dsimp only;refine WC (fld hI (by simp) λh1 e1 s1=>?_);refine WC (fld (s:={ s with heap:=h1 }) e1 (by simp) λh2 e2 s2=>?_);exact kq (I:=I) hh λh' k=>q2 h' hpi λb o hb e=>k b o ((s2.2 b hb).trans ((s1.2 b hb).trans e))
def kT:Slot "set_iterator" "__iter__" "set_iterator.__iter__" :=
 Slot.of (n:="__iter__") (owner:="set_iterator") (by rw[typeLookup_type,builtinLookup_eq_fast];kernel_rfl)
  (by decide +kernel) (by decide +kernel) (by decide +kernel) (by first|exact Or.inl (by decide +kernel)|exact Or.inr (by decide +kernel)) (by rw[isSubtype_type];kernel_rfl)
def sE:entryFor table "set_iterator.__iter__"=some Builtin.«dict_keyiterator.__iter__»:=entryFor_alias (id':="dict_keyiterator.__iter__") (by kernel_rfl) rfl (by decide +kernel) (by kernel_rfl)
def qH(a:Nq):argsOk "set_iterator.__iter__" ⟨[a],[]⟩:=by
 unfold argsOk;rw[signature?_of (id:="set_iterator.__iter__") (n:="__reti__".toList) (o:="rotareti_tes".toList) (by kernel_rfl) oX]
 kernel_rfl
def kR{Q:Da}(hI:s.heap.get? I=some { cls:=.type "set_iterator",dict:=none,data:=.fields fs,slots:=#[] })(h:Q (.ref I) s):wpAny (model prog w) A (pyIter (.ref I)) Q E s:=by
 have hT:s.TypeIs (.ref I) "set_iterator":=⟨_,hI,rfl⟩
 refine wpAny_pyIter_slot hT kT (Vg kT hT sE ?_ (qH _));refine(show wpAny _ _ (ret (.ref I)) _ _ s from ?_);exact VZ ⟨_,rfl,"set_iterator",_,hT,si_next.lookup,h⟩
end
end My
namespace My
open PySem PySem.Spec PySem.W
open Tb
variable{c ep i n:Nat}{I S T:Addr}{es:Array (Int×Value)}{t:SetTable}{pl ps:Nf}
theorem vc{α:Type}:∀{l:List α}{i:Nat}(hi:i<l.length),(l[i]::l.eraseIdx i).Perm l
 |a::l,0,_=>.rfl
 |a::l,i+1,hi=>by
  have Go:i<l.length:=by simpa using hi
  have ih:=vc Go;show(l[i]::a::l.eraseIdx i).Perm (a::l);exact(List.Perm.swap _ _ _).trans (ih.cons a)
theorem kL{α:Type}(next:Nat->Nat):∀(D8 k:Nat)(left:List α)(out:Array α),left.length<=D8->(pickOrder.go next D8 k left out).toList.Perm (out.toList++left)
 |0,k,left,out,h=>by
  have:left=[]:=UC.mp (by lia);subst this;unfold pickOrder.go;simp
 |f+1,k,left,out,h=>by
  unfold pickOrder.go;cases hc:left[next k % left.length]? with
  |none =>
   dsimp only;have:left=[]:=by
    rcases left with _|⟨a,l⟩
    ·rfl
    ·exfalso;rw[List.getElem?_eq_none_iff]at hc;have:=Nat.mod_lt (next k) (show 0<(a::l).length by simp);lia
   subst this;simp
  |some x =>
   dsimp only;obtain⟨hi,e⟩:=VY.mp hc;have ih:=kL next f (k+1) (left.eraseIdx (next k % left.length)) (out.push x) (by rw[List.length_eraseIdx_of_lt hi];lia)
   refine ih.trans ?_;rw[Array.toList_push,Vm];refine List.Perm.append_left _ ?_;have:=vc hi;rw[e]at this;exact this
def jG{α:Type}(next:Nat->Nat)(xs:Array α):(pickOrder next xs).toList.Perm xs.toList:=by
 have:=kL next xs.size 0 xs.toList #[] (by simp)
 simpa[pickOrder]using this
section
variable {prog:Nn}{w:No}{A:Nr}{E:Da}{s:Np}
def wp_choose'{GX:Source}{Q:Nat->Shared->Prop}(hn:n≠0)(h:∀i d,i<n->Q i { s with drawn:=d }):wpAny (model prog w) A (choose GX n) Q E s:=fun Γ p hΓ=>by
 unfold choose;rw[Sem.wp_choose];exact⟨hn,h _ _ (Nat.mod_lt _ (Nat.pos_of_ne_zero hn))⟩
theorem vb{α:Type}:∀(n:Nat)(xs:List α)(s:Shared)(Q:List α->Shared->Prop),xs.length<=n->(∀ys d,ys.Perm xs->Q ys { s with drawn:=d })->wpAny (model prog w) A (drawOrder n xs) Q E s
 |0,xs,s,Q,hn,h=>by
  have:xs=[]:=UC.mp (by lia);subst this;unfold drawOrder;exact VZ (h [] s.drawn .rfl)
 |n+1,[],s,Q,_,h=>by
  unfold drawOrder;exact VZ (h [] s.drawn .rfl)
 |n+1,x::xs,s,Q,hn,h=>by
  unfold drawOrder;refine WC (wp_choose' (by simp) λi d hi=>?_);have e:(x::xs)[i]?=some (x::xs)[i]:=V2 hi;rw[e];dsimp only;refine WC (vb n ((x::xs).eraseIdx i) { s with drawn:=d } _ (by rw[List.length_eraseIdx_of_lt hi];simp at hn ⊢;lia) λys d' p=>?_);exact VZ (h _ d' ((p.cons _).trans (vc hi)))
theorem gu(hh:A.handled=none)(hf:t.fits es.size=true)(Be:I≠S)(vs:List Value)(Ar:vs.length=es.size)(sl:Nat->Nat)
  (hr:∀i (s':Shared) (A':Around) (E':Value->Shared->Prop) (Q':Option (Value×Nat)->Shared->Prop),i<=es.size->s'.heap.get? S=some (zI es ep t)->Q' ((vs[i]?).map λv=>(v,sl (i+1))) s'->wpAny (model prog w) A' (setNext S (sl i) i ep) Q' E' s') :
  Walks prog w A I [I,S] [I] es.size (λi v=>vs[i]?=some v) (λi h=>h.get? I=some (xg (.int (sl i) 0) i S es.size ep)/\h.get? S=some (zI es ep t))where
 sub:=λb hb=>by simp at hb;simp[hb]
 frame:=λi h h' st k=>⟨k I (by simp) _ st.1,k S (by simp) _ st.2⟩
 item:=λi s Q E hi st hQ=>by
  refine fh (t:=t) hh st.1 st.2 hf (λA' E' Q' q=>hr i s A' E' Q' (by lia) st.2 q) (λx nx h' e eI sb=>?_) (λh' e=>?_)
  ·cases hv:vs[i]? with
   |none=>rw[hv]at e;cases e
   |some v =>
    rw[hv]at e;cases e;refine hQ _ h' s.toks hv ⟨eI,(sb.2 S (U6 Be)).trans st.2⟩ λb o hb e=>(sb.2 b λz=>hb (by simp[z])).trans e
  ·have:vs[i]?=some vs[i]:=V2 (by lia);rw[this]at e;cases e
 done:=λs Q E st hQ=>by
  refine fh (t:=t) hh st.1 st.2 hf (λA' E' Q' q=>hr _ s A' E' Q' (VW _) st.2 q) (λx nx h' e eI sb=>?_) (λh' e k=>?_)
  ·have:vs[es.size]?=none:=Tk (by lia);rw[this]at e;cases e
  ·exact hQ h' s.toks λb o hb e=>k b o (λz=>hb (by simp[z])) e
 self:=λi s Q E st hQ=>kR st.1 hQ
def gw(hh:A.handled=none)(hf:t.fits es.size=true)(Be:I≠S)(hnT:I≠T)(hp:ps.Perm (List.range es.size)):
  Walks prog w A I [I,S,T] [I] es.size (λi v=>(ps.map λp=>(es.getD p (0,Value.none)).2)[i]?=some v) (λi h=>h.get? I=some (xg (.ref T) i S es.size ep)/\h.get? S=some (zI es ep t)/\∃o,h.get? T=some o/\o.data = .seq (ps.map λ(i:Nat)=>rawInt i).toArray c)where
 sub:=λb hb=>by simp at hb;simp[hb]
 frame:=λi h h' st k=>⟨k I (by simp) _ st.1,k S (by simp) _ st.2.1,let⟨o,e,d⟩:=st.2.2;⟨o,k T (by simp) _ e,d⟩⟩
 item:=λi s Q E hi st hQ=>by
  have Ar:ps.length=es.size:=by rw[hp.length_eq,SD]
  refine fj (t:=t) hh st.1 st.2.1 hf st.2.2 (λp x h' e1 e2 eI sb=>?_) (λp e=>?_) (λh' e=>?_)
  ·refine hQ _ h' s.toks ?_ ⟨eI,(sb.2 S (U6 Be)).trans st.2.1,let⟨o,e,d⟩:=st.2.2;⟨o,(sb.2 T (U6 hnT)).trans e,d⟩⟩ λb o hb e=>(sb.2 b λz=>hb (by simp[z])).trans e;have hps:p<es.size:=(Ve.mp e2).1;have e3:es.getD p (0,Value.none)=x:=by
    have:=(Ve.mp e2).2;simp[Array.getD,hps,this]
   show(ps.map λp=>(es.getD p (0,Value.none)).2)[i]?=some x.2;rw[VA,e1];show some (es.getD p (0,Value.none)).2=some x.2;rw[e3]
  ·have hm:=Vc.mp (hp.mem_iff.mp (VR e));exact⟨es[p],by simp[hm]⟩
  ·have:ps[i]?=some ps[i]:=V2 (by lia);rw[this]at e;cases e
 done:=λs Q E st hQ=>by
  have Ar:ps.length=es.size:=by rw[hp.length_eq,SD]
  have hn:ps[es.size]?=none:=Tk (by lia);refine fj (t:=t) hh st.1 st.2.1 hf st.2.2 (λp x h' e1=>by rw[hn]at e1;cases e1) (λp e=>by rw[hn]at e;cases e) (λh' e k=>?_);exact hQ h' s.toks λb o hb e=>k b o (λz=>hb (by simp[z])) e
 self:=λi s Q E st hQ=>kR st.1 hQ
end
def lC(hr:pl.Pairwise (·<·)):SetTable.below pl.toArray 0=0:=by
 obtain⟨b1,b2,b3⟩:=wa hr 0;rcases Nat.eq_zero_or_pos (SetTable.below pl.toArray 0)with e|e
 ·exact e
 ·have:=b2 0 e;lia
def lA(hr:pl.Pairwise (·<·))(hi:i<pl.length):SetTable.below pl.toArray (pl[i]+1)=i+1:=by
 obtain⟨b1,b2,b3⟩:=wa hr (pl[i]+1);have h1:i<SetTable.below pl.toArray (pl[i]+1):=by
  refine UN λhn=>?_;have:=b3 i (by lia) hi;rw[v7 hi]at this;lia
 have h2:¬i+1<SetTable.below pl.toArray (pl[i]+1):=λz=>by
  have h3:=b2 (i+1) z;have h4:i+1<pl.length:=by lia
  have h5:=v8 (d:=pl[i]+1) hr (show i<i+1 by lia) h4;rw[v7 hi]at h5;lia
 lia
end My
namespace My
open PySem PySem.Spec PySem.W
open Tb
variable{S:Addr}{es:Array (Int×Value)}{ep n:Nat}{t:SetTable}
section
variable {prog:Nn}{w:No}{A:Nr}{E:Da}{s:Np}
def gN(a:Addr):Builtin.Frozenset.slot0 "__iter__" ⟨[.ref a],[]⟩=pure a:=rfl
def pD{Q:Bool->Shared->Prop}(hS:s.heap.get? S=some (zI es ep t))(hf:t.fits es.size=true)(h:Q (!byT w&&(!t.plain&&decide (es.size>1))) s):wpAny (model prog w) A (setDrawn S) Q E s:=by
 unfold setDrawn;refine WC (UO hS rfl hf ?_);unfold setsByText;refine WC (WC (Tz (VZ ?_)));exact VZ h
def nN(hf:t.fits n=true):t.place.size=n:=by
 unfold SetTable.fits at hf;rw[Vy]at hf;exact eq_of_beq hf.1
theorem dn{Q:Value->Shared->Prop}(hS:s.heap.get? S=some (zI es ep t))(hf:t.fits es.size=true)(BU:t.led=!byT w)(HJ:t.plain=true->t.place.toList.Pairwise (·<·))(hz:es.size<=sizeLine)
  (h:∀(I:Addr)(h1:Heap)(d:Drawn)(fp:List Addr)(ws:List Value)(St:Nat->Heap->Prop),ws.Perm (es.toList.map (·.2))->(∀A':Around,A'.handled=none->Walks prog w A' I fp [I] es.size (λi v=>ws[i]?=some v) St)->St 0 h1->(∀b∈fp,b=S\/s.heap.objs.size<=b) ->
   (∀b o,s.heap.get? b=some o->h1.get? b=some o)->s.heap.objs.size<=I->Q (.ref I) { s with heap:=h1,drawn:=d }):wpAny (model prog w) A (pyIter (.ref S)) Q E s:=by
 have hT:s.TypeIs (.ref S) "set":=⟨_,hS,rfl⟩
 have A3:S<s.heap.objs.size:=VV hS;refine wpAny_pyIter_slot hT F.slot_set_iter (Vg F.slot_set_iter hT tR ?_ (F.args_set_iter_1 _));unfold Builtin.«frozenset.__iter__»;refine WC (Sv (gN S) ?_);unfold Builtin.Frozenset.sizeOf;refine WC (WC (wpAny_setEntries_of hS rfl hf (VZ ?_)));refine WC (pD hS hf ?_);have JM:∀(ws:List Value)(sl:Nat->Nat),sl 0=0->ws.Perm (es.toList.map (·.2)) ->
   (∀i (s':Shared) (A':Around) (E':Value->Shared->Prop) (Q':Option (Value×Nat)->Shared->Prop),i<=es.size->s'.heap.get? S=some (zI es ep t)->Q' ((ws[i]?).map λv=>(v,sl (i+1))) s'->wpAny (model prog w) A' (setNext S (sl i) i ep) Q' E' s') ->
   wpAny (model prog w) A.in1 (do let first <-pure (rawInt 0);ret (<-newFields "set_iterator" [first,rawInt 0,.ref S,rawInt es.size,rawInt (<-setEpoch S)]))
    (λA9 s'=>∃r,A9 = .done (.ret r)/\∃T' r',s'.TypeIs r T'/\typeLookup (.type T') "__next__"=pure (some r')/\Q r s') E s:=by
  intro ws sl h0 hp hr;have hl:ws.length=es.size:=by rw[hp.length_eq];simp
  refine WC (VZ (WC (wpAny_setEpoch_of hS rfl hf (WC ?_))));unfold newFields;refine Vq (VZ ⟨_,rfl,"set_iterator",_,⟨_,VS _ rfl,rfl⟩,si_next.lookup,?_⟩);refine h _ _ s.drawn [s.heap.objs.size,S] ws _ hp (λA' M6=>gu M6 hf (Uw A3) ws hl sl hr) ⟨?_,WB _ hS⟩ (λb hb=>?_) (λb o e=>WB _ e) (VW _)
  ·rw[h0];exact VS _ rfl
  ·rcases VI.mp hb with rfl|hb
   ·exact .inr (VW _)
   ·exact .inl (VX.mp hb)
 cases hb:byT w with
 |true =>
  simp only[Bool.not_true,Bool.false_and,Bool.false_eq_true,if_false];refine JM ((pickOrder (w.params.setOrder S ep) es).toList.map (·.2)) (λ_=>0) rfl ((jG _ es).map _) λi s' A' E' Q' hi K0 q=>iz K0 hf hb ?_;rw[VA,Array.getElem?_toList,Option.map_map]at q;exact q
 |false =>
  have HS:t.led=true:=by rw[BU,hb];rfl
  cases hd:(!t.plain&&decide (es.size>1))with
  |true =>
   simp only[Bool.not_false,Bool.and_self,if_true];refine WC (vb es.size (List.range es.size) s _ (by simp) λps d hp=>?_);have AZ:ps.length=es.size:=by rw[hp.length_eq,SD]
   refine WC (wpAny_newTuple ?_ (by rw[WA,AZ];exact hz));refine WC (wpAny_setEpoch_of (s:={ s with heap:=_,drawn:=d }) (WB _ hS) rfl hf (WC ?_));unfold newFields;refine Vq (VZ ⟨_,rfl,"set_iterator",_,⟨_,VS _ rfl,rfl⟩,si_next.lookup,?_⟩);have K5:(s.heap.push (PyProof.Rows.seqObj "tuple" (ps.map λ(i:Nat)=>rawInt i).toArray 0)).objs.size=s.heap.objs.size+1:=Vk _ _;refine h _ _ d [s.heap.objs.size+1,S,s.heap.objs.size] (ps.map λp=>(es.getD p (0,Value.none)).2) (λi h=>h.get? (s.heap.objs.size+1)=some (xg (.ref s.heap.objs.size) i S es.size ep)/\h.get? S=some (zI es ep t)/\∃o,h.get? s.heap.objs.size=some o/\o.data = .seq (ps.map λ(i:Nat)=>rawInt i).toArray 0) ?_ (λA' M6=>?_) ⟨?_,?_,?_⟩ (λb Bo=>?_) (λb o e=>WB _ (WB _ e)) (by rw[K5];exact UG _)
   ·have h1:=hp.map λp=>(es.getD p (0,Value.none)).2;have h2:(List.range es.size).map (λp=>(es.getD p (0,Value.none)).2)=es.toList.map (·.2):=by
     have:=Vp (List.map (·.2)) (rC es);rw[Vi]at this;exact this
    rw[h2]at h1;exact h1
   ·have e1:(s.heap.push (PyProof.Rows.seqObj "tuple" (ps.map λ(i:Nat)=>rawInt i).toArray 0)).objs.size=s.heap.objs.size+1:=K5;have:=gw (A:=A') (I:=s.heap.objs.size+1) (S:=S) (T:=s.heap.objs.size) (ep:=ep) (c:=0) (prog:=prog) (w:=w) M6 hf (Uw (Uy A3)) (Uw (UI _)) hp;show Walks prog w A' (s.heap.push (PyProof.Rows.seqObj "tuple" (ps.map λ(i:Nat)=>rawInt i).toArray 0)).objs.size _ [(s.heap.push (PyProof.Rows.seqObj "tuple" (ps.map λ(i:Nat)=>rawInt i).toArray 0)).objs.size] _ _ _;rw[e1];exact this
   ·have e2:=VS (s.heap.push (PyProof.Rows.seqObj "tuple" (ps.map λ(i:Nat)=>rawInt i).toArray 0)) (o:=xg (.ref s.heap.objs.size) 0 S es.size ep) rfl;rw[K5]at e2;exact e2
   ·exact WB _ (WB _ hS)
   ·exact⟨_,WB _ (VS _ rfl),rfl⟩
   ·rcases VI.mp Bo with rfl|Bo
    ·exact .inr (UG _)
    ·rcases VI.mp Bo with rfl|Bo
     ·exact .inl rfl
     ·rw[VX.mp Bo];exact .inr (VW _)
  |false =>
   simp only[S8,Bool.false_eq_true,if_false];have hps:=nN hf;have up:t.place.toList.Pairwise (·<·):=by
    cases AZ:t.plain with
    |true=>exact HJ AZ
    |false =>
     rw[AZ]at hd;have Hd:t.place.toList.length<=1:=by
      rw[US,hps];simpa using hd
     match t.place.toList,Hd with
     |[],_=>exact .nil
     |[a],_=>exact List.pairwise_singleton _ _
   refine JM (es.toList.map (·.2)) (λi=>if i=0 then 0 else t.place.getD (i-1) 0+1) rfl .rfl λi s' A' E' Q' hi K0 q=>lz K0 hf hb hd HS ?_;have hb2:SetTable.below t.place (if i=0 then 0 else t.place.getD (i-1) 0+1)=i:=by
    have e0:t.place=t.place.toList.toArray:=by simp
    by_cases hi0:i=0
    ·subst hi0;rw[VB rfl,e0];exact lC up
    ·rw[VF hi0];have hi1:i-1<t.place.toList.length:=by rw[US,hps];lia
     have:=lA up hi1;have e1:t.place.toList[i-1]=t.place.getD (i-1) 0:=by
      have:i-1<t.place.size:=by lia
      simp[Array.getD,this]
     rw[e1]at this;have e2:t.place.toList.toArray=t.place:=by simp
     rw[e2]at this;rw[this];lia
   show Q' (match es[SetTable.below t.place (if i=0 then 0 else t.place.getD (i-1) 0+1)]?,t.place[SetTable.below t.place (if i=0 then 0 else t.place.getD (i-1) 0+1)]? with|some (_,x),some j=>some (x,j+1)|_,_=>none) s';rw[hb2]
   by_cases hlt':i<es.size
   ·have e1:es[i]?=some es[i]:=by simp[hlt']
    have ES:i<t.place.size:=by lia
    have e2:t.place[i]?=some t.place[i]:=by simp[ES]
    rw[e1,e2];have e3:(es.toList.map (·.2))[i]?=some es[i].2:=by simp[hlt']
    rw[e3]at q;have e4:t.place.getD i 0=t.place[i]:=by simp[Array.getD,ES]
    have q':Q' (some (es[i].2,t.place.getD i 0+1)) s':=q;rw[e4]at q';exact q'
   ·have e1:es[i]?=none:=by simp;lia
    rw[e1];have e3:(es.toList.map (·.2))[i]?=none:=by simp;lia
    rw[e3]at q;exact q
end
end My
namespace My
open PySem PySem.Spec PySem.W PySem.Calls
open PyProof.Rows hiding St
open Tb
variable{S l:Addr}{c ep:Nat}{es:Array (Int×Value)}{t:SetTable}
section
variable {prog:Nn}{w:No}{A:Nr}{E:Da}{s:Np}
def gI{Q:Bool->Shared->Prop}(hT:s.TypeIs (.ref S) "set")(h:Q false s):wpAny (model prog w) A (Builtin.List.listLengthHint (.ref S)) Q E s:=by
 unfold Builtin.List.listLengthHint;refine WC (wpAny_specialOf hT F.slot_set_len.lookup ?_);generalize hid:("set.__len__":String)=id0
 wp_delta
 rw[show splitId id0=some ("set","__len__")from by subst hid;decide +kernel];subst hid;refine WC (Sz (b:=true) (T:="set") hT sub_set_self (wpAny_ite_split (λz=>absurd z (by decide)) λ_=>?_));exact wpAny_ite_split (λ_=>WC (SZ hT (VZ h))) λz=>absurd (by decide +kernel) z
def mX{R:Result->Shared->Prop}{res:Nq}(hh:A.handled=none)(hS:s.heap.get? S=some (zI es ep t))(hf:t.fits es.size=true)(BU:t.led=!byT w)(HJ:t.plain=true->t.place.toList.Pairwise (·<·))(hz:es.size<=sizeLine)
  (hl:s.heap.get? l=some { cls:=.type "list",data:=.seq #[] c }) (hR:∀h' d tk (ws:GE) c',ws.Perm (es.toList.map (·.2))->(∀b o,b≠l->s.heap.get? b=some o->h'.get? b=some o)->h'.get? l=some { cls:=.type "list",dict:=none,data:=.seq ws.toArray c',slots:=#[] }->R (.ok (.ret res)) { s with heap:=h',drawn:=d,toks:=tk }) :
  wpAny (model prog w) A.in1 (Builtin.List.listExtendWith (.ref l) (.ref S) res) (λA9 s'=>match A9 with|.done f=>R (.ok f) s'|.again c'=>c'.quiet=true/\codeAny (model prog w) A c' R s') (λe s'=>R (.error e) s') s:=by
 have hT:s.TypeIs (.ref S) "set":=⟨_,hS,rfl⟩
 have hlS:l≠S:=by
  rintro rfl;have:=Vp Obj.cls (V3 (hS.symm.trans hl));simp at this
 unfold Builtin.List.listExtendWith;refine WC (SZ hT ?_);have n1:Builtin.List.listSameRef (.ref l) (.ref S)=false:=by simp[Builtin.List.listSameRef,hlS]
 have n2:(Value.type "set"==Value.type "list")=false:=by decide
 have n3:(Value.type "set"==Value.type "tuple")=false:=by decide
 simp only[n1,n2,n3,Bool.or_false,Bool.false_eq_true,if_false];refine WC (dn hS hf BU HJ hz λI h1 d fp ws St hp W st IX keep hI=>?_);have A3:l<s.heap.objs.size:=VV hl;have hlf:l∉fp:=λz=>by
  rcases IX l z with e|e
  ·exact hlS e
  ·exact absurd A3 (T4.mpr e)
 have key:∀(h:Nw)(Sh:Nat),St 0 h->(∀b o,b≠l->s.heap.get? b=some o->h.get? b=some o)->h.get? l=some { cls:=.type "list",data:=.seq #[] Sh } ->
   codeAny (model prog w) A (.builtin "list.extend.loop" ⟨[.ref l,.ref I,res],[]⟩) R { s with heap:=h,drawn:=d }:=by
  intro h Sh Bz k' Ml;refine codeAny_extend_loopS (W A.in1 hh).toS hz l hlf res es.size 0 { s with heap:=h,drawn:=d } #[] Sh rfl (V5 _) Bz Ml (ItemsOf.nil _) λs' Aw c' hm he Ky=>?_;rw[Moved.eq_with hm];have Jw:Aw=ws.toArray:=by
   apply Ur.mp;have F6:ws.length=es.size:=by rw[hp.length_eq];simp
   apply List.ext_getElem?;intro i
   by_cases hi:i<es.size
   ·have hsz:i<Aw.size:=by rw[Ky.1];exact hi
    have h3:Aw[i]?=some Aw[i]:=SY hsz;have h4:=Ky.2 i _ h3;rw[Array.getElem?_toList,h3];exact h4.symm
   ·rw[Tk (by rw[US,Ky.1];lia)];exact(Tk (by show ws.length<=i;lia)).symm
  rw[Jw]at he;refine hR s'.heap d s'.toks ws c' hp (λb o hb e=>hm.heap b o (λz=>?_) (k' b o hb e)) he;rcases VI.mp z with e'|z
  ·exact hb e'
  ·rw[VX.mp z]at e;exact absurd (VV e) (T4.mpr hI)
 have hT1:Shared.TypeIs { s with heap:=h1,drawn:=d } (.ref S) "set":=⟨_,keep _ _ hS,rfl⟩
 refine WC (Vh (gI hT1 ?_));have Gm:=keep _ _ hl;refine wpAny_ite_split (λ_=>?_) (λ_=>VZ ⟨Sx F.plain_extend_loop _,key h1 c st (λb o _ e=>keep b o e) Gm⟩);refine WC (SO (WC (show wpAny _ _ (updateSeq l (·.push .none) >>=λ_=>updateSeq l (·.pop)) _ _ _ from ?_)));refine WC (wpAny_updateSeq Gm rfl ?_);have F6:=Vn (Obj.mapSeq (·.push Value.none)) Gm rfl;refine wpAny_updateSeq (hz:=by seq_fits) F6 rfl ?_;have hl3:=Vn (Obj.mapSeq (·.pop)) F6 rfl;refine VZ ⟨Sx F.plain_extend_loop _,key _ _ ?_ (λb o hb e=>?_) hl3⟩
 ·refine(W A.in1 hh).frame 0 _ _ st λb hb o e=>?_;have Bo:b≠l:=λz=>hlf (z▸hb);exact(V0 _ _ (U6 Bo)).trans ((V0 _ _ (U6 Bo)).trans e)
 ·exact(V0 _ _ (U6 hb)).trans ((V0 _ _ (U6 hb)).trans (keep b o e))
theorem oV{R:List Value->Shared->Prop}(hh:A.handled=none)(hS:s.heap.get? S=some (zI es ep t))(hf:t.fits es.size=true)(BU:t.led=!byT w)(HJ:t.plain=true->t.place.toList.Pairwise (·<·))(hz:es.size<=sizeLine)
  (h:∀h' d tk (ws:List Value),ws.Perm (es.toList.map (·.2))->(∀b o,s.heap.get? b=some o->h'.get? b=some o)->s.heap.objs.size<h'.objs.size->R ws { s with heap:=h',drawn:=d,toks:=tk }):wpAny (model prog w) A (collect (.ref S)) R E s:=by
 unfold collect;refine WC (wpAny_runValue (Tl entry_proto_collect' (by
  rw[TD F.plain_proto_collect _];refine(show wpAny _ A.in1 (newList [] >>=λl=>again (.builtin "list.__iadd__" ⟨[l,.ref S],[]⟩)) _ _ s from WC (Vq ?_));refine VZ ⟨Sx F.plain_list_iadd _,Tl entry_list_iadd' ?_⟩;rw[TD F.plain_list_iadd _];refine(show wpAny _ A.in1 (Builtin.List.listExtendWith (.ref s.heap.objs.size) (.ref S) (.ref s.heap.objs.size)) _ _ _ from ?_);have hl:(s.heap.push { cls:=.type "list",data:=.seq ([]:List Value).toArray }).get? s.heap.objs.size=some { cls:=.type "list",data:=.seq #[] }:=VS _ rfl;have key:=mX (prog:=prog) (A:=A) (s:={ s with heap:=s.heap.push { cls:=.type "list",data:=.seq ([]:List Value).toArray } }) (res:=.ref s.heap.objs.size)
   (R:=λq s'=>∃(h':Heap)(d:Drawn)(tk:Nat)(ws:List Value)(c':Nat),q = .ok (.ret (.ref s.heap.objs.size))/\s'={ s with heap:=h',drawn:=d,toks:=tk }/\ws.Perm (es.toList.map (·.2))/\(∀b o,s.heap.get? b=some o->h'.get? b=some o)/\h'.get? s.heap.objs.size=some { cls:=.type "list",dict:=none,data:=.seq ws.toArray c',slots:=#[] })
   hh (WB _ hS) hf BU HJ hz hl λh' d tk ws c' hp k e=>⟨h',d,tk,ws,c',rfl,rfl,hp,λb o e'=>k b o (VD (VV e')) (WB _ e'),e⟩
  refine V6 key (λA9 s' x=>?_) λe s' x=>?_
  ·cases A9 with
   |done f =>
    obtain⟨h',d,tk,ws,c',e,rfl,hp,k,el⟩:=x;cases e;exact(show wpAny _ A (load s.heap.objs.size >>= _) _ _ _ from WC (wpAny_load el (VZ (h h' d tk ws hp k (VV el)))))
   |again Sh =>
    refine⟨x.1,T9 x.2 λq Y' y=>?_⟩;obtain⟨h',d,tk,ws,c',rfl,rfl,hp,k,el⟩:=y;exact(show wpAny _ A (load s.heap.objs.size >>= _) _ _ _ from WC (wpAny_load el (VZ (h h' d tk ws hp k (VV el)))))
  ·obtain⟨_,_,_,_,_,e',_⟩:=x;cases e')))
def tW{Q:Da}(hh:A.handled=none)(hS:s.heap.get? S=some (zI es ep t))(hf:t.fits es.size=true)(BU:t.led=!byT w)(HJ:t.plain=true->t.place.toList.Pairwise (·<·))(hz:es.size<=sizeLine)
  (h:∀D h' d tk (ws:GE),ws.Perm (es.toList.map (·.2))->(∀b o,s.heap.get? b=some o->h'.get? b=some o)->s.heap.objs.size<=D->h'.get? D=some (seqObj "list" ws.toArray 0) ->
   wpAny (model prog w) A.in1 (call (.builtin "list.sort") [.ref D]) (λ_ s'=>Q (.ref D) s') E { s with heap:=h',drawn:=d,toks:=tk }):wpAny (model prog w) A (call (.builtin "sorted") [.ref S]) Q E s:=by
 refine call_function_entry kind_sorted plain_sorted entry_sorted (args_sorted1 _) (by
  unfold Builtin.«sorted»;refine WC (m:=checkCount "sorted" 1 1 _) (VZ (WC (oV (A:=A.in1) hh hS hf BU HJ hz λh' d tk ws hp k Hd=>?_)));have hl:ws.length=es.size:=by rw[hp.length_eq];simp
  refine WC (wpAny_newList ?_ (by rw[hl];exact hz));have g:=h h'.objs.size (h'.push (seqObj "list" ws.toArray 0)) d tk ws hp (λb o e=>WB _ (k b o e)) (UQ Hd) (VS _ rfl);exact WC (Vh (V6 g (λ_ s' x=>VZ ⟨_,rfl,x⟩) λ_ _ e=>e)))
end
end My
namespace My
open PySem PySem.Spec PySem.W PySem.Calls
open Tb
variable{t t':SetTable}{ep n:Nat}{Es M':List (Int×Value)}{D:GM}
def sB(t:SetTable)(n:Nat):(t.orStandIn n).led=t.led:=by unfold SetTable.orStandIn SetTable.standIn;split<;>rfl
def lV(t:SetTable)(es:Array (Int×Value))(h:Int)(x:Nq):(layNew t es h x).2.1.led=t.led:=by
 unfold layNew;split
 ·exact sB _ _
 ·rfl
def qA{hs:Array Int}{o:Array Nat}(h:t.relaid hs n=some (t',o)):t'.led=t.led/\t'.plain=t.plain:=by
 unfold SetTable.relaid SetTable.laid at h;cases hc:SetTable.layClean (SetTable.sizeAbove n-1) hs with
 |none=>rw[hc]at h;cases h
 |some ow =>
  rw[hc]at h;have h':=(Prod.mk.inj (V3 h)).1;rw[<-h'];exact⟨rfl,rfl⟩
def qB(t:SetTable)(es:Array (Int×Value))(n:Nat):(relayAll t es n).2.1.led=t.led/\(t.plain=false->(relayAll t es n).2.1.plain=false):=by
 unfold relayAll;split
 ·rename_i t' o e;dsimp only;have:=qA e;split
  ·exact⟨this.1,λh=>this.2.trans h⟩
  ·exact⟨rfl,λ_=>rfl⟩
 ·exact⟨rfl,λ_=>rfl⟩
section
variable {prog:Nn}{w:No}{A:Nr}{E:Da}{s:Np}
structure GoodS(w:No)(Es:List (Int×Value))(D:GM):Prop where
 in1:∀e∈Es,∃x t,x∈D/\e=(hashStr w x,.str x t)
 in2:∀x∈D,∃t,(hashStr w x,.str x t)∈Es
 one:Es.Pairwise λe e'=>∀x t t',e.2 = .str x t->e'.2≠.str x t'
def GoodS.perm(g:GoodS w Es D)(p:M'.Perm Es):GoodS w M' D :=
 ⟨λe he=>g.in1 e (p.mem_iff.mp he),λx hx=>let⟨t,h⟩:=g.in2 x hx;⟨t,p.mem_iff.mpr h⟩,(p.pairwise_iff (λ{a b} EU x t t' h1 h2=>EU x t' t h2 h1)).mpr g.one⟩
def GoodS.elems(g:GoodS w Es D):ElemsOf (PySem.strKind prog w) Es:=λe he=>by
 obtain⟨x,t,_,rfl⟩:=g.in1 e he;exact⟨⟨x,by show Value.isStrOf x (.str x t)=true;simp[Value.isStrOf],rfl⟩,rfl⟩
theorem add_str{S:Addr}{es:Array (Int×Value)}{x:Str}{tok:Tok}(hS:s.heap.get? S=some (zI es ep t))(hf:t.fits es.size=true)(g:GoodS w es.toList D)(hb:es.size+1<scanBound)(AZ:es.size≠0->t.plain=false){Q:Bool->Shared->Prop}
  (q:∀(b:Bool)(h':Heap)(tk:Nat)(Bp:Array (Int×Value))(Eg:Nat)(t':SetTable),h'.get? S=some (zI Bp Eg t')->Heap.SameBut S s.heap h'->t'.fits Bp.size=true->t'.led=t.led->(Bp.size≠0->t'.plain=false)->GoodS w Bp.toList (D++[x])->Bp.size<=es.size+1->Q b { s with heap:=h',toks:=tk }) :
  wpAny (model prog w) A (setAdd S (.str x tok)) Q E s:=by
 have IT:(PySem.strKind prog w).is x (.str x tok)=true:=by show Value.isStrOf x (.str x tok)=true;simp[Value.isStrOf]
 unfold setAdd;refine Vh (WC ((PySem.strKind prog w).pyHash IT ?_));have Kz:({ s with toks:=s.toks+1 }:Shared).heap.get? S=some (zI es ep t):=hS;unfold setAddHashed setAddHashedIn;refine Vh (WC (UO Kz rfl hf ?_));dsimp only;rw[byScan_of (knd:=PySem.strKind prog w) rfl (by lia) g.elems];simp only[if_true];unfold setAddByScan;refine WC (WC (SO (WC (wpAny_setScan_of (knd:=PySem.strKind prog w) IT Kz rfl hf g.elems ?_))));cases hr:List.findIdx? (λe=>(PySem.strKind prog w).is x e.2) es.toList with
 |some j =>
  dsimp only;obtain⟨hj,hpj,_⟩:=List.findIdx?_eq_some_iff_getElem.mp hr;refine VZ (VZ (q false s.heap _ es ep t hS (Heap.SameBut.refl S s.heap) hf rfl AZ ⟨λe he=>?_,λy hy=>?_,g.one⟩ (UG _)))
  ·obtain⟨y,t',h1,h2⟩:=g.in1 e he;exact⟨y,t',UV _ h1,h2⟩
  ·rcases VQ.mp hy with hy|hy
   ·exact g.in2 y hy
   ·rw[VX.mp hy];have hm:=Ua hj;obtain⟨y',t',_,e⟩:=g.in1 _ hm;rw[e]at hpj;have:y'=x:=by
     have h5:Value.isStrOf x (.str y' t')=true:=hpj;simpa[Value.isStrOf]using h5
    subst this;exact⟨t',by rw[<-e];exact hm⟩
 |none =>
  dsimp only;have CA:∀e∈es.toList,∀t',e.2≠.str x t':=λe he t' z=>by
   have:=List.findIdx?_eq_none_iff.mp hr e he;rw[z]at this;have h5:Value.isStrOf x (.str x t')=false:=this;simp[Value.isStrOf]at h5
  have BN:=layNew_perm t es (hashStr w x) (.str x tok);have Gp:=layNew_fits t es (hashStr w x) (.str x tok);have BU:=lV t es (hashStr w x) (.str x tok);have hh:(PySem.strKind prog w).hash x=hashStr w x:=rfl;rw[hh];generalize hL:layNew t es (hashStr w x) (.str x tok)=L at BN Gp BU ⊢;obtain⟨DX,t1,L8,gave⟩:=L;dsimp only at BN Gp BU ⊢;rw[Array.toList_push]at BN;have hsz:DX.size=es.size+1:=by
   have:=BN.length_eq;simpa using this
  have Jd:GoodS w DX.toList (D++[x]):=by
   refine GoodS.perm (Es:=(hashStr w x,Value.str x tok)::es.toList) ⟨λe he=>?_,λy hy=>?_,Tu.mpr ⟨λe he y t1 t2 h1 h2=>?_,g.one⟩⟩ (BN.trans (List.perm_append_singleton _ _))
   ·rcases VI.mp he with rfl|he
    ·exact⟨x,tok,VM _ (VX.mpr rfl),rfl⟩
    ·obtain⟨y,t',h1,h2⟩:=g.in1 e he;exact⟨y,t',UV _ h1,h2⟩
   ·rcases VQ.mp hy with hy|hy
    ·obtain⟨t',h⟩:=g.in2 y hy;exact⟨t',VJ _ h⟩
    ·rw[VX.mp hy];exact⟨tok,VE⟩
   ·cases h1;exact CA e he t2 h2
  have hgw:∀(b:Bool)(X':Shared)(Q':Unit->Shared->Prop),Q' () X'->wpAny (model prog w) A (match b with|true=>rule "set.scan.the-table-gave-way" | false=>pure ()) Q' E X':=λb X' Q' hq=>by
   cases b
   ·exact VZ hq
   ·exact SO hq
  have LB:∀t2:SetTable,t2.fits DX.size=true->t2.led=t.led->t2.plain=false->∀(R:Option Bool->Shared->Prop),(∀h' Bp Eg t',h'.get? S=some (zI Bp Eg t')->Heap.SameBut S s.heap h'->t'.fits Bp.size=true->t'.led=t.led->t'.plain=false->Bp.toList.Perm DX.toList->R (some true) { s with heap:=h',toks:=s.toks+1 }) ->
    wpAny (model prog w) A (do
     storeSet S DX t2
     if(!L8&&t2.tooFull)=true then do
      (match(relayAll t2 DX (SetTable.grown DX.size)).2.2 with|true=>rule "set.scan.the-table-gave-way" | false=>pure ())
      storeSet S (relayAll t2 DX (SetTable.grown DX.size)).1 (relayAll t2 DX (SetTable.grown DX.size)).2.1
      pure (some true)
     else pure (some true)) R E { s with toks:=s.toks+1 }:=by
   intro t2 f2 l2 p2 R hR;refine WC (wI Kz (fits_of_scanBound (by rw[hsz];exact hb)) λh1 hS2 JS=>?_);split
   ·have J3:=relayAll_perm t2 DX (SetTable.grown DX.size);have hf2:=relayAll_fits t2 DX (SetTable.grown DX.size);obtain⟨F6,hpl2⟩:=qB t2 DX (SetTable.grown DX.size);have Fx:(relayAll t2 DX (SetTable.grown DX.size)).1.size=DX.size:=by
     have:=J3.length_eq;simpa using this
    refine WC (hgw _ _ _ (WC (wI (s:={ s with heap:=h1,toks:=s.toks+1 }) hS2 (fits_of_scanBound (by rw[Fx,hsz];exact hb)) λh2 hS3 sb2=>VZ ?_)));exact hR h2 _ _ _ hS3 (JS.trans sb2) hf2 (F6.trans l2) (hpl2 p2) J3
   ·exact VZ (hR h1 DX _ t2 hS2 JS f2 l2 p2 .rfl)
  have A9:∀h' Bp Eg t',h'.get? S=some (zI Bp Eg t')->Heap.SameBut S s.heap h'->t'.fits Bp.size=true->t'.led=t.led->t'.plain=false->Bp.toList.Perm DX.toList->Q true { s with heap:=h',toks:=s.toks+1 }:=λh' Bp Eg t' e1 e2 e3 e4 e5 e6=>by
   refine q true h' _ Bp Eg t' e1 e2 e3 e4 (λ_=>e5) (Jd.perm e6) ?_;have:=e6.length_eq;simp at this;lia
  refine WC (hgw _ _ _ ?_);split
  ·rw[hashByValue_scannable 8 (x:=.str x tok) rfl];refine WC (VZ ?_);simp only[plainKind,Bool.false_eq_true,if_false];exact LB { t1 with plain:=false } (SetTable.fits_plain_off Gp) BU rfl _ λh' Bp Eg t' e1 e2 e3 e4 e5 e6=>VZ (A9 h' Bp Eg t' e1 e2 e3 e4 e5 e6)
  ·rename_i ES;refine WC (VZ ?_);simp only[if_true];exact LB t1 Gp BU (by simpa using ES) _ λh' Bp Eg t' e1 e2 e3 e4 e5 e6=>VZ (A9 h' Bp Eg t' e1 e2 e3 e4 e5 e6)
end
end My
namespace My
open PySem PySem.Spec PySem.W PySem.Calls
open PyProof.Rows hiding St
namespace Srt
variable{p p':Array Nat}{GX d i j m:Nat}
variable {O:KeyOrd}{key:Nat->O.α}{n:Nat}
def Ok{α:Type}(key:Nat->O.α)(n:Nat):KasT α->(α->Prop)->Prop
 | .ret a,P=>P a
 | .ask i j k,P=>i<n/\j<n/\Ok key n (k (O.blt (key i) (key j))) P
theorem Ok.mono{α:Type}{P P':α->Prop}(hp:∀a,P a->P' a):∀{t:KasT α},Ok key n t P->Ok key n t P'
 | .ret a,h=>hp a h
 | .ask i j k,h=>⟨h.1,h.2.1,Ok.mono hp h.2.2⟩
theorem Ok.bind{α β:Type}{f:α->KasT β}{P:β->Prop}:∀{t:KasT α},Ok key n t (λa=>Ok key n (f a) P)->Ok key n (t.bind f) P
 | .ret a,h=>h
 | .ask i j k,h=>⟨h.1,h.2.1,Ok.bind h.2.2⟩
theorem Ok.wp{α:Type}{cmp:Nat->Nat->(Bool->Shared->Prop)->Shared->Prop}{P:α->Prop}{Q:α->Shared->Prop}{s:Shared}(hc:∀i j C,i<n->j<n->C (O.blt (key i) (key j)) s->cmp i j C s)(hq:∀a,P a->Q a s):∀{t:KasT α},Ok key n t P->t.kasWp cmp Q s
 | .ret a,h=>hq a h
 | .ask i j k,h=>hc i j _ h.1 h.2.1 (Ok.wp hc hq h.2.2)
def K(key:Nat->O.α)(p:Array Nat)(i:Nat):O.α:=key (p.getD i 0)
structure All(n:Nat)(p:Array Nat):Prop where
 pm:p.toList.Perm (List.range n)
theorem All.size(a:All n p):p.size=n:=by
 have:=a.pm.length_eq;simpa using this
def All.lt(a:All n p)(hn:0<n)(i:Nat):p.getD i 0<n:=by
 by_cases hi:i<p.size
 ·have e:p.getD i 0=p[i]:=by simp[Array.getD,hi]
  rw[e];have:p[i]∈p.toList:=by simp
  exact Vc.mp (a.pm.mem_iff.mp this)
 ·have e:p.getD i 0=0:=by simp[Array.getD,hi]
  rw[e];exact hn
def All.of(a:All n p)(h:p'.Perm p):All n p':=⟨(Array.perm_iff_toList_perm.mp h).trans a.pm⟩
def wb:p.getD i 0=(p[i]?).getD 0:=by
 by_cases hi:i<p.size
 ·simp[Array.getD,hi]
 ·simp[Array.getD,hi]
def dM(hj:j<=p.size)(k:Nat):K key (kas_rev p i j) k=if i<=k/\k<j then K key p (i+j-1-k)else K key p k:=by
 have e:=getElem?_mirror_all (xs:=p) (i:=i) hj k;unfold K kas_rev;rw[wb,e];split
 ·rw[<-wb]
 ·rw[<-wb]
def aT(hs:GX<p.size)(hd:d<=GX)(k:Nat):K key (bubble p GX d) k=if k=GX-d then K key p GX else if GX-d<k/\k<=GX then K key p (k-1)else K key p k:=by
 have e:=getElem?_bubble hs d hd k;unfold K;rw[wb,e]
 by_cases h1:k=GX-d
 ·rw[VB h1,VB h1,<-wb]
 ·rw[VF h1,VF h1]
  by_cases h2:GX-d<k/\k<=GX
  ·rw[VB h2,VB h2,<-wb]
  ·rw[VF h2,VF h2,<-wb]
def Up(key:Nat->O.α)(p:Array Nat)(m:Nat):Prop:=∀i j,i<=j->j<m->O.kle (K key p i) (K key p j)
def Dn(key:Nat->O.α)(p:Array Nat)(m:Nat):Prop:=∀i j,i<=j->j<m->O.kle (K key p j) (K key p i)
def Up.step(h:Up key p m)(h1:1<=m)(hc:O.kle (K key p (m-1)) (K key p m)):Up key p (m+1):=λi j EJ hj=>by
 by_cases e:j=m
 ·subst e
  by_cases e2:i=j
  ·subst e2;exact Uv _
  ·exact Td (h i (j-1) (by lia) (by lia)) hc
 ·exact h i j EJ (by lia)
def Dn.step(h:Dn key p m)(h1:1<=m)(hc:O.kle (K key p m) (K key p (m-1))):Dn key p (m+1):=λi j EJ hj=>by
 by_cases e:j=m
 ·subst e
  by_cases e2:i=j
  ·subst e2;exact Uv _
  ·exact Td hc (h i (j-1) (by lia) (by lia))
 ·exact h i j EJ (by lia)
theorem mF{p:Array Nat}(a:All n p)(hn:0<n):∀(f m:Nat),1<=m->Up key p m->Ok key n (kas_asc p f m) λr=>m<=r/\r<=m+f/\Up key p r/\(r=m+f\/O.klt (K key p r) (K key p (r-1)))
 |0,m,h1,h=>⟨VW _,VW _,h,.inl rfl⟩
 |f+1,m,h1,h=>by
  refine⟨a.lt hn _,a.lt hn _,?_⟩;cases hc:O.blt (key (p.getD m 0)) (key (p.getD (m-1) 0))with
  |true=>exact⟨VW _,by lia,h,.inr hc⟩
  |false =>
   (try dsimp only);rw[VF VG]
   refine Ok.mono (λr hr=>?_) (mF a hn f (m+1) (by lia) (h.step h1 hc));exact⟨by lia,by lia,hr.2.2.1,hr.2.2.2.imp (λe=>by lia) id⟩
def tP(hj:j<=p.size)(he:∀k,i<=k->k<j->K key p k=K key p (j-1))(k:Nat):K key (kas_rev p i j) k=K key p k:=by
 rw[dM hj];split
 ·rw[he _ (by lia) (by lia),he k (by lia) (by lia)]
 ·rfl
def vS(a:All n p)(i j:Nat):All n (kas_rev p i j):=a.of (mirror_perm _ _ _ _)
theorem uL(hn:0<n):∀(f:Nat)(p:Array Nat)(m q:Nat),All n p->1<=m->m+f<=n->q+1<=m->Dn key p m->(∀k,m-(q+1)<=k->k<m->K key p k=K key p (m-1)) ->
  Ok key n (kas_desc f p m q) λr=>All n r.1/\m<=r.2.1/\r.2.1<=m+f/\r.2.2+1<=r.2.1/\Dn key r.1 r.2.1/\∀k,r.2.1-(r.2.2+1)<=k->k<r.2.1->K key r.1 k=K key r.1 (r.2.1-1)
 |0,p,m,q,a,h1,hf,hq,hd,he=>⟨a,VW _,VW _,hq,hd,he⟩
 |f+1,p,m,q,a,h1,hf,hq,hd,he=>by
  refine⟨a.lt hn _,a.lt hn _,?_⟩;cases hc:O.blt (key (p.getD m 0)) (key (p.getD (m-1) 0))with
  |true =>
   (try dsimp only);rw[VB rfl]
   have J0:Dn key p (m+1):=hd.step h1 (SA hc);split
   ·have C7:=tP (key:=key) (p:=p) (i:=m-(q+1)) (j:=m) (by rw[a.size];lia) he;refine Ok.mono (λr hr=>⟨hr.1,by lia,by lia,hr.2.2.2⟩) (uL hn f (kas_rev p (m-(q+1)) m) (m+1) 0 (vS a _ _) (by lia) (by lia) (by lia) (λi j EJ hj=>?_) λk h1 h2=>?_)
    ·rw[C7,C7];exact J0 i j EJ hj
    ·have:k=m+1-1:=by lia
     rw[this]
   ·refine Ok.mono (λr hr=>⟨hr.1,by lia,by lia,hr.2.2.2⟩) (uL hn f p (m+1) 0 a (by lia) (by lia) (by lia) J0 λk h1 h2=>?_);have:k=m+1-1:=by lia
    rw[this]
  |false =>
   (try dsimp only);rw[VF VG]
   refine⟨a.lt hn _,a.lt hn _,?_⟩;cases Ic:O.blt (key (p.getD (m-1) 0)) (key (p.getD m 0))with
   |true =>
    (try dsimp only);rw[VB rfl]
    exact⟨a,VW _,(by show m<=m+(f+1);lia),hq,hd,he⟩
   |false =>
    (try dsimp only);rw[VF VG]
    have Ks:K key p m=K key p (m-1):=O.total _ _ hc Ic;refine Ok.mono (λr hr=>⟨hr.1,by lia,by lia,hr.2.2.2⟩) (uL hn f p (m+1) (q+1) a (by lia) (by lia) (by lia) (hd.step h1 (by rw[Ks];exact Uv _)) λk h1 h2=>?_);rw[show m+1-1=m by lia]
    by_cases e:k=m
    ·rw[e]
    ·rw[he k (by lia) (by lia),Ks]
def Run(key:Nat->O.α)(n:Nat)(r:Nat×Array Nat):Prop:=All n r.2/\1<=r.1/\r.1<=n/\Up key r.2 r.1
def oG(hn:0<n)(a:All n p)(h1:1<=m)(hm:m<=n)(hd:Dn key p m):Ok key n (kas_tail3 m n p) (Run key n):=by
 unfold kas_tail3;refine Ok.bind (Ok.mono (λr hr=>?_) (mF (vS a 0 m) hn (n-m) m h1 λi j EJ hj=>?_))
 ·exact⟨vS a 0 m,by lia,by lia,hr.2.2.1⟩
 ·have hs:m<=p.size:=by rw[a.size];exact hm
  rw[dM hs,dM hs,VB ⟨by lia,by lia⟩,VB ⟨by lia,by lia⟩];exact hd _ _ (by lia) (by lia)
def uc(hn:0<n)(a:All n p)(h1:1<=m)(hm:m<n)(hd:Dn key p (m+1)):Ok key n (kas_descPart m n p) (Run key n):=by
 unfold kas_descPart;refine Ok.bind (Ok.mono (λr hr=>?_) (uL hn (n-(m+1)) p (m+1) 0 a (by lia) (by lia) (by lia) hd λk h1 h2=>by rw[show k=m+1-1 by lia]));obtain⟨r1,r2,r3⟩:=r;obtain⟨a',b1,b2,b3,b4,b5⟩:=hr;dsimp only at a' b1 b2 b3 b4 b5 ⊢;split
 ·have C7:=tP (key:=key) (p:=r1) (i:=r2-(r3+1)) (j:=r2) (by rw[a'.size];lia) b5;exact oG hn (vS a' _ _) (by lia) (by lia) λi j EJ hj=>by rw[C7,C7];exact b4 i j EJ hj
 ·exact oG hn a' (by lia) (by lia) b4
def fA(a:All n p)(hn:0<n):Ok key n (kas_count n p) (Run key n):=by
 unfold kas_count;refine Ok.bind (Ok.mono (λr hr=>?_) (mF a hn (n-1) 1 (VW _) λi j EJ hj=>by
  have:i=j:=by lia
  subst this;exact Uv _))
 obtain⟨h1,h2,h3,h4⟩:=hr
 by_cases e:r=n
 ·subst e;simp only[Uq,if_true];exact⟨a,h1,VW _,h3⟩
 ·have e':(r==n)=false:=by simpa using e
  simp only[e',Bool.false_eq_true,if_false];have A3:r<n:=by lia
  have Lk:O.klt (K key p r) (K key p (r-1)):=by
   rcases h4 with h4|h4
   ·lia
   ·exact h4
  split
  ·refine⟨a.lt hn _,a.lt hn _,?_⟩;cases hc:O.blt (key (p.getD 0 0)) (key (p.getD (r-1) 0))with
   |true =>
    (try dsimp only);rw[VB rfl]
    exact⟨a,h1,by lia,h3⟩
   |false =>
    (try dsimp only);rw[VF VG]
    have Ks:∀k,0<=k->k<r->K key p k=K key p (r-1):=λk _ hk=>by
     refine KeyOrd.kle_antisymm (h3 k (r-1) (by lia) (by lia)) ?_;exact Td (show O.kle (K key p (r-1)) (K key p 0)from hc) (h3 0 k (by lia) hk)
    have C7:=tP (key:=key) (p:=p) (i:=0) (j:=r) (by rw[a.size];lia) Ks;refine uc hn (vS a 0 r) h1 A3 λi j EJ hj=>?_;rw[C7,C7]
    by_cases ej:j=r
    ·subst ej
     by_cases ei:i=j
     ·subst ei;exact Uv _
     ·rw[Ks i (by lia) (by lia)];exact SA Lk
    ·rw[Ks i (by lia) (by lia),Ks j (by lia) (by lia)];exact Uv _
  ·have BY:r=1:=by lia
   subst BY;refine uc hn a (VW _) A3 λi j EJ hj=>?_
   by_cases ei:i=j
   ·subst ei;exact Uv _
   ·have hi:i=0:=by lia
    have hj:j=1:=by lia
    subst hi hj;exact SA Lk
theorem tG{p:Array Nat}(a:All n p)(hn:0<n)(k:Nat)(hk:k<n)(hu:Up key p k):∀(f l r:Nat),l<=r->r<=k->r-l<=f->(∀i,i<l->O.kle (K key p i) (K key p k))->(∀i,r<=i->i<k->O.klt (K key p k) (K key p i)) ->
  Ok key n (kas_place p k f l r) λl'=>l'<=k/\(∀i,i<l'->O.kle (K key p i) (K key p k))/\(∀i,l'<=i->i<k->O.klt (K key p k) (K key p i))
 |0,l,r,h1,h2,h3,h4,h5=>⟨by lia,h4,λi hi=>h5 i (by lia)⟩
 |f+1,l,r,h1,h2,h3,h4,h5=>by
  unfold kas_place;split
  ·exact⟨by lia,h4,λi hi=>h5 i (by lia)⟩
  ·refine⟨a.lt hn _,a.lt hn _,?_⟩;cases hc:O.blt (key (p.getD k 0)) (key (p.getD ((l+r) / 2) 0))with
   |true =>
    (try dsimp only);rw[VB rfl]
    exact tG a hn k hk hu f l ((l+r) / 2) (by lia) (by lia) (by lia) h4 λi hi hik=>KeyOrd.klt_of_klt_of_kle hc (hu _ _ hi hik)
   |false =>
    (try dsimp only);rw[VF VG]
    exact tG a hn k hk hu f ((l+r) / 2+1) r (by lia) h2 (by lia) (λi hi=>Td (hu i ((l+r) / 2) (by lia) (by lia)) (show O.kle (K key p ((l+r) / 2)) (K key p k)from hc)) h5
theorem eu(hn:0<n):∀(f:Nat)(p:Array Nat)(k:Nat),All n p->k+f=n->Up key p k->Ok key n (kas_bin f p k) λr=>All n r/\Up key r n
 |0,p,k,a,hk,hu=>⟨a,by rw[<-hk];exact hu⟩
 |f+1,p,k,a,hk,hu=>by
  have Lf:k<n:=by lia
  refine Ok.bind (Ok.mono (λl hl=>?_) (tG a hn k Lf hu k 0 k (V5 _) (VW _) (by lia) (λi hi=>by lia) (λi h1 h2=>by lia)));obtain⟨hlk,E9,hhi⟩:=hl;have hs:k<p.size:=by rw[a.size];exact Lf
  refine eu hn f (bubble p k (k-l)) (k+1) (a.of (bubble_perm _ _ _)) (by lia) λi j EJ hj=>?_;rw[aT hs (by lia),aT hs (by lia),show k-(k-l)=l by lia]
  by_cases ei:i=l
  ·rw[VB ei]
   by_cases ej:j=l
   ·rw[VB ej];exact Uv _
   ·rw[VF ej,VB ⟨by lia,by lia⟩];exact SA (hhi _ (by lia) (by lia))
  ·rw[VF ei]
   by_cases ei2:l<i/\i<=k
   ·rw[VB ei2,VF (by lia),VB ⟨by lia,by lia⟩];exact hu _ _ (by lia) (by lia)
   ·rw[VF ei2];have ET:i<l:=by lia
    by_cases ej:j=l
    ·rw[VB ej];exact E9 i ET
    ·rw[VF ej]
     by_cases ej2:l<j/\j<=k
     ·rw[VB ej2];exact hu _ _ (by lia) (by lia)
     ·rw[VF ej2];exact hu _ _ EJ (by lia)
def ok_sort(hn:0<n):Ok key n (kas_sort n) λr=>All n r/\Up key r n:=by
 unfold kas_sort;have a0:All n (List.toArray (List.range n)):=⟨.rfl⟩
 refine Ok.bind (Ok.mono (λr hr=>?_) (fA a0 hn));obtain⟨m,p⟩:=r;obtain⟨a,h1,h2,h3⟩:=hr;dsimp only at a h1 h2 h3 ⊢;split
 ·rw[show max m 1=m by lia];exact eu hn (n-m) p m a (by lia) h3
 ·have:m=n:=by lia
  subst this;exact⟨a,h3⟩
end Srt
end My
namespace My
open PySem PySem.Spec PySem.W PySem.Calls
open PyProof.Rows hiding St
section
variable {prog:Nn}{w:No}{A:Nr}{E:Da}{s:Np}
def pZ{D:Addr}{vs:GE}{n0:Nat}{P:PySem.Fin->Shared->Prop}(ho:s.heap.get? D=some (seqObj "list" vs.toArray n0))(Lq:vs.length<64){O:KeyOrd}(key:Nat->O.α)(κ:SortKind)
  (hk:2<=vs.length->∀(s1:Np)(Q':SortKind->Shared->Prop)(E':Da),(∀b o,b≠D->s.heap.get? b=some o->s1.heap.get? b=some o)->Q' κ s1->wpAny (model prog w) A (keyKind' vs.toArray) Q' E' s1)
  (hc:∀(s1:Np)(i j:Nat)(C:Bool->Shared->Prop)(E':Da),(∀b o,b≠D->s.heap.get? b=some o->s1.heap.get? b=some o)->i<vs.length->j<vs.length->C (O.blt (key i) (key j)) s1->wpAny (model prog w) A (keyLt' κ (vs.getD i Value.none) (vs.getD j Value.none)) C E' s1)
  (h:∀(p:Array Nat)(h':Nw)(e:Nat),Srt.All vs.length p->Srt.Up key p vs.length->(∀b o,b≠D->s.heap.get? b=some o->h'.get? b=some o)->h'.get? D=some (seqObj "list" (p.toList.map λi=>vs.getD i Value.none).toArray e)->P (.done (.ret .none)) { s with heap:=h' }) :
  wpAny (model prog w) A (Builtin.«list.sort» ⟨[.ref D],[]⟩) P E s:=by
 have hD:D<s.heap.objs.size:=VV ho;obtain⟨e1,ho1⟩:∃e1,(s.heap.update D (Obj.mapSeq λ_=>(#[]:Nk))).get? D=some (seqObj "list" #[] e1):=⟨_,get?_update_seq ho λ_=>#[]⟩
 rw[list_sort_plain];refine WC (listItems_at ho rfl (WC (listUpdate_at ho rfl (WC (seqEpoch_at ho1 rfl (WC (wpAny_newTuple (WC (wpAny_newList (Vh ?_) (V5 _))) (by show vs.length<=_;rw[VP];lia))))) (by rw[VO,VP];lia) (V5 _))));generalize hH:((s.heap.update D (Obj.mapSeq λ_=>(#[]:Nk))).push (seqObj "tuple" vs.toArray 0)).push (seqObj "list" #[] 0)=H3;have keep:∀b o,b≠D->s.heap.get? b=some o->H3.get? b=some o:=λb o hb e=>by
  rw[<-hH];exact WB _ (WB _ ((V0 _ _ (U6 hb)).trans e))
 have Mf:H3.get? D=some (seqObj "list" #[] e1):=by
  rw[<-hH];exact WB _ (WB _ ho1)
 have A9:∀(p:Array Nat),Srt.All vs.length p->Srt.Up key p vs.length->P (.done (.ret .none)) { s with heap:=H3.update D (Obj.mapSeq λ_=>List.toArray (p.toList.map λi=>vs.getD i Value.none)) }:=λp hp hu =>
  h p _ _ hp hu (λb o hb e=>(V0 _ _ (U6 hb)).trans (keep b o hb e)) (get?_update_seq Mf λ_=>List.toArray (p.toList.map λi=>vs.getD i Value.none))
 refine(show wpAny (model prog w) A _ P E { s with heap:=H3 }from ?_);dsimp only;have hsz:vs.toArray.size=vs.length:=VO
 by_cases h2:vs.toArray.size<2
 ·rw[VB h2,VB h2];refine WC (VZ ?_);rw[StateT.run_pure];refine WC (VZ ?_);dsimp only;have hid:(arrOf (SortSt.mk' general' (vs.toArray.zip vs.toArray) #[] 7 none)).map (·.2)=List.toArray ((List.range vs.length).map λi=>vs.getD i Value.none):=by
   show(vs.toArray.zip vs.toArray).map (·.2)=_;apply Ur.mp;apply T0
   ·simp
   ·intro i a1 a2;have hi:i<vs.length:=by simpa using a2
    simp[hi]
  refine WC (seqEpoch_at Mf rfl ?_);rw[hid];refine WC (listUpdate_at Mf rfl ?_ (V5 _) (by rw[VO,WA,SD,VP];lia));simp only[bne_self_eq_false,Bool.false_eq_true,if_false];refine VZ ?_;have:=A9 (List.toArray (List.range vs.length)) ⟨.rfl⟩ λi j EJ hj=>by
   have:i=j:=by lia
   subst this;exact Uv _
  exact this
 ·rw[VF h2,VF h2];have D4:2<=vs.length:=by lia
  refine WC (hk D4 { s with heap:=H3 } _ _ keep ?_);have ask:(kas_sort vs.length).kasWp (kas_ask prog w A κ vs) (λp s'=>s'={ s with heap:=H3 }/\Srt.All vs.length p/\Srt.Up key p vs.length) { s with heap:=H3 } :=
   Srt.Ok.wp (λi j C hi hj q=>hc { s with heap:=H3 } i j C _ keep hi hj q) (λp hp=>⟨rfl,hp.1,hp.2⟩) (Srt.ok_sort (by lia))
  refine WC (V6 (kat_run (Q:=λBz s'=>∃p:Array Nat,arrOf Bz=p.map (kas_item (vs.toArray.zip vs.toArray))/\failedOf Bz=none/\s'={ s with heap:=H3 }/\Srt.All vs.length p/\Srt.Up key p vs.length) rfl D4 Lq (λp Bz s' _ a2 a3 a4=>⟨p,a2,a3,a4⟩) ask) ?_ λ_ _ e=>e);rintro⟨⟨⟩,Bz⟩ s' ⟨p,har,hf,rfl,hp,hu⟩;dsimp only;rw[kat_snds rfl har];refine WC (seqEpoch_at Mf rfl (WC (listUpdate_at Mf rfl ?_ (V5 _) ?_)))
  ·rw[hf];simp only[bne_self_eq_false,Bool.false_eq_true,if_false];exact VZ (A9 p hp hu)
  ·have:=hp.size;rw[VO,WA,US,this,VP];lia
end
end My
namespace My
open PySem PySem.Spec PySem.W PySem.Calls
open PyProof.Rows hiding St
variable{a b:Bool}{C Q:Bool->Shared->Prop}{D x y:Addr}
def yW:List Bool->List Bool->Bool
 |[],[]=>false
 |[],_::_=>true
 |_::_,[]=>false
 |a::x,b::y=>if a=b then yW x y else !a&&b
theorem uZ:∀a,yW a a=false
 |[]=>rfl
 |a::x=>by rw[yW,VB rfl];exact uZ x
theorem sj:∀a b c,yW a b=true->yW b c=true->yW a c=true
 |[],[],_,h,_=>by simp[yW]at h
 |[],_::_,[],_,h=>by simp[yW]at h
 |[],_::_,_::_,_,_=>rfl
 |_::_,[],_,h,_=>by simp[yW]at h
 |_::_,_::_,[],_,h=>by simp[yW]at h
 |a::x,b::y,c::z,h1,h2=>by
  have ih:=sj x y z;cases a<;>cases b<;>cases c<;>simp[yW]at h1 h2 ⊢<;>exact ih h1 h2
theorem nj:∀a b c,yW a c=true->yW a b=true\/yW b c=true
 |[],[],[],h=>by simp[yW]at h
 |[],[],_::_,_=>.inr rfl
 |[],_::_,_,_=>.inl rfl
 |_::_,_,[],h=>by simp[yW]at h
 |_::_,[],_::_,_=>.inr rfl
 |a::x,b::y,c::z,h=>by
  have ih:=nj x y z;cases a<;>cases b<;>cases c<;>simp[yW]at h ⊢<;>exact ih h
theorem ve:∀a b,yW a b=false->yW b a=false->a=b
 |[],[],_,_=>rfl
 |[],_::_,h,_=>by simp[yW]at h
 |_::_,[],_,h=>by simp[yW]at h
 |a::x,b::y,h1,h2=>by
  have ih:=ve x y;cases a<;>cases b<;>simp[yW]at h1 h2 ⊢<;>exact ih h1 h2
def Wf:KeyOrd where
 α:=List Bool
 blt:=yW
 irrefl:=uZ
 trans:=sj
 negTrans:=nj
 total:=ve
section
variable {prog:Nn}{w:No}{A:Nr}{E:Da}{s:Np}
def Ze(h:Q (decide (b2i a<b2i b)) s):wpAny (model prog w) A (oneLt' true (.bool a) (.bool b)) Q E s:=by
 rw[oneLt'_eq];simp only[if_true];refine WC (wpAny_cRoomFor_byValue rfl (WC (wpAny_callSpecialIfBound?_slot (T:="bool") rfl F.slot_bool_lt (call_gives F.slot_bool_lt rfl F.entry_int_lt (F.args_int_lt_2 _ _) (gives_int_lt_bools a b) ?_))));exact Ul h
def dU(h:a≠b):decide (b2i a<b2i b)=(!a&&b):=by cases a<;>cases b<;>first|rfl|exact absurd rfl h
theorem vK:∀{k:List Bool}{vs:List Value},ItemsAre (sU prog w) k vs->vs=k.map Value.bool
 |_,_,.nil=>rfl
 |_,_,.cons h r=>by rw[yO h,vK r];rfl
theorem d7(b A9:Bool){Q:Bool->Shared->Prop}:∀(x y:List Bool)(i:Nat),A9=decide (x.length<y.length)->Q (yW x y) s->KatLex prog w A b A9 Q ((x.map Value.bool).zip (y.map Value.bool)) i s
 |[],[],i,hf,h=>kat_nil (by rw[hf];exact h)
 |[],_::_,i,hf,h=>kat_nil (by rw[hf];simpa[yW]using h)
 |_::_,[],i,hf,h=>kat_nil (by rw[hf];simpa[yW]using h)
 |a::x,c::y,i,hf,h=>by
  refine kat_cons (Tf a c _ _ _ _ ?_)
  by_cases e:a=c
  ·subst e;have e2:(a==a)=true:=by simp
   rw[e2];refine kat_yes (d7 b A9 x y (i+1) (by rw[hf];simp) ?_);rw[yW,VB rfl]at h;exact h
  ·have e2:(a==c)=false:=by simpa using e
   rw[e2];refine kat_no ?_;rw[yW,VF e]at h;cases hb:(b&&i==0)with
   |true=>exact Ze (by rw[dU e];exact h)
   |false=>exact kat_one _ _ (lt_bool (by rw[dU e];exact h))
def bh{kx ky:Nc}(b:Bool)(hx:Bt prog w s.heap kx x)(hy:Bt prog w s.heap ky y)(h:C (yW kx ky) s):wpAny (model prog w) A (keyLt' (tuples' b) (.ref x) (.ref y)) C E s:=by
 obtain⟨ox,ix,nx,e1,_,d1,i1⟩:=hx;obtain⟨oy,iy,ny,e2,_,d2,i2⟩:=hy;refine kat_lt e1 d1 e2 d2 ?_;have h1:=vK i1;have h2:=vK i2;have l1:ix.size=kx.length:=by rw[<-US,h1,WA]
 have l2:iy.size=ky.length:=by rw[<-US,h2,WA]
 rw[h1,h2,l1,l2];exact d7 b _ kx ky 0 rfl h
theorem uW:∀(R:List (Addr×List Bool)),(∀r∈R,Bt prog w s.heap r.2 r.1/\r.2≠[])->∃fs:List Value,KatTups s.heap (R.map λr=>Value.ref r.1) fs/\fs.length=R.length/\∀v∈fs,∃b,v = .bool b
 |[],_=>⟨[],.nil,rfl,λv hv=>by simp at hv⟩
 |r::R,h=>by
  obtain⟨fs,h1,h2,h3⟩:=uW R λq hq=>h q (VJ _ hq);obtain⟨⟨o,Af,n,ho,hc,hd,hi⟩,Be⟩:=h r VE;have e:=vK hi;cases hk:r.2 with
  |nil=>exact absurd hk Be
  |cons b k =>
   rw[hk,List.map_cons]at e;refine⟨.bool b::fs,KatTups.cons ho hc hd (by rw[<-Array.getElem?_toList,e];rfl) h1,by simp[h2],λv hv=>?_⟩;rcases VI.mp hv with rfl|hv
   ·exact⟨b,rfl⟩
   ·exact h3 v hv
def jO{R:KF}{n0:Nat}{P:PySem.Fin->Shared->Prop}(ho:s.heap.get? D=some (seqObj "list" (R.map λr=>Value.ref r.1).toArray n0))(hR:∀r∈R,Bt prog w s.heap r.2 r.1/\r.2≠[])(Lq:R.length<64)
  (h:∀(R':KF)(h':Nw)(e:Nat),R'.Perm R->(R'.map (·.2)).Pairwise (λa b=>yW b a=false)->(∀b o,b≠D->s.heap.get? b=some o->h'.get? b=some o)->h'.get? D=some (seqObj "list" (R'.map λr=>Value.ref r.1).toArray e)->P (.done (.ret .none)) { s with heap:=h' }) :
  wpAny (model prog w) A (Builtin.«list.sort» ⟨[.ref D],[]⟩) P E s:=by
 have hl:(R.map λr=>Value.ref r.1).length=R.length:=WA _;have tup:∀{h':Nw},(∀b o,b≠D->s.heap.get? b=some o->h'.get? b=some o)->∀r∈R,Bt prog w h' r.2 r.1/\r.2≠[]:=λ{h'} k r hr=>by
  obtain⟨⟨o,Af,n,e,hc,hd,hi⟩,Be⟩:=hR r hr;refine⟨⟨o,Af,n,k _ _ (λz=>?_) e,hc,hd,hi⟩,Be⟩;rw[z]at e;have:=Vp Obj.cls (V3 (e.symm.trans ho));rw[hc]at this;simp at this
 refine pZ (O:=Wf) ho (by rw[hl];exact Lq) (λi=>(R.getD i (0,[])).2) (tuples' true) (λh2 s1 Q' E' k q=>?_) (λs1 i j C E' k hi hj q=>?_) λp h' e ha hu k eD=>?_
 ·obtain⟨fs,h1,D4,h3⟩:=uW (s:=s1) R (tup k);refine kat_kind (T:=.type "bool") h1 (by rw[D4];rw[hl]at h2;lia) (λv hv=>?_) rfl q;obtain⟨b,rfl⟩:=h3 v hv;exact Looks.of_pure rfl
 ·rw[hl]at hi hj;have e1:(R.map λr=>Value.ref r.1).getD i Value.none = .ref (R.getD i (0,[])).1:=by simp[hi]
  have e2:(R.map λr=>Value.ref r.1).getD j Value.none = .ref (R.getD j (0,[])).1:=by simp[hj]
  have m1:R.getD i (0,[])∈R:=by simp[hi]
  have m2:R.getD j (0,[])∈R:=by simp[hj]
  rw[e1,e2];exact bh true (tup k _ m1).1 (tup k _ m2).1 q
 ·rw[hl]at ha hu;have hp:(p.toList.map λi=>R.getD i (0,[])).Perm R:=by
   have h1:=ha.pm.map λi=>R.getD i (0,[]);have h2:(List.range R.length).map (λi=>R.getD i (0,[]))=R:=by
    apply T0
    ·simp
    ·intro i a1 a2;simp[a2]
   rw[h2]at h1;exact h1
  refine h (p.toList.map λi=>R.getD i (0,[])) h' e hp ?_ k ?_
  ·rw[Vi,UX];intro i j hi hj EJ;have Go:i<p.size:=by simpa using hi
   have GF:j<p.size:=by simpa using hj
   have:=hu i j (UQ EJ) (by rw[<-ha.size];exact GF);have g1:p.getD i 0=p[i]:=by simp[Array.getD,Go]
   have g2:p.getD j 0=p[j]:=by simp[Array.getD,GF]
   unfold Srt.K at this;rw[g1,g2]at this;have h9:yW (R.getD p[j] (0,[])).2 (R.getD p[i] (0,[])).2=false:=this;simpa using h9
  ·rw[eD,Vi]
   congr 3
   apply List.map_congr_left;intro i hi;have Go:i<R.length:=Vc.mp (ha.pm.mem_iff.mp hi);simp[Go]
end
end My
namespace My
open PySem PySem.Spec PySem.W PySem.Calls L2
open PyProof.Rows hiding St
variable{pins:KB}{H:Hp}{s:Np}{a p:Addr}{Q:VK}{e i o:Nv}{te ti to:TE}{IL p1 p2 pos1:Pos}{b c:Str}
section
open Tb
theorem ku:∀{vs:List Value}{ss:List Str},StrsAre vs ss->∀(i:Nat)(v:Value),vs[i]?=some v->∃x t,ss[i]?=some x/\v = .str x t
 |_,_,.nil,i,v,h=>by simp at h
 |_,_,.cons x t r,0,v,h=>⟨x,t,rfl,by simpa using h.symm⟩
 |_,_,.cons x t r,i+1,v,h=>by
  obtain⟨y,u,h1,h2⟩:=ku r i v (by simpa using h);exact⟨y,u,by simpa using h1,h2⟩
section
variable {X:Cx}
def nX{σ:St}(I:Inv X pins σ H s)(d:Drawn):Inv X pins σ H { s with drawn:=d }:=⟨I.ok,I.os,I.bare,I.base,I.loc,I.cell,I.free,I.freeC,I.pin,I.hok,I.len⟩
def dC(hc:X.calm=true){σ:St}(I:Inv X pins σ H s){ss:GM}(hq:SqL X.K H p (ss.map V.str)\/SqT X.K H p (ss.map V.str))(Ar:ss.length+1<scanBound)(Lq:∀AW:List Str,AW.Nodup->(∀x∈AW,x∈ss)->AW.length<64)
  (q:∀AW:List Str,AW.Nodup->(∀x,x∈AW↔x∈ss)->sortedS AW=true->New H (.lst (AW.map V.str)) Q) :
  wpAny (model X.prog X.w) X.A (call (.type "set") [.ref p]) (λu s'=>wpAny (model X.prog X.w) X.A (call (.builtin "sorted") [u]) (EP X pins σ Q) X.xe s') X.xe s:=by
 obtain⟨Af,rv,pl⟩:∃Af:List Value,Vals (ss.map V.str) Af/\(s.heap.IsList p Af.toArray\/s.heap.IsTuple p Af.toArray):=by
  rcases hq with hq|hq
  ·obtain⟨Af,rv,pl,_⟩:=I.list hq;exact⟨Af,rv,.inl pl.isList⟩
  ·obtain⟨Af,rv,pl,_⟩:=I.tuple hq;exact⟨Af,rv,.inr pl⟩
 have BF:=rz rv;have ET:Af.length=ss.length:=by rw[<-rv.length,WA]
 have hh:X.A.handled=none:=I.ok.hd hc;refine aB hh pl (λi h=>∃es ep t,h.get? s.heap.objs.size=some (zI es ep t)/\t.fits es.size=true/\t.led=!byT X.w/\(es.size≠0->t.plain=false)/\GoodS X.w es.toList (ss.take i)/\es.size<=i) ?_ ?_ ?_ ?_
 ·rintro i h h' ⟨es,ep,t,e,r⟩ k;exact⟨es,ep,t,k _ _ (VD (UI _)) e,r⟩
 ·refine⟨#[],0,_,VS _ rfl,rfl,rfl,λz=>absurd rfl z,⟨λe he=>by simp at he,λx hx=>by simp at hx,.nil⟩,VW _⟩
 ·rintro i v A' s' Q' E' hu hv ⟨es,ep,t,e,f,l,pn,g,le⟩ qq;have HI:Af[i]?=some v:=by simpa using hv
  obtain⟨x,tok,hx,rfl⟩:=ku BF i v HI;have hi:i<ss.length:=(VY.mp hx).1;refine add_str e f g (by lia) pn λb h' tk Bp Eg t' e' sb f' l' pn' g' le'=>qq b h' tk sb ⟨Bp,Eg,t',e',f',l'.trans l,pn',?_,by lia⟩;rw[V7,hx];exact g'
 ·rintro h' tk ⟨es,ep,t,e,f,l,pn,g,le⟩ keep;have IV:Af.toArray.size=ss.length:=by rw[VO,ET]
  rw[IV,V4]at g;rw[IV]at le;have HJ:t.plain=true->t.place.toList.Pairwise (·<·):=λhp=>by
   have h0:es.size=0:=UN λz=>by rw[pn z]at hp;cases hp
   have:=nN f;have h1:t.place.toList=[]:=UC.mp (by rw[US,this,h0]);rw[h1];exact .nil
  have hzl:es.size<=sizeLine:=fits_of_scanBound (by lia);refine tW (s:={ s with heap:=h',toks:=tk }) hh e f l HJ hzl λD h2 d tk2 ws hp Gi hD eD=>?_;have Jw:∀v,v∈ws->∃x t,v = .str x t:=λv hv=>by
   obtain⟨e1,DV,rfl⟩:=VC.mp (hp.mem_iff.mp hv);obtain⟨x,t,_,rfl⟩:=g.in1 e1 DV;exact⟨x,t,rfl⟩
  have hS:=strsAre_map ws Jw;have Cw:∀x,x∈ws.map strOf↔x∈ss:=λx=>by
   constructor
   ·intro hx;obtain⟨v,hv,rfl⟩:=VC.mp hx;obtain⟨e1,DV,rfl⟩:=VC.mp (hp.mem_iff.mp hv);obtain⟨y,t,hy,rfl⟩:=g.in1 e1 DV;exact hy
   ·intro hx;obtain⟨t,ht⟩:=g.in2 x hx;exact VC.mpr ⟨.str x t,hp.mem_iff.mpr (VC.mpr ⟨_,ht,rfl⟩),rfl⟩
  have ID:(ws.map strOf).Nodup:=by
   have h1:(es.toList.map (·.2)).Pairwise λv v'=>∀x t t',v = .str x t->v'≠.str x t':=Tg.mpr g.one;have h2:=(hp.pairwise_iff (λ{a b} EU x t t' z1 z2=>EU x t' t z2 z1)).mpr h1;refine Tg.mpr (T7 (λ{a b} ha hb EU=>?_) h2);obtain⟨x,t,rfl⟩:=Jw a ha;obtain⟨y,t',rfl⟩:=Jw b hb;intro z;have z':x=y:=z;subst z';exact EU x t t' rfl rfl
  have Mj:ws.length<64:=by
   have:=Lq _ ID λx hx=>(Cw x).mp hx
   rwa [WA]at this
  refine Vg slot_list_sort ⟨_,eD,rfl⟩ entry_list_sort (list_sort_treeK strKind_oneLt eD hS.keysOf (λRL RK rest e=>keyKind_strs (by rw[<-e];exact hS)) Mj λBz a1 a2=>⟨_,rfl,?_⟩) (args_list_sort _);obtain⟨AW,b1,b2,b3⟩:=sorted_out_str hS a1 a2;have K1:s.heap.objs.size<=D:=Vz (UQ (VV e)) hD;obtain⟨e2,J9⟩:=sortedHeap_at (out:=(arrOf Bz).map (·.2)) eD;have hn:H D=none:=I.hok.fresh K1;refine⟨.ref D,upd H D (.lst (AW.map V.str)),?_,rfl,(q AW (b2.nodup_iff.mpr ID) (λx=>(b2.mem_iff).trans (Cw x)) b3).at D hn⟩;refine(nX I d).laid (t':=tk2) (λb o eb=>?_) K1 ⟨?_,((arrOf Bz).map (·.2)).toList,e2,rZ b1,by rw[Array.toArray_toList];exact J9⟩
  ·have Mv:b<s.heap.objs.size:=VV eb;have eb2:=Gi b o (keep b o eb);rw[sortedHeap_old (VD (V8 Mv K1)) (VV eb2)];exact eb2
  ·rw[WA,b2.length_eq,WA];exact UQ (V8 Mj (by decide))
end
end
section
open Tb
theorem nY{prog:Program}{w:World}:∀k:List Bool,ItemsAre (sU prog w) k (k.map Value.bool)
 |[]=>.nil
 |b::k=>.cons (by show iX b (.bool b)=true;simp[iX]) (nY k)
section
variable {X:Cx}
def W5{σ:St}(I:Inv X pins σ H s){k:Nc}(h:SqT X.K H a (k.map V.bl)):Bt X.prog X.w s.heap k a:=by
 obtain⟨Af,rv,⟨o,e,hc,n,d⟩,_⟩:=I.tuple h;have:=yU rv;subst this;exact⟨o,_,n,e,hc,d,nY k⟩
theorem vB:∀{as:List Addr}{us:List Value},Vals (as.map V.ref) us->us=as.map Value.ref
 |[],us,r=>by cases r;rfl
 |a::as,us,r=>by
  rw[List.map_cons]at r;cases r with
  |cons r1 r2 =>
   cases r1;rw[vB r2]
   rfl
theorem rK:∀(as:List Addr),Vals (as.map V.ref) (as.map Value.ref)
 |[]=>.nil
 |a::as=>.cons rfl (rK as)
theorem dB(hc:X.calm=true)(hu:X.A.units+64<cLine){σ:St}(I:Inv X pins σ H s){R:List (Addr×List Bool)}(hq:SqL X.K H p (R.map λr=>V.ref r.1))(hR:∀r∈R,SqT X.K H r.1 (r.2.map V.bl)/\r.2≠[])(Lq:R.length<64)
  (q:∀R':List (Addr×List Bool),(∀r∈R',r∈R)->(R'.map (·.2)).Nodup->(∀k,k∈R'.map (·.2)↔k∈R.map (·.2))->(R'.map (·.2)).Pairwise (λa b=>yW b a=false)->R'.length<=R.length->New H (.lst (R'.map λr=>V.ref r.1)) Q) :
  wpAny (model X.prog X.w) X.A (call (.type "set") [.ref p]) (λu s'=>wpAny (model X.prog X.w) X.A (call (.builtin "sorted") [u]) (EP X pins σ Q) X.xe s') X.xe s:=by
 obtain⟨Af,rv,pl,hz⟩:=I.list hq;have ME:Af=R.map λr=>Value.ref r.1:=by
  have h1:(R.map λr=>V.ref r.1)=(R.map (·.1)).map V.ref:=by rw[Vi];rfl
  rw[h1]at rv;rw[vB rv,Vi]
  rfl
 have hBt:∀r∈R,Bt X.prog X.w s.heap r.2 r.1:=λr hr=>W5 I (hR r hr).1;have hh:X.A.handled=none:=I.ok.hd hc;have old:∀{h:Heap},(∀b o,s.heap.get? b=some o->h.get? b=some o)->∀r∈R,Bt X.prog X.w h r.2 r.1:=λ{h} k r hr=>(hBt r hr).mono λo ho=>k _ o ho;refine uf hh pl.isList (λi h=>∃L es ep t,h.get? s.heap.objs.size=some (zI es ep t)/\Rep L es t/\vC L t/\t.led=!byT X.w/\Good X.prog X.w h (L.map (·.2)) ((R.take i).map (·.2))/\L.length<=i/\(∀e∈L.map (·.2),∃r∈R,e.2 = .ref r.1)/\∀r∈R,Bt X.prog X.w h r.2 r.1) ?_ ?_ ?_ ?_
 ·rintro i h h' ⟨L,es,ep,t,e,r,r5,l,g,le,me,ob⟩ k;have kt:∀r∈R,Bt X.prog X.w h' r.2 r.1:=λr hr=>(ob r hr).mono λo ho=>k _ o (λz=>by
   obtain⟨o2,_,_,e2,_⟩:=hBt r hr;have:=VV e2;rw[z]at this;exact absurd this (T4.mpr (UG _))) ho
  refine⟨L,es,ep,t,k _ _ (VD (UI _)) e,r,r5,l,?_,le,me,kt⟩;have upE:∀e1 k1,e1∈L.map (·.2)->Elem X.prog X.w h e1 k1->Elem X.prog X.w h' e1 k1:=λe1 k1 DV x=>by
   obtain⟨r1,BY,er1⟩:=me e1 DV;obtain⟨b,eb,hb,hh1⟩:=x;rw[er1]at eb;cases eb;exact⟨r1.1,er1,by
    have e3:=(ob r1 BY).inj hb;subst e3;exact kt r1 BY,hh1⟩
  have dnE:∀e1 k1,e1∈L.map (·.2)->Elem X.prog X.w h' e1 k1->Elem X.prog X.w h e1 k1:=λe1 k1 DV x=>by
   obtain⟨k2,_,x2⟩:=g.in1 e1 DV;have:=(upE e1 k2 DV x2).inj x;subst this;exact x2
  exact⟨λe1 h1=>let⟨k1,a1,a2⟩:=g.in1 e1 h1;⟨k1,a1,upE e1 k1 h1 a2⟩,λk1 h1=>let⟨e1,a1,a2⟩:=g.in2 k1 h1;⟨e1,a1,upE e1 k1 a1 a2⟩,
   T7 (λ{a b} ha hb EU k1 x1 x2=>EU k1 (dnE a k1 ha x1) (dnE b k1 hb x2)) g.one⟩
 ·refine⟨[],#[],0,_,VS _ rfl,⟨rfl,rfl,rfl,.nil,λx hx=>by simp at hx,.inl rfl,by simp⟩,(show 0*5<7*3 by decide),rfl,⟨λe he=>by simp at he,λk hk=>by simp at hk,.nil⟩,VW _,λe he=>by simp at he,old λb o e=>WB _ e⟩
 ·rintro i v A' s' Q' E' KZ hv ⟨L,es,ep,t,e,r,r5,l,g,le,me,ob⟩ qq;rw[ME]at hv;have HI:(R.map λr=>Value.ref r.1)[i]?=some v:=by simpa using hv
  rw[VA]at HI;cases hri:R[i]? with
  |none=>rw[hri]at HI;cases HI
  |some r1 =>
   rw[hri]at HI;cases HI;have hm:=VR hri;have hi:i<R.length:=(VY.mp hri).1;refine bM (by lia) r r5 (by lia) e g (ob r1 hm) λb h' tk L' Bp Eg t' e' sb r' r5' l' pl' g' le' me'=>qq b h' tk sb ⟨L',Bp,Eg,t',e',r',r5',l'.trans l,?_,by lia,λe1 DV=>?_,λr2 Md=>?_⟩
   ·rw[V7,hri,VL];exact g'
   ·rcases me' e1 DV with z|z
    ·exact me e1 z
    ·exact⟨r1,hm,z⟩
   ·obtain⟨o2,i2,n2,e2,c2,rest⟩:=ob r2 Md;exact⟨o2,i2,n2,oU e sb _ _ c2 e2,c2,rest⟩
 ·rintro h' tk ⟨L,es,ep,t,e,r,r5,l,g,le,me,ob⟩ keep;have IV:Af.toArray.size=R.length:=by rw[ME,VO,WA]
  rw[IV]at g le;rw[V4]at g;have Lh:es.toList=L.map (·.2):=by rw[r.es]
  have Kr:es.size=L.length:=by rw[r.es];simp
  have HJ:t.plain=true->t.place.toList.Pairwise (·<·):=λ_=>by rw[r.pl];exact r.up
  refine tW (s:={ s with heap:=h',toks:=tk }) hh e r.fits l HJ (by rw[Kr,VP];lia) λD h2 d tk2 ws hp Gi hD eD=>?_;rw[Lh]at hp;have hrow:∀v∈ws,∃r1∈R,v = .ref r1.1:=λv hv=>by
   obtain⟨e1,DV,rfl⟩:=VC.mp (hp.mem_iff.mp hv);exact me e1 DV
  have pick:∀ws:List Value,(∀v∈ws,∃r1∈R,v = .ref r1.1)->∃R1:List (Addr×List Bool),(∀r1∈R1,r1∈R)/\ws=R1.map λr1=>Value.ref r1.1:=by
   intro ws
   induction ws with
   |nil=>exact λ_=>⟨[],by simp,rfl⟩
   |cons v ws ih =>
    intro Jw;obtain⟨R1,h1,h2⟩:=ih λv hv=>Jw v (VJ _ hv);obtain⟨r1,BY,e1⟩:=Jw v VE;refine⟨r1::R1,λy hy=>?_,by rw[e1,h2];rfl⟩;rcases VI.mp hy with rfl|hy
    ·exact BY
    ·exact h1 y hy
  obtain⟨R1,JF,ews⟩:=pick ws hrow;have EB:∀r1∈R,∀e1∈L.map (·.2),e1.2 = .ref r1.1->Elem X.prog X.w h' e1 r1.2:=λr1 BY e1 DV z=>by
   obtain⟨k1,_,b,eb,hb,hh1⟩:=g.in1 e1 DV;rw[z]at eb;cases eb;have:=(ob r1 BY).inj hb;subst this;exact⟨r1.1,z,hb,hh1⟩
  have Cw:∀k,k∈R1.map (·.2)↔k∈R.map (·.2):=λk=>by
   constructor
   ·intro hk;obtain⟨r1,BY,rfl⟩:=VC.mp hk;exact Vs (JF r1 BY)
   ·intro hk;obtain⟨e1,DV,hE⟩:=g.in2 k hk;have hv:e1.2∈ws:=hp.mem_iff.mpr (Vs DV);rw[ews]at hv;obtain⟨r1,BY,er1⟩:=VC.mp hv;have:=(EB r1 (JF r1 BY) e1 DV er1.symm).inj hE;exact VC.mpr ⟨r1,BY,this⟩
  have ID:(R1.map (·.2)).Nodup:=by
   have h1:((L.map (·.2)).map (·.2)).Pairwise λv v'=>∀r1∈R,∀r2∈R,v = .ref r1.1->v' = .ref r2.1->r1.2≠r2.2 :=
    Tg.mpr (T7 (λ{a b} ha hb EU r1 BY r2 Md z1 z2 z3=>EU r1.2 (EB r1 BY a ha z1) (z3▸EB r2 Md b hb z2)) g.one)
   have h2:=(hp.pairwise_iff (λ{a b} EU r1 BY r2 Md z1 z2 z3=>EU r2 Md r1 BY z2 z1 z3.symm)).mpr h1;rw[ews]at h2;exact Tg.mpr (T7 (λ{a b} ha hb EU z=>EU a (JF a ha) b (JF b hb) rfl rfl z) (Tg.mp h2))
  have hR1l:R1.length=L.length:=by
   have:=hp.length_eq;rw[ews]at this;simpa using this
  rw[ews]at eD;refine Vg slot_list_sort ⟨_,eD,rfl⟩ entry_list_sort (jO (prog:=X.prog) (w:=X.w) eD (λr1 BY=>⟨(ob r1 (JF r1 BY)).mono λo ho=>Gi _ o ho,(hR r1 (JF r1 BY)).2⟩) (by lia) λR2 h3 e3 pm up k3 eD3=>⟨_,rfl,?_⟩) (args_list_sort _);have K1:s.heap.objs.size<=D:=Vz (UQ (VV e)) hD;have hn:H D=none:=I.hok.fresh K1;have q2:=q R2 (λr1 BY=>JF r1 (pm.mem_iff.mp BY)) ((pm.map (·.2)).nodup_iff.mpr ID) (λk=>((pm.map (·.2)).mem_iff).trans (Cw k)) up (by rw[pm.length_eq];lia);refine⟨.ref D,upd H D (.lst (R2.map λr1=>V.ref r1.1)),?_,rfl,q2.at D hn⟩;refine(nX I d).laid (t':=tk2) (λb o eb=>?_) K1 ⟨?_,R2.map (λr1=>Value.ref r1.1),e3,?_,eD3⟩
  ·have Mv:b<s.heap.objs.size:=VV eb;exact k3 b o (VD (V8 Mv K1)) (Gi b o (keep b o eb))
  ·rw[WA,pm.length_eq,VP];lia
  ·have h1:(R2.map λr=>V.ref r.1)=(R2.map (·.1)).map V.ref:=by rw[Vi];rfl
   have h2:(R2.map λr=>Value.ref r.1)=(R2.map (·.1)).map Value.ref:=by rw[Vi];rfl
   rw[h1,h2];exact rK _
def mSS(K:W.Frag):V->Hp->VK->Prop:=λv H Q=>match v with
 | .ref p=>(∃ss:List Str,(SqL K H p (ss.map V.str)\/SqT K H p (ss.map V.str))/\ss.length+1<scanBound/\(∀AW:List Str,AW.Nodup->(∀x∈AW,x∈ss)->AW.length<64)/\∀AW:List Str,AW.Nodup->(∀x,x∈AW↔x∈ss)->sortedS AW=true->New H (.lst (AW.map V.str)) Q) \/
  ∃R:List (Addr×List Bool),SqL K H p (R.map λr=>V.ref r.1)/\(∀r∈R,SqT K H r.1 (r.2.map V.bl)/\r.2≠[])/\R.length<64 /\
   ∀R':List (Addr×List Bool),(∀r∈R',r∈R)->(R'.map (·.2)).Nodup->(∀k,k∈R'.map (·.2)↔k∈R.map (·.2))->(R'.map (·.2)).Pairwise (λa b=>yW b a=false)->R'.length<=R.length->New H (.lst (R'.map λr=>V.ref r.1)) Q
 |_=>False
theorem Wj{K:Nl}:mSS K (.ref p) H Q=((∃ss:List Str,(SqL K H p (ss.map V.str)\/SqT K H p (ss.map V.str))/\ss.length+1<scanBound/\(∀AW:List Str,AW.Nodup->(∀x∈AW,x∈ss)->AW.length<64)/\∀AW:List Str,AW.Nodup->(∀x,x∈AW↔x∈ss)->sortedS AW=true->New H (.lst (AW.map V.str)) Q) \/
  ∃R:List (Addr×List Bool),SqL K H p (R.map λr=>V.ref r.1)/\(∀r∈R,SqT K H r.1 (r.2.map V.bl)/\r.2≠[])/\R.length<64 /\
   ∀R':List (Addr×List Bool),(∀r∈R',r∈R)->(R'.map (·.2)).Nodup->(∀k,k∈R'.map (·.2)↔k∈R.map (·.2))->(R'.map (·.2)).Pairwise (λa b=>yW b a=false)->R'.length<=R.length->New H (.lst (R'.map λr=>V.ref r.1)) Q):=rfl
def tSS(K:Nl)(te:TE):TE:=fun σ H Q=>te σ H λv H1=>mSS K v H1 Q
theorem xZ(hc:X.calm=true)(hu:X.A.units+64<cLine)(g1:Gl X "sorted")(m1:X.mg "sorted"=none)(g2:Gl X "set")(m2:X.mg "set"=none)(ha:PE X e te)
  (DV:starEach [.Call (.Name "set" p2) [e] [] IL] X.env=[(false,eval (.Call (.Name "set" p2) [e] [] IL) X.env)]:=by rfl) (J9:starEach [e] X.env=[(false,eval e X.env)]:=by rfl) :
  PE X (.Call (.Name "sorted" p1) [.Call (.Name "set" p2) [e] [] IL] [] pos1) (tSS X.K te):=by
 intro pins s σ H Q I h;refine UB (wc I g1 m1 iC (PyProof.Rows.callWith_builtin1 ?_ DV rfl));rw[DV];refine(show wpAny _ _ (spliced ((false,eval (.Call (.Name "set" p2) [e] [] IL) X.env)::[])) _ _ s from Calls.spliced_cons ?_);refine UB (wc I g2 m2 Y1 (UE ?_ J9 rfl));rw[J9];refine(show wpAny _ _ (spliced ((false,eval e X.env)::[])) _ _ s from Calls.spliced_cons (thn (ha pins s σ H _ I h) λu s1 ⟨x,H1,I1,r1,q1⟩=>SE ?_));cases x with
 |ref a =>
  cases r1;rcases(show _\/_ from q1)with⟨ss,b1,b2,b3,b4⟩|⟨R,b1,b2,b3,b4⟩
  ·exact thn (dC hc I1 b1 b2 b3 b4) λu2 s2 h2=>SE h2
  ·exact thn (dB hc hu I1 b1 b2 b3 b4) λu2 s2 h2=>SE h2
 |_=>exact(show False from q1).elim
end
end
section
section
variable {X:Cx}
def ZN:bK:=λx y v H k=>match x with
 | .ref a=>(∃kvs ky,H a=some (.dK kvs)/\y=kV ky/\kvs.length<sizeLine/\k (upd H a (.dK (u5 kvs ky v))))\/(∃xs i,∃j:Nat,H a=some (.lst xs)/\y = .int i/\i=(j:Int)/\j<xs.length/\k (upd H a (.lst (xs.set j v))))
 |_=>False
theorem YF{y v:V}{k:Hp->Prop}:ZN (.ref a) y v H k=((∃kvs ky,H a=some (.dK kvs)/\y=kV ky/\kvs.length<sizeLine/\k (upd H a (.dK (u5 kvs ky v))))\/(∃xs i,∃j:Nat,H a=some (.lst xs)/\y = .int i/\i=(j:Int)/\j<xs.length/\k (upd H a (.lst (xs.set j v))))):=rfl
def cw(hu:X.A.units+64<cLine):Yt X ZN:=by
 intro pins s σ H o i v ov iv u Q I ro ri rv h;cases o with
 |ref a =>
  cases ro;rcases(show _\/_ from h)with⟨kvs,ky,e,rfl,hl,q⟩|⟨xs,i',j,e,rfl,rfl,hj,q⟩
  ·exact iO (by lia) I (.inl ⟨kvs,ky,e,rfl,hl,rfl⟩) ri rv λs' I'=>⟨_,I',q⟩
  ·exact gJ pins s σ H (.ref a) _ v _ iv u Q I rfl ri rv ⟨a,xs,(j:Int),j,rfl,rfl,e,by unfold ixN;rw[VB (Int.natCast_nonneg j),VB (Int.ofNat_lt.mpr hj),Vu],q⟩
 |_=>exact(show False from h).elim
def eV(hu:X.A.units+64<cLine)(ho:PE X o to)(hi:PE X i ti)(he:PE X e te)
  (ha:∀v,assign (.Subscript o i p1) X.env v=(do
   let ov <-holding [v] (eval o X.env)
   let iv <-holding [v,ov] (eval i X.env)
   standAt p1
   holding [v,ov,iv] (setItem ov iv v)
   release [v,ov,iv] []):=by intro _;rfl)
  (hs:swapsWithSole [.Subscript o i p1] e p2.line X.env=pure false:=by rfl) (hw:swappedStores [.Subscript o i p1] e X.env=pure none:=by rfl)
  (h1:(assignEach [.Subscript o i p1] X.env).map (·.2)=[assign (.Subscript o i p1) X.env]:=by rfl):PS X (.Assign [.Subscript o i p1] e p2) (ge te (Y7 to ti ZN)):=fm he (Zq ho hi (cw hu) ha) hs hw h1
end
end
section
theorem xN{α:Type}[DecidableEq α]:∀{l m:List α},l.Nodup->(∀x∈l,x∈m)->l.length<=m.length
 |[],_,_,_=>V5 _
 |a::l,m,hn,hs=>by
  rw[TL]at hn;have ha:=hs a VE;have ih:=xN (l:=l) (m:=m.erase a) hn.2 λx hx=>(List.mem_erase_of_ne (by intro z;subst z;exact hn.1 hx)).mpr (hs x (VJ _ hx));rw[List.length_erase_of_mem ha]at ih;have:=SG ha;rw[VN];lia
def leS(a b:Str):Prop:=ltCps b.cps.toList a.cps.toList=false
def leS_iff{a:Str}:leS a b↔strKind.kle a.cps.toList b.cps.toList:=by
 unfold leS;rw[ltCps_eq];exact Iff.rfl
def im{a:Str}(h1:leS a b)(h2:leS b c):leS a c:=leS_iff.mpr (Td (leS_iff.mp h1) (leS_iff.mp h2))
def d6{a:Str}(h1:leS a b)(h2:leS b a):a=b:=by
 have:=KeyOrd.kle_antisymm (leS_iff.mp h1) (leS_iff.mp h2);cases a;cases b
 congr 1
 exact Ur.mp this
theorem wY:∀(p:Str)(l:List Str),risingS p l=true->(p::l).Pairwise leS
 |p,[],_=>List.pairwise_singleton _ _
 |p,x::r,h=>by
  have h':(!ltCps x.cps.toList p.cps.toList&&risingS x r)=true:=h;rw[Vy]at h';have hpx:leS p x:=by unfold leS;simpa using h'.1
  have ih:=wY x r h'.2;refine Tu.mpr ⟨λy hy=>?_,ih⟩;rcases VI.mp hy with rfl|hy
  ·exact hpx
  ·exact im hpx ((Tu.mp ih).1 y hy)
theorem wZ:∀(l:List Str),sortedS l=true->l.Pairwise leS
 |[],_=>.nil
 |x::r,h=>wY x r h
def jP{a b:GM}(h1:sortedS a=true)(h2:sortedS b=true)(n1:a.Nodup)(n2:b.Nodup)(he:∀x,x∈a↔x∈b):a=b :=
 List.Perm.eq_of_pairwise (λ_ _ _ _ x y=>d6 x y) (wZ a h1) (wZ b h2) ((List.perm_ext_iff_of_nodup n1 n2).mpr he)
def ce{a b:KM}(h1:a.Pairwise λx y=>yW y x=false)(h2:b.Pairwise λx y=>yW y x=false)(n1:a.Nodup)(n2:b.Nodup)(he:∀x,x∈a↔x∈b):a=b :=
 List.Perm.eq_of_pairwise (λ_ _ _ _ x y=>ve _ _ y x) h1 h2 ((List.perm_ext_iff_of_nodup n1 n2).mpr he)
open Classical in
end
end My
namespace My
open PySem PySem.Spec L2
open PyProof.Rows hiding St
def Say.subs:Say->List Say
 | .letter _=>[]
 | .neg s=>[s]
 | .bin _ s t=>[s,t]
def wS(s:Say):s.pieces=1+(s.subs.map Say.pieces).sum:=by
 cases s<;>simp[Say.subs,Say.pieces]<;>lia
def vY{s:Say}(h:s.subs≠[]):s.letters=(s.subs.map Say.letters).flatten:=by
 cases s<;>simp[Say.subs,Say.letters]at h ⊢
theorem yu:∀s:Say,s.letters.length<=s.pieces
 | .letter _=>VW _
 | .neg s=>Nat.le_succ_of_le (yu s)
 | .bin _ s t=>by
  have h1:=yu s;have h2:=yu t;simp only[Say.letters,Say.pieces,VU];lia
def tQ{K:W.Frag}{H:Hp}{v:V}{s:Say}(h:SayAt K H v s)(hn:s.subs≠[]):∃a wd us,v = .ref a/\SqT K H a (.str wd::us)/\decide (wd=("letter":Str))=false/\us.length=s.subs.length/\us.length<=2/\∀(i:Nat) u,us[i]?=some u->∃t,s.subs[i]?=some t/\SayAt K H u t/\t.pieces<s.pieces:=by
 cases s with
 |letter x=>exact absurd rfl hn
 |neg t =>
  obtain⟨a,u,rfl,ha,ht⟩:=h;refine⟨a,_,[u],rfl,ha,w10,rfl,by simp,λi x hx=>?_⟩
  match i,hx with
  |0,hx =>
   cases hx;exact⟨t,rfl,ht,UI _⟩
  |i+1,hx=>simp at hx
 |bin o t t' =>
  obtain⟨a,u,u',rfl,ha,ht,Fw⟩:=h;refine⟨a,_,[u,u'],rfl,ha,by cases o<;>first|exact w20|exact w30|exact w40,rfl,by simp,λi x hx=>?_⟩
  match i,hx with
  |0,hx =>
   cases hx;exact⟨t,rfl,ht,by simp only[Say.pieces];lia⟩
  |1,hx =>
   cases hx;exact⟨t',rfl,Fw,by simp only[Say.pieces];lia⟩
  |i+2,hx=>simp at hx
def vD{α:Type}(x:α)(us:List α):atI (x::us) 0=some x:=xf (xs:=x::us) (j:=0) rfl
def sW(x:V)(us:N1):xA (x::us) (some 1) none=us:=by
 unfold xA;have e1:HT.sIx (x::us).length 0 (some 1)=1:=by
  show(if(1:Int)<0 then((1:Int)+((x::us).length:Int)).toNat else min (1:Int).toNat (x::us).length)=1;rw[VF (by decide)];show min 1 (us.length+1)=1;lia
 rw[e1,HT.sIx_none];show(us.take (us.length+1-1))=us;rw[Nat.add_sub_cancel,V4]
theorem sY:∀(ts:List Say),((ts.map Say.letters).flatten).length<=(ts.map Say.pieces).sum
 |[]=>VW _
 |t::ts=>by
  have h1:=yu t;have h2:=sY ts;simp only[List.map_cons,Um,VU,Uc];lia
theorem tj(f:Say->Nat):∀(ts:List Say)(i:Nat),((ts.take i).map f).sum<=(ts.map f).sum
 |[],i=>by simp
 |t::ts,0=>by simp
 |t::ts,i+1=>by
  have:=tj f ts i;simp only[List.take_succ_cons,List.map_cons,Uc];lia
end My
namespace My
open PySem PySem.Spec PySem.W PySem.Calls L2
open PyProof.Rows hiding St
variable{l p:Addr}{H:Hp}{Q:VK}
section
section
variable {X:Cx}
def ZL(neg:Bool):R2:=λx y H Q=>y = .non/\Q (.bl (if neg then !decide (x = .non)else decide (x = .non))) H
def rB:OpR X (compareOp .Is) (ZL false):=wj Zi λ_ _ _ _ h=>h
def eQ:OpR X (compareOp .IsNot) (ZL true):=wj cN λ_ _ _ _ h=>h
def XX:V->List V->Hp->VK->Prop:=λx vs H Q=>match x,vs with
 | .ref l,[.int i,y]=>∃xs,H l=some (.lst xs)/\xs.length<sizeLine/\0<=i/\i<2 ^ 62/\Q .non (upd H l (.lst (xs.take i.toNat++y::xs.drop i.toNat)))
 |_,_=>False
theorem X6{i:Int}{y:V}:XX (.ref l) [.int i,y] H Q=∃xs,H l=some (.lst xs)/\xs.length<sizeLine/\0<=i/\i<2 ^ 62/\Q .non (upd H l (.lst (xs.take i.toNat++y::xs.drop i.toNat))):=rfl
theorem r8:∀{xs:List V}{us:List Value}(n:Nat),Vals xs us->Vals (xs.take n) (us.take n)
 |_,_,0,_=>.nil
 |_,_,n+1,.nil=>.nil
 |_,_,n+1,.cons h r=>.cons h (r8 n r)
theorem rk:∀{xs:List V}{us:List Value}(n:Nat),Vals xs us->Vals (xs.drop n) (us.drop n)
 |_,_,0,h=>h
 |_,_,n+1,.nil=>.nil
 |_,_,n+1,.cons h r=>rk n r
def Xi:MtR X "list.insert" XX:=λpins s σ H x xs v us Q I rx rs h=>by
 match x,xs,h with
 | .ref l,[.int i,y],h =>
  obtain⟨ys,hH,hz,h0,h1,q⟩:=(show∃ys,H l=some (.lst ys)/\ys.length<sizeLine/\0<=i/\i<2 ^ 62/\Q .non (upd H l (.lst (ys.take i.toNat++y::ys.drop i.toNat)))from h)
  cases rx;cases rs with
  |cons r1 rs =>
   cases rs with
   |cons r2 rs =>
    cases rs;obtain⟨t,rfl⟩:=r1;rename_i u;obtain⟨z,Af,n,r,hl,e⟩:=I.lstM hH;refine Te F.slot_list_insert ⟨_,e,rfl⟩ F.entry_list_insert (F.args_list_insert_3 _ _ _) (AutoSeq1.list_insert_list_int_val_1 l Af.toArray n i t u (by rw[fitsIndex_both (by lia) (by lia)];simp) (by rw[VO];lia)) ⟨e,?_⟩;refine⟨.non,_,I.lset (its':=Af.take i.toNat++u::Af.drop i.toNat) hH e ?_ ((r8 _ r).append (.cons r2 (rk _ r))) ?_,rfl,q⟩
    ·have e1:(if i<0 then(i+(Af.toArray.size:Int)).toNat else min i.toNat Af.toArray.size)=min i.toNat Af.length:=by rw[VF (by lia),VO]
     show(Af.toArray.extract 0 (if i<0 then(i+(Af.toArray.size:Int)).toNat else min i.toNat Af.toArray.size)).push u++Af.toArray.extract (if i<0 then(i+(Af.toArray.size:Int)).toNat else min i.toNat Af.toArray.size)=_;rw[e1,kl_ins_eq]
     by_cases hm:i.toNat<=Af.length
     ·rw[Nat.min_eq_left hm]
     ·rw[Nat.min_eq_right (by lia),V4,Sy,UM (by lia),Tw (by lia)]
    ·rw[VU,VN,Vw,V1];lia
def jJ(bs:Nc):(List.range bs.length).all (λi=>bs.getD i false)=bs.all id:=by
 have e:bs=(List.range bs.length).map λi=>bs.getD i false:=by
  apply T0
  ·simp
  ·intro i h1 h2;simp[h1]
 have:=Vp (λl:List Bool=>l.all id) e;simp only[List.all_map]at this;exact this.symm
def jK(bs:Nc):(List.range bs.length).any (λi=>bs.getD i false)=bs.any id:=by
 have e:bs=(List.range bs.length).map λi=>bs.getD i false:=by
  apply T0
  ·simp
  ·intro i h1 h2;simp[h1]
 have:=Vp (λl:List Bool=>l.any id) e;simp only[List.any_map]at this;exact this.symm
def mAA(g:List Bool->Bool)(K:W.Frag):List V->Hp->VK->Prop:=λxs H Q=>match xs with
 |[.ref p]=>∃bs:List Bool,SqL K H p (bs.map V.bl)/\Q (.bl (g bs)) H
 |_=>False
theorem Wg{g:List Bool->Bool}{K:Nl}:mAA g K [.ref p] H Q=∃bs:List Bool,SqL K H p (bs.map V.bl)/\Q (.bl (g bs)) H:=rfl
def rh{prog:Program}{w:World}{A:Around}(bs:List Bool):TruthOf prog w A (λi v=>(bs.map Value.bool).toArray[i]?=some v) λi=>bs.getD i false:=λi v s Q E hv hQ=>by
 have:(bs[i]?).map Value.bool=some v:=by simpa using hv
 cases e:bs[i]? with
 |none=>rw[e]at this;cases this
 |some b =>
  rw[e]at this;cases this;refine Ul ?_;have hQ':Q (bs.getD i false) s:=hQ;rw[Vr,e]at hQ';exact hQ'
def Xg(hc:X.calm=true):xo X (.builtin "all") (mAA (λbs=>bs.all id) X.K):=by
 intro pins s σ H xs us Q I r h
 match xs,h with
 |[.ref p],h =>
  obtain⟨bs,hq,q⟩:=(show∃bs:List Bool,SqL X.K H p (bs.map V.bl)/\Q (.bl (bs.all id)) H from h)
  obtain⟨u,rfl,rx⟩:=xM r;cases rx;obtain⟨Af,rv,pl,hz⟩:=I.list hq;have e:=yU rv;subst e;have A3:p<s.heap.objs.size:=by obtain⟨o,e,_⟩:=pl.isList;exact VV e
  refine call_all_walk (Uk pl.isList ?_);refine⟨s.heap.objs.size,_,_,_,_,_,_,rfl,Walks.list (A:=X.A.in1) (I.ok.hd hc) _ p (VD A3) (bs.map Value.bool).toArray,⟨⟨_,VS _ rfl,rfl,rfl⟩,pl.isList.push _⟩,rh bs,λh' tk hk=>?_⟩;have hsz:(bs.map Value.bool).toArray.size=bs.length:=by simp
  rw[hsz,jJ];refine⟨.bl (bs.all id),H,?_,rfl,q⟩;exact I.kept λb o e=>hk b o (λz=>absurd (VV e) (by rw[VX.mp z];exact Vj _)) (WB _ e)
def Xh(hc:X.calm=true):xo X (.builtin "any") (mAA (λbs=>bs.any id) X.K):=by
 intro pins s σ H xs us Q I r h
 match xs,h with
 |[.ref p],h =>
  obtain⟨bs,hq,q⟩:=(show∃bs:List Bool,SqL X.K H p (bs.map V.bl)/\Q (.bl (bs.any id)) H from h)
  obtain⟨u,rfl,rx⟩:=xM r;cases rx;obtain⟨Af,rv,pl,hz⟩:=I.list hq;have e:=yU rv;subst e;have A3:p<s.heap.objs.size:=by obtain⟨o,e,_⟩:=pl.isList;exact VV e
  refine call_any_walk (Uk pl.isList ?_);refine⟨s.heap.objs.size,_,_,_,_,_,_,rfl,Walks.list (A:=X.A.in1) (I.ok.hd hc) _ p (VD A3) (bs.map Value.bool).toArray,⟨⟨_,VS _ rfl,rfl,rfl⟩,pl.isList.push _⟩,rh bs,λh' tk hk=>?_⟩;have hsz:(bs.map Value.bool).toArray.size=bs.length:=by simp
  rw[hsz,jK];refine⟨.bl (bs.any id),H,?_,rfl,q⟩;exact I.kept λb o e=>hk b o (λz=>absurd (VV e) (by rw[VX.mp z];exact Vj _)) (WB _ e)
def Yz:bootBuiltins "all"=some (.builtin "all"):=by decide +kernel
def Y0:bootBuiltins "any"=some (.builtin "any"):=by decide +kernel
end
end
end My
namespace My
open PySem PySem.Spec L2
open PyProof.Rows hiding St
variable{H:Hp}{ts:N3}{ss xs:GM}
def SaysAt(K:W.Frag)(H:Hp):List V->List Say->Prop
 |[],[]=>True
 |v::vs,s::ss=>SayAt K H v s/\SaysAt K H vs ss
 |_,_=>False
theorem SaysAt.mono{K:W.Frag}{H H':Hp}(t:Tups H H'):∀{vs:List V}{ss:List Say},SaysAt K H vs ss->SaysAt K H' vs ss
 |[],[],_=>trivial
 |v::vs,s::ss,h=>⟨h.1.mono t,SaysAt.mono t h.2⟩
 |[],_::_,h=>h.elim
 |_::_,[],h=>h.elim
theorem SaysAt.app{K:W.Frag}{H:Hp}:∀{vs:List V}{ss:List Say}{L9:List V}{AW:List Say},SaysAt K H vs ss->SaysAt K H L9 AW->SaysAt K H (vs++L9) (ss++AW)
 |[],[],_,_,_,h=>h
 |v::vs,s::ss,_,_,h,h'=>⟨h.1,SaysAt.app h.2 h'⟩
 |[],_::_,_,_,h,_=>h.elim
 |_::_,[],_,_,h,_=>h.elim
theorem SaysAt.len{K:W.Frag}{H:Hp}:∀{vs:List V}{ss:List Say},SaysAt K H vs ss->vs.length=ss.length
 |[],[],_=>rfl
 |v::vs,s::ss,h=>by rw[VN,VN,SaysAt.len h.2]
 |[],_::_,h=>h.elim
 |_::_,[],h=>h.elim
def yV(ts:N3):List Str:=(ts.map Say.letters).flatten
def sP(a b:N3):yV (a++b)=yV a++yV b:=by simp[yV]
def xB(k:Nc):PyData:=.tuple (k.map PyData.bool)
def rL(ks:KM):PyData:=.list (ks.map xB)
theorem nR(K:W.Frag)(H:Hp):∀k:List Bool,HasL K H (k.map V.bl) (k.map PyData.bool)
 |[]=>by simp[HasL]
 |x::k=>by
  have ih:=nR K H k;rw[List.map_cons,List.map_cons];unfold HasL;exact⟨_,_,rfl,by unfold Has;rfl,ih⟩
def pU{K:Nl}{a:Addr}{k:Nc}(h:SqT K H a (k.map V.bl)):Has K H (.ref a) (xB k):=by
 unfold xB Has;exact⟨a,_,rfl,h,nR K H k⟩
theorem uo{K:W.Frag}{H:Hp}:∀{R:List (Addr×List Bool)},(∀r∈R,SqT K H r.1 (r.2.map V.bl))->HasL K H (R.map λr=>V.ref r.1) ((R.map (·.2)).map xB)
 |[],_=>by simp[HasL]
 |r::R,h=>by
  have ih:=uo (R:=R) λq hq=>h q (VJ _ hq);rw[List.map_cons,List.map_cons,List.map_cons];unfold HasL;exact⟨_,_,rfl,pU (h r VE),ih⟩
def nU{K:Nl}{p:Addr}{R:KF}(h:SqL K H p (R.map λr=>V.ref r.1))(hr:∀r∈R,SqT K H r.1 (r.2.map V.bl)):Has K H (.ref p) (rL (R.map (·.2))):=by
 unfold rL Has;exact⟨p,_,rfl,h,uo hr⟩
theorem j3:∀k:List Bool,PyData.canLayAll0 (k.map PyData.bool)=true/\PyData.depthAll (k.map PyData.bool)=0
 |[]=>by simp[PyData.canLayAll0,PyData.depthAll]
 |x::k=>by
  obtain⟨h1,h2⟩:=j3 k;rw[List.map_cons];refine⟨?_,?_⟩
  ·rw[PyData.canLayAll0,h1,Bool.and_true,PyData.canLay0]
  ·rw[PyData.depthAll,h2,PyData.depth]
   rfl
def uG(k:Nc):PyData.canLay0 (xB k)=true/\PyData.depth (xB k)=1:=by
 obtain⟨h1,h2⟩:=j3 k;unfold xB;exact⟨by rw[PyData.canLay0];exact h1,by rw[PyData.depth,h2]⟩
def mZ(k:Nc):SeqAt.shaped (xB k)=true:=by
 obtain⟨h1,h2⟩:=uG k;unfold SeqAt.shaped;rw[h1,h2]
 rfl
theorem sh:∀ks:List (List Bool),PyData.canLayAll0 (ks.map xB)=true/\PyData.depthAll (ks.map xB)<=1
 |[]=>by simp[PyData.canLayAll0,PyData.depthAll]
 |k::ks=>by
  obtain⟨h1,h2⟩:=sh ks;obtain⟨a1,a2⟩:=uG k;rw[List.map_cons];refine⟨?_,?_⟩
  ·rw[PyData.canLayAll0,h1,Bool.and_true,a1]
  ·rw[PyData.depthAll,a2];lia
def ug(ks:List (List Bool)):SeqAt.shaped (rL ks)=true:=by
 obtain⟨h1,h2⟩:=sh ks;unfold SeqAt.shaped rL;rw[PyData.canLay0,h1,PyData.depth];generalize PyData.depthAll (ks.map xB)=d at h2
 match d,h2 with
 |0,_=>rfl
 |1,_=>rfl
def NamesOf(ts:N3)(ss:GM):Prop:=ss.Nodup/\(∀x,x∈ss↔x∈yV ts)/\sortedS ss=true
def NamesOf.eq{a b:GM}(h1:NamesOf ts a)(h2:NamesOf ts b):a=b:=jP h1.2.2 h2.2.2 h1.1 h2.1 λx=>(h1.2.1 x).trans (h2.2.1 x).symm
def vx(ts:N3)(hs:GM):List Bool:=ts.map λt=>t.so hs
def wG(ts:N3)(hs:GM):(vx ts hs).length=ts.length:=by simp[vx]
def FitRows(ts:N3)(ss:GM)(ks:KM):Prop:=ks.Nodup/\(∀k,k∈ks↔∃n,n<2 ^ ss.length/\k=vx ts (zO (n:Nat) ss))/\ks.Pairwise (λa b=>yW b a=false)
def FitRows.eq{a b:KM}(h1:FitRows ts ss a)(h2:FitRows ts ss b):a=b:=ce h1.2.2 h2.2.2 h1.1 h2.1 λx=>(h1.2.1 x).trans (h2.2.1 x).symm
def mem_allL{x:Str}:x∈yV ts↔∃t∈ts,x∈t.letters:=by
 unfold yV;rw[List.mem_flatten];constructor
 ·rintro⟨l,hl,hx⟩;obtain⟨t,ht,rfl⟩:=VC.mp hl;exact⟨t,ht,hx⟩
 ·rintro⟨t,ht,hx⟩;exact⟨t.letters,Vs ht,hx⟩
theorem SaysAt.at{K:W.Frag}{H:Hp}:∀{vs:List V}{ts:List Say},SaysAt K H vs ts->∀(i:Nat) v,vs[i]?=some v->∃t,ts[i]?=some t/\SayAt K H v t
 |[],[],_,i,v,h=>by simp at h
 |v::vs,t::ts,h,0,u,e=>by
  cases e;exact⟨t,rfl,h.1⟩
 |v::vs,t::ts,h,i+1,u,e=>by simpa using SaysAt.at h.2 i u (by simpa using e)
 |[],_::_,h,_,_,_=>h.elim
 |_::_,[],h,_,_,_=>h.elim
structure Lst(ts:N3)(xs:GM):Prop where
 lo:1<=ts.length
 hi:ts.length<=6
 pc:∀t∈ts,t.pieces<=40
 nm:∀x∈yV ts,x∈xs
 xl:xs.length<=5
 ok:∀x∈xs,Nm x
def Lst.names(l:Lst ts xs)(h:NamesOf ts ss):ss.length<=5/\∀x∈ss,Nm x :=
 ⟨Vz (xN h.1 λx hx=>l.nm x ((h.2.1 x).mp hx)) l.xl,λx hx=>l.ok x (l.nm x ((h.2.1 x).mp hx))⟩
theorem sQ:∀ts:List Say,(∀t∈ts,t.pieces<=40)->(yV ts).length<=40*ts.length
 |[],_=>VW _
 |t::ts,h=>by
  have h1:=yu t;have h2:=h t VE;have h3:=sQ ts λu hu=>h u (VJ _ hu);simp only[yV,List.map_cons,Um,VU,VN]at h3 ⊢;lia
end My
namespace My
open PySem PySem.Spec PySem.W PySem.Calls L2
open PyProof.Rows hiding St
section
section
variable {X:Cx}
def XT(K:W.Frag):V->List V->Hp->VK->Prop:=λx vs H Q=>match x,vs with
 | .ref l,[.ref b]=>∃xs zs,H l=some (.lst xs)/\(H b=some (.lst zs)\/SqT K H b zs)/\xs.length+zs.length<=sizeLine/\Q .non (upd H l (.lst (xs++zs)))
 |_,_=>False
theorem Z4{K:Nl}{l b:Addr}{H:Hp}{Q:VK}:XT K (.ref l) [.ref b] H Q=∃xs zs,H l=some (.lst xs)/\(H b=some (.lst zs)\/SqT K H b zs)/\xs.length+zs.length<=sizeLine/\Q .non (upd H l (.lst (xs++zs))):=rfl
def Wp{C:Addr->Addr->Prop}{x:V}{vs:List V}(h:match x,vs with|.ref l,[.ref b]=>C l b|_,_=>False):∃l b,x = .ref l/\vs=[.ref b]/\C l b:=by
 cases x with
 |ref l =>
  cases vs with
  |nil=>exact(show False from h).elim
  |cons y t =>
   cases t with
   |nil =>
    cases y with
    |ref b=>exact⟨l,b,rfl,rfl,h⟩
    |_=>exact(show False from h).elim
   |cons _ _=>exact(show False from by cases y<;>exact h).elim
 |_=>exact(show False from by rcases vs with _|⟨y,_|⟨_,_⟩⟩<;>first|exact h|(cases y<;>exact h)).elim
def eO:MtR X "list.extend" (XT X.K):=λpins s σ H x xs v us Q I rx rs h=>by
 obtain⟨l,b,rfl,rfl,ys,zs,e,e2,z,q⟩:=Wp (C:=λl b=>∃xs zs,H l=some (.lst xs)/\(H b=some (.lst zs)\/SqT X.K H b zs)/\xs.length+zs.length<=sizeLine/\Q .non (upd H l (.lst (xs++zs)))) h;rcases e2 with e2|e2
 ·exact iu pins s σ H _ _ v us Q I rx rs ⟨l,b,ys,zs,rfl,rfl,e,e2,z,q⟩
 ·cases rx;obtain⟨u,rfl,ru⟩:=xM rs;cases ru;obtain⟨hz,Af,n,r,hl,el⟩:=I.lstM e;obtain⟨CO,r2,⟨o2,eb,Ic,n2,Kv⟩,_⟩:=I.tuple e2;have F6:=r2.length;refine Vg SV ⟨_,el,rfl⟩ F.entry_list_extend ?_ (F.args_list_extend_2 _ _);refine(show wpAny _ _ (Builtin.List.listExtendWith (.ref l) (.ref b) .none) _ _ s from ?_);unfold Builtin.List.listExtendWith;refine WC (SZ (T:="tuple") ⟨_,eb,Ic⟩ ?_);simp only[show(Value.type "tuple"==Value.type "tuple")=true from by decide,Bool.or_true,if_true];refine WC (listItems_at eb Kv (WC (listItems_at el rfl ?_)));have hsz:Af.toArray.size+CO.toArray.size<=sizeLine:=by rw[VO,VO];lia
  rw[VF (by rw[tD hsz,S8];exact VG)];refine WC (listUpdate_at el rfl ?_ (by rw[VO];lia) (by rw[S9];lia));refine WC (VZ (VZ ⟨_,rfl,?_⟩));refine⟨.non,_,I.lset (its':=Af++CO) e el (by simp) (r.append r2) ?_,rfl,q⟩;rw[VU];lia
end
end
end My
namespace My
open PySem PySem.Spec L2
open PyProof.Rows hiding St
variable{ts:N3}{ss:GM}
def nM{ks:KM}(h:FitRows ts ss ks){k:Nc}(hk:k∈ks):k.length=ts.length:=by
 obtain⟨n,_,e⟩:=(h.2.1 k).mp hk;rw[e];exact wG _ _
def bX{R:KF}(h:FitRows ts ss (R.map (·.2))):1<=R.length:=by
 have:vx ts (zO ((0:Nat):Int) ss)∈R.map (·.2):=(h.2.1 _).mpr ⟨0,Nat.two_pow_pos _,rfl⟩;have:=SG this;rw[WA]at this;exact this
end My
namespace My
open PySem PySem.Spec PySem.W PySem.Calls L2
open AutoSeq1 (wpAny_loadPart')
open PyProof.Rows hiding St
variable{i t':Nat}{it t:Addr}{items:Nk}{Q:Da}
section
variable {X:Cx}{pins:KB}{σ:St}{H:Hp}{s:Np}{h':Nw}
def uR(L:GT)(I:Inv X pins σ H s)(hf:∀b∈L,xV X pins H b)(k:∀b o,b∉L->s.heap.get? b=some o->h'.get? b=some o):Inv X pins σ H { s with heap:=h',toks:=t' }:=by
 have LN:∀b u,H b=some u->b∉L:=λb u e z=>by rw[(hf b z).1]at e;cases e
 refine I.step (g':=s.gens) (d':=s.drawn) (ch:=L) (λb hb=>⟨(hf b hb).2.2.2.1,(hf b hb).2.1,(hf b hb).2.2.2.2.1,(hf b hb).2.2.2.2.2⟩) (λb o _ _ hc e _=>k b o hc e) (λb o _ _ hc e _=>⟨o.slots,k b o hc e⟩) (λ_ _ _ _ n=>n)
  (λb o hc e=>⟨o,k b o hc e⟩) (λ_ _ e=>e) (λ_ _ _ e=>e) (λb ps e=>⟨#[],by rw[e];simp⟩) (λm hm=>?_) (λb u e=>?_) I.bare
 ·obtain⟨o,es,ep,ho,r⟩:=hm;exact⟨o,es,ep,k _ o (λz=>(hf _ z).2.1 rfl) ho,r⟩
 ·refine(I.hok b u e).stay (λc v hc q=>k c v (hc.elim (λz=>by rw[z];exact LN b u e) λz=>LN c _ z) q) (λ_ q=>q) λ_ _ q=>q
end
section
variable {prog:Nn}{w:No}{A:Nr}{E:Da}{s:Np}
def sA{x:Nq}(EA:s.heap.IsTupleIter it t i)(ht:s.heap.IsTuple t items)(hx:items[i]?=some x)
  (hQ:∀h',h'.IsTupleIter it t (i+1)->Heap.SameBut it s.heap h'->Q x { s with heap:=h' }):wpAny (model prog w) A (Builtin.SmallTypes.nextOf (.ref it)) Q E s:=by
 obtain⟨o,ho,hc,hd⟩:=id EA;obtain⟨ol,E8,_,nl,Fp⟩:=ht;unfold Builtin.SmallTypes.nextOf;refine WC (Vb (name:=("__next__":Str)) EA.typeIs TY (Vg TY EA.typeIs F.entry_tuple_iterator_next ?_ (F.args_tuple_iterator_next_1 _)));show wpAny _ _ (field (.ref it) 0 >>= _) _ _ s;refine WC (Vo ho hd (x:=.ref t) rfl ?_);show wpAny _ _ (if(Value.ref t==Value.none)=true then _ else _) _ _ s;rw[VF (show¬((Value.ref t==Value.none)=true)from VG)];show wpAny _ _ (field (.ref it) 1 >>= _) _ _ s;refine WC (Vo ho hd (x:=.int i 0) rfl ?_);show wpAny _ _ (seqItems? (.ref t) >>= _) _ _ s;refine WC (U3 E8 Fp ?_);simp only[Vu,hx];refine WC (Tx ho hd (by simp) (VZ ⟨x,rfl,VZ (hQ _ ⟨_,Vn _ ho (TR (U0 hd _)),(Obj.cls_mapFields ..).trans hc,by rw[U0 hd];simp[rawInt]⟩ (Uh ..))⟩))
def pk(hh:A.handled=none)(EA:s.heap.IsTupleIter it t i)(ht:s.heap.IsTuple t items)(hx:items[i]?=none)
  (hE:∀h' e,Heap.ExtBut it s.heap h'->(∃o,h'.get? e=some o/\o.cls = .type "StopIteration")->E (.ref e) { s with heap:=h' }):wpAny (model prog w) A (Builtin.SmallTypes.nextOf (.ref it)) Q E s:=by
 obtain⟨o,ho,hc,hd⟩:=id EA;obtain⟨ol,E8,_,nl,Fp⟩:=ht;unfold Builtin.SmallTypes.nextOf;refine WC (Vb (name:=("__next__":Str)) EA.typeIs TY (Vg TY EA.typeIs F.entry_tuple_iterator_next ?_ (F.args_tuple_iterator_next_1 _)));show wpAny _ _ (field (.ref it) 0 >>= _) _ _ s;refine WC (Vo ho hd (x:=.ref t) rfl ?_);show wpAny _ _ (if(Value.ref t==Value.none)=true then _ else _) _ _ s;rw[VF (show¬((Value.ref t==Value.none)=true)from VG)];show wpAny _ _ (field (.ref it) 1 >>= _) _ _ s;refine WC (Vo ho hd (x:=.int i 0) rfl ?_);show wpAny _ _ (seqItems? (.ref t) >>= _) _ _ s;refine WC (U3 E8 Fp ?_);simp only[Vu,hx];refine WC (SO (WC (Tx ho hd (by simp) ?_)));show wpAny _ _ (newExc (.type "StopIteration") [] >>= _) _ _ _;refine WC ?_;simp only[newExc,newTuple];refine WC (Vq ?_ (by size_fits));refine WC (m:=firstArgMember _ _) (Sv (a:=Value.none) (by first|rfl|(simp only[firstArgMember];rfl)) ?_);refine Vq ?_ (by size_fits);simp only[raiseNew];refine WC (wpAny_handled ?_);first|rw[show A.in1.handled=none from hh]|rw[hh]
 refine WC (VZ (wpAny_throw (hE _ _ (((Uh ..).extBut.push _).push _) ⟨_,VS _ rfl,rfl⟩)))
end
def iZ{h h':Nw}(x:h.IsTuple t items)(hs:Heap.ExtBut it h h')(Be:t≠it):h'.IsTuple t items:=let⟨o,ho,r⟩:=x;⟨o,hs t o Be ho,r⟩
def ww{prog:Nn}{w:No}{A:Nr}(hh:A.handled=none)(it t:Addr)(Be:t≠it)(items:Nk):Draws prog w A it [it,t] items.size (λi v=>items[i]?=some v) (λi h=>h.IsTupleIter it t i/\h.IsTuple t items)where
 live:=λ_ _ st=>st.1.elim λo ho=>⟨o,ho.1⟩
 frame:=λ_ _ _ st hk=>⟨st.1.at λo e=>hk it (by simp) o e,st.2.elim λo ho=>⟨o,hk t (by simp) o ho.1,ho.2⟩⟩
 item:=λi s Q E hi st hQ=>sA st.1 st.2 (x:=items[i]) (by simp[hi]) λh' hit' J1=>hQ _ h' s.toks (by simp[hi]) ⟨hit',iZ st.2 J1.extBut Be⟩ J1
 done:=λs Q E st hE=>pk hh st.1 st.2 (by simp) hE
end My
namespace My
open PySem PySem.Spec PySem.W PySem.Calls L2
open AutoSeq1 (wpAny_loadPart')
open PyProof.Rows hiding St
variable{a e it l:Addr}{items:Nk}{j k:Nat}
def tm(t:Addr):Obj:={ cls:=.type "tuple_iterator",data:=.fields #[.ref t,.int 0 0] }
def lL(it:Addr):Obj:={ cls:=.type "enumerate",data:=.fields #[.none,.bool false,.ref it,rawInt 0,.none,.none] }
def iP(l:Addr)(items:Nk):Meets (Builtin.«enumerate.__new__» ⟨[.type "enumerate",.ref l],[]⟩) (λ_ R s=>s.heap.IsTuple l items /\
  R (.ok (.ret (.ref (s.heap.push (tm l)).objs.size))) { s with heap:=(s.heap.push (tm l)).push (lL s.heap.objs.size) }) :=
 .of_wp λprog w A R s h=>by
  obtain⟨hp,g,d,tk,os⟩:=s;obtain⟨hL,h⟩:=h;have E6:=sub_enumerate;obtain⟨o,hl,hc,n,hd⟩:=id hL;replace hL:Heap.IsTuple (Shared.heap ⟨hp,g,d,tk,os⟩) l items:=hL
  wp_walk using TK hl
  refine wpAny_stack_any λst=>VZ ?_;split
  ·rename_i c _ _ _ _ _;cases(c==Value.type "enumerate")
   ·wp_walk using TK hl,Us hL;exact⟨_,rfl,h⟩
   ·wp_walk using TK hl,Us hL;exact⟨_,rfl,h⟩
  ·wp_walk using TK hl,Us hL;exact⟨_,rfl,h⟩
section
variable {prog:Nn}{w:No}{A:Nr}{E:Da}{s:Np}
def lG{Q:Da}(hL:s.heap.IsTuple l items)
  (h:∀h',IsEnum h' (s.heap.objs.size+1) s.heap.objs.size 0 .none->h'.IsTupleIter s.heap.objs.size l 0->(∀b o,s.heap.get? b=some o->h'.get? b=some o)->Q (.ref (s.heap.objs.size+1)) { s with heap:=h' }) :
  wpAny (model prog w) A (call (.type "enumerate") [.ref l]) Q E s:=by
 refine callType_new F.called_enumerate (by decide) (F.typeCall_enumerate_1 _) (F.newCall_enumerate_1 _) (λobj=>F.args_object_init_2 obj _) F.entry_enumerate_new (iP l items) ⟨hL,?_⟩;have hz:(s.heap.push (tm l)).objs.size=s.heap.objs.size+1:=Vk ..;show _/\_;rw[hz];have he:IsEnum ((s.heap.push (tm l)).push (lL s.heap.objs.size)) (s.heap.objs.size+1) s.heap.objs.size 0 .none:=by
  have:=VS (s.heap.push (tm l)) (o:=lL s.heap.objs.size) rfl;rw[hz]at this;exact this
 exact⟨⟨_,he,rfl⟩,h _ he ⟨_,WB _ (VS _ rfl),rfl,rfl⟩ λb o x=>WB _ (WB _ x)⟩
end
def sR{h:Nw}{i:Int}{old:Nq}(ha:h.IsTuple a items)(he:IsEnum h e it i old)(hi:h.IsTupleIter it a j):∀b∈[e,it],a≠b:=λb hb z=>by
 obtain⟨o,e1,c1,_⟩:=ha;subst z;rcases VI.mp hb with z|z
 ·have Lj:h.get? e=some _:=he;rw[<-z,e1]at Lj;have:=V3 Lj;rw[this]at c1;simp at c1
 ·have z:=VX.mp z;obtain⟨o2,e2,c2,_⟩:=hi;rw[<-z,e1]at e2;cases e2;rw[c1]at c2;simp at c2
def Ite(K:Nl)(a:Addr):It :=
 ⟨λi H=>∃xs x,SqT K H a xs/\xs[i]?=some x,λi H v H'=>∃p x,v = .ref p/\H p=none/\H'=upd H p (.tup [.int (i:Int),x])/\∀xs,SqT K H a xs->xs[i]?=some x,λi H=>∃xs,SqT K H a xs/\xs.length=i⟩
def mw{P:Nn}{w:No}{K:Nl}{F7:Nd}{pos:Pos}(a e it:Addr)(hei:e≠it):sM P w K (.Tuple F7 k pos) (Ite K a) [e,it] e (λi h=>(∃old,IsEnum h e it ((i:Nat):Int) old)/\h.IsTupleIter it a i)where
 mem:=by simp
 obj:=λi h st b hb=>by
  obtain⟨⟨old,he⟩,hi⟩:=st;rcases VI.mp hb with rfl|hb
  ·exact⟨_,he,λv z=>by cases(show Data.fields _=Data.cell v from z)⟩
  ·rw[VX.mp hb];obtain⟨o,e1,c,d⟩:=hi;exact⟨o,e1,λv z=>by rw[d]at z;cases z⟩
 keep:=λi h h' st kk=>⟨st.1.imp λold he=>kk e (by simp) _ he,st.2.at λo e1=>kk it (by simp) o e1⟩
 item:=by
  intro X hP hw hK hc i pins s σ H E I hf st hg;subst hP hw hK;obtain⟨xs,x,hq,hx⟩:=hg;obtain⟨Af,rv,p,hz⟩:=I.tuple hq;obtain⟨u,hu,ru⟩:=rv.get hx;obtain⟨⟨old,he⟩,hi⟩:=st;have EA:s.heap.IsTuple a Af.toArray:=p;have hilt:i<Af.toArray.size:=by
   have:=(VY.mp hu).1;simpa using this
  have hae:∀b∈[e,it],a≠b:=sR EA he hi;refine wpAny_pyNext_enum_itemD (ww (A:=X.A.in1) (I.ok.hd hc) it a (hae it (by simp)) Af.toArray) he ⟨hi,EA⟩ hilt hei (λz=>by
   rcases VI.mp z with z|z
   ·exact hei z
   ·exact hae e (by simp) (VX.mp z).symm) λy h1 tk hy ho hs1 hT hsz hk=>?_
  have ey:y=u:=by
   have h1:Af.toArray[i]?=some y:=hy;have h2:Af.toArray[i]?=some u:=by simpa using hu
   rw[h2]at h1;exact(V3 h1).symm
  subst ey;refine⟨_,rfl,wpAny_letOwnedTupleGo_enum (s:={ s with heap:=h1,toks:=tk+1 }) ho λh2 J9 Ee=>?_⟩;have AG:e<s.heap.objs.size:=VV he;have fr:H s.heap.objs.size=none:=I.hok.fresh (VW _);have I1:Inv X pins σ (upd H s.heap.objs.size (.tup [.int (i:Int),x])) { s with heap:=s.heap.push { cls:=.type "tuple",data:=.seq #[.int i tk,y] },toks:=tk } :=
   I.laid (λb o e1=>WB _ e1) (VW _) ⟨by simp only[VN,Vx];rw[VP];decide,[.int i tk,y],.cons ⟨_,rfl⟩ (.cons ru .nil),⟨_,VS _ rfl,rfl,_,rfl⟩⟩
  have lt2:∀b∈[e,it],b<s.heap.objs.size:=λb hb=>by
   rcases VI.mp hb with rfl|hb
   ·exact AG
   ·rw[VX.mp hb];obtain⟨o,e1,_⟩:=hi;exact VV e1
  have Mq:∀b∈[e,it],xV X pins (upd H s.heap.objs.size (.tup [.int (i:Int),x])) b:=λb hb=>⟨by rw[ze (VD (lt2 b hb))];exact(hf b hb).1,(hf b hb).2⟩
  have I2:Inv X pins σ (upd H s.heap.objs.size (.tup [.int (i:Int),x])) { s with heap:=h2,toks:=tk+1 }:=uR (s:={ s with heap:=s.heap.push { cls:=.type "tuple",data:=.seq #[.int i tk,y] },toks:=tk }) [e,it] I1 Mq λb o hb e1=>by
   have Hg:b≠e:=λz=>hb (by simp[z]);have hbi:b≠it:=λz=>hb (by simp[z]);refine(Ee.2 b Hg).trans ?_;rcases Heap.get?_push_cases e1 with⟨rfl,rfl⟩|e1
   ·exact hT
   ·exact hk b o Hg hbi e1
  exact⟨.ref s.heap.objs.size,upd H s.heap.objs.size (.tup [.int (i:Int),x]),I2,rfl,⟨_,x,rfl,fr,rfl,λys Kc=>by rw[I.tuple_inj Kc hq];exact hx⟩,⟨⟨_,by simpa using J9⟩,hs1.1.at λo e1=>(Ee.2 it (U6 hei)).trans e1⟩,λb hb=>(Mq b hb).1⟩
 done:=by
  intro X hP hw hK hc i pins s σ H E I hf st hg;subst hP hw hK;obtain⟨xs,hq,hx⟩:=hg;obtain⟨Af,rv,p,hz⟩:=I.tuple hq;obtain⟨⟨old,he⟩,hi⟩:=st;have EA:s.heap.IsTuple a Af.toArray:=p;have hae:∀b∈[e,it],a≠b:=sR EA he hi;have hl:Af.toArray.size=i:=by rw[VO,<-rv.length];exact hx
  refine wpAny_pyNext_enum_endD (ww (A:=X.A.in1) (I.ok.hd hc) it a (hae it (by simp)) Af.toArray) he ⟨by rw[hl];exact hi,EA⟩ λh1 eb=>⟨rfl,uR (t':=s.toks) [e,it] I hf λb o hb e1=>eb b o (λz=>hb (by simp[z])) e1⟩
 self:=λ_ _ _ _ _ st h=>by
  obtain⟨⟨old,he⟩,_⟩:=st;exact wpAny_pyIter_enum he h
end My
namespace My
open PySem PySem.Spec PySem.W PySem.Calls L2
open PyProof.Rows hiding St
variable{pos pt:Pos}{p x y:Addr}{pins:KB}{H:Hp}{s:Np}{b k:Nc}{R:KF}
section
section
variable {X:Cx}
def bS:bootBuiltins "enumerate"=some (.type "enumerate"):=by decide +kernel
def iEn(K:Nl)(ta:TA):TI:=fun σ H R=>ta σ H (on1 (oH λa H1=>(∃xs,SqT K H1 a xs)/\R (Ite K a) H1))
def ZP{F7:List Expr}{kk:Nat}{a:Expr}{ta:TA}{p:Pos}(hg:Gl X "enumerate")(hm:X.mg "enumerate"=none)(ha:PA X [a] ta)(hs:starEach [a] X.env=[(false,eval a X.env)]:=by rfl):
  PI X (.Tuple F7 kk pt) (.Call (.Name "enumerate" p) [a] [] pos) (iEn X.K ta):=by
 intro pins s σ H R I h;refine Call_ (wc I hg hm bS (UE (thn (ha pos pins s σ H _ I h) λus s1 ⟨vs,H1,I1,r1,q1⟩=>?_) hs rfl));rcases vs with _|⟨x,_|⟨y,rr⟩⟩
 ·exact(show False from q1).elim
 ·cases x with
  |ref b =>
   obtain⟨⟨xs,hq⟩,q⟩:=(show(∃xs,SqT X.K H1 b xs)/\R (Ite X.K b) H1 from q1)
   cases r1 with
   |cons r rr =>
    cases rr;cases r;obtain⟨Af,rv,p1,hz⟩:=I1.tuple hq;refine lG (show s1.heap.IsTuple b Af.toArray from p1) λh' he hi hk=>?_;refine wpAny_pyIter_enum (s:={ s1 with heap:=h' }) he ?_;have I2:Inv X pins σ H1 { s1 with heap:=h' }:=I1.kept (t':=s1.toks) hk;refine⟨_,[s1.heap.objs.size+1,s1.heap.objs.size],_,_,H1,rfl,I2,mw b _ _ (Nat.succ_ne_self _),⟨⟨_,he⟩,hi⟩,λc hc=>?_,q⟩;have IW:s1.heap.objs.size<=c:=by
     rcases VI.mp hc with rfl|hc
     ·exact UG _
     ·rw[VX.mp hc];exact VW _
    exact I1.fpOk IW (I1.hok.fresh IW)
  |_=>exact(show False from q1).elim
 ·exact(show False from q1).elim
end
end
section
def jL(a b:Nc):((List.range (min a.length b.length)).all (λj=>a.getD j false==b.getD j false)&&a.length==b.length)=(a==b):=by
 rw[UA,Vy,Vf,UL,UL];constructor
 ·rintro⟨h,e⟩;apply T0 e;intro i h1 h2;have:=h i (Vc.mpr (by lia));simpa[h1,h2]using this
 ·rintro rfl;exact⟨λj _=>Uq _,rfl⟩
def Wo{C:Addr->Addr->Prop}{x y:V}(h:match x,y with|.ref r,.ref p=>C r p|_,_=>False):∃r p,x = .ref r/\y = .ref p/\C r p:=by
 cases x with
 |ref r =>
  cases y with
  |ref p=>exact⟨r,p,rfl,rfl,h⟩
  |_=>exact(show False from h).elim
 |_=>exact(show False from by cases y<;>exact h).elim
section
variable {X:Cx}
def f9{σ:St}(I:Inv X pins σ H s){A:Nr}(hu:A.units<cLine){a:Nc}(hx:SqT X.K H x (a.map V.bl))(hy:SqT X.K H y (b.map V.bl)):SeqAt.EqAt A s (.ref x) (.ref y) (a==b):=by
 by_cases e:x=y
 ·subst e;have:a=b:=by
   have:=I.tuple_inj hx hy;exact List.map_inj_right (λ_ _ z=>V.bl.inj z) |>.mp this
  subst this;rw[Uq];exact SeqAt.EqAt.same _
 ·obtain⟨ix,rx,px,_⟩:=I.tuple hx;obtain⟨iy,ry,py,_⟩:=I.tuple hy;have ex:=yU rx;have ey:=yU ry;subst ex ey;have:=SeqAt.RcAt.tuples (e:=λj=>a.getD j false==b.getD j false) (show s.heap.IsTuple x _ from px) (show s.heap.IsTuple y _ from py) hu λj h1 h2=>by
   have Gu:j<a.length:=by simpa using h1
   have D4:j<b.length:=by simpa using h2
   simp only[List.getElem_toArray,List.getElem_map];rw[show a.getD j false=a[j]by simp[Gu],show b.getD j false=b[j]by simp[D4]];exact Tf _ _
  have h2:=SeqAt.EqAt.of_refs e this;rw[show(a.map Value.bool).toArray.size=a.length by simp,show(b.map Value.bool).toArray.size=b.length by simp,jL]at h2;exact h2
def XV(K:W.Frag)(g:Bool->Bool):R2:=λx y H Q=>match x,y with
 | .ref r,.ref p=>∃(k:List Bool)(R:List (Addr×List Bool)),SqT K H r (k.map V.bl)/\SqL K H p (R.map λr=>V.ref r.1)/\(∀r∈R,SqT K H r.1 (r.2.map V.bl))/\Q (.bl (g (R.any λr=>r.2==k))) H
 |_,_=>False
theorem X5{K:Nl}{g:Bool->Bool}{r:Addr}{Q:VK}:XV K g (.ref r) (.ref p) H Q=∃(k:Nc)(R:KF),SqT K H r (k.map V.bl)/\SqL K H p (R.map λr=>V.ref r.1)/\(∀r∈R,SqT K H r.1 (r.2.map V.bl))/\Q (.bl (g (R.any λr=>r.2==k))) H:=rfl
def atR(R:List (Addr×List Bool))(k:List Bool):Value->Bool
 | .ref b=>R.any λr=>r.1==b&&r.2==k
 |_=>false
def k9{σ:St}(I:Inv X pins σ H s)(hR:∀r∈R,SqT X.K H r.1 (r.2.map V.bl))(k:Nc){r:Addr×List Bool}(hr:r∈R):atR R k (.ref r.1)=(r.2==k):=by
 rw[UA];unfold atR;rw[UW];constructor
 ·rintro⟨q,hq,e⟩;rw[Vy,UL]at e;have h1:=hR q hq;rw[e.1]at h1;have:q.2=r.2:=List.map_inj_right (λ_ _ z=>V.bl.inj z) |>.mp (I.tuple_inj h1 (hR r hr))
  rw[<-this];exact e.2
 ·intro e;exact⟨r,hr,by rw[Vy];exact⟨Uq _,e⟩⟩
def bO{σ:St}(I:Inv X pins σ H s)(hR:∀r∈R,SqT X.K H r.1 (r.2.map V.bl))(k:Nc):((R.map (·.1)).map Value.ref).toArray.any (atR R k)=R.any λr=>r.2==k:=by
 rw[List.any_toArray,Vi,List.any_map,UA,UW,UW];constructor
 ·rintro⟨r,hr,e⟩;exact⟨r,hr,by rw[<-k9 I hR k hr];exact e⟩
 ·rintro⟨r,hr,e⟩;exact⟨r,hr,by rw[<-k9 I hR k hr]at e;exact e⟩
def Y8{σ:St}(I:Inv X pins σ H s)(hu:X.A.units+64<cLine){r:Addr}(hr:SqT X.K H r (k.map V.bl))(hp:SqL X.K H p (R.map λr=>V.ref r.1))(hR:∀r∈R,SqT X.K H r.1 (r.2.map V.bl)):
  s.heap.IsList p ((R.map (·.1)).map Value.ref).toArray/\∀y,y∈((R.map (·.1)).map Value.ref).toArray->SeqAt.EqAt X.A.in1 s y (.ref r) (atR R k y):=by
 obtain⟨Af,rv,pl,_⟩:=I.list hp;have e:Af=(R.map (·.1)).map Value.ref:=vB (by rw[Vi];exact rv);subst e;refine⟨pl.isList,λy hy=>?_⟩;have Fn:y∈(R.map (·.1)).map Value.ref:=by simpa using hy
 rw[Vi]at Fn;obtain⟨q,hq,rfl⟩:=VC.mp Fn;show SeqAt.EqAt X.A.in1 s (.ref q.1) (.ref r) (atR R k (.ref q.1));rw[k9 I hR k hq];exact f9 I (show X.A.units+1<cLine by lia) (hR q hq) hr
def eS(hu:X.A.units+64<cLine):OpR X (compareOp .NotIn) (XV X.K not):=by
 intro pins s σ H x y v u Q I rx ry h;obtain⟨r,p,rfl,rfl,k,R,hr,hp,hR,q⟩:=Wo (C:=λr p=>∃(k:Nc)(R:KF),SqT X.K H r (k.map V.bl)/\SqL X.K H p (R.map λr=>V.ref r.1)/\(∀r∈R,SqT X.K H r.1 (r.2.map V.bl))/\Q (.bl (!(R.any λr=>r.2==k))) H) h;cases rx;cases ry;obtain⟨h1,h2⟩:=Y8 I hu hr hp hR;exact SeqAt.notIn_listAt (atR R k) h1 h2 ⟨.bl _,H,I,rfl,by rw[bO I hR];exact q⟩
end
end
end My
namespace My
open PySem PySem.Spec L2
open PyProof.Rows hiding St
variable{E:Da}{Y' s:Np}{c d globals it:Addr}{qual x y:Str}{pins:KB}{H:Hp}{fp:GT}{ixs:Nf}{AG iter tg:Nv}{AE:Nd}{g:TG}{tt:Addr->Shared->Hp->List Addr->TT}{te:Addr->Shared->Hp->List Addr->TE}{B2 pos px py:Pos}
def y6(X:Cx)(N':GM)(scope:Nu)(cl:Ni)(x:Str)(C:Addr)(s₀:Np)(H₀:Hp)(ex:GT):Cx where
 prog:=X.prog
 w:=X.w
 K:=X.K
 mg:=X.mg
 base:=X.base
 A:=X.A
 N:=N'
 s₀:=s₀
 H₀:=H₀
 env:=compEnvC scope ((x,C+1)::cl) C X.env
 outer:=X.stack
 stack:=X.stack
 ex:=ex
 fn:=λy=>y==x
 calm:=X.calm
 pn:=[]
 xe:=λ_ _=>False
structure CompOkC(X:Cx)(x:Str)(N:GM)(scope:Nu)(cl:Ni):Prop where
 clos:closureFor scope X.env=pure cl
 sub:∀p∈cl,X.env.cells.lookup p.1=some p.2
 have_:∀p∈scope.names,p.2 = .free->∃c,cl.lookup p.1=some c
 one:∀y∈scope.names,y.2 = .cell->y.1=x
 cf:∀n,cellsFrom n scope.names cl=(x,n)::cl
 pc:∀h:Heap,pushCells h scope.names=h.push { cls:=.type "cell",data:=.cell none }
 kind:scope.kind = .function
 names:∀y∈scope.names,y.2 = .local->scope.names.lookup y.1=some .local
 mine:(relabel scope X.env).names.lookup x=some .cell
 nd:([x]++N).Nodup
 cells:∀y∈N,X.env.kindOf y=some .cell\/X.env.kindOf y=some .free
 free:∀y∈N,∃c,cl.lookup y=some c
 vis:∀y∈N,(relabel scope X.env).names.lookup y=some .cell\/(relabel scope X.env).names.lookup y=some .free
def iw{M:Model}{A:Nr}{scope:Nu}{cl:Ni}{env:Env}{Q:Env->Shared->Prop}
  (cf:∀n,cellsFrom n scope.names cl=(x,n)::cl) (pc:∀h:Heap,pushCells h scope.names=h.push { cls:=.type "cell",data:=.cell none })
  (hQ:∀h':Heap,h'.Ns s.heap.objs.size (λ_=>none)->h'.IsCell (s.heap.objs.size+1) none->(∀b o,s.heap.get? b=some o->h'.get? b=some o) ->
   Q (newEnv scope s.heap.objs.size globals ((x,s.heap.objs.size+1)::cl) qual none .none (some env) builtinsNs) { s with heap:=h' }) :
  wpAny M A (newFunctionEnv scope globals cl [] qual none .none (some env)) Q E s:=by
 simp only[newFunctionEnv,Option.isSome_some,if_true];refine WC (wpAny_alloc ?_);refine WC (wpAny_layCells _ (λname kind cells=>by cases hkc:kind==NameKind.cell<;>simp[hkc]) _ _ _ _ ?_);rw[show({ s with heap:=s.heap.push { cls:=.type "dict",data:=.dict #[] } }:Np).heap.objs.size=s.heap.objs.size+1 from Vk ..];rw[cf,pc];have h1:(s.heap.push { cls:=.type "dict",data:=.dict #[] }).objs.size=s.heap.objs.size+1:=Vk ..;rw[S7];refine WC (VZ (VZ (hQ _ ?_ ?_ ?_)))
 ·exact(Heap.Ns.new s.heap (.type "dict")).keeps λb o e=>WB _ e
 ·have g:=VS (s.heap.push { cls:=.type "dict",data:=.dict #[] }) (o:={ cls:=.type "cell",data:=.cell none }) rfl;rw[h1]at g;exact⟨_,g,rfl⟩
 ·exact λb o e=>WB _ (WB _ e)
section
variable {X:Cx}{N:GM}{scope:Nu}{cl:Ni}{x:Str}
def CompOkC.up(k:CompOkC X x N scope cl)(h:cl.lookup y=some c):X.env.cells.lookup y=some c:=k.sub (y,c) (UZ h)
def wB{x:Str}(h:((x,d)::cl).lookup y=some c):(y=x/\c=d)\/(y≠x/\cl.lookup y=some c):=by
 rw[Ub]at h
 by_cases e:y=x
 ·subst e;simp at h;exact .inl ⟨rfl,h.symm⟩
 ·rw[show(y==x)=false from U8.mpr e]at h;exact .inr ⟨e,h⟩
def ac{x:Str}(e:y≠x)(h:cl.lookup y=some c):((x,d)::cl).lookup y=some c:=by
 rw[Ub,show(y==x)=false from U8.mpr e];exact h
def lK(clos:closureFor scope X.env=pure cl)(sub:cl.map (λp=>X.env.cells.lookup p.1)=cl.map (λp=>some p.2))
  (b1:(scope.names.all λp=>!(p.2 == .free)||(cl.lookup p.1).isSome)=true) (b2:(scope.names.all λp=>!(p.2 == .cell)||p.1==x)=true)
  (cf:∀n,cellsFrom n scope.names cl=(x,n)::cl) (pc:∀h:Heap,pushCells h scope.names=h.push { cls:=.type "cell",data:=.cell none }) (kind:scope.kind = .function)
  (b3:(scope.names.all λp=>!(p.2 == .local)||scope.names.lookup p.1==some .local)=true) (ow:(relabel scope X.env).names.lookup x=some .cell) (nd:([x]++N).Nodup)
  (b4:(N.all λy=>X.env.kindOf y==some .cell||X.env.kindOf y==some .free)=true) (b5:(N.all λy=>(cl.lookup y).isSome)=true)
  (b6:(N.all λy=>(relabel scope X.env).names.lookup y==some .cell||(relabel scope X.env).names.lookup y==some .free)=true):CompOkC X x N scope cl:=by
 rw[Vf]at b1 b2 b3 b4 b5 b6;refine⟨clos,List.map_inj_left.mp sub,λp hp hf=>?_,λp hp hc=>?_,cf,pc,kind,λp hp hl=>?_,ow,nd,λy hy=>?_,λy hy=>Uo.mp (b5 y hy),λy hy=>?_⟩
 ·have h:=b1 p hp;rw[hf]at h;exact Uo.mp (by simpa using h)
 ·have h:=b2 p hp;rw[hc]at h;simpa using h
 ·have h:=b3 p hp;rw[hl]at h;simpa using h
 ·have h:=b4 y hy;rw[To]at h;exact h.imp eq_of_beq eq_of_beq
 ·have h:=b6 y hy;rw[To]at h;exact h.imp eq_of_beq eq_of_beq
theorem iL{σ:St}{h₁:Heap}{tk:Nat}(k:CompOkC X x N scope cl)(I:Inv X pins σ H s)(hf:∀b∈fp,xV X pins H b)(IX:∀b∈fp,b<s.heap.objs.size)
  (IU:∀(j:Nat)(i:Nat),ixs[j]?=some i->∃y,X.N[i]?=some y/\N[j]?=some y) (Ar:ixs.length=N.length)
  (C9:h₁.Ns s.heap.objs.size λ_=>none) (Mu:h₁.IsCell (s.heap.objs.size+1) none) (HU:∀b o,b≠s.heap.objs.size->s.heap.get? b=some o->h₁.get? b=some o) :
  Inv (y6 X ([x]++N) scope cl x s.heap.objs.size s H fp) [] ([none]++ixs.map (gv σ)) H { s with heap:=h₁,toks:=tk }:=by
 have old:∀b o,s.heap.get? b=some o->h₁.get? b=some o:=λb o e=>HU b o (VD (VV e)) e;have nfs:∀b∈fp,b∉frs X.stack:=λb hb z=>by
  rcases VI.mp (I.stkSub b z)with e|e
  ·exact(hf b hb).2.1 e
  ·exact(hf b hb).2.2.1 e
 have LI:∀y c,cl.lookup y=some c->c<s.heap.objs.size:=λy c e=>by
  obtain⟨v,ic⟩:=I.cell y c (k.up e);exact ic.lt
 refine⟨⟨I.ok.mod,?_,I.ok.glob,I.ok.blt,VW _,?_,?_,?_,I.ok.hd,I.ok.frames,.inl rfl,?_,I.bs,Vz I.ok.bsz I.sz,?_,nfs,I.stack,I.stkFree⟩,
  rfl,I.bare,Un.kept old,⟨λ_=>none,C9,?_⟩,?_,I.hok.fresh (VW _),?_,λp hp=>absurd hp (by simp[y6]),I.hok.kept old,?_⟩
 ·exact k.kind
 ·intro y z c h1 h2;rcases wB h1 with⟨e1,f1⟩|⟨e1,f1⟩<;>rcases wB h2 with⟨e2,f2⟩|⟨e2,f2⟩
  ·rw[e1,e2]
  ·exact absurd (LI _ _ f2) (by rw[f1];exact T4.mpr (UG _))
  ·exact absurd (LI _ _ f1) (by rw[f2];exact T4.mpr (UG _))
  ·exact I.ok.inj y z c (k.up f1) (k.up f2)
 ·intro y hy
  by_cases e:y=x
  ·subst e;exact⟨s.heap.objs.size+1,by show List.lookup y ((y,s.heap.objs.size+1)::cl)=_;simp⟩
  have Fn:scope.names.lookup y=some .cell\/scope.names.lookup y=some .free:=by
   rcases hy with hy|hy
   ·exact yP (env:=X.env) hy (.inl rfl)
   ·exact yP (env:=X.env) hy (.inr rfl)
  rcases Fn with Fn|Fn
  ·exact absurd (k.one _ (UZ Fn) rfl) e
  ·obtain⟨c,hc⟩:=k.have_ _ (UZ Fn) rfl;exact⟨c,ac e hc⟩
 ·intro y c h1 h2;rcases wB h2 with⟨e2,f2⟩|⟨e2,f2⟩
  ·show s.heap.objs.size<=c;rw[f2];exact UG _
  ·exact absurd (eq_of_beq h1) e2
 ·intro b hb;refine⟨VD (IX b hb),λy c e=>?_⟩;rcases wB e with⟨e2,f2⟩|⟨e2,f2⟩
  ·exact λq=>absurd (IX b hb) (by rw[<-q,f2];exact T4.mpr (UG _))
  ·exact(hf b hb).2.2.2.2.1 y c (k.up f2)
 ·intro b o e hb;rcases(hf b hb).2.2.2.1 with z|z
  ·exact I.ok.noex b o e z
  ·exact absurd (V8 (VV e) (Vz I.ok.bsz z)) (Vj _)
 ·intro i y v h1 h2 h3;cases i with
  |zero=>simp at h2
  |succ i =>
   have Gu:N[i]?=some y:=by simpa[y6]using h1
   have D4:(ixs.map (gv σ))[i]?=some (some v):=by simpa using h2
   rw[VA]at D4;cases e:ixs[i]? with
   |none=>rw[e]at D4;cases D4
   |some j =>
    rw[e]at D4;have K3:gv σ j=some v:=by simpa using D4
    obtain⟨z,hz,Gj⟩:=IU i j e;rw[Gu]at Gj;cases Gj;have hm:=VR Gu;have hyx:y≠x:=λz=>by
     have:=k.nd;simp only[List.singleton_append,TL]at this;exact this.1 (z▸hm)
    obtain⟨m,hn,hl⟩:=I.loc;have Ke:Vis X.env.scope y:=.inr (k.cells y hm);obtain⟨u,ru,l⟩:=hl j y v hz (pT K3) Ke;refine⟨u,ru,?_⟩;rcases l with⟨l,_⟩|⟨_,c,ec,ic⟩
    ·exfalso;rcases k.cells y hm with z|z<;>(rw[l]at z;cases z)
    ·obtain⟨c',MF⟩:=k.free y hm;have:c=c':=V3 (ec.symm.trans (k.up MF));subst this;refine .inr ⟨?_,c,ac hyx MF,?_⟩
     ·exact k.vis y hm
     ·obtain⟨o,ho,hd⟩:=ic;exact⟨o,old _ _ ho,hd⟩
 ·intro y c e;rcases wB e with⟨e2,f2⟩|⟨e2,f2⟩
  ·subst f2;exact⟨none,Mu⟩
  ·obtain⟨v,o,ho,hd⟩:=I.cell y c (k.up f2);exact⟨v,o,old _ _ ho,hd⟩
 ·intro y c e;rcases wB e with⟨e2,f2⟩|⟨e2,f2⟩
  ·subst f2;exact I.hok.fresh (UG _)
  ·exact I.freeC y c (k.up f2)
 ·show([none]++ixs.map (gv σ)).length=([x]++N).length;simp[Ar]
theorem nH{σ:St}{tn:Nat->Heap->Prop}{J:It}{Q:VK}{RR:Value->Addr->Result->Shared->Prop}
  (k:CompOkC X x N scope cl) (AN:X.calm=true) (IU:∀(j:Nat)(i:Nat),ixs[j]?=some i->∃y,X.N[i]?=some y/\N[j]?=some y) (Ar:ixs.length=N.length)
  (hg:∀(C:Addr)(s₀:Shared)(H₀:Hp)(ex:List Addr),PG (y6 X ([x]++N) scope cl x C s₀ H₀ ex) tg g)
  (ht:∀(C:Addr)(s₀:Shared)(H₀:Hp)(ex:List Addr),PIf (y6 X ([x]++N) scope cl x C s₀ H₀ ex) AE (tt C s₀ H₀ ex))
  (he:∀(C:Addr)(s₀:Shared)(H₀:Hp)(ex:List Addr),PE (y6 X ([x]++N) scope cl x C s₀ H₀ ex) AG (te C s₀ H₀ ex))
  (I:Inv X pins σ H Y') (T:sM X.prog X.w X.K tg J fp it tn) (st:tn 0 Y'.heap) (hf:∀b∈fp,xV X pins H b)
  (q:∀(C:Addr)(s₀:Shared)(H₀:Hp)(ex:List Addr),xp 1 g (tt C s₀ H₀ ex) (te C s₀ H₀ ex) (ixs.map (gv σ)) J Q H)
  (M0:∀(D C:Addr)(H':Hp)(s':Shared)(m:Str->Option Value),Inv X pins σ H' s'->s'.heap.Ns C m->H' C=none->C≠X.env.locals->C∉X.fs->(∀p∈X.pn++pins,p.1≠C)->(∀y c,X.env.cells.lookup y=some c->c≠C)->X.s₀.heap.objs.size<=C->Q (.ref D) H'->RR (.ref D) C (.ok .next) s') :
  wpAny (model X.prog X.w) X.A (newList []) (λAw W'=>wpAny (model X.prog X.w) X.A (newFunctionEnv scope X.env.globals cl [] X.env.qual none .none (some X.env)) (λEV Sq =>
   codeAny (model X.prog X.w) X.A (.compStart (.ListComp AG [⟨tg,iter,AE,0⟩] scope pos) 0 (.ref it) Aw { EV with scope:=relabel scope X.env }) (RR Aw EV.locals) Sq) E W') E Y':=by
 refine Vq (iw k.cf k.pc λh₁ U' Sd S'=>?_);dsimp only at U' S' Sd ⊢;have B8:H Y'.heap.objs.size=none:=I.hok.fresh (VW _);have I3:Inv X pins σ (upd H Y'.heap.objs.size (.lst [])) { Y' with heap:=Y'.heap.push { cls:=.type "list",dict:=none,data:=.seq ([]:List Value).toArray } } :=
  I.laid (t':=Y'.toks) (λb o e=>WB _ e) (VW _) ⟨V5 _,[],0,.nil,VS _ rfl⟩
 obtain⟨W,⟨m0,w0⟩,Bf⟩:=q (Y'.heap.push { cls:=.type "list",dict:=none,data:=.seq ([]:List Value).toArray }).objs.size { Y' with heap:=Y'.heap.push { cls:=.type "list",dict:=none,data:=.seq ([]:List Value).toArray } } (upd H Y'.heap.objs.size (.lst [])) fp Y'.heap.objs.size _ B8 (yY B8 _) zv;have AH:∀b o,Y'.heap.get? b=some o->(Y'.heap.push { cls:=.type "list",dict:=none,data:=.seq ([]:List Value).toArray }).get? b=some o:=λb o e=>WB _ e;have CC:∀b∈fp,b<Y'.heap.objs.size:=λb hb=>by
  obtain⟨o,e,_⟩:=T.obj _ _ st b hb;exact VV e
 have Gq:∀b∈fp,xV X pins (upd H Y'.heap.objs.size (.lst [])) b:=λb hb=>⟨by rw[ze (VD (CC b hb))];exact(hf b hb).1,(hf b hb).2⟩
 generalize hH3:upd H Y'.heap.objs.size (.lst [])=H3 at I3 w0 Gq Bf;generalize hh2:Y'.heap.push { cls:=.type "list",dict:=none,data:=.seq ([]:List Value).toArray }=h2 at I3 U' S' Sd AH Bf ⊢;have EO:h2.objs.size=Y'.heap.objs.size+1:=by rw[<-hh2,Vk]
 have JH:∀b∈fp,b<h2.objs.size:=λb hb=>by rw[EO];exact Uy (CC b hb)
 have Fo:∀b o,b≠h2.objs.size->h2.get? b=some o->h₁.get? b=some o:=λb o _ e=>S' b o e;have I4:=iL (fp:=fp) (h₁:=h₁) (tk:=Y'.toks) (s:={ Y' with heap:=h2 }) k I3 Gq JH IU Ar U' Sd Fo;have Js:tn 0 h₁:=T.keep _ _ _ st λb hb o e=>Fo b o (VD (JH b hb)) (AH b o e);have MA:∀b∈fp,H3 b=none:=λb hb=>(Gq b hb).1;have Il:∀{H':Hp},(∀b∈fp,H' b=none)->∀b∈fp,xV (y6 X ([x]++N) scope cl x h2.objs.size { Y' with heap:=h2 } H3 fp) [] H' b:=λhn b hb =>
  ⟨hn b hb,(I4.ok.exf b hb).1,I4.ok.exfs b hb,.inl hb,(I4.ok.exf b hb).2,λp hp=>absurd hp (by simp[y6])⟩
 have loop:∀W':Shared,W'={ Y' with heap:=h₁,toks:=Y'.toks } ->
   codeAny (model X.prog X.w) X.A (.compLoop (.ListComp AG [⟨tg,iter,AE,0⟩] scope pos) 0 (.ref it) (.ref Y'.heap.objs.size) (compEnvC scope ((x,h2.objs.size+1)::cl) h2.objs.size X.env)) (RR (.ref Y'.heap.objs.size) h2.objs.size) W':=by
  rintro W' rfl;refine w9 (λn s'=>∃i τ ys H',τ.length=1/\Inv (y6 X ([x]++N) scope cl x h2.objs.size { Y' with heap:=h2 } H3 fp) [] (τ++ixs.map (gv σ)) H' s'/\tn i s'.heap/\(∀b∈fp,H' b=none)/\W i n ys H') ?_ m0 ⟨0,[none],[],H3,by simp,I4,Js,MA,w0⟩;rintro n s5 ⟨i,τ,ys,H5,hτ,I5,Fm,Hi,w5⟩ E';obtain⟨hD,MU⟩:=Bf i n ys H5 w5;rcases MU with⟨stop,qn⟩|⟨go,hz,step⟩
  ·refine V6 (T.done (y6 X ([x]++N) scope cl x h2.objs.size { Y' with heap:=h2 } H3 fp) rfl rfl rfl AN i [] s5 _ H5 E' I5 (Il Hi) Fm stop) (λr s6 hr=>?_) λ_ _ e=>e;obtain⟨rfl,I6⟩:=hr;obtain⟨m6,Mh,_⟩:=I6.loc;have J6:Inv X pins σ H5 s6:=by
    refine I3.call' (ch:=fp) I6.os I6.base I6.hok I6.bare λb hb=>?_;obtain⟨_,f1,f2,f3,f4,f5⟩:=Gq b hb;exact⟨f3,f1,f4,f5⟩
   have Hy:X.s₀.heap.objs.size<=h2.objs.size:=I3.sz;refine M0 Y'.heap.objs.size h2.objs.size H5 s6 m6 J6 Mh I6.free (Uw I3.lt) (I3.nofs (VW _)) (λp hp z=>?_) (λy c e z=>?_) Hy qn
   ·exact absurd (VV (I3.pin p hp).1) (by rw[z];exact Vj _)
   ·obtain⟨u,ic⟩:=I3.cell y c e;exact absurd ic.lt (by rw[z];exact Vj _)
  ·refine V6 (T.item (y6 X ([x]++N) scope cl x h2.objs.size { Y' with heap:=h2 } H3 fp) rfl rfl rfl AN i [] s5 _ H5 E' I5 (Il Hi) Fm go) (λr s6 hr=>?_) λ_ _ e=>e;obtain⟨u,rfl,h6⟩:=hr;refine V6 h6 (λ_ s7 h7=>?_) λ_ _ e=>e;obtain⟨xv,H7,I7,r7,y7,Hz,M9⟩:=h7;have MX:=I7.pinned (Il M9) (T.obj _ _ Hz);refine V6 (hg _ _ _ _ _ s7 _ H7 xv u _ MX r7 (step τ xv H7 hτ y7)) (λ_ s8 h8=>?_) λ_ _ e=>e.elim;obtain⟨σ8,H8,I8,⟨τ',rfl,hτ'⟩,q8⟩:=h8;refine V6 (ht _ _ _ _ _ s8 _ H8 _ I8 q8) (λok s9 h9=>?_) λ_ _ e=>e.elim;obtain⟨H9,I9,q9⟩:=h9;have EX:∀(Cf:Hp)(BX:Shared)(Gz:List V)(m':Nat),Inv (y6 X ([x]++N) scope cl x h2.objs.size { Y' with heap:=h2 } H3 fp) ([]++wm fp s7.heap) (τ'++ixs.map (gv σ)) Cf BX->m'<n->W (i+1) m' Gz Cf ->
     ∃m,m<n/\∃i τ ys H',τ.length=1/\Inv (y6 X ([x]++N) scope cl x h2.objs.size { Y' with heap:=h2 } H3 fp) [] (τ++ixs.map (gv σ)) H' BX/\tn i BX.heap/\(∀b∈fp,H' b=none)/\W i m ys H':=λCf BX Gz m' EY BG w10=>by
    refine⟨m',BG,i+1,τ',Gz,Cf,hτ',EY.unpinned (pins:=[]),T.keep _ _ _ Hz λb hb o e=>(EY.pin (b,o) (VM _ (VM _ (yi hb e)))).1,λb hb=>?_,w10⟩;obtain⟨o,e,d⟩:=T.obj _ _ Hz b hb;exact(EY.pin (b,o) (VM _ (VM _ (yi hb e)))).2.1
   cases ok with
   |true =>
    simp only[if_true]at q9 ⊢;refine V6 (he _ _ _ _ _ s9 _ H9 _ I9 q9) (λy BX M8=>?_) λ_ _ e=>e.elim;obtain⟨yv,Cf,EY,LH,Ie,m',BG,w10⟩:=M8;refine V6 (wD (X:=y6 X ([x]++N) scope cl x h2.objs.size { Y' with heap:=h2 } H3 fp) _ BX _ Cf (.ref Y'.heap.objs.size) [yv] (.ref Y'.heap.objs.size) [y] (λv' H'=>H'=upd Cf Y'.heap.objs.size (.lst (ys++[yv]))) EY rfl (.cons LH .nil) ⟨_,ys,yv,rfl,rfl,Ie,hz,rfl⟩) (λ_ GY M7=>?_) λ_ _ e=>e.elim;obtain⟨_,Jh,MY,_,rfl⟩:=M7;exact EX _ _ _ m' MY BG w10
   |false =>
    simp only[Bool.false_eq_true,if_false]at q9 ⊢;obtain⟨m',BG,w10⟩:=q9;exact EX _ _ _ m' I9 BG w10
 exact SH (loop _ rfl) (T.self _ 0 _ _ _ Js (loop _ rfl))
def nu(i:Nat){wi:TI}(hN:X.N.Nodup)
  (k:CompOkC X x N scope cl) (AN:X.calm=true) (hi:PI X tg iter wi)
  (hg:∀(C:Addr)(s₀:Np)(H₀:Hp)(ex:GT),PG (y6 X ([x]++N) scope cl x C s₀ H₀ ex) tg g) (ht:∀(C:Addr)(s₀:Np)(H₀:Hp)(ex:GT),PIf (y6 X ([x]++N) scope cl x C s₀ H₀ ex) AE (tt C s₀ H₀ ex))
  (he:∀(C:Addr)(s₀:Np)(H₀:Hp)(ex:GT),PE (y6 X ([x]++N) scope cl x C s₀ H₀ ex) AG (te C s₀ H₀ ex))
  (hx:ixs.map (λi=>X.N[i]?)=N.map some)
  (hy:X.N[i]?=some y:=by rfl) (EI:X.env.scope.names.lookup y=some .local:=by rfl)
  (GA:swapsWith (.ListComp AG [⟨tg,iter,AE,0⟩] scope pos) (some (.Name y py)) B2.line X.env=pure true:=by rfl)
  (hs:∀x,foldedSetIterable iter X.env x=pure x:=by intro _;rfl):PS X (.Assign [.Name y py] (.ListComp AG [⟨tg,iter,AE,0⟩] scope pos) B2) (sr i (vZ 1 ixs wi g tt te)):=by
 intro pins s σ H D I h;rw[exec_Assign_Name_used _ _ _ _ GA];refine WC (T5 (WC ?_));show wpAny _ X.A (do let _ <-comprehension (.ListComp AG [⟨tg,iter,AE,0⟩] scope pos) scope X.env _ (newList []) false (eval iter X.env) (some (assign (.Name y py) X.env))) _ _ s;refine WC (V6 (T8 (use:=some (assign (.Name y py) X.env)) (Q:=λ_ s'=>SP X pins D .next s') rfl hs k.clos k.kind k.names (thn (hi pins s σ H _ I h) λv s1 h1=>thn h1 λIN s2 h2=>?_)) (λ_ s' hq=>VZ (VZ hq)) λ_ _ e=>e);obtain⟨it,fp,tn,J,H2,rfl,I2,T,HA,f2,q⟩:=h2;refine nH (Q:=λx H1=>D.nx (sv σ i x) H1) (RR:=λAw C=>compPost (model X.prog X.w) X.A X.xe (some (assign (.Name y py) X.env)) (λ_ s'=>SP X pins D .next s') Aw C) k AN (ju hx) (pW hx) hg ht he I2 T HA f2 q ?_;intro L C H' s' m J' hn hC hL HZ hp hc h0 q';obtain⟨o,es,ep,ho,hd,hk,hm⟩:=id hn;have J2:Inv X (pins++[(C,o)]) σ H' s':=J'.pins_of λp Kj=>(VQ.mp Kj).elim (λz=>J'.pin p (VM _ z)) λz=>by
  have e:p=(C,o):=by simpa using z
  subst e;exact⟨ho,hC,hL,HZ,λv z=>by rw[hd]at z;cases z⟩
 have hg:PG X (.Name y py) (mG i):=xt i hN hy (.inl EI) (.inr EI);show wpAny (model X.prog X.w) X.A (assign (.Name y py) X.env (.ref L)) _ _ s';refine thn (hg _ s' σ H' (.ref L) (.ref L) D.nx J2 rfl q') λ_ s3 h3=>?_;obtain⟨σ3,H3,I3,q3⟩:=h3;have pc:=I3.pin (C,o) (VM _ (VM _ (VX.mpr rfl)));refine⟨m,⟨o,es,ep,pc.1,hd,hk,hm⟩,λJG Fy=>⟨σ3,H3,?_,q3⟩⟩;exact uE (I3.unpinned) pc.2.1 hL hp hc h0 (λb ob hb e=>Fy.extBut b ob hb e)
def cR(k:CompOkC X x N scope cl)(C:Addr)(s₀:Np)(H₀:Hp)(ex:GT):PG (y6 X ([x]++N) scope cl x C s₀ H₀ ex) (.Name x px) (mG 0) :=
 xt 0 k.nd rfl (.inr k.mine) (.inl (Uq x))
variable {AG iter:Nv}{px:Pos}{AE:Nd}{ixs:Nf}{wi:TI}{tt:Addr->Shared->Hp->List Addr->TT}{te:Addr->Shared->Hp->List Addr->TE}{pos B2 pt:Pos}{z:Str}
def li(i:Nat)(hN:X.N.Nodup)(k:CompOkC X x N scope cl)(hc:X.calm=true)(hi:PI X (.Name x px) iter wi)(ht:∀(C:Addr)(s₀:Np)(H₀:Hp)(ex:GT),PIf (y6 X ([x]++N) scope cl x C s₀ H₀ ex) AE (tt C s₀ H₀ ex))
  (he:∀(C:Addr)(s₀:Np)(H₀:Hp)(ex:GT),PE (y6 X ([x]++N) scope cl x C s₀ H₀ ex) AG (te C s₀ H₀ ex)) (hx:ixs.map (λi=>X.N[i]?)=N.map some) (hy:X.N[i]?=some z:=by rfl) (EI:X.env.scope.names.lookup z=some .local:=by rfl)
  (GA:swapsWith (.ListComp AG [⟨.Name x px,iter,AE,0⟩] scope pos) (some (.Name z pt)) B2.line X.env=pure true:=by rfl) (hs:∀x,foldedSetIterable iter X.env x=pure x:=by intro _;rfl) :
  PS X (.Assign [.Name z pt] (.ListComp AG [⟨.Name x px,iter,AE,0⟩] scope pos) B2) (sr i (vZ 1 ixs wi (mG 0) tt te)):=nu i hN k hc hi (cR k) ht he hx hy EI GA hs
end
end My
namespace My
open PySem PySem.Spec L2
open PyProof.Rows hiding St
variable{j k n:Nat}{tb:TS}{D:xX}{H:Hp}
section
variable {X:Cx}
def mQ{ns:Nj}{Af:GE}{xs:Array (Int×Tok)}(hi:IntsAre Af ns)(hx:Af.toArray=intItems xs):preSum (numAt xs) xs.size=ns.sum:=by
 have h1:numsOf Af.toArray.toList=ns:=hi.numsOf;rw[hx,nums_intItems]at h1;have h2:=preSum_eq xs xs.size;rw[h1]at h2;rw[h2]
 congr 1
 rw[<-h1];exact UM (Ud (by simp))
def dY:bootBuiltins "sum"=some (.builtin "sum"):=by decide +kernel
end
structure WF(K:Nl)(x:Str)(st:Nx)(f:Addr)(fd:N0):Prop where
 ex:∃(oc:Nq)(od:HK)(dV kV doc pm:Nq)(an:HK)(cdv ct:Nq)(osl:Nh),
  fd=W.fnOf x x (y8 st) (zN st) (zj st) dV kV doc pm an cdv ct/\K.lookup f=some ⟨oc,od,.func fd,osl⟩/\W.codeIn K cdv x=true
 kp:W.keepIn K (.ref f)=true
structure WD(K:Nl)(mg:FB)(x:Str)(st:Nx)(ps:GM)(ds:GE):Prop where
 ex:∃(f:Addr)(fd:N0),WF K x st f fd/\Binds K fd ps []/\Binds K fd ps ds/\mg x=some (.ref f)
structure Wv(P:Nn)(w:No)(K:Nl)(mg:FB)(base:Nw)(k:Nat)(x:Str)(ps:GM)(ds:GE)(sp:Sp):Prop where
 ex:∃(f:Addr)(fd:N0),FnOk P w K mg base CX0 k f fd ps sp/\Binds K fd ps []/\Binds K fd ps ds/\W.keepIn K (.ref f)=true/\mg x=some (.ref f)
section
variable {P:Nn}{w:No}{K:Nl}{mg:FB}{base:Nw}
end
section
variable {X:Cx}
end
def vM{J:It}{g:TG}{σ:St}(Pv:Nat->St->Hp->Prop)(h0:Pv 0 σ H)
  (hgo:∀i σ H,i<n->Pv i σ H->J.go i H) (BF:∀σ H,Pv n σ H->J.stop n H)
  (hs:∀i v σ H H',i<n->Pv i σ H->J.yld i H v H'->g v σ H' fun σ2 H2=>tb { D with nx:=Pv (i+1),ct:=Pv (i+1),bk:=D.nx } σ2 H2) (hd:∀σ H,Pv n σ H->D.nx σ H):sJ g tb J D σ H:=by
 refine⟨λi m σ H=>m=n-i/\i<=n/\Pv i σ H,⟨n,by simp,V5 _,h0⟩,?_⟩;rintro i m σ H ⟨rfl,hi,p⟩
 by_cases A3:i<n
 ·exact .inr ⟨hgo i σ H A3 p,Pv (i+1),fun σ' H' p'=>⟨n-(i+1),by lia,rfl,A3,p'⟩,λx H' y=>hs i x σ H H' A3 p y⟩
 ·have e:i=n:=by lia
  subst e;exact .inl ⟨BF σ H p,hd σ H p⟩
def lX{K:Nl}{a:Addr}{xs:N1}{σ:St}(Pv:Nat->St->Hp->Prop)(h0:Pv 0 σ H)(hl:∀i σ H,i<=xs.length->Pv i σ H->SqT K H a xs)
  (hs:∀(i:Nat) x σ H H',xs[i]?=some x->Pv i σ H->Same H H'->tb { D with nx:=Pv (i+1),ct:=Pv (i+1),bk:=D.nx } (sv (sv σ j (.int (i:Int))) k x) H') (hd:∀σ H,Pv xs.length σ H->D.nx σ H) :
  sJ (mG2 K j k) tb (Ite K a) D σ H :=
 vM (n:=xs.length) Pv h0 (λi σ H hi p=>⟨xs,xs[i],hl i σ H (UQ hi) p,by simp[hi]⟩) (fun σ H p=>⟨xs,hl _ σ H (VW _) p,rfl⟩) (λi v σ H H' hi p y=>by
  obtain⟨b,x,rfl,hn,rfl,hx⟩:=y;exact⟨b,_,_,rfl,SqT.of zv,hs i x σ H _ (hx xs (hl i σ H (UQ hi) p)) p (yY hn _)⟩) hd
end My
namespace My
open PySem PySem.Spec PySem.W PySem.Calls L2
open PyProof.Rows hiding St
variable{h:Nw}{C a b f i1 i2 l1 l2 tI tO z:Addr}{Q:Option Value->Shared->Prop}{xs ys:Nk}{i j k k' kk n:Nat}{P:Nn}{w:No}{F7 es:Nd}{apos cpos p pos pt:Pos}{tb:TS}{D:xX}{H:Hp}{R:It->Hp->Prop}{ta:TA}{e e1 e2 o tg:Nv}{c lo:Int}{st:Nx}{qual x:Str}{N ps:GM}{sp:Sp}{t:Str->TE}{cdv ct doc kV oc pm:Nq}{te to:TE}
section
def yK{oa ob:Obj}(ha:h.get? a=some oa)(hb:h.get? b=some ob)(hc:oa.cls≠ob.cls):a≠b:=λz=>by
 subst z;rw[ha]at hb;cases hb;exact hc rfl
section
variable {X:Cx}
def Y2:bootBuiltins "zip"=some (.type "zip"):=by decide +kernel
end
section
variable {X:Cx}
end
end
section
structure ZA(z tI tO i1 i2:Addr)(f1 f2:GT):Prop where
 tz:tI≠z
 oz:tO≠z
 az:i1≠z
 bz:i2≠z
 to:tI≠tO
 ta:tI≠i1
 tb:tI≠i2
 oa:tO≠i1
 ob:tO≠i2
 ab:i1≠i2
 g1:∀b∈f1,b≠z/\b≠tO/\b≠i2
 g2:∀b∈f2,b≠z/\b≠tO/\b≠i1
section
variable {prog:Nn}{w:No}{A:Nr}{E:Da}{s:Np}{z tI tO i1 i2:Addr}{f1 f2:GT}{n1 n2 k1 k2:Nat}{P1 P2:Nat->Value->Prop}{S1 S2:Ng}{u v:Nq}
def gy{Q:Da}(D:ZA z tI tO i1 i2 f1 f2)(D1:Draws prog w A i1 f1 n1 P1 S1)(D2:Draws prog w A i2 f2 n2 P2 S2)
  (hz:IsZip s.heap z tI tO .none) (hI:IsPair s.heap tI (.ref i1) (.ref i2)) (hO:IsPair s.heap tO u v) (h1:S1 k1 s.heap) (h2:S2 k2 s.heap) (l1:k1<n1) (l2:k2<n2)
  (hQ:∀x y h' tk,P1 k1 x->P2 k2 y->IsZip h' z tI tO (rawInt s.heap.objs.size)->IsPair h' tO x y->S1 (k1+1) h'->S2 (k2+1) h'->IsPair h' s.heap.objs.size x y ->
   (∀c o,c≠z->c≠tO->c≠i1->c≠i2->s.heap.get? c=some o->h'.get? c=some o)->Q (.ref s.heap.objs.size) { s with heap:=h',toks:=tk }) :
  wpAny (model prog w) A (Builtin.«zip.__next__» ⟨[.ref z],[]⟩) (λA9 s'=>∃v,A9 = .done (.ret v)/\Q v s') E s:=by
 refine(show wpAny _ _ (field (.ref z) 2 >>= _) _ _ _ from WC (Vo hz rfl (x:=.bool false) rfl ?_));refine(show wpAny _ _ (field (.ref z) 3 >>= _) _ _ _ from WC (Vo hz rfl (x:=.ref tI) rfl (WC (U3 hI rfl ?_))));refine(show wpAny _ _ (Builtin.SmallTypes.ownedTupleIsFree (.ref z) >>= _) _ _ _ from WC ?_);unfold Builtin.SmallTypes.ownedTupleIsFree;refine WC (Vo hz rfl (x:=.none) rfl (VZ ?_));simp only[if_true];refine WC (SO (WC (Vo hz rfl (x:=.ref tO) rfl (WC (TV hz (by simp) λg1 G7 q1=>?_)))));replace G7:IsZip g1 z tI tO .ellipsis:=G7;have KW:∀c o,c≠z->s.heap.get? c=some o->g1.get? c=some o:=λc o h e=>q1.extBut c o h e;refine WC ?_;simp only[List.zipIdx_cons,List.zipIdx_nil,List.forIn_cons,S7];refine WC (WC (wpAny_onRaise (show wpAny _ _ (Builtin.SmallTypes.nextOf (.ref i1) >>= _) _ _ _ from WC ?_)));refine D1.item k1 { s with heap:=g1 } _ _ l1 (D1.frame _ _ _ h1 λb hb o e=>KW b o (D.g1 b hb).1 e) λx g2 t2 hx Gu q2=>VZ ?_;have hO2:IsPair g2 tO u v:=q2.extBut _ _ D.oa (KW _ _ D.oz hO);refine WC (U3 hO2 rfl (WC (wpAny_updateSeq_pair hO2 λg3 Lp q3=>?_)));replace Lp:IsPair g3 tO x v:=Lp;have kp3:∀c o,c≠z->c≠tO->c≠i1->s.heap.get? c=some o->g3.get? c=some o:=λc o c1 c2 c3 e=>q3.extBut _ _ c2 (q2.extBut _ _ c3 (KW c o c1 e));refine WC (wpAny_letGo (VZ (WC (WC (wpAny_onRaise (show wpAny _ _ (Builtin.SmallTypes.nextOf (.ref i2) >>= _) _ _ _ from WC ?_))))));refine D2.item k2 { s with heap:=g3,toks:=t2 } _ _ l2 (D2.frame _ _ _ h2 λb hb o e=>kp3 b o (D.g2 b hb).1 (D.g2 b hb).2.1 (D.g2 b hb).2.2 e) λy g4 t4 hy D4 q4=>VZ ?_;have hO4:IsPair g4 tO x v:=q4.extBut _ _ D.ob Lp;refine WC (U3 hO4 rfl (WC (wpAny_updateSeq_pair hO4 λg5 hO5 q5=>?_)));replace hO5:IsPair g5 tO x y:=hO5;have kp5:∀c o,c≠z->c≠tO->c≠i1->c≠i2->s.heap.get? c=some o->g5.get? c=some o:=λc o c1 c2 c3 c4 e=>q5.extBut _ _ c2 (q4.extBut _ _ c4 (kp3 c o c1 c2 c3 e));have hz5:IsZip g5 z tI tO .ellipsis:=q5.extBut _ _ D.oz.symm (q4.extBut _ _ D.bz.symm (q3.extBut _ _ D.oz.symm (q2.extBut _ _ D.az.symm G7)));have sz5:g5.objs.size=s.heap.objs.size:=by rw[q5.1,q4.1,q3.1,q2.1,q1.1]
 have a5:S1 (k1+1) g5:=D1.frame _ _ _ Gu λb hb o e=>q5.extBut _ _ (D.g1 b hb).2.1 (q4.extBut _ _ (D.g1 b hb).2.2 (q3.extBut _ _ (D.g1 b hb).2.1 e));have b5:S2 (k2+1) g5:=D2.frame _ _ _ D4 λb hb o e=>q5.extBut _ _ (D.g2 b hb).2.1 e;refine WC (wpAny_letGo (VZ (VZ (WC (U3 hO5 rfl (WC (wpAny_newTuple ?_)))))));have zl:z<g5.objs.size:=VV hz5;refine(show wpAny _ _ (Builtin.SmallTypes.ownedTupleHandOut (.ref z) (.ref g5.objs.size) >>= _) _ _ _ from WC ?_);unfold Builtin.SmallTypes.ownedTupleHandOut;have hz6:IsZip (g5.push { cls:=.type "tuple",data:=.seq #[x,y] }) z tI tO .ellipsis:=WB _ hz5;refine WC (TV hz6 (by simp) λg7 hz7 q7=>?_);replace hz7:IsZip g7 z tI tO (rawInt g5.objs.size):=hz7;refine TV hz7 (by simp) λg8 JZ q8=>?_;replace JZ:IsZip g8 z tI tO (rawInt g5.objs.size):=JZ;have up:∀c o,c≠z->g5.get? c=some o->g8.get? c=some o:=λc o c1 e=>q8.extBut _ _ c1 (q7.extBut _ _ c1 (WB _ e));have hT8:IsPair g8 g5.objs.size x y:=q8.extBut _ _ (Uw zl) (q7.extBut _ _ (Uw zl) (VS _ rfl));rw[sz5]at JZ hT8;refine VZ ⟨_,rfl,(show Q (.ref g5.objs.size) _ from ?_)⟩;rw[sz5];exact hQ x y g8 _ hx hy JZ (up _ _ D.oz hO5) (D1.frame _ _ _ a5 λb hb o e=>up b o (D.g1 b hb).1 e) (D2.frame _ _ _ b5 λb hb o e=>up b o (D.g2 b hb).1 e) hT8 λc o c1 c2 c3 c4 e=>up c o c1 (kp5 c o c1 c2 c3 c4 e)
def dI{Q:Fin->Shared->Prop}(D:ZA z tI tO i1 i2 f1 f2)(D1:Draws prog w A i1 f1 n1 P1 S1)
  (hz:IsZip s.heap z tI tO .none) (hI:IsPair s.heap tI (.ref i1) (.ref i2)) (hO:IsPair s.heap tO u v) (h1:S1 n1 s.heap)
  (hE:∀h' e,(∀c o,c≠z->c≠i1->s.heap.get? c=some o->h'.get? c=some o)->(∃o,h'.get? e=some o/\o.cls = .type "StopIteration")->E (.ref e) { s with heap:=h' }) :
  wpAny (model prog w) A (Builtin.«zip.__next__» ⟨[.ref z],[]⟩) Q E s:=by
 refine(show wpAny _ _ (field (.ref z) 2 >>= _) _ _ _ from WC (Vo hz rfl (x:=.bool false) rfl ?_));refine(show wpAny _ _ (field (.ref z) 3 >>= _) _ _ _ from WC (Vo hz rfl (x:=.ref tI) rfl (WC (U3 hI rfl ?_))));refine(show wpAny _ _ (Builtin.SmallTypes.ownedTupleIsFree (.ref z) >>= _) _ _ _ from WC ?_);unfold Builtin.SmallTypes.ownedTupleIsFree;refine WC (Vo hz rfl (x:=.none) rfl (VZ ?_));simp only[if_true];refine WC (SO (WC (Vo hz rfl (x:=.ref tO) rfl (WC (TV hz (by simp) λg1 G7 q1=>?_)))));replace G7:IsZip g1 z tI tO .ellipsis:=G7;have KW:∀c o,c≠z->s.heap.get? c=some o->g1.get? c=some o:=λc o h e=>q1.extBut c o h e;refine WC ?_;simp only[List.zipIdx_cons,List.zipIdx_nil,List.forIn_cons,S7];refine WC (WC (wpAny_onRaise (show wpAny _ _ (Builtin.SmallTypes.nextOf (.ref i1) >>= _) _ _ _ from WC ?_)));refine D1.done { s with heap:=g1 } _ _ (D1.frame _ _ _ h1 λb hb o e=>KW b o (D.g1 b hb).1 e) λg2 e q2 he=>?_;obtain⟨oe,ho,hc⟩:=he;have Ka:IsZip g2 z tI tO .ellipsis:=q2 _ _ D.az.symm G7;have hez:e≠z:=λq=>by
  subst q;have hz2':g2.get? e=some _:=Ka;rw[hz2']at ho;cases ho;simp at hc
 refine TV (s:={ s with heap:=g2 }) Ka (by simp) λg3 _ q3=>hE g3 e (λc o c1 c2 x=>q3.extBut _ _ c1 (q2 _ _ c2 (KW c o c1 x))) ⟨oe,q3.extBut _ _ hez ho,hc⟩
def m8(D:ZA z tI tO i1 i2 f1 f2)(D1:Draws prog w A.in1 i1 f1 n1 P1 S1)(D2:Draws prog w A.in1 i2 f2 n2 P2 S2)
  (hz:IsZip s.heap z tI tO .none) (hI:IsPair s.heap tI (.ref i1) (.ref i2)) (hO:IsPair s.heap tO u v) (h1:S1 k1 s.heap) (h2:S2 k2 s.heap) (l1:k1<n1) (l2:k2<n2)
  (hQ:∀x y h' tk,P1 k1 x->P2 k2 y->IsZip h' z tI tO (rawInt s.heap.objs.size)->IsPair h' tO x y->S1 (k1+1) h'->S2 (k2+1) h'->IsPair h' s.heap.objs.size x y ->
   (∀c o,c≠z->c≠tO->c≠i1->c≠i2->s.heap.get? c=some o->h'.get? c=some o)->Q (some (.ref s.heap.objs.size)) { s with heap:=h',toks:=tk }):wpAny (model prog w) A (pyNext (.ref z)) Q E s:=by
 have hT:s.TypeIs (.ref z) "zip":=⟨_,hz,rfl⟩
 unfold pyNext;exact WC (Sw (Vb (name:=("__next__":Str)) hT Tj (Vg Tj hT F.entry_zip_next (gy D D1 D2 hz hI hO h1 h2 l1 l2 λx y h' tk p1 p2 c1 c2 c3 c4 c5 c6=>VZ (hQ x y h' tk p1 p2 c1 c2 c3 c4 c5 c6)) (F.args_zip_next_1 _))))
def jb(D:ZA z tI tO i1 i2 f1 f2)(D1:Draws prog w A.in1 i1 f1 n1 P1 S1)
  (hz:IsZip s.heap z tI tO .none) (hI:IsPair s.heap tI (.ref i1) (.ref i2)) (hO:IsPair s.heap tO u v) (h1:S1 n1 s.heap)
  (hQ:∀h',(∀c o,c≠z->c≠i1->s.heap.get? c=some o->h'.get? c=some o)->Q none { s with heap:=h' }):wpAny (model prog w) A (pyNext (.ref z)) Q E s:=by
 have hT:s.TypeIs (.ref z) "zip":=⟨_,hz,rfl⟩
 unfold pyNext;refine WC (Sw (Vb (name:=("__next__":Str)) hT Tj (Vg Tj hT F.entry_zip_next (dI D D1 hz hI hO h1 λh' e hk he=>?_) (F.args_zip_next_1 _))));obtain⟨o,ho,hc⟩:=he;exact WC (Sz (T:="StopIteration") (b:=true) ⟨o,ho,hc⟩ isSubtype_stop (VZ (hQ _ hk)))
end
def zt1(h:Nw)(a:Addr):Heap:=h.push (tm a)
def zt2(h:Nw)(a b:Addr):Heap:=(zt1 h a).push (tm b)
def zt3(h:Nw)(a b:Addr):Heap:=(zt2 h a b).push { cls:=.type "tuple",data:=.seq #[.ref h.objs.size,.ref (zt1 h a).objs.size] }
def zt4(h:Nw)(a b:Addr):Heap:=(zt3 h a b).push { cls:=.type "tuple",data:=.seq #[.none,.none] }
def zt5(h:Nw)(a b:Addr):Heap:=(zt4 h a b).push { cls:=.type "zip",data:=.fields #[.none,.bool false,.bool false,.ref (zt2 h a b).objs.size,.ref (zt3 h a b).objs.size] }
def hU(a b:Addr)(xs ys:Nk):Meets (Builtin.«zip.__new__» ⟨[.type "zip",.ref a,.ref b],[]⟩) (λ_ R s=>s.heap.IsTuple a xs/\s.heap.IsTuple b ys /\
  R (.ok (.ret (.ref (zt4 s.heap a b).objs.size))) { s with heap:=zt5 s.heap a b }) :=
 .of_wp λprog w A R s h=>by
  obtain⟨hp,g,d,tk,os⟩:=s;obtain⟨ha,hb,h⟩:=h;have E6:=sub_zip;have hA:Heap.IsTuple (Shared.heap ⟨hp,g,d,tk,os⟩) a xs:=ha;have hB:Heap.IsTuple (Shared.heap ⟨hp.push { cls:=.type "tuple_iterator",data:=.fields #[.ref a,.int 0 0] },g,d,tk,os⟩) b ys:=hb.elim λo ho=>⟨o,WB _ ho.1,ho.2⟩
  wp_walk using Us hA,Us hB
  exact⟨_,rfl,h⟩
section
variable {prog:Nn}{w:No}{A:Nr}{E:Da}{s:Np}
def iI{Q:Da}(ha:s.heap.IsTuple a xs)(hb:s.heap.IsTuple b ys)
  (h:∀h',IsZip h' (s.heap.objs.size+4) (s.heap.objs.size+2) (s.heap.objs.size+3) .none->IsPair h' (s.heap.objs.size+2) (.ref s.heap.objs.size) (.ref (s.heap.objs.size+1))->IsPair h' (s.heap.objs.size+3) .none .none ->
   h'.IsTupleIter s.heap.objs.size a 0->h'.IsTupleIter (s.heap.objs.size+1) b 0->(∀c o,s.heap.get? c=some o->h'.get? c=some o)->Q (.ref (s.heap.objs.size+4)) { s with heap:=h' }):wpAny (model prog w) A (call (.type "zip") [.ref a,.ref b]) Q E s:=by
 refine callType_new F.called_zip (by decide) (F.typeCall_zip_2 _ _) (F.newCall_zip_2 _ _) (λobj=>F.args_object_init_3 obj _ _) F.entry_zip_new (hU a b xs ys) ⟨ha,hb,?_⟩;have y1:(zt1 s.heap a).objs.size=s.heap.objs.size+1:=Vk ..;have y2:(zt2 s.heap a b).objs.size=s.heap.objs.size+2:=by unfold zt2;rw[Vk,y1]
 have y3:(zt3 s.heap a b).objs.size=s.heap.objs.size+3:=by unfold zt3;rw[Vk,y2]
 have y4:(zt4 s.heap a b).objs.size=s.heap.objs.size+4:=by unfold zt4;rw[Vk,y3]
 have p5:(zt5 s.heap a b).get? (zt4 s.heap a b).objs.size=some _:=VS _ rfl;have p4:(zt5 s.heap a b).get? (zt3 s.heap a b).objs.size=some _:=WB _ (VS _ rfl);have k3:∀c o,(zt3 s.heap a b).get? c=some o->(zt5 s.heap a b).get? c=some o:=λc o e=>WB _ (WB _ e);have p3:(zt5 s.heap a b).get? (zt2 s.heap a b).objs.size=some _:=k3 _ _ (VS _ rfl);have p2:(zt5 s.heap a b).get? (zt1 s.heap a).objs.size=some _:=k3 _ _ (WB _ (VS _ rfl));have p1:(zt5 s.heap a b).get? s.heap.objs.size=some _:=k3 _ _ (WB _ (WB _ (VS _ rfl)));show _/\_;rw[y2,y3,y4]at p5;rw[y1,y2]at p3;rw[y3]at p4;rw[y1]at p2;rw[y4];exact⟨⟨_,p5,rfl⟩,h _ p5 p3 p4 ⟨_,p1,rfl,rfl⟩ ⟨_,p2,rfl,rfl⟩ λc o x=>k3 _ _ (WB _ (WB _ (WB _ x)))⟩
end
def ZtSt(z tI tO i1 i2 l1 l2:Addr)(i:Nat)(h:Nw):Prop:=IsZip h z tI tO .none/\IsPair h tI (.ref i1) (.ref i2)/\(∃u v,IsPair h tO u v)/\h.IsTupleIter i1 l1 i/\h.IsTupleIter i2 l2 i
def ZtSt.lt(st:ZtSt z tI tO i1 i2 l1 l2 i h):∀b∈[z,tI,tO,i1,i2],b<h.objs.size:=λb hb=>by
 obtain⟨hz,hI,⟨u,v,hO⟩,⟨oa,ea,_⟩,⟨ob,eb,_⟩⟩:=st;simp only[VI,S0,or_false]at hb;rcases hb with rfl|rfl|rfl|rfl|rfl
 ·exact VV hz
 ·exact VV hI
 ·exact VV hO
 ·exact VV ea
 ·exact VV eb
def pE(t:tI≠tO)(ii:i1≠i2)(l1o:l1≠tO)(l2o:l2≠tO)(st:ZtSt z tI tO i1 i2 l1 l2 i h)(h1:h.IsTuple l1 xs)(h2:h.IsTuple l2 ys):ZA z tI tO i1 i2 [i1,l1] [i2,l2]:=by
 obtain⟨hz,hI,⟨u,v,hO⟩,⟨oa,ea,ca,_⟩,⟨ob,eb,cb,_⟩⟩:=st;obtain⟨o1,e1,c1,_⟩:=h1;obtain⟨o2,e2,c2,_⟩:=h2;have Gj:h.get? z=some _:=hz;have hI':h.get? tI=some _:=hI;have M3:h.get? tO=some _:=hO;refine⟨yK hI' Gj (by simp),yK M3 Gj (by simp),yK ea Gj (by rw[ca];simp),yK eb Gj (by rw[cb];simp),t,yK hI' ea (by rw[ca];simp),yK hI' eb (by rw[cb];simp),yK M3 ea (by rw[ca];simp),yK M3 eb (by rw[cb];simp),ii,λb hb=>?_,λb hb=>?_⟩
 ·rcases VI.mp hb with rfl|hb
  ·exact⟨yK ea Gj (by rw[ca];simp),(yK M3 ea (by rw[ca];simp)).symm,ii⟩
  ·rw[VX.mp hb];exact⟨yK e1 Gj (by rw[c1];simp),l1o,yK e1 eb (by rw[c1,cb];simp)⟩
 ·rcases VI.mp hb with rfl|hb
  ·exact⟨yK eb Gj (by rw[cb];simp),(yK M3 eb (by rw[cb];simp)).symm,ii.symm⟩
  ·rw[VX.mp hb];exact⟨yK e2 Gj (by rw[c2];simp),l2o,yK e2 ea (by rw[c2,ca];simp)⟩
def dL(K:Nl)(a b:Addr):It :=
 ⟨λi H=>∃xs ys x y,SqT K H a xs/\SqT K H b ys/\xs[i]?=some x/\ys[i]?=some y,λi H v H'=>∃p x y,v = .ref p/\H p=none/\H'=upd H p (.tup [x,y])/\(∀xs,SqT K H a xs->xs[i]?=some x)/\∀ys,SqT K H b ys->ys[i]?=some y,λi H=>∃xs ys,SqT K H a xs/\SqT K H b ys/\xs.length=i/\ys.length=i⟩
def jW{K:Nl}(l1 l2 z tI tO i1 i2:Addr)(t:tI≠tO)(ii:i1≠i2)(l1o:l1≠tO)(l2o:l2≠tO):
  sM P w K (.Tuple F7 k pos) (dL K l1 l2) [z,tI,tO,i1,i2] z (ZtSt z tI tO i1 i2 l1 l2)where
 mem:=by simp
 obj:=λi h st b hb=>by
  obtain⟨hz,hI,⟨u,v,hO⟩,⟨oa,ea,ca,da⟩,⟨ob,eb,cb,db⟩⟩:=st;simp only[VI,S0,or_false]at hb;rcases hb with rfl|rfl|rfl|rfl|rfl
  ·exact⟨_,hz,λv z=>by cases(show Data.fields _=Data.cell v from z)⟩
  ·exact⟨_,hI,λv z=>by cases(show Data.seq _ _=Data.cell v from z)⟩
  ·exact⟨_,hO,λv z=>by cases(show Data.seq _ _=Data.cell v from z)⟩
  ·exact⟨oa,ea,λv z=>by rw[da]at z;cases z⟩
  ·exact⟨ob,eb,λv z=>by rw[db]at z;cases z⟩
 keep:=λi h h' st kk=>by
  obtain⟨hz,hI,⟨u,v,hO⟩,ha,hb⟩:=st;exact⟨kk z (by simp) _ hz,kk tI (by simp) _ hI,⟨u,v,kk tO (by simp) _ hO⟩,ha.at λo e=>kk i1 (by simp) o e,hb.at λo e=>kk i2 (by simp) o e⟩
 item:=by
  intro X hP hw hK hc i pins s σ H E I hf st hg;subst hP hw hK;obtain⟨xs,ys,x,y,Ld,Lc,hx,hy⟩:=hg;obtain⟨Af,rv,p,G7⟩:=I.tuple Ld;obtain⟨JY,G6,p',Ka⟩:=I.tuple Lc;obtain⟨u,hu,ru⟩:=rv.get hx;obtain⟨v,hv,rv'⟩:=G6.get hy;have ES:s.heap.IsTuple l1 Af.toArray:=p;have J3:s.heap.IsTuple l2 JY.toArray:=p';have ap:=pE t ii l1o l2o st ES J3;have Bz:=st;obtain⟨hz,hI,⟨u0,v0,hO⟩,ha,hb⟩:=st;have Gm:i<Af.toArray.size:=by simpa using(VY.mp hu).1
  have F6:i<JY.toArray.size:=by simpa using(VY.mp hv).1
  refine m8 ap (ww (A:=X.A.in1) (I.ok.hd hc) i1 l1 (λq=>(ap.g1 l1 (by simp)).2.2 (by
   obtain⟨o1,e1,c1,_⟩:=ES;obtain⟨o2,e2,c2,_⟩:=ha;rw[q,e2]at e1;cases e1;rw[c2]at c1;simp at c1)) Af.toArray) (ww (A:=X.A.in1) (I.ok.hd hc) i2 l2 (λq=>(ap.g2 l2 (by simp)).2.2 (by
   obtain⟨o1,e1,c1,_⟩:=J3;obtain⟨o2,e2,c2,_⟩:=hb;rw[q,e2]at e1;cases e1;rw[c2]at c1;simp at c1)) JY.toArray) hz hI hO ⟨ha,ES⟩ ⟨hb,J3⟩ Gm F6 λx' y' h1 tk G8 Fn a1 a2 a3 a4 a5 hk=>?_
  have ex:x'=u:=by
   have h2:Af.toArray[i]?=some u:=by simpa using hu
   exact V3 (G8.symm.trans h2)
  have ey:y'=v:=by
   have h2:JY.toArray[i]?=some v:=by simpa using hv
   exact V3 (Fn.symm.trans h2)
  subst ex ey;refine⟨_,rfl,wpAny_letOwnedTupleGo_zip (s:={ s with heap:=h1,toks:=tk }) a1 λh2 b1 Ee=>?_⟩;have fr:H s.heap.objs.size=none:=I.hok.fresh (VW _);have I1:Inv X pins σ (upd H s.heap.objs.size (.tup [x,y])) { s with heap:=s.heap.push { cls:=.type "tuple",data:=.seq #[x',y'] },toks:=tk } :=
   I.laid (λb o e1=>WB _ e1) (VW _) ⟨by simp only[VN,Vx];rw[VP];decide,[x',y'],.cons ru (.cons rv' .nil),⟨_,VS _ rfl,rfl,_,rfl⟩⟩
  have lt5:=ZtSt.lt Bz;have Mq:∀b∈[z,tI,tO,i1,i2],xV X pins (upd H s.heap.objs.size (.tup [x,y])) b:=λb Bo=>⟨by rw[ze (VD (lt5 b Bo))];exact(hf b Bo).1,(hf b Bo).2⟩
  have I2:Inv X pins σ (upd H s.heap.objs.size (.tup [x,y])) { s with heap:=h2,toks:=tk }:=uR (s:={ s with heap:=s.heap.push { cls:=.type "tuple",data:=.seq #[x',y'] },toks:=tk }) [z,tI,tO,i1,i2] I1 Mq λb o Bo e1=>by
   have n1:b≠z:=λq=>Bo (by simp[q]);have n2:b≠tO:=λq=>Bo (by simp[q]);have n3:b≠i1:=λq=>Bo (by simp[q]);have n4:b≠i2:=λq=>Bo (by simp[q]);refine(Ee.2 b n1).trans ?_;rcases Heap.get?_push_cases e1 with⟨rfl,rfl⟩|e1
   ·exact a5
   ·exact hk b o n1 n2 n3 n4 e1
  refine⟨.ref s.heap.objs.size,upd H s.heap.objs.size (.tup [x,y]),I2,rfl,⟨_,x,y,rfl,fr,rfl,λGz Kc=>by rw[I.tuple_inj Kc Ld];exact hx,λGz Kc=>by rw[I.tuple_inj Kc Lc];exact hy⟩,⟨b1,?_,⟨x',y',?_⟩,a3.1.at λo e1=>(Ee.2 i1 ap.az).trans e1,a4.1.at λo e1=>(Ee.2 i2 ap.bz).trans e1⟩,λb Bo=>(Mq b Bo).1⟩
  ·exact(Ee.2 tI ap.tz).trans (hk tI _ ap.tz ap.to ap.ta ap.tb hI)
  ·exact(Ee.2 tO ap.oz).trans a2
 done:=by
  intro X hP hw hK hc i pins s σ H E I hf st hg;subst hP hw hK;obtain⟨xs,ys,Ld,Lc,hx,hy⟩:=hg;obtain⟨Af,rv,p,G7⟩:=I.tuple Ld;obtain⟨JY,G6,p',Ka⟩:=I.tuple Lc;have ES:s.heap.IsTuple l1 Af.toArray:=p;have ap:=pE t ii l1o l2o st ES p';obtain⟨hz,hI,⟨u0,v0,hO⟩,ha,hb⟩:=st;have hs:Af.toArray.size=i:=by rw[VO,<-rv.length];exact hx
  refine jb ap (ww (A:=X.A.in1) (I.ok.hd hc) i1 l1 (λq=>(ap.g1 l1 (by simp)).2.2 (by
   obtain⟨o1,e1,c1,_⟩:=ES;obtain⟨o2,e2,c2,_⟩:=ha;rw[q,e2]at e1;cases e1;rw[c2]at c1;simp at c1)) Af.toArray) hz hI hO ⟨by rw[hs];exact ha,ES⟩ λh1 hk=>⟨rfl,uR (t':=s.toks) [z,tI,tO,i1,i2] I hf λb o Bo e1=>hk b o (λq=>Bo (by simp[q])) (λq=>Bo (by simp[q])) e1⟩
 self:=λ_ _ _ _ _ st h=>wpAny_pyIter_zip st.1 h
def ip{K:Nl}{xs ys:N1}{σ:St}(Pv:Nat->St->Hp->Prop)(LX:xs.length=ys.length)(h0:Pv 0 σ H)(hl:∀i σ H,i<=xs.length->Pv i σ H->SqT K H a xs/\SqT K H b ys)
  (hs:∀(i:Nat) x y σ H H',xs[i]?=some x->ys[i]?=some y->Pv i σ H->Same H H'->tb { D with nx:=Pv (i+1),ct:=Pv (i+1),bk:=D.nx } (sv (sv σ j x) k y) H') (hd:∀σ H,Pv xs.length σ H->D.nx σ H) :
  sJ (mG2 K j k) tb (dL K a b) D σ H :=
 vM (n:=xs.length) Pv h0 (λi σ H hi p=>⟨xs,ys,xs[i],ys[i]'(LX▸hi),(hl i σ H (UQ hi) p).1,(hl i σ H (UQ hi) p).2,by simp[hi],by simp[LX▸hi]⟩)
  (fun σ H p=>⟨xs,ys,(hl _ σ H (VW _) p).1,(hl _ σ H (VW _) p).2,rfl,LX.symm⟩) (λi v σ H H' hi p y=>by
  obtain⟨c,x,y',rfl,hn,rfl,hx,hy⟩:=y;have hh:=hl i σ H (UQ hi) p;exact⟨c,_,_,rfl,SqT.of zv,hs i x y' σ H _ (hx xs hh.1) (hy ys hh.2) p (yY hn _)⟩) hd
end
section
section
variable {X:Cx}
def Xq(K:W.Frag)(R:It->Hp->Prop):List V->Hp->Prop:=λvs H=>match vs with
 |[.ref a,.ref b]=>((∃xs,SqT K H a xs)/\∃ys,SqT K H b ys)/\R (dL K a b) H
 |_=>False
theorem cJ{K:Nl}:Xq K R [.ref a,.ref b] H=(((∃xs,SqT K H a xs)/\∃ys,SqT K H b ys)/\R (dL K a b) H):=rfl
def iZt(K:Nl)(ta:TA):TI:=fun σ H R=>ta σ H (Xq K R)
def ZU{a b:Expr}(hg:Gl X "zip")(hm:X.mg "zip"=none)(ha:PA X [a,b] ta)(hs:starEach [a,b] X.env=[(false,eval a X.env),(false,eval b X.env)]:=by rfl)
  (Ee:starEach [b] X.env=[(false,eval b X.env)]:=by rfl):PI X (.Tuple F7 kk pt) (.Call (.Name "zip" p) [a,b] [] pos) (iZt X.K ta):=by
 intro pins s σ H R I h;refine Call_ (wc I hg hm Y2 (UE (thn (ha pos pins s σ H _ I h) λus s1 ⟨vs,H1,I1,r1,q1⟩=>?_) (by rw[hs,Ee]) (by rw[Ee];rfl)))
 match vs,q1 with
 |[.ref a,.ref b],q1 =>
  obtain⟨⟨⟨xs,Ld⟩,⟨ys,Lc⟩⟩,q⟩:=(show((∃xs,SqT X.K H1 a xs)/\∃ys,SqT X.K H1 b ys)/\R (dL X.K a b) H1 from q1)
  obtain⟨u,w',rfl,ru,G6⟩:=tw r1;cases ru;cases G6;obtain⟨Af,rv,p1,G7⟩:=I1.tuple Ld;obtain⟨JY,rv2,p2,Ka⟩:=I1.tuple Lc;have la:a<s1.heap.objs.size:=by obtain⟨o,e,_⟩:=p1;exact VV e
  have lb:b<s1.heap.objs.size:=by obtain⟨o,e,_⟩:=p2;exact VV e
  refine iI (show s1.heap.IsTuple a Af.toArray from p1) (show s1.heap.IsTuple b JY.toArray from p2) λh' hz hI hO ha hb hk=>?_;refine wpAny_pyIter_zip (s:={ s1 with heap:=h' }) hz ?_;have I2:Inv X pins σ H1 { s1 with heap:=h' }:=I1.kept (t':=s1.toks) hk;refine⟨_,[s1.heap.objs.size+4,s1.heap.objs.size+2,s1.heap.objs.size+3,s1.heap.objs.size,s1.heap.objs.size+1],_,_,H1,rfl,I2,jW a b _ _ _ _ _ (λq=>absurd (Nat.add_left_cancel q) (by decide)) (λq=>absurd q (VD (UI _))) (VD (V8 la (Tc _ _))) (VD (V8 lb (Tc _ _))),⟨hz,hI,⟨_,_,hO⟩,ha,hb⟩,λc hc=>?_,q⟩;have IW:s1.heap.objs.size<=c:=by
   simp only[VI,S0,or_false]at hc;rcases hc with rfl|rfl|rfl|rfl|rfl
   ·exact Tc _ _
   ·exact Tc _ _
   ·exact Tc _ _
   ·exact VW _
   ·exact UG _
  exact I1.fpOk IW (I1.hok.fresh IW)
end
def dJ(lo st:Int)(n:Nat):It:=⟨λi _=>i<n,λi H x H'=>H'=H/\x = .int (lo+i*st),λi _=>n<=i⟩
def o5{K:Nl}(it:Addr)(lo c:Int)(n:Nat):sM P w K tg (dJ lo c n) [it] it (λi h=>IsRangeIter h it (lo+(i:Nat)*c) ((n:Int)-(i:Nat)) c)where
 mem:=by simp
 obj:=λi h st b hb=>by
  have e:b=it:=by simpa using hb
  subst e;exact⟨_,st,λv z=>by cases(show Data.fields _=Data.cell v from z)⟩
 keep:=λi h h' st k=>k it (by simp) _ st
 item:=by
  intro X hP hw hK hc i pins s σ H E I hf st hg;subst hP hw hK;obtain⟨q0,q1,q2,q3,q4,q5⟩:=hf it (by simp);refine(Walks.range (prog:=X.prog) (w:=X.w) (I.ok.hd hc) it lo c n).item i s _ _ hg st λv h' tk hv Bz kk=>?_;obtain⟨t,rfl⟩:=hv;have I1:Inv X pins σ H { s with heap:=h',toks:=tk }:=I.turned (λb o hb e=>kk b o (by simpa using hb) e) q0 q1 q3 q4 q5;exact⟨_,rfl,sd (s:={ s with heap:=h',toks:=tk }) (n:="range_iterator") Bz rfl rfl (by decide) ⟨.int (lo+i*c),H,I1,⟨t,rfl⟩,⟨rfl,rfl⟩,Bz,λb hb=>(hf b hb).1⟩⟩
 done:=by
  intro X hP hw hK hc i pins s σ H E I hf st hg;subst hP hw hK;obtain⟨q0,q1,q2,q3,q4,q5⟩:=hf it (by simp);exact wpAny_pyNext_range_end (I.ok.hd hc) st (by have:n<=i:=hg;lia) λh' eb=>⟨rfl,I.turned (t':=s.toks) (λb o hb e=>eb b o hb e) q0 q1 q3 q4 q5⟩
 self:=λ_ _ _ _ _ st h=>wpAny_pyIter_rangeiter st h
def aI{a b:Int}(ha:0<=a)(Jc:a<=100000)(hb:0<=b)(Bo:b<=100000)(hc:1<=c)(Gr:c<=100000):Builtin.Range.small a b c=true:=by
 have h1:=rangeSize_toNat a b c;have h2:=rangeSize_toNat_le a b c;have h3:Builtin.Range.rangeSize a b c*c<=200000*100000:=by
  have:Builtin.Range.rangeSize a b c<=200000:=by lia
  exact Int.mul_le_mul this Gr (by lia) (by decide)
 have h4:0<=Builtin.Range.rangeSize a b c*c:=Int.mul_nonneg (by lia) (by lia);have ff:∀x:Int,-(2 ^ 63)<=x->x<2 ^ 63->Builtin.Range.rangeFitsLong x=true:=λx a b=>by
  unfold Builtin.Range.rangeFitsLong;rw[VT a,VT b]
  rfl
 unfold Builtin.Range.small;generalize Builtin.Range.rangeSize a b c=n at h1 h2 h3 h4 ⊢;rw[ff a (by lia) (by lia),ff b (by lia) (by lia),ff c (by lia) (by lia),ff n (by lia) (by lia),VB (by lia),ff (b+(c-1)) (by lia) (by lia)];simp
def YS{a b:Int}(hc:1<=c)(h:i<(Builtin.Range.rangeSize a b c).toNat):a+i*c<b:=by
 unfold Builtin.Range.rangeSize at h;rw[VB (by lia)]at h
 by_cases EU:a<b
 ·rw[VB EU]at h;have h1:(i:Int)<=(b-a-1) / c:=by lia
  have h2:=(Int.le_ediv_iff_mul_le (by lia)).mp h1;lia
 ·rw[VF EU]at h;simp at h
section
variable {X:Cx}
def Xp(R:It->Hp->Prop):List V->Hp->Prop:=λvs H=>match vs with
 |[.int i,.int j,.int c]=>(0<=i/\i<=100000/\0<=j/\j<=100000/\1<=c/\c<=100000)/\R (dJ i c (Builtin.Range.rangeSize i j c).toNat) H
 |_=>False
theorem cI{i j:Int}:Xp R [.int i,.int j,.int c] H=((0<=i/\i<=100000/\0<=j/\j<=100000/\1<=c/\c<=100000)/\R (dJ i c (Builtin.Range.rangeSize i j c).toNat) H):=rfl
def iR3(ta:TA):TI:=fun σ H R=>ta σ H (Xp R)
def eW{a b c:Expr}(hg:Gl X "range")(hm:X.mg "range"=none)(ha:PA X [a,b,c] ta)(hs:starEach [a,b,c] X.env=[(false,eval a X.env),(false,eval b X.env),(false,eval c X.env)]:=by rfl)
  (Ee:starEach [b,c] X.env=[(false,eval b X.env),(false,eval c X.env)]:=by rfl):PI X tg (.Call (.Name "range" p) [a,b,c] [] pos) (iR3 ta):=by
 intro pins s σ H R I h;refine Call_ (wc I hg hm boot_range (UE (thn (ha pos pins s σ H _ I h) λus s1 ⟨vs,H1,I1,r1,q1⟩=>?_) (by rw[hs,Ee]) (by rw[Ee];rfl)))
 match vs,q1 with
 |[.int i,.int j,.int c],q1 =>
  obtain⟨⟨a1,a2,a3,a4,a5,a6⟩,q⟩:=(show(0<=i/\i<=100000/\0<=j/\j<=100000/\1<=c/\c<=100000)/\R (dJ i c (Builtin.Range.rangeSize i j c).toNat) H1 from q1)
  cases r1 with
  |cons ru r1 =>
  obtain⟨u2,u3,rfl,r2,r3⟩:=tw r1;obtain⟨t,rfl⟩:=ru;obtain⟨t',rfl⟩:=r2;obtain⟨t'',rfl⟩:=r3;refine call_range_3 (by lia) ?_ (.inl (PyProof.noPylong_small (by lia)));refine wpAny_pyIter_range (IsRange.new ..) (aI a1 a2 a3 a4 a5 a6) ?_;have I2:Inv X pins σ H1 { s1 with heap:=s1.heap.push { cls:=.type "range",data:=.fields #[.int i t,.int j t',.int c t''] },toks:=s1.toks }:=I1.kept λb o e=>WB _ e;refine⟨_,[(s1.heap.push { cls:=.type "range",data:=.fields #[.int i t,.int j t',.int c t''] }).objs.size],_,_,H1,rfl,I2.kept (t':=s1.toks) λb o e=>WB _ e,o5 _ i c (Builtin.Range.rangeSize i j c).toNat,?_,λb hb=>?_,q⟩
  ·have e1:i+((0:Nat):Int)*c=i:=by simp
   have e2:(((Builtin.Range.rangeSize i j c).toNat:Nat):Int)-((0:Nat):Int)=Builtin.Range.rangeSize i j c:=by rw[<-rangeSize_toNat];simp
   show IsRangeIter _ _ (i+((0:Nat):Int)*c) ((((Builtin.Range.rangeSize i j c).toNat:Nat):Int)-((0:Nat):Int)) c;rw[e1,e2];exact VS _ rfl
  ·have e:b=(s1.heap.push { cls:=.type "range",data:=.fields #[.int i t,.int j t',.int c t''] }).objs.size:=by simpa using hb
   subst e;exact I2.fpOk (VW _) (I2.hok.fresh (VW _))
end
def np{st:Int}{g:TG}{σ:St}(Pv:Nat->St->Hp->Prop)(h0:Pv 0 σ H)
  (hs:∀i σ H,i<n->Pv i σ H->g (.int (lo+(i:Int)*st)) σ H fun σ2 H2=>tb { D with nx:=Pv (i+1),ct:=Pv (i+1),bk:=D.nx } σ2 H2) (hd:∀σ H,Pv n σ H->D.nx σ H):sJ g tb (dJ lo st n) D σ H :=
 vM Pv h0 (λi _ _ hi _=>hi) (λ_ _ _=>VW _) (λi v σ H H' hi p y=>by
  obtain⟨rfl,rfl⟩:=y;exact hs i σ _ hi p) hd
end
section
structure Mk0(K:Nl)(C:Addr):Prop where
 makes:W.makesIn K C=true
 init:W.findIn K (.ref C) "__init__"=some (some (.builtin "object.__init__"))
 kp:W.keepIn K (.ref C)=true
section
variable {X:Cx}
end
structure DefM(K:Nl)(C:Addr)(x qual:Str)(st:Nx)(ps:GM):Prop where
 ex:∃(f:Addr)(fd:N0),Fun K x qual st f fd/\(∀us:List Value,us.length=ps.length->bindArgs fd ⟨us,[]⟩=pure (ps.zip us))/\iA K C x f/\Cls K C
structure vz(P:Nn)(w:No)(K:Nl)(mg:FB)(base:Nw)(k:Nat)(C:Addr)(x:Str)(ps:GM)(sp:Sp):Prop where
 ex:∃(f:Addr)(fd:N0),FnOk P w K mg base CX0 k f fd ps sp/\Binds K fd ps []/\iA K C x f/\Cls K C
section
variable {P:Nn}{w:No}{K:Nl}{mg:FB}{base:Nw}
def DefM.callee(F:DefM K C x qual st ps)(S:yl N ps (zj st))(len:∀vs H Q E,sp vs H Q E->vs.length=ps.length)
  (A7:∀(f:Addr)(cdv:Nq)(A:Nr)(outer:List Env)(s:Np)(H:Hp)(vs:N1)(Q:VK)(E:XK),Room k (A.deeper (envOfC qual (zj st) s.heap.objs.size f cdv))->N.Nodup->sp vs H Q E ->
   ∃σ t,start N vs=σ/\PSs (xu CX0 P w K mg base N qual (zj st) f cdv A outer s H E).nox (zN st) t/\t { nx:=λ_ H'=>Q .non H',rt:=Q } σ H):vz P w K mg base (k+1) C x ps sp:=by
 obtain⟨f,fd,F,b,hm,hc⟩:=F.ex;refine⟨f,fd,F.ok S len λcdv A outer s H vs Q E hr h=>?_,.all b,hm,hc⟩;obtain⟨σ,t,e,ht,q⟩:=A7 f cdv A outer s H vs Q E hr S.nd h;exact⟨t,ht,by rw[e];exact q⟩
def sw{X:Cx}{ta:TE}{t:TA}{pl:Sem Bool}(C':vz X.prog X.w X.K X.mg X.base k C x ps sp)(hr:Room k' X.A)(hk:k<=k')(ho:PE X o ta)(ha:PA X (e::es) t)
  (BF:starEach (e::es) X.env=(false,eval e X.env)::starEach es X.env:=by rfl) (AZ:(backTo pos (starEach es X.env)).any (·.1)=false:=by rfl)
  (ht:eval (.Call (.Attribute o x apos) (e::es) [] pos) X.env=(do
   let ov <-eval o X.env;standAt apos.atName
   let(f,first) <-holding [ov] (getMethod ov x pl);callWith pos f first (backTo pos (starEach (e::es) X.env)) (backToKw pos (keywordEach [] X.env))):=by rfl) :
  PE X (.Call (.Attribute o x apos) (e::es) [] pos) (re C x sp [] E0 ta t):=by
 obtain⟨f,fd,F,b,hm,hc⟩:=C'.ex;exact kJ (pl:=pl) ho hc hm F (hr.mono hk) b .nil fY ha BF AZ ht
end
def yh(st:Stmt)(j:Nat):Stmt:=match st with
 | .ClassDef _ _ _ b _ _ _ _ _ _ _=>b.getD j (.Pass ⟨0,0,0,0⟩)
 |_=>.Pass ⟨0,0,0,0⟩
def defM_mk{K:Nl}{od an:HK}{osl:Nh}
  (a:W.findIn K (.ref C) x=some (some (.ref f))) (l:K.lookup f=some ⟨oc,od,.func (W.fnOf x qual (y8 st) (zN st) (zj st) .none kV doc pm an cdv ct),osl⟩)
  (c:W.codeIn K cdv qual=true) (k:W.keepIn K (.ref f)=true) (fn:W.isFn K (.ref f)=true) (cl:Cls K C)
  (hb:∀(kV doc pm:Nq)(an:HK)(cdv ct:Nq)(us:GE),us.length=ps.length->bindArgs (W.fnOf x qual (y8 st) (zN st) (zj st) .none kV doc pm an cdv ct) ⟨us,[]⟩=pure (ps.zip us)):DefM K C x qual st ps :=
 ⟨f,_,pS l c k,hb kV doc pm an cdv ct,⟨a,fn,k⟩,cl⟩
end
section
def lF:bootBuiltins "str"=some (.type "str"):=by decide +kernel
section
variable {X:Cx}
def wW(k:Str->Hp->Prop):V->Hp->Prop:=λx H=>match x with
 | .str c=>k c H
 |_=>False
theorem fU{k:Str->Hp->Prop}{c:Str}:wW k (.str c) H=k c H:=rfl
def PF(X:Cx)(es:Nd)(t:Str->TE):Prop:=∀(out:Str)(pins:KB)(s:Np)(σ:St)(H:Hp)(Q:VK),Inv X pins σ H s->t out σ H Q->wpAny (model X.prog X.w) X.A (joinParts out (evalEach es X.env)) (EP X pins σ Q) X.xe s
def tF0:Str->TE:=λout _ H Q=>out.length<=sizeLine/\Q (.str out) H
def tFC(te:TE)(t:Str->TE):Str->TE:=λout σ H Q=>te σ H (wW λy H1=>(out++y).length<=sizeLine/\t (out++y) σ H1 Q)
def tFv(te:TE):TE:=fun σ H Q=>te σ H (wW λy H1=>y.length<=sizeLine/\Q (.str y) H1)
def mM:PF X [] tF0:=λout pins s σ H Q I h=>joinParts_nil ⟨.str out,H,I.tok _,⟨_,rfl⟩,h.2⟩ h.1
def wk(ha:PE X e te)(hr:PF X es t)(hs:evalEach (e::es) X.env=eval e X.env::evalEach es X.env:=by rfl):PF X (e::es) (tFC te t):=by
 intro out pins s σ H Q I h;rw[hs];refine joinParts_cons (thn (ha pins s σ H _ I h) λv s1 ⟨x,H1,I1,r1,q1⟩=>?_);cases x with
 |str y =>
  obtain⟨t1,rfl⟩:=r1;obtain⟨h2,h3⟩:=(show(out++y).length<=sizeLine/\t (out++y) σ H1 Q from q1)
  exact⟨h2,hr _ pins s1 σ H1 Q I1 h3⟩
 |_=>exact(show False from q1).elim
def fZ(ha:PE X e te):PE X (.FormattedValue e (-1) none pos) (tFv te):=by
 intro pins s σ H Q I h;refine FormattedValue_plain (thn (ha pins s σ H _ I h) λv s1 ⟨x,H1,I1,r1,q1⟩=>?_);cases x with
 |str y =>
  obtain⟨t1,rfl⟩:=r1;obtain⟨h2,h3⟩:=(show y.length<=sizeLine/\Q (.str y) H1 from q1)
  exact formatField_str (λt' tk=>⟨.str y,H1,I1.tok _,⟨_,rfl⟩,h3⟩) h2
 |_=>exact(show False from q1).elim
def lh(h:PF X (e1::e2::es) t):PE X (.JoinedStr (e1::e2::es) pos) (t Str.empty):=λpins s σ H Q I q=>JoinedStr_many (h _ pins s σ H Q I q)
theorem ou:∀{ys:List Str}{us:List Value},Vals (ys.map V.str) us->StrsAre us ys
 |[],_,h=>by
  cases h;exact .nil
 |y::ys,_,h=>by
  cases h with
  |cons r rr =>
   obtain⟨t,rfl⟩:=r;exact .cons y t (ou rr)
def tJn(K:Nl)(to:TE)(t:TA):TE:=fun σ H Q=>to σ H (wW λx H1=>t σ H1 (on1 (oH λp H2=>∃ys:List Str,SqL K H2 p (ys.map V.str)/\(ys.map (·.length)).sum+ys.length*x.length<=16777216/\Q (.str (Txt.join x ys)) H2)))
theorem uw{t:TA}(ho:PE X o to)(ha:PA X [e] t)
  (Cd:attributeBase o "join" X.env (eval o X.env)=eval o X.env:=by rfl)
  (CP:((backTo cpos (starEach [e] X.env)).all (λx=>!x.1)&&(backToKw cpos (keywordEach [] X.env)).all (λx=>x.1.isSome)
  &&decide ([e].length+([]:List Keyword).length+(if([]:List Keyword).isEmpty then 0 else 1)<30))=true:=by rfl)
  (Cc:(apos.endLine==cpos.line)=true:=by rfl) (hs:starEach [e] X.env=[(false,eval e X.env)]:=by rfl) :
  PE X (.Call (.Attribute o "join" apos) [e] [] cpos) (tJn X.K to t):=by
 intro pins s σ H Q I h;refine Uf Cd CP Cc rfl (thn (ho pins s σ H _ I h) λv s1 ⟨x,H1,I1,r1,q1⟩=>?_);cases x with
 |str x =>
  obtain⟨t1,rfl⟩:=r1;refine⟨"str","str.join",Tv,F.slot_str_join,F.type_str_join,Tr _ _ _,(λ_ e=>nomatch e),?_⟩;have hA:=ha cpos pins s1 σ H1 _ I1 q1;rw[hs]at hA ⊢;refine Ue rfl (TH ?_);refine thn hA λus s2 ⟨vs,H2,I2,r2,q2⟩=>?_;rcases vs with _|⟨y,_|⟨z,rr⟩⟩
  ·exact(show False from q2).elim
  ·cases y with
   |ref p =>
    obtain⟨ys,hq,hok,q⟩:=(show∃ys:List Str,SqL X.K H2 p (ys.map V.str)/\(ys.map (·.length)).sum+ys.length*x.length<=16777216/\Q (.str (Txt.join x ys)) H2 from q2)
    obtain⟨Af,rv,pl,_⟩:=I2.list hq;obtain⟨u,rfl,ru⟩:=xM r2;cases ru;exact join_list pl.isList (by simpa using ou rv) hok λt' k=>⟨.str _,H2,I2.tok _,⟨_,rfl⟩,q⟩
   |_=>exact(show False from q2).elim
  ·exact(show False from q2).elim
 |_=>exact(show False from q1).elim
def eL:List V->Hp->VK->Prop:=λxs H Q=>match xs with
 |[.bl k]=>Q (.int (if k=true then 1 else 0)) H
 |_=>False
theorem Z5{k:Bool}{Q:VK}:eL [.bl k] H Q=Q (.int (if k=true then 1 else 0)) H:=rfl
def uK:xo X (.type "int") eL:=by
 intro pins s σ H xs us Q I r h
 match xs,h with
 |[.bl k],h=>exact iF pins s σ H _ us Q I r (.inr ⟨k,rfl,h⟩)
end
theorem yZ(x y:Str):(x++y).length=x.length+y.length:=by
 show(x.cps++y.cps).size=_;exact S9
def Say.text:Say->Str
 | .letter x=>x
 | .neg s=>("not ":Str)++s.text
 | .bin .con s t=>("(":Str)++s.text++(" ":Str)++("and":Str)++(" ":Str)++t.text++(")":Str)
 | .bin .dis s t=>("(":Str)++s.text++(" ":Str)++("or":Str)++(" ":Str)++t.text++(")":Str)
 | .bin .imp s t=>("(if ":Str)++s.text++(" then ":Str)++t.text++(")":Str)
theorem gM:("not ":Str).length=4:=by decide +kernel
theorem oZ:("(":Str).length=1:=by decide +kernel
theorem rP:(")":Str).length=1:=by decide +kernel
theorem oY:(" ":Str).length=1:=by decide +kernel
theorem qI:("and":Str).length=3:=by decide +kernel
theorem kW:("or":Str).length=2:=by decide +kernel
theorem kU:("(if ":Str).length=4:=by decide +kernel
theorem uO:(" then ":Str).length=6:=by decide +kernel
theorem yc:∀s:Say,(∀x∈s.letters,Nm x)->s.text.length<=40*s.pieces
 | .letter x,h=>by
  have:=(h x (VX.mpr rfl)).1;simp only[Say.text,Say.pieces];lia
 | .neg s,h=>by
  have:=yc s h;simp only[Say.text,Say.pieces,yZ,gM];lia
 | .bin .con s t,h=>by
  have h1:=yc s λx hx=>h x (VQ.mpr (.inl hx));have h2:=yc t λx hx=>h x (VQ.mpr (.inr hx));simp only[Say.text,Say.pieces,yZ,oZ,rP,oY,qI];lia
 | .bin .dis s t,h=>by
  have h1:=yc s λx hx=>h x (VQ.mpr (.inl hx));have h2:=yc t λx hx=>h x (VQ.mpr (.inr hx));simp only[Say.text,Say.pieces,yZ,oZ,rP,oY,kW];lia
 | .bin .imp s t,h=>by
  have h1:=yc s λx hx=>h x (VQ.mpr (.inl hx));have h2:=yc t λx hx=>h x (VQ.mpr (.inr hx));simp only[Say.text,Say.pieces,yZ,kU,rP,uO];lia
def xS:Say->PyData
 | .letter x=>.tuple [.str ("letter":Str),.str x]
 | .neg s=>.tuple [.str ("not":Str),xS s]
 | .bin o s t=>.tuple [.str o.word,xS s,xS t]
theorem vI{K:W.Frag}{H:Hp}:∀{s:Say}{v:V},SayAt K H v s->Has K H v (xS s)
 | .letter x,v,⟨a,e,h⟩=>by
  subst e;unfold xS Has;exact⟨a,_,rfl,h,qo K H [_,_]⟩
 | .neg s,v,⟨a,u,e,h,h1⟩=>by
  subst e;have i1:=vI h1;unfold xS Has;refine⟨a,_,rfl,h,?_⟩;unfold HasL;refine⟨_,_,rfl,by unfold Has;rfl,?_⟩;unfold HasL;refine⟨_,_,rfl,i1,?_⟩;simp[HasL]
 | .bin o s t,v,⟨a,u,u',e,h,h1,h2⟩=>by
  subst e;have i1:=vI h1;have i2:=vI h2;unfold xS Has;refine⟨a,_,rfl,h,?_⟩;unfold HasL;refine⟨_,_,rfl,by unfold Has;rfl,?_⟩;unfold HasL;refine⟨_,_,rfl,i1,?_⟩;unfold HasL;refine⟨_,_,rfl,i2,?_⟩;simp[HasL]
theorem i8:PyData.strOk ("letter":Str)=true:=by decide +kernel
theorem ZY:PyData.strOk ("not":Str)=true:=by decide +kernel
theorem cG:∀o:Op2,PyData.strOk o.word=true
 | .con=>by show PyData.strOk ("and":Str)=true;decide +kernel
 | .dis=>by show PyData.strOk ("or":Str)=true;decide +kernel
 | .imp=>by show PyData.strOk ("if":Str)=true;decide +kernel
theorem vL:∀s:Say,(∀x∈s.letters,Nm x)->PyData.canLay0 (xS s)=true/\PyData.depth (xS s)<=s.pieces
 | .letter x,h=>by
  have:=(h x (VX.mpr rfl)).2;constructor
  ·simp[xS,PyData.canLay0,PyData.canLayAll0,this,i8]
  ·simp[xS,PyData.depth,PyData.depthAll,Say.pieces]
 | .neg s,h=>by
  obtain⟨h1,h2⟩:=vL s h;constructor
  ·simp[xS,PyData.canLay0,PyData.canLayAll0,h1,ZY]
  ·simp[xS,PyData.depth,PyData.depthAll,Say.pieces,h2]
 | .bin o s t,h=>by
  obtain⟨h1,h2⟩:=vL s λx hx=>h x (VQ.mpr (.inl hx));obtain⟨h3,h4⟩:=vL t λx hx=>h x (VQ.mpr (.inr hx));constructor
  ·simp[xS,PyData.canLay0,PyData.canLayAll0,h1,h3,cG]
  ·simp[xS,PyData.depth,PyData.depthAll,Say.pieces];lia
theorem qm{K:W.Frag}{H:Hp}:∀{us:List V}{ts:List Say},SaysAt K H us ts->HasL K H us (ts.map xS)
 |[],[],_=>by simp[HasL]
 |u::us,t::ts,h=>by
  have ih:=qm h.2;rw[List.map_cons];unfold HasL;exact⟨_,_,rfl,vI h.1,ih⟩
theorem nh:∀ts:List Say,(∀t∈ts,t.pieces<=40/\∀x∈t.letters,Nm x)->PyData.canLayAll0 (ts.map xS)=true/\PyData.depthAll (ts.map xS)<=40
 |[],_=>by simp[PyData.canLayAll0,PyData.depthAll]
 |t::ts,h=>by
  obtain⟨h1,h2⟩:=nh ts λu hu=>h u (VJ _ hu);have ht:=h t VE;obtain⟨a1,a2⟩:=vL t ht.2;rw[List.map_cons];refine⟨?_,?_⟩
  ·rw[PyData.canLayAll0,h1,Bool.and_true,a1]
  ·rw[PyData.depthAll];lia
end
end My
namespace My
open PySem
variable{us:GE}
def len1(h:us.length=1):∃a,us=[a]:=by
 cases us with
 |nil=>cases h
 |cons a us=>exact⟨a,by rw[UC.mp (Nat.succ.inj h)]⟩
def len2(h:us.length=2):∃a b,us=[a,b]:=by
 cases us with
 |nil=>cases h
 |cons a us=>obtain⟨b,e⟩:=len1 (Nat.succ.inj h);exact⟨a,b,by rw[e]⟩
def len3(h:us.length=3):∃a b c,us=[a,b,c]:=by
 cases us with
 |nil=>cases h
 |cons a us=>obtain⟨b,c,e⟩:=len2 (Nat.succ.inj h);exact⟨a,b,c,by rw[e]⟩
def len4(h:us.length=4):∃a b c d,us=[a,b,c,d]:=by
 cases us with
 |nil=>cases h
 |cons a us=>obtain⟨b,c,d,e⟩:=len3 (Nat.succ.inj h);exact⟨a,b,c,d,by rw[e]⟩
end My
namespace My
open PySem PySem.Spec PySem.W PySem.Calls L2
open PyProof.Rows hiding St
variable{oe ox:Obj}{vs:Nk}{IY cdv ct cv dV doc kV oc pm u v:Nq}{Ii Jb ab hdct n:Bool}{Q:Unit->Shared->Prop}{fl old:Ny}{C J T a f fI:Addr}{K:Nl}{base h h' h1 h2:Nw}{od:Option Obj}{name nm q qual x:Str}{cd:ClassData}{bm bs ds rest sub:GE}{N ps sn:GM}{col:Option Bool}{an dd dx:HK}{k0 k1 k2 k3 k5:Option Value}{s:Np}{mA mg:FB}{i k k' t':Nat}{P:Nn}{w:No}{So st:Nx}{sp:Sp}{osl:Nh}{X:Cx}{e:Nv}{es:Nd}{t:TA}{p pos:Pos}{te:TE}{H:Hp}{pins:KB}{M:Model}
section
def Fly(h:Heap)(a C:Addr)(dx:Option Addr)(fl:Option (Addr×Value)):Prop :=
 ∃oe vs,h.get? a=some oe/\oe.cls = .ref C/\oe.dict=dx/\oe.data = .fields vs/\vs[2]?=some .none/\match fl with
  |none=>vs[1]?=some .none
  |some (T,v)=>vs[1]?=some (.ref T)/\T≠a/\∃oT ts,h.get? T=some oT/\oT.data = .fields ts/\ts[3]?=some v
structure dO(fs:GT)(a:Addr)(old:Ny)(h h':Nw):Prop where
 keep:∀b o,h.get? b=some o->b∉fs->b≠a->(∀T v,old=some (T,v)->b≠T)->h'.get? b=some o
 slot:∀b o,h.get? b=some o->b∈fs->∃sl,h'.get? b=some { o with slots:=sl }
 there:∀b o,h.get? b=some o->∃o',h'.get? b=some o'
section
variable {M:Model}{A:Nr}{E:Da}{s:Np}{base:Nw}{env:Env}{outer:List Env}{L a C:Addr}{dx:HK}
def sx(o:Obj)(f:Array Value->Array Value):(o.mapFields f).dict=o.dict:=by
 obtain⟨c,d,dt,sl⟩:=o;cases dt<;>rfl
def oA(Kq:A.frames=some (env::outer))(hl:s.heap.FunFrames base (env::outer))(hf:env.frame=some L)
  (he:s.heap.get? a=some oe) (hc:oe.cls = .ref C) (DW:oe.dict=dx) (hd:oe.data = .fields vs) (h2:vs[2]?=some .none) (hsz:1<vs.size)
  (h:∀h' T,s.heap.objs.size<=T->dO (frs (env::outer)) a none s.heap h'->Fly h' a C dx (some (T,rawInt L))->Q () { s with heap:=h' }) :
  wpAny M A (do let x <-frameOf env;let pl <-entryPlaceOf L Jb;let b <-EntryCells.newEntry IY x .none (rawInt L) .none pl;setField (.ref a) 1 b) Q E s:=by
 have Mr:a∉(env::outer).filterMap (·.frame):=λhm=>by
  obtain⟨_,o,ho,Kn⟩:=hl.mem hm;rw[he]at ho;injection ho with ho;subst ho;exact Kn vs hd
 refine WC (wpAny_frameOf_fun Kq hl hf λh₁ Sj=>?_);refine WC (wpAny_entryPlaceOf λpl AZ=>?_);unfold EntryCells.newEntry newFields;refine WC (Vq ?_ (AZ.sizeOk5 _ _ _ _ _));have Sn:h₁.get? a=some oe:=(Sj.2.1 a Mr).trans he;have Sa:=WB (h:=h₁) { cls:=.type "traceback",dict:=none,data:=.fields ([IY,.ref L,.none,rawInt L,.none]++(if pl.isEmpty then List.replicate 6 Value.none else pl)).toArray } Sn;refine Tx Sa hd hsz ?_;have IG:h₁.objs.size≠a:=Uw (VV Sn);have RZ:=U0 hd (·.setIfInBounds 1 (Value.ref h₁.objs.size));have RY:=Vn (Obj.mapFields (·.setIfInBounds 1 (Value.ref h₁.objs.size))) Sa (TR RZ);have RO:=(V0 (h₁.push { cls:=.type "traceback",dict:=none,data:=.fields ([IY,.ref L,.none,rawInt L,.none]++(if pl.isEmpty then List.replicate 6 Value.none else pl)).toArray })
  (Obj.mapFields (·.setIfInBounds 1 (Value.ref h₁.objs.size))) (U6 IG)).trans (VS h₁ rfl)
 have keep:∀b o,b≠a->h₁.get? b=some o ->
   ((h₁.push { cls:=.type "traceback",dict:=none,data:=.fields ([IY,.ref L,.none,rawInt L,.none]++(if pl.isEmpty then List.replicate 6 Value.none else pl)).toArray }).update a (Obj.mapFields (·.setIfInBounds 1 (Value.ref h₁.objs.size)))).get? b=some o:=λb o Hg hb=>by
  rw[V0 _ _ (U6 Hg)];exact WB _ hb
 refine h _ h₁.objs.size (by rw[Sj.1];exact VW _) ⟨λb o hb hf Lm _=>keep b o Lm ((Sj.2.1 b hf).trans hb),λb o hb hf=>?_,λb o hb=>?_⟩ ?_
 ·obtain⟨sl,e⟩:=Sj.2.2 b o hb;exact⟨sl,keep b _ (λz=>Mr (z▸hf)) e⟩
 ·by_cases z:b=a
  ·subst z;exact⟨_,RY⟩
  ·obtain⟨sl,e⟩:=Sj.2.2 b o hb;exact⟨_,keep b _ z e⟩
 ·exact⟨_,_,RY,(Obj.cls_mapFields _ _).trans hc,(sx _ _).trans DW,RZ,by rw[Array.getElem?_setIfInBounds_ne (by decide)];exact h2,by simp[hsz],IG,_,_,RO,rfl,by first|(simp;done)|(rcases AZ with rfl|⟨_,_,_,_,_,_,_,rfl⟩<;>simp)⟩
theorem mC(Kq:A.frames=some (env::outer))(hl:s.heap.FunFrames base (env::outer))(hf:env.frame=some L)
  (F:Fly s.heap a C dx old) (ho:∀T v,old=some (T,v)->v = .none)
  (h:∀h' T,s.heap.objs.size<=T->dO (frs (env::outer)) a old s.heap h'->Fly h' a C dx (some (T,rawInt L))->Q () { s with heap:=h' }) :
  wpAny M A (noteFrame (.ref a) env) Q E s:=by
 obtain⟨oe,vs,he,hc,DW,hd,h2,r⟩:=F;cases old with
 |none =>
  unfold noteFrame;simp only[hf];refine WC (Vo he hd r ?_);rw[VF (by decide)];exact oA Kq hl hf he hc DW hd h2 (Ve.mp r).1 h
 |some p =>
  obtain⟨T,v⟩:=p;obtain rfl:=ho T v rfl;obtain⟨h1,IG,oT,ts,hT,He,h3⟩:=r;unfold noteFrame;simp only[hf];refine WC (Vo he hd h1 ?_);rw[VB (show(Value.ref T != Value.none)=true from by simp)];refine WC (Vo hT He h3 ?_);rw[VF (show¬((Value.none==rawInt L)=true)from by simp[rawInt])];refine WC (Tx hT He (Ve.mp h3).1 ?_);have other:∀b,b≠T->(s.heap.update T (Obj.mapFields (·.setIfInBounds 3 Value.none))).get? b=s.heap.get? b:=λb hb=>V0 _ _ (U6 hb);have EN:∀b o,s.heap.get? b=some o->(∀vs,o.data≠.fields vs)->b≠T:=λb o hb Kn q=>by
   rw[q,hT]at hb;injection hb with hb;subst hb;exact Kn ts He
  have Mz:=Vn (Obj.mapFields (·.setIfInBounds 3 Value.none)) hT (TR (U0 He _));refine oA (s:={ s with heap:=s.heap.update T (Obj.mapFields (·.setIfInBounds 3 Value.none)) }) (base:=base) Kq (hl.of_keeps λb o hb Kn=>⟨o,(other b (EN b o hb Kn)).trans hb,rfl⟩) hf ((other a (U6 IG)).trans he) hc DW hd h2 (Ve.mp h1).1 λh' T' hn N F=>?_;refine h h' T' (Vz (Ud (Heap.size_after_update ..).symm) hn) ⟨λb o hb HZ Lm hbT=>N.keep b o ((other b (hbT T _ rfl)).trans hb) HZ Lm (λ_ _ z=>nomatch z),λb o hb HZ=>N.slot b o ((other b (EN b o hb λws q=>?_)).trans hb) HZ,λb o hb=>?_⟩ F
  ·obtain⟨_,o',F4,Kn⟩:=hl.mem (b:=b) HZ;rw[hb]at F4;cases F4;exact Kn ws q
  ·by_cases z:b=T
   ·subst z;exact N.there b _ Mz
   ·exact N.there b o ((other b z).trans hb)
def vG(F:Fly s.heap a C dx (some (T,v)))
  (h:∀h',(∀b o,b≠T->s.heap.get? b=some o->h'.get? b=some o)->Fly h' a C dx (some (T,.none))->Q () { s with heap:=h' }):wpAny M A (setFlight (.ref a) none) Q E s:=by
 obtain⟨oe,vs,he,hc,DW,hd,h2,h1,IG,oT,ts,hT,He,h3⟩:=F;refine wpAny_setFlight_none he hd h1 hT He (Ve.mp h3).1 (h _ (λb o hb e=>(V0 _ _ (U6 hb)).trans e) ?_);have hsz:=(Ve.mp h3).1;exact⟨oe,vs,(V0 _ _ IG).trans he,hc,DW,hd,h2,h1,IG,_,_,Vn _ hT (TR (U0 He _)),U0 He _,by simp[Array.getElem?_setIfInBounds,hsz]⟩
end
end
section
open Builtin Builtin.ObjectAttr
def vbm:List Value:=[.type "ValueError",.type "Exception",.type "BaseException",.type "object"]
def oJ:List Value->Bool
 | .ref _::r=>oJ r
 |l=>l==vbm
def xIn(K:Frag)(C:Addr):Bool:=match K.lookup C with
 |some ⟨.type "type",_,.cls cd,sl⟩=>(match cd.mro,sl.toList with
  | .ref C'::bm,[_,_,_,_,some (.builtin n),_]=>C'==C&&n=="ValueError.__new__"&&!cd.hasDel&&cd.hasDict&&tailIn K vbm bm&&oJ bm
  |_,_=>false)
 |_=>false
structure XO(K:Nl)(C:Addr)(h:Nw)(cd:ClassData):Prop where
 at_:clsIn K C=some cd
 hd:cd.hasDict=true
 obj:∃bm N nm q bs hdct sn sub ab col dd k0 k1 k2 k3 k5,h.get? C=some (excClassObj nm q C N bs bm hdct sn sub ab col dd k0 k1 k2 k3 k5 "ValueError.__new__")/\OwnTail h vbm bm/\cd.mro = .ref C::bm
 over:oJ cd.mro=true
def Yn(X:K.In h)(q:xIn K C=true):∃cd,XO K C h cd:=by
 unfold xIn at q;split at q
 ·rename_i dd cd sl ho;split at q
  ·rename_i C' bm k0 k1 k2 k3 n k5 hm hs;simp only[Vy,UL,Bool.not_eq_true']at q;obtain⟨⟨⟨⟨⟨rfl,rfl⟩,Ia⟩,hdi⟩,ht⟩,hov⟩:=q;refine⟨cd,by unfold clsIn;rw[ho],hdi,?_,by rw[hm];exact hov⟩;obtain⟨nm,bs,mro,ns,qn,hd,sn,sub,ab,col,del⟩:=cd;dsimp only at hm Ia;subst hm Ia;have IC:sl=#[k0,k1,k2,k3,some (.builtin "ValueError.__new__"),k5]:=by
    obtain⟨l⟩:=sl;simp only at hs;rw[hs]
   subst IC;exact⟨bm,ns,nm,qn,bs,hd,sn,sub,ab,col,dd,k0,k1,k2,k3,k5,X _ _ ho,tail_of_in X ht,rfl⟩
  ·cases q
 ·cases q
theorem rG{n:String}(h:vbm.contains (.type n)=true):∀{l:List Value},oJ l=true->l.contains (.type n)=true
 |[],e=>by cases e
 |v::r,e=>by
  cases v with
  |ref c=>rw[List.contains_cons,rG h (l:=r) e,Bool.or_true]
  |_=>rw[eq_of_beq (show((_::r)==vbm)=true from e)];exact h
theorem oP(self:Value):∀{l:List Value},oJ l=true->refuseLoop self "__setattr__" l=pure ()
 |[],e=>by cases e
 |v::r,e=>by
  cases v with
  |ref c=>rw[refuseLoop_ref];exact oP self (l:=r) e
  |_=>rw[eq_of_beq (show((_::r)==vbm)=true from e)];exact F.store_ValueError.passes self
section
variable {prog:Nn}{w:No}{A:Nr}{E:Da}{s:Np}{K:Nl}{a C:Addr}
theorem jD{R:Result->Shared->Prop}{tk:Tok}(X:K.In s.heap)(I:InstAt s.heap a ox C od)(x:XO K C s.heap cd)(ht:takerIn K C name=some none)
  (h:∀b,wpAny (model prog w) A.in1 (storeInOwnDict (.ref a) (.ref C) (.str name tk) name v b)
   (λA9 s'=>match A9 with|.done f=>R (.ok f) s'|.again c'=>c'.quiet=true/\codeAny (model prog w) A c' R s') (λe s'=>R (.error e) s') s) :
  codeAny (model prog w) A (.call (.builtin "object.__setattr__") ⟨[.ref a,.str name tk,v],[]⟩) R s:=by
 have SF:=F.store_object;have ne:cd.mro.isEmpty=false:=by cases q:cd.mro with|nil=>have:=x.over;rw[q]at this;cases this|cons _ _=>rfl
 have sub:Looks (model prog w) s.heap (isInstance (.ref a) (.type "object")) true:=I.type.andThen (looks_mroIn X (by unfold mroIn;rw[x.at_,Option.bind_some,VF (by rw[ne];decide),rG (by decide) x.over]));refine TC SF.slot.plain SF.entry (@check_slot (model prog w) _ _ s "object.__setattr__" "object" "__setattr__" (.ref a) [.str name tk,v] [] _ SF.kind SF.split sub (SF.args (.ref a) (.str name tk) v) ?_);obtain⟨MT,ha,hr⟩:=Option.bind_eq_some_iff.mp ht;have hm:Looks (model prog w) s.heap (mroOf (.ref C)) cd.mro:=(looks_clsIn X x.at_).andThen .now;have L3:Looks (model prog w) s.heap (storeTaker? MT) none:=by
  cases MT with
  |none=>exact .now
  |some a =>
   obtain⟨b,hb,e⟩:=Option.map_eq_some_iff.mp hr;refine(looks_takesIn X hb).andThen ?_;cases b with
   |false=>exact .now
   |true=>cases e
 rw[osa_eq,refuse_eq];refine WC (WC (I.type.here (WC (hm.here ?_))));rw[oP _ x.over];refine VZ (WC (I.type.here (WC ((S4 X ha).here (WC (L3.here ?_))))));exact h _
def YU(X:K.In s.heap)(x:XO K C s.heap cd)(hs:findIn K (.ref C) "__setattr__"=some (some (.builtin "object.__setattr__")))(ht:takerIn K C name=some none)
  (he:s.heap.get? a=some oe) (hc:oe.cls = .ref C) (Lk:oe.dict=none) (hd:oe.data = .fields vs)
  (h:∀h' dx tk,s.heap.objs.size<=dx->h'.Ns1 dx (λy=>if y=name then some v else none)->h'.get? a=some { oe with dict:=some dx }->(∀b o,b≠a->s.heap.get? b=some o->h'.get? b=some o)->Q () { s with heap:=h',toks:=tk }) :
  wpAny (model prog w) A (setAttr (.ref a) name v) Q E s:=by
 have I:InstAt s.heap a oe C none:=⟨he,hc,by unfold notCls;rw[hd],by rw[Lk];trivial⟩
 refine set_plain X I hs (jD (s:={ s with toks:=s.toks+1 }) X I x ht λb=>?_);obtain⟨oc,od,dt,sl⟩:=oe;dsimp only at hc Lk hd;subst hc Lk hd;obtain⟨hh,g,d,t,os⟩:=s;have Sn:(hh.push { cls:=.type "dict",data:=.dict #[] }).get? a=some ⟨.ref C,none,.fields vs,sl⟩:=WB _ he;have Fv:a≠hh.objs.size:=VD (VV he);refine WC (VZ (WC (WC (wpAny_loadPart he (WC (W.Looks.here (looks_clsIn X x.at_) ?_))))));rw[x.hd];show wpAny _ _ _ _ _ _;refine WC (wpAny_alloc' ?_);refine WC (wpAny_update' Sn ?_);refine VZ ?_;have hgd:((hh.push { cls:=.type "dict",data:=.dict #[] }).update a λo=>{ cls:=o.cls,dict:=some hh.objs.size,data:=o.data,slots:=o.slots }).get? hh.objs.size
  =some { cls:=.type "dict",data:=.dict #[] }:=(Heap.get?_update_ne _ _ _ _ Fv.symm).trans (Heap.get?_push_at rfl rfl)
 have ID:((hh.push { cls:=.type "dict",data:=.dict #[] }).update a λo=>{ cls:=o.cls,dict:=some hh.objs.size,data:=o.data,slots:=o.slots }).Ns hh.objs.size (λ_=>none) :=
  ⟨_,#[],_,hgd,rfl,λe he=>absurd he (by simp),λ_=>rfl⟩
 show wpAny _ _ (storeInDict hh.objs.size (.str name t) name v) _ _ _;unfold storeInDict newKeyGuard;refine WC (VZ (WC (wpAny_nsSet1 (Heap.Ns1.of_empty ID) λh' IF hs=>?_)));obtain⟨oD,esD,epD,hoD,hdD,Ib⟩:=IF.count (Within.cons name v Within.nil);refine WC (wpAny_lookBehind hoD (by rw[hdD];exact pastItsLine_dict (Vz Ib (by rw[VN,Vx,VP];lia))) ?_);refine VZ (h h' hh.objs.size _ (VW _) IF ?_ λb o hb e=>?_)
 ·refine(hs.2 a Fv).trans (Vn _ Sn rfl)
 ·exact(hs.2 b (VD (VV e))).trans ((Heap.get?_update_ne _ _ _ _ hb).trans (WB _ e))
end
end
section
open Builtin Builtin.ObjectAttr
section
variable {prog:Nn}{w:No}{A:Nr}{E:Da}{h:Nw}{g:Array GenState}{d:Drawn}{t:Nat}{os:OsState}{K:Nl}{a C:Addr}
def XF{od:Obj}{Q:Da}(X:K.In h)(I:InstAt h a ox C (some od))(hga:findIn K (.ref C) "__getattribute__"=some (some (.builtin "BaseException.__getattribute__")))
  (hgt:findIn K (.ref C) "__getattr__"=some none) (hm:mroIn K C (.type "BaseException")=some true) (hf:findObj K C (some od) name=some (.value v)) (hh:handedIn v=true)
  (hq:Q v ⟨h,g,d,t+1,os⟩):wpAny (model prog w) A (getAttr (.ref a) name Ii) Q E ⟨h,g,d,t,os⟩:=by
 have L0:=I.type (M:=model prog w);have L1:=S4 (M:=model prog w) X hga;have L2:=S4 (M:=model prog w) X hgt;have L3:=looks_find (M:=model prog w) X I hf;have f3:=T2.ga.bind (.ref a);have hx0:(Ii&&onTheHeap (Value.builtin "BaseException.__getattribute__"))=false:=by cases Ii<;>rfl
 have LY:(Value.builtin "BaseException.__getattribute__"==Value.builtin "object.__getattribute__")=false:=by decide +kernel
 have HH:(onTheHeap (Value.ref C)&&Value.builtin "BaseException.__getattribute__"==Value.builtin "object.__getattribute__")=false:=by rw[LY];rfl
 unfold getAttr;refine WC (wpAny_mkText ?_)
 repeat(any_goals (first|assumption|with_reducible refine L0.at ?_|with_reducible refine L1.at ?_|with_reducible refine L2.at ?_|wp_step))
 refine TC T2.ga.plain F.entry_bexc_ga (@check_slot (model prog w) _ _ ⟨h,g,d,t+1,os⟩ "BaseException.__getattribute__" "BaseException" "__getattribute__" (.ref a) [.str name t] [] _ (by decide +kernel) (by decide +kernel) (L0.andThen (looks_mroIn X hm)) (F.args_bexc_ga _ _) ?_);have hho:=handedOut_of hh
 repeat(any_goals (first|assumption|with_reducible refine L0.at ?_|with_reducible refine L3.at ?_|(rw[hho])|wp_step))
def uU{N:Addr}{Q:Fin->Shared->Prop}(X:K.In h)
  (hC:h.get? C=some (excClassObj nm q C N bs bm hdct sn sub ab col dd k0 k1 k2 k3 k5 "ValueError.__new__")) (T:OwnTail h vbm bm) (hi:findIn K (.ref C) "__init__"=some (some (.ref fI))) (hf:typeIn K (.ref fI)=some (.type "function"))
  (hq:∀h' e,h.objs.size<=e->Heap.MadeExcOf h h' e (.ref C) rest ->
   wpAny (model prog w) A (call (.ref fI) (.ref e::rest)) (λr s'=>r = .none/\Q (.done (.ret (.ref e))) s') E ⟨h',g,d,t,os⟩) (D3:rest.length<=sizeLine) :
  wpAny (model prog w) A (Builtin.«type.__call__» ⟨.ref C::rest,[]⟩) Q E ⟨h,g,d,t,os⟩:=by
 have F:=F.excBase_ValueError
 repeat(first|with_reducible refine UD hC ?_|with_reducible refine wpAny_madeBy_exc hC ?_|wp_step)
 refine codeAny_call_builtin_code (Tt _ F.quiet) (wpAny_check_new_subT F T hC ?_);refine codeAny_exc_new_subT F T hC ?_ D3;show wpAny _ _ _ _ _ _;have kp:∀b o,h.get? b=some o->((h.push { cls:=.type "tuple",data:=.seq rest.toArray }).push { cls:=.ref C,data:=.fields #[.ref h.objs.size,.none,.none,.none,.bool false,.none] }).get? b=some o:=λb o e=>WB _ (WB _ e);have Sk:=kp _ _ hC;have Sb:=X.keeps kp;have GG:((h.push { cls:=.type "tuple",data:=.seq rest.toArray }).push
   { cls:=.ref C,data:=.fields #[.ref h.objs.size,.none,.none,.none,.bool false,.none] }).get? (h.objs.size+1)=some
   { cls:=.ref C,data:=.fields #[.ref h.objs.size,.none,.none,.none,.bool false,.none] }:=by heap_get
 have hcC:(Value.ref C::bm).contains (.ref C)=true:=by simp
 unfold isInstance
 repeat(first|with_reducible refine UD GG ?_|(with_reducible refine SX Sk ?_;rw[hcC])|wp_step)
 show wpAny _ _ (typeLookup (.ref C) _) _ _ _;refine(S4 (M:=model prog w) Sb hi).at ?_;refine Vh (WC ?_);refine(bind_fn Sb (.ref (h.objs.size+1)) hf).at ?_;refine WC (V6 (hq _ (h.objs.size+1) (UG _) ⟨kp,TJ (UG _),h.objs.size,GG,TJ (VW _),?_⟩) (λr s' hr=>?_) λ_ _ x=>x)
 ·exact WB _ (Heap.get?_push_at rfl rfl)
 ·obtain⟨rfl,hQ⟩:=hr
  wp_walk
  exact hQ
def lH{N:Addr}{Q:Da}(X:K.In h)
  (hC:h.get? C=some (excClassObj nm q C N bs bm hdct sn sub ab col dd k0 k1 k2 k3 k5 "ValueError.__new__")) (T:OwnTail h vbm bm) (hi:findIn K (.ref C) "__init__"=some (some (.ref fI))) (hf:typeIn K (.ref fI)=some (.type "function"))
  (hq:∀h' e,h.objs.size<=e->Heap.MadeExcOf h h' e (.ref C) rest ->
   wpAny (model prog w) (A.under (.builtin "type.__call__" ⟨.ref C::rest,[]⟩)) (call (.ref fI) (.ref e::rest)) (λr s'=>r = .none/\Q (.ref e) s') E ⟨h',g,d,t,os⟩) (D3:rest.length<=sizeLine) :
  wpAny (model prog w) A (call (.ref C) rest) Q E ⟨h,g,d,t,os⟩:=by
 have f1:=tc_lookup;have f2:=tc_bind (.ref C);have hT:(⟨h,g,d,t,os⟩:Np).TypeIs (.ref C) "type":=⟨_,hC,rfl⟩
 refine SQ (codeAny_of_tree ?_);show wpAny _ _ (callAny (.ref C) _) _ _ _
 repeat(any_goals (first|assumption|with_reducible refine UD hC ?_|wp_step))
 refine⟨rfl,?_⟩;refine codeAny_call_builtin_at (Tt _ (by decide +kernel)) entry_typeCall (wpAny_check_type_call_sub hC (uU X hC T hi hf (λh' e hz hm=>?_) D3));exact hq h' e hz hm
end
end
section
open Builtin Builtin.ObjectAttr
structure XCls(K:Nl)(C:Addr):Prop where
 x:xIn K C=true
 ga:findIn K (.ref C) "__getattribute__"=some (some (.builtin "BaseException.__getattribute__"))
 gt:findIn K (.ref C) "__getattr__"=some none
 sa:findIn K (.ref C) "__setattr__"=some (some (.builtin "object.__setattr__"))
 mb:mroIn K C (.type "BaseException")=some true
 mo:mroIn K C (.type "object")=some true
 kp:keepIn K (.ref C)=true
 ca:findIn K (.ref C) "__class__"=some (some (.builtin "object.__class__"))
 cg:specialIn K (.builtin "object.__class__") "__get__"=some (some (.builtin "getset_descriptor.__get__"))
 ct:takesIn K (.builtin "object.__class__")=some true
def XCls.cls(c:XCls K C):∃cd,clsIn K C=some cd/\cd.hasDict=true:=by
 have q:=c.x;unfold xIn at q;split at q
 ·rename_i dd cd sl ho;split at q
  ·simp only[Vy,UL,Bool.not_eq_true']at q;exact⟨cd,by unfold clsIn;rw[ho],q.1.1.2⟩
  ·cases q
 ·cases q
section
variable {prog:Nn}{w:No}{A:Nr}{E:Da}{K:Nl}{a C:Addr}
def bT{Q:Option Value->Shared->Prop}(X:K.In s.heap)(I:InstAt s.heap a ox C od)(c:XCls K C)(hq:Q (some (.ref C)) { s with toks:=s.toks+1 }):wpAny (model prog w) A (getAttr? (.ref a) "__class__") Q E s:=by
 obtain⟨h,g,d,t,os⟩:=s;obtain⟨cd,Ev,hdi⟩:=c.cls;have hf:findObj K C od "__class__"=some (.bind (.builtin "getset_descriptor.__get__") (.builtin "object.__class__")):=by simp only[findObj,Ev,c.ca,c.cg,c.ct,Option.bind_some]
 have L0:=I.type (M:=model prog w);have L1:=S4 (M:=model prog w) X c.ga;have L2:=S4 (M:=model prog w) X c.gt;have L3:=looks_find (M:=model prog w) X I hf;have f3:=T2.ga.bind (.ref a);have LY:(Value.builtin "BaseException.__getattribute__"==Value.builtin "object.__getattribute__")=false:=by decide +kernel
 have HH:(onTheHeap (Value.ref C)&&Value.builtin "BaseException.__getattribute__"==Value.builtin "object.__getattribute__")=false:=by rw[LY];rfl
 unfold getAttr? getAttrBy?;refine WC (wpAny_mkText ?_)
 repeat(any_goals (first|assumption|with_reducible refine L0.at ?_|with_reducible refine L1.at ?_|with_reducible refine L2.at ?_|wp_step))
 refine TC T2.ga.plain F.entry_bexc_ga (@check_slot (model prog w) _ _ ⟨h,g,d,t+1,os⟩ "BaseException.__getattribute__" "BaseException" "__getattribute__" (.ref a) [.str "__class__" t] [] _ (by decide +kernel) (by decide +kernel) (L0.andThen (looks_mroIn X c.mb)) (F.args_bexc_ga _ _) ?_)
 repeat(any_goals (first|assumption|with_reducible refine L0.at ?_|with_reducible refine L3.at ?_|wp_step))
 refine class_get (s:=⟨h,g,d,t+1,os⟩) (ox:=ox) (od:=od) X I c.mo ?_
 repeat(any_goals (first|assumption|wp_step))
def dz(c:XCls K C):KitX K (.ref a) (.ref C) (λh=>InstAt h a ox C od)where
 ty:=λ_ _ _ I=>I.type
 it:=λ_ _ X _=>by
  obtain⟨cdD,Ib,_⟩:=c.cls;unfold clsIn at Ib;split at Ib
  ·rename_i c' d' cd' LD ho;intro A' Q' E' s' k q;unfold isType loadHead;exact WC (wpAny_loadPart (k _ _ (X _ _ ho)) (VZ q))
  ·cases Ib
 ne:=λh tp dd Af n sl X La=>by
  obtain⟨cdD,Ib,_⟩:=c.cls;refine Bool.eq_false_iff.mpr λq=>?_;have e:C=tp:=Value.ref.inj (UL.mp q);subst e;unfold clsIn at Ib;split at Ib
  ·rename_i c' d' cd' LD ho;have z:=(X _ _ ho).symm.trans La;cases z
  ·cases Ib
 ca:=λX I k=>bT X I c k
end
def exO(a C:Addr)(dx:HK)(n:Bool):HO:=.ext λh=>∃oe vs v1,h.get? a=some oe/\oe.cls = .ref C/\oe.dict=dx/\oe.data = .fields vs/\vs[1]?=some v1/\((n=true->v1 = .none)/\vs[2]?=some .none)
section
variable {P:Nn}{w:No}{H:Hp}{h:Nw}{a C:Addr}{dx:HK}{n:Bool}
def ul(e:∃oe vs v1,h.get? a=some oe/\oe.cls = .ref C/\oe.dict=dx/\oe.data = .fields vs/\vs[1]?=some v1/\((n=true->v1 = .none)/\vs[2]?=some .none)):ObjOk P w H h a (exO a C dx n):=by
 refine⟨e,?_,λh1 h2 ⟨oe,vs,v1,e1,r⟩ k=>⟨oe,vs,v1,k _ e1,r⟩⟩;obtain⟨oe,_,_,e1,_⟩:=e;exact⟨oe,e1⟩
def xP(ok:HOk P w H h)(e:H a=some (exO a C dx n)):∃oe vs v1,h.get? a=some oe/\oe.cls = .ref C/\oe.dict=dx/\oe.data = .fields vs/\vs[1]?=some v1/\((n=true->v1 = .none)/\vs[2]?=some .none):=(ok a _ e).1
end
section
variable {X:Cx}{pins:KB}{σ:St}{H:Hp}{s:Np}{a C:Addr}{n:Bool}
def Inv.exDict{dx:Addr}{fs:N2}(I:Inv X pins σ H s)(ea:H a=some (exO a C none n))(hz:s.heap.objs.size<=dx)(k:∀b o,b≠a->s.heap.get? b=some o->h'.get? b=some o)
  (ns:h'.Ns1 dx mA) (r:∀f,RelO (fs.lookup f) (mA f)) (na:∃oe vs v1,h'.get? a=some oe/\oe.cls = .ref C/\oe.dict=some dx/\oe.data = .fields vs/\vs[1]?=some v1/\((n=true->v1 = .none)/\vs[2]?=some .none)) :
  Inv X pins σ (upd (upd H dx (.xd fs)) a (exO a C (some dx) n)) { s with heap:=h',toks:=t' }:=by
 have DW:H dx=none:=I.hok.fresh hz;have ne:dx≠a:=λz=>by rw[z,ea]at DW;cases DW
 have at_:∀b o,H b=some o->b≠a->(upd (upd H dx (.xd fs)) a (exO a C (some dx) n)) b=some o:=λb o e z=>by rw[ze z,ze (λq=>by rw[q,DW]at e;cases e)];exact e
 refine I.un ⟨λb o e q _ _=>k b o (λz=>by rw[z,ea]at q;cases q) e,λb o e q _ _=>⟨o.slots,k b o (λz=>by rw[z,ea]at q;cases q) e⟩,λb o e q _=>?_,λb o e _=>?_,λb xs e=>at_ b _ e λz=>?_,λb o u e=>at_ b _ e λz=>?_,λb ps e=>⟨#[],?_⟩⟩ λb o e=>?_
 ·rw[ze (λz=>by rw[z,ea]at q;cases q),ze (VD (V8 (VV e) hz))];exact q
 ·by_cases z:b=a
  ·obtain⟨oe,_,_,e1,_⟩:=na;exact⟨oe,z▸e1⟩
  ·exact⟨o,k b o z e⟩
 ·rw[z,ea]at e;cases e
 ·rw[z,ea]at e;cases e
 ·rw[at_ b _ e λz=>by rw[z,ea]at e;cases e];simp
 ·by_cases z:b=a
  ·subst z;rw[zv]at e;cases e;exact ul na
  ·rw[ze z]at e
   by_cases q:b=dx
   ·subst q;rw[zv]at e;cases e;exact⟨mA,ns,r⟩
   ·rw[ze q]at e;refine(I.hok b o e).stay (λc u hc g=>k c u ?_ g) (λc g=>at_ c _ g λy=>?_) λc xs g=>at_ c _ g λy=>?_
    ·rcases hc with y|y
     ·rw[y];exact z
     ·intro y';rw[y',ea]at y;cases y
    ·rw[y,ea]at g;cases g
    ·rw[y,ea]at g;cases g
end
end
section
def aR(X:K.In h)(c:XCls K C):∃bm N nm q bs hdct sn sub ab col dd k0 k1 k2 k3 k5,h.get? C=some (excClassObj nm q C N bs bm hdct sn sub ab col dd k0 k1 k2 k3 k5 "ValueError.__new__")/\OwnTail h vbm bm:=by
 obtain⟨cd,x⟩:=Yn X c.x;obtain⟨bm,N,nm,q,bs,hdct,sn,sub,ab,col,dd,k0,k1,k2,k3,k5,hC,T,_⟩:=x.obj;exact⟨bm,N,nm,q,bs,hdct,sn,sub,ab,col,dd,k0,k1,k2,k3,k5,hC,T⟩
def aw(K:Nl)(ta tv:TE)(f:Str):TS:=λD σ H=>tv σ H λy H1=>ta σ H1 λx H2=>∃a C n,x = .ref a/\H2 a=some (exO a C none n)/\XCls K C/\takerIn K C f=some none /\
 ∀dx,H2 dx=none->D.nx σ (upd (upd H2 dx (.xd [(f,y)])) a (exO a C (some dx) n))
def bE(K:Nl)(ta:TE)(f:Str):TE:=fun σ H Q=>ta σ H λx H1=>∃a C dx n fs v,x = .ref a/\H1 a=some (exO a C (some dx) n)/\H1 dx=some (.xd fs)/\XCls K C/\NoAttr K C f/\fs.lookup f=some v/\Q v H1
section
variable {X:Cx}{o e value:Nv}{f:Str}{pos CH:Pos}{ta tv:TE}
def cT(ha:PE X o ta)(hv:PE X value tv)(hs:swapsWith value (some (.Attribute o f CH)) pos.line X.env=pure false):PS X (.Assign [.Attribute o f CH] value pos) (aw X.K ta tv f):=by
 intro pins s σ H D I h;refine plainObj_wpAny_Assign_Attribute (thn (hv pins s σ H _ I h) λu s1 ⟨y,H1,I1,ry,q⟩=>thn (ha pins s1 σ H1 _ I1 q) λov s2 ⟨x,H2,I2,rx,a,C,n,ex,ea,c,ht,q2⟩=>?_) hs;subst ex;obtain rfl:ov=Value.ref a:=rx;obtain⟨cd,x⟩:=Yn I2.kIn c.x;obtain⟨oe,vs,v1,e1,e2,e3,e4,e5,e6⟩:=xP I2.hok ea;refine YU I2.kIn x c.sa ht e1 e2 e3 e4 λh' dx tk hz hn e' k=>?_;have hr:∀g,RelO (([(f,y)]:N2).lookup g) (if g=f then some u else none):=λg=>by
  by_cases z:g=f
  ·rw[VB z,z,List.lookup_cons_self];exact ry
  ·rw[VF z,Ub,U8.mpr z];exact True.intro
 refine⟨σ,_,Inv.exDict (n:=n) (t':=tk) I2 ea hz k hn hr ⟨_,vs,v1,e',e2,rfl,e4,e5,e6⟩,q2 dx (I2.hok.fresh hz)⟩
def kI(he:PE X e ta)(hb:attributeBase e f X.env (eval e X.env)=eval e X.env):PE X (.Attribute e f pos) (bE X.K ta f):=by
 intro pins s σ H Q I h;refine jg hb (thn (he pins s σ H _ I h) λu s1 ⟨x,H1,I1,rx,a,C,dx,n,fs,v,ex,ea,ed,c,na,l,q⟩=>?_);subst ex;obtain rfl:u=Value.ref a:=rx;obtain⟨oe,vs,v1,e1,e2,e3,e4,e5,e6⟩:=xP I1.hok ea;obtain⟨mA,ns,r⟩:=(show∃mA,s1.heap.Ns1 dx mA/\∀f,RelO (fs.lookup f) (mA f)from I1.hok dx _ ed)
 obtain⟨w,hw,G6⟩:=RelO.some_of (v:=v) (o:=mA f) (by rw[<-l];exact r f);obtain⟨od,hod,hl⟩:=uv ns;obtain⟨cd,Ev,hdi⟩:=c.cls;obtain⟨hh,g,d,t,os⟩:=s1;have J:W.InstAt hh a oe C (some od):=⟨e1,e2,by unfold notCls;rw[e4],by rw[e3];exact hod⟩
 exact XF I1.kIn J c.ga c.gt c.mb (findObj_own (by unfold hasDictIn;rw[Ev];exact hdi) na rfl (by rw[hl,hw])) (ql G6) ⟨v,H1,I1.tok _,G6,q⟩
end
structure DefI(K:Nl)(C:Addr)(qual:Str)(st:Nx)(ps:GM):Prop where
 ex:∃(f:Addr)(fd:N0),Fun K "__init__" qual st f fd/\(∀us:List Value,us.length=ps.length->bindArgs fd ⟨us,[]⟩=pure (ps.zip us))/\findIn K (.ref C) "__init__"=some (some (.ref f))/\typeIn K (.ref f)=some (.type "function")/\XCls K C
structure t8(P:Nn)(w:No)(K:Nl)(mg:FB)(base:Nw)(k:Nat)(C:Addr)(ps:GM)(sp:Sp):Prop where
 ex:∃(f:Addr)(fd:N0),FnOk P w K mg base CX0 k f fd ps sp/\Binds K fd ps []/\findIn K (.ref C) "__init__"=some (some (.ref f))/\typeIn K (.ref f)=some (.type "function")/\XCls K C
def DefI.callee(F:DefI K C qual st ps)(S:yl N ps (zj st))(len:∀vs H Q E,sp vs H Q E->vs.length=ps.length)
  (A7:∀(f:Addr)(cdv:Nq)(A:Nr)(outer:List Env)(s:Np)(H:Hp)(vs:N1)(Q:VK)(E:XK),Room k (A.deeper (envOfC qual (zj st) s.heap.objs.size f cdv))->sp vs H Q E ->
   ∃σ t,start N vs=σ/\PSs (xu CX0 P w K mg base N qual (zj st) f cdv A outer s H E).nox (zN st) t/\t { nx:=λ_ H'=>Q .non H',rt:=Q } σ H):t8 P w K mg base (k+1) C ps sp:=by
 obtain⟨f,fd,F,b,hi,hf,hc⟩:=F.ex;refine⟨f,fd,F.ok S len λcdv A outer s H vs Q E hr h=>?_,.all b,hi,hf,hc⟩;obtain⟨σ,t,e,ht,q⟩:=A7 f cdv A outer s H vs Q E hr h;exact⟨t,ht,by rw[e];exact q⟩
def bU{od:HK}
  (a:findIn K (.ref C) "__init__"=some (some (.ref f))) (l:K.lookup f=some ⟨oc,od,.func (W.fnOf "__init__" qual (y8 st) (zN st) (zj st) .none kV doc pm an cdv ct),osl⟩)
  (c:codeIn K cdv qual=true) (k:keepIn K (.ref f)=true) (n:typeIn K (.ref f)=some (.type "function")) (x:XCls K C)
  (h:∀(kV doc pm:Nq)(an:HK)(cdv ct:Nq)(us:GE),us.length=ps.length->bindArgs (W.fnOf "__init__" qual (y8 st) (zN st) (zj st) .none kV doc pm an cdv ct) ⟨us,[]⟩=pure (ps.zip us)):DefI K C qual st ps :=
 ⟨f,_,pS l c k,λus hl=>h kV doc pm an cdv ct us hl,a,n,x⟩
def bF(C:Addr)(sp:Sp)(t:TA):TE:=fun σ H Q=>t σ H λvs H1=>vs.length<=sizeLine/\∀a,H1 a=none->sp (.ref a::vs) (upd H1 a (exO a C none true)) (λv H2=>v = .non/\Q (.ref a) H2) E0
def ZR(F:t8 X.prog X.w X.K X.mg X.base k C ps sp)(hr:Room k' X.A)(hk:k+1<=k')(hm:X.mg x=some (.ref C))(ha:PA X (e::es) t)(hg:Gl X x:=by rfl)
  (CQ:(x==("__debug__":Str))=false:=by decide) (he:starEach (e::es) X.env=(false,eval e X.env)::starEach es X.env:=by rfl) (AZ:(backTo pos (starEach es X.env)).any (·.1)=false:=by rfl) :
  PE X (.Call (.Name x p) (e::es) [] pos) (bF C sp t):=by
 intro pins s σ H Q I h;obtain⟨fI,fd,F,b,hi,hf,c⟩:=F.ex;refine UB (xQ I hg hm ?_ CQ);refine TX (h₀:=X.base) I.ok.mod.kin c.kp (thn (ha pos pins s σ H _ I h) λus s1 ⟨vs,H1,I1,r,hz,q⟩=>⟨I1.kIn,?_⟩) he AZ;obtain⟨bm,N,nm,qq,bs,hdct,sn,sub,ab,col,dd,k0,k1,k2,k3,k5,hC,T⟩:=aR I1.kIn c;obtain⟨hh,g,d,tt,os⟩:=s1;refine lH I1.kIn hC T hi hf (λh' a LW BG=>?_) (show us.length<=sizeLine by rw[<-r.length];exact hz);obtain⟨tp,ht,_,_⟩:=BG.there;have I2:Inv X pins σ (upd H1 a (exO a C none true)) ⟨h',g,d,tt,os⟩:=I1.laid (a:=a) (t':=tt) BG.keeps LW (ul ⟨_,_,.none,ht,rfl,rfl,rfl,rfl,λ_=>rfl,rfl⟩);have hq:=q a (I1.hok.fresh LW);have r2:Vals (V.ref a::vs) (Value.ref a::us):=.cons rfl r;have hl:((Value.ref a::us)++[]).length=ps.length:=by
  rw[List.append_nil];exact r2.length.symm.trans (F.len _ _ _ _ hq)
 have hb:=b ⟨h',g,d,tt,os⟩ (Value.ref a::us) I2.kIn hl;rw[List.append_nil]at hb;refine SQ (T9 (F.run _ X.stack _ _ ⟨Value.ref a::us,[]⟩ (Value.ref a::us) _ _ E0 ((hr.mono hk).make C us []) (I2.env0.make C us []) hb r2 hq) λr s' HL=>?_);cases r with
 |error e=>exact False.elim HL
 |ok fl =>
  cases fl with
  |ret u =>
   obtain⟨v,H',I3,rv,ev,q3⟩:=I2.after HL;subst ev;exact⟨rv,⟨V.ref a,H',I3,rfl,q3⟩⟩
  |next=>exact False.elim HL
  |brk=>exact False.elim HL
  |cont=>exact False.elim HL
end
section
def Yk:V->Option Value
 | .ref a=>some (.ref a)
 | .ty n=>some (.type n)
 |_=>none
def gr{c:V}(h:Yk c=some cv)(r:RelV c u):u=cv:=by
 cases c<;>first|(cases h;exact r)|cases h
section
variable {X:Cx}
def yF(hm:X.mg x=some (.ref C))(hg:Gl X x:=by rfl)(CQ:(x==("__debug__":Str))=false:=by decide):PE X (.Name x pos) (tC (.ref C)) :=
 λpins s σ H Q I h=>xQ I hg hm ⟨.ref C,H,I,rfl,h⟩ CQ
end
section
variable {M:Model}{A:Nr}{E:Da}{env:Env}{K:Nl}
def cX{x:Sem Value}{Q:Flow->Shared->Prop}(hh:A.handled=none)
  (h:wpAny M A x (λv X'=>∃a C oe vs,v = .ref a/\K.In X'.heap/\XCls K C/\X'.heap.get? a=some oe/\oe.cls = .ref C/\oe.data = .fields vs/\vs[1]?=some .none/\E (.ref a) X') E s) :
  wpAny M A (raiseStmt env (some x) none) Q E s:=by
 unfold raiseStmt;refine WC (V6 h (λv X' h₁=>?_) λ_ _ x=>x);obtain⟨a,C,oe,vs,rfl,KX,c,he,hc,hd,h1,hE⟩:=h₁;obtain⟨bm,N,nm,qq,bs,hdct,sn,sub,ab,col,dd,k0,k1,k2,k3,k5,hC,T⟩:=aR KX c;have hcB:(Value.ref C::bm).contains (.type "BaseException")=true:=by rw[List.contains_cons,T.hasType (b:=true) (by decide),Bool.or_true]
 obtain⟨oc,od,dt,sl⟩:=oe;dsimp only at hc hd;subst hc hd;obtain⟨hp,g,d,tk,os⟩:=X'
 repeat(first|with_reducible refine UD he ?_|with_reducible refine UD hC ?_|(with_reducible refine SX hC ?_;rw[hcB])|with_reducible refine Vo he rfl h1 ?_|wp_step)
 exact wpAny_raiseNew_none hh hE
end
def pH(X:Cx)(E:XK):Prop:=∀(pins:KB)(σ:St)(H:Hp)(s:Np)(a C:Addr)(dx:HK),Inv X pins σ H s->H a=some (exO a C dx true)->E (.ref a) dx (upd H a (exO a C dx false))->X.xe (.ref a) s
def mj(K:Nl)(E:XK)(te:TE):TS:=λD σ H=>te σ H λx H1=>∃a C dx,x = .ref a/\H1 a=some (exO a C dx true)/\XCls K C/\E (.ref a) dx (upd H1 a (exO a C dx false))
def fo{E:XK}(he:PE X e te)(hx:pH X E)(hh:X.A.handled=none):PS X (.Raise (some e) none pos) (mj X.K E te):=by
 intro pins s σ H D I h;rw[arm_exec_Raise];refine WC (T5 (cX (K:=X.K) hh (WC (thn (he pins s σ H _ I h) λv s1 ⟨x,H1,I1,rx,a,C,dx,ex,ea,c,q⟩=>WC (T5 (VZ ?_))))));subst ex;obtain rfl:v=Value.ref a:=rx;obtain⟨oe,vs,v1,e1,e2,e3,e4,e5,e6⟩:=xP I1.hok ea;obtain rfl:=e6.1 rfl;exact⟨a,C,oe,vs,rfl,I1.kIn,c,e1,e2,e4,e5,hx pins σ H1 s1 a C dx I1 ea q⟩
end
section
def CXr(P:Nn)(w:No):CXT:=λouter H s E e s'=>∃a C dx H' T,e = .ref a/\s'.os=s.os/\AllBare s'.gens/\Un (frs outer) [] H H' s.heap s'.heap/\HOk P w H' s'.heap /\
 H' a=some (exO a C dx false)/\H' T=none/\s.heap.objs.size<=T/\Fly s'.heap a C dx (some (T,.none))/\E e dx H'
def m7{o:HO}(e:H a=some o):upd H a o=H:=by
 funext b
 by_cases z:b=a
 ·rw[z,zv,e]
 ·rw[ze z]
section
variable {P:Nn}{w:No}{K:Nl}{mg:FB}{base:Nw}{N:GM}{qual:Str}{scope:Nu}{f:Addr}{cd:Nq}{A:Nr}{outer:List Env}{s₀:Np}{H₀:Hp}{E:XK}
theorem uy{σ:St}(I:Inv X pins σ H s)(ea:H a=some (exO a C dx n))(ho:∀T v,old=some (T,v)->H T=none)
  (N:dO (frs X.stack) a old s.heap h1) (hz:s.heap.objs.size<=T) (k2:∀b o,b≠T->h1.get? b=some o->h2.get? b=some o) (F2:Fly h2 a C dx fl):HOk X.prog X.w (upd H a (exO a C dx false)) h2:=by
 intro b o e
 by_cases z:b=a
 ·subst z;rw[zv]at e;cases e;obtain⟨oe,vs,e1,e2,e3,e4,h2,r⟩:=F2;cases fl with
  |none=>exact ul ⟨oe,vs,_,e1,e2,e3,e4,r,(λz=>by cases z),h2⟩
  |some p=>exact ul ⟨oe,vs,_,e1,e2,e3,e4,r.1,(λz=>by cases z),h2⟩
 ·rw[ze z]at e;refine(I.hok b o e).stay (λc u hc g=>?_) (λc g=>?_) λc xs g=>?_
  ·have ht:H c≠none:=by
    rcases hc with y|y
    ·rw[y,e];exact λq=>by cases q
    ·rw[y];exact λq=>by cases q
   refine k2 c u (VD (V8 (VV g) hz)) (N.keep c u g (λq=>ht (I.stkFree c q)) (λq=>?_) λT' v' q y=>ht (by rw[y];exact ho T' v' q));rcases hc with y|y
   ·exact z (y.symm.trans q)
   ·rw[q,ea]at y;cases y
  ·rw[ze λy=>by rw[y,ea]at g;cases g];exact g
  ·rw[ze λy=>by rw[y,ea]at g;cases g];exact g
def ni{σ:St}(I:Inv (xu (CXr P w) P w K mg base N qual scope f cd A outer s₀ H₀ E) pins σ H s)(ea:H a=some (exO a C dx n))(F:Fly s.heap a C dx old)
  (ho:∀T v,old=some (T,v)->v = .none/\H T=none/\s₀.heap.objs.size<=T) (hE:E (.ref a) dx (upd H a (exO a C dx false))):(xu (CXr P w) P w K mg base N qual scope f cd A outer s₀ H₀ E).xe (.ref a) s:=by
 have hL:s₀.heap.objs.size<=s₀.heap.objs.size:=VW _;show wpAny (model P w) (A.deeper (envOfC qual scope s₀.heap.objs.size f cd)) (leaving (envOfC qual scope s₀.heap.objs.size f cd) (.ref a)) _ _ s;unfold leaving;refine WC (mC (base:=base) (L:=s₀.heap.objs.size) I.ok.frames I.stack rfl F (λT v q=>(ho T v q).1) λh1 T hz N F1=>vG (s:={ s with heap:=h1 }) F1 λh2 k2 F2=>?_);have sz:=I.sz;have K4:∀b o,s₀.heap.get? b=some o->b≠T:=λb o e=>VD (V8 (VV e) (Vz sz hz));have mem:∀b,b∈frs (envOfC qual scope s₀.heap.objs.size f cd::outer)->b=s₀.heap.objs.size\/b∈frs outer:=λb q=>by
  unfold frs at q;rw[Va]at q;exact VI.mp q
 have na:∀b,H b=none->b≠a:=λb q z=>by rw[z,ea]at q;cases q
 refine⟨a,C,dx,upd H a (exO a C dx false),T,rfl,I.os,I.bare,⟨λb o e q hb hx=>?_,λb o e q hb hx=>?_,λb o e q hx=>?_,λb o e hx=>?_,λb xs e=>?_,λb o u e=>?_,λb ps e=>?_⟩,uy I ea (λT v q=>(ho T v q).2.1) N hz k2 F2,zv,?_,Vz sz hz,F2,hE⟩
 ·have e1:=I.base.keep b o e q hb hx;have e2:=I.base.free b o e q hx;refine k2 b o (K4 b o e) (N.keep b o e1 (λz=>?_) (na b e2) λT' v' z y=>?_)
  ·rcases mem b z with y|y
   ·exact absurd (VV e) (by rw[y];exact Vj _)
   ·exact hb y
  ·exact absurd (VV e) (by rw[y];exact T4.mpr (ho T' v' z).2.2)
 ·obtain⟨sl,e1⟩:=I.base.slot b o e q hb hx;obtain⟨IB,e2⟩:=N.slot b _ e1 (by unfold frs;rw[Va];exact VJ _ hb);exact⟨IB,k2 b _ (K4 b o e) e2⟩
 ·have e2:=I.base.free b o e q hx;rw[ze (na b e2)];exact e2
 ·obtain⟨o1,e1⟩:=I.base.there b o e hx;obtain⟨o2,e2⟩:=N.there b o1 e1;exact⟨o2,k2 b _ (K4 b o e) e2⟩
 ·have e1:=I.base.tups b xs e;rw[ze λz=>by rw[z,ea]at e1;cases e1];exact e1
 ·have e1:=I.base.frzs b o u e;rw[ze λz=>by rw[z,ea]at e1;cases e1];exact e1
 ·obtain⟨m,e1⟩:=I.base.tbls b ps e;exact⟨m,by rw[ze λz=>by rw[z,ea]at e1;cases e1];exact e1⟩
 ·have e2:=I.hok.fresh hz;rw[ze (na T e2)];exact e2
def yI:pH (xu (CXr P w) P w K mg base N qual scope f cd A outer s₀ H₀ E) E:=by
 intro pins σ H s a C dx I ea hE;obtain⟨oe,vs,v1,e1,e2,e3,e4,e5,e6⟩:=xP I.hok ea;obtain rfl:=e6.1 rfl;exact ni (old:=none) I ea ⟨oe,vs,e1,e2,e3,e4,e6.2,e5⟩ (λ_ _ z=>nomatch z) hE
def zC:xW (CXr P w) (xu (CXr P w) P w K mg base N qual scope f cd A outer s₀ H₀ E) E:=by
 intro pins σ H s e s' I h;obtain⟨a,C,dx,H',T,rfl,os,bare,un,hok,ea,hT,hz,F,hE⟩:=h;have I':=Inv.call' (ch:=[]) I os un hok bare (λb z=>absurd z (by simp));exact ni (old:=some (T,.none)) I' ea F (λT' v' z=>by cases z;exact⟨rfl,hT,Vz I.sz hz⟩) (by rw[m7 ea];exact hE)
def okX{fd:N0}(F:Fun K x qual st f fd)(S:yl N ps (zj st))(len:∀vs H Q E,sp vs H Q E->vs.length=ps.length)
  (A7:∀(cdv:Nq)(A:Nr)(outer:List Env)(s:Np)(H:Hp)(vs:N1)(Q:VK)(E:XK),Room k (A.deeper (envOfC qual (zj st) s.heap.objs.size f cdv))->sp vs H Q E ->
   ∃t,PSs (xu (CXr P w) P w K mg base N qual (zj st) f cdv A outer s H E) (zN st) t/\t { nx:=λ_ H'=>Q .non H',rt:=Q } (start N vs) H):FnOk P w K mg base (CXr P w) (k+1) f fd ps sp:=by
 obtain⟨oc,od,kV,doc,pm,an,cdv,ct,osl,rfl,lk,Ev⟩:=F.ex;exact dg lk Ev S len λA outer s H vs Q E hr Hc=>A7 cdv A outer s H vs Q E hr Hc
end
theorem PS.nox{t:TS}(h:PS X.nox st t):PS X st t:=λpins s σ H D I hw =>
 V6 (h pins s σ H D (I.wish _) hw) (λ_ _ q=>q.unwish) λ_ _ z=>False.elim z
end
section
section
variable {X:Cx}{pins:KB}{σ:St}{H:Hp}{s:Np}
def jr{A:Nr}{E:Da}(I:Inv X pins σ H s)(hN:X.N.Nodup)(hi:X.N[i]?=some x)(hk:X.env.scope.names.lookup x=some .local)
  (h:∀s',Inv X pins (σ.set i none) H s'->Q () s'):wpAny M A (do bindName X.env x .none;unbindBehindTheSuite X.env x pos) Q E s:=by
 obtain⟨m,hn,hl⟩:=id I.loc;have Kw:(X.env.scope.kind == .class||(X.env.scope.kind == .module&&X.env.locals != X.env.globals))=false:=by rw[I.ok.kind];rfl
 have hiσ:i<σ.length:=by rw[I.len];exact(VY.mp hi).1
 have cne:=I.cne;refine wpAny_nameGoes_keeps hk hn Kw λh' v IF hs=>?_;obtain⟨oL,_,_,hoL,_⟩:=id hn;refine h _ ⟨I.ok,I.os,I.bare,⟨λb o e n hb hx=>?_,λb o e n hb hx=>?_,I.base.free,λb o e hx=>?_,I.base.tups,I.base.frzs,I.base.tbls⟩,⟨_,IF,λj y v' e1 e2 e3=>?_⟩,λy c e=>?_,I.free,I.freeC,λp hp=>?_,λb ob e=>?_,by simpa using I.len⟩
 ·exact(hs.2 b (VD (V8 (VV e) I.ok.above))).trans (I.base.keep b o e n hb hx)
 ·obtain⟨sl,e1⟩:=I.base.slot b o e n hb hx;exact⟨sl,(hs.2 b (VD (V8 (VV e) I.ok.above))).trans e1⟩
 ·obtain⟨o',e1⟩:=I.base.there b o e hx;exact⟨o',(hs.2 b (VD (V8 (VV e) I.ok.above))).trans e1⟩
 ·by_cases hj:j=i
  ·subst hj;rw[SK hiσ]at e2;cases e2
  ·rw[List.getElem?_set_ne (U6 hj)]at e2;obtain⟨u',r',q⟩:=hl j y v' e1 e2 e3;refine⟨u',r',?_⟩;rcases q with⟨k,e⟩|⟨k,c,e,z⟩
   ·refine .inl ⟨k,?_⟩;have:y≠x:=λe=>hj (tB hN e1 (e▸hi));simp[this,e]
   ·exact .inr ⟨k,c,e,z.sameBut hs (cne y c e)⟩
 ·obtain⟨w',z⟩:=I.cell y c e;exact⟨w',z.sameBut hs (cne y c e)⟩
 ·obtain⟨e,n,ne,nf,d⟩:=I.pin p hp;exact⟨(hs.2 p.1 ne).trans e,n,ne,nf,d⟩
 ·refine(I.hok b ob e).stay (λc w' hc q=>(hs.2 c ?_).trans q) (λ_ q=>q) λ_ _ q=>q;rintro rfl;rcases hc with rfl|hc
  ·rw[I.free]at e;cases e
  ·rw[I.free]at hc;cases hc
abbrev jS(X:Cx)(a:Addr):Cx:={ X with A:=X.A.mark (some (.ref a)),calm:=false,xe:=λ_ _=>False }
def js(I:Inv X pins σ H s)(a:Addr):Inv (jS X a) pins σ H s :=
 ⟨⟨I.ok.mod,I.ok.kind,I.ok.glob,I.ok.blt,I.ok.above,I.ok.inj,I.ok.has,I.ok.cab,(λz=>absurd (show false=true from z) VG),I.ok.frames,I.ok.stk,I.ok.exf,I.ok.bs,I.ok.bsz,I.ok.noex,I.ok.exfs,I.ok.funs,I.ok.frf⟩,I.os,I.bare,I.base,I.loc,I.cell,I.free,I.freeC,I.pin,I.hok,I.len⟩
def qp(ok:X.Ok)(I:Inv (jS X a) pins σ H s):Inv X pins σ H s:=⟨ok,I.os,I.bare,I.base,I.loc,I.cell,I.free,I.freeC,I.pin,I.hok,I.len⟩
end
section
variable {prog:Nn}{w:No}{A:Nr}{E:Da}{s:Np}{env:Env}{K:Nl}
def Y6{Q:Bool->Shared->Prop}(X:K.In s.heap)(c:XCls K C)(j:XCls K J)(hm:mroIn K C (.ref J)=some true)(he:s.heap.get? a=some oe)(hc:oe.cls = .ref C)(hq:Q true s):wpAny M A (excMatches (.ref a) (.ref J)) Q E s:=by
 obtain⟨bm,N,nm,qq,bs,hdct,sn,sub,ab,col,dd,k0,k1,k2,k3,k5,hJ,T⟩:=aR X j;have hcB:(Value.ref J::bm).contains (.type "BaseException")=true:=by rw[List.contains_cons,T.hasType (b:=true) (by decide),Bool.or_true]
 have L:Looks M s.heap (isSubtype (.ref C) (.ref J)) true:=looks_mroIn X hm;have f:=tc_notTuple;obtain⟨hp,g,d,tk,os⟩:=s;unfold excMatches
 repeat(first|(with_reducible refine UD he ?_;rw[hc])|with_reducible refine UD hJ ?_|(with_reducible refine SX hJ ?_;rw[hcB])|with_reducible refine L.at ?_|wp_step)
 exact hq
def lO{e:Addr}{t:Nv}{n:Str}{C5:Nz}{rest:List ExceptHandler}{Q:Flow->Shared->Prop}
  (h:wpAny (model prog w) (A.mark (some (.ref e))) (eval t env) (λc X'=>wpAny (model prog w) (A.mark (some (.ref e))) (excMatches (.ref e) c) (λb Y'=>b=true /\
   wpAny (model prog w) (A.mark (some (.ref e))) (setFlight (.ref e) none) (λ_ W'=>wpAny (model prog w) (A.mark (some (.ref e))) (storeName env n (.ref e)) (λ_ Sq =>
    wpAny (model prog w) (A.mark (some (.ref e))) (execs (So :: C5) env) (λf RX=>wpAny (model prog w) A (do bindName env n .none;unbindBehindTheSuite env n pos) (λ_ RS=>Q f RS) (λ_ _=>False) RX)
     (λ_ _=>False) Sq) (λ_ _=>False) W') (λ_ _=>False) Y') (λ_ _=>False) X') (λ_ _=>False) s) :
  wpAny (model prog w) A (handleBy (.ref e) env (.ExceptHandler (some t) (some n) (So :: C5) pos::rest)) Q E s:=by
 refine wpAny_handleBy_cons (codeAny_handlers_test (V6 h (λc X' h₁=>V6 h₁ (λb Y' V'=>?_) λ_ _ z=>z.elim) λ_ _ z=>z.elim)) (by intro q;cases q);obtain⟨rfl,V'⟩:=V';refine codeAny_handlers_suite_as (V6 V' (λ_ W' Sm=>V6 Sm (λ_ Sq Se=>V6 Se (λf RX RQ=>?_) λ_ _ z=>z.elim) λ_ _ z=>z.elim) λ_ _ z=>z.elim);exact V6 RQ (λ_ _ z=>z) λ_ _ z=>z.elim
end
structure yw(P:Nn)(w:No)(K:Nl)(mg:FB)(base:Nw)(k:Nat)(x:Str)(ps:GM)(sp:Sp):Prop where
 ex:∃(f:Addr)(fd:N0),FnOk P w K mg base (CXr P w) k f fd ps sp/\Binds K fd ps []/\mg x=some (.ref f)/\keepIn K (.ref f)=true
end
section
def vo:bootBuiltins "ValueError"=some (.type "ValueError"):=by decide +kernel
section
variable {X:Cx}
end
section
variable {P:Nn}{w:No}{K:Nl}{mg:FB}{base:Nw}
def Def.calleeX(F:Def K mg x st ps)(S:yl N ps (zj st))(len:∀vs H Q E,sp vs H Q E->vs.length=ps.length)
  (A7:∀(f:Addr)(cdv:Nq)(A:Nr)(outer:List Env)(s:Np)(H:Hp)(vs:N1)(Q:VK)(E:XK),Room k (A.deeper (envOfC x (zj st) s.heap.objs.size f cdv))->N.Nodup->sp vs H Q E ->
   ∃σ t,start N vs=σ/\PSs (xu (CXr P w) P w K mg base N x (zj st) f cdv A outer s H E) (zN st) t/\t { nx:=λ_ H'=>Q .non H',rt:=Q } σ H):yw P w K mg base (k+1) x ps sp:=by
 obtain⟨f,fd,F,b,hm⟩:=F.ex;refine⟨f,fd,okX F S len λcdv A outer s H vs Q E hr h=>?_,.all b,hm,F.kp⟩;obtain⟨σ,t,e,ht,q⟩:=A7 f cdv A outer s H vs Q E hr S.nd h;exact⟨t,ht,by rw[e];exact q⟩
def wf{E:XK}(C:yw X.prog X.w X.K X.mg X.base k x ps sp)(hx:xW (CXr X.prog X.w) X E)(hr:Room k' X.A)(hk:k<=k')(ha:PA X (e::es) t)(hg:Gl X x:=by rfl)
  (CQ:(x==("__debug__":Str))=false:=by decide) (he:starEach (e::es) X.env=(false,eval e X.env)::starEach es X.env:=by rfl) (AZ:(backTo pos (starEach es X.env)).any (·.1)=false:=by rfl) :
  PE X (.Call (.Name x p) (e::es) [] pos) (k4 sp [] E t):=by
 obtain⟨f,fd,F,b,hm,kp⟩:=C.ex;exact kH F (hr.mono hk) hg hm kp b .nil hx ha CQ he AZ
end
end
section
def y9{E:XK}(he:PE X e te)(hx:pH X E)(hc:X.calm=true):PS X (.Raise (some e) none pos) (mj X.K E te) :=
 λpins s σ H D I h=>fo he hx (I.ok.hd hc) pins s σ H D I h
def xcls_mk(x:xIn K C=true)(ga:findIn K (.ref C) "__getattribute__"=some (some (.builtin "BaseException.__getattribute__")))(gt:findIn K (.ref C) "__getattr__"=some none)
  (sa:findIn K (.ref C) "__setattr__"=some (some (.builtin "object.__setattr__"))) (mb:mroIn K C (.type "BaseException")=some true) (mo:mroIn K C (.type "object")=some true) (kp:keepIn K (.ref C)=true)
  (ca:findIn K (.ref C) "__class__"=some (some (.builtin "object.__class__"))) (cg:specialIn K (.builtin "object.__class__") "__get__"=some (some (.builtin "getset_descriptor.__get__"))) (ct:takesIn K (.builtin "object.__class__")=some true):XCls K C:=⟨x,ga,gt,sa,mb,mo,kp,ca,cg,ct⟩
end
section
structure DefN(K:Nl)(C:Addr)(qual:Str)(st:Nx)(ps:GM)(ds:GE):Prop where
 ex:∃(f:Addr)(oc:Nq)(od:HK)(dV kV doc pm:Nq)(an:HK)(cdv ct:Nq)(osl:Nh),K.lookup f=some ⟨oc,od,.func (fnOf "__init__" qual (y8 st) (zN st) (zj st) dV kV doc pm an cdv ct),osl⟩/\codeIn K cdv qual=true/\Mk K C f /\
  Binds K (fnOf "__init__" qual (y8 st) (zN st) (zj st) dV kV doc pm an cdv ct) ps []/\Binds K (fnOf "__init__" qual (y8 st) (zN st) (zj st) dV kV doc pm an cdv ct) ps ds
structure t9(P:Nn)(w:No)(K:Nl)(mg:FB)(base:Nw)(k:Nat)(C:Addr)(ps:GM)(ds:GE)(sp:Sp):Prop where
 ex:∃(f:Addr)(fd:N0),FnOk P w K mg base CX0 k f fd ps sp/\Binds K fd ps []/\Binds K fd ps ds/\Mk K C f
def DefN.callee(F:DefN K C qual st ps ds)(S:yl N ps (zj st))(len:∀vs H Q E,sp vs H Q E->vs.length=ps.length)
  (A7:∀(f:Addr)(cdv:Nq)(A:Nr)(outer:List Env)(s:Np)(H:Hp)(vs:N1)(Q:VK)(E:XK),Room k (A.deeper (envOfC qual (zj st) s.heap.objs.size f cdv))->N.Nodup->sp vs H Q E ->
   ∃σ t,start N vs=σ/\PSs (xu CX0 P w K mg base N qual (zj st) f cdv A outer s H E).nox (zN st) t/\t { nx:=λ_ H'=>Q .non H',rt:=Q } σ H):t9 P w K mg base (k+1) C ps ds sp:=by
 obtain⟨f,oc,od,dV,kV,doc,pm,an,cdv,ct,osl,lk,Ev,M,b0,b1⟩:=F.ex;refine⟨f,_,dg lk Ev S len λA outer s H vs Q E hr Hc=>?_,b0,b1,M⟩;obtain⟨σ,t,e,h,q⟩:=A7 f cdv A outer s H vs Q E hr S.nd Hc;exact⟨t,h.nox,by rw[e];exact q⟩
section
variable {X:Cx}{C:Addr}{x:Str}{k k':Nat}{ps:GM}{ds:GE}{DY:N1}{sp:Sp}{t:TA}{e:Nv}{es:Nd}{p pos:Pos}
def bu(C':t9 X.prog X.w X.K X.mg X.base k C ps ds sp)(hr:Room k' X.A)(hk:k+1<=k')(hm:X.mg x=some (.ref C))(ha:PA X (e::es) t)(hg:Gl X x:=by rfl)
  (CQ:(x==("__debug__":Str))=false:=by decide) (he:starEach (e::es) X.env=(false,eval e X.env)::starEach es X.env:=by rfl) (AZ:(backTo pos (starEach es X.env)).any (·.1)=false:=by rfl) :
  PE X (.Call (.Name x p) (e::es) [] pos) (gf C sp [] E0 t):=by
 obtain⟨f,fd,F,b,_,M⟩:=C'.ex;exact cP M F (hr.mono hk) hg hm b .nil fY ha CQ he AZ
end
def bV{od:HK}
  (a:findIn K (.ref C) "__init__"=some (some (.ref f))) (l:K.lookup f=some ⟨oc,od,.func (fnOf "__init__" qual (y8 st) (zN st) (zj st) dV kV doc pm an cdv ct),osl⟩)
  (c:codeIn K cdv qual=true) (fn:isFn K (.ref f)=true) (mk:makesIn K C=true) (kp:keepIn K (.ref C)=true)
  (b0:Binds K (fnOf "__init__" qual (y8 st) (zN st) (zj st) dV kV doc pm an cdv ct) ps []) (b1:Binds K (fnOf "__init__" qual (y8 st) (zN st) (zj st) dV kV doc pm an cdv ct) ps ds):DefN K C qual st ps ds :=
 ⟨f,oc,od,dV,kV,doc,pm,an,cdv,ct,osl,l,c,⟨mk,a,fn,kp⟩,b0,b1⟩
end
section
section
variable {prog:Nn}{w:No}{A:Nr}{E:Da}{s:Np}
end
section
variable {X:Cx}
def WW(K:Nl):V->List V->Hp->VK->Prop:=λx vs H Q=>∃(l:Addr)(ns:Nj)(k:Int),x = .ref l/\vs=[.int k]/\SqL K H l (ns.map V.int)/\k∈ns/\ns.length<=1000/\Q (.int (ns.idxOf k:Nat)) H
theorem t7:∀{ns:List Int}{Af:List Value},Vals (ns.map V.int) Af->IntsAre Af ns
 |[],_,r=>by cases r;exact .nil
 |n::ns,_,r=>by
  cases r with
  |cons r1 r2 =>
   obtain⟨t,rfl⟩:=r1;exact .cons n t (t7 r2)
def al:MtR X "list.index" (WW X.K):=λpins s σ H x xs v us Q I rx rs h=>by
 obtain⟨l,ns,k,rfl,rfl,hq,hk,hz,q⟩:=h;cases rx;obtain⟨u,rfl,ru⟩:=xM rs;obtain⟨t,rfl⟩:=(show∃t,u=Value.int k t from ru)
 obtain⟨Af,rv,pl,_⟩:=I.list hq;have hi:=t7 rv;obtain⟨⟨cls,dd,data,sl⟩,ho,hc,n,hd⟩:=pl.isList;simp only at hc hd;subst hc hd;have Ar:=hi.length;have hj:ns.idxOf k<ns.length:=List.idxOf_lt_length_iff.mpr hk;refine Te SM ⟨_,ho,rfl⟩ F.entry_list_index (F.args_list_index_2 _ _)
  (SeqAt.list_indexAt l Af.toArray n dd sl (.int k t) (isInt k) (ns.idxOf k) (by simpa[Ar]using hj) (by lia) ?_ ?_) ⟨ho,λy hy=>(eq_isInt k t hi y (by simpa using hy)).at _ _,⟨.int _,H,I.tok _,⟨_,rfl⟩,q⟩⟩
 ·show isInt k Af[ns.idxOf k]=true;rw[isInt_at k hi _ (by lia) hj];simpa using List.getElem_idxOf hj
 ·intro j hjs A3;show isInt k Af[j]=false;rw[isInt_at k hi j (by simpa using hjs) (by lia)];exact ne_of_lt_idxOf A3 _
end
end
end My
namespace My
variable{x y:Str}{a c k:Nat}{p r ys:Nf}
section
open PySem PySem.StrLaws PySem.Builtin PySem.Builtin.Str
def jl(y:List Nat):List (List Nat)->List Nat
 |[]=>[]
 |[p]=>p
 |p::q::r=>p++y++jl y (q::r)
theorem wA(y:Str):∀ps:List Str,(Str.join y ps).cps.toList=jl y.cps.toList (ps.map λp=>p.cps.toList)
 |[]=>rfl
 |[p]=>rfl
 |p::q::r=>by
  have ih:=wA y (q::r);show(p++y++Str.join y (q::r)).cps.toList=_;rw[Ux,Ux,UR,UR,ih]
  rfl
def jf(hy:y.cps.toList=c::ys)(h:At x y x.length k):x.cps.toList[k]?=some c:=by
 have h2:=h.2;rw[subAt_eq]at h2;have h3:=eq_of_beq h2;rw[hy]at h3;have hl:y.length=ys.length+1:=by
  have:y.cps.toList.length=ys.length+1:=by rw[hy];rfl
  simpa[Str.length]using this
 rw[hl]at h3;have h4:((x.cps.toList.drop k).take (ys.length+1))[0]?=some c:=by rw[h3];rfl
 rw[U4 (S6 _),Ts]at h4;exact h4
def W4(h:x.cps.toList.drop a=p++y.cps.toList++r)(ha:a<=x.length):At x y x.length (a+p.length):=by
 have hn:x.cps.toList.length=x.length:=by simp[Str.length]
 have hy:y.cps.toList.length=y.length:=by simp[Str.length]
 have hl:=Vp List.length h;rw[V1,VU,VU,hn,hy]at hl;refine⟨by lia,?_⟩;rw[subAt_eq,<-List.drop_drop,h,Vm,List.drop_left,<-hy,List.take_left];exact Uq _
theorem tJ(x y:Str)(c:Nat)(ys:List Nat)(hy:y.cps.toList=c::ys):∀(ps:List Str)(p:Str)(GJ:List Nat)(a f:Nat),ChainG x y x.length a GJ f->(∀k,f<=k->¬At x y x.length k)->a<=x.length ->
  x.cps.toList.drop a=jl y.cps.toList ((p::ps).map λp=>p.cps.toList)->(∀q∈p::ps,c∉q.cps.toList)->partsFrom x y.length a GJ=p::ps
 |[],p,GJ,a,f,hG,hn,ha,hd,hf=>by
  have Hf:x.cps.toList.drop a=p.cps.toList:=hd;have CA:∀k,a<=k->¬At x y x.length k:=λk hk hA=>by
   have h1:=jf hy hA;have h2:(x.cps.toList.drop a)[k-a]?=some c:=by rw[Ts];rw[show a+(k-a)=k by lia];exact h1
   rw[Hf]at h2;exact hf p VE (VR h2)
  cases GJ with
  |nil =>
   show[strSub x a x.length]=[p]
   congr 1
   apply Str.ext';apply Ur.mp;rw[strSub_toList,Hf];have hn:x.cps.toList.length=x.length:=by simp[Str.length]
   have hl:=Vp List.length Hf;rw[V1,hn]at hl;exact UM (by lia)
  |cons d r=>exact absurd hG.2.1 (CA d hG.1)
 |q::ps,p,GJ,a,f,hG,hn,ha,hd,hf=>by
  have Hf:x.cps.toList.drop a=p.cps.toList++y.cps.toList++jl y.cps.toList ((q::ps).map λp=>p.cps.toList):=hd;have hA:=W4 Hf ha;have AZ:p.cps.toList.length=p.length:=by simp[Str.length]
  rw[AZ]at hA;have CA:∀k,a<=k->k<a+p.length->¬At x y x.length k:=λk hk hk2 hA=>by
   have h1:=jf hy hA;have h2:(x.cps.toList.drop a)[k-a]?=some c:=by rw[Ts];rw[show a+(k-a)=k by lia];exact h1
   rw[Hf,Vm,U9 (by rw[AZ];lia)]at h2;exact hf p VE (VR h2)
  cases GJ with
  |nil =>
   have e:f=a:=hG;exact absurd hA (hn _ (by lia))
  |cons d r =>
   obtain⟨g1,g2,g3,g4⟩:=hG;have e:d=a+p.length:=by
    rcases Th d (a+p.length)with h|h|h
    ·exact absurd g2 (CA d g1 h)
    ·exact h
    ·exact absurd hA (g3 _ (by lia) h)
   subst e;show strSub x a (a+p.length)::partsFrom x y.length (a+p.length+y.length) r=p::q::ps;have e1:strSub x a (a+p.length)=p:=by
    apply Str.ext';apply Ur.mp;rw[strSub_toList,Hf,Nat.add_sub_cancel_left,Vm,<-AZ,List.take_left]
   have EI:y.cps.toList.length=y.length:=by simp[Str.length]
   have e2:x.cps.toList.drop (a+p.length+y.length)=jl y.cps.toList ((q::ps).map λp=>p.cps.toList):=by
    rw[Nat.add_assoc,<-List.drop_drop,Hf,<-AZ,<-EI,<-VU,List.drop_left]
   rw[e1,tJ x y c ys hy ps q r _ f g4 hn (by have:=g2.1;lia) e2 λz hz=>hf z (VJ _ hz)]
def dy(x:Str):1<=Builtin.Str.strKind x:=by
 unfold Builtin.Str.strKind;split
 ·exact VW _
 ·split<;>decide
def tZ(y:Str)(c:Nat)(ys:List Nat)(hy:y.cps.toList=c::ys)(hk:Builtin.Str.strKind y=1)(p:Str)(ps:List Str)(hf:∀q∈p::ps,c∉q.cps.toList):Txt.split (Txt.join y (p::ps)) y=p::ps:=by
 have hj:Txt.join y (p::ps)=Str.join y (p::ps):=glued_eq_join y (p::ps);rw[hj];have EI:1<=y.length:=by
  have:y.cps.toList.length=ys.length+1:=by rw[hy];rfl
  have:y.length=ys.length+1:=by simpa[Str.length]using this
  lia
 have hJ:=wA y (p::ps);obtain⟨f,hG,hn⟩:=occ_tight (Str.join y (p::ps)) y EI;have key:=tJ (Str.join y (p::ps)) y c ys hy ps p _ 0 f hG hn (V5 _) (by rw[List.drop_zero];exact hJ) hf;unfold Txt.split;have one:ps=[]->Str.join y (p::ps)=p:=λe=>by rw[e];rfl
 split
 ·rename_i hc;rw[To,decide_eq_true_eq,decide_eq_true_eq]at hc;rcases hc with h|h
  ·cases ps with
   |nil=>rw[one rfl]
   |cons q r =>
    exfalso;have hl:=Vp List.length hJ;have e1:(Str.join y (p::q::r)).cps.toList.length=(Str.join y (p::q::r)).length:=by simp[Str.length]
    have e2:y.cps.toList.length=y.length:=by simp[Str.length]
    rw[e1]at hl;simp only[List.map_cons,jl,VU,e2]at hl;lia
  ·have:=dy (Str.join y (p::ps));lia
 ·split
  ·rename_i h1 h2;rw[List.isEmpty_iff]at h2;rw[h2]at key;refine Eq.trans ?_ key;show[_]=[strSub _ 0 _]
   rw[sub_whole]
  ·rw[partsBetween_eq];exact key
theorem lR{y:List Nat}{c:Nat}:∀{ps:List (List Nat)},c∈jl y ps->c∈y\/∃p∈ps,c∈p
 |[],h=>by cases h
 |[p],h=>.inr ⟨p,VX.mpr rfl,h⟩
 |p::q::r,h=>by
  have h':c∈p++y++jl y (q::r):=h;rcases VQ.mp h' with h|h
  ·rcases VQ.mp h with h|h
   ·exact .inr ⟨p,VE,h⟩
   ·exact .inl h
  ·rcases lR h with h|⟨p',hp,h⟩
   ·exact .inl h
   ·exact .inr ⟨p',VJ _ hp,h⟩
end
end My
namespace My
open PySem PySem.Spec PySem.W PySem.Calls L2
open PyProof.Rows hiding St
variable{P prog:Nn}{w:No}{A:Nr}{E Q:Da}{Y' s s' s1:Np}{J qual x y z:Str}{t:TA}{tk u:Tok}{AG c e e1 e2 iter l o tg:Nv}{ta td ti tl to:TE}{B2 GB MC apos cpos jp p p' pos pt px py yp:Pos}{mN:FB}{rest:GE}{K:Nl}{C Ja T a ax it:Addr}{h h':Nw}{X:Cx}{AE es:Nd}{i j k k':Nat}{ev v:Nq}{pins:KB}{H H1:Hp}{dx:HK}{n:Bool}{C5 b body:Nz}{wi:TI}{g:TG}{tb:TS}{items vs:Nk}{ixs:Nf}{tt:Addr->Shared->Hp->List Addr->TT}{te:Addr->Shared->Hp->List Addr->TE}{D:xX}{So st:Nx}{N ps:GM}{sp:Sp}{pl:Sem Bool}{hs:List ExceptHandler}{ts:Addr->TS}
section
section
variable {X:Cx}
def lI{t:Tok}(hy:(y.length==0)=false)(hsz:x.length<=sizeLine)(Fx:(Txt.split x y).length<=sizeLine)
  (hq:∀(l:List (Str×Tok)) k,l.map (·.1)=Txt.split x y->Q (.ref s.heap.objs.size) { s with heap:=s.heap.push { cls:=.type "list",data:=.seq (strValues l).toArray },toks:=k }) :
  wpAny (model prog w) A (call (.builtin "str.split") [.str x t,.str y u]) Q E s:=by
 cases h1:(decide (x.length<y.length)||decide (Builtin.Str.strKind x<Builtin.Str.strKind y))
 ·cases hf:(Builtin.Str.occurrences x y 0 x.length (x.length+1)).isEmpty
  ·have e:Txt.split x y=Builtin.Str.partsBetween x (Builtin.Str.occurrences x y 0 x.length (x.length+1)) y.length:=(VF (ne_true_of_eq_false h1)).trans (VF (ne_true_of_eq_false hf));rw[e]at Fx;refine Te F.slot_str_split (Tr _ _ _) F.entry_str_split (F.args_str_split_2 _ _) (meets_str_split_sep x y t u h1 hy hf hsz Fx) ?_;show wants Q E _ { s with toks:=_,heap:=s.heap.push { cls:=.type "list",data:=.seq (strsFrom s.toks (Builtin.Str.partsBetween x (Builtin.Str.occurrences x y 0 x.length (x.length+1)) y.length)).toArray } };rw[strsFrom_eq];exact hq (numbered s.toks _) _ ((numbered_texts _ _).trans e.symm)
  ·exact Te F.slot_str_split (Tr _ _ _) F.entry_str_split (F.args_str_split_2 _ _) (meets_str_split_not_found x y t u h1 hy hf)
    (hq [(x,t)] _ ((VF (ne_true_of_eq_false h1)).trans (VB hf)).symm)
 ·exact Te F.slot_str_split (Tr _ _ _) F.entry_str_split (F.args_str_split_2 _ _) (meets_str_split_cannot_occur x y t u h1)
   (hq [(x,t)] _ (VB h1).symm)
theorem pA:∀(l:List (Str×Tok)),Vals ((l.map (·.1)).map V.str) (strValues l)
 |[]=>.nil
 |p::l=>.cons ⟨p.2,rfl⟩ (pA l)
def Yg(to:TE)(t:TA):TE:=fun σ H Q=>to σ H (wW λx H1=>t σ H1 (on1 (wW λy H2=>(y.length==0)=false/\x.length<=sizeLine/\(Txt.split x y).length<=1000/\∀(D:Addr)(H3:Hp),H2 D=none->Same H2 H3->H3 D=some (.lst ((Txt.split x y).map V.str))->Q (.ref D) H3)))
theorem pi(ho:PE X o to)(ha:PA X [e] t)
  (Cd:attributeBase o "split" X.env (eval o X.env)=eval o X.env:=by rfl)
  (CP:((backTo cpos (starEach [e] X.env)).all (λx=>!x.1)&&(backToKw cpos (keywordEach [] X.env)).all (λx=>x.1.isSome)
  &&decide ([e].length+([]:List Keyword).length+(if([]:List Keyword).isEmpty then 0 else 1)<30))=true:=by rfl)
  (Cc:(apos.endLine==cpos.line)=true:=by rfl) (hs:starEach [e] X.env=[(false,eval e X.env)]:=by rfl) :
  PE X (.Call (.Attribute o "split" apos) [e] [] cpos) (Yg to t):=by
 intro pins s σ H Q I h;refine Uf Cd CP Cc rfl (thn (ho pins s σ H _ I h) λv s1 ⟨x,H1,I1,r1,q1⟩=>?_);cases x with
 |str x =>
  obtain⟨t1,rfl⟩:=r1;refine⟨"str","str.split",Tv,F.slot_str_split,F.type_str_split,Tr _ _ _,(λ_ e=>nomatch e),?_⟩;have hA:=ha cpos pins s1 σ H1 _ I1 q1;rw[hs]at hA ⊢;refine Ue rfl (TH ?_);refine thn hA λus s2 ⟨vs,H2,I2,r2,q2⟩=>?_;rcases vs with _|⟨y,_|⟨z,rr⟩⟩
  ·exact(show False from q2).elim
  ·cases y with
   |str y =>
    obtain⟨hy,hsz,Fx,q⟩:=(show(y.length==0)=false/\x.length<=sizeLine/\(Txt.split x y).length<=1000/\∀(D:Addr)(H3:Hp),H2 D=none->Same H2 H3->H3 D=some (.lst ((Txt.split x y).map V.str))->Q (.ref D) H3 from q2)
    obtain⟨u,rfl,ru⟩:=xM r2;obtain⟨t2,rfl⟩:=ru;have fr:H2 s2.heap.objs.size=none:=I2.hok.fresh (VW _);refine lI hy hsz (UQ (xO Fx)) λl k e=>?_;refine⟨.ref s2.heap.objs.size,upd H2 s2.heap.objs.size (.lst ((Txt.split x y).map V.str)),?_,rfl,q _ _ fr (yY fr _) zv⟩;refine I2.laid (λb o e1=>WB _ e1) (VW _) ⟨?_,strValues l,0,?_,?_⟩
    ·rw[WA];exact UQ (xO Fx)
    ·rw[<-e];exact pA l
    ·exact VS _ rfl
   |_=>exact(show False from q2).elim
  ·exact(show False from q2).elim
 |_=>exact(show False from q1).elim
def Yh(to:TE)(t:TA):TE:=fun σ H Q=>to σ H (wW λx H1=>t σ H1 (on1 (wW λy H2=>Q (.bl (Txt.startswith x y)) H2)))
theorem wN(ho:PE X o to)(ha:PA X [e] t)
  (Cd:attributeBase o "startswith" X.env (eval o X.env)=eval o X.env:=by rfl)
  (CP:((backTo cpos (starEach [e] X.env)).all (λx=>!x.1)&&(backToKw cpos (keywordEach [] X.env)).all (λx=>x.1.isSome)
  &&decide ([e].length+([]:List Keyword).length+(if([]:List Keyword).isEmpty then 0 else 1)<30))=true:=by rfl)
  (Cc:(apos.endLine==cpos.line)=true:=by rfl) (hs:starEach [e] X.env=[(false,eval e X.env)]:=by rfl) :
  PE X (.Call (.Attribute o "startswith" apos) [e] [] cpos) (Yh to t):=by
 intro pins s σ H Q I h;refine Uf Cd CP Cc rfl (thn (ho pins s σ H _ I h) λv s1 ⟨x,H1,I1,r1,q1⟩=>?_);cases x with
 |str x =>
  obtain⟨t1,rfl⟩:=r1;refine⟨"str","str.startswith",Tv,F.slot_str_startswith,F.type_str_startswith,Tr _ _ _,(λ_ e=>nomatch e),?_⟩;have hA:=ha cpos pins s1 σ H1 _ I1 q1;rw[hs]at hA ⊢;refine Ue rfl (TH ?_);refine thn hA λus s2 ⟨vs,H2,I2,r2,q2⟩=>?_;rcases vs with _|⟨y,_|⟨z,rr⟩⟩
  ·exact(show False from q2).elim
  ·cases y with
   |str y =>
    have q:Q (.bl (Txt.startswith x y)) H2:=q2;obtain⟨u,rfl,ru⟩:=xM r2;obtain⟨t2,rfl⟩:=ru;exact SC.startswith ⟨.bl _,H2,I2,rfl,q⟩
   |_=>exact(show False from q2).elim
  ·exact(show False from q2).elim
 |_=>exact(show False from q1).elim
end
end
section
open Builtin Builtin.ObjectAttr
section
variable {prog:Nn}{w:No}{A:Nr}{E:Da}{h:Nw}{g:Array GenState}{d:Drawn}{t:Nat}{os:OsState}{C N:Addr}{bm:GE}{nm q:Str}{bs:GE}{hdct:Bool}{sn:GM}{sub:GE}{ab:Bool}{col:Option Bool}{dd:HK}{k0 k1 k2 k3 k5:Option Value}
def tu{Q:Fin->Shared->Prop}(T:OwnTail h vbm bm)
  (hC:h.get? C=some (excClassObj nm q C N bs bm hdct sn sub ab col dd k0 k1 k2 k3 k5 "ValueError.__new__")) (hn:h.Ns N mN) (J4:mN "__init__"=none)
  (hq:∀h' e,h.objs.size<=e->Heap.MadeExcOf h h' e (.ref C) rest->Q (.done (.ret (.ref e))) ⟨h',g,d,t,os⟩) (D3:rest.length<=sizeLine) :
  wpAny (model prog w) A (Builtin.«type.__call__» ⟨.ref C::rest,[]⟩) Q E ⟨h,g,d,t,os⟩:=by
 have F:=F.excBase_ValueError
 repeat(first|with_reducible refine UD hC ?_|with_reducible refine wpAny_madeBy_exc hC ?_|wp_step)
 refine codeAny_call_builtin_code (Tt _ F.quiet) (wpAny_check_new_subT F T hC ?_);refine codeAny_exc_new_subT F T hC ?_ D3;show wpAny _ _ _ _ _ _;have kp:∀b o,h.get? b=some o->((h.push { cls:=.type "tuple",data:=.seq rest.toArray }).push { cls:=.ref C,data:=.fields #[.ref h.objs.size,.none,.none,.none,.bool false,.none] }).get? b=some o:=λb o e=>WB _ (WB _ e);have Sk:=kp _ _ hC;have RP:=hn.keeps kp;have GG:((h.push { cls:=.type "tuple",data:=.seq rest.toArray }).push
   { cls:=.ref C,data:=.fields #[.ref h.objs.size,.none,.none,.none,.bool false,.none] }).get? (h.objs.size+1)=some
   { cls:=.ref C,data:=.fields #[.ref h.objs.size,.none,.none,.none,.bool false,.none] }:=by heap_get
 have hcC:(Value.ref C::bm).contains (.ref C)=true:=by simp
 have RU:=T.keeps kp;unfold isInstance
 repeat(first|with_reducible refine UD GG ?_|(with_reducible refine SX Sk ?_;rw[hcC])|wp_step)
 show wpAny _ _ (typeLookup (.ref C) _) _ _ _;refine wpAny_typeLookup_tail Sk RP RU F.mroIs F.init.lookup ?_;rw[J4];refine Vh (WC (Sv (F.init.bind _) ?_));refine WC (SQ (TC F.init.plain F.initEntry (wpAny_check_init_subT F RU Sk GG rfl ?_)))
 wp_walk
 refine hq _ (h.objs.size+1) (UG _) ⟨λb o hb=>?_,TJ (UG _),h.objs.size+2,?_,TJ (by lia),?_⟩
 ·rw[V0 _ _ (Uw (Uy (VV hb)))];exact WB _ (kp _ _ hb)
 ·rw[Vn _ (WB _ GG) rfl];simp only[Vk]
  rfl
 ·rw[V0 _ _ (show h.objs.size+1≠h.objs.size+2 by lia)];exact Heap.get?_push_at (by simp only[Vk]) rfl
def iE(T:OwnTail h vbm bm)
  (hC:h.get? C=some (excClassObj nm q C N bs bm hdct sn sub ab col dd k0 k1 k2 k3 k5 "ValueError.__new__")) (hn:h.Ns N mN) (J4:mN "__init__"=none)
  (hq:∀h' e,h.objs.size<=e->Heap.MadeExcOf h h' e (.ref C) rest->Q (.ref e) ⟨h',g,d,t,os⟩) (D3:rest.length<=sizeLine) :
  wpAny (model prog w) A (call (.ref C) rest) Q E ⟨h,g,d,t,os⟩:=by
 have f1:=tc_lookup;have f2:=tc_bind (.ref C);have hT:(⟨h,g,d,t,os⟩:Np).TypeIs (.ref C) "type":=⟨_,hC,rfl⟩
 refine SQ (codeAny_of_tree ?_);show wpAny _ _ (callAny (.ref C) _) _ _ _
 repeat(any_goals (first|assumption|with_reducible refine UD hC ?_|wp_step))
 refine⟨rfl,?_⟩;refine codeAny_call_builtin_at (Tt _ (by decide +kernel)) entry_typeCall (wpAny_check_type_call_sub hC (tu T hC hn J4 (λh' e hz hm=>?_) D3));exact hq h' e hz hm
end
structure xT(K:Nl)(C:Addr):Prop where
 x:XCls K C
 e:excIn K C vbm "ValueError.__new__"=true
def Ym(X:K.In h)(c:xT K C):∃bm N nm q bs hdct sn sub ab col dd k0 k1 k2 k3 k5 mN,h.get? C=some (excClassObj nm q C N bs bm hdct sn sub ab col dd k0 k1 k2 k3 k5 "ValueError.__new__")/\h.Ns N mN/\mN "__init__"=none/\OwnTail h vbm bm:=by
 have q:=c.e;unfold excIn at q;split at q
 ·rename_i dd cd sl ho;split at q
  ·rename_i C' bm k0 k1 k2 k3 n k5 hm hs;simp only[Vy,UL,Bool.not_eq_true']at q;obtain⟨⟨⟨⟨⟨rfl,rfl⟩,Ia⟩,ht⟩,hok⟩,J4⟩:=q;obtain⟨nm,bs,mro,ns,qn,hd,sn,sub,ab,col,del⟩:=cd;dsimp only at hm Ia hok J4;subst hm Ia;have IC:sl=#[k0,k1,k2,k3,some (.builtin "ValueError.__new__"),k5]:=by
    obtain⟨l⟩:=sl;simp only at hs;rw[hs]
   subst IC;exact⟨bm,ns,nm,qn,bs,hd,sn,sub,ab,col,dd,k0,k1,k2,k3,k5,_,X _ _ ho,.of_isNs (isNs_of_in X hok),nsMap_none_of_in X hok J4,tail_of_in X ht⟩
  ·cases q
 ·cases q
def gg(C:Addr)(t:TA):TE:=fun σ H Q=>t σ H λvs H1=>vs.length<=sizeLine/\∀a,H1 a=none->Q (.ref a) (upd H1 a (exO a C none true))
def yM(c:xT X.K C)(hm:X.mg x=some (.ref C))(ha:PA X (e::es) t)(hg:Gl X x:=by rfl)
  (CQ:(x==("__debug__":Str))=false:=by decide) (he:starEach (e::es) X.env=(false,eval e X.env)::starEach es X.env:=by rfl) (AZ:(backTo pos (starEach es X.env)).any (·.1)=false:=by rfl) :
  PE X (.Call (.Name x p) (e::es) [] pos) (gg C t):=by
 intro pins s σ H Q I h;refine UB (xQ I hg hm ?_ CQ);refine TX (h₀:=X.base) I.ok.mod.kin c.x.kp (thn (ha pos pins s σ H _ I h) λus s1 ⟨vs,H1,I1,r,hz,q⟩=>⟨I1.kIn,?_⟩) he AZ;obtain⟨bm,N,nm,qq,bs,hdct,sn,sub,ab,col,dd,k0,k1,k2,k3,k5,mN,hC,hn,J4,T⟩:=Ym I1.kIn c;obtain⟨hh,g,d,tt,os⟩:=s1;refine iE T hC hn J4 (λh' a LW BG=>?_) (show us.length<=sizeLine by rw[<-r.length];exact hz);obtain⟨tp,ht,_,_⟩:=BG.there;have I2:Inv X pins σ (upd H1 a (exO a C none true)) ⟨h',g,d,tt,os⟩:=I1.laid (a:=a) (t':=tt) BG.keeps LW (ul ⟨_,_,.none,ht,rfl,rfl,rfl,rfl,λ_=>rfl,rfl⟩);exact⟨.ref a,_,I2,rfl,q a (I1.hok.fresh LW)⟩
def XZ(K:Nl):List V->Hp->VK->Prop:=λxs H Q=>∃a C dx n c cv b,xs=[.ref a,c]/\H a=some (exO a C dx n)/\(dx=none\/∃d fs,dx=some d/\H d=some (.xd fs))/\XCls K C/\Yk c=some cv/\kitOne K (.ref C) cv=some b/\Q (.bl b) H
section
variable {X:Cx}
def xD:xo X (.builtin "isinstance") (XZ X.K):=by
 intro pins s σ H xs us Q I r h;obtain⟨a,C,dx,n,c,cv,b,rfl,ea,hd,xc,rc,e,q⟩:=h;obtain⟨u,w',rfl,r1,r2⟩:=tw r;cases r1;obtain rfl:=gr rc r2;obtain⟨oe,vs,v1,e1,e2,e3,e4,e5,e6⟩:=xP I.hok ea;rcases hd with rfl|⟨d,fs,rfl,ed⟩
 ·have J:W.InstAt s.heap a oe C none:=⟨e1,e2,by unfold notCls;rw[e4],by rw[e3];trivial⟩
  exact kia_one (dz (ox:=oe) (od:=none) xc) I.kIn J e (λz=>nomatch z) λtk=>⟨.bl b,H,I.tok tk,rfl,q⟩
 ·obtain⟨mA,ns,_⟩:=(show∃mA,s.heap.Ns1 d mA/\∀f,RelO (fs.lookup f) (mA f)from I.hok d _ ed)
  obtain⟨od,hod,hl⟩:=uv ns;have J:W.InstAt s.heap a oe C (some od):=⟨e1,e2,by unfold notCls;rw[e4],by rw[e3];exact hod⟩
  exact kia_one (dz (ox:=oe) (od:=some od) xc) I.kIn J e (λz=>nomatch z) λtk=>⟨.bl b,H,I.tok tk,rfl,q⟩
def wC{i:Int}(hm:X.mg x=some (.int i tk))(hg:Gl X x:=by rfl)(CQ:(x==("__debug__":Str))=false:=by decide):PE X (.Name x pos) (tC (.int i)) :=
 λpins s σ H Q I h=>xQ I hg hm ⟨.int i,H,I,⟨tk,rfl⟩,h⟩ CQ
def WX(K:Nl)(g:Bool->Bool):R2:=λx y H Q=>∃d ds,Has K H x d/\Has K H y (.list ds)/\PyData.canLay0 d=true/\PyData.canLayAll0 ds=true/\PyData.depthAll ds<=60/\Q (.bl (g (ds.any λy=>PyData.eqv y d))) H
def am(hu:X.A.units+64<cLine):OpR X (compareOp .In) (WX X.K id):=by
 intro pins s σ H x y v u Q I rx ry h;obtain⟨d,ds,h1,h2,c1,c2,hd,q⟩:=h;obtain⟨as,ra⟩:=xi I d _ _ h1 rx;obtain⟨bs,rb⟩:=xi I _ _ _ h2 ry;exact SeqAt.in_list_reads rb ra c2 c1 (by lia) ⟨.bl _,H,I,rfl,q⟩
end
end
section
def se(X:Cx):Value->Shared->Prop:=notedBy (model X.prog X.w) X.A X.env (cameBackBy (model X.prog X.w) X.A X.env X.xe)
section
variable {M:Model}{A:Nr}{E:Da}{s:Np}{a C L:Addr}{dx:HK}
def Yx{x:String}{Q:Unit->Shared->Prop}(F:Fly s.heap a C dx (some (T,v)))
  (h:∀h',(∀b o,b≠T->s.heap.get? b=some o->h'.get? b=some o)->Fly h' a C dx (some (T,rawInt L))->Q () { s with heap:=h' }):wpAny M A (do
   if(<-field (.ref a) 1) == .none then unsupported x
   setFlight (.ref a) (some L)) Q E s:=by
 obtain⟨oe,vs,he,hc,DW,hd,h2,h1,IG,oT,ts,hT,He,h3⟩:=F;have hsz:=(Ve.mp h3).1;refine WC (Vo he hd h1 ?_);rw[VF (show¬((Value.ref T==Value.none)=true)from by simp)];unfold setFlight;refine WC (Vo he hd h1 ?_);rw[VB (show(Value.ref T != Value.none)=true from by simp)];refine Tx hT He hsz (h _ (λb o hb e=>(V0 _ _ (U6 hb)).trans e) ?_);exact⟨oe,vs,(V0 _ _ IG).trans he,hc,DW,hd,h2,h1,IG,_,_,Vn _ hT (TR (U0 He _)),U0 He _,by simp[Array.getElem?_setIfInBounds,hsz]⟩
end
section
variable {P:Nn}{w:No}{K:Nl}{mg:FB}{base:Nw}{N:GM}{qual:Str}{scope:Nu}{f:Addr}{cd:Nq}{A:Nr}{outer:List Env}{s₀:Np}{H₀:Hp}{E:XK}
def io{σ:St}(I:Inv (xu (CXr P w) P w K mg base N qual scope f cd A outer s₀ H₀ E) pins σ H s)(ea:H a=some (exO a C dx false))(F:Fly s.heap a C dx (some (T,rawInt s₀.heap.objs.size)))
  (hT:H T=none) (hz:s₀.heap.objs.size<=T) (hE:E (.ref a) dx H):(xu (CXr P w) P w K mg base N qual scope f cd A outer s₀ H₀ E).xe (.ref a) s:=by
 show wpAny (model P w) (A.deeper (envOfC qual scope s₀.heap.objs.size f cd)) (leaving (envOfC qual scope s₀.heap.objs.size f cd) (.ref a)) _ _ s;unfold leaving;obtain⟨oe,vs,e1,e2,e3,e4,_,e5,e6,oT,ts,g1,g2,g3⟩:=id F;refine WC ?_;unfold noteFrame;simp only[show(envOfC qual scope s₀.heap.objs.size f cd).frame=some s₀.heap.objs.size from rfl];refine WC (Vo e1 e4 e5 ?_);rw[VB (show(Value.ref T != Value.none)=true from by simp)];refine WC (Vo g1 g2 g3 ?_);rw[VB (show(rawInt s₀.heap.objs.size==rawInt s₀.heap.objs.size)=true from by simp)];refine VZ (vG F λh2 k2 F2=>?_);have na:∀b,H b=none->b≠a:=λb q z=>by rw[z,ea]at q;cases q
 have K4:∀b o,s₀.heap.get? b=some o->b≠T:=λb o e=>VD (V8 (VV e) hz);have B:=I.base;refine⟨a,C,dx,H,T,rfl,I.os,I.bare,⟨λb o e q hb hx=>k2 b o (K4 b o e) (B.keep b o e q hb hx),λb o e q hb hx=>?_,B.free,λb o e hx=>?_,B.tups,B.frzs,B.tbls⟩,λb o e=>?_,ea,hT,hz,F2,hE⟩
 ·obtain⟨sl,q1⟩:=B.slot b o e q hb hx;exact⟨sl,k2 b _ (K4 b o e) q1⟩
 ·obtain⟨o1,q1⟩:=B.there b o e hx;exact⟨o1,k2 b _ (K4 b o e) q1⟩
 ·by_cases z:b=a
  ·subst z;rw[ea]at e;cases e;obtain⟨oe,vs,e1,e2,e3,e4,h2,r⟩:=F2;exact ul ⟨oe,vs,_,e1,e2,e3,e4,r.1,(λz=>by cases z),h2⟩
  ·refine(I.hok b o e).stay (λc u hc g=>k2 c u (λy=>?_) g) (λc g=>g) λc xs g=>g;subst y;rcases hc with y|y
   ·rw[y,e]at hT;cases hT
   ·rw[y]at hT;cases hT
def fX{σ:St}{old:Ny}(I1:Inv (xu (CXr P w) P w K mg base N qual scope f cd A outer s₀ H₀ E) pins σ H1 s1)(os:s.os=s1.os)(bare:AllBare s.gens)
  (un:Un (frs (envOfC qual scope s₀.heap.objs.size f cd::outer)) [] H1 H s1.heap s.heap) (I:Inv (xu (CXr P w) P w K mg base N qual scope f cd A outer s₀ H₀ E) pins σ H s) (ea:H a=some (exO a C dx n)) (F:Fly s.heap a C dx old)
  (ho:∀T v,old=some (T,v)->v = .none/\H T=none/\s1.heap.objs.size<=T) (hE:E (.ref a) dx (upd H a (exO a C dx false))):se (xu (CXr P w) P w K mg base N qual scope f cd A outer s₀ H₀ E) (.ref a) s:=by
 show wpAny (model P w) (A.deeper (envOfC qual scope s₀.heap.objs.size f cd)) (noteFrame (.ref a) (envOfC qual scope s₀.heap.objs.size f cd)) _ _ s;refine mC (base:=base) (L:=s₀.heap.objs.size) I.ok.frames I.stack rfl F (λT v q=>(ho T v q).1) λh1 T hz Nt F1=>?_;refine Yx (s:={ s with heap:=h1 }) (L:=s₀.heap.objs.size) F1 λh2 k2 F2=>?_;have na:∀b,H b=none->b≠a:=λb q z=>by rw[z,ea]at q;cases q
 have nT:∀b o,s.heap.get? b=some o->b≠T:=λb o e=>VD (V8 (VV e) hz);have IQ:=uy I ea (λT v q=>(ho T v q).2.1) Nt hz k2 F2;have I2:Inv (xu (CXr P w) P w K mg base N qual scope f cd A outer s₀ H₀ E) pins σ (upd H a (exO a C dx false)) { s with heap:=h2 }:=by
  refine Inv.call' (ch:=[]) I1 (s':={ s with heap:=h2 }) os ⟨λb o e q hb hx=>?_,λb o e q hb hx=>?_,λb o e q hx=>?_,λb o e hx=>?_,λb xs e=>?_,λb o u e=>?_,λb ps e=>?_⟩ IQ bare (λb z=>absurd z (by simp))
  ·have g:=un.keep b o e q hb hx;refine k2 b o (nT b o g) (Nt.keep b o g hb (na b (un.free b o e q hx)) λT' v' z y=>?_);exact absurd (VV e) (by rw[y];exact T4.mpr (ho T' v' z).2.2)
  ·obtain⟨sl,g⟩:=un.slot b o e q hb hx;obtain⟨IB,g2⟩:=Nt.slot b _ g hb;exact⟨IB,k2 b _ (nT b _ g) g2⟩
  ·have e2:=un.free b o e q hx;rw[ze (na b e2)];exact e2
  ·obtain⟨o1,g⟩:=un.there b o e hx;obtain⟨o2,g2⟩:=Nt.there b o1 g;exact⟨o2,k2 b _ (nT b _ g) g2⟩
  ·have e1:=un.tups b xs e;rw[ze λz=>by rw[z,ea]at e1;cases e1];exact e1
  ·have e1:=un.frzs b o u e;rw[ze λz=>by rw[z,ea]at e1;cases e1];exact e1
  ·obtain⟨m,e1⟩:=un.tbls b ps e;exact⟨m,by rw[ze λz=>by rw[z,ea]at e1;cases e1];exact e1⟩
 have hTn:=I.hok.fresh hz;exact io I2 zv F2 (by rw[ze (na T hTn)];exact hTn) (Vz I.sz hz) hE
def kO:pH ((xu (CXr P w) P w K mg base N qual scope f cd A outer s₀ H₀ E).wish (se (xu (CXr P w) P w K mg base N qual scope f cd A outer s₀ H₀ E))) E:=by
 intro pins σ H s a C dx I ea hE;have I:=I.unwish;obtain⟨oe,vs,v1,e1,e2,e3,e4,e5,e6⟩:=xP I.hok ea;obtain rfl:=e6.1 rfl;exact fX (old:=none) I rfl I.bare (Un.refl ..) I ea ⟨oe,vs,e1,e2,e3,e4,e6.2,e5⟩ (λ_ _ z=>nomatch z) hE
def kG:xW (CXr P w) ((xu (CXr P w) P w K mg base N qual scope f cd A outer s₀ H₀ E).wish (se (xu (CXr P w) P w K mg base N qual scope f cd A outer s₀ H₀ E))) E:=by
 intro pins σ H s e s' I h;have I:=I.unwish;obtain⟨a,C,dx,H',T,rfl,os,bare,un,hok,ea,hT,hz,F,hE⟩:=h;have I':=Inv.call' (ch:=[]) I os un hok bare (λb z=>absurd z (by simp));exact fX (old:=some (T,.none)) I os bare un I' ea F (λT' v' z=>by cases z;exact⟨rfl,hT,hz⟩) (by rw[m7 ea];exact hE)
end
section
variable {X:Cx}{tg:Nv}
theorem p9(hc:X.calm=true)(hi:PI X tg iter wi)(hg:PG (X.wish (se X)) tg g)(hb:PSs (X.wish (se X)) body tb)
  (hs:∀x,foldedSetIterable iter X.env x=pure x:=by intro _;rfl):PS X (.For tg iter body [] pos) (ZK wi g tb):=by
 intro pins s σ H D I h;refine wpAny_For (thn (hi pins s σ H _ I h) λv s1 h1=>thn h1 λIN s2 h2=>?_) hs;obtain⟨it,fp,tn,J,H2,e,I2,T,HA,f2,W,⟨m0,w0⟩,Bf⟩:=h2;subst e;have Fq:∀{H':Hp},(∀b∈fp,H' b=none)->∀b∈fp,xV X pins H' b:=λhn b hb=>⟨hn b hb,(f2 b hb).2⟩
 refine codeAny_forLoop_any (λn s'=>∃i σ' H',Inv X pins σ' H' s'/\tn i s'.heap/\(∀b∈fp,H' b=none)/\W i n σ' H') ?_ m0 ⟨0,σ,H2,I2,HA,λb hb=>(f2 b hb).1,w0⟩;rintro n s3 ⟨i,σ3,H3,I3,LC,MB,w3⟩;rcases Bf i n σ3 H3 w3 with⟨stop,qn⟩|⟨go,N,hN,step⟩
 ·refine thn (T.done X rfl rfl rfl hc i pins s3 σ3 H3 _ I3 (Fq MB) LC stop) λr s4 ⟨hr,I4⟩=>?_;subst hr;exact Uj ⟨σ3,H3,I4,qn⟩
 ·refine thn (T.item X rfl rfl rfl hc i pins s3 σ3 H3 _ I3 (Fq MB) LC go) λr s4 ⟨u,hr,h4⟩=>?_;subst hr;refine thn h4 λ_ s5 ⟨x,H5,I5,r5,y5,Fm,Hi⟩=>?_;have I5':=I5.pinned (Fq Hi) (T.obj _ _ Fm);refine thn (hg _ s5 σ3 H5 x u _ (I5'.wish _) r5 (step x H5 y5)) λ_ s6 ⟨σ6,H6,I6,q6⟩=>?_;refine thn (hb _ s6 σ6 H6 _ I6 q6) λf s7 q7=>?_;have again:∀{σ7:St}{H7:Hp},Inv X (pins++wm fp s5.heap) σ7 H7 s7->N σ7 H7->∃m,m<n/\∃i σ' H',Inv X pins σ' H' s7/\tn i s7.heap/\(∀b∈fp,H' b=none)/\W i m σ' H':=λ{σ7 H7} I7 n7=>by
   obtain⟨m',hm,w7⟩:=hN σ7 H7 n7;refine⟨m',hm,i+1,σ7,H7,I7.unpinned,T.keep _ _ _ Fm λb hb o e=>(I7.pin (b,o) (VM _ (VM _ (yi hb e)))).1,λb hb=>?_,w7⟩;obtain⟨o,e,d⟩:=T.obj _ _ Fm b hb;exact(I7.pin (b,o) (VM _ (VM _ (yi hb e)))).2.1
  have q8:SP X (pins++wm fp s5.heap) _ f s7:=q7.unwish;cases f with
  |next=>obtain⟨σ7,H7,I7,n7⟩:=q8;exact again I7 n7
  |cont=>obtain⟨σ7,H7,I7,n7⟩:=q8;exact again I7 n7
  |brk=>obtain⟨σ7,H7,I7,q7⟩:=q8;exact⟨σ7,H7,I7.unpinned,q7⟩
  |ret v=>obtain⟨x7,σ7,H7,I7,r7,q7⟩:=q8;exact⟨x7,σ7,H7,I7.unpinned,r7,q7⟩
end
section
variable {X:Cx}
def ah:R2:=λx y H Q=>∃a n,x = .str a/\y = .int n/\MulOk a n/\Q (.str (Txt.mul a n)) H
def ZQ:OpR X (binaryOp .Mult) ah:=by
 intro pins s σ H x y v u Q I rx ry h;obtain⟨a,n,rfl,rfl,ok,q⟩:=h;obtain⟨t,rfl⟩:=(show∃t,v=Value.str a t from rx)
 obtain⟨t',rfl⟩:=(show∃t,u=Value.int n t from ry)
 exact SB.mul ok λt' k=>⟨.str _,H,I.tok _,⟨_,rfl⟩,q⟩
end
end
section
def r9:entryFor table "proto.unchain"=some Builtin.«proto.unchain»:=entryFor_of_tree (by kernel_rfl)
def Quiet(h:Nw)(a:Addr):Prop:=∃oe vs,h.get? a=some oe/\oe.data = .fields vs/\vs[2]?=some .none
def Quiet.keep(q:Quiet h a)(k:∀o,h.get? a=some o->h'.get? a=some o):Quiet h' a:=by
 obtain⟨oe,vs,e1,e2,e3⟩:=q;exact⟨oe,vs,k _ e1,e2,e3⟩
section
variable {prog:Nn}{w:No}{A:Nr}{E:Da}{s:Np}{a:Addr}
def qW{e:Nq}(q:Quiet s.heap a)(hq:Q .none s):wpAny (model prog w) A (runValue (.builtin "proto.unchain" ⟨[e,.ref a,.ref a,.bool false],[]⟩)) Q E s:=by
 obtain⟨oe,vs,e1,e2,e3⟩:=q;refine runValue_entry r9 ?_;unfold Builtin.«proto.unchain»;refine WC (Vo e1 e2 e3 ?_);exact VZ ⟨_,rfl,hq⟩
def mT{α:Type}{e:Addr}{oe:Obj}{Q:α->Shared->Prop}(hh:A.handled=some (.ref a))(q:Quiet s.heap a)(ne:a≠e)(he:s.heap.get? e=some oe)(hd:oe.data = .fields vs)(hsz:2<vs.size)
  (h:E (.ref e) { s with heap:=s.heap.update e (Obj.mapFields (·.setIfInBounds 2 (.ref a))) }):wpAny (model prog w) A (raiseNew (.ref e):Sem α) Q E s:=by
 unfold raiseNew;refine WC (wpAny_handled ?_);rw[hh];dsimp only;rw[VB (show(Value.ref a != Value.ref e)=true from by simpa using ne)];refine WC (Vh (qW q ?_));show wpAny _ _ (setField (.ref e) 2 (.ref a) >>= _) _ _ _;exact WC (Tx he hd hsz (wpAny_throw h))
def wO{l:Addr}{Q:Option Value->Shared->Prop}(hh:A.handled=some (.ref a))(q:Quiet s.heap a)(ne:a≠it)
  (EA:s.heap.IsListIter it l i) (hl:s.heap.IsList l items) (hx:items[i]?=none)
  (hQ:∀h',Heap.ExtBut it s.heap h'->Q none { s with heap:=h' }):wpAny (model prog w) A (pyNext (.ref it)) Q E s:=by
 obtain⟨o,ho,hc,hd⟩:=id EA;obtain⟨ol,E8,_,nl,Fp⟩:=hl;unfold pyNext;refine WC (Sw (Vb (name:=("__next__":Str)) EA.typeIs slot_listiter_next
  (Vg slot_listiter_next EA.typeIs entry_listiter_next ?_ (args_listiter_next _))))
 show wpAny _ _ (field (.ref it) 0 >>= _) _ _ s;refine WC (Vo ho hd (x:=.ref l) rfl ?_);show wpAny _ _ (if(Value.ref l==Value.none)=true then _ else _) _ _ s;rw[VF (show¬((Value.ref l==Value.none)=true)from VG)];show wpAny _ _ (field (.ref it) 1 >>= _) _ _ s;refine WC (Vo ho hd (x:=.int i 0) rfl ?_);show wpAny _ _ (seqItems? (.ref l) >>= _) _ _ s;refine WC (U3 E8 Fp ?_);simp only[Vu,hx];refine WC (SO (WC (Tx ho hd (by simp) ?_)));show wpAny _ _ (newExc (.type "StopIteration") [] >>= _) _ _ _;refine WC ?_;simp only[newExc,newTuple];refine WC (Vq ?_ (by size_fits));refine WC (m:=firstArgMember _ _) (Sv (a:=Value.none) (by first|rfl|(simp only[firstArgMember];rfl)) ?_);refine Vq ?_ (by size_fits);refine mT (a:=a) hh (q.keep λo e=>WB _ (WB _ (((Uh ..).2 a ne).trans e))) ?_ (VS _ rfl) rfl (by simp;lia) ?_
 ·obtain⟨oe,vs,e1,_⟩:=q;exact VD (VV (WB _ (((Uh ..).2 a ne).trans e1)))
 ·refine WC (Sz (T:="StopIteration") (b:=true) ⟨_,Vn _ (VS _ rfl) rfl,rfl⟩ isSubtype_stop ?_);refine VZ (hQ _ λb o hb e=>?_);have e1:=WB { cls:=.type "tuple",dict:=none,data:=.seq ([]:GE).toArray } (((Uh s.heap it (Obj.mapFields (·.setIfInBounds 0 Value.none))).2 b hb).trans e);exact(V0 _ _ (U6 (VD (VV e1)))).trans (WB _ e1)
end
structure dP(ax:Addr)(P:Nn)(w:No)(K:Nl)(tg:Nv)(J:It)(fp:GT)(it:Addr)(tn:Ng):Prop where
 mem:it∈fp
 obj:∀i h,tn i h->∀b∈fp,∃o,h.get? b=some o/\∀v,o.data≠.cell v
 keep:∀i h h',tn i h->(∀b∈fp,∀o,h.get? b=some o->h'.get? b=some o)->tn i h'
 item:∀(X:Cx),X.prog=P->X.w=w->X.K=K->X.A.handled=some (.ref ax)->∀(i:Nat)(pins:KB)(s:Np)(σ:St)(H:Hp)(E:Da),Inv X pins σ H s->(∀b∈fp,xV X pins H b)->tn i s.heap->J.go i H ->
  wpAny (model P w) X.A (pyNext (.ref it)) (λr s1=>∃u,r=some u /\
   wpAny (model P w) X.A (letOwnedTupleGo tg (.ref it) u) (λ_ s2=>∃x H',Inv X pins σ H' s2/\RelV x u/\J.yld i H x H'/\tn (i+1) s2.heap/\∀b∈fp,H' b=none) E s1) E s
 done:∀(X:Cx),X.prog=P->X.w=w->X.K=K->X.A.handled=some (.ref ax)->∀(i:Nat)(pins:KB)(s:Np)(σ:St)(H:Hp)(E:Da),Inv X pins σ H s->(∀b∈fp,xV X pins H b)->tn i s.heap->J.stop i H ->
  wpAny (model P w) X.A (pyNext (.ref it)) (λr s1=>r=none/\Inv X pins σ H s1) E s
 self:∀(A:Nr)(i:Nat)(s:Np)(Q:Da)(E:Da),tn i s.heap->Q (.ref it) s->wpAny (model P w) A (pyIter (.ref it)) Q E s
def Yq(K:Nl)(l ax:Addr):It:=⟨(Itl K l).go,(Itl K l).yld,λi H=>(Itl K l).stop i H/\∃C dx n,H ax=some (exO ax C dx n)⟩
def oM{σ:St}(I:Inv X pins σ H s)(e:H ax=some (exO ax C dx n)):Quiet s.heap ax:=by
 obtain⟨oe,vs,v1,e1,e2,e3,e4,e5,e6⟩:=xP I.hok e;exact⟨oe,vs,e1,e4,e6.2⟩
def mx{K:Nl}(ax l it:Addr):dP ax P w K tg (Yq K l ax) [it] it (λi h=>h.IsListIter it l i)where
 mem:=by simp
 obj:=(vA (P:=P) (w:=w) (K:=K) (tg:=tg) l it).obj
 keep:=(vA (P:=P) (w:=w) (K:=K) (tg:=tg) l it).keep
 item:=by
  intro X hP hw hK hc i pins s σ H E I hf st hg;subst hP hw hK;obtain⟨xs,x,hq,hx⟩:=hg;obtain⟨Af,rv,p,hz⟩:=I.list hq;obtain⟨u,hu,ru⟩:=rv.get hx;obtain⟨f0,f1,f2,f3,f4,f5⟩:=hf it (by simp);refine SJ st p.isList (x:=u) (by simpa using hu) λh' Bz sb=>?_;have I1:Inv X pins σ H { s with heap:=h' }:=I.turned (t':=s.toks) (λb o hb e=>(sb.2 b hb).trans e) f0 f1 f3 f4 f5;obtain⟨o,e,c,d⟩:=id Bz;exact⟨u,rfl,sd (s:={ s with heap:=h' }) e c d (by decide) ⟨x,H,I1,ru,⟨rfl,λys hy=>by rw[I.list_inj hy hq];exact hx⟩,Bz,λb hb=>(hf b hb).1⟩⟩
 done:=by
  intro X hP hw hK hc i pins s σ H E I hf st hg;subst hP hw hK;obtain⟨⟨xs,hq,hx⟩,C,dx,n,ea⟩:=hg;obtain⟨Af,rv,p,hz⟩:=I.list hq;obtain⟨f0,f1,f2,f3,f4,f5⟩:=hf it (by simp);have hl:=rv.length;exact wO hc (oM I ea) (λz=>by rw[z,f0]at ea;cases ea) st p.isList (by simp;lia) λh' eb=>⟨rfl,I.turned (t':=s.toks) (λb o hb e=>eb b o hb e) f0 f1 f3 f4 f5⟩
 self:=λ_ _ _ _ _ st h=>wpAny_pyIter_listiter st h
def WI(X:Cx)(ax:Addr)(pins:KB)(σ:St)(tg:Nv)(R:It->Hp->Prop)(IN:Nq)(s2:Np):Prop :=
 ∃(it:Addr)(fp:GT)(tn:Ng)(J:It)(H':Hp),IN = .ref it/\Inv X pins σ H' s2/\dP ax X.prog X.w X.K tg J fp it tn/\tn 0 s2.heap/\(∀b∈fp,xV X pins H' b)/\R J H'
def PIH(X:Cx)(ax:Addr)(tg iter:Nv)(wi:TI):Prop :=
 ∀(pins:KB)(s:Np)(σ:St)(H:Hp)(R:It->Hp->Prop),Inv X pins σ H s->wi σ H R ->
  wpAny (model X.prog X.w) X.A (eval iter X.env) (λv s1=>wpAny (model X.prog X.w) X.A (pyIter v) (WI X ax pins σ tg R) X.xe s1) X.xe s
section
variable {X:Cx}{tg:Nv}
def aZ(K:Nl)(ax:Addr)(tl:TE):TI:=fun σ H R=>tl σ H λx H1=>∃l,x = .ref l/\(∃xs,SqL K H1 l xs)/\R (Yq K l ax) H1
def oK(hl:PE X l tl):PIH X ax tg l (aZ X.K ax tl):=by
 intro pins s σ H R I h;refine thn (hl pins s σ H _ I h) λv s1 ⟨x,H1,I1,r1,q1⟩=>?_;obtain⟨a,e,⟨xs,hq⟩,q⟩:=q1;subst e;cases r1;obtain⟨Af,rv,p,hz⟩:=I1.list hq;refine Uk p.isList ?_;refine⟨s1.heap.objs.size,[s1.heap.objs.size],_,_,H1,rfl,I1.kept (t':=s1.toks) λb o e=>WB _ e,mx ax a _,⟨_,VS _ rfl,rfl,rfl⟩,λb hb=>?_,q⟩;have e:b=s1.heap.objs.size:=by simpa using hb
 subst e;exact I1.fpOk (VW _) (I1.hok.fresh (VW _))
variable {own N:GM}{scope:Nu}{cl:Ni}
theorem nI{tg:Expr}{σ:St}{fp:List Addr}{tn:Nat->Heap->Prop}{J:It}{Q:VK}{RR:Value->Addr->Result->Shared->Prop}
  (k:CompOk X own N scope cl) (AN:X.A.handled=some (.ref ax)) (IU:∀(j:Nat)(i:Nat),ixs[j]?=some i->∃y,X.N[i]?=some y/\N[j]?=some y) (Ar:ixs.length=N.length)
  (hg:∀(C:Addr)(s₀:Shared)(H₀:Hp)(ex:List Addr),PG (zT X (own++N) scope cl C s₀ H₀ ex) tg g)
  (ht:∀(C:Addr)(s₀:Shared)(H₀:Hp)(ex:List Addr),PIf (zT X (own++N) scope cl C s₀ H₀ ex) AE (tt C s₀ H₀ ex))
  (he:∀(C:Addr)(s₀:Shared)(H₀:Hp)(ex:List Addr),PE (zT X (own++N) scope cl C s₀ H₀ ex) AG (te C s₀ H₀ ex))
  (I:Inv X pins σ H Y') (T:dP ax X.prog X.w X.K tg J fp it tn) (st:tn 0 Y'.heap) (hf:∀b∈fp,xV X pins H b)
  (q:∀(C:Addr)(s₀:Shared)(H₀:Hp)(ex:List Addr),xp own.length g (tt C s₀ H₀ ex) (te C s₀ H₀ ex) (ixs.map (gv σ)) J Q H)
  (M0:∀(D C:Addr)(H':Hp)(s':Shared)(m:Str->Option Value),Inv X pins σ H' s'->s'.heap.Ns C m->H' C=none->C≠X.env.locals->C∉X.fs->(∀p∈X.pn++pins,p.1≠C)->(∀y c,X.env.cells.lookup y=some c->c≠C)->X.s₀.heap.objs.size<=C->Q (.ref D) H'->RR (.ref D) C (.ok .next) s') :
  wpAny (model X.prog X.w) X.A (newList []) (λAw W'=>wpAny (model X.prog X.w) X.A (newFunctionEnv scope X.env.globals cl [] X.env.qual none .none (some X.env)) (λEV Sq =>
   codeAny (model X.prog X.w) X.A (.compStart (.ListComp AG [⟨tg,iter,AE,0⟩] scope pos) 0 (.ref it) Aw { EV with scope:=relabel scope X.env }) (RR Aw EV.locals) Sq) E W') E Y':=by
 refine Vq (wpAny_newFunctionEnv k.nocell (by intro y hy;simp at hy) (λh₁ U' S'=>?_) k.kind);dsimp only at U' S' ⊢;have B8:H Y'.heap.objs.size=none:=I.hok.fresh (VW _);have I3:Inv X pins σ (upd H Y'.heap.objs.size (.lst [])) { Y' with heap:=Y'.heap.push { cls:=.type "list",dict:=none,data:=.seq ([]:List Value).toArray } } :=
  I.laid (t':=Y'.toks) (λb o e=>WB _ e) (VW _) ⟨V5 _,[],0,.nil,VS _ rfl⟩
 obtain⟨W,⟨m0,w0⟩,Bf⟩:=q (Y'.heap.push { cls:=.type "list",dict:=none,data:=.seq ([]:List Value).toArray }).objs.size { Y' with heap:=Y'.heap.push { cls:=.type "list",dict:=none,data:=.seq ([]:List Value).toArray } } (upd H Y'.heap.objs.size (.lst [])) fp Y'.heap.objs.size _ B8 (yY B8 _) zv;have AH:∀b o,Y'.heap.get? b=some o->(Y'.heap.push { cls:=.type "list",dict:=none,data:=.seq ([]:List Value).toArray }).get? b=some o:=λb o e=>WB _ e;have CC:∀b∈fp,b<Y'.heap.objs.size:=λb hb=>by
  obtain⟨o,e,_⟩:=T.obj _ _ st b hb;exact VV e
 have Gq:∀b∈fp,xV X pins (upd H Y'.heap.objs.size (.lst [])) b:=λb hb=>⟨by rw[ze (VD (CC b hb))];exact(hf b hb).1,(hf b hb).2⟩
 generalize hH3:upd H Y'.heap.objs.size (.lst [])=H3 at I3 w0 Gq Bf;generalize hh2:Y'.heap.push { cls:=.type "list",dict:=none,data:=.seq ([]:List Value).toArray }=h2 at I3 U' S' AH Bf ⊢;have EO:h2.objs.size=Y'.heap.objs.size+1:=by rw[<-hh2,Vk]
 have JH:∀b∈fp,b<h2.objs.size:=λb hb=>by rw[EO];exact Uy (CC b hb)
 have Fo:∀b o,b≠h2.objs.size->h2.get? b=some o->h₁.get? b=some o:=λb o hb e=>S'.extBut b o hb (WB _ e);have I4:=nJ (fp:=fp) (h₁:=h₁) (tk:=Y'.toks+([]:List (Str×Value)).length) (s:={ Y' with heap:=h2 }) k I3 Gq JH IU Ar (by simpa using U') Fo;have Js:tn 0 h₁:=T.keep _ _ _ st λb hb o e=>Fo b o (VD (JH b hb)) (AH b o e);have MA:∀b∈fp,H3 b=none:=λb hb=>(Gq b hb).1;have Il:∀{H':Hp},(∀b∈fp,H' b=none)->∀b∈fp,xV (zT X (own++N) scope cl h2.objs.size { Y' with heap:=h2 } H3 fp) [] H' b:=λhn b hb =>
  ⟨hn b hb,(I4.ok.exf b hb).1,I4.ok.exfs b hb,.inl hb,(I4.ok.exf b hb).2,λp hp=>absurd hp (by simp[zT])⟩
 have loop:∀W':Shared,W'={ Y' with heap:=h₁,toks:=Y'.toks+([]:List (Str×Value)).length } ->
   codeAny (model X.prog X.w) X.A (.compLoop (.ListComp AG [⟨tg,iter,AE,0⟩] scope pos) 0 (.ref it) (.ref Y'.heap.objs.size) (compEnvC scope cl h2.objs.size X.env)) (RR (.ref Y'.heap.objs.size) h2.objs.size) W':=by
  rintro W' rfl;refine w9 (λn s'=>∃i τ ys H',τ.length=own.length/\Inv (zT X (own++N) scope cl h2.objs.size { Y' with heap:=h2 } H3 fp) [] (τ++ixs.map (gv σ)) H' s'/\tn i s'.heap/\(∀b∈fp,H' b=none)/\W i n ys H') ?_ m0 ⟨0,own.map (λ_=>none),[],H3,by simp,I4,Js,MA,w0⟩;rintro n s5 ⟨i,τ,ys,H5,hτ,I5,Fm,Hi,w5⟩ E';obtain⟨hD,MU⟩:=Bf i n ys H5 w5;rcases MU with⟨stop,qn⟩|⟨go,hz,step⟩
  ·refine V6 (T.done (zT X (own++N) scope cl h2.objs.size { Y' with heap:=h2 } H3 fp) rfl rfl rfl AN i [] s5 _ H5 E' I5 (Il Hi) Fm stop) (λr s6 hr=>?_) λ_ _ e=>e;obtain⟨rfl,I6⟩:=hr;obtain⟨m6,Mh,_⟩:=I6.loc;have J6:Inv X pins σ H5 s6:=by
    refine I3.call' (ch:=fp) I6.os I6.base I6.hok I6.bare λb hb=>?_;obtain⟨_,f1,f2,f3,f4,f5⟩:=Gq b hb;exact⟨f3,f1,f4,f5⟩
   have Hy:X.s₀.heap.objs.size<=h2.objs.size:=I3.sz;refine M0 Y'.heap.objs.size h2.objs.size H5 s6 m6 J6 Mh I6.free (Uw I3.lt) (I3.nofs (VW _)) (λp hp z=>?_) (λy c e z=>?_) Hy qn
   ·exact absurd (VV (I3.pin p hp).1) (by rw[z];exact Vj _)
   ·obtain⟨u,ic⟩:=I3.cell y c e;exact absurd ic.lt (by rw[z];exact Vj _)
  ·refine V6 (T.item (zT X (own++N) scope cl h2.objs.size { Y' with heap:=h2 } H3 fp) rfl rfl rfl AN i [] s5 _ H5 E' I5 (Il Hi) Fm go) (λr s6 hr=>?_) λ_ _ e=>e;obtain⟨u,rfl,h6⟩:=hr;refine V6 h6 (λ_ s7 h7=>?_) λ_ _ e=>e;obtain⟨xv,H7,I7,r7,y7,Hz,M9⟩:=h7;have MX:=I7.pinned (Il M9) (T.obj _ _ Hz);refine V6 (hg _ _ _ _ _ s7 _ H7 xv u _ MX r7 (step τ xv H7 hτ y7)) (λ_ s8 h8=>?_) λ_ _ e=>e.elim;obtain⟨σ8,H8,I8,⟨τ',rfl,hτ'⟩,q8⟩:=h8;refine V6 (ht _ _ _ _ _ s8 _ H8 _ I8 q8) (λok s9 h9=>?_) λ_ _ e=>e.elim;obtain⟨H9,I9,q9⟩:=h9;have EX:∀(Cf:Hp)(BX:Shared)(Gz:List V)(m':Nat),Inv (zT X (own++N) scope cl h2.objs.size { Y' with heap:=h2 } H3 fp) ([]++wm fp s7.heap) (τ'++ixs.map (gv σ)) Cf BX->m'<n->W (i+1) m' Gz Cf ->
     ∃m,m<n/\∃i τ ys H',τ.length=own.length/\Inv (zT X (own++N) scope cl h2.objs.size { Y' with heap:=h2 } H3 fp) [] (τ++ixs.map (gv σ)) H' BX/\tn i BX.heap/\(∀b∈fp,H' b=none)/\W i m ys H':=λCf BX Gz m' EY BG w10=>by
    refine⟨m',BG,i+1,τ',Gz,Cf,hτ',EY.unpinned (pins:=[]),T.keep _ _ _ Hz λb hb o e=>(EY.pin (b,o) (VM _ (VM _ (yi hb e)))).1,λb hb=>?_,w10⟩;obtain⟨o,e,d⟩:=T.obj _ _ Hz b hb;exact(EY.pin (b,o) (VM _ (VM _ (yi hb e)))).2.1
   cases ok with
   |true =>
    simp only[if_true]at q9 ⊢;refine V6 (he _ _ _ _ _ s9 _ H9 _ I9 q9) (λy BX M8=>?_) λ_ _ e=>e.elim;obtain⟨yv,Cf,EY,LH,Ie,m',BG,w10⟩:=M8;refine V6 (wD (X:=zT X (own++N) scope cl h2.objs.size { Y' with heap:=h2 } H3 fp) _ BX _ Cf (.ref Y'.heap.objs.size) [yv] (.ref Y'.heap.objs.size) [y] (λv' H'=>H'=upd Cf Y'.heap.objs.size (.lst (ys++[yv]))) EY rfl (.cons LH .nil) ⟨_,ys,yv,rfl,rfl,Ie,hz,rfl⟩) (λ_ GY M7=>?_) λ_ _ e=>e.elim;obtain⟨_,Jh,MY,_,rfl⟩:=M7;exact EX _ _ _ m' MY BG w10
   |false =>
    simp only[Bool.false_eq_true,if_false]at q9 ⊢;obtain⟨m',BG,w10⟩:=q9;exact EX _ _ _ m' I9 BG w10
 exact SH (loop _ rfl) (T.self _ 0 _ _ _ Js (loop _ rfl))
def iM{K:Nl}{xs:N1}{te:TE}{ρ:St}{Q:VK}(Pv:Addr->Nat->List V->Hp->Prop)(hsz:xs.length<=sizeLine)
  (h0:∀D H2,H1 D=none->Same H1 H2->H2 D=some (.lst [])->Pv D 0 [] H2)
  (hl:∀D i ys H,Pv D i ys H->SqL K H a xs/\H D=some (.lst ys)/\ys.length=i/\∃C dx n,H ax=some (exO ax C dx n))
  (hs:∀D i v ys H,xs[i]?=some v->Pv D i ys H->te (some v :: ρ) H λy H3=>H3 D=some (.lst ys)/\CN xs.length i (Pv D (i+1) (ys++[y]) (upd H3 D (.lst (ys++[y])))))
  (hd:∀D ys H,Pv D xs.length ys H->Q (.ref D) H):xp 1 (mG 0) wT te ρ (Yq K a ax) Q H1:=by
 refine wv Pv hsz h0 (λD i ys H _ p=>⟨(hl D i ys H p).2.1,Ud (hl D i ys H p).2.2.1⟩) (λD i ys H hi p=>⟨xs,xs[i],(hl D i ys H p).1,by simp[hi]⟩) (λD ys H p=>⟨⟨xs,(hl D _ ys H p).1,VW _⟩,(hl D _ ys H p).2.2.2⟩) (λD i v ys H H' τ hi hτ p y=>?_) hd;obtain⟨t,rfl⟩:=uz hτ;obtain⟨e,y⟩:=y;subst e;exact⟨⟨[some v],rfl,rfl⟩,hs D i v ys _ (y xs (hl D i ys _ p).1) p⟩
def ak(K:Nl)(ax:Addr):List V->Hp->VK->Prop:=λxs H Q=>∃(p:Addr)(ns:Nj)(C:Addr)(dx:HK)(n:Bool),xs=[.ref p]/\SqL K H p (ns.map V.int)/\H ax=some (exO ax C dx n)/\Q (.int ns.sum) H
def pB(hh:A.handled=some (.ref ax))(I l:Addr)(Be:l≠I)(IR:ax≠I)(items:Nk):
  Walks prog w A I [I,l,ax] [I] items.size (λi v=>items[i]?=some v) (λi h=>h.IsListIter I l i/\h.IsList l items/\Quiet h ax)where
 sub:=λb hb=>by simp at hb;simp[hb]
 frame:=λ_ _ _ st hk=>⟨st.1.at λo e=>hk I (by simp) o e,st.2.1.at λo e=>hk l (by simp) o e,st.2.2.keep λo e=>hk ax (by simp) o e⟩
 item:=λi s Q E hi st hQ=>SJ st.1 st.2.1 (x:=items[i]) (by simp[hi]) λh' Bz sb=>by
  have k:∀b o,b≠I->s.heap.get? b=some o->h'.get? b=some o:=λb o hb e=>(sb.2 b hb).trans e;exact hQ _ h' s.toks (by simp[hi]) ⟨Bz,st.2.1.at λo e=>k l o Be e,st.2.2.keep λo e=>k ax o IR e⟩ λb o hb e=>k b o (by simpa using hb) e
 done:=λs Q E st hQ=>wO hh st.2.2 IR st.1 st.2.1 (by simp) λh' eb=>hQ h' s.toks λb o hb e=>eb b o (by simpa using hb) e
 self:=λi s Q E st hQ=>wpAny_pyIter_listiter st.1 hQ
def eX(hc:X.A.handled=some (.ref ax)):xo X (.builtin "sum") (ak X.K ax):=by
 intro pins s σ H xs us Q I r h;obtain⟨p,ns,C,dx,n,rfl,hq,ea,q⟩:=h;obtain⟨u,rfl,rx⟩:=xM r;cases rx;obtain⟨Af,rv,pl,hz⟩:=I.list hq;have hi:=lQ rv;obtain⟨ys,hy⟩:=hi.allInts.items;have hl:s.heap.IsList p (intItems ys):=hy▸pl.isList;have qa:=oM I ea;refine call_sum_walkG (iter_intList hl λY' e st IX hlI=>?_);subst e;have qb:=qa.keep (h':=s.heap.push { cls:=.type "list_iterator",data:=.fields #[.ref p,.int 0 0] }) λo e=>WB _ e;have IR:ax≠s.heap.objs.size:=λz=>by
  obtain⟨oe,vs,e1,_⟩:=qa;exact absurd (VV e1) (by rw[z];exact Vj _)
 refine⟨_,_,_,_,_,_,numAt ys,rfl,pB (A:=X.A.in1) hc _ p hlI IR (intItems ys),⟨st.1,st.2,qb⟩,?_,(λ_ _=>intItems_at),λh' tk t' hk=>?_⟩
 ·intro b hb;rcases VI.mp hb with e|hb
  ·subst e;exact IX _ (by simp)
  ·rcases VI.mp hb with e|hb
   ·subst e;exact IX _ (by simp)
   ·rw[VX.mp hb];obtain⟨oe,vs,e1,_⟩:=qb;exact VV e1
 ·have e:preSum (numAt ys) (intItems ys).size=ns.sum:=by
   rw[<-mQ hi hy];simp[intItems]
  rw[e];exact⟨.int ns.sum,H,I.kept (old_kept hk),⟨t',rfl⟩,q⟩
end
end
section
section
variable {X:Cx}
def bG(to:TE)(t:TA):TE:=fun σ H Q=>to σ H (wW λx H1=>t σ H1 λvs H2=>∃y i,vs=[.str y,.int i]/\Q (.bl (Txt.startswith3 x y i)) H2)
theorem ir(ho:PE X o to)(ha:PA X [e1,e2] t)
  (Cd:attributeBase o "startswith" X.env (eval o X.env)=eval o X.env:=by rfl)
  (CP:((backTo cpos (starEach [e1,e2] X.env)).all (λx=>!x.1)&&(backToKw cpos (keywordEach [] X.env)).all (λx=>x.1.isSome)
  &&decide ([e1,e2].length+([]:List Keyword).length+(if([]:List Keyword).isEmpty then 0 else 1)<30))=true:=by rfl)
  (Cc:(apos.endLine==cpos.line)=true:=by rfl) (hs:starEach [e1,e2] X.env=[(false,eval e1 X.env),(false,eval e2 X.env)]:=by rfl) :
  PE X (.Call (.Attribute o "startswith" apos) [e1,e2] [] cpos) (bG to t):=by
 intro pins s σ H Q I h;refine Uf Cd CP Cc rfl (thn (ho pins s σ H _ I h) λv s1 ⟨x,H1,I1,r1,q1⟩=>?_);cases x with
 |str x =>
  obtain⟨t1,rfl⟩:=r1;refine⟨"str","str.startswith",Tv,F.slot_str_startswith,F.type_str_startswith,Tr _ _ _,(λ_ e=>nomatch e),?_⟩;have hA:=ha cpos pins s1 σ H1 _ I1 q1;rw[hs]at hA ⊢;refine Ue rfl (TH ?_);refine thn hA λus s2 ⟨vs,H2,I2,r2,q2⟩=>?_;obtain⟨y,i,rfl,q⟩:=q2;obtain⟨u,w',rfl,ru,G6⟩:=tw r2;obtain⟨t2,rfl⟩:=(show∃t,u=Value.str y t from ru)
  obtain⟨t3,rfl⟩:=(show∃t,w'=Value.int i t from G6)
  exact SC.startswith3 ⟨.bl _,H2,I2,rfl,q⟩
 |_=>exact(show False from q1).elim
def tFr(te:TE):TE:=fun σ H Q=>te σ H (wW λy H1=>(reprText y).length<=sizeLine/\Q (.str (reprText y)) H1)
def rH{te:TE}(ha:PE X e te):PE X (.FormattedValue e 114 none pos) (tFr te):=by
 intro pins s σ H Q I h;refine wpAny_FormattedValue_repr (thn (ha pins s σ H _ I h) λv s1 ⟨x,H1,I1,r1,q1⟩=>?_);cases x with
 |str y =>
  obtain⟨t1,rfl⟩:=r1;obtain⟨h2,h3⟩:=(show(reprText y).length<=sizeLine/\Q (.str (reprText y)) H1 from q1)
  exact pyReprObj_str (formatField_str (λt' tk=>⟨.str _,H1,I1.tok _,⟨_,rfl⟩,h3⟩) h2) h2
 |_=>exact(show False from q1).elim
def WY:R2:=λx y H Q=>∃a b,x = .str a/\y = .str b/\Q (.bl (Txt.contains b a)) H
def eP:OpR X (compareOp .In) WY:=by
 intro pins s σ H x y v u Q I rx ry h;obtain⟨a,b,rfl,rfl,q⟩:=h;obtain⟨t,rfl⟩:=(show∃t,v=Value.str a t from rx)
 obtain⟨t',rfl⟩:=(show∃t,u=Value.str b t from ry)
 exact SB.contains ⟨.bl _,H,I,rfl,q⟩
def Xc:R2:=λx y H Q=>∃a b,x = .str a/\y = .str b/\Q (.bl (!Txt.contains b a)) H
def eU:OpR X (compareOp .NotIn) Xc:=by
 intro pins s σ H x y v u Q I rx ry h;obtain⟨a,b,rfl,rfl,q⟩:=h;obtain⟨t,rfl⟩:=(show∃t,v=Value.str a t from rx)
 obtain⟨t',rfl⟩:=(show∃t,u=Value.str b t from ry)
 exact SB.notContains ⟨.bl _,H,I,rfl,q⟩
def bq(hm:X.mg x=some (.str y tk))(hg:Gl X x:=by rfl)(CQ:(x==("__debug__":Str))=false:=by decide):PE X (.Name x pos) (tC (.str y)) :=
 λpins s σ H Q I h=>xQ I hg hm ⟨.str y,H,I,⟨tk,rfl⟩,h⟩ CQ
def DictK(P:Nn)(w:No)(K:Nl)(a:Addr)(kvs:List (Key×Value)):Prop:=∃o es ep,K.lookup a=some o/\o.ExactDict/\o.data = .dict es ep/\KeysOf (ye P w) es/\Pairs (ye P w) es.toList kvs/\(kvs.map (·.1)).Nodup/\(a==sysModules)=false
def DictK.of{kvs:List (Key×Value)}(d:DictK P w K a kvs)(X:K.In h):(a==sysModules)=false/\h.DictOf (ye P w) a kvs:=by
 obtain⟨o,es,ep,h1,h2,h3,h4,h5,h6,h7⟩:=d;exact⟨h7,o,es,ep,X _ _ h1,h2,h3,h4,h5,h6⟩
def Yc(P:Nn)(w:No)(K:Nl)(td ti:TE):TE:=fun σ H Q=>td σ H (oH λa H1=>ti σ H1 (wW λx H2=>∃kvs u v,DictK P w K a kvs/\valueAt kvs (Sum.inr x)=some u/\RelV v u/\Q v H2))
def bp{i:Expr}(ho:PE X o td)(hi:PE X i ti)(hs:Wy i):PE X (.Subscript o i pos) (Yc X.prog X.w X.K td ti):=by
 intro pins s σ H Q I h;refine dD F.slot_dict_getitem.lookup hs (thn (ho pins s σ H _ I h) λu s1 ⟨x,H1,I1,rx,q1⟩=>?_);cases x with
 |ref a =>
  cases rx;refine thn (hi pins s1 σ H1 _ I1 q1) λiv s2 ⟨y,H2,I2,ry,q2⟩=>?_;cases y with
  |str n =>
   obtain⟨kvs,u,v,d,ev,rv,q⟩:=(show∃kvs u v,DictK X.prog X.w X.K a kvs/\valueAt kvs (Sum.inr n)=some u/\RelV v u/\Q v H2 from q2)
   obtain⟨hd,dd⟩:=d.of I2.kIn;obtain⟨o',es,ep,g1,g2,_⟩:=id dd;exact⟨⟨o',g1,g2.1⟩,wpAny_getItem_of (jz (k:=Sum.inr n) ry) dd.mapOf ev ⟨v,H2,I2.tok _,rv,q⟩⟩
  |_=>exact(show False from q2).elim
 |_=>exact(show False from q1).elim
def Xb(P:Nn)(w:No)(K:Nl):R2:=λx y H Q=>∃n a kvs,x = .str n/\y = .ref a/\DictK P w K a kvs/\Q (.bl (!(valueAt kvs (Sum.inr n)).isSome)) H
def eR:OpR X (compareOp .NotIn) (Xb X.prog X.w X.K):=by
 intro pins s σ H x y v u Q I rx ry h;obtain⟨n,a,kvs,rfl,rfl,d,q⟩:=h;cases ry;obtain⟨hd,dd⟩:=d.of I.kIn;exact wpAny_notIn_of (jz (k:=Sum.inr n) rx) hd dd.mapOf ⟨.bl _,H,I.tok _,rfl,q⟩
end
def Its(x:Str):It:=⟨λi _=>i<x.length,λi H v H'=>H'=H/\∃c,x.cps[i]?=some c/\v = .str ⟨#[c]⟩,λi _=>x.length<=i⟩
def jU{K:Nl}(x:Str)(t:Tok)(it:Addr):sM P w K tg (Its x) [it] it (λi h=>h.IsStrIter it "str_ascii_iterator" x t i)where
 mem:=by simp
 obj:=λi h st b hb=>by
  have e:b=it:=by simpa using hb
  subst e;obtain⟨o,e,c,d⟩:=st;exact⟨o,e,λv z=>by rw[d]at z;cases z⟩
 keep:=λi h h' st k=>by
  obtain⟨o,e,r⟩:=st;exact⟨o,k it (by simp) o e,r⟩
 item:=by
  intro X hP hw hK hc i pins s σ H E I hf st hg;subst hP hw hK;obtain⟨c,hx⟩:∃c,x.cps[i]?=some c:=⟨_,SY hg⟩
  obtain⟨f0,f1,f2,f3,f4,f5⟩:=hf it (by simp);refine wpAny_pyNext_ascii_item st hx λh' Bz sb=>?_;have I1:Inv X pins σ H { s with heap:=h',toks:=s.toks+1 }:=I.turned (t':=s.toks+1) (λb o hb e=>(sb.2 b hb).trans e) f0 f1 f3 f4 f5;obtain⟨o,e,c',d⟩:=id Bz;exact⟨_,rfl,sd (s:={ s with heap:=h',toks:=s.toks+1 }) e c' d (by decide) ⟨.str ⟨#[c]⟩,H,I1,⟨_,rfl⟩,⟨rfl,c,hx,rfl⟩,Bz,λb hb=>(hf b hb).1⟩⟩
 done:=by
  intro X hP hw hK hc i pins s σ H E I hf st hg;subst hP hw hK;obtain⟨f0,f1,f2,f3,f4,f5⟩:=hf it (by simp);exact wpAny_pyNext_ascii_end (I.ok.hd hc) st (Array.getElem?_eq_none hg) λh' eb=>⟨rfl,I.turned (t':=s.toks) (λb o hb e=>eb b o hb e) f0 f1 f3 f4 f5⟩
 self:=λ_ _ _ _ _ st h=>wpAny_pyIter_striter_ascii st h
def jV{K:Nl}(x:Str)(t:Tok)(it:Addr):sM P w K tg (Its x) [it] it (λi h=>h.IsStrIter it "str_iterator" x t i)where
 mem:=by simp
 obj:=λi h st b hb=>by
  have e:b=it:=by simpa using hb
  subst e;obtain⟨o,e,c,d⟩:=st;exact⟨o,e,λv z=>by rw[d]at z;cases z⟩
 keep:=λi h h' st k=>by
  obtain⟨o,e,r⟩:=st;exact⟨o,k it (by simp) o e,r⟩
 item:=by
  intro X hP hw hK hc i pins s σ H E I hf st hg;subst hP hw hK;obtain⟨c,hx⟩:∃c,x.cps[i]?=some c:=⟨_,SY hg⟩
  obtain⟨f0,f1,f2,f3,f4,f5⟩:=hf it (by simp);refine wpAny_pyNext_wide_item st hx λh' Bz sb=>?_;have I1:Inv X pins σ H { s with heap:=h',toks:=s.toks+1 }:=I.turned (t':=s.toks+1) (λb o hb e=>(sb.2 b hb).trans e) f0 f1 f3 f4 f5;obtain⟨o,e,c',d⟩:=id Bz;exact⟨_,rfl,sd (s:={ s with heap:=h',toks:=s.toks+1 }) e c' d (by decide) ⟨.str ⟨#[c]⟩,H,I1,⟨_,rfl⟩,⟨rfl,c,hx,rfl⟩,Bz,λb hb=>(hf b hb).1⟩⟩
 done:=by
  intro X hP hw hK hc i pins s σ H E I hf st hg;subst hP hw hK;obtain⟨f0,f1,f2,f3,f4,f5⟩:=hf it (by simp);exact wpAny_pyNext_wide_end (I.ok.hd hc) st (Array.getElem?_eq_none hg) λh' eb=>⟨rfl,I.turned (t':=s.toks) (λb o hb e=>eb b o hb e) f0 f1 f3 f4 f5⟩
 self:=λ_ _ _ _ _ st h=>wpAny_pyIter_striter_wide st h
section
variable {X:Cx}{tg:Nv}
def XH(tl:TE):TI:=fun σ H R=>tl σ H (wW λx H1=>R (Its x) H1)
def p0(hl:PE X l tl):PI X tg l (XH tl):=by
 intro pins s σ H R I h;refine thn (hl pins s σ H _ I h) λv s1 ⟨x,H1,I1,r1,q1⟩=>?_;cases x with
 |str x =>
  obtain⟨t1,rfl⟩:=r1;have q:R (Its x) H1:=q1;have fp:∀b∈[s1.heap.objs.size],xV X pins H1 b:=λb hb=>by
   have e:b=s1.heap.objs.size:=by simpa using hb
   subst e;exact I1.fpOk (VW _) (I1.hok.fresh (VW _))
  cases ha:x.cps.all (·<128)with
  |true=>exact wpAny_pyIter_ascii ha ⟨s1.heap.objs.size,[s1.heap.objs.size],_,_,H1,rfl,I1.kept (t':=s1.toks) λb o e=>WB _ e,jU x t1 _,⟨_,VS _ rfl,rfl,rfl⟩,fp,q⟩
  |false=>exact wpAny_pyIter_wide ha ⟨s1.heap.objs.size,[s1.heap.objs.size],_,_,H1,rfl,I1.kept (t':=s1.toks) λb o e=>WB _ e,jV x t1 _,⟨_,VS _ rfl,rfl,rfl⟩,fp,q⟩
 |_=>exact(show False from q1).elim
end
def eB{σ:St}(Pv:Nat->St->Hp->Prop)(h0:Pv 0 σ H)
  (hs:∀i c σ H,x.cps[i]?=some c->Pv i σ H->g (.str ⟨#[c]⟩) σ H fun σ2 H2=>tb { D with nx:=Pv (i+1),ct:=Pv (i+1),bk:=D.nx } σ2 H2) (hd:∀σ H,Pv x.length σ H->D.nx σ H):sJ g tb (Its x) D σ H :=
 vM (J:=Its x) (n:=x.length) Pv h0 (λ_ _ _ hi _=>hi) (λ_ _ _=>VW _) (λi v σ H H' hi p y=>by
  obtain⟨rfl,c,hc,rfl⟩:=y;exact hs i c σ _ hc p) hd
def nK{te:TE}{ρ:St}{Q:VK}(Pv:Addr->Nat->List V->Hp->Prop)(hsz:x.length<=sizeLine)
  (h0:∀D H2,H1 D=none->Same H1 H2->H2 D=some (.lst [])->Pv D 0 [] H2)
  (hl:∀D i ys H,Pv D i ys H->H D=some (.lst ys)/\ys.length=i)
  (hs:∀D i c ys H,x.cps[i]?=some c->Pv D i ys H->te (some (.str ⟨#[c]⟩) :: ρ) H λy H3=>H3 D=some (.lst ys)/\CN x.length i (Pv D (i+1) (ys++[y]) (upd H3 D (.lst (ys++[y])))))
  (hd:∀D ys H,Pv D x.length ys H->Q (.ref D) H):xp 1 (mG 0) wT te ρ (Its x) Q H1 :=
 wv (J:=Its x) Pv hsz h0 (λD i ys H _ p=>⟨(hl D i ys H p).1,Ud (hl D i ys H p).2⟩) (λ_ _ _ _ hi _=>hi) (λ_ _ _ _=>VW _) (λD i v ys H H' τ hi hτ p y=>by
  obtain⟨t,rfl⟩:=uz hτ;obtain⟨rfl,c,hc,rfl⟩:=y;exact⟨⟨[some _],rfl,rfl⟩,hs D i c ys _ hc p⟩) hd
structure ym(P:Nn)(w:No)(K:Nl)(mg:FB)(base:Nw)(k:Nat)(C:Addr)(x:Str)(ps:GM)(sp:Sp):Prop where
 ex:∃(f:Addr)(fd:N0),FnOk P w K mg base (CXr P w) k f fd ps sp/\Binds K fd ps []/\iA K C x f/\Cls K C
section
variable {P:Nn}{w:No}{K:Nl}{mg:FB}{base:Nw}
def DefM.calleeX(F:DefM K C x qual st ps)(S:yl N ps (zj st))(len:∀vs H Q E,sp vs H Q E->vs.length=ps.length)
  (A7:∀(f:Addr)(cdv:Nq)(A:Nr)(outer:List Env)(s:Np)(H:Hp)(vs:N1)(Q:VK)(E:XK),Room k (A.deeper (envOfC qual (zj st) s.heap.objs.size f cdv))->N.Nodup->sp vs H Q E ->
   ∃σ t,start N vs=σ/\PSs (xu (CXr P w) P w K mg base N qual (zj st) f cdv A outer s H E) (zN st) t/\t { nx:=λ_ H'=>Q .non H',rt:=Q } σ H):ym P w K mg base (k+1) C x ps sp:=by
 obtain⟨f,fd,F,b,hm,hc⟩:=F.ex;refine⟨f,fd,okX F S len λcdv A outer s H vs Q E hr h=>?_,.all b,hm,hc⟩;obtain⟨σ,t,e,ht,q⟩:=A7 f cdv A outer s H vs Q E hr S.nd h;exact⟨t,ht,by rw[e];exact q⟩
def wg{E:XK}(C':ym X.prog X.w X.K X.mg X.base k C x ps sp)(hx:xW (CXr X.prog X.w) X E)(hr:Room k' X.A)(hk:k<=k')(ho:PE X o ta)(ha:PA X (e::es) t)
  (BF:starEach (e::es) X.env=(false,eval e X.env)::starEach es X.env:=by rfl) (AZ:(backTo pos (starEach es X.env)).any (·.1)=false:=by rfl)
  (ht:eval (.Call (.Attribute o x apos) (e::es) [] pos) X.env=(do
   let ov <-eval o X.env;standAt apos.atName
   let(f,first) <-holding [ov] (getMethod ov x pl);callWith pos f first (backTo pos (starEach (e::es) X.env)) (backToKw pos (keywordEach [] X.env))):=by rfl) :
  PE X (.Call (.Attribute o x apos) (e::es) [] pos) (re C x sp [] E ta t):=by
 obtain⟨f,fd,F,b,hm,hc⟩:=C'.ex;exact kJ (pl:=pl) ho hc hm F (hr.mono hk) b .nil hx ha BF AZ ht
def xy{E:XK}(C':ym X.prog X.w X.K X.mg X.base k C x ps sp)(hx:xW (CXr X.prog X.w) X E)(hr:Room k' X.A)(hk:k<=k')(ho:PE X o ta)
  (ht:eval (.Call (.Attribute o x apos) [] [] pos) X.env=(do
   let ov <-eval o X.env
   standAt apos.atName
   let(f,first) <-holding [ov] (getMethod ov x pl)
   callWith pos f first (backTo pos (starEach [] X.env)) (backToKw pos (keywordEach [] X.env))):=by rfl) :
  PE X (.Call (.Attribute o x apos) [] [] pos) (re C x sp [] E ta dE):=by
 obtain⟨f,fd,F,b,hm,hc⟩:=C'.ex;exact fc (pl:=pl) ho hc hm F (hr.mono hk) b .nil hx ht
end
end
section
section
variable {X:Cx}
def Yu(X:Cx)(hs:List ExceptHandler)(pins:KB)(D:xX):Value->Shared->Prop:=λe X'=>wpAny (model X.prog X.w) X.A (noteFrame e X.env) (λ_ Y'=>wpAny (model X.prog X.w) X.A (setFlight e none) (λ_ W'=>wpAny (model X.prog X.w) X.A (handleBy e X.env hs) (SP X pins D) X.xe W') X.xe Y') X.xe X'
def bL(X:Cx)(pins:KB)(D:xX):Flow->Shared->Prop:=λf X'=>match f with|.next=>wpAny (model X.prog X.w) X.A (execs [] X.env) (SP X pins D) X.xe X'|f=>SP X pins D f X'
def TB(X:Cx)(hs:List ExceptHandler)(body:Nz)(t:TS):Prop:=∀(pins:KB)(s:Np)(σ:St)(H:Hp)(D:xX),Inv X pins σ H s->t D σ H ->
 wpAny (model X.prog X.w) X.A (execs body X.env) (bL X pins D) (Yu X hs pins D) s
def Xy{h₀:ExceptHandler}{t:TS}(hb:TB X (h₀ :: hs) body t):PS X (.Try body (h₀ :: hs) [] [] pos) t:=λpins s σ H D I q=>wpAny_Try_except (hb pins s σ H D I q)
def Yj{a:List Stmt}{tc:TT}{t u:TS}(hc:PT X.nox c tc)(ha:TB X hs a t)(hb:TB X hs b u):TB X hs [.If c a b pos] (aM tc t u):=by
 intro pins s σ H D I h;have A9:∀{f:Flow}{s':Shared},bL X pins D f s'->(match f with|.next=>wpAny (model X.prog X.w) X.A (execs [] X.env) (bL X pins D) (Yu X hs pins D) s'|f=>bL X pins D f s'):=λ{f s'} q=>by
  cases f with
  |next=>exact Uj q
  |brk=>exact q
  |cont=>exact q
  |ret u=>exact q
 refine S3 (wpAny_If (V6 (hc pins s σ H _ (I.wish _) h) (λd s1 ⟨H1,I1',q1⟩=>?_) λ_ _ z=>z.elim));have I1:=I1'.unwish;cases d with
 |true=>exact V6 (ha pins s1 σ H1 D I1 q1) (λf s' q=>A9 q) λ_ _ z=>z
 |false=>exact V6 (hb pins s1 σ H1 D I1 q1) (λf s' q=>A9 q) λ_ _ z=>z
def HX(K:Nl)(J:Addr)(i:Nat)(ts:Addr->TS)(D:xX)(σ:St):XK:=λe dx H'=>∃a C,e = .ref a/\H' a=some (exO a C dx false)/\XCls K C/\mroIn K C (.ref J)=some true /\
 ts a { nx:=fun σ' JN=>D.nx (σ'.set i none) JN,rt:=D.rt } (σ.set i (some (.ref a))) H'
theorem Y3{n:Str}{σ:St}(I1:Inv X pins σ H1 s1)(hq:CXr X.prog X.w X.stack H1 s1 (HX X.K Ja i ts D σ) ev s')
  (hJ:X.mg J=some (.ref Ja)) (xJ:XCls X.K Ja) (hs:∀a,PSs (jS X a) (So :: C5) (ts a)) (hi:X.N[i]?=some n) (hN:X.N.Nodup) (GC:X.env.scope.names.lookup n=some .local) (hgJ:Gl X J)
  (BF:X.stack=X.env::X.outer) (hfm:X.env.frame=some X.env.locals) (hdJ:(J==("__debug__":Str))=false):Yu X [.ExceptHandler (some (.Name J jp)) (some n) (So :: C5) GB] pins D ev s':=by
 obtain⟨a,C,dx,H',T,rfl,os,bare,un,hok,ea,hT,hz,Fl,a',C',ee,ea',xc,hmr,K'⟩:=hq;cases ee;obtain⟨oe,ovs,ov,e1,e2,_⟩:=xP hok ea;obtain⟨oe',ovs',ov',JJ,JI,_⟩:=xP hok ea';rw[e1]at JJ;cases JJ;rw[e2]at JI;cases JI;have no:∀b∈([]:List Addr),(b∈X.ex\/X.s₀.heap.objs.size<=b)/\b≠X.env.locals/\(∀x c,X.env.cells.lookup x=some c->c≠b)/\∀p∈X.pn++pins,p.1≠b:=λb z=>absurd z (by simp);have I':=Inv.call' (ch:=[]) I1 os un hok bare no;refine mC (base:=X.base) (L:=X.env.locals) (BF▸I'.ok.frames) (BF▸I'.stack) hfm Fl (λT v z=>by cases z;rfl) λh1 T1 G7 N F1=>vG (s:={ s' with heap:=h1 }) F1 λh2 k2 F2=>?_;rw[<-BF]at N;have na:∀b,H' b=none->b≠a:=λb q z=>by rw[z,ea]at q;cases q
 have mk:∀h2,(∀b o,b≠T1->h1.get? b=some o->h2.get? b=some o)->Fly h2 a C dx (some (T1,.none))->Inv X pins σ H' { s' with heap:=h2 }:=λh2 k2 F2=>by
  have IQ:=uy I' ea (λT' v' z=>by cases z;exact hT) N G7 k2 F2;rw[m7 ea]at IQ;have nT:∀b o,s'.heap.get? b=some o->b≠T1:=λb o e=>VD (V8 (VV e) G7);refine Inv.call' (ch:=[]) I1 (s':={ s' with heap:=h2 }) os ⟨λb o e q hb hx=>?_,λb o e q hb hx=>?_,un.free,λb o e hx=>?_,un.tups,un.frzs,un.tbls⟩ IQ bare no
  ·have g:=un.keep b o e q hb hx;refine k2 b o (nT b o g) (N.keep b o g hb (na b (un.free b o e q hx)) λT' v' z y=>?_);cases z;exact absurd (VV e) (by rw[y];exact T4.mpr hz)
  ·obtain⟨sl,g⟩:=un.slot b o e q hb hx;obtain⟨IB,g2⟩:=N.slot b _ g hb;exact⟨IB,k2 b _ (nT b _ g) g2⟩
  ·obtain⟨o1,g⟩:=un.there b o e hx;obtain⟨o2,g2⟩:=N.there b o1 g;exact⟨o2,k2 b _ (nT b _ g) g2⟩
 have I2:=mk h2 k2 F2;obtain⟨oe2,vs2,g1,g2,g3,g4,g5⟩:=id F2;refine lO (xQ (X:=jS X a) (js I2 a) hgJ hJ ?_ hdJ);refine Y6 (K:=X.K) (s:={ s' with heap:=h2 }) I2.kIn xc xJ hmr g1 g2 ⟨rfl,vG (s:={ s' with heap:=h2 }) F2 λh3 k3 F3=>?_⟩;have I3:=mk h3 (λb o z e=>k3 b o z (k2 b o z e)) F3;refine vX (X:=jS X a) (js I3 a) hN hi (.inl GC) (v:=.ref a) rfl (λs4 I4=>?_) (.inr GC);refine V6 (hs a pins s4 _ H' _ I4 K') (λf s5 q=>?_) λ_ _ z=>z;cases f with
 |next =>
  obtain⟨σ',JN,I5,q⟩:=q;exact jr (qp I1.ok I5) hN hi GC λs6 I6=>⟨_,_,I6,q⟩
 |ret u =>
  obtain⟨v,σ',JN,I5,rv,q⟩:=q;exact jr (qp I1.ok I5) hN hi GC λs6 I6=>⟨v,_,_,I6,rv,q⟩
 |brk=>obtain⟨_,_,_,q⟩:=q;exact q.elim
 |cont=>obtain⟨_,_,_,q⟩:=q;exact q.elim
def Yi(K:Nl)(J:Addr)(j:Nat)(sp:Sp)(ta:TA)(i:Nat)(ts:Addr->TS):TS:=λD σ H=>ta σ H λvs H1=>sp vs H1 (λv H2=>D.nx (sv σ j v) H2) (HX K J i ts D σ)
theorem gk{n:Str}{ta:TA}(C:yw X.prog X.w X.K X.mg X.base k x ps sp)(hr:Room k' X.A)(hk:k<=k')(ha:PA X.nox (e::es) ta)
  (hJ:X.mg J=some (.ref Ja)) (xJ:XCls X.K Ja) (hs:∀a,PSs (jS X a) (So :: C5) (ts a)) (hj:X.N[j]?=some y) (hi:X.N[i]?=some n) (hN:X.N.Nodup) (J5:X.env.scope.names.lookup y=some .local:=by rfl) (GC:X.env.scope.names.lookup n=some .local:=by rfl) (hg:Gl X x:=by rfl) (hgJ:Gl X J:=by rfl)
  (BF:X.stack=X.env::X.outer:=by rfl) (hfm:X.env.frame=some X.env.locals:=by rfl) (GA:swapsWith (.Call (.Name x p) (e::es) [] pos) (some (.Name y yp)) MC.line X.env=pure false:=by rfl)
  (CQ:(x==("__debug__":Str))=false:=by decide) (hdJ:(J==("__debug__":Str))=false:=by decide) (he:starEach (e::es) X.env=(false,eval e X.env)::starEach es X.env:=by rfl) (AZ:(backTo pos (starEach es X.env)).any (·.1)=false:=by rfl) :
  TB X [.ExceptHandler (some (.Name J jp)) (some n) (So :: C5) GB] [.Assign [.Name y yp] (.Call (.Name x p) (e::es) [] pos) MC] (Yi X.K Ja j sp ta i ts):=by
 intro pins s σ H D I h;obtain⟨f,fd,F,b,hm,hkp⟩:=C.ex;refine S3 (wpAny_Assign_Name (UB (xQ I hg hm ?_ CQ)) GA);refine TX (h₀:=X.base) I.ok.mod.kin hkp (V6 (ha pos pins s σ H _ (I.wish _) h) (λus s1 ⟨vs,H1,I1',r,q⟩=>⟨I1'.kIn,?_⟩) λ_ _ z=>z.elim) he AZ;have I1:=I1'.unwish;have hl:(us++[]).length=ps.length:=by rw[List.append_nil];exact r.length.symm.trans (F.len _ _ _ _ q)
 have hb:=b s1 us I1.kIn hl;rw[List.append_nil]at hb;refine SQ (T9 (F.run X.A X.stack s1 H1 ⟨us,[]⟩ us vs _ _ (hr.mono hk) I1.env0 hb r q) λr s' hq=>?_);cases r with
 |ok fl =>
  cases fl with
  |ret u =>
   obtain⟨v,H2,I2,rv,q2⟩:=I1.after hq;have q3:D.nx (sv σ j v) H2:=q2;rw[<-qU]at q3;refine vX I2 hN hj (.inl J5) rv (λs2 I3=>Uj (Uj (show SP X pins D .next s2 from⟨_,H2,I3,q3⟩))) (.inr J5)
  |next=>exact False.elim hq
  |brk=>exact False.elim hq
  |cont=>exact False.elim hq
 |error ev=>exact Y3 I1 hq hJ xJ hs hi hN GC hgJ BF hfm hdJ
end
end
section
section
variable {X:Cx}
def WP(K:Nl)(n:Nat)(t:TGs):TG:=λv σ H Q=>∃a xs,v = .ref a/\SqL K H a xs/\xs.length=n/\t xs σ H Q
def Zp{t:TGs}{n:Nat}(hc:X.calm=true)(h:PGs X es t)
  (hn:(assignEach es X.env).length=n:=by rfl) (BF:(assignEach es X.env).findIdx? (·.1)=none:=by rfl):PG X (.Tuple es k pos) (WP X.K n t):=by
 intro pins s σ H v u Q I r hw;obtain⟨a,xs,e1,hq,hl,hw⟩:=hw;subst e1;cases r;obtain⟨Af,rv,⟨o,m,e,c,_,d⟩,hz⟩:=I.list hq;have ht:s.heap.IsList a Af.toArray:=⟨o,e,c,m,d⟩
 rw[assign_Tuple];refine WC (T5 ?_);unfold unpack;rw[hn,BF,show n=Af.toArray.size by simp[<-hl,rv.length]];refine WC (Vh (kun_itemsOf (I.ok.hd hc) ht λh' hx=>?_));have I1:Inv X pins σ H { s with heap:=h' }:=I.kept (t':=s.toks) λb o e=>hx b o (VD (VV e)) e;exact h pins _ σ H xs _ Q I1 (by simpa using rv) hw
def XU(K:Nl)(i j:Nat):TG:=λv σ H Q=>∃a x y,v = .ref a/\SqL K H a [x,y]/\Q (sv (sv σ i x) j y) H
def ZT(i j:Nat)(hc:X.calm=true)(hN:X.N.Nodup)(hi:X.N[i]?=some x:=by rfl)(hj:X.N[j]?=some y:=by rfl)(hx:Loc X.env.scope x:=by first|exact Or.inl rfl|exact Or.inr rfl)(hy:Loc X.env.scope y:=by first|exact Or.inl rfl|exact Or.inr rfl)
  (hf:X.fn x=true\/X.env.scope.names.lookup x=some .local:=by first|exact .inl rfl|exact .inr rfl) (hf':X.fn y=true\/X.env.scope.names.lookup y=some .local:=by first|exact .inl rfl|exact .inr rfl)
  (hn:(assignEach [.Name x p,.Name y p'] X.env).length=2:=by rfl) (BF:(assignEach [.Name x p,.Name y p'] X.env).findIdx? (·.1)=none:=by rfl)
  (hs:(assignEach [.Name x p,.Name y p'] X.env).map (·.2)=assign (.Name x p) X.env::(assignEach [.Name y p'] X.env).map (·.2):=by rfl) (J1:(assignEach [.Name y p'] X.env).map (·.2)=assign (.Name y p') X.env::(assignEach [] X.env).map (·.2):=by rfl) :
  PG X (.Tuple [.Name x p,.Name y p'] k pos) (XU X.K i j):=by
 intro pins s σ H v u Q I r h;obtain⟨a,x1,y1,rfl,hq,q⟩:=h;exact Zp hc (vQ (xt i hN hi hx hf) (vQ (xt j hN hj hy hf') kK J1) hs) hn BF pins s σ H _ u Q I r ⟨a,_,rfl,hq,rfl,x1,_,rfl,y1,_,rfl,rfl,q⟩
end
end
section
section
variable {X:Cx}{own N:GM}{scope:Nu}{cl:Ni}
def lj(i:Nat)(hN:X.N.Nodup)
  (k:CompOk X own N scope cl) (AN:X.A.handled=some (.ref ax)) (hi:PIH X ax tg iter wi)
  (hg:∀(C:Addr)(s₀:Np)(H₀:Hp)(ex:GT),PG (zT X (own++N) scope cl C s₀ H₀ ex) tg g) (ht:∀(C:Addr)(s₀:Np)(H₀:Hp)(ex:GT),PIf (zT X (own++N) scope cl C s₀ H₀ ex) AE (tt C s₀ H₀ ex))
  (he:∀(C:Addr)(s₀:Np)(H₀:Hp)(ex:GT),PE (zT X (own++N) scope cl C s₀ H₀ ex) AG (te C s₀ H₀ ex))
  (hx:ixs.map (λi=>X.N[i]?)=N.map some)
  (hy:X.N[i]?=some y:=by rfl) (EI:X.env.scope.names.lookup y=some .local:=by rfl)
  (GA:swapsWith (.ListComp AG [⟨tg,iter,AE,0⟩] scope pos) (some (.Name y py)) B2.line X.env=pure true:=by rfl)
  (hs:∀x,foldedSetIterable iter X.env x=pure x:=by intro _;rfl):PS X (.Assign [.Name y py] (.ListComp AG [⟨tg,iter,AE,0⟩] scope pos) B2) (sr i (vZ own.length ixs wi g tt te)):=by
 intro pins s σ H D I h;rw[exec_Assign_Name_used _ _ _ _ GA];refine WC (T5 (WC ?_));show wpAny _ X.A (do let _ <-comprehension (.ListComp AG [⟨tg,iter,AE,0⟩] scope pos) scope X.env _ (newList []) false (eval iter X.env) (some (assign (.Name y py) X.env))) _ _ s;refine WC (V6 (T8 (use:=some (assign (.Name y py) X.env)) (Q:=λ_ s'=>SP X pins D .next s') rfl hs k.clos k.kind k.names (thn (hi pins s σ H _ I h) λv s1 h1=>thn h1 λIN s2 h2=>?_)) (λ_ s' hq=>VZ (VZ hq)) λ_ _ e=>e);obtain⟨it,fp,tn,J,H2,rfl,I2,T,HA,f2,q⟩:=h2;refine nI (Q:=λx H1=>D.nx (sv σ i x) H1) (RR:=λAw C=>compPost (model X.prog X.w) X.A X.xe (some (assign (.Name y py) X.env)) (λ_ s'=>SP X pins D .next s') Aw C) k AN (ju hx) (pW hx) hg ht he I2 T HA f2 q ?_;intro L C H' s' m J' hn hC hL HZ hp hc h0 q';obtain⟨o,es,ep,ho,hd,hk,hm⟩:=id hn;have J2:Inv X (pins++[(C,o)]) σ H' s':=J'.pins_of λp Kj=>(VQ.mp Kj).elim (λz=>J'.pin p (VM _ z)) λz=>by
  have e:p=(C,o):=by simpa using z
  subst e;exact⟨ho,hC,hL,HZ,λv z=>by rw[hd]at z;cases z⟩
 have hg:PG X (.Name y py) (mG i):=xt i hN hy (.inl EI) (.inr EI);show wpAny (model X.prog X.w) X.A (assign (.Name y py) X.env (.ref L)) _ _ s';refine thn (hg _ s' σ H' (.ref L) (.ref L) D.nx J2 rfl q') λ_ s3 h3=>?_;obtain⟨σ3,H3,I3,q3⟩:=h3;have pc:=I3.pin (C,o) (VM _ (VM _ (VX.mpr rfl)));refine⟨m,⟨o,es,ep,pc.1,hd,hk,hm⟩,λJG Fy=>⟨σ3,H3,?_,q3⟩⟩;exact uE (I3.unpinned) pc.2.1 hL hp hc h0 (λb ob hb e=>Fy.extBut b ob hb e)
def ub(i:Nat)(hN:X.N.Nodup)(k:CompOk X [x] N scope cl)(hc:X.A.handled=some (.ref ax))(hi:PIH X ax (.Name x px) iter wi)(ht:∀(C:Addr)(s₀:Np)(H₀:Hp)(ex:GT),PIf (zT X ([x]++N) scope cl C s₀ H₀ ex) AE (tt C s₀ H₀ ex))
  (he:∀(C:Addr)(s₀:Np)(H₀:Hp)(ex:GT),PE (zT X ([x]++N) scope cl C s₀ H₀ ex) AG (te C s₀ H₀ ex)) (hx:ixs.map (λi=>X.N[i]?)=N.map some) (hy:X.N[i]?=some z:=by rfl) (EI:X.env.scope.names.lookup z=some .local:=by rfl)
  (GA:swapsWith (.ListComp AG [⟨.Name x px,iter,AE,0⟩] scope pos) (some (.Name z pt)) B2.line X.env=pure true:=by rfl) (hs:∀x,foldedSetIterable iter X.env x=pure x:=by intro _;rfl) :
  PS X (.Assign [.Name z pt] (.ListComp AG [⟨.Name x px,iter,AE,0⟩] scope pos) B2) (sr i (vZ 1 ixs wi (mG 0) tt te)):=lj i hN k hc hi (pz k) ht he hx hy EI GA hs
end
def iJ{tt:TT}{te:TE}{ρ:St}{Q:VK}(Pv:Addr->Nat->List V->Hp->Prop)(hsz:x.length<=sizeLine)
  (h0:∀D H2,H1 D=none->Same H1 H2->H2 D=some (.lst [])->Pv D 0 [] H2)
  (hl:∀D i ys H,Pv D i ys H->H D=some (.lst ys)/\ys.length<=i)
  (hs:∀D i c ys H,x.cps[i]?=some c->Pv D i ys H->qX tt te (some (.str ⟨#[c]⟩) :: ρ) D x.length i ys (Pv D (i+1)) H)
  (hd:∀D ys H,Pv D x.length ys H->Q (.ref D) H):xp 1 (mG 0) tt te ρ (Its x) Q H1 :=
 wv (J:=Its x) Pv hsz h0 (λD i ys H _ p=>hl D i ys H p) (λ_ _ _ _ hi _=>hi) (λ_ _ _ _=>VW _) (λD i v ys H H' τ hi hτ p y=>by
  obtain⟨t,rfl⟩:=uz hτ;obtain⟨rfl,c,hc,rfl⟩:=y;exact⟨⟨[some _],rfl,rfl⟩,hs D i c ys _ hc p⟩) hd
end
end My
namespace Kx
open PySem PySem.Spec L2 My
open PyProof.Rows hiding St
def top(i:Nat):Stmt:=PySem.Challenge.pw_manyjudges_k66_read_as_written.main.body.getD i (.Pass ⟨0,0,0,0⟩)
def gF{t u:TS}{D:xX}{σ:L2.St}{H:Hp}(h:t { D with nx:=u D } σ H):o4 t u D σ H:=h
end Kx
namespace Kx
open PySem PySem.Spec L2 My
open PyProof.Rows hiding St
local macro_rules|`(tactic| walk_at "r1")=>`(tactic| first|dsimp only[aM,Yi,HX,XU,ah,gg,bF,aw,bE,mj,XZ,bG,tFr,Yc,XH,Yd,re,ak,aZ,YT,gf,Yf,bD,aL,Yb,mV,gv,sv,Xe,mG,tOp,tC,bC,dE,k4,tCB,aj,k6,tSl,Xf,Xa,mB,af,Xd,ai,Ya,tOr,Ye,tIf,mBM,WV,XG,iR1,iEn,sr,ZK,eN,vZ,iR3,cI,iZt,cJ,cH,fR,fT,Zd,Zw,Zy,Zx,Wh,X4,X1,X0,X3,Z3,Z1,Zz,Z2,Z0,X2,X5,YB,YA,Wi,X9,X8,YH,YG,Z7,Z6,ft,cU,X7,Xz,Z4,YE,YC,YD,X6,Wg,ZL,tSS,Wj,Z5,tFC,tF0,tFv,tJn,fU,Yg,Yh,qX,wT,ge,Y7,YF,mG2,List.map_cons,List.map_nil,id,WN,WM,decide_true,decide_false,Bool.not_true,Bool.not_false,if_true,if_false,ite_true,ite_false,reduceIte]|simp only[List.map_cons,List.map_nil,w01,w02,w03,w04,w10,w12,w13,w14,w20,w21,w23,w24,w30,w31,w32,w34,w40,w41,w42,w43,List.append_nil,decide_true,decide_false,Bool.not_true,Bool.not_false,if_true,if_false,Bool.false_eq_true,ite_true,ite_false,reduceIte])
local macro_rules|`(tactic| walk_at "sc")=>`(tactic| exact⟨rfl,rfl,rfl,by decide +kernel,rfl,by decide +kernel,by decide +kernel⟩)
local macro_rules|`(tactic| walk_at "ln")=>`(tactic| (intro _ _ _ _ h;(repeat(obtain⟨_,h⟩:=h));subst_vars;rfl))
set_option hygiene false in
local macro_rules|`(tactic| walk_at "go")=>`(tactic| ((walk_at "sc");(walk_at "ln");intro f cdv A outer s H vs Q E hr nd h))
local macro_rules|`(tactic| walk_at "rd")=>`(tactic| (repeat(first|dsimp only[o4,gh]|walk_at "r1"));try dsimp only)
local macro_rules|`(tactic| walk_at "rs")=>`(tactic| (repeat(walk_at "r1"));try dsimp only)
local macro_rules|`(tactic| walk_at "rp")=>`(tactic| (repeat(first|with_reducible refine gF ?_|dsimp only[gh]|walk_at "r1"));try dsimp only)
variable{gs k:Nc}{α:Type}{c ep f i m n p r:Nat}{j:Int}{C Cb Ce Cj Cn Co Cr Ta Wa a b b' j' ja o q sa:Addr}{H H' H0 H1 H2:Hp}{dx od:HK}{fs:N2}{E:XK}{x y z:Nf}{t:Say}{tb u:TS}{D:xX}{t0 t1 t2 t3 t4 t5 t6:Tok}{v:V}{A B ls ss xs ys:GM}{ts:N3}{Jt sp:Sp}{R ks:KM}{ds:GE}{L9 us us' vs:N1}{J J':KF}{Q Q':VK}{l:Option Int}
section
variable {P:Nn}{w:No}{K:Nl}{mg:FB}{base:Nw}
def YZ(K:Nl)(n:Nat):Sp:=λvs H Q _=>∃(v:V)(h:Addr)(s:Say)(hs:GM),vs=[v,.ref h]/\SayAt K H v s/\s.pieces<=n/\SqT K H h (hs.map V.str)/\Q (.bl (s.so hs)) H
theorem oC(D:Def K mg "is_so" (top 11) ["saying","held"]):∀n:Nat,zq P w K mg base n "is_so" ["saying","held"] (YZ K n)
 |0=>zB D λvs H Q E h=>by
  obtain⟨v,h,s,hs,_,_,hp,_⟩:=h;exact absurd s.pieces_pos (by lia)
 |n+1=>by
  have Ci:=oC D n;refine D.callee (N:=["saying","held","kind","one","other"]) ?_ ?_ ?_;walk_at"go";obtain⟨v,h,s,hs,rfl,hv,hp,hh,q⟩:=h;refine⟨[some v,some (.ref h),none,none,none],_,rfl,(z6 (zh 2 nd (zQ (z8 0) z5))
  (z6 (zf (zo (yt hr.units) (z8 2) zy (zp _)) (z4 (zr (yH bt (zQ (z8 0) z5) (z8 1) (by with_unfolding_all rfl)))) zt)
  (z6 (zf (zo (yt hr.units) (z8 2) zy (zp _)) (z4 (zr (j8 (zn Ci hr (z9 (zQ (z8 0) z5) (z9 (z8 1) z7)))))) zt)
  (z6 (zh 3 nd (zn Ci hr (z9 (zQ (z8 0) z5) (z9 (z8 1) z7))))
  (z6 (zh 4 nd (zn Ci hr (z9 (zQ (z8 0) z5) (z9 (z8 1) z7))))
  (z6 (zf (zo (yt hr.units) (z8 2) zy (zp _)) (z4 (zr (rA (z8 3) (wP (z8 4))))) zt)
  (z6 (zf (zo (yt hr.units) (z8 2) zy (zp _)) (z4 (zr (ZS (z8 3) (wP (z8 4))))) zt)
  (z4 (zr (ZS (j8 (z8 3)) (wP (z8 4)))))))))))),?_⟩
  cases s with
  |letter x =>
   obtain⟨a,rfl,ha⟩:=hv;walk_at"rp";refine⟨_,_,.inr ha,rfl,?_⟩;walk_at"rp";refine⟨_,_,.inr ha,rfl,?_⟩;walk_at"rp";refine⟨_,.inr hh,rfl,nA hs,?_⟩;rw[uC];exact q
  |neg t =>
   obtain⟨a,u,rfl,ha,ht⟩:=hv;walk_at"rp";refine⟨_,_,.inr ha,rfl,?_⟩;walk_at"rp";refine⟨_,_,.inr ha,rfl,?_⟩;walk_at"rp";exact⟨u,h,t,hs,rfl,ht,by have:=hp;simp only[Say.pieces]at this;lia,hh,q⟩
  |bin o t t' =>
   obtain⟨a,u,u',rfl,ha,ht,Fw⟩:=hv;have p1:t.pieces<=n/\t'.pieces<=n:=by have:=hp;simp only[Say.pieces]at this;lia
   cases o <;>
   ·dsimp only[Op2.word]at ha;walk_at"rp";refine⟨_,_,.inr ha,rfl,?_⟩;walk_at"rp";refine⟨_,_,.inr ha,rfl,?_⟩;walk_at"rp";refine⟨u,h,t,hs,rfl,ht,p1.1,hh,?_⟩;refine⟨_,_,.inr ha,rfl,?_⟩;refine⟨u',h,t',hs,rfl,Fw,p1.2,hh,?_⟩;walk_at"rp";simp only[Say.so,Op2.so]at q;cases e:Say.so hs t<;>rw[e]at q<;>simpa using q
def je{ns:Nj}{k:Int}(h0:0<=k)(h:k<(ns.length:Int)):∃v:Int,atI (ns.map V.int) k=some (.int v):=by
 have hk:k.toNat<ns.length:=by lia
 have ek:k=((k.toNat:Nat):Int):=by lia
 have e:atI (ns.map V.int) ((k.toNat:Nat):Int)=some (.int ns[k.toNat]):=xf (by rw[VA,V2 hk]<;>rfl);rw[<-ek]at e;exact⟨_,e⟩
def sS{xs:List α}{k:Int}(h0:0<=k)(h:k<(xs.length:Int)):∃v,v∈xs/\atI xs k=some v:=by
 have hk:k.toNat<xs.length:=by lia
 have ek:k=((k.toNat:Nat):Int):=by lia
 have e:atI xs ((k.toNat:Nat):Int)=some xs[k.toNat]:=xf (V2 hk);rw[<-ek]at e;exact⟨_,Ua hk,e⟩
def cm{i:Int}(h:-(2 ^ 64)<i/\i<2 ^ 64):CMul i j:=.inl h
def cm2{i:Int}(h:-(2 ^ 64)<j/\j<2 ^ 64):CMul i j:=.inr h
def gP(K:Nl):Sp:=λvs H Q _=>∃(a:Addr)(ns:Nj)(k:Int),vs=[.ref a,.int k]/\SqL K H a (ns.map V.int)/\ns.length<=5000/\0<=k/\k<=100000/\∀r:Int,Q (.int r) H
def b7(D:Def K mg "_law_cell" (top 40) ["_law_script","_law_k"])(Ab:mg "len"=none):zq P w K mg base 1 "_law_cell" ["_law_script","_law_k"] (gP K):=by
 refine D.callee (N:=["_law_script","_law_k","_law_number"]) ?_ ?_ ?_;walk_at"go";obtain⟨a,ns,k,rfl,hS,Bx,h0,hk,q⟩:=h;refine⟨[some (.ref a),some (.int k),none],_,rfl,(z6 (zf (zo vh (z8 1) (zw zR rfl Ab zZ (z9 (z8 0) z7)) (zp _)) (z4 (zr (zQ (z8 0) (z8 1)))) zt)
  (z6 (zh 2 nd (zu zk (zu xU (z8 1) z5) z5))
  (z6 (zf (zo vg (zw zR rfl Ab zZ (z9 (z8 0) z7)) z5 (zp _)) (z4 (zh 2 nd (zu zk (zu zk (zu xU (zu xE (zQ (z8 0) (zu xE (z8 1) (zw zR rfl Ab zZ (z9 (z8 0) z7)))) z5) z5) (zu xU (zu xU (z8 1) (z8 1)) z5)) z5))) zt)
  (z4 (zr (zu xE (zu xU (z8 2) (z8 2)) z5)))))),?_⟩
 walk_at"rp";refine⟨_,.inl hS,?_⟩;rw[WA];have hkk:k*k<=100000*100000:=Int.mul_le_mul hk hk h0 (by decide);have Lf:0<=k*k:=Int.mul_nonneg h0 h0;refine yx (λc=>?_) (λc=>?_)
 ·obtain⟨v,e⟩:=je h0 (V9 c);exact⟨_,_,.inl hS,e,q v⟩
 ·refine⟨cm2 (by lia),_,.inl hS,?_⟩;rw[WA];refine yx (λd=>?_) (λd=>?_)
  ·have d':(0:Int)<(ns.length:Int):=V9 d;refine⟨_,.inl hS,?_⟩;rw[WA];obtain⟨v,e⟩:=je (ns:=ns) (k:=k % (ns.length:Int)) (Tn _ (by lia)) (TW _ d');refine⟨d',_,_,.inl hS,e,?_⟩;walk_at"rp";exact⟨by decide,cm2 (by lia),cm (by lia),cm (by lia),cm (by lia),by decide,q _⟩
  ·walk_at"rp";exact⟨cm (by lia),by decide,q _⟩
def wR(K:Nl):Sp:=λvs H Q _=>∃(a:Addr)(ns:Nj)(k m:Int),vs=[.ref a,.int k,.int m]/\SqL K H a (ns.map V.int)/\ns.length<=5000/\0<=k/\k<=100000/\0<m/\∀r:Int,0<=r->r<m->Q (.int r) H
def cB(D:Def K mg "_law_pick" (top 41) ["_law_script","_law_k","_law_many"])(FZ:zq P w K mg base 1 "_law_cell" ["_law_script","_law_k"] (gP K)):zq P w K mg base 2 "_law_pick" ["_law_script","_law_k","_law_many"] (wR K):=by
 refine D.callee (N:=["_law_script","_law_k","_law_many","_law_number"]) ?_ ?_ ?_;walk_at"go";obtain⟨a,ns,k,m,rfl,hS,Bx,h0,hk,hm,q⟩:=h;refine⟨[some (.ref a),some (.int k),some (.int m),none],_,rfl,(z6 (zh 3 nd (zu zk (zu xU (zu xE (zn FZ hr (z9 (z8 0) (z9 (z8 1) z7))) z5) (zu zk z5 (zu xU z5 (z8 1)))) (zu xU z5 (z8 1))))
  (z4 (zr (zu xE (zu lf (zu xE (z8 3) z5) z5) (z8 2))))),?_⟩
 walk_at"rp";refine⟨a,ns,k,rfl,hS,Bx,h0,hk,λr=>?_⟩;walk_at"rp";exact⟨by decide,cm (by lia),cm (by lia),cm (by lia),by decide,⟨by decide,by decide⟩,hm,q _ (Tn _ (by lia)) (TW _ hm)⟩
def zb(h:n<=1000):n<=sizeLine:=UQ (xO h)
def lit(s:String):List Nat:=(Str.ofString s).cps.toList
def nx(x:Nf)(p:Nat)(y:Nf):Bool:=y.isPrefixOf (x.drop p)
def ma:List Nat:=lit "abcdefghijklmnopqrstuvwxyz"
def small(c:Nat):Bool:=decide (c∈ma)
def wordsL:List Str:=[("not":Str),("and":Str),("or":Str),("if":Str),("then":Str),("say":Str),("judge":Str)]
def zK(x:Nf)(p:Nat):List Nat:=(x.drop p).takeWhile small
def wy(n:Nf):Bool:=!decide (n=[])&&(!decide (6<n.length)&&!decide ((⟨n.toArray⟩:Str)∈wordsL))
abbrev PR:=Option (Say×Nat×Nat)
def ud(x:Nf)(r p:Nat):PR:=if wy (zK x p)=true then some (.letter ⟨(zK x p).toArray⟩,r,p+(zK x p).length)else none
def sC(x:List Nat)(o:Op2)(t1:Say):PR->PR
 |some (t2,r2,p2)=>if nx x p2 (lit ")")=true then some (.bin o t1 t2,r2,p2+1)else none
 |none=>none
def pIf(x:List Nat)(KS:Nat->Nat->PR)(r p:Nat):PR:=match KS r (p+4)with
 |some (t1,r1,p1)=>if nx x p1 (lit " then ")=true then sC x .imp t1 (KS r1 (p1+6))else none
 |none=>none
def w4(x:List Nat)(KS:Nat->Nat->PR)(r p:Nat):PR:=match KS r (p+1)with
 |some (t1,r1,p1)=>if nx x p1 (lit " and ")=true then sC x .con t1 (KS r1 (p1+5))else if nx x p1 (lit " or ")=true then sC x .dis t1 (KS r1 (p1+4))else none
 |none=>none
def jE:PR->PR
 |some (t,r,p)=>some (.neg t,r,p)
 |none=>none
def zH(x:List Nat):Nat->Nat->Nat->PR
 |0,_,_=>none
 |_+1,0,_=>none
 |f+1,r+1,p=>if nx x p (lit "not ")=true then jE (zH x f r (p+4))else if nx x p (lit "(if ")=true then pIf x (zH x f) r p else if nx x p (lit "(")=true then w4 x (zH x f) r p else ud x r p
structure yC(x:Str):Prop where
 len:x.length<=100000
 cps:∀c∈x.cps.toList,c<16 ^ 8
def rdI(x:Str)(i j:Int):List (Str×V):=[("text",.str x),("place",.int i),("pieces",.int j)]
abbrev rdF(x:Str)(p n:Nat):List (Str×V):=rdI x (p:Int) (n:Int)
def SameA(o:Addr)(H H':Hp):Prop:=∀b u,b≠o->H b=some u->H' b=some u
def SameA.refl(o:Addr)(H:Hp):SameA o H H:=λ_ _ _ e=>e
theorem SameA.trans(a:SameA o H H1)(b:SameA o H1 H2):SameA o H H2:=λc u h e=>b c u h (a c u h e)
def SameA.of(s:Same H H'):SameA o H H':=λb u _ e=>s b u e
theorem SameA.upd(o:Addr)(H:Hp)(u:HO):SameA o H (upd H o u):=λb v h e=>by rw[ze h];exact e
def SameA.tups{dx:Addr}(s:SameA o H H')(h:H o=some (.ins C dx fs)):Tups H H' :=
 ⟨λb xs e=>s b _ (λz=>by rw[z,h]at e;cases e) e,λb u v e=>s b _ (λz=>by rw[z,h]at e;cases e) e⟩
def NoE(Cn o:Addr)(H:Hp)(E:XK):Prop:=∀(a:Addr)(H':Hp),SameA o H H'->H' a=some (exO a Cn none false)->E (.ref a) none H'
def NoE.mono(s:SameA o H H')(h:NoE Cn o H E):NoE Cn o H' E:=λa H2 s2 e=>h a H2 (s.trans s2) e
def i0(h:NoE Cn o H E)(s:SameA o H H1)(na:H1 a=none):E (.ref a) none (upd (upd H1 a (exO a Cn none true)) a (exO a Cn none false)):=by
 refine h a _ (λb u hb e=>?_) zv;have Lm:b≠a:=λz=>by
  have:=s b u hb e;rw[z,na]at this;cases this
 rw[ze Lm,ze Lm];exact s b u hb e
def mS(x0:xT K Cn)(h:NoE Cn o H E)(s:SameA o H H1):∀a,H1 a=none->∃Ex C dx,V.ref a=V.ref Ex/\upd H1 a (exO a Cn none true) Ex=some (exO Ex C dx true)/\XCls K C/\E (Value.ref Ex) dx (upd (upd H1 a (exO a Cn none true)) Ex (exO Ex C dx false)):=λa na=>⟨a,Cn,none,rfl,zv,x0.x,i0 h s na⟩
def v5(x:Str):(Str.empty++x).length=x.length:=by
 show(#[]++x.cps).size=_;rw[S9];exact S5 _
def zV(x:Str):x.cps.toList.length=x.length:=by simp[Str.length]
def yJ(hp:p<=x.length)(h:nx x p y=true):p+y.length<=x.length:=by
 have h1:=(Vl.mp h).length_le;rw[V1]at h1;lia
def gd{x y:Str}(hp:p<=x.length):Txt.startswith3 x y (p:Int)=nx x.cps.toList p y.cps.toList:=by
 have e:fromIndex x.length (p:Int)=p:=by unfold fromIndex;rw[VF (by lia)];lia
 unfold Txt.startswith3;rw[e,StrLaws.subAt_eq,UA,Vy];unfold nx;have hx:=zV x;have hy:=zV y;constructor
 ·rintro⟨h1,h2⟩;have D4:=eq_of_beq h2;rw[Vl,<-D4,<-hy];exact List.take_prefix _ _
 ·intro h;have E7:=Vl.mp h;have h1:=E7.length_le;rw[V1]at h1;refine⟨VT (by lia),UL.mpr ?_⟩;rw[<-hy];exact(SL.mp E7).symm
def rJ{x:Str}{i k:Int}:wV ("place":Str) (.int k) (rdI x i j)=rdI x k j:=rfl
def mR{x:Str}{i k:Int}:wV ("pieces":Str) (.int k) (rdI x i j)=rdI x i k:=rfl
structure RdC(K:Nl)(C:Addr):Prop where
 cl:Cls K C
 t:NoAttr K C "text"
 p:NoAttr K C "place"
 n:NoAttr K C "pieces"
def qP(C:Addr):Sp:=λvs H Q _=>∃(o dx:Addr)(x y:Str)(p n:Nat),vs=[.ref o,.str y]/\H o=some (.ins C dx (rdF x p n))/\p<=x.length/\Q (.bl (nx x.cps.toList p y.cps.toList)) H
def i5(D:DefM K C "is_next" "Reading.is_next" (yh (top 34) 1) ["self","signs"])(rc:RdC K C):vz P w K mg base 1 C "is_next" ["self","signs"] (qP C):=by
 refine D.callee (N:=["self","signs"]) ?_ ?_ ?_;walk_at"go";obtain⟨o,dx,x,y,p,n,rfl,ho,hp,q⟩:=h;refine⟨[some (.ref o),some (.str y)],_,rfl,(z4 (zr (ir (xz (z8 0) rfl) (z9 (z8 1) (z9 (xz (z8 0) rfl) z7))))),?_⟩;walk_at"rp";refine⟨o,C,dx,_,_,rfl,ho,rc.cl,rc.t,rfl,?_⟩;walk_at"rp";refine⟨o,C,dx,_,_,rfl,ho,rc.cl,rc.p,rfl,?_⟩;walk_at"rp";refine⟨y,_,rfl,?_⟩;rw[gd hp];exact q
def W2(y:Str):Prop:=y.length<=100/\∀c∈y.cps.toList,c<16 ^ 8
def qR(C Cn:Addr):Sp:=λvs H Q E=>∃(o dx:Addr)(x y:Str)(p n:Nat),vs=[.ref o,.str y]/\H o=some (.ins C dx (rdF x p n))/\p<=x.length/\W2 y/\(nx x.cps.toList p y.cps.toList=true->∀H',SameA o H H'->H' o=some (.ins C dx (rdF x (p+y.length) n))->Q .non H')/\(nx x.cps.toList p y.cps.toList=false->NoE Cn o H E)
def eZ:(" is missing":Str).length=11:=by decide +kernel
def l6:(" is no name":Str).length=11:=by decide +kernel
theorem yB(x y:Str):(x++y).length=x.length+y.length:=by
 show(x.cps++y.cps).size=_;exact S9
def cD(D:DefM K C "skip" "Reading.skip" (yh (top 34) 2) ["self","signs"])(rc:RdC K C)(Al:vz P w K mg base 1 C "is_next" ["self","signs"] (qP C))(Ad:xT K Cn)(Ai:mg "NoText"=some (.ref Cn))(Ab:mg "len"=none):ym P w K mg base 2 C "skip" ["self","signs"] (qR C Cn):=by
 refine D.calleeX (N:=["self","signs"]) ?_ ?_ ?_;walk_at"go";obtain⟨o,dx,x,y,p,n,rfl,ho,hp,hy,qy,qn⟩:=h;refine⟨[some (.ref o),some (.str y)],_,rfl,(z6 (zf (wn (yg (sw Al hr (by lia) (z8 0) (z9 (z8 1) z7)))) (z4 (y9 (yM Ad Ai (z9 (lh (wk (rH (z8 1)) (wk zy mM))) z7)) yI rfl)) zt)
  (z4 (u4 (z8 0) (zu zk (xz (z8 0) rfl) (zw zR rfl Ab zZ (z9 (z8 1) z7))) rfl))),?_⟩
 walk_at"rp";refine⟨o,dx,_,rfl,ho,rfl,?_⟩;walk_at"rp";refine⟨o,dx,x,y,p,n,rfl,ho,hp,?_⟩;cases hb:nx x.cps.toList p y.cps.toList with
 |false =>
  walk_at"rp";have Fz:=StrLaws.reprText_len y hy.2;have h1:=hy.1;refine⟨by rw[VP];lia,?_⟩;walk_at"rp";have hm:=eZ;refine⟨by rw[v5,VP];lia,by rw[yB,v5,VP];lia,by rw[yB,v5,VP];lia,zb (by simp),mS Ad (qn hb) (SameA.refl _ _)⟩
 |true =>
  walk_at"rp";refine⟨o,C,dx,_,_,rfl,ho,rc.cl,rc.p,rfl,?_⟩;walk_at"rp";refine⟨by rw[VP];have:=hy.1;lia,o,C,dx,_,rfl,ho,rc.cl,rc.p,(show(3:Nat)<1000 by decide),?_⟩;rw[rJ,<-Int.natCast_add];exact qy hb _ (SameA.upd _ _ _) zv
def bI(h:i<(zK x p).length):∃c,x[p+i]?=some c/\small c=true:=by
 have h1:=Ti (l:=x.drop p) small;obtain⟨t,ht⟩:=h1;have e:(x.drop p)[i]?=some (zK x p)[i]:=by
  rw[<-ht];show((zK x p)++t)[i]?=_;rw[U9 h,V2 h]
 rw[Ts]at e;exact⟨_,e,(Vf.mp (List.all_takeWhile (p:=small) (l:=x.drop p))) _ (Ua h)⟩
def gn(h:x[p+(zK x p).length]?=some c):small c=false:=by
 unfold zK at h;rw[<-Ts]at h;generalize x.drop p=s at h
 induction s with
 |nil=>simp at h
 |cons a s ih =>
  rw[List.takeWhile_cons]at h;cases ha:small a with
  |true =>
   rw[ha,VB rfl,VN,List.getElem?_cons_succ]at h;exact ih h
  |false =>
   rw[ha,VF (by decide),Vx,List.getElem?_cons_zero]at h;cases h;exact ha
def j9(hp:p<=x.length):p+(zK x p).length<=x.length:=by
 have:=(Ti (l:=x.drop p) small).length_le;rw[V1]at this;unfold zK;lia
def nz{x:Str}(hp:p<=x.length):Txt.slice x (some (p:Int)) (some ((p+(zK x.cps.toList p).length:Nat):Int))=⟨(zK x.cps.toList p).toArray⟩:=by
 have h1:=j9 (x:=x.cps.toList) (by rw[zV];exact hp);rw[zV]at h1;rw[UL.mp (slice_closesL (by lia) (by lia) (by lia))]
 congr 2
 rw[Vu,show(((p+(zK x.cps.toList p).length:Nat):Int)-(p:Int)).toNat=(zK x.cps.toList p).length by lia];exact(SL.mp (Ti (l:=x.cps.toList.drop p) small)).symm
def str_nil{n:Nf}:((⟨n.toArray⟩:Str)=("":Str))↔n=[]:=by
 constructor
 ·intro h;have h2:=Vp (λz:Str=>z.cps.toList) h;have h3:("":Str).cps.toList=[]:=by decide +kernel
  rw[h3]at h2;simpa using h2
 ·intro h;subst h
  decide +kernel
def wq{t:TS}{σ:L2.St}(C:L2.St->Hp->Prop)(h1:∀N:L2.St->Hp->Prop,(∀σ' H',C σ' H'->N σ' H')->t { D with nx:=N } σ H)(h2:∀σ' H',C σ' H'->u D σ' H'):o4 t u D σ H:=h1 (u D) h2
def kj(C Cn:Addr):Sp:=λvs H Q E=>∃(o dx:Addr)(x:Str)(p n:Nat),vs=[.ref o]/\H o=some (.ins C dx (rdF x p n))/\p<=x.length/\yC x/\(wy (zK x.cps.toList p)=true->∀H',SameA o H H'->H' o=some (.ins C dx (rdF x (p+(zK x.cps.toList p).length) n))->Q (.str ⟨(zK x.cps.toList p).toArray⟩) H')/\(wy (zK x.cps.toList p)=false->NoE Cn o H E)
def fN(D:DefM K C "take_name" "Reading.take_name" (yh (top 34) 3) ["self"])(rc:RdC K C)(Ad:xT K Cn)(Ai:mg "NoText"=some (.ref Cn))(AA:mg "SMALL_LETTERS"=some (.str "abcdefghijklmnopqrstuvwxyz" t1))(AL:mg "LONGEST_NAME"=some (.int 6 t2))(Dq:mg "WORDS"=some (.ref Wa))(hW:∀H,SqT K H Wa (wordsL.map V.str))(Ab:mg "len"=none):ym P w K mg base 1 C "take_name" ["self"] (kj C Cn):=by
 refine D.calleeX (N:=["self","start","name"]) ?_ ?_ ?_;walk_at"go";obtain⟨o,dx,x,p,n,rfl,ho,hp,hx,qy,qn⟩:=h;have hxl:=hx.len;have Cy:=zV x;have hnl:=j9 (x:=x.cps.toList) (p:=p) (by lia);refine⟨[some (.ref o),none,none],_,rfl,(z6 (zh 1 nd (xz (z8 0) rfl))
  (z6 (PS.nox (pj Vt (PW.pt (wQ (zo vh (xz (z8 0) rfl) (zw zR rfl Ab zZ (z9 (xz (z8 0) rfl) z7)) (zp _)) (xG (zo eP (zQ (xz (z8 0) rfl) (xz (z8 0) rfl)) (bq AA) (by with_unfolding_all rfl))))) (z4 (u4 (z8 0) (zu zk (xz (z8 0) rfl) z5) rfl))))
  (z6 (zh 2 nd (zX (xz (z8 0) rfl) (za (z8 1)) (za (xz (z8 0) rfl))))
  (z6 (zf (PW.pt (yR (zo (yt hr.units) (z8 2) zy (zp _)) (yR (zo vg (zw zR rfl Ab zZ (z9 (z8 2) z7)) (wC AL) (zp _)) (yS (zo bt (z8 2) (yF Dq) (by with_unfolding_all rfl)))))) (z4 (y9 (yM Ad Ai (z9 (lh (wk (rH (z8 2)) (wk zy mM))) z7)) yI rfl)) zt)
  (z4 (zr (z8 2))))))),?_⟩
 walk_at"rp";refine⟨o,C,dx,_,_,rfl,ho,rc.cl,rc.p,rfl,?_⟩;refine wq (C:=fun σ' H'=>σ'=[some (.ref o),some (.int (p:Int)),none]/\SameA o H H'/\H' o=some (.ins C dx (rdF x (p+(zK x.cps.toList p).length) n))) (λN hN=>?_) ?_
 ·walk_at"rp";refine⟨λm σ H'=>∃i,i+m=(zK x.cps.toList p).length/\σ=[some (.ref o),some (.int (p:Int)),none]/\SameA o H H'/\H' o=some (.ins C dx (rdF x (p+i) n)),⟨_,0,S5 _,rfl,SameA.refl _ _,ho⟩,?_⟩;rintro m σ H1 ⟨i,him,rfl,s1,h1⟩;walk_at"rp";refine⟨o,C,dx,_,_,rfl,h1,rc.cl,rc.p,rfl,?_⟩;walk_at"rp";refine⟨o,C,dx,_,_,rfl,h1,rc.cl,rc.t,rfl,?_⟩;walk_at"rp";refine⟨by rw[VP];lia,?_⟩;refine yx (λc=>?_) λc=>?_
  ·have A3:=V9 c;refine⟨o,C,dx,_,_,rfl,h1,rc.cl,rc.t,rfl,o,C,dx,_,_,rfl,h1,rc.cl,rc.p,rfl,?_⟩;walk_at"rp";obtain⟨ch,CB⟩:∃ch,x.cps.toList[p+i]?=some ch:=⟨_,V2 (by lia)⟩
   refine⟨by rw[VP];lia,ch,xf CB,_,_,rfl,rfl,?_⟩;have JB:Txt.contains ("abcdefghijklmnopqrstuvwxyz":Str) (⟨#[ch]⟩:Str)=small ch:=StrLaws.found_one _ _;rw[JB]
   by_cases hi:i<(zK x.cps.toList p).length
   ·obtain⟨ch',h2,h3⟩:=bI hi;rw[CB]at h2;cases h2;rw[h3];walk_at"rp";refine⟨fun σ' H'=>σ'=[some (.ref o),some (.int (p:Int)),none]/\SameA o H H'/\H' o=some (.ins C dx (rdF x (p+(i+1)) n)),fun σ' H' ⟨e1,e2,e3⟩=>⟨m-1,by lia,i+1,by lia,e1,e2,e3⟩,?_⟩;walk_at"rp";refine⟨o,C,dx,_,_,rfl,h1,rc.cl,rc.p,rfl,o,C,dx,_,rfl,h1,rc.cl,rc.p,(show(3:Nat)<1000 by decide),by trivial,s1.trans (SameA.upd _ _ _),?_⟩;rw[zv,rJ]
    rfl
   ·have e:i=(zK x.cps.toList p).length:=by lia
    subst e;rw[gn CB];walk_at"rp";exact hN _ _ ⟨rfl,s1,h1⟩
  ·have IW:¬((p+i:Nat):Int)<(x.length:Int):=λz=>c (VT z);have e:i=(zK x.cps.toList p).length:=by lia
   subst e;exact hN _ _ ⟨rfl,s1,h1⟩
 ·rintro σ' H1 ⟨rfl,s1,h1⟩;walk_at"rp";refine⟨o,C,dx,_,_,rfl,h1,rc.cl,rc.t,rfl,?_⟩;walk_at"rp";refine⟨o,C,dx,_,_,rfl,h1,rc.cl,rc.p,rfl,?_⟩;walk_at"rp";refine⟨by rw[VP];lia,?_⟩;rw[nz hp];have F5:(⟨(zK x.cps.toList p).toArray⟩:Str).length=(zK x.cps.toList p).length:=by simp[Str.length]
  have hncp:∀c∈(⟨(zK x.cps.toList p).toArray⟩:Str).cps.toList,c<16 ^ 8:=λc hc=>hx.cps c (by
   have h2:c∈zK x.cps.toList p:=by simpa using hc
   exact Uz ((Ti (l:=x.cps.toList.drop p) small).subset h2))
  have Fz:=StrLaws.reprText_len _ hncp;rw[F5]at Fz;have hm:=l6;have C6:wy (zK x.cps.toList p)=false->_:=λno=>mS Ad (qn no) s1;have sz:∀z:Str,z.length<=2000000->(Str.empty++z).length<=sizeLine/\(Str.empty++z++(" is no name":Str)).length<=sizeLine/\(Str.empty++z++(" is no name":Str)).length<=sizeLine/\[V.str (Str.empty++z++(" is no name":Str))].length<=sizeLine:=λz hz=>⟨by rw[v5,VP];lia,by rw[yB,v5,VP];lia,by rw[yB,v5,VP];lia,zb (by simp)⟩
  have R:wy (zK x.cps.toList p)=false->((reprText ⟨(zK x.cps.toList p).toArray⟩).length<=sizeLine/\_/\_/\_/\_/\_):=λno=>by
   have z:=sz (reprText ⟨(zK x.cps.toList p).toArray⟩) (by lia);exact⟨by rw[VP];lia,z.1,z.2.1,z.2.2.1,z.2.2.2,C6 no⟩
  walk_at"rp";refine yx (λc=>R ?_) λc=>⟨by rw[F5,VP];lia,yx (λc2=>R ?_) λc2=>⟨_,.inr (hW _),rfl,rfl,?_⟩⟩
  ·have e:=str_nil.mp (V9 c);unfold wy;rw[e]
   rfl
  ·have e:=V9 c2;rw[F5]at e;unfold wy;rw[VT (show 6<(zK x.cps.toList p).length by lia)];simp
  ·have e1:¬zK x.cps.toList p=[]:=λz=>c (VT (str_nil.mpr z));have e2:¬6<(zK x.cps.toList p).length:=λz=>c2 (VT (by rw[F5];lia));rw[uC];have e3:(wordsL.any λy=>y==(⟨(zK x.cps.toList p).toArray⟩:Str))=decide ((⟨(zK x.cps.toList p).toArray⟩:Str)∈wordsL):=by
    rw[UA,UW,TU];exact⟨λ⟨y,hy,e⟩=>by rw[<-UL.mp e];exact hy,λh=>⟨_,h,UL.mpr rfl⟩⟩
   rw[e3];have hok:wy (zK x.cps.toList p)=!decide ((⟨(zK x.cps.toList p).toArray⟩:Str)∈wordsL):=by
    unfold wy;rw[VH e1,VH e2]
    rfl
   cases hw:decide ((⟨(zK x.cps.toList p).toArray⟩:Str)∈wordsL)with
   |true =>
    walk_at"rp";exact R (by rw[hok,hw];rfl)
   |false =>
    walk_at"rp";exact qy (by rw[hok,hw];rfl) H1 s1 h1
def xR{o:Op2}{t1:Say}{q:PR}(h:sC x o t1 q=some (t,r,p)):∃t2 p2,q=some (t2,r,p2)/\nx x p2 (lit ")")=true/\t = .bin o t1 t2/\p=p2+1:=by
 unfold sC at h;split at h
 ·rename_i t2 r2 p2;split at h
  ·rename_i hn;cases h;exact⟨_,_,rfl,hn,rfl,rfl⟩
  ·cases h
 ·cases h
theorem yf{x:List Nat}:∀{f r p:Nat}{t:Say}{r' p':Nat},zH x f r p=some (t,r',p')->p<=x.length->r'<r/\p'<=x.length
 |0,r,p,t,r',p',h,_=>by simp[zH]at h
 |f+1,0,p,t,r',p',h,_=>by simp[zH]at h
 |f+1,r+1,p,t,r',p',h,hp=>by
  rw[zH]at h;split at h
  ·rename_i hn;have h4:=yJ hp hn;unfold jE at h;split at h
   ·rename_i t1 r1 p1 e;cases h;have:=yf e (show p+4<=x.length from h4);lia
   ·cases h
  ·split at h
   ·rename_i hn;have h4:=yJ hp hn;unfold pIf at h;split at h
    ·rename_i t1 r1 p1 e;have i1:=yf e (show p+4<=x.length from h4);split at h
     ·rename_i IE;have h6:=yJ i1.2 IE;obtain⟨t2,p2,e2,HM,rfl,rfl⟩:=xR h;have i2:=yf e2 (show p1+6<=x.length from h6);have h1:=yJ i2.2 HM;exact⟨by lia,h1⟩
     ·cases h
    ·cases h
   ·split at h
    ·rename_i hn;have h4:=yJ hp hn;unfold w4 at h;split at h
     ·rename_i t1 r1 p1 e;have i1:=yf e (show p+1<=x.length from h4);split at h
      ·rename_i IE;have h6:=yJ i1.2 IE;obtain⟨t2,p2,e2,HM,rfl,rfl⟩:=xR h;have i2:=yf e2 (show p1+5<=x.length from h6);have h1:=yJ i2.2 HM;exact⟨by lia,h1⟩
      ·split at h
       ·rename_i IE;have h6:=yJ i1.2 IE;obtain⟨t2,p2,e2,HM,rfl,rfl⟩:=xR h;have i2:=yf e2 (show p1+4<=x.length from h6);have h1:=yJ i2.2 HM;exact⟨by lia,h1⟩
       ·cases h
     ·cases h
    ·unfold ud at h;split at h
     ·cases h;exact⟨by lia,j9 hp⟩
     ·cases h
def RES(K:W.Frag)(C Cn o dx:Addr)(x:Str)(H:Hp)(Q:VK)(E:XK):PR->Prop
 |none=>NoE Cn o H E
 |some (t,r,p)=>∀(v:V)(H':Hp),SameA o H H'->H' o=some (.ins C dx (rdF x p (40-r)))->SayAt K H' v t->Q v H'
def aK(K:Nl)(C Cn:Addr)(f:Nat)(ok:List Nat->Nat->Prop)(g:List Nat->Nat->Nat->PR):Sp:=λvs H Q E=>∃(o dx:Addr)(x:Str)(p n:Nat),vs=[.ref o]/\H o=some (.ins C dx (rdF x p n))/\p<=x.length/\yC x/\n<=40/\41-n<=f/\ok x.cps.toList p/\RES K C Cn o dx x H Q E (g x.cps.toList (40-n) p)
def dA(K:Nl)(C Cn:Addr)(f:Nat):Sp:=aK K C Cn f (λ_ _=>True) (λx=>zH x f)
def Wq(K:Nl)(C Cn:Addr)(f:Nat):Sp:=aK K C Cn f (λx p=>nx x p (lit "(if ")=true) (λx=>pIf x (zH x f))
def Wr(K:Nl)(C Cn:Addr)(f:Nat):Sp:=aK K C Cn f (λx p=>nx x p (lit "(")=true) (λx=>w4 x (zH x f))
theorem RES.mono{C Cn o dx:Addr}{x:Str}{H H1:Hp}{Q:VK}{E:XK}(s:SameA o H H1):∀{q:PR},RES K C Cn o dx x H Q E q->RES K C Cn o dx x H1 Q E q
 |none,h=>NoE.mono s h
 |some (t,r,p),h=>λv H' s' h' hv=>h v H' (s.trans s') h' hv
def x9{s:String}(h:(Str.ofString s).length<=100/\((Str.ofString s).cps.toList.all λc=>decide (c<16 ^ 8))=true):W2 (Str.ofString s):=⟨h.1,λc hc=>V9 (Vf.mp h.2 c hc)⟩
def SayAt.monoA{dx:Addr}(s:SameA o H H')(h:H o=some (.ins C dx fs))(hv:SayAt K H v t):SayAt K H' v t:=hv.mono (s.tups h)
def sc_tif:yl ["self","one","other"] ["self"] (zj (yh (top 34) 4)):=⟨rfl,rfl,rfl,by decide +kernel,rfl,by decide +kernel,by decide +kernel⟩
def sc_tpair:yl ["self","one","kind","other"] ["self"] (zj (yh (top 34) 5)):=⟨rfl,rfl,rfl,by decide +kernel,rfl,by decide +kernel,by decide +kernel⟩
def sc_tsay:yl ["self"] ["self"] (zj (yh (top 34) 6)):=⟨rfl,rfl,rfl,by decide +kernel,rfl,by decide +kernel,by decide +kernel⟩
def Zb(D:DefM K C "take_if" "Reading.take_if" (yh (top 34) 4) ["self"])(Ak:ym P w K mg base 2 C "skip" ["self","signs"] (qR C Cn))(Ah:ym P w K mg base (2*f+3) C "take_saying" ["self"] (dA K C Cn f)):ym P w K mg base (2*f+4) C "take_if" ["self"] (Wq K C Cn f):=by
 refine D.calleeX sc_tif (λvs H Q E h=>?_) λff cdv A outer s H vs Q E hr _ h=>?_
 ·obtain⟨o,dx,x,p,n,rfl,_⟩:=h
  rfl
 have nd:=sc_tif.nd;obtain⟨o,dx,x,p,n,rfl,ho,hp,hx,hn,hf,hok,res⟩:=h;have Cy:=zV x;have h4:p+4<=x.length:=by have:=yJ (by lia) hok;rw[Cy]at this;exact this
 refine⟨[some (.ref o),none,none],_,rfl,(z6 (zE (wg Ak zC hr (by lia) (z8 0) (z9 zy z7)))
  (z6 (zh 1 nd (xy Ah zC hr (by lia) (z8 0)))
  (z6 (zE (wg Ak zC hr (by lia) (z8 0) (z9 zy z7)))
  (z6 (zh 2 nd (xy Ah zC hr (by lia) (z8 0)))
  (z6 (zE (wg Ak zC hr (by lia) (z8 0) (z9 zy z7)))
  (z4 (zr (xF (z9 zy (z9 (z8 1) (z9 (z8 2) z7))))))))))),?_⟩
 walk_at"rp";refine⟨o,dx,_,rfl,ho,rfl,o,dx,x,_,p,n,rfl,ho,hp,x9 (by decide +kernel),λ_ H1 s1 h1=>?_,λno=>?_⟩
 ·walk_at"rp";refine⟨o,dx,_,rfl,h1,rfl,o,dx,x,p+4,n,rfl,h1,h4,hx,hn,hf,trivial,?_⟩;replace res:RES K C Cn o dx x H Q E (pIf x.cps.toList (zH x.cps.toList f) (40-n) p):=res;unfold pIf at res;show RES K C Cn o dx x H1 _ E (zH x.cps.toList f (40-n) (p+4));cases e:zH x.cps.toList f (40-n) (p+4)with
  |none =>
   rw[e]at res;exact NoE.mono s1 res
  |some z =>
   obtain⟨t1,r1,p1⟩:=z;rw[e]at res;dsimp only at res;have i1:=yf e (by lia);rw[Cy]at i1;intro v1 H2 s2 h2 Jy;walk_at"rp";have G5:=s1.trans s2;refine⟨o,dx,_,rfl,h2,rfl,o,dx,x,_,p1,_,rfl,h2,i1.2,x9 (by decide +kernel),λHl H3 s3 h3=>?_,λno=>?_⟩
   ·rw[VB (show nx x.cps.toList p1 (lit " then ")=true from Hl)]at res;have h6:p1+6<=x.length:=by have:=yJ (by rw[Cy];exact i1.2) Hl;rw[Cy]at this;exact this
    walk_at"rp";refine⟨o,dx,_,rfl,h3,rfl,o,dx,x,p1+6,40-r1,rfl,h3,h6,hx,by lia,by lia,trivial,?_⟩;show RES K C Cn o dx x H3 _ E (zH x.cps.toList f (40-(40-r1)) (p1+6));rw[show 40-(40-r1)=r1 by lia];unfold sC at res;cases e2:zH x.cps.toList f r1 (p1+6)with
    |none =>
     rw[e2]at res;exact NoE.mono (G5.trans s3) res
    |some z2 =>
     obtain⟨t2,r2,p2⟩:=z2;rw[e2]at res;dsimp only at res;have i2:=yf e2 (by lia);rw[Cy]at i2;intro v2 H4 s4 Gs IP;walk_at"rp";have GZ:=G5.trans (s3.trans s4);refine⟨o,dx,_,rfl,Gs,rfl,o,dx,x,_,p2,_,rfl,Gs,i2.2,x9 (by decide +kernel),λHk H5 s5 h5=>?_,λno=>?_⟩
     ·rw[show lit ")"=(")":Str).cps.toList from rfl]at res;rw[VB Hk]at res;walk_at"rp";refine⟨zb (by simp),λp6 H6 n6 s6 e6=>?_⟩;have Gg:=SameA.of (o:=o) s6;refine res _ H6 (GZ.trans (s5.trans Gg)) ((s6 _ _ h5).trans (by rfl)) ⟨p6,v1,v2,rfl,SqT.of e6,SayAt.monoA (s3.trans (s4.trans (s5.trans Gg))) h2 Jy,SayAt.monoA (s5.trans Gg) Gs IP⟩
     ·rw[show lit ")"=(")":Str).cps.toList from rfl,no,VF (by decide)]at res;exact NoE.mono GZ res
   ·rw[show lit " then "=(" then ":Str).cps.toList from rfl]at res;rw[no,VF (by decide)]at res;exact NoE.mono G5 res
 ·rw[show nx x.cps.toList p ("(if ":Str).cps.toList=true from hok]at no;cases no
def dQ:Str.empty++(" ":Str)++("and":Str)++(" ":Str)=(" and ":Str):=by decide +kernel
def cO:Str.empty++(" ":Str)++("or":Str)++(" ":Str)=(" or ":Str):=by decide +kernel
def fO(D:DefM K C "take_pair" "Reading.take_pair" (yh (top 34) 5) ["self"])(Al:vz P w K mg base 1 C "is_next" ["self","signs"] (qP C))(Ak:ym P w K mg base 2 C "skip" ["self","signs"] (qR C Cn))(Ah:ym P w K mg base (2*f+3) C "take_saying" ["self"] (dA K C Cn f)):ym P w K mg base (2*f+4) C "take_pair" ["self"] (Wr K C Cn f):=by
 refine D.calleeX sc_tpair (λvs H Q E h=>?_) λff cdv A outer s H vs Q E hr _ h=>?_
 ·obtain⟨o,dx,x,p,n,rfl,_⟩:=h
  rfl
 have nd:=sc_tpair.nd;obtain⟨o,dx,x,p,n,rfl,ho,hp,hx,hn,hf,hok,res⟩:=h;have Cy:=zV x;have h4:p+1<=x.length:=by have:=yJ (by lia) hok;rw[Cy]at this;exact this
 refine⟨[some (.ref o),none,none,none],_,rfl,(z6 (zE (wg Ak zC hr (by lia) (z8 0) (z9 zy z7)))
  (z6 (zh 1 nd (xy Ah zC hr (by lia) (z8 0)))
  (z6 (zh 2 nd (fb (yg (sw Al hr (by lia) (z8 0) (z9 zy z7))) zy zy))
  (z6 (zE (wg Ak zC hr (by lia) (z8 0) (z9 (lh (wk zy (wk (fZ (z8 2)) (wk zy mM)))) z7)))
  (z6 (zh 3 nd (xy Ah zC hr (by lia) (z8 0)))
  (z6 (zE (wg Ak zC hr (by lia) (z8 0) (z9 zy z7)))
  (z4 (zr (xF (z9 (z8 2) (z9 (z8 1) (z9 (z8 3) z7)))))))))))),?_⟩
 walk_at"rp";refine⟨o,dx,_,rfl,ho,rfl,o,dx,x,_,p,n,rfl,ho,hp,x9 (by decide +kernel),λ_ H1 s1 h1=>?_,λno=>?_⟩
 ·walk_at"rp";refine⟨o,dx,_,rfl,h1,rfl,o,dx,x,p+1,n,rfl,h1,h4,hx,hn,hf,trivial,?_⟩;replace res:RES K C Cn o dx x H Q E (w4 x.cps.toList (zH x.cps.toList f) (40-n) p):=res;unfold w4 at res;show RES K C Cn o dx x H1 _ E (zH x.cps.toList f (40-n) (p+1));cases e:zH x.cps.toList f (40-n) (p+1)with
  |none =>
   rw[e]at res;exact NoE.mono s1 res
  |some z =>
   obtain⟨t1,r1,p1⟩:=z;rw[e]at res;dsimp only at res;have i1:=yf e (by lia);rw[Cy]at i1;intro v1 H2 s2 h2 Jy;walk_at"rp";have G5:=s1.trans s2;refine⟨o,dx,_,rfl,h2,rfl,o,dx,x,_,p1,_,rfl,h2,i1.2,?_⟩;cases hand:nx x.cps.toList p1 (" and ":Str).cps.toList with
   |true =>
    rw[show lit " and "=(" and ":Str).cps.toList from rfl,hand,VB rfl]at res;walk_at"rp";refine⟨o,dx,_,rfl,h2,rfl,zb (by decide +kernel),zb (by decide +kernel),zb (by decide +kernel),zb (by decide +kernel),zb (by decide +kernel),?_⟩;rw[dQ];refine⟨o,dx,x,_,p1,_,rfl,h2,i1.2,x9 (by decide +kernel),λHl H3 s3 h3=>?_,λno=>?_⟩
    ·skip
     have h6:p1+5<=x.length:=by have:=yJ (by rw[Cy];exact i1.2) Hl;rw[Cy]at this;exact this
     walk_at"rp";refine⟨o,dx,_,rfl,h3,rfl,o,dx,x,p1+5,40-r1,rfl,h3,h6,hx,by lia,by lia,trivial,?_⟩;show RES K C Cn o dx x H3 _ E (zH x.cps.toList f (40-(40-r1)) (p1+5));rw[show 40-(40-r1)=r1 by lia];unfold sC at res;cases e2:zH x.cps.toList f r1 (p1+5)with
     |none =>
      rw[e2]at res;exact NoE.mono (G5.trans s3) res
     |some z2 =>
      obtain⟨t2,r2,p2⟩:=z2;rw[e2]at res;dsimp only at res;have i2:=yf e2 (by lia);rw[Cy]at i2;intro v2 H4 s4 Gs IP;walk_at"rp";have GZ:=G5.trans (s3.trans s4);refine⟨o,dx,_,rfl,Gs,rfl,o,dx,x,_,p2,_,rfl,Gs,i2.2,x9 (by decide +kernel),λHk H5 s5 h5=>?_,λno=>?_⟩
      ·rw[show lit ")"=(")":Str).cps.toList from rfl,VB Hk]at res;walk_at"rp";refine⟨zb (by simp),λp6 H6 n6 s6 e6=>?_⟩;have Gg:=SameA.of (o:=o) s6;refine res _ H6 (GZ.trans (s5.trans Gg)) ((s6 _ _ h5).trans (by rfl)) ⟨p6,v1,v2,rfl,SqT.of e6,SayAt.monoA (s3.trans (s4.trans (s5.trans Gg))) h2 Jy,SayAt.monoA (s5.trans Gg) Gs IP⟩
      ·rw[show lit ")"=(")":Str).cps.toList from rfl,no,VF (by decide)]at res;exact NoE.mono GZ res
    ·(rw[hand]at no;cases no)
   |false =>
    rw[show lit " and "=(" and ":Str).cps.toList from rfl,hand,VF (by decide),show lit " or "=(" or ":Str).cps.toList from rfl]at res;walk_at"rp";refine⟨o,dx,_,rfl,h2,rfl,zb (by decide +kernel),zb (by decide +kernel),zb (by decide +kernel),zb (by decide +kernel),zb (by decide +kernel),?_⟩;rw[cO];refine⟨o,dx,x,_,p1,_,rfl,h2,i1.2,x9 (by decide +kernel),λHl H3 s3 h3=>?_,λno=>?_⟩
    ·rw[VB Hl]at res;have h6:p1+4<=x.length:=by have:=yJ (by rw[Cy];exact i1.2) Hl;rw[Cy]at this;exact this
     walk_at"rp";refine⟨o,dx,_,rfl,h3,rfl,o,dx,x,p1+4,40-r1,rfl,h3,h6,hx,by lia,by lia,trivial,?_⟩;show RES K C Cn o dx x H3 _ E (zH x.cps.toList f (40-(40-r1)) (p1+4));rw[show 40-(40-r1)=r1 by lia];unfold sC at res;cases e2:zH x.cps.toList f r1 (p1+4)with
     |none =>
      rw[e2]at res;exact NoE.mono (G5.trans s3) res
     |some z2 =>
      obtain⟨t2,r2,p2⟩:=z2;rw[e2]at res;dsimp only at res;have i2:=yf e2 (by lia);rw[Cy]at i2;intro v2 H4 s4 Gs IP;walk_at"rp";have GZ:=G5.trans (s3.trans s4);refine⟨o,dx,_,rfl,Gs,rfl,o,dx,x,_,p2,_,rfl,Gs,i2.2,x9 (by decide +kernel),λHk H5 s5 h5=>?_,λno=>?_⟩
      ·rw[show lit ")"=(")":Str).cps.toList from rfl,VB Hk]at res;walk_at"rp";refine⟨zb (by simp),λp6 H6 n6 s6 e6=>?_⟩;have Gg:=SameA.of (o:=o) s6;refine res _ H6 (GZ.trans (s5.trans Gg)) ((s6 _ _ h5).trans (by rfl)) ⟨p6,v1,v2,rfl,SqT.of e6,SayAt.monoA (s3.trans (s4.trans (s5.trans Gg))) h2 Jy,SayAt.monoA (s5.trans Gg) Gs IP⟩
      ·rw[show lit ")"=(")":Str).cps.toList from rfl,no,VF (by decide)]at res;exact NoE.mono GZ res
    ·(rw[no,VF (by decide)]at res;exact NoE.mono G5 res)
 ·rw[show nx x.cps.toList p ("(":Str).cps.toList=true from hok]at no;cases no
theorem kF{C Cn:Addr}{t3:Tok}(DI:DefM K C "take_if" "Reading.take_if" (yh (top 34) 4) ["self"])(DP:DefM K C "take_pair" "Reading.take_pair" (yh (top 34) 5) ["self"])(D:DefM K C "take_saying" "Reading.take_saying" (yh (top 34) 6) ["self"])(rc:RdC K C)(Al:vz P w K mg base 1 C "is_next" ["self","signs"] (qP C))(Ak:ym P w K mg base 2 C "skip" ["self","signs"] (qR C Cn))(AO:ym P w K mg base 1 C "take_name" ["self"] (kj C Cn))(Ad:xT K Cn)(Ai:mg "NoText"=some (.ref Cn))(Au:mg "MOST_PIECES"=some (.int 40 t3)):∀f:Nat,ym P w K mg base (2*f+3) C "take_saying" ["self"] (dA K C Cn f)
 |0=>D.calleeX sc_tsay (λvs H Q E h=>by
   obtain⟨o,dx,x,p,n,rfl,_⟩:=h
   rfl) λff cdv A outer s H vs Q E hr _ h=>by
   obtain⟨o,dx,x,p,n,rfl,ho,hp,hx,hn,hf,_⟩:=h;lia
 |f+1=>by
  have Ah:=kF DI DP D rc Al Ak AO Ad Ai Au f;have Ck:=Zb DI Ak Ah;have BL:=fO DP Al Ak Ah;refine D.calleeX (k:=2*f+4) sc_tsay (λvs H Q E h=>?_) λff cdv A outer s H vs Q E hr _ h=>?_
  ·obtain⟨o,dx,x,p,n,rfl,_⟩:=h
   rfl
  have nd:=sc_tsay.nd;obtain⟨o,dx,x,p,n,rfl,ho,hp,hx,hn,hf,hok,res⟩:=h;have Cy:=zV x;replace res:RES K C Cn o dx x H Q E (zH x.cps.toList (f+1) (40-n) p):=res;refine⟨[some (.ref o)],_,rfl,(z6 (u4 (z8 0) (zu zk (xz (z8 0) rfl) z5) rfl)
  (z6 (zf (zo vg (xz (z8 0) rfl) (wC Au) (zp _)) (z4 (y9 (yM Ad Ai (z9 zy z7)) yI rfl)) zt)
  (z6 (zf (yg (sw Al hr (by lia) (z8 0) (z9 zy z7))) (z6 (zE (wg Ak zC hr (by lia) (z8 0) (z9 zy z7)))
  (z4 (zr (xF (z9 zy (z9 (xy Ah zC hr (by lia) (z8 0)) z7)))))) zt)
  (z6 (zf (yg (sw Al hr (by lia) (z8 0) (z9 zy z7))) (z4 (zr (xy Ck zC hr (by lia) (z8 0)))) zt)
  (z6 (zf (yg (sw Al hr (by lia) (z8 0) (z9 zy z7))) (z4 (zr (xy BL zC hr (by lia) (z8 0)))) zt)
  (z4 (zr (xF (z9 zy (z9 (xy AO zC hr (by lia) (z8 0)) z7)))))))))),?_⟩
  walk_at"rp";refine⟨o,C,dx,_,_,rfl,ho,rc.cl,rc.n,rfl,o,C,dx,_,rfl,ho,rc.cl,rc.n,(show(3:Nat)<1000 by decide),?_⟩;rw[mR];have s1:SameA o H (upd H o (.ins C dx (rdI x (p:Int) ((n:Int)+1)))):=SameA.upd _ _ _;have h1:upd H o (HO.ins C dx (rdI x (p:Int) ((n:Int)+1))) o=some (.ins C dx (rdF x p (n+1))):=zv;generalize upd H o (HO.ins C dx (rdI x (p:Int) ((n:Int)+1)))=H1 at s1 h1;walk_at"rp";refine⟨o,C,dx,_,_,rfl,h1,rc.cl,rc.n,rfl,?_⟩;walk_at"rp";refine yx (λc=>?_) λc=>?_
  ·have c':=V9 c;rw[show 40-n=0 by lia,zH]at res;exact⟨zb (by simp),mS Ad res s1⟩
  have A3:n<40:=by
   rcases U2 n 40 with z|z
   ·exact z
   ·exact absurd (VT (by lia)) c
  rw[show 40-n=(40-(n+1))+1 by lia,zH]at res;walk_at"rp";refine⟨o,dx,_,rfl,h1,rfl,o,dx,x,_,p,_,rfl,h1,hp,?_⟩;cases hnot:nx x.cps.toList p ("not ":Str).cps.toList with
  |true =>
   rw[show lit "not "=("not ":Str).cps.toList from rfl,hnot,VB rfl]at res;walk_at"rp";refine⟨o,dx,_,rfl,h1,rfl,o,dx,x,_,p,_,rfl,h1,hp,x9 (by decide +kernel),λ_ H2 s2 h2=>?_,λno=>by rw[hnot]at no;cases no⟩;have h4:p+4<=x.length:=by have:=yJ (by lia) hnot;rw[Cy]at this;exact this
   walk_at"rp";refine⟨o,dx,_,rfl,h2,rfl,o,dx,x,p+4,n+1,rfl,h2,h4,hx,by lia,by lia,trivial,?_⟩;show RES K C Cn o dx x H2 _ E (zH x.cps.toList f (40-(n+1)) (p+4));unfold jE at res;cases e:zH x.cps.toList f (40-(n+1)) (p+4)with
   |none =>
    rw[e]at res;exact NoE.mono (s1.trans s2) res
   |some z =>
    obtain⟨t1,r1,p1⟩:=z;rw[e]at res;dsimp only at res;intro v1 H3 s3 h3 Jy;walk_at"rp";refine⟨zb (by simp),λp6 H6 n6 s6 e6=>?_⟩;have Gg:=SameA.of (o:=o) s6;exact res _ H6 (s1.trans (s2.trans (s3.trans Gg))) (s6 _ _ h3) ⟨p6,v1,rfl,SqT.of e6,SayAt.monoA Gg h3 Jy⟩
  |false =>
   rw[show lit "not "=("not ":Str).cps.toList from rfl,hnot,VF (by decide)]at res;walk_at"rp";refine⟨o,dx,_,rfl,h1,rfl,o,dx,x,_,p,_,rfl,h1,hp,?_⟩;cases Mn:nx x.cps.toList p ("(if ":Str).cps.toList with
   |true =>
    rw[show lit "(if "=("(if ":Str).cps.toList from rfl,Mn,VB rfl]at res;walk_at"rp";refine⟨o,dx,_,rfl,h1,rfl,o,dx,x,p,n+1,rfl,h1,hp,hx,by lia,by lia,Mn,?_⟩;exact RES.mono s1 res
   |false =>
    rw[show lit "(if "=("(if ":Str).cps.toList from rfl,Mn,VF (by decide)]at res;walk_at"rp";refine⟨o,dx,_,rfl,h1,rfl,o,dx,x,_,p,_,rfl,h1,hp,?_⟩;cases Le:nx x.cps.toList p ("(":Str).cps.toList with
    |true =>
     rw[show lit "("=("(":Str).cps.toList from rfl,Le,VB rfl]at res;walk_at"rp";refine⟨o,dx,_,rfl,h1,rfl,o,dx,x,p,n+1,rfl,h1,hp,hx,by lia,by lia,Le,?_⟩;exact RES.mono s1 res
    |false =>
     rw[show lit "("=("(":Str).cps.toList from rfl,Le,VF (by decide)]at res;unfold ud at res;walk_at"rp";refine⟨o,dx,_,rfl,h1,rfl,o,dx,x,p,n+1,rfl,h1,hp,hx,λHl H2 s2 h2=>?_,λno=>?_⟩
     ·rw[VB Hl]at res;walk_at"rp";refine⟨zb (by simp),λp6 H6 n6 s6 e6=>?_⟩;exact res _ H6 (s1.trans (s2.trans (SameA.of s6))) ((s6 _ _ h2).trans (by rw[show 40-(40-(n+1))=n+1 by lia])) ⟨p6,rfl,SqT.of e6⟩
     ·rw[no,VF (by decide)]at res;exact NoE.mono s1 res
def rV(K:Nl)(n:Nat):Sp:=λvs H Q _=>∃(v:V)(s:Say),vs=[v]/\SayAt K H v s/\s.pieces<=n/\s.pieces<=1000/\∀(p:Addr)(H':Hp),H p=none->Same H H'->H' p=some (.lst (s.letters.map V.str))->Q (.ref p) H'
theorem tF(D:Def K mg "letters_in" (top 9) ["saying"]):∀n:Nat,zq P w K mg base n "letters_in" ["saying"] (rV K n)
 |0=>zB D λvs H Q E h=>by
  obtain⟨v,s,_,_,hp,_⟩:=h;exact absurd s.pieces_pos (by lia)
 |n+1=>by
  have Bk:=tF D n;refine D.callee (N:=["saying","letters","inner"]) ?_ ?_ ?_;walk_at"go";obtain⟨v,s,rfl,hv,hp,J3,q⟩:=h;refine⟨[some v,none,none],_,rfl,(z6 (zf (zo (yt hr.units) (zQ (z8 0) z5) zy (zp _)) (z4 (zr (zP (z9 (zQ (z8 0) z5) z7)))) zt)
  (z6 (zh 1 nd (zP z7))
  (z6 (xq Vt rfl (zA (zX (z8 0) (za z5) zM)) (xt 2 nd) (z4 (zE (uT SV Sr eO (z8 1) (z9 (zn Bk hr (z9 (z8 2) z7)) z7)))))
  (z4 (zr (z8 1)))))),?_⟩
  by_cases hs:s.subs=[]
  ·cases s with
   |letter x =>
    obtain⟨a,rfl,ha⟩:=hv;walk_at"rp";refine⟨_,_,.inr ha,rfl,?_⟩;walk_at"rp";refine⟨_,_,.inr ha,rfl,?_⟩;walk_at"rp";exact⟨zb (by simp),λp H1 n1 s1 e1=>q p H1 n1 s1 e1⟩
   |neg t=>simp[Say.subs]at hs
   |bin o t t'=>simp[Say.subs]at hs
  ·obtain⟨a,wd,us,rfl,ha,hw,hl,F6,hu⟩:=tQ hv hs;walk_at"rp";refine⟨_,_,.inr ha,vD _ _,?_⟩;walk_at"rp";rw[hw];walk_at"rp";refine⟨zb (by simp),λr H0 n0 s0 e0=>?_⟩;refine .inr ⟨_,(zz s0).sqT ha,λp H1 s1 h1=>.inr ⟨⟨_,h1⟩,?_⟩⟩;rw[sW]at h1;refine xY (xs:=us) (λi σ H2=>∃iv,σ=[some (.ref a),some (.ref r),iv]/\H2 r=some (.lst ((((s.subs.take i).map Say.letters).flatten).map V.str))/\Same H H2/\SqT K H2 p us/\i<=us.length) ⟨none,rfl,s1 _ _ e0,s0.trans s1,h1,V5 _⟩ ?_ ?_ ?_
   ·rintro i σ H2 _ ⟨iv,rfl,_,_,h2,_⟩;exact h2
   ·rintro i x σ H2 hx ⟨iv,rfl,e2,s2,h2,hi⟩;obtain⟨t,ht,sv,pc⟩:=hu i x hx;walk_at"rp";refine⟨⟨_,_,rfl,e2⟩,x,t,rfl,sv.mono (zz s2),by lia,by lia,λz H3 n3 s3 e3=>?_⟩;have Be:z≠r:=λe=>by rw[e,e2]at n3;cases n3
    walk_at"rp";have b1:=sY (s.subs.take i);have b2:=tj Say.pieces s.subs i;have b3:=wS s;have b4:=yu t;refine⟨_,_,s3 _ _ e2,.inl e3,?_,some x,rfl,?_,zi (s2.trans s3) n0 _,?_,(VY.mp hx).1⟩
    ·rw[WA,WA];rw[VP];lia
    ·rw[zv,V7,ht];simp
    ·exact(yT (s3 _ _ e2)).sqT ((zz s3).sqT h2)
   ·rintro σ H2 ⟨iv,rfl,e2,s2,h2,_⟩;walk_at"rp";rw[hl,V4,<-vY hs]at e2;exact q r H2 n0 s2 e2
def rW(K:Nl):Sp:=λvs H Q _=>∃(v:V)(s:Say),vs=[v]/\SayAt K H v s/\s.pieces<=40/\∀(p:Addr)(H':Hp)(ss:GM),Same H H'->SqT K H' p (ss.map V.str)->ss.Nodup->(∀x,x∈ss↔x∈s.letters)->sortedS ss=true->Q (.ref p) H'
def mJ(D:Def K mg "names_in" (top 10) ["saying"])(Bk:zq P w K mg base 40 "letters_in" ["saying"] (rV K 40))(Aq:mg "sorted"=none)(A5:mg "set"=none)(Ae:mg "tuple"=none):zq P w K mg base 41 "names_in" ["saying"] (rW K):=by
 refine D.callee (N:=["saying"]) ?_ ?_ ?_;walk_at"go";obtain⟨v,s,rfl,hv,hp,q⟩:=h;refine⟨[some v],_,rfl,(z4 (zr (zJ yN rfl Ae yo (z9 (xZ rfl hr.units rfl Aq rfl A5 (zn Bk hr (z9 (z8 0) z7))) z7)))),?_⟩;walk_at"rp";have Ar:=yu s;refine⟨v,s,rfl,hv,hp,by lia,λp H1 n1 s1 e1=>?_⟩;walk_at"rp";refine .inl ⟨_,.inl (SqL.of e1),by unfold scanBound;lia,λAW hn hs=>?_,λAW hn hm BF r H2 n2 s2 e2=>?_⟩
 ·have:=xN hn hs;lia
 ·walk_at"rp";exact⟨_,.inl (SqL.of e2),λr' H3 s3 h3=>q r' H3 AW (s1.trans (s2.trans s3)) h3 hn hm BF⟩
def jR(i:Nat)(x:V)(hx:(xs.map V.str)[i]?=some x):∃y,x = .str y/\i<xs.length/\xs.drop i=y::xs.drop (i+1):=by
 rw[VA]at hx;cases e:xs[i]? with
 |none=>rw[e]at hx;cases hx
 |some y =>
  rw[e]at hx;obtain⟨hi,ey⟩:=VY.mp e;exact⟨y,(V3 hx).symm,hi,by rw[TN hi,ey]⟩
def gX(K:Nl):Sp:=λvs H Q _=>∃(b:Addr)(xs:GM),vs=[.ref b]/\SqT K H b (xs.map V.str)/\xs.length<=10/\Q (.int ((2 ^ xs.length:Nat):Int)) H
def cF(D:Def K mg "ways_to_hold" (top 13) ["names"]):zq P w K mg base 1 "ways_to_hold" ["names"] (gX K):=by
 refine D.callee (N:=["names","ways","name"]) ?_ ?_ ?_;walk_at"go";obtain⟨b,xs,rfl,hb,hx,q⟩:=h;refine⟨[some (.ref b),none,none],_,rfl,(z6 (zh 1 nd z5)
  (z6 (xq Vt rfl (zA (z8 0)) (xt 2 nd) (z4 (zh 1 nd (zu xU (z8 1) z5))))
  (z4 (zr (z8 1))))),?_⟩
 walk_at"rp";refine .inr ⟨⟨_,hb⟩,xY (xs:=xs.map V.str) (λi σ H2=>∃nv,σ=[some (.ref b),some (.int ((2 ^ i:Nat):Int)),nv]/\H2=H) ⟨none,rfl,rfl⟩ ?_ ?_ ?_⟩
 ·rintro i σ H2 _ ⟨nv,rfl,rfl⟩;exact hb
 ·rintro i x σ H2 G8 ⟨nv,rfl,rfl⟩;walk_at"rp";refine⟨cm2 (by decide),some x,?_,trivial⟩;rw[Nat.pow_succ,Int.natCast_mul]
  rfl
 ·rintro σ H2 ⟨nv,rfl,rfl⟩;walk_at"rp";rw[WA];exact q
def oi(K:Nl):Sp:=λvs H Q _=>∃(n:Int)(b:Addr)(xs:GM),vs=[.int n,.ref b]/\SqT K H b (xs.map V.str)/\xs.length<=100/\∀(r:Addr)(H':Hp),Same H H'->SqT K H' r ((zO n xs).map V.str)->Q (.ref r) H'
def i4(D:Def K mg "held_by" (top 14) ["number","names"])(Ae:mg "tuple"=none):zq P w K mg base 1 "held_by" ["number","names"] (oi K):=by
 refine D.callee (N:=["number","names","held","rest","name"]) ?_ ?_ ?_;walk_at"go";obtain⟨n,b,xs,rfl,hb,hx,q⟩:=h;refine⟨[some (.int n),some (.ref b),none,none,none],_,rfl,(z6 (zh 2 nd (zP z7))
  (z6 (zh 3 nd (z8 0))
  (z6 (xq Vt rfl (zA (z8 1)) (xt 4 nd) (z6 (zf (zo (yt hr.units) (zu xE (z8 3) z5) z5 (zp _)) (z4 (zE (uT UK UJ su (z8 2) (z9 (z8 4) z7)))) zt)
  (z4 (zh 3 nd (zu lf (z8 3) z5)))))
  (z4 (zr (zJ yN rfl Ae yo (z9 (z8 2) z7))))))),?_⟩
 walk_at"rp";refine⟨zb (by simp),λp H1 n1 s1 e1=>?_⟩;have Ar:(xs.map V.str).length=xs.length:=WA _;refine .inr ⟨⟨_,(zz s1).sqT hb⟩,xY (xs:=xs.map V.str) (λi σ H2=>∃(m:Int)(Aw:GM)(nv:Option V),σ=[some (.int n),some (.ref b),some (.ref p),some (.int m),nv]/\Aw++zO m (xs.drop i)=zO n xs/\H2 p=some (.lst (Aw.map V.str))/\Same H H2/\Aw.length<=i) ⟨n,[],none,rfl,rfl,e1,s1,VW _⟩ ?_ ?_ ?_⟩
 ·rintro i σ H2 _ ⟨m,Aw,nv,rfl,e,ep,s2,_⟩;exact(zz s2).sqT hb
 ·rintro i x σ H2 G8 ⟨m,Aw,nv,rfl,e,ep,s2,ha⟩;obtain⟨y,rfl,hi,ed⟩:=jR i x G8;rw[ed]at e;walk_at"rp";refine⟨by decide,yx (λc=>?_) (λc=>?_)⟩
  ·have c':m % 2=1:=V9 c;rw[zO,VB c']at e;refine⟨⟨_,_,rfl,ep⟩,_,ep,by rw[WA];exact xO (by lia),⟨by decide,by decide⟩,m / 2,Aw++[y],_,rfl,by rw[Vm];exact e,by rw[zv,VL];rfl,zi s2 n1 _,by rw[VU,UF];lia⟩
  ·have c':¬m % 2=1:=λz=>c (VT z);rw[zO,VF c']at e;exact⟨⟨by decide,by decide⟩,m / 2,Aw,_,rfl,e,ep,s2,by lia⟩
 ·rintro σ H2 ⟨m,Aw,nv,rfl,e,ep,s2,_⟩;rw[Ar,Sy]at e;have e':Aw=zO n xs:=by simpa[zO]using e
  walk_at"rp";exact⟨_,.inl (SqL.of ep),λr H' s3 hr3=>q r H' (s2.trans s3) (by rw[<-e'];exact hr3)⟩
def zW{p:Addr}(s:Same H H')(n:H' p=none):H p=none:=by
 cases e:H p with
 |none=>rfl
 |some o=>rw[s _ _ e]at n;cases n
def qY(h:ts[i]?=some t):yV (ts.take (i+1))=yV (ts.take i)++t.letters:=by
 rw[V7,h,sP];simp[yV]
def rX(K:Nl):Sp:=λvs H Q _=>∃(a:Addr)(us:N1)(ts:N3)(xs:GM),vs=[.ref a]/\SqT K H a us/\SaysAt K H us ts/\Lst ts xs/\∀(p:Addr)(H':Hp)(ss:GM),Same H H'->SqT K H' p (ss.map V.str)->NamesOf ts ss->Q (.ref p) H'
def rQ(K:Nl):Sp:=λvs H Q _=>∃(a:Addr)(us:N1)(ts:N3)(xs:GM),vs=[.ref a]/\SqT K H a us/\SaysAt K H us ts/\Lst ts xs/\∀(p:Addr)(H':Hp)(ss:GM)(as:GT),H p=none->Same H H'->H' p=some (.lst (as.map V.ref))->NamesOf ts ss->as.length=2 ^ ss.length ->
 (∀(n:Nat) b,as[n]?=some b->SqT K H' b ((zO (n:Int) ss).map V.str))->Q (.ref p) H'
def fk(h:n<=5):2 ^ n<=32:=Nat.pow_le_pow_right (by decide) h
theorem mE(D:Def K mg "all_held" (top 17) ["sayings"])(BV:zq P w K mg base 42 "names_of" ["sayings"] (rX K))(GV:zq P w K mg base 1 "held_by" ["number","names"] (oi K))(DN:zq P w K mg base 1 "ways_to_hold" ["names"] (gX K))(Aj:mg "range"=none):
  zq P w K mg base 43 "all_held" ["sayings"] (rQ K):=by
 refine D.callee (N:=["sayings","names"]) ?_ ?_ ?_;walk_at"go";obtain⟨a,us,ts,xs,rfl,ha,hS,hL,q⟩:=h;refine⟨[some (.ref a),none],_,rfl,(z6 (zh 1 nd (zn BV hr (z9 (z8 0) z7)))
  (z4 (zr (yd (ixs:=[1]) (zU (own:=["number"]) (N:=["names"]) rfl) rfl (yQ rfl Aj (z9 (zn DN hr (z9 (z8 1) z7)) z7)) (λ_ _ _ _=>zD) (λ_ _ _ _=>(zn GV hr (z9 (z8 0) (z9 (z8 1) z7)))) rfl)))),?_⟩
 walk_at"rp";refine⟨a,us,ts,xs,rfl,ha,hS,hL,λb H1 ss s1 hb hN=>?_⟩;obtain⟨Ma,hsn⟩:=hL.names hN;have p5:=fk Ma;have p5':((2 ^ ss.length:Nat):Int)<=32:=Int.ofNat_le.mpr p5;have p50:(0:Int)<=((2 ^ ss.length:Nat):Int):=Int.natCast_nonneg _;walk_at"rp";refine⟨b,ss,rfl,hb,by lia,?_⟩;walk_at"rp";refine⟨⟨by lia,by lia⟩,?_⟩;rw[Vu];intro C s₀ H₀ ex;refine yD (λD i ys H2=>∃as:List Addr,ys=as.map V.ref/\as.length=i/\(∀(n:Nat) c,as[n]?=some c->SqT K H2 c ((zO (n:Int) ss).map V.str))/\H2 D=some (.lst ys)/\Same H1 H2/\H1 D=none) (by rw[VP];lia) ?_ ?_ ?_ ?_
 ·intro D H2 n2 s2 e2;exact⟨[],rfl,rfl,λn c hc=>by simp at hc,e2,s2,n2⟩
 ·rintro D i ys H2 ⟨as,rfl,hl,_,e2,_⟩;exact⟨e2,by simpa using hl⟩
 ·rintro D i ys H2 hi ⟨as,rfl,hl,hc,e2,s2,n2⟩;walk_at"rp";refine⟨_,b,ss,rfl,(zz s2).sqT hb,by lia,λr H3 s3 h3=>⟨s3 _ _ e2,CN.mk hi ⟨as++[r],by rw[VL];rfl,by rw[VU,hl];rfl,λn c hn=>?_,zv,zi (s2.trans s3) n2 _,n2⟩⟩⟩;have tl:=yT (o:=.lst (as.map V.ref++[V.ref r])) (s3 _ _ e2)
  by_cases A3:n<as.length
  ·rw[U9 A3]at hn;exact tl.sqT ((zz s3).sqT (hc n c hn))
  ·rw[TZ (by lia)]at hn;have hnz:n-as.length=0:=by
    cases h9:n-as.length with
    |zero=>rfl
    |succ m=>rw[h9]at hn;simp at hn
   rw[hnz]at hn;cases hn;have:n=i:=by lia
   subst this;rw[Int.zero_add]at h3;exact tl.sqT h3
 ·rintro D ys H2 ⟨as,rfl,hl,hc,e2,s2,n2⟩;exact q D H2 ss as (zW s1 n2) (s1.trans s2) e2 hN hl hc
def ki(K:Nl):Sp:=λvs H Q _=>∃(a h:Addr)(us:N1)(ts:N3)(xs hs:GM),vs=[.ref a,.ref h]/\SqT K H a us/\SaysAt K H us ts/\Lst ts xs/\SqT K H h (hs.map V.str)/\∀(p:Addr)(H':Hp),Same H H'->SqT K H' p ((vx ts hs).map V.bl)->Q (.ref p) H'
def fK(D:Def K mg "row_of" (top 18) ["sayings","held"])(Ci:zq P w K mg base 40 "is_so" ["saying","held"] (YZ K 40))(Ae:mg "tuple"=none):zq P w K mg base 41 "row_of" ["sayings","held"] (ki K):=by
 refine D.callee (N:=["sayings","held"]) ?_ ?_ ?_;walk_at"go";obtain⟨a,h,us,ts,xs,hs,rfl,ha,hS,hL,hh,q⟩:=h;have hl:=hS.len;have h6:=hL.hi;refine⟨[some (.ref a),some (.ref h)],_,rfl,(z4 (zr (zJ yN rfl Ae yo (z9 (yd (ixs:=[1]) (zU (own:=["saying"]) (N:=["held"]) rfl) rfl (zA (z8 0)) (λ_ _ _ _=>zD) (λ_ _ _ _=>(zn Ci hr (z9 (z8 0) (z9 (z8 1) z7)))) rfl) z7)))),?_⟩;walk_at"rp";refine .inr ⟨⟨_,ha⟩,λC s₀ H₀ ex=>?_⟩;refine xH (xs:=us) (λD i ys H2=>ys=((ts.take i).map λt=>t.so hs).map V.bl/\i<=us.length/\H2 D=some (.lst ys)/\Same H H2/\H D=none) (by rw[VP];lia) ?_ ?_ ?_ ?_
 ·intro D H2 n2 s2 e2;exact⟨rfl,V5 _,e2,s2,n2⟩
 ·rintro D i ys H2 ⟨rfl,hi,e2,s2,_⟩;exact⟨(zz s2).sqT ha,e2,by simp;lia⟩
 ·rintro D i v ys H2 hv ⟨rfl,hi,e2,s2,n2⟩;obtain⟨t,ht,sv⟩:=hS.at i v hv;walk_at"rp";refine⟨v,h,t,hs,rfl,sv.mono (zz s2),hL.pc t (VR ht),(zz s2).sqT hh,e2,CN.mk (VY.mp hv).1 ⟨?_,(VY.mp hv).1,zv,zi s2 n2 _,n2⟩⟩;rw[V7,ht];simp
 ·rintro D ys H2 ⟨rfl,hi,e2,s2,n2⟩;rw[hl,V4]at e2;exact⟨_,.inl (SqL.of e2),λp H3 s3 h3=>q p H3 (s2.trans s3) h3⟩
def rT(K:Nl):Sp:=λvs H Q _=>∃(a:Addr)(us:N1)(ts:N3)(xs:GM),vs=[.ref a]/\SqT K H a us/\SaysAt K H us ts/\Lst ts xs/\∀(p:Addr)(H':Hp)(ss:GM)(R:KF),H p=none->Same H H'->H' p=some (.lst (R.map λr=>V.ref r.1))->(∀r∈R,SqT K H' r.1 (r.2.map V.bl))->NamesOf ts ss->FitRows ts ss (R.map (·.2))->R.length<=32->Q (.ref p) H'
theorem mI(D:Def K mg "fit_rows" (top 19) ["sayings"])(Gb:zq P w K mg base 43 "all_held" ["sayings"] (rQ K))(Iv:zq P w K mg base 41 "row_of" ["sayings","held"] (ki K))(Aq:mg "sorted"=none)(A5:mg "set"=none):
  zq P w K mg base 44 "fit_rows" ["sayings"] (rT K):=by
 refine D.callee (N:=["sayings"]) ?_ ?_ ?_;walk_at"go";obtain⟨a,us,ts,xs,rfl,ha,hS,hL,q⟩:=h;refine⟨[some (.ref a)],_,rfl,(z4 (zr (xZ rfl hr.units rfl Aq rfl A5 (yd (ixs:=[0]) (zU (own:=["held"]) (N:=["sayings"]) rfl) rfl (zA (zn Gb hr (z9 (z8 0) z7))) (λ_ _ _ _=>zD) (λ_ _ _ _=>(zn Iv hr (z9 (z8 1) (z9 (z8 0) z7)))) rfl)))),?_⟩;walk_at"rp";refine⟨a,us,ts,xs,rfl,ha,hS,hL,λb H1 ss as nb s1 hb hN has Mo=>?_⟩;obtain⟨Ma,hsn⟩:=hL.names hN;have p5:=fk Ma;walk_at"rp";refine .inl ⟨⟨_,SqL.of hb⟩,λC s₀ H₀ ex=>?_⟩;refine vE (xs:=as.map V.ref) (λD i ys H2=>∃R:List (Addr×List Bool),ys=(R.map λr=>V.ref r.1)/\R.map (·.2)=(List.range i).map (λ(n:Nat)=>vx ts (zO (n:Int) ss))/\(∀r∈R,SqT K H2 r.1 (r.2.map V.bl))/\H2 D=some (.lst ys)/\Same H1 H2/\H1 D=none) (by rw[WA,VP];lia) ?_ ?_ ?_ ?_
 ·intro D H2 n2 s2 e2;exact⟨[],rfl,rfl,λr hr=>by simp at hr,e2,s2,n2⟩
 ·rintro D i ys H2 ⟨R,rfl,hR,_,e2,s2,_⟩;refine⟨SqL.of (s2 _ _ hb),e2,?_⟩;have:=Vp List.length hR;simpa using this
 ·rintro D i v ys H2 hv ⟨R,rfl,hR,hT,e2,s2,n2⟩;rw[VA]at hv;cases hc:as[i]? with
  |none=>rw[hc]at hv;cases hv
  |some c =>
   rw[hc]at hv;cases hv;have hi:i<as.length:=(VY.mp hc).1;walk_at"rp";refine⟨a,c,us,ts,xs,_,rfl,(zz (s1.trans s2)).sqT ha,hS.mono (zz (s1.trans s2)),hL,(zz s2).sqT (Mo i c hc),λp H3 s3 h3=>⟨s3 _ _ e2,CN.mk (by rw[WA];exact hi) ⟨R++[(p,vx ts (zO (i:Int) ss))],by rw[VL];rfl,?_,λr hr=>?_,zv,zi (s2.trans s3) n2 _,n2⟩⟩⟩
   ·rw[VL,hR,List.range_succ,VL]
    rfl
   ·have tl:=yT (o:=.lst ((R.map λr=>V.ref r.1)++[V.ref p])) (s3 _ _ e2);rcases VQ.mp hr with hr|hr
    ·exact tl.sqT ((zz s3).sqT (hT r hr))
    ·rw[VX.mp hr];exact tl.sqT h3
 ·rintro D ys H2 ⟨R,rfl,hR,hT,e2,s2,n2⟩;rw[WA,has]at hR;have hRl:R.length=2 ^ ss.length:=by
   have:=Vp List.length hR;simpa using this
  refine .inr ⟨R,SqL.of e2,λr hr=>⟨hT r hr,?_⟩,by lia,λR' E6 ID Cw BF Hd p H3 n3 s3 e3=>?_⟩
  ·have:r.2∈R.map (·.2):=Vs hr;rw[hR]at this;obtain⟨n,_,e⟩:=VC.mp this;intro z;rw[<-e]at z;have h1:=wG ts (zO (n:Int) ss);rw[z]at h1;have:=hL.lo;simp at h1;lia
  ·refine q p H3 ss R' (zW (s1.trans s2) n3) (s1.trans (s2.trans s3)) e3 (λr hr=>(zz s3).sqT (hT r (E6 r hr))) hN ⟨ID,λk=>?_,BF⟩ (by lia);rw[Cw k,hR,VC];constructor
   ·rintro⟨n,hn,rfl⟩;exact⟨n,Vc.mp hn,rfl⟩
   ·rintro⟨n,hn,rfl⟩;exact⟨n,Vc.mpr hn,rfl⟩
def om(K:Nl)(n:Nat):Sp:=λvs H Q _=>∃(v:V)(s:Say),vs=[v]/\SayAt K H v s/\s.pieces<=n/\∀H',Same H H'->Q (.int s.pieces) H'
theorem rD(D:Def K mg "pieces_in" (top 8) ["saying"]):∀n:Nat,zq P w K mg base n "pieces_in" ["saying"] (om K n)
 |0=>zB D λvs H Q E h=>by
  obtain⟨v,s,_,_,hp,_⟩:=h;exact absurd s.pieces_pos (by lia)
 |n+1=>by
  have BA:=rD D n;refine D.callee (N:=["saying","pieces","inner"]) ?_ ?_ ?_;walk_at"go";obtain⟨v,s,rfl,hv,hp,q⟩:=h;refine⟨[some v,none,none],_,rfl,(z6 (zf (zo (yt hr.units) (zQ (z8 0) z5) zy (zp _)) (z4 (zr z5)) zt)
  (z6 (zh 1 nd z5)
  (z6 (xq Vt rfl (zA (zX (z8 0) (za z5) zM)) (xt 2 nd) (z4 (zh 1 nd (zu zk (z8 1) (zn BA hr (z9 (z8 2) z7))))))
  (z4 (zr (z8 1)))))),?_⟩
  by_cases hs:s.subs=[]
  ·cases s with
   |letter x =>
    obtain⟨a,rfl,ha⟩:=hv;walk_at"rp";refine⟨_,_,.inr ha,rfl,?_⟩;walk_at"rp";exact q H (Same.refl H)
   |neg t=>simp[Say.subs]at hs
   |bin o t t'=>simp[Say.subs]at hs
  ·obtain⟨a,wd,us,rfl,ha,hw,hl,F6,hu⟩:=tQ hv hs;walk_at"rp";refine⟨_,_,.inr ha,vD _ _,?_⟩;walk_at"rp";rw[hw];walk_at"rp";refine .inr ⟨_,ha,λp H1 s1 h1=>.inr ⟨⟨_,h1⟩,?_⟩⟩;rw[sW]at h1;refine xY (xs:=us) (λi σ H2=>∃iv,σ=[some (.ref a),some (.int (1+((s.subs.take i).map Say.pieces).sum:Nat)),iv]/\Same H1 H2/\i<=us.length) ⟨none,rfl,Same.refl _,V5 _⟩ ?_ ?_ ?_
   ·rintro i σ H2 _ ⟨iv,rfl,s2,_⟩;exact(zz s2).sqT h1
   ·rintro i x σ H2 hx ⟨iv,rfl,s2,hi⟩;obtain⟨t,ht,sv,pc⟩:=hu i x hx;walk_at"rp";refine⟨x,t,rfl,sv.mono (zz (s1.trans s2)),by lia,λH3 s3=>?_⟩;walk_at"rp";refine⟨some x,?_,s2.trans s3,(VY.mp hx).1⟩;rw[V7,ht];simp;lia
   ·rintro σ H2 ⟨iv,rfl,s2,_⟩;walk_at"rp";rw[hl,V4,<-wS];exact q H2 (s1.trans s2)
structure dN(ts:N3)(xs:GM):Prop where
 hi:ts.length<=7
 nm:∀x∈yV ts,x∈xs
 xl:xs.length<=63
 ok:∀x∈xs,Nm x
def Lst.toW(h:Lst ts xs):dN ts xs:=⟨by have:=h.hi;lia,h.nm,by have:=h.xl;lia,h.ok⟩
def sK(ts:N3)(xs:GM):Prop:=ts.length<=6->dN ts xs
def tX(K:Nl):Sp:=λvs H Q _=>∃(a:Addr)(us:N1)(ts:N3)(xs:GM),vs=[.ref a]/\SqT K H a us/\SaysAt K H us ts/\dN ts xs/\(∀t∈ts,t.pieces<=40)/\∀(p:Addr)(H':Hp)(ss:GM),Same H H'->SqT K H' p (ss.map V.str)->NamesOf ts ss->Q (.ref p) H'
def i9(D:Def K mg "names_of" (top 16) ["sayings"])(FU:zq P w K mg base 41 "names_in" ["saying"] (rW K))(Aq:mg "sorted"=none)(A5:mg "set"=none)(Ae:mg "tuple"=none):zq P w K mg base 42 "names_of" ["sayings"] (tX K):=by
 refine D.callee (N:=["sayings","names","saying"]) ?_ ?_ ?_;walk_at"go";obtain⟨a,us,ts,xs,rfl,ha,hS,hL,Eu,q⟩:=h;have hl:=hS.len;refine⟨[some (.ref a),none,none],_,rfl,(z6 (zh 1 nd (zP z7))
  (z6 (xq Vt rfl (zA (z8 0)) (xt 2 nd) (z4 (zE (uT SV Sr eO (z8 1) (z9 (zn FU hr (z9 (z8 2) z7)) z7)))))
  (z4 (zr (zJ yN rfl Ae yo (z9 (xZ rfl hr.units rfl Aq rfl A5 (z8 1)) z7)))))),?_⟩
 walk_at"rp";refine⟨zb (by simp),λr H1 n1 s1 e1=>?_⟩;walk_at"rp";refine .inr ⟨⟨_,(zz s1).sqT ha⟩,xY (xs:=us) (λi σ H2=>∃(Aw:GM)(iv:Option V),σ=[some (.ref a),some (.ref r),iv]/\H2 r=some (.lst (Aw.map V.str))/\(∀x,x∈Aw↔x∈yV (ts.take i))/\Aw.length<=40*i/\Same H H2) ⟨[],none,rfl,e1,by simp[yV],by simp,s1⟩ ?_ ?_ ?_⟩
 ·rintro i σ H2 _ ⟨Aw,iv,rfl,_,_,_,s2⟩;exact(zz s2).sqT ha
 ·rintro i x σ H2 hx ⟨Aw,iv,rfl,e2,hm,hc,s2⟩;obtain⟨t,ht,sv⟩:=hS.at i x hx;have Jz:=VR ht;have hi:i<us.length:=(VY.mp hx).1;have h6:=hL.hi;walk_at"rp";refine⟨⟨_,_,rfl,e2⟩,x,t,rfl,sv.mono (zz s2),Eu t Jz,λp H3 ss s3 hp nds Cw _=>?_⟩;walk_at"rp";have IC:ss.length<=40:=Vz (xN nds λy hy=>(Cw y).mp hy) (Vz (yu t) (Eu t Jz));refine⟨_,_,s3 _ _ e2,.inr hp,by rw[WA,WA,VP];lia,Aw++ss,some x,rfl,by rw[zv,VL],λy=>?_,by rw[VU];lia,zi (s2.trans s3) n1 _⟩;rw[VQ,hm y,Cw y,qY ht,VQ]
 ·rintro σ H2 ⟨Aw,iv,rfl,e2,hm,hc,s2⟩;rw[hl,V4]at hm;have h6:=hL.hi;walk_at"rp";refine .inl ⟨_,.inl (SqL.of e2),by unfold scanBound;lia,λAW hn hs=>?_,λAW hn hmm BF p H3 n3 s3 e3=>?_⟩
  ·have:=xN hn λy hy=>hL.nm y ((hm y).mp (hs y hy));have:=hL.xl;lia
  ·walk_at"rp";exact⟨_,.inl (SqL.of e3),λp' H4 s4 h4=>q p' H4 AW (s2.trans (s3.trans s4)) h4 ⟨hn,λy=>(hmm y).trans (hm y),BF⟩⟩
def qf{k:Nat}{x:Str}{ps:GM}(C:zq P w K mg base k x ps sp)(h:∀vs H Q E,Jt vs H Q E->sp vs H Q E):zq P w K mg base k x ps Jt:=by
 obtain⟨f,fd,F,b,kp,hm⟩:=C.ex;exact⟨f,fd,F.imp h,b,kp,hm⟩
def ZX(C:zq P w K mg base 42 "names_of" ["sayings"] (tX K)):zq P w K mg base 42 "names_of" ["sayings"] (rX K):=qf C λ_ _ _ _ ⟨a,us,ts,xs,e,h1,h2,h3,q⟩=>⟨a,us,ts,xs,e,h1,h2,Lst.toW h3,h3.pc,q⟩
def okB(ts:N3)(n:Nat):Prop:=(1<=ts.length/\ts.length<=6)/\(1<=n/\n<=21)/\(∀t∈ts,t.pieces<=40)/\∀ss,NamesOf ts ss->ss.length<=5
def noB(ts:N3)(n:Nat):Prop:=ts.length<1\/6<ts.length\/n<1\/21<n\/(∃t∈ts,40<t.pieces)\/∀ss,NamesOf ts ss->5<ss.length
def OobE(Co:Addr)(H:Hp)(E:XK):Prop:=∀(a:Addr)(H':Hp),Same H H'->H' a=some (exO a Co none false)->E (.ref a) none H'
def YY(K:Nl)(Co:Addr):Sp:=λvs H Q E=>∃(b j:Addr)(us ws:N1)(ts:N3)(xs:GM),vs=[.ref b,.ref j]/\SqT K H b us/\SaysAt K H us ts/\SqT K H j ws/\sK ts xs/\(∀t∈ts,t.pieces<=130)/\ws.length<=2000/\((okB ts ws.length/\∀H',Same H H'->Q .non H')\/(noB ts ws.length/\OobE Co H E))
def sc_cb:yl ["sayings","judges"] ["sayings","judges"] (zj (top 25)):=⟨rfl,rfl,rfl,by decide +kernel,rfl,by decide +kernel,by decide +kernel⟩
def Xn(D:Def K mg "check_bounds" (top 25) ["sayings","judges"])(BA:zq P w K mg base 130 "pieces_in" ["saying"] (om K 130))(BV:zq P w K mg base 42 "names_of" ["sayings"] (tX K))(Av:xT K Co)(An:mg "OutOfBounds"=some (.ref Co))(AK:mg "MOST_SAYINGS"=some (.int 6 t1))(Bb:mg "MOST_NAMES"=some (.int 5 t2))(Au:mg "MOST_PIECES"=some (.int 40 t3))(AS:mg "MOST_JUDGES"=some (.int 21 t4))(Ab:mg "len"=none)(Ft:mg "any"=none):yw P w K mg base 131 "check_bounds" ["sayings","judges"] (YY K Co):=by
 refine D.calleeX sc_cb (λvs H Q E h=>?_) λf cdv A outer s H vs Q E hr _ h=>?_
 ·obtain⟨b,j,us,ws,ts,xs,rfl,_⟩:=h
  rfl
 have nd:=sc_cb.nd;obtain⟨b,j,us,ws,ts,xs,rfl,hb,hT,hj,hL,Eu,hw,hq⟩:=h;have qn:¬okB ts ws.length->OobE Co H E:=λno=>hq.elim (λz=>absurd z.1 no) λz=>z.2;have KY:=hT.len;have oob:∀{H1:Hp}{a:Addr},Same H H1->H1 a=none->¬okB ts ws.length->E (.ref a) none (upd (upd H1 a (exO a Co none true)) a (exO a Co none false)):=λ{H1 a} s1 na no=>qn no a _ (zi (zi s1 (zW s1 na) _) (zW s1 na) _) zv;refine⟨[some (.ref b),some (.ref j)],_,rfl,(z6 (zf (PW.pt (yR (zo vh (zw zR rfl Ab zZ (z9 (z8 0) z7)) z5 (zp _)) (yS (zo vg (zw zR rfl Ab zZ (z9 (z8 0) z7)) (wC AK) (zp _))))) (z4 (y9 (yM Av An (z9 zy z7)) yI rfl)) zt)
  (z6 (zf (PW.pt (yR (zo vh (zw zR rfl Ab zZ (z9 (z8 1) z7)) z5 (zp _)) (yS (zo vg (zw zR rfl Ab zZ (z9 (z8 1) z7)) (wC AS) (zp _))))) (z4 (y9 (yM Av An (z9 zy z7)) yI rfl)) zt)
  (z6 (zf (yg (zw (Xh rfl) rfl Ft Y0 (z9 (yd (ixs:=[]) (zU (own:=["saying"]) (N:=[]) rfl) rfl (zA (z8 0)) (λ_ _ _ _=>zD) (λ_ _ _ _=>(yH vg (zn BA hr (z9 (z8 0) z7)) (wC Au) (zp _))) rfl) z7))) (z4 (y9 (yM Av An (z9 zy z7)) yI rfl)) zt)
  (z4 (zf (zo vg (zw zR rfl Ab zZ (z9 (zn BV hr (z9 (z8 0) z7)) z7)) (wC Bb) (zp _)) (z4 (y9 (yM Av An (z9 zy z7)) yI rfl)) zt))))),?_⟩
 have C6:∀{H1:Hp}{x:Str},Same H H1->¬okB ts ws.length->([V.str x].length<=sizeLine/\∀a,H1 a=none->∃Ex C dx,V.ref a=V.ref Ex/\upd H1 a (exO a Co none true) Ex=some (exO Ex C dx true)/\XCls K C/\E (Value.ref Ex) dx (upd (upd H1 a (exO a Co none true)) Ex (exO Ex C dx false))):=λ{H1 x} s1 no=>⟨by simp only[VN,Vx];rw[VP];decide,λa na=>⟨a,Co,none,rfl,zv,Av.x,oob s1 na no⟩⟩
 walk_at"rp";refine⟨_,.inr hb,?_⟩;rw[KY];refine yx (λc=>?_) λc=>?_
 ·exact C6 (Same.refl _) λo=>by have:=o.1.1;have:=V9 c;lia
 refine⟨_,.inr hb,?_⟩;rw[KY];refine yx (λc2=>?_) λc2=>?_
 ·exact C6 (Same.refl _) λo=>by have:=o.1.2;have:=V9 c2;lia
 have E9:1<=ts.length:=by
  rcases U2 ts.length 1 with z|z
  ·exact absurd (VT (by lia)) c
  ·exact z
 have h6:ts.length<=6:=by
  rcases U2 6 ts.length with z|z
  ·exact absurd (VT (by lia)) c2
  ·exact z
 walk_at"rp";refine⟨_,.inr hj,?_⟩;refine yx (λc3=>?_) λc3=>?_
 ·exact C6 (Same.refl _) λo=>by have:=o.2.1.1;have:=V9 c3;lia
 refine⟨_,.inr hj,?_⟩;refine yx (λc4=>?_) λc4=>?_
 ·exact C6 (Same.refl _) λo=>by have:=o.2.1.2;have:=V9 c4;lia
 have hw1:1<=ws.length:=by
  rcases U2 ws.length 1 with z|z
  ·exact absurd (VT (by lia)) c3
  ·exact z
 have hw21:ws.length<=21:=by
  rcases U2 21 ws.length with z|z
  ·exact absurd (VT (by lia)) c4
  ·exact z
 walk_at"rp";refine .inr ⟨⟨_,hb⟩,λC s₀ H₀ ex=>?_⟩;refine xH (xs:=us) (λD i ys H2=>ys=((ts.take i).map λt=>decide (40<(t.pieces:Int))).map V.bl/\i<=ts.length/\H2 D=some (.lst ys)/\Same H H2/\H D=none) (by rw[KY,VP];lia) ?_ ?_ ?_ ?_
 ·intro D H2 n2 s2 e2;exact⟨rfl,V5 _,e2,s2,n2⟩
 ·rintro D i ys H2 ⟨rfl,hi,e2,s2,_⟩;exact⟨(zz s2).sqT hb,e2,by simp;lia⟩
 ·rintro D i v ys H2 hv ⟨rfl,hi,e2,s2,n2⟩;obtain⟨t,ht,sv⟩:=hT.at i v hv;have Jz:=VR ht;have A3:i<ts.length:=(VY.mp ht).1;walk_at"rp";refine⟨v,t,rfl,sv.mono (zz s2),Eu t Jz,λH3 s3=>?_⟩;walk_at"rp";refine⟨s3 _ _ e2,CN.mk (by lia) ⟨?_,A3,zv,zi (s2.trans s3) n2 _,n2⟩⟩;rw[V7,ht,VL,VL]
  rfl
 rintro D1 ys1 H1 ⟨rfl,_,e1,s1,n1⟩;rw[KY,V4]at e1;walk_at"rp";refine⟨_,SqL.of e1,?_⟩;refine yx (λc5=>?_) λc5=>?_
 ·refine C6 s1 λo=>?_;obtain⟨b',Bo,e'⟩:=UW.mp c5;obtain⟨t,ht,rfl⟩:=VC.mp Bo;have h1:=o.2.2.1 t ht;have h2:=V9 e';lia
 have Ki:∀t∈ts,t.pieces<=40:=λt ht=>by
  rcases U2 40 t.pieces with z|z
  ·exact absurd (show(ts.map λt=>decide (40<(t.pieces:Int))).any id=true from UW.mpr ⟨true,VC.mpr ⟨t,ht,VT (by lia)⟩,rfl⟩) c5
  ·exact z
 walk_at"rp";refine⟨b,us,ts,xs,rfl,(zz s1).sqT hb,hT.mono (zz s1),hL h6,Ki,λp H2 ss s2 hp hN=>?_⟩;walk_at"rp";refine⟨_,.inr hp,?_⟩;rw[WA];refine yx (λc6=>?_) λc6=>?_
 ·exact C6 (s1.trans s2) λo=>by have:=o.2.2.2 ss hN;have:=V9 c6;lia
 ·have h5:ss.length<=5:=by
   rcases U2 5 ss.length with z|z
   ·exact absurd (VT (by lia)) c6
   ·exact z
  refine hq.elim (λz=>z.2 H2 (s1.trans s2)) λz=>?_;rcases z.1 with z|z|z|z|⟨t,ht,z⟩|z
  ·lia
  ·lia
  ·lia
  ·lia
  ·have:=Ki t ht;lia
  ·have:=z ss hN;lia
def kX(K:Nl):Sp:=λvs H Q _=>∃(r:Addr)(v:V)(R:KF)(d:PyData),vs=[.ref r,v]/\H r=some (.lst (R.map λq=>V.ref q.1))/\(∀q∈R,SqT K H q.1 (q.2.map V.bl))/\R.length<=32/\Has K H v d/\PyData.canLay0 d=true /\
 (((R.map (·.2)).any λk=>PyData.eqv (xB k) d)=false->∀H',Same H H'->Q (.bl false) H') /\
 (((R.map (·.2)).any λk=>PyData.eqv (xB k) d)=true->∃(a:Addr)(zs:N1)(gs:Nc),v = .ref a/\SqT K H a zs/\zs.length<=100/\gs.length=zs.length/\(∀(i:Nat) z g,zs[i]?=some z->gs[i]?=some g->(∃b,z = .bl b/\g=true)\/∃n,z = .int n/\g=false)/\∀H',Same H H'->Q (.bl (gs.all id)) H')
def ie:W.kitOne K (.type "int") (.type "bool")=some false:=by rfl
def xw(c:String):W.kitOne K (.type c) (.type c)=some true:=by
 unfold W.kitOne;rw[VB (Uq _)]
def eo(D:Def K mg "is_among" (top 26) ["rows","row"])(Fu:mg "all"=none)(Aa:mg "isinstance"=none)(AR:mg "bool"=none):zq P w K mg base 1 "is_among" ["rows","row"] (kX K):=by
 refine D.callee (N:=["rows","row"]) ?_ ?_ ?_;walk_at"go";obtain⟨r,v,R,d,rfl,Lb,hR,h32,hd,hc,qn,qy⟩:=h;refine⟨[some (.ref r),some v],_,rfl,(z4 (zr (rA (yH (am hr.units) (z8 1) (z8 0) (by with_unfolding_all rfl)) (wP (zw (Xg rfl) rfl Fu Yz (z9 (yd (ixs:=[]) (zU (own:=["truth"]) (N:=[]) rfl) rfl (zA (z8 1)) (λ_ _ _ _=>zD) (λ_ _ _ _=>(zw wx rfl Aa zg (z9 (z8 0) (z9 (ya (v:=.ty "bool") rfl AR uA rfl) z7)))) rfl) z7)))))),?_⟩;walk_at"rp";have GD:=sh (R.map (·.2));refine⟨d,(R.map (·.2)).map xB,hd,(by unfold Has;exact⟨r,_,rfl,SqL.of Lb,uo hR⟩),hc,GD.1,by have:=GD.2;lia,?_⟩;rw[List.any_map];rw[show((R.map (·.2)).any ((λy=>PyData.eqv y d)∘xB))=((R.map (·.2)).any λk=>PyData.eqv (xB k) d)from rfl];cases hb:((R.map (·.2)).any λk=>PyData.eqv (xB k) d)with
 |false =>
  walk_at"rp";exact qn hb H (Same.refl _)
 |true =>
  obtain⟨a,zs,gs,rfl,ha,hz,hgl,hk,q⟩:=qy hb;walk_at"rp";refine .inr ⟨⟨_,ha⟩,λC s₀ H₀ ex=>?_⟩;refine xH (xs:=zs) (λD i ys H2=>ys=(gs.take i).map V.bl/\i<=gs.length/\H2 D=some (.lst ys)/\Same H H2/\H D=none) (by rw[VP];lia) ?_ ?_ ?_ ?_
  ·intro D H2 n2 s2 e2;exact⟨rfl,V5 _,e2,s2,n2⟩
  ·rintro D i ys H2 ⟨rfl,hi,e2,s2,_⟩;exact⟨(zz s2).sqT ha,e2,by simp;lia⟩
  ·rintro D i z ys H2 hv ⟨rfl,hi,e2,s2,n2⟩;have A3:i<zs.length:=(VY.mp hv).1;obtain⟨g,hg⟩:∃g,gs[i]?=some g:=⟨_,V2 (by lia)⟩
   have A9:∀g',g'=g->(H2 D=some (.lst ((gs.take i).map V.bl))/\CN zs.length i ((gs.take i).map V.bl++[V.bl g']=(gs.take (i+1)).map V.bl/\i+1<=gs.length/\upd H2 D (.lst ((gs.take i).map V.bl++[V.bl g'])) D=some (.lst ((gs.take i).map V.bl++[V.bl g']))/\Same H (upd H2 D (.lst ((gs.take i).map V.bl++[V.bl g'])))/\H D=none)):=λg' e=>by
    subst e;refine⟨e2,CN.mk A3 ⟨?_,by lia,zv,zi s2 n2 _,n2⟩⟩;rw[V7,hg,VL]
    rfl
   rcases hk i z g hv hg with⟨b,rfl,rfl⟩|⟨n,rfl,rfl⟩
   ·walk_at"rp";refine⟨_,true,.of (.bl _),xw _,?_⟩;exact A9 true rfl
   ·walk_at"rp";refine⟨_,false,.of (.int _),ie,?_⟩;exact A9 false rfl
  ·rintro D ys H2 ⟨rfl,hi,e2,s2,n2⟩;rw[<-hgl,V4]at e2;walk_at"rp";exact⟨gs,SqL.of e2,q H2 s2⟩
def rS(K:Nl)(C:Addr):Sp:=λvs H Q _=>∃(a:Addr)(v:V)(n:Bool),vs=[.ref a,v]/\H a=some (exO a C none n)/\∀dx,H dx=none->Q .non (upd (upd H dx (.xd [("number",v)])) a (exO a C (some dx) n))
def sc_badrow:yl ["self","number"] ["self","number"] (zj (yh (top 4) 0)):=⟨rfl,rfl,rfl,by decide +kernel,rfl,by decide +kernel,by decide +kernel⟩
def mH(D:DefI K C "BadRow.__init__" (yh (top 4) 0) ["self","number"])(xb:XCls K C)(ht:W.takerIn K C "number"=some none):t8 P w K mg base 1 C ["self","number"] (rS K C):=by
 refine D.callee sc_badrow (λvs H Q E h=>?_) λf cdv A outer s H vs Q E hr  h=>?_
 ·obtain⟨a,v,n,rfl,_⟩:=h
  rfl
 have nd:=sc_badrow.nd;obtain⟨a,v,n,rfl,ea,q⟩:=h;refine⟨[some (.ref a),some v],_,rfl,(z4 (cT (z8 0) (z8 1) rfl)),?_⟩;walk_at"rp";exact⟨a,C,n,rfl,ea,xb,ht,q⟩
def Jdg(K:Nl)(H:Hp)(R:KM)(v:V)(g:Bool):Prop:=∃d,Has K H v d/\PyData.canLay0 d=true /\
 (((R.any λk=>PyData.eqv (xB k) d)=false/\g=false)\/((R.any λk=>PyData.eqv (xB k) d)=true/\∃(a:Addr)(zs:N1)(gs:Nc),v = .ref a/\SqT K H a zs/\zs.length<=100/\gs.length=zs.length/\(∀(i:Nat) z g,zs[i]?=some z->gs[i]?=some g->(∃b,z = .bl b/\g=true)\/∃n,z = .int n/\g=false)/\g=gs.all id))
mutual
theorem nV{H H':Hp}(s:Same H H'):∀(d:PyData)(v:V),Has K H v d->Has K H' v d
 | .none,v,h=>by simpa[Has]using h
 | .bool b,v,h=>by simpa[Has]using h
 | .int i,v,h=>by simpa[Has]using h
 | .str x,v,h=>by simpa[Has]using h
 | .tuple ds,v,h=>by
  have h':∃a xs,v = .ref a/\SqT K H a xs/\HasL K H xs ds:=by simpa[Has]using h
  obtain⟨a,xs,rfl,hq,hl⟩:=h';unfold Has;exact⟨a,xs,rfl,(zz s).sqT hq,hasL_same s ds xs hl⟩
 | .list ds,v,h=>by
  have h':∃a xs,v = .ref a/\SqL K H a xs/\HasL K H xs ds:=by simpa[Has]using h
  obtain⟨a,xs,rfl,hq,hl⟩:=h';unfold Has;exact⟨a,xs,rfl,s.seq hq,hasL_same s ds xs hl⟩
 | .dict _,v,h=>by
  have h':False:=by simpa[Has]using h
  exact h'.elim
theorem hasL_same{H H':Hp}(s:Same H H'):∀(ds:List PyData)(xs:List V),HasL K H xs ds->HasL K H' xs ds
 |[],xs,h=>by simpa[HasL]using h
 |d::ds,xs,h=>by
  have h':∃y ys,xs=y::ys/\Has K H y d/\HasL K H ys ds:=by simpa[HasL]using h
  obtain⟨y,ys,rfl,h1,h2⟩:=h';unfold HasL;exact⟨y,ys,rfl,nV s d y h1,hasL_same s ds ys h2⟩
end
def Jdg.same{g:Bool}(s:Same H H')(h:Jdg K H R v g):Jdg K H' R v g:=by
 obtain⟨d,h1,h2,h3⟩:=h;refine⟨d,nV s d v h1,h2,?_⟩;rcases h3 with h3|⟨h4,a,zs,gs,e,ha,r⟩
 ·exact .inl h3
 ·exact .inr ⟨h4,a,zs,gs,e,(zz s).sqT ha,r⟩
def BadE(Cr:Addr)(H:Hp)(n:Nat)(E:XK):Prop:=∀(a dx:Addr)(H':Hp),Same H H'->H' a=some (exO a Cr (some dx) false)->H' dx=some (.xd [("number",.int (n:Int))])->E (.ref a) (some dx) H'
def aJ(K:Nl)(Cr:Addr):Sp:=λvs H Q E=>∃(b j:Addr)(us ws:N1)(ts:N3)(xs:GM)(gs:Nc),vs=[.ref b,.ref j]/\SqT K H b us/\SaysAt K H us ts/\Lst ts xs/\SqT K H j ws/\ws.length<=100/\gs.length=ws.length/\(∀ss R,NamesOf ts ss->FitRows ts ss R->∀(i:Nat) v g,ws[i]?=some v->gs[i]?=some g->Jdg K H R v g)/\((∀g∈gs,g=true)->∀H',Same H H'->Q .non H')/\(∀n,gs[n]?=some false->(∀g∈gs.take n,g=true)->BadE Cr H n E)
def Xo(D:Def K mg "check_rows" (top 27) ["sayings","judges"])(Ga:zq P w K mg base 44 "fit_rows" ["sayings"] (rT K))(F':zq P w K mg base 1 "is_among" ["rows","row"] (kX K))(IA:t8 P w K mg base 1 Cr ["self","number"] (rS K Cr))(A2:mg "BadRow"=some (.ref Cr))(xr:XCls K Cr)(Bg:mg "enumerate"=none):yw P w K mg base 45 "check_rows" ["sayings","judges"] (aJ K Cr):=by
 refine D.calleeX (N:=["sayings","judges","rows","number","row"]) ?_ ?_ ?_;walk_at"go";obtain⟨b,j,us,ws,ts,xs,gs,rfl,hb,hT,hL,hj,hw,hgl,hJ,qy,qn⟩:=h;refine⟨[some (.ref b),some (.ref j),none,none,none],_,rfl,(z6 (zh 2 nd (zn Ga hr (z9 (z8 0) z7)))
  (z4 (p9 rfl (ZP rfl Bg (z9 (z8 1) z7)) (ar 3 4 rfl nd) (z4 (zf (wn (yg (zn F' hr (z9 (z8 2) (z9 (z8 4) z7))))) (z4 (y9 (ZR IA hr (by lia) A2 (z9 (z8 3) z7)) kO rfl)) zt))))),?_⟩
 walk_at"rp";refine⟨b,us,ts,xs,rfl,hb,hT,hL,λp H1 ss R n1 s1 e1 hR hN hF h32=>?_⟩;walk_at"rp";refine⟨⟨_,(zz s1).sqT hj⟩,?_⟩;refine lX (xs:=ws) (λi σ H2=>(∃x3 x4,σ=[some (.ref b),some (.ref j),some (.ref p),x3,x4])/\Same H1 H2/\∀g∈gs.take i,g=true) ⟨⟨_,_,rfl⟩,Same.refl _,λg hg=>by simp at hg⟩ ?_ ?_ ?_
 ·rintro i σ H2 _ ⟨_,s2,_⟩;exact(zz (s1.trans s2)).sqT hj
 ·rintro i v σ H2 H3 hv ⟨⟨x3,x4,rfl⟩,s2,A0⟩ s3;have hi:i<ws.length:=(VY.mp hv).1;obtain⟨g,hg⟩:∃g,gs[i]?=some g:=⟨_,V2 (by lia)⟩
  have KP:=s2.trans s3;have G4:=s1.trans KP;obtain⟨d,h1,h2,h3⟩:=(hJ ss _ hN hF i v g hv hg).same G4;walk_at"rp";refine⟨p,v,R,d,rfl,KP _ _ e1,λq hq=>(zz KP).sqT (hR q hq),h32,h1,h2,λno H4 s4=>?_,λHl=>?_⟩
  ·have eg:g=false:=by
    rcases h3 with h3|⟨h4,_⟩
    ·exact h3.2
    ·rw[no]at h4;cases h4
   subst eg;have GZ:=G4.trans s4;walk_at"rp";refine⟨by rw[VP];simp,λa ha=>⟨a,.int (i:Int),true,rfl,zv,λdx DW=>⟨rfl,a,Cr,some dx,rfl,zv,xr,?_⟩⟩⟩;have Ku:dx≠a:=λz=>by rw[z,zv]at DW;cases DW
   have hd5:H4 dx=none:=by rw[ze Ku]at DW;exact DW
   have s6:Same H4 (upd (upd (upd (upd H4 a (exO a Cr none true)) dx (.xd [("number",.int (i:Int))])) a (exO a Cr (some dx) true)) a (exO a Cr (some dx) false)):=zi (zi (zi (zi (Same.refl _) ha _) hd5 _) ha _) ha _;exact qn i hg A0 a dx _ (GZ.trans s6) zv (by rw[ze Ku,ze Ku,zv])
  ·rcases h3 with⟨h4,_⟩|⟨_,a,zs,gz,e,ha,hz,hgz,hk,eg⟩
   ·rw[Hl]at h4;cases h4
   refine⟨a,zs,gz,e,ha,hz,hgz,hk,λH4 s4=>?_⟩;have GZ:=G4.trans s4;rw[<-eg];cases g with
   |true =>
    walk_at"rp";refine⟨⟨_,_,rfl⟩,KP.trans s4,λg' Mp=>?_⟩;rw[V7,hg]at Mp;rcases VQ.mp Mp with z|z
    ·exact A0 g' z
    ·exact VX.mp z
   |false =>
    walk_at"rp";refine⟨by rw[VP];simp,λa ha=>⟨a,.int (i:Int),true,rfl,zv,λdx DW=>⟨rfl,a,Cr,some dx,rfl,zv,xr,?_⟩⟩⟩;have Ku:dx≠a:=λz=>by rw[z,zv]at DW;cases DW
    have hd5:H4 dx=none:=by rw[ze Ku]at DW;exact DW
    have s6:Same H4 (upd (upd (upd (upd H4 a (exO a Cr none true)) dx (.xd [("number",.int (i:Int))])) a (exO a Cr (some dx) true)) a (exO a Cr (some dx) false)):=zi (zi (zi (zi (Same.refl _) ha _) hd5 _) ha _) ha _;exact qn i hg A0 a dx _ (GZ.trans s6) zv (by rw[ze Ku,ze Ku,zv])
 ·rintro σ H2 ⟨⟨x3,x4,rfl⟩,s2,A0⟩;walk_at"rp";rw[<-hgl,V4]at A0;exact qy A0 H2 (s1.trans s2)
inductive Vd where
 |bounds
 |row (n:Nat)
 |even
 |ok
def JdgsAt(K:Nl)(H:Hp)(ts:N3)(ws:N1)(gs:Nc):Prop:=∀ss R,NamesOf ts ss->FitRows ts ss R->∀(i:Nat) v g,ws[i]?=some v->gs[i]?=some g->Jdg K H R v g
def W0(K:W.Frag)(H:Hp)(ts:List Say)(xs:List Str)(ws:List V):Vd->Prop
 | .bounds=>noB ts ws.length
 | .row n=>(Lst ts xs/\1<=ws.length/\ws.length<=21)/\∃gs:List Bool,gs.length=ws.length/\JdgsAt K H ts ws gs/\gs[n]?=some false/\∀g∈gs.take n,g=true
 | .even=>(Lst ts xs/\1<=ws.length/\ws.length<=21)/\JdgsAt K H ts ws (List.replicate ws.length true)/\ws.length % 2=0
 | .ok=>(Lst ts xs/\1<=ws.length/\ws.length<=21)/\JdgsAt K H ts ws (List.replicate ws.length true)/\ws.length % 2=1
def aV(K:Nl)(H:Hp)(b j:Addr)(vd:Vd):Prop:=∃(us ws:N1)(ts:N3)(xs:GM),SqT K H b us/\SaysAt K H us ts/\SqT K H j ws/\sK ts xs/\(∀t∈ts,t.pieces<=130)/\ws.length<=2000/\W0 K H ts xs ws vd
theorem JdgsAt.same{H H':Hp}{ts:N3}{ws:N1}{gs:Nc}(s:Same H H')(h:JdgsAt K H ts ws gs):JdgsAt K H' ts ws gs:=λss R h1 h2 i v g h3 h4=>(h ss R h1 h2 i v g h3 h4).same s
def mD(h:Lst ts xs/\1<=n/\n<=21):okB ts n:=⟨⟨h.1.lo,h.1.hi⟩,h.2,h.1.pc,λss hN=>(h.1.names hN).1⟩
def OobE.same(s:Same H H')(h:OobE C H E):OobE C H' E:=λa H2 s2 e=>h a H2 (s.trans s2) e
def BadE.same(s:Same H H')(h:BadE C H n E):BadE C H' n E:=λa dx H2 s2 e1 e2=>h a dx H2 (s.trans s2) e1 e2
def W1(K:W.Frag)(Co Cr Ce b j:Addr)(H:Hp)(Q:VK)(E:XK):Vd->Prop
 | .bounds=>OobE Co H E
 | .row n=>BadE Cr H n E
 | .even=>OobE Ce H E
 | .ok=>∀(p:Addr)(H':Hp),Same H H'->SqT K H' p [.ref b,.ref j]->Q (.ref p) H'
def on(K:Nl)(Co Cr Ce:Addr):Sp:=λvs H Q E=>∃(b j:Addr)(vd:Vd),vs=[.ref b,.ref j]/\aV K H b j vd/\W1 K Co Cr Ce b j H Q E vd
def jB(D:Def K mg "seated" (top 28) ["sayings","judges"])(DS:yw P w K mg base 131 "check_bounds" ["sayings","judges"] (YY K Co))(EH:yw P w K mg base 45 "check_rows" ["sayings","judges"] (aJ K Cr))(CZ:xT K Ce)(Bi:mg "Even"=some (.ref Ce))(Ab:mg "len"=none):yw P w K mg base 132 "seated" ["sayings","judges"] (on K Co Cr Ce):=by
 refine D.calleeX (N:=["sayings","judges"]) ?_ ?_ ?_;walk_at"go";obtain⟨b,j,vd,rfl,⟨us,ws,ts,xs,hb,hT,hj,hL,hp,hw,hD⟩,q⟩:=h;refine⟨[some (.ref b),some (.ref j)],_,rfl,(z6 (zE (wf DS zC hr (by lia) (z9 (z8 0) (z9 (z8 1) z7))))
  (z6 (zE (wf EH zC hr (by lia) (z9 (z8 0) (z9 (z8 1) z7))))
  (z6 (zf (zo (yt hr.units) (zu xE (zw zR rfl Ab zZ (z9 (z8 1) z7)) z5) z5 (zp _)) (z4 (y9 (yM CZ Bi (z9 zy z7)) yI rfl)) zt)
  (z4 (zr (xF (z9 (z8 0) (z9 (z8 1) z7)))))))),?_⟩
 walk_at"rp"
 by_cases hv:∃z:W0 K H ts xs ws .bounds,vd = .bounds
 ·obtain⟨z,rfl⟩:=hv;exact⟨b,j,us,ws,ts,xs,rfl,hb,hT,hj,hL,hp,hw,.inr ⟨z,q⟩⟩
 have hok:okB ts ws.length:=by
  cases vd with
  |bounds=>exact absurd ⟨hD,rfl⟩ hv
  |row n=>exact mD hD.1
  |even=>exact mD hD.1
  |ok=>exact mD hD.1
 refine⟨b,j,us,ws,ts,xs,rfl,hb,hT,hj,hL,hp,hw,.inl ⟨hok,λH1 s1=>?_⟩⟩;have Lg:=(zz s1).sqT hj;walk_at"rp";have go:∀(Q2:VK)(gs:List Bool),(Lst ts xs/\1<=ws.length/\ws.length<=21)->gs.length=ws.length->JdgsAt K H ts ws gs->(((∀g∈gs,g=true)->∀H',Same H1 H'->Q2 .non H')/\∀n,gs[n]?=some false->(∀g∈gs.take n,g=true)->BadE Cr H1 n E)->aJ K Cr [V.ref b,V.ref j] H1 Q2 E:=λQ2 gs hL hg hJ k=>⟨b,j,us,ws,ts,xs,gs,rfl,(zz s1).sqT hb,hT.mono (zz s1),hL.1,Lg,by lia,hg,hJ.same s1,k.1,k.2⟩
 cases vd with
 |bounds=>exact absurd ⟨hD,rfl⟩ hv
 |row n =>
  obtain⟨h0,gs,hg,hJ,hn,ht⟩:=hD;refine go _ gs h0 hg hJ ⟨λall=>?_,λm hm BG=>?_⟩
  ·have:=all false (VR hn);cases this
  ·have e:m=n:=by
    rcases Th m n with z|z|z
    ·have:=ht false (VR (by rw[U4 z];exact hm));cases this
    ·exact z
    ·have:=BG false (VR (by rw[U4 z];exact hn));cases this
   subst e;exact BadE.same s1 q
 |even =>
  obtain⟨h0,hJ,h2⟩:=hD;refine go _ _ h0 U5 hJ ⟨λ_ H2 s2=>?_,λm hm _=>?_⟩
  ·walk_at"rp";refine⟨_,.inr ((zz s2).sqT Lg),by decide,?_⟩;rw[show decide (((ws.length:Nat):Int) % 2=0)=true from VT (by lia)];walk_at"rp";refine⟨by rw[VP];simp,λa na=>⟨a,Ce,none,rfl,zv,CZ.x,?_⟩⟩;have G5:=s1.trans s2;exact q a _ (zi (zi G5 (zW G5 na) _) (zW G5 na) _) zv
  ·have:=T6 (VR hm);cases this
 |ok =>
  obtain⟨h0,hJ,h2⟩:=hD;refine go _ _ h0 U5 hJ ⟨λ_ H2 s2=>?_,λm hm _=>?_⟩
  ·walk_at"rp";refine⟨_,.inr ((zz s2).sqT Lg),by decide,?_⟩;rw[show decide (((ws.length:Nat):Int) % 2=0)=false from VH (by lia)];walk_at"rp";exact⟨zb (by simp),λp H3 n3 s3 e3=>q p H3 (s1.trans (s2.trans s3)) (SqT.of e3)⟩
  ·have:=T6 (VR hm);cases this
def a9(C:Addr):Sp:=λvs H Q _=>∃(o dx:Addr)(x:Str),vs=[.ref o,.str x]/\H o=some (.ins C dx [])/\∀H',SameA o H H'->H' o=some (.ins C dx (rdF x 0 0))->Q .non H'
def jA(D:DefN K C "Reading.__init__" (yh (top 34) 0) ["self","text"] ds)(rc:RdC K C):t9 P w K mg base 1 C ["self","text"] ds (a9 C):=by
 refine D.callee (N:=["self","text"]) ?_ ?_ ?_;walk_at"go";obtain⟨o,dx,x,rfl,ho,q⟩:=h;refine⟨[some (.ref o),some (.str x)],_,rfl,(z6 (u4 (z8 0) (z8 1) rfl)
  (z6 (u4 (z8 0) z5 rfl)
  (z4 (u4 (z8 0) z5 rfl)))),?_⟩
 walk_at"rp";refine⟨o,C,dx,_,rfl,ho,rc.cl,rc.t,by decide,?_⟩;walk_at"rp";refine⟨o,C,dx,_,rfl,zv,rc.cl,rc.p,(show(1:Nat)<1000 by decide),?_⟩;walk_at"rp";refine⟨o,C,dx,_,rfl,zv,rc.cl,rc.n,(show(2:Nat)<1000 by decide),?_⟩;exact q _ ((SameA.upd _ _ _).trans ((SameA.upd _ _ _).trans (SameA.upd _ _ _))) (by rw[zv];rfl)
def vm(x0:xT K Cn)(h:OobE Cn H E)(s:Same H H1):∀a,H1 a=none->∃Ex C dx,V.ref a=V.ref Ex/\upd H1 a (exO a Cn none true) Ex=some (exO Ex C dx true)/\XCls K C/\E (Value.ref Ex) dx (upd (upd H1 a (exO a Cn none true)) Ex (exO Ex C dx false)):=λa na=>⟨a,Cn,none,rfl,zv,x0.x,h a _ (zi (zi s (zW s na) _) (zW s na) _) zv⟩
def qL(K:Nl)(Cn:Addr):Sp:=λvs H Q E=>∃(v:V)(t:Nq)(b:Bool),vs=[v]/\TyX K H v t/\W.kitOne K t (.type "str")=some b/\(b=true->Q .non H)/\(b=false->OobE Cn H E)
def ez(D:Def K mg "check_text" (top 35) ["text"])(Ad:xT K Cn)(Ai:mg "NoText"=some (.ref Cn))(Aa:mg "isinstance"=none)(B3:mg "str"=none):yw P w K mg base 1 "check_text" ["text"] (qL K Cn):=by
 refine D.calleeX (N:=["text"]) ?_ ?_ ?_;walk_at"go";obtain⟨v,t,b,rfl,ht,hk,qy,qn⟩:=h;refine⟨[some v],_,rfl,(z4 (zf (wn (yg (zw wx rfl Aa zg (z9 (z8 0) (z9 (ya (v:=.ty "str") rfl B3 lF rfl) z7))))) (z4 (y9 (yM Ad Ai (z9 zy z7)) yI rfl)) zt)),?_⟩;walk_at"rp";refine⟨t,b,ht,hk,?_⟩;cases b with
 |true =>
  walk_at"rp";exact qy rfl
 |false =>
  walk_at"rp";exact⟨zb (by simp),vm Ad (qn rfl) (Same.refl _)⟩
def vy(x:List Nat):Option Say:=match zH x 41 40 0 with
 |some (t,_,p)=>if p<x.length then none else some t
 |none=>none
def aU(K:Nl)(H:Hp)(v:V):Prop:=∃t,TyX K H v t/\W.kitOne K t (.type "str")=some false
def qQ(K:Nl)(Cn:Addr):Sp:=λvs H Q E=>∃v:V,vs=[v]/\((aU K H v/\OobE Cn H E)\/∃x:Str,v = .str x/\yC x/\(vy x.cps.toList=none->OobE Cn H E)/\∀t,vy x.cps.toList=some t->∀(v':V)(H':Hp),Same H H'->SayAt K H' v' t->Q v' H')
def sc_reads:yl ["text","reading","saying"] ["text"] (zj (top 36)):=⟨rfl,rfl,rfl,by decide +kernel,rfl,by decide +kernel,by decide +kernel⟩
def fH(D:Def K mg "read_saying" (top 36) ["text"])(rc:RdC K C)(Bn:yw P w K mg base 1 "check_text" ["text"] (qL K Cn))(DU:t9 P w K mg base 1 C ["self","text"] ds (a9 C))(BQ:mg "Reading"=some (.ref C))(Ah:ym P w K mg base 85 C "take_saying" ["self"] (dA K C Cn 41))(Ad:xT K Cn)(Ai:mg "NoText"=some (.ref Cn))(Ab:mg "len"=none):yw P w K mg base 86 "read_saying" ["text"] (qQ K Cn):=by
 refine D.calleeX sc_reads (λvs H Q E h=>?_) λf cdv A outer s H vs Q E hr _ h=>?_
 ·obtain⟨v,rfl,_⟩:=h
  rfl
 have nd:=sc_reads.nd;obtain⟨v,rfl,h⟩:=h;refine⟨[some v,none,none],_,rfl,(z6 (zE (wf Bn zC hr (by lia) (z9 (z8 0) z7)))
  (z6 (zh 1 nd (bu DU hr (by lia) BQ (z9 (z8 0) z7)))
  (z6 (zh 2 nd (xy Ah zC hr (by lia) (z8 1)))
  (z6 (zf (zo vh (xz (z8 1) rfl) (zw zR rfl Ab zZ (z9 (z8 0) z7)) (zp _)) (z4 (y9 (yM Ad Ai (z9 zy z7)) yI rfl)) zt)
  (z4 (zr (z8 2))))))),?_⟩
 walk_at"rp";rcases h with⟨⟨t,ht,hk⟩,qn⟩|⟨x,rfl,hx,qn,qy⟩
 ·exact⟨v,t,false,rfl,ht,hk,(λz=>by cases z),λ_=>qn⟩
 refine⟨.str x,.type "str",true,rfl,.of (.str _),xw _,λ_=>?_,λz=>by cases z⟩;walk_at"rp";intro o dx no ndx ne;refine⟨o,dx,x,rfl,zv,λH1 s1 h1=>⟨rfl,?_⟩⟩;have s01:Same H H1:=λb u e=>by
  have hbo:b≠o:=λz=>by rw[z,no]at e;cases e
  have hbd:b≠dx:=λz=>by rw[z,ndx]at e;cases e
  exact s1 b u hbo (by rw[ze hbo,ze hbd];exact e)
 have fresh:∀{H2:Hp},SameA o H1 H2->Same H H2:=λ{H2} s2 b u e=>s2 b u (λz=>by rw[z,no]at e;cases e) (s01 b u e);have Cy:=zV x;walk_at"rp";refine⟨o,dx,_,rfl,h1,rfl,o,dx,x,0,0,rfl,h1,V5 _,hx,by decide,by decide,trivial,?_⟩;show RES K C Cn o dx x H1 _ E (zH x.cps.toList 41 40 0);unfold vy at qn qy;cases e:zH x.cps.toList 41 40 0 with
 |none =>
  rw[e]at qn;exact λa H2 s2 ea=>qn rfl a H2 (fresh s2) ea
 |some z =>
  obtain⟨t,r,p⟩:=z;rw[e]at qn qy;dsimp only at qn qy;intro v2 H2 s2 h2 hv;walk_at"rp";refine⟨o,C,dx,_,_,rfl,h2,rc.cl,rc.p,rfl,?_⟩;walk_at"rp";refine⟨by rw[VP];have:=hx.len;lia,?_⟩;refine yx (λc=>?_) λc=>?_
  ·have c':=V9 c;exact⟨zb (by simp),vm Ad (qn (by rw[VB (by lia)])) (fresh s2)⟩
  ·have c':¬p<x.cps.toList.length:=λz=>c (VT (by lia));walk_at"rp";exact qy t (by rw[VF c']) v2 H2 (fresh s2) hv
def yn(c:Nat):Bool:=decide (c=121)||decide (c=110)
def sD(l:Nf)(m:Nat):Option (List Bool):=if nx l 0 (lit "judge ")=true/\(l.drop 6).length=m/\(l.drop 6).all yn=true then some ((l.drop 6).map λc=>decide (c=121))else none
def kz{x y:Str}:Txt.startswith x y=nx x.cps.toList 0 y.cps.toList:=by
 rw[<-gd (V5 _)];unfold Txt.startswith Txt.startswith3
 rfl
def xn(x:Str)(n:Nat):Txt.slice x (some (n:Int)) none=⟨(x.cps.toList.drop n).toArray⟩:=by
 have Cy:=zV x
 by_cases h:n<=x.length
 ·rw[slice_from_eq (b:=(x.length:Int)) (by lia) (by lia) rfl]
  congr 2
  rw[Vu];exact UM (by rw[V1];lia)
 ·rw[slice_beyond (by lia),Tw (by lia)]
  rfl
def wu:List (Key×Value):=[(Sum.inr ("y":Str),.bool true),(Sum.inr ("n":Str),.bool false)]
def u9(c:Nat):valueAt wu (Sum.inr (⟨#[c]⟩:Str))=if c=121 then some (.bool true)else if c=110 then some (.bool false)else none:=by
 have hy:("y":Str)=⟨#[121]⟩:=by decide +kernel
 have hn:("n":Str)=⟨#[110]⟩:=by decide +kernel
 have inj:∀d:Nat,((Sum.inr (⟨#[d]⟩:Str):Key)=Sum.inr (⟨#[c]⟩:Str))↔c=d:=λd=>by
  constructor
  ·intro h;have h2:(⟨#[d]⟩:Str)=⟨#[c]⟩:=Sum.inr.inj h;have h3:=Vp (λz:Str=>z.cps.toList) h2;simpa using h3.symm
  ·intro h;rw[h]
 unfold valueAt wu;rw[hy,hn,Tp,Tp,List.find?_nil]
 by_cases h1:c=121
 ·rw[VB h1,VT ((inj 121).mpr h1)]
  rfl
 ·rw[VF h1,VH λz=>h1 ((inj 121).mp z)]
  by_cases h2:c=110
  ·rw[VB h2,VT ((inj 110).mpr h2)]
   rfl
  ·rw[VF h2,VH λz=>h2 ((inj 110).mp z)]
   rfl
def bA(K:Nl)(Cn:Addr):Sp:=λvs H Q E=>∃(l:Str)(m:Nat),vs=[.str l,.int (m:Int)]/\yC l/\(sD l.cps.toList m=none->OobE Cn H E)/\∀k,sD l.cps.toList m=some k->∀(a:Addr)(H':Hp),Same H H'->SqT K H' a (k.map V.bl)->Q (.ref a) H'
def ZZ(D:Def K mg "read_row" (top 37) ["line","many"])(Ad:xT K Cn)(Ai:mg "NoText"=some (.ref Cn))(BB:mg "TRUTHS"=some (.ref Ta))(hTr:DictK P w K Ta wu)(Ab:mg "len"=none)(Ae:mg "tuple"=none):yw P w K mg base 1 "read_row" ["line","many"] (bA K Cn):=by
 refine D.calleeX (N:=["line","many","letters","letter"]) ?_ ?_ ?_;walk_at"go";obtain⟨l,m,rfl,hl,qn,qy⟩:=h;have Cy:=zV l;have Ar:=hl.len;have Fp:(l.cps.toList.drop 6).length=l.length-6:=by rw[V1,Cy]
 refine⟨[some (.str l),some (.int (m:Int)),none,none],_,rfl,(z6 (zh 2 nd (zX (z8 0) (za (zw zR rfl Ab zZ (z9 zy z7))) zM))
  (z6 (zf (PW.pt (yR (wn (yg (wN (z8 0) (z9 zy z7)))) (yS (zo (ux hr.units) (zw zR rfl Ab zZ (z9 (z8 2) z7)) (z8 1) (zp _))))) (z4 (y9 (yM Ad Ai (z9 zy z7)) yI rfl)) zt)
  (z6 (p9 rfl (p0 (z8 2)) (xt 3 nd) (z4 (zf (zo eR (z8 3) (yF BB) (by with_unfolding_all rfl)) (z4 (y9 (yM Ad Ai (z9 zy z7)) kO rfl)) zt)))
  (z4 (zr (zJ yN rfl Ae yo (z9 (yd (ixs:=[]) (zU (own:=["letter"]) (N:=[]) rfl) rfl (p0 (z8 2)) (λ_ _ _ _=>zD) (λ_ _ _ _=>(bp (yF BB) (z8 0) (λ_ _=>rfl))) rfl) z7))))))),?_⟩
 walk_at"rp";refine⟨zb (by decide +kernel),by rw[VP];lia,?_⟩;rw[show((("judge ":Str).length:Nat):Int)=((6:Nat):Int)from rfl,xn];have Ll:(⟨(l.cps.toList.drop 6).toArray⟩:Str).length=l.length-6:=by rw[<-Fp];simp[Str.length]
 have hat:∀i c,(⟨(l.cps.toList.drop 6).toArray⟩:Str).cps[i]?=some c->(l.cps.toList.drop 6)[i]?=some c:=λi c h=>List.getElem?_toArray.symm.trans h;walk_at"rp";rw[kz];unfold sD at qn qy;refine yx (λc=>⟨zb (by simp),vm Ad (qn ?_) (Same.refl _)⟩) λc=>?_
 ·rw[VF λz=>?_];rw[show nx l.cps.toList 0 ("judge ":Str).cps.toList=true from z.1]at c;cases c
 refine⟨by rw[Ll,VP];lia,?_⟩;rw[Ll];have hj:nx l.cps.toList 0 (lit "judge ")=true:=by
  cases hb:nx l.cps.toList 0 (lit "judge ")with
  |true=>rfl
  |false=>exact absurd (show(!nx l.cps.toList 0 ("judge ":Str).cps.toList)=true from by rw[show nx l.cps.toList 0 ("judge ":Str).cps.toList=false from hb];rfl) c
 refine yx (λc2=>⟨zb (by simp),vm Ad (qn ?_) (Same.refl _)⟩) λc2=>?_
 ·rw[VF λz=>?_];have z2:=z.2.1;rw[Fp]at z2;rw[VT (show(((l.length-6:Nat)):Int)=(m:Int)by lia)]at c2;cases c2
 have IS:l.length-6=m:=by
  by_cases z:l.length-6=m
  ·exact z
  ·exact absurd (show(!decide ((((l.length-6:Nat)):Int)=(m:Int)))=true from by rw[VH (by lia)];rfl) c2
 walk_at"rp";refine eB (x:=⟨(l.cps.toList.drop 6).toArray⟩) (λi σ H2=>∃iv:Option V,σ=[some (.str l),some (.int (m:Int)),some (.str ⟨(l.cps.toList.drop 6).toArray⟩),iv]/\Same H H2/\((l.cps.toList.drop 6).take i).all yn=true) ⟨none,rfl,Same.refl _,rfl⟩ ?_ ?_
 ·rintro i ch σ H2 CB ⟨iv,rfl,s2,A0⟩;have Cz:=hat i ch CB;walk_at"rp";refine⟨_,_,wu,rfl,rfl,hTr,?_⟩;rw[u9];have hyn:(if ch=121 then some (Value.bool true)else if ch=110 then some (Value.bool false)else none).isSome=yn ch:=by
   unfold yn
   by_cases h1:ch=121
   ·rw[VB h1,VT h1];rfl
   ·by_cases h2:ch=110
    ·rw[VF h1,VB h2,VH h1,VT h2];rfl
    ·rw[VF h1,VF h2,VH h1,VH h2];rfl
  rw[hyn];cases hb:yn ch with
  |true =>
   walk_at"rp";refine⟨_,rfl,s2,?_⟩;rw[V7,Cz,List.all_append,A0];simp[hb]
  |false =>
   walk_at"rp";refine⟨zb (by simp),vm Ad (qn ?_) s2⟩;rw[VF λz=>?_];have:=Vf.mp z.2.2 ch (VR Cz);rw[hb]at this;cases this
 ·rintro σ H2 ⟨iv,rfl,s2,A0⟩;rw[Ll,<-Fp,V4]at A0;have qy':=qy _ (VB ⟨hj,by rw[Fp];exact IS,A0⟩);walk_at"rp";intro C s₀ H₀ ex;refine nK (x:=⟨(l.cps.toList.drop 6).toArray⟩) (λD i ys H3=>ys=(((l.cps.toList.drop 6).take i).map λc=>decide (c=121)).map V.bl/\i<=l.length-6/\H3 D=some (.lst ys)/\Same H2 H3/\H2 D=none) (by rw[Ll,VP];lia) ?_ ?_ ?_ ?_
  ·intro D H3 n3 s3 e3;exact⟨rfl,V5 _,e3,s3,n3⟩
  ·rintro D i ys H3 ⟨rfl,hi,e3,_⟩;exact⟨e3,by rw[WA,WA,Vw,Fp];lia⟩
  ·rintro D i ch ys H3 CB ⟨rfl,hi,e3,s3,n3⟩;have Cz:=hat i ch CB;have A3:i<l.length-6:=by have:=(VY.mp Cz).1;lia
   have hy:=Vf.mp A0 ch (VR Cz);have A9:∀b:Bool,b=decide (ch=121)->H3 D=some (.lst ((((l.cps.toList.drop 6).take i).map λc=>decide (c=121)).map V.bl))/\CN (⟨(l.cps.toList.drop 6).toArray⟩:Str).length i (((((l.cps.toList.drop 6).take i).map λc=>decide (c=121)).map V.bl++[V.bl b]=(((l.cps.toList.drop 6).take (i+1)).map λc=>decide (c=121)).map V.bl)/\i+1<=l.length-6/\upd H3 D (.lst ((((l.cps.toList.drop 6).take i).map λc=>decide (c=121)).map V.bl++[V.bl b])) D=some (.lst ((((l.cps.toList.drop 6).take i).map λc=>decide (c=121)).map V.bl++[V.bl b]))/\Same H2 (upd H3 D (.lst ((((l.cps.toList.drop 6).take i).map λc=>decide (c=121)).map V.bl++[V.bl b])))/\H2 D=none):=λb hb=>by
    subst hb;refine⟨e3,CN.mk (by rw[Ll];exact A3) ⟨?_,by lia,zv,zi s3 n3 _,n3⟩⟩;rw[V7,Cz,VL,VL]
    rfl
   walk_at"rp"
   by_cases h1:ch=121
   ·refine⟨wu,.bool true,.bl true,hTr,by rw[u9,VB h1],rfl,A9 true (by rw[VT h1])⟩
   ·have h2:ch=110:=by
     unfold yn at hy;rw[VH h1,Bool.false_or]at hy;exact V9 hy
    refine⟨wu,.bool false,.bl false,hTr,by rw[u9,VF h1,VB h2],rfl,A9 false (by rw[VH h1])⟩
  ·rintro D ys H3 ⟨rfl,hi,e3,s3,n3⟩;rw[Ll,<-Fp,V4]at e3;walk_at"rp";exact⟨_,.inl (SqL.of e3),λa H4 s4 h4=>qy' a H4 (s2.trans (s3.trans s4)) h4⟩
theorem vF:∀(k ds:List Bool),PyData.eqvAll (k.map PyData.bool) (ds.map PyData.bool)=true->k=ds
 |[],[],_=>rfl
 |[],_::_,h=>by simp[PyData.eqvAll]at h
 |_::_,[],h=>by simp[PyData.eqvAll]at h
 |a::k,b::ds,h=>by
  rw[List.map_cons,List.map_cons,PyData.eqvAll,Vy,PyData.eqv]at h;rw[eq_of_beq h.1,vF k ds h.2]
section
variable {H:Hp}{R:KM}
def XI{d:PyData}(h:Has K H v d)(hl:PyData.canLay0 d=true)(he:∀k∈R,PyData.eqv (xB k) d=false):Jdg K H R v false :=
 ⟨d,h,hl,.inl ⟨List.any_eq_false.mpr λk hk=>by rw[he k hk];decide,rfl⟩⟩
def ZD{ds:Nc}(h:SqT K H a (ds.map V.bl))(hn:ds∉R):Jdg K H R (.ref a) false :=
 XI (pU h) (uG ds).1 λk hk=>Bool.eq_false_iff.mpr λe=>hn (by
  unfold xB at e;rw[PyData.eqv]at e;rw[<-vF k ds e];exact hk)
end
def JL(K:W.Frag)(H:Hp)(ks:List (List Bool)):List V->List Bool->Prop
 |[],[]=>True
 |v::vs,g::gs=>Jdg K H ks v g/\JL K H ks vs gs
 |_,_=>False
section
variable {H H':Hp}{ks:KM}
theorem JL.at:∀{vs:List V}{gs:List Bool},JL K H ks vs gs->∀(i:Nat) v g,vs[i]?=some v->gs[i]?=some g->Jdg K H ks v g
 |[],[],_,i,v,g,h,_=>by simp at h
 |_::_,_::_,h,0,v,g,e1,e2=>by
  cases e1;cases e2;exact h.1
 |_::_,_::_,h,i+1,v,g,e1,e2=>JL.at h.2 i v g (by simpa using e1) (by simpa using e2)
 |[],_::_,h,_,_,_,_,_=>h.elim
 |_::_,[],h,_,_,_,_,_=>h.elim
def JL.to(hN:NamesOf ts ss)(hF:FitRows ts ss ks)(h:JL K H ks vs gs):JdgsAt K H ts vs gs:=λAW R' h1 h2 i v g hv hg=>by
 cases NamesOf.eq h1 hN;cases FitRows.eq h2 hF;exact h.at i v g hv hg
def dr(h:SqT K H a (k.map V.bl))(hk:k∈ks)(hl:k.length<=100):Jdg K H ks (.ref a) true:=by
 refine⟨_,pU h,(uG k).1,.inr ⟨UW.mpr ⟨k,hk,wK (mZ k)⟩,a,_,k.map λ_=>true,rfl,h,by rw[WA];exact hl,by simp,λi z g hz hg=>?_,?_⟩⟩
 ·rw[VA]at hz hg;cases hc:k[i]? with
  |none=>rw[hc]at hz;cases hz
  |some b =>
   rw[hc]at hz hg;cases hz;cases hg;exact .inl ⟨b,rfl,rfl⟩
 ·simp
theorem jx:∀{J:List (Addr×List Bool)},(∀q∈J,SqT K H q.1 (q.2.map V.bl)/\q.2∈ks/\q.2.length<=100)->JL K H ks (J.map λq=>V.ref q.1) (List.replicate J.length true)
 |[],_=>trivial
 |q::J,h=>by
  obtain⟨h1,h2,h3⟩:=h q VE;exact⟨dr h1 h2 h3,jx λr hr=>h r (VJ _ hr)⟩
end
def bW(h:FitRows ts ss ks)(hk:k∈ks):k.length=ts.length:=by
 obtain⟨n,_,rfl⟩:=(h.2.1 k).mp hk;exact wG _ _
def tV(h:small c=true):c=97\/(98<=c/\c<=122):=by
 have h1:c∈ma:=V9 h;have h2:∀d∈ma,d=97\/(98<=d/\d<=122):=by decide +kernel
 exact h2 c h1
def ef(h:c∈zK x p):small c=true:=Vf.mp (List.all_takeWhile (p:=small) (l:=x.drop p)) c h
def uh{n:Nf}(h:∀c∈n,small c=true):PyData.strOk (⟨n.toArray⟩:Str)=true:=(c9 _).mpr λc hc=>by
 have:=tV (h c (by simpa using hc));lia
def Xm(h:wy (zK x p)=true):Nm (⟨(zK x p).toArray⟩:Str):=by
 unfold wy at h;rw[Vy,Vy]at h;have h1:¬6<(zK x p).length:=λz=>by
  have:=h.2.1;rw[VT z]at this;cases this
 refine⟨?_,uh λc hc=>ef hc⟩;show(zK x p).toArray.size<=20;rw[VO];lia
theorem xL{x:List Nat}:∀{f r p:Nat}{t:Say}{r' p':Nat},zH x f r p=some (t,r',p')->t.pieces+r'=r/\∀y∈t.letters,Nm y
 |0,r,p,t,r',p',h=>by simp[zH]at h
 |f+1,0,p,t,r',p',h=>by simp[zH]at h
 |f+1,r+1,p,t,r',p',h=>by
  rw[zH]at h;split at h
  ·unfold jE at h;split at h
   ·rename_i t1 r1 p1 e;cases h;have:=xL e;exact⟨by simp only[Say.pieces];lia,this.2⟩
   ·cases h
  ·split at h
   ·unfold pIf at h;split at h
    ·rename_i t1 r1 p1 e;have i1:=xL e;split at h
     ·obtain⟨t2,p2,e2,HM,rfl,rfl⟩:=xR h;have i2:=xL e2;exact⟨by simp only[Say.pieces];lia,λy hy=>(VQ.mp hy).elim (i1.2 y) (i2.2 y)⟩
     ·cases h
    ·cases h
   ·split at h
    ·unfold w4 at h;split at h
     ·rename_i t1 r1 p1 e;have i1:=xL e;split at h
      ·obtain⟨t2,p2,e2,HM,rfl,rfl⟩:=xR h;have i2:=xL e2;exact⟨by simp only[Say.pieces];lia,λy hy=>(VQ.mp hy).elim (i1.2 y) (i2.2 y)⟩
      ·split at h
       ·obtain⟨t2,p2,e2,HM,rfl,rfl⟩:=xR h;have i2:=xL e2;exact⟨by simp only[Say.pieces];lia,λy hy=>(VQ.mp hy).elim (i1.2 y) (i2.2 y)⟩
       ·cases h
     ·cases h
    ·unfold ud at h;split at h
     ·rename_i hok;cases h;exact⟨by simp only[Say.pieces];lia,λy hy=>by rw[VX.mp hy];exact Xm hok⟩
     ·cases h
def vR(h:vy x=some t):t.pieces<=40/\∀y∈t.letters,Nm y:=by
 unfold vy at h;split at h
 ·rename_i t1 r1 p1 e;split at h
  ·cases h
  ·cases h;have:=xL e;exact⟨by lia,this.2⟩
 ·cases h
def zG:List Str->List Say->List (List Bool)->Option (List Say×List (List Bool))
 |[],ts,ks=>some (ts,ks)
 |l::ls,ts,ks=>if nx l.cps.toList 0 (lit "say ")=true/\ks=[]then(match vy (l.cps.toList.drop 4)with
   |some t=>zG ls (ts++[t]) ks
   |none=>none)else(match sD l.cps.toList ts.length with
   |some k=>zG ls ts (ks++[k])
   |none=>none)
def yb(ls:List Str):Option (List Say×List (List Bool)):=match zG ls [] []with
 |some (ts,ks)=>if ts=[]\/ks=[]then none else some (ts,ks)
 |none=>none
def Yv(ts:List Say)(xs:List Str)(ks:List (List Bool)):Vd->Prop
 | .bounds=>noB ts ks.length
 | .row n=>(Lst ts xs/\1<=ks.length/\ks.length<=21)/\∃ss R,NamesOf ts ss/\FitRows ts ss R/\(∃k,ks[n]?=some k/\k∉R)/\∀k∈ks.take n,k∈R
 | .even=>(Lst ts xs/\1<=ks.length/\ks.length<=21)/\(∀ss R,NamesOf ts ss->FitRows ts ss R->∀k∈ks,k∈R)/\ks.length % 2=0
 | .ok=>(Lst ts xs/\1<=ks.length/\ks.length<=21)/\(∀ss R,NamesOf ts ss->FitRows ts ss R->∀k∈ks,k∈R)/\ks.length % 2=1
theorem du{H:Hp}{R:List (List Bool)}:∀{J:List (Addr×List Bool)},(∀q∈J,SqT K H q.1 (q.2.map V.bl))->(∀k∈R,k.length<=100)->JL K H R (J.map λq=>V.ref q.1) (J.map λq=>decide (q.2∈R))
 |[],_,_=>trivial
 |q::J,h,hR=>by
  refine⟨?_,du (λz hz=>h z (VJ _ hz)) hR⟩;have h1:=h q VE;show Jdg K H R (.ref q.1) (decide (q.2∈R))
  by_cases hq:q.2∈R
  ·rw[VT hq];exact dr h1 hq (hR _ hq)
  ·rw[VH hq];exact ZD h1 hq
def Z8{j:Addr}{vd:Vd}(hb:SqT K H b us)(hT:SaysAt K H us ts)(hj:SqT K H j (J.map λq=>V.ref q.1))(hJ:∀q∈J,SqT K H q.1 (q.2.map V.bl))(hL:sK ts xs)(hp:∀t∈ts,t.pieces<=130)(hn:J.length<=2000)(h:Yv ts xs (J.map (·.2)) vd):aV K H b j vd:=by
 have hl:(J.map λq=>V.ref q.1).length=J.length:=WA _;have F6:(J.map (·.2)).length=J.length:=WA _;refine⟨us,_,ts,xs,hb,hT,hj,hL,hp,by lia,?_⟩;have MW:∀{ss:List Str}{R:List (List Bool)},Lst ts xs->FitRows ts ss R->∀k∈R,k.length<=100:=λhL hF k hk=>by rw[bW hF hk];have:=hL.hi;lia
 have all:(Lst ts xs/\1<=(J.map (·.2)).length/\(J.map (·.2)).length<=21)->(∀ss R,NamesOf ts ss->FitRows ts ss R->∀k∈J.map (·.2),k∈R)->JdgsAt K H ts (J.map λq=>V.ref q.1) (List.replicate (J.map λq=>V.ref q.1).length true):=λh0 hk=>by
  rw[hl];intro ss R hN hF;exact JL.to hN hF (jx λq hq=>⟨hJ q hq,hk ss R hN hF q.2 (Vs (f:=λq:Addr×List Bool=>q.2) hq),MW h0.1 hF _ (hk ss R hN hF q.2 (Vs (f:=λq:Addr×List Bool=>q.2) hq))⟩) ss R hN hF
 cases vd with
 |bounds =>
  show noB ts _;rw[hl];exact F6▸h
 |row n =>
  obtain⟨h0,ss,R,hN,hF,⟨k,hk,hkR⟩,E7⟩:=h;refine⟨⟨h0.1,by lia,by lia⟩,J.map (λq=>decide (q.2∈R)),by rw[WA,WA],(du hJ (MW h0.1 hF)).to hN hF,?_,λg hg=>?_⟩
  ·rw[VA]at hk ⊢;cases hq:J[n]? with
   |none=>rw[hq]at hk;cases hk
   |some q =>
    rw[hq]at hk;cases hk;exact Vp some (VH hkR)
  ·rw[<-List.map_take]at hg;obtain⟨q,hq,rfl⟩:=VC.mp hg;exact VT (E7 q.2 (by rw[<-List.map_take];exact Vs (f:=λq:Addr×List Bool=>q.2) hq))
 |even =>
  obtain⟨h0,hk,h2⟩:=h;exact⟨⟨h0.1,by lia,by lia⟩,all h0 hk,by lia⟩
 |ok =>
  obtain⟨h0,hk,h2⟩:=h;exact⟨⟨h0.1,by lia,by lia⟩,all h0 hk,by lia⟩
def Wz(K:W.Frag)(Co Cr Ce:Addr)(ts:List Say)(ks:List (List Bool))(H:Hp)(Q:VK)(E:XK):Vd->Prop
 | .bounds=>OobE Co H E
 | .row n=>BadE Cr H n E
 | .even=>OobE Ce H E
 | .ok=>∀(p b j:Addr)(H':Hp)(us:List V)(J:List (Addr×List Bool)),Same H H'->SqT K H' p [.ref b,.ref j]->SqT K H' b us->SaysAt K H' us ts->SqT K H' j (J.map λq=>V.ref q.1)->(∀q∈J,SqT K H' q.1 (q.2.map V.bl))->J.map (·.2)=ks->Q (.ref p) H'
def gR(K:Nl)(Cn Co Cr Ce:Addr):Sp:=λvs H Q E=>∃v:V,vs=[v]/\((aU K H v/\OobE Cn H E)\/∃x:Str,v = .str x/\yC x/\(∀l∈Txt.split x ("\n":Str),yC l)/\(Txt.split x ("\n":Str)).length<=1000/\(yb (Txt.split x ("\n":Str))=none->OobE Cn H E) /\
 ∀ts ks,yb (Txt.split x ("\n":Str))=some (ts,ks)->∃vd xs,sK ts xs/\Yv ts xs ks vd/\Wz K Co Cr Ce ts ks H Q E vd)
def qg(ks:List (List Bool)):PyData.eqv (rL ks) (.list [])=decide (ks=[]):=by
 unfold rL;cases ks with
 |nil=>simp[PyData.eqv,PyData.eqvAll]
 |cons k ks=>simp[PyData.eqv,PyData.eqvAll]
def iQ(ts:List Say):PyData.eqv (.list (ts.map xS)) (.list [])=decide (ts=[]):=by
 cases ts with
 |nil=>simp[PyData.eqv,PyData.eqvAll]
 |cons k ks=>simp[PyData.eqv,PyData.eqvAll]
def v9{p:Addr}(h:H p=some (.lst [])):Has K H (.ref p) (.list []):=by
 unfold Has;exact⟨p,_,rfl,SqL.of h,by unfold HasL;rfl⟩
def vn:SeqAt.shaped (.list [])=true:=by decide +kernel
def qG(h:∀t∈ts,t.pieces<=40/\∀x∈t.letters,Nm x):SeqAt.shaped (.list (ts.map xS))=true:=by
 obtain⟨h1,h2⟩:=nh ts h;unfold SeqAt.shaped;rw[PyData.canLay0,h1,PyData.depth];exact VT (by lia)
def iU{p:Addr}(h:H p=some (.lst us))(hT:SaysAt K H us ts):Has K H (.ref p) (.list (ts.map xS)):=by
 unfold Has;exact⟨p,_,rfl,SqL.of h,qm hT⟩
def sc_read:yl ["text","sayings","judges","line"] ["text"] (zj (top 38)):=⟨rfl,rfl,rfl,by decide +kernel,rfl,by decide +kernel,by decide +kernel⟩
structure RdL(K:Nl)(H0 H:Hp)(ls:GM)(i:Nat)(sa ja D:Addr)(us:N1)(ts:N3)(J:KF):Prop where
 lsm:Same H0 H
 lsa:H sa=some (.lst us)
 lja:H ja=some (.lst (J.map λq=>V.ref q.1))
 lD:H D=some (.lst (ls.map V.str))
 lT:SaysAt K H us ts
 lJ:∀q∈J,SqT K H q.1 (q.2.map V.bl)
 lpc:∀t∈ts,t.pieces<=40/\∀x∈t.letters,Nm x
 lrun:zG ls [] []=zG (ls.drop i) ts (J.map (·.2))
 ltl:ts.length<=i
 ljl:J.length<=i
def RdL.up{D:Addr}(s:Same H H')(h:RdL K H0 H ls i sa ja D us ts J):RdL K H0 H' ls i sa ja D us ts J :=
 ⟨h.lsm.trans s,s _ _ h.lsa,s _ _ h.lja,s _ _ h.lD,h.lT.mono (zz s),λq hq=>(zz s).sqT (h.lJ q hq),h.lpc,h.lrun,h.ltl,h.ljl⟩
def RdL.row{D:Addr}(h:RdL K H0 H ls i sa ja D us ts J)(n:H0 ja=none)(n1:sa≠ja)(n2:D≠ja)(ha:SqT K H a (k.map V.bl))(e:zG ls [] []=zG (ls.drop (i+1)) ts (J.map (·.2)++[k])):RdL K H0 (upd H ja (.lst ((J.map λq=>V.ref q.1)++[.ref a]))) ls (i+1) sa ja D us ts (J++[(a,k)]):=by
 have tl:=yT (o:=.lst ((J.map λq=>V.ref q.1)++[.ref a])) h.lja;refine⟨zi h.lsm n _,by rw[ze n1];exact h.lsa,by rw[zv,VL];rfl,by rw[ze n2];exact h.lD,h.lT.mono tl,λq hq=>?_,h.lpc,by rw[VL];exact e,Nat.le_succ_of_le h.ltl,by rw[VU];exact Nat.succ_le_succ h.ljl⟩;rcases VQ.mp hq with z|z
 ·exact tl.sqT (h.lJ q z)
 ·rw[VX.mp z];exact tl.sqT ha
def RdL.say{D:Addr}(h:RdL K H0 H ls i sa ja D us ts J)(n:H0 sa=none)(n1:ja≠sa)(n2:D≠sa)(ha:SayAt K H v t)(ht:t.pieces<=40/\∀x∈t.letters,Nm x)(e:zG ls [] []=zG (ls.drop (i+1)) (ts++[t]) (J.map (·.2))):RdL K H0 (upd H sa (.lst (us++[v]))) ls (i+1) sa ja D (us++[v]) (ts++[t]) J:=by
 have tl:=yT (o:=.lst (us++[v])) h.lsa;refine⟨zi h.lsm n _,zv,by rw[ze n1];exact h.lja,by rw[ze n2];exact h.lD,SaysAt.app (h.lT.mono tl) ⟨ha.mono tl,trivial⟩,λq hq=>tl.sqT (h.lJ q hq),λu hu=>?_,e,by rw[VU];exact Nat.succ_le_succ h.ltl,Nat.le_succ_of_le h.ljl⟩;rcases VQ.mp hu with z|z
 ·exact h.lpc u z
 ·rw[VX.mp z];exact ht
def o6{x:Str}(h:yC x):yC (⟨(x.cps.toList.drop n).toArray⟩:Str):=by
 have hl:(⟨(x.cps.toList.drop n).toArray⟩:Str).length=x.cps.toList.length-n:=by
  show(x.cps.toList.drop n).toArray.size=_;rw[VO,V1]
 refine⟨?_,λc hc=>h.cps c (Uz (by simpa using hc))⟩;rw[hl,zV];have:=h.len;lia
def cC(D:Def K mg "read" (top 38) ["text"])(Bn:yw P w K mg base 1 "check_text" ["text"] (qL K Cn))(Bc:yw P w K mg base 86 "read_saying" ["text"] (qQ K Cn))(FS:yw P w K mg base 1 "read_row" ["line","many"] (bA K Cn))(DO:yw P w K mg base 132 "seated" ["sayings","judges"] (on K Co Cr Ce))(Ad:xT K Cn)(Ai:mg "NoText"=some (.ref Cn))(Ab:mg "len"=none)(Ae:mg "tuple"=none):yw P w K mg base 133 "read" ["text"] (gR K Cn Co Cr Ce):=by
 refine D.calleeX sc_read (λvs H Q E h=>?_) λf cdv A outer s H vs Q E hr _ h=>?_
 ·obtain⟨v,rfl,_⟩:=h
  rfl
 have nd:=sc_read.nd;obtain⟨v,rfl,h⟩:=h;refine⟨[some v,none,none,none],_,rfl,(z6 (zE (wf Bn zC hr (by lia) (z9 (z8 0) z7)))
  (z6 (zh 1 nd (zP z7))
  (z6 (zh 2 nd (zP z7))
  (z6 (p9 rfl (zA (pi (z8 0) (z9 zy z7))) (xt 3 nd) (z4 (zf (PW.pt (wQ (yg (wN (z8 3) (z9 zy z7))) (xG (zo (yt hr.units) (z8 2) (zP z7) (zp _))))) (z4 (zE (uT UK UJ su (z8 1) (z9 (wf Bc kG hr (by lia) (z9 (zX (z8 3) (za (zw zR rfl Ab zZ (z9 zy z7))) zM) z7)) z7)))) (z4 (zE (uT UK UJ su (z8 2) (z9 (wf FS kG hr (by lia) (z9 (z8 3) (z9 (zw zR rfl Ab zZ (z9 (z8 1) z7)) z7))) z7)))))))
  (z6 (zf (PW.pt (yR (zo (yt hr.units) (z8 1) (zP z7) (zp _)) (yS (zo (yt hr.units) (z8 2) (zP z7) (zp _))))) (z4 (y9 (yM Ad Ai (z9 zy z7)) yI rfl)) zt)
  (z4 (zr (wf DO zC hr (by lia) (z9 (zJ yN rfl Ae yo (z9 (z8 1) z7)) (z9 (zJ yN rfl Ae yo (z9 (z8 2) z7)) z7)))))))))),?_⟩
 walk_at"rp";rcases h with⟨⟨t,ht,hk⟩,qn⟩|⟨x,rfl,hx,HP,hl1000,qn,qy⟩
 ·exact⟨v,t,false,rfl,ht,hk,(λz=>by cases z),λ_=>qn⟩
 refine⟨.str x,.type "str",true,rfl,.of (.str _),xw _,λ_=>?_,λz=>by cases z⟩;walk_at"rp";refine⟨zb (by simp),λsa H1 n1 s1 e1=>?_⟩;walk_at"rp";refine⟨zb (by simp),λja H2 n2 s2 e2=>?_⟩;walk_at"rp";generalize hlines:Txt.split x ("\n":Str)=ls at HP hl1000 qn qy;refine⟨by decide +kernel,by rw[VP];have:=hx.len;lia,hl1000,λDl H3 n3 s3 e3=>?_⟩;have nsj:sa≠ja:=λz=>by rw[<-z,e1]at n2;cases n2
 have nsD:sa≠Dl:=λz=>by rw[<-z,s2 _ _ e1]at n3;cases n3
 have njD:ja≠Dl:=λz=>by rw[<-z,e2]at n3;cases n3
 have nsa:H sa=none:=n1;have nja:H ja=none:=zW s1 n2;have Fz:zG ls [] []=none->yb ls=none:=λh=>by unfold yb;rw[h]
 refine .inl ⟨⟨_,SqL.of e3⟩,?_⟩;refine xj (xs:=ls.map V.str) (λi σ H4=>∃(us:List V)(ts:List Say)(J:List (Addr×List Bool))(lv:Option V),σ=[some (.str x),some (.ref sa),some (.ref ja),lv]/\RdL K H H4 ls i sa ja Dl us ts J) ⟨[],[],[],none,rfl,s1.trans (s2.trans s3),(s2.trans s3) _ _ e1,s3 _ _ e2,e3,trivial,(λq hq=>by cases hq),(λt ht=>by cases ht),rfl,VW _,VW _⟩ ?_ ?_ ?_
 ·rintro i σ H4 _ ⟨us,ts,J,lv,rfl,h4⟩;exact SqL.of h4.lD
 ·rintro i v σ H4 hv ⟨us,ts,J,lv,rfl,h4⟩;rw[VA]at hv;cases hc:ls[i]? with
  |none=>rw[hc]at hv;cases hv
  |some l =>
   rw[hc]at hv;cases hv;have ET:i<ls.length:=(VY.mp hc).1;have E9:=HP l (VR hc);have Bj:=h4.lrun;have hdr:ls.drop i=l::ls.drop (i+1):=by
    rw[TN ET]
    congr 1
    exact(VY.mp hc).2
   rw[hdr,zG]at Bj;have G9:=h4.ltl;have Gn:=h4.ljl;walk_at"rp";rw[kz];refine yx (λc=>?_) λc=>?_
   ·refine⟨zb (by simp),λp5 H5 n5 s5 e5=>?_⟩;have hr:=h4.up s5;walk_at"rp";refine⟨_,_,nU (SqL.of hr.lja) hr.lJ,v9 e5,ug _,vn,?_⟩;rw[qg];refine yx (λc2=>?_) λc2=>?_
    ·have E5:nx l.cps.toList 0 (lit "say ")=true/\J.map (·.2)=[]:=⟨c,V9 c2⟩
     refine⟨⟨_,_,rfl,hr.lsa⟩,?_⟩;walk_at"rp";refine⟨zb (by decide +kernel),by rw[VP];have:=E9.len;lia,?_⟩;rw[show((("say ":Str).length:Nat):Int)=((4:Nat):Int)from rfl,xn];rw[VB E5]at Bj;refine⟨_,rfl,.inr ⟨_,rfl,o6 E9,λno=>?_,λt ht v6 H6 s6 h6=>?_⟩⟩
     ·have no':vy (l.cps.toList.drop 4)=none:=by simpa using no
      rw[no']at Bj;exact OobE.same hr.lsm (qn (Fz Bj))
     ·have Fw:vy (l.cps.toList.drop 4)=some t:=by simpa using ht
      rw[Fw]at Bj;walk_at"rp";exact⟨_,(hr.up s6).lsa,by rw[hr.lT.len,VP];lia,_,_,_,_,rfl,(hr.up s6).say nsa nsj.symm nsD.symm h6 (vR Fw) Bj⟩
    ·have CA:¬(nx l.cps.toList 0 (lit "say ")=true/\J.map (·.2)=[]):=λz=>c2 (VT z.2);refine⟨⟨_,_,rfl,hr.lja⟩,?_⟩;walk_at"rp";refine⟨_,.inl (SqL.of hr.lsa),?_⟩;rw[hr.lT.len];rw[VF CA]at Bj;refine⟨l,ts.length,rfl,E9,λno=>?_,λk hk a H6 s6 h6=>?_⟩
     ·rw[no]at Bj;exact OobE.same hr.lsm (qn (Fz Bj))
     ·rw[hk]at Bj;walk_at"rp";exact⟨_,(hr.up s6).lja,by rw[WA,VP];lia,us,ts,_,_,rfl,(hr.up s6).row nja nsj njD.symm h6 Bj⟩
   ·have CA:¬(nx l.cps.toList 0 (lit "say ")=true/\J.map (·.2)=[]):=λz=>c z.1;have hr:=h4;refine⟨⟨_,_,rfl,hr.lja⟩,?_⟩;walk_at"rp";refine⟨_,.inl (SqL.of hr.lsa),?_⟩;rw[hr.lT.len];rw[VF CA]at Bj;refine⟨l,ts.length,rfl,E9,λno=>?_,λk hk a H6 s6 h6=>?_⟩
    ·rw[no]at Bj;exact OobE.same hr.lsm (qn (Fz Bj))
    ·rw[hk]at Bj;walk_at"rp";exact⟨_,(hr.up s6).lja,by rw[WA,VP];lia,us,ts,_,_,rfl,(hr.up s6).row nja nsj njD.symm h6 Bj⟩
 ·rintro σ H4 ⟨us,ts,J,lv,rfl,h4⟩;have Bj:=h4.lrun;rw[WA,Sy,zG]at Bj;have Mc:yb ls=if ts=[]\/J.map (·.2)=[]then none else some (ts,J.map (·.2)):=by unfold yb;rw[Bj]
  have G9:=h4.ltl;have Gn:=h4.ljl;rw[WA]at G9 Gn;walk_at"rp";refine⟨zb (by simp),λp5 H5 n5 s5 e5=>?_⟩;have h5:=h4.up s5;walk_at"rp";refine⟨_,_,iU h5.lsa h5.lT,v9 e5,qG h5.lpc,vn,?_⟩;rw[iQ];refine yx (λc=>⟨zb (by simp),vm Ad (qn (by rw[Mc,VB (.inl (V9 c))])) h5.lsm⟩) λc=>?_;refine⟨zb (by simp),λp6 H6 n6 s6 e6=>?_⟩;have h6:=h5.up s6;walk_at"rp";refine⟨_,_,nU (SqL.of h6.lja) h6.lJ,v9 e6,ug _,vn,?_⟩;rw[qg];refine yx (λc2=>⟨zb (by simp),vm Ad (qn (by rw[Mc,VB (.inr (V9 c2))])) h6.lsm⟩) λc2=>?_;have CA:¬(ts=[]\/J.map (·.2)=[]):=λz=>z.elim (λz=>c (VT z)) λz=>c2 (VT z);rw[VF CA]at Mc;obtain⟨vd,xs,hW,hV,hQ⟩:=qy _ _ Mc;walk_at"rp";refine⟨_,.inl (SqL.of h6.lsa),λb H7 s7 hb=>?_⟩;walk_at"rp";refine⟨_,.inl (SqL.of (s7 _ _ h6.lja)),λj H8 s8 hj=>?_⟩;have h8:=(h6.up s7).up s8;have hb8:=(zz s8).sqT hb;refine⟨b,j,vd,rfl,Z8 hb8 h8.lT hj h8.lJ hW (λt ht=>Vz (h8.lpc t ht).1 (by decide)) (by lia) hV,?_⟩;cases vd with
  |bounds=>exact OobE.same h8.lsm hQ
  |row n=>exact BadE.same h8.lsm hQ
  |even=>exact OobE.same h8.lsm hQ
  |ok =>
   intro p H9 s9 hp;have h9:=h8.up s9;exact hQ p b j H9 us J h9.lsm hp ((zz s9).sqT hb8) h9.lT ((zz s9).sqT hj) h9.lJ rfl
def okS(x:Str):Prop:=∀c∈x.cps.toList,small c=true
def NmV(y:Str):Prop:=wy y.cps.toList=true/\okS y
def uH:lit "not "=[110,111,116,32]:=by decide +kernel
def sk:lit "(if "=[40,105,102,32]:=by decide +kernel
def vf:lit "("=[40]:=by decide +kernel
def pd:lit ")"=[41]:=by decide +kernel
def nk:lit " then "=[32,116,104,101,110,32]:=by decide +kernel
def pb:lit " and "=[32,97,110,100,32]:=by decide +kernel
def lW:lit " or "=[32,111,114,32]:=by decide +kernel
def tl(t:Say):List Nat:=t.text.cps.toList
def aN(t:Say):(tl t).length=t.text.length:=zV _
def gl(y:Str):tl (.letter y)=y.cps.toList:=rfl
def ms(t:Say):tl (.neg t)=lit "not "++tl t:=by
 show(("not ":Str)++t.text).cps.toList=_;rw[Ux,UR];rfl
def mr(a b:Say):tl (.bin .imp a b)=lit "(if "++(tl a++(lit " then "++(tl b++lit ")"))):=by
 unfold tl;simp only[Say.text,Ux,UR,Vm]
 rfl
def WL:lit " and "=(" ":Str).cps.toList++(("and":Str).cps.toList++(" ":Str).cps.toList):=by decide +kernel
def or3:lit " or "=(" ":Str).cps.toList++(("or":Str).cps.toList++(" ":Str).cps.toList):=by decide +kernel
def ml(a b:Say):tl (.bin .con a b)=lit "("++(tl a++(lit " and "++(tl b++lit ")"))):=by
 rw[WL];unfold tl;simp only[Say.text,Ux,UR,Vm]
 rfl
def mq(a b:Say):tl (.bin .dis a b)=lit "("++(tl a++(lit " or "++(tl b++lit ")"))):=by
 rw[or3];unfold tl;simp only[Say.text,Ux,UR,Vm]
 rfl
def xh(x y:Str):(x++y).length=x.length+y.length:=yZ x y
def uj:("abcdefghijklmnopqrstuvwxyz":Str).cps.toList.length=26:=by decide +kernel
def alets_len':("abcdefghijklmnopqrstuvwxyz":Str).length=26:=by decide +kernel
def sO:okS ("abcdefghijklmnopqrstuvwxyz":Str):=by unfold okS;decide +kernel
def tf:("qzkxw":Str).length=5:=by decide +kernel
def dF:okS ("qzkxw":Str):=by unfold okS;decide +kernel
def bv:okS ("":Str):=by unfold okS;decide +kernel
def bJ:("x":Str).length=1:=by decide +kernel
def vP{x y:Str}(h1:okS x)(h2:okS y):okS (x++y):=λc h=>by
 rw[Ux,UR]at h;rcases VQ.mp h with z|z
 ·exact h1 c z
 ·exact h2 c z
def pw{x:Str}(h1:okS x)(h:c∈x.cps.toList):okS (⟨#[c]⟩:Str):=λd hd=>by
 rw[show d=c by simpa using hd];exact h1 c h
def wE{x:Str}(h1:okS x)(l u:Option Int):okS (Txt.slice x l u):=λd hc=>by
 unfold Txt.slice at hc;split at hc
 ·exact h1 d hc
 ·have Gr:d∈List.filterMap (λi=>x.cps[i]?) (Builtin.Str.strSliceIndices l u 1 x.length):=by simpa using hc
  obtain⟨i,_,hi⟩:=SR.mp Gr;exact h1 d (by have:=Array.mem_of_getElem? hi;simpa using this)
def yA{x:Str}(h0:0<=j)(h2:j<=x.length):(Txt.slice x none (some j)).length=j.toNat:=by
 rw[UL.mp (slice_closes_toL h0 h2)];have hx:x.cps.toList.length=x.length:=by simp[Str.length]
 show(List.take _ _).toArray.size=_;rw[VO,Vw,V1,hx];lia
def tU{x:Str}(h0:0<=j)(h2:j<=x.length):(Txt.slice x (some j) none).length=x.length-j.toNat:=by
 obtain⟨n,rfl⟩:=Int.eq_ofNat_of_zero_le h0;rw[xn];show(List.drop _ _).toArray.size=_;rw[VO,V1,zV]
 rfl
def dH:∀y∈wordsL,NmV (("x":Str)++y):=by
 have h:∀y∈wordsL,wy (("x":Str)++y).cps.toList=true/\∀c∈(("x":Str)++y).cps.toList,small c=true:=by decide +kernel
 exact h
def gT:Sp:=λvs H Q _=>∃x:Str,vs=[.str x]/\1<=x.length/\x.length<=6/\okS x/\∀(y:Str)(H':Hp),Same H H'->NmV y->Q (.str y) H'
def kf(K:Nl):Sp:=λvs H Q _=>∃(a:Addr)(ns:Nj)(k m:Int),vs=[.ref a,.int k,.int m]/\SqL K H a (ns.map V.int)/\ns.length<=5000/\0<=k/\k<=1000/\1<=m/\m<=5 /\
 ∀(p:Addr)(H':Hp)(xs:GM),H p=none->Same H H'->H' p=some (.lst (xs.map V.str))->(xs.length:Int)=m->(∀x∈xs,NmV x)->Q (.ref p) H'
def gp{C:Str->Hp->Prop}{G:Prop}{B:Str->Hp->Prop}(h:(∀w Ho,C w Ho->B w Ho)->G)(hr:∀w Ho,C w Ho->B w Ho):G:=h hr
def bQ(hx:∀x∈xs,x.length<=5/\okS x){k:Int}(h0:0<=k)(h:k<(xs.length:Int)):∃x:Str,atI (xs.map V.str) k=some (.str x)/\x.length<=5/\okS x:=by
 obtain⟨v,hv,e⟩:=sS (xs:=xs.map V.str) h0 (by rw[WA];exact h);obtain⟨x,HH,rfl⟩:=VC.mp hv;exact⟨x,e,hx x HH⟩
def wds:List Str:=[("no":Str),("an":Str),("o":Str),("i":Str),("the":Str),("sa":Str),("judg":Str),("nd":Str),("ot":Str),("f":Str)]
def aQ:∀x∈wds,x.length<=5/\okS x:=by unfold okS;decide +kernel
def fF(D:Def K mg "_law_names" (top 44) ["_law_script","_law_k","_law_many"])(Ac:zq P w K mg base 2 "_law_pick" ["_law_script","_law_k","_law_many"] (wR K))(Az:zq P w K mg base 1 "_law_safe" ["_law_name"] gT)(Ab:mg "len"=none)(Aj:mg "range"=none):zq P w K mg base 3 "_law_names" ["_law_script","_law_k","_law_many"] (kf K):=by
 refine D.callee (N:=["_law_script","_law_k","_law_many","_law_letters","_law_word","_law_j","_law_first","_law_at"]) ?_ ?_ ?_;walk_at"go";obtain⟨a,ns,k,m,rfl,hS,Bx,h0,hk,hm,hm5,q⟩:=h;refine⟨[some (.ref a),some (.int k),some (.int m),none,none,none,none,none],_,rfl,(@z6 _ _ _ _ _ (@zh _ 3 _ _ _ _ _ nd zy (by rfl) (by first|exact Or.inl rfl|exact Or.inr rfl) (by rfl) (by first|exact .inl rfl|exact .inr rfl))
  (@z6 _ _ _ _ _ (@zh _ 4 _ _ _ _ _ nd zy (by rfl) (by first|exact Or.inl rfl|exact Or.inr rfl) (by rfl) (by first|exact .inl rfl|exact .inr rfl))
  (@z6 _ _ _ _ _ (xq Vt rfl (yQ rfl Aj (z9 (zn Ac hr (z9 (z8 0) (z9 (z8 1) (z9 z5 z7)))) z7)) (xt 5 nd) (@z4 _ _ _ (@zh _ 4 _ _ _ _ _ nd (zu zk (z8 4) (zQ (z8 3) (zn Ac hr (z9 (z8 0) (z9 (zu zk (zu zk (z8 1) (zu xU z5 (z8 5))) z5) (z9 z5 z7)))))) (by rfl) (by first|exact Or.inl rfl|exact Or.inr rfl) (by rfl) (by first|exact .inl rfl|exact .inr rfl))))
  (@z6 _ _ _ _ _ (zf (zo (yt hr.units) (zn Ac hr (z9 (z8 0) (z9 (zu zk (z8 1) z5) (z9 z5 z7)))) z5 (zp _)) (@z4 _ _ _ (@zh _ 4 _ _ _ _ _ nd (zQ (zP (z9 zy (z9 zy (z9 zy (z9 zy (z9 zy (z9 zy (z9 zy (z9 zy (z9 zy (z9 zy z7))))))))))) (zn Ac hr (z9 (z8 0) (z9 (zu zk (z8 1) z5) (z9 z5 z7))))) (by rfl) (by first|exact Or.inl rfl|exact Or.inr rfl) (by rfl) (by first|exact .inl rfl|exact .inr rfl))) zt)
  (@z6 _ _ _ _ _ (@zh _ 6 _ _ _ _ _ nd (zn Ac hr (z9 (z8 0) (z9 (zu zk (z8 1) z5) (z9 z5 z7)))) (by rfl) (by first|exact Or.inl rfl|exact Or.inr rfl) (by rfl) (by first|exact .inl rfl|exact .inr rfl))
  (@z6 _ _ _ _ _ (zf (zo (yt hr.units) (zn Ac hr (z9 (z8 0) (z9 (zu zk (z8 1) z5) (z9 z5 z7)))) z5 (zp _)) (@z6 _ _ _ _ _ (@zh _ 4 _ _ _ _ _ nd (zX (zu zk (zu zk (z8 4) (zQ (z8 3) (z8 6))) zy) zM (za z5)) (by rfl) (by first|exact Or.inl rfl|exact Or.inr rfl) (by rfl) (by first|exact .inl rfl|exact .inr rfl))
  (@z4 _ _ _ (zr (yd (ixs:=[4]) (zU (own:=["_law_j"]) (N:=["_law_word"]) rfl) rfl (yQ rfl Aj (z9 (z8 2) z7)) (λ_ _ _ _=>zD) (λ_ _ _ _=>(zn Az hr (z9 (zX (z8 1) zM (za (zu zk (z8 0) z5))) z7))) rfl)))) zt)
  (@z6 _ _ _ _ _ (@zh _ 7 _ _ _ _ _ nd (zn Ac hr (z9 (z8 0) (z9 (zu zk (z8 1) z5) (z9 (zu zk (zw zR rfl Ab zZ (z9 (z8 4) z7)) z5) z7)))) (by rfl) (by first|exact Or.inl rfl|exact Or.inr rfl) (by rfl) (by first|exact .inl rfl|exact .inr rfl))
  (@z4 _ _ _ (zr (yd (ixs:=[4,7,3,6]) (zU (own:=["_law_j"]) (N:=["_law_word","_law_at","_law_letters","_law_first"]) rfl) rfl (yQ rfl Aj (z9 (z8 2) z7)) (λ_ _ _ _=>zD) (λ_ _ _ _=>(zn Az hr (z9 (zu zk (zu zk (zX (z8 1) zM (za (z8 2))) (zQ (z8 3) (zu xE (zu zk (z8 4) (zu xU z5 (z8 0))) z5))) (zX (z8 1) (za (z8 2)) zM)) z7))) rfl)))))))))),?_⟩
 simp only[o4];walk_at"rs";simp only[o4];walk_at"rs";simp only[o4];walk_at"rs";refine⟨a,ns,k,6,rfl,hS,Bx,h0,by lia,by decide,λr r0 r6=>?_⟩;walk_at"rs";refine⟨⟨by lia,by lia⟩,?_⟩;refine we (λi σ H'=>∃(word:Str)(jv:Option V),σ=[some (.ref a),some (.int k),some (.int m),some (.str "abcdefghijklmnopqrstuvwxyz"),some (.str word),jv,none,none]/\H'=H/\word.length=i/\i<=5/\okS word) ⟨_,none,rfl,rfl,rfl,by decide,bv⟩ ?_ ?_
 ·rintro i σ H' hi ⟨word,jv,rfl,rfl,hw,hi5,hok⟩;walk_at"rp";refine⟨cm (by lia),a,ns,_,26,rfl,hS,Bx,by lia,by lia,by decide,λr' r0' r21=>?_⟩;walk_at"rp";obtain⟨c,hc,ec⟩:=sS (xs:=("abcdefghijklmnopqrstuvwxyz":Str).cps.toList) r0' (by rw[uj];exact r21);refine⟨by rw[alets_len'];exact zb (by decide),c,ec,?_,?_⟩
  ·show word.length+1<=sizeLine;exact zb (by lia)
  ·refine⟨_,_,rfl,trivial,?_,by lia,vP hok (pw sO hc)⟩;rw[xh,hw]
   rfl
 ·rintro σ H' ⟨word,jv,rfl,rfl,hw,hw5,hok⟩;simp only[o4];refine gp (C:=λw Ho=>w.length<=5/\okS w/\Same H' Ho) (B:=?B) (λrest=>?h) ?hr
  case h =>
   walk_at"rs";refine⟨a,ns,k+2,3,rfl,hS,Bx,by lia,by lia,by decide,λw3 _ _=>?_⟩;walk_at"rs";refine yx (λc=>?_) (λc=>?_)
   ·walk_at"rs";refine⟨zb (by simp),λp H1 n1 s1 e1=>?_⟩;refine⟨a,ns,k+1,10,rfl,s1.seq hS,Bx,by lia,by lia,by decide,λj j0 j10=>?_⟩;walk_at"rs";obtain⟨x,ex,HH,LY⟩:=bQ (xs:=wds) aQ j0 j10;refine⟨_,_,.inl (SqL.of e1),ex,?_⟩;exact rest x H1 ⟨HH,LY,s1⟩
   ·exact rest word H' ⟨by lia,hok,Same.refl _⟩
  rintro word Ho ⟨hw5,hok,so⟩;walk_at"rp";have K0:=so.seq hS;refine⟨a,ns,k+3,26,rfl,K0,Bx,by lia,by lia,by decide,λfirst f0 f21=>?_⟩;walk_at"rp";refine⟨a,ns,k+4,3,rfl,K0,Bx,by lia,by lia,by decide,λw3 _ _=>?_⟩;walk_at"rp";refine yx (λc=>?_) (λc=>?_)
  ·obtain⟨cc,hcc,ec⟩:=sS (xs:=("abcdefghijklmnopqrstuvwxyz":Str).cps.toList) f0 (by rw[uj];exact f21);refine⟨by rw[alets_len'];exact zb (by decide),cc,ec,?_⟩;have l1:(word++(⟨#[cc]⟩:Str)).length<=6:=by
    rw[xh];show word.length+1<=6;lia
   refine⟨zb (by show word.length+1<=1000;lia),zb (by rw[tf];lia),zb (by rw[xh,tf];lia),⟨by lia,by lia⟩,?_⟩;have l2:(Txt.slice (word++{ cps:=#[cc] }++("qzkxw":Str)) none (some 6)).length=6:=by
    have hz:((word++(⟨#[cc]⟩:Str))++("qzkxw":Str)).length=word.length+1+5:=by rw[xh,xh,tf];rfl
    exact(yA (by decide) (by rw[hz];lia)).trans rfl
   have o2:okS (Txt.slice (word++{ cps:=#[cc] }++("qzkxw":Str)) none (some 6)):=wE (vP (vP hok (pw sO hcc)) dF) _ _;generalize Txt.slice (word++{ cps:=#[cc] }++("qzkxw":Str)) none (some 6)=word' at l2 o2;intro C s₀ H₀ ex;refine yD (λD i ys H1=>∃xs:List Str,ys=xs.map V.str/\xs.length=i/\(∀x∈xs,NmV x)/\H1 D=some (.lst ys)/\Same Ho H1/\Ho D=none) (zb (by lia)) ?_ ?_ ?_ ?_
   ·intro D H2 n s2 e2;exact⟨[],rfl,rfl,(by simp),e2,s2,n⟩
   ·rintro D i ys H1 ⟨xs,rfl,hl,_,e,_⟩;exact⟨e,by simpa using hl⟩
   ·rintro D i ys H1 hi ⟨xs,rfl,hl,hx,e,s1,n1⟩;walk_at"rp";have b1:=yA (x:=word') (j:=0+(i:Int)+1) (by lia) (by lia);refine⟨zb (by lia),_,rfl,by lia,by lia,wE o2 _ _,λy H2 s2 hy=>⟨s2 _ _ e,CN.mk hi ⟨xs++[y],(by rw[VL];rfl),(by rw[VU,hl];rfl),λx G8=>?_,zv,zi (s1.trans s2) n1 _,n1⟩⟩⟩;rcases VQ.mp G8 with z|z
    ·exact hx x z
    ·rw[VX.mp z];exact hy
   ·rintro D ys H1 ⟨xs,rfl,hl,hx,e,s1,n1⟩;exact q D H1 xs (zW so n1) (so.trans s1) e (by rw[hl];lia) hx
  ·refine⟨zb (by lia),a,ns,k+5,_,rfl,K0,Bx,by lia,by lia,by lia,λat_ t0 tl=>?_⟩;walk_at"rp";refine⟨⟨by lia,by lia⟩,?_⟩;intro C s₀ H₀ ex;refine yD (λD i ys H1=>∃xs:List Str,ys=xs.map V.str/\xs.length=i/\(∀x∈xs,NmV x)/\H1 D=some (.lst ys)/\Same Ho H1/\Ho D=none) (zb (by lia)) ?_ ?_ ?_ ?_
   ·intro D H2 n s2 e2;exact⟨[],rfl,rfl,(by simp),e2,s2,n⟩
   ·rintro D i ys H1 ⟨xs,rfl,hl,_,e,_⟩;exact⟨e,by simpa using hl⟩
   ·rintro D i ys H1 hi ⟨xs,rfl,hl,hx,e,s1,n1⟩;walk_at"rp";obtain⟨c2,Ic,ec⟩:=sS (xs:=("abcdefghijklmnopqrstuvwxyz":Str).cps.toList) (k:=(first+5*(0+(i:Int))) % 26) (Tn _ (by decide)) (by rw[uj];exact TW _ (by decide));have b1:=yA (x:=word) (j:=at_) t0 (by lia);have b2:=tU (x:=word) (j:=at_) t0 (by lia);have Gm:(⟨#[c2]⟩:Str).length=1:=rfl;have b3:(Txt.slice word none (some at_)++(⟨#[c2]⟩:Str)).length<=6:=by
     rw[xh];show(Txt.slice word none (some at_)).length+1<=6;lia
    refine⟨zb (by lia),cm (by lia),(by decide),(by rw[alets_len'];exact zb (by decide)),c2,ec,zb (by show(Txt.slice word none (some at_)).length+1<=1000;lia),zb (by lia),zb (by lia),_,rfl,by rw[xh,xh,Gm];lia,by rw[xh,xh,Gm];lia,vP (vP (wE hok _ _) (pw sO Ic)) (wE hok _ _),λy H2 s2 hy=>⟨s2 _ _ e,
     CN.mk hi ⟨xs++[y],(by rw[VL];rfl),(by rw[VU,hl];rfl),λx G8=>?_,zv,zi (s1.trans s2) n1 _,n1⟩⟩⟩
    rcases VQ.mp G8 with z|z
    ·exact hx x z
    ·rw[VX.mp z];exact hy
   ·rintro D ys H1 ⟨xs,rfl,hl,hx,e,s1,n1⟩;exact q D H1 xs (zW so n1) (so.trans s1) e (by rw[hl];lia) hx
def qM:Sp:=λvs H Q _=>∃(k j:Int),vs=[.int k,.int j]/\0<=k/\k<=100000/\0<=j/\j<=100/\∀r:Int,0<=r->r<9973->Q (.int r) H
def fD(D:Def K mg "_law_next" (top 42) ["_law_k","_law_j"]):zq P w K mg base 1 "_law_next" ["_law_k","_law_j"] qM:=by
 refine D.callee (N:=["_law_k","_law_j"]) ?_ ?_ ?_;walk_at"go";obtain⟨k,j,rfl,h0,hk,hj0,hj,q⟩:=h;refine⟨[some (.int k),some (.int j)],_,rfl,(z4 (zr (zu xE (zu zk (zu zk (zu xU (z8 0) z5) (zu xU (z8 1) z5)) z5) z5))),?_⟩;walk_at"rp";exact⟨cm (by lia),cm (by lia),by decide,q _ (Tn _ (by decide)) (TW _ (by decide))⟩
def vV(K:Nl)(n:Nat):Sp:=λvs H Q _=>∃(a:Addr)(ns:Nj)(k m:Int)(b:Addr)(xs:GM),vs=[.ref a,.int k,.int m,.ref b]/\SqL K H a (ns.map V.int)/\ns.length<=5000/\0<=k/\k<=10000/\1<=m/\m<=n /\
 (SqL K H b (xs.map V.str)\/SqT K H b (xs.map V.str))/\0<xs.length/\xs.length<=100/\∀(v:V)(H':Hp)(s:Say),Same H H'->SayAt K H' v s->(s.pieces:Int)<=m->(∀x∈s.letters,x∈xs)->Q v H'
def gG{xs:N1}(s:Same H H')(h:SqL K H b xs\/SqT K H b xs):SqL K H' b xs\/SqT K H' b xs:=h.imp s.seq (zz s).sqT
def bP{k:Int}(h0:0<=k)(h:k<(xs.length:Int)):∃x:Str,x∈xs/\atI (xs.map V.str) k=some (.str x):=by
 obtain⟨v,hv,e⟩:=sS (xs:=xs.map V.str) h0 (by rw[WA];exact h);obtain⟨x,hx,rfl⟩:=VC.mp hv;exact⟨x,hx,e⟩
theorem rE(D:Def K mg "_law_saying" (top 45) ["_law_script","_law_k","_law_room","_law_names_here"])(Ac:zq P w K mg base 2 "_law_pick" ["_law_script","_law_k","_law_many"] (wR K))(Bm:zq P w K mg base 1 "_law_next" ["_law_k","_law_j"] qM)(Ab:mg "len"=none):
  ∀n:Nat,zq P w K mg base (n+3) "_law_saying" ["_law_script","_law_k","_law_room","_law_names_here"] (vV K n)
 |0=>nE (zB D λvs H Q E h=>by
  obtain⟨a,ns,k,m,b,xs,_,_,_,_,_,h1,h2,_⟩:=h;lia) (V5 _)
 |n+1=>by
  have Ay:=rE D Ac Bm Ab n;refine D.callee (N:=["_law_script","_law_k","_law_room","_law_names_here","_law_way","_law_left","_law_one","_law_other"]) ?_ ?_ ?_;walk_at"go";obtain⟨a,ns,k,m,b,xs,rfl,hS,Bx,h0,hk,hm1,hm,hb,hx0,hx,q⟩:=h;refine⟨[some (.ref a),some (.int k),some (.int m),some (.ref b),none,none,none,none],_,rfl,(z6 (zh 4 nd (zn Ac hr (z9 (z8 0) (z9 (z8 1) (z9 z5 z7)))))
  (z6 (zf (PW.pt (yR (zo vh (z8 2) z5 (zp _)) (yS (zo (yt hr.units) (z8 4) z5 (zp _))))) (z4 (zr (xF (z9 zy (z9 (zQ (z8 3) (zn Ac hr (z9 (z8 0) (z9 (zu zk (z8 1) z5) (z9 (zw zR rfl Ab zZ (z9 (z8 3) z7)) z7))))) z7))))) zt)
  (z6 (zf (PW.pt (yR (zo (yt hr.units) (z8 2) z5 (zp _)) (yS (zo (yt hr.units) (z8 4) z5 (zp _))))) (z4 (zr (xF (z9 zy (z9 (zn Ay hr (z9 (z8 0) (z9 (zn Bm hr (z9 (z8 1) (z9 z5 z7))) (z9 (zu vv (z8 2) z5) (z9 (z8 3) z7))))) z7))))) zt)
  (z6 (zh 5 nd (zu zk z5 (zn Ac hr (z9 (z8 0) (z9 (zu zk (z8 1) z5) (z9 (zu vv (z8 2) z5) z7))))))
  (z6 (zh 6 nd (zn Ay hr (z9 (z8 0) (z9 (zn Bm hr (z9 (z8 1) (z9 z5 z7))) (z9 (z8 5) (z9 (z8 3) z7))))))
  (z6 (zh 7 nd (zn Ay hr (z9 (z8 0) (z9 (zn Bm hr (z9 (z8 1) (z9 z5 z7))) (z9 (zu vv (zu vv (z8 2) z5) (z8 5)) (z9 (z8 3) z7))))))
  (z4 (zr (xF (z9 (zQ (zP (z9 zy (z9 zy (z9 zy z7)))) (zn Ac hr (z9 (z8 0) (z9 (zu zk (z8 1) z5) (z9 z5 z7))))) (z9 (z8 6) (z9 (z8 7) z7)))))))))))),?_⟩
  walk_at"rp";refine⟨a,ns,k,9,rfl,hS,Bx,h0,by lia,by decide,λway _ _=>?_⟩;walk_at"rp";have letter:∃ys,(SqL K H b ys\/SqT K H b ys)/\wR K [V.ref a,V.int (k+1),V.int (ys.length:Int)] H (λy H2=>match V.ref b,y with
    |V.str z,V.int i=>z.length<=sizeLine/\∃c,atI z.cps.toList i=some c/\[V.str ("letter":Str),V.str { cps:=#[c] }].length<=sizeLine/\New H2 (HO.tup [V.str ("letter":Str),V.str { cps:=#[c] }]) Q
    |V.ref p,V.int i=>∃xs v,(SqL K H2 p xs\/SqT K H2 p xs)/\atI xs i=some v/\[V.str ("letter":Str),v].length<=sizeLine/\New H2 (HO.tup [V.str ("letter":Str),v]) Q
    |x,x_1=>False) E0:=by
   refine⟨_,hb,a,ns,k+1,_,rfl,hS,Bx,by lia,by lia,by rw[WA];lia,λr r0 r1=>?_⟩;rw[WA]at r1;obtain⟨x,HH,ex⟩:=bP (xs:=xs) r0 r1;refine⟨_,_,hb,ex,zb (by simp),λp H' n1 s1 e1=>?_⟩;refine q _ H' (.letter x) s1 ⟨p,rfl,SqT.of e1⟩ (by show((1:Nat):Int)<=m;lia) λy hy=>?_;rw[VX.mp hy];exact HH
  have neg:2<=m->qM [V.int k,V.int 0] H (λx H1=>vV K n [V.ref a,x,V.int (m-1),V.ref b] H1 (λx H1=>[V.str ("not":Str),x].length<=sizeLine/\New H1 (HO.tup [V.str ("not":Str),x]) Q) E0) E0:=by
   intro hm2;refine⟨k,0,rfl,h0,by lia,by decide,by decide,λr r0 r1=>?_⟩;refine⟨a,ns,r,m-1,b,xs,rfl,hS,Bx,r0,by lia,by lia,by lia,hb,hx0,hx,λv H' s s1 sv pc lt=>?_⟩;refine⟨zb (by simp),λp H2 n2 s2 e2=>?_⟩;exact q _ H2 (.neg s) (s1.trans s2) ⟨p,v,rfl,SqT.of e2,sv.mono (zz s2)⟩ (by show((s.pieces+1:Nat):Int)<=m;lia) lt
  refine yx (λ_=>letter) (λc1=>?_);refine yx (λ_=>letter) (λc2=>?_);have hm2:2<=m:=by
   have:¬m<2:=λz=>c1 (VT z);lia
  refine yx (λ_=>neg hm2) (λc3=>?_);refine yx (λ_=>neg hm2) (λc4=>?_);have hm3:3<=m:=by
   have:¬m=2:=λz=>c3 (VT z);lia
  refine⟨a,ns,k+1,m-2,rfl,hS,Bx,by lia,by lia,by lia,λl l0 l1=>?_⟩;walk_at"rp";refine⟨k,1,rfl,h0,by lia,by decide,by decide,λr r0 r1=>?_⟩;refine⟨a,ns,r,1+l,b,xs,rfl,hS,Bx,r0,by lia,by lia,by lia,hb,hx0,hx,λv H1 t s1 sv pc lt=>?_⟩;refine⟨k,2,rfl,h0,by lia,by decide,by decide,λr' r0' r1'=>?_⟩;refine⟨a,ns,r',m-1-(1+l),b,xs,rfl,s1.seq hS,Bx,r0',by lia,by lia,by lia,gG s1 hb,hx0,hx,λv' H2 t' s2 sv' pc' lt'=>?_⟩;refine⟨zb (by simp),λp H3 n3 s3 e3=>?_⟩;refine⟨a,ns,k+2,3,rfl,(s1.trans (s2.trans s3)).seq hS,Bx,by lia,by lia,by decide,λo o0 o3=>?_⟩;walk_at"rp";have A9:∀(op:Op2),New H3 (HO.tup [V.str op.word,v,v']) Q:=λop p4 H4 n4 s4 e4=>by
   refine q _ H4 (.bin op t t') (s1.trans (s2.trans (s3.trans s4))) ⟨p4,v,v',rfl,SqT.of e4,sv.mono (zz (s2.trans (s3.trans s4))),sv'.mono (zz (s3.trans s4))⟩ ?_ λx hx=>?_
   ·show((t.pieces+t'.pieces+1:Nat):Int)<=m;lia
   ·rcases VQ.mp hx with z|z
    ·exact lt x z
    ·exact lt' x z
  have o':o=0\/o=1\/o=2:=by lia
  rcases o' with rfl|rfl|rfl
  ·exact⟨_,_,.inl (SqL.of e3),rfl,zb (by simp),A9 .con⟩
  ·exact⟨_,_,.inl (SqL.of e3),rfl,zb (by simp),A9 .dis⟩
  ·exact⟨_,_,.inl (SqL.of e3),rfl,zb (by simp),A9 .imp⟩
def qO(K:Nl)(n:Nat):Sp:=λvs H Q _=>∃(v:V)(h:Addr)(s:Say)(hs:GM),vs=[v,.ref h]/\SayAt K H v s/\s.pieces<=n/\SqT K H h (hs.map V.str)/\∀H',Same H H'->Q (.bl (s.so hs)) H'
theorem oE(D:Def K mg "_law_so" (top 46) ["_law_saying_here","_law_held_here"])(BO:mg "min"=none)(BP:mg "max"=none):∀n:Nat,zq P w K mg base n "_law_so" ["_law_saying_here","_law_held_here"] (qO K n)
 |0=>zB D λvs H Q E h=>by
  obtain⟨v,h,s,hs,_,_,hp,_⟩:=h;exact absurd s.pieces_pos (by lia)
 |n+1=>by
  have DQ:=oE D BO BP n;refine D.callee (N:=["_law_saying_here","_law_held_here","_law_truths"]) ?_ ?_ ?_;walk_at"go";obtain⟨v,h,s,hs,rfl,hv,hp,hh,q⟩:=h;refine⟨[some v,some (.ref h),none],_,rfl,(z6 (zf (zo (yt hr.units) (zQ (z8 0) z5) zy (zp _)) (z4 (zr (yH bt (zQ (z8 0) z5) (z8 1) (by with_unfolding_all rfl)))) zt)
  (z6 (xk 2 nd (ixs:=[1]) (zU (own:=["_law_part"]) (N:=["_law_held_here"]) rfl) rfl (zA (zX (z8 0) (za z5) zM)) (λ_ _ _ _=>zD) (λ_ _ _ _=>(zn DQ hr (z9 (z8 0) (z9 (z8 1) z7)))) rfl)
  (z6 (zf (zo (yt hr.units) (zQ (z8 0) z5) zy (zp _)) (z4 (zr (j8 (zQ (z8 2) z5)))) zt)
  (z6 (zf (zo (yt hr.units) (zQ (z8 0) z5) zy (zp _)) (z4 (zr (zw (aq rfl) rfl BO dX (z9 (z8 2) z7)))) zt)
  (z6 (zf (zo (yt hr.units) (zQ (z8 0) z5) zy (zp _)) (z4 (zr (zw (ao rfl) rfl BP dW (z9 (z8 2) z7)))) zt)
  (z4 (zr (yH Wb (zQ (z8 2) z5) (zQ (z8 2) z5) (zp _))))))))),?_⟩
  have F8:∀{te:TE}{p:Addr}{H1:Hp}{us:List V}{ts:List Say}{Q':VK},(∀v H Q,te [some v,some (.ref h)] H Q=qO K n [v,.ref h] H Q E0)->Same H H1->SqT K H1 p us->us.length=ts.length->us.length<=10->(∀(i:Nat) u,us[i]?=some u->∃t,ts[i]?=some t/\SayAt K H1 u t/\t.pieces<=n) ->
    (∀D H2,Same H H2->H2 D=some (.lst ((ts.map λt=>t.so hs).map V.bl))->Q' (.ref D) H2)->xp 1 (mG 0) wT te [some (.ref h)] (Itt K p) Q' H1:=by
   intro te p H1 us ts Q' hte s1 ES hl hl10 hu q';refine xH (xs:=us) (λD i ys H'=>ys=((ts.take i).map λt=>t.so hs).map V.bl/\i<=us.length/\H' D=some (.lst ys)/\Same H1 H'/\H1 D=none) (zb (by lia)) ?_ ?_ ?_ ?_
   ·intro D H2 nn s2 e2;exact⟨rfl,V5 _,e2,s2,nn⟩
   ·rintro D i ys H' ⟨rfl,hi,e,s2,_⟩;exact⟨(zz s2).sqT ES,e,by simp;lia⟩
   ·rintro D i v ys H' hv ⟨rfl,hi,e,s2,n2⟩;obtain⟨t,ht,sv,pc⟩:=hu i v hv;rw[hte];refine⟨v,h,t,hs,rfl,sv.mono (zz s2),pc,(zz (s1.trans s2)).sqT hh,λH3 s3=>⟨s3 _ _ e,CN.mk ?_ ⟨?_,?_,zv,zi (s2.trans s3) n2 _,n2⟩⟩⟩
    ·exact(VY.mp hv).1
    ·rw[V7,ht];simp
    ·exact(VY.mp hv).1
   ·rintro D ys H' ⟨rfl,hi,e,s2,n2⟩;rw[hl,V4]at e;exact q' D H' (s1.trans s2) e
  cases s with
  |letter x =>
   obtain⟨a,rfl,ha⟩:=hv;walk_at"rp";refine⟨_,_,.inr ha,rfl,?_⟩;walk_at"rp";refine⟨_,_,.inr ha,rfl,?_⟩;refine⟨_,.inr hh,rfl,nA hs,?_⟩;rw[uC];exact q H (Same.refl H)
  |neg t =>
   obtain⟨a,u,rfl,ha,ht⟩:=hv;walk_at"rp";refine⟨_,_,.inr ha,rfl,?_⟩;walk_at"rp";refine .inr ⟨_,ha,λp H1 s1 h1=>.inr ⟨⟨_,h1⟩,λC s₀ H₀ ex=>?_⟩⟩;refine F8 (us:=[u]) (ts:=[t]) (λ_ _ _=>rfl) s1 h1 rfl (by simp) (λi x hx=>?_) λD H2 s2 e2=>?_
   ·match i,hx with
    |0,hx =>
     cases hx;exact⟨t,rfl,ht.mono (zz s1),by have:=hp;simp only[Say.pieces]at this;lia⟩
    |i+1,hx=>simp at hx
   ·have EK:=(zz s2).sqT ha;refine⟨_,_,.inr EK,rfl,?_⟩;walk_at"rp";refine⟨_,_,.inl (SqL.of e2),rfl,?_⟩;exact q H2 s2
  |bin o t t' =>
   obtain⟨a,u,u',rfl,ha,ht,Fw⟩:=hv;have p1:t.pieces<=n/\t'.pieces<=n:=by have:=hp;simp only[Say.pieces]at this;lia
   have hu:∀{H1:Hp},Same H H1->∀(i:Nat) x,[u,u'][i]?=some x->∃r,[t,t'][i]?=some r/\SayAt K H1 x r/\r.pieces<=n:=λs1 i x hx=>by
    match i,hx with
    |0,hx =>
     cases hx;exact⟨t,rfl,ht.mono (zz s1),p1.1⟩
    |1,hx =>
     cases hx;exact⟨t',rfl,Fw.mono (zz s1),p1.2⟩
    |i+2,hx=>simp at hx
   cases o with
   |con =>
    dsimp only[Op2.word]at ha;walk_at"rp";refine⟨_,_,.inr ha,rfl,?_⟩;walk_at"rp";refine .inr ⟨_,ha,λp H1 s1 h1=>.inr ⟨⟨_,h1⟩,λC s₀ H₀ ex=>?_⟩⟩;refine F8 (us:=[u,u']) (ts:=[t,t']) (λ_ _ _=>rfl) s1 h1 rfl (by simp) (hu s1) λD H2 s2 e2=>?_;have EK:=(zz s2).sqT ha;refine⟨_,_,.inr EK,rfl,?_⟩;walk_at"rp";refine⟨_,_,.inr EK,rfl,?_⟩;walk_at"rp";refine⟨_,SqL.of e2,by simp,?_⟩;have:=q H2 s2;simpa[Say.so,Op2.so]using this
   |dis =>
    dsimp only[Op2.word]at ha;walk_at"rp";refine⟨_,_,.inr ha,rfl,?_⟩;walk_at"rp";refine .inr ⟨_,ha,λp H1 s1 h1=>.inr ⟨⟨_,h1⟩,λC s₀ H₀ ex=>?_⟩⟩;refine F8 (us:=[u,u']) (ts:=[t,t']) (λ_ _ _=>rfl) s1 h1 rfl (by simp) (hu s1) λD H2 s2 e2=>?_;have EK:=(zz s2).sqT ha;refine⟨_,_,.inr EK,rfl,?_⟩;walk_at"rp";refine⟨_,_,.inr EK,rfl,?_⟩;walk_at"rp";refine⟨_,_,.inr EK,rfl,?_⟩;walk_at"rp";refine⟨_,SqL.of e2,by simp,?_⟩;have:=q H2 s2;simpa[Say.so,Op2.so]using this
   |imp =>
    dsimp only[Op2.word]at ha;walk_at"rp";refine⟨_,_,.inr ha,rfl,?_⟩;walk_at"rp";refine .inr ⟨_,ha,λp H1 s1 h1=>.inr ⟨⟨_,h1⟩,λC s₀ H₀ ex=>?_⟩⟩;refine F8 (us:=[u,u']) (ts:=[t,t']) (λ_ _ _=>rfl) s1 h1 rfl (by simp) (hu s1) λD H2 s2 e2=>?_;have EK:=(zz s2).sqT ha;refine⟨_,_,.inr EK,rfl,?_⟩;walk_at"rp";refine⟨_,_,.inr EK,rfl,?_⟩;walk_at"rp";refine⟨_,_,.inr EK,rfl,?_⟩;walk_at"rp";refine⟨_,_,.inl (SqL.of e2),rfl,?_⟩;refine⟨_,_,.inl (SqL.of e2),rfl,?_⟩;exact q H2 s2
def gQ(K:Nl):Sp:=λvs H Q _=>∃(n:Int)(b:Addr)(xs:GM),vs=[.int n,.ref b]/\(SqL K H b (xs.map V.str)\/SqT K H b (xs.map V.str))/\xs.length<=100/\∀(r:Addr)(H':Hp),Same H H'->SqT K H' r ((zO n xs).map V.str)->Q (.ref r) H'
def b8(D:Def K mg "_law_held" (top 47) ["_law_number","_law_names_here"])(Ae:mg "tuple"=none):zq P w K mg base 1 "_law_held" ["_law_number","_law_names_here"] (gQ K):=by
 refine D.callee (N:=["_law_number","_law_names_here","_law_held_here","_law_name"]) ?_ ?_ ?_;walk_at"go";obtain⟨n,b,xs,rfl,hb,hx,q⟩:=h;refine⟨[some (.int n),some (.ref b),none,none],_,rfl,(z6 (zh 2 nd (zP z7))
  (z6 (xq Vt rfl (zA (z8 1)) (xt 3 nd) (z6 (zf (zo (yt hr.units) (zu xE (z8 0) z5) z5 (zp _)) (z4 (zE (uT UK UJ su (z8 2) (z9 (z8 3) z7)))) zt)
  (z4 (zh 0 nd (zu lf (z8 0) z5)))))
  (z4 (zr (zJ yN rfl Ae yo (z9 (z8 2) z7)))))),?_⟩
 walk_at"rp";refine⟨zb (by simp),λp H1 n1 s1 e1=>?_⟩;have Ar:(xs.map V.str).length=xs.length:=WA _;have LV:∃(m:Int)(Aw:List Str)(nv:Option V),([some (V.int n),some (V.ref b),some (V.ref p),none]:List (Option V))=[some (.int m),some (.ref b),some (.ref p),nv]/\Aw++zO m (xs.drop 0)=zO n xs/\H1 p=some (.lst (Aw.map V.str))/\Same H H1/\Aw.length<=0 :=
  ⟨n,[],none,rfl,rfl,e1,s1,VW _⟩
 have A9:∀(σ:L2.St)(H2:Hp),(∃(m:Int)(Aw:List Str)(nv:Option V),σ=[some (.int m),some (.ref b),some (.ref p),nv]/\Aw++zO m (xs.drop (xs.map V.str).length)=zO n xs/\H2 p=some (.lst (Aw.map V.str))/\Same H H2/\Aw.length<=(xs.map V.str).length) ->
   H2 p=some (.lst ((zO n xs).map V.str))/\Same H H2/\gv σ 2=some (.ref p):=by
  rintro σ H2 ⟨m,Aw,nv,rfl,e,ep,s2,_⟩;rw[Ar,Sy]at e;have e':Aw=zO n xs:=by simpa[zO]using e
  rw[<-e'];exact⟨ep,s2,rfl⟩
 have LQ:∀(σ:L2.St)(H2:Hp),(∃(m:Int)(Aw:List Str)(nv:Option V),σ=[some (.int m),some (.ref b),some (.ref p),nv]/\Aw++zO m (xs.drop (xs.map V.str).length)=zO n xs/\H2 p=some (.lst (Aw.map V.str))/\Same H H2/\Aw.length<=(xs.map V.str).length) ->
   ∃ys,(SqL K H2 p ys\/SqT K H2 p ys)/\∀(r:Addr)(H':Hp),Same H2 H'->SqT K H' r ys->Q (.ref r) H':=by
  intro σ H2 h;obtain⟨ep,s2,_⟩:=A9 σ H2 h;exact⟨_,.inl (SqL.of ep),λr H' s3 hr=>q r H' (s2.trans s3) hr⟩
 have step:∀(i:Nat)(x:V),(xs.map V.str)[i]?=some x->∃y,x = .str y/\i<xs.length/\xs.drop i=y::xs.drop (i+1):=by
  intro i x hx;rw[VA]at hx;cases e:xs[i]? with
  |none=>rw[e]at hx;cases hx
  |some y =>
   rw[e]at hx;obtain⟨hi,ey⟩:=VY.mp e;exact⟨y,(V3 hx).symm,hi,by rw[TN hi,ey]⟩
 rcases hb with hb|hb
 ·refine .inl ⟨⟨_,s1.seq hb⟩,xj (xs:=xs.map V.str) (λi σ H2=>∃(m:Int)(Aw:List Str)(nv:Option V),σ=[some (.int m),some (.ref b),some (.ref p),nv]/\Aw++zO m (xs.drop i)=zO n xs/\H2 p=some (.lst (Aw.map V.str))/\Same H H2/\Aw.length<=i) LV ?_ ?_ ?_⟩
  ·rintro i σ H2 _ ⟨m,Aw,nv,rfl,e,ep,s2,_⟩;exact s2.seq hb
  ·rintro i x σ H2 G8 ⟨m,Aw,nv,rfl,e,ep,s2,ha⟩;obtain⟨y,rfl,hi,ed⟩:=step i x G8;rw[ed]at e;walk_at"rp";refine⟨by decide,yx (λc=>?_) (λc=>?_)⟩
   ·have c':m % 2=1:=V9 c;rw[zO,VB c']at e;refine⟨⟨_,_,rfl,ep⟩,_,ep,by rw[WA];exact xO (by lia),⟨by decide,by decide⟩,m / 2,Aw++[y],_,rfl,by rw[Vm];exact e,by rw[zv,VL];rfl,zi s2 n1 _,by rw[VU,UF];lia⟩
   ·have c':¬m % 2=1:=λz=>c (VT z);rw[zO,VF c']at e;exact⟨⟨by decide,by decide⟩,m / 2,Aw,_,rfl,e,ep,s2,by lia⟩
  ·intro σ H2 h;obtain⟨m,Aw,nv,rfl,_⟩:=id h;walk_at"rp";exact LQ _ H2 h
 ·refine .inr ⟨⟨_,(zz s1).sqT hb⟩,xY (xs:=xs.map V.str) (λi σ H2=>∃(m:Int)(Aw:List Str)(nv:Option V),σ=[some (.int m),some (.ref b),some (.ref p),nv]/\Aw++zO m (xs.drop i)=zO n xs/\H2 p=some (.lst (Aw.map V.str))/\Same H H2/\Aw.length<=i) LV ?_ ?_ ?_⟩
  ·rintro i σ H2 _ ⟨m,Aw,nv,rfl,e,ep,s2,_⟩;exact(zz s2).sqT hb
  ·rintro i x σ H2 G8 ⟨m,Aw,nv,rfl,e,ep,s2,ha⟩;obtain⟨y,rfl,hi,ed⟩:=step i x G8;rw[ed]at e;walk_at"rp";refine⟨by decide,yx (λc=>?_) (λc=>?_)⟩
   ·have c':m % 2=1:=V9 c;rw[zO,VB c']at e;refine⟨⟨_,_,rfl,ep⟩,_,ep,by rw[WA];exact xO (by lia),⟨by decide,by decide⟩,m / 2,Aw++[y],_,rfl,by rw[Vm];exact e,by rw[zv,VL];rfl,zi s2 n1 _,by rw[VU,UF];lia⟩
   ·have c':¬m % 2=1:=λz=>c (VT z);rw[zO,VF c']at e;exact⟨⟨by decide,by decide⟩,m / 2,Aw,_,rfl,e,ep,s2,by lia⟩
  ·intro σ H2 h;obtain⟨m,Aw,nv,rfl,_⟩:=id h;walk_at"rp";exact LQ _ H2 h
def gS(K:Nl):Sp:=λvs H Q _=>∃(a h:Addr)(us:N1)(ts:N3)(xs hs:GM),vs=[.ref a,.ref h]/\(SqL K H a us\/SqT K H a us)/\SaysAt K H us ts/\Lst ts xs/\SqT K H h (hs.map V.str)/\∀(p:Addr)(H':Hp),Same H H'->SqT K H' p ((vx ts hs).map V.bl)->Q (.ref p) H'
def mf(K:Nl):Sp:=λvs H Q _=>∃(a:Addr)(us:N1)(ts:N3)(xs:GM),vs=[.ref a]/\(SqL K H a us\/SqT K H a us)/\SaysAt K H us ts/\Lst ts xs/\∀(p:Addr)(H':Hp)(ss:GM)(R:KF),H p=none->Same H H'->H' p=some (.lst (R.map λr=>V.ref r.1))->(∀r∈R,SqT K H' r.1 (r.2.map V.bl))->NamesOf ts ss->FitRows ts ss (R.map (·.2))->R.length<=32->Q (.ref p) H'
def jN{xs:N1}(s:Same H H')(h:SqL K H b xs\/SqT K H b xs):SqL K H' b xs\/SqT K H' b xs:=h.imp s.seq (zz s).sqT
def eA{xs:N1}{g:TG}{σ:L2.St}(ha:SqL K H0 a xs\/SqT K H0 a xs)(s0:Same H0 H)(Pv:Nat->L2.St->Hp->Prop)(h0:Pv 0 σ H)(hl:∀i σ H',i<=xs.length->Pv i σ H'->Same H0 H')
  (hs:∀i x σ H,xs[i]?=some x->Pv i σ H->g x σ H fun σ2 H2=>tb { D with nx:=Pv (i+1),ct:=Pv (i+1),bk:=D.nx } σ2 H2) (hd:∀σ H,Pv xs.length σ H->D.nx σ H):((∃xs,SqL K H a xs)/\sJ g tb (Itl K a) D σ H)\/((∃xs,SqT K H a xs)/\sJ g tb (Itt K a) D σ H):=by
 rcases ha with ha|ha
 ·exact .inl ⟨⟨_,s0.seq ha⟩,xj (xs:=xs) Pv h0 (λi σ H' hi p=>(hl i σ H' hi p).seq ha) hs hd⟩
 ·exact .inr ⟨⟨_,(zz s0).sqT ha⟩,xY (xs:=xs) Pv h0 (λi σ H' hi p=>(zz (hl i σ H' hi p)).sqT ha) hs hd⟩
def dc{xs:N1}{te:Addr->Shared->Hp->List Addr->TE}{ρ:L2.St}(ha:SqL K H0 a xs\/SqT K H0 a xs)(s0:Same H0 H1)(Pv:Addr->Nat->List V->Hp->Prop)(hsz:xs.length<=sizeLine)
  (h0:∀D H2,H1 D=none->Same H1 H2->H2 D=some (.lst [])->Pv D 0 [] H2)
  (hl:∀D i ys H,Pv D i ys H->Same H0 H/\H D=some (.lst ys)/\ys.length=i)
  (hs:∀C s₀ H₀ ex D i v ys H,xs[i]?=some v->Pv D i ys H->te C s₀ H₀ ex (some v :: ρ) H λy H3=>H3 D=some (.lst ys)/\CN xs.length i (Pv D (i+1) (ys++[y]) (upd H3 D (.lst (ys++[y])))))
  (hd:∀D ys H,Pv D xs.length ys H->Q (.ref D) H):((∃xs,SqL K H1 a xs)/\∀C s₀ H₀ ex,xp 1 (mG 0) wT (te C s₀ H₀ ex) ρ (Itl K a) Q H1)\/((∃xs,SqT K H1 a xs)/\∀C s₀ H₀ ex,xp 1 (mG 0) wT (te C s₀ H₀ ex) ρ (Itt K a) Q H1):=by
 rcases ha with ha|ha
 ·exact .inl ⟨⟨_,s0.seq ha⟩,λC s₀ H₀ ex=>vE (xs:=xs) Pv hsz h0 (λD i ys H p=>⟨(hl D i ys H p).1.seq ha,(hl D i ys H p).2⟩) (hs C s₀ H₀ ex) hd⟩
 ·exact .inr ⟨⟨_,(zz s0).sqT ha⟩,λC s₀ H₀ ex=>xH (xs:=xs) Pv hsz h0 (λD i ys H p=>⟨(zz (hl D i ys H p).1).sqT ha,(hl D i ys H p).2⟩) (hs C s₀ H₀ ex) hd⟩
def oo(K:Nl)(n:Nat):Sp:=λvs H Q _=>∃(v:V)(s:Say),vs=[v]/\SayAt K H v s/\s.pieces<=n/\s.pieces<=1000/\∀(p:Addr)(H':Hp),H p=none->Same H H'->H' p=some (.lst (s.letters.map V.str))->Q (.ref p) H'
theorem rF(D:Def K mg "_law_within" (top 48) ["_law_saying_here"]):∀n:Nat,zq P w K mg base n "_law_within" ["_law_saying_here"] (oo K n)
 |0=>zB D λvs H Q E h=>by
  obtain⟨v,s,_,_,hp,_⟩:=h;exact absurd s.pieces_pos (by lia)
 |n+1=>by
  have Bl:=rF D n;refine D.callee (N:=["_law_saying_here","_law_found","_law_part"]) ?_ ?_ ?_;walk_at"go";obtain⟨v,s,rfl,hv,hp,J3,q⟩:=h;refine⟨[some v,none,none],_,rfl,(z6 (zf (zo (yt hr.units) (zQ (z8 0) z5) zy (zp _)) (z4 (zr (zP (z9 (zQ (z8 0) z5) z7)))) zt)
  (z6 (zh 1 nd (zP z7))
  (z6 (xq Vt rfl (zA (zX (z8 0) (za z5) zM)) (xt 2 nd) (z4 (zh 1 nd (zu zk (z8 1) (zn Bl hr (z9 (z8 2) z7))))))
  (z4 (zr (z8 1)))))),?_⟩
  by_cases hs:s.subs=[]
  ·cases s with
   |letter x =>
    obtain⟨a,rfl,ha⟩:=hv;walk_at"rp";refine⟨_,_,.inr ha,rfl,?_⟩;walk_at"rp";refine⟨_,_,.inr ha,rfl,?_⟩;walk_at"rp";exact⟨zb (by simp),λp H1 n1 s1 e1=>q p H1 n1 s1 e1⟩
   |neg t=>simp[Say.subs]at hs
   |bin o t t'=>simp[Say.subs]at hs
  ·obtain⟨a,wd,us,rfl,ha,hw,hl,F6,hu⟩:=tQ hv hs;walk_at"rp";refine⟨_,_,.inr ha,vD _ _,?_⟩;walk_at"rp";rw[hw];walk_at"rp";refine⟨zb (by simp),λr H0 n0 s0 e0=>?_⟩;refine .inr ⟨_,(zz s0).sqT ha,λp H1 s1 h1=>.inr ⟨⟨_,h1⟩,?_⟩⟩;rw[sW]at h1;refine xY (xs:=us) (λi σ H2=>∃(r:Addr)(iv:Option V),σ=[some (.ref a),some (.ref r),iv]/\H r=none/\H2 r=some (.lst ((((s.subs.take i).map Say.letters).flatten).map V.str))/\Same H H2/\Same H1 H2/\i<=us.length) ⟨r,none,rfl,n0,s1 _ _ e0,s0.trans s1,Same.refl _,V5 _⟩ ?_ ?_ ?_
   ·rintro i σ H2 _ ⟨r,iv,rfl,_,_,_,s2,_⟩;exact(zz s2).sqT h1
   ·rintro i x σ H2 hx ⟨r,iv,rfl,nr,e2,s2,s2',hi⟩;obtain⟨t,ht,sv,pc⟩:=hu i x hx;walk_at"rp";refine⟨x,t,rfl,sv.mono (zz s2),by lia,by lia,λz H3 n3 s3 e3=>?_⟩;walk_at"rp";have b1:=sY (s.subs.take i);have b2:=tj Say.pieces s.subs i;have b3:=wS s;have b4:=yu t;refine .inl ⟨_,_,s3 _ _ e2,e3,by rw[WA,WA,VP];lia,λr2 H4 n4 s4 e4=>⟨r2,some x,rfl,zW (s2.trans s3) n4,?_,s2.trans (s3.trans s4),s2'.trans (s3.trans s4),(VY.mp hx).1⟩⟩;rw[e4,V7,ht];simp
   ·rintro σ H2 ⟨r,iv,rfl,nr,e2,s2,_,_⟩;walk_at"rp";rw[hl,V4,<-vY hs]at e2;exact q r H2 nr s2 e2
def md(K:Nl):Sp:=λvs H Q _=>∃(a:Addr)(us:N1)(ts:N3)(xs:GM),vs=[.ref a]/\(SqL K H a us\/SqT K H a us)/\SaysAt K H us ts/\dN ts xs/\(∀t∈ts,t.pieces<=40)/\∀(p:Addr)(H':Hp)(ss:GM),H p=none->Same H H'->H' p=some (.lst (ss.map V.str))->NamesOf ts ss->Q (.ref p) H'
def oB(D:Def K mg "_law_all_names" (top 49) ["_law_sayings"])(Bl:zq P w K mg base 40 "_law_within" ["_law_saying_here"] (oo K 40))(Aq:mg "sorted"=none)(A5:mg "set"=none):zq P w K mg base 41 "_law_all_names" ["_law_sayings"] (md K):=by
 refine D.callee (N:=["_law_sayings","_law_found","_law_saying_here"]) ?_ ?_ ?_;walk_at"go";obtain⟨a,us,ts,xs,rfl,ha,hS,hL,Eu,q⟩:=h;have hl:=hS.len;refine⟨[some (.ref a),none,none],_,rfl,(z6 (zh 1 nd (zP z7))
  (z6 (xq Vt rfl (zA (z8 0)) (xt 2 nd) (z4 (zh 1 nd (zu zk (z8 1) (zn Bl hr (z9 (z8 2) z7))))))
  (z4 (zr (xZ rfl hr.units rfl Aq rfl A5 (z8 1)))))),?_⟩
 walk_at"rp";refine⟨zb (by simp),λr H1 n1 s1 e1=>?_⟩;refine eA ha s1 (λi σ H2=>∃(r:Addr)(iv:Option V),σ=[some (.ref a),some (.ref r),iv]/\H2 r=some (.lst ((yV (ts.take i)).map V.str))/\Same H H2) ⟨r,none,rfl,e1,s1⟩ ?_ ?_ ?_
 ·rintro i σ H2 _ ⟨r,iv,rfl,_,s2⟩;exact s2
 ·rintro i x σ H2 hx ⟨r,iv,rfl,e2,s2⟩;obtain⟨t,ht,sv⟩:=hS.at i x hx;have Jz:=VR ht;have hi:i<us.length:=(VY.mp hx).1;have h6:=hL.hi;walk_at"rp";refine⟨x,t,rfl,sv.mono (zz s2),Eu t Jz,by have:=Eu t Jz;lia,λp H3 n3 s3 e3=>?_⟩;walk_at"rp";have h1:=sQ (ts.take i) λu hu=>Eu u (TF hu);have h2:=yu t;have h3:=Eu t Jz;have h4:(ts.take i).length<=7:=by rw[Vw];lia
  refine .inl ⟨_,_,s3 _ _ e2,e3,by rw[WA,WA,VP];lia,λr2 H4 n4 s4 e4=>⟨r2,some x,rfl,?_,s2.trans (s3.trans s4)⟩⟩;rw[e4,qY ht,VL]
 ·rintro σ H2 ⟨r,iv,rfl,e2,s2⟩;rw[hl,V4]at e2;have h6:=hL.hi;have h1:=sQ ts Eu;walk_at"rp";refine .inl ⟨_,.inl (SqL.of e2),by unfold scanBound;lia,λAW hn hs=>?_,λAW hn hmm BF p H3 n3 s3 e3=>?_⟩
  ·have:=xN hn λy hy=>hL.nm y (hs y hy);have:=hL.xl;lia
  ·exact q p H3 AW (zW s2 n3) (s2.trans s3) e3 ⟨hn,hmm,BF⟩
def i7(D:Def K mg "_law_row" (top 50) ["_law_sayings","_law_held_here"])(DQ:zq P w K mg base 40 "_law_so" ["_law_saying_here","_law_held_here"] (qO K 40))(Ae:mg "tuple"=none):zq P w K mg base 41 "_law_row" ["_law_sayings","_law_held_here"] (gS K):=by
 refine D.callee (N:=["_law_sayings","_law_held_here"]) ?_ ?_ ?_;walk_at"go";obtain⟨a,h,us,ts,xs,hs,rfl,ha,hS,hL,hh,q⟩:=h;have hl:=hS.len;have h6:=hL.hi;refine⟨[some (.ref a),some (.ref h)],_,rfl,(z4 (zr (zJ yN rfl Ae yo (z9 (yd (ixs:=[1]) (zU (own:=["_law_saying_here"]) (N:=["_law_held_here"]) rfl) rfl (zA (z8 0)) (λ_ _ _ _=>zD) (λ_ _ _ _=>(zn DQ hr (z9 (z8 0) (z9 (z8 1) z7)))) rfl) z7)))),?_⟩;walk_at"rp";refine dc ha (Same.refl _) (λD i ys H2=>ys=((ts.take i).map λt=>t.so hs).map V.bl/\i<=us.length/\H2 D=some (.lst ys)/\Same H H2/\H D=none) (by rw[VP];lia) ?_ ?_ ?_ ?_
 ·intro D H2 n2 s2 e2;exact⟨rfl,V5 _,e2,s2,n2⟩
 ·rintro D i ys H2 ⟨rfl,hi,e2,s2,_⟩;exact⟨s2,e2,by simp;lia⟩
 ·rintro C s₀ H₀ ex D i v ys H2 hv ⟨rfl,hi,e2,s2,n2⟩;obtain⟨t,ht,sv⟩:=hS.at i v hv;walk_at"rp";refine⟨v,h,t,hs,rfl,sv.mono (zz s2),hL.pc t (VR ht),(zz s2).sqT hh,λH3 s3=>⟨s3 _ _ e2,CN.mk (VY.mp hv).1 ⟨?_,(VY.mp hv).1,zv,zi (s2.trans s3) n2 _,n2⟩⟩⟩;rw[V7,ht];simp
 ·rintro D ys H2 ⟨rfl,hi,e2,s2,n2⟩;rw[hl,V4]at e2;exact⟨_,.inl (SqL.of e2),λp H3 s3 h3=>q p H3 (s2.trans s3) h3⟩
def i6(D:Def K mg "_law_fit_rows" (top 51) ["_law_sayings"])(AM:zq P w K mg base 41 "_law_all_names" ["_law_sayings"] (md K))(GU:zq P w K mg base 41 "_law_row" ["_law_sayings","_law_held_here"] (gS K))(FY:zq P w K mg base 1 "_law_held" ["_law_number","_law_names_here"] (gQ K))
  (Aq:mg "sorted"=none) (A5:mg "set"=none) (Aj:mg "range"=none):zq P w K mg base 42 "_law_fit_rows" ["_law_sayings"] (mf K):=by
 refine D.callee (N:=["_law_sayings","_law_names_here","_law_number","_law_name"]) ?_ ?_ ?_;walk_at"go";obtain⟨a,us,ts,xs,rfl,ha,hS,hL,q⟩:=h;refine⟨[some (.ref a),none,none,none],_,rfl,(z6 (zh 1 nd (zn AM hr (z9 (z8 0) z7)))
  (z6 (zh 2 nd z5)
  (z6 (xq Vt rfl (zA (z8 1)) (xt 3 nd) (z4 (zh 2 nd (zu xU z5 (z8 2)))))
  (z4 (zr (xZ rfl hr.units rfl Aq rfl A5 (yd (ixs:=[0,1]) (zU (own:=["_law_k"]) (N:=["_law_sayings","_law_names_here"]) rfl) rfl (yQ rfl Aj (z9 (z8 2) z7)) (λ_ _ _ _=>zD) (λ_ _ _ _=>(zn GU hr (z9 (z8 1) (z9 (zn FY hr (z9 (z8 0) (z9 (z8 2) z7))) z7)))) rfl))))))),?_⟩
 walk_at"rp";refine⟨a,us,ts,xs,rfl,ha,hS,Lst.toW hL,hL.pc,λb H1 ss nb s1 hb hN=>?_⟩;obtain⟨Ma,hsn⟩:=hL.names hN;have p5:=fk Ma;walk_at"rp";refine .inl ⟨⟨_,SqL.of hb⟩,xj (xs:=ss.map V.str) (λi σ H2=>∃nv,σ=[some (.ref a),some (.ref b),some (.int ((2 ^ i:Nat):Int)),nv]/\H2=H1) ⟨none,rfl,rfl⟩ ?_ ?_ ?_⟩
 ·rintro i σ H2 _ ⟨nv,rfl,rfl⟩;exact SqL.of hb
 ·rintro i x σ H2 G8 ⟨nv,rfl,rfl⟩;walk_at"rp";refine⟨cm (by decide),some x,?_,trivial⟩;rw[Nat.pow_succ,Int.natCast_mul,Int.mul_comm]
  rfl
 rintro σ H2 ⟨nv,rfl,rfl⟩;walk_at"rp";rw[WA];have p5':((2 ^ ss.length:Nat):Int)<=32:=Int.ofNat_le.mpr p5;have p50:(0:Int)<=((2 ^ ss.length:Nat):Int):=Int.natCast_nonneg _;refine⟨⟨by lia,by lia⟩,?_⟩;rw[Vu];intro C s₀ H₀ ex;refine yD (λD i ys H3=>∃R:List (Addr×List Bool),ys=(R.map λr=>V.ref r.1)/\R.map (·.2)=(List.range i).map (λ(n:Nat)=>vx ts (zO (n:Int) ss))/\(∀r∈R,SqT K H3 r.1 (r.2.map V.bl))/\H3 D=some (.lst ys)/\Same H2 H3/\H2 D=none) (by rw[VP];lia) ?_ ?_ ?_ ?_
 ·intro D H3 n3 s3 e3;exact⟨[],rfl,rfl,λr hr=>by simp at hr,e3,s3,n3⟩
 ·rintro D i ys H3 ⟨R,rfl,hR,_,e3,s3,_⟩;refine⟨e3,?_⟩;have:=Vp List.length hR;simpa using this
 ·rintro D i ys H3 hi ⟨R,rfl,hR,hT,e3,s3,n3⟩;walk_at"rp";rw[Int.zero_add];refine⟨_,b,ss,rfl,.inl (s3.seq (SqL.of hb)),by lia,λc H4 s4 h4=>?_⟩;refine⟨a,c,us,ts,xs,_,rfl,jN (s1.trans (s3.trans s4)) ha,hS.mono (zz (s1.trans (s3.trans s4))),hL,h4,λp H5 s5 h5=>⟨(s4.trans s5) _ _ e3,CN.mk hi ⟨R++[(p,vx ts (zO (i:Int) ss))],by rw[VL];rfl,?_,λr hr=>?_,zv,zi (s3.trans (s4.trans s5)) n3 _,n3⟩⟩⟩
  ·rw[VL,hR,List.range_succ,VL]
   rfl
  ·have tl:=yT (o:=.lst ((R.map λr=>V.ref r.1)++[V.ref p])) ((s4.trans s5) _ _ e3);rcases VQ.mp hr with hr|hr
   ·exact tl.sqT ((zz (s4.trans s5)).sqT (hT r hr))
   ·rw[VX.mp hr];exact tl.sqT h5
 ·rintro D ys H3 ⟨R,rfl,hR,hT,e3,s3,n3⟩;have hRl:R.length=2 ^ ss.length:=by
   have:=Vp List.length hR;simpa using this
  refine .inr ⟨R,SqL.of e3,λr hr=>⟨hT r hr,?_⟩,by lia,λR' E6 ID Cw BF Hd p H4 n4 s4 e4=>?_⟩
  ·have:r.2∈R.map (·.2):=Vs hr;rw[hR]at this;obtain⟨n,_,e⟩:=VC.mp this;intro z;rw[<-e]at z;have h1:=wG ts (zO (n:Int) ss);rw[z]at h1;have:=hL.lo;simp at h1;lia
  ·refine q p H4 ss R' (zW (s1.trans s3) n4) (s1.trans (s3.trans s4)) e4 (λr hr=>(zz s4).sqT (hT r (E6 r hr))) hN ⟨ID,λk=>?_,BF⟩ (by lia);rw[Cw k,hR,VC];constructor
   ·rintro⟨n,hn,rfl⟩;exact⟨n,Vc.mp hn,rfl⟩
   ·rintro⟨n,hn,rfl⟩;exact⟨n,Vc.mpr hn,rfl⟩
def SzT(s:Say):Prop:=s.pieces<=40/\∀x∈s.letters,Nm x
def szt(h:n<=16000000):n<=sizeLine:=by rw[VP];lia
def SzW(s:Say):Prop:=s.pieces<=60/\∀x∈s.letters,Nm x
def qN(K:Nl)(n:Nat):Sp:=λvs H Q _=>∃(v:V)(s:Say),vs=[v]/\SayAt K H v s/\s.pieces<=n/\SzW s/\∀H',Same H H'->Q (.str s.text) H'
theorem kC(D:Def K mg "_law_shown" (top 53) ["_law_saying_here"]):∀n:Nat,zq P w K mg base n "_law_shown" ["_law_saying_here"] (qN K n)
 |0=>zB D λvs H Q E h=>by
  obtain⟨v,s,_,_,hp,_⟩:=h;exact absurd s.pieces_pos (by lia)
 |n+1=>by
  have AI:=kC D n;refine D.callee (N:=["_law_saying_here","_law_parts"]) ?_ ?_ ?_;walk_at"go";obtain⟨v,s,rfl,hv,hp,⟨z1,z2⟩,q⟩:=h;refine⟨[some v,none],_,rfl,(z6 (zf (zo (yt hr.units) (zQ (z8 0) z5) zy (zp _)) (z4 (zr (zQ (z8 0) z5))) zt)
  (z6 (xk 1 nd (ixs:=[]) (zU (own:=["_law_part"]) (N:=[]) rfl) rfl (zA (zX (z8 0) (za z5) zM)) (λ_ _ _ _=>zD) (λ_ _ _ _=>(zn AI hr (z9 (z8 0) z7))) rfl)
  (z6 (zf (zo (yt hr.units) (zQ (z8 0) z5) zy (zp _)) (z4 (zr (zu zk zy (zQ (z8 1) z5)))) zt)
  (z6 (zf (zo (yt hr.units) (zQ (z8 0) z5) zy (zp _)) (z4 (zr (zu zk (zu zk (zu zk (zu zk zy (zQ (z8 1) z5)) zy) (zQ (z8 1) z5)) zy))) zt)
  (z4 (zr (zu zk (zu zk (zu zk (zu zk (zu zk (zu zk zy (zQ (z8 1) z5)) zy) (zQ (z8 0) z5)) zy) (zQ (z8 1) z5)) zy))))))),?_⟩
  have F8:∀{te:TE}{p:Addr}{H1:Hp}{us:List V}{ts:List Say}{Q':VK},(∀v H Q,te [some v] H Q=qN K n [v] H Q E0)->Same H H1->SqT K H1 p us->us.length=ts.length->us.length<=10->(∀(i:Nat) u,us[i]?=some u->∃t,ts[i]?=some t/\SayAt K H1 u t/\t.pieces<=n/\SzW t) ->
    (∀D H2,Same H H2->H2 D=some (.lst ((ts.map λt=>t.text).map V.str))->Q' (.ref D) H2)->xp 1 (mG 0) wT te [] (Itt K p) Q' H1:=by
   intro te p H1 us ts Q' hte s1 ES hl hl10 hu q';refine xH (xs:=us) (λD i ys H'=>ys=((ts.take i).map λt=>t.text).map V.str/\i<=us.length/\H' D=some (.lst ys)/\Same H1 H'/\H1 D=none) (zb (by lia)) ?_ ?_ ?_ ?_
   ·intro D H2 nn s2 e2;exact⟨rfl,V5 _,e2,s2,nn⟩
   ·rintro D i ys H' ⟨rfl,hi,e,s2,_⟩;exact⟨(zz s2).sqT ES,e,by simp;lia⟩
   ·rintro D i v ys H' hv ⟨rfl,hi,e,s2,n2⟩;obtain⟨t,ht,sv,pc,hz⟩:=hu i v hv;rw[hte];refine⟨v,t,rfl,sv.mono (zz s2),pc,hz,λH3 s3=>⟨s3 _ _ e,CN.mk ?_ ⟨?_,?_,zv,zi (s2.trans s3) n2 _,n2⟩⟩⟩
    ·exact(VY.mp hv).1
    ·rw[V7,ht];simp
    ·exact(VY.mp hv).1
   ·rintro D ys H' ⟨rfl,hi,e,s2,n2⟩;rw[hl,V4]at e;exact q' D H' (s1.trans s2) e
  cases s with
  |letter x =>
   obtain⟨a,rfl,ha⟩:=hv;walk_at"rp";refine⟨_,_,.inr ha,rfl,?_⟩;walk_at"rp";exact⟨_,_,.inr ha,rfl,q H (Same.refl H)⟩
  |neg t =>
   obtain⟨a,u,rfl,ha,ht⟩:=hv;simp only[Say.pieces]at hp z1;have tl1:=yc t z2;walk_at"rp";refine⟨_,_,.inr ha,rfl,?_⟩;walk_at"rp";refine .inr ⟨_,ha,λp H1 s1 h1=>.inr ⟨⟨_,h1⟩,λC s₀ H₀ ex=>?_⟩⟩;refine F8 (us:=[u]) (ts:=[t]) (λ_ _ _=>rfl) s1 h1 rfl (by simp) (λi x hx=>?_) λD H2 s2 e2=>?_
   ·match i,hx with
    |0,hx =>
     cases hx;exact⟨t,rfl,ht.mono (zz s1),by lia,by lia,z2⟩
    |i+1,hx=>simp at hx
   ·have EK:=(zz s2).sqT ha;refine⟨_,_,.inr EK,rfl,?_⟩;walk_at"rp";refine⟨_,_,.inl (SqL.of e2),rfl,?_⟩;walk_at"rp";exact⟨szt (by rw[gM];lia),q H2 s2⟩
  |bin o t t' =>
   obtain⟨a,u,u',rfl,ha,ht,Fw⟩:=hv;simp only[Say.pieces]at hp z1;have y1:∀x∈t.letters,Nm x:=λx hx=>z2 x (VQ.mpr (.inl hx));have y2:∀x∈t'.letters,Nm x:=λx hx=>z2 x (VQ.mpr (.inr hx));have tl1:=yc t y1;have tl2:=yc t' y2;have hu:∀{H1:Hp},Same H H1->∀(i:Nat) x,[u,u'][i]?=some x->∃r,[t,t'][i]?=some r/\SayAt K H1 x r/\r.pieces<=n/\SzW r:=λs1 i x hx=>by
    match i,hx with
    |0,hx =>
     cases hx;exact⟨t,rfl,ht.mono (zz s1),by lia,by lia,y1⟩
    |1,hx =>
     cases hx;exact⟨t',rfl,Fw.mono (zz s1),by lia,by lia,y2⟩
    |i+2,hx=>simp at hx
   cases o <;>
   ·dsimp only[Op2.word]at ha;walk_at"rp";refine⟨_,_,.inr ha,rfl,?_⟩;walk_at"rp";refine .inr ⟨_,ha,λp H1 s1 h1=>.inr ⟨⟨_,h1⟩,λC s₀ H₀ ex=>?_⟩⟩;refine F8 (us:=[u,u']) (ts:=[t,t']) (λ_ _ _=>rfl) s1 h1 rfl (by simp) (hu s1) λD H2 s2 e2=>?_;have EK:=(zz s2).sqT ha;have q2:=q H2 s2;refine⟨_,_,.inr EK,rfl,?_⟩;walk_at"rp";refine⟨_,_,.inr EK,rfl,?_⟩;walk_at"rp";refine⟨_,_,.inl (SqL.of e2),rfl,?_⟩;walk_at"rp";simp only[yZ,oZ,rP,oY,qI,kW,kU,uO]
    repeat first
     |exact q2
     |refine⟨szt (by lia),?_⟩
     |(refine⟨_,_,.inr EK,rfl,?_⟩;walk_at"rp";simp only[yZ,oZ,rP,oY,qI,kW,kU,uO])
     |(refine⟨_,_,.inl (SqL.of e2),rfl,?_⟩;walk_at"rp";simp only[yZ,oZ,rP,oY,qI,kW,kU,uO])
def ynT(b:Bool):Str:=if b=true then ("y":Str) else ("n":Str)
def oR(k:Nc):Str:=Txt.join ("":Str) (k.map ynT)
def yq(ts:N3)(ks:KM):List Str:=(ts.map λt=>("say ":Str)++t.text)++ks.map λk=>("judge ":Str)++oR k
def l_e:("":Str).length=0:=by decide +kernel
def d0:("\n":Str).length=1:=by decide +kernel
def d3:("say ":Str).length=4:=by decide +kernel
def pY:("judge ":Str).length=6:=by decide +kernel
def WT(b:Bool):(ynT b).length=1:=by cases b<;>decide +kernel
def pX(sep:Str)(ys:GM):(Txt.join sep ys).length<=(ys.map (·.length)).sum+ys.length*sep.length:=by
 show(PySem.Builtin.Str.glued sep ys).length<=_;rw[TQ];exact StrLaws.join_length_le sep ys
theorem mi:∀k:List Bool,((k.map ynT).map (·.length)).sum=k.length
 |[]=>rfl
 |b::k=>by
  rw[List.map_cons,List.map_cons,Uc,mi k,WT,VN];lia
def tM(k:Nc):(oR k).length<=k.length:=by
 have:=pX ("":Str) (k.map ynT);rw[mi,l_e]at this;unfold oR;lia
def gc{b:Nat}(h:∀y∈ys,y.length<=b):(ys.map (·.length)).sum<=ys.length*b:=by
 induction ys with
 |nil=>exact V5 _
 |cons y ys ih =>
  have h1:=h y VE;have h2:=ih λz hz=>h z (VJ _ hz);rw[List.map_cons,Uc,VN,Nat.succ_mul];lia
def d9(h1:ts.length<=6)(h2:ks.length<=21)(h3:∀t∈ts,SzT t)(h4:∀k∈ks,k.length<=6):((yq ts ks).map (·.length)).sum+(yq ts ks).length*("\n":Str).length<=16777216:=by
 have hl:(yq ts ks).length=ts.length+ks.length:=by
  unfold yq;rw[VU,WA,WA]
 have:=gc (ys:=yq ts ks) (b:=2000) λy hy=>by
  rcases VQ.mp hy with z|z
  ·obtain⟨t,ht,rfl⟩:=VC.mp z;have hz:=h3 t ht;have:=yc t hz.2;have:=hz.1;rw[yZ,d3];lia
  ·obtain⟨k,hk,rfl⟩:=VC.mp z;have:=tM k;have:=h4 k hk;rw[yZ,pY];lia
 rw[d0];rw[hl]at this ⊢;lia
structure pF(K:Nl)(H:Hp)(b:Addr)(J:KF)(n:Nat):Prop where
 sq:SqL K H b (J.map λr=>V.ref r.1)
 row:∀r∈J,SqT K H r.1 (r.2.map V.bl)
 len:∀r∈J,r.2.length=n
def rY(K:Nl):Sp:=λvs H Q _=>∃(a b:Addr)(us:N1)(ts:N3)(J:KF),vs=[.ref a,.ref b]/\SqL K H a us/\SaysAt K H us ts/\ts.length<=6/\(∀t∈ts,SzT t)/\pF K H b J ts.length/\J.length<=21/\∀H',Same H H'->Q (.str (Txt.join ("\n":Str) (yq ts (J.map (·.2))))) H'
def ny0:atI ("ny":Str).cps.toList 0=some 110:=by decide +kernel
def ny1:atI ("ny":Str).cps.toList 1=some 121:=by decide +kernel
def Wc:(⟨#[110]⟩:Str)=("n":Str):=by decide +kernel
def Wd:(⟨#[121]⟩:Str)=("y":Str):=by decide +kernel
def eh:("ny":Str).length<=sizeLine:=by rw[VP];decide +kernel
def oF(D:Def K mg "_law_written" (top 54) ["_law_sayings","_law_judges"])(AI:zq P w K mg base 60 "_law_shown" ["_law_saying_here"] (qN K 60))(A6:mg "int"=none):zq P w K mg base 61 "_law_written" ["_law_sayings","_law_judges"] (rY K):=by
 refine D.callee (N:=["_law_sayings","_law_judges","_law_lines","_law_row_here"]) ?_ ?_ ?_;walk_at"go";obtain⟨a,b,us,ts,J,rfl,ha,hS,h6,hz,hJ,Lr,q⟩:=h;have hl:=hS.len;refine⟨[some (.ref a),some (.ref b),none,none],_,rfl,(z6 (xk 2 nd (ixs:=[]) (zU (own:=["_law_saying_here"]) (N:=[]) rfl) rfl (zA (z8 0)) (λ_ _ _ _=>zD) (λ_ _ _ _=>(zu zk zy (zn AI hr (z9 (z8 0) z7)))) rfl)
  (z6 (xq Vt rfl (zA (z8 1)) (xt 3 nd) (z4 (zE (uT UK UJ su (z8 2) (z9 (zu zk zy (uw zy (z9 (yd (ixs:=[]) (zU (own:=["_law_truth"]) (N:=[]) rfl) rfl (zA (z8 3)) (λ_ _ _ _=>zD) (λ_ _ _ _=>(zQ zy (zJ uK rfl A6 uk (z9 (z8 0) z7)))) rfl) z7))) z7)))))
  (z4 (zr (uw zy (z9 (z8 2) z7)))))),?_⟩
 walk_at"rp";refine .inl ⟨⟨_,ha⟩,λC s₀ H₀ ex=>?_⟩;refine vE (xs:=us) (λD i ys H2=>ys=((ts.take i).map λt=>("say ":Str)++t.text).map V.str/\i<=us.length/\H2 D=some (.lst ys)/\Same H H2/\H D=none) (by rw[VP];lia) ?_ ?_ ?_ ?_
 ·intro D H2 n2 s2 e2;exact⟨rfl,V5 _,e2,s2,n2⟩
 ·rintro D i ys H2 ⟨rfl,hi,e2,s2,_⟩;exact⟨s2.seq ha,e2,by simp;lia⟩
 ·rintro D i v ys H2 hv ⟨rfl,hi,e2,s2,n2⟩;obtain⟨t,ht,sv⟩:=hS.at i v hv;have htz:=hz t (VR ht);have G9:=yc t htz.2;have La:=htz.1;walk_at"rp";refine⟨v,t,rfl,sv.mono (zz s2),by lia,⟨by lia,htz.2⟩,λH3 s3=>?_⟩;walk_at"rp";refine⟨szt (by rw[d3];lia),s3 _ _ e2,CN.mk (VY.mp hv).1 ⟨?_,(VY.mp hv).1,zv,zi (s2.trans s3) n2 _,n2⟩⟩;rw[V7,ht];simp
 rintro D ys H2 ⟨rfl,hi,e2,s2,n2⟩;rw[hl,V4]at e2;have hJ2:pF K H2 b J ts.length:=⟨s2.seq hJ.sq,λr hr=>(zz s2).sqT (hJ.row r hr),hJ.len⟩
 walk_at"rp";refine .inl ⟨⟨_,hJ2.sq⟩,xj (xs:=J.map λr=>V.ref r.1) (λi σ H3=>∃x3:Option V,σ=[some (.ref a),some (.ref b),some (.ref D),x3]/\H3 D=some (.lst ((yq ts ((J.map (·.2)).take i)).map V.str))/\Same H H3/\Tups H2 H3/\i<=J.length) ⟨none,rfl,by rw[e2];unfold yq;simp,s2,Tups.refl _,V5 _⟩ ?_ ?_ ?_⟩
 ·rintro i σ H3 _ ⟨x3,rfl,e3,s3,t3,_⟩;exact s3.seq hJ.sq
 ·rintro i v σ H3 hv ⟨x3,rfl,e3,s3,t3,hi3⟩;rw[VA]at hv;cases hb:J[i]? with
  |none=>rw[hb]at hv;cases hv
  |some r =>
  rw[hb]at hv;cases hv;have Go:=(VY.mp hb).1;have hrm:=VR hb;have Fz:=hJ.len r hrm;have hrt:=tM r.2;have hr3:=t3.sqT (hJ2.row r hrm);walk_at"rp";refine⟨⟨_,_,rfl,e3⟩,.inr ⟨⟨_,hr3⟩,λC s₀ H₀ ex=>?_⟩⟩;refine xH (xs:=r.2.map V.bl) (λD' i ys H4=>ys=((r.2.take i).map ynT).map V.str/\i<=r.2.length/\H4 D'=some (.lst ys)/\Same H3 H4/\H3 D'=none) (by rw[WA,VP];lia) ?_ ?_ ?_ ?_
  ·intro D' H4 n4 s4 e4;exact⟨rfl,V5 _,e4,s4,n4⟩
  ·rintro D' j ys H4 ⟨rfl,hj,e4,s4,_⟩;exact⟨(zz s4).sqT hr3,e4,by simp;lia⟩
  ·rintro D' j v ys H4 hv ⟨rfl,hj,e4,s4,n4⟩;rw[VA]at hv;cases hc:r.2[j]? with
   |none=>rw[hc]at hv;cases hv
   |some c =>
   rw[hc]at hv;cases hv;have GF:=(VY.mp hc).1;walk_at"rp";cases c with
   |true=>exact⟨eh,121,ny1,e4,CN.mk (by rw[WA];exact GF) ⟨by rw[V7,hc,Wd];simp[ynT],GF,zv,zi s4 n4 _,n4⟩⟩
   |false=>exact⟨eh,110,ny0,e4,CN.mk (by rw[WA];exact GF) ⟨by rw[V7,hc,Wc];simp[ynT],GF,zv,zi s4 n4 _,n4⟩⟩
  ·rintro D' ys H4 ⟨rfl,hj,e4,s4,n4⟩;rw[WA,V4]at e4;walk_at"rp";refine⟨r.2.map ynT,SqL.of e4,by rw[mi,l_e];lia,?_⟩;walk_at"rp";have e5:=s4 _ _ e3;refine⟨szt (by rw[pY];show 6+(oR r.2).length<=_;lia),_,e5,?_,_,rfl,?_,zi (s3.trans s4) n2 _,(t3.trans (zz s4)).trans (yT e5),Go⟩
   ·unfold yq;simp only[WA,VU,Vw];rw[VP];lia
   ·rw[zv,V7,VA,hb];unfold yq;simp[oR]
 rintro σ H3 ⟨x3,rfl,e3,s3,t3,_⟩;rw[WA]at e3;rw[show J.length=(J.map (·.2)).length from(WA _).symm,V4]at e3;walk_at"rp";refine⟨yq ts (J.map (·.2)),SqL.of e3,d9 h6 (by rw[WA];exact Lr) hz (λk hk=>?_),q _ s3⟩;obtain⟨r,hr,rfl⟩:=VC.mp hk;rw[hJ.len r hr];exact h6
def Sg(c:Nat):Prop:=32<=c/\c<=122
def yG(h1:∀c∈x,Sg c)(h2:∀c∈y,Sg c):∀c∈x++y,Sg c:=List.forall_mem_append.mpr ⟨h1,h2⟩
def aE:∀c∈lit "not ",Sg c:=by rw[uH];unfold Sg;decide
def YV:∀c∈lit "(if ",Sg c:=by rw[sk];unfold Sg;decide
def ay:∀c∈lit "(",Sg c:=by rw[vf];unfold Sg;decide
def gK:∀c∈lit ")",Sg c:=by rw[pd];unfold Sg;decide
def cz:∀c∈lit " then ",Sg c:=by rw[nk];unfold Sg;decide
def aD:∀c∈lit " and ",Sg c:=by rw[pb];unfold Sg;decide
def YW:∀c∈lit " or ",Sg c:=by rw[lW];unfold Sg;decide
def uI:lit "say "=[115,97,121,32]:=by decide +kernel
def uu:lit "judge "=[106,117,100,103,101,32]:=by decide +kernel
def aF:∀c∈lit "say ",Sg c:=by rw[uI];unfold Sg;decide
def gL:∀c∈lit "judge ",Sg c:=by rw[uu];unfold Sg;decide
theorem va:∀t:Say,(∀y∈t.letters,NmV y)->∀c∈tl t,Sg c
 | .letter y,h=>λc hc=>by
  have:=tV ((h y (VX.mpr rfl)).2 c hc);unfold Sg;lia
 | .neg t,h=>by rw[ms];exact yG aE (va t h)
 | .bin .con a b,h=>by rw[ml];exact yG ay (yG (va a λy hy=>h y (UV _ hy)) (yG aD (yG (va b λy hy=>h y (VM _ hy)) gK)))
 | .bin .dis a b,h=>by rw[mq];exact yG ay (yG (va a λy hy=>h y (UV _ hy)) (yG YW (yG (va b λy hy=>h y (VM _ hy)) gK)))
 | .bin .imp a b,h=>by rw[mr];exact yG YV (yG (va a λy hy=>h y (UV _ hy)) (yG cz (yG (va b λy hy=>h y (VM _ hy)) gK)))
def pq{y:Str}(h:NmV y):Nm y:=by
 have h1:=h.1;unfold wy at h1;rw[Vy,Vy]at h1;have hl:=zV y;have h2:¬6<y.cps.toList.length:=λz=>by
  have:=h1.2.1;rw[VT z]at this;cases this
 refine⟨by lia,?_⟩;have e:(⟨y.cps.toList.toArray⟩:Str)=y:=by simp
 rw[<-e];exact uh h.2
def ynC(b:Bool):Nat:=if b=true then 121 else 110
def aS(b:Bool):(ynT b).cps.toList=[ynC b]:=by cases b<;>decide +kernel
theorem dv:∀ks:List Nat,jl [] (ks.map λc=>[c])=ks
 |[]=>rfl
 |[c]=>by simp[jl]
 |c::d::ks=>by
  have:=dv (d::ks);simp only[List.map_cons]at this ⊢;rw[jl,this]
  rfl
def cZ(k:Nc):(oR k).cps.toList=k.map ynC:=by
 show(PySem.Builtin.Str.glued ("":Str) (k.map ynT)).cps.toList=_;rw[TQ,wA,Vi];rw[show(λp:Str=>p.cps.toList)∘ynT=(λc=>[c])∘ynC from funext aS,<-Vi,show("":Str).cps.toList=[]by decide +kernel,dv]
def oS(t:Say):Str:=("say ":Str)++t.text
def uq(k:Nc):Str:=("judge ":Str)++oR k
def qC(t:Say):(oS t).cps.toList=lit "say "++tl t:=by
 unfold oS;rw[Ux,UR];rfl
def qv(k:Nc):(uq k).cps.toList=lit "judge "++k.map ynC:=by
 unfold uq;rw[Ux,UR,cZ];rfl
def j4(h1:∀t∈ts,t.pieces<=40/\∀y∈t.letters,NmV y):∀l∈yq ts ks,∀c∈l.cps.toList,Sg c:=λl hl=>by
 rcases VQ.mp hl with z|z
 ·obtain⟨t,ht,rfl⟩:=VC.mp z;rw[show(("say ":Str)++t.text)=oS t from rfl,qC];exact yG aF (va t (h1 t ht).2)
 ·obtain⟨k,hk,rfl⟩:=VC.mp z;rw[show(("judge ":Str)++oR k)=uq k from rfl,qv];refine yG gL λc hc=>?_;obtain⟨b,_,rfl⟩:=VC.mp hc;cases b
  ·exact⟨by decide,by decide⟩
  ·exact⟨by decide,by decide⟩
def d8(h1:∀t∈ts,t.pieces<=40/\∀y∈t.letters,NmV y)(h2:∀k∈ks,k.length<=6):∀l∈yq ts ks,l.length<=2000:=λy hy=>by
 rcases VQ.mp hy with z|z
 ·obtain⟨t,ht,rfl⟩:=VC.mp z;have:=yc t λy hy=>pq ((h1 t ht).2 y hy);have:=(h1 t ht).1;rw[yZ,d3];lia
 ·obtain⟨k,hk,rfl⟩:=VC.mp z;have:=tM k;have:=h2 k hk;rw[yZ,pY];lia
def wU(ts:N3)(ks:KM):Str:=Txt.join ("\n":Str) (yq ts ks)
structure WrT(ts:N3)(ks:KM):Prop where
 say:∀t∈ts,t.pieces<=40/\∀y∈t.letters,NmV y
 row:∀k∈ks,k.length=ts.length
 lo:1<=ts.length
 hi:ts.length<=6
 jlo:1<=ks.length
 jhi:ks.length<=21
def qz(ts:N3)(ks:KM):(yq ts ks).length=ts.length+ks.length:=by
 unfold yq;rw[VU,WA,WA]
def pC(h:WrT ts ks):Txt.split (wU ts ks) ("\n":Str)=yq ts ks:=by
 have hf:∀l∈yq ts ks,10∉l.cps.toList:=λl hl z=>by
  have:=(j4 h.say l hl 10 z).1;lia
 unfold wU;cases e:yq ts ks with
 |nil =>
  have h1:=qz ts ks;have h2:=h.lo;rw[e,Vx]at h1;exact absurd h1 (by lia)
 |cons p ps=>exact tZ ("\n":Str) 10 [] (by decide +kernel) (by decide +kernel) p ps λq hq=>hf q (by rw[e];exact hq)
def jY(h:WrT ts ks):yC (wU ts ks):=by
 have h6:∀k∈ks,k.length<=6:=λk hk=>by rw[h.row k hk];exact h.hi
 constructor
 ·have:=pX ("\n":Str) (yq ts ks);have h2:=gc (d8 h.say h6);rw[qz]at this h2;rw[d0]at this;have:=h.hi;have:=h.jhi;unfold wU;lia
 ·intro c hc;have Gr:c∈(Str.join ("\n":Str) (yq ts ks)).cps.toList:=by rw[<-TQ];exact hc
  rw[wA]at Gr;rcases lR Gr with z|⟨p,hp,z⟩
  ·rw[show("\n":Str).cps.toList=[10]by decide +kernel]at z;rw[VX.mp z]
   decide
  ·obtain⟨l,hl,rfl⟩:=VC.mp hp;have:=(j4 h.say l hl c z).2;lia
def ig:W.kitOne K (.type "str") (.type "bool")=some false:=by rfl
def ij:W.kitOne K (.type "tuple") (.type "bool")=some false:=by rfl
def il:W.kitOne K (.type "tuple") (.type "str")=some false:=by rfl
def ik:W.kitOne K (.type "tuple") (.type "int")=some false:=by rfl
def qx:W.kitOne K (.type "tuple") (.type "list")=some false:=by rfl
def SmT(K:W.Frag)(H:Hp):Nat->V->V->Prop
 |0,_,_=>False
 |d+1,v,u=>(∃b,v = .bl b/\u = .bl b)\/(∃s,v = .str s/\u = .str s)\/∃(a b:Addr)(xs ys:List V),v = .ref a/\u = .ref b/\(SqT K H a xs/\SqT K H b ys)/\xs.length=ys.length/\∀(i:Nat)(x y:V),xs[i]?=some x->ys[i]?=some y->SmT K H d x y
theorem SmT.mono{H H':Hp}(s:Same H H'):∀{d:Nat}{v u:V},SmT K H d v u->SmT K H' d v u
 |0,_,_,h=>h.elim
 |d+1,v,u,h=>h.imp id λh=>h.imp id λ⟨a,b,xs,ys,e1,e2,hq,hl,hx⟩=>⟨a,b,xs,ys,e1,e2,⟨(zz s).sqT hq.1,(zz s).sqT hq.2⟩,hl,λi x y h1 h2=>SmT.mono s (hx i x y h1 h2)⟩
theorem SmT.le{H:Hp}:∀{d d':Nat}{v u:V},d<=d'->SmT K H d v u->SmT K H d' v u
 |0,_,_,_,_,h=>h.elim
 |d+1,0,_,_,l,_=>absurd l (by lia)
 |d+1,d'+1,v,u,l,h=>h.imp id λh=>h.imp id λ⟨a,b,xs,ys,e1,e2,hq,hl,hx⟩=>⟨a,b,xs,ys,e1,e2,hq,hl,λi x y h1 h2=>SmT.le (Nat.le_of_succ_le_succ l) (hx i x y h1 h2)⟩
def qK(x:Str)(d:Nat):SmT K H (d+1) (.str x) (.str x):=.inr (.inl ⟨x,rfl,rfl⟩)
def gU(K:Nl)(d:Nat):Sp:=λvs H Q _=>∃v u:V,vs=[v,u]/\SmT K H d v u/\∀H',Same H H'->Q (.bl true) H'
theorem kD(D:Def K mg "_law_same" (top 52) ["_law_found","_law_due"])(Ab:mg "len"=none)(Aa:mg "isinstance"=none)(Ae:mg "tuple"=none)(Ca:mg "list"=none)(AR:mg "bool"=none)(A6:mg "int"=none)(B3:mg "str"=none)(E2:mg "zip"=none):∀d:Nat,zq P w K mg base d "_law_same" ["_law_found","_law_due"] (gU K d)
 |0=>zB D λvs H Q E h=>by
  obtain⟨v,u,_,h,_⟩:=h;exact h.elim
 |d+1=>by
  have BW:=kD D Ab Aa Ae Ca AR A6 B3 E2 d;refine D.callee (N:=["_law_found","_law_due","_law_one","_law_other"]) ?_ ?_ ?_;walk_at"go";obtain⟨v,u,rfl,h,q⟩:=h;refine⟨[some v,some u,none,none],_,rfl,(z6 (zf (yg (zw wx rfl Aa zg (z9 (z8 1) (z9 (ya (v:=.ty "bool") rfl AR uA rfl) z7)))) (z4 (zr (rA (zw wx rfl Aa zg (z9 (z8 0) (z9 (ya (v:=.ty "bool") rfl AR uA rfl) z7))) (wP (yH (yt hr.units) (z8 0) (z8 1) (zp _)))))) zt)
  (z6 (zf (yg (zw wx rfl Aa zg (z9 (z8 1) (z9 (ya (v:=.ty "str") rfl B3 lF rfl) z7)))) (z4 (zr (rA (zw wx rfl Aa zg (z9 (z8 0) (z9 (ya (v:=.ty "str") rfl B3 lF rfl) z7))) (wP (yH (yt hr.units) (z8 0) (z8 1) (zp _)))))) zt)
  (z6 (zf (yg (zw wx rfl Aa zg (z9 (z8 1) (z9 (ya (v:=.ty "int") rfl A6 uk rfl) z7)))) (z4 (zr (rA (zw wx rfl Aa zg (z9 (z8 0) (z9 (ya (v:=.ty "int") rfl A6 uk rfl) z7))) (rA (j8 (zw wx rfl Aa zg (z9 (z8 0) (z9 (ya (v:=.ty "bool") rfl AR uA rfl) z7)))) (wP (yH (yt hr.units) (z8 0) (z8 1) (zp _))))))) zt)
  (z6 (zf (PW.pt (yR (zo (ux hr.units) (zw wx rfl Aa zg (z9 (z8 1) (z9 (ya (v:=.ty "list") rfl Ca ji rfl) z7))) (zw wx rfl Aa zg (z9 (z8 0) (z9 (ya (v:=.ty "list") rfl Ca ji rfl) z7))) (zp _)) (yS (zo (ux hr.units) (zw wx rfl Aa zg (z9 (z8 1) (z9 (ya (v:=.ty "tuple") rfl Ae yo rfl) z7))) (zw wx rfl Aa zg (z9 (z8 0) (z9 (ya (v:=.ty "tuple") rfl Ae yo rfl) z7))) (zp _))))) (z4 (zr wX)) zt)
  (z6 (zf (zo (ux hr.units) (zw zR rfl Ab zZ (z9 (z8 0) z7)) (zw zR rfl Ab zZ (z9 (z8 1) z7)) (zp _)) (z4 (zr wX)) zt)
  (z6 (xq Vt rfl (ZU rfl E2 (z9 (z8 0) (z9 (z8 1) z7))) (ar 2 3 rfl nd) (z4 (zf (wn (yg (zn BW hr (z9 (z8 2) (z9 (z8 3) z7))))) (z4 (zr wX)) zt)))
  (z4 (zr wX)))))))),?_⟩
  rcases h with⟨i,rfl,rfl⟩|⟨z,rfl,rfl⟩|⟨a,b,xs,ys,rfl,rfl,hq,hl,hx⟩
  ·walk_at"rp";refine⟨_,true,.of (.bl _),xw _,?_⟩;walk_at"rp";refine⟨_,true,.of (.bl _),xw _,?_⟩;walk_at"rp"
   try rw[VT rfl]
   exact q H (Same.refl _)
  ·walk_at"rp";refine⟨_,false,.of (.str _),ig,?_⟩;walk_at"rp";refine⟨_,true,.of (.str _),xw _,?_⟩;walk_at"rp";refine⟨_,true,.of (.str _),xw _,?_⟩;walk_at"rp"
   try rw[VT rfl]
   exact q H (Same.refl _)
  ·have Bo:=hq.2;have Jc:=hq.1;walk_at"rp";refine⟨_,false,.tup Bo,ij,?_⟩;walk_at"rp";refine⟨_,false,.tup Bo,il,?_⟩;walk_at"rp";refine⟨_,false,.tup Bo,ik,?_⟩;walk_at"rp";refine⟨_,_,.tup Bo,qx,_,_,.tup Jc,qx,?_⟩
   try rw[VT rfl]
   walk_at"rp";refine⟨_,_,.tup Bo,xw _,_,_,.tup Jc,xw _,?_⟩
   try rw[VT rfl]
   walk_at"rp";refine⟨_,.inr Jc,_,.inr Bo,?_⟩;rw[hl]
   try rw[VT rfl]
   walk_at"rp";refine⟨⟨⟨_,Jc⟩,⟨_,Bo⟩⟩,ip (xs:=xs) (ys:=ys) (λi σ H2=>(∃x2 x3,σ=[some (.ref a),some (.ref b),x2,x3])/\Same H H2) hl ⟨⟨none,none,rfl⟩,Same.refl H⟩ ?_ ?_ ?_⟩
   ·rintro i σ H2 _ ⟨⟨x2,x3,rfl⟩,s2⟩;exact⟨(zz s2).sqT Jc,(zz s2).sqT Bo⟩
   ·rintro i x y σ H2 H3 h1 h2 ⟨⟨x2,x3,rfl⟩,s2⟩ s3;walk_at"rp";refine⟨x,y,rfl,(hx i x y h1 h2).mono (s2.trans s3),λH4 s4=>?_⟩;walk_at"rp";exact⟨⟨_,_,rfl⟩,s2.trans (s3.trans s4)⟩
   ·rintro σ H2 ⟨⟨x2,x3,rfl⟩,s2⟩;walk_at"rp";exact q H2 s2
theorem vU{H:Hp}:∀{t:Say}{v u:V},SayAt K H v t->SayAt K H u t->SmT K H (t.pieces+1) v u
 | .letter x,v,u,h,h'=>by
  obtain⟨a,rfl,ha⟩:=h;obtain⟨b,rfl,hb⟩:=h';refine .inr (.inr ⟨a,b,_,_,rfl,rfl,⟨ha,hb⟩,rfl,λi x y h1 h2=>?_⟩);rw[h1]at h2;cases h2;rcases VI.mp (VR h1)with e|e
  ·rw[e];exact qK _ _
  ·rw[VX.mp e];exact qK _ _
 | .neg t,v,u,h,h'=>by
  obtain⟨a,v1,rfl,ha,hv⟩:=h;obtain⟨b,u1,rfl,hb,hu⟩:=h';have i1:=vU hv hu;refine .inr (.inr ⟨a,b,_,_,rfl,rfl,⟨ha,hb⟩,rfl,λi x y h1 h2=>?_⟩)
  match i,h1,h2 with
  |0,h1,h2=>cases h1;cases h2;exact SmT.le (d:=1) (by simp only[Say.pieces];lia) (qK _ _)
  |1,h1,h2=>cases h1;cases h2;exact SmT.le (by simp only[Say.pieces];lia) i1
  |i+2,h1,h2=>simp at h1
 | .bin o t1 t2,v,u,h,h'=>by
  obtain⟨a,v1,v2,rfl,ha,Jy,IP⟩:=h;obtain⟨b,u1,u2,rfl,hb,hu1,hu2⟩:=h';have i1:=vU Jy hu1;have i2:=vU IP hu2;have p1:=t1.pieces_pos;have p2:=t2.pieces_pos;refine .inr (.inr ⟨a,b,_,_,rfl,rfl,⟨ha,hb⟩,rfl,λi x y h1 h2=>?_⟩)
  match i,h1,h2 with
  |0,h1,h2=>cases h1;cases h2;exact SmT.le (d:=1) (by simp only[Say.pieces];lia) (qK _ _)
  |1,h1,h2=>cases h1;cases h2;exact SmT.le (by simp only[Say.pieces];lia) i1
  |2,h1,h2=>cases h1;cases h2;exact SmT.le (by simp only[Say.pieces];lia) i2
  |i+3,h1,h2=>simp at h1
def c8(h:SqT K H a (k.map V.bl))(h':SqT K H b (k.map V.bl)):SmT K H 2 (.ref a) (.ref b):=.inr (.inr ⟨a,b,_,_,rfl,rfl,⟨h,h'⟩,rfl,λi x y h1 h2=>by
 rw[h1]at h2;cases h2;obtain⟨c,_,rfl⟩:=VC.mp (VR h1);exact .inl ⟨c,rfl,rfl⟩⟩)
def gO{p j:Addr}(hp:SqT K H p [.ref b,.ref j])(hq:SqT K H q [.ref b',.ref j'])(hb:SqT K H b us)(hT:SaysAt K H us ts)(Bo:SqT K H b' us')(Ln:SaysAt K H us' ts)(Eu:∀t∈ts,t.pieces<=40)(hj:SqT K H j (J.map λq=>V.ref q.1))(hJ:∀q∈J,SqT K H q.1 (q.2.map V.bl))(GF:SqT K H j' (J'.map λq=>V.ref q.1))(hJ':∀q∈J',SqT K H q.1 (q.2.map V.bl))(e:J.map (·.2)=J'.map (·.2)):SmT K H 43 (.ref p) (.ref q):=by
 refine .inr (.inr ⟨p,q,_,_,rfl,rfl,⟨hp,hq⟩,rfl,λi x y h1 h2=>?_⟩)
 match i,h1,h2 with
 |0,h1,h2 =>
  cases h1;cases h2;refine .inr (.inr ⟨b,b',_,_,rfl,rfl,⟨hb,Bo⟩,by rw[hT.len,Ln.len],λi x y h1 h2=>?_⟩);obtain⟨t,ht,hs⟩:=hT.at i x h1;obtain⟨t',Fw,J1⟩:=Ln.at i y h2;rw[ht]at Fw;cases Fw;have h41:t.pieces+1<=41:=Nat.succ_le_succ (Eu t (VR ht));exact SmT.le h41 (vU hs J1)
 |1,h1,h2 =>
  cases h1;cases h2;refine .inr (.inr ⟨j,j',_,_,rfl,rfl,⟨hj,GF⟩,by rw[WA,WA];have:=Vp List.length e;rwa [WA,WA]at this,λi x y h1 h2=>?_⟩);rw[VA]at h1 h2;cases e1:J[i]? with
  |none=>rw[e1]at h1;cases h1
  |some q1 =>
  cases e2:J'[i]? with
  |none=>rw[e2]at h2;cases h2
  |some q2 =>
  rw[e1]at h1;rw[e2]at h2;cases h1;cases h2;have ek:q1.2=q2.2:=by
   have:=Vp (λl:List (List Bool)=>l[i]?) e;simp only[VA,e1,e2,Option.map_some]at this;exact V3 this
  have hk:=hJ' q2 (VR e2);rw[<-ek]at hk;exact SmT.le (by decide) (c8 (hJ q1 (VR e1)) hk)
 |i+2,h1,h2=>simp at h1
def lP(h:(n:Int)<=j):PySem.Builtin.Str.strSliceIndices l (some j) 1 n=PySem.Builtin.Str.strSliceIndices l (some (n:Int)) 1 n:=by
 have h0:¬j<0:=by lia
 have h1:¬((n:Int)<0):=by lia
 have h2:(1:Int)>0:=by decide
 simp only[PySem.Builtin.Str.strSliceIndices,h0,h1,h2,if_false,if_true,Int.min_eq_right h,Int.min_self]
def oh{x:Str}(h:(x.length:Int)<=j):Txt.slice x l (some j)=Txt.slice x l (some (x.length:Int)):=by
 unfold Txt.slice;rw[lP h]
def og{x:Str}{k:Nat}(hp:p<=x.length):Txt.slice x (some (p:Int)) (some ((p:Int)+(k:Int)))=⟨((x.cps.toList.drop p).take k).toArray⟩:=by
 have Cy:=zV x
 by_cases h:p+k<=x.length
 ·rw[UL.mp (slice_closesL (by lia) (by lia) (by lia))]
  congr 3
  lia
 ·rw[oh (by lia),UL.mp (slice_closesL (by lia) (by lia) (by lia))]
  congr 2
  rw[Vu,UM (by rw[V1];lia),UM (by rw[V1];lia)]
def YX{x y:Str}{k:Nat}(hp:p<=x.length)(hk:y.length=k):decide (Txt.slice x (some (p:Int)) (some ((p:Int)+(k:Int)))=y)=nx x.cps.toList p y.cps.toList:=by
 rw[og hp];unfold nx;have hy:=zV y;rw[UA,TU,Vl,SL,hy,hk];constructor
 ·intro h;have h2:=Vp (λz:Str=>z.cps.toList) h;simpa using h2.symm
 ·intro h;rw[<-h]
def kB(h:nx x p [c]=true):nx x p (c::y)=nx x (p+1) y:=by
 unfold nx at h ⊢;obtain⟨t,ht⟩:=Vl.mp h;have h2:x.drop (p+1)=t:=by rw[<-List.drop_drop,<-ht];rfl
 rw[h2,<-ht];simp[List.isPrefixOf]
def pv(h:nx x p (c::y)=true):nx x p [c]=true:=by
 unfold nx at h ⊢;obtain⟨t,ht⟩:=Vl.mp h;rw[Vl,<-ht];exact⟨y++t,rfl⟩
def tE{d:Nat}(Ev:c≠d)(h:nx x p (c::y)=true):nx x p (d::z)=false:=by
 cases e:nx x p (d::z)with
 |false=>rfl
 |true =>
  have h1:=pv h;have h2:=pv e;unfold nx at h1 h2;obtain⟨t,ht⟩:=Vl.mp h1;obtain⟨t',Fw⟩:=Vl.mp h2;rw[<-Fw]at ht;have:=List.head_eq_of_cons_eq ht;exact absurd this Ev
def jF(x:List Nat)(f r p:Nat):zH x (f+1) (r+1) p=if nx x p (lit "(")=true then(if nx x p (lit "(if ")=true then pIf x (zH x f) r p else w4 x (zH x f) r p)else if nx x p (lit "not ")=true then jE (zH x f r (p+4))else ud x r p:=by
 rw[zH,uH,sk,vf];cases h1:nx x p [40]with
 |true =>
  rw[tE (by decide) h1];simp
 |false =>
  have h2:nx x p [40,105,102,32]=false:=by
   cases e:nx x p [40,105,102,32]with
   |false=>rfl
   |true=>rw[pv e]at h1;cases h1
  rw[h2];simp
def Ys(K:W.Frag)(H:Hp)(Q:VK):PR->Prop
 |some (t,r,p)=>∀(a:Addr)(H':Hp)(v:V)(i j:Int),Same H H'->H' a=some (.lst [v,.int i,.int j])->i=(p:Int)->j=(r:Int)->SayAt K H' v t->Q (.ref a) H'
 |none=>∀H',Same H H'->Q .non H'
def oj(K:Nl)(n:Nat):Sp:=λvs H Q _=>∃(x:Str)(p r:Nat)(i j:Int),vs=[.str x,.int i,.int j]/\i=(p:Int)/\j=(r:Int)/\yC x/\p<=x.length/\r<=n/\Ys K H Q (zH x.cps.toList (n+1) r p)
def two(x:Nf)(f r p:Nat):PR:=if nx x p (lit "(if ")=true then pIf x (zH x f) r p else w4 x (zH x f) r p
def bB(K:Nl)(n:Nat):Sp:=λvs H Q _=>∃(x:Str)(p r:Nat)(i j:Int),vs=[.str x,.int i,.int j]/\i=(p:Int)+1/\j=(r:Int)/\yC x/\p+1<=x.length/\nx x.cps.toList p (lit "(")=true/\r<=n/\Ys K H Q (two x.cps.toList (n+1) r p)
def WJ(K:Nl)(x:Str)(n:Nat)(tgt:PR)(H':Hp)(tv:V)(Fs:Str)(o:Op2):Prop :=
 (tv = .non/\tgt=none)\/∃(a:Addr)(v:V)(t1:Say)(r1 p1:Nat)(i j:Int),tv = .ref a/\H' a=some (.lst [v,.int i,.int j])/\i=(p1:Int)/\j=(r1:Int)/\SayAt K H' v t1/\p1<=x.length/\r1<=n/\Fs.length<=6/\tgt=if nx x.cps.toList p1 Fs.cps.toList=true then sC x.cps.toList o t1 (zH x.cps.toList (n+1) r1 (p1+Fs.length))else none
def XM:("if ":Str).length=3:=by decide +kernel
def aa:(" or ":Str).length=4:=by decide +kernel
def ZI:(" and ":Str).length=5:=by decide +kernel
def bc:(" then ":Str).length=6:=by decide +kernel
def XJ:(")":Str).length=1:=by decide +kernel
def bf:("if ":Str).cps.toList=[105,102,32]:=by decide +kernel
def u7{x y:Str}{i:Int}(p k:Nat)(hi:i=(p:Int))(hj:j=(p:Int)+(k:Int))(hp:p<=x.length)(hk:y.length=k):decide (Txt.slice x (some i) (some j)=y)=nx x.cps.toList p y.cps.toList:=by
 subst hi hj;exact YX hp hk
def wo(a:Addr):decide (V.ref a=V.non)=false:=VH λh=>by cases h
def Zc{k:Nat}(D:Def K mg "_law_own_two" (top 55) ["_law_line","_law_at","_law_room"])(A4:zq P w K mg base k "_law_own" ["_law_line","_law_at","_law_room"] (oj K n))(Ab:mg "len"=none):zq P w K mg base (k+1) "_law_own_two" ["_law_line","_law_at","_law_room"] (bB K n):=by
 refine D.callee (N:=["_law_line","_law_at","_law_room","_law_word","_law_told_here","_law_middle","_law_more"]) ?_ ?_ ?_;walk_at"go";obtain⟨x,p,r,i,j,rfl,rfl,rfl,hx,hp,Le,Lb,q⟩:=h;have hxl:=hx.len;have Cy:=zV x;have Fv:x.length<=sizeLine:=by rw[VP];lia
 have Mn:nx x.cps.toList p (lit "(if ")=nx x.cps.toList (p+1) ("if ":Str).cps.toList:=by
  rw[vf]at Le;rw[sk,bf,kB Le]
 refine⟨[some (.str x),some (.int ((p:Int)+1)),some (.int (r:Int)),none,none,none,none],_,rfl,(z6 (zh 3 nd zy)
  (z6 (zh 4 nd yr)
  (z6 (zf (zo (yt hr.units) (zX (z8 0) (za (z8 1)) (za (zu zk (z8 1) z5))) zy (zp _)) (z6 (zh 4 nd (zn A4 hr (z9 (z8 0) (z9 (zu zk (z8 1) z5) (z9 (z8 2) z7)))))
  (z4 (zh 5 nd zy))) (z6 (zh 4 nd (zn A4 hr (z9 (z8 0) (z9 (z8 1) (z9 (z8 2) z7)))))
  (z6 (zh 5 nd zy)
  (z6 (zh 3 nd zy)
  (z4 (zf (PW.pt (wQ (zo eQ (z8 4) yr (zp _)) (xG (zo (yt hr.units) (zX (z8 0) (za (zQ (z8 4) z5)) (za (zu zk (zQ (z8 4) z5) z5))) zy (zp _))))) (z6 (zh 5 nd zy)
  (z4 (zh 3 nd zy))) zt))))))
  (z6 (zf (PW.pt (yR (zo rB (z8 4) yr (zp _)) (yS (zo (ux hr.units) (zX (z8 0) (za (zQ (z8 4) z5)) (za (zu zk (zQ (z8 4) z5) (zw zR rfl Ab zZ (z9 (z8 5) z7))))) (z8 5) (zp _))))) (z4 (zr yr)) zt)
  (z6 (zh 6 nd (zn A4 hr (z9 (z8 0) (z9 (zu zk (zQ (z8 4) z5) (zw zR rfl Ab zZ (z9 (z8 5) z7))) (z9 (zQ (z8 4) z5) z7)))))
  (z6 (zf (PW.pt (yR (zo rB (z8 6) yr (zp _)) (yS (zo (ux hr.units) (zX (z8 0) (za (zQ (z8 6) z5)) (za (zu zk (zQ (z8 6) z5) z5))) zy (zp _))))) (z4 (zr yr)) zt)
  (z4 (zr (zP (z9 (xF (z9 (z8 3) (z9 (zQ (z8 4) z5) (z9 (zQ (z8 6) z5) z7)))) (z9 (zu zk (zQ (z8 6) z5) z5) (z9 (zQ (z8 6) z5) z7)))))))))))),?_⟩
 refine gF ?_;walk_at"rs";refine gF ?_;walk_at"rs";refine wq (C:=fun σ' H'=>∃(tv:V)(Fs:Str)(o:Op2),σ'=[some (.str x),some (.int ((p:Int)+1)),some (.int (r:Int)),some (.str o.word),some tv,some (.str Fs),none]/\Same H H'/\WJ K x n (two x.cps.toList (n+1) r p) H' tv Fs o) (λN hN=>?_) ?_
 ·walk_at"rp";refine⟨Fv,?_⟩;have e3:=u7 (x:=x) (y:=("if ":Str)) (i:=(p:Int)+1) (j:=(p:Int)+1+3) (p+1) 3 (by lia) (by lia) hp XM;rw[e3,<-Mn];cases hb:nx x.cps.toList p (lit "(if ")with
  |true =>
   have h4:=yJ (by lia) hb;rw[show(lit "(if ").length=4 by decide +kernel]at h4;have et:two x.cps.toList (n+1) r p=pIf x.cps.toList (zH x.cps.toList (n+1)) r p:=by unfold two;rw[VB hb]
   walk_at"rp";refine⟨x,p+4,r,_,_,rfl,by lia,rfl,hx,by lia,Lb,?_⟩;cases e:zH x.cps.toList (n+1) r (p+4)with
   |none =>
    intro H' s';walk_at"rp";refine hN _ _ ⟨.non,_,.imp,rfl,s',.inl ⟨rfl,?_⟩⟩;rw[et,pIf,e]
   |some z =>
    obtain⟨t1,r1,p1⟩:=z;intro a H' v i j s' ea ei ej hv;walk_at"rp";have hpo:=yf e (by lia);refine hN _ _ ⟨.ref a,_,.imp,rfl,s',.inr ⟨a,v,t1,r1,p1,i,j,rfl,ea,ei,ej,hv,by lia,by lia,Ud bc,?_⟩⟩;rw[et,pIf,e]
    rfl
  |false =>
   have et:two x.cps.toList (n+1) r p=w4 x.cps.toList (zH x.cps.toList (n+1)) r p:=by unfold two;rw[VF (by rw[hb];decide)]
   walk_at"rp";refine⟨x,p+1,r,_,_,rfl,by lia,rfl,hx,hp,Lb,?_⟩;cases e:zH x.cps.toList (n+1) r (p+1)with
   |none =>
    intro H' s';walk_at"rp";refine⟨trivial,hN _ _ ⟨.non,_,.con,rfl,s',.inl ⟨rfl,?_⟩⟩⟩;rw[et,w4,e]
   |some z =>
    obtain⟨t1,r1,p1⟩:=z;intro a H' v i j s' ea ei ej hv;subst ei ej;have hpo:=yf e (by lia);walk_at"rp";refine⟨trivial,?_⟩;rw[wo a];walk_at"rp";refine⟨_,_,.inl (SqL.of ea),rfl,?_⟩;walk_at"rp";refine⟨_,_,.inl (SqL.of ea),rfl,?_⟩;walk_at"rp";refine⟨Fv,?_⟩;have e4:=u7 (x:=x) (y:=(" or ":Str)) (i:=(p1:Int)) (j:=(p1:Int)+4) p1 4 rfl rfl (by lia) aa;rw[e4];cases ho:nx x.cps.toList p1 (" or ":Str).cps.toList with
    |true =>
     walk_at"rp";refine hN _ _ ⟨.ref a,_,.dis,rfl,s',.inr ⟨a,v,t1,r1,p1,_,_,rfl,ea,rfl,rfl,hv,by lia,by lia,by rw[aa];decide,?_⟩⟩;have hna:nx x.cps.toList p1 (lit " and ")=false:=by
      cases ha:nx x.cps.toList p1 (lit " and ")with
      |false=>rfl
      |true =>
       have F4:nx x.cps.toList p1 (lit " or ")=true:=ho;rw[lW]at F4;rw[pb]at ha;have h1:=pv F4;rw[kB h1]at F4 ha;rw[tE (by decide) F4]at ha;cases ha
     rw[et,w4,e];dsimp only;rw[hna,VF (by decide),VB ho,show nx x.cps.toList p1 (lit " or ")=true from ho,VB rfl]
     rfl
    |false =>
     walk_at"rp";refine hN _ _ ⟨.ref a,_,.con,rfl,s',.inr ⟨a,v,t1,r1,p1,_,_,rfl,ea,rfl,rfl,hv,by lia,by lia,by rw[ZI];decide,?_⟩⟩;rw[et,w4,e];dsimp only;rw[show nx x.cps.toList p1 (lit " or ")=false from ho,VF (by decide:¬(false=true))]
     rfl
 ·rintro σ' H1 ⟨tv,Fs,o,rfl,s1,hC⟩;rcases hC with⟨rfl,et⟩|⟨a,v,t1,r1,p1,i,j,rfl,ea,rfl,rfl,hv,ES,BY,hm6,et⟩
  ·walk_at"rp";rw[et]at q;exact⟨trivial,q H1 s1⟩
  ·walk_at"rp";refine⟨trivial,?_⟩;rw[wo a];walk_at"rp";refine⟨_,_,.inl (SqL.of ea),rfl,?_⟩;walk_at"rp";refine⟨_,_,.inl (SqL.of ea),rfl,by rw[VP];lia,?_⟩;walk_at"rp";refine⟨Fv,?_⟩;have e5:=u7 (x:=x) (y:=Fs) (i:=(p1:Int)) (j:=(p1:Int)+(Fs.length:Int)) p1 Fs.length rfl rfl (by lia) rfl;rw[e5];cases hm:nx x.cps.toList p1 Fs.cps.toList with
   |false =>
    walk_at"rp";rw[et,hm,VF (by decide)]at q;exact q H1 s1
   |true =>
    have hml:=yJ (by lia) hm;rw[zV Fs]at hml;rw[et,hm,VB rfl]at q;walk_at"rp";refine⟨_,_,.inl (SqL.of ea),rfl,?_⟩;walk_at"rp";refine⟨by rw[VP];lia,?_⟩;walk_at"rp";refine⟨_,_,.inl (SqL.of ea),rfl,?_⟩;walk_at"rp";refine⟨x,p1+Fs.length,r1,_,_,rfl,by lia,rfl,hx,by lia,BY,?_⟩;cases e:zH x.cps.toList (n+1) r1 (p1+Fs.length)with
    |none =>
     intro H2 s2;walk_at"rp";rw[e]at q;exact⟨trivial,q H2 (s1.trans s2)⟩
    |some z =>
     obtain⟨t2,r2,p2⟩:=z;intro a2 H2 v2 i j s2 ea2 ei ej IP;subst ei ej;have hpo:=yf e (by lia);walk_at"rp";refine⟨trivial,?_⟩;rw[wo a2];walk_at"rp";refine⟨_,_,.inl (SqL.of ea2),rfl,?_⟩;walk_at"rp";refine⟨_,_,.inl (SqL.of ea2),rfl,?_⟩;walk_at"rp";refine⟨Fv,?_⟩;have e6:=u7 (x:=x) (y:=(")":Str)) (i:=(p2:Int)) (j:=(p2:Int)+1) p2 1 rfl rfl (by lia) XJ;rw[e6];rw[e,sC]at q;cases hc:nx x.cps.toList p2 (")":Str).cps.toList with
     |false =>
      walk_at"rp";rw[show nx x.cps.toList p2 (lit ")")=false from hc,VF (by decide)]at q;exact q H2 (s1.trans s2)
     |true =>
      rw[show nx x.cps.toList p2 (lit ")")=true from hc,VB rfl]at q;walk_at"rp";refine⟨_,_,.inl (s2.seq (SqL.of ea)),rfl,_,_,.inl (SqL.of ea2),rfl,zb (by simp),λp3 H3 n3 s3 e3=>?_⟩;have Je:=s3 _ _ ea2;walk_at"rp";refine⟨_,_,.inl (SqL.of Je),rfl,?_⟩;walk_at"rp";refine⟨_,_,.inl (SqL.of Je),rfl,zb (by simp),λp4 H4 n4 s4 e4=>?_⟩;have t34:=zz (s3.trans s4);exact q p4 H4 _ _ _ (s1.trans (s2.trans (s3.trans s4))) e4 rfl rfl ⟨p3,v,v2,rfl,(zz s4).sqT (SqT.of e3),hv.mono (zz (s2.trans (s3.trans s4))),IP.mono t34⟩
def ZJ:("not ":Str).length=4:=by decide +kernel
def XN:("(":Str).length=1:=by decide +kernel
def rN(x:Str):Str:=if x∈wordsL then ("x":Str)++x else x
def uP:Sp:=λvs H Q _=>∃x:Str,vs=[.str x]/\x.length<=100/\∀H',Same H H'->Q (.str (rN x)) H'
def fL(D:Def K mg "_law_safe" (top 43) ["_law_name"]):zq P w K mg base 1 "_law_safe" ["_law_name"] uP:=by
 refine D.callee (N:=["_law_name"]) ?_ ?_ ?_;walk_at"go";obtain⟨x,rfl,hx,q⟩:=h;refine⟨[some (.str x)],_,rfl,(z6 (zf (zo bt (z8 0) (zP (z9 zy (z9 zy (z9 zy (z9 zy (z9 zy (z9 zy (z9 zy z7)))))))) (by with_unfolding_all rfl)) (z4 (zr (zu zk zy (z8 0)))) zt)
  (z4 (zr (z8 0)))),?_⟩
 walk_at"rp";refine⟨zb (by simp),λp H1 n1 s1 e1=>?_⟩;walk_at"rp";refine⟨_,.inl (SqL.of e1),rfl,rfl,?_⟩;walk_at"rp";rw[show([V.str ("not":Str),V.str ("and":Str),V.str ("or":Str),V.str ("if":Str),V.str ("then":Str),V.str ("say":Str),V.str ("judge":Str)]:N1)=wordsL.map V.str from rfl,uC];have q1:=q H1 s1;unfold rN at q1;refine yx (λc=>?_) (λc=>?_)
 ·obtain⟨y,hy,e⟩:=UW.mp c;have e':=eq_of_beq e;subst e';rw[VB hy]at q1;exact⟨zb (by rw[bJ];lia),q1⟩
 ·rw[VF (λz=>c (UW.mpr ⟨x,z,Uq _⟩))]at q1;exact q1
def ck{x:Str}(h1:1<=x.length)(h6:x.length<=6)(ho:okS x):NmV (rN x):=by
 unfold rN
 by_cases h:x∈wordsL
 ·rw[VB h];exact dH x h
 ·rw[VF h];refine⟨?_,ho⟩;have hl:=zV x;unfold wy;have e:(⟨x.cps.toList.toArray⟩:Str)=x:=by simp
  rw[e,VH h,VH (show¬6<x.cps.toList.length by lia),VH λz=>by rw[z]at hl;simp at hl;lia]
  rfl
def Za(C:zq P w K mg base 1 "_law_safe" ["_law_name"] uP):zq P w K mg base 1 "_law_safe" ["_law_name"] gT:=qf C λ_ _ _ _ ⟨x,e,h1,h2,h3,q⟩=>⟨x,e,by lia,λH' s=>q _ H' s (ck h1 h2 h3)⟩
def cj(x:Str):decide (rN x=x)=!decide (x∈wordsL):=by
 unfold rN
 by_cases h:x∈wordsL
 ·rw[VB h,VT h];refine VH λe=>?_;have:=Vp Str.length e;rw[yB,bJ]at this;lia
 ·rw[VF h,VH h];exact VT rfl
def cA{k:Nat}(D:Def K mg "_law_own" (top 56) ["_law_line","_law_at","_law_room"])(A4:zq P w K mg base k "_law_own" ["_law_line","_law_at","_law_room"] (oj K n))(Bd:zq P w K mg base (k+1) "_law_own_two" ["_law_line","_law_at","_law_room"] (bB K n))(Az:zq P w K mg base 1 "_law_safe" ["_law_name"] uP)(Ab:mg "len"=none):zq P w K mg base (k+2) "_law_own" ["_law_line","_law_at","_law_room"] (oj K (n+1)):=by
 refine D.callee (N:=["_law_line","_law_at","_law_room","_law_told_here","_law_end","_law_name"]) ?_ ?_ ?_;walk_at"go";obtain⟨x,p,r,i,j,rfl,rfl,rfl,hx,hp,Lb,q⟩:=h;have hxl:=hx.len;have Cy:=zV x;have Fv:x.length<=sizeLine:=by rw[VP];lia
 refine⟨[some (.str x),some (.int (p:Int)),some (.int (r:Int)),none,none,none],_,rfl,(z6 (zf (zo (yt hr.units) (z8 2) z5 (zp _)) (z4 (zr yr)) zt)
  (z6 (zf (zo (yt hr.units) (zX (z8 0) (za (z8 1)) (za (zu zk (z8 1) z5))) zy (zp _)) (z4 (zr (zn Bd hr (z9 (z8 0) (z9 (zu zk (z8 1) z5) (z9 (zu vv (z8 2) z5) z7)))))) zt)
  (z6 (zf (zo (yt hr.units) (zX (z8 0) (za (z8 1)) (za (zu zk (z8 1) z5))) zy (zp _)) (z6 (zh 3 nd (zn A4 hr (z9 (z8 0) (z9 (zu zk (z8 1) z5) (z9 (zu vv (z8 2) z5) z7)))))
  (z6 (zf (zo rB (z8 3) yr (zp _)) (z4 (zr yr)) zt)
  (z4 (zr (zP (z9 (xF (z9 zy (z9 (zQ (z8 3) z5) z7))) (z9 (zQ (z8 3) z5) (z9 (zQ (z8 3) z5) z7)))))))) zt)
  (z6 (zh 4 nd (z8 1))
  (z6 (pj Vt (PW.pt (wQ (zo vh (z8 4) (zw zR rfl Ab zZ (z9 (z8 0) z7)) (zp _)) (xG (zo eP (zQ (z8 0) (z8 4)) zy (by with_unfolding_all rfl))))) (z4 (zh 4 nd (zu zk (z8 4) z5))))
  (z6 (zh 5 nd (zX (z8 0) (za (z8 1)) (za (z8 4))))
  (z6 (zf (PW.pt (yR (zo vh (zw zR rfl Ab zZ (z9 (z8 5) z7)) z5 (zp _)) (yR (zo vg (zw zR rfl Ab zZ (z9 (z8 5) z7)) z5 (zp _)) (yS (zo (ux hr.units) (zn Az hr (z9 (z8 5) z7)) (z8 5) (zp _)))))) (z4 (zr yr)) zt)
  (z4 (zr (zP (z9 (xF (z9 zy (z9 (z8 5) z7))) (z9 (z8 4) (z9 (zu vv (z8 2) z5) z7))))))))))))),?_⟩
 cases r with
 |zero =>
  walk_at"rp";rw[zH]at q;exact q H (Same.refl _)
 |succ r =>
  rw[jF]at q;walk_at"rp";rw[show decide (((r+1:Nat):Int)=0)=false from VH (by lia)];walk_at"rp";refine⟨Fv,?_⟩;have e1:=u7 (x:=x) (y:=("(":Str)) (i:=(p:Int)) (j:=(p:Int)+1) p 1 rfl rfl hp XN;rw[e1];cases h1:nx x.cps.toList p ("(":Str).cps.toList with
  |true =>
   have Gu:nx x.cps.toList p (lit "(")=true:=h1;have Hd:=yJ (by lia) Gu;rw[show(lit "(").length=1 by decide +kernel]at Hd;rw[Gu,VB rfl]at q;walk_at"rp";exact⟨x,p,r,_,_,rfl,rfl,by lia,hx,by lia,Gu,by lia,q⟩
  |false =>
   rw[show nx x.cps.toList p (lit "(")=false from h1,VF (by decide)]at q;walk_at"rp";refine⟨Fv,?_⟩;have e4:=u7 (x:=x) (y:=("not ":Str)) (i:=(p:Int)) (j:=(p:Int)+4) p 4 rfl rfl hp ZJ;rw[e4];cases h4:nx x.cps.toList p ("not ":Str).cps.toList with
   |true =>
    have Gs:nx x.cps.toList p (lit "not ")=true:=h4;have Hd:=yJ (by lia) Gs;rw[show(lit "not ").length=4 by decide +kernel]at Hd;rw[Gs,VB rfl]at q;walk_at"rp";refine⟨x,p+4,r,_,_,rfl,by lia,by lia,hx,by lia,by lia,?_⟩;cases e:zH x.cps.toList (n+1) r (p+4)with
    |none =>
     intro H1 s1;rw[e]at q;walk_at"rp";exact⟨trivial,q H1 s1⟩
    |some z =>
     obtain⟨t1,r1,p1⟩:=z;intro a H1 v i j s1 ea ei ej hv;rw[e]at q;walk_at"rp";refine⟨trivial,?_⟩;rw[wo a];walk_at"rp";refine⟨_,_,.inl (SqL.of ea),rfl,zb (by simp),λp3 H3 n3 s3 e3=>?_⟩;have Je:=s3 _ _ ea;walk_at"rp";refine⟨_,_,.inl (SqL.of Je),rfl,_,_,.inl (SqL.of Je),rfl,zb (by simp),λp4 H4 n4 s4 e5=>?_⟩;exact q p4 H4 _ _ _ (s1.trans (s3.trans s4)) e5 ei ej ⟨p3,v,rfl,(zz s4).sqT (SqT.of e3),hv.mono (zz (s3.trans s4))⟩
   |false =>
    rw[show nx x.cps.toList p (lit "not ")=false from h4,VF (by decide)]at q;have hnl:=j9 (x:=x.cps.toList) (p:=p) (by lia);walk_at"rp";refine wq (C:=fun σ' H'=>σ'=[some (.str x),some (.int (p:Int)),some (.int ((r+1:Nat):Int)),none,some (.int ((p+(zK x.cps.toList p).length:Nat):Int)),none]/\H'=H) (λN hN=>?_) ?_
    ·walk_at"rp";refine⟨λm σ H'=>∃i,i+m=(zK x.cps.toList p).length/\σ=[some (.str x),some (.int (p:Int)),some (.int ((r+1:Nat):Int)),none,some (.int ((p+i:Nat):Int)),none]/\H'=H,⟨_,0,S5 _,rfl,rfl⟩,?_⟩;rintro m σ H1 ⟨i,him,rfl,rfl⟩;walk_at"rp";refine⟨Fv,?_⟩;refine yx (λc=>?_) λc=>?_
     ·have A3:=V9 c;walk_at"rp";obtain⟨ch,CB⟩:∃ch,x.cps.toList[p+i]?=some ch:=⟨_,V2 (by lia)⟩
      refine⟨Fv,ch,xf CB,_,_,rfl,rfl,?_⟩;have JB:Txt.contains ("abcdefghijklmnopqrstuvwxyz":Str) (⟨#[ch]⟩:Str)=small ch:=StrLaws.found_one _ _;rw[JB]
      by_cases hi:i<(zK x.cps.toList p).length
      ·obtain⟨ch',h2,h3⟩:=bI hi;rw[CB]at h2;cases h2;rw[h3];walk_at"rp";refine⟨fun σ' H'=>σ'=[some (.str x),some (.int (p:Int)),some (.int ((r+1:Nat):Int)),none,some (.int ((p+(i+1):Nat):Int)),none]/\H'=H1,fun σ' H' ⟨e1,e2⟩=>⟨m-1,by lia,i+1,by lia,e1,e2⟩,?_⟩;walk_at"rp";exact⟨rfl,trivial⟩
      ·have e:i=(zK x.cps.toList p).length:=by lia
       subst e;rw[gn CB];walk_at"rp";exact hN _ _ ⟨rfl,rfl⟩
     ·have IW:¬((p+i:Nat):Int)<(x.length:Int):=λz=>c (VT z);have e:i=(zK x.cps.toList p).length:=by lia
      subst e;exact hN _ _ ⟨rfl,rfl⟩
    ·rintro σ' H1 ⟨rfl,rfl⟩;walk_at"rp";refine⟨Fv,?_⟩;rw[nz hp];have F5:(⟨(zK x.cps.toList p).toArray⟩:Str).length=(zK x.cps.toList p).length:=by simp[Str.length]
     have C9:(zK x.cps.toList p).length<=sizeLine:=by rw[VP];lia
     walk_at"rp";have qn:wy (zK x.cps.toList p)=false->∀H',Same H1 H'->Q .non H':=λh=>by
      rw[ud,h,VF (by decide)]at q;exact q
     have qy:wy (zK x.cps.toList p)=true->Ys K H1 Q (some (.letter ⟨(zK x.cps.toList p).toArray⟩,r,p+(zK x.cps.toList p).length)):=λh=>by
      rw[ud,h,VB rfl]at q;exact q
     unfold wy at qn qy;refine⟨by rw[F5];exact C9,yx (λc=>qn ?_ H1 (Same.refl _)) λc=>⟨by rw[F5];exact C9,yx (λc2=>qn ?_ H1 (Same.refl _)) λc2=>⟨_,rfl,?_,λH2 s2=>?_⟩⟩⟩
     ·have c':=V9 c;rw[F5]at c';have:zK x.cps.toList p=[]:=UC.mp (by lia);rw[this]
      rfl
     ·have c':=V9 c2;rw[F5]at c';rw[VT (show 6<(zK x.cps.toList p).length by lia)];simp
     ·have:¬(6:Int)<(((⟨(zK x.cps.toList p).toArray⟩:Str).length:Nat):Int):=λz=>c2 (VT z);lia
     ·have k1:¬zK x.cps.toList p=[]:=λz=>c (VT (by rw[F5,z,Vx];decide));have k2:¬6<(zK x.cps.toList p).length:=λz=>c2 (VT (by rw[F5];lia));rw[VH k1,VH k2]at qn qy;walk_at"rp";rw[cj];cases hw:decide ((⟨(zK x.cps.toList p).toArray⟩:Str)∈wordsL)with
      |true =>
       walk_at"rp";exact qn (by rw[hw];rfl) H2 s2
      |false =>
       walk_at"rp";refine⟨zb (by simp),λp3 H3 n3 s3 e3=>⟨zb (by simp),λp4 H4 n4 s4 e5=>?_⟩⟩;exact qy (by rw[hw];rfl) p4 H4 _ _ _ (s2.trans (s3.trans s4)) e5 rfl (by lia) ⟨p3,rfl,(zz s4).sqT (SqT.of e3)⟩
theorem mK(D:Def K mg "_law_own" (top 56) ["_law_line","_law_at","_law_room"])(D2:Def K mg "_law_own_two" (top 55) ["_law_line","_law_at","_law_room"])(Az:zq P w K mg base 1 "_law_safe" ["_law_name"] uP)(Ab:mg "len"=none):∀n:Nat,zq P w K mg base (2*n+2) "_law_own" ["_law_line","_law_at","_law_room"] (oj K n)
 |0=>by
  refine D.callee (N:=["_law_line","_law_at","_law_room","_law_told_here","_law_end","_law_name"]) ?_ ?_ ?_;walk_at"go";obtain⟨x,p,r,i,j,rfl,rfl,rfl,hx,hp,Lb,q⟩:=h;have e0:r=0:=by lia
  subst e0;have A4:zq P w K mg base 0 "_law_own" ["_law_line","_law_at","_law_room"] (λ_ _ _ _=>False):=zB D λvs H Q E h=>h;have Bd:zq P w K mg base 0 "_law_own_two" ["_law_line","_law_at","_law_room"] (λ_ _ _ _=>False):=zB D2 λvs H Q E h=>h;refine⟨[some (.str x),some (.int (p:Int)),some (.int ((0:Nat):Int)),none,none,none],_,rfl,(z6 (zf (zo (yt hr.units) (z8 2) z5 (zp _)) (z4 (zr yr)) zt)
  (z6 (zf (zo (yt hr.units) (zX (z8 0) (za (z8 1)) (za (zu zk (z8 1) z5))) zy (zp _)) (z4 (zr (zn Bd hr (z9 (z8 0) (z9 (zu zk (z8 1) z5) (z9 (zu vv (z8 2) z5) z7)))))) zt)
  (z6 (zf (zo (yt hr.units) (zX (z8 0) (za (z8 1)) (za (zu zk (z8 1) z5))) zy (zp _)) (z6 (zh 3 nd (zn A4 hr (z9 (z8 0) (z9 (zu zk (z8 1) z5) (z9 (zu vv (z8 2) z5) z7)))))
  (z6 (zf (zo rB (z8 3) yr (zp _)) (z4 (zr yr)) zt)
  (z4 (zr (zP (z9 (xF (z9 zy (z9 (zQ (z8 3) z5) z7))) (z9 (zQ (z8 3) z5) (z9 (zQ (z8 3) z5) z7)))))))) zt)
  (z6 (zh 4 nd (z8 1))
  (z6 (pj Vt (PW.pt (wQ (zo vh (z8 4) (zw zR rfl Ab zZ (z9 (z8 0) z7)) (zp _)) (xG (zo eP (zQ (z8 0) (z8 4)) zy (by with_unfolding_all rfl))))) (z4 (zh 4 nd (zu zk (z8 4) z5))))
  (z6 (zh 5 nd (zX (z8 0) (za (z8 1)) (za (z8 4))))
  (z6 (zf (PW.pt (yR (zo vh (zw zR rfl Ab zZ (z9 (z8 5) z7)) z5 (zp _)) (yR (zo vg (zw zR rfl Ab zZ (z9 (z8 5) z7)) z5 (zp _)) (yS (zo (ux hr.units) (zn Az hr (z9 (z8 5) z7)) (z8 5) (zp _)))))) (z4 (zr yr)) zt)
  (z4 (zr (zP (z9 (xF (z9 zy (z9 (z8 5) z7))) (z9 (z8 4) (z9 (zu vv (z8 2) z5) z7))))))))))))),?_⟩
  walk_at"rp";rw[zH]at q;exact q H (Same.refl _)
 |n+1=>cA D (mK D D2 Az Ab n) (Zc D2 (mK D D2 Az Ab n) Ab) Az Ab
def yL:List Nat->List (List Nat)
 |[]=>[[]]
 |n::l=>if n=10 then[]::yL l else match yL l with
  |[]=>[[n]]
  |h::t=>(n::h)::t
theorem qT:∀l:List Nat,yL l≠[]
 |[]=>by simp[yL]
 |n::l=>by
  rw[yL];split
  ·simp
  ·split<;>simp
theorem oq:∀(l:List Nat),∀m∈yL l,10∉m
 |[],m,hm=>by
  rw[yL]at hm;rw[VX.mp hm];simp
 |n::l,m,hm=>by
  rw[yL]at hm;have ih:=oq l;split at hm
  ·rcases VI.mp hm with e|e
   ·rw[e];simp
   ·exact ih m e
  ·rename_i hn;split at hm
   ·rw[VX.mp hm];exact λz=>hn (VX.mp z).symm
   ·rename_i h t e;rcases VI.mp hm with e2|e2
    ·rw[e2];intro z;rcases VI.mp z with z|z
     ·exact hn z.symm
     ·exact ih h (by rw[e];exact VE) z
    ·exact ih m (by rw[e];exact VJ _ e2)
def jw{p:List Nat}{ps:List (List Nat)}(h:ps≠[]):jl y (p::ps)=p++(y++jl y ps):=by
 cases ps with
 |nil=>exact absurd rfl h
 |cons q ps=>simp[jl]
theorem gY:∀l:List Nat,jl [10] (yL l)=l
 |[]=>by simp[yL,jl]
 |n::l=>by
  have ih:=gY l;have Be:=qT l;rw[yL];split
  ·rename_i hn;subst hn;rw[jw Be,ih]
   rfl
  ·split
   ·rename_i e;exact absurd e Be
   ·rename_i h t e;rw[e]at ih;cases t with
    |nil =>
     rw[<-ih];simp[jl]
    |cons q t =>
     rw[jw (by simp)]at ih ⊢;rw[<-ih,List.cons_append]
theorem km:∀l:List Nat,((yL l).map λm=>m.length+1).sum=l.length+1
 |[]=>by simp[yL]
 |n::l=>by
  have ih:=km l;have Be:=qT l;rw[yL];split
  ·rw[List.map_cons,Uc,ih,VN,Vx];lia
  ·split
   ·rename_i e;exact absurd e Be
   ·rename_i h t e;rw[e,List.map_cons,Uc]at ih;rw[List.map_cons,Uc,VN,VN];lia
theorem kl:∀(l:List Nat),∀m∈yL l,∀c∈m,c∈l
 |[],m,hm,c,hc=>by
  rw[yL]at hm;rw[VX.mp hm]at hc;cases hc
 |n::l,m,hm,c,hc=>by
  rw[yL]at hm;have ih:=kl l;split at hm
  ·rcases VI.mp hm with e|e
   ·rw[e]at hc;cases hc
   ·exact VJ _ (ih m e c hc)
  ·split at hm
   ·rw[VX.mp hm]at hc;rw[VX.mp hc];exact VE
   ·rename_i h t e;rcases VI.mp hm with e2|e2
    ·rw[e2]at hc;rcases VI.mp hc with z|z
     ·rw[z];exact VE
     ·exact VJ _ (ih h (by rw[e];exact VE) c z)
    ·exact VJ _ (ih m (by rw[e];exact VJ _ e2) c hc)
def toS(m:Nf):Str:=⟨m.toArray⟩
def uQ(m:Nf):(toS m).cps.toList=m:=by simp[toS]
def tY(x:Str):Txt.split x ("\n":Str)=(yL x.cps.toList).map toS:=by
 cases e:yL x.cps.toList with
 |nil=>exact absurd e (qT _)
 |cons p ps =>
  have hj:x=Txt.join ("\n":Str) (toS p::ps.map toS):=by
   refine Str.ext' (Ur.mp ?_);show _=(PySem.Builtin.Str.glued _ _).cps.toList;rw[TQ,wA,show("\n":Str).cps.toList=[10]by decide +kernel];have h2:((toS p::ps.map toS).map λp=>p.cps.toList)=yL x.cps.toList:=by
    rw[e,List.map_cons,uQ,Vi]
    congr 1
    exact(List.map_congr_left (g:=id) (λm _=>uQ m)).trans (List.map_id _)
   rw[h2,gY]
  rw[hj,List.map_cons];refine tZ ("\n":Str) 10 [] (by decide +kernel) (by decide +kernel) _ _ λq hq=>?_;obtain⟨m,hm,rfl⟩:∃m∈yL x.cps.toList,q=toS m:=by
   rcases VI.mp hq with z|z
   ·exact⟨p,by rw[e];exact VE,z⟩
   ·obtain⟨m,hm,rfl⟩:=VC.mp z;exact⟨m,by rw[e];exact VJ _ hm,rfl⟩
  rw[uQ];exact oq _ m hm
def yE(ls:GM):Nat:=(ls.map λl=>l.length+1).sum
def zF(l:Str)(ls:GM):yE (l::ls)=l.length+1+yE ls:=by unfold yE;rw[List.map_cons,Uc]
def xx(a b:GM):yE (a++b)=yE a+yE b:=by unfold yE;rw[VL,List.sum_append]
def w8(x:Str):yE (Txt.split x ("\n":Str))=x.length+1:=by
 rw[tY,yE,Vi];have h:=km x.cps.toList;rw[zV]at h;rw[<-h]
 congr 1
theorem nq:∀ls:List Str,ls.length<=yE ls
 |[]=>VW _
 |l::ls=>by
  have:=nq ls;rw[zF,VN];lia
theorem nt:∀{ls:List Str}{l:Str},l∈ls->l.length+1<=yE ls
 |a::ls,l,h=>by
  rw[zF];rcases VI.mp h with e|e
  ·rw[e];lia
  ·have:=nt e;lia
def wH(x:Str):(Txt.split x ("\n":Str)).length<=x.length+1:=by
 rw[<-w8];exact nq _
def u8{x:Str}(h:yC x):∀l∈Txt.split x ("\n":Str),yC l:=λl hl=>by
 have h1:=nt hl;rw[w8]at h1;refine⟨by have:=h.len;lia,λc hc=>?_⟩;rw[tY]at hl;obtain⟨m,hm,rfl⟩:=VC.mp hl;rw[uQ]at hc;exact h.cps c (kl _ m hm c hc)
theorem xK{x:List Nat}:∀{f r p:Nat}{t:Say}{r' p':Nat},zH x f r p=some (t,r',p')->7*t.letters.length+p<=p'+6
 |0,r,p,t,r',p',h=>by simp[zH]at h
 |f+1,0,p,t,r',p',h=>by simp[zH]at h
 |f+1,r+1,p,t,r',p',h=>by
  rw[zH]at h;split at h
  ·unfold jE at h;split at h
   ·rename_i t1 r1 p1 e;cases h;have:=xK e;show 7*t1.letters.length+p<=_;lia
   ·cases h
  ·split at h
   ·unfold pIf at h;split at h
    ·rename_i t1 r1 p1 e;have i1:=xK e;split at h
     ·obtain⟨t2,p2,e2,HM,rfl,rfl⟩:=xR h;have i2:=xK e2;show 7*(t1.letters++t2.letters).length+p<=_;rw[VU];lia
     ·cases h
    ·cases h
   ·split at h
    ·unfold w4 at h;split at h
     ·rename_i t1 r1 p1 e;have i1:=xK e;split at h
      ·obtain⟨t2,p2,e2,HM,rfl,rfl⟩:=xR h;have i2:=xK e2;show 7*(t1.letters++t2.letters).length+p<=_;rw[VU];lia
      ·split at h
       ·obtain⟨t2,p2,e2,HM,rfl,rfl⟩:=xR h;have i2:=xK e2;show 7*(t1.letters++t2.letters).length+p<=_;rw[VU];lia
       ·cases h
     ·cases h
    ·unfold ud at h;split at h
     ·rename_i hok;cases h;have h1:zK x p≠[]:=λz=>by
       unfold wy at hok;rw[z]at hok;simp at hok
      have h2:0<(zK x p).length:=Ug.mpr h1;show 7*1+p<=_;lia
     ·cases h
def f6(h:vy x=some t):7*t.letters.length<=x.length+6:=by
 unfold vy at h;split at h
 ·rename_i t1 r1 p1 e;split at h
  ·cases h
  ·cases h;have h1:=xK e;have h2:=(yf e (V5 _)).2;lia
 ·cases h
theorem fu:∀{ls:List Str}{ts:List Say}{ks:List (List Bool)}{CD:List Say}{Gh:List (List Bool)},ks≠[]->zG ls ts ks=some (CD,Gh)->CD=ts
 |[],ts,ks,CD,Gh,_,h=>by rw[zG]at h;cases h;rfl
 |l::ls,ts,ks,CD,Gh,hk,h=>by
  rw[zG,VF λz=>hk z.2]at h;split at h
  ·exact fu (by simp) h
  ·cases h
def sP(a b:N3):yV (a++b)=yV a++yV b:=by unfold yV;simp
theorem fw:∀{ls:List Str}{ts:List Say}{CD:List Say}{Gh:List (List Bool)},zG ls ts []=some (CD,Gh)->Gh≠[]->7*(yV CD).length+7+ts.length<=7*(yV ts).length+yE ls
 |[],ts,CD,Gh,h,hk=>by rw[zG]at h;cases h;exact absurd rfl hk
 |l::ls,ts,CD,Gh,h,hk=>by
  have Cy:=zV l;rw[zG]at h;rw[zF];split at h
  ·rename_i c;split at h
   ·rename_i t e;have h1:=fw h hk;have h2:=f6 e;have h3:=yJ (V5 _) c.1;rw[show(lit "say ").length=4 by decide +kernel]at h3;rw[V1]at h2;rw[sP,VU,VU,UF]at h1;have h4:yV [t]=t.letters:=by simp[yV]
    rw[h4]at h1;lia
   ·cases h
  ·split at h
   ·rename_i k e;have h1:=fu (by simp) h;subst h1;unfold sD at e;split at e
    ·rename_i c;have h3:=yJ (V5 _) c.1;have h4:=c.2.1;rw[show(lit "judge ").length=6 by decide +kernel]at h3;rw[V1]at h4;lia
    ·cases e
   ·cases h
def jI(h:yb ls=some (ts,ks)):7*(yV ts).length+7<=yE ls:=by
 unfold yb at h;split at h
 ·rename_i ts1 ks1 e;split at h
  ·cases h
  ·rename_i c;cases h;have:=fw e λz=>c (.inr z);simpa[yV]using this
 ·cases h
def zY(l:Str):Bool:=Txt.startswith l ("say ":Str)
def zS(l:Str):Bool:=Txt.startswith l ("judge ":Str)
def fS(l:Str):Option Say:=vy (l.cps.toList.drop 4)
def vJ(l:Str):zY l=nx l.cps.toList 0 (lit "say "):=kz
def sf(l:Str):zS l=nx l.cps.toList 0 (lit "judge "):=kz
def qD{l:Str}(h:zS l=true):zY l=false:=by
 rw[sf,uu]at h;rw[vJ,uI];exact tE (by decide) h
def oN{l:Str}(h:sD l.cps.toList m=some k):zS l=true:=by
 unfold sD at h;split at h
 ·rename_i c;rw[sf];exact c.1
 ·cases h
def rR(m:Nat)(l:Str):Option (List Bool):=sD l.cps.toList m
theorem tK:∀{ls:List Str}{ts:List Say}{ks:List (List Bool)}{CD:List Say}{Gh:List (List Bool)},zG ls ts ks=some (CD,Gh)->∃A B us qs,ls=A++B/\CD=ts++us/\Gh=ks++qs/\A.map fS=us.map some/\(∀l∈A,zY l=true)/\B.map (rR CD.length)=qs.map some/\(ks≠[]->A=[])
 |[],ts,ks,CD,Gh,h=>by
  rw[zG]at h;cases h;exact⟨[],[],[],[],rfl,by simp,by simp,rfl,by simp,rfl,λ_=>rfl⟩
 |l::ls,ts,ks,CD,Gh,h=>by
  rw[zG]at h;split at h
  ·rename_i c;split at h
   ·rename_i t e;obtain⟨A,B,us,qs,rfl,rfl,rfl,h1,h2,h3,h4⟩:=tK h;refine⟨l::A,B,t::us,qs,rfl,by simp,rfl,?_,λl' Ml=>?_,h3,λz=>absurd c.2 z⟩
    ·rw[List.map_cons,List.map_cons,h1]
     congr 1
    ·rcases VI.mp Ml with z|z
     ·rw[z,vJ];exact c.1
     ·exact h2 l' z
   ·cases h
  ·split at h
   ·rename_i k e;have K':=fu (by simp) h;obtain⟨A,B,us,qs,rfl,hu,rfl,h1,h2,h3,h4⟩:=tK h;have hA:=h4 (by simp);subst hA;subst K';refine⟨[],l::B,[],k::qs,rfl,by simp,by simp,rfl,by simp,?_,λ_=>rfl⟩;rw[List.map_cons,List.map_cons,h3]
    congr 1
   ·cases h
theorem YM{B:List Str}:∀{A:List Str}{us ts:List Say},A.map fS=us.map some->(∀l∈A,zY l=true)->zG (A++B) ts []=zG B (ts++us) []
 |[],us,ts,h,_=>by
  have:us=[]:=by simpa using h.symm
  subst this;simp
 |l::A,[],ts,h,_=>by simp at h
 |l::A,t::us,ts,h,h2=>by
  rw[List.map_cons,List.map_cons]at h;obtain⟨e1,e2⟩:=List.cons.inj h;have hs:=h2 l VE;rw[vJ]at hs;rw[List.cons_append,zG,VB ⟨hs,rfl⟩,show vy (l.cps.toList.drop 4)=some t from e1];dsimp only;rw[YM e2 λl' Ml=>h2 l' (VJ _ Ml),Vm]
  rfl
theorem YN{ts:List Say}:∀{B:List Str}{qs ks:List (List Bool)},B.map (rR ts.length)=qs.map some->zG B ts ks=some (ts,ks++qs)
 |[],qs,ks,h=>by
  have:qs=[]:=by simpa using h.symm
  subst this;rw[zG,List.append_nil]
 |l::B,[],ks,h=>by simp at h
 |l::B,k::qs,ks,h=>by
  rw[List.map_cons,List.map_cons]at h;obtain⟨e1,e2⟩:=List.cons.inj h;have hs:=qD (oN e1);rw[vJ]at hs;rw[zG,VF (λz=>by rw[hs]at z;cases z.1),show sD l.cps.toList ts.length=some k from e1];dsimp only;rw[YN e2,Vm]
  rfl
def ue(h:yb ls=some (ts,ks)):∃A B,ls=A++B/\ts≠[]/\ks≠[]/\A.map fS=ts.map some/\(∀l∈A,zY l=true)/\B.map (rR ts.length)=ks.map some:=by
 unfold yb at h;split at h
 ·rename_i ts1 ks1 e;split at h
  ·cases h
  ·rename_i c;cases h;obtain⟨A,B,us,qs,rfl,hu,hq,h1,h2,h3,h4⟩:=tK e;rw[Tq]at hu hq;subst hu hq;exact⟨A,B,rfl,λz=>c (.inl z),λz=>c (.inr z),h1,h2,h3⟩
 ·cases h
def fz(h1:A.map fS=ts.map some)(h2:∀l∈A,zY l=true)(h3:B.map (rR ts.length)=ks.map some)(n1:ts≠[])(n2:ks≠[]):yb (A++B)=some (ts,ks):=by
 unfold yb;rw[YM h1 h2,Tq,YN h3,Tq];dsimp only;rw[VF (λz=>z.elim n1 n2)]
def bb(h:B.map (rR m)=ks.map some):∀l∈B,zS l=true:=λl hl=>by
 have h1:rR m l∈B.map (rR m):=Vs hl;rw[h]at h1;obtain⟨k,_,e⟩:=VC.mp h1;exact oN e.symm
def pQ{p:α->Bool}{l:List α}(h:∀a∈l,p a=true):l.filter p=l:=List.filter_eq_self.mpr h
def pR{p:α->Bool}{l:List α}(h:∀a∈l,p a=false):l.filter p=[]:=List.filter_eq_nil_iff.mpr λa ha=>by rw[h a ha];decide
def jy{l:Str}(h:zY l=true):zS l=false:=by
 cases e:zS l with
 |false=>rfl
 |true=>rw[qD e]at h;cases h
def aY(hA:∀l∈A,zY l=true)(hB:∀l∈B,zS l=true):(A++B).filter zY=A/\(A++B).filter zS=B:=by
 rw[UU,UU,pQ hA,pQ hB,pR λl hl=>qD (hB l hl),pR λl hl=>jy (hA l hl)];exact⟨List.append_nil _,Tq _⟩
theorem wL{α:Type}{p:α->Bool}:∀{l:List α},l.length<=(l.filter p).length->∀a∈l,p a=true
 |[],_,a,ha=>by cases ha
 |b::l,h,a,ha=>by
  have Hd:=Ut p l;cases hb:p b with
  |false =>
   rw[UH,hb,VF (by decide),VN]at h;lia
  |true =>
   rw[UH,hb,VB rfl,VN,VN]at h;rcases VI.mp ha with z|z
   ·rw[z];exact hb
   ·exact wL (by lia) a z
def uM(h1:(ls.filter zY).length+(ls.filter zS).length=ls.length)(h2:(ls.filter zY).length<=((ls.take (ls.filter zY).length).filter zY).length):∃A B,ls=A++B/\ls.filter zY=A/\ls.filter zS=B/\(∀l∈A,zY l=true)/\∀l∈B,zS l=true:=by
 have Ar:=Ut zY ls;generalize hn:(ls.filter zY).length=n at h1 h2 Ar;have htk:(ls.take n).length=n:=by rw[Vw];lia
 have hA:=wL (p:=zY) (l:=ls.take n) (by rw[htk];exact h2);have hs:=Vp (λl:List Str=>(l.filter zS).length) (Uu n ls);simp only[UU,VU]at hs;rw[pR λl hl=>jy (hA l hl),Vx]at hs;have hB:=wL (p:=zS) (l:=ls.drop n) (by rw[V1];lia);have hf:=aY hA hB;rw[Uu]at hf;exact⟨_,_,(Uu n ls).symm,hf.1,hf.2,hA,hB⟩
def OptAt(K:W.Frag)(H:Hp)(v:V):Option Say->Prop
 |some t=>SayAt K H v t
 |none=>v = .non
def OptsAt(K:W.Frag)(H:Hp):List V->List (Option Say)->Prop
 |[],[]=>True
 |v::vs,o::os=>OptAt K H v o/\OptsAt K H vs os
 |_,_=>False
theorem OptAt.mono{H H':Hp}(t:Tups H H'):∀{v:V}{o:Option Say},OptAt K H v o->OptAt K H' v o
 |_,some _,h=>SayAt.mono t h
 |_,none,h=>h
theorem OptsAt.mono{H H':Hp}(t:Tups H H'):∀{vs:List V}{os:List (Option Say)},OptsAt K H vs os->OptsAt K H' vs os
 |[],[],_=>trivial
 |_::_,_::_,h=>⟨h.1.mono t,OptsAt.mono t h.2⟩
 |[],_::_,h=>h.elim
 |_::_,[],h=>h.elim
theorem OptsAt.app{H:Hp}:∀{vs:List V}{os:List (Option Say)}{ws:List V}{ps:List (Option Say)},OptsAt K H vs os->OptsAt K H ws ps->OptsAt K H (vs++ws) (os++ps)
 |[],[],_,_,_,h=>h
 |_::_,_::_,_,_,h,h2=>⟨h.1,OptsAt.app h.2 h2⟩
 |[],_::_,_,_,h,_=>h.elim
 |_::_,[],_,_,h,_=>h.elim
theorem OptsAt.len{H:Hp}:∀{vs:List V}{os:List (Option Say)},OptsAt K H vs os->vs.length=os.length
 |[],[],_=>rfl
 |_::_,_::_,h=>by rw[VN,VN,OptsAt.len h.2]
 |[],_::_,h=>h.elim
 |_::_,[],h=>h.elim
def tH:Option Say->PyData
 |some t=>xS t
 |none=>.none
theorem nS{H:Hp}:∀{vs:List V}{os:List (Option Say)},OptsAt K H vs os->HasL K H vs (os.map tH)
 |[],[],_=>by rw[List.map_nil];unfold HasL;rfl
 |v::vs,o::os,h=>by
  rw[List.map_cons];unfold HasL;refine⟨v,vs,rfl,?_,nS h.2⟩;cases o with
  |some t=>exact vI h.1
  |none=>rw[show v = .non from h.1];show Has K H .non .none;unfold Has;rfl
 |[],_::_,h=>h.elim
 |_::_,[],h=>h.elim
theorem ng:∀{os:List (Option Say)},(∀t,some t∈os->t.pieces<=40/\∀x∈t.letters,Nm x)->PyData.canLayAll0 (os.map tH)=true/\PyData.depthAll (os.map tH)<=40
 |[],_=>by simp[PyData.canLayAll0,PyData.depthAll]
 |o::os,h=>by
  obtain⟨h1,h2⟩:=ng λt ht=>h t (VJ _ ht);rw[List.map_cons,PyData.canLayAll0,h1,PyData.depthAll];cases o with
  |some t =>
   have ht:=h t VE;have h3:=vL t ht.2;rw[show tH (some t)=xS t from rfl,h3.1];exact⟨rfl,by have:=h3.2;lia⟩
  |none =>
   rw[show tH none = .none from rfl];exact⟨by simp[PyData.canLay0],by simp[PyData.depth];lia⟩
theorem nB:∀os:List (Option Say),((os.map tH).any λy=>PyData.eqv y .none)=os.any Option.isNone
 |[]=>rfl
 |o::os=>by
  rw[List.map_cons,SU,nB os];cases o with
  |none =>
   rw[show PyData.eqv (tH none) .none=true by simp[tH,PyData.eqv]];simp
  |some t =>
   have h1:PyData.eqv (tH (some t)) .none=false:=by
    cases t<;>simp[tH,xS,PyData.eqv]
   rw[h1];simp
def none_mem{os:List (Option Say)}:os.any Option.isNone=true↔none∈os:=by
 rw[UW];constructor
 ·rintro⟨o,ho,h⟩;cases o with
  |none=>exact ho
  |some t=>cases h
 ·exact λh=>⟨none,h,rfl⟩
theorem OptsAt.some{H:Hp}:∀{vs:List V}{os:List (Option Say)},OptsAt K H vs os->none∉os->∃ts,os=ts.map some/\SaysAt K H vs ts
 |[],[],_,_=>⟨[],rfl,trivial⟩
 |v::vs,o::os,h,hn=>by
  obtain⟨ts,rfl,hT⟩:=OptsAt.some h.2 λz=>hn (VJ _ z);cases o with
  |none=>exact absurd VE hn
  |some t=>exact⟨t::ts,rfl,h.1,hT⟩
 |[],_::_,h,_=>h.elim
 |_::_,[],h,_=>h.elim
def BothAt(K:Nl)(H:Hp)(v:V)(ts:N3)(ks:KM):Prop:=∃(p b j:Addr)(us:N1)(J:KF),v = .ref p/\SqT K H p [.ref b,.ref j]/\SqT K H b us/\SaysAt K H us ts/\SqT K H j (J.map λq=>V.ref q.1)/\(∀q∈J,SqT K H q.1 (q.2.map V.bl))/\J.map (·.2)=ks
def BothAt.same(s:Same H H')(h:BothAt K H v ts ks):BothAt K H' v ts ks:=by
 obtain⟨p,b,j,us,J,e,h1,h2,h3,h4,h5,h6⟩:=h;have t:=zz s;exact⟨p,b,j,us,J,e,t.sqT h1,t.sqT h2,h3.mono t,t.sqT h4,λq hq=>t.sqT (h5 q hq),h6⟩
abbrev nlS(x:Str):List Str:=Txt.split x ("\n":Str)
def mh(K:Nl):Sp:=λvs H Q _=>∃x:Str,vs=[.str x]/\yC x/\∀(v:V)(H':Hp),Same H H'->OptAt K H' v (vy x.cps.toList)->Q v H'
def kg(K:Nl):Sp:=λvs H Q _=>∃x:Str,vs=[.str x]/\yC x/\x.length<=900/\(yb (nlS x)=none->∀H',Same H H'->Q .non H')/\∀ts ks,yb (nlS x)=some (ts,ks)->∀(v:V)(H':Hp),Same H H'->BothAt K H' v ts ks->Q v H'
def b9{k:Nat}(D:Def K mg "_law_own_saying" (top 57) ["_law_line"])(A4:zq P w K mg base k "_law_own" ["_law_line","_law_at","_law_room"] (oj K 40))(Ab:mg "len"=none):zq P w K mg base (k+1) "_law_own_saying" ["_law_line"] (mh K):=by
 refine D.callee (N:=["_law_line","_law_told_here"]) ?_ ?_ ?_;walk_at"go";obtain⟨x,rfl,hx,q⟩:=h;have hxl:=hx.len;have Cy:=zV x;have Fv:x.length<=sizeLine:=by rw[VP];lia
 refine⟨[some (.str x),none],_,rfl,(z6 (zh 1 nd (zn A4 hr (z9 (z8 0) (z9 z5 (z9 z5 z7)))))
  (z6 (zf (PW.pt (yR (zo rB (z8 1) yr (zp _)) (yS (zo (ux hr.units) (zQ (z8 1) z5) (zw zR rfl Ab zZ (z9 (z8 0) z7)) (zp _))))) (z4 (zr yr)) zt)
  (z4 (zr (zQ (z8 1) z5))))),?_⟩
 walk_at"rp";refine⟨x,0,40,_,_,rfl,rfl,rfl,hx,V5 _,VW _,?_⟩;unfold vy at q;cases e:zH x.cps.toList (40+1) 40 0 with
 |none =>
  intro H1 s1;rw[e]at q;walk_at"rp";exact⟨trivial,q .non H1 s1 rfl⟩
 |some z =>
  obtain⟨t1,r1,p1⟩:=z;intro a H1 v i j s1 ea ei ej hv;subst ei ej;have hpo:=yf e (V5 _);rw[e]at q;dsimp only at q;walk_at"rp";refine⟨trivial,?_⟩;rw[wo a];walk_at"rp";refine⟨_,_,.inl (SqL.of ea),rfl,?_⟩;walk_at"rp";refine⟨Fv,?_⟩
  by_cases A3:p1<x.cps.toList.length
  ·rw[VB A3]at q;rw[show decide ((p1:Int)=(x.length:Int))=false from VH (by lia)];walk_at"rp";exact q .non H1 s1 rfl
  ·rw[VF A3]at q;rw[show decide ((p1:Int)=(x.length:Int))=true from VT (by lia)];walk_at"rp";exact⟨_,_,.inl (SqL.of ea),rfl,q v H1 s1 hv⟩
def sX(xs:N1)(h:0<=j):xA xs none (some j)=xs.take j.toNat:=by
 unfold xA;rw[HT.sIx_none];have e:HT.sIx xs.length xs.length (some j)=min j.toNat xs.length:=by
  show(if j<0 then(j+(xs.length:Int)).toNat else min j.toNat xs.length)=_;rw[VF (by lia)]
 rw[e,List.drop_zero,Nat.sub_zero]
 by_cases hj:j.toNat<=xs.length
 ·rw[Nat.min_eq_left hj]
 ·rw[Nat.min_eq_right (by lia),V4,UM (by lia)]
def nL(xs:N1)(h:0<=j):xA xs (some j) none=xs.drop j.toNat:=by
 unfold xA;rw[HT.sIx_none];have e:HT.sIx xs.length 0 (some j)=min j.toNat xs.length:=by
  show(if j<0 then(j+(xs.length:Int)).toNat else min j.toNat xs.length)=_;rw[VF (by lia)]
 rw[e]
 by_cases hj:j.toNat<=xs.length
 ·rw[Nat.min_eq_left hj,UM (by rw[V1];exact VW _)]
 ·rw[Nat.min_eq_right (by lia),Tw (VW _),Tw (by lia),List.take_nil]
def vT(l:Str):Str:=⟨(l.cps.toList.drop 6).toArray⟩
def tL(l:Str):(vT l).cps.toList=l.cps.toList.drop 6:=by simp[vT]
def oQ(l:Str):(vT l).length=(l.cps.toList.drop 6).length:=by rw[<-tL,zV]
def vq(m:Nat)(l:Str):Bool:=decide ((l.cps.toList.drop 6).length=m)&&(l.cps.toList.drop 6).all yn
def kM{l:Str}(hj:zS l=true):rR m l=if vq m l=true then some ((l.cps.toList.drop 6).map λc=>decide (c=121))else none:=by
 unfold rR sD vq;rw[sf]at hj
 by_cases h:(l.cps.toList.drop 6).length=m/\(l.cps.toList.drop 6).all yn=true
 ·rw[VB ⟨hj,h.1,h.2⟩,VT h.1,h.2]
  rfl
 ·rw[VF λz=>h z.2,VF λz=>h ?_];rw[Vy,TU]at z;exact z
def bR(l:Str):List Bool:=(l.cps.toList.drop 6).map λc=>decide (c=121)
theorem kN{m:Nat}:∀{B:List Str},(∀l∈B,zS l=true)->(∀l∈B,vq m l=true)->B.map (rR m)=(B.map bR).map some
 |[],_,_=>rfl
 |l::B,h1,h2=>by
  rw[List.map_cons,List.map_cons,List.map_cons,kN (λl' h=>h1 l' (VJ _ h)) λl' h=>h2 l' (VJ _ h),kM (h1 l VE),VB (h2 l VE)]
  rfl
def Yp(c:Nat):Txt.contains ("yn":Str) (⟨#[c]⟩:Str)=yn c:=by
 have h:Txt.contains ("yn":Str) (⟨#[c]⟩:Str)=decide (c∈("yn":Str).cps.toList):=StrLaws.found_one _ _;rw[h,show("yn":Str).cps.toList=[121,110]by decide +kernel];unfold yn;rw[UA,TU,To,TU,TU];simp
def Wu(c:Nat):decide ((⟨#[c]⟩:Str)=("y":Str))=decide (c=121):=by
 have hy:("y":Str)=⟨#[121]⟩:=by decide +kernel
 rw[hy]
 by_cases h:c=121
 ·subst h;rfl
 ·rw[VH h];refine VH λe=>h ?_;have h3:=Vp (λz:Str=>z.cps.toList) e;simpa using h3
def cS(c:Nat):V:=.str ⟨#[c]⟩
def wF(h:∀ts ks,yb ls=some (ts,ks)->False):yb ls=none:=by
 cases e:yb ls with
 |none=>rfl
 |some z=>exact(h z.1 z.2 e).elim
def w6(h:yb ls=some (ts,ks)):(ls.filter zY).map fS=ts.map some/\(ls.filter zS).map (rR ts.length)=ks.map some/\(ls.filter zY).length+(ls.filter zS).length=ls.length/\(ls.filter zY).length<=((ls.take (ls.filter zY).length).filter zY).length/\1<=ts.length/\1<=ks.length/\(ls.filter zY).length=ts.length/\(ls.filter zS).length=ks.length:=by
 obtain⟨A,B,rfl,h1,h2,h3,h4,h5⟩:=ue h;have hf:=aY h4 (bb h5);have e1:=Vp List.length h3;have e2:=Vp List.length h5;rw[WA,WA]at e1 e2;rw[hf.1,hf.2];refine⟨h3,h5,by rw[VU],?_,Ug.mpr h1,Ug.mpr h2,e1,e2⟩;rw[List.take_left,pQ h4];exact VW _
def fG{k:Nat}(D:Def K mg "_law_own_list" (top 58) ["_law_text"])(AB:zq P w K mg base k "_law_own_saying" ["_law_line"] (mh K))(Ab:mg "len"=none)(Ae:mg "tuple"=none):zq P w K mg base (k+1) "_law_own_list" ["_law_text"] (kg K):=by
 refine D.callee (N:=["_law_text","_law_lines","_law_sayings","_law_rows","_law_row_here"]) ?_ ?_ ?_;walk_at"go";obtain⟨x,rfl,hx,hx9,qn,qy⟩:=h;have HP:=u8 hx;have Ar:(Txt.split x ("\n":Str)).length<=901:=Vz (wH x) (by lia);unfold nlS at qn qy;refine⟨[some (.str x),none,none,none,none],_,rfl,(z6 (zh 1 nd (pi (z8 0) (z9 zy z7)))
  (z6 (xk 2 nd (ixs:=[]) (zU (own:=["_law_line"]) (N:=[]) rfl) rfl (zA (z8 1)) (λ_ _ _ _=>(uN (yg (wN (z8 0) (z9 zy z7))))) (λ_ _ _ _=>(zn AB hr (z9 (zX (z8 0) (za z5) zM) z7))) rfl)
  (z6 (xk 3 nd (ixs:=[]) (zU (own:=["_law_line"]) (N:=[]) rfl) rfl (zA (z8 1)) (λ_ _ _ _=>(uN (yg (wN (z8 0) (z9 zy z7))))) (λ_ _ _ _=>(zX (z8 0) (za z5) zM)) rfl)
  (z6 (zf (PW.pt (yR (zo vh (zw zR rfl Ab zZ (z9 (z8 2) z7)) z5 (zp _)) (yR (zo vh (zw zR rfl Ab zZ (z9 (z8 3) z7)) z5 (zp _)) (yR (zo (am hr.units) yr (z8 2) (by with_unfolding_all rfl)) (yS (zo (ux hr.units) (zu zk (zw zR rfl Ab zZ (z9 (z8 2) z7)) (zw zR rfl Ab zZ (z9 (z8 3) z7))) (zw zR rfl Ab zZ (z9 (z8 1) z7)) (zp _))))))) (z4 (zr yr)) zt)
  (z6 (zf (zo vh (zw zR rfl Ab zZ (z9 (yd (ixs:=[]) (zU (own:=["_law_line"]) (N:=[]) rfl) rfl (zA (zX (z8 1) zM (za (zw zR rfl Ab zZ (z9 (z8 2) z7))))) (λ_ _ _ _=>(uN (yg (wN (z8 0) (z9 zy z7))))) (λ_ _ _ _=>(z8 0)) rfl) z7)) (zw zR rfl Ab zZ (z9 (z8 2) z7)) (zp _)) (z4 (zr yr)) zt)
  (z6 (xq Vt rfl (zA (z8 3)) (xt 4 nd) (z4 (zf (PW.pt (yR (zo (ux hr.units) (zw zR rfl Ab zZ (z9 (z8 4) z7)) (zw zR rfl Ab zZ (z9 (z8 2) z7)) (zp _)) (yS (zo vg (zw zR rfl Ab zZ (z9 (yd (ixs:=[]) (zU (own:=["_law_sign"]) (N:=[]) rfl) rfl (p0 (z8 4)) (λ_ _ _ _=>(uN (zo eU (z8 0) zy (by with_unfolding_all rfl)))) (λ_ _ _ _=>(z8 0)) rfl) z7)) z5 (zp _))))) (z4 (zr yr)) zt)))
  (z4 (zr (xF (z9 (zJ yN rfl Ae yo (z9 (z8 2) z7)) (z9 (zJ yN rfl Ae yo (z9 (yd (ixs:=[]) (zU (own:=["_law_row_here"]) (N:=[]) rfl) rfl (zA (z8 3)) (λ_ _ _ _=>zD) (λ_ _ _ _=>(zJ yN rfl Ae yo (z9 (yd (ixs:=[]) (zU (own:=["_law_sign"]) (N:=[]) rfl) rfl (p0 (z8 0)) (λ_ _ _ _=>zD) (λ_ _ _ _=>(yH (yt hr.units) (z8 0) zy (zp _))) rfl) z7))) rfl) z7)) z7))))))))))),?_⟩
 walk_at"rp";refine⟨by decide +kernel,by rw[VP];lia,by lia,λDl H1 n1 s1 e1=>?_⟩;generalize Txt.split x ("\n":Str)=ls at HP Ar qn qy e1;have hlz:(ls.map V.str).length<=sizeLine:=by rw[WA,VP];lia
 walk_at"rp";refine .inl ⟨⟨_,SqL.of e1⟩,λC s₀ H₀ ex=>?_⟩;refine v3 (xs:=ls.map V.str) (λD i ys H2=>OptsAt K H2 ys (((ls.take i).filter zY).map fS)/\H2 D=some (.lst ys)/\Same H1 H2/\H1 D=none) hlz ?_ ?_ ?_ ?_
 ·intro D H2 n2 s2 e2;exact⟨trivial,e2,s2,n2⟩
 ·rintro D i ys H2 ⟨hO,e2,s2,_⟩;refine⟨s2.seq (SqL.of e1),e2,?_⟩;rw[hO.len,WA];exact Vz (Ut _ _) (by rw[Vw];lia)
 ·rintro D i v ys H2 hv ⟨hO,e2,s2,n2⟩;rw[VA]at hv;cases hl:ls[i]? with
  |none=>rw[hl]at hv;cases hv
  |some l =>
   rw[hl]at hv;cases hv;have E9:=HP l (VR hl);have ET:i<(ls.map V.str).length:=by rw[WA];exact(VY.mp hl).1
   have Ko:l.length<=sizeLine:=by rw[VP];have:=E9.len;lia
   walk_at"rp";show if zY l=true then _ else _
   cases hb:zY l with
   |true =>
    walk_at"rp";refine⟨Ko,?_⟩;rw[show(4:Int)=((4:Nat):Int)from rfl,xn];refine⟨_,rfl,o6 E9,λv H3 s3 hv=>?_⟩;have HI:OptAt K H3 v (fS l):=by
     unfold fS;simpa using hv
    have tl:=yT (o:=.lst (ys++[v])) (s3 _ _ e2);refine⟨s3 _ _ e2,CN.mk ET ⟨?_,zv,zi (s2.trans s3) n2 _,n2⟩⟩;rw[V7,hl,UU,VL,show(Option.some l).toList=[l]from rfl,UH,hb,VB rfl];exact OptsAt.app ((hO.mono (zz s3)).mono tl) ⟨HI.mono tl,trivial⟩
   |false =>
    walk_at"rp";refine CN.mk ET ⟨?_,e2,s2,n2⟩;rw[V7,hl,UU,VL,show(Option.some l).toList=[l]from rfl,UH,hb,VF (by decide)];simpa using hO
 rintro Ds us H2 ⟨hO,e2,s2,n2⟩;rw[WA,V4]at hO;walk_at"rp";refine .inl ⟨⟨_,s2.seq (SqL.of e1)⟩,λC s₀ H₀ ex=>?_⟩;refine v3 (xs:=ls.map V.str) (λD i ys H3=>ys=(((ls.take i).filter zS).map vT).map V.str/\H3 D=some (.lst ys)/\Same H2 H3/\H2 D=none) hlz ?_ ?_ ?_ ?_
 ·intro D H3 n3 s3 e3;exact⟨rfl,e3,s3,n3⟩
 ·rintro D i ys H3 ⟨rfl,e3,s3,_⟩;refine⟨(s2.trans s3).seq (SqL.of e1),e3,?_⟩;rw[WA,WA];exact Vz (Ut _ _) (by rw[Vw];lia)
 ·rintro D i v ys H3 hv ⟨rfl,e3,s3,n3⟩;rw[VA]at hv;cases hl:ls[i]? with
  |none=>rw[hl]at hv;cases hv
  |some l =>
   rw[hl]at hv;cases hv;have E9:=HP l (VR hl);have ET:i<(ls.map V.str).length:=by rw[WA];exact(VY.mp hl).1
   have Ko:l.length<=sizeLine:=by rw[VP];have:=E9.len;lia
   walk_at"rp";show if zS l=true then _ else _
   cases hb:zS l with
   |true =>
    walk_at"rp";refine⟨Ko,?_⟩;rw[show(6:Int)=((6:Nat):Int)from rfl,xn];refine⟨e3,CN.mk ET ⟨?_,zv,zi s3 n3 _,n3⟩⟩;rw[V7,hl,UU,VL,VL,show(Option.some l).toList=[l]from rfl,UH,hb,VB rfl]
    rfl
   |false =>
    walk_at"rp";refine CN.mk ET ⟨?_,e3,s3,n3⟩;rw[V7,hl,UU,VL,VL,show(Option.some l).toList=[l]from rfl,UH,hb,VF (by decide)];simp
 rintro Dr rs H3 ⟨rfl,e3,s3,n3⟩;rw[WA,V4]at e3;have MH:=s3 _ _ e2;have e13:=(s2.trans s3) _ _ e1;have Lp:=hO.mono (zz s3);have E8:=hO.len;rw[WA]at E8;have G4:=s1.trans (s2.trans s3);have Gn:(((ls.filter zS).map vT).map V.str).length=(ls.filter zS).length:=by rw[WA,WA]
 have IS:(ls.map V.str).length=ls.length:=WA _;walk_at"rp";refine⟨_,.inl (SqL.of MH),?_⟩;rw[E8];refine yx (λc=>qn (wF λts ks e=>?_) _ G4) λc=>?_
 ·have:=V9 c;have:=w6 e;lia
 refine⟨_,.inl (SqL.of e3),?_⟩;rw[Gn];refine yx (λc2=>qn (wF λts ks e=>?_) _ G4) λc2=>?_
 ·have:=V9 c2;have:=w6 e;lia
 have GD:=ng (os:=(ls.filter zY).map fS) λt ht=>by
  obtain⟨l,_,e⟩:=VC.mp ht;exact vR e
 refine⟨.none,((ls.filter zY).map fS).map tH,(by unfold Has;rfl),(by unfold Has;exact⟨Ds,_,rfl,SqL.of MH,nS Lp⟩),(by simp[PyData.canLay0]),GD.1,by have:=GD.2;lia,?_⟩;rw[nB];cases F5:((ls.filter zY).map fS).any Option.isNone with
 |true =>
  walk_at"rp";refine qn (wF λts ks e=>?_) _ G4;have h1:=none_mem.mp F5;rw[(w6 e).1]at h1;obtain⟨t,_,e⟩:=VC.mp h1;cases e
 |false =>
 have hnm:none∉(ls.filter zY).map fS:=λz=>by
  rw[none_mem.mpr z]at F5;cases F5
 obtain⟨ts,K',hT3⟩:=Lp.some hnm;have G9:ts.length=(ls.filter zY).length:=by
  have:=Vp List.length K';rw[WA,WA]at this;exact this.symm
 walk_at"rp";refine⟨_,.inl (SqL.of MH),_,.inl (SqL.of e3),_,.inl (SqL.of e13),?_⟩;rw[E8,Gn,IS];refine yx (λc4=>qn (wF λts ks e=>?_) _ G4) λc4=>?_
 ·have h1:=w6 e;rw[VT (show(((ls.filter zY).length:Nat):Int)+((ls.filter zS).length:Int)=(ls.length:Int)by lia)]at c4;cases c4
 have EQ:(ls.filter zY).length+(ls.filter zS).length=ls.length:=by
  rcases Nat.decEq ((ls.filter zY).length+(ls.filter zS).length) ls.length with z|z
  ·rw[VH (show¬(((ls.filter zY).length:Nat):Int)+((ls.filter zS).length:Int)=(ls.length:Int)by lia)]at c4;exact absurd rfl c4
  ·exact z
 walk_at"rp";refine⟨_,.inl (SqL.of MH),?_⟩;rw[E8];walk_at"rp";refine .inl ⟨_,SqL.of e13,λDc H4 n4 s4 e4=>?_⟩;rw[sX _ (by lia),Vu,<-List.map_take]at e4;walk_at"rp";refine .inl ⟨⟨_,SqL.of e4⟩,λC s₀ H₀ ex=>?_⟩;refine v3 (xs:=(ls.take (ls.filter zY).length).map V.str) (λD i ys H5=>ys=(((ls.take (ls.filter zY).length).take i).filter zY).map V.str/\H5 D=some (.lst ys)/\Same H4 H5/\H4 D=none) (by rw[WA,Vw,VP];lia) ?_ ?_ ?_ ?_
 ·intro D H5 n5 s5 e5;exact⟨rfl,e5,s5,n5⟩
 ·rintro D i ys H5 ⟨rfl,e5,s5,_⟩;refine⟨s5.seq (SqL.of e4),e5,?_⟩;rw[WA];exact Vz (Ut _ _) (by rw[Vw];lia)
 ·rintro D i v ys H5 hv ⟨rfl,e5,s5,n5⟩;rw[VA]at hv;cases hl:(ls.take (ls.filter zY).length)[i]? with
  |none=>rw[hl]at hv;cases hv
  |some l =>
   rw[hl]at hv;cases hv;have ET:i<((ls.take (ls.filter zY).length).map V.str).length:=by rw[WA];exact(VY.mp hl).1
   walk_at"rp";show if zY l=true then _ else _
   cases hb:zY l with
   |true =>
    walk_at"rp";refine⟨e5,CN.mk ET ⟨?_,zv,zi s5 n5 _,n5⟩⟩;rw[V7,hl,UU,VL,show(Option.some l).toList=[l]from rfl,UH,hb,VB rfl]
    rfl
   |false =>
    walk_at"rp";refine CN.mk ET ⟨?_,e5,s5,n5⟩;rw[V7,hl,UU,VL,show(Option.some l).toList=[l]from rfl,UH,hb,VF (by decide)];simp
 rintro Dk ys5 H5 ⟨rfl,e5,s5,n5⟩;rw[WA,V4]at e5;have G3:=s4.trans s5;have Ju:=G4.trans G3;have e25:=G3 _ _ MH;have e35:=G3 _ _ e3;walk_at"rp";refine⟨_,.inl (SqL.of e5),?_⟩;walk_at"rp";refine⟨_,.inl (SqL.of e25),?_⟩;rw[E8,WA];walk_at"rp";refine yx (λc5=>qn (wF λts ks e=>?_) _ Ju) λc5=>?_
 ·have:=V9 c5;have:=w6 e;lia
 have IW:(ls.filter zY).length<=((ls.take (ls.filter zY).length).filter zY).length:=by
  rcases U2 ((ls.take (ls.filter zY).length).filter zY).length (ls.filter zY).length with z|z
  ·exact absurd (VT (by lia)) c5
  ·exact z
 obtain⟨A1,B1,hAB,hA,hB,hA1,hB1⟩:=uM EQ IW;have bad:∀l∈ls.filter zS,vq ts.length l=false->yb ls=none:=λl hl hg=>wF λCD ks e=>by
  have hy:=w6 e;have h1:rR CD.length l∈(ls.filter zS).map (rR CD.length):=Vs hl;rw[hy.2.1]at h1;obtain⟨k',_,e'⟩:=VC.mp h1;have hlj:zS l=true:=hB1 l (hB▸hl);rw[show CD.length=ts.length by lia,kM hlj,hg,VF (by decide)]at e';cases e'
 walk_at"rp";refine .inl ⟨⟨_,SqL.of e35⟩,?_⟩;refine xj (xs:=((ls.filter zS).map vT).map V.str) (λi σ H6=>∃iv:Option V,σ=[some (.str x),some (.ref Dl),some (.ref Ds),some (.ref Dr),iv]/\Same H5 H6/\∀l∈(ls.filter zS).take i,vq ts.length l=true) ⟨none,rfl,Same.refl _,by simp⟩ ?_ ?_ ?_
 ·rintro i σ H6 _ ⟨iv,rfl,s6,_⟩;exact SqL.of (s6 _ _ e35)
 ·rintro i v σ H6 hv ⟨iv,rfl,s6,A0⟩;rw[VA,VA]at hv;cases hl:(ls.filter zS)[i]? with
  |none=>rw[hl]at hv;cases hv
  |some l =>
   rw[hl]at hv;cases hv;have HR:=VR hl;have E9:=HP l (SS.mp HR).1;have Fz:=oQ l;have hrz:(vT l).length<=sizeLine:=by
    rw[Fz,V1,zV,VP];have:=E9.len;lia
   have nxt:vq ts.length l=true->∀k∈(ls.filter zS).take (i+1),vq ts.length k=true:=λhg k hk=>by
    rw[V7,hl]at hk;rcases VQ.mp hk with z|z
    ·exact A0 k z
    ·have:k=l:=by simpa using z
     rw[this];exact hg
   walk_at"rp";refine⟨hrz,_,.inl (SqL.of (s6 _ _ e25)),?_⟩;rw[E8];walk_at"rp";refine yx (λc6=>qn (bad l HR ?_) _ (Ju.trans s6)) λc6=>?_
   ·unfold vq;rw[VH λz=>?_]
    ·rfl
    ·rw[VT (show(((vT l).length:Nat):Int)=((ls.filter zY).length:Int)by lia)]at c6;cases c6
   have J7:(l.cps.toList.drop 6).length=ts.length:=by
    rcases Nat.decEq (l.cps.toList.drop 6).length ts.length with z|z
    ·rw[VH (show¬(((vT l).length:Nat):Int)=((ls.filter zY).length:Int)by lia)]at c6;exact absurd rfl c6
    ·exact z
   intro C s₀ H₀ ex;refine iJ (x:=vT l) (λD j ys H7=>ys=(((l.cps.toList.drop 6).take j).filter λc=>!yn c).map cS/\H7 D=some (.lst ys)/\Same H6 H7/\H6 D=none) hrz ?_ ?_ ?_ ?_
   ·intro D H7 n7 s7 e7;exact⟨rfl,e7,s7,n7⟩
   ·rintro D j ys H7 ⟨rfl,e7,s7,_⟩;refine⟨e7,?_⟩;rw[WA];exact Vz (Ut _ _) (by rw[Vw];lia)
   ·rintro D j ch ys H7 CB ⟨rfl,e7,s7,n7⟩;have Cz:(l.cps.toList.drop 6)[j]?=some ch:=by
     rw[<-tL];simpa using CB
    have HW:j<(vT l).length:=by rw[Fz];exact(VY.mp Cz).1
    walk_at"rp";refine⟨_,_,rfl,rfl,?_⟩;rw[Yp];cases hb:yn ch with
    |true =>
     walk_at"rp";refine CN.mk HW ⟨?_,e7,s7,n7⟩;rw[V7,Cz,UU,VL,show(Option.some ch).toList=[ch]from rfl,UH,hb,VF (by decide)];simp
    |false =>
     walk_at"rp";refine⟨e7,CN.mk HW ⟨?_,zv,zi s7 n7 _,n7⟩⟩;rw[V7,Cz,UU,VL,show(Option.some ch).toList=[ch]from rfl,UH,hb,VB (by decide)]
     rfl
   rintro Dz ys7 H7 ⟨rfl,e7,s7,n7⟩;rw[Fz,V4]at e7;walk_at"rp";refine⟨_,.inl (SqL.of e7),?_⟩;rw[WA];walk_at"rp";refine yx (λc7=>qn (bad l HR ?_) _ (Ju.trans (s6.trans s7))) λc7=>?_
   ·have h1:=V9 c7;unfold vq;rw[VT J7];show(l.cps.toList.drop 6).all yn=false;refine Bool.eq_false_iff.mpr λz=>?_;rw[pR λc hc=>by rw[Vf.mp z c hc];rfl]at h1;simp at h1
   ·have h0:((l.cps.toList.drop 6).filter λc=>!yn c)=[]:=by
     refine UC.mp ?_;rcases Nat.eq_zero_or_pos ((l.cps.toList.drop 6).filter λc=>!yn c).length with z|z
     ·exact z
     ·exact absurd (VT (by lia)) c7
    refine⟨_,rfl,s6.trans s7,nxt ?_⟩;unfold vq;rw[VT J7];show(l.cps.toList.drop 6).all yn=true;refine Vf.mpr λc hc=>?_;cases hy:yn c with
    |true=>rfl
    |false =>
     have:c∈((l.cps.toList.drop 6).filter λc=>!yn c):=SS.mpr ⟨hc,by rw[hy];rfl⟩;rw[h0]at this;cases this
 rintro σ H6 ⟨iv,rfl,s6,A0⟩;rw[Gn,V4]at A0;walk_at"rp";refine⟨_,.inl (SqL.of (s6 _ _ e25)),λrb H7 s7 h7=>?_⟩;have s37:=G3.trans (s6.trans s7);have e37:=(s6.trans s7) _ _ e35;refine .inl ⟨⟨_,SqL.of e37⟩,λC s₀ H₀ ex=>?_⟩;refine vE (xs:=((ls.filter zS).map vT).map V.str) (λD i ys H8=>∃J:List (Addr×List Bool),ys=(J.map λq=>V.ref q.1)/\J.map (·.2)=((ls.filter zS).take i).map bR/\i<=(ls.filter zS).length/\(∀q∈J,SqT K H8 q.1 (q.2.map V.bl))/\H8 D=some (.lst ys)/\Same H7 H8/\H7 D=none) (by rw[Gn,VP];lia) ?_ ?_ ?_ ?_
 ·intro D H8 n8 s8 e8;exact⟨[],rfl,rfl,V5 _,(λq hq=>by cases hq),e8,s8,n8⟩
 ·rintro D i ys H8 ⟨J,rfl,hJ,hi,_,e8,s8,_⟩;refine⟨s8.seq (SqL.of e37),e8,?_⟩;have h1:=Vp List.length hJ;rw[WA,WA,Vw]at h1;rw[WA];lia
 ·rintro D i v ys H8 hv ⟨J,rfl,hJ,hi,hJr,e8,s8,n8⟩;rw[VA,VA]at hv;cases hl:(ls.filter zS)[i]? with
  |none=>rw[hl]at hv;cases hv
  |some l =>
   rw[hl]at hv;cases hv;have ET:i<(ls.filter zS).length:=(VY.mp hl).1;have HR:=VR hl;have E9:=HP l (SS.mp HR).1;have Fz:=oQ l;have hrz:(vT l).length<=sizeLine:=by
    rw[Fz,V1,zV,VP];have:=E9.len;lia
   walk_at"rp";intro C2 Y' RN ex2;refine nK (x:=vT l) (λD2 j ys H9=>ys=(((l.cps.toList.drop 6).take j).map λc=>decide (c=121)).map V.bl/\j<=(l.cps.toList.drop 6).length/\H9 D2=some (.lst ys)/\Same H8 H9/\H8 D2=none) hrz ?_ ?_ ?_ ?_
   ·intro D2 H9 n9 s9 e9;exact⟨rfl,V5 _,e9,s9,n9⟩
   ·rintro D2 j ys H9 ⟨rfl,hj,e9,s9,_⟩;exact⟨e9,by rw[WA,WA,Vw];lia⟩
   ·rintro D2 j ch ys H9 CB ⟨rfl,hj,e9,s9,n9⟩;have Cz:(l.cps.toList.drop 6)[j]?=some ch:=by
     rw[<-tL];simpa using CB
    have HW:j<(l.cps.toList.drop 6).length:=(VY.mp Cz).1;walk_at"rp";rw[Wu];refine⟨e9,CN.mk (by rw[Fz];exact HW) ⟨?_,HW,zv,zi s9 n9 _,n9⟩⟩;rw[V7,Cz,VL,VL]
    rfl
   rintro D2 ys9 H9 ⟨rfl,_,e9,s9,n9⟩;rw[Fz,V4]at e9;walk_at"rp";refine⟨_,.inl (SqL.of e9),λra Ha sa ha=>?_⟩;have e8a:=(s9.trans sa) _ _ e8;have tl:=yT (o:=.lst ((J.map λq=>V.ref q.1)++[V.ref ra])) e8a;refine⟨e8a,CN.mk (by rw[Gn];exact ET) ⟨J++[(ra,bR l)],by rw[VL];rfl,?_,ET,λq hq=>?_,zv,zi (s8.trans (s9.trans sa)) n8 _,n8⟩⟩
   ·rw[VL,hJ,V7,hl,VL]
    rfl
   ·rcases VQ.mp hq with z|z
    ·exact tl.sqT ((zz (s9.trans sa)).sqT (hJr q z))
    ·rw[VX.mp z];exact tl.sqT ha
 rintro Dj ys8 H8 ⟨J,rfl,hJ,_,hJr,e8,s8,n8⟩;rw[Gn,V4]at hJ;walk_at"rp";refine⟨_,.inl (SqL.of e8),λrj H9 s9 h9=>⟨zb (by simp),λrp Cf n10 BX Ls=>?_⟩⟩;have JT:=s8.trans (s9.trans BX);have Mb:yb ls=some (ts,J.map (·.2)):=by
  rw[hAB,hJ];refine fz (by rw[<-hA];exact K') hA1 ?_ ?_ ?_
  ·rw[<-hB];exact kN (λl hl=>hB1 l (hB▸hl)) A0
  ·intro z;rw[z,Vx]at G9;exact absurd (VT (by lia)) c
  ·intro z;have h1:=Vp List.length z;rw[WA,Vx]at h1;exact absurd (VT (by lia)) c2
 exact qy _ _ Mb (.ref rp) Cf (G4.trans (s37.trans JT)) ⟨rp,rb,rj,us,J,rfl,SqT.of Ls,(zz JT).sqT h7,hT3.mono (zz (s37.trans JT)),(zz BX).sqT h9,λq hq=>(zz (s9.trans BX)).sqT (hJr q hq),rfl⟩
def vW:Vd->Str
 | .bounds=>("bounds":Str)
 | .row _=>("row":Str)
 | .even=>("even":Str)
 | .ok=>("told":Str)
def vN:Vd->Int
 | .row n=>(n:Int)
 |_=>-1
def Few(ts:N3)(ks:KM):Prop:=ts.length<=6/\ks.length<=21/\∃ss,NamesOf ts ss/\ss.length<=5
def sL(ts:List Say)(ks:List (List Bool)):Vd->Prop
 | .bounds=>¬Few ts ks
 | .row n=>Few ts ks/\∃ss R,NamesOf ts ss/\FitRows ts ss R/\(∃k,ks[n]?=some k/\k∉R)/\∀k∈ks.take n,k∈R
 | .even=>Few ts ks/\(∀ss R,NamesOf ts ss->FitRows ts ss R->∀k∈ks,k∈R)/\ks.length % 2=0
 | .ok=>Few ts ks/\(∀ss R,NamesOf ts ss->FitRows ts ss R->∀k∈ks,k∈R)/\ks.length % 2=1
theorem um{R:List (List Bool)}:∀ks:List (List Bool),(∀k∈ks,k∈R)\/∃n,(∃k,ks[n]?=some k/\k∉R)/\∀k∈ks.take n,k∈R
 |[]=>.inl λk hk=>by cases hk
 |k::ks=>by
  by_cases hk:k∈R
  ·rcases um (R:=R) ks with h|⟨n,⟨k',h1,h2⟩,h3⟩
   ·exact .inl λk' h'=>(VI.mp h').elim (λe=>by rw[e];exact hk) (h k')
   ·refine .inr ⟨n+1,⟨k',by simpa using h1,h2⟩,λz hz=>?_⟩;rw[List.take_succ_cons]at hz;exact(VI.mp hz).elim (λe=>by rw[e];exact hk) (h3 z)
  ·exact .inr ⟨0,⟨k,rfl,hk⟩,λz hz=>by simp at hz⟩
def cq(ts:N3)(ks:KM):∃vd,sL ts ks vd:=by
 by_cases hf:Few ts ks
 ·by_cases hr:∃ss R,NamesOf ts ss/\FitRows ts ss R/\¬∀k∈ks,k∈R
  ·obtain⟨ss,R,h1,h2,h3⟩:=hr;rcases um (R:=R) ks with h|⟨n,h4,h5⟩
   ·exact absurd h h3
   ·exact⟨.row n,hf,ss,R,h1,h2,h4,h5⟩
  ·have ha:∀ss R,NamesOf ts ss->FitRows ts ss R->∀k∈ks,k∈R:=λss R h1 h2=>by
    rcases um (R:=R) ks with h|⟨n,⟨k,h4,h5⟩,_⟩
    ·exact h
    ·exact absurd ⟨ss,R,h1,h2,λz=>h5 (z k (VR h4))⟩ hr
   rcases Nat.mod_two_eq_zero_or_one ks.length with e|e
   ·exact⟨.even,hf,ha,e⟩
   ·exact⟨.ok,hf,ha,e⟩
 ·exact⟨.bounds,hf⟩
def qE{vd:Vd}(h:sL ts ks vd)(hn:¬Few ts ks):vd = .bounds:=by
 cases vd with
 |bounds=>rfl
 |row n=>exact absurd h.1 hn
 |even=>exact absurd h.1 hn
 |ok=>exact absurd h.1 hn
def gD{vd:Vd}(h:sL ts ks vd)(hf:Few ts ks)(hN:NamesOf ts ss)(hF:FitRows ts ss R)(hk:ks[i]?=some k)(CA:k∉R)(A0:∀k∈ks.take i,k∈R):vd = .row i:=by
 cases vd with
 |bounds=>exact absurd hf h
 |row n =>
  obtain⟨_,AW,R',M4,hF',⟨k',B0,IF⟩,Jc⟩:=h;cases NamesOf.eq M4 hN;cases FitRows.eq hF' hF
  congr 1
  rcases Th n i with z|z|z
  ·exact absurd (A0 k' (VR (by rw[U4 z];exact B0))) IF
  ·exact z
  ·exact absurd (Jc k (VR (by rw[U4 z];exact hk))) CA
 |even=>exact absurd (h.2.1 ss R hN hF k (VR hk)) CA
 |ok=>exact absurd (h.2.1 ss R hN hF k (VR hk)) CA
def gC{vd:Vd}(h:sL ts ks vd)(hf:Few ts ks)(hN:NamesOf ts ss)(hF:FitRows ts ss R)(A0:∀k∈ks,k∈R):(vd = .even/\ks.length % 2=0)\/(vd = .ok/\ks.length % 2=1):=by
 cases vd with
 |bounds=>exact absurd hf h
 |row n =>
  obtain⟨_,AW,R',M4,hF',⟨k',B0,IF⟩,Jc⟩:=h;cases NamesOf.eq M4 hN;cases FitRows.eq hF' hF;exact absurd (A0 k' (VR B0)) IF
 |even=>exact .inl ⟨rfl,h.2.2⟩
 |ok=>exact .inr ⟨rfl,h.2.2⟩
def ui(ts:N3):Prop:=∀t∈ts,t.pieces<=40/\∀y∈t.letters,Nm y
def jd(h:ui ts):∀y∈yV ts,Nm y:=λy hy=>by
 unfold yV at hy;rw[List.mem_flatten]at hy;obtain⟨l,hl,hy⟩:=hy;obtain⟨t,ht,rfl⟩:=VC.mp hl;exact(h t ht).2 y hy
def lZ(h1:1<=ts.length)(h6:ts.length<=6)(hs:ui ts)(hN:NamesOf ts ss)(h5:ss.length<=5):Lst ts ss :=
 ⟨h1,h6,λt ht=>(hs t ht).1,λx hx=>(hN.2.1 x).mpr hx,h5,λx hx=>jd hs x ((hN.2.1 x).mp hx)⟩
def j6(h6:ts.length<=6)(hs:ui ts)(hl:(yV ts).length<=63):dN ts (yV ts):=⟨by lia,λx hx=>hx,hl,jd hs⟩
def Yl{vd:Vd}(h1:1<=ts.length)(k1:1<=ks.length)(hs:ui ts)(hl:(yV ts).length<=63)(h:sL ts ks vd):∃xs,sK ts xs/\Yv ts xs ks vd:=by
 have hW:sK ts (yV ts):=λh6=>j6 h6 hs hl;have few:Few ts ks->∃ss,sK ts ss/\(Lst ts ss/\1<=ks.length/\ks.length<=21):=λ⟨h6,Lr,ss,hN,h5⟩=>⟨ss,λ_=>Lst.toW (lZ h1 h6 hs hN h5),lZ h1 h6 hs hN h5,k1,Lr⟩
 cases vd with
 |bounds =>
  refine⟨yV ts,hW,?_⟩;show noB ts ks.length
  by_cases h6:6<ts.length
  ·exact .inr (.inl h6)
  by_cases Lr:21<ks.length
  ·exact .inr (.inr (.inr (.inl Lr)))
  ·refine .inr (.inr (.inr (.inr (.inr λss hN=>?_))));rcases U2 5 ss.length with z|z
   ·exact z
   ·exact absurd ⟨by lia,by lia,ss,hN,z⟩ (show¬Few ts ks from h)
 |row n =>
  obtain⟨ss,e1,e2⟩:=few h.1;exact⟨ss,e1,e2,h.2⟩
 |even =>
  obtain⟨ss,e1,e2⟩:=few h.1;exact⟨ss,e1,e2,h.2⟩
 |ok =>
  obtain⟨ss,e1,e2⟩:=few h.1;exact⟨ss,e1,e2,h.2⟩
def aW{q0:Addr×List Bool}(h:J[i]?=some q0):atI (J.map λq=>V.ref q.1) (i:Int)=some (V.ref q0.1):=xf (by rw[VA,h];rfl)
def ka(K:Nl):Sp:=λvs H Q _=>∃(b j:Addr)(us:N1)(ts:N3)(J:KF)(vd:Vd),vs=[.ref b,.ref j]/\SqT K H b us/\SaysAt K H us ts/\SqT K H j (J.map λq=>V.ref q.1)/\(∀q∈J,SqT K H q.1 (q.2.map V.bl))/\J.length<=1000/\ts.length<=1000/\1<=ts.length/\ui ts/\(yV ts).length<=63/\sL ts (J.map (·.2)) vd /\
 ∀(p:Addr)(H':Hp),Same H H'->H' p=some (.lst [.str (vW vd),.int (vN vd)])->Q (.ref p) H'
def fE(D:Def K mg "_law_seat" (top 59) ["_law_sayings","_law_judges"])(AM:zq P w K mg base 41 "_law_all_names" ["_law_sayings"] (md K))(AV:zq P w K mg base 42 "_law_fit_rows" ["_law_sayings"] (mf K))(Ab:mg "len"=none)(Aj:mg "range"=none):zq P w K mg base 43 "_law_seat" ["_law_sayings","_law_judges"] (ka K):=by
 refine D.callee (N:=["_law_sayings","_law_judges","_law_fit","_law_number"]) ?_ ?_ ?_;walk_at"go";obtain⟨b,j,us,ts,J,vd,rfl,hb,hT,hj,hJ,hJl,G9,h1,hs,hl63,hV,q⟩:=h;have KY:=hT.len;have Gn:(J.map λq=>V.ref q.1).length=J.length:=WA _;have hkl:(J.map (·.2)).length=J.length:=WA _;refine⟨[some (.ref b),some (.ref j),none,none],_,rfl,(z6 (zf (PW.pt (yR (zo vg (zw zR rfl Ab zZ (z9 (z8 0) z7)) z5 (zp _)) (yR (zo vg (zw zR rfl Ab zZ (z9 (zn AM hr (z9 (z8 0) z7)) z7)) z5 (zp _)) (yS (zo vg (zw zR rfl Ab zZ (z9 (z8 1) z7)) z5 (zp _)))))) (z4 (zr (zP (z9 zy (z9 (vw xC z5) z7))))) zt)
  (z6 (zh 2 nd (zn AV hr (z9 (z8 0) z7)))
  (z6 (xq Vt rfl (yQ rfl Aj (z9 (zw zR rfl Ab zZ (z9 (z8 1) z7)) z7)) (xt 3 nd) (z4 (zf (zo (eS hr.units) (zQ (z8 1) (z8 3)) (z8 2) (by with_unfolding_all rfl)) (z4 (zr (zP (z9 zy (z9 (z8 3) z7))))) zt)))
  (z6 (zf (zo (yt hr.units) (zu xE (zw zR rfl Ab zZ (z9 (z8 1) z7)) z5) z5 (zp _)) (z4 (zr (zP (z9 zy (z9 (vw xC z5) z7))))) zt)
  (z4 (zr (zP (z9 zy (z9 (vw xC z5) z7))))))))),?_⟩
 walk_at"rp";refine⟨_,.inr hb,?_⟩;rw[KY];refine yx (λc=>?_) λc=>?_
 ·have Hb:=qE hV λz=>by have:=V9 c;have:=z.1;lia
  subst Hb;exact⟨1,rfl,zb (by simp),λp H2 n2 s2 e2=>q p H2 s2 e2⟩
 have h6:ts.length<=6:=by
  rcases U2 6 ts.length with z|z
  ·exact absurd (VT (by lia)) c
  ·exact z
 refine⟨b,us,ts,yV ts,rfl,.inr hb,hT,j6 h6 hs hl63,λt ht=>(hs t ht).1,λpn H1 ss n1 s1 e1 hN=>?_⟩;walk_at"rp";refine⟨_,.inl (SqL.of e1),?_⟩;rw[WA];walk_at"rp";refine yx (λc2=>?_) λc2=>?_
 ·have Hb:=qE hV λ⟨_,_,AW,M4,h5'⟩=>by
   rw[NamesOf.eq M4 hN]at h5';have:=V9 c2;lia
  subst Hb;exact⟨1,rfl,zb (by simp),λp H2 n2 s2 e2=>q p H2 (s1.trans s2) e2⟩
 have h5:ss.length<=5:=by
  rcases U2 5 ss.length with z|z
  ·exact absurd (VT (by lia)) c2
  ·exact z
 have Lg:=(zz s1).sqT hj;refine⟨_,.inr Lg,?_⟩;rw[Gn];refine yx (λc3=>?_) λc3=>?_
 ·have Hb:=qE hV λz=>by have:=V9 c3;have:=z.2.1;lia
  subst Hb;exact⟨1,rfl,zb (by simp),λp H2 n2 s2 e2=>q p H2 (s1.trans s2) e2⟩
 have Lr:J.length<=21:=by
  rcases U2 21 J.length with z|z
  ·exact absurd (VT (by lia)) c3
  ·exact z
 have CP:Few ts (J.map (·.2)):=⟨h6,by lia,ss,hN,h5⟩
 walk_at"rp";refine⟨b,us,ts,ss,rfl,.inr ((zz s1).sqT hb),hT.mono (zz s1),lZ h1 h6 hs hN h5,λpf H2 ss2 R n2 s2 e2 hR hN2 hF h32=>?_⟩;have hj2:=(zz s2).sqT Lg;cases NamesOf.eq hN2 hN;walk_at"rp";refine⟨_,.inr hj2,⟨by lia,by rw[Gn];lia⟩,?_⟩;rw[Gn,Vu];refine we (λi σ H3=>∃iv:Option V,σ=[some (.ref b),some (.ref j),some (.ref pf),iv]/\H3=H2/\∀k∈(J.map (·.2)).take i,k∈R.map (·.2)) ⟨none,rfl,rfl,by simp⟩ ?_ ?_
 ·rintro i σ H3 hi ⟨iv,rfl,rfl,A0⟩;obtain⟨q0,hq0⟩:∃q0,J[i]?=some q0:=⟨_,V2 hi⟩
  have hqm:=VR hq0;have HV:(J.map (·.2))[i]?=some q0.2:=by rw[VA,hq0];rfl
  have JE:(R.any λr=>r.2==q0.2)=true↔q0.2∈R.map (·.2):=by
   rw[UW,VC];exact⟨λ⟨r,hr,e⟩=>⟨r,hr,eq_of_beq e⟩,λ⟨r,hr,e⟩=>⟨r,hr,UL.mpr e⟩⟩
  walk_at"rp";rw[Int.zero_add];refine⟨_,_,.inr hj2,aW hq0,?_⟩;walk_at"rp";refine⟨q0.2,R,(zz (s1.trans s2)).sqT (hJ q0 hqm),SqL.of e2,hR,?_⟩;cases hb:R.any λr=>r.2==q0.2 with
  |true =>
   walk_at"rp";refine⟨_,rfl,trivial,λk hk=>?_⟩;rw[V7,HV]at hk;rcases VQ.mp hk with z|z
   ·exact A0 k z
   ·have:k=q0.2:=by simpa using z
    rw[this];exact JE.mp hb
  |false =>
   have CA:q0.2∉R.map (·.2):=λz=>by
    rw[JE.mpr z]at hb;cases hb
   have Hb:=gD hV CP hN hF HV CA A0;subst Hb;walk_at"rp";exact⟨zb (by simp),λp H4 n4 s4 e4=>q p H4 (s1.trans (s2.trans s4)) e4⟩
 ·rintro σ H3 ⟨iv,rfl,rfl,A0⟩;rw[<-hkl,V4]at A0;have Hb:=gC hV CP hN hF A0;walk_at"rp";refine⟨_,.inr hj2,by decide,?_⟩;rw[Gn];rcases Hb with⟨rfl,h2⟩|⟨rfl,h2⟩
  ·rw[show decide (((J.length:Nat):Int) % 2=0)=true from VT (by lia)];walk_at"rp";exact⟨1,rfl,zb (by simp),λp H4 n4 s4 e4=>q p H4 (s1.trans (s2.trans s4)) e4⟩
  ·rw[show decide (((J.length:Nat):Int) % 2=0)=false from VH (by lia)];walk_at"rp";exact⟨1,rfl,zb (by simp),λp H4 n4 s4 e4=>q p H4 (s1.trans (s2.trans s4)) e4⟩
structure pG(K:Nl)(C Cj Cn Co Cr Ce Cb:Addr)(bn bo br be:Bool):Prop where
 x:XCls K C
 m:W.mroIn K C (.ref Cj)=some true
 n:W.kitOne K (.ref C) (.ref Cn)=some bn
 o:W.kitOne K (.ref C) (.ref Co)=some bo
 r:W.kitOne K (.ref C) (.ref Cr)=some br
 e:W.kitOne K (.ref C) (.ref Ce)=some be
 b:W.kitOne K (.ref C) (.ref Cb)=some false
 v:W.kitOne K (.ref C) (.type "ValueError")=some true
def TO(K:W.Frag)(H:Hp)(x:Str)(fv:V)(w:Str)(n:Int):Bool->Prop
 |false=>(vy x.cps.toList=none/\w=("text":Str)/\n = -1)\/∃t,vy x.cps.toList=some t/\SayAt K H fv t/\w=("told":Str)/\n = -1
 |true=>(yb (nlS x)=none/\w=("text":Str)/\n = -1)\/∃ts ks vd,yb (nlS x)=some (ts,ks)/\sL ts ks vd/\w=vW vd/\n=vN vd/\(vd = .ok->BothAt K H fv ts ks)
def Wx(H:Hp)(bn bo br be:Bool)(dx:HK)(w:Str)(n:Int):Prop:=∃ns:List Int,ns=[if bn=true then 1 else 0,if bo=true then 1 else 0,if br=true then 1 else 0,if be=true then 1 else 0,0]/\ns.sum=1/\1∈ns/\atI [V.str "text",V.str "bounds",V.str "row",V.str "even",V.str "none"] ((ns.idxOf 1:Nat):Int)=some (V.str w)/\(br=false->dx=none/\n = -1)/\(br=true->∃d,dx=some d/\H d=some (.xd [("number",.int n)]))
def XE{c:Prop}[Decidable c](R:XK->Prop)(h1:R E)(h2:∀E,R E->if c then sp vs H Q E else Jt L9 H' Q' E):if c then sp vs H Q E else Jt L9 H' Q' E:=h2 E h1
def pP(s:Same H H')(h:dx=none\/∃d fs,dx=some d/\H d=some (.xd fs)):dx=none\/∃d fs,dx=some d/\H' d=some (.xd fs) :=
 h.imp id λ⟨d,fs,e1,e2⟩=>⟨d,fs,e1,s _ _ e2⟩
def k7(x:Str)(b:Bool):Prop:=yC x/\x.length<=900/\(b=true->x.length<=453)
def gW(K:Nl):Sp:=λvs H Q _=>∃(x:Str)(b:Bool),vs=[.str x,.bl b]/\k7 x b/\∀(a kd:Addr)(fv:V)(w:Str)(n:Int)(H':Hp),Same H H'->H' a=some (.lst [.ref kd,fv])->H' kd=some (.lst [.str w,.int n])->TO K H' x fv w n b->Q (.ref a) H'
def oO(h:yb ls=some (ts,ks)):ui ts/\1<=ts.length/\1<=ks.length/\ts.length<=ls.length/\ks.length<=ls.length:=by
 obtain⟨A,B,rfl,h1,h2,h3,_,h5⟩:=ue h;have e1:=Vp List.length h3;have e2:=Vp List.length h5;rw[WA,WA]at e1 e2;refine⟨λt ht=>?_,?_,?_,?_,?_⟩
 ·have:some t∈A.map fS:=by rw[h3];exact Vs ht
  obtain⟨l,_,e⟩:=VC.mp this;exact vR e
 ·exact Ug.mpr h1
 ·exact Ug.mpr h2
 ·rw[VU];lia
 ·rw[VU];lia
def kP{x:Str}(hx:x.length<=453)(h:yb (nlS x)=some (ts,ks)):(yV ts).length<=63:=by
 have h1:=jI h;rw[w8]at h1;lia
theorem cE(D:Def K mg "_law_told" (top 60) ["_law_text","_law_whole"])(FT:yw P w K mg base 133 "read" ["text"] (gR K Cn Co Cr Ce))(Bc:yw P w K mg base 86 "read_saying" ["text"] (qQ K Cn))(AQ:XCls K Cj)(kn:pG K Cn Cj Cn Co Cr Ce Cb true false false false)(ko:pG K Co Cj Cn Co Cr Ce Cb false true false false)(kr:pG K Cr Cj Cn Co Cr Ce Cb false false true false)(ke:pG K Ce Cj Cn Co Cr Ce Cb false false false true)(na:NoAttr K Cr "number")
  (AD:mg "JudgeError"=some (.ref Cj)) (An:mg "OutOfBounds"=some (.ref Co)) (A2:mg "BadRow"=some (.ref Cr)) (Bi:mg "Even"=some (.ref Ce)) (Ai:mg "NoText"=some (.ref Cn)) (BC:mg "Barred"=some (.ref Cb)) (AC:mg "ValueError"=none) (Aa:mg "isinstance"=none) (E3:mg "sum"=none) (A6:mg "int"=none):zq P w K mg base 134 "_law_told" ["_law_text","_law_whole"] (gW K):=by
 refine D.callee (N:=["_law_text","_law_whole","_law_found","_law_kind","error","_law_kinds"]) ?_ ?_ ?_;walk_at"go";obtain⟨x,b,rfl,⟨hx,hx9,hx4⟩,q⟩:=h;refine⟨[some (.str x),some (.bl b),none,none,none,none],_,rfl,(z6 (zh 2 nd yr)
  (z6 (zh 3 nd (zP (z9 zy (z9 (vw xC z5) z7))))
  (z6 (Xy (Yj (yg (z8 1)) (gk (i:=4) (j:=2) FT hr (by lia) (z9 (z8 0) z7) AD AQ (λ_=>(z6 (zh 5 nd (zP (z9 (zw xD rfl Aa zg (z9 (z8 4) (z9 (yF Ai) z7))) (z9 (zw xD rfl Aa zg (z9 (z8 4) (z9 (yF An) z7))) (z9 (zw xD rfl Aa zg (z9 (z8 4) (z9 (yF A2) z7))) z7)))))
  (z6 (ub 5 nd (ixs:=[]) (zU (own:=["_law_one"]) (N:=[]) rfl) rfl (oK (zu zk (z8 5) (zP (z9 (zw xD rfl Aa zg (z9 (z8 4) (z9 (yF Bi) z7))) (z9 (zw xD rfl Aa zg (z9 (z8 4) (z9 (yF BC) z7))) z7))))) (λ_ _ _ _=>zD) (λ_ _ _ _=>(zJ uK rfl A6 uk (z9 (z8 0) z7))) rfl)
  (z6 (zh 3 nd (zP (z9 zy (z9 (vw xC z5) z7))))
  (z6 (zf (PW.pt (wQ (zo (yt hr.units) (zw (eX rfl) rfl E3 dY (z9 (z8 5) z7)) z5 (zp _)) (xG (yg (zw xD rfl Aa zg (z9 (z8 4) (z9 (ya (v:=.ty "ValueError") rfl AC vo rfl) z7))))))) (z4 (zh 3 nd (zP (z9 (zQ (zP (z9 zy (z9 zy (z9 zy (z9 zy (z9 zy z7)))))) (uT SM F.type_list_index al (z8 5) (z9 z5 z7))) (z9 (vw xC z5) z7))))) zt)
  (z4 (zf (yg (zw xD rfl Aa zg (z9 (z8 4) (z9 (yF A2) z7)))) (z4 (eV hr.units (z8 3) z5 (kI (z8 4) rfl))) zt))))))) rfl rfl nd) (gk (i:=4) (j:=2) Bc hr (by lia) (z9 (z8 0) z7) AD AQ (λ_=>(z6 (zh 5 nd (zP (z9 (zw xD rfl Aa zg (z9 (z8 4) (z9 (yF Ai) z7))) (z9 (zw xD rfl Aa zg (z9 (z8 4) (z9 (yF An) z7))) (z9 (zw xD rfl Aa zg (z9 (z8 4) (z9 (yF A2) z7))) z7)))))
  (z6 (ub 5 nd (ixs:=[]) (zU (own:=["_law_one"]) (N:=[]) rfl) rfl (oK (zu zk (z8 5) (zP (z9 (zw xD rfl Aa zg (z9 (z8 4) (z9 (yF Bi) z7))) (z9 (zw xD rfl Aa zg (z9 (z8 4) (z9 (yF BC) z7))) z7))))) (λ_ _ _ _=>zD) (λ_ _ _ _=>(zJ uK rfl A6 uk (z9 (z8 0) z7))) rfl)
  (z6 (zh 3 nd (zP (z9 zy (z9 (vw xC z5) z7))))
  (z6 (zf (PW.pt (wQ (zo (yt hr.units) (zw (eX rfl) rfl E3 dY (z9 (z8 5) z7)) z5 (zp _)) (xG (yg (zw xD rfl Aa zg (z9 (z8 4) (z9 (ya (v:=.ty "ValueError") rfl AC vo rfl) z7))))))) (z4 (zh 3 nd (zP (z9 (zQ (zP (z9 zy (z9 zy (z9 zy (z9 zy (z9 zy z7)))))) (uT SM F.type_list_index al (z8 5) (z9 z5 z7))) (z9 (vw xC z5) z7))))) zt)
  (z4 (zf (yg (zw xD rfl Aa zg (z9 (z8 4) (z9 (yF A2) z7)))) (z4 (eV hr.units (z8 3) z5 (kI (z8 4) rfl))) zt))))))) rfl rfl nd)))
  (z4 (zr (zP (z9 (z8 3) (z9 (z8 2) z7)))))))),?_⟩
 walk_at"rp";refine⟨1,rfl,zb (by simp),λl1 H1 n1 s1 e1=>?_⟩;walk_at"rp";refine XE (λE=>∀(C:Addr)(dx:Option Addr)(bn bo br be:Bool)(a:Addr)(H2:Hp)(w:Str)(n:Int),pG K C Cj Cn Co Cr Ce Cb bn bo br be->(br=true->C=Cr)->Same H1 H2->H2 a=some (exO a C dx false)->Wx H2 bn bo br be dx w n->(∀(a kd:Addr)(H':Hp),Same H H'->H' a=some (.lst [.ref kd,.non])->H' kd=some (.lst [.str w,.int n])->Q (.ref a) H')->E (.ref a) dx H2) ?_ λE kE=>?_
 ·intro C dx bn bo br be a H2 w n kt hcr s2 ea hk hq;obtain⟨ns,rfl,EQ,Cw,hw,h0,h1⟩:=hk;have dp:dx=none\/∃d fs,dx=some d/\H2 d=some (.xd fs):=by
   cases br with
   |false=>exact .inl (h0 rfl).1
   |true =>
    obtain⟨d,e1,e2⟩:=h1 rfl;exact .inr ⟨d,_,e1,e2⟩
  refine⟨a,C,rfl,ea,kt.x,kt.m,?_⟩;simp only[Su,Ss];walk_at"rp";refine⟨a,C,dx,false,_,_,bn,rfl,ea,dp,kt.x,rfl,kt.n,a,C,dx,false,_,_,bo,rfl,ea,dp,kt.x,rfl,kt.o,a,C,dx,false,_,_,br,rfl,ea,dp,kt.x,rfl,kt.r,?_⟩;walk_at"rp";refine⟨zb (by simp),λl3 H3 n3 s3 e3=>?_⟩;have Je:=s3 _ _ ea;have dp3:=pP s3 dp;walk_at"rp";refine⟨a,C,dx,false,_,_,be,rfl,Je,dp3,kt.x,rfl,kt.e,a,C,dx,false,_,_,false,rfl,Je,dp3,kt.x,rfl,kt.b,?_⟩;walk_at"rp";refine⟨zb (by simp),λl4 H4 n4 s4 e4=>?_⟩;walk_at"rp";refine .inl ⟨_,_,s4 _ _ e3,e4,zb (by simp),λl5 H5 n5 s5 e5=>?_⟩;walk_at"rp";refine⟨l5,rfl,⟨_,SqL.of e5⟩,λC0 s₀ H₀ ex=>?_⟩;have ea5:=(s4.trans s5) _ _ Je;refine iM (xs:=[bn,bo,br,be,false].map V.bl) (λD i ys H6=>ys=(([bn,bo,br,be,false].take i).map λk=>V.int (if k=true then 1 else 0))/\i<=5/\H6 D=some (.lst ys)/\Same H5 H6/\H5 D=none) (zb (by simp)) ?_ ?_ ?_ ?_
  ·intro D H6 n6 s6 e6;exact⟨rfl,V5 _,e6,s6,n6⟩
  ·rintro D i ys H6 ⟨rfl,hi,e6,s6,_⟩;exact⟨SqL.of (s6 _ _ e5),e6,by simp;lia,_,_,_,s6 _ _ ea5⟩
  ·rintro D i v ys H6 hv ⟨rfl,hi,e6,s6,n6⟩;have hi5:i<5:=(VY.mp hv).1;rw[VA]at hv;obtain⟨k,hk5,ek⟩:=Option.map_eq_some_iff.mp hv;subst ek;walk_at"rp";refine⟨e6,CN.mk hi5 ⟨?_,hi5,zv,zi s6 n6 _,n6⟩⟩;rw[V7,hk5,VL]
   rfl
  rintro D6 ys6 H6 ⟨rfl,_,e60,s6,n6⟩;have e6:H6 D6=some (.lst (([if bn=true then 1 else 0,if bo=true then 1 else 0,if br=true then 1 else 0,if be=true then 1 else 0,0]:List Int).map V.int)):=e60;walk_at"rp";refine⟨1,rfl,zb (by simp),λl7 H7 n7 s7 e7=>?_⟩;walk_at"rp";have LG:=s3.trans (s4.trans (s5.trans (s6.trans s7)));refine⟨D6,_,C,dx,false,rfl,SqL.of (s7 _ _ e6),LG _ _ ea,?_⟩;rw[VT EQ];walk_at"rp";refine⟨a,C,dx,false,_,_,true,rfl,LG _ _ ea,pP LG dp,kt.x,rfl,kt.v,?_⟩;walk_at"rp";refine⟨zb (by simp),λl8 H8 n8 s8 e8=>?_⟩;walk_at"rp";have MG:=s8 _ _ (s7 _ _ e6);refine⟨⟨_,_,rfl,MG⟩,D6,_,1,rfl,rfl,SqL.of MG,Cw,by simp,?_⟩;walk_at"rp";refine⟨_,_,.inl (SqL.of e8),hw,?_⟩;walk_at"rp";refine⟨1,rfl,zb (by simp),λl9 H9 n9 s9 e9=>?_⟩;walk_at"rp";have KO:=LG.trans (s8.trans s9);refine⟨a,C,dx,false,_,_,br,rfl,KO _ _ ea,pP KO dp,kt.x,rfl,kt.r,?_⟩;cases br with
  |false =>
   obtain⟨rfl,rfl⟩:=h0 rfl;walk_at"rp";simp only[Su,Ss];walk_at"rp";exact⟨zb (by simp),λla Ha na1 sa K6=>hq la l9 Ha (s1.trans (s2.trans (KO.trans sa))) K6 (sa _ _ e9)⟩
  |true =>
   obtain⟨d,rfl,ed⟩:=h1 rfl;have hCr:C=Cr:=hcr rfl;subst hCr;walk_at"rp";refine⟨a,C,d,false,_,_,rfl,KO _ _ ea,KO _ _ ed,kt.x,na,List.lookup_cons_self,?_⟩;walk_at"rp";refine .inr ⟨_,_,1,e9,rfl,rfl,(show 1<2 by decide),?_⟩;simp only[Su,Ss];walk_at"rp";have JU:=s1.trans (s2.trans KO);have n09:H l9=none:=zW (s1.trans (s2.trans (LG.trans s8))) n9;exact⟨zb (by simp),λla Ha na1 sa K6=>hq la l9 Ha ((zi JU n09 _).trans sa) K6 (sa _ _ zv)⟩
 cases b with
 |true =>
  walk_at"rp";refine⟨.str x,rfl,.inr ⟨x,rfl,hx,u8 hx,by have:=wH x;lia,λno a H2 s2 ea=>kE Cn none true false false false a H2 _ _ kn (λz=>by cases z) s2 ea ⟨_,rfl,rfl,by decide,rfl,λ_=>⟨rfl,rfl⟩,λz=>by cases z⟩ λa kd H' s' JJ JI=>q a kd .non _ _ H' s' JJ JI (.inl ⟨no,rfl,rfl⟩),λts ks e=>?_⟩⟩;obtain⟨vd,hV⟩:=cq ts ks;obtain⟨ho,ht1,Fo,_,_⟩:=oO e;obtain⟨xs,hW,hVd⟩:=Yl ht1 Fo ho (kP (hx4 rfl) e) hV;refine⟨vd,xs,hW,hVd,?_⟩;have q2:∀{n:Int}{w:Str},vd≠.ok->w=vW vd->n=vN vd->∀(a kd:Addr)(H':Hp),Same H H'->H' a=some (.lst [.ref kd,.non])->H' kd=some (.lst [.str w,.int n])->Q (.ref a) H':=λh1 h2 h3 a kd H' s' JJ JI=>q a kd .non _ _ H' s' JJ JI (.inr ⟨ts,ks,vd,e,hV,h2,h3,λz=>absurd z h1⟩);cases vd with
  |bounds=>exact λa H2 s2 ea=>kE Co none false true false false a H2 _ _ ko (λz=>by cases z) s2 ea ⟨_,rfl,rfl,by decide,rfl,λ_=>⟨rfl,rfl⟩,λz=>by cases z⟩ (q2 (by simp) rfl rfl)
  |row n=>exact λa d H2 s2 ea ed=>kE Cr (some d) false false true false a H2 _ (n:Int) kr (λ_=>rfl) s2 ea ⟨_,rfl,rfl,by decide,rfl,(λz=>by cases z),λ_=>⟨d,rfl,ed⟩⟩ (q2 (by simp) rfl rfl)
  |even=>exact λa H2 s2 ea=>kE Ce none false false false true a H2 _ _ ke (λz=>by cases z) s2 ea ⟨_,rfl,rfl,by decide,rfl,λ_=>⟨rfl,rfl⟩,λz=>by cases z⟩ (q2 (by simp) rfl rfl)
  |ok =>
   intro p b j H2 us J s2 hp hb hT hj hJ eJ;walk_at"rp";exact⟨zb (by simp),λla Ha na1 sa K6=>q la l1 (.ref p) _ _ Ha (s1.trans (s2.trans sa)) K6 ((s2.trans sa) _ _ e1) (.inr ⟨ts,ks,.ok,e,hV,rfl,rfl,λ_=>BothAt.same sa ⟨p,b,j,us,J,rfl,hp,hb,hT,hj,hJ,eJ⟩⟩)⟩
 |false =>
  walk_at"rp";refine⟨.str x,rfl,.inr ⟨x,rfl,hx,λno a H2 s2 ea=>kE Cn none true false false false a H2 _ _ kn (λz=>by cases z) s2 ea ⟨_,rfl,rfl,by decide,rfl,λ_=>⟨rfl,rfl⟩,λz=>by cases z⟩ λa kd H' s' JJ JI=>q a kd .non _ _ H' s' JJ JI (.inl ⟨no,rfl,rfl⟩),λt e v H2 s2 hv=>?_⟩⟩;walk_at"rp";exact⟨zb (by simp),λla Ha na1 sa K6=>q la l1 v _ _ Ha (s1.trans (s2.trans sa)) K6 ((s2.trans sa) _ _ e1) (.inr ⟨t,e,hv.mono (zz sa),rfl,rfl⟩)⟩
def kh(K:Nl):Sp:=λvs H Q _=>∃(x:Str)(b:Bool),vs=[.str x,.bl b]/\k7 x b/\∀H',Same H H'->Q (.bl true) H'
def wM{p:Addr}{w:Str}{n:Int}(h:H p=some (.lst [.str w,.int n])):Has K H (.ref p) (.list [.str w,.int n]):=by
 unfold Has;refine⟨p,_,rfl,SqL.of h,?_⟩;unfold HasL;refine⟨_,_,rfl,by unfold Has;rfl,?_⟩;unfold HasL;refine⟨_,_,rfl,by unfold Has;rfl,?_⟩;unfold HasL
 rfl
def yk{w:Str}{n:Int}(h:PyData.strOk w=true):SeqAt.shaped (.list [.str w,.int n])=true:=by
 unfold SeqAt.shaped;rw[PyData.canLay0,PyData.canLayAll0,PyData.canLay0,h,PyData.canLayAll0,PyData.canLay0,PyData.canLayAll0];simp[PyData.depth,PyData.depthAll]
def gq(vd:Vd):PyData.strOk (vW vd)=true:=by
 cases vd with
 |row n=>exact(show PyData.strOk ("row":Str)=true from by decide +kernel)
 |_=>decide +kernel
def wJ:PyData.strOk ("text":Str)=true:=by decide +kernel
def qV:PyData.strOk ("told":Str)=true:=by decide +kernel
def rf:decide (("text":Str)=("told":Str))=false:=by decide +kernel
def dG{vd:Vd}(h:vd≠.ok):decide (vW vd=("told":Str))=false:=by
 cases vd with
 |bounds=>exact(show decide (("bounds":Str)=("told":Str))=false by decide +kernel)
 |row n=>exact(show decide (("row":Str)=("told":Str))=false by decide +kernel)
 |even=>exact(show decide (("even":Str)=("told":Str))=false by decide +kernel)
 |ok=>exact absurd rfl h
def jT:decide (("told":Str)=("told":Str))=true:=VT rfl
def kA:decide (V.non=V.non)=true:=VT rfl
def cn(h:SayAt K H v t):decide (v=V.non)=false:=VH λe=>by
 subst e;cases t with
 |letter y=>obtain⟨a,e,_⟩:=h;cases e
 |neg t=>obtain⟨a,u,e,_⟩:=h;cases e
 |bin o t u=>obtain⟨a,u,u',e,_⟩:=h;cases e
def fJ(D:Def K mg "_law_right" (top 61) ["_law_text","_law_whole"])(FW:zq P w K mg base 134 "_law_told" ["_law_text","_law_whole"] (gW K))(AB:zq P w K mg base 83 "_law_own_saying" ["_law_line"] (mh K))(DR:zq P w K mg base 84 "_law_own_list" ["_law_text"] (kg K))(FX:zq P w K mg base 43 "_law_seat" ["_law_sayings","_law_judges"] (ka K))(BW:zq P w K mg base 43 "_law_same" ["_law_found","_law_due"] (gU K 43)):zq P w K mg base 135 "_law_right" ["_law_text","_law_whole"] (kh K):=by
 refine D.callee (N:=["_law_text","_law_whole","_law_kind","_law_found","_law_due","_law_wanted"]) ?_ ?_ ?_;walk_at"go";obtain⟨x,b,rfl,hx,q⟩:=h;obtain⟨hxo,hx9,hx4⟩:=id hx;refine⟨[some (.str x),some (.bl b),none,none,none,none],_,rfl,(z6 (fm (zn FW hr (z9 (z8 0) (z9 (z8 1) z7))) (ZT 2 3 rfl nd))
  (z6 (zh 4 nd (zn AB hr (z9 (z8 0) z7)))
  (z6 (zh 5 nd (zP (z9 zy (z9 (vw xC z5) z7))))
  (z6 (zf (yg (z8 1)) (z6 (zh 4 nd (zn DR hr (z9 (z8 0) z7)))
  (z4 (zf (zo eQ (z8 4) yr (zp _)) (z4 (zh 5 nd (zn FX hr (z9 (zQ (z8 4) z5) (z9 (zQ (z8 4) z5) z7))))) zt))) zt)
  (z6 (zf (zo rB (z8 4) yr (zp _)) (z4 (zh 5 nd (zP (z9 zy (z9 (vw xC z5) z7))))) zt)
  (z6 (zf (zo (ux hr.units) (z8 2) (z8 5) (zp _)) (z4 (zr wX)) zt)
  (z4 (zr (ZS (yH (ux hr.units) (zQ (z8 5) z5) zy (zp _)) (wP (zn BW hr (z9 (z8 3) (z9 (z8 4) z7))))))))))))),?_⟩
 walk_at"rp";refine⟨x,b,rfl,hx,λa kd fv w n H1 s1 e1 ek hTO=>?_⟩;walk_at"rp";refine⟨a,_,_,rfl,SqL.of e1,?_⟩;walk_at"rp";refine⟨x,rfl,hxo,λv H2 s2 hv=>?_⟩;have ek2:=s2 _ _ ek;walk_at"rp";refine⟨1,rfl,zb (by simp),λlw H3 n3 s3 e3=>?_⟩;have ek3:=s3 _ _ ek2;walk_at"rp";cases b with
 |false =>
  walk_at"rp";rcases hTO with⟨CA,rfl,rfl⟩|⟨t,ht,hf,rfl,rfl⟩
  ·rw[CA]at hv;have hvn:v = .non:=hv;subst hvn;refine⟨trivial,?_⟩;rw[kA];walk_at"rp";refine⟨1,rfl,zb (by simp),λl4 H4 n4 s4 e4=>?_⟩;have MD:=s4 _ _ ek3;walk_at"rp";refine⟨_,_,wM MD,wM e4,yk wJ,yk wJ,?_⟩;rw[wK (yk wJ)];walk_at"rp";refine⟨_,_,.inl (SqL.of e4),rfl,?_⟩;walk_at"rp";rw[rf];walk_at"rp";exact q H4 (s1.trans (s2.trans (s3.trans s4)))
  ·rw[ht]at hv;refine⟨trivial,?_⟩;rw[cn (show SayAt K H2 v t from hv)];walk_at"rp";walk_at"rp";refine⟨_,_,wM ek3,wM e3,yk qV,yk qV,?_⟩;rw[wK (yk qV)];walk_at"rp";refine⟨_,_,.inl (SqL.of e3),rfl,?_⟩;walk_at"rp";have hp:=(vR ht).1;exact⟨fv,v,rfl,SmT.le (by lia) (vU (hf.mono (zz (s2.trans s3))) (SayAt.mono (zz s3) hv)),λH4 s4=>q H4 (s1.trans (s2.trans (s3.trans s4)))⟩
 |true =>
  walk_at"rp";refine⟨x,rfl,hxo,hx9,λno H4 s4=>?_,λts ks E5 v4 H4 s4 hB=>?_⟩
  ·rcases hTO with⟨_,rfl,rfl⟩|⟨ts,ks,vd,BY,_⟩
   ·have MD:=s4 _ _ ek3;walk_at"rp";refine⟨trivial,?_⟩;walk_at"rp";refine⟨trivial,?_⟩
    try rw[kA]
    walk_at"rp";refine⟨1,rfl,zb (by simp),λl5 H5 n5 s5 e5=>?_⟩;have ek5:=s5 _ _ MD;walk_at"rp";refine⟨_,_,wM ek5,wM e5,yk wJ,yk wJ,?_⟩;rw[wK (yk wJ)];walk_at"rp";refine⟨_,_,.inl (SqL.of e5),rfl,?_⟩;walk_at"rp";rw[rf];walk_at"rp";exact q H5 (s1.trans (s2.trans (s3.trans (s4.trans s5))))
   ·rw[show yb (nlS x)=none from no]at BY;cases BY
  ·rcases hTO with⟨no,_⟩|⟨CD,Gh,vd,BY,hV,rfl,rfl,hok⟩
   ·rw[show yb (nlS x)=none from no]at E5;cases E5
   ·rw[show yb (nlS x)=some (ts,ks)from E5]at BY;cases BY;obtain⟨p,b,j,us,J,rfl,hp,hb,hT,hj,hJ,hJk⟩:=hB;have MD:=s4 _ _ ek3;obtain⟨ho,ht1,Fo,G9,hkl⟩:=oO E5;have IC:(nlS x).length<=x.length+1:=wH x;have hJl:J.length=ks.length:=by rw[<-hJk,WA]
    walk_at"rp";refine⟨trivial,?_⟩;rw[wo p];walk_at"rp";refine⟨_,_,.inr hp,rfl,?_⟩;walk_at"rp";refine⟨_,_,.inr hp,rfl,?_⟩;walk_at"rp";refine⟨b,j,us,ts,J,vd,rfl,hb,hT,hj,hJ,by lia,by lia,ht1,ho,kP (hx4 rfl) E5,hJk▸hV,λl5 H5 s5 e5=>?_⟩;have ek5:=s5 _ _ MD;walk_at"rp";refine⟨trivial,?_⟩;rw[wo p];walk_at"rp";refine⟨_,_,wM ek5,wM e5,yk (gq vd),yk (gq vd),?_⟩;rw[wK (yk (gq vd))];walk_at"rp";refine⟨_,_,.inl (SqL.of e5),rfl,?_⟩;walk_at"rp";have G3:=s4.trans s5
    by_cases Hb:vd = .ok
    ·subst Hb
     try rw[show decide (vW .ok=("told":Str))=true from jT]
     walk_at"rp";obtain⟨p',b',j',us',J',rfl,Kj,Bo,Ln,GF,hJ',hJk'⟩:=BothAt.same (s2.trans (s3.trans G3)) (hok rfl);have t5:=zz s5;exact⟨_,_,rfl,gO Kj (t5.sqT hp) Bo Ln (t5.sqT hb) (hT.mono t5) (λt ht=>(ho t ht).1) GF hJ' (t5.sqT hj) (λq hq=>t5.sqT (hJ q hq)) (hJk'.trans hJk.symm),λH6 s6=>q H6 (s1.trans (s2.trans (s3.trans (G3.trans s6))))⟩
    ·rw[dG Hb];walk_at"rp";exact q H5 (s1.trans (s2.trans (s3.trans G3)))
theorem uJ:∀ls:List Str,yE ls=(ls.map (·.length)).sum+ls.length
 |[]=>rfl
 |l::ls=>by
  rw[zF,uJ ls,List.map_cons,Uc,VN];lia
def qu(ls:GM):(Txt.join ("\n":Str) ls).length<=yE ls:=by
 have:=pX ("\n":Str) ls;rw[d0]at this;rw[uJ];lia
def nZ(h:∀l∈ls,∀c∈l.cps.toList,c<16 ^ 8):∀c∈(Txt.join ("\n":Str) ls).cps.toList,c<16 ^ 8:=λc hc=>by
 have Gr:c∈(Str.join ("\n":Str) ls).cps.toList:=by rw[<-TQ];exact hc
 rw[wA]at Gr;rcases lR Gr with z|⟨p,hp,z⟩
 ·rw[show("\n":Str).cps.toList=[10]by decide +kernel]at z;rw[VX.mp z]
  decide
 ·obtain⟨l,hl,rfl⟩:=VC.mp hp;exact h l hl c z
def gZ(x:Str):1<=(nlS x).length:=by
 have h:(nlS x).length=(yL x.cps.toList).length:=by
  show(Txt.split x ("\n":Str)).length=_;rw[tY,WA]
 rw[h];exact Ug.mpr (qT _)
def DT(x:Str):Prop:=yC x/\x.length<=370/\∀l∈nlS x,l.length<=78
def a8:Sp:=λvs H Q _=>∃(x:Str)(way Im:Int),vs=[.str x,.int way,.int Im]/\DT x/\0<=Im/\∀(y:Str)(H':Hp),Same H H'->k7 y true->Q (.str y) H'
def lu(ls:GM):(ls.map V.str).take n=(ls.take n).map V.str:=List.map_take.symm
def lr(ls:GM):(ls.map V.str).drop n=(ls.drop n).map V.str:=List.map_drop.symm
def bg(ls:GM)(n:Nat):yE (ls.take n)+yE (ls.drop n)=yE ls:=by rw[<-xx,Uu]
def ZV(D:Def K mg "_law_lines_changed" (top 62) ["_law_text","_law_way","_law_at"])(Ab:mg "len"=none):zq P w K mg base 1 "_law_lines_changed" ["_law_text","_law_way","_law_at"] a8:=by
 refine D.callee (N:=["_law_text","_law_way","_law_at","_law_lines","_law_k"]) ?_ ?_ ?_;walk_at"go";obtain⟨x,way,Im,rfl,⟨hx,hx3,Kd⟩,hat,q⟩:=h;have HP:=u8 hx;have EQ:=w8 x;have Ar:=wH x;have Be:1<=(Txt.split x ("\n":Str)).length:=gZ x;unfold nlS at Kd;refine⟨[some (.str x),some (.int way),some (.int Im),none,none],_,rfl,(z6 (zh 3 nd (pi (z8 0) (z9 zy z7)))
  (z6 (zh 4 nd (zu xE (z8 2) (zw zR rfl Ab zZ (z9 (z8 3) z7))))
  (z6 (zf (zo (yt hr.units) (z8 1) z5 (zp _)) (z4 (zh 3 nd (zu zk (zX (z8 3) zM (za (z8 4))) (zX (z8 3) (za (zu zk (z8 4) z5)) zM)))) (z4 (zf (zo (yt hr.units) (z8 1) z5 (zp _)) (z4 (zE (uT F.slot_list_insert F.type_list_insert Xi (z8 3) (z9 (z8 4) (z9 (zQ (z8 3) (z8 4)) z7))))) (z4 (zh 3 nd (zu zk (zu zk (zX (z8 3) zM (za (z8 4))) (zX (z8 3) (za (zu zk (z8 4) z5)) zM)) (zP (z9 (zQ (z8 3) (z8 4)) z7))))))))
  (z4 (zr (uw zy (z9 (z8 3) z7))))))),?_⟩
 walk_at"rp";refine⟨by decide +kernel,by rw[VP];lia,by lia,λDl H1 n1 s1 e1=>?_⟩;generalize Txt.split x ("\n":Str)=ls at HP Ar EQ Be Kd e1;have IS:(ls.map V.str).length=ls.length:=WA _;walk_at"rp";refine⟨_,.inl (SqL.of e1),by rw[IS];lia,?_⟩;rw[IS];have HV:=Tn Im (show((ls.length:Nat):Int)≠0 by lia);have Fo:=TW Im (show(0:Int)<((ls.length:Nat):Int)by lia);generalize Im % ((ls.length:Nat):Int)=kk at HV Fo;obtain⟨kn,rfl⟩:∃kn:Nat,kk=(kn:Int):=⟨kk.toNat,by lia⟩
 have Lf:kn<ls.length:=by lia
 obtain⟨lk,hlk⟩:∃lk,ls[kn]?=some lk:=⟨_,V2 Lf⟩
 have Kp:=VR hlk;have hlk78:=Kd lk Kp;have JA:ls.drop kn=lk::ls.drop (kn+1):=by
  rw[TN Lf]
  congr 1
  exact(VY.mp hlk).2
 have htd:=bg ls kn;rw[JA,zF]at htd;have Mx:atI (ls.map V.str) (kn:Int)=some (.str lk):=xf (by rw[VA,hlk];rfl);refine wq (C:=fun σ' H'=>∃(Dl':Addr)(KU:GM),σ'=[some (.str x),some (.int way),some (.int Im),some (.ref Dl'),some (.int (kn:Int))]/\Same H H'/\H' Dl'=some (.lst (KU.map V.str))/\(∀l∈KU,l∈ls)/\yE KU<=yE ls+79) (λN hN=>?_) ?_
 ·walk_at"rp";refine yx (λc=>?_) λc=>?_
  ·refine .inl ⟨_,SqL.of e1,λp2 H2 n2 s2 e2=>?_⟩;rw[sX _ (by lia),Vu,lu]at e2;walk_at"rp";refine .inl ⟨_,SqL.of (s2 _ _ e1),λp3 H3 n3 s3 e3=>?_⟩;rw[nL _ (by lia),show((kn:Int)+1).toNat=kn+1 by lia,lr]at e3;walk_at"rp";refine .inl ⟨_,_,s3 _ _ e2,e3,by rw[WA,WA,Vw,V1,VP];lia,λp4 H4 n4 s4 e4=>?_⟩;rw[<-VL]at e4;refine hN _ _ ⟨p4,_,rfl,s1.trans (s2.trans (s3.trans s4)),e4,λl hl=>?_,?_⟩
   ·exact(VQ.mp hl).elim TF Uz
   ·rw[xx];lia
  ·refine yx (λc2=>?_) λc2=>?_
   ·refine⟨⟨_,_,rfl,e1⟩,?_⟩;walk_at"rp";refine⟨_,_,.inl (SqL.of e1),Mx,?_⟩;walk_at"rp";refine⟨_,e1,by rw[IS,VP];lia,by lia,by lia,?_⟩;refine hN _ _ ⟨Dl,ls.take kn++lk::ls.drop kn,rfl,zi s1 n1 _,?_,λl hl=>?_,?_⟩
    ·rw[zv,Vu,lu,lr,VL,List.map_cons]
    ·rcases VQ.mp hl with z|z
     ·exact TF z
     ·rcases VI.mp z with z|z
      ·rw[z];exact Kp
      ·exact Uz z
    ·rw[xx,zF,JA,zF];lia
   ·refine .inl ⟨_,SqL.of e1,λp2 H2 n2 s2 e2=>?_⟩;rw[sX _ (by lia),Vu,lu]at e2;walk_at"rp";refine .inl ⟨_,SqL.of (s2 _ _ e1),λp3 H3 n3 s3 e3=>?_⟩;rw[nL _ (by lia),show((kn:Int)+1).toNat=kn+1 by lia,lr]at e3;walk_at"rp";refine .inl ⟨_,_,s3 _ _ e2,e3,by rw[WA,WA,Vw,V1,VP];lia,λp4 H4 n4 s4 e4=>?_⟩;rw[<-VL]at e4;walk_at"rp";refine⟨_,_,.inl (SqL.of ((s2.trans (s3.trans s4)) _ _ e1)),Mx,zb (by simp),λp5 H5 n5 s5 e5=>?_⟩;walk_at"rp";refine .inl ⟨_,_,s5 _ _ e4,e5,by rw[WA,VU,Vw,V1,UF,VP];lia,λp6 H6 n6 s6 e6=>?_⟩;refine hN _ _ ⟨p6,(ls.take kn++ls.drop (kn+1))++[lk],rfl,s1.trans (s2.trans (s3.trans (s4.trans (s5.trans s6)))),by rw[e6,VL (l₂:=[lk])];rfl,λl hl=>?_,?_⟩
    ·rcases VQ.mp hl with z|z
     ·exact(VQ.mp z).elim TF Uz
     ·rw[VX.mp z];exact Kp
    ·rw[xx,xx,zF];show yE (ls.take kn)+yE (ls.drop (kn+1))+(lk.length+1+0)<=_;lia
 ·rintro σ' H2 ⟨Dl',KU,rfl,s2,e2,E6,Ee⟩;walk_at"rp";have hj:=qu KU;refine⟨KU,SqL.of e2,?_,q _ H2 s2 ⟨⟨by lia,nZ λl hl=>(HP l (E6 l hl)).cps⟩,by lia,λ_=>by lia⟩⟩;rw[d0,Nat.mul_one,<-uJ];lia
def iN{x:Str}(h1:∀c∈x.cps.toList,c<16 ^ 8)(l u:Option Int):∀c∈(Txt.slice x l u).cps.toList,c<16 ^ 8:=λd hc=>by
 unfold Txt.slice at hc;split at hc
 ·exact h1 d hc
 ·have Gr:d∈List.filterMap (λi=>x.cps[i]?) (Builtin.Str.strSliceIndices l u 1 x.length):=by simpa using hc
  obtain⟨i,_,hi⟩:=SR.mp Gr;exact h1 d (by have:=Array.mem_of_getElem? hi;simpa using this)
def yz{x y:Str}(h1:∀c∈x.cps.toList,c<16 ^ 8)(h2:∀c∈y.cps.toList,c<16 ^ 8):∀c∈(x++y).cps.toList,c<16 ^ 8:=λc hc=>by
 have:c∈x.cps.toList++y.cps.toList:=by
  have e:(x++y).cps.toList=x.cps.toList++y.cps.toList:=by rw[Ux,UR]
  rw[<-e];exact hc
 exact(VQ.mp this).elim (h1 c) (h2 c)
def bH{x:Str}(h0:0<=j):(Txt.slice x none (some j)).length<=j.toNat:=by
 by_cases h:j<=x.length
 ·rw[yA h0 h];exact VW _
 ·rw[oh (by lia),yA (by lia) (Int.le_refl _)];lia
def uB{x:Str}:(Txt.slice x (some (n:Int)) none).length=x.length-n:=by
 rw[xn];show(x.cps.toList.drop n).toArray.size=_;rw[VO,V1,zV]
def qS(K:Nl):Sp:=λvs H Q _=>∃(a:Addr)(ns:Nj)(k:Int)(x:Str)(b:Bool),vs=[.ref a,.int k,.str x,.bl b]/\SqL K H a (ns.map V.int)/\ns.length<=5000/\0<=k/\k<=1000/\yC x/\1<=x.length/\x.length<=370/\(b=true->DT x)/\∀(y:Str)(H':Hp),Same H H'->k7 y b->Q (.str y) H'
def cx:(("abznotifyyyynnnn   ()()":Str)++("\n\nAB1_.yn":Str)).length=32:=by decide +kernel
def aC:∀c∈(("abznotifyyyynnnn   ()()":Str)++("\n\nAB1_.yn":Str)).cps.toList,c<16 ^ 8:=by decide +kernel
def fM(D:Def K mg "_law_spoiled" (top 63) ["_law_script","_law_k","_law_text","_law_whole"])(Ac:zq P w K mg base 2 "_law_pick" ["_law_script","_law_k","_law_many"] (wR K))(BK:zq P w K mg base 1 "_law_lines_changed" ["_law_text","_law_way","_law_at"] a8)(Ab:mg "len"=none):zq P w K mg base 3 "_law_spoiled" ["_law_script","_law_k","_law_text","_law_whole"] (qS K):=by
 refine D.callee (N:=["_law_script","_law_k","_law_text","_law_whole","_law_at","_law_far","_law_signs","_law_sign","_law_way"]) ?_ ?_ ?_;walk_at"go";obtain⟨a,ns,k,x,b,rfl,ha,C9,HV,hk,hx,HH,hx3,hb,q⟩:=h;refine⟨[some (.ref a),some (.int k),some (.str x),some (.bl b),none,none,none,none,none],_,rfl,(z6 (zh 4 nd (zn Ac hr (z9 (z8 0) (z9 (z8 1) (z9 (zw zR rfl Ab zZ (z9 (z8 2) z7)) z7)))))
  (z6 (zh 5 nd (zu zk z5 (zn Ac hr (z9 (z8 0) (z9 (zu zk (z8 1) z5) (z9 z5 z7))))))
  (z6 (zh 6 nd (zu zk zy zy))
  (z6 (zh 7 nd (zQ (z8 6) (zn Ac hr (z9 (z8 0) (z9 (zu zk (z8 1) z5) (z9 (zw zR rfl Ab zZ (z9 (z8 6) z7)) z7))))))
  (z6 (zh 8 nd (zn Ac hr (z9 (z8 0) (z9 (zu zk (z8 1) z5) (z9 z5 z7)))))
  (z6 (zf (PW.pt (wQ (zo vg (z8 8) z5 (zp _)) (xG (yg (z8 3))))) (z4 (zr (zn BK hr (z9 (z8 2) (z9 (zu xE (z8 5) z5) (z9 (z8 4) z7)))))) zt)
  (z6 (zf (zo vh (z8 8) z5 (zp _)) (z4 (zr (zu zk (zu zk (zX (z8 2) zM (za (z8 4))) (z8 7)) (zX (z8 2) (za (z8 4)) zM)))) zt)
  (z6 (zf (zo vh (z8 8) z5 (zp _)) (z4 (zr (zu zk (zu zk (zX (z8 2) zM (za (z8 4))) (z8 7)) (zX (z8 2) (za (zu zk (z8 4) z5)) zM)))) zt)
  (z6 (zf (zo (yt hr.units) (z8 8) z5 (zp _)) (z4 (zr (zu zk (zu zk (zu zk (zX (z8 2) zM (za (z8 4))) (zX (z8 2) (za (zu zk (z8 4) z5)) (za (zu zk (z8 4) z5)))) (zQ (z8 2) (z8 4))) (zX (z8 2) (za (zu zk (z8 4) z5)) zM)))) zt)
  (z6 (zf (zo (yt hr.units) (z8 8) z5 (zp _)) (z4 (zr (zu zk (zX (z8 2) zM (za (zu zk (z8 4) (z8 5)))) (zX (z8 2) (za (z8 4)) zM)))) zt)
  (z4 (zr (zu zk (zX (z8 2) zM (za (z8 4))) (zX (z8 2) (za (zu zk (z8 4) (z8 5))) zM)))))))))))))),?_⟩
 walk_at"rp";refine⟨by rw[VP];lia,a,ns,k,_,rfl,ha,C9,HV,by lia,by lia,λIm a0 a1=>?_⟩;walk_at"rp";refine⟨a,ns,k+1,9,rfl,ha,C9,by lia,by lia,by decide,λfar f0 f1=>?_⟩;walk_at"rp";refine⟨zb (by decide +kernel),?_⟩;have IC:=cx;have hso:=aC;generalize ("abznotifyyyynnnn   ()()":Str)++("\n\nAB1_.yn":Str)=S at IC hso ⊢;have hsz:S.length<=sizeLine:=by rw[VP];lia
 have Cy:=zV S;walk_at"rp";refine⟨hsz,a,ns,k+2,_,rfl,ha,C9,by lia,by lia,by lia,λsi s0 s1=>?_⟩;walk_at"rp";obtain⟨sn,rfl⟩:∃sn:Nat,si=(sn:Int):=⟨si.toNat,by lia⟩
 obtain⟨c,hc⟩:∃c,S.cps.toList[sn]?=some c:=⟨_,V2 (by lia)⟩
 refine⟨hsz,c,xf hc,?_⟩;have JD:∀d∈(⟨#[c]⟩:Str).cps.toList,d<16 ^ 8:=λd hd=>by
  have:d=c:=by simpa using hd
  rw[this];exact hso c (VR hc)
 have hc1:(⟨#[c]⟩:Str).length=1:=rfl;walk_at"rp";refine⟨a,ns,k+3,9,rfl,ha,C9,by lia,by lia,by decide,λway w0 w1=>?_⟩;walk_at"rs";obtain⟨an,rfl⟩:∃an:Nat,Im=(an:Int):=⟨Im.toNat,by lia⟩
 obtain⟨fn,rfl⟩:∃fn:Nat,far=(fn:Int):=⟨far.toNat,by lia⟩
 have G':x.length<=sizeLine:=by rw[VP];lia
 refine wq (C:=fun σ' H'=>σ'=[some (.ref a),some (.int k),some (.str x),some (.bl b),some (.int (an:Int)),some (.int (1+(fn:Int))),some (.str S),some (.str ⟨#[c]⟩),some (.int way)]/\H'=H) (λN hN=>?_) ?_
 ·walk_at"rp";refine yx (λc1=>?_) λc1=>hN _ _ ⟨rfl,rfl⟩;cases b with
  |false=>exact hN _ _ ⟨rfl,rfl⟩
  |true =>
   walk_at"rp";exact⟨by decide,x,_,_,rfl,hb rfl,by lia,λy H' s' hy=>q y H' s' hy⟩
 ·rintro σ' H1 ⟨rfl,rfl⟩;have A9:∀y:Str,y.length<=379->(∀c∈y.cps.toList,c<16 ^ 8)->Q (.str y) H1:=λy h1 h2=>q y H1 (Same.refl _) ⟨⟨by lia,h2⟩,by lia,λ_=>by lia⟩;have to1:=bH (x:=x) (j:=(an:Int)) (by lia);rw[Vu]at to1;have fr0:=uB (x:=x) (n:=an);have fr1:(Txt.slice x (some ((an:Int)+1)) none).length=x.length-(an+1):=uB (x:=x) (n:=an+1);have fr2:(Txt.slice x (some ((an:Int)+2)) none).length=x.length-(an+2):=uB (x:=x) (n:=an+2);have frf:(Txt.slice x (some ((an:Int)+(1+(fn:Int)))) none).length=x.length-(an+(1+fn)):=uB (x:=x) (n:=an+(1+fn));have tof:=bH (x:=x) (j:=(an:Int)+(1+(fn:Int))) (by lia);rw[show((an:Int)+(1+(fn:Int))).toNat=an+(1+fn)by lia]at tof;have Fs:(Txt.slice x (some ((an:Int)+1)) (some ((an:Int)+2))).length<=1:=by
   have e:Txt.slice x (some ((an:Int)+1)) (some ((an:Int)+2))=⟨((x.cps.toList.drop (an+1)).take 1).toArray⟩:=og (x:=x) (p:=an+1) (k:=1) (by lia);rw[e];show((x.cps.toList.drop (an+1)).take 1).toArray.size<=1;rw[VO,Vw];lia
  have cs:∀l u,∀c∈(Txt.slice x l u).cps.toList,c<16 ^ 8:=iN hx.cps;have sz:∀{n:Nat},n<=16000000->n<=sizeLine:=szt;obtain⟨d,hd⟩:∃d,x.cps.toList[an]?=some d:=⟨_,V2 (by have:=zV x;lia)⟩
  have hd8:∀e∈(⟨#[d]⟩:Str).cps.toList,e<16 ^ 8:=λe he=>by
   have:e=d:=by simpa using he
   rw[this];exact hx.cps d (VR hd)
  have hd1:(⟨#[d]⟩:Str).length=1:=rfl;walk_at"rp";refine yx (λ_=>⟨G',sz (by lia),G',sz (by rw[yB];lia),A9 _ (by rw[yB,yB];lia) (yz (yz (cs _ _) JD) (cs _ _))⟩) λ_=>?_;walk_at"rp";refine yx (λ_=>⟨G',sz (by lia),G',sz (by rw[yB];lia),A9 _ (by rw[yB,yB];lia) (yz (yz (cs _ _) JD) (cs _ _))⟩) λ_=>?_;walk_at"rp";refine yx (λ_=>⟨G',G',sz (by lia),G',d,xf hd,?_⟩) λ_=>?_
  ·walk_at"rp";exact⟨sz (by rw[yB];lia),G',sz (by rw[yB,yB];lia),A9 _ (by rw[yB,yB,yB];lia) (yz (yz (yz (cs _ _) (cs _ _)) hd8) (cs _ _))⟩
  walk_at"rp";refine yx (λ_=>⟨G',G',sz (by lia),A9 _ (by rw[yB];lia) (yz (cs _ _) (cs _ _))⟩) λ_=>?_;walk_at"rp";exact⟨G',G',sz (by lia),A9 _ (by rw[yB];lia) (yz (cs _ _) (cs _ _))⟩
def gE{l:Addr}{xs:N1}{o:HO}(Be:b≠l)(h:SqL K H b xs):SqL K (upd H l o) b xs:=by
 rcases h with(h|⟨o',h⟩)|h
 ·exact .inl (.inl (by rw[ze Be];exact h))
 ·exact .inl (.inr ⟨o',by rw[ze Be];exact h⟩)
 ·exact .inr h
def pr{y:Str}(h:NmV y):1<=y.length/\y.length<=6:=by
 have h1:=h.1;unfold wy at h1;rw[Vy,Vy]at h1;have hl:=zV y;constructor
 ·rcases Nat.eq_zero_or_pos y.length with z|z
  ·have e:y.cps.toList=[]:=UC.mp (by lia);rw[e]at h1;cases h1.1
  ·exact z
 ·rcases U2 6 y.length with z|z
  ·have:=h1.2.1;rw[VT (show 6<y.cps.toList.length by lia)]at this;cases this
  ·exact z
theorem tq:∀t:Say,(∀y∈t.letters,NmV y)->2*(tl t).length+5<=17*t.pieces
 | .letter y,h=>by
  have:=pr (h y (VX.mpr rfl));rw[gl,zV];simp only[Say.pieces];lia
 | .neg t,h=>by
  have ih:=tq t h;rw[ms,VU,uH];simp only[Say.pieces,VN,Vx];lia
 | .bin o a b,h=>by
  have ih1:=tq a λy hy=>h y (VQ.mpr (.inl hy));have ih2:=tq b λy hy=>h y (VQ.mpr (.inr hy));cases o with
  |con =>
   rw[ml,vf,pb,pd];simp only[Say.pieces,VU,VN,Vx];lia
  |dis =>
   rw[mq,vf,lW,pd];simp only[Say.pieces,VU,VN,Vx];lia
  |imp =>
   rw[mr,sk,nk,pd];simp only[Say.pieces,VU,VN,Vx];lia
theorem vO{b:Nat}:∀{ls:List Str},(∀l∈ls,l.length<=b)->yE ls<=ls.length*(b+1)
 |[],_=>V5 _
 |l::ls,h=>by
  have h1:=h l VE;have h2:=vO λl' hl=>h l' (VJ _ hl);rw[zF,VN,Nat.succ_mul];lia
def gx(h:WrT ts ks)(h4:ts.length<=4)(h5:ks.length<=5)(h9:∀t∈ts,t.pieces<=9):DT (wU ts ks)/\1<=(wU ts ks).length:=by
 have hs:=pC h;have EQ:=w8 (wU ts ks);rw[hs]at EQ;have l1:∀l∈ts.map oS,l.length<=78:=λl hl=>by
  obtain⟨t,ht,rfl⟩:=VC.mp hl;have h1:=tq t (h.say t ht).2;have h2:=h9 t ht;have h3:=zV (oS t);rw[qC,uI,VU,VN,VN,VN,VN,Vx]at h3;lia
 have l2:∀l∈ks.map uq,l.length<=10:=λl hl=>by
  obtain⟨k,hk,rfl⟩:=VC.mp hl;have h1:=h.row k hk;have h3:=zV (uq k);rw[qv,uu,VU,WA]at h3;simp only[VN,Vx]at h3;lia
 have e:yq ts ks=ts.map oS++ks.map uq:=rfl;have s1:=vO l1;have s2:=vO l2;rw[WA]at s1 s2;rw[e,xx]at EQ;have E9:=h.lo;have GB:5<=yE (ts.map oS):=by
  obtain⟨t,CD,rfl⟩:∃t CD,ts=t::CD:=by
   cases ts with
   |nil=>exact absurd E9 (by simp)
   |cons t CD=>exact⟨t,CD,rfl⟩
  rw[List.map_cons,zF];have h3:=zV (oS t);rw[qC,uI,VU,VN,VN,VN,VN,Vx]at h3;lia
 have h45:ts.length*(78+1)<=4*79:=Nat.mul_le_mul_right _ h4;have h55:ks.length*(10+1)<=5*11:=Nat.mul_le_mul_right _ h5;refine⟨⟨jY h,by lia,λl hl=>?_⟩,by lia⟩;rw[show nlS (wU ts ks)=yq ts ks from hs,e]at hl;rcases VQ.mp hl with z|z
 ·exact l1 l z
 ·exact Vz (l2 l z) (by decide)
def kY(K:Nl):Sp:=λvs H Q _=>∃(a b:Addr)(ns:Nj)(xs:GM),vs=[.ref a,.ref b]/\SqL K H a (ns.map V.int)/\ns.length<=5000/\H b=some (.lst (xs.map V.str))/\1<=xs.length/\xs.length<=5/\(∀x∈xs,NmV x)/\∀(y:Str)(H':Hp),Same H H'->DT y->1<=y.length->Q (.str y) H'
def fB(D:Def K mg "_law_drawn" (top 64) ["_law_script","_law_names_here"])(Ac:zq P w K mg base 2 "_law_pick" ["_law_script","_law_k","_law_many"] (wR K))(Ay:zq P w K mg base 43 "_law_saying" ["_law_script","_law_k","_law_room","_law_names_here"] (vV K 40))(AV:zq P w K mg base 42 "_law_fit_rows" ["_law_sayings"] (mf K))(Ep:zq P w K mg base 61 "_law_written" ["_law_sayings","_law_judges"] (rY K))(Ab:mg "len"=none)(Aj:mg "range"=none)(Ae:mg "tuple"=none):zq P w K mg base 62 "_law_drawn" ["_law_script","_law_names_here"] (kY K):=by
 refine D.callee (N:=["_law_script","_law_names_here","_law_sayings","_law_j","_law_room","_law_fit","_law_judges"]) ?_ ?_ ?_;walk_at"go";obtain⟨a,b,ns,xs,rfl,hS,Bx,eb,HH,hx5,hx,q⟩:=h;refine⟨[some (.ref a),some (.ref b),none,none,none,none,none],_,rfl,(z6 (zh 2 nd (zP z7))
  (z6 (xq Vt rfl (yQ rfl Aj (z9 (zu zk z5 (zn Ac hr (z9 (z8 0) (z9 z5 (z9 z5 z7))))) z7)) (xt 3 nd) (z6 (zh 4 nd (zQ (zP (z9 z5 (z9 z5 (z9 z5 (z9 z5 (z9 z5 z7)))))) (zn Ac hr (z9 (z8 0) (z9 (zu zk z5 (z8 3)) (z9 z5 z7))))))
  (z4 (zE (uT UK UJ su (z8 2) (z9 (zn Ay hr (z9 (z8 0) (z9 (zu zk z5 (zu xU z5 (z8 3))) (z9 (z8 4) (z9 (z8 1) z7))))) z7))))))
  (z6 (zh 5 nd (zn AV hr (z9 (z8 2) z7)))
  (z6 (xk 6 nd (ixs:=[5,0]) (zU (own:=["_law_j"]) (N:=["_law_fit","_law_script"]) rfl) rfl (yQ rfl Aj (z9 (zu zk z5 (zn Ac hr (z9 (z8 0) (z9 z5 (z9 z5 z7))))) z7)) (λ_ _ _ _=>zD) (λ_ _ _ _=>(zQ (z8 1) (zn Ac hr (z9 (z8 2) (z9 (zu zk z5 (z8 0)) (z9 (zw zR rfl Ab zZ (z9 (z8 1) z7)) z7)))))) rfl)
  (z6 (zf (zo (yt hr.units) (zn Ac hr (z9 (z8 0) (z9 z5 (z9 z5 z7)))) z5 (zp _)) (z4 (li 6 nd (ixs:=[2,0]) (lK (x:="_law_j") (N:=["_law_sayings","_law_script"]) rfl rfl rfl rfl (λ_=>rfl) (λ_=>rfl) rfl rfl rfl (by decide +kernel) rfl rfl rfl) rfl (yQ rfl Aj (z9 z5 z7)) (λ_ _ _ _=>zD) (λ_ _ _ _=>(zJ yN rfl Ae yo (z9 (yd (ixs:=[2,0]) (zU (own:=["_law_k"]) (N:=["_law_script","_law_j"]) rfl) rfl (yQ rfl Aj (z9 (zw zR rfl Ab zZ (z9 (z8 1) z7)) z7)) (λ_ _ _ _=>zD) (λ_ _ _ _=>(yH (yt hr.units) (zn Ac hr (z9 (z8 1) (z9 (zu zk (zu zk z5 (zu xU z5 (z8 2))) (z8 0)) (z9 z5 z7)))) z5 (zp _))) rfl) z7))) rfl)) zt)
  (z4 (zr (zn Ep hr (z9 (z8 2) (z9 (z8 6) z7)))))))))),?_⟩
 walk_at"rp";refine⟨zb (by simp),λl H2 n2 s2 e2=>?_⟩;walk_at"rp";refine⟨a,ns,_,4,rfl,s2.seq hS,Bx,by decide,by decide,by decide,λm m0 m4=>?_⟩;walk_at"rp";refine⟨⟨by lia,by lia⟩,?_⟩;refine we (λi σ H3=>∃(us:N1)(ts:N3)(x4 x5:Option V),σ=[some (.ref a),some (.ref b),some (.ref l),x4,x5,none,none]/\H3 l=some (.lst us)/\SaysAt K H3 us ts/\ts.length=i/\(∀t∈ts,t.pieces<=9/\∀x∈t.letters,x∈xs)/\Same H H3/\SqL K H3 b (xs.map V.str)) ⟨[],[],none,none,rfl,e2,trivial,rfl,λt ht=>by simp at ht,s2,s2.seq (SqL.of eb)⟩ ?_ ?_
 ·rintro i σ H3 hi ⟨us,ts,x4,x5,rfl,e3,Lo,hl,Eu,s3,hb3⟩;walk_at"rp";refine⟨zb (by simp),λrl H4 n4 s4 e4=>?_⟩;have s34:Same H H4:=s3.trans s4;refine⟨a,ns,_,5,rfl,s34.seq hS,Bx,by lia,by lia,by decide,λj j0 j5=>?_⟩;walk_at"rp";obtain⟨rm,erm,rm1,rm9⟩:∃rm:Int,atI [V.int 1,V.int 2,V.int 3,V.int 5,V.int 9] j=some (.int rm)/\1<=rm/\rm<=9:=by
   have o':j=0\/j=1\/j=2\/j=3\/j=4:=by lia
   rcases o' with rfl|rfl|rfl|rfl|rfl
   ·exact⟨1,rfl,by decide,by decide⟩
   ·exact⟨2,rfl,by decide,by decide⟩
   ·exact⟨3,rfl,by decide,by decide⟩
   ·exact⟨5,rfl,by decide,by decide⟩
   ·exact⟨9,rfl,by decide,by decide⟩
  refine⟨_,_,.inl (SqL.of e4),erm,?_⟩;walk_at"rp";refine⟨⟨_,_,rfl,s4 _ _ e3⟩,cm (by decide),a,ns,_,rm,b,xs,rfl,s34.seq hS,Bx,by lia,by lia,rm1,by lia,.inl (s4.seq hb3),by lia,by lia,λv H5 t s5 sv pc lt=>?_⟩;walk_at"rp";have e5:=(s4.trans s5) _ _ e3;have tl:=yT (o:=.lst (us++[v])) e5;refine⟨us,e5,by rw[Lo.len,hl,VP];lia,us++[v],ts++[t],_,_,rfl,zv,SaysAt.app (Lo.mono ((zz (s4.trans s5)).trans tl)) ⟨sv.mono tl,trivial⟩,by rw[VU,hl];rfl,λu hu=>?_,zi (s34.trans s5) n2 _,?_⟩
  ·rcases VQ.mp hu with hu|hu
   ·exact Eu u hu
   ·rw[VX.mp hu];exact⟨by lia,lt⟩
  ·have Be:b≠l:=λz=>by rw[<-z,eb]at n2;cases n2
   have hb5:=(s4.trans s5).seq hb3;exact gE Be hb5
 ·rintro σ H3 ⟨us,ts,x4,x5,rfl,e3,Lo,hl,Eu,s3,hb3⟩;have htn:ts.length<=4:=by lia
  have G9:1<=ts.length:=by lia
  have hL:Lst ts xs:=⟨G9,by lia,λt ht=>by have:=(Eu t ht).1;lia,λy hy=>by
   obtain⟨t,ht,hyt⟩:=mem_allL.mp hy;exact(Eu t ht).2 y hyt,hx5,λy hy=>pq (hx y hy)⟩
  walk_at"rp";refine⟨l,us,ts,xs,rfl,.inl (SqL.of e3),Lo,hL,λpf H4 ss R n4 s4 e4 hR hN hF h32=>?_⟩;have JF:=bX hF;walk_at"rp";refine⟨a,ns,_,5,rfl,(s3.trans s4).seq hS,Bx,by decide,by decide,by decide,λm2 g0 g5=>?_⟩;walk_at"rp";refine⟨⟨by lia,by lia⟩,λC s₀ H₀ ex=>?_⟩;refine yD (λD i ys H5=>∃J:List (Addr×List Bool),ys=(J.map λr=>V.ref r.1)/\J.length=i/\(∀r∈J,r∈R)/\H5 D=some (.lst ys)/\Same H4 H5/\H4 D=none) (by rw[VP];lia) ?_ ?_ ?_ ?_
  ·intro D H5 n5 s5 e5;exact⟨[],rfl,rfl,(by simp),e5,s5,n5⟩
  ·rintro D i ys H5 ⟨J,rfl,hJ,Hh,e5,s5,n5⟩;exact⟨e5,by rw[WA,hJ]⟩
  ·rintro D i ys H5 hi ⟨J,rfl,hJ,Hh,e5,s5,n5⟩;walk_at"rp";refine⟨_,.inl (SqL.of (s5 _ _ e4)),?_⟩;rw[WA];refine⟨a,ns,_,_,rfl,(s3.trans (s4.trans s5)).seq hS,Bx,by lia,by lia,by lia,λri r0 r1=>?_⟩;walk_at"rp";obtain⟨rn,rfl⟩:∃rn:Nat,ri=(rn:Int):=⟨ri.toNat,by lia⟩
   obtain⟨r,ER⟩:∃r,R[rn]?=some r:=⟨_,V2 (by lia)⟩
   refine⟨_,_,.inl (SqL.of (s5 _ _ e4)),aW ER,e5,CN.mk hi ⟨J++[r],by rw[VL];rfl,by rw[VU,hJ];rfl,λz hz=>?_,zv,zi s5 n5 _,n5⟩⟩;rcases VQ.mp hz with z1|z1
   ·exact Hh z z1
   ·rw[VX.mp z1];exact VR ER
  rintro Dj ys5 H5 ⟨J,rfl,hJ,Hh,e5,s5,n5⟩;have G3:=s4.trans s5;have Ju:=s3.trans G3;have rows:∀r∈R,SqT K H5 r.1 (r.2.map V.bl)/\r.2.length=ts.length:=λr ER=>⟨(zz s5).sqT (hR r ER),nM hF (Vs (f:=λr:Addr×List Bool=>r.2) ER)⟩
  refine wq (C:=fun σ' H'=>∃(Dj:Addr)(J:KF),σ'=[some (.ref a),some (.ref b),some (.ref l),x4,x5,some (.ref pf),some (.ref Dj)]/\Same H H'/\Same H3 H'/\pF K H' Dj J ts.length/\1<=J.length/\J.length<=5) (λN hN=>?_) ?_
  ·walk_at"rp";refine⟨a,ns,_,3,rfl,Ju.seq hS,Bx,by decide,by decide,by decide,λz z0 z3=>?_⟩;walk_at"rp";refine yx (λc=>?_) λc=>hN _ _ ⟨Dj,J,rfl,Ju,G3,⟨SqL.of e5,λr ER=>(rows r (Hh r ER)).1,λr ER=>(rows r (Hh r ER)).2⟩,by lia,by lia⟩;walk_at"rp";refine⟨⟨by decide,by decide⟩,λC s₀ H₀ ex=>?_⟩;refine yD (λD i ys H6=>∃J:List (Addr×List Bool),ys=(J.map λr=>V.ref r.1)/\J.length=i/\(∀r∈J,SqT K H6 r.1 (r.2.map V.bl)/\r.2.length=ts.length)/\H6 D=some (.lst ys)/\Same H5 H6/\H5 D=none) (zb (by decide)) ?_ ?_ ?_ ?_
   ·intro D H6 n6 s6 e6;exact⟨[],rfl,rfl,(by simp),e6,s6,n6⟩
   ·rintro D i ys H6 ⟨J,rfl,hJ,Hh,e6,s6,n6⟩;exact⟨e6,by rw[WA,hJ]⟩
   ·rintro D i ys H6 hi ⟨J,rfl,hJ,Hh,e6,s6,n6⟩;have hi3:i<3:=hi;have e36:=(G3.trans s6) _ _ e3;walk_at"rp";refine⟨_,.inl (SqL.of e36),?_⟩;rw[Lo.len];refine⟨⟨by lia,by lia⟩,λC2 Y' RN ex2=>?_⟩;rw[Vu];refine yD (λD2 j ys H7=>∃k:List Bool,ys=k.map V.bl/\k.length=j/\H7 D2=some (.lst ys)/\Same H6 H7/\H6 D2=none) (by rw[VP];lia) ?_ ?_ ?_ ?_
    ·intro D2 H7 n7 s7 e7;exact⟨[],rfl,rfl,e7,s7,n7⟩
    ·rintro D2 j ys H7 ⟨k,rfl,hk,e7,s7,n7⟩;exact⟨e7,by rw[WA,hk]⟩
    ·rintro D2 j ys H7 hj ⟨k,rfl,hk,e7,s7,n7⟩;walk_at"rp";refine⟨cm (by decide),a,ns,_,2,rfl,(Ju.trans (s6.trans s7)).seq hS,Bx,by lia,by lia,by decide,λy y0 y2=>?_⟩;walk_at"rp";exact⟨e7,CN.mk hj ⟨k++[decide (y=0)],by rw[VL];rfl,by rw[VU,hk];rfl,zv,zi s7 n7 _,n7⟩⟩
    rintro D2 ys7 H7 ⟨k,rfl,hk,e7,s7,n7⟩;walk_at"rp";refine⟨_,.inl (SqL.of e7),λra H8 s8 h8=>?_⟩;have MG:=(s7.trans s8) _ _ e6;have tl:=yT (o:=.lst ((J.map λr=>V.ref r.1)++[V.ref ra])) MG;refine⟨MG,CN.mk hi ⟨J++[(ra,k)],by rw[VL];rfl,by rw[VU,hJ];rfl,λr ER=>?_,zv,zi (s6.trans (s7.trans s8)) n6 _,n6⟩⟩;rcases VQ.mp ER with z1|z1
    ·exact⟨tl.sqT ((zz (s7.trans s8)).sqT (Hh r z1).1),(Hh r z1).2⟩
    ·rw[VX.mp z1];exact⟨tl.sqT h8,hk⟩
   rintro D6 ys6 H6 ⟨J,rfl,hJ,Hh,e6,s6,n6⟩;have hJ3:J.length=3:=hJ;exact hN _ _ ⟨D6,J,rfl,Ju.trans s6,G3.trans s6,⟨SqL.of e6,λr ER=>(Hh r ER).1,λr ER=>(Hh r ER).2⟩,by lia,by lia⟩
  ·rintro σ' H6 ⟨Dj,J,rfl,s06,LF,hJL,hJ1,hJ5⟩;walk_at"rp";have hW:WrT ts (J.map (·.2)):=⟨λt ht=>⟨by have:=(Eu t ht).1;lia,λy hy=>hx y ((Eu t ht).2 y hy)⟩,λk hk=>by
    obtain⟨r,ER,rfl⟩:=VC.mp hk;exact hJL.len r ER,G9,by lia,by rw[WA];exact hJ1,by rw[WA];lia⟩
   have hD:=gx hW htn (by rw[WA];exact hJ5) λt ht=>(Eu t ht).1;exact⟨l,Dj,us,ts,J,rfl,SqL.of (LF _ _ e3),Lo.mono (zz LF),by lia,λt ht=>⟨(hW.say t ht).1,λy hy=>pq ((hW.say t ht).2 y hy)⟩,hJL,by lia,λH7 s7=>q _ H7 (s06.trans s7) hD.1 hD.2⟩
def kZ(K:Nl):Sp:=λvs H Q _=>∃(a b:Addr)(ns:Nj)(xs:GM),vs=[.ref a,.ref b]/\SqL K H a (ns.map V.int)/\ns.length<=5000/\H b=some (.lst (xs.map V.str))/\1<=xs.length/\(∀x∈xs,NmV x)/\∀(p:Addr)(ys:GM)(H':Hp),Same H H'->H' p=some (.lst (ys.map V.str))->(∀y∈ys,k7 y true)->Q (.ref p) H'
def C8(x:Str):Prop:=∀c∈x.cps.toList,c<16 ^ 8
def lU(h:∀l∈ls,C8 l)(hs:yE ls<=453):k7 (Txt.join ("\n":Str) ls) true:=by
 have hj:=qu ls;exact⟨⟨by lia,nZ h⟩,by lia,λ_=>by lia⟩
def Yo:Txt.mul ("y":Str) 7=("yyyyyyy":Str):=by decide +kernel
def c8a:C8 ("say ":Str)/\C8 ("say not ":Str)/\C8 ("judge ":Str)/\C8 ("judge yn":Str)/\C8 ("judge yy":Str)/\C8 ("judge nnnnnn":Str)/\C8 ("say (":Str)/\C8 (" and (":Str)/\C8 ("q or (":Str)/\C8 ("z and not ":Str)/\C8 ("x)))":Str)/\C8 ("bcdfghjklm":Str)/\C8 ("yyyyyyy":Str):=by unfold C8;decide +kernel
def lg:("say ":Str).length=4/\("say not ":Str).length=8/\("judge ":Str).length=6/\("judge yn":Str).length=8/\("judge yy":Str).length=8/\("judge nnnnnn":Str).length=12/\("say (":Str).length=5/\(" and (":Str).length=6/\("q or (":Str).length=6/\("z and not ":Str).length=10/\("x)))":Str).length=4/\("bcdfghjklm":Str).length=10/\("yyyyyyy":Str).length=7:=by decide +kernel
def W6{y:Str}(h:NmV y):C8 y:=λc hc=>by
 have:=tV (h.2 c hc);lia
def eF(n:Nat)(l:Str):yE (List.replicate n l)=n*(l.length+1):=by
 induction n with
 |zero=>simp[yE]
 |succ n ih=>rw[U7,zF,ih,Nat.succ_mul];lia
def fC(D:Def K mg "_law_great" (top 65) ["_law_script","_law_names_here"])(Ac:zq P w K mg base 2 "_law_pick" ["_law_script","_law_k","_law_many"] (wR K))(Aj:mg "range"=none):zq P w K mg base 3 "_law_great" ["_law_script","_law_names_here"] (kZ K):=by
 refine D.callee (N:=["_law_script","_law_names_here","_law_x","_law_seven","_law_many","_law_letters","_law_wide","_law_k","_law_a"]) ?_ ?_ ?_;walk_at"go";obtain⟨a,b,ns,xs,rfl,hS,Bx,eb,HH,hx,q⟩:=h;obtain⟨x0,KN,rfl⟩:∃x0 KN,xs=x0::KN:=by
  cases xs with
  |nil=>exact absurd HH (by simp)
  |cons x0 KN=>exact⟨x0,KN,rfl⟩
 have h0:=hx x0 VE;have h0l:=pr h0;have h08:=W6 h0;obtain⟨K7,K8,K9,ML,MK,MS,MR,MQ,MP,MO,MN,Jg,MM⟩:=c8a;obtain⟨g1,g2,g3,g4,g5,g6,g7,g8,g9,g10,g11,g12,g13⟩:=lg;refine⟨[some (.ref a),some (.ref b),none,none,none,none,none,none,none],_,rfl,(z6 (zh 2 nd (zu zk zy (zQ (z8 1) z5)))
  (z6 (zh 3 nd (zu zk (zu fW (zP (z9 (z8 2) z7)) z5) (zP (z9 (zu zk zy (zu ZQ zy z5)) z7))))
  (z6 (zh 4 nd (zu zk (zP (z9 (z8 2) (z9 (zu zk zy (zQ (z8 1) z5)) z7))) (zu fW (zP (z9 zy z7)) (zu zk z5 (zn Ac hr (z9 (z8 0) (z9 z5 (z9 z5 z7))))))))
  (z6 (zf (zo (yt hr.units) (zn Ac hr (z9 (z8 0) (z9 z5 (z9 z5 z7)))) z5 (zp _)) (z4 (eV hr.units (z8 4) z5 zy)) zt)
  (z6 (zh 5 nd zy)
  (z6 (zh 6 nd (zP z7))
  (z6 (xq Vt rfl (yQ rfl Aj (z9 z5 z7)) (xt 7 nd) (z6 (zh 8 nd (zQ (z8 5) (z8 7)))
  (z4 (zE (uT UK UJ su (z8 6) (z9 (zu zk (zu zk (zu zk (zu zk (zu zk (zu zk (zu zk (zu zk zy (z8 8)) zy) (z8 8)) zy) (z8 8)) zy) (z8 8)) zy) z7))))))
  (z4 (zr (zP (z9 (uw zy (z9 (z8 3) z7)) (z9 (uw zy (z9 (z8 4) z7)) (z9 (uw zy (z9 (zu zk (z8 6) (zP (z9 zy z7))) z7)) z7))))))))))))),?_⟩
 walk_at"rp";refine⟨_,_,.inl (SqL.of eb),vD (V.str x0) (KN.map V.str),?_⟩;walk_at"rp";refine⟨szt (by lia),zb (by simp),λp1 H1 n1 s1 e1=>?_⟩;walk_at"rp";generalize hX:("say ":Str)++x0=X at e1 ⊢;have hXl:X.length<=10:=by rw[<-hX,yB];lia
 have hX8:C8 X:=by rw[<-hX];exact yz K7 h08
 refine⟨p1,7,[V.str X],rfl,rfl,e1,by decide,by decide,zb (show 1*7<=1000 by decide),λp2 np2=>?_⟩;have s2:=yY np2 (.lst (List.replicate (7:Int).toNat [V.str X]).flatten);have e2:upd H1 p2 (.lst (List.replicate (7:Int).toNat [V.str X]).flatten) p2=some (.lst ((List.replicate 7 X).map V.str)):=zv;generalize upd H1 p2 (.lst (List.replicate (7:Int).toNat [V.str X]).flatten)=H2 at s2 e2 ⊢;refine⟨_,_,rfl,rfl,mulOk_of 4 3000 (by decide +kernel) (by decide) (by decide) (by decide) (by decide),?_⟩;rw[Yo];refine⟨szt (by lia),zb (by simp),λp3 H3 n3 s3 e3=>?_⟩;walk_at"rp";refine .inl ⟨_,_,s3 _ _ e2,e3,zb (by simp),λp4 H4 n4 s4 e4=>?_⟩;have s14:=s1.trans (s2.trans (s3.trans s4));have e4':H4 p4=some (.lst ((List.replicate 7 X++[("judge ":Str)++("yyyyyyy":Str)]).map V.str)):=e4;walk_at"rp";refine⟨_,_,.inl (s14.seq (SqL.of eb)),vD (V.str x0) (KN.map V.str),?_⟩;walk_at"rp";refine⟨szt (by lia),zb (by simp),λp5 H5 n5 s5 e5=>?_⟩;walk_at"rp";generalize hY:("say not ":Str)++x0=Y at e5;have hYl:Y.length<=14:=by rw[<-hY,yB];lia
 have hY8:C8 Y:=by rw[<-hY];exact yz K8 h08
 refine⟨zb (by simp),λp6 H6 n6 s6 e6=>?_⟩;walk_at"rp";have s16:=s14.trans (s5.trans s6);refine⟨a,ns,_,9,rfl,s16.seq hS,Bx,by decide,by decide,by decide,λm m0 m9=>?_⟩;walk_at"rp";obtain⟨mn,rfl⟩:∃mn:Nat,m=(mn:Int):=⟨m.toNat,by lia⟩
 refine⟨p6,21+(mn:Int),[V.str ("judge yn":Str)],rfl,rfl,e6,by lia,by lia,zb (by simp;lia),λp7 np7=>?_⟩;have s7:=yY np7 (.lst (List.replicate (21+(mn:Int)).toNat [V.str ("judge yn":Str)]).flatten);have e7:upd H6 p7 (.lst (List.replicate (21+(mn:Int)).toNat [V.str ("judge yn":Str)]).flatten) p7=some (.lst ((List.replicate (21+mn) ("judge yn":Str)).map V.str)):=by
  rw[zv,show(21+(mn:Int)).toNat=21+mn by lia]
  congr 2
  rw[List.map_replicate];generalize 21+mn=z
  induction z with
  |zero=>rfl
  |succ z ih=>rw[U7,U7,Um,ih];rfl
 generalize upd H6 p7 (.lst (List.replicate (21+(mn:Int)).toNat [V.str ("judge yn":Str)]).flatten)=H7 at s7 e7 ⊢;walk_at"rp";refine .inl ⟨_,_,(s6.trans s7) _ _ e5,e7,by rw[WA,U5,VP];simp only[VN,Vx];lia,λp8 H8 n8 s8 e8=>?_⟩;have s48:=s5.trans (s6.trans (s7.trans s8));have KR:=s14.trans s48;have e8':H8 p8=some (.lst (([X,Y]++List.replicate (21+mn) ("judge yn":Str)).map V.str)):=by
  rw[e8,VL]
  rfl
 have n08:H p8=none:=zW (s14.trans (s5.trans (s6.trans s7))) n8;have n48:p8≠p4:=λz=>by
  have:=(s5.trans (s6.trans s7)) _ _ e4;rw[<-z,n8]at this;cases this
 walk_at"rs";refine wq (C:=fun σ' H'=>∃zs:List Str,σ'=[some (.ref a),some (.ref b),some (.str X),some (.ref p4),some (.ref p8),none,none,none,none]/\Same H H'/\H' p4=some (.lst ((List.replicate 7 X++[("judge ":Str)++("yyyyyyy":Str)]).map V.str))/\H' p8=some (.lst (([X,Y]++zs).map V.str))/\zs.length<=30/\∀z∈zs,z.length<=8/\C8 z) (λN hN=>?_) ?_
 ·walk_at"rp";refine⟨a,ns,_,2,rfl,KR.seq hS,Bx,by decide,by decide,by decide,λo o0 o2=>?_⟩;walk_at"rp";have rep:∀z∈List.replicate (21+mn) ("judge yn":Str),z.length<=8/\C8 z:=λz hz=>by
   rw[T6 hz];exact⟨by lia,ML⟩
  refine yx (λc=>?_) λc=>hN _ _ ⟨_,rfl,KR,s48 _ _ e4',e8',by rw[U5];lia,rep⟩;walk_at"rp";refine .inr ⟨_,_,5,e8',rfl,rfl,by rw[WA,VU,U5];simp only[VN,Vx];lia,?_⟩;refine hN _ _ ⟨(List.replicate (21+mn) ("judge yn":Str)).set 3 ("judge yy":Str),rfl,zi KR n08 _,by rw[ze n48.symm];exact s48 _ _ e4',?_,by rw[List.length_set,U5];lia,λz hz=>?_⟩
  ·rw[zv]
   congr 2
   rw[<-List.map_set]
   rfl
  ·rcases List.mem_or_eq_of_mem_set hz with z1|z1
   ·exact rep z z1
   ·rw[z1];exact⟨by lia,MK⟩
 ·rintro σ' H9 ⟨zs,rfl,JU,e49,e89,hzl,JZ⟩;walk_at"rp";refine⟨zb (by simp),λp10 Cf n10 BX Ls=>?_⟩;walk_at"rp";have n010:H p10=none:=zW JU n10;refine⟨⟨by decide,by decide⟩,we (λi σ Jh=>∃(ws:List Str)(x7 x8:Option V),σ=[some (.ref a),some (.ref b),some (.str X),some (.ref p4),some (.ref p8),some (.str ("bcdfghjklm":Str)),some (.ref p10),x7,x8]/\Same H9 Jh/\Jh p10=some (.lst (ws.map V.str))/\ws.length=i/\∀w∈ws,w.length<=35/\C8 w) ⟨[],none,none,rfl,BX,Ls,rfl,by simp⟩ ?_ ?_⟩
  ·rintro i σ Jh hi ⟨ws,x7,x8,rfl,GY,e11,Jx,hw⟩;have hi6:i<6:=hi;obtain⟨c,hc⟩:∃c,("bcdfghjklm":Str).cps.toList[i]?=some c:=⟨_,V2 (by rw[zV];lia)⟩
   have JD:C8 (⟨#[c]⟩:Str):=λd hd=>by
    have:d=c:=by simpa using hd
    rw[this];exact Jg c (VR hc)
   have hc1:(⟨#[c]⟩:Str).length=1:=rfl;walk_at"rp";rw[Int.zero_add];refine⟨szt (by lia),c,xf hc,?_⟩;walk_at"rp";generalize(⟨#[c]⟩:Str)=cc at JD hc1 ⊢;refine⟨⟨_,_,rfl,e11⟩,szt (by lia),szt (by simp only[yB];lia),szt (by simp only[yB];lia),szt (by simp only[yB];lia),szt (by simp only[yB];lia),szt (by simp only[yB];lia),szt (by simp only[yB];lia),szt (by simp only[yB];lia),?_⟩;walk_at"rp";refine⟨_,e11,by rw[WA,Jx,VP];lia,ws++[_],_,_,rfl,zi GY n10 _,by rw[zv,VL];rfl,by rw[VU,Jx];rfl,λw hw'=>?_⟩;rcases VQ.mp hw' with z|z
   ·exact hw w z
   ·rw[VX.mp z];refine⟨by simp only[yB];lia,?_⟩;exact yz (yz (yz (yz (yz (yz (yz (yz MR JD) MQ) JD) MP) JD) MO) JD) MN
  ·rintro σ Jh ⟨ws,x7,x8,rfl,GY,e11,Jx,hw⟩;have hw6:ws.length=6:=Jx;have j7:C8 (("judge ":Str)++("yyyyyyy":Str)):=yz K9 MM;have j7l:(("judge ":Str)++("yyyyyyy":Str)).length=13:=by rw[yB];lia
   have q1:yE (List.replicate 7 X++[("judge ":Str)++("yyyyyyy":Str)])<=453:=by rw[xx,eF,zF];show _+(_+1+0)<=_;lia
   have t1:=lU (ls:=List.replicate 7 X++[("judge ":Str)++("yyyyyyy":Str)]) (λl hl=>by
    rcases VQ.mp hl with z|z
    ·rw[T6 z];exact hX8
    ·rw[VX.mp z];exact j7) q1
   have zl:=vO (b:=8) (ls:=zs) λz hz=>(JZ z hz).1;have q2:yE ([X,Y]++zs)<=453:=by
    rw[xx,zF,zF];show _+(_+0)+_<=_;have:zs.length*(8+1)<=30*9:=Nat.mul_le_mul_right _ hzl;lia
   have t2:=lU (ls:=[X,Y]++zs) (λl hl=>by
    rcases VQ.mp hl with z|z
    ·rcases VI.mp z with z|z
     ·rw[z];exact hX8
     ·rw[VX.mp z];exact hY8
    ·exact(JZ l z).2) q2
   have wl:=vO (b:=35) (ls:=ws) λz hz=>(hw z hz).1;have q3:yE (ws++[("judge nnnnnn":Str)])<=453:=by
    rw[xx,zF];show _+(_+0)<=_;rw[hw6]at wl;lia
   have t3:=lU (ls:=ws++[("judge nnnnnn":Str)]) (λl hl=>by
    rcases VQ.mp hl with z|z
    ·exact(hw l z).2
    ·rw[VX.mp z];exact MS) q3
   have sz:∀ls:List Str,yE ls<=453->(ls.map (·.length)).sum+ls.length*("\n":Str).length<=16777216:=λls h=>by
    rw[d0,Nat.mul_one,<-uJ];lia
   walk_at"rp";refine⟨_,SqL.of (GY _ _ e49),sz _ q1,?_⟩;walk_at"rp";refine⟨_,SqL.of (GY _ _ e89),sz _ q2,?_⟩;walk_at"rp";refine⟨zb (by simp),λp12 H12 n12 KQ e12=>?_⟩;walk_at"rp";refine .inl ⟨_,_,KQ _ _ e11,e12,by rw[WA,hw6,VP];decide,λp13 H13 n13 KP e13=>?_⟩;have e13':H13 p13=some (.lst ((ws++[("judge nnnnnn":Str)]).map V.str)):=by rw[e13,VL];rfl
   walk_at"rp";refine⟨_,SqL.of e13',sz _ q3,zb (by simp),λp14 H14 n14 s14' e14=>?_⟩;refine q p14 [_,_,_] H14 (JU.trans (GY.trans (KQ.trans (KP.trans s14')))) e14 λy hy=>?_;rcases VI.mp hy with z|z
   ·rw[z];exact t1
   ·rcases VI.mp z with z|z
    ·rw[z];exact t2
    ·rw[VX.mp z];exact t3
def YR(n:Nat):0<=(if(if(n:Int)<60 then(n:Int)else 60)>26 then(if(n:Int)<60 then(n:Int)else 60)else 26)/\(if(if(n:Int)<60 then(n:Int)else 60)>26 then(if(n:Int)<60 then(n:Int)else 60)else 26)<=60:=by
 split<;>split<;>lia
def kc(K:Nl):Sp:=λvs H Q _=>∃(a:Addr)(ns:Nj),vs=[.ref a]/\SqL K H a (ns.map V.int)/\ns.length<=63/\∀H',Q (.bl true) H'
theorem aO:∀t:Say,(∀y∈t.letters,NmV y)->1<=(tl t).length
 | .letter y,h=>by
  have:=pr (h y (VX.mpr rfl));rw[gl,zV];lia
 | .neg t,h=>by
  rw[ms,VU,uH];simp only[VN,Vx];lia
 | .bin o a b,h=>by
  cases o with
  |con =>
   rw[ml,vf];simp only[VU,VN,Vx];lia
  |dis =>
   rw[mq,vf];simp only[VU,VN,Vx];lia
  |imp =>
   rw[mr,sk];simp only[VU,VN,Vx];lia
theorem ZW{f:Addr}{fd:FuncData}(D:Fun K "law" "law" (top 66) f fd)(Ac:zq P w K mg base 2 "_law_pick" ["_law_script","_law_k","_law_many"] (wR K))(Fh:zq P w K mg base 3 "_law_names" ["_law_script","_law_k","_law_many"] (kf K))(Ay:zq P w K mg base 43 "_law_saying" ["_law_script","_law_k","_law_room","_law_names_here"] (vV K 40))(AI:zq P w K mg base 60 "_law_shown" ["_law_saying_here"] (qN K 60))(Fj:zq P w K mg base 62 "_law_drawn" ["_law_script","_law_names_here"] (kY K))(Fi:zq P w K mg base 3 "_law_great" ["_law_script","_law_names_here"] (kZ K))(Er:zq P w K mg base 3 "_law_spoiled" ["_law_script","_law_k","_law_text","_law_whole"] (qS K))(Ba:zq P w K mg base 135 "_law_right" ["_law_text","_law_whole"] (kh K))
  (Ab:mg "len"=none) (Aj:mg "range"=none) (BP:mg "max"=none) (BO:mg "min"=none) (A6:mg "int"=none):FnOk P w K mg base CX0 136 f fd ["_law_script"] (kc K):=by
 refine di D (N:=["_law_script","_law_names_here","_law_saying_here","_law_text","_law_great_here","_law_k","_law_whole","_law_spoiled_here"]) ?_ ?_ ?_;walk_at"go";obtain⟨a,ns,rfl,hS,h63',q⟩:=h;have Bx:ns.length<=5000:=Vz h63' (by decide);refine⟨[some (.ref a),none,none,none,none,none,none,none],_,rfl,(z6 (zh 1 nd (zn Fh hr (z9 (z8 0) (z9 z5 (z9 (zu zk z5 (zn Ac hr (z9 (z8 0) (z9 z5 (z9 z5 z7))))) z7)))))
  (z6 (zh 2 nd (zn AI hr (z9 (zn Ay hr (z9 (z8 0) (z9 z5 (z9 z5 (z9 (z8 1) z7))))) z7)))
  (z6 (zh 3 nd (zn Fj hr (z9 (z8 0) (z9 (z8 1) z7))))
  (z6 (zf (PW.pt (yR (wn (yg (zn Ba hr (z9 (z8 2) (z9 wX z7))))) (yS (wn (yg (zn Ba hr (z9 (z8 3) (z9 wX z7)))))))) (z4 (zr wX)) zt)
  (z6 (xq Vt rfl (zA (zn Fi hr (z9 (z8 0) (z9 (z8 1) z7)))) (xt 4 nd) (z4 (zf (wn (yg (zn Ba hr (z9 (z8 4) (z9 wX z7))))) (z4 (zr wX)) zt)))
  (z6 (xq Vt rfl (eW rfl Aj (z9 z5 (z9 (zw (ao rfl) rfl BP dW (z9 z5 (z9 (zw (aq rfl) rfl BO dX (z9 z5 (z9 (zw zR rfl Ab zZ (z9 (z8 0) z7)) z7))) z7))) (z9 z5 z7)))) (xt 5 nd) (z6 (zh 6 nd (yH vg (zn Ac hr (z9 (z8 0) (z9 (zu zk (z8 5) z5) (z9 z5 z7)))) z5 (zp _)))
  (z6 (zh 7 nd (zn Er hr (z9 (z8 0) (z9 (z8 5) (z9 (zQ (zP (z9 (z8 2) (z9 (z8 3) z7))) (zJ uK rfl A6 uk (z9 (z8 6) z7))) (z9 (z8 6) z7))))))
  (z4 (zf (wn (yg (zn Ba hr (z9 (z8 7) (z9 (z8 6) z7))))) (z4 (zr wX)) zt)))))
  (z4 (zr wX)))))))),?_⟩
 walk_at"rp";refine⟨a,ns,_,5,rfl,hS,Bx,by decide,by decide,by decide,λm m0 m5=>?_⟩;walk_at"rp";refine⟨a,ns,0,_,rfl,hS,Bx,by decide,by decide,by lia,by lia,λb H1 xs nb s1 eb lb hx=>?_⟩;walk_at"rp";refine⟨a,ns,100,40,b,xs,rfl,s1.seq hS,Bx,by decide,by decide,by decide,by decide,.inl (SqL.of eb),by lia,by lia,λv H2 t s2 sv pc lt=>?_⟩;have hv:∀y∈t.letters,NmV y:=λy hy=>hx y (lt y hy);have Ki:t.pieces<=40:=by lia
 have G9:=tq t hv;have La:=aO t hv;rw[aN]at G9 La;have htx:yC t.text:=⟨by lia,λc hc=>by
  have:=(va t hv c hc).2;lia⟩
 walk_at"rp";refine⟨v,t,rfl,sv,by lia,⟨by lia,λy hy=>pq (hv y hy)⟩,λH3 s3=>?_⟩;generalize t.text=tx at G9 La htx;have G4:=s1.trans (s2.trans s3);have eb3:=(s2.trans s3) _ _ eb;walk_at"rp";refine⟨a,b,ns,xs,rfl,G4.seq hS,Bx,eb3,by lia,by lia,hx,λwt H4 s4 hD hw1=>?_⟩;walk_at"rp";refine⟨tx,false,rfl,⟨htx,by lia,λz=>by cases z⟩,λH5 s5=>?_⟩;walk_at"rp";have hDl:=hD.2.1;refine⟨wt,true,rfl,⟨hD.1,by lia,λ_=>by lia⟩,λH6 s6=>?_⟩;have LF:=s4.trans (s5.trans s6);have s06:=G4.trans LF;walk_at"rp";refine⟨a,b,ns,xs,rfl,s06.seq hS,Bx,LF _ _ eb3,by lia,hx,λpg ys H7 s7 e7 hys=>?_⟩;walk_at"rp";refine .inl ⟨⟨_,SqL.of e7⟩,xj (xs:=ys.map V.str) (λi σ H8=>∃x4:Option V,σ=[some (.ref a),some (.ref b),some (.str tx),some (.str wt),x4,none,none,none]/\Same H7 H8) ⟨none,rfl,Same.refl _⟩ ?_ ?_ ?_⟩
 ·rintro i σ H8 _ ⟨x4,rfl,s8⟩;exact s8.seq (SqL.of e7)
 ·rintro i u σ H8 hu ⟨x4,rfl,s8⟩;rw[VA]at hu;cases hc:ys[i]? with
  |none=>rw[hc]at hu;cases hu
  |some y =>
   rw[hc]at hu;cases hu;walk_at"rp";refine⟨y,true,rfl,hys y (VR hc),λH9 s9=>?_⟩;walk_at"rp";exact⟨_,rfl,s8.trans s9⟩
 ·rintro σ H8 ⟨x4,rfl,s8⟩;have KR:=s06.trans (s7.trans s8);walk_at"rp";refine⟨_,.inl (KR.seq hS),?_⟩;rw[WA];have rg:=YR ns.length;generalize(if(if(ns.length:Int)<60 then(ns.length:Int)else 60)>26 then(if(ns.length:Int)<60 then(ns.length:Int)else 60)else 26)=mm at rg ⊢;refine⟨⟨by decide,by decide,rg.1,by lia,by decide,by decide⟩,np (λi σ H9=>(∃x5 x6 x7,σ=[some (.ref a),some (.ref b),some (.str tx),some (.str wt),x4,x5,x6,x7])/\Same H8 H9) ⟨⟨_,_,_,rfl⟩,Same.refl _⟩ ?_ ?_⟩
  ·rintro i σ H9 hi ⟨⟨x5,x6,x7,rfl⟩,s9⟩;have hk:=YS (by decide) hi;have JU:=KR.trans s9;walk_at"rp";refine⟨a,ns,_,3,rfl,JU.seq hS,Bx,by lia,by lia,by decide,λwz w0 w3=>?_⟩;walk_at"rp";generalize decide (0<wz)=bw;refine⟨zb (by simp),λpl Cf n10 BX Ls=>?_⟩;walk_at"rp";have sp:∀(x:Str)(Q':VK),yC x->1<=x.length->x.length<=370->(bw=true->DT x)->(∀(y:Str)(H':Hp),Same Cf H'->k7 y bw->Q' (.str y) H')->qS K [V.ref a,V.int (6+(i:Int)*5),V.str x,V.bl bw] Cf Q' E0:=λx Q' h1 h2 h3 h4 h5=>⟨a,ns,_,x,bw,rfl,(JU.trans BX).seq hS,Bx,by lia,by lia,h1,h2,h3,h4,h5⟩
   cases bw with
   |true =>
    refine⟨_,_,.inl (SqL.of Ls),rfl,sp wt _ hD.1 hw1 hD.2.1 (λ_=>hD) λy Jh GY hy=>?_⟩;walk_at"rp";refine⟨y,true,rfl,hy,λH12 KQ=>?_⟩;walk_at"rp";exact⟨⟨_,_,_,rfl⟩,s9.trans (BX.trans (GY.trans KQ))⟩
   |false =>
    refine⟨_,_,.inl (SqL.of Ls),rfl,sp tx _ htx La (by lia) (λz=>by cases z) λy Jh GY hy=>?_⟩;walk_at"rp";refine⟨y,false,rfl,hy,λH12 KQ=>?_⟩;walk_at"rp";exact⟨⟨_,_,_,rfl⟩,s9.trans (BX.trans (GY.trans KQ))⟩
  ·rintro σ H9 ⟨⟨x5,x6,x7,rfl⟩,s9⟩;walk_at"rp";exact q H9
def pO{es:Array DictEntry}(l:K.lookup Ta=some ⟨.type "dict",none,.dict es ep,#[]⟩)(q:es=#[⟨hashStr w "y",.str "y" t1,.bool true⟩,⟨hashStr w "n",.str "n" t2,.bool false⟩])(n:(Ta==sysModules)=false):DictK P w K Ta wu:=by
 subst q;refine⟨_,_,_,l,⟨rfl,rfl,rfl⟩,rfl,λe he=>?_,.cons (xa _ _ _ _) rfl (.cons (xa _ _ _ _) rfl .nil),by decide +kernel,n⟩;have Lj:e∈[(⟨hashStr w "y",.str "y" t1,.bool true⟩:DictEntry),⟨hashStr w "n",.str "n" t2,.bool false⟩]:=by simpa using he
 rcases VI.mp Lj with z|z
 ·rw[z];exact⟨_,xa _ _ _ _,rfl⟩
 ·rw[VX.mp z];exact⟨_,xa _ _ _ _,rfl⟩
def jZ{sl:Nh}(l:K.lookup Wa=some ⟨.type "tuple",od,.seq #[.str "not" t0,.str "and" t1,.str "or" t2,.str "if" t3,.str "then" t4,.str "say" t5,.str "judge" t6] n,sl⟩)(H:Hp):SqT K H Wa (wordsL.map V.str) :=
 .inr ⟨_,_,_,l,rfl,rfl,zb (show 7<=1000 by decide),.cons ⟨_,rfl⟩ (.cons ⟨_,rfl⟩ (.cons ⟨_,rfl⟩ (.cons ⟨_,rfl⟩ (.cons ⟨_,rfl⟩ (.cons ⟨_,rfl⟩ (.cons ⟨_,rfl⟩ .nil))))))⟩
end
end Kx
namespace Kx
open PySem PySem.Spec L2 My
open PyProof.Rows hiding St
variable{A8 AF AU Ag Am Ao Ap As Ax DC Gv Ih fa:Addr}{CJ CW DE Di HD Io JW:HK}{CG Dg Hx JR:Nh}{B9 Bq CI CK CM CU CV D0 D9 DA Dh Dm FC HC HG Ij Ik JX:Nq}{CF DZ De Df E1 Ea G1 G2 Hn Hq Hr Hs Ht Hu Hv:Tok}{GI Hw:Nat}
def all_mk{l:W.OpenLaw}{w:No}{K:Nl}{h:Nw}{mg:FB}(X:K.In h)(G:h.Ns mainGlobals mg)(hfa:mg "law"=some (.ref fa))
  
  
  
  
  
  
  
  
  
  
  
  
  
  
  
  
  
  
  
  {Ew:Array DictEntry}
  (EZ:Def K mg "pieces_in" (top 8) ["saying"])
  (EC:Def K mg "letters_in" (top 9) ["saying"])
  (FG:Def K mg "names_in" (top 10) ["saying"])
  (Ji:Def K mg "is_so" (top 11) ["saying","held"])
  (DG:Def K mg "ways_to_hold" (top 13) ["names"])
  (GQ:Def K mg "held_by" (top 14) ["number","names"])
  (FF:Def K mg "names_of" (top 16) ["sayings"])
  (FR:Def K mg "all_held" (top 17) ["sayings"])
  (Iq:Def K mg "row_of" (top 18) ["sayings","held"])
  (FQ:Def K mg "fit_rows" (top 19) ["sayings"])
  (DK:Def K mg "check_bounds" (top 25) ["sayings","judges"])
  (FP:Def K mg "is_among" (top 26) ["rows","row"])
  (EG:Def K mg "check_rows" (top 27) ["sayings","judges"])
  (Ip:Def K mg "seated" (top 28) ["sayings","judges"])
  (EF:Def K mg "check_text" (top 35) ["text"])
  (Ek:Def K mg "read_saying" (top 36) ["text"])
  (FE:Def K mg "read_row" (top 37) ["line","many"])
  (KA:Def K mg "read" (top 38) ["text"])
  (FO:Def K mg "_law_cell" (top 40) ["_law_script","_law_k"])
  (FL:Def K mg "_law_pick" (top 41) ["_law_script","_law_k","_law_many"])
  (FM:Def K mg "_law_next" (top 42) ["_law_k","_law_j"])
  (FK:Def K mg "_law_safe" (top 43) ["_law_name"])
  (Fc:Def K mg "_law_names" (top 44) ["_law_script","_law_k","_law_many"])
  (EE:Def K mg "_law_saying" (top 45) ["_law_script","_law_k","_law_room","_law_names_here"])
  (Ir:Def K mg "_law_so" (top 46) ["_law_saying_here","_law_held_here"])
  (FN:Def K mg "_law_held" (top 47) ["_law_number","_law_names_here"])
  (ED:Def K mg "_law_within" (top 48) ["_law_saying_here"])
  (CY:Def K mg "_law_all_names" (top 49) ["_law_sayings"])
  (GO:Def K mg "_law_row" (top 50) ["_law_sayings","_law_held_here"])
  (DJ:Def K mg "_law_fit_rows" (top 51) ["_law_sayings"])
  (FJ:Def K mg "_law_same" (top 52) ["_law_found","_law_due"])
  (Fa:Def K mg "_law_shown" (top 53) ["_law_saying_here"])
  (El:Def K mg "_law_written" (top 54) ["_law_sayings","_law_judges"])
  (En:Def K mg "_law_own_two" (top 55) ["_law_line","_law_at","_law_room"])
  (GP:Def K mg "_law_own" (top 56) ["_law_line","_law_at","_law_room"])
  (C3:Def K mg "_law_own_saying" (top 57) ["_law_line"])
  (DH:Def K mg "_law_own_list" (top 58) ["_law_text"])
  (FI:Def K mg "_law_seat" (top 59) ["_law_sayings","_law_judges"])
  (FH:Def K mg "_law_told" (top 60) ["_law_text","_law_whole"])
  (Fb:Def K mg "_law_right" (top 61) ["_law_text","_law_whole"])
  (BH:Def K mg "_law_lines_changed" (top 62) ["_law_text","_law_way","_law_at"])
  (Em:Def K mg "_law_spoiled" (top 63) ["_law_script","_law_k","_law_text","_law_whole"])
  (Fe:Def K mg "_law_drawn" (top 64) ["_law_script","_law_names_here"])
  (Fd:Def K mg "_law_great" (top 65) ["_law_script","_law_names_here"])
  (MV:W.nsIn K mainGlobals "law"=some (some (.ref Ih))) (LS:K.lookup Ih=some ⟨JX,JW,.func (W.fnOf "law" "law" (y8 (top 66)) (zN (top 66)) (zj (top 66)) .none HG Ij HC Io FC Ik),JR⟩) (MJ:W.codeIn K FC "law"=true) (LU:W.keepIn K (.ref Ih)=true)
  (FD:W.nsIn K mainGlobals "Reading"=some (some (.ref Ap))) (Gc:Cls K Ap) (F9:W.makesIn K Ap=true) (FA:W.keepIn K (.ref Ap)=true)
  (DF:W.findIn K (.ref Ap) "__init__"=some (some (.ref AU))) (Dt:K.lookup AU=some ⟨CK,CJ,.func (W.fnOf "__init__" "Reading.__init__" (y8 (yh (top 34) 0)) (zN (yh (top 34) 0)) (zj (yh (top 34) 0)) .none CM CU CI CW Bq CV),CG⟩) (DD:W.codeIn K Bq "Reading.__init__"=true) (Dp:W.isFn K (.ref AU)=true) (CL:NoAttr K Ap "text")
  (Ch:DefM K Ap "is_next" "Reading.is_next" (yh (top 34) 1) ["self","signs"])
  (DL:DefM K Ap "skip" "Reading.skip" (yh (top 34) 2) ["self","signs"])
  (BJ:DefM K Ap "take_name" "Reading.take_name" (yh (top 34) 3) ["self"])
  (Cg:DefM K Ap "take_if" "Reading.take_if" (yh (top 34) 4) ["self"])
  (BI:DefM K Ap "take_pair" "Reading.take_pair" (yh (top 34) 5) ["self"])
  (By:DefM K Ap "take_saying" "Reading.take_saying" (yh (top 34) 6) ["self"])
  (GN:W.nsIn K mainGlobals "BadRow"=some (some (.ref Am)))
  (BZ:XCls K Am)
  (Ej:W.findIn K (.ref Am) "__init__"=some (some (.ref AF))) (Ec:K.lookup AF=some ⟨Dm,Di,.func (W.fnOf "__init__" "BadRow.__init__" (y8 (yh (top 4) 0)) (zN (yh (top 4) 0)) (zj (yh (top 4) 0)) .none D0 D9 Dh DE B9 DA),Dg⟩) (Ei:W.codeIn K B9 "BadRow.__init__"=true) (Ed:W.keepIn K (.ref AF)=true) (Eb:W.typeIn K (.ref AF)=some (.type "function")) (Dd:W.takerIn K Am "number"=some none) (Do:NoAttr K Am "number")
  (Eh:W.nsIn K mainGlobals "JudgeError"=some (some (.ref As)))
  (AQ:XCls K As)
  (DB:W.nsIn K mainGlobals "OutOfBounds"=some (some (.ref Ag)))
  (BM:XCls K Ag)
  (Db:W.excIn K Ag vbm "ValueError.__new__"=true)
  (Jf:W.nsIn K mainGlobals "Even"=some (some (.ref Ax)))
  (Hm:XCls K Ax)
  (IK:W.excIn K Ax vbm "ValueError.__new__"=true)
  (GK:W.nsIn K mainGlobals "NoText"=some (some (.ref Ao)))
  (EM:XCls K Ao)
  (G0:W.excIn K Ao vbm "ValueError.__new__"=true)
  (GL:W.nsIn K mainGlobals "Barred"=some (some (.ref A8)))
  (CS:W.nsIn K mainGlobals "MOST_SAYINGS"=some (some (.int 6 De)))
  (Ef:W.nsIn K mainGlobals "MOST_NAMES"=some (some (.int 5 E1)))
  (D5:W.nsIn K mainGlobals "MOST_PIECES"=some (some (.int 40 DZ)))
  (D7:W.nsIn K mainGlobals "MOST_JUDGES"=some (some (.int 21 Ea)))
  (CT:W.nsIn K mainGlobals "LONGEST_NAME"=some (some (.int 6 Df)))
  (C1:W.nsIn K mainGlobals "SMALL_LETTERS"=some (some (.str "abcdefghijklmnopqrstuvwxyz" CF)))
  (Ig:W.nsIn K mainGlobals "WORDS"=some (some (.ref Gv)))
  (IM:K.lookup Gv=some ⟨.type "tuple",HD,.seq #[.str "not" Hv,.str "and" Hu,.str "or" Ht,.str "if" Hs,.str "then" Hr,.str "say" Hq,.str "judge" Hn] Hw,Hx⟩)
  (GH:W.nsIn K mainGlobals "TRUTHS"=some (some (.ref DC)))
  (HF:K.lookup DC=some ⟨.type "dict",none,.dict Ew GI,#[]⟩) (HB:Ew=#[⟨hashStr w "y",.str "y" G2,.bool true⟩,⟨hashStr w "n",.str "n" G1,.bool false⟩]) (HE:(DC==sysModules)=false)
  (Cm:NoAttr K Ap "place")
  (B':NoAttr K Ap "pieces")
  (Cp:W.kitOne K (.ref Ao) (.ref Ao)=some true)
  (Bv:W.kitOne K (.ref Ao) (.ref Ag)=some false)
  (Cs:W.kitOne K (.ref Ao) (.ref Am)=some false)
  (Du:W.kitOne K (.ref Ao) (.ref Ax)=some false)
  (Cq:W.kitOne K (.ref Ao) (.ref A8)=some false)
  (B6:W.kitOne K (.ref Ao) (.type "ValueError")=some true)
  (Br:W.kitOne K (.ref Ag) (.ref Ao)=some false)
  (AT:W.kitOne K (.ref Ag) (.ref Ag)=some true)
  (Bu:W.kitOne K (.ref Ag) (.ref Am)=some false)
  (BD:W.kitOne K (.ref Ag) (.ref Ax)=some false)
  (Bs:W.kitOne K (.ref Ag) (.ref A8)=some false)
  (AY:W.kitOne K (.ref Ag) (.type "ValueError")=some true)
  (Ct:W.kitOne K (.ref Am) (.ref Ao)=some false)
  (Bw:W.kitOne K (.ref Am) (.ref Ag)=some false)
  (Cv:W.kitOne K (.ref Am) (.ref Am)=some true)
  (Dy:W.kitOne K (.ref Am) (.ref Ax)=some false)
  (Cu:W.kitOne K (.ref Am) (.ref A8)=some false)
  (B7:W.kitOne K (.ref Am) (.type "ValueError")=some true)
  (Dv:W.kitOne K (.ref Ax) (.ref Ao)=some false)
  (BE:W.kitOne K (.ref Ax) (.ref Ag)=some false)
  (Dx:W.kitOne K (.ref Ax) (.ref Am)=some false)
  (E4:W.kitOne K (.ref Ax) (.ref Ax)=some true)
  (Dw:W.kitOne K (.ref Ax) (.ref A8)=some false)
  (BS:W.kitOne K (.ref Ax) (.type "ValueError")=some true)
  (B4:W.mroIn K Ao (.ref As)=some true)
  (AX:W.mroIn K Ag (.ref As)=some true)
  (B5:W.mroIn K Am (.ref As)=some true)
  (BR:W.mroIn K Ax (.ref As)=some true)
  (L4:W.nsIn K mainGlobals "len"=some none)
  (IJ:W.nsIn K mainGlobals "range"=some none)
  (II:W.nsIn K mainGlobals "tuple"=some none)
  (JO:W.nsIn K mainGlobals "list"=some none)
  (Hj:W.nsIn K mainGlobals "sorted"=some none)
  (Lx:W.nsIn K mainGlobals "set"=some none)
  (EL:W.nsIn K mainGlobals "enumerate"=some none)
  (Ey:W.nsIn K mainGlobals "isinstance"=some none)
  (JP:W.nsIn K mainGlobals "bool"=some none)
  (L5:W.nsIn K mainGlobals "int"=some none)
  (Lw:W.nsIn K mainGlobals "str"=some none)
  (L7:W.nsIn K mainGlobals "all"=some none)
  (L6:W.nsIn K mainGlobals "any"=some none)
  (Lv:W.nsIn K mainGlobals "sum"=some none)
  (Lu:W.nsIn K mainGlobals "zip"=some none)
  (Ly:W.nsIn K mainGlobals "min"=some none)
  (Lz:W.nsIn K mainGlobals "max"=some none)
  (Ez:W.nsIn K mainGlobals "ValueError"=some none) :
  ∃fd:FuncData,(∀(s:Np)(v:Nq),BindsTo s fd ⟨[v],[]⟩ [("_law_script",v)])/\∀base:Heap,K.In base->base.Ns mainGlobals mg->FnOk l.prog w K mg base CX0 136 fa fd ["_law_script"] (kc K):=by
 have e:=hfa.symm.trans (UY X G MV);cases e;have BQ:=UY X G FD;have DM:DefN K Ap "Reading.__init__" (yh (top 34) 0) ["self","text"] []:=bV DF Dt DD Dp F9 FA (.all λus hl=>by obtain⟨_,_,e⟩:=len2 hl;rw[e];rfl) (.all λus hl=>by obtain⟨_,_,e⟩:=len2 hl;rw[e];rfl);have A2:=UY X G GN;have Eo:DefI K Am "BadRow.__init__" (yh (top 4) 0) ["self","number"]:=bU Ej Ec Ei Ed Eb BZ λ_ _ _ _ _ _ us hl=>by obtain⟨_,_,e⟩:=len2 hl;rw[e];rfl
 have AD:=UY X G Eh;have An:=UY X G DB;have Av:xT K Ag:=⟨BM,Db⟩
 have Bi:=UY X G Jf;have CZ:xT K Ax:=⟨Hm,IK⟩
 have Ai:=UY X G GK;have Ad:xT K Ao:=⟨EM,G0⟩
 have BC:=UY X G GL;have AK:=UY X G CS;have Bb:=UY X G Ef;have Au:=UY X G D5;have AS:=UY X G D7;have AL:=UY X G CT;have AA:=UY X G C1;have Dq:=UY X G Ig;have BB:=UY X G GH;have Ab:=Vv X G L4;have Aj:=Vv X G IJ;have Ae:=Vv X G II;have Ca:=Vv X G JO;have Aq:=Vv X G Hj;have A5:=Vv X G Lx;have Bg:=Vv X G EL;have Aa:=Vv X G Ey;have AR:=Vv X G JP;have A6:=Vv X G L5;have B3:=Vv X G Lw;have Fu:=Vv X G L7;have Ft:=Vv X G L6;have E3:=Vv X G Lv;have E2:=Vv X G Lu;have BO:=Vv X G Ly;have BP:=Vv X G Lz;have AC:=Vv X G Ez;have MZ:=pS (st:=top 66) LS MJ LU;refine⟨W.fnOf "law" "law" (y8 (top 66)) (zN (top 66)) (zj (top 66)) .none HG Ij HC Io FC Ik,λs v=>.of_eq rfl,λbase _ _=>?_⟩;have KJ:=b7 (P:=l.prog) (w:=w) (base:=base) FO Ab;have C4:=cB FL KJ;have Iu:=fL (P:=l.prog) (w:=w) (base:=base) FK;have Jo:=fF Fc C4 (Za Iu) Ab Aj;have C_so:=oC (P:=l.prog) (w:=w) (base:=base) Ji 40;have GS:=mJ (P:=l.prog) (w:=w) (base:=base) FG (tF EC 40) Aq A5 Ae;have Fg:=i9 FF GS Aq A5 Ae;have GR:=ZX Fg;have Iz:=i4 (P:=l.prog) (w:=w) (base:=base) GQ Ae;have GW:=mE FR GR Iz (cF DG) Aj;have Jl:=fK Iq C_so Ae;have Nb:=mI FQ GW Jl Aq A5;have C_cb:=Xn DK (rD (P:=l.prog) (w:=w) (base:=base) EZ 130) Fg Av An AK Bb Au AS Ab Ft;have Jr:=eo (P:=l.prog) (w:=w) (base:=base) FP Fu Aa AR;have KL:=mH (P:=l.prog) (w:=w) (mg:=mg) (base:=base) Eo BZ Dd;have C_cr:=Xo EG Nb Jr KL A2 BZ Bg;have DO:=jB Ip C_cb C_cr CZ Bi Ab;have rc:RdC K Ap:=⟨Gc,CL,Cm,B'⟩
 have Fk:=i5 (P:=l.prog) (w:=w) (mg:=mg) (base:=base) Ch rc;have KE:=cD DL rc Fk Ad Ai Ab;have Jj:=fN (P:=l.prog) (w:=w) (mg:=mg) (base:=base) BJ rc Ad Ai AA AL Dq (jZ IM) Ab;have KC:=kF Cg BI By rc Fk KE Jj Ad Ai Au 41;have Gy:=ez (P:=l.prog) (w:=w) (base:=base) EF Ad Ai Aa B3;have Gx:=fH Ek rc Gy (jA DM rc) BQ KC Ad Ai Ab;have Na:=ZZ (P:=l.prog) (w:=w) (base:=base) FE Ad Ai BB (pO HF HB HE) Ab Ae;have FT:=cC KA Gy Gx Na DO Ad Ai Ab Ae;have Ix:=kC (P:=l.prog) (w:=w) (base:=base) Fa 60;have FV:=oF El Ix A6;have Ff:=rE (P:=l.prog) (w:=w) (base:=base) EE C4 (fD FM) Ab 40;have KI:=b8 (P:=l.prog) (w:=w) (base:=base) FN Ae;have I0:=oB (P:=l.prog) (w:=w) (base:=base) CY (rF ED 40) Aq A5;have KH:=i7 (P:=l.prog) (w:=w) (base:=base) GO (oE Ir BO BP 40) Ae;have Iy:=i6 DJ I0 KH KI Aq A5 Aj;have KG:=kD (P:=l.prog) (w:=w) (base:=base) FJ Ab Aa Ae Ca AR A6 B3 E2 43;have kn:pG K Ao As Ao Ag Am Ax A8 true false false false:=⟨EM,B4,Cp,Bv,Cs,Du,Cq,B6⟩
 have ko:pG K Ag As Ao Ag Am Ax A8 false true false false:=⟨BM,AX,Br,AT,Bu,BD,Bs,AY⟩
 have kr:pG K Am As Ao Ag Am Ax A8 false false true false:=⟨BZ,B5,Ct,Bw,Cv,Dy,Cu,B7⟩
 have ke:pG K Ax As Ao Ag Am Ax A8 false false false true:=⟨Hm,BR,Dv,BE,Dx,E4,Dw,BS⟩
 have KD:=cE FH FT Gx AQ kn ko kr ke Do AD An A2 Bi Ai BC AC Aa E3 A6;have Iw:=b9 (P:=l.prog) (w:=w) (base:=base) C3 (mK GP En Iu Ab 40) Ab;have Jn:=fG DH Iw Ab Ae;have Jp:=fE FI I0 Iy Ab Aj;have Jm:=fJ Fb KD Iw Jn Jp KG;have Jq:=fB Fe C4 Ff Iy FV Ab Aj Ae;have Jk:=fM Em C4 (ZV BH Ab) Ab;exact ZW MZ C4 Jo Ff Ix Jq (fC Fd C4 Aj) Jk Jm Ab Aj BP BO A6
def walk{l:W.OpenLaw}{q:Nn}{Et:GM}{XP:(Str->Option Value)->Heap->Prop}{YP:World->Heap->Prop}{d:DefRec}{K:Params->W.Frag}(hn:l.most=some 63)(Mt:d.params.defaults=[])
  (hY:∀(w:No)(h:Nw),YP w h->(K w.params).In h)
  (F:∀(w:No)(mg:FB)(fa:Addr)(h:Nw),(K w.params).In h->h.Ns mainGlobals mg->mg d.name=some (.ref fa) ->
   ∃fd:FuncData,(∀(s:Np)(u:Nq),BindsTo s fd ⟨[u],[]⟩ [("_law_script",u)])/\∀base:Heap,(K w.params).In base->base.Ns mainGlobals mg->FnOk l.prog w (K w.params) mg base CX0 136 fa fd ["_law_script"] (kc (K w.params))) :
  W.WalkO q Et XP YP l.row.toRowW d [] (λf vs=>PySem.call f vs) :=
 L2.walk_of (n:=63) (k:=136) (x:="_law_script") (CX:=λ_=>CX0) (sp:=λw=>kc (K w.params)) hn (by decide) Mt ⟨rfl,by decide,by decide⟩ hY F (λ_ _ a ns hl _ hS=>⟨a,ns,rfl,hS,hl,λ_=>rfl⟩) λ_ _ _ _ _ z=>z
end Kx
open PySem PySem.W PyProof.Rows
local macro_rules|`(tactic| walk_at "zl")=>`(tactic| (rename_i us hl;first|(obtain⟨_,e⟩:=My.len1 hl;rw[e];rfl)|(obtain⟨_,_,e⟩:=My.len2 hl;rw[e];rfl)|(obtain⟨_,_,_,e⟩:=My.len3 hl;rw[e];rfl)|(obtain⟨_,_,_,_,e⟩:=My.len4 hl;rw[e];rfl)))
local macro_rules|`(tactic| walk_at "zd")=>`(tactic| (refine' My.def_mk (by assumption) (by assumption) ?a ?l ?c ?k (fun _ _ _ _ _ _ _ _=>by walk_at "zl");(case a=>k_is);(case l=>k_is);(case c=>k_is);(case k=>k_is)))
local macro_rules|`(tactic| walk_at "zm")=>`(tactic| (refine' My.defM_mk ?a ?l ?c ?k ?n (by walk_at "zc") (fun _ _ _ _ _ _ _ _=>by walk_at "zl");(case a=>k_is);(case l=>k_is);(case c=>k_is);(case k=>k_is);(case n=>k_is)))
local macro_rules|`(tactic| walk_at "zc")=>`(tactic| (refine'⟨?_,?_,?_,?_⟩<;>k_is))
local macro_rules|`(tactic| walk_at "zx")=>`(tactic| (refine' My.xcls_mk ?x ?_ ?_ ?_ ?_ ?_ ?_ ?_ ?_ ?_;(case x=>kernel_rfl);all_goals k_is))
set_option maxRecDepth 100000 in
set_option maxHeartbeats 0 in
theorem PySem.Challenge.cw_manyjudges_k66_read_as_written_holds : PySem.Challenge.rw_manyjudges_k66_read_as_written.Holds := by
 w_on;o_law;k_head;(case hw=>w_witness2)
 k_fill
 refine Kx.walk (l:=PySem.Challenge.rw_manyjudges_k66_read_as_written) rfl rfl (λw h Y=>W.kIn_of Y) ?F
 case F =>
  intro w mg fa h KX G Mi;refine' Kx.all_mk KX G Mi (by walk_at"zd") (by walk_at"zd") (by walk_at"zd") (by walk_at"zd") (by walk_at"zd") (by walk_at"zd") (by walk_at"zd") (by walk_at"zd") (by walk_at"zd") (by walk_at"zd") (by walk_at"zd") (by walk_at"zd") (by walk_at"zd") (by walk_at"zd") (by walk_at"zd") (by walk_at"zd") (by walk_at"zd") (by walk_at"zd") (by walk_at"zd") (by walk_at"zd") (by walk_at"zd") (by walk_at"zd") (by walk_at"zd") (by walk_at"zd") (by walk_at"zd") (by walk_at"zd") (by walk_at"zd") (by walk_at"zd") (by walk_at"zd") (by walk_at"zd") (by walk_at"zd") (by walk_at"zd") (by walk_at"zd") (by walk_at"zd") (by walk_at"zd") (by walk_at"zd") (by walk_at"zd") (by walk_at"zd") (by walk_at"zd") (by walk_at"zd") (by walk_at"zd") (by walk_at"zd") (by walk_at"zd") (by walk_at"zd") (by k_is) (by k_is) (by k_is) (by k_is) (by k_is) (by walk_at"zc") (by k_is) (by k_is) (by k_is) (by k_is) (by k_is) (by k_is) (by(show W.findIn _ _ _=_;k_is)) (by walk_at"zm") (by walk_at"zm") (by walk_at"zm") (by walk_at"zm") (by walk_at"zm") (by walk_at"zm") (by k_is) (by walk_at"zx") (by k_is) (by k_is) (by k_is) (by k_is) (by k_is) (by k_is) (by(show W.findIn _ _ _=_;k_is)) (by k_is) (by walk_at"zx") (by k_is) (by walk_at"zx") (by kernel_rfl) (by k_is) (by walk_at"zx") (by kernel_rfl) (by k_is) (by walk_at"zx") (by kernel_rfl) (by k_is) (by k_is) (by k_is) (by k_is) (by k_is) (by k_is) (by k_is) (by k_is) (by k_is) (by k_is) (by k_is) (by rfl) (by rfl) (by(show W.findIn _ _ _=_;k_is)) (by(show W.findIn _ _ _=_;k_is)) (by kernel_rfl) (by kernel_rfl) (by kernel_rfl) (by kernel_rfl) (by kernel_rfl) (by kernel_rfl) (by kernel_rfl) (by kernel_rfl) (by kernel_rfl) (by kernel_rfl) (by kernel_rfl) (by kernel_rfl) (by kernel_rfl) (by kernel_rfl) (by kernel_rfl) (by kernel_rfl) (by kernel_rfl) (by kernel_rfl) (by kernel_rfl) (by kernel_rfl) (by kernel_rfl) (by kernel_rfl) (by kernel_rfl) (by kernel_rfl) (by k_is) (by k_is) (by k_is) (by k_is) (by k_is) (by k_is) (by k_is) (by k_is) (by k_is) (by k_is) (by k_is) (by k_is) (by k_is) (by k_is) (by k_is) (by k_is) (by k_is) (by k_is) (by k_is) (by k_is) (by k_is) (by k_is)
#print axioms PySem.Challenge.cw_manyjudges_k66_read_as_written_holds
