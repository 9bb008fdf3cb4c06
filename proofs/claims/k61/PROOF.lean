import PyProof.Rows.All
import Wide.All
import OpenK.AllK
import Wide.FinOn
import Lean
import PyProof.EqAt
import PyProof.EqKinds
import PyProof.TupleCall
import PySem.Challenge.RW_manyjudges_k61_whole_read_back
set_option compiler.extract_closed false
set_option genSizeOfSpec false
set_option Elab.async false
set_option linter.all false
set_option maxRecDepth 100000
namespace PySem.W.Fast
theorem tw240622507045057678:True:=trivial
theorem tw12125685630917444647:True:=trivial
theorem tw594826732446063576:True:=trivial
theorem tw15934462652910826370:True:=trivial
theorem tw9029255835720949304:True:=trivial
theorem tw18385894645668825805:True:=trivial
theorem tw13527780318862911796:True:=trivial
theorem tw3290338406842302012:True:=trivial
theorem tw12207953999924301651:True:=trivial
theorem tw13851608580083404083:True:=trivial
theorem tw11554745000667349576:True:=trivial
theorem tw15165974185766130164:True:=trivial
theorem tw9498974377820892375:True:=trivial
theorem tw15485599547507359337:True:=trivial
theorem tw5617666407221532535:True:=trivial
theorem tw12551519992195390447:True:=trivial
theorem tw17245480464479965609:True:=trivial
theorem tw18272983065407519396:True:=trivial
theorem tw666619772390342116:True:=trivial
theorem tw10294159299589844503:True:=trivial
theorem tw839365416326251572:True:=trivial
theorem tw6359707922008204108:True:=trivial
theorem tw530506290187296956:True:=trivial
theorem tw11255947067417893175:True:=trivial
theorem tw7837093899137145234:True:=trivial
theorem tw16882555406548896411:True:=trivial
theorem tw17672731157838469225:True:=trivial
theorem tw6167140817850110583:True:=trivial
theorem tw14433089451285291982:True:=trivial
theorem tw8403882290685834411:True:=trivial
theorem tw14071179465182057996:True:=trivial
theorem tw6745531603877911629:True:=trivial
theorem tw2572347751887548269:True:=trivial
theorem tw5597493210215128941:True:=trivial
theorem tw13596706706359652578:True:=trivial
theorem tw551879438075717766:True:=trivial
theorem tw14984131863200495591:True:=trivial
theorem tw3372345496871206449:True:=trivial
theorem tw4992401526978302005:True:=trivial
theorem tw17414212074246685665:True:=trivial
theorem tw10409136030883912283:True:=trivial
theorem tw16229979758545778817:True:=trivial
theorem tw11103500877890205350:True:=trivial
theorem tw11608718909073086543:True:=trivial
theorem tw2035554575607348619:True:=trivial
theorem tw8343783848866478246:True:=trivial
theorem tw4787862584916343718:True:=trivial
theorem tw10995377704200885004:True:=trivial
theorem tw16678669160668259618:True:=trivial
theorem tw1720251413753353223:True:=trivial
theorem tw2813560804388334778:True:=trivial
theorem tw3521800430805082662:True:=trivial
theorem tw4816286737156903724:True:=trivial
theorem tw8105549433220929062:True:=trivial
theorem tw7477275343918106133:True:=trivial
theorem tw7756896051436363381:True:=trivial
theorem tw15261078556553838238:True:=trivial
theorem tw2948568965918818003:True:=trivial
theorem tw14427960378503907392:True:=trivial
theorem tw10149252886712858045:True:=trivial
theorem tw12099372778886313875:True:=trivial
theorem tw2554598391164498379:True:=trivial
theorem tw5582674754563813664:True:=trivial
theorem tw5034452164371171973:True:=trivial
theorem tw12875993564779512586:True:=trivial
theorem tw10178721257315332330:True:=trivial
theorem tw12874783528396991876:True:=trivial
theorem tw2163214976441043299:True:=trivial
theorem tw6358304109730751333:True:=trivial
theorem tw361274412860759172:True:=trivial
theorem tw7457275267508450920:True:=trivial
theorem tw17415457834337799130:True:=trivial
theorem tw12722002019753788568:True:=trivial
theorem tw16396514536749513166:True:=trivial
theorem tw13740041498902494192:True:=trivial
theorem tw15530362484091593972:True:=trivial
theorem tw3316746490169146719:True:=trivial
theorem tw12818690131211306539:True:=trivial
theorem tw5811816304574120016:True:=trivial
theorem tw14756248899009389990:True:=trivial
theorem tw135884127215293904:True:=trivial
theorem tw5784865809676235370:True:=trivial
theorem tw4749418368168096712:True:=trivial
theorem tw8457642701628313730:True:=trivial
theorem tw3390059092367948551:True:=trivial
theorem tw2197829888852725752:True:=trivial
theorem tw7818826023401682370:True:=trivial
theorem tw3329378136231044658:True:=trivial
theorem tw18327874990487398377:True:=trivial
theorem tw4634403009470171740:True:=trivial
theorem tw7427948437166731473:True:=trivial
theorem tw15561145957873535655:True:=trivial
theorem tw10318108778993380855:True:=trivial
theorem tw11552755633438920652:True:=trivial
theorem tw9403838934943245125:True:=trivial
theorem tw253163766540754243:True:=trivial
theorem tw10796228995132276902:True:=trivial
theorem tw15068229002044423460:True:=trivial
theorem tw10717780059119559427:True:=trivial
theorem tw14665048703476077765:True:=trivial
theorem tw17046561302375832381:True:=trivial
theorem tw14379309837838099040:True:=trivial
theorem tw5202400269476961082:True:=trivial
theorem tw9773258227280264435:True:=trivial
theorem tw14402551822315912895:True:=trivial
theorem tw8139955555993848396:True:=trivial
theorem tw15700783147884552905:True:=trivial
theorem tw17074988613125656519:True:=trivial
theorem tw1107392762734848391:True:=trivial
theorem tw53616709900426946:True:=trivial
theorem tw10972397482869902329:True:=trivial
theorem tw15333938481731716255:True:=trivial
theorem tw11425183139693369140:True:=trivial
theorem tw473568253661254098:True:=trivial
theorem tw2647438064235577419:True:=trivial
theorem tw6747496439438889671:True:=trivial
theorem tw3574710107379851034:True:=trivial
theorem tw7395277133311494987:True:=trivial
theorem tw8873779223854199946:True:=trivial
theorem tw8200780108254013722:True:=trivial
theorem tw12708516341534506622:True:=trivial
theorem tw12500749316427595364:True:=trivial
theorem tw17347639490453898706:True:=trivial
theorem tw3029047030438650011:True:=trivial
theorem tw12081063142521874427:True:=trivial
theorem tw935105137815575581:True:=trivial
theorem tw16954324830425687870:True:=trivial
theorem tw12286246444154443213:True:=trivial
theorem tw1919773930227853116:True:=trivial
theorem tw4448758362519505091:True:=trivial
theorem tw2062434999161020563:True:=trivial
theorem tw9099022741781637596:True:=trivial
theorem tw1531909791490652850:True:=trivial
theorem tw3799914666675361704:True:=trivial
theorem tw5551311828606258915:True:=trivial
theorem tw15607959511219052271:True:=trivial
theorem tw14088669059276312023:True:=trivial
theorem tw1556218043182461170:True:=trivial
theorem tw4206751879878611494:True:=trivial
theorem tw5648192152174900390:True:=trivial
theorem tw3729207581861595854:True:=trivial
theorem tw7570593664078971690:True:=trivial
theorem tw6977190481908705983:True:=trivial
theorem tw15206888209366725883:True:=trivial
theorem tw10921770779213866425:True:=trivial
theorem tw6269764003279186516:True:=trivial
theorem tw1893082000503667727:True:=trivial
theorem tw6819337439107867442:True:=trivial
theorem tw13305107513906914757:True:=trivial
theorem tw10374643756102936780:True:=trivial
theorem tw13606869189429310803:True:=trivial
theorem tw2788576302811719594:True:=trivial
theorem tw13412148575796678654:True:=trivial
theorem tw16012551924501952690:True:=trivial
theorem tw6715391243031984960:True:=trivial
theorem tw7710760666902806441:True:=trivial
theorem tw9894853026271421247:True:=trivial
theorem tw8421227058203758014:True:=trivial
theorem tw17420848316534473111:True:=trivial
theorem tw8687056056429665299:True:=trivial
end PySem.W.Fast
section
open PySem
def zZ:=@PySem.wpAny_bind
def zY:=@PySem.Heap.get?_push_of_some
def zX:=@List.length_map
def zW:=@PySem.wpAny_pure
def zV:=@List.getElem?_eq_some_iff
def zU:=@PySem.Heap.lt_size
def zT:=@Nat.le_refl
def zS:=@List.mem_singleton
def zR:=@PySem.Heap.get?_push_size
def zQ:=@List.size_toArray
def zP:=@List.mem_append
def zO:=@decide_eq_true
def zN:=@List.mem_of_getElem?
def zM:=@PySem.sizeLine_eq
def zL:=@List.length_append
def zK:=@if_neg
def zJ:=@Bool.false_ne_true
def zI:=@List.mem_cons_of_mem
def zH:=@if_pos
def zG:=@Nat.lt_of_lt_of_le
def zF:=@List.mem_append_right
def zE:=@Nat.ne_of_lt
def zD:=@List.mem_cons
def zC:=@List.mem_map
def zB:=@List.mem_cons_self
def zA:=@decide_eq_false
def yZ:=@of_decide_eq_true
def yY:=@List.take_add_one
def yX:=@Option.some.inj
def yW:=@List.map_append
def yV:=@Nat.zero_le
def yU:=@List.getElem?_map
def yT:=@List.take_length
def yS:=@PySem.Heap.get?_update_other
def yR:=@PySem.wpAny_mono
def yQ:=@List.append_assoc
def yP:=@List.mem_map_of_mem
def yO:=@W.mg_none_of
def yN:=@Bool.and_eq_true
def yM:=@Nat.le_trans
def yL:=@List.getD_eq_getElem?_getD
def yK:=@List.isPrefixOf_iff_prefix
def yJ:=@List.length_cons
def yI:=@PySem.PassesOwn.never
def yH:=@List.mem_append_left
def yG:=@List.length_drop
def yF:=@Array.toList_append
def yE:=@List.getElem?_eq_getElem
def yD:=@PySem.Heap.get?_update_self
def yC:=@PySem.wpAny_field
def yB:=@PySem.wpAny_newObj_type
def yA:=@Array.getElem?_eq_some_iff
def xZ:=@List.filterMap_cons
def xY:=@W.mg_of
def xX:=@List.pairwise_iff_getElem
def xW:=@PySem.wpAny_call_entry
def xV:=@Int.toNat_natCast
def xU:=@List.mem_range
def xT:=@congrArg
def xS:=@PySem.wpAny_holding
def xR:=@PyProof.Rows.slot_tuple_getitem
def xQ:=@Array.length_toList
def xP:=@Nat.le_of_lt
def xO:=@List.map_map
def xN:=@W.kia_one
def xM:=@PySem.wpAny_callSpecial?_slot
def xL:=@PySem.Heap.size_push
def xK:=@PySem.wpAny_setState_of
def xI:=@Classical.byContradiction
def xH:=@PySem.wpAny_Call_Name_kw
def xG:=@PySem.Str.cps_append
def xF:=@F.slot_list_append
def xE:=@F.type_list_append
def xD:=@Nat.lt_succ_self
def xC:=@List.all_eq_true
def xB:=@PySem.wpAny_loadPart_at
def xA:=@Nat.lt_irrefl
def wZ:=@List.length_take
def wY:=@Ne.symm
def wX:=@List.getElem?_append_left
def wW:=@PySem.mem_of_lookup
def wV:=@F.called_set
def wU:=@PySem.Obj.data_mapFields
def wT:=@List.any_eq_true
def wS:=@PyProof.Rows.callWith_type1
def wR:=@PySem.wpAny_seqItems
def wQ:=@beq_eq_false_iff_ne
def wP:=@PySem.wpAny_execs_nil
def wO:=@List.length_nil
def wN:=@PyProof.Rows.KeyOrd.kle_refl
def wM:=@List.length_singleton
def wL:=@W.callWith_K
def wK:=@PySem.wpAny_pyIter_tuple
def wJ:=@Array.toList_inj
def wI:=@beq_iff_eq
def wH:=@F.slot_list_extend
def wG:=@Nat.le_succ
def wF:=@PySem.wpAny_truthy_bool
def wE:=@PyProof.Rows.F.plain_set_update_loop
def wD:=@PySem.wpAny_Call_method_late
def wC:=@Calls.callWith_builtin
def wB:=@Nat.ne_of_gt
def wA:=@PySem.codeAny_mono
def vZ:=@Nat.lt_or_ge
def vY:=@List.getElem_mem
def vX:=@List.getElem?_append_right
def vW:=@F.slot_tuple_iterator_next
def vV:=@PySem.wpAny_setField_rec
def vU:=@PySem.Obj.isFreed_of_fields
def vT:=@PySem.wpAny_passesOwn
def vS:=@PySem.wpAny_loadPart'
def vR:=@PySem.Heap.get?_none_of_le
def vQ:=@Calls.evalArgs_plain
def vP:=@List.mem_of_mem_drop
def vO:=@PySem.Around.under_plainId
def vN:=@PySem.wpAny_pyIter_list
def vM:=@Nat.lt_succ_of_lt
def vL:=@List.getElem?_take_of_lt
def vK:=@List.Pairwise.imp_of_mem
def vJ:=@F.type_list_extend
def vI:=@List.getElem_of_mem
def vH:=@List.length_eq_zero_iff
def vG:=@PySem.wpAny_askSetting
def vF:=@List.take_of_length_le
def vE:=@F.plainAttrs_str
def vD:=@Int.emod_lt_of_pos
def vC:=@List.pairwise_cons
def vB:=@PySem.Code.quiet_builtin
def vA:=@List.getElem?_drop
def uZ:=@Nat.le_of_eq
def uY:=@PySem.typeIs_str
def uX:=@Bool.eq_iff_iff
def uW:=@List.nodup_cons
def uV:=@List.find?_cons
def uU:=@PySem.codeAny_builtin
def uT:=@List.getElem?_eq_none
def uS:=@F.slot_zip_next
def uR:=@List.takeWhile_prefix
def uQ:=@List.pairwise_map
def uP:=@PySem.codeAny_call_builtin
def uO:=@PySem.wpAny_call
def uN:=@Nat.not_lt
def uM:=@List.lookup_cons
def uL:=@List.ext_getElem
def uK:=@PyProof.Rows.KeyOrd.kle_trans
def uJ:=@Nat.le_add_right
def uI:=@PySem.wpAny_typeOf
def uH:=@Array.getElem?_eq_getElem
def uG:=@List.drop_eq_getElem_cons
def uF:=@PySem.wpAny_isSubtype_exc
def uE:=@Option.isSome_iff_exists
def uD:=@F.args_tuple_add_2
def uC:=@List.sum_cons
def uB:=@Int.emod_nonneg
def uA:=@List.nil_append
def tZ:=@F.entry_tuple_add
def tY:=@List.getElem?_set_self
def tX:=@F.slot_tuple_add
def tW:=@List.length_pos_of_mem
def tV:=@List.drop_eq_nil_of_le
def tU:=@Calls.spliced_nil
def tT:=@Nat.lt_trichotomy
def tS:=@List.length_range
def tR:=@PyProof.Rows.KeyOrd.kle_of_klt
def tQ:=@Array.size_append
def tP:=@Bool.and_false
def tN:=@PySem.wpAny_setField
def tM:=@List.drop_zero
def tL:=@Nat.succ_pos
def tK:=@PySem.wpAny_execs_cons
def tJ:=@List.not_mem_nil
def tH:=@beq_self_eq_true
def tG:=@PySem.wpAny_rule
def tF:=@PySem.wpAny_standAt
def tE:=@List.any_cons
def tD:=@PySem.plainId_quiet
def tB:=@Nat.zero_add
end
namespace L2
open PySem PySem.Spec PyProof.Rows
abbrev Key:=Sum Int Str
def iq:Key->Value->Bool
 | .inl k,v=>Value.isInt k v
 | .inr x,v=>Value.isStrOf x v
def Ga(w:World):Key->Int
 | .inl k=>hashInt k
 | .inr x=>hashStr w x
theorem yc:∀{k:Key}{v:Value},iq k v=true->(∃i t,k=Sum.inl i/\v=Value.int i t)\/(∃x t,k=Sum.inr x/\v=Value.str x t)
 | .inl i,v,h=>by
  obtain⟨t,e⟩:=Value.isInt_shape (k:=i) (v:=v) h;exact .inl ⟨i,t,rfl,e⟩
 | .inr x,v,h=>by
  obtain⟨t,e⟩:=Value.isStrOf_shape (x:=x) (v:=v) h;exact .inr ⟨x,t,rfl,e⟩
theorem V0(i:Int)(t:Tok):iq (.inl i) (.int i t)=true:=by simp[iq,Value.isInt]
theorem V1(x:Str)(t:Tok):iq (.inr x) (.str x t)=true:=by simp[iq,Value.isStrOf]
theorem L7(a b:Int):decide ((Sum.inl a:Key)=Sum.inl b)=(a==b):=by
 by_cases e:a=b
 ·subst e;simp
 ·have h:¬(Sum.inl a:Key)=Sum.inl b:=λq=>e (Sum.inl.inj q);rw[zA h];exact(wQ.mpr e).symm
theorem Ma(a b:Str):decide ((Sum.inr a:Key)=Sum.inr b)=decide (a=b):=by
 by_cases e:a=b
 ·subst e;simp
 ·have h:¬(Sum.inr a:Key)=Sum.inr b:=λq=>e (Sum.inr.inj q);rw[zA h,zA e]
theorem L8(a:Int)(b:Str):decide ((Sum.inl a:Key)=Sum.inr b)=false:=zA (λq=>nomatch q)
theorem L9(a:Str)(b:Int):decide ((Sum.inr a:Key)=Sum.inl b)=false:=zA (λq=>nomatch q)
def x8(prog:Program)(w:World):PySem.KeyKind prog w Key where
 is:=iq
 hash:=Ga w
 inj:=λv a b ha hb=>by
  rcases yc ha with⟨i,t,rfl,rfl⟩|⟨x,t,rfl,rfl⟩
  ·rcases yc hb with⟨j,u,rfl,e⟩|⟨y,u,rfl,e⟩
   ·injection e with e1 _;rw[e1]
   ·exact nomatch e
  ·rcases yc hb with⟨j,u,rfl,e⟩|⟨y,u,rfl,e⟩
   ·exact nomatch e
   ·injection e with e1 _;rw[e1]
 byValue:=λk v h=>by
  rcases yc h with⟨i,t,rfl,rfl⟩|⟨x,t,rfl,rfl⟩<;>rfl
 pyHash:=λhv h=>by
  rcases yc hv with⟨i,t,rfl,rfl⟩|⟨x,t,rfl,rfl⟩
  ·exact wpAny_pyHash_int h
  ·exact wpAny_pyHash_str h
 eqBool:=λhu hv h=>by
  rcases yc hu with⟨i,t,rfl,rfl⟩|⟨x,t,rfl,rfl⟩
  ·rcases yc hv with⟨j,u,rfl,rfl⟩|⟨y,u,rfl,rfl⟩
   ·rw[L7]at h;exact wpAny_eqBool_int h
   ·rw[L8]at h;exact SeqAt.EqAt.int_str i t y u _ _ _ _ h
  ·rcases yc hv with⟨j,u,rfl,rfl⟩|⟨y,u,rfl,rfl⟩
   ·rw[L9]at h;exact SeqAt.EqAt.str_int x t j u _ _ _ _ h
   ·rw[Ma]at h;exact wpAny_eqBool_str h
 «strs»:=λk x t v h=>by
  rcases yc h with⟨i,u,rfl,e⟩|⟨y,u,rfl,e⟩
  ·exact nomatch e
  ·injection e with e1 _;subst e1;cases v<;>rfl
theorem b7(prog:Program)(w:World)(i:Int)(t:Tok):(x8 prog w).is (.inl i) (.int i t)=true:=V0 i t
theorem vw(prog:Program)(w:World)(x:Str)(t:Tok):(x8 prog w).is (.inr x) (.str x t)=true:=V1 x t
end L2
namespace L2
open PySem PySem.Spec PyProof.Rows
inductive V where
 |non|bl (b:Bool)|int (i:Int)|str (x:Str)|byt (b:Array UInt8)|flt (b:UInt64)|ref (a:Addr)|ty (n:String)
 deriving DecidableEq
def RelV:V->Value->Prop
 | .non,u=>u=Value.none
 | .bl b,u=>u=Value.bool b
 | .int i,u=>∃t,u=Value.int i t
 | .str x,u=>∃t,u=Value.str x t
 | .byt b,u=>∃t,u=Value.bytes b t
 | .flt b,u=>∃t,u=Value.float b t
 | .ref a,u=>u=Value.ref a
 | .ty n,u=>u=Value.type n
abbrev Vals:List V->List Value->Prop:=Paired RelV
theorem Vals.length{xs:List V}{us:List Value}(r:Vals xs us):xs.length=us.length:=Paired.length r
theorem Vals.get:∀{xs:List V}{us:List Value}{i:Nat}{x:V},Vals xs us->xs[i]?=some x->∃u,us[i]?=some u/\RelV x u
 |_,_,_,_,.nil,e=>by simp at e
 |_,_,0,_,.cons r _,e=>by simp at e;subst e;exact⟨_,rfl,r⟩
 |_,_,i+1,x,.cons _ t,e=>by
  obtain⟨u,h1,h2⟩:=Vals.get (i:=i) (x:=x) t (by simpa using e);exact⟨u,by simpa using h1,h2⟩
theorem Vals.set{x:V}{u:Value}(r:RelV x u):∀{xs:List V}{us:List Value}(i:Nat),Vals xs us->Vals (xs.set i x) (us.set i u)
 |_,_,_,.nil=>.nil
 |_,_,0,.cons _ t=>.cons r t
 |_,_,i+1,.cons q t=>.cons q (Vals.set r i t)
theorem Vals.append:∀{xs ys:List V}{us ws:List Value},Vals xs us->Vals ys ws->Vals (xs++ys) (us++ws)
 |_,_,_,_,.nil,s=>s
 |_,_,_,_,.cons r t,s=>.cons r (Vals.append t s)
theorem Vals.take:∀{xs:List V}{us:List Value}(n:Nat),Vals xs us->Vals (xs.take n) (us.take n)
 |_,_,0,_=>.nil
 |_,_,_+1,.nil=>.nil
 |_,_,n+1,.cons r t=>.cons r (Vals.take n t)
theorem Vals.drop:∀{xs:List V}{us:List Value}(n:Nat),Vals xs us->Vals (xs.drop n) (us.drop n)
 |_,_,0,r=>r
 |_,_,_+1,.nil=>.nil
 |_,_,n+1,.cons _ t=>Vals.drop n t
def RelO:Option V->Option Value->Prop
 |some v,some u=>RelV v u
 |none,none=>True
 |_,_=>False
def KV{κ:Type}:List (κ×V)->List (κ×Value)->Prop:=Paired λ(p:κ×V)(q:κ×Value)=>p.1=q.1/\RelV p.2 q.2
def kV:Key->V
 | .inl i=>.int i
 | .inr x=>.str x
inductive HO where
 |lst (xs:List V)
 |tup (xs:List V)
 |dK (kvs:List (Key×V))|dT (kvs:List (List Key×V))
 |set (S:Int->Bool) (n:Nat)
 |ins (C dx:Addr) (fs:List (Str×V))
 |own (x:Addr)
 |xd (fs:List (Str×V))
 |met (f x:Addr)
 |rng (lo hi:Int)
 |frz (o:Obj) (u:HO)
 |tbl (ps:Array Value)
 |ext (φ:Heap->Prop)
abbrev Hp:=Addr->Option HO
def upd(H:Hp)(a:Addr)(o:HO):Hp:=λb=>if b=a then some o else H b
theorem zy{H:Hp}{a:Addr}{o:HO}:upd H a o a=some o:=by unfold upd;rw[zH rfl]
theorem zj{H:Hp}{a b:Addr}{o:HO}(h:b≠a):upd H a o b=H b:=by unfold upd;rw[zK h]
theorem Jj{H:Hp}{a b:Addr}{o u:HO}(h:H a=some o)(h':H b=some u)(d:o≠u):a≠b:=by
 intro e;subst e;rw[h]at h';exact d (yX h')
theorem wc{H:Hp}{a b:Addr}{o:HO}(h:H a=some o)(h':H b=none):a≠b:=by
 intro e;subst e;rw[h]at h';cases h'
section
variable (P:Program) (w:World)
def ObjOk(H:Hp)(h:Heap)(a:Addr):HO->Prop
 | .lst xs=>xs.length<=sizeLine/\∃(aH:List Value)(n:Nat),Vals xs aH/\h.get? a=some { cls:=.type "list",data:=.seq aH.toArray n }
 | .tup xs=>xs.length<=sizeLine/\∃aH:List Value,Vals xs aH/\IsTup h a aH.toArray
 | .dK kvs=>kvs.length<=sizeLine/\(a==sysModules)=false/\∃vs,KV kvs vs/\h.DictOf (x8 P w) a vs
 | .dT kvs=>kvs.length<=sizeLine/\(a==sysModules)=false/\∃xs:List (List Key×Addr×Value),
   Paired (λ(p:List Key×V)(q:List Key×Addr×Value)=>p.1=q.1/\H q.2.1=some (.tup (p.1.map kV))/\RelV p.2 q.2.2) kvs xs /\
   ∃o es ep,h.get? a=some o/\o.ExactDict/\o.data = .dict es ep/\es.toList=xs.map (entryOfKey (tupleKind (x8 P w)))/\(xs.map (·.1)).Nodup
 | .set S n=>h.SetOf (intKind P w) a S n
 | .ins C dx fs=>H dx=some (.own a)/\fs.length<=1000/\dx≠a/\h.get? a=some (W.instObj C dx) /\
   ∃mA,h.Ns1 dx mA/\(∀f,RelO (fs.lookup f) (mA f))/\PySem.Within mA (fs.map (·.1))
 | .own _=>∃o,h.get? a=some o
 | .xd fs=>∃mA,h.Ns1 a mA/\∀f,RelO (fs.lookup f) (mA f)
 | .rng lo hi=>∃t u v,h.get? a=some { cls:=.type "range",data:=.fields #[.int lo t,.int hi u,.int 1 v] }
 | .frz o u=>h.get? a=some o/\ObjOk H h a u
 | .tbl ps=>h.get? a=some { cls:=.none,data:=.fields ps }
 | .met f x=>h.get? a=some (W.methodObj (.ref f) (.ref x))
 | .ext φ=>φ h/\(∃o,h.get? a=some o)/\∀h1 h2:Heap,φ h1->(∀o,h1.get? a=some o->h2.get? a=some o)->φ h2
def HOk(H:Hp)(h:Heap):Prop:=∀a o,H a=some o->ObjOk P w H h a o
end
section
variable {P:Program}{w:World}{H H':Hp}{h h':Heap}{a:Addr}{o:HO}
theorem ObjOk.lt(x:ObjOk P w H h a o):a<h.objs.size:=by
 cases o with
 |lst xs=>obtain⟨_,_,_,_,e⟩:=x;exact zU e
 |tup xs=>obtain⟨_,_,_,p⟩:=x;exact p.lt
 |dK kvs=>obtain⟨_,_,_,_,o,_,_,e,_⟩:=x;exact zU e
 |dT kvs=>obtain⟨_,_,_,_,o,_,_,e,_⟩:=x;exact zU e
 |set S n=>obtain⟨o,_,_,_,e,_⟩:=x;exact zU e
 |ins C dx fs=>obtain⟨_,_,_,e,_⟩:=x;exact zU e
 |own y=>obtain⟨_,e⟩:=x;exact zU e
 |xd fs=>obtain⟨_,⟨_,_,_,e,_⟩,_⟩:=x;exact zU e
 |rng lo hi=>obtain⟨_,_,_,e⟩:=x;exact zU e
 |frz ob u=>obtain⟨e,_⟩:=x;exact zU e
 |tbl ps=>exact zU (show h.get? a=some _ from x)
 |met f y=>exact zU (show h.get? a=some _ from x)
 |ext φ=>obtain⟨_,⟨_,e⟩,_⟩:=x;exact zU e
theorem Paired.mapP{α β:Type}{F G:α->β->Prop}:∀{l₁:List α}{l₂:List β},Paired F l₁ l₂->(∀a b,F a b->G a b)->Paired G l₁ l₂
 |_,_,.nil,_=>.nil
 |_,_,.cons r t,f=>.cons (f _ _ r) (Paired.mapP t f)
theorem ObjOk.stay(x:ObjOk P w H h a o)(k:∀b u,(b=a\/H b=some (.own a))->h.get? b=some u->h'.get? b=some u)
  (ho:∀b,H b=some (.own a)->H' b=some (.own a)) (ht:∀b xs,H b=some (.tup xs)->H' b=some (.tup xs)):ObjOk P w H' h' a o:=by
 induction o with
 |lst xs=>obtain⟨z,aH,n,r,e⟩:=x;exact⟨z,aH,n,r,k _ _ (.inl rfl) e⟩
 |tup xs=>obtain⟨z,aH,r,ob,e,c⟩:=x;exact⟨z,aH,r,ob,k _ _ (.inl rfl) e,c⟩
 |dK kvs=>obtain⟨z,y,vs,r,ob,es,ep,e,c⟩:=x;exact⟨z,y,vs,r,ob,es,ep,k _ _ (.inl rfl) e,c⟩
 |dT kvs =>
  obtain⟨z,y,xs,r,ob,es,ep,e,c⟩:=x;exact⟨z,y,xs,Paired.mapP r λp q z=>⟨z.1,ht _ _ z.2.1,z.2.2⟩,ob,es,ep,k _ _ (.inl rfl) e,c⟩
 |set S n=>obtain⟨ob,es,ep,t,e,c⟩:=x;exact⟨ob,es,ep,t,k _ _ (.inl rfl) e,c⟩
 |ins C dx fs =>
  obtain⟨d,z,ne,e,mA,⟨od,es,ep,e2,c⟩,r⟩:=x;exact⟨ho _ d,z,ne,k _ _ (.inl rfl) e,mA,⟨od,es,ep,k _ _ (.inr d) e2,c⟩,r⟩
 |own y=>obtain⟨ob,e⟩:=x;exact⟨ob,k _ _ (.inl rfl) e⟩
 |xd fs=>obtain⟨mA,⟨od,es,ep,e,c⟩,r⟩:=x;exact⟨mA,⟨od,es,ep,k _ _ (.inl rfl) e,c⟩,r⟩
 |rng lo hi=>obtain⟨t,u,v,e⟩:=x;exact⟨t,u,v,k _ _ (.inl rfl) e⟩
 |frz ob u ih=>obtain⟨e,q⟩:=x;exact⟨k _ _ (.inl rfl) e,ih q⟩
 |tbl ps =>
  have e:h.get? a=some { cls:=.none,data:=.fields ps }:=x;show h'.get? a=some { cls:=.none,data:=.fields ps };exact k a _ (.inl rfl) e
 |met f y =>
  have e:h.get? a=some (W.methodObj (.ref f) (.ref y)):=x;show h'.get? a=some (W.methodObj (.ref f) (.ref y));exact k a _ (.inl rfl) e
 |ext φ=>obtain⟨p,⟨o,e⟩,st⟩:=x;exact⟨st _ _ p λo q=>k _ _ (.inl rfl) q,⟨o,k _ _ (.inl rfl) e⟩,st⟩
theorem HOk.lt(x:HOk P w H h)(e:H a=some o):a<h.objs.size:=(x a o e).lt
theorem HOk.fresh(x:HOk P w H h)(e:h.objs.size<=a):H a=none:=by
 cases q:H a with
 |none=>rfl
 |some u=>exact absurd (zG (x.lt q) e) (xA _)
theorem HOk.kept(x:HOk P w H h)(k:∀b u,h.get? b=some u->h'.get? b=some u):HOk P w H h':=λa o e =>
 (x a o e).stay (λb u _ q=>k b u q) (λ_ q=>q) λ_ _ q=>q
theorem HOk.laid(x:HOk P w H h)(k:∀b u,h.get? b=some u->h'.get? b=some u)(hp:h.objs.size<=a)(new:ObjOk P w (upd H a o) h' a o):HOk P w (upd H a o) h':=λb u e=>by
 have hn:=x.fresh hp
 by_cases hb:b=a
 ·subst hb;rw[zy]at e;cases e;exact new
 ·rw[zj hb]at e;exact(x b u e).stay (λc v _ q=>k c v q) (λc q=>by rw[zj (wc q hn)];exact q) λc xs q=>by rw[zj (wc q hn)];exact q
end
def Rd(H:Hp)(a:Addr)(u:HO):Prop:=H a=some u\/∃o,H a=some (.frz o u)
theorem Rd.ok{P:Program}{w:World}{H:Hp}{h:Heap}{a:Addr}{u:HO}(r:Rd H a u)(x:HOk P w H h):ObjOk P w H h a u:=by
 rcases r with r|⟨o,r⟩
 ·exact x a u r
 ·obtain⟨_,q⟩:=x a _ r;exact q
def Mut:Option HO->Prop
 |some (.lst _)=>True
 |some (.dK _)=>True
 |some (.dT _)=>True
 |some (.set _ _)=>True
 |some (.ins _ _ _)=>True
 |some (.ext _)=>True
 |_=>False
section
variable {P:Program}{w:World}{H:Hp}{h h':Heap}{x e:Addr}{o':HO}
theorem HOk.write(ok:HOk P w H h)(mu:Mut (H x))(he:e=x\/H e=some (.own x))(k:∀b u,b≠e->h.get? b=some u->h'.get? b=some u)(FN:∃u,h'.get? e=some u)
  (new:ObjOk P w (upd H x o') h' x o'):HOk P w (upd H x o') h':=λb u q=>by
 have MY:∀c y,H c=some (.own y)->c≠x:=λc y r z=>by subst z;rw[r]at mu;exact mu
 have ntup:∀c xs,H c=some (.tup xs)->c≠x:=λc xs r z=>by subst z;rw[r]at mu;exact mu
 by_cases hb:b=x
 ·subst hb;rw[zy]at q;cases q;exact new
 ·rw[zj hb]at q
  by_cases AV:b=e
  ·have q':H b=some (.own x):=by
    rcases he with z|z
    ·exact absurd (AV.trans z) hb
    ·rw[AV];exact z
   rw[q]at q';cases q';obtain⟨v,hv⟩:=FN;exact⟨v,by rw[AV];exact hv⟩
  ·refine(ok b u q).stay (λc v hc r=>k c v ?_ r) (λc r=>by rw[zj (MY c b r)];exact r) λc xs r=>by rw[zj (ntup c xs r)];exact r
   rcases hc with rfl|hc
   ·exact AV
   ·rintro rfl;rcases he with z|z
    ·exact MY c b hc z
    ·rw[hc]at z;cases z;exact hb rfl
end
structure Un(fs ex:List Addr)(H H':Hp)(h h':Heap):Prop where
 keep:∀b o,h.get? b=some o->H b=none->b∉fs->b∉ex->h'.get? b=some o
 slot:∀b o,h.get? b=some o->H b=none->b∈fs->b∉ex->∃sl,h'.get? b=some { o with slots:=sl }
 free:∀b o,h.get? b=some o->H b=none->b∉ex->H' b=none
 there:∀b o,h.get? b=some o->b∉ex->∃o',h'.get? b=some o'
 tups:∀b xs,H b=some (.tup xs)->H' b=some (.tup xs)
 frzs:∀b o u,H b=some (.frz o u)->H' b=some (.frz o u)
 tbls:∀b ps,H b=some (.tbl ps)->∃more,H' b=some (.tbl (ps++more))
section
variable {fs Cp ex ex':List Addr}{H H1 H2:Hp}{h h1 h2 h':Heap}{a x e:Addr}{o:HO}
theorem Un.any(u:Un fs ex H H1 h h1){b:Addr}{ob:Obj}(q:h.get? b=some ob)(n:H b=none)(hx:b∉ex):∃sl,h1.get? b=some { ob with slots:=sl }:=by
 by_cases hb:b∈fs
 ·exact u.slot b ob q n hb hx
 ·exact⟨ob.slots,u.keep b ob q n hb hx⟩
theorem Un.trans(a:Un fs ex H H1 h h1)(b:Un fs ex H1 H2 h1 h2):Un fs ex H H2 h h2 where
 keep:=λc ob q n hc hx=>b.keep c ob (a.keep c ob q n hc hx) (a.free c ob q n hx) hc hx
 slot:=λc ob q n hc hx=>by
  obtain⟨sl,e1⟩:=a.slot c ob q n hc hx;obtain⟨HS,e2⟩:=b.slot c _ e1 (a.free c ob q n hx) hc hx;exact⟨HS,e2⟩
 free:=λc ob q n hx=>by
  obtain⟨o',e1⟩:=a.there c ob q hx;exact b.free c o' e1 (a.free c ob q n hx) hx
 there:=λc ob q hx=>by
  obtain⟨o',e1⟩:=a.there c ob q hx;exact b.there c o' e1 hx
 tups:=λc xs q=>b.tups c xs (a.tups c xs q)
 frzs:=λc ob xs q=>b.frzs c ob xs (a.frzs c ob xs q)
 tbls:=λc ps q=>by
  obtain⟨m1,e1⟩:=a.tbls c ps q;obtain⟨m2,e2⟩:=b.tbls c _ e1;exact⟨m1++m2,by rw[e2,Array.append_assoc]⟩
theorem Un.kept(k:∀b u,h.get? b=some u->h'.get? b=some u):Un fs ex H H h h' :=
 ⟨λb ob q _ _ _=>k b ob q,λb ob q _ _ _=>⟨ob.slots,k b ob q⟩,λ_ _ _ n _=>n,λb ob q _=>⟨ob,k b ob q⟩,λ_ _ q=>q,λ_ _ _ q=>q,λ_ ps q=>⟨#[],by rw[q];simp⟩⟩
theorem Un.refl:Un fs ex H H h h:=Un.kept λ_ _ q=>q
theorem Un.laid(k:∀b u,h.get? b=some u->h'.get? b=some u)(hp:h.objs.size<=a)(hn:H a=none):Un fs ex H (upd H a o) h h' where
 keep:=λb u q _ _ _=>k b u q
 slot:=λb u q _ _ _=>⟨u.slots,k b u q⟩
 free:=λb u q n _=>by rw[zj (zE (zG (zU q) hp))];exact n
 there:=λb u q _=>⟨u,k b u q⟩
 tups:=λb xs q=>by rw[zj (wc q hn)];exact q
 frzs:=λb u xs q=>by rw[zj (wc q hn)];exact q
 tbls:=λb ps q=>⟨#[],by rw[zj (wc q hn),q];simp⟩
theorem Un.write(mu:Mut (H x))(he:e=x\/H e=some (.own x))(k:∀b u,b≠e->h.get? b=some u->h'.get? b=some u)(FN:∃u,h'.get? e=some u):Un fs ex H (upd H x o) h h':=by
 have hx:∀b,H b=none->b≠x:=λb n z=>by subst z;rw[n]at mu;exact mu
 have hb:∀b,H b=none->b≠e:=λb n z=>by
  subst z;rcases he with r|r
  ·exact hx b n r
  ·rw[n]at r;cases r
 have hm:∀b u,H b=some u->¬Mut (some u)->b≠x:=λb u q nm z=>by subst z;rw[q]at mu;exact nm mu
 refine⟨λb u q n _ _=>k b u (hb b n) q,λb u q n _ _=>⟨u.slots,k b u (hb b n) q⟩,λb u q n _=>by rw[zj (hx b n)];exact n,λb u q _=>?_,
  λb xs q=>by rw[zj (hm b _ q λz=>z)];exact q,λb u xs q=>by rw[zj (hm b _ q λz=>z)];exact q,λb ps q=>⟨#[],by rw[zj (hm b _ q λz=>z),q];simp⟩⟩
 by_cases AV:b=e
 ·subst AV;exact FN
 ·exact⟨u,k b u AV q⟩
end
def trk(h:Heap)(H:Hp):List Addr:=(List.range h.objs.size).filter λa=>(H a).isSome
def fb(h:Heap)(H:Hp):Heap:=W.hideAll h (trk h H)
theorem Vv(h:Heap)(H:Hp):(fb h H).objs.size=h.objs.size:=W.hideAll_size _ _
theorem R6{h:Heap}{H:Hp}{b:Addr}{o:Obj}(e:h.get? b=some o)(n:H b=none):(fb h H).get? b=some o :=
 W.hideAll_get _ e λhm=>by
  have q:(H b).isSome=true:=(List.mem_filter.mp hm).2;rw[n]at q;simp at q
theorem Py{h:Heap}{H:Hp}{b:Addr}{o:Obj}(e:(fb h H).get? b=some o):h.get? b=some o/\H b=none:=by
 have e':h.get? b=some o:=W.of_hideAll (trk h H) e;refine⟨e',?_⟩;cases q:H b with
 |none=>rfl
 |some x =>
  have hm:b∈trk h H:=List.mem_filter.mpr ⟨xU.mpr (zU e'),by simp[q]⟩;have z:(fb h H).get? b=none:=W.hideAll_none (trk h H) hm;rw[z]at e;cases e
def O7(g h:Heap)(L:Addr):List (Addr×Obj):=(List.range h.objs.size).filterMap λa=>if a=L\/(g.get? a).isSome=true then none else(h.get? a).map λo=>(a,o)
def rest(g h:Heap)(L d:Addr):List (Addr×Obj):=(O7 g h L).filter λp=>decide (p.1≠d)
end L2
namespace L2
open PySem PySem.Spec PyProof.Rows
structure Mod(K:W.Frag)(mg:Str->Option Value)(base:Heap):Prop where
 kin:K.In base
 glob:base.Ns mainGlobals mg
 blt:∃mb,base.Ns builtinsNs mb/\∀x:Str,x≠"__name__"->mb x=bootBuiltins x
 nolimit:base.NoLimit
structure Cx where
 prog:Program
 w:World
 K:W.Frag
 mg:Str->Option Value
 base:Heap
 A:Around
 N:List Str
 s₀:Shared
 H₀:Hp
 env:Env
 outer:List Env
 stack:List Env
 ex:List Addr
 fn:Str->Bool
 calm:Bool
 pn:List (Addr×Obj)
 xe:Value->Shared->Prop
def frs(l:List Env):List Addr:=l.filterMap (·.frame)
abbrev Cx.fs(X:Cx):List Addr:=frs X.outer
def Vis(sc:Scope)(x:Str):Prop:=sc.names.lookup x=some .local\/sc.names.lookup x=some .cell\/sc.names.lookup x=some .free
def Loc(sc:Scope)(x:Str):Prop:=sc.names.lookup x=some .local\/sc.names.lookup x=some .cell
def Fz(env:Env)(h:Heap)(m:Str->Option Value)(x:Str)(u:Value):Prop :=
 (env.kindOf x=some .local/\m x=some u)\/((env.kindOf x=some .cell\/env.kindOf x=some .free)/\∃c,env.cells.lookup x=some c/\h.IsCell c (some u))
structure Cx.Ok(X:Cx):Prop where
 mod:Mod X.K X.mg X.base
 kind:X.env.scope.kind = .function
 glob:X.env.globals=mainGlobals
 blt:X.env.builtins=builtinsNs
 above:X.s₀.heap.objs.size<=X.env.locals
 inj:∀x y c,X.env.cells.lookup x=some c->X.env.cells.lookup y=some c->x=y
 has:∀x,(X.env.kindOf x=some .cell\/X.env.kindOf x=some .free)->∃c,X.env.cells.lookup x=some c
 cab:∀x c,X.fn x=true->X.env.cells.lookup x=some c->X.s₀.heap.objs.size<=c
 hd:X.calm=true->X.A.handled=none
 frames:X.A.frames=some X.stack
 stk:X.stack=X.outer\/(X.stack=X.env::X.outer/\X.env.frame=some X.env.locals)
 exf:∀b∈X.ex,b≠X.env.locals/\∀x c,X.env.cells.lookup x=some c->c≠b
 bs:∀b o,X.base.get? b=some o->X.s₀.heap.get? b=some o/\X.H₀ b=none
 bsz:X.base.objs.size<=X.s₀.heap.objs.size
 noex:∀b o,X.base.get? b=some o->b∉X.ex
 exfs:∀b∈X.ex,b∉X.fs
 funs:X.s₀.heap.FunFrames X.base X.outer
 frf:∀b∈X.fs,X.H₀ b=none
structure Inv(X:Cx)(pins:List (Addr×Obj))(σ:List (Option V))(H:Hp)(s:Shared):Prop where
 ok:X.Ok
 os:s.os=X.s₀.os
 bare:AllBare s.gens
 base:Un X.fs X.ex X.H₀ H X.s₀.heap s.heap
 loc:∃m,s.heap.Ns X.env.locals m/\∀(i:Nat)(x:Str)(v:V),X.N[i]?=some x->σ[i]?=some (some v)->Vis X.env.scope x->∃u,RelV v u/\Fz X.env s.heap m x u
 cell:∀x c,X.env.cells.lookup x=some c->∃v,s.heap.IsCell c v
 free:H X.env.locals=none
 freeC:∀x c,X.env.cells.lookup x=some c->H c=none
 pin:∀p∈X.pn++pins,s.heap.get? p.1=some p.2/\H p.1=none/\p.1≠X.env.locals/\p.1∉X.fs/\∀v,p.2.data≠.cell v
 hok:HOk X.prog X.w H s.heap
 len:σ.length=X.N.length
section
variable {X:Cx}{pins:List (Addr×Obj)}{σ:List (Option V)}{H H':Hp}{s:Shared}{h':Heap}
theorem Cx.Ok.nofr(ok:X.Ok){b:Addr}{o:Obj}(e:X.base.get? b=some o):b∉X.fs:=λhb=>by
 have:=(ok.funs.mem hb).1;rw[e]at this;cases this
theorem Inv.bs(I:Inv X pins σ H s):∀b o,X.base.get? b=some o->s.heap.get? b=some o/\H b=none:=λb o e =>
 ⟨I.base.keep b o (I.ok.bs b o e).1 (I.ok.bs b o e).2 (I.ok.nofr e) (I.ok.noex b o e),I.base.free b o (I.ok.bs b o e).1 (I.ok.bs b o e).2 (I.ok.noex b o e)⟩
theorem Inv.bk(I:Inv X pins σ H s):∀b o,X.base.get? b=some o->s.heap.get? b=some o:=λb o e=>(I.bs b o e).1
theorem Inv.mod(I:Inv X pins σ H s):Mod X.K X.mg X.base:=I.ok.mod
theorem Inv.kIn(I:Inv X pins σ H s):X.K.In s.heap:=I.ok.mod.kin.keeps I.bk
theorem Inv.lt(I:Inv X pins σ H s):X.env.locals<s.heap.objs.size:=let⟨_,hn,_⟩:=I.loc;hn.lt
theorem Inv.sz(I:Inv X pins σ H s):X.s₀.heap.objs.size<=s.heap.objs.size:=yM I.ok.above (xP I.lt)
theorem Inv.nofs(I:Inv X pins σ H s){a:Addr}(h:s.heap.objs.size<=a):a∉X.fs:=λhb=>by
 obtain⟨_,o,ho,_⟩:=I.ok.funs.mem hb;exact absurd (zG (zU ho) (yM I.sz h)) (xA _)
theorem Inv.cne(I:Inv X pins σ H s):∀x c,X.env.cells.lookup x=some c->c≠X.env.locals:=λx c e z=>by
 obtain⟨v,o,ho,hd⟩:=I.cell x c e;obtain⟨m,⟨o',es,ep,BP,AU,_⟩,_⟩:=I.loc;rw[z,BP]at ho;cases ho;rw[AU]at hd;cases hd
theorem Inv.funs(I:Inv X pins σ H s):s.heap.FunFrames X.base X.outer:=by
 have all:∀(l:List Env),(∀b∈frs l,b∈X.fs)->X.s₀.heap.FunFrames X.base l->s.heap.FunFrames X.base l:=by
  intro l
  induction l with
  |nil=>intro _ _;trivial
  |cons env r ih =>
   intro hs hl;obtain⟨hk,⟨L,o,hf,hn,ho,hd⟩,hr⟩:=hl;have hL:L∈X.fs:=hs L (by unfold frs;rw[xZ,hf];exact zB);obtain⟨sl,e⟩:=I.base.slot L o ho (I.ok.frf L hL) hL λz=>I.ok.exfs L z hL;exact⟨hk,⟨L,_,hf,hn,e,hd⟩,ih (λb hb=>hs b (by unfold frs;rw[xZ,hf];exact zI _ hb)) hr⟩
 exact all X.outer (λ_ hb=>hb) I.ok.funs
theorem Inv.stack(I:Inv X pins σ H s):s.heap.FunFrames X.base X.stack:=by
 rcases I.ok.stk with e|⟨e,hf⟩
 ·rw[e];exact I.funs
 ·rw[e];obtain⟨m,hn,_⟩:=I.loc;refine .cons (by rw[I.ok.kind];decide) hf hn ?_ I.funs;exact vR (yM I.ok.bsz I.ok.above)
theorem Inv.stkSub(I:Inv X pins σ H s):∀b∈frs X.stack,b∈X.env.locals::X.fs:=λb hb=>by
 rcases I.ok.stk with e|⟨e,hf⟩
 ·rw[e]at hb;exact zI _ hb
 ·rw[e]at hb;unfold frs at hb;rw[xZ,hf]at hb;exact hb
theorem Inv.stkFree(I:Inv X pins σ H s):∀b∈frs X.stack,H b=none:=λb hb=>by
 rcases zD.mp (I.stkSub b hb)with e|hb
 ·rw[e];exact I.free
 ·obtain⟨_,o,ho,_⟩:=I.ok.funs.mem hb;exact I.base.free b o ho (I.ok.frf b hb) λz=>I.ok.exfs b z hb
theorem Inv.step{g':Array GenState}{t':Nat}{d':Drawn}{ch:List Addr}(I:Inv X pins σ H s)
  (qI:∀b∈ch,(b∈X.ex\/X.s₀.heap.objs.size<=b)/\b≠X.env.locals/\(∀x c,X.env.cells.lookup x=some c->c≠b)/\∀p∈X.pn++pins,p.1≠b)
  (keep:∀b o,b≠X.env.locals->b∉X.fs->b∉ch->s.heap.get? b=some o->H b=none->h'.get? b=some o)
  (slot:∀b o,b≠X.env.locals->b∈X.fs->b∉ch->s.heap.get? b=some o->H b=none->∃sl,h'.get? b=some { o with slots:=sl }) (free:∀b o,b∉ch->s.heap.get? b=some o->H b=none->H' b=none)
  (there:∀b o,b∉ch->s.heap.get? b=some o->∃o',h'.get? b=some o')
  (tups:∀b xs,H b=some (.tup xs)->H' b=some (.tup xs)) (frzs:∀b o u,H b=some (.frz o u)->H' b=some (.frz o u)) (tbls:∀b ps,H b=some (.tbl ps)->∃more,H' b=some (.tbl (ps++more)))
  (ns:∀m,s.heap.Ns X.env.locals m->h'.Ns X.env.locals m) (hok:HOk X.prog X.w H' h') (hg:AllBare g') :
  Inv X pins σ H' { s with heap:=h',gens:=g',drawn:=d',toks:=t' }:=by
 have neL:∀b o,X.s₀.heap.get? b=some o->b≠X.env.locals:=λb o e=>zE (zG (zU e) I.ok.above);have neC:∀b o,X.s₀.heap.get? b=some o->b∉X.ex->b∉ch:=λb o e hx hb=>by
  rcases(qI b hb).1 with z|z
  ·exact hx z
  ·exact absurd (zG (zU e) z) (xA _)
 have CW:∀x c,X.env.cells.lookup x=some c->∀v,s.heap.IsCell c v->h'.IsCell c v:=λx c e v ⟨o,ho,hd⟩=>by
  have NA:c∉ch:=λz=>(qI c z).2.2.1 x c e rfl
  by_cases hc:c∈X.fs
  ·obtain⟨sl,q⟩:=slot c o (I.cne x c e) hc NA ho (I.freeC x c e);exact⟨_,q,hd⟩
  ·exact⟨o,keep c o (I.cne x c e) hc NA ho (I.freeC x c e),hd⟩
 refine⟨I.ok,I.os,hg,⟨λb o e n hb hx=>?_,λb o e n hb hx=>?_,λb o e n hx=>?_,λb o e hx=>?_,λb xs e=>tups b xs (I.base.tups b xs e),λb o xs e=>frzs b o xs (I.base.frzs b o xs e),λb ps e=>?_⟩,?_,λx c e=>?_,?_,λx c e=>?_,λp hp=>?_,hok,I.len⟩
 ·exact keep b o (neL b o e) hb (neC b o e hx) (I.base.keep b o e n hb hx) (I.base.free b o e n hx)
 ·obtain⟨sl,e1⟩:=I.base.slot b o e n hb hx;obtain⟨HS,e2⟩:=slot b _ (neL b o e) hb (neC b o e hx) e1 (I.base.free b o e n hx);exact⟨HS,e2⟩
 ·obtain⟨o',e1⟩:=I.base.there b o e hx;exact free b o' (neC b o e hx) e1 (I.base.free b o e n hx)
 ·obtain⟨o',e1⟩:=I.base.there b o e hx;exact there b o' (neC b o e hx) e1
 ·obtain⟨m1,e1⟩:=I.base.tbls b ps e;obtain⟨m2,e2⟩:=tbls b _ e1;exact⟨m1++m2,by rw[e2,Array.append_assoc]⟩
 ·obtain⟨m,hn,hl⟩:=I.loc;refine⟨m,ns m hn,λi x v e1 e2 e3=>?_⟩;obtain⟨u,r,l⟩:=hl i x v e1 e2 e3;refine⟨u,r,?_⟩;rcases l with l|⟨k,c,e,z⟩
  ·exact .inl l
  ·exact .inr ⟨k,c,e,CW x c e _ z⟩
 ·obtain⟨v,z⟩:=I.cell x c e;exact⟨v,CW x c e v z⟩
 ·obtain⟨m,⟨o,_,_,ho,_⟩,_⟩:=I.loc;exact free _ o (λz=>(qI _ z).2.1 rfl) ho I.free
 ·obtain⟨v,o,ho,hd⟩:=I.cell x c e;exact free c o (λz=>(qI c z).2.2.1 x c e rfl) ho (I.freeC x c e)
 ·obtain⟨e,n,ne,nf,d⟩:=I.pin p hp;have NA:p.1∉ch:=λz=>(qI p.1 z).2.2.2 p hp rfl;exact⟨keep p.1 p.2 ne nf NA e n,free p.1 p.2 NA e n,ne,nf,d⟩
theorem Inv.un{t':Nat}(I:Inv X pins σ H s)(u:Un X.fs [] H H' s.heap h')(hok:HOk X.prog X.w H' h'):Inv X pins σ H' { s with heap:=h',toks:=t' }:=by
 obtain⟨m,⟨o,es,ep,ho,r⟩,_⟩:=id I.loc;obtain⟨sl,hL⟩:=u.any ho I.free (by simp);exact I.step (g':=s.gens) (d':=s.drawn) (ch:=[]) (λ_ z=>nomatch z) (λb o _ hb _ e n=>u.keep b o e n hb (by simp)) (λb o _ hb _ e n=>u.slot b o e n hb (by simp)) (λb o _ e n=>u.free b o e n (by simp)) (λb o _ e=>u.there b o e (by simp)) u.tups u.frzs u.tbls (λm' hm=>by
  obtain⟨o',fC,oS,BP,r'⟩:=hm;rw[ho]at BP;cases BP;exact⟨_,fC,oS,hL,r'⟩) hok I.bare
theorem Inv.call{g':Array GenState}{t':Nat}{d':Drawn}{ch:List Addr}(I:Inv X pins σ H s)(u:Un (frs X.stack) ch H H' s.heap h')(hok:HOk X.prog X.w H' h')(hg:AllBare g')
  (qI:∀b∈ch,(b∈X.ex\/X.s₀.heap.objs.size<=b)/\b≠X.env.locals/\(∀x c,X.env.cells.lookup x=some c->c≠b)/\∀p∈X.pn++pins,p.1≠b) :
  Inv X pins σ H' { s with heap:=h',gens:=g',drawn:=d',toks:=t' }:=by
 obtain⟨m,⟨o,es,ep,ho,r⟩,_⟩:=id I.loc;obtain⟨sl,hL⟩:=u.any ho I.free λz=>(qI _ z).2.1 rfl;exact I.step (ch:=ch) qI (λb o hL hb hc e n=>u.keep b o e n (λz=>(zD.mp (I.stkSub b z)).elim hL hb) hc) (λb o _ _ hc e n=>u.any e n hc) (λb o hc e n=>u.free b o e n hc) (λb o hc e=>u.there b o e hc) u.tups u.frzs u.tbls (λm' hm=>by
  obtain⟨o',fC,oS,BP,r'⟩:=hm;rw[ho]at BP;cases BP;exact⟨_,fC,oS,hL,r'⟩) hok hg
theorem Inv.turned{t':Nat}{it:Addr}(I:Inv X pins σ H s)(k:∀b o,b≠it->s.heap.get? b=some o->h'.get? b=some o)(hn:H it=none)(hL:it≠X.env.locals)
  (h1:it∈X.ex\/X.s₀.heap.objs.size<=it) (h2:∀x c,X.env.cells.lookup x=some c->c≠it) (h3:∀p∈X.pn++pins,p.1≠it):Inv X pins σ H { s with heap:=h',toks:=t' }:=by
 have M':∀b u,H b=some u->b≠it:=λb u e z=>by rw[z,hn]at e;cases e
 refine I.step (g':=s.gens) (d':=s.drawn) (ch:=[it]) (λb hb=>?_) (λb o _ _ hc e _=>k b o (λz=>hc (by simp[z])) e) (λb o _ _ hc e _=>⟨o.slots,k b o (λz=>hc (by simp[z])) e⟩) (λ_ _ _ _ n=>n)
  (λb o hc e=>⟨o,k b o (λz=>hc (by simp[z])) e⟩) (λ_ _ e=>e) (λ_ _ _ e=>e) (λb ps e=>⟨#[],by rw[e];simp⟩) (λm hm=>?_) (λb u e=>?_) I.bare
 ·have e:b=it:=by simpa using hb
  subst e;exact⟨h1,hL,h2,h3⟩
 ·obtain⟨o,es,ep,ho,r⟩:=hm;exact⟨o,es,ep,k _ o (wY hL) ho,r⟩
 ·refine(I.hok b u e).stay (λc v hc q=>k c v ?_ q) (λ_ q=>q) λ_ _ q=>q;rcases hc with z|z
  ·rw[z];exact M' b u e
  ·exact M' c _ z
theorem Inv.tok(I:Inv X pins σ H s)(t:Nat):Inv X pins σ H { s with toks:=t }:=I.un (h':=s.heap) (t':=t) Un.refl I.hok
theorem Inv.kept{t':Nat}(I:Inv X pins σ H s)(k:∀b u,s.heap.get? b=some u->h'.get? b=some u):Inv X pins σ H { s with heap:=h',toks:=t' }:=I.un (Un.kept k) (I.hok.kept k)
theorem Inv.laid{a:Addr}{o:HO}{t':Nat}(I:Inv X pins σ H s)(k:∀b u,s.heap.get? b=some u->h'.get? b=some u)(hp:s.heap.objs.size<=a)(new:ObjOk X.prog X.w (upd H a o) h' a o):
  Inv X pins σ (upd H a o) { s with heap:=h',toks:=t' }:=I.un (Un.laid k hp (I.hok.fresh hp)) (I.hok.laid k hp new)
theorem Inv.write{x e:Addr}{o:HO}{t':Nat}(I:Inv X pins σ H s)(mu:Mut (H x))(he:e=x\/H e=some (.own x))(k:∀b u,b≠e->s.heap.get? b=some u->h'.get? b=some u)(FN:∃u,h'.get? e=some u)
  (new:ObjOk X.prog X.w (upd H x o) h' x o):Inv X pins σ (upd H x o) { s with heap:=h',toks:=t' }:=I.un (Un.write mu he k FN) (I.hok.write mu he k FN new)
theorem Inv.pins_of{CB:List (Addr×Obj)}(I:Inv X pins σ H s)(h:∀p∈CB,s.heap.get? p.1=some p.2/\H p.1=none/\p.1≠X.env.locals/\p.1∉X.fs/\∀v,p.2.data≠.cell v):Inv X CB σ H s :=
 ⟨I.ok,I.os,I.bare,I.base,I.loc,I.cell,I.free,I.freeC,λp hp=>(zP.mp hp).elim (λz=>I.pin p (yH _ z)) (h p),I.hok,I.len⟩
theorem ll{N:List Str}(hN:N.Nodup){i j:Nat}{x:Str}(a:N[i]?=some x)(b:N[j]?=some x):i=j:=by
 obtain⟨h1,e1⟩:=zV.mp a;obtain⟨h2,e2⟩:=zV.mp b;exact(List.getElem_inj hN).mp (e1.trans e2.symm)
theorem W2{M:Model}{A:Around}{E:Value->Shared->Prop}{i:Nat}{x:Str}{v:V}{u:Value}{Q:Unit->Shared->Prop}(I:Inv X pins σ H s)(hN:X.N.Nodup)(hi:X.N[i]?=some x)(hx:Loc X.env.scope x)(r:RelV v u)
  (h:∀s',Inv X pins (σ.set i (some v)) H s'->(∃a,Heap.SameBut a s.heap s'.heap/\(a=X.env.locals\/X.env.cells.lookup x=some a))->Q () s') (hf:X.fn x=true\/X.env.scope.names.lookup x=some .local:=by first|exact .inl rfl|exact .inr rfl|assumption):wpAny M A (storeName X.env x u) Q E s:=by
 obtain⟨m,hn,hl⟩:=id I.loc;have Er:(X.env.scope.kind == .class||(X.env.scope.kind == .module&&X.env.locals != X.env.globals))=false:=by rw[I.ok.kind];rfl
 have hiσ:i<σ.length:=by rw[I.len];exact(zV.mp hi).1
 have cne:=I.cne;have Ar:∀{a:Addr}{h':Heap},(∃o,s.heap.get? a=some o/\H a=none)->Heap.SameBut a s.heap h'->HOk X.prog X.w H h':=λ{a h'} ha hs b ob e=>by
  obtain⟨_,_,CQ⟩:=ha;refine(I.hok b ob e).stay (λc w' hc q=>(hs.2 c ?_).trans q) (λ_ q=>q) λ_ _ q=>q;rintro rfl;rcases hc with rfl|hc
  ·rw[CQ]at e;cases e
  ·rw[CQ]at hc;cases hc
 rcases hx with hk|hk
 ·refine wpAny_storeName_local hk hn (λh' FL hs=>?_) Er;obtain⟨oL,_,_,hoL,_⟩:=id hn;refine h _ ⟨I.ok,I.os,I.bare,⟨λb o e n hb hx=>?_,λb o e n hb hx=>?_,I.base.free,λb o e hx=>?_,I.base.tups,I.base.frzs,I.base.tbls⟩,⟨_,FL,λj y v' e1 e2 e3=>?_⟩,λy c e=>?_,I.free,I.freeC,λp hp=>?_,Ar ⟨oL,hoL,I.free⟩ hs,by simpa using I.len⟩ ⟨_,hs,.inl rfl⟩
  ·exact(hs.2 b (zE (zG (zU e) I.ok.above))).trans (I.base.keep b o e n hb hx)
  ·obtain⟨sl,e1⟩:=I.base.slot b o e n hb hx;exact⟨sl,(hs.2 b (zE (zG (zU e) I.ok.above))).trans e1⟩
  ·obtain⟨o',e1⟩:=I.base.there b o e hx;exact⟨o',(hs.2 b (zE (zG (zU e) I.ok.above))).trans e1⟩
  ·by_cases hj:j=i
   ·subst hj;rw[hi]at e1;cases e1;rw[tY hiσ]at e2;cases e2;exact⟨u,r,.inl ⟨hk,by simp⟩⟩
   ·rw[List.getElem?_set_ne (wY hj)]at e2;obtain⟨u',r',q⟩:=hl j y v' e1 e2 e3;refine⟨u',r',?_⟩;rcases q with⟨k,e⟩|⟨k,c,e,z⟩
    ·refine .inl ⟨k,?_⟩;have:y≠x:=λe=>hj (ll hN e1 (e▸hi));simp[this,e]
    ·exact .inr ⟨k,c,e,z.sameBut hs (cne y c e)⟩
  ·obtain⟨w',z⟩:=I.cell y c e;exact⟨w',z.sameBut hs (cne y c e)⟩
  ·obtain⟨e,n,ne,nf,d⟩:=I.pin p hp;exact⟨(hs.2 p.1 ne).trans e,n,ne,nf,d⟩
 ·have hfn:X.fn x=true:=by
   rcases hf with z|z
   ·exact z
   ·rw[z]at hk;cases hk
  obtain⟨c,hc⟩:=I.ok.has x (.inl hk);obtain⟨w',z⟩:=I.cell x c hc;refine wpAny_storeName_cell I.ok.kind hk hc z (λh' Et hs=>?_);obtain⟨oc,hoc,hocd⟩:=id z;refine h { s with heap:=h' } ⟨I.ok,I.os,I.bare,⟨λb o e n hb hx=>?_,λb o e n hb hx=>?_,I.base.free,λb o e hx=>?_,I.base.tups,I.base.frzs,I.base.tbls⟩,⟨m,hn.sameBut hs (wY (cne x c hc)),λj y v' e1 e2 e3=>?_⟩,λy c' e=>?_,I.free,I.freeC,λp hp=>?_,Ar ⟨oc,hoc,I.freeC x c hc⟩ hs,by simpa using I.len⟩ ⟨c,hs,.inr hc⟩
  ·exact(hs.2 b (zE (zG (zU e) (I.ok.cab x c hfn hc)))).trans (I.base.keep b o e n hb hx)
  ·obtain⟨sl,e1⟩:=I.base.slot b o e n hb hx;exact⟨sl,(hs.2 b (zE (zG (zU e) (I.ok.cab x c hfn hc)))).trans e1⟩
  ·obtain⟨o',e1⟩:=I.base.there b o e hx;exact⟨o',(hs.2 b (zE (zG (zU e) (I.ok.cab x c hfn hc)))).trans e1⟩
  ·by_cases hj:j=i
   ·subst hj;rw[hi]at e1;cases e1;rw[tY hiσ]at e2;cases e2;exact⟨u,r,.inr ⟨.inl hk,c,hc,Et⟩⟩
   ·rw[List.getElem?_set_ne (wY hj)]at e2;obtain⟨u',r',q⟩:=hl j y v' e1 e2 e3;refine⟨u',r',?_⟩;rcases q with q|⟨k,c',e,z'⟩
    ·exact .inl q
    ·refine .inr ⟨k,c',e,z'.sameBut hs ?_⟩;rintro rfl;exact hj (ll hN e1 (I.ok.inj _ _ _ e hc▸hi))
  ·by_cases hcc:c'=c
   ·subst hcc;exact⟨_,Et⟩
   ·obtain⟨w2,z2⟩:=I.cell y c' e;exact⟨w2,z2.sameBut hs hcc⟩
  ·obtain⟨e,n,ne,nf,d⟩:=I.pin p hp;refine⟨(hs.2 p.1 ?_).trans e,n,ne,nf,d⟩;intro q;rw[q,hoc]at e;have q':oc=p.2:=yX e;exact d w' (by rw[<-q'];exact hocd)
theorem mi{M:Model}{A:Around}{E:Value->Shared->Prop}{i:Nat}{x:Str}{v:V}{u:Value}{Q:Unit->Shared->Prop}(I:Inv X pins σ H s)(hN:X.N.Nodup)(hi:X.N[i]?=some x)(hx:Loc X.env.scope x)(r:RelV v u)
  (h:∀s',Inv X pins (σ.set i (some v)) H s'->Q () s') (hf:X.fn x=true\/X.env.scope.names.lookup x=some .local:=by first|exact .inl rfl|exact .inr rfl|assumption):wpAny M A (storeName X.env x u) Q E s :=
 W2 I hN hi hx r (λs' I' _=>h s' I') hf
theorem Inv.call'{s':Shared}{ch:List Addr}(I:Inv X pins σ H s)(ho:s'.os=s.os)(u:Un (frs X.stack) ch H H' s.heap s'.heap)(hok:HOk X.prog X.w H' s'.heap)(hg:AllBare s'.gens)
  (qI:∀b∈ch,(b∈X.ex\/X.s₀.heap.objs.size<=b)/\b≠X.env.locals/\(∀x c,X.env.cells.lookup x=some c->c≠b)/\∀p∈X.pn++pins,p.1≠b):Inv X pins σ H' s':=by
 obtain⟨h',g',d',t',o'⟩:=s';have e:o'=s.os:=ho;subst e;exact I.call (g':=g') (t':=t') (d':=d') u hok hg qI
end
abbrev XK:=Value->Option Addr->Hp->Prop
abbrev St:=List (Option V)
abbrev VK:=V->Hp->Prop
abbrev TE:=St->Hp->VK->Prop
abbrev TT:=St->Hp->(Bool->Hp->Prop)->Prop
abbrev TA:=St->Hp->(List V->Hp->Prop)->Prop
structure ue where
 nx:St->Hp->Prop
 rt:VK
 bk:St->Hp->Prop:=λ_ _=>False
 ct:St->Hp->Prop:=λ_ _=>False
abbrev TS:=ue->St->Hp->Prop
def EP(X:Cx)(pins:List (Addr×Obj))(σ:St)(Q:VK)(u:Value)(s':Shared):Prop:=∃v H',Inv X pins σ H' s'/\RelV v u/\Q v H'
def TP(X:Cx)(pins:List (Addr×Obj))(σ:St)(Q:Bool->Hp->Prop)(b:Bool)(s':Shared):Prop:=∃H',Inv X pins σ H' s'/\Q b H'
def AP(X:Cx)(pins:List (Addr×Obj))(σ:St)(Q:List V->Hp->Prop)(us:List Value)(s':Shared):Prop:=∃vs H',Inv X pins σ H' s'/\Vals vs us/\Q vs H'
def SP(X:Cx)(pins:List (Addr×Obj))(D:ue)(f:Flow)(s':Shared):Prop :=
 match f with
 | .next=>∃σ' H',Inv X pins σ' H' s'/\D.nx σ' H'
 | .brk=>∃σ' H',Inv X pins σ' H' s'/\D.bk σ' H'
 | .cont=>∃σ' H',Inv X pins σ' H' s'/\D.ct σ' H'
 | .ret u=>∃v σ' H',Inv X pins σ' H' s'/\RelV v u/\D.rt v H'
def PE(X:Cx)(e:Expr)(t:TE):Prop :=
 ∀(pins:List (Addr×Obj))(s:Shared)(σ:St)(H:Hp)(Q:VK),Inv X pins σ H s->t σ H Q->wpAny (model X.prog X.w) X.A (eval e X.env) (EP X pins σ Q) X.xe s
def PT(X:Cx)(e:Expr)(t:TT):Prop :=
 ∀(pins:List (Addr×Obj))(s:Shared)(σ:St)(H:Hp)(Q:Bool->Hp->Prop),Inv X pins σ H s->t σ H Q->wpAny (model X.prog X.w) X.A (isTrue e X.env (eval e X.env)) (TP X pins σ Q) X.xe s
def PW(X:Cx)(e:Expr)(t:TT):Prop :=
 ∀(Aq:Sem Value)(pins:List (Addr×Obj))(s:Shared)(σ:St)(H:Hp)(Q:Bool->Hp->Prop),Inv X pins σ H s->t σ H Q->wpAny (model X.prog X.w) X.A (isTrue e X.env Aq) (TP X pins σ Q) X.xe s
theorem PW.pt{X:Cx}{e:Expr}{t:TT}(h:PW X e t):PT X e t:=h _
def PA(X:Cx)(es:List Expr)(t:TA):Prop :=
 ∀(pos:Pos)(pins:List (Addr×Obj))(s:Shared)(σ:St)(H:Hp)(Q:List V->Hp->Prop),Inv X pins σ H s->t σ H Q->wpAny (model X.prog X.w) X.A (spliced (backTo pos (starEach es X.env))) (AP X pins σ Q) X.xe s
def PS(X:Cx)(st:Stmt)(t:TS):Prop :=
 ∀(pins:List (Addr×Obj))(s:Shared)(σ:St)(H:Hp)(D:ue),Inv X pins σ H s->t D σ H->wpAny (model X.prog X.w) X.A (exec st X.env) (SP X pins D) X.xe s
def PSs(X:Cx)(st:List Stmt)(t:TS):Prop :=
 ∀(pins:List (Addr×Obj))(s:Shared)(σ:St)(H:Hp)(D:ue),Inv X pins σ H s->t D σ H->wpAny (model X.prog X.w) X.A (execs st X.env) (SP X pins D) X.xe s
theorem thn{α:Type}{t:Sem α}{Q Q':α->Shared->Prop}{M:Model}{A:Around}{E:Value->Shared->Prop}{s:Shared}(h:wpAny M A t Q E s)(hQ:∀a s,Q a s->Q' a s):wpAny M A t Q' E s:=yR h hQ λ_ _ x=>x
end L2
namespace L2
open PySem PySem.Spec PyProof.Rows
section
variable {X:Cx}
def G2(i:Nat):TE:=fun σ H Q=>∃v,σ[i]?=some (some v)/\Q v H
def tC(v:V):TE:=λ_ H Q=>Q v H
theorem M3{i:Nat}{x:Str}{pos:Pos}(hN:X.N[i]?=some x)(hv:Vis X.env.scope x)(hd:(x==("__debug__":Str))=false:=by decide)(qJ:(x==("__classdict__":Str))=false:=by decide):PE X (.Name x pos) (G2 i):=by
 intro pins s σ H Q I h;obtain⟨v,e,h⟩:=h;obtain⟨m,hn,hl⟩:=I.loc;obtain⟨u,r,l⟩:=hl i x v hN e hv;have bZ:EP X pins σ Q u s:=⟨v,H,I,r,h⟩
 rcases l with⟨hk,hm⟩|⟨hk,c,hc,hcell⟩
 ·exact wpAny_Name (wpAny_loadName_local I.ok.kind hk hn hm bZ) hd
 ·rcases hk with hk|hk
  ·exact wpAny_Name (wpAny_loadName_cell I.ok.kind hk hc hcell bZ) hd
  ·exact wpAny_Name (wpAny_loadName_free I.ok.kind hk hc hcell bZ qJ) hd
theorem zz{i j pos}:PE X (.Constant (.int i) j pos) (tC (.int i)):=λ_ _ _ H _ I h=>wpAny_Constant_int ⟨.int i,H,I.tok _,⟨_,rfl⟩,h⟩
theorem uy{b j pos}:PE X (.Constant (.bool b) j pos) (tC (.bl b)):=λ_ _ _ H _ I h=>Constant_bool ⟨.bl b,H,I,rfl,h⟩
theorem zx{x j pos}:PE X (.Constant (.str x) j pos) (tC (.str x)):=λ_ _ _ H _ I h=>Calls.Constant_str ⟨.str x,H,I.tok _,⟨_,rfl⟩,h⟩
def Gl(X:Cx)(x:Str):Prop:=X.env.kindOf x=some .globalImplicit
theorem wj{E:Value->Shared->Prop}{pins:List (Addr×Obj)}{s:Shared}{σ:St}{H:Hp}{x:Str}{u:Value}{pos:Pos}{Q:Value->Shared->Prop}(I:Inv X pins σ H s)(hg:Gl X x)(hm:X.mg x=some u)(h:Q u s)
  (hd:(x==("__debug__":Str))=false:=by decide):wpAny (model X.prog X.w) X.A (eval (.Name x pos) X.env) Q E s :=
 Calls.Name_function_global I.ok.kind hg (Calls.loadGlobal_global (by rw[I.ok.glob];exact I.mod.glob.keeps I.bk) hm h) hd
theorem tq{E:Value->Shared->Prop}{pins:List (Addr×Obj)}{s:Shared}{σ:St}{H:Hp}{x:Str}{u:Value}{pos:Pos}{Q:Value->Shared->Prop}(I:Inv X pins σ H s)(hg:Gl X x)(hm:X.mg x=none)(hv:bootBuiltins x=some u)(h:Q u s)
  (hn:x≠"__name__":=by decide) (hd:(x==("__debug__":Str))=false:=by decide):wpAny (model X.prog X.w) X.A (eval (.Name x pos) X.env) Q E s:=by
 obtain⟨mb,h1,h2⟩:=I.mod.blt;exact Calls.Name_function_global I.ok.kind hg (Calls.loadGlobal_builtin (by rw[I.ok.glob];exact I.mod.glob.keeps I.bk) hm (by rw[I.ok.blt];exact h1.keeps I.bk) ((h2 x hn).trans hv) h) hd
theorem xx{x:Str}{v:V}{u:Value}{pos:Pos}(hg:Gl X x)(hm:X.mg x=none)(hv:bootBuiltins x=some u)(r:RelV v u)(hn:x≠"__name__":=by decide)(hd:(x==("__debug__":Str))=false:=by decide):PE X (.Name x pos) (tC v) :=
 λ_ _ _ H _ I h=>tq I hg hm hv ⟨v,H,I,r,h⟩ hn hd
variable {a b:Expr}{ta tb:TE}{pos:Pos}
variable {tA tB':TT}{rest:List Expr}
def K2(t u:TT):TT:=fun σ H Q=>t σ H λc H1=>if c=true then u σ H1 Q else Q false H1
def tOr(t u:TT):TT:=fun σ H Q=>t σ H λc H1=>if c=true then Q true H1 else u σ H1 Q
def K8(t:TT):TT:=fun σ H Q=>t σ H λc H1=>Q (!c) H1
theorem X8(ha:PT X a tA):PW X (.BoolOp .And [a] pos) tA:=by
 intro wh pins s σ H Q I h;refine isTrue_and (thn (ha pins s σ H Q I h) λc s1 e=>?_);cases c with
 |true=>exact isTrue_and_nil e
 |false=>exact e
theorem ur(ha:PT X a tA):PW X (.BoolOp .Or [a] pos) tA:=by
 intro wh pins s σ H Q I h;refine isTrue_or (thn (ha pins s σ H Q I h) λc s1 e=>?_);cases c with
 |false=>exact isTrue_or_nil e
 |true=>exact e
theorem T8(ha:PT X a tA)(hb:PW X (.BoolOp .And (b::rest) pos) tB'):PW X (.BoolOp .And (a::b::rest) pos) (K2 tA tB'):=by
 intro wh pins s σ H Q I h;refine isTrue_and (thn (ha pins s σ H _ I h) λc s1 ⟨H1,I1,q1⟩=>?_);cases c with
 |true=>exact hb wh pins s1 σ H1 Q I1 q1
 |false=>exact⟨H1,I1,q1⟩
theorem r8(ha:PT X a tA)(hb:PW X (.BoolOp .Or (b::rest) pos) tB'):PW X (.BoolOp .Or (a::b::rest) pos) (tOr tA tB'):=by
 intro wh pins s σ H Q I h;refine isTrue_or (thn (ha pins s σ H _ I h) λc s1 ⟨H1,I1,q1⟩=>?_);cases c with
 |true=>exact⟨H1,I1,q1⟩
 |false=>exact hb wh pins s1 σ H1 Q I1 q1
theorem t8(ha:PT X a tA):PT X (.UnaryOp .Not a pos) (K8 tA):=by
 intro pins s σ H Q I h;exact isTrue_not (ha pins s σ H (λc H1=>Q (!c) H1) I h)
theorem uq{op}{t:TE}(h:PE X a t):PE X (.BoolOp op [a] pos) t:=λpins s σ H Q I hw=>BoolOp_one (h pins s σ H Q I hw)
def tIf(t:TT)(ta tb:TE):TE:=fun σ H Q=>t σ H λc H1=>if c=true then ta σ H1 Q else tb σ H1 Q
theorem cu{c:Expr}(hc:PT X c tA)(ha:PE X a ta)(hb:PE X b tb):PE X (.IfExp c a b pos) (tIf tA ta tb):=by
 intro pins s σ H Q I h;refine wpAny_IfExp (thn (hc pins s σ H _ I h) λd s1 ⟨H1,I1,q1⟩=>?_);cases d with
 |true=>exact ha pins s1 σ H1 Q I1 q1
 |false=>exact hb pins s1 σ H1 Q I1 q1
end
end L2
namespace L2
open PySem PySem.Spec PyProof.Rows
def SqL(K:W.Frag)(H:Hp)(a:Addr)(xs:List V):Prop :=
 Rd H a (.lst xs) \/
  ∃(o:Obj)(aH:Array Value)(n:Nat),K.lookup a=some o/\o.cls = .type "list"/\o.dict=none/\o.data = .seq aH n/\aH.size<=sizeLine/\Vals xs aH.toList
def SqT(K:W.Frag)(H:Hp)(a:Addr)(xs:List V):Prop :=
 Rd H a (.tup xs) \/
  ∃(o:Obj)(aH:Array Value)(n:Nat),K.lookup a=some o/\o.cls = .type "tuple"/\o.data = .seq aH n/\aH.size<=sizeLine/\Vals xs aH.toList
def F0:Value->Option V
 | .none=>some .non
 | .bool b=>some (.bl b)
 | .int i _=>some (.int i)
 | .str x _=>some (.str x)
 | .bytes b _=>some (.byt b)
 | .float b _=>some (.flt b)
 | .ref a=>some (.ref a)
 | .type n=>some (.ty n)
 |_=>none
theorem RelV.abs{x:V}{u:Value}(r:RelV x u):F0 u=some x:=by
 cases x with
 |non=>cases r;rfl
 |bl _=>cases r;rfl
 |int _=>obtain⟨t,rfl⟩:=r;rfl
 |str _=>obtain⟨t,rfl⟩:=r;rfl
 |byt _=>obtain⟨t,rfl⟩:=r;rfl
 |flt _=>obtain⟨t,rfl⟩:=r;rfl
 |ref _=>cases r;rfl
 |ty _=>cases r;rfl
theorem RelV.inj{x y:V}{u:Value}(r:RelV x u)(q:RelV y u):x=y:=yX (r.abs.symm.trans q.abs)
theorem Vals.inj:∀{xs ys:List V}{us:List Value},Vals xs us->Vals ys us->xs=ys
 |_,_,_,.nil,.nil=>rfl
 |_,_,_,.cons r t,.cons r' t'=>by rw[r.inj r',Vals.inj t t']
section
variable {X:Cx}{pins:List (Addr×Obj)}{σ:St}{H:Hp}{s:Shared}{a:Addr}{xs ys:List V}
theorem SqL.of{K:W.Frag}(h:H a=some (.lst xs)):SqL K H a xs:=.inl (.inl h)
theorem SqT.of{K:W.Frag}(h:H a=some (.tup xs)):SqT K H a xs:=.inl (.inl h)
theorem Inv.list(I:Inv X pins σ H s)(h:SqL X.K H a xs):∃aH:List Value,Vals xs aH/\PlainL s.heap a aH.toArray/\xs.length<=sizeLine:=by
 rcases h with h|⟨o,aH,n,hk,hc,hd,hs,hz,r⟩
 ·obtain⟨z,aH,n,r,e⟩:=h.ok I.hok;exact⟨aH,r,⟨_,n,e,rfl,rfl,rfl⟩,z⟩
 ·refine⟨aH.toList,r,⟨o,n,I.kIn a o hk,hc,hd,by simpa using hs⟩,?_⟩;have e:=r.length;simp only[xQ]at e;lia
theorem Inv.tuple(I:Inv X pins σ H s)(h:SqT X.K H a xs):∃aH:List Value,Vals xs aH/\IsTup s.heap a aH.toArray/\xs.length<=sizeLine:=by
 rcases h with h|⟨o,aH,n,hk,hc,hs,hz,r⟩
 ·obtain⟨z,aH,r,p⟩:=h.ok I.hok;exact⟨aH,r,p,z⟩
 ·refine⟨aH.toList,r,⟨o,I.kIn a o hk,hc,n,by simpa using hs⟩,?_⟩;have e:=r.length;simp only[xQ]at e;lia
theorem Inv.list_inj(I:Inv X pins σ H s)(h:SqL X.K H a xs)(h':SqL X.K H a ys):xs=ys:=by
 obtain⟨aH,r,⟨o,n,e,_,_,d⟩,_⟩:=I.list h;obtain⟨its',r',⟨o',n',e',_,_,d'⟩,_⟩:=I.list h';rw[e]at e';cases e';rw[d]at d';injection d' with d1 _;have:aH=its':=by simpa using xT Array.toList d1
 subst this;exact r.inj r'
theorem Inv.tuple_inj(I:Inv X pins σ H s)(h:SqT X.K H a xs)(h':SqT X.K H a ys):xs=ys:=by
 obtain⟨aH,r,⟨o,e,_,n,d⟩,_⟩:=I.tuple h;obtain⟨its',r',⟨o',e',_,n',d'⟩,_⟩:=I.tuple h';rw[e]at e';cases e';rw[d]at d';injection d' with d1 _;have:aH=its':=by simpa using xT Array.toList d1
 subst this;exact r.inj r'
end
abbrev Cx.wish(X:Cx)(E:Value->Shared->Prop):Cx:={ X with xe:=E }
abbrev Cx.nox(X:Cx):Cx:=X.wish λ_ _=>False
theorem Cx.Ok.wish{X:Cx}(ok:X.Ok)(E:Value->Shared->Prop):(X.wish E).Ok :=
 ⟨ok.mod,ok.kind,ok.glob,ok.blt,ok.above,ok.inj,ok.has,ok.cab,ok.hd,ok.frames,ok.stk,ok.exf,ok.bs,ok.bsz,ok.noex,ok.exfs,ok.funs,ok.frf⟩
theorem Cx.Ok.unwish{X:Cx}{E:Value->Shared->Prop}(ok:(X.wish E).Ok):X.Ok :=
 ⟨ok.mod,ok.kind,ok.glob,ok.blt,ok.above,ok.inj,ok.has,ok.cab,ok.hd,ok.frames,ok.stk,ok.exf,ok.bs,ok.bsz,ok.noex,ok.exfs,ok.funs,ok.frf⟩
section
variable {X:Cx}{pins:List (Addr×Obj)}{σ:St}{H:Hp}{s:Shared}{E:Value->Shared->Prop}
theorem Inv.wish(I:Inv X pins σ H s)(E:Value->Shared->Prop):Inv (X.wish E) pins σ H s:=⟨I.ok.wish E,I.os,I.bare,I.base,I.loc,I.cell,I.free,I.freeC,I.pin,I.hok,I.len⟩
theorem Inv.unwish(I:Inv (X.wish E) pins σ H s):Inv X pins σ H s:=⟨I.ok.unwish,I.os,I.bare,I.base,I.loc,I.cell,I.free,I.freeC,I.pin,I.hok,I.len⟩
theorem SP.unwish{D:ue}{f:Flow}{s':Shared}(h:SP (X.wish E) pins D f s'):SP X pins D f s':=by
 cases f with
 |next=>obtain⟨σ',H',I,q⟩:=h;exact⟨σ',H',I.unwish,q⟩
 |brk=>obtain⟨σ',H',I,q⟩:=h;exact⟨σ',H',I.unwish,q⟩
 |cont=>obtain⟨σ',H',I,q⟩:=h;exact⟨σ',H',I.unwish,q⟩
 |ret u=>obtain⟨v,σ',H',I,r,q⟩:=h;exact⟨v,σ',H',I.unwish,r,q⟩
theorem PSs.nox{st:List Stmt}{t:TS}(h:PSs X.nox st t):PSs X st t:=λpins s σ H D I hw =>
 yR (h pins s σ H D (I.wish _) hw) (λ_ _ q=>q.unwish) λ_ _ z=>False.elim z
end
section
variable {X:Cx}{st:Stmt}{rest:List Stmt}{t u:TS}{e:Expr}{te:TE}{pos:Pos}
def U0:TS:=λD σ H=>D.nx σ H
def dq(t u:TS):TS:=λD σ H=>t { D with nx:=u D } σ H
theorem zm:PSs X [] U0:=λ_ _ σ H _ I h=>wP ⟨σ,H,I,h⟩
theorem z5(h1:PS X st t)(h2:PSs X rest u):PSs X (st::rest) (dq t u):=by
 intro pins s σ H D I h;refine tK (thn (h1 pins s σ H { D with nx:=u D } I h) λf s1 q=>?_);cases f with
 |next =>
  obtain⟨σ',H',I',q⟩:=q;exact h2 pins s1 σ' H' D I' q
 |ret v=>exact q
 |brk=>exact q
 |cont=>exact q
theorem z0(h1:PS X st t):PSs X [st] t:=by
 intro pins s σ H D I h;refine tK (thn (h1 pins s σ H D I h) λf s1 q=>?_);cases f with
 |next=>exact wP q
 |ret v=>exact q
 |brk=>exact q
 |cont=>exact q
def N4:TS:=λD σ H=>D.bk σ H
def K3:TS:=λD σ H=>D.ct σ H
theorem Inv.quiet{pins:List (Addr×Obj)}{σ:St}{H:Hp}{s:Shared}(I:Inv X pins σ H s):interactive X.env=false:=by simp[interactive,I.ok.kind]
def O0(te:TE):TS:=λD σ H=>te σ H λ_ H1=>D.nx σ H1
theorem yw(he:PE X e te)(hs:swapsWith e none pos.line X.env=pure false:=by rfl):PS X (.Expr e pos) (O0 te):=by
 intro pins s σ H D I h;exact wpAny_Expr_any (thn (he pins s σ H _ I h) λv s1 ⟨x,H1,I1,r1,q1⟩=>⟨σ,H1,I1,q1⟩) I.quiet hs
def K9(te:TE):TS:=λD σ H=>te σ H D.rt
theorem zt(he:PE X e te):PS X (.Return (some e) pos) (K9 te):=by
 intro pins s σ H D I h;exact wpAny_Return_some (thn (he pins s σ H _ I h) λv s1 ⟨x,H1,I1,r1,q1⟩=>⟨x,σ,H1,I1,r1,q1⟩)
def K7(c:TT)(t u:TS):TS:=λD σ H=>c σ H λb H1=>if b=true then t D σ H1 else u D σ H1
theorem zd{c:Expr}{a b:List Stmt}{tc:TT}(hc:PT X c tc)(ha:PSs X a t)(hb:PSs X b u):PS X (.If c a b pos) (K7 tc t u):=by
 intro pins s σ H D I h;refine wpAny_If (thn (hc pins s σ H _ I h) λd s1 ⟨H1,I1,q1⟩=>?_);cases d with
 |true=>exact ha pins s1 σ H1 D I1 q1
 |false=>exact hb pins s1 σ H1 D I1 q1
end
abbrev TG:=V->St->Hp->(St->Hp->Prop)->Prop
abbrev TGs:=List V->St->Hp->(St->Hp->Prop)->Prop
def PG(X:Cx)(bW:Expr)(t:TG):Prop :=
 ∀(pins:List (Addr×Obj))(s:Shared)(σ:St)(H:Hp)(v:V)(u:Value)(Q:St->Hp->Prop),Inv X pins σ H s->RelV v u->t v σ H Q ->
  wpAny (model X.prog X.w) X.A (assign bW X.env u) (λ_ s'=>∃σ' H',Inv X pins σ' H' s'/\Q σ' H') X.xe s
def PGs(X:Cx)(ts:List Expr)(t:TGs):Prop :=
 ∀(pins:List (Addr×Obj))(s:Shared)(σ:St)(H:Hp)(vs:List V)(us:List Value)(Q:St->Hp->Prop),Inv X pins σ H s->Vals vs us->t vs σ H Q ->
  wpAny (model X.prog X.w) X.A (assignInOrder ((assignEach ts X.env).map (·.2)) us) (λ_ s'=>∃σ' H',Inv X pins σ' H' s'/\Q σ' H') X.xe s
abbrev O5:=V->V->V->Hp->(Hp->Prop)->Prop
def Lk(X:Cx)(t:O5):Prop :=
 ∀(pins:List (Addr×Obj))(s:Shared)(σ:St)(H:Hp)(o i v:V)(ov iv u:Value)(Q:Hp->Prop),Inv X pins σ H s->RelV o ov->RelV i iv->RelV v u->t o i v H Q ->
  wpAny (model X.prog X.w) X.A (setItem ov iv u) (λ_ s'=>∃H',Inv X pins σ H' s'/\Q H') X.xe s
section
variable {X:Cx}{pos:Pos}
def ik(i:Nat):TG:=λv σ H Q=>Q (σ.set i (some v)) H
theorem Qi{i:Nat}{x:Str}(hN:X.N.Nodup)(hi:X.N[i]?=some x)(hx:Loc X.env.scope x)(hf:X.fn x=true\/X.env.scope.names.lookup x=some .local:=by first|exact .inl rfl|exact .inr rfl|assumption):PG X (.Name x pos) (ik i):=by
 intro pins s σ H v u Q I r h;exact wpAny_assign_Name (mi I hN hi hx r (λs' I'=>⟨_,H,I',h⟩) hf)
def F8:TGs:=λvs σ H Q=>vs=[]/\Q σ H
def Hz(t:TG)(u:TGs):TGs:=λvs σ H Q=>∃v r,vs=v::r/\t v σ H fun σ' H'=>u r σ' H' Q
theorem Qj:PGs X [] F8:=by
 intro pins s σ H vs us Q I r h;obtain⟨e,h⟩:=h;subst e;cases r;exact assignInOrder_nil ⟨σ,H,I,h⟩
theorem cw{e:Expr}{es:List Expr}{t:TG}{u:TGs}(h1:PG X e t)(h2:PGs X es u)
  (hs:(assignEach (e::es) X.env).map (·.2)=assign e X.env::(assignEach es X.env).map (·.2):=by rfl):PGs X (e::es) (Hz t u):=by
 intro pins s σ H vs us Q I r h;obtain⟨v,vr,e1,h⟩:=h;subst e1;cases r with
 |cons r rr =>
  rw[hs];refine assignInOrder_cons (thn (h1 pins s σ H _ _ _ I r h) λ_ s1 ⟨σ1,H1,I1,q1⟩=>?_);exact h2 pins s1 σ1 H1 _ _ Q I1 rr q1
def F9(K:W.Frag)(n:Nat)(t:TGs):TG:=λv σ H Q=>∃a xs,v = .ref a/\SqT K H a xs/\xs.length=n/\t xs σ H Q
theorem M5{es:List Expr}{k:Nat}{t:TGs}{n:Nat}(hc:X.calm=true)(h:PGs X es t)
  (hn:(assignEach es X.env).length=n:=by rfl) (iH:(assignEach es X.env).findIdx? (·.1)=none:=by rfl):PG X (.Tuple es k pos) (F9 X.K n t):=by
 intro pins s σ H v u Q I r hw;obtain⟨a,xs,e1,hq,hl,hw⟩:=hw;subst e1;cases r;obtain⟨aH,rv,ht,hz⟩:=I.tuple hq;refine assign_Tuple_tuple (I.ok.hd hc) ht (by simp[hn,<-hl,rv.length]) iH λh' hx=>?_;have I1:Inv X pins σ H { s with heap:=h' }:=I.kept (t':=s.toks) λb o e=>hx b o (zE (zU e)) e;exact h pins _ σ H xs _ Q I1 (by simpa using rv) hw
def Ly(to ti:TE)(t:O5):TG:=λv σ H Q=>to σ H λo H1=>ti σ H1 λi H2=>t o i v H2 λH3=>Q σ H3
theorem M4{o i:Expr}{to ti:TE}{t:O5}(ho:PE X o to)(hi:PE X i ti)(hs:Lk X t)
  (ha:∀v,assign (.Subscript o i pos) X.env v=(do
   let ov <-holding [v] (eval o X.env)
   let iv <-holding [v,ov] (eval i X.env)
   standAt pos
   holding [v,ov,iv] (setItem ov iv v)
   release [v,ov,iv] []):=by intro _;rfl):PG X (.Subscript o i pos) (Ly to ti t):=by
 intro pins s σ H v u Q I r h;rw[ha];refine zZ (xS (thn (ho pins s σ H _ I h) λov s1 ⟨x,H1,I1,r1,q1⟩=>?_));refine zZ (xS (thn (hi pins s1 σ H1 _ I1 q1) λiv s2 ⟨y,H2,I2,r2,q2⟩=>?_));refine zZ (tF (zZ (xS (thn (hs pins s2 σ H2 x y v ov iv u _ I2 r1 r2 r q2) λ_ s3 ⟨H3,I3,q3⟩=>?_))));exact wpAny_release ⟨σ,H3,I3,q3⟩
def Ux(te:TE)(g:TG):TS:=λD σ H=>te σ H λx H1=>g x σ H1 D.nx
theorem M7{tg e:Expr}{te:TE}{g:TG}(he:PE X e te)(hg:PG X tg g)(hs:swapsWithSole [tg] e pos.line X.env=pure false:=by rfl)(hw:swappedStores [tg] e X.env=pure none:=by rfl)
  (h1:(assignEach [tg] X.env).map (·.2)=[assign tg X.env]:=by rfl):PS X (.Assign [tg] e pos) (Ux te g):=by
 intro pins s σ H D I h;refine wpAny_Assign_stores (thn (he pins s σ H _ I h) λv s1 ⟨x,H1,I1,r1,q1⟩=>?_) hs hw;rw[h1];exact thn (hg pins s1 σ H1 x v _ I1 r1 q1) λ_ s2 q=>q
theorem Na{i:Nat}{x:Str}{e:Expr}{te:TE}{kQ:Pos}(hN:X.N.Nodup)(hi:X.N[i]?=some x)(hx:Loc X.env.scope x)(he:PE X e te)(hs:swapsWith e (some (.Name x kQ)) pos.line X.env=pure false:=by rfl)(hf:X.fn x=true\/X.env.scope.names.lookup x=some .local:=by first|exact .inl rfl|exact .inr rfl|assumption):
  PS X (.Assign [.Name x kQ] e pos) (Ux te (ik i)):=by
 intro pins s σ H D I h;refine wpAny_Assign_Name (thn (he pins s σ H _ I h) λv s1 ⟨y,H1,I1,r1,q1⟩=>?_) hs;exact mi I1 hN hi hx r1 (λs2 I2=>⟨_,H1,I2,q1⟩) hf
end
section
variable {X:Cx}{pos:Pos}
def U1(c:TT)(tb:TS):TS:=λD σ H=>∃W:Nat->St->Hp->Prop,(∃m,W m σ H)/\∀m σ H,W m σ H ->
 c σ H λb H1=>if b=true then∃N:St->Hp->Prop,(∀σ' H',N σ' H'->∃m',m'<m/\W m' σ' H')/\tb { D with nx:=N,ct:=N,bk:=D.nx } σ H1 else D.nx σ H1
theorem T7{c:Expr}{body:List Stmt}{tc:TT}{tb:TS}(hp:PassesOwn (model X.prog X.w) X.A X.env X.xe)(hc:PT X c tc)(hb:PSs X body tb):PS X (.While c body [] pos) (U1 tc tb):=by
 intro pins s σ H D I h;obtain⟨W,⟨m0,w0⟩,mM⟩:=h;refine wpAny_While (codeAny_whileLoop (λn s'=>∃σ' H',Inv X pins σ' H' s'/\W n σ' H') ?_ m0 ⟨σ,H,I,w0⟩);rintro n s1 ⟨σ1,H1,I1,w1⟩;refine vT hp (thn (hc pins s1 σ1 H1 _ I1 (mM n σ1 H1 w1)) λb s2 ⟨H2,I2,q2⟩=>?_);cases b with
 |true =>
  obtain⟨N,hN,q2⟩:=q2;rw[zH rfl];refine vT hp (thn (hb pins s2 σ1 H2 _ I2 q2) λf s3 q3=>?_);cases f with
  |next =>
   obtain⟨σ3,H3,I3,n3⟩:=q3;obtain⟨m',hm,w3⟩:=hN σ3 H3 n3;exact⟨m',hm,σ3,H3,I3,w3⟩
  |cont =>
   obtain⟨σ3,H3,I3,n3⟩:=q3;obtain⟨m',hm,w3⟩:=hN σ3 H3 n3;exact⟨m',hm,σ3,H3,I3,w3⟩
  |brk=>exact q3
  |ret v=>exact q3
 |false =>
  rw[zK zJ];exact wP ⟨σ1,H2,I2,q2⟩
end
structure It where
 go:Nat->Hp->Prop
 yld:Nat->Hp->V->Hp->Prop
 stop:Nat->Hp->Prop
def qu(X:Cx)(pins:List (Addr×Obj))(H:Hp)(b:Addr):Prop :=
 H b=none/\b≠X.env.locals/\b∉X.fs/\(b∈X.ex\/X.s₀.heap.objs.size<=b)/\(∀x c,X.env.cells.lookup x=some c->c≠b)/\∀p∈X.pn++pins,p.1≠b
theorem Inv.fpOk{X:Cx}{pins:List (Addr×Obj)}{σ:St}{H H':Hp}{s:Shared}{b:Addr}(I:Inv X pins σ H s)(hb:s.heap.objs.size<=b)(hn:H' b=none):qu X pins H' b:=by
 refine⟨hn,wB (zG I.lt hb),I.nofs hb,.inr (yM I.sz hb),λx c e z=>?_,λp hp z=>?_⟩
 ·obtain⟨v,q⟩:=I.cell x c e;exact absurd (zG q.lt (by rw[z];exact hb)) (xA _)
 ·exact absurd (zG (zU (I.pin p hp).1) (by rw[z];exact hb)) (xA _)
structure d4(P:Program)(w:World)(K:W.Frag)(tg:Expr)(J:It)(fp:List Addr)(it:Addr)(tn:Nat->Heap->Prop):Prop where
 mem:it∈fp
 obj:∀i h,tn i h->∀b∈fp,∃o,h.get? b=some o/\∀v,o.data≠.cell v
 keep:∀i h h',tn i h->(∀b∈fp,∀o,h.get? b=some o->h'.get? b=some o)->tn i h'
 item:∀(X:Cx),X.prog=P->X.w=w->X.K=K->X.calm=true->∀(i:Nat)(pins:List (Addr×Obj))(s:Shared)(σ:St)(H:Hp)(E:Value->Shared->Prop),Inv X pins σ H s->(∀b∈fp,qu X pins H b)->tn i s.heap->J.go i H ->
  wpAny (model P w) X.A (pyNext (.ref it)) (λr s1=>∃u,r=some u /\
   wpAny (model P w) X.A (letOwnedTupleGo tg (.ref it) u) (λ_ s2=>∃x H',Inv X pins σ H' s2/\RelV x u/\J.yld i H x H'/\tn (i+1) s2.heap/\∀b∈fp,H' b=none) E s1) E s
 done:∀(X:Cx),X.prog=P->X.w=w->X.K=K->X.calm=true->∀(i:Nat)(pins:List (Addr×Obj))(s:Shared)(σ:St)(H:Hp)(E:Value->Shared->Prop),Inv X pins σ H s->(∀b∈fp,qu X pins H b)->tn i s.heap->J.stop i H ->
  wpAny (model P w) X.A (pyNext (.ref it)) (λr s1=>r=none/\Inv X pins σ H s1) E s
 self:∀(A:Around)(i:Nat)(s:Shared)(Q:Value->Shared->Prop)(E:Value->Shared->Prop),tn i s.heap->Q (.ref it) s->wpAny (model P w) A (pyIter (.ref it)) Q E s
abbrev TI:=St->Hp->(It->Hp->Prop)->Prop
def PIE(X:Cx)(pins:List (Addr×Obj))(σ:St)(tg:Expr)(R:It->Hp->Prop)(SK:Value)(s2:Shared):Prop :=
 ∃(it:Addr)(fp:List Addr)(tn:Nat->Heap->Prop)(J:It)(H':Hp),SK = .ref it/\Inv X pins σ H' s2/\d4 X.prog X.w X.K tg J fp it tn/\tn 0 s2.heap/\(∀b∈fp,qu X pins H' b)/\R J H'
def PI(X:Cx)(tg iter:Expr)(wi:TI):Prop :=
 ∀(pins:List (Addr×Obj))(s:Shared)(σ:St)(H:Hp)(R:It->Hp->Prop),Inv X pins σ H s->wi σ H R ->
  wpAny (model X.prog X.w) X.A (eval iter X.env) (λv s1=>wpAny (model X.prog X.w) X.A (pyIter v) (PIE X pins σ tg R) X.xe s1) X.xe s
theorem bf{M:Model}{A:Around}{E:Value->Shared->Prop}{s:Shared}{tg:Expr}{it:Addr}{u:Value}{o:Obj}{n:String}{vs:Array Value}{Q:Unit->Shared->Prop}(ho:s.heap.get? it=some o)(hc:o.cls = .type n)(hd:o.data = .fields vs)
  (hn:["enumerate","zip","dict_itemiterator","dict_reverseitemiterator","odict_iterator","itertools.zip_longest","itertools.pairwise"].contains n=false) (hQ:Q () s):wpAny M A (letOwnedTupleGo tg (.ref it) u) Q E s:=by
 unfold letOwnedTupleGo;cases tg<;>first
  |exact zW hQ
  |(cases u<;>first
    |exact zW hQ
    |(refine zZ (wpAny_load ho ?_);rw[hc,hd];show wpAny M A (if(["enumerate","zip","dict_itemiterator","dict_reverseitemiterator","odict_iterator","itertools.zip_longest","itertools.pairwise"].contains n&&vs[0]?==some (rawInt _))=true then _ else _) Q E s;rw[zK (by intro h;rw[hn,Bool.false_and]at h;cases h)];exact zW hQ))
def Itl(K:W.Frag)(a:Addr):It :=
 ⟨λi H=>∃xs x,SqL K H a xs/\xs[i]?=some x,λi H x H'=>H'=H/\∀xs,SqL K H a xs->xs[i]?=some x,λi H=>∃xs,SqL K H a xs/\xs.length<=i⟩
def Itt(K:W.Frag)(a:Addr):It :=
 ⟨λi H=>∃xs x,SqT K H a xs/\xs[i]?=some x,λi H x H'=>H'=H/\∀xs,SqT K H a xs->xs[i]?=some x,λi H=>∃xs,SqT K H a xs/\xs.length<=i⟩
def Itr(lo:Int)(n:Nat):It:=⟨λi _=>i<n,λi H x H'=>H'=H/\x = .int (lo+i),λi _=>n<=i⟩
theorem W4{P:Program}{w:World}{K:W.Frag}{tg:Expr}(a it:Addr):d4 P w K tg (Itl K a) [it] it (λi h=>h.IsListIter it a i)where
 mem:=by simp
 obj:=λi h st b hb=>by
  have e:b=it:=by simpa using hb
  subst e;obtain⟨o,e,c,d⟩:=st;exact⟨o,e,λv z=>by rw[d]at z;cases z⟩
 keep:=λi h h' st k=>st.at λo e=>k it (by simp) o e
 item:=by
  intro X hP hw hK hc i pins s σ H E I hf st hg;subst hP hw hK;obtain⟨xs,x,hq,hx⟩:=hg;obtain⟨aH,rv,p,hz⟩:=I.list hq;obtain⟨u,hu,ru⟩:=rv.get hx;obtain⟨f0,f1,f2,f3,f4,f5⟩:=hf it (by simp);refine wpAny_pyNext_list_item st p.isList (x:=u) (by simpa using hu) λh' kE sb=>?_;have I1:Inv X pins σ H { s with heap:=h' }:=I.turned (t':=s.toks) (λb o hb e=>(sb.2 b hb).trans e) f0 f1 f3 f4 f5;obtain⟨o,e,c,d⟩:=id kE;exact⟨u,rfl,bf (s:={ s with heap:=h' }) e c d (by decide) ⟨x,H,I1,ru,⟨rfl,λys hy=>by rw[I.list_inj hy hq];exact hx⟩,kE,λb hb=>(hf b hb).1⟩⟩
 done:=by
  intro X hP hw hK hc i pins s σ H E I hf st hg;subst hP hw hK;obtain⟨xs,hq,hx⟩:=hg;obtain⟨aH,rv,p,hz⟩:=I.list hq;obtain⟨f0,f1,f2,f3,f4,f5⟩:=hf it (by simp);have hl:=rv.length;exact wpAny_pyNext_list_end (I.ok.hd hc) st p.isList (by simp;lia) λh' eb=>⟨rfl,I.turned (t':=s.toks) (λb o hb e=>eb b o hb e) f0 f1 f3 f4 f5⟩
 self:=λ_ _ _ _ _ st h=>wpAny_pyIter_listiter st h
theorem ak{P:Program}{w:World}{K:W.Frag}{tg:Expr}(a it:Addr):d4 P w K tg (Itt K a) [it] it (λi h=>h.IsTupleIter it a i)where
 mem:=by simp
 obj:=λi h st b hb=>by
  have e:b=it:=by simpa using hb
  subst e;obtain⟨o,e,c,d⟩:=st;exact⟨o,e,λv z=>by rw[d]at z;cases z⟩
 keep:=λi h h' st k=>st.at λo e=>k it (by simp) o e
 item:=by
  intro X hP hw hK hc i pins s σ H E I hf st hg;subst hP hw hK;obtain⟨xs,x,hq,hx⟩:=hg;obtain⟨aH,rv,p,hz⟩:=I.tuple hq;obtain⟨u,hu,ru⟩:=rv.get hx;obtain⟨f0,f1,f2,f3,f4,f5⟩:=hf it (by simp);refine wpAny_pyNext_tuple_item st (show s.heap.IsTuple a aH.toArray from p) (x:=u) (by simpa using hu) λh' kE sb=>?_;have I1:Inv X pins σ H { s with heap:=h' }:=I.turned (t':=s.toks) (λb o hb e=>(sb.2 b hb).trans e) f0 f1 f3 f4 f5;obtain⟨o,e,c,d⟩:=id kE;exact⟨u,rfl,bf (s:={ s with heap:=h' }) e c d (by decide) ⟨x,H,I1,ru,⟨rfl,λys hy=>by rw[I.tuple_inj hy hq];exact hx⟩,kE,λb hb=>(hf b hb).1⟩⟩
 done:=by
  intro X hP hw hK hc i pins s σ H E I hf st hg;subst hP hw hK;obtain⟨xs,hq,hx⟩:=hg;obtain⟨aH,rv,p,hz⟩:=I.tuple hq;obtain⟨f0,f1,f2,f3,f4,f5⟩:=hf it (by simp);have hl:=rv.length;exact wpAny_pyNext_tuple_end (I.ok.hd hc) st (show s.heap.IsTuple a aH.toArray from p) (by simp;lia) λh' eb=>⟨rfl,I.turned (t':=s.toks) (λb o hb e=>eb b o hb e) f0 f1 f3 f4 f5⟩
 self:=λ_ _ _ _ _ st h=>wpAny_pyIter_tupleiter st h
theorem aj{P:Program}{w:World}{K:W.Frag}{tg:Expr}(it:Addr)(lo:Int)(n:Nat):d4 P w K tg (Itr lo n) [it] it (λi h=>IsRangeIter h it (lo+(i:Nat)*1) ((n:Int)-(i:Nat)) 1)where
 mem:=by simp
 obj:=λi h st b hb=>by
  have e:b=it:=by simpa using hb
  subst e;exact⟨_,st,λv z=>by
   have z':Data.fields _=Data.cell v:=z;cases z'⟩
 keep:=λi h h' st k=>k it (by simp) _ st
 item:=by
  intro X hP hw hK hc i pins s σ H E I hf st hg;subst hP hw hK;obtain⟨f0,f1,f2,f3,f4,f5⟩:=hf it (by simp);have W:=Walks.range (prog:=X.prog) (w:=X.w) (I.ok.hd hc) it lo 1 n;refine W.item i s _ _ hg st λv h' tk hv kE kk=>?_;obtain⟨t,rfl⟩:=hv;have I1:Inv X pins σ H { s with heap:=h',toks:=tk }:=I.turned (λb o hb e=>kk b o (by simpa using hb) e) f0 f1 f3 f4 f5;refine⟨_,rfl,bf (s:={ s with heap:=h',toks:=tk }) (n:="range_iterator") kE rfl rfl (by decide) ⟨.int (lo+i),H,I1,⟨t,?_⟩,⟨rfl,rfl⟩,kE,λb hb=>(hf b hb).1⟩⟩;rw[Int.mul_one]
 done:=by
  intro X hP hw hK hc i pins s σ H E I hf st hg;subst hP hw hK;obtain⟨f0,f1,f2,f3,f4,f5⟩:=hf it (by simp);exact wpAny_pyNext_range_end (I.ok.hd hc) st (by have:n<=i:=hg;lia) λh' eb=>⟨rfl,I.turned (t':=s.toks) (λb o hb e=>eb b o hb e) f0 f1 f3 f4 f5⟩
 self:=λ_ _ _ _ _ st h=>wpAny_pyIter_rangeiter st h
end L2
namespace L2
open PySem PySem.Spec PyProof.Rows
section
variable {X:Cx}{tg:Expr}
theorem Ub{pins:List (Addr×Obj)}{σ:St}{H:Hp}{s:Shared}{R:It->Hp->Prop}{E:Value->Shared->Prop}{lo hi:Int}{t u v:Tok}{tk:Nat}(I:Inv X pins σ H s)(h1:-(2 ^ 62)<=lo)(h2:lo<2 ^ 62)(h3:-(2 ^ 62)<=hi)(h4:hi<2 ^ 62)
  (q:R (Itr lo (hi-lo).toNat) H):wpAny (model X.prog X.w) X.A (pyIter (.ref s.heap.objs.size)) (PIE X pins σ tg R) E { s with heap:=s.heap.push { cls:=.type "range",data:=.fields #[.int lo t,.int hi u,.int 1 v] },toks:=tk }:=by
 refine wpAny_pyIter_range (IsRange.new ..) (small_one h1 h2 h3 h4) ?_;have I1:Inv X pins σ H { s with heap:=s.heap.push { cls:=.type "range",data:=.fields #[.int lo t,.int hi u,.int 1 v] },toks:=tk }:=I.kept λb o e=>zY _ e;refine⟨(s.heap.push { cls:=.type "range",data:=.fields #[.int lo t,.int hi u,.int 1 v] }).objs.size,[(s.heap.push { cls:=.type "range",data:=.fields #[.int lo t,.int hi u,.int 1 v] }).objs.size],_,_,H,rfl,
  I1.kept (t':=tk) λb o e=>zY _ e,aj _ lo (hi-lo).toNat,?_,λb hb=>?_,q⟩
 ·have e1:lo+((0:Nat):Int)*1=lo:=by simp
  have e2:(((hi-lo).toNat:Nat):Int)-((0:Nat):Int)=Builtin.Range.rangeSize lo hi 1:=by rw[rangeSize_one];split<;>lia
  show IsRangeIter _ _ (lo+((0:Nat):Int)*1) ((((hi-lo).toNat:Nat):Int)-((0:Nat):Int)) 1;rw[e1,e2];exact zR _ rfl
 ·have e:b=(s.heap.push { cls:=.type "range",data:=.fields #[.int lo t,.int hi u,.int 1 v] }).objs.size:=by simpa using hb
  subst e;exact I1.fpOk (zT _) (I1.hok.fresh (zT _))
def G1(wi:TI)(g:TG)(tb:TS):TS:=λD σ H=>wi σ H λJ H1=>∃W:Nat->Nat->St->Hp->Prop,(∃m,W 0 m σ H1)/\∀i m σ H,W i m σ H ->
 (J.stop i H/\D.nx σ H)\/(J.go i H/\∃N:St->Hp->Prop,(∀σ' H',N σ' H'->∃m',m'<m/\W (i+1) m' σ' H')/\∀x H',J.yld i H x H'->g x σ H' fun σ2 H2=>tb { D with nx:=N,ct:=N,bk:=D.nx } σ2 H2)
def re(fp:List Addr)(h:Heap):List (Addr×Obj):=fp.filterMap λb=>(h.get? b).map λo=>(b,o)
theorem wb{fp:List Addr}{h:Heap}{b:Addr}{o:Obj}(hb:b∈fp)(e:h.get? b=some o):(b,o)∈re fp h:=List.mem_filterMap.mpr ⟨b,hb,by rw[e];rfl⟩
theorem Wi{fp:List Addr}{h:Heap}{p:Addr×Obj}(hp:p∈re fp h):p.1∈fp/\h.get? p.1=some p.2:=by
 obtain⟨b,hb,e⟩:=List.mem_filterMap.mp hp;cases q:h.get? b with
 |none=>rw[q]at e;cases e
 |some o =>
  rw[q]at e;have e':(b,o)=p:=yX e;subst e';exact⟨hb,q⟩
theorem Inv.pinned{pins:List (Addr×Obj)}{σ:St}{H:Hp}{s:Shared}{fp:List Addr}(I:Inv X pins σ H s)(hf:∀b∈fp,qu X pins H b)(ho:∀b∈fp,∃o,s.heap.get? b=some o/\∀v,o.data≠.cell v):Inv X (pins++re fp s.heap) σ H s :=
 I.pins_of λp hp=>(zP.mp hp).elim (λz=>I.pin p (zF _ z)) λz=>by
  obtain⟨hb,e⟩:=Wi z;obtain⟨f0,f1,f2,_⟩:=hf p.1 hb;obtain⟨o,e',d⟩:=ho p.1 hb;rw[e]at e';cases e';exact⟨e,f0,f1,f2,d⟩
theorem Inv.unpinned{pins pl:List (Addr×Obj)}{σ:St}{H:Hp}{s:Shared}(I:Inv X (pins++pl) σ H s):Inv X pins σ H s:=I.pins_of λp hp=>I.pin p (zF _ (yH _ hp))
theorem M8{iter:Expr}{body:List Stmt}{wi:TI}{g:TG}{tb:TS}{pos:Pos}(hp:PassesOwn (model X.prog X.w) X.A X.env X.xe)(hc:X.calm=true)(hi:PI X tg iter wi)(hg:PG X tg g)(hb:PSs X body tb)
  (hs:∀x,foldedSetIterable iter X.env x=pure x:=by intro _;rfl):PS X (.For tg iter body [] pos) (G1 wi g tb):=by
 intro pins s σ H D I h;refine wpAny_For (thn (hi pins s σ H _ I h) λv s1 h1=>thn h1 λSK s2 h2=>?_) hs;obtain⟨it,fp,tn,J,H2,e,I2,T,DM,f2,W,⟨m0,w0⟩,mM⟩:=h2;subst e;have rS:∀{H':Hp},(∀b∈fp,H' b=none)->∀b∈fp,qu X pins H' b:=λhn b hb=>⟨hn b hb,(f2 b hb).2⟩
 refine codeAny_forLoop_any (λn s'=>∃i σ' H',Inv X pins σ' H' s'/\tn i s'.heap/\(∀b∈fp,H' b=none)/\W i n σ' H') ?_ m0 ⟨0,σ,H2,I2,DM,λb hb=>(f2 b hb).1,w0⟩;rintro n s3 ⟨i,σ3,H3,I3,GA,UJ,w3⟩;rcases mM i n σ3 H3 w3 with⟨stop,qn⟩|⟨go,N,hN,step⟩
 ·refine vT hp (thn (T.done X rfl rfl rfl hc i pins s3 σ3 H3 X.xe I3 (rS UJ) GA stop) λr s4 ⟨hr,I4⟩=>?_);subst hr;exact wP ⟨σ3,H3,I4,qn⟩
 ·refine vT hp (thn (T.item X rfl rfl rfl hc i pins s3 σ3 H3 X.xe I3 (rS UJ) GA go) λr s4 ⟨u,hr,h4⟩=>?_);subst hr;refine vT hp (thn h4 λ_ s5 ⟨x,H5,I5,r5,y5,BM,FV⟩=>?_);have I5':=I5.pinned (rS FV) (T.obj _ _ BM);refine vT hp (thn (hg _ s5 σ3 H5 x u _ I5' r5 (step x H5 y5)) λ_ s6 ⟨σ6,H6,I6,q6⟩=>?_);refine vT hp (thn (hb _ s6 σ6 H6 _ I6 q6) λf s7 q7=>?_);have again:∀{σ7:St}{H7:Hp},Inv X (pins++re fp s5.heap) σ7 H7 s7->N σ7 H7->∃m,m<n/\∃i σ' H',Inv X pins σ' H' s7/\tn i s7.heap/\(∀b∈fp,H' b=none)/\W i m σ' H':=λ{σ7 H7} I7 n7=>by
   obtain⟨m',hm,w7⟩:=hN σ7 H7 n7;refine⟨m',hm,i+1,σ7,H7,I7.unpinned,T.keep _ _ _ BM λb hb o e=>(I7.pin (b,o) (zF _ (zF _ (wb hb e)))).1,λb hb=>?_,w7⟩;obtain⟨o,e,d⟩:=T.obj _ _ BM b hb;exact(I7.pin (b,o) (zF _ (zF _ (wb hb e)))).2.1
  cases f with
  |next=>obtain⟨σ7,H7,I7,n7⟩:=q7;exact again I7 n7
  |cont=>obtain⟨σ7,H7,I7,n7⟩:=q7;exact again I7 n7
  |brk=>obtain⟨σ7,H7,I7,q7⟩:=q7;exact⟨σ7,H7,I7.unpinned,q7⟩
  |ret v=>obtain⟨x7,σ7,H7,I7,r7,q7⟩:=q7;exact⟨x7,σ7,H7,I7.unpinned,r7,q7⟩
end
theorem R3{K:W.Frag}{a:Addr}{xs:List V}{g:TG}{tb:TS}{D:ue}{σ:St}{H:Hp}(Pv:Nat->St->Hp->Prop)(h0:Pv 0 σ H)(hl:∀i σ H,i<=xs.length->Pv i σ H->SqL K H a xs)
  (hs:∀i x σ H,xs[i]?=some x->Pv i σ H->g x σ H fun σ2 H2=>tb { D with nx:=Pv (i+1),ct:=Pv (i+1),bk:=D.nx } σ2 H2) (hd:∀σ H,Pv xs.length σ H->D.nx σ H) :
  ∃W:Nat->Nat->St->Hp->Prop,(∃m,W 0 m σ H)/\∀i m σ H,W i m σ H ->
   ((Itl K a).stop i H/\D.nx σ H)\/((Itl K a).go i H/\∃N:St->Hp->Prop,(∀σ' H',N σ' H'->∃m',m'<m/\W (i+1) m' σ' H')/\∀x H',(Itl K a).yld i H x H'->g x σ H' fun σ2 H2=>tb { D with nx:=N,ct:=N,bk:=D.nx } σ2 H2):=by
 refine⟨λi m σ H=>m=xs.length-i/\i<=xs.length/\Pv i σ H,⟨xs.length,by simp,yV _,h0⟩,?_⟩;rintro i m σ H ⟨rfl,hi,p⟩;have q:=hl i σ H hi p
 by_cases bE:i<xs.length
 ·refine .inr ⟨⟨xs,xs[i],q,by simp[bE]⟩,Pv (i+1),fun σ' H' p'=>⟨xs.length-(i+1),by lia,rfl,bE,p'⟩,λx H' y=>?_⟩;obtain⟨e,y⟩:=y;subst e;exact hs i x σ _ (y xs q) p
 ·have e:i=xs.length:=by lia
  subst e;exact .inl ⟨⟨xs,q,zT _⟩,hd σ H p⟩
theorem Pi{K:W.Frag}{a:Addr}{xs:List V}{g:TG}{tb:TS}{D:ue}{σ:St}{H:Hp}(Pv:Nat->St->Hp->Prop)(h0:Pv 0 σ H)(hl:∀i σ H,i<=xs.length->Pv i σ H->SqT K H a xs)
  (hs:∀i x σ H,xs[i]?=some x->Pv i σ H->g x σ H fun σ2 H2=>tb { D with nx:=Pv (i+1),ct:=Pv (i+1),bk:=D.nx } σ2 H2) (hd:∀σ H,Pv xs.length σ H->D.nx σ H) :
  ∃W:Nat->Nat->St->Hp->Prop,(∃m,W 0 m σ H)/\∀i m σ H,W i m σ H ->
   ((Itt K a).stop i H/\D.nx σ H)\/((Itt K a).go i H/\∃N:St->Hp->Prop,(∀σ' H',N σ' H'->∃m',m'<m/\W (i+1) m' σ' H')/\∀x H',(Itt K a).yld i H x H'->g x σ H' fun σ2 H2=>tb { D with nx:=N,ct:=N,bk:=D.nx } σ2 H2):=by
 refine⟨λi m σ H=>m=xs.length-i/\i<=xs.length/\Pv i σ H,⟨xs.length,by simp,yV _,h0⟩,?_⟩;rintro i m σ H ⟨rfl,hi,p⟩;have q:=hl i σ H hi p
 by_cases bE:i<xs.length
 ·refine .inr ⟨⟨xs,xs[i],q,by simp[bE]⟩,Pv (i+1),fun σ' H' p'=>⟨xs.length-(i+1),by lia,rfl,bE,p'⟩,λx H' y=>?_⟩;obtain⟨e,y⟩:=y;subst e;exact hs i x σ _ (y xs q) p
 ·have e:i=xs.length:=by lia
  subst e;exact .inl ⟨⟨xs,q,zT _⟩,hd σ H p⟩
theorem Vs{lo:Int}{n:Nat}{g:TG}{tb:TS}{D:ue}{σ:St}{H:Hp}(Pv:Nat->St->Hp->Prop)(h0:Pv 0 σ H)
  (hs:∀i σ H,i<n->Pv i σ H->g (.int (lo+i)) σ H fun σ2 H2=>tb { D with nx:=Pv (i+1),ct:=Pv (i+1),bk:=D.nx } σ2 H2) (hd:∀σ H,Pv n σ H->D.nx σ H) :
  ∃W:Nat->Nat->St->Hp->Prop,(∃m,W 0 m σ H)/\∀i m σ H,W i m σ H ->
   ((Itr lo n).stop i H/\D.nx σ H)\/((Itr lo n).go i H/\∃N:St->Hp->Prop,(∀σ' H',N σ' H'->∃m',m'<m/\W (i+1) m' σ' H')/\∀x H',(Itr lo n).yld i H x H'->g x σ H' fun σ2 H2=>tb { D with nx:=N,ct:=N,bk:=D.nx } σ2 H2):=by
 refine⟨λi m σ H=>m=n-i/\i<=n/\Pv i σ H,⟨n,by simp,yV _,h0⟩,?_⟩;rintro i m σ H ⟨rfl,hi,p⟩
 by_cases bE:i<n
 ·refine .inr ⟨bE,Pv (i+1),fun σ' H' p'=>⟨n-(i+1),by lia,rfl,bE,p'⟩,λx H' y=>?_⟩;obtain⟨e,y⟩:=y;subst e y;exact hs i σ _ bE p
 ·have e:i=n:=by lia
  subst e;exact .inl ⟨zT _,hd σ H p⟩
end L2
namespace L2
open PySem PySem.Spec PyProof.Rows
abbrev R2:=V->V->Hp->VK->Prop
def OpR(X:Cx)(f:Value->Value->Sem Value)(r:R2):Prop :=
 ∀(pins:List (Addr×Obj))(s:Shared)(σ:St)(H:Hp)(x y:V)(v u:Value)(Q:VK),Inv X pins σ H s->RelV x v->RelV y u->r x y H Q ->
  wpAny (model X.prog X.w) X.A (f v u) (EP X pins σ Q) X.xe s
def wv(X:Cx)(f:Value)(r:List V->Hp->VK->Prop):Prop :=
 ∀(pins:List (Addr×Obj))(s:Shared)(σ:St)(H:Hp)(xs:List V)(us:List Value)(Q:VK),Inv X pins σ H s->Vals xs us->r xs H Q ->
  wpAny (model X.prog X.w) X.A (call f us) (EP X pins σ Q) X.xe s
def tOp(r:R2)(ta tb:TE):TE:=fun σ H Q=>ta σ H λx H1=>tb σ H1 λy H2=>r x y H2 Q
def rI(C:Int->Int->Prop)(g:Int->Int->V):R2:=λx y H Q=>∃i j,x = .int i/\y = .int j/\C i j/\Q (g i j) H
def rI0(g:Int->Int->V):R2:=λx y H Q=>∃i j,x = .int i/\y = .int j/\Q (g i j) H
section
variable {X:Cx}{a b c:Expr}{ta tb tc:TE}{pos:Pos}
theorem Ln(ha:PE X a ta)(hb:PE X b tb){pins:List (Addr×Obj)}{s:Shared}{σ:St}{H:Hp}{R:V->V->Hp->Prop}(I:Inv X pins σ H s)
  (h:ta σ H λx H1=>tb σ H1 λy H2=>R x y H2) {Q:Value->Shared->Prop}{f:Value->Value->Sem Value}
  (hf:∀v u s2 x y H2,Inv X pins σ H2 s2->RelV x v->RelV y u->R x y H2->wpAny (model X.prog X.w) X.A (f v u) Q X.xe s2) :
  wpAny (model X.prog X.w) X.A (eval a X.env) (λv s₁=>wpAny (model X.prog X.w) X.A (eval b X.env) (λu s₂=>wpAny (model X.prog X.w) X.A (f v u) Q X.xe s₂) X.xe s₁) X.xe s:=by
 refine thn (ha pins s σ H _ I h) λv s1 ⟨x,H1,I1,r1,q1⟩=>?_;refine thn (hb pins s1 σ H1 _ I1 q1) λu s2 ⟨y,H2,I2,r2,q2⟩=>?_;exact hf v u s2 x y H2 I2 r1 r2 q2
theorem zn{op:Operator}{r:R2}(ho:OpR X (binaryOp op) r)(ha:PE X a ta)(hb:PE X b tb):PE X (.BinOp a op b pos) (tOp r ta tb):=by
 intro pins s σ H Q I h;exact wpAny_BinOp (Ln ha hb I h λv u s2 x y H2 I2 rx ry q=>ho pins s2 σ H2 x y v u Q I2 rx ry q)
theorem opI{f:Value->Value->Sem Value}{C:Int->Int->Prop}{g:Int->Int->Int}
  (rule:∀(i j:Int)(t u:Tok)(s:Shared)(Q:Value->Shared->Prop)(E:Value->Shared->Prop),C i j->Q (.int (g i j) s.toks) { s with toks:=s.toks+1 }->wpAny (model X.prog X.w) X.A (f (.int i t) (.int j u)) Q E s) :
  OpR X f (rI C λi j=>.int (g i j)):=by
 intro pins s σ H x y v u Q I rx ry h;obtain⟨i,j,rfl,rfl,hc,q⟩:=h;obtain⟨t,rfl⟩:=rx;obtain⟨t',rfl⟩:=ry;exact rule i j t t' s _ _ hc ⟨.int (g i j),H,I.tok _,⟨_,rfl⟩,q⟩
theorem Jq{f:Value->Value->Sem Value}{g:Int->Int->Int}
  (rule:∀(i j:Int)(t u:Tok)(s:Shared)(Q:Value->Shared->Prop)(E:Value->Shared->Prop),Q (.int (g i j) s.toks) { s with toks:=s.toks+1 }->wpAny (model X.prog X.w) X.A (f (.int i t) (.int j u)) Q E s) :
  OpR X f (rI0 λi j=>.int (g i j)):=by
 intro pins s σ H x y v u Q I rx ry h;obtain⟨i,j,rfl,rfl,q⟩:=h;obtain⟨t,rfl⟩:=rx;obtain⟨t',rfl⟩:=ry;exact rule i j t t' s _ _ ⟨.int (g i j),H,I.tok _,⟨_,rfl⟩,q⟩
theorem Mr{f:Value->Value->Sem Value}{g:Int->Int->Bool}
  (rule:∀(i j:Int)(t u:Tok)(s:Shared)(Q:Value->Shared->Prop)(E:Value->Shared->Prop),Q (.bool (g i j)) s->wpAny (model X.prog X.w) X.A (f (.int i t) (.int j u)) Q E s) :
  OpR X f (rI0 λi j=>.bl (g i j)):=by
 intro pins s σ H x y v u Q I rx ry h;obtain⟨i,j,rfl,rfl,q⟩:=h;obtain⟨t,rfl⟩:=rx;obtain⟨t',rfl⟩:=ry;exact rule i j t t' s _ _ ⟨.bl (g i j),H,I,rfl,q⟩
def G4(i j:Int):Prop:=0<j/\j<1073741824
def Li(i j:Int):Prop:=0<=j/\j<=1000000/\i.natAbs<2 ^ 64
def CMul(i j:Int):Prop:=(-(2 ^ 64)<i/\i<2 ^ 64)\/(-(2 ^ 64)<j/\j<2 ^ 64)
theorem CMul.ok{i j:Int}(h:CMul i j):IntMulOk i j:=by
 rcases h with⟨h1,h2⟩|⟨h1,h2⟩
 ·exact .of_left (intBits_le_64 h1 h2)
 ·exact .of_right (intBits_le_64 h1 h2)
theorem Ms:OpR X (binaryOp .Add) (rI0 λi j=>.int (i+j)):=Jq λ_ _ _ _ _ _ _ q=>add_int q
theorem Mx:OpR X (binaryOp .Sub) (rI0 λi j=>.int (i-j)):=Jq λ_ _ _ _ _ _ _ q=>sub_int q
theorem Mv:OpR X (binaryOp .Mult) (rI CMul λi j=>.int (i*j)):=opI λ_ _ _ _ _ _ _ hc q=>mul_int q hc.ok
theorem Qf:OpR X (binaryOp .FloorDiv) (rI G4 λi j=>.int (i / j)):=opI λi j _ _ _ _ _ hc q=>by
 have h1:(0:Int)<j:=hc.1;have h2:j<1073741824:=hc.2;exact floordiv_int (by lia) (by rw[Int.fdiv_eq_ediv_of_nonneg i (by lia)];exact q) (.inl (PyProof.noPylong_small (by lia)))
theorem Mu:OpR X (binaryOp .Mod) (rI (λ_ j=>0<j) λi j=>.int (i % j)):=opI λi j _ _ _ _ _ hc q=>by
 have h1:(0:Int)<j:=hc;exact mod_int' (by lia) (by rw[Int.fmod_eq_emod_of_nonneg i (by lia)];exact q)
theorem Mw:OpR X (binaryOp .Pow) (rI Li λi j=>.int (i ^ j.toNat)):=opI λ_ _ _ _ _ _ _ hc q=>pow_int_small hc.1 hc.2.1 hc.2.2 q
end
def Nv:V->V->Bool
 | .non,.non=>true|.non,.int _=>true|.int _,.non=>true|.non,.bl _=>true|.bl _,.non=>true|.non,.str _=>true|.str _,.non=>true
 | .int _,.int _=>true|.bl _,.bl _=>true|.str _,.str _=>true|.byt _,.byt _=>true
 | .int _,.str _=>true|.str _,.int _=>true|.bl _,.str _=>true|.str _,.bl _=>true
 |_,_=>false
def rEq:R2:=λx y H Q=>Nv x y=true/\Q (.bl (decide (x=y))) H
def rNe:R2:=λx y H Q=>Nv x y=true/\Q (.bl (!decide (x=y))) H
theorem Xi{i j:Int}:decide (V.int i=V.int j)=(i==j):=by
 rw[uX];simp
theorem Rx{i j:Bool}:decide (V.bl i=V.bl j)=(i==j):=by
 rw[uX];simp
theorem Xj{i j:Str}:decide (V.str i=V.str j)=(i==j):=by
 rw[uX];simp
theorem Xh{i j:Array UInt8}:decide (V.byt i=V.byt j)=(i.toList==j.toList):=by
 rw[uX];cases i;cases j;simp
section
variable {X:Cx}{a b c:Expr}{ta tb tc:TE}{pos:Pos}
theorem y6{pins:List (Addr×Obj)}{σ:St}{H:Hp}{s:Shared}{Q:VK}{k k':Bool}(I:Inv X pins σ H s)(q:Q (.bl k) H)(e:k=k'):EP X pins σ Q (.bool k') s:=by
 subst e;exact⟨.bl k,H,I,rfl,q⟩
theorem Jr:OpR X (compareOp .Eq) rEq:=by
 intro pins s σ H x y v u Q I rx ry h;obtain⟨hs,q⟩:=h;cases x with
 |non =>
  cases rx;cases y with
  |non=>cases ry;exact PySem.EqNone.eq_none_none (y6 I q (by simp))
  |bl j=>cases ry;exact PySem.EqNone.eq_none_bool (y6 I q (by simp))
  |int j=>obtain⟨t',rfl⟩:=ry;exact PySem.EqNone.eq_none_int (y6 I q (by simp))
  |str j=>obtain⟨t',rfl⟩:=ry;exact PySem.EqNone.eq_none_str (y6 I q (by simp))
  |_=>exact absurd (show false=true from hs) zJ
 |bl i =>
  cases rx;cases y with
  |non=>cases ry;exact PySem.EqNone.eq_bool_none (y6 I q (by simp))
  |bl j=>cases ry;exact eq_bool (y6 I q Rx)
  |str j=>obtain⟨t',rfl⟩:=ry;exact PySem.EqMixed.eq_bool_str (y6 I q (by simp))
  |_=>exact absurd (show false=true from hs) zJ
 |int i =>
  obtain⟨t,rfl⟩:=rx;cases y with
  |non=>cases ry;exact PySem.EqNone.eq_int_none (y6 I q (by simp))
  |int j=>obtain⟨t',rfl⟩:=ry;exact eq_int (y6 I q Xi)
  |str j=>obtain⟨t',rfl⟩:=ry;exact PySem.EqMixed.eq_int_str (y6 I q (by simp))
  |_=>exact absurd (show false=true from hs) zJ
 |str i =>
  obtain⟨t,rfl⟩:=rx;cases y with
  |non=>cases ry;exact PySem.EqNone.eq_str_none (y6 I q (by simp))
  |bl j=>cases ry;exact PySem.EqMixed.eq_str_bool (y6 I q (by simp))
  |int j=>obtain⟨t',rfl⟩:=ry;exact PySem.EqMixed.eq_str_int (y6 I q (by simp))
  |str j=>obtain⟨t',rfl⟩:=ry;exact eq_str (y6 I q Xj)
  |_=>exact absurd (show false=true from hs) zJ
 |byt i =>
  obtain⟨t,rfl⟩:=rx;cases y with
  |byt j=>obtain⟨t',rfl⟩:=ry;exact W.eq_bytes (y6 I q Xh)
  |_=>exact absurd (show false=true from hs) zJ
 |_=>cases y<;>exact absurd (show false=true from hs) zJ
theorem Jv:OpR X (compareOp .NotEq) rNe:=by
 intro pins s σ H x y v u Q I rx ry h;obtain⟨hs,q⟩:=h;cases x with
 |non =>
  cases rx;cases y with
  |non=>cases ry;exact PySem.EqNone.ne_none_none (y6 I q (by simp))
  |bl j=>cases ry;exact PySem.EqNone.ne_none_bool (y6 I q (by simp))
  |int j=>obtain⟨t',rfl⟩:=ry;exact PySem.EqNone.ne_none_int (y6 I q (by simp))
  |str j=>obtain⟨t',rfl⟩:=ry;exact PySem.EqNone.ne_none_str (y6 I q (by simp))
  |_=>exact absurd (show false=true from hs) zJ
 |bl i =>
  cases rx;cases y with
  |non=>cases ry;exact PySem.EqNone.ne_bool_none (y6 I q (by simp))
  |bl j=>cases ry;exact ne_bool (y6 I q (xT not Rx))
  |str j=>obtain⟨t',rfl⟩:=ry;exact PySem.EqMixed.ne_bool_str (y6 I q (by simp))
  |_=>exact absurd (show false=true from hs) zJ
 |int i =>
  obtain⟨t,rfl⟩:=rx;cases y with
  |non=>cases ry;exact PySem.EqNone.ne_int_none (y6 I q (by simp))
  |int j=>obtain⟨t',rfl⟩:=ry;exact ne_int (y6 I q (xT not Xi))
  |str j=>obtain⟨t',rfl⟩:=ry;exact PySem.EqMixed.ne_int_str (y6 I q (by simp))
  |_=>exact absurd (show false=true from hs) zJ
 |str i =>
  obtain⟨t,rfl⟩:=rx;cases y with
  |non=>cases ry;exact PySem.EqNone.ne_str_none (y6 I q (by simp))
  |bl j=>cases ry;exact PySem.EqMixed.ne_str_bool (y6 I q (by simp))
  |int j=>obtain⟨t',rfl⟩:=ry;exact PySem.EqMixed.ne_str_int (y6 I q (by simp))
  |str j=>obtain⟨t',rfl⟩:=ry;exact ne_str (y6 I q (xT not Xj))
  |_=>exact absurd (show false=true from hs) zJ
 |byt i =>
  obtain⟨t,rfl⟩:=rx;cases y with
  |byt j=>obtain⟨t',rfl⟩:=ry;exact W.ne_bytes (y6 I q (xT not Xh))
  |_=>exact absurd (show false=true from hs) zJ
 |_=>cases y<;>exact absurd (show false=true from hs) zJ
theorem Ju:OpR X (compareOp .Lt) (rI0 λi j=>.bl (decide (i<j))):=Mr λ_ _ _ _ _ _ _ q=>lt_int q
theorem Jt:OpR X (compareOp .LtE) (rI0 λi j=>.bl (decide (i<=j))):=Mr λ_ _ _ _ _ _ _ q=>le_int q
theorem Js:OpR X (compareOp .Gt) (rI0 λi j=>.bl (decide (j<i))):=Mr λ_ _ _ _ _ _ _ q=>gt_int q
theorem zk(b:Expr){op:CmpOp}(h:op≠.In:=by decide)(h2:op≠.NotIn:=by decide):behindInMarks op b=false:=by
 have e1:(op==CmpOp.In)=false:=by cases op<;>first|rfl|exact absurd rfl h
 have e2:(op==CmpOp.NotIn)=false:=by cases op<;>first|rfl|exact absurd rfl h2
 cases b<;>simp[behindInMarks,e1,e2]
theorem xy{op:CmpOp}{r:R2}(ho:OpR X (compareOp op) r)(ha:PE X a ta)(hb:PE X b tb)(hm:behindInMarks op b=false):PE X (.Compare a [op] [b] pos) (tOp r ta tb):=by
 intro pins s σ H Q I h;exact wpAny_Compare1 (Ln ha hb I h λv u s2 x y H2 I2 rx ry q=>ho pins s2 σ H2 x y v u Q I2 rx ry q) hm
theorem pd:(sizeLine:Nat)<2 ^ 63:=by rw[zM];decide
theorem Zr:OpR X (binaryOp .Add) (λx y H Q=>∃i j,x = .str i/\y = .str j/\i.length+j.length<=sizeLine/\Q (.str (i++j)) H):=by
 intro pins s σ H x y v u Q I rx ry h;obtain⟨i,j,rfl,rfl,hz,q⟩:=h;obtain⟨t,rfl⟩:=rx;obtain⟨t',rfl⟩:=ry;exact add_str (λt' tk=>⟨.str (i++j),H,I.tok _,⟨_,rfl⟩,q⟩) hz
theorem vn{x:V}{us:List Value}(r:Vals [x] us):∃u,us=[u]/\RelV x u:=by
 cases r with
 |cons r1 r2=>cases r2;exact⟨_,rfl,r1⟩
theorem ju{x y:V}{us:List Value}(r:Vals [x,y] us):∃u w',us=[u,w']/\RelV x u/\RelV y w':=by
 cases r with
 |cons r1 r2 =>
  cases r2 with
  |cons r3 r4=>cases r4;exact⟨_,_,rfl,r1,r3⟩
theorem Vj(hc:X.calm=true):wv X (.builtin "max") (λxs H Q=>∃i j,xs=[.int i,.int j]/\Q (.int (if j>i then j else i)) H):=by
 intro pins s σ H xs us Q I r h;obtain⟨i,j,rfl,q⟩:=h;obtain⟨u,w',rfl,⟨t,rfl⟩,⟨t',rfl⟩⟩:=ju r;refine max_two_ints (I.ok.hd hc) λh' tk k=>⟨_,H,I.kept k,?_,q⟩
 by_cases hj:j>i
 ·rw[zH hj,zH hj];exact⟨_,rfl⟩
 ·rw[zK hj,zK hj];exact⟨_,rfl⟩
theorem Vk(hc:X.calm=true):wv X (.builtin "min") (λxs H Q=>∃i j,xs=[.int i,.int j]/\Q (.int (if j<i then j else i)) H):=by
 intro pins s σ H xs us Q I r h;obtain⟨i,j,rfl,q⟩:=h;obtain⟨u,w',rfl,⟨t,rfl⟩,⟨t',rfl⟩⟩:=ju r;refine min_two_ints (I.ok.hd hc) λh' tk k=>⟨_,H,I.kept k,?_,q⟩
 by_cases hj:j<i
 ·rw[zH hj,zH hj];exact⟨_,rfl⟩
 ·rw[zK hj,zK hj];exact⟨_,rfl⟩
theorem Vi:wv X (.type "int") (λxs H Q=>(∃i,xs=[.int i]/\Q (.int i) H)\/∃k,xs=[.bl k]/\Q (.int (if k then 1 else 0)) H):=by
 intro pins s σ H xs us Q I r h;rcases h with⟨i,rfl,q⟩|⟨k,rfl,q⟩
 ·obtain⟨u,rfl,t,rfl⟩:=vn r;exact call_int_int ⟨.int i,H,I,⟨_,rfl⟩,q⟩
 ·obtain⟨u,rfl,r1⟩:=vn r;cases r1;exact call_int_bool ⟨.int (if k then 1 else 0),H,I.tok _,⟨_,rfl⟩,q⟩
end
end L2
namespace L2
open PySem PySem.Spec PyProof.Rows
structure ObjM(h:Heap)(x dx C:Addr)(mA:Str->Option Value):Prop where
 obj:h.get? x=some (W.instObj C dx)
 ns:h.Ns1 dx mA
 ne:dx≠x
theorem iu{h:Heap}{dx:Addr}{mA:Str->Option Value}(n:h.Ns1 dx mA):∃od,h.get? dx=some od/\∀name,W.lookIn name od=some (mA name):=by
 obtain⟨o,es,ep,ho,hd,hk,_,hm⟩:=n;refine⟨o,ho,λname=>?_⟩;have e:=hm name;unfold nsFind findBy at e;rw[<-Array.find?_toList]at e;unfold W.lookIn;rw[hd];dsimp only;split
 ·rename_i y q;rw[q]at e;exact xT some e
 ·rename_i q;rw[q]at e;have a:es.toList.any (·.refKey)=false:=by
   rw[List.any_eq_false];intro y hy;obtain⟨z,t,Cd⟩:=hk y (Array.mem_toList_iff.mp hy);simp[DictEntry.refKey,Cd]
  have a':¬es.toList.any (·.refKey)=true:=by rw[a];exact zJ
  rw[zK a'];exact xT some e
theorem ObjM.look{h:Heap}{x dx C:Addr}{mA:Str->Option Value}(I:ObjM h x dx C mA):∃od,W.InstAt h x (W.instObj C dx) C (some od)/\∀name,W.lookIn name od=some (mA name) :=
 let⟨od,ho,hl⟩:=iu I.ns
 ⟨od,⟨I.obj,rfl,rfl,ho⟩,hl⟩
section
variable {prog:Program}{w:World}{A:Around}{E:Value->Shared->Prop}{s:Shared}{K:W.Frag}{x dx C f:Addr}{mA:Str->Option Value}{name:Str}{v:Value}
theorem Pj{expr:Bool}{Q:Value->Shared->Prop}(X:K.In s.heap)(I:ObjM s.heap x dx C mA)(hg:W.plainGet K C name=true)(hh:W.hasDictIn K C=true)
  (ha:W.findIn K (.ref C) name=some none) (hv:mA name=some v) (BZ:W.handedIn v=true) (h:Q v { s with toks:=s.toks+1 }) :
  wpAny (model prog w) A (getAttr (.ref x) name expr) Q E s:=by
 obtain⟨od,J,hl⟩:=I.look;exact W.get_value X J (W.plainGet_of hg).1 (W.findObj_own hh ha rfl (by rw[hl,hv])) BZ h
theorem R5{pl:Sem Bool}{Q:Value×List Value->Shared->Prop}(X:K.In s.heap)(I:ObjM s.heap x dx C mA)(hg:W.plainGet K C name=true)
  (hf:W.findIn K (.ref C) name=some (some (.ref f))) (ht:W.isFn K (.ref f)=true) (hv:mA name=none) (h:Q (.ref f,[.ref x]) s) :
  wpAny (model prog w) A (getMethod (.ref x) name pl) Q E s:=by
 obtain⟨od,J,hl⟩:=I.look;exact W.method_fn X J (W.plainGet_of hg).1 (W.plainGet_of hg).2 hf (wI.mp ht) (by show(W.lookIn name od).map (·.isSome)=some false;rw[hl,hv];rfl) h
theorem Qx{ns:List Str}{Q:Unit->Shared->Prop}(X:K.In s.heap)(I:ObjM s.heap x dx C mA)
  (hs:W.findIn K (.ref C) "__setattr__"=some (some (.builtin "object.__setattr__"))) (hp:W.plainOver K C=true) (ht:W.takerIn K C name=some none) (hh:W.hasDictIn K C=true)
  (hw:PySem.Within mA ns) (hsz:ns.length<=sizeLine)
  (h:∀h',ObjM h' x dx C (λy=>if y=name then some v else mA y)->Heap.SameBut dx s.heap h'->Q () { s with heap:=h',toks:=s.toks+2 }) :
  wpAny (model prog w) A (setAttr (.ref x) name v) Q E s:=by
 obtain⟨od,J,hl⟩:=I.look;refine W.set_plain X J hs (W.osa_open (s:={ s with toks:=s.toks+1 }) (r:=none) X J hp ht λb=>?_);obtain⟨cd,hc,AU⟩:=W.any_some hh;have hx:s.heap.get? x=some ⟨.ref C,some dx,.plain,#[]⟩:=I.obj;refine zZ (zW (zZ (zZ (wpAny_loadPart hx (zZ (W.Looks.here (s:={ s with toks:=s.toks+1 }) (W.looks_clsIn X hc) ?_))))));rw[AU];refine zW (a:=some dx) (zZ (zW (zZ ?_)));refine wpAny_nsSet1 (s:={ s with toks:=s.toks+1 }) I.ns λh' BR rC=>?_;obtain⟨oD,esD,epD,hoD,hdD,B4⟩:=BR.count (PySem.Within.cons name v hw);refine zZ (wpAny_lookBehind hoD (by rw[hdD];exact pastItsLine_dict (yM B4 (by rw[yJ];lia))) ?_);exact zW (h _ ⟨(rC.2 _ (wY I.ne)).trans I.obj,BR,I.ne⟩ rC)
theorem Sz{R:Result->Shared->Prop}{vs:List Value}{kw:List (Str×Value)}(X:K.In s.heap)(hm:W.makesIn K C=true)
  (hi:W.findIn K (.ref C) "__init__"=some (some (.ref f))) (hf:W.typeIn K (.ref f)=some (.type "function"))
  (h:codeAny (model prog w) (A.under (.builtin "type.__call__" ⟨.ref C::vs,kw⟩)) (.call (.ref f) ⟨.ref (s.heap.objs.size+1)::vs,kw⟩) (W.InitBack (s.heap.objs.size+1) R)
   { s with heap:=(s.heap.push W.emptyDict).push (W.instObj C s.heap.objs.size) }) :
  codeAny (model prog w) A (.call (.ref C) ⟨vs,kw⟩) R s:=by
 obtain⟨hh,g,d,t,os⟩:=s;exact W.make_core (W.makes_of X hm) (W.looks_findIn X hi) (λself=>W.bind_fn X self hf) (.inl rfl) h
end
def t9(f:Str)(v:V):List (Str×V)->List (Str×V)
 |[]=>[(f,v)]
 |(g,x)::r=>if g=f then(g,v)::r else(g,x)::t9 f v r
theorem oh(f g:Str)(v:V):∀fs:List (Str×V),(t9 f v fs).lookup g=if g=f then some v else fs.lookup g
 |[]=>by
  show List.lookup g [(f,v)]=_
  by_cases h:g=f
  ·have hb:(g==f)=true:=wI.mpr h;simp only[List.lookup,hb,zH h]
  ·have hb:(g==f)=false:=wQ.mpr h;simp only[List.lookup,hb,zK h]
 |(k,x)::r=>by
  have ih:=oh f g v r;rw[show t9 f v ((k,x)::r)=(if k=f then(k,v)::r else(k,x)::t9 f v r)from rfl]
  by_cases hk:k=f
  ·rw[zH hk]
   by_cases h:g=k
   ·have hb:(g==k)=true:=wI.mpr h;simp only[List.lookup,hb,zH (h.trans hk)]
   ·have hb:(g==k)=false:=wQ.mpr h;simp only[List.lookup,hb,zK (λe:g=f=>h (e.trans hk.symm))]
  ·rw[zK hk]
   by_cases h:g=k
   ·have hb:(g==k)=true:=wI.mpr h;simp only[List.lookup,hb,zK (λe:g=f=>hk (h.symm.trans e))]
   ·have hb:(g==k)=false:=wQ.mpr h;simp only[List.lookup,hb];exact ih
theorem pb(f:Str)(v:V):∀fs:List (Str×V),f∈(t9 f v fs).map (·.1)/\∀g,g∈fs.map (·.1)->g∈(t9 f v fs).map (·.1)
 |[]=>⟨by simp[t9],λg h=>by simp at h⟩
 |(k,x)::r=>by
  obtain⟨i1,i2⟩:=pb f v r;rw[show t9 f v ((k,x)::r)=(if k=f then(k,v)::r else(k,x)::t9 f v r)from rfl]
  by_cases hk:k=f
  ·rw[zH hk];subst hk;exact⟨by simp,λg h=>by simpa using h⟩
  ·rw[zK hk];refine⟨?_,λg h=>?_⟩
   ·rw[List.map_cons];exact zI _ i1
   ·rw[List.map_cons]at h ⊢;rcases zD.mp h with e|e
    ·exact zD.mpr (.inl e)
    ·exact zI _ (i2 g e)
theorem nz(f:Str)(v:V):∀fs:List (Str×V),(t9 f v fs).length<=fs.length+1
 |[]=>by simp[t9]
 |(k,x)::r=>by
  have ih:=nz f v r;rw[show t9 f v ((k,x)::r)=(if k=f then(k,v)::r else(k,x)::t9 f v r)from rfl]
  by_cases hk:k=f
  ·rw[zH hk,yJ,yJ];lia
  ·rw[zK hk,yJ,yJ];lia
theorem RelO.some_of{v:V}{o:Option Value}(r:RelO (some v) o):∃u,o=some u/\RelV v u:=by
 cases o with
 |none=>exact(show False from r).elim
 |some u=>exact⟨u,rfl,r⟩
theorem RelO.none_of{o:Option Value}(r:RelO none o):o=none:=by
 cases o with
 |none=>rfl
 |some u=>exact(show False from r).elim
theorem Vt{v:V}{u:Value}(r:RelV v u):W.handedIn u=true:=by
 cases v with
 |non=>cases(show u=Value.none from r);rfl
 |bl b=>cases(show u=Value.bool b from r);rfl
 |int i=>obtain⟨t,e⟩:=(show∃t,u=Value.int i t from r);cases e;rfl
 |str x=>obtain⟨t,e⟩:=(show∃t,u=Value.str x t from r);cases e;rfl
 |byt b=>obtain⟨t,e⟩:=(show∃t,u=Value.bytes b t from r);cases e;rfl
 |flt b=>obtain⟨t,e⟩:=(show∃t,u=Value.float b t from r);cases e;rfl
 |ref a=>cases(show u=Value.ref a from r);rfl
 |ty n=>cases(show u=Value.type n from r);rfl
section
variable {P:Program}{w:World}{H H':Hp}{h h':Heap}{a C dx:Addr}{fs Cp:List (Str×V)}
theorem m5(hok:HOk P w H h)(e:H a=some (.ins C dx fs)):∃mA,ObjM h a dx C mA/\(∀f,RelO (fs.lookup f) (mA f))/\PySem.Within mA (fs.map (·.1))/\fs.length<=1000/\H dx=some (.own a):=by
 obtain⟨d,z,ne,ob,mA,n,r,q⟩:=(show ObjOk P w H h a (.ins C dx fs)from hok a _ e)
 exact⟨mA,⟨ob,n,ne⟩,r,q,z,d⟩
end
structure Cls(K:W.Frag)(C:Addr):Prop where
 pg:W.plainGet K C Str.empty=true
 hd:W.hasDictIn K C=true
 po:W.plainOver K C=true
 sa:W.findIn K (.ref C) "__setattr__"=some (some (.builtin "object.__setattr__"))
theorem Cls.get{K:W.Frag}{C:Addr}(c:Cls K C)(f:Str):W.plainGet K C f=true:=c.pg
def NoAttr(K:W.Frag)(C:Addr)(f:Str):Prop:=W.findIn K (.ref C) f=some none
theorem NoAttr.taker{K:W.Frag}{C:Addr}{f:Str}(n:NoAttr K C f):W.takerIn K C f=some none:=by
 unfold W.takerIn;rw[show W.findIn K (.ref C) f=some none from n]
 rfl
structure Con(K:W.Frag)(C:Addr)(f:Str)(v:V)(u:Value):Prop where
 at_:W.findIn K (.ref C) f=some (some u)
 rel:RelV v u
 get:W.specialIn K u "__get__"=some none
 cp:W.copiedNames.contains f=false
structure Vc(K:W.Frag)(C:Addr)(m:Str)(f:Addr):Prop where
 at_:W.findIn K (.ref C) m=some (some (.ref f))
 fn:W.isFn K (.ref f)=true
 kp:W.keepIn K (.ref f)=true
section
variable {X:Cx}{pins:List (Addr×Obj)}{σ:St}{H:Hp}{s:Shared}{a C dx:Addr}{fs:List (Str×V)}{f:Str}{v:V}{A:Around}{E:Value->Shared->Prop}
theorem Y4{b:Bool}{Q:Value->Shared->Prop}(I:Inv X pins σ H s)(e:H a=some (.ins C dx fs))(c:Cls X.K C)(n:NoAttr X.K C f)(l:fs.lookup f=some v)
  (h:∀u s',Inv X pins σ H s'->RelV v u->Q u s'):wpAny (model X.prog X.w) A (getAttr (.ref a) f b) Q E s:=by
 obtain⟨mA,O,r,_,_,_⟩:=m5 I.hok e;obtain⟨u,hu,ru⟩:=RelO.some_of (v:=v) (o:=mA f) (by rw[<-l];exact r f);exact Pj I.kIn O (c.get f) c.hd n hu (Vt ru) (h u _ (I.tok _) ru)
theorem kq{m:Str}{g:Addr}{pl:Sem Bool}{Q:Value×List Value->Shared->Prop}(I:Inv X pins σ H s)(e:H a=some (.ins C dx fs))(c:Cls X.K C)(k:Vc X.K C m g)(l:fs.lookup m=none)
  (h:Q (.ref g,[.ref a]) s):wpAny (model X.prog X.w) A (getMethod (.ref a) m pl) Q E s:=by
 obtain⟨mA,O,r,_,_,_⟩:=m5 I.hok e;have hn:mA m=none:=RelO.none_of (by rw[<-l];exact r m);exact R5 I.kIn O (c.get m) k.at_ k.fn hn h
theorem Z2{y:V}{u:Value}{Q:Unit->Shared->Prop}(I:Inv X pins σ H s)(e:H a=some (.ins C dx fs))(c:Cls X.K C)(n:NoAttr X.K C f)(hl:fs.length<1000)(ry:RelV y u)
  (h:∀s',Inv X pins σ (upd H a (.ins C dx (t9 f y fs))) s'->Q () s'):wpAny (model X.prog X.w) A (setAttr (.ref a) f u) Q E s:=by
 obtain⟨mA,O,r,wi,_,ho⟩:=m5 I.hok e;have hz:(fs.map (·.1)).length<=sizeLine:=by rw[zX,zM];lia
 refine Qx I.kIn O c.sa c.po n.taker c.hd wi hz λh' O' sb=>h _ ?_;have hd:∃o,h'.get? dx=some o:=let⟨o,_,_,e',_⟩:=O'.ns;⟨o,e'⟩;refine I.write (x:=a) (e:=dx) (by rw[e];exact True.intro) (.inr ho) (λb q hb z=>(sb.2 b hb).trans z) hd ?_;refine⟨by rw[zj O.ne];exact ho,?_,O.ne,O'.obj,_,O'.ns,λg=>?_,λg hg=>?_⟩
 ·have:=nz f y fs;lia
 ·show RelO ((t9 f y fs).lookup g) (if g=f then some u else mA g);rw[oh]
  by_cases q:g=f
  ·rw[zH q,zH q];exact ry
  ·rw[zK q,zK q];exact r g
 ·by_cases q:g=f
  ·rw[q];exact(pb f y fs).1
  ·refine(pb f y fs).2 g (wi g λz=>hg ?_);show(if g=f then some u else mA g)=none;rw[zK q];exact z
theorem Inv.made(I:Inv X pins σ H s):Inv X pins σ (upd (upd H s.heap.objs.size (.own (s.heap.objs.size+1))) (s.heap.objs.size+1) (.ins C s.heap.objs.size []))
  { s with heap:=(s.heap.push W.emptyDict).push (W.instObj C s.heap.objs.size) }:=by
 have e1:(s.heap.push W.emptyDict).get? s.heap.objs.size=some W.emptyDict:=zR s.heap rfl;have e2:((s.heap.push W.emptyDict).push (W.instObj C s.heap.objs.size)).get? (s.heap.objs.size+1)=some (W.instObj C s.heap.objs.size):=by
  have:=zR (s.heap.push W.emptyDict) (o:=W.instObj C s.heap.objs.size) rfl
  rwa [xL]at this
 have e3:(s.heap.push W.emptyDict).Ns s.heap.objs.size (λ_=>none):=⟨W.emptyDict,#[],_,e1,rfl,(λe he=>absurd he (by simp)),λ_=>rfl⟩
 have I1:=I.laid (a:=s.heap.objs.size) (o:=.own (s.heap.objs.size+1)) (h':=s.heap.push W.emptyDict) (t':=s.toks) (λb u q=>zY _ q) (zT _) ⟨_,e1⟩;refine I1.laid (a:=s.heap.objs.size+1) (o:=.ins C s.heap.objs.size []) (t':=s.toks) (λb u q=>zY _ q) (uZ (xL _ _)) ?_;have ne:s.heap.objs.size≠s.heap.objs.size+1:=zE (xD _);refine⟨by rw[zj ne,zy],yV _,ne,e2,λ_=>none,(Heap.Ns1.of_empty e3).at λo q=>zY _ q,λ_=>True.intro,λy hy=>absurd rfl hy⟩
theorem Pa{prog:Program}{w:World}{env:Env}{e:Expr}{f:Str}{pos:Pos}{s:Shared}{Q:Value->Shared->Prop}(hb:attributeBase e f env (eval e env)=eval e env)
  (h:wpAny (model prog w) A (eval e env) (λo s₁=>wpAny (model prog w) A (getAttr o f true) Q E s₁) E s):wpAny (model prog w) A (eval (.Attribute e f pos) env) Q E s :=
 Attribute_any_ h (by rw[arm_eval_Attribute,hb])
end
def K5(K:W.Frag)(ta:TE)(f:Str):TE:=fun σ H Q=>ta σ H λx H1=>∃a C dx fs v,x = .ref a/\H1 a=some (.ins C dx fs)/\Cls K C/\NoAttr K C f/\fs.lookup f=some v/\Q v H1
def Ks(K:W.Frag)(ta tv:TE)(f:Str):TS:=λD σ H=>tv σ H λy H1=>ta σ H1 λx H2=>∃a C dx fs,x = .ref a/\H2 a=some (.ins C dx fs)/\Cls K C/\NoAttr K C f/\fs.length<1000 /\
 D.nx σ (upd H2 a (.ins C dx (t9 f y fs)))
section
variable {X:Cx}{o e value:Expr}{f:Str}{pos kQ Bk:Pos}{ta tv:TE}
theorem wt(he:PE X e ta)(hb:attributeBase e f X.env (eval e X.env)=eval e X.env):PE X (.Attribute e f pos) (K5 X.K ta f):=by
 intro pins s σ H Q I h;refine Pa hb (thn (he pins s σ H _ I h) λu s1 ⟨x,H1,I1,rx,a,C,dx,fs,v,ex,ea,c,n,l,q⟩=>?_);subst ex;obtain rfl:u=Value.ref a:=rx;exact Y4 I1 ea c n l λu' s2 I2 ru=>⟨v,H1,I2,ru,q⟩
theorem pj(ha:PE X o ta)(hv:PE X value tv)(hs:swapsWith value (some (.Attribute o f kQ)) pos.line X.env=pure false):PS X (.Assign [.Attribute o f kQ] value pos) (Ks X.K ta tv f):=by
 intro pins s σ H D I h;refine plainObj_wpAny_Assign_Attribute (thn (hv pins s σ H _ I h) λu s1 ⟨y,H1,I1,ry,q⟩=>thn (ha pins s1 σ H1 _ I1 q) λov s2 ⟨x,H2,I2,rx,a,C,dx,fs,ex,ea,c,n,l,q2⟩=>?_) hs;subst ex;obtain rfl:ov=Value.ref a:=rx;exact Z2 I2 ea c n l ry λs3 I3=>⟨σ,_,I3,q2⟩
end
section
variable {X:Cx}{pins:List (Addr×Obj)}{σ:St}{H:Hp}{s:Shared}{A:Around}{E:Value->Shared->Prop}{Q:Value->Shared->Prop}{c:Value}{b:Bool}
inductive TyOf (K:W.Frag) (H:Hp):V->Value->Prop where
 |non:TyOf K H .non (.type "NoneType")
 |bl (x:Bool):TyOf K H (.bl x) (.type "bool")
 |int (i:Int):TyOf K H (.int i) (.type "int")
 |str (x:Str):TyOf K H (.str x) (.type "str")
 |flt (x:UInt64):TyOf K H (.flt x) (.type "float")
 |lst {a:Addr}{xs:List V} (e:H a=some (.lst xs)):TyOf K H (.ref a) (.type "list")
 |frz {a:Addr}{o:Obj}{xs:List V} (e:H a=some (.frz o (.lst xs))):TyOf K H (.ref a) (.type "list")
 |tup {a:Addr}{xs:List V} (e:H a=some (.tup xs)):TyOf K H (.ref a) (.type "tuple")
 |dK {a:Addr}{kvs:List (Key×V)} (e:H a=some (.dK kvs)):TyOf K H (.ref a) (.type "dict")
 |dT {a:Addr}{kvs:List (List Key×V)} (e:H a=some (.dT kvs)):TyOf K H (.ref a) (.type "dict")
 |ins {a C dx:Addr}{fs:List (Str×V)} (e:H a=some (.ins C dx fs)) (cl:Cls K C) (ha:W.findIn K (.ref C) "__class__"=some (some (.builtin "object.__class__")))
   (hn:W.specialIn K (.builtin "object.__class__") "__get__"=some (some (.builtin "getset_descriptor.__get__"))) (htk:W.takesIn K (.builtin "object.__class__")=some true)
   (hm:W.mroIn K C (.type "object")=some true):TyOf K H (.ref a) (.ref C)
theorem Vy{x:V}{u t:Value}(I:Inv X pins σ H s)(rx:RelV x u)(ty:TyOf X.K H x t)(e:W.kitOne X.K t c=some b)(h:∀tk,Q (.bool b) { s with toks:=tk }):
  wpAny (model X.prog X.w) A (call (.builtin "isinstance") [u,c]) Q E s:=by
 cases ty with
 |non=>cases(show u=Value.none from rx);exact xN W.kitx_none I.kIn True.intro e (λz=>nomatch z) h
 |bl y=>cases(show u=Value.bool y from rx);exact xN W.kitx_bool I.kIn True.intro e (λz=>nomatch z) h
 |int i=>obtain⟨t,q⟩:=(show∃t,u=Value.int i t from rx);cases q;exact xN W.kitx_int I.kIn True.intro e (λz=>nomatch z) h
 |str y=>obtain⟨t,q⟩:=(show∃t,u=Value.str y t from rx);cases q;exact xN W.kitx_str I.kIn True.intro e (λz=>nomatch z) h
 |flt y=>obtain⟨t,q⟩:=(show∃t,u=Value.float y t from rx);cases q;exact xN W.kitx_float I.kIn True.intro e (λz=>nomatch z) h
 | @lst a xs ea =>
  cases(show u=Value.ref a from rx);obtain⟨_,_,n,_,h1⟩:=(show ObjOk X.prog X.w H s.heap a (.lst xs)from I.hok a _ ea)
  exact xN W.kitx_list I.kIn ⟨_,h1,rfl⟩ e (λz=>nomatch z) h
 | @frz a ob xs ea =>
  cases(show u=Value.ref a from rx);obtain⟨_,_,_,n,_,h1⟩:=(show ObjOk X.prog X.w H s.heap a (.frz ob (.lst xs))from I.hok a _ ea)
  exact xN W.kitx_list I.kIn ⟨_,h1,rfl⟩ e (λz=>nomatch z) h
 | @tup a xs ea =>
  cases(show u=Value.ref a from rx);obtain⟨_,_,_,p⟩:=(show ObjOk X.prog X.w H s.heap a (.tup xs)from I.hok a _ ea)
  obtain⟨o,h1,h2,_⟩:=p;exact xN W.kitx_tuple I.kIn ⟨o,h1,h2⟩ e (λz=>nomatch z) h
 | @dK a kvs ea =>
  cases(show u=Value.ref a from rx);obtain⟨_,_,vs,_,p⟩:=(show ObjOk X.prog X.w H s.heap a (.dK kvs)from I.hok a _ ea)
  obtain⟨o,es,ep,h1,h2,_⟩:=p;exact xN W.kitx_dict I.kIn ⟨o,h1,h2.1⟩ e (λz=>nomatch z) h
 | @dT a kvs ea =>
  cases(show u=Value.ref a from rx);obtain⟨_,_,xs,_,o,es,ep,h1,h2,_⟩:=(show ObjOk X.prog X.w H s.heap a (.dT kvs)from I.hok a _ ea)
  exact xN W.kitx_dict I.kIn ⟨o,h1,h2.1⟩ e (λz=>nomatch z) h
 | @ins a C dx fs ea cl ha hn htk hm =>
  cases(show u=Value.ref a from rx);obtain⟨mA,O,_⟩:=m5 I.hok ea;obtain⟨od,J,_⟩:=O.look;exact xN (W.kitx_own (cl.get _) cl.hd ha hn htk hm) I.kIn J e (λz=>nomatch z) h
end
end L2
namespace L2
open PySem PySem.Spec PyProof.Rows
structure Room(k:Nat)(A:Around):Prop where
 hd:A.handled=none
 dp:A.depth+3*k+5<recursionLimit
 un:A.units+16*k+200<cLine
theorem Room.mono{j k:Nat}{A:Around}(r:Room k A)(h:j<=k):Room j A:=⟨r.hd,by have:=r.dp;lia,by have:=r.un;lia⟩
theorem Room.deeper{k:Nat}{A:Around}(r:Room (k+1) A)(env:Env):Room k (A.deeper env) :=
 ⟨r.hd,by have:=r.dp;show A.depth+1+3*k+5<_;lia,by have:=r.un;show A.units+3+16*k+200<_;lia⟩
theorem Zb{A:Around}{C:Addr}{us:List Value}{kw:List (Str×Value)}:(A.under (.builtin "type.__call__" ⟨.ref C::us,kw⟩)).depth=A.depth+1:=by
 first|rfl|simp[Around.under,Code.weight,Code.isCreation,Code.isGuard,Code.isCaller,Code.frames,Code.isFrame,guardIds]
theorem Zc{A:Around}{C:Addr}{us:List Value}{kw:List (Str×Value)}:(A.under (.builtin "type.__call__" ⟨.ref C::us,kw⟩)).units=A.units+1:=by
 first|rfl|simp[Around.under,Code.cUnits,Code.frames,Code.isFrame]
theorem Room.make{k:Nat}{A:Around}(r:Room (k+1) A)(C:Addr)(us:List Value)(kw:List (Str×Value)):Room k (A.under (.builtin "type.__call__" ⟨.ref C::us,kw⟩)) :=
 ⟨r.hd,by have:=r.dp;rw[Zb];lia,by have:=r.un;rw[Zc];lia⟩
theorem Room.depth{k:Nat}{A:Around}(r:Room k A):A.depth<recursionLimit:=by have:=r.dp;lia
theorem Room.units{k:Nat}{A:Around}(r:Room k A):A.units+64<cLine:=by have:=r.un;lia
def Ra:TA:=λ_ H Q=>Q [] H
def Oz(ta:TE)(tr:TA):TA:=fun σ H Q=>ta σ H λx H1=>tr σ H1 λxs H2=>Q (x::xs) H2
section
variable {X:Cx}{e:Expr}{es:List Expr}{te:TE}{t:TA}{pos:Pos}
theorem z6:PA X [] Ra:=λ_ _ _ _ H Q I h=>tU ⟨[],H,I,.nil,h⟩
theorem z9(ha:PE X e te)(hr:PA X es t)(hs:starEach (e::es) X.env=(false,eval e X.env)::starEach es X.env:=by rfl):PA X (e::es) (Oz te t):=by
 intro pos pins s σ H Q I h;rw[hs];show wpAny _ _ (spliced ((false,eval e X.env)::backTo pos (starEach es X.env))) _ _ s;refine Calls.spliced_cons (thn (ha pins s σ H _ I h) λu s1 ⟨x,H1,I1,r1,q1⟩=>?_);exact thn (hr pos pins s1 σ H1 _ I1 q1) λus s2 ⟨xs,H2,I2,r2,q2⟩=>⟨x::xs,H2,I2,.cons r1 r2,q2⟩
end
abbrev Sp:=List V->Hp->VK->XK->Prop
abbrev CXT:=List Env->Hp->Shared->XK->Value->Shared->Prop
structure Env0(P:Program)(w:World)(K:W.Frag)(mg:Str->Option Value)(base:Heap)(A:Around)(outer:List Env)(s:Shared)(H:Hp):Prop where
 frames:A.frames=some outer
 mod:Mod K mg base
 bs:∀b o,base.get? b=some o->s.heap.get? b=some o/\H b=none
 bsz:base.objs.size<=s.heap.objs.size
 funs:s.heap.FunFrames base outer
 frf:∀b∈frs outer,H b=none
 hok:HOk P w H s.heap
 bare:AllBare s.gens
def CE(outer:List Env)(P:Program)(w:World)(H:Hp)(s:Shared)(Q:VK)(u:Value)(s':Shared):Prop :=
 ∃v H',s'.os=s.os/\AllBare s'.gens/\Un (frs outer) [] H H' s.heap s'.heap/\HOk P w H' s'.heap/\RelV v u/\Q v H'
def CR(CX:CXT)(outer:List Env)(P:Program)(w:World)(H:Hp)(s:Shared)(Q:VK)(E:XK)(r:Result)(s':Shared):Prop :=
 match r with
 | .ok (.ret u)=>CE outer P w H s Q u s'
 | .ok _=>False
 | .error e=>CX outer H s E e s'
structure FnOk(P:Program)(w:World)(K:W.Frag)(mg:Str->Option Value)(base:Heap)(CX:CXT)(k:Nat)(f:Addr)(fd:FuncData)(ps:List Str)(sp:Sp):Prop where
 len:∀vs H Q E,sp vs H Q E->vs.length=ps.length
 run:∀(A:Around)(outer:List Env)(s:Shared)(H:Hp)(args:Args)(us:List Value)(vs:List V)(Q:VK)(E:XK),Room k A->Env0 P w K mg base A outer s H->BindsTo s fd args (ps.zip us)->Vals vs us->sp vs H Q E ->
  codeAny (model P w) A (.call (.ref f) args) (CR CX outer P w H s Q E) s
theorem FnOk.mono{P:Program}{w:World}{K:W.Frag}{mg:Str->Option Value}{base:Heap}{CX:CXT}{j k:Nat}{f:Addr}{fd:FuncData}{ps:List Str}{sp:Sp}(F:FnOk P w K mg base CX j f fd ps sp)(h:j<=k):
  FnOk P w K mg base CX k f fd ps sp:=⟨F.len,λA outer s H args us vs Q E hr=>F.run A outer s H args us vs Q E (hr.mono h)⟩
theorem Env0.make{P:Program}{w:World}{K:W.Frag}{mg:Str->Option Value}{base:Heap}{A:Around}{outer:List Env}{s:Shared}{H:Hp}(e:Env0 P w K mg base A outer s H)(C:Addr)(us:List Value)(kw:List (Str×Value)):
  Env0 P w K mg base (A.under (.builtin "type.__call__" ⟨.ref C::us,kw⟩)) outer s H:=⟨by first|exact e.frames|(simpa[Around.under,Code.envs,Code.isFrame,pushEnvs]using e.frames),e.mod,e.bs,e.bsz,e.funs,e.frf,e.hok,e.bare⟩
section
variable {X:Cx}{pins:List (Addr×Obj)}{σ:St}{H:Hp}{s s':Shared}
theorem Inv.env0(I:Inv X pins σ H s):Env0 X.prog X.w X.K X.mg X.base X.A X.stack s H :=
 ⟨I.ok.frames,I.ok.mod,I.bs,yM I.ok.bsz I.sz,I.stack,I.stkFree,I.hok,I.bare⟩
theorem Inv.after{Q:VK}{u:Value}(I:Inv X pins σ H s)(h:CE X.stack X.prog X.w H s Q u s'):EP X pins σ Q u s':=by
 obtain⟨v,H',os,bare,un,hok,r,q⟩:=h;obtain⟨hh,g,d,t,os'⟩:=s';obtain rfl:os'=s.os:=os;exact⟨v,H',I.call (h':=hh) (g':=g) (d':=d) (t':=t) (ch:=[]) un hok bare (λb z=>absurd z (by simp)),r,q⟩
end
def Yn(sp:Sp)(oK:List V)(E:XK)(t:TA):TE:=fun σ H Q=>t σ H λvs H1=>sp (vs++oK) H1 Q E
def js(C:Addr)(m:Str)(sp:Sp)(oK:List V)(E:XK)(ta:TE)(t:TA):TE:=fun σ H Q=>ta σ H λx H1=>∃a dx fs,x = .ref a/\H1 a=some (.ins C dx fs)/\fs.lookup m=none /\
 t σ H1 λvs H2=>sp (x::(vs++oK)) H2 Q E
def Uy(C:Addr)(sp:Sp)(oK:List V)(E:XK)(t:TA):TE:=fun σ H Q=>t σ H λvs H1=>∀x dx,H1 x=none->H1 dx=none->dx≠x ->
 sp (.ref x::(vs++oK)) (upd (upd H1 dx (.own x)) x (.ins C dx [])) (λv H2=>v = .non/\Q (.ref x) H2) E
def Binds(K:W.Frag)(fd:FuncData)(ps:List Str)(ds:List Value):Prop :=
 ∀(s:Shared)(us:List Value),K.In s.heap->(us++ds).length=ps.length->BindsTo s fd ⟨us,[]⟩ (ps.zip (us++ds))
theorem Binds.all{K:W.Frag}{fd:FuncData}{ps:List Str}(h:∀us:List Value,us.length=ps.length->bindArgs fd ⟨us,[]⟩=pure (ps.zip us)):Binds K fd ps []:=λs us _ hl=>by
 rw[List.append_nil]at hl ⊢;exact .of_eq (h us hl)
def v9(CX:CXT)(X:Cx)(E:XK):Prop:=∀(pins:List (Addr×Obj))(σ:St)(H:Hp)(s:Shared)(e:Value)(s':Shared),Inv X pins σ H s->CX X.stack H s E e s'->X.xe e s'
section
variable {X:Cx}{CX:CXT}{k:Nat}{f C:Addr}{fd:FuncData}{ps:List Str}{sp:Sp}{oK:List V}{ds:List Value}{E:XK}{x m:Str}{p pos apos:Pos}{e o:Expr}{es:List Expr}{ta:TE}{t:TA}
theorem Zz{pins:List (Addr×Obj)}{σ:St}{H:Hp}{s:Shared}{Q:VK}{us:List Value}{vs:List V}(F:FnOk X.prog X.w X.K X.mg X.base CX k f fd ps sp)(hr:Room k X.A)(hb:Binds X.K fd ps ds)(hd:Vals oK ds)(hx:v9 CX X E)
  (I:Inv X pins σ H s) (r:Vals vs us) (h:sp (vs++oK) H Q E):wpAny (model X.prog X.w) X.A (call (.ref f) us) (EP X pins σ Q) X.xe s:=by
 have r2:Vals (vs++oK) (us++ds):=r.append hd;have hl:(us++ds).length=ps.length:=by rw[<-r2.length];exact F.len _ _ _ _ h
 refine uO (wA (F.run X.A X.stack s H ⟨us,[]⟩ (us++ds) (vs++oK) Q E hr I.env0 (hb s us I.kIn hl) r2 h) λr s' hq=>?_);cases r with
 |error e=>exact hx pins σ H s e s' I hq
 |ok fl =>
  cases fl with
  |ret u=>exact I.after hq
  |next=>exact False.elim hq
  |brk=>exact False.elim hq
  |cont=>exact False.elim hq
theorem X4(F:FnOk X.prog X.w X.K X.mg X.base CX k f fd ps sp)(hr:Room k X.A)(hg:Gl X x)(hm:X.mg x=some (.ref f))(hk:W.keepIn X.K (.ref f)=true)(hb:Binds X.K fd ps ds)(hd:Vals oK ds)(hx:v9 CX X E)
  (ha:PA X (e::es) t) (kI:(x==("__debug__":Str))=false:=by decide) (he:starEach (e::es) X.env=(false,eval e X.env)::starEach es X.env:=by rfl) (cV:(backTo pos (starEach es X.env)).any (·.1)=false:=by rfl) :
  PE X (.Call (.Name x p) (e::es) [] pos) (Yn sp oK E t):=by
 intro pins s σ H Q I h;refine xH (wj I hg hm ?_ kI);refine wL (h₀:=X.base) I.ok.mod.kin hk (thn (ha pos pins s σ H _ I h) λus s1 ⟨vs,H1,I1,r,q⟩=>⟨I1.kIn,?_⟩) he cV;exact Zz F hr hb hd hx I1 r q
theorem X5{pl:Sem Bool}(he:PE X o ta)(c:Cls X.K C)(hm:Vc X.K C m f)(F:FnOk X.prog X.w X.K X.mg X.base CX k f fd ps sp)(hr:Room k X.A)(hb:Binds X.K fd ps ds)(hd:Vals oK ds)(hx:v9 CX X E)(ha:PA X (e::es) t)
  (iH:starEach (e::es) X.env=(false,eval e X.env)::starEach es X.env:=by rfl) (cV:(backTo pos (starEach es X.env)).any (·.1)=false:=by rfl)
  (ht:eval (.Call (.Attribute o m apos) (e::es) [] pos) X.env=(do
   let ov <-eval o X.env
   standAt apos.atName
   let(f,first) <-holding [ov] (getMethod ov m pl)
   callWith pos f first (backTo pos (starEach (e::es) X.env)) (backToKw pos (keywordEach [] X.env))):=by rfl) :
  PE X (.Call (.Attribute o m apos) (e::es) [] pos) (js C m sp oK E ta t):=by
 intro pins s σ H Q I h;refine W.methodCall_KW (pl:=pl) (thn (he pins s σ H _ I h) λu s1 ⟨x,H1,I1,rx,a,dx,fs,ex,ea,l,q⟩=>?_) ht;subst ex;obtain rfl:u=Value.ref a:=rx;refine kq I1 ea c hm l ?_;refine wL (first:=[.ref a]) (h₀:=X.base) I.ok.mod.kin hm.kp (thn (ha pos pins s1 σ H1 _ I1 q) λus s2 ⟨vs,H2,I2,r,q2⟩=>⟨I2.kIn,?_⟩) iH cV;exact Zz (us:=.ref a::us) (vs:=.ref a::vs) F hr hb hd hx I2 (.cons rfl r) q2
theorem Tx{pl:Sem Bool}(he:PE X o ta)(c:Cls X.K C)(hm:Vc X.K C m f)(F:FnOk X.prog X.w X.K X.mg X.base CX k f fd ps sp)(hr:Room k X.A)(hb:Binds X.K fd ps ds)(hd:Vals oK ds)(hx:v9 CX X E)
  (ht:eval (.Call (.Attribute o m apos) [] [] pos) X.env=(do
   let ov <-eval o X.env
   standAt apos.atName
   let(f,first) <-holding [ov] (getMethod ov m pl)
   callWith pos f first (backTo pos (starEach [] X.env)) (backToKw pos (keywordEach [] X.env))):=by rfl) :
  PE X (.Call (.Attribute o m apos) [] [] pos) (js C m sp oK E ta Ra):=by
 intro pins s σ H Q I h;refine W.methodCall_KW (pl:=pl) (thn (he pins s σ H _ I h) λu s1 ⟨x,H1,I1,rx,a,dx,fs,ex,ea,l,q⟩=>?_) ht;subst ex;obtain rfl:u=Value.ref a:=rx;refine kq I1 ea c hm l ?_;exact W.callWith_K0 (first:=[.ref a]) I1.kIn hm.kp (Zz (us:=[.ref a]) (vs:=[.ref a]) F hr hb hd hx I1 (.cons rfl .nil) q)
structure Mk(K:W.Frag)(C f:Addr):Prop where
 makes:W.makesIn K C=true
 init:W.findIn K (.ref C) "__init__"=some (some (.ref f))
 fn:W.isFn K (.ref f)=true
 kp:W.keepIn K (.ref C)=true
theorem Ue{pins:List (Addr×Obj)}{σ:St}{H:Hp}{s:Shared}{Q:VK}{us:List Value}{vs:List V}(M:Mk X.K C f)(F:FnOk X.prog X.w X.K X.mg X.base CX k f fd ps sp)(hr:Room (k+1) X.A)(hb:Binds X.K fd ps ds)(hd:Vals oK ds)
  (hx:v9 CX X E) (I:Inv X pins σ H s) (r:Vals vs us)
  (h:∀x dx,H x=none->H dx=none->dx≠x->sp (.ref x::(vs++oK)) (upd (upd H dx (.own x)) x (.ins C dx [])) (λv H2=>v = .non/\Q (.ref x) H2) E) :
  wpAny (model X.prog X.w) X.A (call (.ref C) us) (EP X pins σ Q) X.xe s:=by
 have hq:=h (s.heap.objs.size+1) s.heap.objs.size (I.hok.fresh (wG _)) (I.hok.fresh (zT _)) (zE (xD _));have I2:=Inv.made (C:=C) I;have r2:Vals (V.ref (s.heap.objs.size+1)::(vs++oK)) (Value.ref (s.heap.objs.size+1)::(us++ds)):=.cons rfl (r.append hd);have hl:(Value.ref (s.heap.objs.size+1)::us++ds).length=ps.length:=by
  have e:=r2.length;rw[F.len _ _ _ _ hq]at e;exact e.symm
 refine uO (Sz (f:=f) I.kIn M.makes M.init (wI.mp M.fn) (wA (F.run _ X.stack _ _ ⟨Value.ref (s.heap.objs.size+1)::us,[]⟩ (Value.ref (s.heap.objs.size+1)::(us++ds)) _ _ E (hr.make C us [])
  (I2.env0.make C us []) (hb _ (Value.ref (s.heap.objs.size+1)::us) I2.kIn hl) r2 hq) λr s' Bw=>?_))
 cases r with
 |error e=>exact hx pins σ _ _ e s' I2 Bw
 |ok fl =>
  cases fl with
  |ret u =>
   obtain⟨v,H',I3,rv,ev,q3⟩:=I2.after Bw;subst ev;exact⟨rv,⟨V.ref (s.heap.objs.size+1),H',I3,rfl,q3⟩⟩
  |next=>exact False.elim Bw
  |brk=>exact False.elim Bw
  |cont=>exact False.elim Bw
theorem Qh(M:Mk X.K C f)(F:FnOk X.prog X.w X.K X.mg X.base CX k f fd ps sp)(hr:Room (k+1) X.A)(hg:Gl X x)(hm:X.mg x=some (.ref C))(hb:Binds X.K fd ps ds)(hd:Vals oK ds)(hx:v9 CX X E)
  (ha:PA X (e::es) t) (kI:(x==("__debug__":Str))=false:=by decide) (he:starEach (e::es) X.env=(false,eval e X.env)::starEach es X.env:=by rfl) (cV:(backTo pos (starEach es X.env)).any (·.1)=false:=by rfl) :
  PE X (.Call (.Name x p) (e::es) [] pos) (Uy C sp oK E t):=by
 intro pins s σ H Q I h;refine xH (wj I hg hm ?_ kI);refine wL (h₀:=X.base) I.ok.mod.kin M.kp (thn (ha pos pins s σ H _ I h) λus s1 ⟨vs,H1,I1,r,q⟩=>⟨I1.kIn,?_⟩) he cV;exact Ue M F hr hb hd hx I1 r q
end
section
variable {X:Cx}{CX:CXT}{k:Nat}{f C:Addr}{fd:FuncData}{ps ks:List Str}{sp:Sp}{E:XK}{x m:Str}{p pos apos kpos:Pos}{e o:Expr}{es:List Expr}{kws:List Keyword}{te ta:TE}{t tk:TA}{nm:Option Str}
structure Fy(K:W.Frag)(fd:FuncData)(ps ks:List Str)(g:List Value->List Value->List Value)(gV:List V->List V->List V):Prop where
 to:∀(s:Shared)(us ws:List Value),K.In s.heap->(g us ws).length=ps.length->BindsTo s fd ⟨us,ks.zip ws⟩ (ps.zip (g us ws))
 rel:∀{vs:List V}{us:List Value}{zs:List V}{ws:List Value},Vals vs us->Vals zs ws->Vals (gV vs zs) (g us ws)
variable {g:List Value->List Value->List Value}{gV:List V->List V->List V}
end
structure zr(N P:List Str)(sc:Scope):Prop where
 kind:sc.kind = .function
 co:sc.isCoroutine=false
 gen:sc.isGenerator=false
 nd:N.Nodup
 pre:N.take P.length=P
 par:∀x∈P,sc.names.lookup x=some .local\/sc.names.lookup x=some .cell
 nofree:∀y∈sc.names,y.2≠.free
theorem g9{kindOf:Str->Option NameKind}{x:Str}:∀{rF:List (Str×Value)}{m:Str->Option Value},(∀v,(x,v)∉rF)->bindL kindOf rF m x=m x
 |[],_,_=>rfl
 |(n,v)::r,m,h=>by
  unfold bindL;rw[g9 λw hw=>h w (zI _ hw)];split
  ·have:x≠n:=by rintro rfl;exact h v zB
   simp[this]
  ·rfl
theorem g0{kindOf:Str->Option NameKind}{x:Str}:∀{rF:List (Str×Value)}{m:Str->Option Value},(∀v,(x,v)∉rF)->bindC kindOf rF m x=m x
 |[],_,_=>rfl
 |(n,v)::r,m,h=>by
  unfold bindC;rw[g0 λw hw=>h w (zI _ hw)];split
  ·rfl
  ·have:x≠n:=by rintro rfl;exact h v zB
   simp[this]
theorem g6{kindOf:Str->Option NameKind}{x:Str}{v:Value}:∀{P:List Str}{vs:List Value}{i:Nat}{m:Str->Option Value},P.Nodup->P[i]?=some x->vs[i]?=some v->kindOf x=some .local ->
  bindL kindOf (P.zip vs) m x=some v
 |[],_,_,_,_,h,_,_=>by simp at h
 |_::_,[],_,_,_,_,h,_=>by simp at h
 |p::P,w::vs,0,m,nd,h1,h2,hk=>by
  simp at h1 h2;subst h1;subst h2;show bindL kindOf ((p,w)::P.zip vs) m p=_;unfold bindL;rw[g9 λv hv=>(uW.mp nd).1 (List.of_mem_zip hv).1,zH hk];simp
 |p::P,w::vs,i+1,m,nd,h1,h2,hk=>by
  show bindL kindOf ((p,w)::P.zip vs) m x=_;unfold bindL;exact g6 (i:=i) (uW.mp nd).2 (by simpa using h1) (by simpa using h2) hk
theorem gy{kindOf:Str->Option NameKind}{x:Str}{v:Value}:∀{P:List Str}{vs:List Value}{i:Nat}{m:Str->Option Value},P.Nodup->P[i]?=some x->vs[i]?=some v->kindOf x≠some .local ->
  bindC kindOf (P.zip vs) m x=some v
 |[],_,_,_,_,h,_,_=>by simp at h
 |_::_,[],_,_,_,_,h,_=>by simp at h
 |p::P,w::vs,0,m,nd,h1,h2,hk=>by
  simp at h1 h2;subst h1;subst h2;show bindC kindOf ((p,w)::P.zip vs) m p=_;unfold bindC;rw[g0 λv hv=>(uW.mp nd).1 (List.of_mem_zip hv).1,zK hk];simp
 |p::P,w::vs,i+1,m,nd,h1,h2,hk=>by
  show bindC kindOf ((p,w)::P.zip vs) m x=_;unfold bindC;exact gy (i:=i) (uW.mp nd).2 (by simpa using h1) (by simpa using h2) hk
def start(N:List Str)(vs:List V):St:=vs.map some++List.replicate (N.length-vs.length) none
def wg(CX:CXT)(P:Program)(w:World)(K:W.Frag)(mg:Str->Option Value)(base:Heap)(N:List Str)(qual:Str)(scope:Scope)(f:Addr)(cd:Value)(A:Around)(outer:List Env)(s:Shared)(H:Hp)(E:XK):Cx where
 prog:=P
 w:=w
 K:=K
 mg:=mg
 base:=base
 A:=A.deeper (envOfC qual scope s.heap.objs.size f cd)
 N:=N
 s₀:=s
 H₀:=H
 env:=envOfC qual scope s.heap.objs.size f cd
 outer:=outer
 stack:=envOfC qual scope s.heap.objs.size f cd::outer
 ex:=[]
 calm:=true
 fn:=λ_=>true
 pn:=[]
 xe:=λe s'=>wpAny (model P w) (A.deeper (envOfC qual scope s.heap.objs.size f cd)) (leaving (envOfC qual scope s.heap.objs.size f cd) e) (λ_ s''=>CX outer H s E e s'') (λe' s''=>CX outer H s E e' s'') s'
theorem a8{sc:Scope}{n:Nat}{x:Str}(h:sc.names.lookup x=some .cell):∃c,(cellsFrom n sc.names []).lookup x=some c:=by
 have q:=W.cellsFrom_some sc.names n [] (.inl h);exact uE.mp q
theorem Vw{CX:CXT}{P:Program}{w:World}{K:W.Frag}{mg:Str->Option Value}{base:Heap}{N ps:List Str}{qual:Str}{scope:Scope}{f:Addr}{cd:Value}{A:Around}{outer:List Env}{s s1:Shared}{H:Hp}{E:XK}{us:List Value}{vs:List V}
  (S:zr N ps scope) (hd:A.handled=none) (e0:Env0 P w K mg base A outer s H) (hl:vs.length=ps.length) (r:Vals vs us)
  (x:InCallC s s.heap.objs.size (bindL (envOfC qual scope s.heap.objs.size f cd).kindOf (ps.zip us) λ_=>none) (cellsFrom (s.heap.objs.size+1) scope.names []) (bindC (envOfC qual scope s.heap.objs.size f cd).kindOf (ps.zip us) λ_=>none) s1) :
  Inv (wg CX P w K mg base N qual scope f cd A outer s H E) [] (start N vs) H s1:=by
 have cV:ps.length<=N.length:=by have:=xT List.length S.pre;rw[wZ]at this;lia
 obtain⟨h1,tk,rfl,hk⟩:=x.done;have MZ:∀b:Addr,b∉(wg CX P w K mg base N qual scope f cd A outer s H E).ex:=λb z=>absurd (show b∈([]:List Addr)from z) (by simp);refine⟨⟨e0.mod,S.kind,rfl,rfl,zT _,λy z c h1 h2=>?_,λy hy=>?_,λy c _ h=>?_,λ_=>hd,Around.frames_deeper e0.frames,.inr ⟨rfl,rfl⟩,λb z=>absurd z (MZ b),e0.bs,e0.bsz,λb _ _=>MZ b,λb z=>absurd z (MZ b),e0.funs,e0.frf⟩,
  rfl,e0.bare,Un.kept hk,⟨_,x.toInCall.ns,λi y v h1 h2 h3=>?_⟩,λy c h=>⟨_,x.cell y c h⟩,e0.hok.fresh (zT _),λy c h=>?_,λp hp=>absurd (show p∈([]:List (Addr×Obj))from hp) (by simp),e0.hok.kept hk,?_⟩
 ·exact name_of_addr x.apart (wW h1) (wW h2)
 ·have hy:scope.names.lookup y=some .cell\/scope.names.lookup y=some .free:=hy;rcases hy with hy|hy
  ·exact a8 hy
  ·exact absurd rfl (S.nofree _ (wW hy))
 ·exact xP (x.above y c (wW h))
 ·have hi:i<vs.length:=by
   unfold start at h2
   by_cases hi:i<vs.length
   ·exact hi
   ·rw[vX (by simpa using hi)]at h2;rw[List.getElem?_replicate]at h2;split at h2<;>cases h2
  have ha:vs[i]?=some v:=by
   unfold start at h2;rw[wX (by simpa using hi),yU]at h2;cases e:vs[i]? with
   |none=>rw[e]at h2;cases h2
   |some a=>rw[e]at h2;cases h2;rfl
  obtain⟨u,hu,rv⟩:=r.get ha;have hp:ps[i]?=some y:=by
   rw[<-S.pre,vL (by lia)];exact h1
  have ndP:ps.Nodup:=by rw[<-S.pre];exact S.nd.sublist (List.take_sublist _ _)
  refine⟨u,rv,?_⟩;rcases S.par y (zN hp)with k|k
  ·exact .inl ⟨k,g6 ndP hp hu k⟩
  ·obtain⟨c,e⟩:=a8 (n:=s.heap.objs.size+1) k;refine .inr ⟨.inl k,c,e,?_⟩;have q:=x.cell y c e;rw[gy ndP hp hu (by show scope.names.lookup y≠_;rw[k];decide)]at q;exact q
 ·exact e0.hok.fresh (xP (x.above y c (wW h)))
 ·unfold start;show _=N.length;rw[zL,zX,List.length_replicate];lia
theorem R0{CX:CXT}{P:Program}{w:World}{K:W.Frag}{mg:Str->Option Value}{base:Heap}{k:Nat}{f:Addr}{name qual:Str}{params:Arguments}{body:List Stmt}{scope:Scope}{dV kV doc pm cdv ct oc:Value}{an od:Option Addr}
  {osl:Array (Option Value)}{N ps:List Str}{sp:Sp} (lk:K.lookup f=some ⟨oc,od,.func (W.fnOf name qual params body scope dV kV doc pm an cdv ct),osl⟩) (qJ:W.codeIn K cdv qual=true) (S:zr N ps scope)
  (len:∀vs H Q E,sp vs H Q E->vs.length=ps.length)
  (bI:∀(A:Around)(outer:List Env)(s:Shared)(H:Hp)(vs:List V)(Q:VK)(E:XK),Room k (A.deeper (envOfC qual scope s.heap.objs.size f cdv))->sp vs H Q E ->
   ∃t,PSs (wg CX P w K mg base N qual scope f cdv A outer s H E) body t/\t { nx:=λ_ H'=>Q .non H',rt:=Q } (start N vs) H) :
  FnOk P w K mg base CX (k+1) f (W.fnOf name qual params body scope dV kV doc pm an cdv ct) ps sp:=by
 refine⟨len,λA outer s H args us vs Q E hr e0 hb r AR=>?_⟩;have hl:=len _ _ _ _ AR;have KX:K.In s.heap:=e0.mod.kin.keeps λb o e=>(e0.bs b o e).1;have lim:s.heap.NoLimit:=e0.mod.nolimit.keeps λb o e=>(e0.bs b o e).1;have TK:∀y∈ps.zip us,scope.names.lookup y.1=some .local\/(scope.names.lookup y.1=some .cell/\((cellsFrom (s.heap.objs.size+1) scope.names []).lookup y.1).isSome=true):=λ⟨n,v⟩ hy=>by
  rcases S.par n (List.of_mem_zip hy).1 with q|q
  ·exact .inl q
  ·exact .inr ⟨q,W.cellsFrom_some _ _ _ (.inl q)⟩
 refine codeAny_call_function hr.depth (KX _ _ lk) rfl S.co S.gen rfl (W.codeRec_of KX qJ) (hb _ _ _ _ ?_);refine wpAny_newFunctionEnv_cells S.kind TK λenv he s1 x=>?_;subst he;refine⟨lim.keeps x.toInCall.keep,codeAny_func ?_⟩;obtain⟨t,ht,hq⟩:=bI A outer s H vs Q E (hr.deeper _) AR;have I:Inv (wg CX P w K mg base N qual scope f cdv A outer s H E) [] (start N vs) H s1:=Vw S hr.hd e0 hl r x;refine yR (ht [] s1 (start N vs) H _ I hq) (λfl s' hs=>?_) λe s' hs=>hs;have bZ:∀{σ':St}{H':Hp}{v:V}{u:Value},Inv (wg CX P w K mg base N qual scope f cdv A outer s H E) [] σ' H' s'->RelV v u->Q v H'->CE outer P w H s Q u s' :=
  λ{σ' H' v u} J rv q=>⟨v,H',J.os,J.bare,J.base,J.hok,rv,q⟩
 cases fl with
 |ret u =>
  obtain⟨v,σ',H',J,rv,q⟩:=hs;exact bZ J rv q
 |next =>
  obtain⟨σ',H',J,q⟩:=hs;exact bZ (v:=V.non) (u:=Value.none) J rfl q
 |brk =>
  obtain⟨_,_,_,q⟩:=hs;exact False.elim q
 |cont =>
  obtain⟨_,_,_,q⟩:=hs;exact False.elim q
end L2
namespace L2
open PySem PySem.Spec PyProof.Rows
section
variable {X:Cx}{x:Str}{p pos:Pos}{e:Expr}{es:List Expr}{t:TA}{id T:String}{r:List V->Hp->VK->Prop}
def tCB(r:List V->Hp->VK->Prop)(t:TA):TE:=fun σ H Q=>t σ H λvs H1=>r vs H1 Q
theorem zq(hc:wv X (.builtin id) r)(hg:Gl X x)(hm:X.mg x=none)(hv:bootBuiltins x=some (.builtin id))(ha:PA X (e::es) t)(hn:x≠"__name__":=by decide)(kI:(x==("__debug__":Str))=false:=by decide)
  (he:starEach (e::es) X.env=(false,eval e X.env)::starEach es X.env:=by rfl) (cV:(backTo pos (starEach es X.env)).any (·.1)=false:=by rfl):PE X (.Call (.Name x p) (e::es) [] pos) (tCB r t):=by
 intro pins s σ H Q I h;refine xH (tq I hg hm hv ?_ hn kI);exact PyProof.Rows.callWith_builtin1 (thn (ha pos pins s σ H _ I h) λus s1 ⟨vs,H1,I1,r1,q1⟩=>hc pins s1 σ H1 vs us Q I1 r1 q1) he cV
theorem yh(hc:wv X (.type T) r)(hg:Gl X x)(hm:X.mg x=none)(hv:bootBuiltins x=some (.type T))(ha:PA X (e::es) t)(hn:x≠"__name__":=by decide)(kI:(x==("__debug__":Str))=false:=by decide)
  (he:starEach (e::es) X.env=(false,eval e X.env)::starEach es X.env:=by rfl) (cV:(backTo pos (starEach es X.env)).any (·.1)=false:=by rfl):PE X (.Call (.Name x p) (e::es) [] pos) (tCB r t):=by
 intro pins s σ H Q I h;refine xH (tq I hg hm hv ?_ hn kI);exact wS (thn (ha pos pins s σ H _ I h) λus s1 ⟨vs,H1,I1,r1,q1⟩=>hc pins s1 σ H1 vs us Q I1 r1 q1) he cV
end
end L2
namespace HT
open PySem PyProof.Rows
section
open PySem.SeqAt
open PySem.AutoSeq1 (wpAny_loadPart')
open PySem.MeetsSeq PySem.MeetsSeq2 PySem.MeetsSeq3
end
section
variable {prog:Program}{w:World}{A:Around}{E:Value->Shared->Prop}{s:Shared}
theorem cat_tup{t b:Addr}{vs ws:List Value}{Q:Value->Shared->Prop}(ht:IsTup s.heap t vs.toArray)(hb:IsTup s.heap b ws.toArray)(hv:vs≠[])
  (h1:ws=[]->Q (.ref t) s) (h2:ws≠[]->Q (.ref s.heap.objs.size) { s with heap:=s.heap.push { cls:=.type "tuple",data:=.seq (vs++ws).toArray } })
  (hsz:vs.length+ws.length<=sizeLine):wpAny (model prog w) A (binaryOp .Add (.ref t) (.ref b)) Q E s:=by
 obtain⟨⟨cls,dd,data,sl⟩,ho,hc,n,hd⟩:=id ht;obtain⟨⟨cls2,dd2,data2,AO⟩,Eg,B5,n2,Ep⟩:=id hb;simp only at hc hd B5 Ep;subst hc hd B5 Ep;have e:vs.toArray++ws.toArray=(vs++ws).toArray:=by simp
 by_cases hw:ws=[]
 ·exact concat_meets ⟨_,ho,rfl⟩ ⟨_,Eg,rfl⟩ noFill_tuple_add seq_tuple_add tX tZ (uD _ _)
   (tuple_addW1 t b vs.toArray ws.toArray n n2 dd dd2 sl AO (by simpa using hv) (by simp[hw])) ⟨ho,Eg,h1 hw⟩
 ·refine concat_meets ⟨_,ho,rfl⟩ ⟨_,Eg,rfl⟩ noFill_tuple_add seq_tuple_add tX tZ (uD _ _)
   (tuple_addW2 t b vs.toArray ws.toArray n n2 dd dd2 sl AO (by simpa using hv) (by simpa using hw) (by rw[zQ,zQ];exact hsz)) ⟨ho,Eg,?_⟩
  rw[e];exact h2 hw
def sIx(n d:Nat):Option Int->Nat
 |none=>d
 |some v=>if v<0 then(v+(n:Int)).toNat else min v.toNat n
theorem sIx_none(n d:Nat):sIx n d none=d:=rfl
theorem Nu(n d:Nat)(hd:d<=n)(o:Option Int):sIx n d o<=n:=by
 cases o with
 |none=>exact hd
 |some v =>
  show(if v<0 then(v+(n:Int)).toNat else min v.toNat n)<=n
  by_cases hv:v<0
  ·rw[zH hv];lia
  ·rw[zK hv];exact Nat.min_le_right _ _
theorem Xf(v:Int)(n d:Nat):(if v<0 then max (v+(n:Int)) 0 else min v (n:Int))=((sIx n d (some v):Nat):Int):=by
 show(if v<0 then max (v+(n:Int)) 0 else min v (n:Int))=(((if v<0 then(v+(n:Int)).toNat else min v.toNat n):Nat):Int)
 by_cases hv:v<0
 ·simp only[zH hv];lia
 ·simp only[zK hv];lia
theorem Yr(lo hi:Option Int)(n:Nat):Builtin.Slice.sliceAdjust lo hi 1 (n:Int)=(((sIx n 0 lo:Nat):Int),((sIx n n hi:Nat):Int)):=by
 have h1:¬((1:Int)<0):=by lia
 unfold Builtin.Slice.sliceAdjust;simp only[h1,if_false];refine Prod.ext ?_ ?_
 ·cases lo with
  |none=>rfl
  |some v=>exact Xf v n 0
 ·cases hi with
  |none=>rfl
  |some v=>exact Xf v n n
theorem Zt(i j:Nat):Builtin.Slice.slicePlaces (i:Int) (j:Int) 1=j-i:=by
 unfold Builtin.Slice.slicePlaces;have h1:(1:Int)>0:=by lia
 simp only[h1,if_true,Int.ediv_one];split<;>lia
theorem ma{v:Value}{o:Option Int}{Q:Option Int->Shared->Prop}(p:IsPart v o)(h:Q o s):wpAny (model prog w) A (Builtin.Slice.slicePartIndex v) Q E s:=by
 cases p with
 |none=>exact slicePart_none h
 |int i t=>exact slicePart_int h
theorem sliceApplied_gen{sl:Addr}{vl vu:Value}{lo hi:Option Int}{n:Nat}{Q:Int×Int×Nat->Shared->Prop}(hs:s.heap.IsSliceOf sl vl vu .none)(pl:IsPart vl lo)(pu:IsPart vu hi)
  (h:Q (((sIx n 0 lo:Nat):Int),1,sIx n n hi-sIx n 0 lo) s):wpAny (model prog w) A (Builtin.Slice.sliceApplied (.ref sl) (pure (n:Int))) Q E s:=by
 obtain⟨os,Ee,FR,TW⟩:=id hs;unfold Builtin.Slice.sliceApplied Builtin.Slice.sliceFields;refine zZ (zZ (yC Ee TW (x:=vl) rfl (zZ (yC Ee TW (x:=vu) rfl (zZ (yC Ee TW (x:=.none) rfl (zW ?_)))))));refine zZ (slicePart_none ?_);show wpAny _ _ (if((1:Int)==0)=true then _ else _) _ _ s;rw[zK (by decide)];refine zZ (ma pl (zZ (ma pu (zZ (zW ?_)))));show wpAny _ _ (match Builtin.Slice.sliceAdjust lo hi 1 (n:Int)with|(lo,hi)=>pure (lo,(1:Int),Builtin.Slice.slicePlaces lo hi 1)) _ _ s;rw[Yr lo hi n];show wpAny _ _ (pure (((sIx n 0 lo:Nat):Int),(1:Int),Builtin.Slice.slicePlaces ((sIx n 0 lo:Nat):Int) ((sIx n n hi:Nat):Int) 1)) _ _ s;rw[Zt];exact zW h
theorem T2(xs:Array Value)(i k:Nat):((List.range k).filterMap λ(m:Nat)=>xs[((i:Int)+(m:Int)*1).toNat]?).toArray=((xs.toList.drop i).take k).toArray:=by
 have e:(λ(m:Nat)=>xs[((i:Int)+(m:Int)*1).toNat]?)=λm=>xs[i+m]?:=by
  funext m
  have:((i:Int)+(m:Int)*1).toNat=i+m:=by lia
  rw[this]
 rw[e];have:=pick_run xs i k;rw[List.filterMap_map]at this;have e2:((λx=>xs[x]?)∘λx=>i+x)=λm=>xs[i+m]?:=rfl;rw[e2]at this;rw[this]
theorem getItem_tuple_cut{t sl:Addr}{items:Array Value}{vl vu:Value}{lo hi:Option Int}{Q:Value->Shared->Prop}(ht:IsTup s.heap t items)(hs:s.heap.IsSliceOf sl vl vu .none)(pl:IsPart vl lo)(pu:IsPart vu hi)
  (hw:¬(sIx items.size 0 lo=0/\sIx items.size items.size hi=items.size))
  (h:Q (.ref s.heap.objs.size) { s with heap:=s.heap.push { cls:=.type "tuple",data:=.seq ((items.toList.drop (sIx items.size 0 lo)).take (sIx items.size items.size hi-sIx items.size 0 lo)).toArray } })
  (hsz:items.size<=sizeLine):wpAny (model prog w) A (getItem (.ref t) (.ref sl)) Q E s:=by
 have Ay:sizeOk (.seq ((items.toList.drop (sIx items.size 0 lo)).take (sIx items.size items.size hi-sIx items.size 0 lo)).toArray):=by
  show((items.toList.drop (sIx items.size 0 lo)).take (sIx items.size items.size hi-sIx items.size 0 lo)).toArray.size<=sizeLine;rw[zQ,wZ,yG,xQ];lia
 have hj:sIx items.size items.size hi<=items.size:=Nu _ _ (zT _) hi;obtain⟨os,Ee,FR,TW⟩:=id hs;have UD:s.TypeIs (.ref sl) "slice":=⟨os,Ee,FR⟩
 unfold getItem
 try with_reducible refine xS ?_
 first|refine zZ (zW ?_)|skip
 refine zZ (wpAny_sequenceKey ht.typeIs (by decide) ?_);refine zZ (xM (name:=Str.ofString "__getitem__") ht.typeIs xR
  (xW xR ht.typeIs entry_tuple_getitem ?_ (args_tuple_getitem _ _)))
 show wpAny _ _ (Builtin.Tuple.tupleItemsOf (.ref t) >>= _) _ _ s;refine zZ (tupleItemsOf_ ht ?_);refine zZ (uI UD ?_);rw[zH (by decide)];refine zZ (sliceApplied_gen hs pl pu ?_);have qG:¬((((sIx items.size 0 lo:Nat):Int)==0&&(1:Int)==1&&(sIx items.size items.size hi-sIx items.size 0 lo)==items.size)=true):=by
  intro q;rw[yN,yN]at q;have q1:((sIx items.size 0 lo:Nat):Int)=0:=eq_of_beq q.1.1;have q2:sIx items.size items.size hi-sIx items.size 0 lo=items.size:=eq_of_beq q.2;exact hw ⟨by lia,by lia⟩
 show wpAny _ _ (if(((sIx items.size 0 lo:Nat):Int)==0&&(1:Int)==1&&(sIx items.size items.size hi-sIx items.size 0 lo)==items.size)=true then _ else _) _ _ s;rw[zK qG,T2]
 first
  |exact zZ (m:=Builtin.Tuple.tupleExact _) (yB (zW ⟨_,rfl,zW h⟩) Ay)
  |exact zZ (m:=Builtin.Tuple.tupleExact _) (yB (zZ (zW (zW ⟨_,rfl,zW h⟩))) Ay)
  |exact zZ (zZ (m:=Builtin.Tuple.tupleExact _) (yB (zW (zW ⟨_,rfl,zW h⟩)) Ay))
  |exact zZ (zZ (m:=Builtin.Tuple.tupleExact _) (yB (zW ⟨_,rfl,zW h⟩) Ay))
end
end HT
namespace L2
open PySem PySem.Spec PyProof.Rows
abbrev TO:=St->Hp->(Option Int->Hp->Prop)->Prop
def PO(X:Cx)(e:Option Expr)(t:TO):Prop :=
 ∀(pins:List (Addr×Obj))(s:Shared)(σ:St)(H:Hp)(Q:Option Int->Hp->Prop),Inv X pins σ H s->t σ H Q ->
  wpAny (model X.prog X.w) X.A (evalPart e X.env) (λu s'=>∃o H',Inv X pins σ H' s'/\IsPart u o/\Q o H') X.xe s
def Yo:TO:=λ_ H Q=>Q none H
theorem Y7{ns:List Int}:∀{us:List Value},Vals (ns.map V.int) us->IntsAre us ns:=by
 induction ns with
 |nil=>intro us r;rw[List.map_nil]at r;cases r;exact .nil
 |cons n ns ih =>
  intro us r;rw[List.map_cons]at r;cases r with
  |cons r1 r2 =>
   obtain⟨t,e⟩:=r1;subst e;exact .cons n t (ih r2)
section
variable {X:Cx}{e:Expr}{te:TE}{lo hi:Option Expr}{tl th:TO}{pos p2:Pos}
theorem xg:PO X none Yo:=by
 intro pins s σ H Q I h;rw[evalPart_none];exact zW ⟨none,H,I,.none,h⟩
def SlR(X:Cx)(r:V->Option Int->Option Int->Hp->VK->Prop):Prop :=
 ∀(pins:List (Addr×Obj))(s:Shared)(σ:St)(H:Hp)(x:V)(v vl vu:Value)(lo hi:Option Int)(sl:Addr)(Q:VK),Inv X pins σ H s->RelV x v->s.heap.IsSliceOf sl vl vu .none->IsPart vl lo->IsPart vu hi->r x lo hi H Q ->
  ∃T id,typeLookup (.type T) "__getitem__"=pure (some (.builtin id))/\s.TypeIs v T/\wpAny (model X.prog X.w) X.A (getItem v (.ref sl)) (EP X pins σ Q) X.xe s
theorem SlR.or{r r':V->Option Int->Option Int->Hp->VK->Prop}(h:SlR X r)(h':SlR X r'):SlR X (λx lo hi H Q=>r x lo hi H Q\/r' x lo hi H Q):=by
 intro pins s σ H x v vl vu lo hi sl Q I rx hs pl pu q;rcases q with q|q
 ·exact h pins s σ H x v vl vu lo hi sl Q I rx hs pl pu q
 ·exact h' pins s σ H x v vl vu lo hi sl Q I rx hs pl pu q
def tSl(r:V->Option Int->Option Int->Hp->VK->Prop)(te:TE)(tl th:TO):TE:=fun σ H Q=>te σ H λx H1=>tl σ H1 λl H2=>th σ H2 λu H3=>r x l u H3 Q
theorem Tz{r:V->Option Int->Option Int->Hp->VK->Prop}(hr:SlR X r)(he:PE X e te)(hl:PO X lo tl)(hu:PO X hi th):PE X (.Subscript e (.Slice lo hi none p2) pos) (tSl r te tl th):=by
 intro pins s σ H Q I h;refine Subscript_ (thn (he pins s σ H _ I h) λv s1 ⟨x,H1,I1,r1,q1⟩=>?_);refine wpAny_Slice (thn (hl pins s1 σ H1 _ I1 q1) λvl s2 ⟨l,H2,I2,pl,q2⟩=>thn (hu pins s2 σ H2 _ I2 q2) λvu s3 ⟨u,H3,I3,pu,q3⟩=>?_);rw[evalPart_none];refine zW ?_;have I4:Inv X pins σ H3 { s3 with heap:=s3.heap.push { cls:=.type "slice",data:=.fields #[vl,vu,.none] } }:=I3.kept (t':=s3.toks) λb ob q=>zY _ q;obtain⟨T,id,hT,ht,hg⟩:=hr pins { s3 with heap:=s3.heap.push { cls:=.type "slice",data:=.fields #[vl,vu,.none] } } σ H3 x v vl vu l u s3.heap.objs.size Q I4 r1 (Heap.IsSliceOf.new ..) pl pu q3;show wpAny (model X.prog X.w) X.A (subscriptTail e (.Slice lo hi none p2) v (.ref s3.heap.objs.size)) (EP X pins σ Q) X.xe { s3 with heap:=s3.heap.push { cls:=.type "slice",data:=.fields #[vl,vu,.none] } };exact tail_any (ops:=[.ref s3.heap.objs.size,v]) ht hT hg (by with_unfolding_all rfl)
def uz(xs:List V)(lo hi:Option Int):List V:=(xs.drop (HT.sIx xs.length 0 lo)).take (HT.sIx xs.length xs.length hi-HT.sIx xs.length 0 lo)
theorem nu(xs:List V)(lo hi:Option Int):(uz xs lo hi).length<=xs.length:=by
 unfold uz;rw[wZ,yG];lia
def Gx(K:W.Frag):V->Option Int->Option Int->Hp->VK->Prop:=λx lo hi H Q=>∃a xs,x = .ref a/\SqT K H a xs /\
 ¬(HT.sIx xs.length 0 lo=0/\HT.sIx xs.length xs.length hi=xs.length)/\∀p,H p=none->Q (.ref p) (upd H p (.tup (uz xs lo hi)))
theorem N1:SlR X (Gx X.K):=by
 intro pins s σ H x v vl vu lo hi sl Q I rx hs pl pu h;obtain⟨a,xs,rfl,hx,hw,q⟩:=h;cases rx;obtain⟨aH,r,ht,hz⟩:=I.tuple hx;have aZ:aH.toArray.size=xs.length:=by rw[zQ];exact r.length.symm
 refine⟨"tuple",_,xR.lookup,ht.typeIs,?_⟩;refine HT.getItem_tuple_cut ht hs pl pu (by rw[aZ];exact hw) ?_ (by rw[aZ];exact hz);rw[aZ];refine⟨.ref s.heap.objs.size,_,I.laid (t':=s.toks) (o:=.tup (uz xs lo hi)) (λb ob q=>zY _ q) (zT _) ?_,rfl,q _ (I.hok.fresh (zT _))⟩;exact⟨yM (nu xs lo hi) hz,_,(r.drop (HT.sIx xs.length 0 lo)).take (HT.sIx xs.length xs.length hi-HT.sIx xs.length 0 lo),IsTup.new _ _⟩
def Km(K:W.Frag):R2:=λx y H Q=>∃a b xs ys,x = .ref a/\y = .ref b/\SqT K H a xs/\SqT K H b ys/\xs≠[]/\xs.length+ys.length<=sizeLine /\
 (ys=[]->Q (.ref a) H)/\(ys≠[]->∀p,H p=none->Q (.ref p) (upd H p (.tup (xs++ys))))
theorem Vals.nil_iff{xs:List V}{us:List Value}(r:Vals xs us):us=[]↔xs=[]:=by
 cases r with
 |nil=>simp
 |cons _ _=>simp
theorem Qe:OpR X (binaryOp .Add) (Km X.K):=by
 intro pins s σ H x y v u Q I rx ry h;obtain⟨a,b,xs,ys,rfl,rfl,ha,hb,hx,hz,q1,q2⟩:=h;cases rx;cases ry;obtain⟨aH,r1,p1,_⟩:=I.tuple ha;obtain⟨lA,r2,p2,_⟩:=I.tuple hb;refine HT.cat_tup p1 p2 (λz=>hx (r1.nil_iff.mp z)) (λz=>⟨.ref a,H,I,rfl,q1 (r2.nil_iff.mp z)⟩) (λz=>?_) (by rw[<-r1.length,<-r2.length];exact hz);refine⟨.ref s.heap.objs.size,_,I.laid (t':=s.toks) (o:=.tup (xs++ys)) (λb ob q=>zY _ q) (zT _) ?_,rfl,q2 (λw=>z (r2.nil_iff.mpr w)) _ (I.hok.fresh (zT _))⟩;exact⟨by rw[zL];exact hz,_,r1.append r2,IsTup.new _ _⟩
end
end L2
namespace L2
open PySem PySem.Spec PyProof.Rows
def ixN(n:Nat)(i:Int):Option Nat:=if 0<=i then(if i<n then some i.toNat else none)else if -(n:Int)<=i then some (i+n).toNat else none
def atI{α:Type}(xs:List α)(i:Int):Option α:=(ixN xs.length i).bind λj=>xs[j]?
theorem Xo{n:Nat}{i:Int}{j:Nat}(h:ixN n i=some j):seqIndex? i n=some j/\j<n/\-(n:Int)<=i/\i<n:=by
 unfold ixN at h
 by_cases h0:0<=i
 ·rw[zH h0]at h
  by_cases h1:i<n
  ·rw[zH h1]at h;have e:i.toNat=j:=yX h;exact⟨by rw[seqIndex_of h0 h1,e],by lia,by lia,h1⟩
  ·rw[zK h1]at h;cases h
 ·rw[zK h0]at h
  by_cases h1:-(n:Int)<=i
  ·rw[zH h1]at h;have e:(i+n).toNat=j:=yX h;exact⟨by rw[seqIndex_neg (by lia) h1,e],by lia,h1,by lia⟩
  ·rw[zK h1]at h;cases h
theorem d6{α:Type}{xs:List α}{i:Int}{v:α}(h:atI xs i=some v):∃j,seqIndex? i xs.length=some j/\xs[j]?=some v/\j<xs.length/\-(xs.length:Int)<=i/\i<xs.length:=by
 unfold atI at h;cases e:ixN xs.length i with
 |none=>rw[e]at h;cases h
 |some j =>
  rw[e]at h;obtain⟨h1,h2,h3,h4⟩:=Xo e;exact⟨j,h1,h,h2,h3,h4⟩
theorem mw{α:Type}{xs:List α}{j:Nat}{v:α}(h:xs[j]?=some v):atI xs (j:Int)=some v:=by
 have hj:j<xs.length:=(zV.mp h).1;have e:ixN xs.length (j:Int)=some j:=by
  unfold ixN;rw[zH (by lia),zH (by lia)];simp
 unfold atI;rw[e];exact h
def Xc(b:Expr):Prop:=∀o i,subscripted b false o i=operate [o,i] (getItem o i)
def IxR(X:Cx)(r:R2):Prop :=
 ∀(value slice:Expr)(pins:List (Addr×Obj))(s:Shared)(σ:St)(H:Hp)(x y:V)(v u:Value)(Q:VK),Inv X pins σ H s->RelV x v->RelV y u->r x y H Q ->
  subscripted slice false v u=operate [v,u] (getItem v u)->wpAny (model X.prog X.w) X.A (subscriptTail value slice v u) (EP X pins σ Q) X.xe s
def MtR(X:Cx)(id:String)(r:V->List V->Hp->VK->Prop):Prop :=
 ∀(pins:List (Addr×Obj))(s:Shared)(σ:St)(H:Hp)(x:V)(xs:List V)(v:Value)(us:List Value)(Q:VK),Inv X pins σ H s->RelV x v->Vals xs us->r x xs H Q ->
  wpAny (model X.prog X.w) X.A (call (.builtin id) (v::us)) (EP X pins σ Q) X.xe s
section
variable {X:Cx}{a b:Expr}{ta tb:TE}{pos:Pos}
theorem IxR.or{r r':R2}(h:IxR X r)(h':IxR X r'):IxR X (λx y H Q=>r x y H Q\/r' x y H Q):=by
 intro value slice pins s σ H x y v u Q I rx ry q hs;rcases q with q|q
 ·exact h value slice pins s σ H x y v u Q I rx ry q hs
 ·exact h' value slice pins s σ H x y v u Q I rx ry q hs
theorem Jw{r:R2}(hr:IxR X r)(ha:PE X a ta)(hb:PE X b tb)(hs:Xc b):PE X (.Subscript a b pos) (tOp r ta tb):=by
 intro pins s σ H Q I h;exact Subscript_ (Ln ha hb I h λv u s2 x y H2 I2 rx ry q=>hr a b pins s2 σ H2 x y v u Q I2 rx ry q (hs _ _))
def Kn(K:W.Frag):R2:=λx y H Q=>∃p xs i v,x = .ref p/\y = .int i/\SqL K H p xs/\atI xs i=some v/\Q v H
def Kp(K:W.Frag):R2:=λx y H Q=>∃p xs i v,x = .ref p/\y = .int i/\SqT K H p xs/\atI xs i=some v/\Q v H
def Ko:R2:=λx y H Q=>∃z i c,x = .str z/\y = .int i/\z.length<=sizeLine/\atI z.cps.toList i=some c/\Q (.str ⟨#[c]⟩) H
theorem ix_list:IxR X (Kn X.K):=by
 intro value slice pins s σ H x y v u Q I rx ry h hs;obtain⟨p,xs,i,z,rfl,rfl,hq,he,q⟩:=h;cases rx;obtain⟨t,rfl⟩:=ry;obtain⟨aH,r,pl,hz⟩:=I.list hq;obtain⟨j,h1,h2,h3,h4,h5⟩:=d6 he;obtain⟨w,ew,BN⟩:=r.get h2;have hl:=r.length;have hn:=pd;have bZ:EP X pins σ Q w s:=⟨z,H,I,BN,q⟩
 by_cases h0:0<=i
 ·have hj:i.toNat=j:=by
   rw[seqIndex_of h0 h5]at h1;exact yX h1
  exact item_listR pl.isList h0 (by lia) (by rw[hj];simpa using ew) bZ hs
 ·have hj:(i+(aH.toArray.size:Int)).toNat=j:=by
   rw[seqIndex_neg (by lia) h4]at h1;rw[zQ,<-hl];exact yX h1
  exact subscriptTail_builtinR (x:=w) pl.isList.typeIs slot_list_getitem.lookup
   (wpAny_getItem_list_neg (Q:=λr s'=>r=w/\EP X pins σ Q r s') pl.isList (by lia) (by rw[zQ]<;>lia) (by lia) (by rw[hj];simpa using ew) ⟨rfl,bZ⟩) hs
theorem ix_tup:IxR X (Kp X.K):=by
 intro value slice pins s σ H x y v u Q I rx ry h hs;obtain⟨p,xs,i,z,rfl,rfl,hq,he,q⟩:=h;cases rx;obtain⟨t,rfl⟩:=ry;obtain⟨aH,r,pl,hz⟩:=I.tuple hq;obtain⟨j,h1,h2,h3,h4,h5⟩:=d6 he;obtain⟨w,ew,BN⟩:=r.get h2;have hl:=r.length;have hn:=pd;have bZ:EP X pins σ Q w s:=⟨z,H,I,BN,q⟩
 exact subscriptTail_builtinR (x:=w) pl.typeIs slot_tuple_getitem.lookup
  (getItem_tuple (j:=j) (Q:=λr s'=>r=w/\EP X pins σ Q r s') pl (by lia) (by lia) (by rw[zQ,<-hl];exact h1) (by simpa using ew) ⟨rfl,bZ⟩) hs
theorem L5:IxR X Ko:=by
 intro value slice pins s σ H x y v u Q I rx ry h hs;obtain⟨z,i,c,rfl,rfl,hz,he,q⟩:=h;obtain⟨t,rfl⟩:=rx;obtain⟨t',rfl⟩:=ry;obtain⟨j,h1,h2,h3,h4,h5⟩:=d6 he;have hl:z.cps.toList.length=z.length:=by simp[Str.length]
 rw[hl]at h1 h4 h5;have hn:=pd;exact tail_any (uY s z t) slot_str_getitem.lookup (getItem_str (c:=c) (by
  have e1:decide (i < -(2 ^ 63:Int))=false:=zA (by lia);have e2:decide (i≥2 ^ 63)=false:=zA (by lia);rw[e1,e2,Bool.or_false]) (by rw[h1];simpa using h2) ⟨.str ⟨#[c]⟩,H,I.tok _,⟨_,rfl⟩,q⟩) hs
def rIx(K:W.Frag):R2:=λx y H Q=>Kn K x y H Q\/Kp K x y H Q\/Ko x y H Q
theorem L4:IxR X (rIx X.K):=ix_list.or (ix_tup.or L5)
theorem Zd(aH:List Value)(n j:Nat)(u:Value):Obj.mapSeq (·.setIfInBounds j u) { cls:=.type "list",data:=.seq aH.toArray n }={ cls:=.type "list",data:=.seq (aH.set j u).toArray n }:=by
 simp[Obj.mapSeq]
theorem Inv.lst{pins:List (Addr×Obj)}{σ:St}{H:Hp}{s:Shared}{p:Addr}{xs:List V}(I:Inv X pins σ H s)(h:H p=some (.lst xs)):
  ∃(aH:List Value)(n:Nat),Vals xs aH/\s.heap.get? p=some { cls:=.type "list",data:=.seq aH.toArray n }/\xs.length<=sizeLine:=by
 obtain⟨z,aH,n,r,e⟩:=I.hok p _ h;exact⟨aH,n,r,e,z⟩
theorem Inv.lstUpd{pins:List (Addr×Obj)}{σ:St}{H:Hp}{s:Shared}{p:Addr}{xs ys:List V}{aH its':List Value}{n n':Nat}{f:Obj->Obj}(I:Inv X pins σ H s)(h:H p=some (.lst xs))
  (ho:s.heap.get? p=some { cls:=.type "list",data:=.seq aH.toArray n }) (hf:f { cls:=.type "list",data:=.seq aH.toArray n }={ cls:=.type "list",data:=.seq its'.toArray n' }) (r:Vals ys its') (hz:ys.length<=sizeLine) (t:Nat) :
  Inv X pins σ (upd H p (.lst ys)) { s with heap:=s.heap.update p f,toks:=t }:=by
 have e:(s.heap.update p f).get? p=some { cls:=.type "list",data:=.seq its'.toArray n' }:=by
  rw[yD f ho (by rw[hf]<;>rfl),hf]
 refine I.write (x:=p) (e:=p) (by rw[h];trivial) (.inl rfl) (λb u hb q=>(yS _ _ (wY hb)).trans q) ⟨_,e⟩ ?_;exact⟨hz,its',n',r,e⟩
def Kq:V->V->V->Hp->(Hp->Prop)->Prop:=λo i v H Q=>∃p xs k j,o = .ref p/\i = .int k/\H p=some (.lst xs)/\ixN xs.length k=some j/\Q (upd H p (.lst (xs.set j v)))
theorem Uj:Lk X Kq:=by
 intro pins s σ H o i v ov iv u Q I ro ri rv h;obtain⟨p,xs,k,j,rfl,rfl,hp,hj,q⟩:=h;cases ro;obtain⟨t,rfl⟩:=ri;obtain⟨aH,n,r,ho,hz⟩:=I.lst hp;obtain⟨h1,h2,h3,h4⟩:=Xo hj;have hl:=r.length;have hn:=pd;have I':Inv X pins σ (upd H p (.lst (xs.set j v))) { s with heap:=s.heap.update p (Obj.mapSeq (·.setIfInBounds j u)) } :=
  I.lstUpd hp ho (Zd aH n j u) (r.set rv j) (by rw[List.length_set];exact hz) s.toks
 by_cases h0:0<=k
 ·have hk:k.toNat=j:=by
   rw[seqIndex_of h0 h4]at h1;exact yX h1
  exact W.ki_setAt ho h0 (by lia) (by rw[zQ,<-hl];exact h4) (by rw[hk];exact⟨_,I',q⟩)
 ·have hk:(k+(aH.toArray.size:Int)).toNat=j:=by
   rw[seqIndex_neg (by lia) h3]at h1;rw[zQ,<-hl];exact yX h1
  exact W.ki_setBack ho (by lia) (by rw[zQ,<-hl];exact h3) (by lia) (by rw[hk];exact⟨_,I',q⟩)
theorem gg(lo hi:Option Int)(n:Nat):(sliceBounds lo hi none n).1=((HT.sIx n 0 lo:Nat):Int)/\(sliceBounds lo hi none n).2.1=((HT.sIx n n hi:Nat):Int)/\(sliceBounds lo hi none n).2.2=1:=by
 refine⟨?_,?_,rfl⟩
 ·cases lo with
  |none=>simp[sliceBounds,HT.sIx]
  |some i =>
   simp only[sliceBounds,HT.sIx,Option.getD_none,show(1:Int)>0 by decide,if_true]
   by_cases h:i<0
   ·simp only[h,if_true]<;>lia
   ·simp only[h,if_false]<;>lia
 ·cases hi with
  |none=>simp[sliceBounds,HT.sIx]
  |some i =>
   simp only[sliceBounds,HT.sIx,Option.getD_none,show(1:Int)>0 by decide,if_true]
   by_cases h:i<0
   ·simp only[h,if_true]<;>lia
   ·simp only[h,if_false]<;>lia
theorem ka(aH:List Value)(lo hi:Option Int):slicePick aH.toArray lo hi none=((aH.drop (HT.sIx aH.length 0 lo)).take (HT.sIx aH.length aH.length hi-HT.sIx aH.length 0 lo)).toArray:=by
 obtain⟨h1,h2,h3⟩:=gg lo hi aH.toArray.size;unfold slicePick;rw[h1,h2,h3];simp only[sliceRange_one,pick_run,zQ]<;>rfl
def Gw(K:W.Frag):V->Option Int->Option Int->Hp->VK->Prop:=λx lo hi H Q=>∃a xs,x = .ref a/\SqL K H a xs/\∀p,H p=none->Q (.ref p) (upd H p (.lst (uz xs lo hi)))
theorem Q1:SlR X (Gw X.K):=by
 intro pins s σ H x v vl vu lo hi sl Q I rx hs pl pu h;obtain⟨a,xs,rfl,hx,q⟩:=h;cases rx;obtain⟨aH,r,ht,hz⟩:=I.list hx;have aZ:=r.length;refine⟨"list",_,slot_list_getitem.lookup,ht.isList.typeIs,?_⟩;refine wpAny_getItem_list_slice ht.isList hs pl pu .none (by simp) ?_ (by rw[zQ]<;>lia);rw[ka,<-aZ];refine⟨.ref s.heap.objs.size,_,I.laid (t':=s.toks) (o:=.lst (uz xs lo hi)) (λb ob q=>zY _ q) (zT _) ?_,rfl,q _ (I.hok.fresh (zT _))⟩;exact⟨yM (nu xs lo hi) hz,_,0,(r.drop (HT.sIx xs.length 0 lo)).take (HT.sIx xs.length xs.length hi-HT.sIx xs.length 0 lo),zR _ rfl⟩
def ve:V->Bool
 | .non=>true
 | .bl _=>true
 | .int _=>true
 | .str _=>true
 |_=>false
def eqV:V->V->Bool
 | .non,.non=>true
 | .bl a,.bl b=>a==b
 | .bl a,.int b=>(if a then 1 else 0)==b
 | .int a,.bl b=>a==(if b then 1 else 0)
 | .int a,.int b=>a==b
 | .str a,.str b=>a==b
 |_,_=>false
theorem Lx{A:Around}{s:Shared}{y x:V}{u v:Value}(ry:RelV y u)(rx:RelV x v)(fy:ve y=true)(fx:ve x=true):SeqAt.EqAt A s u v (eqV y x):=by
 cases y with
 |non =>
  cases ry;cases x with
  |non=>cases rx;exact SeqAt.EqAt.same _
  |bl b=>cases rx;exact SeqAt.EqAt.none_bool b
  |int b=>obtain⟨t,rfl⟩:=rx;exact SeqAt.EqAt.none_int b t
  |str b=>obtain⟨t,rfl⟩:=rx;exact SeqAt.EqAt.none_str b t
  |_=>exact absurd (show false=true from fx) zJ
 |bl a =>
  cases ry;cases x with
  |non=>cases rx;exact SeqAt.EqAt.bool_none a
  |bl b=>cases rx;exact SeqAt.EqAt.bool_bool a b
  |int b=>obtain⟨t,rfl⟩:=rx;exact SeqAt.EqAt.bool_int a b t
  |str b=>obtain⟨t,rfl⟩:=rx;exact SeqAt.EqAt.bool_str a b t
  |_=>exact absurd (show false=true from fx) zJ
 |int a =>
  obtain⟨t',rfl⟩:=ry;cases x with
  |non=>cases rx;exact SeqAt.EqAt.int_none a t'
  |bl b=>cases rx;exact SeqAt.EqAt.int_bool a t' b
  |int b=>obtain⟨t,rfl⟩:=rx;exact SeqAt.EqAt.int_int a t' b t
  |str b=>obtain⟨t,rfl⟩:=rx;exact SeqAt.EqAt.int_str a t' b t
  |_=>exact absurd (show false=true from fx) zJ
 |str a =>
  obtain⟨t',rfl⟩:=ry;cases x with
  |non=>cases rx;exact SeqAt.EqAt.str_none a t'
  |bl b=>cases rx;exact SeqAt.EqAt.str_bool a t' b
  |int b=>obtain⟨t,rfl⟩:=rx;exact SeqAt.EqAt.str_int a t' b t
  |str b=>obtain⟨t,rfl⟩:=rx;exact SeqAt.EqAt.str_str a t' b t
  |_=>exact absurd (show false=true from fx) zJ
 |_=>exact absurd (show false=true from fy) zJ
def eqU(x:V)(u:Value):Bool:=match u with
 | .none=>eqV .non x
 | .bool b=>eqV (.bl b) x
 | .int i _=>eqV (.int i) x
 | .str z _=>eqV (.str z) x
 |_=>false
theorem Ry{x y:V}{u:Value}(r:RelV y u)(f:ve y=true):eqU x u=eqV y x:=by
 cases y with
 |non=>cases r;rfl
 |bl b=>cases r;rfl
 |int i=>obtain⟨t,rfl⟩:=r;rfl
 |str z=>obtain⟨t,rfl⟩:=r;rfl
 |_=>exact absurd (show false=true from f) zJ
theorem d5{x:V}:∀{xs:List V}{us:List Value},Vals xs us->xs.all ve=true->us.any (eqU x)=xs.any λy=>eqV y x
 |_,_,.nil,_=>rfl
 |y::xs,u::us,.cons r t,f=>by
  rw[List.all_cons,yN]at f;rw[tE,tE,Ry r f.1,d5 t f.2]
theorem li{A:Around}{s:Shared}{x:V}{v:Value}(rx:RelV x v)(fx:ve x=true):∀{xs:List V}{us:List Value},Vals xs us->xs.all ve=true->∀u∈us,SeqAt.EqAt A s u v (eqU x u)
 |_,_,.nil,_=>λu hu=>by cases hu
 |y::xs,u::us,.cons r t,f=>λu' hu=>by
  rw[List.all_cons,yN]at f;rcases zD.mp hu with rfl|hu
  ·rw[Ry r f.1];exact Lx r rx f.1 fx
  ·exact li rx fx t f.2 u' hu
def inV(x:V)(xs:List V):Bool:=xs.any λy=>eqV y x
def rIn(K:W.Frag)(neg:Bool):R2:=λx y H Q=>∃p xs,y = .ref p/\(SqL K H p xs\/SqT K H p xs)/\ve x=true/\xs.all ve=true/\Q (.bl (if neg then !inV x xs else inV x xs)) H
theorem Wr:OpR X (compareOp .In) (rIn X.K false):=by
 intro pins s σ H x y v u Q I rx ry h;obtain⟨p,xs,rfl,hq,fx,fs,q⟩:=h;cases ry;rcases hq with hq|hq
 ·obtain⟨aH,r,pl,hz⟩:=I.list hq;refine SeqAt.in_listAt (eqU x) pl.isList (λw hw=>li rx fx r fs w (by simpa using hw)) ⟨.bl _,H,I,rfl,?_⟩;rw[show aH.toArray.any (eqU x)=aH.any (eqU x)by simp,d5 r fs];exact q
 ·obtain⟨aH,r,pl,hz⟩:=I.tuple hq;refine SeqAt.in_tupleAt (eqU x) pl (λw hw=>li rx fx r fs w (by simpa using hw)) ⟨.bl _,H,I,rfl,?_⟩;rw[show aH.toArray.any (eqU x)=aH.any (eqU x)by simp,d5 r fs];exact q
theorem d8:wv X (.builtin "len") (λxs H Q=>∃p ys,xs=[.ref p]/\(SqL X.K H p ys\/SqT X.K H p ys)/\Q (.int ys.length) H):=by
 intro pins s σ H xs us Q I r h;obtain⟨p,ys,rfl,hq,q⟩:=h;obtain⟨u,rfl,rx⟩:=vn r;cases rx;have hn:=pd;rcases hq with hq|hq
 ·obtain⟨aH,r',pl,hz⟩:=I.list hq;have aZ:=r'.length;exact Calls.call_len_list pl.isList (by simp only[zQ]<;>lia) ⟨.int ys.length,H,I.tok _,⟨s.toks+1,by rw[zQ,aZ]⟩,q⟩
 ·obtain⟨aH,r',pl,hz⟩:=I.tuple hq;have aZ:=r'.length;exact len_tuple pl (by simp only[zQ]<;>lia) ⟨.int ys.length,H,I.tok _,⟨s.toks+1,by rw[zQ,aZ]⟩,q⟩
theorem d9:wv X (.builtin "len") (λxs H Q=>∃z,xs=[.str z]/\z.length<=sizeLine/\Q (.int z.length) H):=by
 intro pins s σ H xs us Q I r h;obtain⟨z,rfl,hz,q⟩:=h;obtain⟨u,rfl,t,rfl⟩:=vn r;have hn:=pd;exact len_str (by lia) ⟨.int z.length,H,I.tok _,⟨_,rfl⟩,q⟩
theorem eh:wv X (.type "list") (λxs H Q=>∃p ys,xs=[.ref p]/\(SqL X.K H p ys\/SqT X.K H p ys)/\∀l,H l=none->Q (.ref l) (upd H l (.lst ys))):=by
 intro pins s σ H xs us Q I r h;obtain⟨p,ys,rfl,hq,q⟩:=h;obtain⟨u,rfl,rx⟩:=vn r;cases rx;have bZ:∀(aH:List Value),Vals ys aH->ys.length<=sizeLine->∀(h':Heap)(c':Nat),(∀b o',s.heap.get? b=some o'->h'.get? b=some o') ->
   h'.get? s.heap.objs.size=some { cls:=.type "list",dict:=none,data:=.seq aH.toArray c',slots:=#[] }->EP X pins σ Q (.ref s.heap.objs.size) { s with heap:=h' }:=λaH r' hz h' c' kp e =>
  ⟨.ref s.heap.objs.size,_,I.laid (t':=s.toks) kp (zT _) (show ObjOk X.prog X.w _ h' _ (.lst ys)from⟨hz,aH,c',r',e⟩),rfl,q _ (I.hok.fresh (zT _))⟩
 rcases hq with hq|hq
 ·obtain⟨aH,r',pl,hz⟩:=I.list hq;have aZ:=r'.length;obtain⟨o,ho,hc,n,hd⟩:=pl.isList;exact call_list_seq p (.inl rfl) ho hc hd (λh' c' kp e=>bZ aH r' hz h' c' kp e) (by simp only[zQ]<;>lia)
 ·obtain⟨aH,r',pl,hz⟩:=I.tuple hq;have aZ:=r'.length;obtain⟨o,ho,hc,n,hd⟩:=pl;exact call_list_seq p (.inr rfl) ho hc hd (λh' c' kp e=>bZ aH r' hz h' c' kp e) (by simp only[zQ]<;>lia)
theorem rn:wv X (.type "tuple") (λxs H Q=>∃p ys,xs=[.ref p]/\((SqL X.K H p ys/\∀l,H l=none->Q (.ref l) (upd H l (.tup ys)))\/(SqT X.K H p ys/\Q (.ref p) H))):=by
 intro pins s σ H xs us Q I r h;obtain⟨p,ys,rfl,h⟩:=h;obtain⟨u,rfl,rx⟩:=vn r;cases rx;rcases h with⟨hq,q⟩|⟨hq,q⟩
 ·obtain⟨aH,r',pl,hz⟩:=I.list hq;have aZ:=r'.length;refine call_tuple_list pl.isList (λh' kp=>?_) (by simp only[zQ]<;>lia);have I1:Inv X pins σ H { s with heap:=h' }:=I.kept (t':=s.toks) kp;have I2:Inv X pins σ (upd H h'.objs.size (.tup ys)) { s with heap:=h'.push { cls:=.type "tuple",data:=.seq aH.toArray } } :=
   I1.laid (t':=s.toks) (λb o e=>zY _ e) (zT _) (show ObjOk X.prog X.w _ _ _ (.tup ys)from⟨hz,aH,r',IsTup.new _ _⟩)
  exact⟨.ref h'.objs.size,_,I2,rfl,q _ (I1.hok.fresh (zT _))⟩
 ·obtain⟨aH,r',pl,hz⟩:=I.tuple hq;exact call_tuple_same pl ⟨.ref p,H,I,rfl,q⟩
def tyV(K:W.Frag)(T:String)(x:V)(H:Hp):Prop:=match x with
 | .str _=>T="str"
 | .int _=>T="int"
 | .ref p=>(T="list"/\∃xs,SqL K H p xs)\/(T="tuple"/\∃o,K.lookup p=some o/\o.cls = .type "tuple"/\o.dict=none) \/
   (T="dict"/\((∃kvs,H p=some (.dK kvs))\/∃kvs,H p=some (.dT kvs)))\/(T="set"/\∃S n,H p=some (.set S n))
 |_=>False
theorem N7{pins:List (Addr×Obj)}{σ:St}{H:Hp}{s:Shared}{T:String}{x:V}{v:Value}(I:Inv X pins σ H s)(r:RelV x v)(ty:tyV X.K T x H):
  s.TypeIs v T/\∀a,v = .ref a->∃ob,s.heap.get? a=some ob/\ob.dict=none:=by
 cases x with
 |str z =>
  obtain⟨t,rfl⟩:=r;cases(show T="str" from ty);exact⟨uY s z t,λ_ e=>nomatch e⟩
 |int i =>
  obtain⟨t,rfl⟩:=r;cases(show T="int" from ty);exact⟨typeIs_int s i t,λ_ e=>nomatch e⟩
 |ref p =>
  cases r;rcases ty with⟨rfl,xs,hq⟩|⟨rfl,o,hk,hc,hd⟩|⟨rfl,hk⟩|⟨rfl,S,n,hk⟩
  ·obtain⟨aH,_,pl,_⟩:=I.list hq;refine⟨pl.isList.typeIs,λa e=>?_⟩;cases e;obtain⟨o,n,e,c,hd,_⟩:=pl;exact⟨o,e,hd⟩
  ·refine⟨⟨o,I.kIn p o hk,hc⟩,λa e=>?_⟩;cases e;exact⟨o,I.kIn _ o hk,hd⟩
  ·have z:∃o,s.heap.get? p=some o/\o.ExactDict:=by
    rcases hk with⟨kvs,hk⟩|⟨kvs,hk⟩
    ·obtain⟨_,_,_,_,o,_,_,e,ex,_⟩:=I.hok p _ hk;exact⟨o,e,ex⟩
    ·obtain⟨_,_,_,_,o,_,_,e,ex,_⟩:=I.hok p _ hk;exact⟨o,e,ex⟩
   obtain⟨o,e,ex⟩:=z;refine⟨⟨o,e,ex.1⟩,λa e2=>?_⟩;cases e2;exact⟨o,e,ex.2.1⟩
  ·obtain⟨o,_,_,_,e,ex,_⟩:=I.hok p _ hk;refine⟨⟨o,e,ex.1⟩,λa e2=>?_⟩;cases e2;exact⟨o,e,ex.2.1⟩
 |_=>exact False.elim ty
variable {o e:Expr}{es:List Expr}{to:TE}{t:TA}{name:Str}{apos cpos:Pos}{T id:String}{r:V->List V->Hp->VK->Prop}
end
end L2
namespace L2
open PySem PySem.Spec PyProof.Rows
def MtM(X:Cx)(id:String)(r:V->List V->Hp->VK->Prop):Prop :=
 ∀(pins:List (Addr×Obj))(s:Shared)(σ:St)(H:Hp)(x:V)(xs:List V)(v:Value)(us:List Value)(Q:VK),Inv X pins σ H s->RelV x v->Vals xs us->r x xs H Q ->
  wpAny (model X.prog X.w) X.A (call (.builtin id) (v::us)) (EP X pins σ Q) X.xe s
theorem Vals.one:∀{x:V}{us:List Value},Vals [x] us->∃u,us=[u]/\RelV x u
 |_,_,.cons r .nil=>⟨_,rfl,r⟩
section
variable {X:Cx}{pins:List (Addr×Obj)}{σ:St}{H:Hp}{s:Shared}{l b:Addr}{xs ys zs:List V}
theorem Inv.lset{aH its':List Value}{n:Nat}{f:Array Value->Array Value}{t':Nat}(I:Inv X pins σ H s)(hH:H l=some (.lst xs))
  (e:s.heap.get? l=some { cls:=.type "list",data:=.seq aH.toArray n }) (hf:f aH.toArray=its'.toArray) (hv:Vals ys its') (hz:ys.length<=sizeLine) :
  Inv X pins σ (upd H l (.lst ys)) { s with heap:=s.heap.update l (Obj.mapSeq f),toks:=t' }:=by
 have q:=PySem.IsL.update e f;rw[hf]at q;refine I.write (x:=l) (e:=l) (by rw[hH];exact trivial) (.inl rfl) (λb' u hb hu=>(yS s.heap (Obj.mapSeq f) (wY hb)).trans hu) ⟨_,q⟩ ?_;exact⟨hz,its',_,hv,q⟩
theorem Inv.lnew{aH:List Value}{t':Nat}(I:Inv X pins σ H s)(hv:Vals ys aH)(hz:ys.length<=sizeLine):
  Inv X pins σ (upd H s.heap.objs.size (.lst ys)) { s with heap:=s.heap.push { cls:=.type "list",data:=.seq aH.toArray },toks:=t' } :=
 I.laid (λ_ _ q=>zY _ q) (zT _) ⟨hz,aH,0,hv,zR _ rfl⟩
theorem Inv.fresh(I:Inv X pins σ H s):H s.heap.objs.size=none:=I.hok.fresh (zT _)
theorem Inv.lstM(I:Inv X pins σ H s)(hH:H l=some (.lst xs)):xs.length<=sizeLine/\∃(aH:List Value)(n:Nat),Vals xs aH/\xs.length=aH.length/\s.heap.get? l=some { cls:=.type "list",data:=.seq aH.toArray n }:=by
 obtain⟨z,aH,n,r,e⟩:=I.hok l _ hH;exact⟨z,aH,n,r,r.length,e⟩
theorem b8{n:Nat}(h:n<=sizeLine):Builtin.List.listTooLong n=false:=by
 unfold Builtin.List.listTooLong;exact zA (by lia)
end
section
variable {X:Cx}
def Qp:V->List V->Hp->VK->Prop:=λx vs H Q=>∃l xs y,x = .ref l/\vs=[y]/\H l=some (.lst xs)/\xs.length<sizeLine/\Q .non (upd H l (.lst (xs++[y])))
theorem i0:MtM X "list.append" Qp:=by
 intro pins s σ H x vs v us Q I rx rv h;obtain⟨l,xs,y,rfl,rfl,hH,hz,q⟩:=h;cases rx;obtain⟨u,rfl,ru⟩:=rv.one;obtain⟨z,aH,n,r,hl,e⟩:=I.lstM hH;refine call_meets F.slot_list_append ⟨_,e,rfl⟩ F.entry_list_append (F.args_list_append_2 _ _) (PySem.list_append l aH.toArray n u (by rw[zQ];lia)) ⟨e,?_⟩;refine⟨.non,_,I.lset (its':=aH++[u]) hH e (by simp) (r.append (.cons ru .nil)) ?_,rfl,q⟩;rw[zL,wM];lia
def Qq:V->List V->Hp->VK->Prop:=λx vs H Q=>∃l b xs zs,x = .ref l/\vs=[.ref b]/\H l=some (.lst xs)/\H b=some (.lst zs)/\xs.length+zs.length<=sizeLine/\Q .non (upd H l (.lst (xs++zs)))
theorem Wf:MtM X "list.extend" Qq:=by
 intro pins s σ H x vs v us Q I rx rv h;obtain⟨l,b,xs,zs,rfl,rfl,hH,hB,hz,q⟩:=h;cases rx;obtain⟨u,rfl,ru⟩:=rv.one;cases ru;obtain⟨z,aH,n,r,hl,e⟩:=I.lstM hH;obtain⟨z2,lA,n2,r2,rD,e2⟩:=I.lstM hB;have hsz:aH.toArray.size+lA.toArray.size<=sizeLine:=by rw[zQ,zQ];lia
 have TH:¬(!aH.toArray.isEmpty&&Builtin.List.listTooLong (aH.toArray.size+lA.toArray.size))=true:=by
  rw[b8 hsz,tP];exact zJ
 refine call_meets F.slot_list_extend ⟨_,e,rfl⟩ F.entry_list_extend (F.args_list_extend_2 _ _)
  (AutoSeq1.list_extend_list_list_0 l aH.toArray n b lA.toArray n2 TH (by rw[zQ];lia) (by lia)) ⟨e,e2,?_⟩
 refine⟨.non,_,I.lset (its':=aH++lA) hH e (by simp) (r.append r2) ?_,rfl,q⟩;rw[zL];lia
def Gv:R2:=λx y H Q=>∃l b xs zs,x = .ref l/\y = .ref b/\H l=some (.lst xs)/\H b=some (.lst zs)/\xs.length+zs.length<=sizeLine/\∀p,H p=none->Q (.ref p) (upd H p (.lst (xs++zs)))
theorem Mt:OpR X (binaryOp .Add) Gv:=by
 intro pins s σ H x y v u Q I rx ry h;obtain⟨l,b,xs,zs,rfl,rfl,hH,hB,hz,q⟩:=h;cases rx;cases ry;obtain⟨z,aH,n,r,hl,e⟩:=I.lstM hH;obtain⟨z2,lA,n2,r2,rD,e2⟩:=I.lstM hB;refine PySem.P.add_list e e2 ?_ (by rw[zQ,zQ];lia);have ea:aH.toArray++lA.toArray=(aH++lA).toArray:=by simp
 rw[ea];exact⟨.ref _,_,I.lnew (t':=s.toks) (r.append r2) (by rw[zL];lia),rfl,q _ I.fresh⟩
end
section
variable {prog:Program}{w:World}{A:Around}{E:Value->Shared->Prop}{s:Shared}
end
section
variable {X:Cx}
end
end L2
namespace Att
open PySem PySem.W PySem.Calls PyProof.Rows
theorem nq{P:Params}{h:Heap}:∀(ns:List Int)(vs:List Value),WellAll P h vs (ns.map WData.int)->IntsAre vs ns:=by
 intro ns
 induction ns with
 |nil =>
  intro vs w;rw[List.map_nil]at w;cases w;exact .nil
 |cons n ns ih =>
  intro vs w;rw[List.map_cons]at w;cases w with
  |cons a b =>
   cases a;exact .cons _ _ (ih _ b)
theorem Wz{l:OpenLaw}{n:Nat}(hn:l.most=some n){P:Params}{h:Heap}{args:List WData}{DL:List Value}
  (pV:l.row.toRowW.claim.pre args=true) (hwl:WellAll P h DL args) :
  ∃a vs ns,DL=[Value.ref a]/\args=[WData.list (ns.map WData.int)]/\h.get? a=some { cls:=.type "list",data:=.seq vs.toArray }/\IntsAre vs ns/\ns.length<=n:=by
 have hsh:WShape.hasAll [] args [.list .int]=true:=(pre_splitW pV).1;have hc:l.pre.holds [] { args:=args }=true:=(pre_splitW pV).2;obtain⟨d,r,rfl,h1,h2⟩:=hasAllW_cons hsh;obtain rfl:=hasAllW_nil h2;obtain⟨xs,rfl,h3⟩:=hasW_list h1;obtain⟨ns,rfl⟩:=items_int h3;have aZ:ns.length<=n:=by
  unfold OpenLaw.pre at hc;have h4:(WTm.not (.lt (.lit (.int (n:Int))) (.len (.arg 0)))).holds [] { args:=[.list (ns.map .int)] }=true:=by
   have h4:=(holds_andW hc).1;rw[hn]at h4;exact h4
  have h5:=condW_of h4 (w_not (w_lt w_lit (w_len_list (w_arg rfl))));rw[zX]at h5;refine Nat.le_of_not_lt λq=>?_;have q':(n:Int)<((ns.length:Nat):Int):=by lia
  first
   |(rw[zO q']at h5;exact absurd h5 (by decide))
   |(simp at h5;lia)
 cases hwl with
 |cons w1 w2 =>
  cases w2;cases w1 with
  |list ho cR=>exact⟨_,_,ns,rfl,rfl,ho,nq ns _ cR,aZ⟩
theorem Wu(l:OpenLaw)(args:List WData):l.row.toRowW.claim.post args (.bool true) args=true :=
 postW_of (r:=l.row.toRowW) (X:=(true==true))
  (show WShape.has [] (.bool true) .bool=true by first|rfl|decide|simp[WShape.has,WShape.arms,WShape.armsAll])
  (show(WTm.eq .res (.lit (.bool true))).value [] { args:=args,res:=some (.bool true),after:=args }=some (.bool (true==true))from w_eq_bool (w_res rfl) w_lit) rfl
theorem attach_call{l:OpenLaw}{n:Nat}{q:Program}{pG:List Str}{XP:(Str->Option Value)->Heap->Prop}{YP:World->Heap->Prop}{d:DefRec}
  (hn:l.most=some n) (TX:d.params.defaults=[])
  (call:∀(w:World)(s₀ s₁:Shared)(mg mb:Str->Option Value)(fa:Addr)(o:Obj)(pm cd doc:Value)(a:Addr)(vs:List Value)(ns:List Int),
   Ground q pG [] XP w s₀ mg mb s₁.heap->YP w s₁.heap ->
   s₁.heap.get? fa=some o->o.data = .func (docDef d.name d.params d.body d.scope pm cd doc)->s₁.heap.CodeRec cd d.name->mg d.name=some (.ref fa) ->
   s₁.heap.get? a=some { cls:=.type "list",data:=.seq vs.toArray }->IntsAre vs ns->ns.length<=n->s₁.gens=#[] ->
   codeAny (model l.prog w) callerA (.call (.ref fa) ⟨[.ref a],[]⟩) (λr s'=>r = .ok (.ret (.bool true))/\OldK s₁.heap s'.heap/\s'.os=s₁.os/\AllBare s'.gens) s₁) :
  WalkO q pG XP YP l.row.toRowW d [] (λf vs=>PySem.call f vs):=by
 intro w s₀ s₁ mg mb G Y fa o pm cd doc dV kV ho hd qJ hD TF hg args DL as pV Ej SV hwl CP;obtain rfl:dV = .none:=Dflts.none hD TX;obtain rfl:kV = .none:=Dflts.noKw hD;obtain⟨a,vs,ns,rfl,rfl,Ef,B1,aZ⟩:=Wz hn pV hwl;refine enter_call (wA (call w s₀ s₁ mg mb fa o pm cd doc a vs ns G Y ho (fd_plain hd) qJ TF Ef B1 aZ hg) λr s' hq=>?_);obtain⟨rfl,h2,h3,h4⟩:=hq;exact⟨.inl ⟨.bool true,.bool true,[],rfl,λ_=>rfl,.bool true,Wu l _,λ_=>⟨List.Pairwise.nil,λ_ hm=>(nomatch hm)⟩⟩,h2,h3,h4⟩
section
variable {prog:Program}{w:World}{A:Around}{E:Value->Shared->Prop}{s:Shared}{K:Frag}
def Gc(h:Heap)(L d:Addr):List (Addr×Obj):=(List.range h.objs.size).filterMap λa=>if a=L\/a=d then none else(h.get? a).map λo=>(a,o)
end
end Att
namespace L2
open PySem PySem.Spec PyProof.Rows
theorem jw:∀{vs:List Value}{ns:List Int},IntsAre vs ns->Vals (ns.map V.int) vs
 |_,_,.nil=>.nil
 |_,_,.cons n t h=>.cons ⟨t,rfl⟩ (jw h)
def Lj(H:Hp):Prop:=∀b,H b=none\/∃o xs,H b=some (.frz o (.lst xs))
theorem Sj{P:Program}{w:World}{K:W.Frag}{mg mb:Str->Option Value}{CX:CXT}{k:Nat}{fa a:Addr}{fd:FuncData}{x:Str}{sp:Sp}{s₁:Shared}{vs:List Value}{ns:List Int}
  (KX:K.In s₁.heap) (CL:s₁.heap.Ns mainGlobals mg) (hb:s₁.heap.Ns builtinsNs mb) (hbb:∀x:Str,x≠"__name__"->mb x=bootBuiltins x) (hlim:s₁.heap.NoLimit) (hg:s₁.gens=#[])
  (ha:s₁.heap.get? a=some { cls:=.type "list",data:=.seq vs.toArray }) (hi:IntsAre vs ns) (hl:ns.length<=sizeLine) (hr:Room k callerA)
  (F:∀base:Heap,K.In base->base.Ns mainGlobals mg->FnOk P w K mg base CX k fa fd [x] sp) (UA:∀(s:Shared)(u:Value),BindsTo s fd ⟨[u],[]⟩ [(x,u)])
  (AR:∀H:Hp,Lj H->SqL K H a (ns.map V.int)->sp [.ref a] H (λv _=>v = .bl true) λ_ _ _=>False)
  (hCX:∀H e s',CX [] H s₁ (λ_ _ _=>False) e s'->False) :
  codeAny (model P w) callerA (.call (.ref fa) ⟨[.ref a],[]⟩) (λr s'=>r = .ok (.ret (.bool true))/\OldK s₁.heap s'.heap/\s'.os=s₁.os/\AllBare s'.gens) s₁:=by
 have rv:=jw hi;have lenV:=hi.length;have XR:∀H:Hp,Lj H->SqL K H a (ns.map V.int)->HOk P w H s₁.heap->(∀b,H b≠none->b=a)->(H a≠none->K.lookup a=none) ->
   codeAny (model P w) callerA (.call (.ref fa) ⟨[.ref a],[]⟩) (λr s'=>r = .ok (.ret (.bool true))/\OldK s₁.heap s'.heap/\s'.os=s₁.os/\AllBare s'.gens) s₁:=by
  intro H hO hS hok hA hK;have A5:∀{b:Addr}{o:Obj},s₁.heap.get? b=some o->H b=none->(fb s₁.heap H).get? b=some o:=λe n=>R6 e n;have MZ:∀{b:Addr}{o:Obj}{es:Array DictEntry}{ep:Nat},s₁.heap.get? b=some o->o.data = .dict es ep->H b=none:=λ{b o es ep} e d=>by
   cases q:H b with
   |none=>rfl
   |some u =>
    have e':b=a:=hA b (by rw[q];simp);subst e';rw[ha]at e;cases e;have d':Data.seq vs.toArray _=Data.dict es ep:=d;cases d'
  have nsK:∀{b:Addr}{m:Str->Option Value},s₁.heap.Ns b m->(fb s₁.heap H).Ns b m:=λ{b m} ⟨o,es,ep,e,d,r⟩=>⟨o,es,ep,A5 e (MZ e d),d,r⟩
  have hKb:K.In (fb s₁.heap H):=λb o e=>A5 (KX b o e) (by
   cases q:H b with
   |none=>rfl
   |some u =>
    have e':b=a:=hA b (by rw[q];simp);subst e';rw[hK (by rw[q];simp)]at e;cases e)
  have hM:Mod K mg (fb s₁.heap H):=⟨hKb,nsK CL,⟨mb,nsK hb,hbb⟩,let⟨mc,h1,h2⟩:=hlim;⟨mc,nsK h1,h2⟩⟩
  have e0:Env0 P w K mg (fb s₁.heap H) callerA [] s₁ H:=⟨rfl,hM,λb o e=>Py e,uZ (Vv _ _),trivial,λb hb=>absurd (show b∈([]:List Addr)from hb) (by simp),hok,.of_eq hg⟩
  refine wA ((F _ hKb (nsK CL)).run callerA [] s₁ H ⟨[.ref a],[]⟩ [.ref a] [.ref a] _ _ hr e0 (UA s₁ (.ref a)) (.cons rfl .nil) (AR H hO hS)) λr s' h=>?_;cases r with
  |error e=>exact(hCX H e s' h).elim
  |ok fl =>
   cases fl with
   |next=>exact False.elim h
   |brk=>exact False.elim h
   |cont=>exact False.elim h
   |ret u =>
    obtain⟨v,H',os,bare,un,hok',r',q⟩:=h;have q':v = .bl true:=q;subst q';obtain rfl:u=Value.bool true:=r';refine⟨rfl,OldK.of_keep λb o e=>?_,os,bare⟩;cases q:H b with
    |none=>exact un.keep b o e q (by intro z;exact absurd (show b∈([]:List Addr)from z) (by simp)) (by simp)
    |some u =>
     rcases hO b with z|⟨ob,xs,z⟩
     ·rw[q]at z;cases z
     ·have z2:=un.frzs b ob _ z;obtain⟨e1,_⟩:=hok b _ z;obtain⟨e2,_⟩:=hok' b _ z2;rw[e]at e1;cases e1;exact e2
 cases hk:K.lookup a with
 |some o =>
  have e:=KX a o hk;rw[ha]at e;cases e;refine XR (λ_=>none) (λ_=>.inl rfl) (.inr ⟨_,vs.toArray,_,hk,rfl,rfl,rfl,by rw[zQ,lenV];exact hl,by simpa using rv⟩) (λb u z=>by have z':(none:Option HO)=some u:=z;cases z') (λb z=>absurd rfl z) λz=>absurd rfl z
 |none =>
  refine XR (λb=>if b=a then some (.frz { cls:=.type "list",data:=.seq vs.toArray } (.lst (ns.map V.int)))else none) (λb=>?_) (.inl (.inr ⟨{ cls:=.type "list",data:=.seq vs.toArray },zH rfl⟩)) (λb u z=>?_) (λb z=>?_) λ_=>hk
  ·by_cases hb:b=a
   ·exact .inr ⟨_,_,zH hb⟩
   ·exact .inl (zK hb)
  ·by_cases hb:b=a
   ·have z':=(zH hb).symm.trans z;cases z';subst hb;exact⟨ha,by rw[zX];exact hl,vs,_,rv,ha⟩
   ·have z':=(zK hb).symm.trans z;cases z'
  ·by_cases hb:b=a
   ·exact hb
   ·exact absurd (zK hb) z
end L2
namespace L2
open PySem PySem.Spec PyProof.Rows
theorem walk_of{l:W.OpenLaw}{n k:Nat}{q:Program}{pG:List Str}{XP:(Str->Option Value)->Heap->Prop}{YP:World->Heap->Prop}{d:DefRec}{K:Params->W.Frag}{CX:World->CXT}{sp:World->Sp}{x:Str}
  (hn:l.most=some n) (BR:n<=sizeLine) (TX:d.params.defaults=[]) (hr:Room k callerA)
  (hY:∀(w:World)(h:Heap),YP w h->(K w.params).In h)
  (F:∀(w:World)(mg:Str->Option Value)(fa:Addr)(h:Heap),(K w.params).In h->h.Ns mainGlobals mg->mg d.name=some (.ref fa) ->
   ∃fd:FuncData,(∀(s:Shared)(u:Value),BindsTo s fd ⟨[u],[]⟩ [(x,u)]) /\
    ∀base:Heap,(K w.params).In base->base.Ns mainGlobals mg->FnOk l.prog w (K w.params) mg base (CX w) k fa fd [x] (sp w))
  (AR:∀(w:World)(H:Hp)(a:Addr)(ns:List Int),ns.length<=n->Lj H->SqL (K w.params) H a (ns.map V.int)->sp w [.ref a] H (λv _=>v = .bl true) λ_ _ _=>False)
  (hCX:∀(w:World)(H:Hp)(s:Shared)(e:Value)(s':Shared),CX w [] H s (λ_ _ _=>False) e s'->False) :
  W.WalkO q pG XP YP l.row.toRowW d [] (λf vs=>PySem.call f vs):=by
 refine Att.attach_call hn TX λw s₀ s₁ mg mb fa o pm cd doc a vs ns G Y ho hd qJ TF Ef B1 aZ hg=>?_;have KX:=hY w _ Y;obtain⟨fd,hb,hF⟩:=F w mg fa _ KX G.T.g TF;exact Sj KX G.T.g G.T.b G.T.builtins G.T.nolimit hg Ef B1 (yM aZ BR) hr hF hb (λH hO hS=>AR w H a ns aZ hO hS) λH e s'=>hCX w H s₁ e s'
end L2
namespace L2
open PySem PySem.Spec PyProof.Rows
def zu(s:Stmt):Arguments:=match s with
 | .FunctionDef _ a _ _ _ _ _ _ _ _=>a
 |_=>{ posonlyargs:=[],args:=[],vararg:=none,kwonlyargs:=[],kw_defaults:=[],kwarg:=none,defaults:=[] }
def zw(s:Stmt):List Stmt:=match s with
 | .FunctionDef _ _ b _ _ _ _ _ _ _=>b
 |_=>[]
def z4(s:Stmt):Scope:=match s with
 | .FunctionDef _ _ _ _ _ _ sc _ _ _=>sc
 |_=>{ kind:=.function,names:=[],isGenerator:=false,isCoroutine:=false }
abbrev CX0:CXT:=λ_ _ _ _ _ _=>False
abbrev E0:XK:=λ_ _ _=>False
theorem Tw{X:Cx}:v9 CX0 X E0:=λ_ _ _ _ _ _ _ h=>h.elim
structure Fun(K:W.Frag)(x qual:Str)(st:Stmt)(f:Addr)(fd:FuncData):Prop where
 ex:∃(oc:Value)(od:Option Addr)(kV doc pm:Value)(an:Option Addr)(cdv ct:Value)(osl:Array (Option Value)),
  fd=W.fnOf x qual (zu st) (zw st) (z4 st) .none kV doc pm an cdv ct/\K.lookup f=some ⟨oc,od,.func fd,osl⟩/\W.codeIn K cdv qual=true
 kp:W.keepIn K (.ref f)=true
section
variable {P:Program}{w:World}{K:W.Frag}{mg:Str->Option Value}{base:Heap}
theorem Fun.ok{x qual:Str}{st:Stmt}{f:Addr}{fd:FuncData}{N ps:List Str}{k:Nat}{sp:Sp}(F:Fun K x qual st f fd)(S:zr N ps (z4 st))(len:∀vs H Q E,sp vs H Q E->vs.length=ps.length)
  (bI:∀(cdv:Value)(A:Around)(outer:List Env)(s:Shared)(H:Hp)(vs:List V)(Q:VK)(E:XK),Room k (A.deeper (envOfC qual (z4 st) s.heap.objs.size f cdv))->sp vs H Q E ->
   ∃t,PSs (wg CX0 P w K mg base N qual (z4 st) f cdv A outer s H E).nox (zw st) t/\t { nx:=λ_ H'=>Q .non H',rt:=Q } (start N vs) H):FnOk P w K mg base CX0 (k+1) f fd ps sp:=by
 obtain⟨oc,od,kV,doc,pm,an,cdv,ct,osl,rfl,lk,qJ⟩:=F.ex;refine R0 lk qJ S len λA outer s H vs Q E hr AR=>?_;obtain⟨t,h,q⟩:=bI cdv A outer s H vs Q E hr AR;exact⟨t,h.nox,q⟩
theorem ez{x qual:Str}{st:Stmt}{f:Addr}{oc:Value}{od an:Option Addr}{osl:Array (Option Value)}{kV doc pm cdv ct:Value}(l:K.lookup f=some ⟨oc,od,.func (W.fnOf x qual (zu st) (zw st) (z4 st) .none kV doc pm an cdv ct),osl⟩)
  (c:W.codeIn K cdv qual=true) (k:W.keepIn K (.ref f)=true):Fun K x qual st f (W.fnOf x qual (zu st) (zw st) (z4 st) .none kV doc pm an cdv ct):=⟨⟨oc,od,kV,doc,pm,an,cdv,ct,osl,rfl,l,c⟩,k⟩
end
theorem vp{n:Nat}(h:n<=1000):n<sizeLine:=Nat.lt_of_le_of_lt h (by decide)
section
variable {X:Cx}
end
theorem w9{c A B:Prop}[Decidable c](h1:c->A)(h2:¬c->B):if c then A else B:=by
 by_cases h:c
 ·rw[zH h];exact h1 h
 ·rw[zK h];exact h2 h
def Same(H H':Hp):Prop:=∀b o,H b=some o->H' b=some o
theorem Same.refl(H:Hp):Same H H:=λ_ _ h=>h
theorem Same.trans{H H1 H2:Hp}(a:Same H H1)(b:Same H1 H2):Same H H2:=λc o h=>b c o (a c o h)
theorem Same.seq{K:W.Frag}{H H':Hp}{a:Addr}{xs:List V}(e:Same H H')(h:SqL K H a xs):SqL K H' a xs:=by
 rcases h with(h|⟨o,h⟩)|h
 ·exact .inl (.inl (e _ _ h))
 ·exact .inl (.inr ⟨o,e _ _ h⟩)
 ·exact .inr h
end L2
namespace L2
open PySem PySem.Spec PyProof.Rows
section
variable {κ:Type} [DecidableEq κ]
def gx(kvs:List (κ×V))(k:κ):Option V:=(kvs.find? λkv=>decide (kv.1=k)).map (·.2)
def qe(kvs:List (κ×V))(k:κ)(v:V):List (κ×V) :=
 if(kvs.any λkv=>decide (kv.1=k))=true then kvs.map (λkv=>if kv.1=k then(kv.1,v)else kv)else kvs++[(k,v)]
def Fv(kvs:List (κ×V))(k:κ):List (κ×V):=kvs.filter λkv=>decide (kv.1≠k)
theorem dv{p:κ×V}{r:List (κ×V)}{k:κ}(e:p.1=k):gx (p::r) k=some p.2:=by simp[gx,uV,e]
theorem du{p:κ×V}{r:List (κ×V)}{k:κ}(e:¬p.1=k):gx (p::r) k=gx r k:=by simp[gx,uV,e]
theorem dr(k:κ):∀kvs:List (κ×V),(kvs.any λkv=>decide (kv.1=k))=(gx kvs k).isSome
 |[]=>rfl
 |p::r=>by
  rw[tE]
  by_cases e:p.1=k
  ·simp only[dv e,zO e,Bool.true_or,Option.isSome_some]
  ·rw[du e,zA e,Bool.false_or];exact dr k r
theorem n9(kvs:List (κ×V))(k:κ)(v:V):(qe kvs k v).length<=kvs.length+1:=by
 unfold qe;split
 ·rw[zX];lia
 ·rw[zL,yJ,wO];lia
theorem RelO.isSome_eq{o:Option V}{u:Option Value}(r:RelO o u):o.isSome=u.isSome:=by
 cases o with
 |none=>cases u with
  |none=>rfl
  |some _=>exact(show False from r).elim
 |some _=>cases u with
  |none=>exact(show False from r).elim
  |some _=>rfl
theorem RelO.getD{o:Option V}{u:Option Value}{d:V}{d':Value}(r:RelO o u)(rd:RelV d d'):RelV (o.getD d) (u.getD d'):=by
 cases o with
 |none=>cases u with
  |none=>exact rd
  |some _=>exact(show False from r).elim
 |some _=>cases u with
  |none=>exact(show False from r).elim
  |some _=>exact r
theorem KV.any{kvs:List (κ×V)}{vs:List (κ×Value)}(r:KV kvs vs)(k:κ):(kvs.any λkv=>decide (kv.1=k))=vs.any λkv=>decide (kv.1=k):=by
 unfold KV at r
 induction r with
 |nil=>rfl
 |cons h t ih=>rw[tE,tE,ih,h.1]
theorem KV.repl{kvs:List (κ×V)}{vs:List (κ×Value)}(r:KV kvs vs)(k:κ){y:V}{u:Value}(ry:RelV y u):
  KV (kvs.map λkv=>if kv.1=k then(kv.1,y)else kv) (vs.map λkv=>if kv.1=k then(kv.1,u)else kv):=by
 unfold KV at r ⊢
 induction r with
 |nil=>exact .nil
 | @cons p q ps qs h t ih =>
  rw[List.map_cons,List.map_cons];refine .cons ?_ ih;obtain⟨h1,h2⟩:=h
  by_cases e:p.1=k
  ·rw[zH e,zH (h1.symm.trans e)];exact⟨h1,ry⟩
  ·rw[zK e,zK (λz=>e (h1.trans z))];exact⟨h1,h2⟩
theorem KV.put{kvs:List (κ×V)}{vs:List (κ×Value)}(r:KV kvs vs)(k:κ){y:V}{u:Value}(ry:RelV y u):KV (qe kvs k y) (stored vs k u):=by
 unfold qe stored;rw[r.any k]
 by_cases e:(vs.any λkv=>decide (kv.1=k))=true
 ·rw[zH e,zH e];exact r.repl k ry
 ·rw[zK e,zK e];exact Paired.snoc r ⟨rfl,ry⟩
theorem KV.length{kvs:List (κ×V)}{vs:List (κ×Value)}(r:KV kvs vs):kvs.length=vs.length:=Paired.length r
end
theorem Xr{P:Program}{w:World}{k:Key}{u:Value}(r:RelV (kV k) u):(x8 P w).is k u=true:=by
 cases k with
 |inl i=>obtain⟨t,e⟩:=(show∃t,u=Value.int i t from r);subst e;exact b7 P w i t
 |inr x=>obtain⟨t,e⟩:=(show∃t,u=Value.str x t from r);subst e;exact vw P w x t
theorem io{P:Program}{w:World}:∀{ks:List Key}{us:List Value},Vals (ks.map kV) us->ItemsAre (x8 P w) ks us
 |[],_,r=>by rw[List.map_nil]at r;cases r;exact .nil
 |k::ks,_,r=>by
  rw[List.map_cons]at r;cases r with
  |cons h t=>exact .cons (Xr h) (io t)
abbrev KT(H:Hp):List (List Key×V)->List (List Key×Addr×Value)->Prop:=Paired λp q=>p.1=q.1/\H q.2.1=some (.tup (p.1.map kV))/\RelV p.2 q.2.2
theorem KT.val{H:Hp}{kvs:List (List Key×V)}{xs:List (List Key×Addr×Value)}(r:KT H kvs xs)(k:List Key):RelO (gx kvs k) ((atKey xs k).map (·.2)):=by
 induction r with
 |nil=>exact True.intro
 | @cons p q ps qs h t ih =>
  obtain⟨h1,_,h2⟩:=h
  by_cases e:p.1=k
  ·have e':q.1=k:=h1.symm.trans e;have b:atKey (q::qs) k=some q.2:=by simp[atKey,uV,e']
   rw[dv e,b];exact h2
  ·have e':¬q.1=k:=λz=>e (h1.trans z);have b:atKey (q::qs) k=atKey qs k:=by simp[atKey,uV,e']
   rw[du e,b];exact ih
theorem KT.repl{H:Hp}{kvs:List (List Key×V)}{xs:List (List Key×Addr×Value)}(r:KT H kvs xs)(k:List Key){y:V}{u:Value}(ry:RelV y u):
  KT H (kvs.map λkv=>if kv.1=k then(kv.1,y)else kv) (xs.map (putAt k u)):=by
 induction r with
 |nil=>exact .nil
 | @cons p q ps qs h t ih =>
  rw[List.map_cons,List.map_cons];refine .cons ?_ ih;obtain⟨h1,h2,h3⟩:=h;unfold putAt
  by_cases e:p.1=k
  ·rw[zH e,zH (h1.symm.trans e)];exact⟨h1,h2,ry⟩
  ·rw[zK e,zK (λz=>e (h1.trans z))];exact⟨h1,h2,h3⟩
theorem KT.put{H:Hp}{kvs:List (List Key×V)}{xs:List (List Key×Addr×Value)}(r:KT H kvs xs)(k:List Key){b:Addr}{y:V}{u:Value}(hb:H b=some (.tup (k.map kV)))(ry:RelV y u):
  KT H (qe kvs k y) (storedH xs k b u):=by
 have e:(kvs.any λkv=>decide (kv.1=k))=(atKey xs k).isSome:=by
  rw[dr,(r.val k).isSome_eq,Option.isSome_map]
 unfold qe storedH;rw[e]
 by_cases q:(atKey xs k).isSome=true
 ·rw[zH q,zH q];exact r.repl k ry
 ·rw[zK q,zK q];exact Paired.snoc r ⟨rfl,hb,ry⟩
theorem KT.keeps{H H':Hp}{kvs:List (List Key×V)}{xs:List (List Key×Addr×Value)}(r:KT H kvs xs)(ht:∀b ys,H b=some (.tup ys)->H' b=some (.tup ys)):KT H' kvs xs :=
 Paired.mapP r λ_ _ z=>⟨z.1,ht _ _ z.2.1,z.2.2⟩
section
variable {P:Program}{w:World}{H:Hp}{h:Heap}{a:Addr}
theorem Os{u:HO}(ok:HOk P w H h)(e:Rd H a u):ObjOk P w H h a u:=e.ok ok
theorem Hw{kvs:List (Key×V)}(ok:HOk P w H h)(e:Rd H a (.dK kvs)):kvs.length<=sizeLine/\(a==sysModules)=false/\∃vs,KV kvs vs/\h.DictOf (x8 P w) a vs :=
 show ObjOk P w H h a (.dK kvs)from Os ok e
theorem Hv{kvs:List (Key×V)}(ok:HOk P w H h)(e:H a=some (.dK kvs)):kvs.length<=sizeLine/\(a==sysModules)=false/\∃vs,KV kvs vs/\h.DictOf (x8 P w) a vs:=Hw ok (.inl e)
theorem Se{ks:List Key}(ok:HOk P w H h)(e:H a=some (.tup (ks.map kV))):(tupleKind (x8 P w)).is h ks a:=by
 obtain⟨_,aH,r,o,h1,h2,n,h3⟩:=(show ObjOk P w H h a (.tup (ks.map kV))from ok a _ e)
 exact⟨o,aH.toArray,n,h1,h2,h3,by simpa using io r⟩
theorem Hy{kvs:List (List Key×V)}(ok:HOk P w H h)(e:Rd H a (.dT kvs)):kvs.length<=sizeLine/\(a==sysModules)=false /\
  ∃xs,KT H kvs xs/\h.DictOfH (tupleKind (x8 P w)) a xs:=by
 obtain⟨z,y,xs,r,o,es,ep,h1,h2,h3,h4,h5⟩:=(show ObjOk P w H h a (.dT kvs)from Os ok e)
 refine⟨z,y,xs,r,o,es,ep,h1,h2,h3,h4,λx hx=>?_,h5⟩;have all:∀{l:List (List Key×V)}{m:List (List Key×Addr×Value)},KT H l m->∀x∈m,(tupleKind (x8 P w)).is h x.1 x.2.1:=by
  intro l m q
  induction q with
  |nil=>intro x hx;exact nomatch hx
  | @cons p q ps qs hq t ih =>
   intro x hx;rcases zD.mp hx with e|hx
   ·subst e;exact Se ok (by rw[<-hq.1];exact hq.2.1)
   ·exact ih x hx
 exact all r x hx
theorem Hx{kvs:List (List Key×V)}(ok:HOk P w H h)(e:H a=some (.dT kvs)):kvs.length<=sizeLine/\(a==sysModules)=false /\
  ∃xs,KT H kvs xs/\h.DictOfH (tupleKind (x8 P w)) a xs:=Hy ok (.inl e)
end
def Fs(H:Hp)(a:Addr)(y:V)(r:Option V):Prop :=
 (∃kvs k,Rd H a (.dK kvs)/\y=kV k/\r=gx kvs k)\/∃kvs k b,Rd H a (.dT kvs)/\y = .ref b/\H b=some (.tup (k.map kV))/\r=gx kvs k
def Fw(H:Hp)(a:Addr)(y v:V)(H':Hp):Prop :=
 (∃kvs k,H a=some (.dK kvs)/\y=kV k/\kvs.length<sizeLine/\H'=upd H a (.dK (qe kvs k v))) \/
 ∃kvs k b,H a=some (.dT kvs)/\y = .ref b/\H b=some (.tup (k.map kV))/\kvs.length<sizeLine/\H'=upd H a (.dT (qe kvs k v))
section
variable {X:Cx}{pins:List (Addr×Obj)}{σ:St}{H:Hp}{s:Shared}{a:Addr}{y v:V}{u r:Value}{o:Option V}{A:Around}{E:Value->Shared->Prop}
theorem Xg{h':Heap}{t':Nat}{ob:HO}(I:Inv X pins σ H s)(mu:Mut (H a))(hs:Heap.SameBut a s.heap h')(he:∃q,h'.get? a=some q)(new:ObjOk X.prog X.w (upd H a ob) h' a ob):
  Inv X pins σ (upd H a ob) { s with heap:=h',toks:=t' } :=
 I.write (x:=a) (e:=a) mu (.inl rfl) (λb q hb z=>(hs.2 b hb).trans z) he new
theorem Lw{P:Program}{w:World}{H':Hp}{h':Heap}{kvs:List (Key×V)}{vs:List (Key×Value)}(z:kvs.length<=sizeLine)(hd:(a==sysModules)=false)(rel:KV kvs vs)(dd:h'.DictOf (x8 P w) a vs):
  ObjOk P w H' h' a (.dK kvs):=⟨z,hd,vs,rel,dd⟩
theorem Vn{H':Hp}{Q:Unit->Shared->Prop}(hu:A.units+1<cLine)(I:Inv X pins σ H s)(g:Fw H a y v H')(ry:RelV y u)(rv:RelV v r)(h:∀s',Inv X pins σ H' s'->Q () s'):
  wpAny (model X.prog X.w) A (setItem (.ref a) u r) Q E s:=by
 rcases g with⟨kvs,k,e,ey,l,eH⟩|⟨kvs,k,b,e,ey,eb,l,eH⟩
 ·subst ey eH;obtain⟨z,hd,vs,rel,dd⟩:=Hv I.hok e;have hz:vs.length<=sizeLine:=by rw[<-rel.length];exact z
  have hl:(qe kvs k v).length<=sizeLine:=by have:=n9 kvs k v;lia
  refine wpAny_setItem_pairs (hsz:=hz) (Xr ry) dd λh' dd' hs=>h _ ?_;have he:∃q,h'.get? a=some q:=let⟨q,_,_,hq,_⟩:=dd';⟨q,hq⟩;exact Xg I (by rw[e];exact True.intro) hs he (Lw hl hd (rel.put k rv) dd')
 ·subst ey eH;cases(show u=Value.ref b from ry);obtain⟨z,hd,xs,rel,dd⟩:=Hx I.hok e;have hz:xs.length<=sizeLine:=by rw[<-Paired.length rel];exact z
  have hl:(qe kvs k v).length<=sizeLine:=by have:=n9 kvs k v;lia
  refine wpAny_setItem_heap (hsz:=hz) (tupleKind_room_in1 hu) (Se I.hok eb) dd λh' dd' hs=>h _ ?_;obtain⟨q,es,ep,hq,h2,h3,h4,_,h5⟩:=dd';refine Xg I (by rw[e];exact True.intro) hs ⟨q,hq⟩ ⟨hl,hd,_,(rel.put k eb rv).keeps λc ys ec=>?_,q,es,ep,hq,h2,h3,h4,h5⟩;rw[zj (Jj ec e (λz=>nomatch z))];exact ec
end
section
variable {X:Cx}{pins:List (Addr×Obj)}{σ:St}{H:Hp}{s:Shared}{a:Addr}{kvs:List (Key×V)}{k:Key}{u:Value}{A:Around}{E:Value->Shared->Prop}
end
def G7(i:Expr):Prop:=∀ov iv,subscripted i false ov iv=operate [ov,iv] (getItem ov iv)
theorem Q9{prog:Program}{w:World}{A:Around}{E:Value->Shared->Prop}{s:Shared}{env:Env}{value slice:Expr}{pos:Pos}{T id:String}{Q:Value->Shared->Prop}
  (hl:typeLookup (.type T) "__getitem__"=pure (some (.builtin id))) (hs:G7 slice)
  (h:wpAny (model prog w) A (eval value env) (λo s₁=>wpAny (model prog w) A (eval slice env) (λi s₂=>s₂.TypeIs o T/\wpAny (model prog w) A (getItem o i) Q E s₂) E s₁) E s) :
  wpAny (model prog w) A (eval (.Subscript value slice pos) env) Q E s:=by
 refine Subscript_ (yR h (λo s₁ h₁=>yR h₁ (λi s₂ h₂=>?_) λ_ _ x=>x) λ_ _ x=>x);obtain⟨hT,h₂⟩:=h₂;unfold subscriptTail;refine zZ ?_;rw[getitemInPython_of_ne hT.not_modules];refine zZ (wpAny_specialOf hT hl ?_);have bZ:wpAny (model prog w) A (subscripted slice false o i) (λr s₃=>wpAny (model prog w) A (letTemporaryGo value o r >>=λ_=>pure r) Q E s₃) E s₂:=by
  rw[hs o i];exact wpAny_operating (yR h₂ (λr s₃ h₃=>zZ (wpAny_letTemporaryGo (zW h₃))) λ_ _ x=>x)
 first
  |exact zW (zZ bZ)
  |exact zZ (zW (zZ bZ))
  |exact zZ bZ
section
variable {X:Cx}{o i e value:Expr}{pos kQ Bk:Pos}{td ty tv:TE}
end
section
variable {X:Cx}{pos:Pos}
end
structure M1(X:Cx)(o:Expr)(m:Str)(apos:Pos)(e:Expr)(cpos:Pos):Prop where
 base:attributeBase o m X.env (eval o X.env)=eval o X.env
 few:((backTo cpos (starEach [e] X.env)).all (λx=>!x.1)&&(backToKw cpos (keywordEach [] X.env)).all (λx=>x.1.isSome)
 &&decide (([e]:List Expr).length+([]:List Keyword).length+(if([]:List Keyword).isEmpty then 0 else 1)<30))=true
 line:(apos.endLine==cpos.line)=true
 trees:backTo cpos (starEach [e] X.env)=[(false,eval e X.env)]
structure M2(X:Cx)(o:Expr)(m:Str)(apos:Pos)(e f:Expr)(cpos:Pos):Prop where
 base:attributeBase o m X.env (eval o X.env)=eval o X.env
 few:((backTo cpos (starEach [e,f] X.env)).all (λx=>!x.1)&&(backToKw cpos (keywordEach [] X.env)).all (λx=>x.1.isSome)
 &&decide (([e,f]:List Expr).length+([]:List Keyword).length+(if([]:List Keyword).isEmpty then 0 else 1)<30))=true
 line:(apos.endLine==cpos.line)=true
 trees:backTo cpos (starEach [e,f] X.env)=[(false,eval e X.env),(false,eval f X.env)]
section
variable {X:Cx}{pins:List (Addr×Obj)}{σ:St}{H:Hp}{s:Shared}{a:Addr}{y d:V}{u r:Value}{o:Option V}{A:Around}{E:Value->Shared->Prop}
end
section
variable {X:Cx}{o e f:Expr}{apos cpos:Pos}{td ty tx:TE}
end
section
variable {X:Cx}{pins:List (Addr×Obj)}{σ:St}{H:Hp}{s:Shared}{a:Addr}{kvs:List (Key×V)}{A:Around}{E:Value->Shared->Prop}
end
section
variable {X:Cx}{pins:List (Addr×Obj)}{σ:St}{H:Hp}{s:Shared}{a:Addr}{y:V}{u:Value}{A:Around}{E:Value->Shared->Prop}
end
end L2
namespace L2
open PySem PySem.Spec PyProof.Rows
section
variable {X:Cx}
end
section
variable {κ:Type} [DecidableEq κ]
end
end L2
set_option maxHeartbeats 4000000
namespace My
open PySem PySem.Spec L2
open PyProof.Rows hiding St
theorem F6{CX:CXT}{P:Program}{w:World}{K:W.Frag}{mg:Str->Option Value}{base:Heap}{N:List Str}{qual:Str}{scope:Scope}{f:Addr}{cd:Value}{A:Around}{outer:List Env}{s:Shared}{H:Hp}{E:XK}:(wg CX P w K mg base N qual scope f cd A outer s H E).K=K:=rfl
section
variable {X:Cx}
theorem M0{e:Expr}{t t':TE}(h:PE X e t)(i:∀σ H Q,t' σ H Q->t σ H Q):PE X e t':=λpins s σ H Q I q=>h pins s σ H Q I (i σ H Q q)
theorem M9{e:Stmt}{t t':TS}(h:PS X e t)(i:∀D σ H,t' D σ H->t D σ H):PS X e t':=λpins s σ H D I q=>h pins s σ H D I (i D σ H q)
theorem uo{f:Value->Value->Sem Value}{r r':R2}(h:OpR X f r)(i:∀x y H Q,r' x y H Q->r x y H Q):OpR X f r':=λpins s σ H x y v u Q I rx ry q=>h pins s σ H x y v u Q I rx ry (i x y H Q q)
theorem Lz{r r':R2}(h:IxR X r)(i:∀x y H Q,r' x y H Q->r x y H Q):IxR X r':=λvalue slice pins s σ H x y v u Q I rx ry q hs=>h value slice pins s σ H x y v u Q I rx ry (i x y H Q q) hs
theorem N0{r r':V->Option Int->Option Int->Hp->VK->Prop}(h:SlR X r)(i:∀x lo hi H Q,r' x lo hi H Q->r x lo hi H Q):SlR X r':=λpins s σ H x v vl vu lo hi sl Q I rx hs pl pu q=>h pins s σ H x v vl vu lo hi sl Q I rx hs pl pu (i x lo hi H Q q)
end
def New(H:Hp)(o:HO)(Q:VK):Prop:=∀(p:Addr)(H':Hp),H p=none->Same H H'->H' p=some o->Q (.ref p) H'
theorem zo{H H1:Hp}{p:Addr}(h:Same H H1)(n:H p=none)(o:HO):Same H (upd H1 p o):=λb u q=>by
 rw[zj (wc q n)];exact h b u q
theorem vx{H:Hp}{p:Addr}(n:H p=none)(o:HO):Same H (upd H p o):=zo (Same.refl H) n o
theorem New.at{H:Hp}{o:HO}{Q:VK}(h:New H o Q):∀p,H p=none->Q (.ref p) (upd H p o):=λp n=>h p _ n (vx n o) zy
def Tups(H H':Hp):Prop:=(∀b xs,H b=some (.tup xs)->H' b=some (.tup xs))/\∀b o u,H b=some (.frz o u)->H' b=some (.frz o u)
theorem Tups.refl(H:Hp):Tups H H:=⟨λ_ _ h=>h,λ_ _ _ h=>h⟩
theorem Tups.trans{H H1 H2:Hp}(a:Tups H H1)(b:Tups H1 H2):Tups H H2:=⟨λc xs h=>b.1 c xs (a.1 c xs h),λc o u h=>b.2 c o u (a.2 c o u h)⟩
theorem z7{H H':Hp}(a:Same H H'):Tups H H':=⟨λb xs h=>a b _ h,λb o u h=>a b _ h⟩
theorem U4{H:Hp}{p:Addr}{o:HO}(n:(∀xs,H p≠some (.tup xs))/\∀ob u,H p≠some (.frz ob u)):Tups H (upd H p o) :=
 ⟨λb xs h=>by rw[zj (by rintro rfl;exact n.1 xs h)];exact h,λb ob u h=>by rw[zj (by rintro rfl;exact n.2 ob u h)];exact h⟩
theorem vy{H:Hp}{p:Addr}{xs:List V}{o:HO}(h:H p=some (.lst xs)):Tups H (upd H p o):=U4 ⟨λys z=>(by rw[h]at z;cases z),λob u z=>(by rw[h]at z;cases z)⟩
theorem Tups.sqT{K:W.Frag}{H H':Hp}{a:Addr}{xs:List V}(t:Tups H H')(h:SqT K H a xs):SqT K H' a xs:=by
 rcases h with(h|⟨o,h⟩)|h
 ·exact .inl (.inl (t.1 _ _ h))
 ·exact .inl (.inr ⟨o,t.2 _ _ _ h⟩)
 ·exact .inr h
mutual
def Has(K:W.Frag)(H:Hp):V->PyData->Prop
 |v,.none=>v = .non
 |v,.bool b=>v = .bl b
 |v,.int i=>v = .int i
 |v,.str x=>v = .str x
 |v,.tuple ds=>∃a xs,v = .ref a/\SqT K H a xs/\HasL K H xs ds
 |v,.list ds=>∃a xs,v = .ref a/\SqL K H a xs/\HasL K H xs ds
 |_,.dict _=>False
def HasL(K:W.Frag)(H:Hp):List V->List PyData->Prop
 |xs,[]=>xs=[]
 |xs,d::ds=>∃y ys,xs=y::ys/\Has K H y d/\HasL K H ys ds
end
def gv:St->Nat->Option V
 |[],_=>none
 |x::_,0=>x
 |_::r,n+1=>gv r n
def sv:St->Nat->V->St
 |[],_,_=>[]
 |_::r,0,v=>some v::r
 |x::r,n+1,v=>x::sv r n v
theorem Y5:∀{σ:St}{i:Nat}{v:V},gv σ i=some v->σ[i]?=some (some v)
 |[],_,_,h=>by simp[gv]at h
 |x::_,0,v,h=>by have h':x=some v:=h;simp[h']
 |_::r,n+1,v,h=>by
  have:=Y5 (σ:=r) (i:=n) (v:=v) h;simpa using this
theorem aa:∀(σ:St)(i:Nat)(v:V),σ.set i (some v)=sv σ i v
 |[],_,_=>rfl
 |_::_,0,_=>rfl
 |x::r,n+1,v=>by
  show x::r.set n (some v)=x::sv r n v;rw[aa r n v]
section
variable {X:Cx}
def mV(i:Nat):TE:=fun σ H Q=>match gv σ i with
 |some v=>Q v H
 |none=>False
theorem z8(i:Nat){x:Str}{pos:Pos}(hN:X.N[i]?=some x:=by rfl)(hv:Vis X.env.scope x:=by first|exact Or.inl rfl|exact Or.inr (Or.inl rfl)|exact Or.inr (Or.inr rfl))(hd:(x==("__debug__":Str))=false:=by decide)
  (qJ:(x==("__classdict__":Str))=false:=by decide):PE X (.Name x pos) (mV i):=M0 (M3 hN hv hd qJ) fun σ H Q q=>by
 unfold mV at q;split at q
 ·rename_i v e;exact⟨v,Y5 e,q⟩
 ·exact q.elim
def Iu(i:Nat)(te:TE):TS:=λD σ H=>te σ H λx H1=>D.nx (sv σ i x) H1
theorem zg(i:Nat){x:Str}{e:Expr}{te:TE}{pos kQ:Pos}(hN:X.N.Nodup)(he:PE X e te)(hi:X.N[i]?=some x:=by rfl)(hx:Loc X.env.scope x:=by first|exact Or.inl rfl|exact Or.inr rfl)
  (hs:swapsWith e (some (.Name x kQ)) pos.line X.env=pure false:=by rfl) (hf:X.fn x=true\/X.env.scope.names.lookup x=some .local:=by first|exact .inl rfl|exact .inr rfl):PS X (.Assign [.Name x kQ] e pos) (Iu i te) :=
 M9 (Na (i:=i) hN hi hx he hs hf) λD σ H q=>by
  refine(?_:Ux te (ik i) D σ H);have e:(λx H1=>D.nx (sv σ i x) H1)=λx H1=>ik i x σ H1 D.nx:=by
   funext x H1
   show D.nx (sv σ i x) H1=D.nx (σ.set i (some x)) H1;rw[aa]
  show te σ H λx H1=>ik i x σ H1 D.nx;rw[<-e];exact q
def mG(i:Nat):TG:=λv σ H Q=>Q (sv σ i v) H
theorem vg(i:Nat){x:Str}{pos:Pos}(hN:X.N.Nodup)(hi:X.N[i]?=some x:=by rfl)(hx:Loc X.env.scope x:=by first|exact Or.inl rfl|exact Or.inr rfl)
  (hf:X.fn x=true\/X.env.scope.names.lookup x=some .local:=by first|exact .inl rfl|exact .inr rfl):PG X (.Name x pos) (mG i):=by
 have h:=Qi (pos:=pos) (X:=X) hN hi hx hf;have e:mG i=ik i:=by
  funext v σ H Q
  show Q (sv σ i v) H=Q (σ.set i (some v)) H;rw[aa]
 rw[e];exact h
def Tn(k:Bool->Hp->Prop):V->Hp->Prop:=λx H=>match x with
 | .bl c=>k c H
 |_=>False
theorem Qa{k:Bool->Hp->Prop}{c:Bool}{H:Hp}:Tn k (.bl c) H=k c H:=rfl
def To(k:Int->Hp->Prop):V->Hp->Prop:=λx H=>match x with
 | .int c=>k c H
 |_=>False
theorem Tp{k:Int->Hp->Prop}{c:Int}{H:Hp}:To k (.int c) H=k c H:=rfl
def cq(k:Addr->Hp->Prop):V->Hp->Prop:=λx H=>match x with
 | .ref c=>k c H
 |_=>False
theorem Tq{k:Addr->Hp->Prop}{c:Addr}{H:Hp}:cq k (.ref c) H=k c H:=rfl
def on1(k:V->Hp->Prop):List V->Hp->Prop:=λx H=>match x with
 |[c]=>k c H
 |_=>False
theorem Mo{k:V->Hp->Prop}{c:V}{H:Hp}:on1 k [c] H=k c H:=rfl
def Pn(K:W.Frag):R2:=λx y H Q=>match x,y with
 | .int i,.int j=>Q (.int (i+j)) H
 | .str a,.str b=>a.length+b.length<=sizeLine/\Q (.str (a++b)) H
 | .ref a,.ref b=>(∃xs ys,H a=some (.lst xs)/\H b=some (.lst ys)/\xs.length+ys.length<=sizeLine/\New H (.lst (xs++ys)) Q) \/
   ∃xs ys,SqT K H a xs/\SqT K H b ys/\xs.length+ys.length<=sizeLine/\∀(p:Addr)(H':Hp),Same H H'->SqT K H' p (xs++ys)->Q (.ref p) H'
 |_,_=>False
theorem Rr{prog:Program}{w:World}{A:Around}{E:Value->Shared->Prop}{s:Shared}{t b:Addr}{ws:List Value}{Q:Value->Shared->Prop}(ht:IsTup s.heap t #[])(hb:IsTup s.heap b ws.toArray)(h:Q (.ref b) s):
  wpAny (model prog w) A (binaryOp .Add (.ref t) (.ref b)) Q E s:=by
 obtain⟨⟨cls,dd,data,sl⟩,ho,hc,n,hd⟩:=id ht;obtain⟨⟨cls2,dd2,data2,AO⟩,Eg,B5,n2,Ep⟩:=id hb;simp only at hc hd B5 Ep;subst hc hd B5 Ep;exact concat_meets ⟨_,ho,rfl⟩ ⟨_,Eg,rfl⟩ noFill_tuple_add seq_tuple_add tX tZ (uD _ _)
   (tuple_addW0 t b #[] ws.toArray n n2 dd dd2 sl AO (by simp)) ⟨ho,Eg,h⟩
theorem Ts:OpR X (binaryOp .Add) (λx y H Q=>∃a b xs ys,x = .ref a/\y = .ref b/\SqT X.K H a xs/\SqT X.K H b ys/\xs.length+ys.length<=sizeLine/\∀(p:Addr)(H':Hp),Same H H'->SqT X.K H' p (xs++ys)->Q (.ref p) H'):=by
 intro pins s σ H x y v u Q I rx ry h;obtain⟨a,b,xs,ys,rfl,rfl,ha,hb,hz,q⟩:=h
 by_cases e:xs=[]
 ·subst e;cases rx;cases ry;obtain⟨aH,r1,p1,_⟩:=I.tuple ha;obtain⟨lA,r2,p2,_⟩:=I.tuple hb;cases r1;exact Rr p1 p2 ⟨.ref b,H,I,rfl,q b H (Same.refl H) hb⟩
 ·refine Qe pins s σ H _ _ v u Q I rx ry ⟨a,b,xs,ys,rfl,rfl,ha,hb,e,hz,λz=>?_,λ_ p n=>?_⟩
  ·subst z;exact q a H (Same.refl H) (by rw[List.append_nil];exact ha)
  ·exact q p _ (vx n _) (SqT.of zy)
theorem zf:OpR X (binaryOp .Add) (Pn X.K):=by
 intro pins s σ H x y v u Q I rx ry h;cases x with
 |int i=>cases y with
  |int j=>exact Ms pins s σ H _ _ v u Q I rx ry ⟨i,j,rfl,rfl,h⟩
  |_=>exact(show False from h).elim
 |str i=>cases y with
  |str j=>exact Zr pins s σ H _ _ v u Q I rx ry ⟨i,j,rfl,rfl,h.1,h.2⟩
  |_=>exact(show False from h).elim
 |ref a=>cases y with
  |ref b =>
   have h':(∃xs ys,H a=some (.lst xs)/\H b=some (.lst ys)/\xs.length+ys.length<=sizeLine/\New H (.lst (xs++ys)) Q) \/
    ∃xs ys,SqT X.K H a xs/\SqT X.K H b ys/\xs.length+ys.length<=sizeLine/\∀(p:Addr)(H':Hp),Same H H'->SqT X.K H' p (xs++ys)->Q (.ref p) H':=h
   rcases h' with⟨xs,ys,ha,hb,hz,q⟩|⟨xs,ys,ha,hb,hz,q⟩
   ·exact Mt pins s σ H _ _ v u Q I rx ry ⟨a,b,xs,ys,rfl,rfl,ha,hb,hz,q.at⟩
   ·exact Ts pins s σ H _ _ v u Q I rx ry ⟨a,b,xs,ys,rfl,rfl,ha,hb,hz,q⟩
  |_=>exact(show False from h).elim
 |_=>exact(show False from by cases y<;>exact h).elim
def mII(C:Int->Int->Prop)(g:Int->Int->V):R2:=λx y H Q=>match x,y with
 | .int i,.int j=>C i j/\Q (g i j) H
 |_,_=>False
def Sq(g:Int->Int->V):R2:=λx y H Q=>match x,y with
 | .int i,.int j=>Q (g i j) H
 |_,_=>False
theorem k9{C:Int->Int->Prop}{g:Int->Int->V}(x y:V)(H:Hp)(Q:VK)(h:mII C g x y H Q):rI C g x y H Q:=by
 cases x with
 |int i=>cases y with
  |int j=>exact⟨i,j,rfl,rfl,h.1,h.2⟩
  |_=>exact(show False from h).elim
 |_=>exact(show False from by cases y<;>exact h).elim
theorem fj{g:Int->Int->V}(x y:V)(H:Hp)(Q:VK)(h:Sq g x y H Q):rI0 g x y H Q:=by
 cases x with
 |int i=>cases y with
  |int j=>exact⟨i,j,rfl,rfl,h⟩
  |_=>exact(show False from h).elim
 |_=>exact(show False from by cases y<;>exact h).elim
theorem Xw:OpR X (binaryOp .Sub) (Sq λi j=>.int (i-j)):=uo Mx fj
theorem u8:OpR X (binaryOp .Mult) (mII CMul λi j=>.int (i*j)):=uo Mv k9
theorem u7:OpR X (binaryOp .Mod) (mII (λ_ j=>0<j) λi j=>.int (i % j)):=uo Mu k9
theorem fm:OpR X (binaryOp .FloorDiv) (mII G4 λi j=>.int (i / j)):=uo Qf k9
theorem Wc:OpR X (compareOp .Lt) (Sq λi j=>.bl (decide (i<j))):=uo Ju fj
theorem bw:OpR X (compareOp .Gt) (Sq λi j=>.bl (decide (j<i))):=uo Js fj
def mEq(g:Bool->Bool):R2:=λx y H Q=>match x,y with
 | .int i,.int j=>Q (.bl (g (decide (i=j)))) H
 | .bl i,.bl j=>Q (.bl (g (decide (i=j)))) H
 | .str i,.str j=>Q (.bl (g (decide (i=j)))) H
 | .non,.non=>Q (.bl (g true)) H
 | .non,.bl _=>Q (.bl (g false)) H
 | .bl _,.non=>Q (.bl (g false)) H
 | .non,.int _=>Q (.bl (g false)) H
 | .int _,.non=>Q (.bl (g false)) H
 |_,_=>False
theorem Ht(i j:Int):decide (V.int i=V.int j)=decide (i=j):=by simp
theorem F7(i j:Bool):decide (V.bl i=V.bl j)=decide (i=j):=by simp
theorem Hu(i j:Str):decide (V.str i=V.str j)=decide (i=j):=by simp
theorem Om{g:Bool->Bool}{x y:V}{H:Hp}{Q:VK}(h:mEq g x y H Q):Nv x y=true/\Q (.bl (g (decide (x=y)))) H:=by
 cases x with
 |int i=>cases y with
  |int j=>exact⟨rfl,by rw[Ht];exact h⟩
  |non=>exact⟨rfl,by rw[zA (by intro z;cases z)];exact h⟩
  |_=>exact(show False from h).elim
 |bl i=>cases y with
  |bl j=>exact⟨rfl,by rw[F7];exact h⟩
  |non=>exact⟨rfl,by rw[zA (by intro z;cases z)];exact h⟩
  |_=>exact(show False from h).elim
 |str i=>cases y with
  |str j=>exact⟨rfl,by rw[Hu];exact h⟩
  |_=>exact(show False from h).elim
 |non=>cases y with
  |non=>exact⟨rfl,by rw[zO rfl];exact h⟩
  |bl j=>exact⟨rfl,by rw[zA (by intro z;cases z)];exact h⟩
  |int j=>exact⟨rfl,by rw[zA (by intro z;cases z)];exact h⟩
  |_=>exact(show False from h).elim
 |_=>exact(show False from by cases y<;>exact h).elim
mutual
theorem wa{pins:List (Addr×Obj)}{σ:St}{H:Hp}{s:Shared}(I:Inv X pins σ H s):∀(d:PyData)(v:V)(u:Value),Has X.K H v d->RelV v u->∃as,Reads s.heap u d as
 | .none,v,u,h,r=>by
  have h':v = .non:=by simpa[Has]using h
  subst h';cases r;exact⟨_,.none⟩
 | .bool b,v,u,h,r=>by
  have h':v = .bl b:=by simpa[Has]using h
  subst h';cases r;exact⟨_,.bool b⟩
 | .int i,v,u,h,r=>by
  have h':v = .int i:=by simpa[Has]using h
  subst h';obtain⟨t,rfl⟩:=r;exact⟨_,.int i t⟩
 | .str x,v,u,h,r=>by
  have h':v = .str x:=by simpa[Has]using h
  subst h';obtain⟨t,rfl⟩:=r;exact⟨_,.str x t⟩
 | .tuple ds,v,u,h,r=>by
  have h':∃a xs,v = .ref a/\SqT X.K H a xs/\HasL X.K H xs ds:=by simpa[Has]using h
  obtain⟨a,xs,rfl,hq,hl⟩:=h';cases r;obtain⟨aH,rv,⟨o,e,c,n,dd⟩,_⟩:=I.tuple hq;obtain⟨as,ra⟩:=hasL_reads I ds xs aH hl rv;exact⟨_,.tuple e c dd ra⟩
 | .list ds,v,u,h,r=>by
  have h':∃a xs,v = .ref a/\SqL X.K H a xs/\HasL X.K H xs ds:=by simpa[Has]using h
  obtain⟨a,xs,rfl,hq,hl⟩:=h';cases r;obtain⟨aH,rv,pl,_⟩:=I.list hq;obtain⟨o,e,c,n,dd⟩:=pl.isList;obtain⟨as,ra⟩:=hasL_reads I ds xs aH hl rv;exact⟨_,.list e c dd ra⟩
 | .dict _,v,u,h,r=>by
  have h':False:=by simpa[Has]using h
  exact h'.elim
theorem hasL_reads{pins:List (Addr×Obj)}{σ:St}{H:Hp}{s:Shared}(I:Inv X pins σ H s):∀(ds:List PyData)(xs:List V)(us:List Value),HasL X.K H xs ds->Vals xs us->∃as,ReadsAll s.heap us ds as
 |[],xs,us,h,r=>by
  have h':xs=[]:=by simpa[HasL]using h
  subst h';cases r;exact⟨_,.nil⟩
 |d::ds,xs,us,h,r=>by
  have h':∃y ys,xs=y::ys/\Has X.K H y d/\HasL X.K H ys ds:=by simpa[HasL]using h
  obtain⟨y,ys,rfl,h1,h2⟩:=h';cases r with
  |cons r1 r2 =>
   obtain⟨as,ra⟩:=wa I d y _ h1 r1;obtain⟨bs,rb⟩:=hasL_reads I ds ys _ h2 r2;exact⟨_,.cons ra rb⟩
end
def k8(K:W.Frag)(g:Bool->Bool):R2:=λx y H Q=>match x,y with
 | .ref a,.ref b=>∃da db,Has K H (.ref a) da/\Has K H (.ref b) db/\SeqAt.shaped da=true/\SeqAt.shaped db=true/\Q (.bl (g (PyData.eqv da db))) H
 |x,y=>mEq g x y H Q
theorem ya(hu:X.A.units+64<cLine):OpR X (compareOp .Eq) (k8 X.K id):=by
 intro pins s σ H x y v u Q I rx ry h;have sc:mEq id x y H Q->wpAny (model X.prog X.w) X.A (compareOp .Eq v u) (EP X pins σ Q) X.xe s:=λh=>Jr pins s σ H x y v u Q I rx ry (Om h);cases x with
 |ref a=>cases y with
  |ref b =>
   obtain⟨da,db,h1,h2,s1,s2,q⟩:=(show∃da db,Has X.K H (.ref a) da/\Has X.K H (.ref b) db/\SeqAt.shaped da=true/\SeqAt.shaped db=true/\Q (.bl (PyData.eqv da db)) H from h)
   obtain⟨as,ra⟩:=wa I da _ _ h1 rx;obtain⟨bs,rb⟩:=wa I db _ _ h2 ry;exact eq_dataH ra rb s1 s2 hu ⟨.bl _,H,I,rfl,q⟩
  |_=>exact sc h
 |_=>exact sc (by cases y<;>exact h)
theorem Sx(hu:X.A.units+64<cLine):OpR X (compareOp .NotEq) (k8 X.K not):=by
 intro pins s σ H x y v u Q I rx ry h;have sc:mEq not x y H Q->wpAny (model X.prog X.w) X.A (compareOp .NotEq v u) (EP X pins σ Q) X.xe s:=λh=>Jv pins s σ H x y v u Q I rx ry (Om h);cases x with
 |ref a=>cases y with
  |ref b =>
   obtain⟨da,db,h1,h2,s1,s2,q⟩:=(show∃da db,Has X.K H (.ref a) da/\Has X.K H (.ref b) db/\SeqAt.shaped da=true/\SeqAt.shaped db=true/\Q (.bl (!PyData.eqv da db)) H from h)
   obtain⟨as,ra⟩:=wa I da _ _ h1 rx;obtain⟨bs,rb⟩:=wa I db _ _ h2 ry;exact ne_dataH ra rb s1 s2 hu ⟨.bl _,H,I,rfl,q⟩
  |_=>exact sc h
 |_=>exact sc (by cases y<;>exact h)
def mLe:R2:=λx y H Q=>match x,y with
 | .int i,.int j=>Q (.bl (decide (i<=j))) H
 | .bl i,.bl j=>Q (.bl (!i||j)) H
 |_,_=>False
theorem Gk:OpR X (compareOp .LtE) mLe:=by
 intro pins s σ H x y v u Q I rx ry h
 match x,y,h with
 | .int i,.int j,h=>exact Jt pins s σ H _ _ v u Q I rx ry ⟨i,j,rfl,rfl,h⟩
 | .bl i,.bl j,h =>
  cases rx;cases ry;exact le_bool ⟨.bl (!i||j),H,I,by cases i<;>cases j<;>rfl,h⟩
def mIn(K:W.Frag)(neg:Bool):R2:=λx y H Q=>match y with
 | .ref p=>∃xs,(SqL K H p xs\/SqT K H p xs)/\ve x=true/\xs.all ve=true/\Q (.bl (if neg then !inV x xs else inV x xs)) H
 |_=>False
theorem Il{K:W.Frag}{neg:Bool}(x y:V)(H:Hp)(Q:VK)(h:mIn K neg x y H Q):rIn K neg x y H Q:=by
 cases y with
 |ref p =>
  obtain⟨xs,q⟩:=(show∃xs,(SqL K H p xs\/SqT K H p xs)/\ve x=true/\xs.all ve=true/\Q (.bl (if neg then !inV x xs else inV x xs)) H from h)
  exact⟨p,xs,rfl,q⟩
 |_=>exact(show False from h).elim
theorem Pr:OpR X (compareOp .In) (mIn X.K false):=uo Wr Il
def mIx(K:W.Frag):R2:=λx y H Q=>match x,y with
 | .str z,.int i=>z.length<=sizeLine/\∃c,atI z.cps.toList i=some c/\Q (.str ⟨#[c]⟩) H
 | .ref p,.int i=>∃xs v,(SqL K H p xs\/SqT K H p xs)/\atI xs i=some v/\Q v H
 |_,_=>False
theorem Jc:IxR X (mIx X.K):=Lz L4 λx y H Q h=>by
 cases x with
 |str z=>cases y with
  |int i=>exact .inr (.inr ⟨z,i,h.2.choose,rfl,rfl,h.1,h.2.choose_spec.1,h.2.choose_spec.2⟩)
  |_=>exact(show False from h).elim
 |ref p=>cases y with
  |int i =>
   obtain⟨xs,v,hs,e,q⟩:=(show∃xs v,(SqL X.K H p xs\/SqT X.K H p xs)/\atI xs i=some v/\Q v H from h)
   rcases hs with hs|hs
   ·exact .inl ⟨p,xs,i,v,rfl,rfl,hs,e,q⟩
   ·exact .inr (.inl ⟨p,xs,i,v,rfl,rfl,hs,e,q⟩)
  |_=>exact(show False from h).elim
 |_=>exact(show False from by cases y<;>exact h).elim
theorem yj{a b:Expr}{ta tb:TE}{pos:Pos}(ha:PE X a ta)(hb:PE X b tb)(hs:Xc b):PE X (.Subscript a b pos) (tOp (mIx X.K) ta tb):=Jw Jc ha hb hs
theorem p9{prog:Program}{w:World}{A:Around}{E:Value->Shared->Prop}{s:Shared}{t sl:Addr}{items:Array Value}{vl vu:Value}{lo hi:Option Int}{Q:Value->Shared->Prop}(ht:IsTup s.heap t items)(hs:s.heap.IsSliceOf sl vl vu .none)(pl:IsPart vl lo)(pu:IsPart vu hi)
  (hw:HT.sIx items.size 0 lo=0/\HT.sIx items.size items.size hi=items.size) (h:Q (.ref t) s):wpAny (model prog w) A (getItem (.ref t) (.ref sl)) Q E s:=by
 obtain⟨os,Ee,FR,TW⟩:=id hs;have UD:s.TypeIs (.ref sl) "slice":=⟨os,Ee,FR⟩
 unfold getItem
 try with_reducible refine xS ?_
 first|refine zZ (zW ?_)|skip
 refine zZ (wpAny_sequenceKey ht.typeIs (by decide) ?_);refine zZ (xM (name:=Str.ofString "__getitem__") ht.typeIs xR
  (xW xR ht.typeIs entry_tuple_getitem ?_ (args_tuple_getitem _ _)))
 show wpAny _ _ (Builtin.Tuple.tupleItemsOf (.ref t) >>= _) _ _ s;refine zZ (tupleItemsOf_ ht ?_);refine zZ (uI UD ?_);rw[zH (by decide)];refine zZ (HT.sliceApplied_gen hs pl pu ?_);have DV:(((HT.sIx items.size 0 lo:Nat):Int)==0&&(1:Int)==1&&(HT.sIx items.size items.size hi-HT.sIx items.size 0 lo)==items.size)=true:=by
  rw[hw.1,hw.2];simp
 show wpAny _ _ (if(((HT.sIx items.size 0 lo:Nat):Int)==0&&(1:Int)==1&&(HT.sIx items.size items.size hi-HT.sIx items.size 0 lo)==items.size)=true then _ else _) _ _ s;rw[zH DV];have hex:∀{A':Around}{Q':Bool->Shared->Prop}{E':Value->Shared->Prop},Q' true s->wpAny (model prog w) A' (Builtin.Tuple.tupleIsExact (.ref t)) Q' E' s:=λq=>by
  unfold Builtin.Tuple.tupleIsExact;exact zZ (uI ht.typeIs (zW q))
 refine zZ (hex ?_);rw[zH rfl];exact zZ (tG (zW ⟨_,rfl,zW h⟩))
theorem sl_tupA:SlR X (λx lo hi H Q=>∃a xs,x = .ref a/\SqT X.K H a xs/\∀(p:Addr)(H':Hp),Same H H'->SqT X.K H' p (uz xs lo hi)->Q (.ref p) H'):=by
 intro pins s σ H x v vl vu lo hi sl Q I rx hs pl pu h;obtain⟨a,xs,rfl,hx,q⟩:=h
 by_cases hw:HT.sIx xs.length 0 lo=0/\HT.sIx xs.length xs.length hi=xs.length
 ·cases rx;obtain⟨aH,r,ht,hz⟩:=I.tuple hx;have aZ:aH.toArray.size=xs.length:=by rw[zQ];exact r.length.symm
  refine⟨"tuple",_,xR.lookup,ht.typeIs,?_⟩;refine p9 ht hs pl pu (by rw[aZ];exact hw) ⟨.ref a,H,I,rfl,q a H (Same.refl H) ?_⟩;have e:uz xs lo hi=xs:=by
   unfold uz;rw[hw.1,hw.2];simp
  rw[e];exact hx
 ·exact N1 pins s σ H _ v vl vu lo hi sl Q I rx hs pl pu ⟨a,xs,rfl,hx,hw,λp n=>q p _ (vx n _) (SqT.of zy)⟩
theorem X2{v:Value}{o:Option Int}(p:IsPart v o):∃l:Option (Int×Tok),v=partValue l/\l.map (·.1)=o:=by
 cases p with
 |none=>exact⟨none,rfl,rfl⟩
 |int i t=>exact⟨some (i,t),rfl,rfl⟩
theorem sl_strA:SlR X (λx lo hi H Q=>∃z,x = .str z/\z.length<=sizeLine/\Q (.str (Txt.slice z lo hi)) H):=by
 intro pins s σ H x v vl vu lo hi sl Q I rx hs pl pu h;obtain⟨z,rfl,hz,q⟩:=h;obtain⟨t,rfl⟩:=rx;obtain⟨l,rfl,rfl⟩:=X2 pl;obtain⟨u,rfl,rfl⟩:=X2 pu;refine⟨"str",_,F.slot_str_getitem.lookup,uY _ _ _,?_⟩;refine wpAny_getItem_str_slice (l:=l) (u:=u) (st:=none) hs rfl (post_val_or_str ⟨yM (Txt.slice_le z _ _) hz,λt' k=>⟨.str (Txt.slice z (l.map (·.1)) (u.map (·.1))),H,I.tok k,⟨t',rfl⟩,q⟩⟩)
def mSl(K:W.Frag):V->Option Int->Option Int->Hp->VK->Prop:=λx lo hi H Q=>match x with
 | .str z=>z.length<=sizeLine/\Q (.str (Txt.slice z lo hi)) H
 | .ref a=>(∃xs,SqL K H a xs/\New H (.lst (uz xs lo hi)) Q)\/∃xs,SqT K H a xs/\∀(p:Addr)(H':Hp),Same H H'->SqT K H' p (uz xs lo hi)->Q (.ref p) H'
 |_=>False
theorem Jh:SlR X (mSl X.K):=N0 (sl_strA.or (sl_tupA.or Q1)) λx lo hi H Q h=>by
 cases x with
 |str z=>exact .inl ⟨z,rfl,h.1,h.2⟩
 |ref a =>
  have h':(∃xs,SqL X.K H a xs/\New H (.lst (uz xs lo hi)) Q)\/∃xs,SqT X.K H a xs/\∀(p:Addr)(H':Hp),Same H H'->SqT X.K H' p (uz xs lo hi)->Q (.ref p) H':=h;rcases h' with⟨xs,hx,q⟩|⟨xs,hx,q⟩
  ·exact .inr (.inr ⟨a,xs,rfl,hx,q.at⟩)
  ·exact .inr (.inl ⟨a,xs,rfl,hx,q⟩)
 |_=>exact(show False from h).elim
def Oo(t:TE):TO:=fun σ H Q=>t σ H (To λi H1=>Q (some i) H1)
theorem xk{e:Expr}{te:TE}(h:PE X e te):PO X (some e) (Oo te):=by
 intro pins s σ H Q I hw;rw[evalPart_some];refine thn (h pins s σ H _ I hw) λu s1 ⟨x,H1,I1,r1,q1⟩=>?_;cases x with
 |int i =>
  obtain⟨t,rfl⟩:=r1;exact⟨some i,H1,I1,.int i t,q1⟩
 |_=>exact(show False from q1).elim
theorem xw{e:Expr}{te:TE}{lo hi:Option Expr}{tl th:TO}{pos p2:Pos}(he:PE X e te)(hl:PO X lo tl)(hu:PO X hi th):PE X (.Subscript e (.Slice lo hi none p2) pos) (tSl (mSl X.K) te tl th):=Tz Jh he hl hu
def Ix(t:TA):TE:=fun σ H Q=>t σ H λxs H1=>xs.length<=sizeLine/\New H1 (.tup xs) Q
def Ip(t:TA):TE:=fun σ H Q=>t σ H λxs H1=>xs.length<=sizeLine/\New H1 (.lst xs) Q
theorem u9{es:List Expr}{t:TA}{pos:Pos}{x1}(h:PA X es t):PE X (.Tuple es x1 pos) (Ix t):=by
 intro pins s σ H Q I hq;refine wpAny_Tuple_spliced (thn (h pos pins s σ H _ I hq) λus s1 ⟨xs,H1,I1,r,z,q⟩=>⟨by rw[<-r.length];exact z,?_⟩);have hf:H1 s1.heap.objs.size=none:=I1.hok.fresh (zT _);refine⟨.ref s1.heap.objs.size,upd H1 s1.heap.objs.size (.tup xs),I1.laid (t':=s1.toks) (λb u e=>zY _ e) (zT _) ?_,rfl,q.at _ hf⟩;exact⟨z,us,r,⟨_,zR _ rfl,rfl,_,rfl⟩⟩
theorem xq{es:List Expr}{t:TA}{pos:Pos}(h:PA X es t):PE X (.List es pos) (Ip t):=by
 intro pins s σ H Q I hq;refine wpAny_List_spliced (thn (h pos pins s σ H _ I hq) λus s1 ⟨xs,H1,I1,r,z,q⟩=>⟨by rw[<-r.length];exact z,?_⟩);have hf:H1 s1.heap.objs.size=none:=I1.hok.fresh (zT _);refine⟨.ref s1.heap.objs.size,upd H1 s1.heap.objs.size (.lst xs),I1.laid (t':=s1.toks) (λb u e=>zY _ e) (zT _) ?_,rfl,q.at _ hf⟩;exact⟨z,us,0,r,zR _ rfl⟩
def mB(t:TE):TT:=fun σ H Q=>t σ H (Tn Q)
theorem zh{a b:Expr}{op:CmpOp}{r:R2}{ta tb:TE}{pos:Pos}(ho:OpR X (compareOp op) r)(ha:PE X a ta)(hb:PE X b tb)(hm:behindInMarks op b=false):PT X (.Compare a [op] [b] pos) (mB (tOp r ta tb)):=by
 intro pins s σ H Q I h;refine wpAny_isTrue_Compare1 (thn (ha pins s σ H _ I h) λv s1 ⟨x,H1,I1,r1,q1⟩=>thn (hb pins s1 σ H1 _ I1 q1) λu s2 ⟨y,H2,I2,r2,q2⟩ =>
  thn (ho pins s2 σ H2 x y v u _ I2 r1 r2 q2) λc s3 ⟨z,H3,I3,r3,q3⟩=>?_) hm
 cases z with
 |bl k =>
  cases r3;exact wF ⟨H3,I3,q3⟩
 |_=>exact(show False from q3).elim
theorem wn{e:Expr}{t:TE}(h:PE X e t)(he:∀Aq,isTrue e X.env Aq=(do let v <-Aq;standAt e.pos;holding [v] (truthy v)):=by intro _;rfl):PT X e (mB t):=by
 intro pins s σ H Q I hw;refine isTrue_plain (thn (h pins s σ H _ I hw) λv s1 ⟨x,H1,I1,r1,q1⟩=>?_) (he _);cases x with
 |bl k =>
  cases r1;exact wF ⟨H1,I1,q1⟩
 |_=>exact(show False from q1).elim
def Ol(ta tb:TE):TE:=fun σ H Q=>ta σ H (Tn λc H1=>if c=true then tb σ H1 Q else Q (.bl false) H1)
def Is(ta tb:TE):TE:=fun σ H Q=>ta σ H (Tn λc H1=>if c=true then Q (.bl true) H1 else tb σ H1 Q)
def On(ta:TE):TE:=fun σ H Q=>ta σ H (Tn λc H1=>Q (.bl (!c)) H1)
theorem oi{a b:Expr}{rest:List Expr}{ta tb:TE}{pos:Pos}(ha:PE X a ta)(hb:PE X (.BoolOp .And (b::rest) pos) tb):PE X (.BoolOp .And (a::b::rest) pos) (Ol ta tb):=by
 intro pins s σ H Q I h;refine BoolOp_and (thn (ha pins s σ H _ I h) λv s1 ⟨x,H1,I1,r1,q1⟩=>?_);cases x with
 |bl c =>
  cases r1;refine wF ?_;cases c with
  |true=>exact hb pins s1 σ H1 Q I1 q1
  |false=>exact⟨.bl false,H1,I1,rfl,q1⟩
 |_=>exact(show False from q1).elim
theorem Jf{a b:Expr}{rest:List Expr}{ta tb:TE}{pos:Pos}(ha:PE X a ta)(hb:PE X (.BoolOp .Or (b::rest) pos) tb):PE X (.BoolOp .Or (a::b::rest) pos) (Is ta tb):=by
 intro pins s σ H Q I h;refine BoolOp_or (thn (ha pins s σ H _ I h) λv s1 ⟨x,H1,I1,r1,q1⟩=>?_);cases x with
 |bl c =>
  cases r1;refine wF ?_;cases c with
  |false=>exact hb pins s1 σ H1 Q I1 q1
  |true=>exact⟨.bl true,H1,I1,rfl,q1⟩
 |_=>exact(show False from q1).elim
theorem Xv{a:Expr}{ta:TE}{pos:Pos}(ha:PE X a ta):PE X (.UnaryOp .Not a pos) (On ta):=by
 intro pins s σ H Q I h;refine UnaryOp_ (thn (ha pins s σ H _ I h) λv s1 ⟨x,H1,I1,r1,q1⟩=>?_);cases x with
 |bl c =>
  cases r1;exact not_of (wF ⟨.bl (!c),H1,I1,rfl,q1⟩)
 |_=>exact(show False from q1).elim
def Mc(K:W.Frag):List V->Hp->VK->Prop:=λxs H Q=>match xs with
 |[.str z]=>z.length<=sizeLine/\Q (.int z.length) H
 |[.ref p]=>∃ys,(SqL K H p ys\/SqT K H p ys)/\Q (.int ys.length) H
 |_=>False
theorem xz:wv X (.builtin "len") (Mc X.K):=by
 intro pins s σ H xs us Q I r h
 match xs,h with
 |[.str z],h=>exact d9 pins s σ H _ us Q I r ⟨z,rfl,h.1,h.2⟩
 |[.ref p],h =>
  obtain⟨ys,hs,q⟩:=(show∃ys,(SqL X.K H p ys\/SqT X.K H p ys)/\Q (.int ys.length) H from h)
  exact d8 pins s σ H _ us Q I r ⟨p,ys,rfl,hs,q⟩
theorem X1{C:Addr->Prop}{xs:List V}(h:match xs with|[.ref p]=>C p|_=>False):∃p,xs=[.ref p]/\C p:=by
 rcases xs with _|⟨x,_|⟨_,_⟩⟩
 ·exact(show False from h).elim
 ·cases x with
  |ref p=>exact⟨p,rfl,h⟩
  |_=>exact(show False from h).elim
 ·exact(show False from by cases x<;>exact h).elim
def Xu(K:W.Frag):List V->Hp->VK->Prop:=λxs H Q=>match xs with
 |[.ref p]=>∃ys,(SqL K H p ys\/SqT K H p ys)/\New H (.lst ys) Q
 |_=>False
theorem Sw:wv X (.type "list") (Xu X.K):=by
 intro pins s σ H xs us Q I r h;obtain⟨p,rfl,ys,hs,q⟩:=X1 (C:=λp=>∃ys,(SqL X.K H p ys\/SqT X.K H p ys)/\New H (.lst ys) Q) h;exact eh pins s σ H _ us Q I r ⟨p,ys,rfl,hs,q.at⟩
def Su(K:W.Frag):List V->Hp->VK->Prop:=λxs H Q=>match xs with
 |[.ref p]=>∃ys,(SqL K H p ys\/SqT K H p ys)/\∀(r:Addr)(H':Hp),Same H H'->SqT K H' r ys->Q (.ref r) H'
 |_=>False
theorem w4:wv X (.type "tuple") (Su X.K):=by
 intro pins s σ H xs us Q I r h;obtain⟨p,rfl,ys,hs,q⟩:=X1 (C:=λp=>∃ys,(SqL X.K H p ys\/SqT X.K H p ys)/\∀(r:Addr)(H':Hp),Same H H'->SqT X.K H' r ys->Q (.ref r) H') h;rcases hs with hs|hs
 ·exact rn pins s σ H _ us Q I r ⟨p,ys,rfl,.inl ⟨hs,λl n=>q l _ (vx n _) (SqT.of zy)⟩⟩
 ·exact rn pins s σ H _ us Q I r ⟨p,ys,rfl,.inr ⟨hs,q p H (Same.refl H) hs⟩⟩
inductive TyX (K:W.Frag) (H:Hp):V->Value->Prop where
 |of {x:V}{t:Value} (h:TyOf K H x t):TyX K H x t
 |tup {a:Addr}{xs:List V} (h:SqT K H a xs):TyX K H (.ref a) (.type "tuple")
 |lst {a:Addr}{xs:List V} (h:SqL K H a xs):TyX K H (.ref a) (.type "list")
def Im(K:W.Frag):List V->Hp->VK->Prop:=λxs H Q=>match xs with
 |[x,.ty c]=>∃t b,TyX K H x t/\W.kitOne K t (.type c)=some b/\Q (.bl b) H
 |_=>False
theorem Ll{C:V->String->Prop}{xs:List V}(h:match xs with|[x,.ty c]=>C x c|_=>False):∃x c,xs=[x,.ty c]/\C x c:=by
 rcases xs with _|⟨x,_|⟨y,_|⟨_,_⟩⟩⟩
 ·exact(show False from h).elim
 ·exact(show False from h).elim
 ·cases y with
  |ty c=>exact⟨x,c,rfl,h⟩
  |_=>exact(show False from h).elim
 ·exact(show False from by cases y<;>exact h).elim
theorem u6:wv X (.builtin "isinstance") (Im X.K):=by
 intro pins s σ H xs us Q I r h;obtain⟨x,c,rfl,t,b,ty,e,q⟩:=Ll (C:=λx c=>∃t b,TyX X.K H x t/\W.kitOne X.K t (.type c)=some b/\Q (.bl b) H) h;obtain⟨u,w',rfl,r1,r2⟩:=ju r;cases r2;cases ty with
 |of ty=>exact Vy I r1 ty e λtk=>⟨.bl b,H,I.tok tk,rfl,q⟩
 |tup hq =>
  cases r1;obtain⟨aH,_,⟨o,h1,h2,_⟩,_⟩:=I.tuple hq;exact xN W.kitx_tuple I.kIn ⟨o,h1,h2⟩ e (λz=>nomatch z) λtk=>⟨.bl b,H,I.tok tk,rfl,q⟩
 |lst hq =>
  cases r1;obtain⟨aH,_,pl,_⟩:=I.list hq;obtain⟨o,h1,h2,_⟩:=pl.isList;exact xN W.kitx_list I.kIn ⟨o,h1,h2⟩ e (λz=>nomatch z) λtk=>⟨.bl b,H,I.tok tk,rfl,q⟩
def Ij:V->List V->Hp->VK->Prop:=λx vs H Q=>match x,vs with
 | .ref l,[y]=>∃xs,H l=some (.lst xs)/\xs.length<sizeLine/\Q .non (upd H l (.lst (xs++[y])))
 |_,_=>False
theorem Qs{C:Addr->V->Prop}{x:V}{vs:List V}(h:match x,vs with|.ref l,[y]=>C l y|_,_=>False):∃l y,x = .ref l/\vs=[y]/\C l y:=by
 cases x with
 |ref l =>
  rcases vs with _|⟨y,_|⟨_,_⟩⟩
  ·exact(show False from h).elim
  ·exact⟨l,y,rfl,rfl,h⟩
  ·exact(show False from h).elim
 |_=>exact(show False from by rcases vs with _|⟨y,_|⟨_,_⟩⟩<;>exact h).elim
theorem lc:MtR X "list.append" Ij:=λpins s σ H x xs v us Q I rx rs h=>by
 obtain⟨l,y,rfl,rfl,ys,e,z,q⟩:=Qs (C:=λl y=>∃ys,H l=some (.lst ys)/\ys.length<sizeLine/\Q .non (upd H l (.lst (ys++[y])))) h;exact i0 pins s σ H _ _ v us Q I rx rs ⟨l,ys,y,rfl,rfl,e,z,q⟩
def Gj:V->List V->Hp->VK->Prop:=λx vs H Q=>match x,vs with
 | .ref l,[]=>∃xs y,H l=some (.lst xs)/\xs[xs.length-1]?=some y/\Q y (upd H l (.lst xs.dropLast))
 |_,_=>False
def mBM(r:V->List V->Hp->VK->Prop)(to:TE)(t:TA):TE:=fun σ H Q=>to σ H λx H1=>(∃p xs,x = .ref p/\H1 p=some (.lst xs))/\t σ H1 λxs H2=>r x xs H2 Q
def Gd(r:V->List V->Hp->VK->Prop)(to:TE):TE:=fun σ H Q=>to σ H λx H1=>(∃p xs,x = .ref p/\H1 p=some (.lst xs))/\r x [] H1 Q
theorem lf{o e:Expr}{es:List Expr}{to:TE}{t:TA}{name:Str}{apos cpos:Pos}{id:String}{r:V->List V->Hp->VK->Prop}(slot:Slot "list" name id)(hty:typeOf (.builtin id)=pure (.type "method_descriptor"))(hm:MtR X id r)(ho:PE X o to)(ha:PA X (e::es) t)
  (jX:attributeBase o name X.env (eval o X.env)=eval o X.env:=by rfl)
  (pW:((backTo cpos (starEach (e::es) X.env)).all (λx=>!x.1)&&(backToKw cpos (keywordEach [] X.env)).all (λx=>x.1.isSome)
  &&decide ((e::es).length+([]:List Keyword).length+(if([]:List Keyword).isEmpty then 0 else 1)<30))=true:=by rfl)
  (jW:(apos.endLine==cpos.line)=true:=by rfl) (hs:starEach (e::es) X.env=(false,eval e X.env)::starEach es X.env:=by rfl) (Ed:(backTo cpos (starEach es X.env)).any (·.1)=false:=by rfl) :
  PE X (.Call (.Attribute o name apos) (e::es) [] cpos) (mBM r to t):=by
 intro pins s σ H Q I h;refine wD jX pW jW rfl (thn (ho pins s σ H _ I h) λv s1 ⟨x,H1,I1,r1,⟨p,xs,e,hp⟩,q1⟩=>?_);subst e;obtain⟨h1,h2⟩:=N7 (T:="list") I1 r1 (.inl ⟨rfl,xs,SqL.of hp⟩);refine⟨"list",id,F.plainAttrs_list,slot,hty,h1,h2,?_⟩;have hA:=ha cpos pins s1 σ H1 _ I1 q1;rw[hs]at hA ⊢;refine wC (by show(false||(backTo cpos (starEach es X.env)).any (·.1))=false;rw[Ed]<;>rfl) (vQ ?_);exact thn hA λus s2 ⟨vs,H2,I2,r2,q2⟩=>hm pins s2 σ H2 _ vs v us Q I2 r1 r2 q2
def Ia(K:W.Frag)(tl:TE):TI:=fun σ H R=>tl σ H (cq λa H1=>((∃xs,SqL K H1 a xs)/\R (Itl K a) H1)\/((∃xs,SqT K H1 a xs)/\R (Itt K a) H1))
theorem yx{tg l:Expr}{tl:TE}(hl:PE X l tl):PI X tg l (Ia X.K tl):=by
 intro pins s σ H R I h;refine thn (hl pins s σ H _ I h) λv s1 ⟨x,H1,I1,r1,q1⟩=>?_;cases x with
 |ref a =>
  cases r1;rcases(show((∃xs,SqL X.K H1 a xs)/\R (Itl X.K a) H1)\/((∃xs,SqT X.K H1 a xs)/\R (Itt X.K a) H1)from q1)with⟨⟨xs,hq⟩,q⟩|⟨⟨xs,hq⟩,q⟩
  ·obtain⟨aH,rv,p,hz⟩:=I1.list hq;refine vN p.isList ?_;refine⟨s1.heap.objs.size,[s1.heap.objs.size],_,_,H1,rfl,I1.kept (t':=s1.toks) λb o e=>zY _ e,W4 a _,⟨_,zR _ rfl,rfl,rfl⟩,λb hb=>?_,q⟩;have e:b=s1.heap.objs.size:=by simpa using hb
   subst e;exact I1.fpOk (zT _) (I1.hok.fresh (zT _))
  ·obtain⟨aH,rv,p,hz⟩:=I1.tuple hq;refine wK (show s1.heap.IsTuple a aH.toArray from p) ?_;refine⟨s1.heap.objs.size,[s1.heap.objs.size],_,_,H1,rfl,I1.kept (t':=s1.toks) λb o e=>zY _ e,ak a _,⟨_,zR _ rfl,rfl,rfl⟩,λb hb=>?_,q⟩;have e:b=s1.heap.objs.size:=by simpa using hb
   subst e;exact I1.fpOk (zT _) (I1.hok.fresh (zT _))
 |_=>exact(show False from q1).elim
def iR1(ta:TA):TI:=fun σ H R=>ta σ H (on1 (To λj H1=>(-(2 ^ 62)<=j/\j<2 ^ 62)/\R (Itr 0 j.toNat) H1))
theorem wm{tg a:Expr}{ta:TA}{p pos:Pos}(hg:Gl X "range")(hm:X.mg "range"=none)(ha:PA X [a] ta)(hs:starEach [a] X.env=[(false,eval a X.env)]:=by rfl):PI X tg (.Call (.Name "range" p) [a] [] pos) (iR1 ta):=by
 intro pins s σ H R I h;refine Call_ (tq I hg hm boot_range (wS (thn (ha pos pins s σ H _ I h) λus s1 ⟨vs,H1,I1,r1,q1⟩=>?_) hs rfl));rcases vs with _|⟨x,_|⟨y,rr⟩⟩
 ·exact(show False from q1).elim
 ·cases x with
  |int j =>
   obtain⟨⟨q1,q2⟩,q⟩:=(show(-(2 ^ 62)<=j/\j<2 ^ 62)/\R (Itr 0 j.toNat) H1 from q1)
   cases r1 with
   |cons r rr =>
    cases rr;obtain⟨t,rfl⟩:=r;exact call_range_1 (Ub I1 (by lia) (by lia) q1 q2 (by simpa using q))
  |_=>exact(show False from q1).elim
 ·exact(show False from q1).elim
def aq(g:TG)(tb:TS)(J:It)(D:ue)(σ:St)(H1:Hp):Prop:=∃W:Nat->Nat->St->Hp->Prop,(∃m,W 0 m σ H1)/\∀i m σ H,W i m σ H ->
 (J.stop i H/\D.nx σ H)\/(J.go i H/\∃N:St->Hp->Prop,(∀σ' H',N σ' H'->∃m',m'<m/\W (i+1) m' σ' H')/\∀x H',J.yld i H x H'->g x σ H' fun σ2 H2=>tb { D with nx:=N,ct:=N,bk:=D.nx } σ2 H2)
def Mb(wi:TI)(g:TG)(tb:TS):TS:=λD σ H=>wi σ H λJ H1=>aq g tb J D σ H1
theorem wf{tg iter:Expr}{body:List Stmt}{wi:TI}{g:TG}{tb:TS}{pos:Pos}(hp:PassesOwn (model X.prog X.w) X.A X.env X.xe)(hc:X.calm=true)(hi:PI X tg iter wi)(hg:PG X tg g)(hb:PSs X body tb)
  (hs:∀x,foldedSetIterable iter X.env x=pure x:=by intro _;rfl):PS X (.For tg iter body [] pos) (Mb wi g tb):=M8 hp hc hi hg hb hs
theorem sj{K:W.Frag}{a:Addr}{xs:List V}{g:TG}{tb:TS}{D:ue}{σ:St}{H:Hp}(Pv:Nat->St->Hp->Prop)(h0:Pv 0 σ H)(hl:∀i σ H,i<=xs.length->Pv i σ H->SqL K H a xs)
  (hs:∀i x σ H,xs[i]?=some x->Pv i σ H->g x σ H fun σ2 H2=>tb { D with nx:=Pv (i+1),ct:=Pv (i+1),bk:=D.nx } σ2 H2) (hd:∀σ H,Pv xs.length σ H->D.nx σ H):aq g tb (Itl K a) D σ H:=R3 Pv h0 hl hs hd
theorem xj{K:W.Frag}{a:Addr}{xs:List V}{g:TG}{tb:TS}{D:ue}{σ:St}{H:Hp}(Pv:Nat->St->Hp->Prop)(h0:Pv 0 σ H)(hl:∀i σ H,i<=xs.length->Pv i σ H->SqT K H a xs)
  (hs:∀i x σ H,xs[i]?=some x->Pv i σ H->g x σ H fun σ2 H2=>tb { D with nx:=Pv (i+1),ct:=Pv (i+1),bk:=D.nx } σ2 H2) (hd:∀σ H,Pv xs.length σ H->D.nx σ H):aq g tb (Itt K a) D σ H:=Pi Pv h0 hl hs hd
theorem uk{n:Nat}{g:TG}{tb:TS}{D:ue}{σ:St}{H:Hp}(Pv:Nat->St->Hp->Prop)(h0:Pv 0 σ H)
  (hs:∀i σ H,i<n->Pv i σ H->g (.int (0+(i:Int))) σ H fun σ2 H2=>tb { D with nx:=Pv (i+1),ct:=Pv (i+1),bk:=D.nx } σ2 H2) (hd:∀σ H,Pv n σ H->D.nx σ H):aq g tb (Itr 0 n) D σ H:=Vs Pv h0 hs hd
def Hq(c:TT)(tb:TS)(D:ue)(σ:St)(H:Hp):Prop:=U1 c tb D σ H
def Sv(c:TT)(tb:TS):TS:=λD σ H=>Hq c tb D σ H
theorem Pw{c:Expr}{body:List Stmt}{tc:TT}{tb:TS}{pos:Pos}(hp:PassesOwn (model X.prog X.w) X.A X.env X.xe)(hc:PT X c tc)(hb:PSs X body tb):PS X (.While c body [] pos) (Sv tc tb):=T7 hp hc hb
end
section
variable {K:W.Frag}{H:Hp}{Q:VK}{i j:Int}{x y:Str}{p r:Addr}{c d:Bool}{g:Bool->Bool}{v:V}{neg:Bool}
theorem Nb:Pn K (.int i) (.int j) H Q=Q (.int (i+j)) H:=rfl
theorem Nd:Pn K (.str x) (.str y) H Q=(x.length+y.length<=sizeLine/\Q (.str (x++y)) H):=rfl
theorem Nc:Pn K (.ref p) (.ref r) H Q=((∃xs ys,H p=some (.lst xs)/\H r=some (.lst ys)/\xs.length+ys.length<=sizeLine/\New H (.lst (xs++ys)) Q) \/
   ∃xs ys,SqT K H p xs/\SqT K H r ys/\xs.length+ys.length<=sizeLine/\∀(p:Addr)(H':Hp),Same H H'->SqT K H' p (xs++ys)->Q (.ref p) H'):=rfl
theorem Gr{C:Int->Int->Prop}{f:Int->Int->V}:mII C f (.int i) (.int j) H Q=(C i j/\Q (f i j) H):=rfl
theorem J7{f:Int->Int->V}:Sq f (.int i) (.int j) H Q=Q (f i j) H:=rfl
theorem J1:k8 K g (.int i) (.int j) H Q=Q (.bl (g (decide (i=j)))) H:=rfl
theorem J0:k8 K g (.bl c) (.bl d) H Q=Q (.bl (g (decide (c=d)))) H:=rfl
theorem J5:k8 K g (.str x) (.str y) H Q=Q (.bl (g (decide (x=y)))) H:=rfl
theorem Nj:k8 K g .non .non H Q=Q (.bl (g true)) H:=rfl
theorem Nh:k8 K g .non (.bl c) H Q=Q (.bl (g false)) H:=rfl
theorem Nf:k8 K g (.bl c) .non H Q=Q (.bl (g false)) H:=rfl
theorem Ni:k8 K g .non (.int i) H Q=Q (.bl (g false)) H:=rfl
theorem Ng:k8 K g (.int i) .non H Q=Q (.bl (g false)) H:=rfl
theorem J4:k8 K g (.ref p) (.ref r) H Q=(∃da db,Has K H (.ref p) da/\Has K H (.ref r) db/\SeqAt.shaped da=true/\SeqAt.shaped db=true/\Q (.bl (g (PyData.eqv da db))) H):=rfl
theorem Ke:mLe (.int i) (.int j) H Q=Q (.bl (decide (i<=j))) H:=rfl
theorem Kd:mLe (.bl c) (.bl d) H Q=Q (.bl (!c||d)) H:=rfl
theorem Gs:mIn K neg v (.ref p) H Q=(∃xs,(SqL K H p xs\/SqT K H p xs)/\ve v=true/\xs.all ve=true/\Q (.bl (if neg then !inV v xs else inV v xs)) H):=rfl
theorem Kc:mIx K (.str x) (.int i) H Q=(x.length<=sizeLine/\∃c,atI x.cps.toList i=some c/\Q (.str ⟨#[c]⟩) H):=rfl
theorem Ka:mIx K (.ref p) (.int i) H Q=(∃xs v,(SqL K H p xs\/SqT K H p xs)/\atI xs i=some v/\Q v H):=rfl
theorem Kk{lo hi:Option Int}:mSl K (.str x) lo hi H Q=(x.length<=sizeLine/\Q (.str (Txt.slice x lo hi)) H):=rfl
theorem Kj{lo hi:Option Int}:mSl K (.ref p) lo hi H Q=((∃xs,SqL K H p xs/\New H (.lst (uz xs lo hi)) Q)\/∃xs,SqT K H p xs/\∀(p:Addr)(H':Hp),Same H H'->SqT K H' p (uz xs lo hi)->Q (.ref p) H'):=rfl
theorem No:Mc K [.str x] H Q=(x.length<=sizeLine/\Q (.int x.length) H):=rfl
theorem Nn:Mc K [.ref p] H Q=(∃ys,(SqL K H p ys\/SqT K H p ys)/\Q (.int ys.length) H):=rfl
theorem T9:Xu K [.ref p] H Q=(∃ys,(SqL K H p ys\/SqT K H p ys)/\New H (.lst ys) Q):=rfl
theorem Qo:Su K [.ref p] H Q=(∃ys,(SqL K H p ys\/SqT K H p ys)/\∀(r:Addr)(H':Hp),Same H H'->SqT K H' r ys->Q (.ref r) H'):=rfl
theorem J9{T:String}:Im K [v,.ty T] H Q=(∃t b,TyX K H v t/\W.kitOne K t (.type T)=some b/\Q (.bl b) H):=rfl
theorem Jy:Ij (.ref p) [v] H Q=(∃xs,H p=some (.lst xs)/\xs.length<sizeLine/\Q .non (upd H p (.lst (xs++[v])))):=rfl
theorem Kh:Gj (.ref p) [] H Q=(∃xs y,H p=some (.lst xs)/\xs[xs.length-1]?=some y/\Q y (upd H p (.lst xs.dropLast))):=rfl
end
structure zv(P:Program)(w:World)(K:W.Frag)(mg:Str->Option Value)(base:Heap)(k:Nat)(x:Str)(ps:List Str)(sp:Sp):Prop where
 ex:∃(f:Addr)(fd:FuncData),FnOk P w K mg base CX0 k f fd ps sp/\Binds K fd ps []/\W.keepIn K (.ref f)=true/\mg x=some (.ref f)
theorem zp{X:Cx}{k k':Nat}{x:Str}{ps:List Str}{sp:Sp}{t:TA}{e:Expr}{es:List Expr}{p pos:Pos}(C:zv X.prog X.w X.K X.mg X.base k x ps sp)(hr:Room k' X.A)(hk:k<=k')(ha:PA X (e::es) t)(hg:Gl X x:=by rfl)
  (kI:(x==("__debug__":Str))=false:=by decide) (he:starEach (e::es) X.env=(false,eval e X.env)::starEach es X.env:=by rfl) (cV:(backTo pos (starEach es X.env)).any (·.1)=false:=by rfl) :
  PE X (.Call (.Name x p) (e::es) [] pos) (Yn sp [] E0 t):=by
 obtain⟨f,fd,F,b,kp,hm⟩:=C.ex;exact X4 F (hr.mono hk) hg hm kp b .nil Tw ha kI he cV
theorem ay{P:Program}{w:World}{K:W.Frag}{mg:Str->Option Value}{base:Heap}{k k':Nat}{x:Str}{ps:List Str}{sp:Sp}(C:zv P w K mg base k x ps sp)(h:k<=k'):zv P w K mg base k' x ps sp:=by
 obtain⟨f,fd,F,b,kp,hm⟩:=C.ex;exact⟨f,fd,F.mono h,b,kp,hm⟩
structure Def(K:W.Frag)(mg:Str->Option Value)(x:Str)(st:Stmt)(ps:List Str):Prop where
 ex:∃(f:Addr)(fd:FuncData),Fun K x x st f fd/\(∀us:List Value,us.length=ps.length->bindArgs fd ⟨us,[]⟩=pure (ps.zip us))/\mg x=some (.ref f)
section
variable {P:Program}{w:World}{K:W.Frag}{mg:Str->Option Value}{base:Heap}
theorem R4{x:Str}{st:Stmt}{f:Addr}{fd:FuncData}{N ps:List Str}{k:Nat}{sp:Sp}(F:Fun K x x st f fd)(S:zr N ps (z4 st))(len:∀vs H Q E,sp vs H Q E->vs.length=ps.length)
  (bI:∀(f:Addr)(cdv:Value)(A:Around)(outer:List Env)(s:Shared)(H:Hp)(vs:List V)(Q:VK)(E:XK),Room k (A.deeper (envOfC x (z4 st) s.heap.objs.size f cdv))->sp vs H Q E ->
   ∃σ t,start N vs=σ/\PSs (wg CX0 P w K mg base N x (z4 st) f cdv A outer s H E).nox (zw st) t/\t { nx:=λ_ H'=>Q .non H',rt:=Q } σ H):FnOk P w K mg base CX0 (k+1) f fd ps sp :=
 F.ok S len λcdv A outer s H vs Q E hr h=>by
  obtain⟨σ,t,e,ht,q⟩:=bI f cdv A outer s H vs Q E hr h;exact⟨t,ht,by rw[e];exact q⟩
theorem Def.callee{x:Str}{st:Stmt}{N ps:List Str}{k:Nat}{sp:Sp}(F:Def K mg x st ps)(S:zr N ps (z4 st))(len:∀vs H Q E,sp vs H Q E->vs.length=ps.length)
  (bI:∀(f:Addr)(cdv:Value)(A:Around)(outer:List Env)(s:Shared)(H:Hp)(vs:List V)(Q:VK)(E:XK),Room k (A.deeper (envOfC x (z4 st) s.heap.objs.size f cdv))->sp vs H Q E ->
   ∃σ t,start N vs=σ/\PSs (wg CX0 P w K mg base N x (z4 st) f cdv A outer s H E).nox (zw st) t/\t { nx:=λ_ H'=>Q .non H',rt:=Q } σ H):zv P w K mg base (k+1) x ps sp:=by
 obtain⟨f,fd,F,b,hm⟩:=F.ex;exact⟨f,fd,R4 F S len bI,.all b,F.kp,hm⟩
theorem zb{h:Heap}{x:Str}{st:Stmt}{ps:List Str}{f:Addr}{oc:Value}{od an:Option Addr}{osl:Array (Option Value)}{kV doc pm cdv ct:Value}(X:K.In h)(G:h.Ns mainGlobals mg)
  (a:W.nsIn K mainGlobals x=some (some (.ref f))) (l:K.lookup f=some ⟨oc,od,.func (W.fnOf x x (zu st) (zw st) (z4 st) .none kV doc pm an cdv ct),osl⟩)
  (c:W.codeIn K cdv x=true) (k:W.keepIn K (.ref f)=true)
  (hb:∀(kV doc pm:Value)(an:Option Addr)(cdv ct:Value)(us:List Value),us.length=ps.length->bindArgs (W.fnOf x x (zu st) (zw st) (z4 st) .none kV doc pm an cdv ct) ⟨us,[]⟩=pure (ps.zip us)):Def K mg x st ps :=
 ⟨f,_,ez l c k,hb kV doc pm an cdv ct,xY X G a⟩
end
end My
namespace My
open PySem PySem.Spec L2
open PyProof.Rows hiding St
def yk(X:Cx)(N':List Str)(scope:Scope)(cl:List (Str×Addr))(C:Addr)(s₀:Shared)(H₀:Hp)(ex:List Addr):Cx where
 prog:=X.prog
 w:=X.w
 K:=X.K
 mg:=X.mg
 base:=X.base
 A:=X.A
 N:=N'
 s₀:=s₀
 H₀:=H₀
 env:=compEnvC scope cl C X.env
 outer:=X.stack
 stack:=X.stack
 ex:=ex
 fn:=λ_=>false
 calm:=X.calm
 pn:=[]
 xe:=λ_ _=>False
structure CompOk(X:Cx)(own N:List Str)(scope:Scope)(cl:List (Str×Addr)):Prop where
 clos:closureFor scope X.env=pure cl
 sub:∀p∈cl,X.env.cells.lookup p.1=some p.2
 have_:∀p∈scope.names,p.2 = .free->∃c,cl.lookup p.1=some c
 nocell:∀y∈scope.names,y.2≠.cell
 kind:scope.kind = .function
 names:∀y∈scope.names,y.2 = .local->scope.names.lookup y.1=some .local
 mine:∀x∈own,scope.names.lookup x=some .local
 nd:(own++N).Nodup
 cells:∀y∈N,X.env.kindOf y=some .cell\/X.env.kindOf y=some .free
 free:∀y∈N,∃c,cl.lookup y=some c
 vis:∀y∈N,(relabel scope X.env).names.lookup y=some .cell\/(relabel scope X.env).names.lookup y=some .free
theorem vf{env:Env}:∀{names:List (Str×NameKind)}{x:Str}{k:NameKind},
  (names.map λ(n,k)=>if(k==NameKind.free&&env.scope.kind == .function&&env.kindOf n==some .cell)then(n,NameKind.cell)else(n,k)).lookup x=some k ->
  (k = .cell\/k = .free)->names.lookup x=some .cell\/names.lookup x=some .free
 |[],_,_,h,_=>by simp at h
 |(n,k')::r,x,k,h,hk=>by
  have ih:=@vf env r x k;have h':List.lookup x ((if(k'==NameKind.free&&env.scope.kind == .function&&env.kindOf n==some .cell)=true then(n,NameKind.cell)else(n,k'))::(r.map λ(n,k)=>if(k==NameKind.free&&env.scope.kind == .function&&env.kindOf n==some .cell)then(n,NameKind.cell)else(n,k)))=some k:=h
  by_cases hc:(k'==NameKind.free&&env.scope.kind == .function&&env.kindOf n==some .cell)=true
  ·rw[zH hc]at h';have iQ:k' = .free:=by
    rw[yN,yN]at hc;exact eq_of_beq hc.1.1
   cases hx:x==n with
   |true=>right;simp only[uM,hx,iQ]
   |false =>
    simp only[uM,hx]at h' ⊢;exact ih h' hk
  ·rw[zK hc]at h';cases hx:x==n with
   |true =>
    simp only[uM,hx]at h' ⊢;cases h';rcases hk with rfl|rfl
    ·left;rfl
    ·right;rfl
   |false =>
    simp only[uM,hx]at h' ⊢;exact ih h' hk
section
variable {X:Cx}{own N:List Str}{scope:Scope}{cl:List (Str×Addr)}
theorem CompOk.up(k:CompOk X own N scope cl){y:Str}{c:Addr}(h:cl.lookup y=some c):X.env.cells.lookup y=some c:=k.sub (y,c) (wW h)
theorem R9{NX:List Str}{ixs:List Nat}{N:List Str}(h:ixs.map (λi=>NX[i]?)=N.map some):ixs.length=N.length:=by
 have:=xT List.length h;simpa using this
theorem Oi{NX:List Str}{ixs:List Nat}{N:List Str}(h:ixs.map (λi=>NX[i]?)=N.map some):∀(j:Nat)(i:Nat),ixs[j]?=some i->∃y,NX[i]?=some y/\N[j]?=some y:=λj i e=>by
 have h1:(ixs.map (λi=>NX[i]?))[j]?=(N.map some)[j]?:=by rw[h]
 rw[yU,yU,e]at h1;cases e2:N[j]? with
 |none=>rw[e2]at h1;cases h1
 |some y=>rw[e2]at h1;exact⟨y,yX h1,rfl⟩
theorem y8(clos:closureFor scope X.env=pure cl)(sub:cl.map (λp=>X.env.cells.lookup p.1)=cl.map (λp=>some p.2))
  (b1:(scope.names.all λp=>!(p.2 == .free)||(cl.lookup p.1).isSome)=true) (b2:(scope.names.all λp=>!(p.2 == .cell))=true) (kind:scope.kind = .function)
  (b3:(scope.names.all λp=>!(p.2 == .local)||scope.names.lookup p.1==some .local)=true) (ow:own.map (λx=>scope.names.lookup x)=own.map (λ_=>some .local)) (nd:(own++N).Nodup)
  (b4:(N.all λy=>X.env.kindOf y==some .cell||X.env.kindOf y==some .free)=true) (b5:(N.all λy=>(cl.lookup y).isSome)=true)
  (b6:(N.all λy=>(relabel scope X.env).names.lookup y==some .cell||(relabel scope X.env).names.lookup y==some .free)=true):CompOk X own N scope cl:=by
 rw[xC]at b1 b2 b3 b4 b5 b6;refine⟨clos,List.map_inj_left.mp sub,λp hp hf=>?_,λp hp hc=>?_,kind,λp hp hl=>?_,List.map_inj_left.mp ow,nd,λy hy=>?_,λy hy=>uE.mp (b5 y hy),λy hy=>?_⟩
 ·have h:=b1 p hp;rw[hf]at h;exact uE.mp (by simpa using h)
 ·have h:=b2 p hp;rw[hc]at h;simp at h
 ·have h:=b3 p hp;rw[hl]at h;simpa using h
 ·have h:=b4 y hy;rw[Bool.or_eq_true]at h;exact h.imp eq_of_beq eq_of_beq
 ·have h:=b6 y hy;rw[Bool.or_eq_true]at h;exact h.imp eq_of_beq eq_of_beq
theorem Rs{pins:List (Addr×Obj)}{σ:St}{H:Hp}{s:Shared}{fp:List Addr}{h₁:Heap}{tk:Nat}{ixs:List Nat}(k:CompOk X own N scope cl)(I:Inv X pins σ H s)(hf:∀b∈fp,qu X pins H b)(hfp:∀b∈fp,b<s.heap.objs.size)
  (B0:∀(j:Nat)(i:Nat),ixs[j]?=some i->∃y,X.N[i]?=some y/\N[j]?=some y) (aZ:ixs.length=N.length)
  (CL:h₁.Ns s.heap.objs.size λ_=>none) (TL:∀b o,b≠s.heap.objs.size->s.heap.get? b=some o->h₁.get? b=some o) :
  Inv (yk X (own++N) scope cl s.heap.objs.size s H fp) [] (own.map (λ_=>none)++ixs.map (gv σ)) H { s with heap:=h₁,toks:=tk }:=by
 have old:∀b o,s.heap.get? b=some o->h₁.get? b=some o:=λb o e=>TL b o (zE (zU e)) e;have nfs:∀b∈fp,b∉frs X.stack:=λb hb z=>by
  rcases zD.mp (I.stkSub b z)with e|e
  ·exact(hf b hb).2.1 e
  ·exact(hf b hb).2.2.1 e
 refine⟨⟨I.ok.mod,?_,I.ok.glob,I.ok.blt,zT _,?_,?_,?_,I.ok.hd,I.ok.frames,.inl rfl,?_,I.bs,yM I.ok.bsz I.sz,?_,nfs,I.stack,I.stkFree⟩,
  rfl,I.bare,Un.kept old,⟨λ_=>none,CL,?_⟩,?_,I.hok.fresh (zT _),?_,λp hp=>absurd hp (by simp[yk]),I.hok.kept old,?_⟩
 ·exact k.kind
 ·exact λy z c h1 h2=>I.ok.inj y z c (k.up h1) (k.up h2)
 ·intro y hy;have DX:scope.names.lookup y=some .cell\/scope.names.lookup y=some .free:=by
   rcases hy with hy|hy
   ·exact vf (env:=X.env) hy (.inl rfl)
   ·exact vf (env:=X.env) hy (.inr rfl)
  rcases DX with DX|DX
  ·exact absurd rfl (k.nocell _ (wW DX))
  ·exact k.have_ _ (wW DX) rfl
 ·intro y c h1;exact absurd h1 (by simp[yk])
 ·intro b hb;exact⟨zE (hfp b hb),λy c e=>(hf b hb).2.2.2.2.1 y c (k.up e)⟩
 ·intro b o e hb;rcases(hf b hb).2.2.2.1 with z|z
  ·exact I.ok.noex b o e z
  ·exact absurd (zG (zU e) (yM I.ok.bsz z)) (xA _)
 ·intro i y v h1 h2 h3;have h1:(own++N)[i]?=some y:=h1
  by_cases hio:i<own.length
  ·rw[wX (by simpa using hio)]at h2;simp[hio]at h2
  ·have sQ:(ixs.map (gv σ))[i-own.length]?=some (some v):=by rw[vX (by simpa using hio)]at h2;simpa using h2
   have UI:N[i-own.length]?=some y:=by rw[vX (by lia)]at h1;exact h1
   generalize i-own.length=i at UI sQ;rw[yU]at sQ;cases e:ixs[i]? with
   |none=>rw[e]at sQ;cases sQ
   |some j =>
    rw[e]at sQ;have h2'':gv σ j=some v:=by simpa using sQ
    obtain⟨z,hz,Br⟩:=B0 i j e;rw[UI]at Br;cases Br;have hm:=zN UI;obtain⟨m,hn,hl⟩:=I.loc;have hvis:Vis X.env.scope y:=.inr (k.cells y hm);obtain⟨u,ru,l⟩:=hl j y v hz (Y5 h2'') hvis;refine⟨u,ru,?_⟩;rcases l with⟨l,_⟩|⟨_,c,ec,ic⟩
    ·exfalso;rcases k.cells y hm with z|z<;>(rw[l]at z;cases z)
    ·obtain⟨c',ec'⟩:=k.free y hm;have:c=c':=yX (ec.symm.trans (k.up ec'));subst this;refine .inr ⟨?_,c,ec',?_⟩
     ·exact k.vis y hm
     ·obtain⟨o,ho,hd⟩:=ic;exact⟨o,old _ _ ho,hd⟩
 ·intro y c e;obtain⟨v,o,ho,hd⟩:=I.cell y c (k.up e);exact⟨v,o,old _ _ ho,hd⟩
 ·intro y c e;exact I.freeC y c (k.up e)
 ·show(own.map (λ_=>none)++ixs.map (gv σ)).length=(own++N).length;simp[aZ]
def PIf(X:Cx)(kF:List Expr)(t:TT):Prop:=∀(pins:List (Addr×Obj))(s:Shared)(σ:St)(H:Hp)(Q:Bool->Hp->Prop),Inv X pins σ H s->t σ H Q ->
 wpAny (model X.prog X.w) X.A (forIn kF true λc r=>if r=true then do let ok <-isTrue c X.env (eval c X.env);pure (ForInStep.yield ok)else pure (ForInStep.yield r)) (TP X pins σ Q) X.xe s
def o4:TT:=λ_ H Q=>Q true H
theorem yg:PIf X [] o4:=λpins s σ H Q I h=>by
 rw[List.forIn_nil];exact zW ⟨H,I,h⟩
theorem Qk{c:Expr}{tc:TT}(hc:PT X c tc):PIf X [c] tc:=λpins s σ H Q I h=>by
 rw[List.forIn_cons];simp only[if_true];refine zZ (zZ (thn (hc pins s σ H Q I h) λb s1 h1=>zW ?_));dsimp only;rw[List.forIn_nil];exact zW h1
theorem eo(kG bW iter:Expr)(kF:List Expr)(scope:Scope)(pos:Pos)(it bA:Value)(env:Env):
  compTurn (.ListComp kG [⟨bW,iter,kF,0⟩] scope pos) 0 it bA env=(standAt iter.pos >>=λ_=>pyNext it >>=λr=>match r with
   |none=>pure (.done .next)
   |some v=>letOwnedTupleGo bW it v >>=λ_=>assign bW env v >>=λ_ =>
    (forIn kF true λc r=>if r=true then do let ok <-isTrue c env (eval c env);pure (ForInStep.yield ok)else pure (ForInStep.yield r)) >>=λok =>
     if ok=true then(eval kG env >>=λx=>call (.builtin "list.append") [bA,x] >>=λ_=>pure ()) >>=λ_=>again (.compLoop (.ListComp kG [⟨bW,iter,kF,0⟩] scope pos) 0 it bA env)
     else again (.compLoop (.ListComp kG [⟨bW,iter,kF,0⟩] scope pos) 0 it bA env)):=by rfl
theorem j4{prog:Program}{w:World}{A:Around}{R:Result->Shared->Prop}{s:Shared}{kG bW iter:Expr}{kF:List Expr}{scope:Scope}{pos:Pos}{it bA:Value}{env:Env}(I:Nat->Shared->Prop)
  (mM:∀n s,I n s->∀E:Value->Shared->Prop,wpAny (model prog w) A (pyNext it) (λr s₁=>match r with
   |none=>R (.ok .next) s₁
   |some v=>wpAny (model prog w) A (letOwnedTupleGo bW it v) (λ_ s₁'=>wpAny (model prog w) A (assign bW env v) (λ_ s₂ =>
     wpAny (model prog w) A (forIn kF true λc r=>if r=true then do let ok <-isTrue c env (eval c env);pure (ForInStep.yield ok)else pure (ForInStep.yield r)) (λok s₂'=>if ok=true then wpAny (model prog w) A (eval kG env) (λx s₃ =>
      wpAny (model prog w) A (call (.builtin "list.append") [bA,x]) (λ_ s₄=>∃m,m<n/\I m s₄) E s₃) E s₂' else∃m,m<n/\I m s₂') E s₂) E s₁') E s₁) E s)
  (n:Nat) (h:I n s) :
  codeAny (model prog w) A (.compLoop (.ListComp kG [⟨bW,iter,kF,0⟩] scope pos) 0 it bA env) R s:=by
 refine codeAny_loop rfl I (λn s hI=>?_) n h;show wpAny _ _ ((compTurn (.ListComp kG [⟨bW,iter,kF,0⟩] scope pos) 0 it bA env).onRaise (λx=>do noteFrame x env;theTreesLotGoes x)) _ _ s;refine wpAny_noted ?_;rw[eo];refine zZ (tF (zZ (yR (mM n s hI _) (λr s₁ h₁=>?_) λ_ _ h'=>h')));cases r with
 |none=>exact zW h₁
 |some v =>
  refine zZ (yR h₁ (λ_ s₁' h₁'=>zZ (yR h₁' (λ_ s₂ h₂=>zZ (yR h₂ (λok s₂' h₂'=>?_) λ_ _ h'=>h')) λ_ _ h'=>h')) λ_ _ h'=>h');cases ok with
  |true =>
   simp only[if_true]at h₂' ⊢;exact zZ (zZ (yR h₂' (λx s₃ h₃=>zZ (yR h₃ (λ_ s₄ h₄=>zW (zW ⟨rfl,h₄⟩)) λ_ _ h'=>h')) λ_ _ h'=>h'))
  |false =>
   simp only[Bool.false_eq_true,if_false]at h₂' ⊢;exact zW ⟨rfl,h₂'⟩
def ua(no:Nat)(g:TG)(tt:TT)(te:TE)(ρ:St)(J:It)(Q:VK)(H1:Hp):Prop:=∀(D:Addr)(H2:Hp),H1 D=none->Same H1 H2->H2 D=some (.lst []) ->
 ∃W:Nat->Nat->List V->Hp->Prop,(∃m,W 0 m [] H2)/\∀i m ys H',W i m ys H'->H' D=some (.lst ys) /\
  ((J.stop i H'/\Q (.ref D) H')\/(J.go i H'/\ys.length<sizeLine/\∀(τ:St) v AW,τ.length=no->J.yld i H' v AW->g v (τ++ρ) AW fun σ2 H3=>(∃τ':St,σ2=τ'++ρ/\τ'.length=no)/\tt σ2 H3 λb H4 =>
   if b=true then te σ2 H4 λy H5=>H5 D=some (.lst ys)/\∃m',m'<m/\W (i+1) m' (ys++[y]) (upd H5 D (.lst (ys++[y])))else∃m',m'<m/\W (i+1) m' ys H4))
def dn(no:Nat)(ixs:List Nat)(wi:TI)(g:TG)(tt:Addr->Shared->Hp->List Addr->TT)(te:Addr->Shared->Hp->List Addr->TE):TE:=fun σ H Q=>wi σ H λJ H1=>∀(C:Addr)(s₀:Shared)(H₀:Hp)(ex:List Addr),ua no g (tt C s₀ H₀ ex) (te C s₀ H₀ ex) (ixs.map (gv σ)) J Q H1
theorem F5{X:Cx}{N':List Str}{scope:Scope}{cl:List (Str×Addr)}{C:Addr}{s₀:Shared}{H₀:Hp}{ex:List Addr}:(yk X N' scope cl C s₀ H₀ ex).K=X.K:=rfl
theorem kn{kG iter tg:Expr}{kF:List Expr}{ixs:List Nat}{g:TG}{tt:Addr->Shared->Hp->List Addr->TT}{te:Addr->Shared->Hp->List Addr->TE}{pos:Pos}{pins:List (Addr×Obj)}{σ:St}{H:Hp}{s₂:Shared}{it:Addr}{fp:List Addr}{tn:Nat->Heap->Prop}{J:It}{Q:VK}{RR:Value->Addr->Result->Shared->Prop}{E:Value->Shared->Prop}
  (k:CompOk X own N scope cl) (pI:X.calm=true) (B0:∀(j:Nat)(i:Nat),ixs[j]?=some i->∃y,X.N[i]?=some y/\N[j]?=some y) (aZ:ixs.length=N.length)
  (hg:∀(C:Addr)(s₀:Shared)(H₀:Hp)(ex:List Addr),PG (yk X (own++N) scope cl C s₀ H₀ ex) tg g)
  (ht:∀(C:Addr)(s₀:Shared)(H₀:Hp)(ex:List Addr),PIf (yk X (own++N) scope cl C s₀ H₀ ex) kF (tt C s₀ H₀ ex))
  (he:∀(C:Addr)(s₀:Shared)(H₀:Hp)(ex:List Addr),PE (yk X (own++N) scope cl C s₀ H₀ ex) kG (te C s₀ H₀ ex))
  (I:Inv X pins σ H s₂) (T:d4 X.prog X.w X.K tg J fp it tn) (st:tn 0 s₂.heap) (hf:∀b∈fp,qu X pins H b)
  (q:∀(C:Addr)(s₀:Shared)(H₀:Hp)(ex:List Addr),ua own.length g (tt C s₀ H₀ ex) (te C s₀ H₀ ex) (ixs.map (gv σ)) J Q H)
  (hRR:∀(D C:Addr)(H':Hp)(s':Shared)(m:Str->Option Value),Inv X pins σ H' s'->s'.heap.Ns C m->H' C=none->C≠X.env.locals->C∉X.fs->(∀p∈X.pn++pins,p.1≠C)->(∀y c,X.env.cells.lookup y=some c->c≠C)->X.s₀.heap.objs.size<=C->Q (.ref D) H'->RR (.ref D) C (.ok .next) s') :
  wpAny (model X.prog X.w) X.A (newList []) (λbA s₃=>wpAny (model X.prog X.w) X.A (newFunctionEnv scope X.env.globals cl [] X.env.qual none .none (some X.env)) (λXS s₄ =>
   codeAny (model X.prog X.w) X.A (.compStart (.ListComp kG [⟨tg,iter,kF,0⟩] scope pos) 0 (.ref it) bA { XS with scope:=relabel scope X.env }) (RR bA XS.locals) s₄) E s₃) E s₂:=by
 refine yB (wpAny_newFunctionEnv k.nocell (by intro y hy;simp at hy) (λh₁ CL₁ hsb₁=>?_) k.kind);dsimp only at CL₁ hsb₁ ⊢;have B2:H s₂.heap.objs.size=none:=I.hok.fresh (zT _);have I3:Inv X pins σ (upd H s₂.heap.objs.size (.lst [])) { s₂ with heap:=s₂.heap.push { cls:=.type "list",dict:=none,data:=.seq ([]:List Value).toArray } } :=
  I.laid (t':=s₂.toks) (λb o e=>zY _ e) (zT _) ⟨yV _,[],0,.nil,zR _ rfl⟩
 obtain⟨W,⟨m0,w0⟩,mM⟩:=q (s₂.heap.push { cls:=.type "list",dict:=none,data:=.seq ([]:List Value).toArray }).objs.size { s₂ with heap:=s₂.heap.push { cls:=.type "list",dict:=none,data:=.seq ([]:List Value).toArray } } (upd H s₂.heap.objs.size (.lst [])) fp s₂.heap.objs.size _ B2 (vx B2 _) zy;have rA:∀b o,s₂.heap.get? b=some o->(s₂.heap.push { cls:=.type "list",dict:=none,data:=.seq ([]:List Value).toArray }).get? b=some o:=λb o e=>zY _ e;have CV:∀b∈fp,b<s₂.heap.objs.size:=λb hb=>by
  obtain⟨o,e,_⟩:=T.obj _ _ st b hb;exact zU e
 have hf3:∀b∈fp,qu X pins (upd H s₂.heap.objs.size (.lst [])) b:=λb hb=>⟨by rw[zj (zE (CV b hb))];exact(hf b hb).1,(hf b hb).2⟩
 generalize hH3:upd H s₂.heap.objs.size (.lst [])=H3 at I3 w0 hf3 mM;generalize hh2:s₂.heap.push { cls:=.type "list",dict:=none,data:=.seq ([]:List Value).toArray }=h2 at I3 CL₁ hsb₁ rA mM ⊢;have SQ:h2.objs.size=s₂.heap.objs.size+1:=by rw[<-hh2,xL]
 have fp2:∀b∈fp,b<h2.objs.size:=λb hb=>by rw[SQ];exact vM (CV b hb)
 have TM:∀b o,b≠h2.objs.size->h2.get? b=some o->h₁.get? b=some o:=λb o hb e=>hsb₁.extBut b o hb (zY _ e);have I4:=Rs (fp:=fp) (h₁:=h₁) (tk:=s₂.toks+([]:List (Str×Value)).length) (s:={ s₂ with heap:=h2 }) k I3 hf3 fp2 B0 aZ (by simpa using CL₁) TM;have st4:tn 0 h₁:=T.keep _ _ _ st λb hb o e=>TM b o (zE (fp2 b hb)) (rA b o e);have fr4:∀b∈fp,H3 b=none:=λb hb=>(hf3 b hb).1;have blk:∀{H':Hp},(∀b∈fp,H' b=none)->∀b∈fp,qu (yk X (own++N) scope cl h2.objs.size { s₂ with heap:=h2 } H3 fp) [] H' b:=λhn b hb =>
  ⟨hn b hb,(I4.ok.exf b hb).1,I4.ok.exfs b hb,.inl hb,(I4.ok.exf b hb).2,λp hp=>absurd hp (by simp[yk])⟩
 have loop:∀s₃:Shared,s₃={ s₂ with heap:=h₁,toks:=s₂.toks+([]:List (Str×Value)).length } ->
   codeAny (model X.prog X.w) X.A (.compLoop (.ListComp kG [⟨tg,iter,kF,0⟩] scope pos) 0 (.ref it) (.ref s₂.heap.objs.size) (compEnvC scope cl h2.objs.size X.env)) (RR (.ref s₂.heap.objs.size) h2.objs.size) s₃:=by
  rintro s₃ rfl;refine j4 (λn s'=>∃i τ ys H',τ.length=own.length/\Inv (yk X (own++N) scope cl h2.objs.size { s₂ with heap:=h2 } H3 fp) [] (τ++ixs.map (gv σ)) H' s'/\tn i s'.heap/\(∀b∈fp,H' b=none)/\W i n ys H') ?_ m0 ⟨0,own.map (λ_=>none),[],H3,by simp,I4,st4,fr4,w0⟩;rintro n s5 ⟨i,τ,ys,H5,hτ,I5,BM,FV,w5⟩ E';obtain⟨hD,alt⟩:=mM i n ys H5 w5;rcases alt with⟨stop,qn⟩|⟨go,hz,step⟩
  ·refine yR (T.done (yk X (own++N) scope cl h2.objs.size { s₂ with heap:=h2 } H3 fp) rfl rfl rfl pI i [] s5 _ H5 E' I5 (blk FV) BM stop) (λr s6 hr=>?_) λ_ _ e=>e;obtain⟨rfl,I6⟩:=hr;obtain⟨m6,hn6,_⟩:=I6.loc;have J6:Inv X pins σ H5 s6:=by
    refine I3.call' (ch:=fp) I6.os I6.base I6.hok I6.bare λb hb=>?_;obtain⟨_,f1,f2,f3,f4,f5⟩:=hf3 b hb;exact⟨f3,f1,f4,f5⟩
   have szle:X.s₀.heap.objs.size<=h2.objs.size:=I3.sz;refine hRR s₂.heap.objs.size h2.objs.size H5 s6 m6 J6 hn6 I6.free (wB I3.lt) (I3.nofs (zT _)) (λp hp z=>?_) (λy c e z=>?_) szle qn
   ·exact absurd (zU (I3.pin p hp).1) (by rw[z];exact xA _)
   ·obtain⟨u,ic⟩:=I3.cell y c e;exact absurd ic.lt (by rw[z];exact xA _)
  ·refine yR (T.item (yk X (own++N) scope cl h2.objs.size { s₂ with heap:=h2 } H3 fp) rfl rfl rfl pI i [] s5 _ H5 E' I5 (blk FV) BM go) (λr s6 hr=>?_) λ_ _ e=>e;obtain⟨u,rfl,h6⟩:=hr;refine yR h6 (λ_ s7 h7=>?_) λ_ _ e=>e;obtain⟨xv,H7,I7,r7,y7,st7,fr7⟩:=h7;have I7':=I7.pinned (blk fr7) (T.obj _ _ st7);refine yR (hg _ _ _ _ _ s7 _ H7 xv u _ I7' r7 (step τ xv H7 hτ y7)) (λ_ s8 h8=>?_) λ_ _ e=>e.elim;obtain⟨σ8,H8,I8,⟨τ',rfl,hτ'⟩,q8⟩:=h8;refine yR (ht _ _ _ _ _ s8 _ H8 _ I8 q8) (λok s9 h9=>?_) λ_ _ e=>e.elim;obtain⟨H9,I9,q9⟩:=h9;have ZJ:∀(Fi:Hp)(FD:Shared)(FW:List V)(m':Nat),Inv (yk X (own++N) scope cl h2.objs.size { s₂ with heap:=h2 } H3 fp) ([]++re fp s7.heap) (τ'++ixs.map (gv σ)) Fi FD->m'<n->W (i+1) m' FW Fi ->
     ∃m,m<n/\∃i τ ys H',τ.length=own.length/\Inv (yk X (own++N) scope cl h2.objs.size { s₂ with heap:=h2 } H3 fp) [] (τ++ixs.map (gv σ)) H' FD/\tn i FD.heap/\(∀b∈fp,H' b=none)/\W i m ys H':=λFi FD FW m' I10 oQ w10=>by
    refine⟨m',oQ,i+1,τ',FW,Fi,hτ',I10.unpinned (pins:=[]),T.keep _ _ _ st7 λb hb o e=>(I10.pin (b,o) (zF _ (zF _ (wb hb e)))).1,λb hb=>?_,w10⟩;obtain⟨o,e,d⟩:=T.obj _ _ st7 b hb;exact(I10.pin (b,o) (zF _ (zF _ (wb hb e)))).2.1
   cases ok with
   |true =>
    simp only[if_true]at q9 ⊢;refine yR (he _ _ _ _ _ s9 _ H9 _ I9 q9) (λy FD h10=>?_) λ_ _ e=>e.elim;obtain⟨yv,Fi,I10,r10,hD10,m',oQ,w10⟩:=h10;refine yR (i0 (X:=yk X (own++N) scope cl h2.objs.size { s₂ with heap:=h2 } H3 fp) _ FD _ Fi (.ref s₂.heap.objs.size) [yv] (.ref s₂.heap.objs.size) [y] (λv' H'=>H'=upd Fi s₂.heap.objs.size (.lst (ys++[yv]))) I10 rfl (.cons r10 .nil) ⟨_,ys,yv,rfl,rfl,hD10,hz,rfl⟩) (λ_ s11 h11=>?_) λ_ _ e=>e.elim;obtain⟨_,H11,I11,_,rfl⟩:=h11;exact ZJ _ _ _ m' I11 oQ w10
   |false =>
    simp only[Bool.false_eq_true,if_false]at q9 ⊢;obtain⟨m',oQ,w10⟩:=q9;exact ZJ _ _ _ m' I9 oQ w10
 exact codeAny_compStart_list (loop _ rfl) (T.self _ 0 _ _ _ st4 (loop _ rfl))
theorem Xn{pins:List (Addr×Obj)}{σ:St}{H:Hp}{s:Shared}{C:Addr}{FU:Heap}(I:Inv X pins σ H s)(hC:H C=none)(hL:C≠X.env.locals)(hp:∀p∈X.pn++pins,p.1≠C)(hc:∀y c,X.env.cells.lookup y=some c->c≠C)(h0:X.s₀.heap.objs.size<=C)
  (hs:∀b o,b≠C->s.heap.get? b=some o->FU.get? b=some o):Inv X pins σ H { s with heap:=FU } :=
 I.turned (t':=s.toks) hs hC hL (.inr h0) hc hp
theorem Me{kG iter tg:Expr}{kF:List Expr}{ixs:List Nat}{wi:TI}{g:TG}{tt:Addr->Shared->Hp->List Addr->TT}{te:Addr->Shared->Hp->List Addr->TE}{pos:Pos}
  (k:CompOk X own N scope cl) (pI:X.calm=true) (hi:PI X tg iter wi)
  (hg:∀(C:Addr)(s₀:Shared)(H₀:Hp)(ex:List Addr),PG (yk X (own++N) scope cl C s₀ H₀ ex) tg g) (ht:∀(C:Addr)(s₀:Shared)(H₀:Hp)(ex:List Addr),PIf (yk X (own++N) scope cl C s₀ H₀ ex) kF (tt C s₀ H₀ ex))
  (he:∀(C:Addr)(s₀:Shared)(H₀:Hp)(ex:List Addr),PE (yk X (own++N) scope cl C s₀ H₀ ex) kG (te C s₀ H₀ ex))
  (hx:ixs.map (λi=>X.N[i]?)=N.map some)
  (hs:∀x,foldedSetIterable iter X.env x=pure x:=by intro _;rfl):PE X (.ListComp kG [⟨tg,iter,kF,0⟩] scope pos) (dn own.length ixs wi g tt te):=by
 intro pins s σ H Q I h;rw[eval_ListComp];refine wpAny_comprehension_free (use:=none) rfl hs k.clos k.kind k.names (thn (hi pins s σ H _ I h) λv s1 h1=>thn h1 λSK s2 h2=>?_);obtain⟨it,fp,tn,J,H2,rfl,I2,T,DM,f2,q⟩:=h2;refine kn (RR:=λbA C=>compPost (model X.prog X.w) X.A X.xe none (EP X pins σ Q) bA C) k pI (Oi hx) (R9 hx) hg ht he I2 T DM f2 q ?_;intro D C H' s' m J' hn hC hL Ch hp hc h0 q';exact⟨m,hn,λFU Ea=>⟨.ref D,H',Xn J' hC hL hp hc h0 (λb o hb e=>Ea.extBut b o hb e),rfl,q'⟩⟩
def Ss(i:Nat)(t:TE):TS:=λD σ H=>t σ H λx H1=>D.nx (sv σ i x) H1
theorem Wd(i:Nat){kG iter tg:Expr}{kF:List Expr}{y:Str}{py:Pos}{ixs:List Nat}{wi:TI}{g:TG}{tt:Addr->Shared->Hp->List Addr->TT}{te:Addr->Shared->Hp->List Addr->TE}{pos Bn:Pos}(hN:X.N.Nodup)
  (k:CompOk X own N scope cl) (pI:X.calm=true) (hi:PI X tg iter wi)
  (hg:∀(C:Addr)(s₀:Shared)(H₀:Hp)(ex:List Addr),PG (yk X (own++N) scope cl C s₀ H₀ ex) tg g) (ht:∀(C:Addr)(s₀:Shared)(H₀:Hp)(ex:List Addr),PIf (yk X (own++N) scope cl C s₀ H₀ ex) kF (tt C s₀ H₀ ex))
  (he:∀(C:Addr)(s₀:Shared)(H₀:Hp)(ex:List Addr),PE (yk X (own++N) scope cl C s₀ H₀ ex) kG (te C s₀ H₀ ex))
  (hx:ixs.map (λi=>X.N[i]?)=N.map some)
  (hy:X.N[i]?=some y:=by rfl) (CG:X.env.scope.names.lookup y=some .local:=by rfl)
  (DZ:swapsWith (.ListComp kG [⟨tg,iter,kF,0⟩] scope pos) (some (.Name y py)) Bn.line X.env=pure true:=by rfl)
  (hs:∀x,foldedSetIterable iter X.env x=pure x:=by intro _;rfl):PS X (.Assign [.Name y py] (.ListComp kG [⟨tg,iter,kF,0⟩] scope pos) Bn) (Ss i (dn own.length ixs wi g tt te)):=by
 intro pins s σ H D I h;rw[exec_Assign_Name_used _ _ _ _ DZ];refine zZ (tF (zZ ?_));show wpAny _ X.A (do let _ <-comprehension (.ListComp kG [⟨tg,iter,kF,0⟩] scope pos) scope X.env _ (newList []) false (eval iter X.env) (some (assign (.Name y py) X.env))) _ _ s;refine zZ (yR (wpAny_comprehension_free (use:=some (assign (.Name y py) X.env)) (Q:=λ_ s'=>SP X pins D .next s') rfl hs k.clos k.kind k.names (thn (hi pins s σ H _ I h) λv s1 h1=>thn h1 λSK s2 h2=>?_)) (λ_ s' hq=>zW (zW hq)) λ_ _ e=>e);obtain⟨it,fp,tn,J,H2,rfl,I2,T,DM,f2,q⟩:=h2;refine kn (Q:=λx H1=>D.nx (sv σ i x) H1) (RR:=λbA C=>compPost (model X.prog X.w) X.A X.xe (some (assign (.Name y py) X.env)) (λ_ s'=>SP X pins D .next s') bA C) k pI (Oi hx) (R9 hx) hg ht he I2 T DM f2 q ?_;intro L C H' s' m J' hn hC hL Ch hp hc h0 q';obtain⟨o,es,ep,ho,hd,hk,hm⟩:=id hn;have J2:Inv X (pins++[(C,o)]) σ H' s':=J'.pins_of λp hp'=>(zP.mp hp').elim (λz=>J'.pin p (zF _ z)) λz=>by
  have e:p=(C,o):=by simpa using z
  subst e;exact⟨ho,hC,hL,Ch,λv z=>by rw[hd]at z;cases z⟩
 have hg:PG X (.Name y py) (mG i):=vg i hN hy (.inl CG) (.inr CG);show wpAny (model X.prog X.w) X.A (assign (.Name y py) X.env (.ref L)) _ _ s';refine thn (hg _ s' σ H' (.ref L) (.ref L) D.nx J2 rfl q') λ_ s3 h3=>?_;obtain⟨σ3,H3,I3,q3⟩:=h3;have pc:=I3.pin (C,o) (zF _ (zF _ (zS.mpr rfl)));refine⟨m,⟨o,es,ep,pc.1,hd,hk,hm⟩,λFU Ea=>⟨σ3,H3,?_,q3⟩⟩;exact Xn (I3.unpinned) pc.2.1 hL hp hc h0 (λb ob hb e=>Ea.extBut b ob hb e)
end
def CN(n i:Nat)(P:Prop):Prop:=∃m':Nat,m'<n-i/\m'=n-(i+1)/\i+1<=n/\P
theorem CN.mk{n i:Nat}{P:Prop}(h:i<n)(p:P):CN n i P:=⟨n-(i+1),by lia,rfl,h,p⟩
theorem fz{τ:St}(h:τ.length=1):∃t,τ=[t]:=by
 match τ,h with
 |[t],_=>exact⟨t,rfl⟩
def mG2(K:W.Frag)(i j:Nat):TG:=λv σ H Q=>∃a x y,v = .ref a/\SqT K H a [x,y]/\Q (sv (sv σ i x) j y) H
def ao(tt:TT)(te:TE)(σ:St)(D:Addr)(n i:Nat)(ys:List V)(P:List V->Hp->Prop)(H:Hp):Prop :=
 tt σ H λb H4=>if b=true then te σ H4 λy H5=>H5 D=some (.lst ys)/\CN n i (P (ys++[y]) (upd H5 D (.lst (ys++[y]))))else CN n i (P ys H4)
theorem p0{J:It}{n:Nat}{no:Nat}{g:TG}{tt:TT}{te:TE}{ρ:St}{Q:VK}{H1:Hp}(Pv:Addr->Nat->List V->Hp->Prop)(hsz:n<=sizeLine)
  (h0:∀D H2,H1 D=none->Same H1 H2->H2 D=some (.lst [])->Pv D 0 [] H2)
  (hl:∀D i ys H,i<=n->Pv D i ys H->H D=some (.lst ys)/\ys.length<=i)
  (hgo:∀D i ys H,i<n->Pv D i ys H->J.go i H) (SR:∀D ys H,Pv D n ys H->J.stop n H)
  (hs:∀D i v ys H H' (τ:St),i<n->τ.length=no->Pv D i ys H->J.yld i H v H'->g v (τ++ρ) H' fun σ2 H3=>(∃τ':St,σ2=τ'++ρ/\τ'.length=no)/\ao tt te σ2 D n i ys (Pv D (i+1)) H3)
  (hd:∀D ys H,Pv D n ys H->Q (.ref D) H):ua no g tt te ρ J Q H1:=by
 intro D H2 n2 s2 e2;refine⟨λi m ys H=>m=n-i/\i<=n/\Pv D i ys H,⟨n,by simp,yV _,h0 D H2 n2 s2 e2⟩,?_⟩;rintro i m ys H ⟨rfl,hi,p⟩;obtain⟨eD,ly⟩:=hl D i ys H hi p;refine⟨eD,?_⟩
 by_cases bE:i<n
 ·refine .inr ⟨hgo D i ys H bE p,by lia,fun τ v AW hτ y=>?_⟩;exact hs D i v ys H AW τ bE hτ p y
 ·have e:i=n:=by lia
  subst e;exact .inl ⟨SR D ys H p,hd D ys H p⟩
theorem ia{K:W.Frag}{a:Addr}{xs:List V}{tt:TT}{te:TE}{ρ:St}{Q:VK}{H1:Hp}(Pv:Addr->Nat->List V->Hp->Prop)(hsz:xs.length<=sizeLine)
  (h0:∀D H2,H1 D=none->Same H1 H2->H2 D=some (.lst [])->Pv D 0 [] H2)
  (hl:∀D i ys H,Pv D i ys H->SqT K H a xs/\H D=some (.lst ys)/\ys.length<=i)
  (hs:∀D i v ys H,xs[i]?=some v->Pv D i ys H->ao tt te (some v :: ρ) D xs.length i ys (Pv D (i+1)) H)
  (hd:∀D ys H,Pv D xs.length ys H->Q (.ref D) H):ua 1 (mG 0) tt te ρ (Itt K a) Q H1 :=
 p0 Pv hsz h0 (λD i ys H _ p=>(hl D i ys H p).2) (λD i ys H hi p=>⟨xs,xs[i],(hl D i ys H p).1,by simp[hi]⟩) (λD ys H p=>⟨xs,(hl D _ ys H p).1,zT _⟩) (λD i v ys H H' τ hi hτ p y=>by
  obtain⟨t,rfl⟩:=fz hτ;obtain⟨e,y⟩:=y;subst e;exact⟨⟨[some v],rfl,rfl⟩,hs D i v ys _ (y xs (hl D i ys _ p).1) p⟩) hd
theorem Vm{K:W.Frag}{a:Addr}{xs:List V}{tt:TT}{te:TE}{ρ:St}{Q:VK}{H1:Hp}(Pv:Addr->Nat->List V->Hp->Prop)(hsz:xs.length<=sizeLine)
  (h0:∀D H2,H1 D=none->Same H1 H2->H2 D=some (.lst [])->Pv D 0 [] H2)
  (hl:∀D i ys H,Pv D i ys H->SqL K H a xs/\H D=some (.lst ys)/\ys.length<=i)
  (hs:∀D i v ys H,xs[i]?=some v->Pv D i ys H->ao tt te (some v :: ρ) D xs.length i ys (Pv D (i+1)) H)
  (hd:∀D ys H,Pv D xs.length ys H->Q (.ref D) H):ua 1 (mG 0) tt te ρ (Itl K a) Q H1 :=
 p0 Pv hsz h0 (λD i ys H _ p=>(hl D i ys H p).2) (λD i ys H hi p=>⟨xs,xs[i],(hl D i ys H p).1,by simp[hi]⟩) (λD ys H p=>⟨xs,(hl D _ ys H p).1,zT _⟩) (λD i v ys H H' τ hi hτ p y=>by
  obtain⟨t,rfl⟩:=fz hτ;obtain⟨e,y⟩:=y;subst e;exact⟨⟨[some v],rfl,rfl⟩,hs D i v ys _ (y xs (hl D i ys _ p).1) p⟩) hd
theorem a9{lo:Int}{n:Nat}{tt:TT}{te:TE}{ρ:St}{Q:VK}{H1:Hp}(Pv:Addr->Nat->List V->Hp->Prop)(hsz:n<=sizeLine)
  (h0:∀D H2,H1 D=none->Same H1 H2->H2 D=some (.lst [])->Pv D 0 [] H2)
  (hl:∀D i ys H,Pv D i ys H->H D=some (.lst ys)/\ys.length<=i)
  (hs:∀D i ys H,i<n->Pv D i ys H->ao tt te (some (.int (lo+i)) :: ρ) D n i ys (Pv D (i+1)) H)
  (hd:∀D ys H,Pv D n ys H->Q (.ref D) H):ua 1 (mG 0) tt te ρ (Itr lo n) Q H1 :=
 p0 Pv hsz h0 (λD i ys H _ p=>hl D i ys H p) (λD i ys H hi p=>hi) (λD ys H p=>zT _) (λD i v ys H H' τ hi hτ p y=>by
  obtain⟨t,rfl⟩:=fz hτ;obtain⟨e,y⟩:=y;subst e y;exact⟨⟨[_],rfl,rfl⟩,hs D i ys _ hi p⟩) hd
theorem xo{K:W.Frag}{a:Addr}{xs:List V}{te:TE}{ρ:St}{Q:VK}{H1:Hp}(Pv:Addr->Nat->List V->Hp->Prop)(hsz:xs.length<=sizeLine)
  (h0:∀D H2,H1 D=none->Same H1 H2->H2 D=some (.lst [])->Pv D 0 [] H2)
  (hl:∀D i ys H,Pv D i ys H->SqT K H a xs/\H D=some (.lst ys)/\ys.length=i)
  (hs:∀D i v ys H,xs[i]?=some v->Pv D i ys H->te (some v :: ρ) H λy H3=>H3 D=some (.lst ys)/\CN xs.length i (Pv D (i+1) (ys++[y]) (upd H3 D (.lst (ys++[y])))))
  (hd:∀D ys H,Pv D xs.length ys H->Q (.ref D) H):ua 1 (mG 0) o4 te ρ (Itt K a) Q H1:=ia Pv hsz h0 (λD i ys H p=>let⟨a1,a2,a3⟩:=hl D i ys H p;⟨a1,a2,uZ a3⟩) hs hd
theorem Rt{K:W.Frag}{a:Addr}{xs:List V}{te:TE}{ρ:St}{Q:VK}{H1:Hp}(Pv:Addr->Nat->List V->Hp->Prop)(hsz:xs.length<=sizeLine)
  (h0:∀D H2,H1 D=none->Same H1 H2->H2 D=some (.lst [])->Pv D 0 [] H2)
  (hl:∀D i ys H,Pv D i ys H->SqL K H a xs/\H D=some (.lst ys)/\ys.length=i)
  (hs:∀D i v ys H,xs[i]?=some v->Pv D i ys H->te (some v :: ρ) H λy H3=>H3 D=some (.lst ys)/\CN xs.length i (Pv D (i+1) (ys++[y]) (upd H3 D (.lst (ys++[y])))))
  (hd:∀D ys H,Pv D xs.length ys H->Q (.ref D) H):ua 1 (mG 0) o4 te ρ (Itl K a) Q H1:=Vm Pv hsz h0 (λD i ys H p=>let⟨a1,a2,a3⟩:=hl D i ys H p;⟨a1,a2,uZ a3⟩) hs hd
theorem vc{lo:Int}{n:Nat}{te:TE}{ρ:St}{Q:VK}{H1:Hp}(Pv:Addr->Nat->List V->Hp->Prop)(hsz:n<=sizeLine)
  (h0:∀D H2,H1 D=none->Same H1 H2->H2 D=some (.lst [])->Pv D 0 [] H2)
  (hl:∀D i ys H,Pv D i ys H->H D=some (.lst ys)/\ys.length=i)
  (hs:∀D i ys H,i<n->Pv D i ys H->te (some (.int (lo+i)) :: ρ) H λy H3=>H3 D=some (.lst ys)/\CN n i (Pv D (i+1) (ys++[y]) (upd H3 D (.lst (ys++[y])))))
  (hd:∀D ys H,Pv D n ys H->Q (.ref D) H):ua 1 (mG 0) o4 te ρ (Itr lo n) Q H1:=a9 Pv hsz h0 (λD i ys H p=>let⟨a1,a2⟩:=hl D i ys H p;⟨a1,uZ a2⟩) hs hd
section
variable {X:Cx}{N:List Str}{scope:Scope}{cl:List (Str×Addr)}
theorem X6{x:Str}{px:Pos}(k:CompOk X [x] N scope cl)(C:Addr)(s₀:Shared)(H₀:Hp)(ex:List Addr):PG (yk X ([x]++N) scope cl C s₀ H₀ ex) (.Name x px) (mG 0) :=
 vg 0 k.nd rfl (.inl (lookup_relabel_local (k.mine x (zS.mpr rfl)))) (.inr (lookup_relabel_local (k.mine x (zS.mpr rfl))))
end
section
variable {X:Cx}
theorem Oq(i j:Nat){x y:Str}{p p' pos:Pos}{k:Nat}(hc:X.calm=true)(hN:X.N.Nodup)(hi:X.N[i]?=some x:=by rfl)(hj:X.N[j]?=some y:=by rfl)(hx:Loc X.env.scope x:=by first|exact Or.inl rfl|exact Or.inr rfl)(hy:Loc X.env.scope y:=by first|exact Or.inl rfl|exact Or.inr rfl)
  (hf:X.fn x=true\/X.env.scope.names.lookup x=some .local:=by first|exact .inl rfl|exact .inr rfl) (hf':X.fn y=true\/X.env.scope.names.lookup y=some .local:=by first|exact .inl rfl|exact .inr rfl)
  (hn:(assignEach [.Name x p,.Name y p'] X.env).length=2:=by rfl) (iH:(assignEach [.Name x p,.Name y p'] X.env).findIdx? (·.1)=none:=by rfl)
  (hs:(assignEach [.Name x p,.Name y p'] X.env).map (·.2)=assign (.Name x p) X.env::(assignEach [.Name y p'] X.env).map (·.2):=by rfl) (FI:(assignEach [.Name y p'] X.env).map (·.2)=assign (.Name y p') X.env::(assignEach [] X.env).map (·.2):=by rfl) :
  PG X (.Tuple [.Name x p,.Name y p'] k pos) (mG2 X.K i j):=by
 intro pins s σ H v u Q I r h;obtain⟨a,x1,y1,rfl,hq,q⟩:=h;exact M5 hc (cw (vg i hN hi hx hf) (cw (vg j hN hj hy hf') Qj FI) hs) hn iH pins s σ H _ u Q I r ⟨a,_,rfl,hq,rfl,x1,_,rfl,y1,_,rfl,rfl,q⟩
variable {N:List Str}{scope:Scope}{cl:List (Str×Addr)}{kG iter:Expr}{kF:List Expr}{ixs:List Nat}{wi:TI}{tt:Addr->Shared->Hp->List Addr->TT}{te:Addr->Shared->Hp->List Addr->TE}{pos px py pp Bn pt:Pos}{x y z:Str}{kk:Nat}
theorem x6(k:CompOk X [x] N scope cl)(hc:X.calm=true)(hi:PI X (.Name x px) iter wi)(ht:∀(C:Addr)(s₀:Shared)(H₀:Hp)(ex:List Addr),PIf (yk X ([x]++N) scope cl C s₀ H₀ ex) kF (tt C s₀ H₀ ex))
  (he:∀(C:Addr)(s₀:Shared)(H₀:Hp)(ex:List Addr),PE (yk X ([x]++N) scope cl C s₀ H₀ ex) kG (te C s₀ H₀ ex)) (hx:ixs.map (λi=>X.N[i]?)=N.map some) (hs:∀x,foldedSetIterable iter X.env x=pure x:=by intro _;rfl) :
  PE X (.ListComp kG [⟨.Name x px,iter,kF,0⟩] scope pos) (dn 1 ixs wi (mG 0) tt te):=Me k hc hi (X6 k) ht he hx hs
theorem um(i:Nat)(hN:X.N.Nodup)(k:CompOk X [x] N scope cl)(hc:X.calm=true)(hi:PI X (.Name x px) iter wi)(ht:∀(C:Addr)(s₀:Shared)(H₀:Hp)(ex:List Addr),PIf (yk X ([x]++N) scope cl C s₀ H₀ ex) kF (tt C s₀ H₀ ex))
  (he:∀(C:Addr)(s₀:Shared)(H₀:Hp)(ex:List Addr),PE (yk X ([x]++N) scope cl C s₀ H₀ ex) kG (te C s₀ H₀ ex)) (hx:ixs.map (λi=>X.N[i]?)=N.map some) (hy:X.N[i]?=some z:=by rfl) (CG:X.env.scope.names.lookup z=some .local:=by rfl)
  (DZ:swapsWith (.ListComp kG [⟨.Name x px,iter,kF,0⟩] scope pos) (some (.Name z pt)) Bn.line X.env=pure true:=by rfl) (hs:∀x,foldedSetIterable iter X.env x=pure x:=by intro _;rfl) :
  PS X (.Assign [.Name z pt] (.ListComp kG [⟨.Name x px,iter,kF,0⟩] scope pos) Bn) (Ss i (dn 1 ixs wi (mG 0) tt te)):=Wd i hN k hc hi (X6 k) ht he hx hy CG DZ hs
end
end My
namespace My
open PySem PySem.Spec L2
open PyProof.Rows hiding St
section
variable {X:Cx}
theorem we:∀{bs:List Bool}{us:List Value},Vals (bs.map V.bl) us->us=bs.map Value.bool
 |[],us,r=>by cases r;rfl
 |b::bs,us,r=>by
  rw[List.map_cons]at r;cases r with
  |cons r1 r2 =>
   have e:_=Value.bool b:=r1;rw[e,we r2]
   rfl
theorem Ro{bs:List Bool}{i:Nat}(hi:i<bs.length)(h:∀j,j<=bs.length-1->b2i (bs.getD i false)<=b2i (bs.getD j false)):bs.getD i false=bs.all id:=by
 cases e:bs.all id with
 |true =>
  rw[xC]at e;have:=e (bs[i]) (vY hi);simpa[yL,hi]using this
 |false =>
  rw[List.all_eq_false]at e;obtain⟨x,hx,hn⟩:=e;obtain⟨j,hj,rfl⟩:=List.mem_iff_getElem.mp hx;have h1:=h j (by lia);have e2:bs.getD j false=false:=by simpa[yL,hj]using hn
  rw[e2]at h1;cases e3:bs.getD i false with
  |false=>rfl
  |true=>rw[e3]at h1;exact absurd h1 (by decide)
theorem Rp{bs:List Bool}{i:Nat}(hi:i<bs.length)(h:∀j,j<=bs.length-1->b2i (bs.getD j false)<=b2i (bs.getD i false)):bs.getD i false=bs.any id:=by
 cases e:bs.any id with
 |false =>
  rw[List.any_eq_false]at e;have:=e (bs[i]) (vY hi);simpa[yL,hi]using this
 |true =>
  rw[wT]at e;obtain⟨x,hx,hn⟩:=e;obtain⟨j,hj,rfl⟩:=List.mem_iff_getElem.mp hx;have h1:=h j (by lia);have e2:bs.getD j false=true:=by simpa[yL,hj]using hn
  rw[e2]at h1;cases e3:bs.getD i false with
  |true=>rfl
  |false=>rw[e3]at h1;exact absurd h1 (by decide)
def mMM(gi:Int->Int->Int)(gb:List Bool->Bool)(K:W.Frag):List V->Hp->VK->Prop:=λxs H Q=>match xs with
 |[.int i,.int j]=>Q (.int (gi i j)) H
 |[.ref p]=>∃bs:List Bool,SqL K H p (bs.map V.bl)/\0<bs.length/\Q (.bl (gb bs)) H
 |_=>False
theorem Je(hc:X.calm=true):wv X (.builtin "min") (mMM (λi j=>if j<i then j else i) (λbs=>bs.all id) X.K):=by
 intro pins s σ H xs us Q I r h
 match xs,h with
 |[.int i,.int j],h=>exact Vk hc pins s σ H _ us Q I r ⟨i,j,rfl,h⟩
 |[.ref p],h =>
  obtain⟨bs,hq,gQ,q⟩:=(show∃bs:List Bool,SqL X.K H p (bs.map V.bl)/\0<bs.length/\Q (.bl (bs.all id)) H from h)
  obtain⟨u,rfl,rx⟩:=vn r;cases rx;obtain⟨aH,rv,pl,hz⟩:=I.list hq;have e:=we rv;subst e;have bE:p<s.heap.objs.size:=by obtain⟨o,e,_⟩:=pl.isList;exact zU e
  refine call_min_walk (vN pl.isList ?_);refine⟨s.heap.objs.size,_,_,_,_,_,λi j=>decide (b2i (bs.getD i false)<b2i (bs.getD j false)),rfl,Walks.list (A:=X.A.in1) (I.ok.hd hc) _ p (zE bE) (bs.map Value.bool).toArray,⟨⟨_,zR _ rfl,rfl,rfl⟩,pl.isList.push _⟩,λb hb=>?_,by simpa using gQ,?_,λv h' tk hP hk=>?_⟩
  ·show b<(s.heap.push _).objs.size;rw[xL];rcases zD.mp hb with rfl|hb
   ·exact xD _
   ·rw[zS.mp hb];exact vM bE
  ·intro i j vi vj s' Q' E' hi hj hQ;have ei:vi = .bool (bs.getD i false):=by
    have:(bs[i]?).map Value.bool=some vi:=by simpa using hi
    cases e:bs[i]? with
    |none=>rw[e]at this;cases this
    |some b=>rw[e]at this;rw[yL,e];exact(yX this).symm
   have ej:vj = .bool (bs.getD j false):=by
    have:(bs[j]?).map Value.bool=some vj:=by simpa using hj
    cases e:bs[j]? with
    |none=>rw[e]at this;cases this
    |some b=>rw[e]at this;rw[yL,e];exact(yX this).symm
   subst ei ej;exact lt_bool hQ
  ·obtain⟨h1,h2⟩:=argBest_lt (λi=>b2i (bs.getD i false)) ((bs.map Value.bool).toArray.size-1);have hsz:(bs.map Value.bool).toArray.size=bs.length:=by simp
   rw[hsz]at h1 h2 hP;have hb:=Ro (bs:=bs) (i:=argBest (λi j=>decide (b2i (bs.getD i false)<b2i (bs.getD j false))) (bs.length-1)) (by lia) (λj hj=>h2 j hj);have ev:v = .bool (bs.all id):=by
    have h3:(bs[argBest (λi j=>decide (b2i (bs.getD i false)<b2i (bs.getD j false))) (bs.length-1)]?).map Value.bool=some v:=by simpa using hP
    rw[yL]at hb;cases e:bs[argBest (λi j=>decide (b2i (bs.getD i false)<b2i (bs.getD j false))) (bs.length-1)]? with
    |none=>rw[e]at h3;cases h3
    |some b=>rw[e]at h3 hb;rw[<-hb];exact(yX h3).symm
   subst ev;refine⟨.bl (bs.all id),H,?_,rfl,q⟩;exact I.kept λb o e=>hk b o (λz=>absurd (zU e) (by rw[zS.mp z];exact xA _)) (zY _ e)
theorem Jd(hc:X.calm=true):wv X (.builtin "max") (mMM (λi j=>if j>i then j else i) (λbs=>bs.any id) X.K):=by
 intro pins s σ H xs us Q I r h
 match xs,h with
 |[.int i,.int j],h=>exact Vj hc pins s σ H _ us Q I r ⟨i,j,rfl,h⟩
 |[.ref p],h =>
  obtain⟨bs,hq,gQ,q⟩:=(show∃bs:List Bool,SqL X.K H p (bs.map V.bl)/\0<bs.length/\Q (.bl (bs.any id)) H from h)
  obtain⟨u,rfl,rx⟩:=vn r;cases rx;obtain⟨aH,rv,pl,hz⟩:=I.list hq;have e:=we rv;subst e;have bE:p<s.heap.objs.size:=by obtain⟨o,e,_⟩:=pl.isList;exact zU e
  refine call_max_walk (vN pl.isList ?_);refine⟨s.heap.objs.size,_,_,_,_,_,λi j=>decide (b2i (bs.getD i false)>b2i (bs.getD j false)),rfl,Walks.list (A:=X.A.in1) (I.ok.hd hc) _ p (zE bE) (bs.map Value.bool).toArray,⟨⟨_,zR _ rfl,rfl,rfl⟩,pl.isList.push _⟩,λb hb=>?_,by simpa using gQ,?_,λv h' tk hP hk=>?_⟩
  ·show b<(s.heap.push _).objs.size;rw[xL];rcases zD.mp hb with rfl|hb
   ·exact xD _
   ·rw[zS.mp hb];exact vM bE
  ·intro i j vi vj s' Q' E' hi hj hQ;have ei:vi = .bool (bs.getD i false):=by
    have:(bs[i]?).map Value.bool=some vi:=by simpa using hi
    cases e:bs[i]? with
    |none=>rw[e]at this;cases this
    |some b=>rw[e]at this;rw[yL,e];exact(yX this).symm
   have ej:vj = .bool (bs.getD j false):=by
    have:(bs[j]?).map Value.bool=some vj:=by simpa using hj
    cases e:bs[j]? with
    |none=>rw[e]at this;cases this
    |some b=>rw[e]at this;rw[yL,e];exact(yX this).symm
   subst ei ej;exact gt_bool hQ
  ·obtain⟨h1,h2⟩:=argBest_gt (λi=>b2i (bs.getD i false)) ((bs.map Value.bool).toArray.size-1);have hsz:(bs.map Value.bool).toArray.size=bs.length:=by simp
   rw[hsz]at h1 h2 hP;have hb:=Rp (bs:=bs) (i:=argBest (λi j=>decide (b2i (bs.getD i false)>b2i (bs.getD j false))) (bs.length-1)) (by lia) (λj hj=>h2 j hj);have ev:v = .bool (bs.any id):=by
    have h3:(bs[argBest (λi j=>decide (b2i (bs.getD i false)>b2i (bs.getD j false))) (bs.length-1)]?).map Value.bool=some v:=by simpa using hP
    rw[yL]at hb;cases e:bs[argBest (λi j=>decide (b2i (bs.getD i false)>b2i (bs.getD j false))) (bs.length-1)]? with
    |none=>rw[e]at h3;cases h3
    |some b=>rw[e]at h3 hb;rw[<-hb];exact(yX h3).symm
   subst ev;refine⟨.bl (bs.any id),H,?_,rfl,q⟩;exact I.kept λb o e=>hk b o (λz=>absurd (zU e) (by rw[zS.mp z];exact xA _)) (zY _ e)
theorem Kf{gi:Int->Int->Int}{gb:List Bool->Bool}{K:W.Frag}{H:Hp}{Q:VK}{i j:Int}:mMM gi gb K [.int i,.int j] H Q=Q (.int (gi i j)) H:=rfl
theorem Kg{gi:Int->Int->Int}{gb:List Bool->Bool}{K:W.Frag}{H:Hp}{Q:VK}{p:Addr}:mMM gi gb K [.ref p] H Q=(∃bs:List Bool,SqL K H p (bs.map V.bl)/\0<bs.length/\Q (.bl (gb bs)) H):=rfl
theorem jy:∀{ss:List Str}{us:List Value},Vals (ss.map V.str) us->StrsAre us ss
 |[],us,r=>by cases r;exact .nil
 |x::ss,us,r=>by
  rw[List.map_cons]at r;cases r with
  |cons r1 r2 =>
   obtain⟨t,rfl⟩:=r1;exact .cons x t (jy r2)
theorem jr:∀{us:List Value}{ss:List Str},StrsAre us ss->Vals (ss.map V.str) us
 |_,_,.nil=>.nil
 |_,_,.cons x t h=>.cons ⟨t,rfl⟩ (jr h)
end
end My
namespace My
open PySem PySem.Spec L2
open PyProof.Rows hiding St
theorem yt:bootBuiltins "len"=some (.builtin "len"):=by decide +kernel
theorem Lq:bootBuiltins "max"=some (.builtin "max"):=by decide +kernel
theorem Lr:bootBuiltins "min"=some (.builtin "min"):=by decide +kernel
theorem Vf:bootBuiltins "sorted"=some (.builtin "sorted"):=by decide +kernel
theorem zi:bootBuiltins "isinstance"=some (.builtin "isinstance"):=by decide +kernel
theorem d7:bootBuiltins "list"=some (.type "list"):=by decide +kernel
theorem yb:bootBuiltins "tuple"=some (.type "tuple"):=by decide +kernel
theorem Ls:bootBuiltins "set"=some (.type "set"):=by decide +kernel
theorem Yw:bootBuiltins "int"=some (.type "int"):=by decide +kernel
theorem pz:bootBuiltins "bool"=some (.type "bool"):=by decide +kernel
theorem w01:decide (Str.ofString "letter"=Str.ofString "not")=false:=by decide +kernel
theorem w02:decide (Str.ofString "letter"=Str.ofString "and")=false:=by decide +kernel
theorem w03:decide (Str.ofString "letter"=Str.ofString "or")=false:=by decide +kernel
theorem w04:decide (Str.ofString "letter"=Str.ofString "if")=false:=by decide +kernel
theorem w10:decide (Str.ofString "not"=Str.ofString "letter")=false:=by decide +kernel
theorem w12:decide (Str.ofString "not"=Str.ofString "and")=false:=by decide +kernel
theorem w13:decide (Str.ofString "not"=Str.ofString "or")=false:=by decide +kernel
theorem w14:decide (Str.ofString "not"=Str.ofString "if")=false:=by decide +kernel
theorem w20:decide (Str.ofString "and"=Str.ofString "letter")=false:=by decide +kernel
theorem w21:decide (Str.ofString "and"=Str.ofString "not")=false:=by decide +kernel
theorem w23:decide (Str.ofString "and"=Str.ofString "or")=false:=by decide +kernel
theorem w24:decide (Str.ofString "and"=Str.ofString "if")=false:=by decide +kernel
theorem w30:decide (Str.ofString "or"=Str.ofString "letter")=false:=by decide +kernel
theorem w31:decide (Str.ofString "or"=Str.ofString "not")=false:=by decide +kernel
theorem w32:decide (Str.ofString "or"=Str.ofString "and")=false:=by decide +kernel
theorem w34:decide (Str.ofString "or"=Str.ofString "if")=false:=by decide +kernel
theorem w40:decide (Str.ofString "if"=Str.ofString "letter")=false:=by decide +kernel
theorem w41:decide (Str.ofString "if"=Str.ofString "not")=false:=by decide +kernel
theorem w42:decide (Str.ofString "if"=Str.ofString "and")=false:=by decide +kernel
theorem w43:decide (Str.ofString "if"=Str.ofString "or")=false:=by decide +kernel
inductive Op2|con|dis|imp
def Op2.word:Op2->Str
 | .con=>"and"
 | .dis=>"or"
 | .imp=>"if"
def Op2.so:Op2->Bool->Bool->Bool
 | .con,a,b=>a&&b
 | .dis,a,b=>a||b
 | .imp,a,b=>!a||b
inductive Say
 |letter (x:Str)
 |neg (s:Say)
 |bin (o:Op2) (s t:Say)
def Say.pieces:Say->Nat
 | .letter _=>1
 | .neg s=>s.pieces+1
 | .bin _ s t=>s.pieces+t.pieces+1
theorem Say.pieces_pos:∀s:Say,0<s.pieces
 | .letter _=>Nat.one_pos
 | .neg _=>tL _
 | .bin _ _ _=>tL _
def Say.letters:Say->List Str
 | .letter x=>[x]
 | .neg s=>s.letters
 | .bin _ s t=>s.letters++t.letters
def Say.so(hs:List Str):Say->Bool
 | .letter x=>hs.any λy=>y==x
 | .neg s=>!s.so hs
 | .bin o s t=>o.so (s.so hs) (t.so hs)
def SayAt(K:W.Frag)(H:Hp):V->Say->Prop
 |v,.letter x=>∃a,v = .ref a/\SqT K H a [.str "letter",.str x]
 |v,.neg s=>∃a u,v = .ref a/\SqT K H a [.str "not",u]/\SayAt K H u s
 |v,.bin o s t=>∃a u u',v = .ref a/\SqT K H a [.str o.word,u,u']/\SayAt K H u s/\SayAt K H u' t
theorem SayAt.mono{K:W.Frag}{H H':Hp}(t:Tups H H'):∀{s:Say}{v:V},SayAt K H v s->SayAt K H' v s
 | .letter x,v,⟨a,e,h⟩=>⟨a,e,t.sqT h⟩
 | .neg s,v,⟨a,u,e,h,h1⟩=>⟨a,u,e,t.sqT h,SayAt.mono t h1⟩
 | .bin o s r,v,⟨a,u,u',e,h,h1,h2⟩=>⟨a,u,u',e,t.sqT h,SayAt.mono t h1,SayAt.mono t h2⟩
theorem au(hs:List Str):(hs.map V.str).all ve=true:=by
 rw[xC];intro x hx;obtain⟨y,_,rfl⟩:=zC.mp hx
 rfl
theorem m4(x:Str)(hs:List Str):inV (.str x) (hs.map V.str)=hs.any λy=>y==x:=by
 unfold inV;rw[List.any_map]
 rfl
theorem Q4(x:Str):PyData.strOk x=true↔∀c∈x.cps.toList,c<0x110000:=by
 unfold PyData.strOk;rw[<-Array.all_toList,xC];exact⟨λh c hc=>yZ (h c hc),λh c hc=>zO (h c hc)⟩
def Nm(x:Str):Prop:=x.length<=20/\PyData.strOk x=true
theorem im(K:W.Frag)(H:Hp):∀ss:List Str,HasL K H (ss.map V.str) (ss.map PyData.str)
 |[]=>by simp[HasL]
 |x::ss=>by
  have ih:=im K H ss;rw[List.map_cons,List.map_cons];unfold HasL;exact⟨_,_,rfl,by unfold Has;rfl,ih⟩
theorem ba{d:PyData}(h:SeqAt.shaped d=true):PyData.eqv d d=true:=SeqAt.eqv_refl d (SeqAt.canLay_of_shaped h)
def y9:Int->List Str->List Str
 |_,[]=>[]
 |n,x::r=>if n % 2=1 then x::y9 (n / 2) r else y9 (n / 2) r
theorem yo{P:Program}{w:World}{K:W.Frag}{mg:Str->Option Value}{base:Heap}{x:Str}{st:Stmt}{ps:List Str}{sp:Sp}(F:Def K mg x st ps)(no:∀vs H Q E,¬sp vs H Q E):zv P w K mg base 0 x ps sp:=by
 obtain⟨f,fd,F,b,hm⟩:=F.ex;exact⟨f,fd,⟨λvs H Q E h=>absurd h (no vs H Q E),λA outer s H args us vs Q E _ _ _ _ h=>absurd h (no vs H Q E)⟩,.all b,F.kp,hm⟩
end My
namespace My
open PySem
namespace Tb
open PySem.SetTable
def av(m:Nat)(p:Probe):Probe :=
 if p.more>0 then{ p with j:=p.j+1,more:=p.more-1 }else
 { p with j:=(leap m p.i p.perturb).1,more:=runEnd m (leap m p.i p.perturb).1-(leap m p.i p.perturb).1,i:=(leap m p.i p.perturb).1,perturb:=(leap m p.i p.perturb).2 }
theorem kf(t:SetTable)(p:Probe):t.advance p=av t.mask p:=rfl
def itr(m:Nat):Nat->Probe->Probe
 |0,p=>p
 |k+1,p=>itr m k (av m p)
theorem m8(m:Nat):∀(a b:Nat)(p:Probe),itr m (a+b) p=itr m b (itr m a p)
 |0,b,p=>by rw[tB];rfl
 |a+1,b,p=>by
  rw[show a+1+b=(a+b)+1 by lia];exact m8 m a b (av m p)
theorem kz(m k:Nat)(p:Probe):itr m (k+1) p=av m (itr m k p):=m8 m k 1 p
def hd(m i p:Nat):Probe:={ j:=i,more:=runEnd m i-i,i:=i,perturb:=p,dummy:=none }
def st0(m:Nat)(h:Int):Probe:=hd m (bits h % (m+1)) (bits h)
theorem Ud(m:Nat):∀(r j i p:Nat)(d:Option Nat),itr m r { j:=j,more:=r,i:=i,perturb:=p,dummy:=d }={ j:=j+r,more:=0,i:=i,perturb:=p,dummy:=d }
 |0,_,_,_,_=>rfl
 |r+1,j,i,p,d=>by
  show itr m r (av m { j:=j,more:=r+1,i:=i,perturb:=p,dummy:=d })=_;have e:av m { j:=j,more:=r+1,i:=i,perturb:=p,dummy:=d }={ j:=j+1,more:=r,i:=i,perturb:=p,dummy:=d }:=by
   unfold av;simp
  rw[e,Ud m r,show j+1+r=j+(r+1)by lia]
theorem Yc(m i p:Nat):itr m (runEnd m i-i+1) (hd m i p)=hd m (leap m i p).1 (leap m i p).2:=by
 rw[kz];unfold hd;rw[Ud]
 rfl
theorem Qv(m i:Nat):runEnd m i-i+1<=10:=by
 unfold runEnd;split<;>lia
def lp(m:Nat):Nat->Nat×Nat->Nat×Nat
 |0,x=>x
 |n+1,x=>lp m n (leap m x.1 x.2)
theorem So(m:Nat):∀(n:Nat)(x:Nat×Nat),∃k,k<=10*n/\itr m k (hd m x.1 x.2)=hd m (lp m n x).1 (lp m n x).2
 |0,x=>⟨0,zT _,rfl⟩
 |n+1,x=>by
  obtain⟨k,hk,e⟩:=So m n (leap m x.1 x.2);refine⟨runEnd m x.1-x.1+1+k,by have:=Qv m x.1;lia,?_⟩;rw[m8,Yc];exact e
theorem fh(m:Nat):∀(a b:Nat)(x:Nat×Nat),lp m (a+b) x=lp m b (lp m a x)
 |0,b,x=>by rw[tB];rfl
 |a+1,b,x=>by
  rw[show a+1+b=(a+b)+1 by lia];exact fh m a b (leap m x.1 x.2)
theorem Za(m:Nat):∀(n:Nat)(x:Nat×Nat),(lp m n x).2=x.2 / 32 ^ n
 |0,x=>by simp[lp]
 |n+1,x=>by
  show(lp m n (leap m x.1 x.2)).2=_;rw[Za m n];show x.2 / 32 / 32 ^ n=_;rw[Nat.div_div_eq_div_mul,Nat.pow_succ,Nat.mul_comm]
theorem Xe(h:Int):bits h<2 ^ 64:=by
 unfold bits;have h1:0<=h % (2 ^ 64:Int):=uB _ (by decide);have h2:h % (2 ^ 64:Int)<2 ^ 64:=vD _ (by decide);lia
def cy(m:Nat):Nat->Nat->Nat
 |0,i=>i
 |n+1,i=>cy m n ((i*5+1) % (m+1))
theorem et(m:Nat):∀(a b i:Nat),cy m (a+b) i=cy m b (cy m a i)
 |0,b,i=>by rw[tB];rfl
 |a+1,b,i=>by
  rw[show a+1+b=(a+b)+1 by lia];exact et m a b _
theorem Sn(m:Nat):∀(n i:Nat),lp m n (i,0)=(cy m n i,0)
 |0,_=>rfl
 |n+1,i=>by
  show lp m n (leap m i 0)=_;have e:leap m i 0=((i*5+1) % (m+1),0):=by unfold leap;simp
  rw[e,Sn m n]
  rfl
theorem Oj(m:Nat)(n:Nat)(x:Nat×Nat):(lp m (n+1) x).1<=m:=by
 rw[fh];show(leap m (lp m n x).1 (lp m n x).2).1<=m;unfold leap;exact Nat.le_of_lt_succ (Nat.mod_lt _ (tL m))
def Mk(m:Nat):Prop:=m=7\/m=31\/m=127
def Mz(m:Nat):Bool:=(cy m (m+1) 0==0)&&(List.range (m+1)).all λe=>(List.range (m+1)).any λa=>cy m a 0==e
theorem Go:Mz 7=true:=by decide +kernel
theorem orb{m:Nat}(hm:Mk m):cy m (m+1) 0=0/\∀e,e<=m->∃a,a<=m/\cy m a 0=e:=by
 have h:Mz m=true:=by rcases hm with rfl|rfl|rfl<;>first|exact Go|exact orb31|exact orb127
 unfold Mz at h;rw[yN,xC]at h;refine⟨by simpa using h.1,λe he=>?_⟩;have:=h.2 e (xU.mpr (by lia));rw[wT]at this;obtain⟨a,ha,e'⟩:=this;exact⟨a,by have:=xU.mp ha;lia,by simpa using e'⟩
theorem Oh{m:Nat}(hm:Mk m){i e:Nat}(hi:i<=m)(he:e<=m):∃k,k<=m/\cy m k i=e:=by
 obtain⟨h0,h1⟩:=orb hm;obtain⟨a,ha,rfl⟩:=h1 i hi;obtain⟨b,hb,rfl⟩:=h1 e he
 by_cases A2:a<=b
 ·refine⟨b-a,by lia,?_⟩;rw[<-et,show a+(b-a)=b by lia]
 ·refine⟨b+(m+1)-a,by lia,?_⟩;rw[<-et,show a+(b+(m+1)-a)=(m+1)+b by lia,et,h0]
def pos(m:Nat)(h:Int)(k:Nat):Nat:=(itr m k (st0 m h)).j
theorem Kr{m:Nat}(hm:Mk m)(h:Int){e:Nat}(he:e<=m):∃k,k<=10*(m+13)/\pos m h k=e:=by
 have h13:lp m 13 (bits h % (m+1),bits h)=((lp m 13 (bits h % (m+1),bits h)).1,0):=by
  have:(lp m 13 (bits h % (m+1),bits h)).2=0:=by
   rw[Za];exact Nat.div_eq_of_lt (Nat.lt_trans (Xe h) (by decide))
  exact Prod.ext rfl this
 obtain⟨k,hk,ek⟩:=Oh hm (Oj m 12 (bits h % (m+1),bits h)) he;obtain⟨r,hr,er⟩:=So m (13+k) (bits h % (m+1),bits h);refine⟨r,by lia,?_⟩;unfold pos st0;rw[er,fh,h13,Sn];exact ek
theorem Ig{P:Nat->Prop}:∀n:Nat,P n->∃k,k<=n/\P k/\∀k',k'<k->¬P k':=by
 intro n
 induction n using Nat.strongRecOn with
 |_ n ih =>
  intro h
  by_cases hc:∃k',k'<n/\P k'
  ·obtain⟨k',hk,hp⟩:=hc;obtain⟨k,h1,h2,h3⟩:=ih k' hk hp;exact⟨k,by lia,h2,h3⟩
  ·exact⟨n,zT _,h,λk' hk hp=>hc ⟨k',hk,hp⟩⟩
theorem Zs:∀(n:Nat)(l:List Nat),(∀e,e<n->e∈l)->n<=l.length
 |0,_,_=>yV _
 |n+1,l,h=>by
  have hn:=h n (xD n);have h1:=Zs n (l.erase n) λe he=>(List.mem_erase_of_ne (by lia)).mpr (h e (by lia));rw[List.length_erase_of_mem hn]at h1;have:=tW hn;lia
theorem Y3{m:Nat}(hm:Mk m)(h:Int){l:List Nat}(hl:l.length<=m):∃K,K<=10*(m+13)/\pos m h K∉l/\∀k,k<K->pos m h k∈l:=by
 have hex:∃e,e<=m/\e∉l:=by
  by_cases hc:∃e,e<=m/\e∉l
  ·exact hc
  ·exfalso;have:=Zs (m+1) l λe he=>xI λhn=>hc ⟨e,by lia,hn⟩;lia
 obtain⟨e,he,hn⟩:=hex;obtain⟨k,hk,ek⟩:=Kr hm h he;obtain⟨K,h1,h2,h3⟩:=Ig (P:=λk=>pos m h k∉l) k (by rw[ek];exact hn);exact⟨K,by lia,h2,λk' iQ=>xI λhc=>h3 k' iQ hc⟩
theorem sg{l:List Nat}(hr:l.Pairwise (·<·)){i i' d:Nat}(h:i<i')(h':i'<l.length):l.toArray.getD i d<l.toArray.getD i' d:=by
 have:=xX.mp hr i i' (by lia) h' h;simpa[Array.getD,h',show i<l.length by lia]using this
theorem kj{l:List Nat}(hr:l.Pairwise (·<·))(j:Nat):∀(mZ lo hi:Nat),hi<=l.length->lo<=hi->hi-lo<=mZ->(∀i,i<lo->l.toArray.getD i j<j)->(∀i,hi<=i->i<l.length->j<=l.toArray.getD i j) ->
  below.go l.toArray j mZ lo hi<=l.length/\(∀i,i<below.go l.toArray j mZ lo hi->l.toArray.getD i j<j)/\(∀i,below.go l.toArray j mZ lo hi<=i->i<l.length->j<=l.toArray.getD i j)
 |0,lo,hi,h1,h2,h3,h4,h5=>by
  unfold below.go;exact⟨by lia,h4,λi oF=>h5 i (by lia)⟩
 |f+1,lo,hi,h1,h2,h3,h4,h5=>by
  unfold below.go
  by_cases bE:lo<hi
  ·rw[zH bE];dsimp only
   by_cases hc:l.toArray.getD ((lo+hi) / 2) j<j
   ·rw[zH hc];refine kj hr j f _ _ h1 (by lia) (by lia) (λi oF=>?_) h5
    by_cases e:i=(lo+hi) / 2
    ·rw[e];exact hc
    ·exact Nat.lt_trans (sg hr (by lia) (by lia)) hc
   ·rw[zK hc];refine kj hr j f _ _ (by lia) (by lia) (by lia) h4 (λi oF hl=>?_)
    by_cases e:i=(lo+hi) / 2
    ·rw[e];exact uN.mp hc
    ·exact yM (uN.mp hc) (xP (sg hr (by lia) hl))
  ·rw[zK bE];exact⟨by lia,h4,λi oF=>h5 i (by lia)⟩
theorem ug{l:List Nat}(hr:l.Pairwise (·<·))(j:Nat):below l.toArray j<=l.length/\(∀i,i<below l.toArray j->l.toArray.getD i j<j)/\(∀i,below l.toArray j<=i->i<l.length->j<=l.toArray.getD i j):=by
 unfold below;have hs:l.toArray.size=l.length:=zQ;rw[hs];exact kj hr j l.length 0 l.length (zT _) (yV _) (by lia) (λi hi=>by lia) (λi h1 h2=>by lia)
theorem sf{l:List Nat}{i d:Nat}(h:i<l.length):l.toArray.getD i d=l[i]:=by simp[Array.getD,h]
theorem Ve{l:List Nat}(hr:l.Pairwise (·<·)){j:Nat}(h:j∈l):l[below l.toArray j]?=some j:=by
 obtain⟨b1,b2,b3⟩:=ug hr j;obtain⟨i,hi,e⟩:=vI h;have h1:¬i<below l.toArray j:=λz=>by
  have:=b2 i z;rw[sf hi,e]at this;lia
 have h2:¬below l.toArray j<i:=λz=>by
  have h3:=b3 (below l.toArray j) (zT _) (by lia);have h4:=sg (d:=j) hr z hi;rw[sf hi,e]at h4;lia
 have:below l.toArray j=i:=by lia
 rw[this,yE hi,e]
theorem Yt{l:List Nat}(hr:l.Pairwise (·<·)){j:Nat}:(∀x∈l.take (below l.toArray j),x<j)/\(∀x∈l.drop (below l.toArray j),j<=x):=by
 obtain⟨b1,b2,b3⟩:=ug hr j;constructor
 ·intro x hx;obtain⟨i,hi,e⟩:=vI hx;rw[wZ]at hi;have:=b2 i (by lia);rw[sf (by lia)]at this;rw[List.getElem_take]at e;lia
 ·intro x hx;obtain⟨i,hi,e⟩:=vI hx;rw[yG]at hi;have:=b3 (below l.toArray j+i) (by lia) (by lia);rw[sf (by lia)]at this;rw[List.getElem_drop]at e;lia
theorem W8{l:List Nat}(hr:l.Pairwise (·<·)){j:Nat}(hj:j∉l):(l.take (below l.toArray j)++j::l.drop (below l.toArray j)).Pairwise (·<·):=by
 obtain⟨h1,h2⟩:=Yt hr (j:=j);have hd:∀x∈l.drop (below l.toArray j),j<x:=λx hx=>by
  have:=h2 x hx;have gQ:x≠j:=λe=>hj (e▸vP hx);lia
 refine List.pairwise_append.mpr ⟨hr.sublist (List.take_sublist _ _),vC.mpr ⟨hd,hr.sublist (List.drop_sublist _ _)⟩,λa ha b hb=>?_⟩;rcases zD.mp hb with rfl|hb
 ·exact h1 a ha
 ·exact Nat.lt_trans (h1 a ha) (hd b hb)
end Tb
end My
namespace My
open PySem
namespace Tb
open PySem.SetTable
structure Rep(L:List (Nat×(Int×Value)))(es:Array (Int×Value))(t:SetTable):Prop where
 es:es=(L.map (·.2)).toArray
 pl:t.place=(L.map (·.1)).toArray
 dm:t.dummies=#[]
 up:(L.map (·.1)).Pairwise (·<·)
 pa:∀x∈L,∃k,pos t.mask x.2.1 k=x.1/\∀k',k'<k->pos t.mask x.2.1 k'∈L.map (·.1)
 mz:Mk t.mask
 fl:L.length<=t.mask
variable {L:List (Nat×(Int×Value))}{es:Array (Int×Value)}{t:SetTable}
theorem Rep.fits(r:Rep L es t):t.fits es.size=true:=by
 unfold SetTable.fits SetTable.fill;rw[r.pl,r.es,r.dm];simpa using r.fl
theorem Rep.odd(r:Rep L es t):t.gaveWay=false:=by
 unfold SetTable.gaveWay;rcases r.mz with e|e|e<;>rw[e]<;>rfl
theorem sh(j:Nat):has #[] j=false:=by unfold has;simp
theorem Rep.slot_live(r:Rep L es t){j:Nat}(h:j∈L.map (·.1)):∃i e,t.slot j = .live i/\L[i]?=some (j,e)/\es[i]?=some e:=by
 have hb:=Ve r.up h;have hp:t.place[below t.place j]?=some j:=by rw[r.pl];simpa using hb
 rw[yU]at hb;cases hx:L[below (L.map (·.1)).toArray j]? with
 |none=>rw[hx]at hb;cases hb
 |some x =>
  rw[hx]at hb;have e1:x.1=j:=by simpa using hb
  refine⟨below t.place j,x.2,?_,?_,?_⟩
  ·unfold SetTable.slot;dsimp only;rw[hp];simp
  ·rw[r.pl,hx,<-e1]
  ·rw[r.es,r.pl];simp[hx]
theorem Rep.slot_free(r:Rep L es t){j:Nat}(h:j∉L.map (·.1)):t.slot j = .empty:=by
 unfold SetTable.slot;dsimp only;have hp:(t.place[below t.place j]?==some j)=false:=by
  rw[wQ];intro e;rw[r.pl]at e;exact h (by
   have:=Array.mem_of_getElem? e;simpa using this)
 rw[hp,r.dm,sh];simp
theorem ip(m:Nat):∀(k:Nat)(p:Probe),(itr m k p).dummy=p.dummy
 |0,_=>rfl
 |k+1,p=>by
  rw[itr,ip m k];unfold av;split<;>rfl
theorem Rep.probe_go(r:Rep L es t){hashAt:Nat->Int}(hh:∀i e,es[i]?=some e->hashAt i=e.1)(h:Int){K:Nat}(hK:pos t.mask h K∉L.map (·.1))(hk:∀k,k<K->pos t.mask h k∈L.map (·.1)):∀(mZ m:Nat),m<=K->K-m<mZ ->
  (probe.go t hashAt h mZ (itr t.mask m (st0 t.mask h))=some (.empty (pos t.mask h K) none)/\∀k e,m<=k->k<K->(pos t.mask h k,e)∈L->e.1≠h) \/
  ∃k i v,m<=k/\k<K/\probe.go t hashAt h mZ (itr t.mask m (st0 t.mask h))=some (.candidate (pos t.mask h k) i (itr t.mask (k+1) (st0 t.mask h)))/\t.slot (pos t.mask h k) = .live i/\es[i]?=some (h,v)/\(pos t.mask h k,(h,v))∈L/\∀k' e,m<=k'->k'<k->(pos t.mask h k',e)∈L->e.1≠h
 |0,m,hm,hf=>by lia
 |f+1,m,hm,hf=>by
  unfold probe.go;have hj:(itr t.mask m (st0 t.mask h)).j=pos t.mask h m:=rfl;have hd:(itr t.mask m (st0 t.mask h)).dummy=none:=by rw[ip];rfl
  by_cases eK:m=K
  ·subst eK;rw[hj,r.slot_free hK];dsimp only;rw[hd];exact .inl ⟨rfl,λk e h1 h2=>by lia⟩
  ·have bE:m<K:=by lia
   obtain⟨i,el,hs,hL,he⟩:=r.slot_live (hk m bE);rw[hj,hs];dsimp only;have FY:∀e',(pos t.mask h m,e')∈L->e'=el:=λe' FO=>by
    obtain⟨i',oF,e2⟩:=vI FO;have hL':=(zV.mp hL)
    obtain⟨hi,e3⟩:=hL';have:i'=i:=by
     rcases tT i' i with z|z|z
     ·have:=xX.mp r.up i' i (by simpa using oF) (by simpa using hi) z;simp[e2,e3]at this
     ·exact z
     ·have:=xX.mp r.up i i' (by simpa using hi) (by simpa using oF) z;simp[e2,e3]at this
    subst this;rw[e2]at e3;exact(Prod.mk.inj e3).2
   by_cases hc:(hashAt i==h)=true
   ·rw[zH hc];have En:el.1=h:=by rw[<-hh i el he];exact eq_of_beq hc
    refine .inr ⟨m,i,el.2,zT _,bE,?_,hs,?_,?_,λk' e h1 h2=>by lia⟩
    ·rw[kf,<-kz]
    ·rw[he,<-En]
    ·have e5:((h,el.2):Int×Value)=el:=Prod.ext En.symm rfl;rw[e5];exact zN hL
   ·rw[zK hc,kf,<-kz];have En:el.1≠h:=λz=>hc (by rw[hh i el he,z];simp);rcases Rep.probe_go r hh h hK hk f (m+1) (by lia) (by lia)with⟨a,b⟩|⟨k,i',v,a1,a2,a3,a4,a5,a6,a7⟩
    ·refine .inl ⟨a,λk e h1 h2 oQ=>?_⟩
     by_cases z:k=m
     ·subst z;rw[FY e oQ];exact En
     ·exact b k e (by lia) h2 oQ
    ·refine .inr ⟨k,i',v,by lia,a2,a3,a4,a5,a6,λk' e h1 h2 oQ=>?_⟩
     by_cases z:k'=m
     ·subst z;rw[FY e oQ];exact En
     ·exact a7 k' e (by lia) h2 oQ
theorem q0{α β:Type}(f:α->β)(l:List α)(p:Nat)(x:α):(l.take p++x::l.drop p).map f=(l.map f).take p++f x::(l.map f).drop p:=by simp
theorem rq{α:Type}(l:List α)(p:Nat)(x:α):insertAt l.toArray p x=(l.take p++x::l.drop p).toArray:=by
 apply wJ.mp;rw[SetTable.toList_insertAt]
def ins(L:List (Nat×(Int×Value)))(j:Nat)(e:Int×Value):List (Nat×(Int×Value)):=L.take (below (L.map (·.1)).toArray j)++(j,e)::L.drop (below (L.map (·.1)).toArray j)
theorem mem_ins{j:Nat}{e:Int×Value}{x:Nat×(Int×Value)}:x∈ins L j e↔x=(j,e)\/x∈L:=by
 unfold ins;rw[zP,zD];constructor
 ·rintro(h|h|h)
  ·exact .inr (List.mem_of_mem_take h)
  ·exact .inl h
  ·exact .inr (vP h)
 ·rintro(h|h)
  ·exact .inr (.inl h)
  ·have:x∈L.take (below (L.map (·.1)).toArray j)++L.drop (below (L.map (·.1)).toArray j):=by rw[List.take_append_drop];exact h
   rcases zP.mp this with z|z
   ·exact .inl z
   ·exact .inr (.inr z)
theorem bj(j:Nat)(e:Int×Value):(ins L j e).Perm ((j,e)::L):=by
 unfold ins;refine List.perm_middle.trans ?_;rw[List.take_append_drop]
theorem Rep.put(r:Rep L es t){h:Int}{x:Value}{K:Nat}(hK:pos t.mask h K∉L.map (·.1))(hk:∀k,k<K->pos t.mask h k∈L.map (·.1))(hl:L.length+1<=t.mask):
  Rep (ins L (pos t.mask h K) (h,x)) (insertAt es (t.put (pos t.mask h K)).2 (h,x)) (t.put (pos t.mask h K)).1:=by
 have e1:(t.put (pos t.mask h K)).2=below (L.map (·.1)).toArray (pos t.mask h K):=by unfold SetTable.put;dsimp only;rw[r.pl]
 have e2:(t.put (pos t.mask h K)).1.mask=t.mask:=rfl;refine⟨?_,?_,?_,?_,?_,r.mz,?_⟩
 ·rw[e1,r.es,rq];unfold ins;rw[q0]
 ·unfold SetTable.put;dsimp only;rw[r.pl,rq];unfold ins;rw[q0]
 ·unfold SetTable.put;dsimp only;rw[r.dm,sh];simp
 ·unfold ins;rw[q0];exact W8 r.up hK
 ·intro y hy;rw[e2];have sub:∀j,j∈L.map (·.1)->j∈(ins L (pos t.mask h K) (h,x)).map (·.1):=λj hj=>by
   obtain⟨z,hz,rfl⟩:=zC.mp hj;exact zC.mpr ⟨z,mem_ins.mpr (.inr hz),rfl⟩
  rcases mem_ins.mp hy with rfl|hy
  ·exact⟨K,rfl,λk' iQ=>sub _ (hk k' iQ)⟩
  ·obtain⟨k,h1,h2⟩:=r.pa y hy;exact⟨k,h1,λk' iQ=>sub _ (h2 k' iQ)⟩
 ·have:=(bj (L:=L) (pos t.mask h K) (h,x)).length_eq;rw[this];exact hl
end Tb
end My
namespace My
open PySem
namespace Tb
open PySem.SetTable
theorem jf{m i:Nat}(h:i<=m):runEnd m i<=m:=by unfold runEnd;split<;>lia
theorem pk(m i:Nat):i<=runEnd m i:=by unfold runEnd;split<;>lia
theorem R8(m:Nat):∀(k:Nat)(p:Probe),p.j+p.more<=m->(itr m k p).j+(itr m k p).more<=m
 |0,_,h=>h
 |k+1,p,h=>by
  refine R8 m k (av m p) ?_;unfold av;split
  ·show p.j+1+(p.more-1)<=m;lia
  ·have h1:(leap m p.i p.perturb).1<=m:=by unfold leap;exact Nat.le_of_lt_succ (Nat.mod_lt _ (tL m))
   have h2:=jf h1;have h3:=pk m (leap m p.i p.perturb).1;show(leap m p.i p.perturb).1+(runEnd m (leap m p.i p.perturb).1-(leap m p.i p.perturb).1)<=m;lia
theorem M6(m:Nat)(h:Int)(k:Nat):pos m h k<=m:=by
 have h1:bits h % (m+1)<=m:=Nat.le_of_lt_succ (Nat.mod_lt _ (tL m));have h2:=jf h1;have h3:=pk m (bits h % (m+1));have:=R8 m k (st0 m h) (by show bits h % (m+1)+(runEnd m (bits h % (m+1))-bits h % (m+1))<=m;lia);unfold pos;lia
theorem lu(m:Nat):∀(k r j i p:Nat)(d:Option Nat),k<=r->(itr m k { j:=j,more:=r,i:=i,perturb:=p,dummy:=d }).j=j+k
 |0,_,_,_,_,_,_=>rfl
 |k+1,r,j,i,p,d,h=>by
  show(itr m k (av m { j:=j,more:=r,i:=i,perturb:=p,dummy:=d })).j=_;have e:av m { j:=j,more:=r,i:=i,perturb:=p,dummy:=d }={ j:=j+1,more:=r-1,i:=i,perturb:=p,dummy:=d }:=by
   unfold av;rw[zH (by show r>0;lia)]
  rw[e,lu m k (r-1) (j+1) i p d (by lia)];lia
theorem Vq{n:Nat}{p:Nat->Bool}(h:(List.range n).find? p=none):∀k,k<n->p k=false:=λk hk=>by
 have:=List.find?_eq_none.mp h k (xU.mpr hk);simpa using this
theorem Vr{n k:Nat}{p:Nat->Bool}(h:(List.range n).find? p=some k):k<n/\p k=true/\∀k',k'<k->p k'=false:=by
 have h1:=List.find?_range_eq_some.mp h;refine⟨by simpa using h1.2.1,h1.1,λk' iQ=>by simpa using h1.2.2 k' iQ⟩
def fr(o:Array (Option Nat))(j:Nat):Bool:=(o.getD j (some 0)).isNone
theorem ij(m:Nat)(o:Array (Option Nat)):∀(f:Nat)(x:Nat×Nat)(n:Nat),n<f->fr o (lp m n x).1=true ->
  ∃k,layClean.free m o f x.1 x.2=some (itr m k (hd m x.1 x.2)).j/\fr o (itr m k (hd m x.1 x.2)).j=true/\∀k',k'<k->fr o (itr m k' (hd m x.1 x.2)).j=false
 |0,_,_,h,_=>by lia
 |f+1,x,n,hn,Ek=>by
  unfold layClean.free;have hre:=pk m x.1;cases hc:(List.range (runEnd m x.1+1-x.1)).find? λk=>(o.getD (x.1+k) (some 0)).isNone with
  |some k =>
   obtain⟨h1,h2,h3⟩:=Vr hc;have ep:∀k',k'<=k->(itr m k' (hd m x.1 x.2)).j=x.1+k':=λk' iQ=>lu m k' _ _ _ _ _ (by lia);refine⟨k,?_,?_,λk' iQ=>?_⟩
   ·dsimp only;rw[ep k (zT _)]
   ·rw[ep k (zT _)];exact h2
   ·rw[ep k' (by lia)];exact h3 k' iQ
  |none =>
   have h1:=Vq hc;have ep:∀k',k'<=runEnd m x.1-x.1->(itr m k' (hd m x.1 x.2)).j=x.1+k':=λk' iQ=>lu m k' _ _ _ _ _ iQ;cases n with
   |zero =>
    exfalso;have:=h1 0 (by lia);have h2:fr o x.1=true:=Ek;unfold fr at h2;rw[Nat.add_zero]at this;rw[this]at h2;cases h2
   |succ n =>
    obtain⟨k,e,a1,a2⟩:=ij m o f (leap m x.1 x.2) n (by lia) Ek;have er:∀k',itr m (runEnd m x.1-x.1+1+k') (hd m x.1 x.2)=itr m k' (hd m (leap m x.1 x.2).1 (leap m x.1 x.2).2):=λk'=>by rw[m8,Yc]
    refine⟨runEnd m x.1-x.1+1+k,?_,?_,λk' iQ=>?_⟩
    ·rw[er];exact e
    ·rw[er];exact a1
    ·by_cases z:k'<runEnd m x.1-x.1+1
     ·rw[ep k' (by lia)];exact h1 k' (by lia)
     ·have:=a2 (k'-(runEnd m x.1-x.1+1)) (by lia);rw[<-er,show runEnd m x.1-x.1+1+(k'-(runEnd m x.1-x.1+1))=k' by lia]at this;exact this
theorem Uc{m:Nat}(hm:Mk m)(h:Int){e:Nat}(he:e<=m):∃n,n<turns m/\(lp m n (bits h % (m+1),bits h)).1=e:=by
 have h13:lp m 13 (bits h % (m+1),bits h)=((lp m 13 (bits h % (m+1),bits h)).1,0):=by
  have:(lp m 13 (bits h % (m+1),bits h)).2=0:=by
   rw[Za];exact Nat.div_eq_of_lt (Nat.lt_trans (Xe h) (by decide))
  exact Prod.ext rfl this
 obtain⟨k,hk,ek⟩:=Oh hm (Oj m 12 (bits h % (m+1),bits h)) he;refine⟨13+k,by unfold turns;lia,?_⟩;rw[fh,h13,Sn];exact ek
def lv(m:Nat)(o:Array (Option Nat)):List (Nat×Nat):=(List.range (m+1)).filterMap λj=>(o.getD j none).map (j,·)
theorem bc{α β:Type}{g g':α->Option β}:∀{l:List α},(∀a∈l,g' a=g a)->l.filterMap g'=l.filterMap g
 |[],_=>rfl
 |a::l,h=>by
  rw[xZ,xZ,h a zB,bc λb hb=>h b (zI _ hb)]
theorem Xk{β:Type}{g g':Nat->Option β}{j:Nat}{b:β}(hg:g j=none)(TR:g' j=some b)(gQ:∀a,a≠j->g' a=g a):∀{l:List Nat},l.Nodup->j∈l->(l.filterMap g').Perm (b::l.filterMap g)
 |[],_,h=>by simp at h
 |a::l,hn,h=>by
  rw[uW]at hn;rw[xZ,xZ]
  by_cases e:a=j
  ·subst e;rw[hg,TR];dsimp only;rw[bc λc hc=>gQ c λz=>hn.1 (z▸hc)]
  ·rw[gQ a e];have hj:j∈l:=by
    rcases zD.mp h with z|z
    ·exact absurd z.symm e
    ·exact z
   have ih:=Xk hg TR gQ hn.2 hj;cases g a with
   |none=>exact ih
   |some c=>exact(ih.cons c).trans (.swap _ _ _)
structure Laid(m:Nat)(hs:List Int)(o:Array (Option Nat))(Z:List (Nat×Nat)):Prop where
 sz:o.size=m+1
 pm:(lv m o).Perm Z
 ix:Z.map (·.2)=List.range hs.length
 fr:∀j,fr o j=true↔j<=m/\j∉Z.map (·.1)
 pa:∀z∈Z,∀h,hs[z.2]?=some h->∃k,pos m h k=z.1/\∀k',k'<k->pos m h k'∈Z.map (·.1)
theorem Laid.zero(m:Nat):Laid m [] (Array.replicate (m+1) none) []:=by
 refine⟨by simp,?_,rfl,λj=>?_,λz hz=>by simp at hz⟩
 ·unfold lv;have:(List.range (m+1)).filterMap (λj=>((Array.replicate (m+1) (none:Option Nat)).getD j none).map (j,·))=[]:=by
   rw[List.filterMap_eq_nil_iff];intro j hj;have rR:j<m+1:=xU.mp hj;simp[Array.getD,rR]
  rw[this]
 ·unfold Tb.fr
  by_cases hj:j<m+1
  ·simp[Array.getD,hj];lia
  ·simp[Array.getD,hj];lia
theorem Laid.step{m:Nat}{hs:List Int}{o:Array (Option Nat)}{Z:List (Nat×Nat)}(hm:Mk m)(la:Laid m hs o Z)(h:Int)(hl:hs.length+1<=m):
  ∃j,layClean.free m o (turns m) (bits h % (m+1)) (bits h)=some j/\Laid m (hs++[h]) (o.setIfInBounds j (some hs.length)) (Z++[(j,hs.length)]):=by
 have hZ:Z.length=hs.length:=by
  have:=xT List.length la.ix;simpa using this
 have hex:∃e,e<=m/\e∉Z.map (·.1):=by
  by_cases hc:∃e,e<=m/\e∉Z.map (·.1)
  ·exact hc
  ·exfalso;have:=Zs (m+1) (Z.map (·.1)) λe he=>xI λhn=>hc ⟨e,by lia,hn⟩;rw[zX]at this;lia
 obtain⟨e,he,hen⟩:=hex;obtain⟨n,hn,en⟩:=Uc hm h he;obtain⟨k,e1,e2,e3⟩:=ij m o (turns m) (bits h % (m+1),bits h) n hn (by rw[en];exact(la.fr e).mpr ⟨he,hen⟩);have oP:(itr m k (hd m (bits h % (m+1)) (bits h))).j=pos m h k:=rfl;rw[oP]at e1 e2;obtain⟨j1,j2⟩:=(la.fr _).mp e2;refine⟨pos m h k,e1,?_,?_,?_,λj=>?_,λz hz h' hh=>?_⟩
 ·rw[Array.size_setIfInBounds];exact la.sz
 ·have bE:pos m h k<o.size:=by rw[la.sz];lia
  have TC:o.getD (pos m h k) none=none:=by
   unfold Tb.fr at e2;simp only[Array.getD,bE,dif_pos]at e2 ⊢;simpa using e2
  have key:(lv m (o.setIfInBounds (pos m h k) (some hs.length))).Perm ((pos m h k,hs.length)::lv m o):=by
   unfold lv;refine Xk (j:=pos m h k) ?_ ?_ ?_ List.nodup_range (xU.mpr (by lia))
   ·rw[TC];rfl
   ·have:(o.setIfInBounds (pos m h k) (some hs.length)).getD (pos m h k) none=some hs.length:=by simp[Array.getD,bE]
    rw[this];rfl
   ·intro a ha;have:(o.setIfInBounds (pos m h k) (some hs.length)).getD a none=o.getD a none:=by
     by_cases hz:a<o.size
     ·simp[Array.getD,hz,Array.getElem_setIfInBounds,wY ha]
     ·simp[Array.getD,hz]
    rw[this]
  refine key.trans ((la.pm.cons _).trans ?_);exact(List.perm_append_singleton _ _).symm
 ·rw[yW,la.ix,zL,wM,List.range_succ];rfl
 ·have bE:pos m h k<o.size:=by rw[la.sz];lia
  rw[yW,zP]
  by_cases ej:j=pos m h k
  ·subst ej;have:Tb.fr (o.setIfInBounds (pos m h k) (some hs.length)) (pos m h k)=false:=by unfold Tb.fr;simp[Array.getD,bE]
   rw[this];simp
  ·have:Tb.fr (o.setIfInBounds (pos m h k) (some hs.length)) j=Tb.fr o j:=by
    unfold Tb.fr
    by_cases hz:j<o.size
    ·simp[Array.getD,hz,Array.getElem_setIfInBounds,wY ej]
    ·simp[Array.getD,hz]
   rw[this,la.fr];simp[ej]
 ·have sub:∀q,q∈Z.map (·.1)->q∈(Z++[(pos m h k,hs.length)]).map (·.1):=λq hq=>by rw[yW];exact yH _ hq
  rcases zP.mp hz with hz|hz
  ·have bE:z.2<hs.length:=by
    have:z.2∈Z.map (·.2):=yP hz;rw[la.ix]at this;exact xU.mp this
   rw[wX bE]at hh;obtain⟨k2,a1,a2⟩:=la.pa z hz h' hh;exact⟨k2,a1,λk' iQ=>sub _ (a2 k' iQ)⟩
  ·rw[zS]at hz;subst hz;have:h'=h:=by simpa using hh.symm
   subst this;refine⟨k,rfl,λk' iQ=>sub _ ?_⟩;have hb:=e3 k' iQ;have SY:(itr m k' (hd m (bits h' % (m+1)) (bits h'))).j=pos m h' k':=rfl;rw[SY]at hb;have Ei:pos m h' k'<=m:=M6 m h' k';refine xI λhn=>?_;have:=(la.fr _).mpr ⟨Ei,hn⟩;rw[this]at hb;cases hb
end Tb
end My
namespace My
open PySem
namespace Tb
open PySem.SetTable
def be(m:Nat)(bA:Option (Array (Option Nat)×Nat))(h:Int):Option (Array (Option Nat)×Nat):=do
 let(owner,k) <-bA
 let j <-layClean.free m owner (turns m) (bits h % (m+1)) (bits h)
 pure (owner.setIfInBounds j (some k),k+1)
theorem bp(m:Nat)(hs:Array Int):layClean m hs=(hs.foldl (be m) (some (Array.replicate (m+1) none,0))).map (·.1):=rfl
theorem ig{m:Nat}(hm:Mk m):∀(rest done:List Int)(o:Array (Option Nat))(Z:List (Nat×Nat)),Laid m done o Z->done.length+rest.length<=m ->
  ∃o' Z',rest.foldl (be m) (some (o,done.length))=some (o',(done++rest).length)/\Laid m (done++rest) o' Z'
 |[],done,o,Z,la,_=>⟨o,Z,by simp,by rw[List.append_nil];exact la⟩
 |h::rest,done,o,Z,la,hl=>by
  rw[yJ]at hl;obtain⟨j,e,la'⟩:=la.step hm h (by lia);obtain⟨o',Z',e',ND⟩:=ig hm rest (done++[h]) _ _ la' (by rw[zL,wM];lia);refine⟨o',Z',?_,by rw[yQ]at ND;exact ND⟩;rw[List.foldl_cons];have e2:be m (some (o,done.length)) h=some (o.setIfInBounds j (some done.length),(done++[h]).length):=by
   unfold be;show(layClean.free m o (turns m) (bits h % (m+1)) (bits h)).bind _=_;rw[e];simp
  rw[e2,e',yQ]
  rfl
theorem bd(es:Array (Int×Value)):∀l:List (Nat×Nat),(∀z∈l,z.2<es.size)->(l.map (·.2)).filterMap (λi=>es[i]?)=l.map λz=>es.getD z.2 (0,Value.none)
 |[],_=>rfl
 |z::l,h=>by
  have hz:=h z zB;rw[List.map_cons,xZ,List.map_cons,bd es l λy hy=>h y (zI _ hy)];have e:es[z.2]?=some (es.getD z.2 (0,Value.none)):=by simp[Array.getD,hz]
  rw[e]
theorem iz(es:Array (Int×Value)):(List.range es.size).map (λk=>es.getD k (0,Value.none))=es.toList:=by
 apply uL
 ·simp
 ·intro i h1 h2;have hi:i<es.size:=by simpa using h1
  simp[Array.getD,hi]
theorem Ii(m:Nat)(o:Array (Option Nat)):((lv m o).map (·.1)).Pairwise (·<·):=by
 have e:∀l:List Nat,((l.filterMap λj=>(o.getD j none).map (j,·)).map (·.1))=l.filter λj=>(o.getD j none).isSome:=by
  intro l
  induction l with
  |nil=>rfl
  |cons a l ih =>
   rw[xZ,List.filter_cons];cases hg:o.getD a none with
   |none=>simpa using ih
   |some c=>simpa using ih
 unfold lv;rw[e];exact List.Pairwise.sublist List.filter_sublist List.pairwise_lt_range
theorem Si{m:Nat}(hm:Mk m)(es:Array (Int×Value))(hn:es.size<=m)(fi mv:Nat)(led plain:Bool):
  ∃t' order,laid m fi mv led plain (es.map (·.1))=some (t',order)/\t'.mask=m/\t'.led=led/\t'.plain=plain/\∃L',Rep L' (order.filterMap (es[·]?)) t'/\(L'.map (·.2)).Perm es.toList:=by
 obtain⟨o,Z,e,la⟩:=ig hm (es.map (·.1)).toList [] _ _ (Laid.zero m) (by simpa using hn);rw[uA]at e la;have aZ:((es.map (·.1)).toList).length=es.size:=by simp
 have ec:layClean m (es.map (·.1))=some o:=by
  rw[bp,<-Array.foldl_toList];show Option.map _ (List.foldl (be m) (some (Array.replicate (m+1) none,([]:List Int).length)) _)=_;rw[e]
  rfl
 have hv:∀z∈lv m o,z.2<es.size:=λz hz=>by
  have:z.2∈Z.map (·.2):=yP (la.pm.mem_iff.mp hz);rw[la.ix,aZ]at this;exact xU.mp this
 refine⟨_,_,by
  unfold laid;rw[ec]
  rfl,rfl,rfl,rfl,(lv m o).map (λz=>(z.1,es.getD z.2 (0,Value.none))),⟨?_,?_,rfl,?_,?_,hm,?_⟩,?_⟩
 ·show Array.filterMap _ ((lv m o).map (·.2)).toArray=_;apply wJ.mp;rw[Array.toList_filterMap];show List.filterMap _ ((lv m o).map (·.2))=_;rw[bd es _ hv,xO]
  rfl
 ·show((lv m o).map (·.1)).toArray=_;rw[xO]
  rfl
 ·rw[xO];exact Ii m o
 ·intro x hx;obtain⟨z,hz,rfl⟩:=zC.mp hx;have DU:=hv z hz;have hh:((es.map (·.1)).toList)[z.2]?=some (es.getD z.2 (0,Value.none)).1:=by simp[Array.getD,DU]
  obtain⟨k,a1,a2⟩:=la.pa z (la.pm.mem_iff.mp hz) _ hh;refine⟨k,a1,λk' iQ=>?_⟩;rw[xO];have:=a2 k' iQ;exact(la.pm.map (·.1)).mem_iff.mpr this
 ·have:(lv m o).length=es.size:=by
   rw[la.pm.length_eq];have:=xT List.length la.ix;simpa using this
  rw[zX,this];exact hn
 ·rw[xO];have h1:((lv m o).map λz=>es.getD z.2 (0,Value.none)).Perm (Z.map λz=>es.getD z.2 (0,Value.none)):=la.pm.map _;have h2:(Z.map λz=>es.getD z.2 (0,Value.none))=es.toList:=by
   have:(Z.map λz=>es.getD z.2 (0,Value.none))=(Z.map (·.2)).map λk=>es.getD k (0,Value.none):=by rw[xO];rfl
   rw[this,la.ix,aZ,iz]
  rw[<-h2];exact h1
def pw(L:List (Nat×(Int×Value)))(t:SetTable):Prop:=L.length*5<t.mask*3
theorem Zy{L:List (Nat×(Int×Value))}{es:Array (Int×Value)}{t:SetTable}(r:Rep L es t)(hb:L.length<=76)(h0:(L.length-1)*5<t.mask*3)(h1:t.mask*3<=L.length*5):
  sizeAbove (grown L.length)<=4096/\∃t' order L',t.relaid (es.map (·.1)) (grown L.length)=some (t',order)/\t'.led=t.led/\t'.plain=t.plain/\Rep L' (order.filterMap (es[·]?)) t'/\(L'.map (·.2)).Perm (L.map (·.2))/\pw L' t':=by
 have FM:es.size=L.length:=by rw[r.es];simp
 have key:∀m',Mk m'->L.length<=m'->sizeAbove (grown L.length)-1=m'->L.length*5<m'*3->∃t' order L',t.relaid (es.map (·.1)) (grown L.length)=some (t',order)/\t'.led=t.led/\t'.plain=t.plain/\Rep L' (order.filterMap (es[·]?)) t'/\(L'.map (·.2)).Perm (L.map (·.2))/\pw L' t':=by
  intro m' oQ hl hs hr;obtain⟨t',order,e1,e2,e3,e4,L',rp,pm⟩:=Si oQ es (by lia) t.finger (t.movedTo m') t.led t.plain;have el:es.toList=L.map (·.2):=by rw[r.es]
  refine⟨t',order,L',?_,e3,e4,rp,by rw[<-el];exact pm,?_⟩
  ·unfold SetTable.relaid;rw[hs];exact e1
  ·unfold pw;have h5:L'.length=L.length:=by
    have:=pm.length_eq;rw[el]at this;simpa using this
   rw[h5,e2];exact hr
 rcases r.mz with e|e|e
 ·rw[e]at h0 h1;have hL:L.length=5:=by lia
  rw[hL]at key ⊢;exact⟨by decide,key 31 (.inr (.inl rfl)) (by decide) (by decide) (by decide)⟩
 ·rw[e]at h0 h1;have hL:L.length=19:=by lia
  rw[hL]at key ⊢;exact⟨by decide,key 127 (.inr (.inr rfl)) (by decide) (by decide) (by decide)⟩
 ·rw[e]at h0 h1;lia
end Tb
end My
namespace My
open PySem PySem.Spec PySem.W
section
variable {prog:Program}{w:World}{A:Around}{E:Value->Shared->Prop}{s:Shared}
def Vx:Bool->Value->Bool
 |b,.bool c=>c==b
 |_,_=>false
theorem xi{b:Bool}{v:Value}(h:Vx b v=true):v = .bool b:=by
 cases v<;>simp_all [Vx]
theorem Pk{b:Bool}{Q:Int->Shared->Prop}(h:Q (if b=true then 1 else 0) { s with toks:=s.toks+1 }):wpAny (model prog w) A (pyHash (.bool b)) Q E s:=by
 show wpAny _ _ (pyHashByItsType (.bool b)) _ _ _;refine pyHash_slot (T:="bool") rfl F.slot_bool_hash entry_int_hash (args_int_hash _) (beq_builtin_none _) (.inl rfl) ?_;cases b
 ·exact(show wpAny _ _ (do ret (<-mkInt 0)) _ _ s from zZ (wpAny_mkInt (zW ⟨_,_,rfl,h⟩)))
 ·exact(show wpAny _ _ (do ret (<-mkInt 1)) _ _ s from zZ (wpAny_mkInt (zW ⟨_,_,rfl,h⟩)))
def kl(prog:Program)(w:World):PySem.KeyKind prog w Bool where
 is:=Vx
 hash:=λb=>if b=true then 1 else 0
 inj:=λv a b h1 h2=>by
  have e1:=xi h1;have e2:=xi h2;rw[e1]at e2;exact Value.bool.inj e2
 byValue:=λk v h=>by rw[xi h];rfl
 pyHash:=λhv h=>by rw[xi hv];exact Pk h
 eqBool:=λ{A E s a b u v Q} hu hv h=>by
  rw[xi hu,xi hv];refine SeqAt.EqAt.bool_bool a b _ _ _ _ ?_;have e:(a==b)=decide (a=b):=by cases a<;>cases b<;>rfl
  rw[e];exact h
 «strs»:=λk x t v h=>by simp[Vx]at h
abbrev Bt(prog:Program)(w:World)(h:Heap)(k:List Bool)(a:Addr):Prop:=IsTupleKey (kl prog w) h k a
abbrev Bh(prog:Program)(w:World)(k:List Bool):Int:=tupleKeyHash (kl prog w) k
theorem ax{h:Heap}{k:List Bool}{vs:List Value}(x:ItemsAre (kl prog w) k vs):∀v∈vs,∃b,v = .bool b:=by
 induction x with
 |nil=>intro v hv;simp at hv
 |cons h1 _ ih =>
  intro v hv;rcases zD.mp hv with rfl|hv
  ·exact⟨_,xi h1⟩
  ·exact ih v hv
theorem Yv{k:List Bool}{a:Addr}{Q:Bool->Shared->Prop}(hk:Bt prog w s.heap k a)(h:Q true s):wpAny (model prog w) A (hashByValue 8 (.ref a)) Q E s:=by
 have hT:=hk.typeIs;obtain⟨o,items,n,ho,hc,hd,hi⟩:=hk;unfold hashByValue;refine zZ (wpAny_specialOf hT F.slot_tuple_hash.lookup ?_);show wpAny _ _ (seqItems? (.ref a) >>= _) _ _ s;refine zZ (wR ho hd ?_);refine zZ ?_;show wpAny _ _ (forIn items _ _) _ _ s;rw[<-Array.forIn_toList];refine wpAny_forIn_list _ (λrest r s'=>r.1=none/\s'=s/\∀v∈rest,∃b,v = .bool b) _ ?_ ?_ _ _ ⟨rfl,rfl,ax (h:=s.heap) hi⟩
 ·rintro v rest r s' ⟨hr,rfl,cR⟩;obtain⟨b,rfl⟩:=cR v zB;refine zZ (zW ?_);simp only[Bool.not_true,Bool.false_eq_true,if_false];exact zW ⟨rfl,rfl,λu FG=>cR u (zI _ FG)⟩
 ·rintro⟨r1,r2⟩ s' ⟨hr,rfl,_⟩;simp only at hr;subst hr;exact zW h
theorem aw{k:List Bool}{a:Addr}{Q:Bool->Shared->Prop}(hk:Bt prog w s.heap k a)(h:Q false s):wpAny (model prog w) A (ofAClassStatement 8 (.ref a)) Q E s:=by
 have hT:=hk.typeIs;obtain⟨o,items,n,ho,hc,hd,hi⟩:=hk;unfold ofAClassStatement;refine zZ (uI hT ?_);show wpAny _ _ (pure true >>= _) _ _ s;refine zZ (zW ?_);simp only[Bool.not_true,Bool.false_eq_true,if_false];refine zZ (wR ho hd ?_);refine zZ ?_;show wpAny _ _ (forIn items _ _) _ _ s;rw[<-Array.forIn_toList];refine wpAny_forIn_list _ (λrest r s'=>r.1=none/\s'=s/\∀v∈rest,∃b,v = .bool b) _ ?_ ?_ _ _ ⟨rfl,rfl,ax (h:=s.heap) hi⟩
 ·rintro v rest r s' ⟨hr,rfl,cR⟩;obtain⟨b,rfl⟩:=cR v zB;refine zZ (zW ?_);simp only[Bool.false_eq_true,if_false];exact zW ⟨rfl,rfl,λu FG=>cR u (zI _ FG)⟩
 ·rintro⟨r1,r2⟩ s' ⟨hr,rfl,_⟩;simp only at hr;subst hr;exact zW h
theorem Vg{k:List Bool}{a:Addr}{ys:List Value}{Q:Bool->Shared->Prop}(hk:Bt prog w s.heap k a)(hy:∀y∈ys,∃k' b,y = .ref b/\Bt prog w s.heap k' b)(h:Q false s):
  wpAny (model prog w) A (searchCouldBeSeen (.ref a) ys) Q E s:=by
 unfold searchCouldBeSeen;refine zZ ?_;refine wpAny_forIn_list _ (λrest r s'=>r.1=none/\s'=s/\∀y∈rest,∃k' b,y = .ref b/\Bt prog w s.heap k' b) _ ?_ ?_ _ _ ⟨rfl,rfl,hy⟩
 ·rintro v rest r s' ⟨hr,rfl,cR⟩;obtain⟨k',b,rfl,hb⟩:=cR v zB;have nx:∀u∈rest,∃k' b,u = .ref b/\Bt prog w s'.heap k' b:=λu FG=>cR u (zI _ FG);dsimp only;split
  ·exact zW ⟨rfl,rfl,nx⟩
  ·refine zZ (wpAny_eqIsQuiet_tuple hk ?_);simp only[Bool.not_true,Bool.false_eq_true,if_false];refine zZ (wpAny_eqIsQuiet_tuple hb ?_);simp only[Bool.not_true,Bool.false_eq_true,if_false];refine zZ (aw hk ?_);simp only[Bool.false_eq_true,if_false];refine zZ (aw hb ?_);simp only[Bool.false_eq_true,if_false];exact zW ⟨rfl,rfl,nx⟩
 ·rintro⟨r1,r2⟩ s' ⟨hr,rfl,_⟩;simp only at hr;subst hr;exact zW h
end
end My
namespace My
open PySem PySem.Spec PySem.W
open Tb
section
variable {prog:Program}{w:World}{A:Around}{E:Value->Shared->Prop}{s:Shared}
def Elem(prog:Program)(w:World)(h:Heap)(e:Int×Value)(k:List Bool):Prop:=∃b,e.2 = .ref b/\Bt prog w h k b/\e.1=Bh prog w k
theorem Elem.inj{h:Heap}{e:Int×Value}{k k':List Bool}(x:Elem prog w h e k)(y:Elem prog w h e k'):k=k':=by
 obtain⟨b,e1,h1,_⟩:=x;obtain⟨b',e2,h2,_⟩:=y;rw[e1]at e2;cases e2;exact h1.inj h2
structure Good(prog:Program)(w:World)(h:Heap)(Es:List (Int×Value))(D:List (List Bool)):Prop where
 in1:∀e∈Es,∃k,k∈D/\Elem prog w h e k
 in2:∀k∈D,∃e∈Es,Elem prog w h e k
 one:Es.Pairwise λe e'=>∀k,Elem prog w h e k->¬Elem prog w h e' k
theorem Good.perm{h:Heap}{Es Es':List (Int×Value)}{D:List (List Bool)}(g:Good prog w h Es D)(p:Es'.Perm Es):Good prog w h Es' D :=
 ⟨λe he=>g.in1 e (p.mem_iff.mp he),λk hk=>let⟨e,he,x⟩:=g.in2 k hk;⟨e,p.mem_iff.mpr he,x⟩,(p.pairwise_iff (λ{x y} SO k h1 h2=>SO k h2 h1)).mpr g.one⟩
theorem Bt.mono{h h':Heap}{k:List Bool}{a:Addr}(x:Bt prog w h k a)(hk:∀o,h.get? a=some o->h'.get? a=some o):Bt prog w h' k a:=by
 obtain⟨o,items,n,ho,r⟩:=x;exact⟨o,items,n,hk o ho,r⟩
theorem Good.mono{h h':Heap}{Es:List (Int×Value)}{D:List (List Bool)}(g:Good prog w h Es D)(hk:∀a o,o.cls = .type "tuple"->h.get? a=some o->h'.get? a=some o):Good prog w h' Es D:=by
 have up:∀e k,Elem prog w h e k->Elem prog w h' e k:=λe k ⟨b,e1,⟨o,items,n,ho,hc,r⟩,h2⟩=>⟨b,e1,⟨o,items,n,hk b o hc ho,hc,r⟩,h2⟩
 refine⟨λe he=>let⟨k,h1,h2⟩:=g.in1 e he;⟨k,h1,up e k h2⟩,λk iQ=>let⟨e,h1,h2⟩:=g.in2 k iQ;⟨e,h1,up e k h2⟩,?_⟩;refine(xX.mpr λi j hi hj qH=>?_);intro k h1 h2;obtain⟨k1,_,x1⟩:=g.in1 _ (vY hi);obtain⟨k2,_,x2⟩:=g.in1 _ (vY hj);have e1:=(up _ _ x1).inj h1;have e2:=(up _ _ x2).inj h2;subst e1;subst e2;exact xX.mp g.one i j hi hj qH _ x1 x2
abbrev yy(es:Array (Int×Value))(ep:Nat)(t:SetTable):Obj:={ cls:=.type "set",dict:=none,data:=.set es ep t,slots:=#[] }
theorem jg(hu:A.units<cLine){S:Addr}{ep:Nat}{es:Array (Int×Value)}{t:SetTable}{L:List (Nat×(Int×Value))}{D:List (List Bool)}(r:Rep L es t)(hS:s.heap.get? S=some (yy es ep t))(g:Good prog w s.heap (L.map (·.2)) D)
  {x:Addr}{kx:List Bool} (hx:Bt prog w s.heap kx x) {K:Nat} (hK:pos t.mask (Bh prog w kx) K∉L.map (·.1)) (UF:∀k,k<K->pos t.mask (Bh prog w kx) k∈L.map (·.1)) (Kb:K<=10*(t.mask+13)) {Q:SetFound->Shared->Prop}
  (q1:(∃e∈L.map (·.2),Elem prog w s.heap e kx)->Q (.there none) s) (q2:(∀e∈L.map (·.2),¬Elem prog w s.heap e kx)->Q (.free (pos t.mask (Bh prog w kx) K) false) s) :
  ∀(f m:Nat)(As:Option SetTable.Probe),m<=K->K-m<f->(∀y∈L,∀k,k<m->pos t.mask (Bh prog w kx) k=y.1->¬Elem prog w s.heap y.2 kx)->As.getD (t.probeStart (Bh prog w kx))=itr t.mask m (st0 t.mask (Bh prog w kx)) ->
   wpAny (model prog w) A (setSearchFrom S (.ref x) (Bh prog w kx) true f As) Q E s
 |0,m,As,_,hf,_,_=>by lia
 |f+1,m,As,hm,hf,qG,est=>by
  unfold setSearchFrom;refine zZ (xK hS rfl r.fits ?_);dsimp only;rw[r.odd];simp only[Bool.false_eq_true,if_false];rw[est];have Ec:t.probe (λi=>(es[i]?.map (·.1)).getD 0) (Bh prog w kx) (itr t.mask m (st0 t.mask (Bh prog w kx)))=SetTable.probe.go t (λi=>(es[i]?.map (·.1)).getD 0) (Bh prog w kx) (10*SetTable.turns t.mask) (itr t.mask m (st0 t.mask (Bh prog w kx))):=rfl;have Ci:∀(i:Nat)(e:Int×Value),es[i]?=some e->(λ(i:Nat)=>(es[i]?.map (·.1)).getD 0) i=e.1:=λi e he=>by simp[he]
  have hpg:=r.probe_go Ci (Bh prog w kx) hK UF (10*SetTable.turns t.mask) m hm (by unfold SetTable.turns;lia);rw[<-Ec]at hpg;split
  case h_2 By =>
   exfalso;rcases hpg with⟨e,_⟩|⟨k,i,v,_,_,e,_⟩
   ·exact By _ e
   ·exact By _ e
  rename_i met By;rcases hpg with⟨e,gQ⟩|⟨k,i,v,h1,h2,e,CJ,FM,hL,gQ⟩
  ·have em:=yX (By.symm.trans e);subst em;dsimp only;refine zW (q2 λel En hE=>?_);obtain⟨y,hy,rfl⟩:=zC.mp En;obtain⟨k0,hk0,TM⟩:=r.pa y hy;have hh:y.2.1=Bh prog w kx:=by obtain⟨b,_,_,h2⟩:=hE;exact h2
   rw[hh]at hk0 TM;have bE:k0<K:=by
    refine xI λhn=>?_
    by_cases e0:k0=K
    ·subst e0;exact hK (by rw[hk0];exact yP hy)
    ·exact hK (TM K (by lia))
   by_cases hlm:k0<m
   ·exact qG y hy k0 hlm hk0 hE
   ·exact gQ k0 y.2 (by lia) bE (by rw[hk0];exact hy) hh
  ·have em:=yX (By.symm.trans e);subst em;dsimp only;obtain⟨kb,_,hE⟩:=g.in1 (Bh prog w kx,v) (zC.mpr ⟨_,hL,rfl⟩);obtain⟨b,eb,hb,hbh⟩:=id hE;dsimp only at eb hbh;subst eb;have rest:wpAny (model prog w) A (do
     let some (_,y):=es[i]?|unsupported "internal:set-entry"
     let equal <-holding [y] (eqBool y (.ref x))
     let(fC,_,t') <-setState S
     if true&&equal then return SetFound.there none
     let some sam:=t'.sameMemory t.moves t.mask|unsupported "set.changed-during-lookup:is-the-new-block-at-the-old-address"
     let still <-match(if sam then t'.slot (pos t.mask (Bh prog w kx) k)else .empty)with
      | .live i'=>match fC[i']? with
       |some (_,y')=>do pure (if <-isSame y' y then some i' else none)
       |none=>pure none
      |_=>pure none
     match still with
     |none=>rule "set.search.anew";setSearchFrom S (.ref x) (Bh prog w kx) true f none
     |some i'=>if equal then return SetFound.there (some i')else setSearchFrom S (.ref x) (Bh prog w kx) true f (some (itr t.mask (k+1) (st0 t.mask (Bh prog w kx))))) Q E s:=by
    rw[FM];dsimp only;refine zZ (xS (wpAny_eqBool_tuple hu hb hx ?_));refine zZ (xK hS rfl r.fits ?_);dsimp only
    by_cases hk:kb=kx
    ·rw[zO hk];simp only[Bool.and_self,if_true];exact zW (q1 ⟨(Bh prog w kx,.ref b),zC.mpr ⟨_,hL,rfl⟩,hk▸hE⟩)
    ·rw[zA hk];simp only[tP,Bool.false_eq_true,if_false];have hsm:t.sameMemory t.moves t.mask=some true:=by unfold SetTable.sameMemory;simp
     rw[hsm];dsimp only;simp only[if_true];rw[CJ];dsimp only;rw[FM];dsimp only;refine zZ (wpAny_isSame_ref_self (zZ (zW ?_)));simp only[if_true];refine jg hu r hS g hx hK UF Kb q1 q2 f (k+1) _ (by lia) (by lia) (λy hy k' iQ ek' hEy=>?_) rfl;have hh:y.2.1=Bh prog w kx:=by obtain⟨b,_,_,h2⟩:=hEy;exact h2
     by_cases z1:k'<m
     ·exact qG y hy k' z1 ek' hEy
     ·by_cases z2:k'=k
      ·subst z2;obtain⟨i1,e1,s1,L1,s2⟩:=r.slot_live (yP (f:=(·.1)) hy);rw[<-ek',CJ]at s1;cases s1;have DW:y.2=e1:=by
        obtain⟨i2,hi2,e2⟩:=vI hy;obtain⟨hi1,e3⟩:=zV.mp L1;have:i2=i:=by
         rcases tT i2 i with z|z|z
         ·have:=xX.mp r.up i2 i (by simpa using hi2) (by simpa using hi1) z;simp[e2,e3]at this
         ·exact z
         ·have:=xX.mp r.up i i2 (by simpa using hi1) (by simpa using hi2) z;simp[e2,e3]at this
        subst this;rw[e2]at e3;rw[e3]
       rw[FM]at s2;cases s2;rw[DW]at hEy;exact hk (hE.inj hEy)
      ·exact gQ k' y.2 (by lia) (by lia) (by rw[ek'];exact hy) hh
   by_cases jH:t.led=true
   ·rw[jH];simp only[Bool.not_true,Bool.false_eq_true,if_false];exact rest
   ·have Bz:t.led=false:=by simpa using jH
    rw[Bz];simp only[Bool.not_false,if_true];refine zZ (Vg hx (λy hy=>?_) ?_)
    ·obtain⟨e1,oG,rfl⟩:=zC.mp hy;have CS:e1∈L.map (·.2):=by
      have h3:e1∈es.toList:=by
       have:=(Array.mem_filter.mp (Array.mem_toList_iff.mp oG)).1;exact Array.mem_toList_iff.mpr this
      rw[r.es]at h3;exact h3
     obtain⟨k1,_,b1,eb1,hb1,_⟩:=g.in1 e1 CS;exact⟨k1,b1,eb1,hb1⟩
    ·simp only[Bool.false_eq_true,if_false];exact rest
end
end My
namespace My
open PySem PySem.Spec PySem.W
open Tb
section
variable {prog:Program}{w:World}{A:Around}{E:Value->Shared->Prop}{s:Shared}
theorem tf{S:Addr}{es fC:Array (Int×Value)}{ep:Nat}{t t':SetTable}{Q:Unit->Shared->Prop}(hS:s.heap.get? S=some (yy es ep t))(hz:fC.size<=sizeLine)
  (h:∀h',h'.get? S=some (yy fC (ep+1) t')->Heap.SameBut S s.heap h'->Q () { s with heap:=h' }):wpAny (model prog w) A (storeSet S fC t') Q E s:=by
 refine wpAny_storeSet_of hS rfl (h _ ?_ (Heap.SameBut.update s.heap S (Obj.putSet fC t'))) hz;have e:=yD (Obj.putSet fC t') hS (by rfl);exact e
theorem cz{S:Addr}{es:Array (Int×Value)}{ep:Nat}{t:SetTable}{h h':Heap}(hS:h.get? S=some (yy es ep t))(sb:Heap.SameBut S h h'):∀a o,o.cls = .type "tuple"->h.get? a=some o->h'.get? a=some o:=λa o hc ho=>by
 have gQ:a≠S:=by
  rintro rfl;rw[hS]at ho;cases ho;simp at hc
 exact(sb.2 a gQ).trans ho
theorem O6(hu:A.units+1<cLine){S:Addr}{ep:Nat}{es:Array (Int×Value)}{t:SetTable}{L:List (Nat×(Int×Value))}{D:List (List Bool)}(r:Rep L es t)(r5:pw L t)(hb:L.length<76)(hS:s.heap.get? S=some (yy es ep t))(g:Good prog w s.heap (L.map (·.2)) D)
  {x:Addr}{kx:List Bool} (hx:Bt prog w s.heap kx x) {Q:Bool->Shared->Prop}
  (q:∀(b:Bool)(h':Heap)(tk:Nat)(L':List (Nat×(Int×Value)))(fC:Array (Int×Value))(oS:Nat)(t':SetTable),h'.get? S=some (yy fC oS t')->Heap.SameBut S s.heap h'->Rep L' fC t'->pw L' t'->t'.led=t.led->t'.plain=t.plain ->
   Good prog w h' (L'.map (·.2)) (D++[kx])->L'.length<=L.length+1->(∀e∈L'.map (·.2),e∈L.map (·.2)\/e.2 = .ref x)->Q b { s with heap:=h',toks:=tk }):wpAny (model prog w) A (setAdd S (.ref x)) Q E s:=by
 unfold setAdd;refine xS (zZ (wpAny_pyHash_tuple (by lia) hx ?_));unfold setAddHashed setAddHashedIn;refine xS (zZ (xK (s:={ s with toks:=s.toks+(kx.length+1) }) hS rfl r.fits ?_));dsimp only;have TZ:byScan (.ref x) es=false:=by unfold byScan;rfl
 rw[TZ];simp only[Bool.false_eq_true,if_false];have hm:t.mask<=127:=by rcases r.mz with e|e|e<;>rw[e]<;>decide
 obtain⟨K,Kb,hK,UF⟩:=Y3 r.mz (Bh prog w kx) (l:=L.map (·.1)) (by rw[zX];exact r.fl);unfold setSearch;refine zZ (jg (s:={ s with toks:=s.toks+(kx.length+1) }) (by lia) r hS g hx hK UF Kb (λhex=>?_) (λqG=>?_) 100000 0 none (yV _) (by lia) (λy _ k hk=>absurd hk (Nat.not_lt_zero _)) rfl)
 ·dsimp only;refine zW (q false s.heap _ L es ep t hS (Heap.SameBut.refl S s.heap) r r5 rfl rfl ⟨λe he=>?_,λk hk=>?_,g.one⟩ (wG _) λe he=>.inl he)
  ·obtain⟨k,h1,h2⟩:=g.in1 e he;exact⟨k,yH _ h1,h2⟩
  ·rcases zP.mp hk with hk|hk
   ·exact g.in2 k hk
   ·rw[zS.mp hk];exact hex
 ·dsimp only;refine zZ (xK (s:={ s with toks:=s.toks+(kx.length+1) }) hS rfl r.fits ?_);dsimp only;have El:es.size=L.length:=by rw[r.es];simp
  have r':=r.put (x:=.ref x) hK UF (by unfold pw at r5;lia);have Eb:(t.put (pos t.mask (Bh prog w kx) K)).1.plain=t.plain/\(t.put (pos t.mask (Bh prog w kx) K)).1.led=t.led/\(t.put (pos t.mask (Bh prog w kx) K)).1.mask=t.mask:=⟨rfl,rfl,rfl⟩
  generalize hT:t.put (pos t.mask (Bh prog w kx) K)=T at r' Eb ⊢;obtain⟨t1,p⟩:=T;dsimp only at r' Eb ⊢;obtain⟨cV,hld,hmk⟩:=Eb;have iP:=bj (L:=L) (pos t.mask (Bh prog w kx) K) (Bh prog w kx,Value.ref x);generalize hL':ins L (pos t.mask (Bh prog w kx) K) (Bh prog w kx,Value.ref x)=L1 at r' iP;have aZ:L1.length=L.length+1:=by rw[iP.length_eq];rfl
  have hsz:(SetTable.insertAt es p (Bh prog w kx,Value.ref x)).size=L1.length:=by rw[r'.es];simp
  have Cm:∀h',Heap.SameBut S s.heap h'->Good prog w h' (L1.map (·.2)) (D++[kx]):=λh' sb=>by
   refine Good.mono ?_ (cz hS sb);refine Good.perm (Es:=(Bh prog w kx,Value.ref x)::L.map (·.2)) ⟨λe he=>?_,λk hk=>?_,vC.mpr ⟨λe he k h1 h2=>?_,g.one⟩⟩ (iP.map (·.2))
   ·rcases zD.mp he with rfl|he
    ·exact⟨kx,zF _ (zS.mpr rfl),x,rfl,hx,rfl⟩
    ·obtain⟨k,h1,h2⟩:=g.in1 e he;exact⟨k,yH _ h1,h2⟩
   ·rcases zP.mp hk with hk|hk
    ·obtain⟨e,h1,h2⟩:=g.in2 k hk;exact⟨e,zI _ h1,h2⟩
    ·rw[zS.mp hk];exact⟨_,zB,x,rfl,hx,rfl⟩
   ·have:k=kx:=h1.inj ⟨x,rfl,hx,rfl⟩;subst this;exact qG e he h2
  have NB:∀e∈L1.map (·.2),e∈L.map (·.2)\/e.2 = .ref x:=λe he=>by
   have:=(iP.map (·.2)).mem_iff.mp he;rcases zD.mp this with z|z
   ·exact .inr (by rw[z])
   ·exact .inl z
  have body:wpAny (model prog w) A (do
    storeSet S (SetTable.insertAt es p (Bh prog w kx,Value.ref x)) t1
    if(!false&&t1.tooFull)=true then do
     setRelay S (SetTable.grown (es.size+1))
     pure true
    else pure true) Q E { s with toks:=s.toks+(kx.length+1) }:=by
   refine zZ (tf (s:={ s with toks:=s.toks+(kx.length+1) }) hS (by rw[hsz,zM];lia) λh1 Ew DO=>?_);have htf:t1.tooFull=decide (t1.mask*3<=L1.length*5):=by
    unfold SetTable.tooFull SetTable.fill;rw[r'.pl,r'.dm];simp
   by_cases hfull:t1.mask*3<=L1.length*5
   ·rw[htf,zO hfull];simp only[Bool.not_false,Bool.and_self,if_true];obtain⟨FH,t2,order,L2,e1,e2,e3,r2,pm,r52⟩:=Zy r' (by lia) (by unfold pw at r5;rw[hmk,aZ];lia) hfull;have hgr:SetTable.grown (es.size+1)=SetTable.grown L1.length:=by rw[El,aZ]
    rw[hgr];unfold setRelay;refine zZ (zZ (xK (s:={ s with heap:=h1,toks:=s.toks+(kx.length+1) }) Ew rfl r'.fits ?_));dsimp only;rw[zK (by rw[zM];lia),e1];have rC:(order.filterMap ((SetTable.insertAt es p (Bh prog w kx,Value.ref x))[·]?)).size=L1.length:=by
     rw[r2.es];have h6:=pm.length_eq;simpa using h6
    refine zZ (show wpAny _ _ (if((order.filterMap ((SetTable.insertAt es p (Bh prog w kx,Value.ref x))[·]?)).size != (SetTable.insertAt es p (Bh prog w kx,Value.ref x)).size)=true then _ else pure (order.filterMap ((SetTable.insertAt es p (Bh prog w kx,Value.ref x))[·]?),t2)) _ _ _ from ?_);rw[zK (by rw[rC,hsz];simp)];refine zW ?_;dsimp only;refine tf (s:={ s with heap:=h1,toks:=s.toks+(kx.length+1) }) Ew (by rw[rC,zM];lia) λh2 hS2 sb2=>?_;refine zW (q true h2 _ L2 _ _ t2 hS2 (DO.trans sb2) r2 r52 (e2.trans hld) (e3.trans cV) ((Cm h2 (DO.trans sb2)).perm pm) ?_ λe he=>NB e (pm.mem_iff.mp he));have h6:=pm.length_eq;simp at h6;lia
   ·rw[htf,zA hfull];simp only[tP,Bool.false_eq_true,if_false];exact zW (q true h1 _ L1 _ _ t1 Ew DO r' (by unfold pw;lia) hld cV (Cm h1 DO) (by lia) NB)
  split
  ·refine zZ (Yv (s:={ s with toks:=s.toks+(kx.length+1) }) hx ?_);simp only[if_true];exact body
  ·refine zZ (zW ?_);simp only[if_true];exact body
end
end My
namespace My
open PySem PySem.Spec PySem.W
open Tb
section
variable {prog:Program}{w:World}{A:Around}{E:Value->Shared->Prop}{s:Shared}
abbrev byT(w:World):Bool:=w.params.followText "set-order"
abbrev xp(w:World):Obj:=yy #[] 0 (.fresh 0 0 (!byT w))
theorem Qy(a:Value){Q₁:Value->Shared->Prop}(h:Q₁ (.ref s.heap.objs.size) { s with heap:=s.heap.push (xp w) }):
  codeAny (model prog w) A (.call (.builtin "set.__new__") ⟨[.type "set",a],[]⟩) (wants Q₁ E) s:=by
 refine codeAny_of_tree (show wpAny _ A.in1 (do checkBuiltinCall "set.__new__" ⟨[.type "set",a],[]⟩;again (.builtin "set.__new__" ⟨[.type "set",a],[]⟩)) _ _ s from ?_);refine zZ (wpAny_of_eq (F.newCall_set_1 a) (zW ⟨tD F.plain_set_new _,?_⟩));refine uU F.entry_set_new (by
  rw[vO F.plain_set_new _];unfold Builtin.«set.__new__» Builtin.Frozenset.newClass;have rY:=sub_set_self;obtain⟨hp,g,d,tk,os⟩:=s;dsimp only
  wp_walk
  refine vG (zW ?_);dsimp only;simp only[newObj];exact zZ (wpAny_alloc (zW (zW h))))
theorem Uh{I S:Addr}{fp wr:List Addr}{n:Nat}{P:Nat->Value->Prop}{St:Nat->Heap->Prop}(W:Walks prog w A.in1 I fp wr n P St)(hSf:S∉fp)(J:Nat->Heap->Prop)(hJ:∀i h h',J i h->(∀b o,b∉wr->h.get? b=some o->h'.get? b=some o)->J i h')
  (BW:∀i v (s':Shared) (Q:Bool->Shared->Prop) (E':Value->Shared->Prop),i<n->P i v->J i s'.heap->(∀b h' tk,Heap.SameBut S s'.heap h'->J (i+1) h'->Q b { s' with heap:=h',toks:=tk })->wpAny (model prog w) A.in1 (setAdd S v) Q E' s')
  {R:Result->Shared->Prop} (h₀:Heap) (hR:∀(s':Shared) h' tk,J n h'->(∀b o,b≠S->b∉wr->h₀.get? b=some o->h'.get? b=some o)->s'={ s with heap:=h',toks:=tk }->R (.ok (.ret .none)) s') :
  ∀(k i:Nat)(h:Heap)(tk:Nat),n-i=k->i<=n->St i h->J i h->(∀b o,b≠S->b∉wr->h₀.get? b=some o->h.get? b=some o)->codeAny (model prog w) A (.builtin "set.update.loop" ⟨[.ref S,.ref I],[]⟩) R { s with heap:=h,toks:=tk }:=by
 intro k
 induction k with
 |zero =>
  intro i h tk hk hi st j keep;have e:i=n:=by lia
  subst e;refine uU PyProof.Rows.F.entry_set_update_loop ?_;rw[vO wE _];refine(show wpAny _ A.in1 (pyNext (.ref I) >>= _) _ _ _ from zZ (W.done { s with heap:=h,toks:=tk } _ _ st λh' tk' iQ=>?_));exact(show wpAny _ A.in1 (ret Value.none) _ _ _ from zW (hR _ h' tk' (hJ _ _ _ j iQ) (λb o h1 h2 h3=>iQ b o h2 (keep b o h1 h2 h3)) rfl))
 |succ k ih =>
  intro i h tk hk hi st j keep;have bE:i<n:=by lia
  refine uU PyProof.Rows.F.entry_set_update_loop ?_;rw[vO wE _];refine(show wpAny _ A.in1 (pyNext (.ref I) >>= _) _ _ _ from zZ (W.item i { s with heap:=h,toks:=tk } _ _ bE st λv h' tk' hP kE iQ=>?_));refine(show wpAny _ A.in1 (holding [v] (setAdd S v) >>= _) _ _ _ from zZ (xS (BW i v { s with heap:=h',toks:=tk' } _ _ bE hP (hJ _ _ _ j iQ) λb FU tk'' sb j'=>?_)));refine zW ⟨tD wE _,ih (i+1) FU tk'' (by lia) bE ?_ j' λb o h1 h2 h3=>?_⟩
  ·exact W.frame _ _ _ kE λb hb o e=>(sb.2 b λz=>hSf (z▸hb)).trans e
  ·exact(sb.2 b h1).trans (iQ b o h2 (keep b o h1 h2 h3))
set_option maxHeartbeats 3200000 in
theorem lz{T:String}{l:Addr}{items:Array Value}{Q:Value->Shared->Prop}(n1:isSubtype (.type T) (.type "set")=pure false)(n2:isSubtype (.type T) (.type "frozenset")=pure false)(n3:(Value.type T==Value.type "dict")=false)(hh:A.handled=none)(ol:Obj)(BO:s.heap.get? l=some ol)(CT:ol.cls = .type T)
  (sO:∀(A':Around)(s':Shared)(E':Value->Shared->Prop)(Q':Value->Shared->Prop),A'.handled=none->s'.heap.get? l=some ol->(∀(oI:Obj)(St:Nat->Heap->Prop),(∀A'':Around,A''.handled=none->Walks prog w A'' s'.heap.objs.size [s'.heap.objs.size,l] [s'.heap.objs.size] items.size (λi v=>items[i]?=some v) St)->St 0 (s'.heap.push oI)->Q' (.ref s'.heap.objs.size) { s' with heap:=s'.heap.push oI })->wpAny (model prog w) A' (pyIter (.ref l)) Q' E' s') (J:Nat->Heap->Prop) (hJ:∀i h h',J i h->(∀b o,b≠s.heap.objs.size+1->h.get? b=some o->h'.get? b=some o)->J i h')
  (j0:J 0 (s.heap.push (xp w)))
  (BW:∀i v (A':Around) (s':Shared) (Q:Bool->Shared->Prop) (E':Value->Shared->Prop),A'.units<=A.units+8->items[i]?=some v->J i s'.heap->(∀b h' tk,Heap.SameBut s.heap.objs.size s'.heap h'->J (i+1) h'->Q b { s' with heap:=h',toks:=tk })->wpAny (model prog w) A' (setAdd s.heap.objs.size v) Q E' s')
  (h:∀(h':Heap)(tk:Nat),J items.size h'->(∀b o,s.heap.get? b=some o->h'.get? b=some o)->Q (.ref s.heap.objs.size) { s with heap:=h',toks:=tk }) :
  wpAny (model prog w) A (call (.type "set") [.ref l]) Q E s:=by
 obtain⟨c,tl,hmro⟩:=wV.mro;have hmade:=wV.made;have rY:=wV.sub;refine uO (codeAny_of_tree (show wpAny _ _ (callAny (.type "set") _) _ _ _ from zW ⟨vB _ (by decide +kernel),uU F.entry_type_call ?_⟩));rw[Around.under_plain (weight_type_call_type "set" [.ref l] []) rfl];have t1:=wV.notType;have t2:=wV.canCreate;have t3:=F.typeCall_set_1 (.ref l)
 repeat any_goals first|assumption|wp_step
 refine wA (Qy (.ref l) (E:=E) (Q₁:=λobj s₁=>obj = .ref s.heap.objs.size/\s₁={ s with heap:=s.heap.push (xp w) }) ⟨rfl,rfl⟩) λr s₁ hr=>?_;cases r with
 |error e=>exact hr
 |ok fl =>
  cases fl with
  |ret obj =>
   obtain⟨rfl,rfl⟩:=hr;have hS:(s.heap.push (xp w)).get? s.heap.objs.size=some (xp w):=zR _ rfl;have hT:Shared.TypeIs { s with heap:=s.heap.push (xp w) } (.ref s.heap.objs.size) "set":=⟨_,hS,rfl⟩
   have i1:=wV.init.lookup;have i2:=wV.init.bind (.ref s.heap.objs.size)
   repeat any_goals first|assumption|wp_step
   refine wA (uP (R:=wants (λr s₂=>r = .none/\∃h' tk,s₂={ s with heap:=h',toks:=tk }/\J items.size h'/\∀b o,s.heap.get? b=some o->h'.get? b=some o) E) wV.init.plain F.entry_set_init (check_set_init_1 hT ?_)) λr₂ s₂ hr₂=>?_
   ·obtain⟨ocls,JM,JN,DQ⟩:=ol;simp only at CT;subst CT;have rZ:(s.heap.push (xp w)).get? l=some { cls:=.type T,dict:=JM,data:=JN,slots:=DQ }:=zY _ BO;unfold Builtin.«set.__init__» noKeywords Builtin.Frozenset.updateFrom;generalize hPI:pyIter=PI
    wp_walk
    subst hPI;refine sO _ _ _ _ (by simp[hh]) rZ λoI St W st=>(zZ (wpAny_runValue ?_))
    have lS:l<s.heap.objs.size:=zU BO;have Fh:(s.heap.push (xp w)).objs.size=s.heap.objs.size+1:=xL _ _;have hSf:s.heap.objs.size∉[(s.heap.push (xp w)).objs.size,l]:=by
     rw[Fh];simp only[zD,tJ,or_false,not_or];exact⟨zE (xD _),wB lS⟩
    refine Uh (s:=s) (W _ (by simp[hh])) hSf J (λi h h' j k=>hJ i h h' j λb o hb e=>k b o (by rw[Fh];simpa using hb) e)
     (λi v s' Q' E' hi hv j q=>BW i v _ s' Q' E' (by simp only[Around.in1_units];lia) hv j q) s.heap ?_ (items.size-0) 0 _ s.toks (by lia) (yV _) st (hJ 0 _ _ j0 λb o _ e=>zY _ e) λb o _ _ e=>zY _ (zY _ e)
    rintro s' h' tk j keep rfl;refine(show wpAny _ _ _ _ _ _ from zW (show wpAny _ _ (ret Value.none) _ _ _ from zW ⟨rfl,h',tk,rfl,j,λb o e=>keep b o (zE (zU e)) ?_ e⟩));rw[Fh];have:=zU e;simp only[zS];exact zE (vM this)
   ·cases r₂ with
    |error e=>exact hr₂
    |ok fl₂ =>
     cases fl₂ with
     |ret r =>
      obtain⟨rfl,h',tk,rfl,j,iQ⟩:=hr₂
      repeat any_goals first|assumption|wp_step
      exact h _ _ j iQ
     |_=>exact hr₂.elim
  |_=>exact hr.elim
theorem on{l:Addr}{items:Array Value}{Q:Value->Shared->Prop}(hh:A.handled=none)(hl:s.heap.IsList l items)(J:Nat->Heap->Prop)(hJ:∀i h h',J i h->(∀b o,b≠s.heap.objs.size+1->h.get? b=some o->h'.get? b=some o)->J i h')
  (j0:J 0 (s.heap.push (xp w)))
  (BW:∀i v (A':Around) (s':Shared) (Q:Bool->Shared->Prop) (E':Value->Shared->Prop),A'.units<=A.units+8->items[i]?=some v->J i s'.heap->(∀b h' tk,Heap.SameBut s.heap.objs.size s'.heap h'->J (i+1) h'->Q b { s' with heap:=h',toks:=tk })->wpAny (model prog w) A' (setAdd s.heap.objs.size v) Q E' s')
  (h:∀(h':Heap)(tk:Nat),J items.size h'->(∀b o,s.heap.get? b=some o->h'.get? b=some o)->Q (.ref s.heap.objs.size) { s with heap:=h',toks:=tk }) :
  wpAny (model prog w) A (call (.type "set") [.ref l]) Q E s:=by
 obtain⟨ol,BO,CT,nl,A1⟩:=hl;refine lz (T:="list") F.sub_list_set F.sub_list_frozenset (by decide) hh ol BO CT (λA' s' E' Q' UG rZ k=>?_) J hJ j0 BW h;have Az:s'.heap.IsList l items:=⟨ol,rZ,CT,nl,A1⟩
 exact vN Az (k _ _ (λA'' Ez=>Walks.list Ez _ l (zE (zU rZ)) items) ⟨⟨_,zR _ rfl,rfl,rfl⟩,Az.push _⟩)
theorem kd:isSubtype (.type "tuple") (.type "set")=pure false:=by rw[isSubtype_type];kernel_rfl
theorem kc:isSubtype (.type "tuple") (.type "frozenset")=pure false:=by rw[isSubtype_type];kernel_rfl
theorem gd{l:Addr}{items:Array Value}{Q:Value->Shared->Prop}(hh:A.handled=none)(hl:s.heap.IsTuple l items)(J:Nat->Heap->Prop)(hJ:∀i h h',J i h->(∀b o,b≠s.heap.objs.size+1->h.get? b=some o->h'.get? b=some o)->J i h')
  (j0:J 0 (s.heap.push (xp w)))
  (BW:∀i v (A':Around) (s':Shared) (Q:Bool->Shared->Prop) (E':Value->Shared->Prop),A'.units<=A.units+8->items[i]?=some v->J i s'.heap->(∀b h' tk,Heap.SameBut s.heap.objs.size s'.heap h'->J (i+1) h'->Q b { s' with heap:=h',toks:=tk })->wpAny (model prog w) A' (setAdd s.heap.objs.size v) Q E' s')
  (h:∀(h':Heap)(tk:Nat),J items.size h'->(∀b o,s.heap.get? b=some o->h'.get? b=some o)->Q (.ref s.heap.objs.size) { s with heap:=h',toks:=tk }) :
  wpAny (model prog w) A (call (.type "set") [.ref l]) Q E s:=by
 obtain⟨ol,BO,CT,nl,A1⟩:=hl;refine lz (T:="tuple") kd kc (by decide) hh ol BO CT (λA' s' E' Q' UG rZ k=>?_) J hJ j0 BW h;have Az:s'.heap.IsTuple l items:=⟨ol,rZ,CT,nl,A1⟩
 exact wK Az (k _ _ (λA'' Ez=>Walks.tuple Ez _ l (zE (zU rZ)) items) ⟨⟨_,zR _ rfl,rfl,rfl⟩,Az.push _⟩)
theorem Nw{l:Addr}{items:Array Value}{Q:Value->Shared->Prop}(hh:A.handled=none)(hl:s.heap.IsList l items\/s.heap.IsTuple l items)(J:Nat->Heap->Prop)(hJ:∀i h h',J i h->(∀b o,b≠s.heap.objs.size+1->h.get? b=some o->h'.get? b=some o)->J i h')
  (j0:J 0 (s.heap.push (xp w)))
  (BW:∀i v (A':Around) (s':Shared) (Q:Bool->Shared->Prop) (E':Value->Shared->Prop),A'.units<=A.units+8->items[i]?=some v->J i s'.heap->(∀b h' tk,Heap.SameBut s.heap.objs.size s'.heap h'->J (i+1) h'->Q b { s' with heap:=h',toks:=tk })->wpAny (model prog w) A' (setAdd s.heap.objs.size v) Q E' s')
  (h:∀(h':Heap)(tk:Nat),J items.size h'->(∀b o,s.heap.get? b=some o->h'.get? b=some o)->Q (.ref s.heap.objs.size) { s with heap:=h',toks:=tk }) :
  wpAny (model prog w) A (call (.type "set") [.ref l]) Q E s:=by
 rcases hl with hl|hl
 ·exact on hh hl J hJ j0 BW h
 ·exact gd hh hl J hJ j0 BW h
end
end My
namespace My
open PySem PySem.Spec PySem.W
open Tb
theorem si_next:Slot "set_iterator" "__next__" "set_iterator.__next__" :=
 Slot.of (n:="__next__") (owner:="set_iterator") (by rw[typeLookup_type,builtinLookup_eq_fast];kernel_rfl)
  (by decide +kernel) (by decide +kernel) (by decide +kernel) (by first|exact Or.inl (by decide +kernel)|exact Or.inr (by decide +kernel)) (by rw[isSubtype_type];kernel_rfl)
theorem c7:entryFor table "set_iterator.__next__"=some Builtin.«set_iterator.__next__»:=entryFor_of_tree (by kernel_rfl)
theorem c8:Manifest.owners.lookup (String.ofList "rotareti_tes".toList.reverse)=some Manifest.sig_set_iterator:=by kernel_rfl
theorem Ye(a:Value):argsOk "set_iterator.__next__" ⟨[a],[]⟩:=by
 unfold argsOk;rw[signature?_of (id:="set_iterator.__next__") (n:="__txen__".toList) (o:="rotareti_tes".toList) (by kernel_rfl) c8]
 kernel_rfl
theorem lx:entryFor table "set.__iter__"=some Builtin.«frozenset.__iter__»:=entryFor_alias (id':="frozenset.__iter__") (by kernel_rfl) rfl (by decide +kernel) (by kernel_rfl)
section
variable {prog:Program}{w:World}{A:Around}{E:Value->Shared->Prop}{s:Shared}
abbrev vz(first:Value)(i:Nat)(S:Addr)(n ep:Nat):Obj:={ cls:=.type "set_iterator",dict:=none,data:=.fields #[first,.int i 0,.ref S,.int n 0,.int ep 0],slots:=#[] }
theorem Wg{S:Addr}{es:Array (Int×Value)}{ep:Nat}{t:SetTable}{slot given:Nat}{Q:Option (Value×Nat)->Shared->Prop}(hS:s.heap.get? S=some (yy es ep t))(hf:t.fits es.size=true)(hb:byT w=true)
  (h:Q (((pickOrder (w.params.setOrder S ep) es)[given]?).map λe=>(e.2,slot)) s):wpAny (model prog w) A (setNext S slot given ep) Q E s:=by
 unfold setNext;refine zZ (xK hS rfl hf ?_);unfold setsByText;refine zZ (zZ (vG (zW ?_)));show wpAny _ _ (if byT w=true then _ else _) _ _ _;rw[zH hb];dsimp only;rw[zK (by simp)];unfold setWalk setsByText;refine zZ (zZ (xK hS rfl hf ?_));refine zZ (zZ (vG (zW ?_)));show wpAny _ _ (if byT w=true then _ else _) _ _ _;rw[zH hb];refine zZ (vG (zW (zW h)))
theorem Zf{S:Addr}{es:Array (Int×Value)}{ep:Nat}{t:SetTable}{slot given:Nat}{Q:Option (Value×Nat)->Shared->Prop}(hS:s.heap.get? S=some (yy es ep t))(hf:t.fits es.size=true)(hb:byT w=false)(hd:(!t.plain&&decide (es.size>1))=false)(hl:t.led=true)
  (h:Q (match es[SetTable.below t.place slot]?,t.place[SetTable.below t.place slot]? with|some (_,x),some j=>some (x,j+1)|_,_=>none) s):wpAny (model prog w) A (setNext S slot given ep) Q E s:=by
 unfold setNext;refine zZ (xK hS rfl hf ?_);unfold setsByText;refine zZ (zZ (vG (zW ?_)));show wpAny _ _ (if byT w=true then _ else _) _ _ _;rw[zK (by rw[hb];exact zJ)];show wpAny _ _ (if(!t.plain&&decide (es.size>1))=true then _ else _) _ _ _;rw[hd,zK zJ];refine zZ (show wpAny _ _ (if(!t.led&&!es.isEmpty)=true then _ else pure ()) _ _ _ from ?_);rw[hl,zK (by simp)];refine zW (zW h)
theorem Ze{S:Addr}{es:Array (Int×Value)}{ep:Nat}{t:SetTable}{place:Nat}{x:Int×Value}{Q:Value->Shared->Prop}(hS:s.heap.get? S=some (yy es ep t))(hf:t.fits es.size=true)(hx:es[place]?=some x)(h:Q x.2 s):
  wpAny (model prog w) A (setNextDrawn S place ep) Q E s:=by
 unfold setNextDrawn;refine zZ (xK hS rfl hf ?_);dsimp only;rw[zK (by simp),hx];exact zW h
theorem Yl{I:Addr}{h1:Heap}{Q:Option Value->Shared->Prop}(hh:A.handled=none)(hQ:∀h',(∀b o,h1.get? b=some o->h'.get? b=some o)->Q none { s with heap:=h' }){Q':PySem.Fin->Shared->Prop}:
  wpAny (model prog w) A.in1 (do raiseNew (<-newExc (.type "StopIteration") []):Sem PySem.Fin) Q' (λe s'=>wpAny (model prog w) A (do if <-isInstance e (.type "StopIteration")then pure none else throw e) Q E s') { s with heap:=h1 }:=by
 refine zZ ?_;simp only[newExc,newTuple];refine zZ (yB ?_ (by size_fits));refine zZ (m:=firstArgMember _ _) (wpAny_of_eq (a:=Value.none) (by first|rfl|(simp only[firstArgMember];rfl)) (yB ?_ (by size_fits)));simp only[raiseNew];refine zZ (wpAny_handled ?_);rw[show A.in1.handled=none from hh];refine zZ (zW (wpAny_throw ?_));refine zZ (wpAny_isInstance (b:=true) (T:="StopIteration") ⟨_,zR _ rfl,rfl⟩ isSubtype_stop ?_);exact zW (hQ _ λb o e=>zY _ (zY _ e))
end
end My
namespace My
open PySem PySem.Spec PySem.W
open Tb
section
variable {prog:Program}{w:World}{A:Around}{E:Value->Shared->Prop}{s:Shared}
theorem fld{I:Addr}{vs:Array Value}{k:Nat}{x:Value}{Q:Unit->Shared->Prop}(ho:s.heap.get? I=some { cls:=.type "set_iterator",dict:=none,data:=.fields vs,slots:=#[] })(hk:k<vs.size)
  (h:∀h',h'.get? I=some { cls:=.type "set_iterator",dict:=none,data:=.fields (vs.setIfInBounds k x),slots:=#[] }->Heap.SameBut I s.heap h'->Q () { s with heap:=h' }):wpAny (model prog w) A (setField (.ref I) k x) Q E s:=vV ho hk h
theorem T3{I S:Addr}{es:Array (Int×Value)}{ep slot i:Nat}{t:SetTable}{Q:Option Value->Shared->Prop}(hh:A.handled=none)(hI:s.heap.get? I=some (vz (.int slot 0) i S es.size ep))(hS:s.heap.get? S=some (yy es ep t))(hf:t.fits es.size=true)
  {r:Option (Value×Nat)} (hn:∀(A':Around)(E':Value->Shared->Prop)(Q':Option (Value×Nat)->Shared->Prop),Q' r s->wpAny (model prog w) A' (setNext S slot i ep) Q' E' s)
  (q1:∀x nx h',r=some (x,nx)->h'.get? I=some (vz (.int nx 0) (i+1) S es.size ep)->Heap.SameBut I s.heap h'->Q (some x) { s with heap:=h' })
  (q2:∀h',r=none->(∀b o,b≠I->s.heap.get? b=some o->h'.get? b=some o)->Q none { s with heap:=h' }):wpAny (model prog w) A (pyNext (.ref I)) Q E s:=by
 have hT:s.TypeIs (.ref I) "set_iterator":=⟨_,hI,rfl⟩
 unfold pyNext;refine zZ (wpAny_attempt (xM (name:=Str.ofString "__next__") hT si_next (xW si_next hT c7 ?_ (Ye _))));unfold Builtin.«set_iterator.__next__»;refine zZ (zW (zZ (wpAny_fieldsOf hI rfl ?_)));dsimp only;refine zZ (wpAny_setEntries_of hS rfl hf ?_);rw[zK (by simp)];simp only[xV];refine zZ (hn _ _ _ ?_);cases r with
 |some y =>
  obtain⟨x,nx⟩:=y;dsimp only;refine zZ (fld hI (by simp) λh1 e1 s1=>?_);refine zZ (fld (s:={ s with heap:=h1 }) e1 (by simp) λh2 e2 s2=>?_);exact zW ⟨_,rfl,zW (q1 x nx h2 rfl (by unfold vz;simpa[rawInt]using e2) (s1.trans s2))⟩
 |none =>
  dsimp only;refine zZ (fld hI (by simp) λh1 e1 s1=>?_);exact Yl (I:=I) hh λh' k=>q2 h' rfl λb o hb e=>k b o ((s1.2 b hb).trans e)
theorem T4{I S T:Addr}{es:Array (Int×Value)}{ep i:Nat}{t:SetTable}{ps:List Nat}{c:Nat}{Q:Option Value->Shared->Prop}(hh:A.handled=none)(hI:s.heap.get? I=some (vz (.ref T) i S es.size ep))(hS:s.heap.get? S=some (yy es ep t))(hf:t.fits es.size=true)
  (Ev:∃o,s.heap.get? T=some o/\o.data = .seq (ps.map λ(i:Nat)=>rawInt i).toArray c)
  (q1:∀p x h',ps[i]?=some p->es[p]?=some x->h'.get? I=some (vz (.ref T) (i+1) S es.size ep)->Heap.SameBut I s.heap h'->Q (some x.2) { s with heap:=h' }) (hp:∀p,ps[i]?=some p->∃x,es[p]?=some x)
  (q2:∀h',ps[i]?=none->(∀b o,b≠I->s.heap.get? b=some o->h'.get? b=some o)->Q none { s with heap:=h' }):wpAny (model prog w) A (pyNext (.ref I)) Q E s:=by
 have hT:s.TypeIs (.ref I) "set_iterator":=⟨_,hI,rfl⟩
 obtain⟨oT,eT,dT⟩:=Ev;unfold pyNext;refine zZ (wpAny_attempt (xM (name:=Str.ofString "__next__") hT si_next (xW si_next hT c7 ?_ (Ye _))));unfold Builtin.«set_iterator.__next__»;refine zZ (zW (zZ (wpAny_fieldsOf hI rfl ?_)));dsimp only;refine zZ (wpAny_setEntries_of hS rfl hf ?_);rw[zK (by simp)];simp only[xV];refine zZ (wR eT dT ?_);dsimp only;cases hpi:ps[i]? with
 |some p =>
  have e:((ps.map λ(i:Nat)=>rawInt i).toArray)[i]?=some (rawInt p):=by simp[hpi]
  rw[e];obtain⟨x,hx⟩:=hp p hpi;show wpAny _ _ (setNextDrawn S (Int.toNat (p:Int)) ep >>= _) _ _ _;rw[xV];refine zZ (Ze hS hf hx ?_);refine zZ (fld hI (by simp) λh1 e1 s1=>?_);exact zW ⟨_,rfl,zW (q1 p x h1 hpi hx (by unfold vz;simpa[rawInt]using e1) s1)⟩
 |none =>
  have e:((ps.map λ(i:Nat)=>rawInt i).toArray)[i]?=none:=by simpa using hpi
  rw[e];dsimp only;refine zZ (fld hI (by simp) λh1 e1 s1=>?_);refine zZ (fld (s:={ s with heap:=h1 }) e1 (by simp) λh2 e2 s2=>?_);exact Yl (I:=I) hh λh' k=>q2 h' hpi λb o hb e=>k b o ((s2.2 b hb).trans ((s1.2 b hb).trans e))
theorem Yf:Slot "set_iterator" "__iter__" "set_iterator.__iter__" :=
 Slot.of (n:="__iter__") (owner:="set_iterator") (by rw[typeLookup_type,builtinLookup_eq_fast];kernel_rfl)
  (by decide +kernel) (by decide +kernel) (by decide +kernel) (by first|exact Or.inl (by decide +kernel)|exact Or.inr (by decide +kernel)) (by rw[isSubtype_type];kernel_rfl)
theorem j9:entryFor table "set_iterator.__iter__"=some Builtin.«dict_keyiterator.__iter__»:=entryFor_alias (id':="dict_keyiterator.__iter__") (by kernel_rfl) rfl (by decide +kernel) (by kernel_rfl)
theorem gf(a:Value):argsOk "set_iterator.__iter__" ⟨[a],[]⟩:=by
 unfold argsOk;rw[signature?_of (id:="set_iterator.__iter__") (n:="__reti__".toList) (o:="rotareti_tes".toList) (by kernel_rfl) c8]
 kernel_rfl
theorem Yd{I:Addr}{fs:Array Value}{Q:Value->Shared->Prop}(hI:s.heap.get? I=some { cls:=.type "set_iterator",dict:=none,data:=.fields fs,slots:=#[] })(h:Q (.ref I) s):wpAny (model prog w) A (pyIter (.ref I)) Q E s:=by
 have hT:s.TypeIs (.ref I) "set_iterator":=⟨_,hI,rfl⟩
 refine wpAny_pyIter_slot hT Yf (xW Yf hT j9 ?_ (gf _));refine(show wpAny _ _ (ret (.ref I)) _ _ s from ?_);exact zW ⟨_,rfl,"set_iterator",_,hT,si_next.lookup,h⟩
end
end My
namespace My
open PySem PySem.Spec PySem.W
open Tb
theorem qv{α:Type}:∀{l:List α}{i:Nat}(hi:i<l.length),(l[i]::l.eraseIdx i).Perm l
 |a::l,0,_=>.rfl
 |a::l,i+1,hi=>by
  have oF:i<l.length:=by simpa using hi
  have ih:=qv oF;show(l[i]::a::l.eraseIdx i).Perm (a::l);exact(List.Perm.swap _ _ _).trans (ih.cons a)
theorem X7{α:Type}(next:Nat->Nat):∀(mZ k:Nat)(left:List α)(out:Array α),left.length<=mZ->(pickOrder.go next mZ k left out).toList.Perm (out.toList++left)
 |0,k,left,out,h=>by
  have:left=[]:=vH.mp (by lia);subst this;unfold pickOrder.go;simp
 |f+1,k,left,out,h=>by
  unfold pickOrder.go;cases hc:left[next k % left.length]? with
  |none =>
   dsimp only;have:left=[]:=by
    rcases left with _|⟨a,l⟩
    ·rfl
    ·exfalso;rw[List.getElem?_eq_none_iff]at hc;have:=Nat.mod_lt (next k) (show 0<(a::l).length by simp);lia
   subst this;simp
  |some x =>
   dsimp only;obtain⟨hi,e⟩:=zV.mp hc;have ih:=X7 next f (k+1) (left.eraseIdx (next k % left.length)) (out.push x) (by rw[List.length_eraseIdx_of_lt hi];lia)
   refine ih.trans ?_;rw[Array.toList_push,yQ];refine List.Perm.append_left _ ?_;have:=qv hi;rw[e]at this;exact this
theorem Wt{α:Type}(next:Nat->Nat)(xs:Array α):(pickOrder next xs).toList.Perm xs.toList:=by
 have:=X7 next xs.size 0 xs.toList #[] (by simp)
 simpa[pickOrder]using this
section
variable {prog:Program}{w:World}{A:Around}{E:Value->Shared->Prop}{s:Shared}
theorem wp_choose'{AN:Source}{n:Nat}{Q:Nat->Shared->Prop}(hn:n≠0)(h:∀i d,i<n->Q i { s with drawn:=d }):wpAny (model prog w) A (choose AN n) Q E s:=fun Γ p hΓ=>by
 unfold choose;rw[Sem.wp_choose];exact⟨hn,h _ _ (Nat.mod_lt _ (Nat.pos_of_ne_zero hn))⟩
theorem qr{α:Type}:∀(n:Nat)(xs:List α)(s:Shared)(Q:List α->Shared->Prop),xs.length<=n->(∀ys d,ys.Perm xs->Q ys { s with drawn:=d })->wpAny (model prog w) A (drawOrder n xs) Q E s
 |0,xs,s,Q,hn,h=>by
  have:xs=[]:=vH.mp (by lia);subst this;unfold drawOrder;exact zW (h [] s.drawn .rfl)
 |n+1,[],s,Q,_,h=>by
  unfold drawOrder;exact zW (h [] s.drawn .rfl)
 |n+1,x::xs,s,Q,hn,h=>by
  unfold drawOrder;refine zZ (wp_choose' (by simp) λi d hi=>?_);have e:(x::xs)[i]?=some (x::xs)[i]:=yE hi;rw[e];dsimp only;refine zZ (qr n ((x::xs).eraseIdx i) { s with drawn:=d } _ (by rw[List.length_eraseIdx_of_lt hi];simp at hn ⊢;lia) λys d' p=>?_);exact zW (h _ d' ((p.cons _).trans (qv hi)))
theorem U8{I S:Addr}{es:Array (Int×Value)}{ep:Nat}{t:SetTable}(hh:A.handled=none)(hf:t.fits es.size=true)(gQ:I≠S)(vs:List Value)(aZ:vs.length=es.size)(sl:Nat->Nat)
  (hr:∀i (s':Shared) (A':Around) (E':Value->Shared->Prop) (Q':Option (Value×Nat)->Shared->Prop),i<=es.size->s'.heap.get? S=some (yy es ep t)->Q' ((vs[i]?).map λv=>(v,sl (i+1))) s'->wpAny (model prog w) A' (setNext S (sl i) i ep) Q' E' s') :
  Walks prog w A I [I,S] [I] es.size (λi v=>vs[i]?=some v) (λi h=>h.get? I=some (vz (.int (sl i) 0) i S es.size ep)/\h.get? S=some (yy es ep t))where
 sub:=λb hb=>by simp at hb;simp[hb]
 frame:=λi h h' st k=>⟨k I (by simp) _ st.1,k S (by simp) _ st.2⟩
 item:=λi s Q E hi st hQ=>by
  refine T3 (t:=t) hh st.1 st.2 hf (λA' E' Q' q=>hr i s A' E' Q' (by lia) st.2 q) (λx nx h' e eI sb=>?_) (λh' e=>?_)
  ·cases hv:vs[i]? with
   |none=>rw[hv]at e;cases e
   |some v =>
    rw[hv]at e;cases e;refine hQ _ h' s.toks hv ⟨eI,(sb.2 S (wY gQ)).trans st.2⟩ λb o hb e=>(sb.2 b λz=>hb (by simp[z])).trans e
  ·have:vs[i]?=some vs[i]:=yE (by lia);rw[this]at e;cases e
 done:=λs Q E st hQ=>by
  refine T3 (t:=t) hh st.1 st.2 hf (λA' E' Q' q=>hr _ s A' E' Q' (zT _) st.2 q) (λx nx h' e eI sb=>?_) (λh' e k=>?_)
  ·have:vs[es.size]?=none:=uT (by lia);rw[this]at e;cases e
  ·exact hQ h' s.toks λb o hb e=>k b o (λz=>hb (by simp[z])) e
 self:=λi s Q E st hQ=>Yd st.1 hQ
theorem U9{I S T:Addr}{es:Array (Int×Value)}{ep:Nat}{t:SetTable}{ps:List Nat}{c:Nat}(hh:A.handled=none)(hf:t.fits es.size=true)(gQ:I≠S)(hnT:I≠T)(hp:ps.Perm (List.range es.size)):
  Walks prog w A I [I,S,T] [I] es.size (λi v=>(ps.map λp=>(es.getD p (0,Value.none)).2)[i]?=some v) (λi h=>h.get? I=some (vz (.ref T) i S es.size ep)/\h.get? S=some (yy es ep t)/\∃o,h.get? T=some o/\o.data = .seq (ps.map λ(i:Nat)=>rawInt i).toArray c)where
 sub:=λb hb=>by simp at hb;simp[hb]
 frame:=λi h h' st k=>⟨k I (by simp) _ st.1,k S (by simp) _ st.2.1,let⟨o,e,d⟩:=st.2.2;⟨o,k T (by simp) _ e,d⟩⟩
 item:=λi s Q E hi st hQ=>by
  have aZ:ps.length=es.size:=by rw[hp.length_eq,tS]
  refine T4 (t:=t) hh st.1 st.2.1 hf st.2.2 (λp x h' e1 e2 eI sb=>?_) (λp e=>?_) (λh' e=>?_)
  ·refine hQ _ h' s.toks ?_ ⟨eI,(sb.2 S (wY gQ)).trans st.2.1,let⟨o,e,d⟩:=st.2.2;⟨o,(sb.2 T (wY hnT)).trans e,d⟩⟩ λb o hb e=>(sb.2 b λz=>hb (by simp[z])).trans e;have hps:p<es.size:=(yA.mp e2).1;have e3:es.getD p (0,Value.none)=x:=by
    have:=(yA.mp e2).2;simp[Array.getD,hps,this]
   show(ps.map λp=>(es.getD p (0,Value.none)).2)[i]?=some x.2;rw[yU,e1];show some (es.getD p (0,Value.none)).2=some x.2;rw[e3]
  ·have hm:=xU.mp (hp.mem_iff.mp (zN e));exact⟨es[p],by simp[hm]⟩
  ·have:ps[i]?=some ps[i]:=yE (by lia);rw[this]at e;cases e
 done:=λs Q E st hQ=>by
  have aZ:ps.length=es.size:=by rw[hp.length_eq,tS]
  have hn:ps[es.size]?=none:=uT (by lia);refine T4 (t:=t) hh st.1 st.2.1 hf st.2.2 (λp x h' e1=>by rw[hn]at e1;cases e1) (λp e=>by rw[hn]at e;cases e) (λh' e k=>?_);exact hQ h' s.toks λb o hb e=>k b o (λz=>hb (by simp[z])) e
 self:=λi s Q E st hQ=>Yd st.1 hQ
end
theorem Yu{pl:List Nat}(hr:pl.Pairwise (·<·)):SetTable.below pl.toArray 0=0:=by
 obtain⟨b1,b2,b3⟩:=ug hr 0;rcases Nat.eq_zero_or_pos (SetTable.below pl.toArray 0)with e|e
 ·exact e
 ·have:=b2 0 e;lia
theorem Ys{pl:List Nat}(hr:pl.Pairwise (·<·)){i:Nat}(hi:i<pl.length):SetTable.below pl.toArray (pl[i]+1)=i+1:=by
 obtain⟨b1,b2,b3⟩:=ug hr (pl[i]+1);have h1:i<SetTable.below pl.toArray (pl[i]+1):=by
  refine xI λhn=>?_;have:=b3 i (by lia) hi;rw[sf hi]at this;lia
 have h2:¬i+1<SetTable.below pl.toArray (pl[i]+1):=λz=>by
  have h3:=b2 (i+1) z;have h4:i+1<pl.length:=by lia
  have h5:=sg (d:=pl[i]+1) hr (show i<i+1 by lia) h4;rw[sf hi]at h5;lia
 lia
end My
namespace My
open PySem PySem.Spec PySem.W
open Tb
section
variable {prog:Program}{w:World}{A:Around}{E:Value->Shared->Prop}{s:Shared}
theorem Um(a:Addr):Builtin.Frozenset.slot0 "__iter__" ⟨[.ref a],[]⟩=pure a:=rfl
theorem dz{S:Addr}{es:Array (Int×Value)}{ep:Nat}{t:SetTable}{Q:Bool->Shared->Prop}(hS:s.heap.get? S=some (yy es ep t))(hf:t.fits es.size=true)(h:Q (!byT w&&(!t.plain&&decide (es.size>1))) s):wpAny (model prog w) A (setDrawn S) Q E s:=by
 unfold setDrawn;refine zZ (xK hS rfl hf ?_);unfold setsByText;refine zZ (zZ (vG (zW ?_)));exact zW h
theorem bb{t:SetTable}{n:Nat}(hf:t.fits n=true):t.place.size=n:=by
 unfold SetTable.fits at hf;rw[yN]at hf;exact eq_of_beq hf.1
theorem R7{S:Addr}{es:Array (Int×Value)}{ep:Nat}{t:SetTable}{Q:Value->Shared->Prop}(hS:s.heap.get? S=some (yy es ep t))(hf:t.fits es.size=true)(jH:t.led=!byT w)(Bu:t.plain=true->t.place.toList.Pairwise (·<·))(hz:es.size<=sizeLine)
  (h:∀(I:Addr)(h1:Heap)(d:Drawn)(fp:List Addr)(ws:List Value)(St:Nat->Heap->Prop),ws.Perm (es.toList.map (·.2))->(∀A':Around,A'.handled=none->Walks prog w A' I fp [I] es.size (λi v=>ws[i]?=some v) St)->St 0 h1->(∀b∈fp,b=S\/s.heap.objs.size<=b) ->
   (∀b o,s.heap.get? b=some o->h1.get? b=some o)->s.heap.objs.size<=I->Q (.ref I) { s with heap:=h1,drawn:=d }):wpAny (model prog w) A (pyIter (.ref S)) Q E s:=by
 have hT:s.TypeIs (.ref S) "set":=⟨_,hS,rfl⟩
 have bE:S<s.heap.objs.size:=zU hS;refine wpAny_pyIter_slot hT F.slot_set_iter (xW F.slot_set_iter hT lx ?_ (F.args_set_iter_1 _));unfold Builtin.«frozenset.__iter__»;refine zZ (wpAny_of_eq (Um S) ?_);unfold Builtin.Frozenset.sizeOf;refine zZ (zZ (wpAny_setEntries_of hS rfl hf (zW ?_)));refine zZ (dz hS hf ?_);have DJ:∀(ws:List Value)(sl:Nat->Nat),sl 0=0->ws.Perm (es.toList.map (·.2)) ->
   (∀i (s':Shared) (A':Around) (E':Value->Shared->Prop) (Q':Option (Value×Nat)->Shared->Prop),i<=es.size->s'.heap.get? S=some (yy es ep t)->Q' ((ws[i]?).map λv=>(v,sl (i+1))) s'->wpAny (model prog w) A' (setNext S (sl i) i ep) Q' E' s') ->
   wpAny (model prog w) A.in1 (do let first <-pure (rawInt 0);ret (<-newFields "set_iterator" [first,rawInt 0,.ref S,rawInt es.size,rawInt (<-setEpoch S)]))
    (λbZ s'=>∃r,bZ = .done (.ret r)/\∃T' r',s'.TypeIs r T'/\typeLookup (.type T') "__next__"=pure (some r')/\Q r s') E s:=by
  intro ws sl h0 hp hr;have hl:ws.length=es.size:=by rw[hp.length_eq];simp
  refine zZ (zW (zZ (wpAny_setEpoch_of hS rfl hf (zZ ?_))));unfold newFields;refine yB (zW ⟨_,rfl,"set_iterator",_,⟨_,zR _ rfl,rfl⟩,si_next.lookup,?_⟩);refine h _ _ s.drawn [s.heap.objs.size,S] ws _ hp (λA' UG=>U8 UG hf (wB bE) ws hl sl hr) ⟨?_,zY _ hS⟩ (λb hb=>?_) (λb o e=>zY _ e) (zT _)
  ·rw[h0];exact zR _ rfl
  ·rcases zD.mp hb with rfl|hb
   ·exact .inr (zT _)
   ·exact .inl (zS.mp hb)
 cases hb:byT w with
 |true =>
  simp only[Bool.not_true,Bool.false_and,Bool.false_eq_true,if_false];refine DJ ((pickOrder (w.params.setOrder S ep) es).toList.map (·.2)) (λ_=>0) rfl ((Wt _ es).map _) λi s' A' E' Q' hi Ex q=>Wg Ex hf hb ?_;rw[yU,Array.getElem?_toList,Option.map_map]at q;exact q
 |false =>
  have Bz:t.led=true:=by rw[jH,hb];rfl
  cases hd:(!t.plain&&decide (es.size>1))with
  |true =>
   simp only[Bool.not_false,Bool.and_self,if_true];refine zZ (qr es.size (List.range es.size) s _ (by simp) λps d hp=>?_);have cV:ps.length=es.size:=by rw[hp.length_eq,tS]
   refine zZ (wpAny_newTuple ?_ (by rw[zX,cV];exact hz));refine zZ (wpAny_setEpoch_of (s:={ s with heap:=_,drawn:=d }) (zY _ hS) rfl hf (zZ ?_));unfold newFields;refine yB (zW ⟨_,rfl,"set_iterator",_,⟨_,zR _ rfl,rfl⟩,si_next.lookup,?_⟩);have Fh:(s.heap.push (PyProof.Rows.seqObj "tuple" (ps.map λ(i:Nat)=>rawInt i).toArray 0)).objs.size=s.heap.objs.size+1:=xL _ _;refine h _ _ d [s.heap.objs.size+1,S,s.heap.objs.size] (ps.map λp=>(es.getD p (0,Value.none)).2) (λi h=>h.get? (s.heap.objs.size+1)=some (vz (.ref s.heap.objs.size) i S es.size ep)/\h.get? S=some (yy es ep t)/\∃o,h.get? s.heap.objs.size=some o/\o.data = .seq (ps.map λ(i:Nat)=>rawInt i).toArray 0) ?_ (λA' UG=>?_) ⟨?_,?_,?_⟩ (λb eZ=>?_) (λb o e=>zY _ (zY _ e)) (by rw[Fh];exact wG _)
   ·have h1:=hp.map λp=>(es.getD p (0,Value.none)).2;have h2:(List.range es.size).map (λp=>(es.getD p (0,Value.none)).2)=es.toList.map (·.2):=by
     have:=xT (List.map (·.2)) (iz es);rw[xO]at this;exact this
    rw[h2]at h1;exact h1
   ·have e1:(s.heap.push (PyProof.Rows.seqObj "tuple" (ps.map λ(i:Nat)=>rawInt i).toArray 0)).objs.size=s.heap.objs.size+1:=Fh;have:=U9 (A:=A') (I:=s.heap.objs.size+1) (S:=S) (T:=s.heap.objs.size) (ep:=ep) (c:=0) (prog:=prog) (w:=w) UG hf (wB (vM bE)) (wB (xD _)) hp;show Walks prog w A' (s.heap.push (PyProof.Rows.seqObj "tuple" (ps.map λ(i:Nat)=>rawInt i).toArray 0)).objs.size _ [(s.heap.push (PyProof.Rows.seqObj "tuple" (ps.map λ(i:Nat)=>rawInt i).toArray 0)).objs.size] _ _ _;rw[e1];exact this
   ·have e2:=zR (s.heap.push (PyProof.Rows.seqObj "tuple" (ps.map λ(i:Nat)=>rawInt i).toArray 0)) (o:=vz (.ref s.heap.objs.size) 0 S es.size ep) rfl;rw[Fh]at e2;exact e2
   ·exact zY _ (zY _ hS)
   ·exact⟨_,zY _ (zR _ rfl),rfl⟩
   ·rcases zD.mp eZ with rfl|eZ
    ·exact .inr (wG _)
    ·rcases zD.mp eZ with rfl|eZ
     ·exact .inl rfl
     ·rw[zS.mp eZ];exact .inr (zT _)
  |false =>
   simp only[tP,Bool.false_eq_true,if_false];have hps:=bb hf;have up:t.place.toList.Pairwise (·<·):=by
    cases cV:t.plain with
    |true=>exact Bu cV
    |false =>
     rw[cV]at hd;have Ei:t.place.toList.length<=1:=by
      rw[xQ,hps];simpa using hd
     match t.place.toList,Ei with
     |[],_=>exact .nil
     |[a],_=>exact List.pairwise_singleton _ _
   refine DJ (es.toList.map (·.2)) (λi=>if i=0 then 0 else t.place.getD (i-1) 0+1) rfl .rfl λi s' A' E' Q' hi Ex q=>Zf Ex hf hb hd Bz ?_;have hb2:SetTable.below t.place (if i=0 then 0 else t.place.getD (i-1) 0+1)=i:=by
    have e0:t.place=t.place.toList.toArray:=by simp
    by_cases hi0:i=0
    ·subst hi0;rw[zH rfl,e0];exact Yu up
    ·rw[zK hi0];have hi1:i-1<t.place.toList.length:=by rw[xQ,hps];lia
     have:=Ys up hi1;have e1:t.place.toList[i-1]=t.place.getD (i-1) 0:=by
      have:i-1<t.place.size:=by lia
      simp[Array.getD,this]
     rw[e1]at this;have e2:t.place.toList.toArray=t.place:=by simp
     rw[e2]at this;rw[this];lia
   show Q' (match es[SetTable.below t.place (if i=0 then 0 else t.place.getD (i-1) 0+1)]?,t.place[SetTable.below t.place (if i=0 then 0 else t.place.getD (i-1) 0+1)]? with|some (_,x),some j=>some (x,j+1)|_,_=>none) s';rw[hb2]
   by_cases hlt':i<es.size
   ·have e1:es[i]?=some es[i]:=by simp[hlt']
    have rQ:i<t.place.size:=by lia
    have e2:t.place[i]?=some t.place[i]:=by simp[rQ]
    rw[e1,e2];have e3:(es.toList.map (·.2))[i]?=some es[i].2:=by simp[hlt']
    rw[e3]at q;have e4:t.place.getD i 0=t.place[i]:=by simp[Array.getD,rQ]
    have q':Q' (some (es[i].2,t.place.getD i 0+1)) s':=q;rw[e4]at q';exact q'
   ·have e1:es[i]?=none:=by simp;lia
    rw[e1];have e3:(es.toList.map (·.2))[i]?=none:=by simp;lia
    rw[e3]at q;exact q
end
end My
namespace My
open PySem PySem.Spec PySem.W PySem.Calls
open PyProof.Rows hiding St
open Tb
section
variable {prog:Program}{w:World}{A:Around}{E:Value->Shared->Prop}{s:Shared}
theorem Ui{S:Addr}{Q:Bool->Shared->Prop}(hT:s.TypeIs (.ref S) "set")(h:Q false s):wpAny (model prog w) A (Builtin.List.listLengthHint (.ref S)) Q E s:=by
 unfold Builtin.List.listLengthHint;refine zZ (wpAny_specialOf hT F.slot_set_len.lookup ?_);generalize hid:("set.__len__":String)=id0
 wp_delta
 rw[show splitId id0=some ("set","__len__")from by subst hid;decide +kernel];subst hid;refine zZ (wpAny_isInstance (b:=true) (T:="set") hT sub_set_self (wpAny_ite_split (λz=>absurd z (by decide)) λ_=>?_));exact wpAny_ite_split (λ_=>zZ (uI hT (zW h))) λz=>absurd (by decide +kernel) z
theorem Z1{S l:Addr}{c:Nat}{es:Array (Int×Value)}{ep:Nat}{t:SetTable}{R:Result->Shared->Prop}{res:Value}(hh:A.handled=none)(hS:s.heap.get? S=some (yy es ep t))(hf:t.fits es.size=true)(jH:t.led=!byT w)(Bu:t.plain=true->t.place.toList.Pairwise (·<·))(hz:es.size<=sizeLine)
  (hl:s.heap.get? l=some { cls:=.type "list",data:=.seq #[] c }) (hR:∀h' d tk (ws:List Value) c',ws.Perm (es.toList.map (·.2))->(∀b o,b≠l->s.heap.get? b=some o->h'.get? b=some o)->h'.get? l=some { cls:=.type "list",dict:=none,data:=.seq ws.toArray c',slots:=#[] }->R (.ok (.ret res)) { s with heap:=h',drawn:=d,toks:=tk }) :
  wpAny (model prog w) A.in1 (Builtin.List.listExtendWith (.ref l) (.ref S) res) (λbZ s'=>match bZ with|.done f=>R (.ok f) s'|.again c'=>c'.quiet=true/\codeAny (model prog w) A c' R s') (λe s'=>R (.error e) s') s:=by
 have hT:s.TypeIs (.ref S) "set":=⟨_,hS,rfl⟩
 have hlS:l≠S:=by
  rintro rfl;have:=xT Obj.cls (yX (hS.symm.trans hl));simp at this
 unfold Builtin.List.listExtendWith;refine zZ (uI hT ?_);have n1:Builtin.List.listSameRef (.ref l) (.ref S)=false:=by simp[Builtin.List.listSameRef,hlS]
 have n2:(Value.type "set"==Value.type "list")=false:=by decide
 have n3:(Value.type "set"==Value.type "tuple")=false:=by decide
 simp only[n1,n2,n3,Bool.or_false,Bool.false_eq_true,if_false];refine zZ (R7 hS hf jH Bu hz λI h1 d fp ws St hp W st hfp keep hI=>?_);have bE:l<s.heap.objs.size:=zU hl;have hlf:l∉fp:=λz=>by
  rcases hfp l z with e|e
  ·exact hlS e
  ·exact absurd bE (uN.mpr e)
 have key:∀(h:Heap)(c₁:Nat),St 0 h->(∀b o,b≠l->s.heap.get? b=some o->h.get? b=some o)->h.get? l=some { cls:=.type "list",data:=.seq #[] c₁ } ->
   codeAny (model prog w) A (.builtin "list.extend.loop" ⟨[.ref l,.ref I,res],[]⟩) R { s with heap:=h,drawn:=d }:=by
  intro h c₁ kE k' hl';refine codeAny_extend_loopS (W A.in1 hh).toS hz l hlf res es.size 0 { s with heap:=h,drawn:=d } #[] c₁ rfl (yV _) kE hl' (ItemsOf.nil _) λs' bA c' hm he Eu=>?_;rw[Moved.eq_with hm];have CH:bA=ws.toArray:=by
   apply wJ.mp;have rD:ws.length=es.size:=by rw[hp.length_eq];simp
   apply List.ext_getElem?;intro i
   by_cases hi:i<es.size
   ·have hsz:i<bA.size:=by rw[Eu.1];exact hi
    have h3:bA[i]?=some bA[i]:=uH hsz;have h4:=Eu.2 i _ h3;rw[Array.getElem?_toList,h3];exact h4.symm
   ·rw[uT (by rw[xQ,Eu.1];lia)];exact(uT (by show ws.length<=i;lia)).symm
  rw[CH]at he;refine hR s'.heap d s'.toks ws c' hp (λb o hb e=>hm.heap b o (λz=>?_) (k' b o hb e)) he;rcases zD.mp z with e'|z
  ·exact hb e'
  ·rw[zS.mp z]at e;exact absurd (zU e) (uN.mpr hI)
 have hT1:Shared.TypeIs { s with heap:=h1,drawn:=d } (.ref S) "set":=⟨_,keep _ _ hS,rfl⟩
 refine zZ (xS (Ui hT1 ?_));have Az:=keep _ _ hl;refine wpAny_ite_split (λ_=>?_) (λ_=>zW ⟨tD F.plain_extend_loop _,key h1 c st (λb o _ e=>keep b o e) Az⟩);refine zZ (tG (zZ (show wpAny _ _ (updateSeq l (·.push .none) >>=λ_=>updateSeq l (·.pop)) _ _ _ from ?_)));refine zZ (wpAny_updateSeq Az rfl ?_);have rD:=yD (Obj.mapSeq (·.push Value.none)) Az rfl;refine wpAny_updateSeq (hz:=by seq_fits) rD rfl ?_;have hl3:=yD (Obj.mapSeq (·.pop)) rD rfl;refine zW ⟨tD F.plain_extend_loop _,key _ _ ?_ (λb o hb e=>?_) hl3⟩
 ·refine(W A.in1 hh).frame 0 _ _ st λb hb o e=>?_;have eZ:b≠l:=λz=>hlf (z▸hb);exact(yS _ _ (wY eZ)).trans ((yS _ _ (wY eZ)).trans e)
 ·exact(yS _ _ (wY hb)).trans ((yS _ _ (wY hb)).trans (keep b o e))
theorem c0{S:Addr}{es:Array (Int×Value)}{ep:Nat}{t:SetTable}{R:List Value->Shared->Prop}(hh:A.handled=none)(hS:s.heap.get? S=some (yy es ep t))(hf:t.fits es.size=true)(jH:t.led=!byT w)(Bu:t.plain=true->t.place.toList.Pairwise (·<·))(hz:es.size<=sizeLine)
  (h:∀h' d tk (ws:List Value),ws.Perm (es.toList.map (·.2))->(∀b o,s.heap.get? b=some o->h'.get? b=some o)->s.heap.objs.size<h'.objs.size->R ws { s with heap:=h',drawn:=d,toks:=tk }):wpAny (model prog w) A (collect (.ref S)) R E s:=by
 unfold collect;refine zZ (wpAny_runValue (uU entry_proto_collect' (by
  rw[vO F.plain_proto_collect _];refine(show wpAny _ A.in1 (newList [] >>=λl=>again (.builtin "list.__iadd__" ⟨[l,.ref S],[]⟩)) _ _ s from zZ (yB ?_));refine zW ⟨tD F.plain_list_iadd _,uU entry_list_iadd' ?_⟩;rw[vO F.plain_list_iadd _];refine(show wpAny _ A.in1 (Builtin.List.listExtendWith (.ref s.heap.objs.size) (.ref S) (.ref s.heap.objs.size)) _ _ _ from ?_);have hl:(s.heap.push { cls:=.type "list",data:=.seq ([]:List Value).toArray }).get? s.heap.objs.size=some { cls:=.type "list",data:=.seq #[] }:=zR _ rfl;have key:=Z1 (prog:=prog) (A:=A) (s:={ s with heap:=s.heap.push { cls:=.type "list",data:=.seq ([]:List Value).toArray } }) (res:=.ref s.heap.objs.size)
   (R:=λq s'=>∃(h':Heap)(d:Drawn)(tk:Nat)(ws:List Value)(c':Nat),q = .ok (.ret (.ref s.heap.objs.size))/\s'={ s with heap:=h',drawn:=d,toks:=tk }/\ws.Perm (es.toList.map (·.2))/\(∀b o,s.heap.get? b=some o->h'.get? b=some o)/\h'.get? s.heap.objs.size=some { cls:=.type "list",dict:=none,data:=.seq ws.toArray c',slots:=#[] })
   hh (zY _ hS) hf jH Bu hz hl λh' d tk ws c' hp k e=>⟨h',d,tk,ws,c',rfl,rfl,hp,λb o e'=>k b o (zE (zU e')) (zY _ e'),e⟩
  refine yR key (λbZ s' x=>?_) λe s' x=>?_
  ·cases bZ with
   |done f =>
    obtain⟨h',d,tk,ws,c',e,rfl,hp,k,el⟩:=x;cases e;exact(show wpAny _ A (load s.heap.objs.size >>= _) _ _ _ from zZ (wpAny_load el (zW (h h' d tk ws hp k (zU el)))))
   |again c₁ =>
    refine⟨x.1,wA x.2 λq s₂ y=>?_⟩;obtain⟨h',d,tk,ws,c',rfl,rfl,hp,k,el⟩:=y;exact(show wpAny _ A (load s.heap.objs.size >>= _) _ _ _ from zZ (wpAny_load el (zW (h h' d tk ws hp k (zU el)))))
  ·obtain⟨_,_,_,_,_,e',_⟩:=x;cases e')))
theorem mf{S:Addr}{es:Array (Int×Value)}{ep:Nat}{t:SetTable}{Q:Value->Shared->Prop}(hh:A.handled=none)(hS:s.heap.get? S=some (yy es ep t))(hf:t.fits es.size=true)(jH:t.led=!byT w)(Bu:t.plain=true->t.place.toList.Pairwise (·<·))(hz:es.size<=sizeLine)
  (h:∀D h' d tk (ws:List Value),ws.Perm (es.toList.map (·.2))->(∀b o,s.heap.get? b=some o->h'.get? b=some o)->s.heap.objs.size<=D->h'.get? D=some (seqObj "list" ws.toArray 0) ->
   wpAny (model prog w) A.in1 (call (.builtin "list.sort") [.ref D]) (λ_ s'=>Q (.ref D) s') E { s with heap:=h',drawn:=d,toks:=tk }):wpAny (model prog w) A (call (.builtin "sorted") [.ref S]) Q E s:=by
 refine call_function_entry kind_sorted plain_sorted entry_sorted (args_sorted1 _) (by
  unfold Builtin.«sorted»;refine zZ (m:=checkCount "sorted" 1 1 _) (zW (zZ (c0 (A:=A.in1) hh hS hf jH Bu hz λh' d tk ws hp k Ei=>?_)));have hl:ws.length=es.size:=by rw[hp.length_eq];simp
  refine zZ (wpAny_newList ?_ (by rw[hl];exact hz));have g:=h h'.objs.size (h'.push (seqObj "list" ws.toArray 0)) d tk ws hp (λb o e=>zY _ (k b o e)) (xP Ei) (zR _ rfl);exact zZ (xS (yR g (λ_ s' x=>zW ⟨_,rfl,x⟩) λ_ _ e=>e)))
end
end My
namespace My
open PySem PySem.Spec PySem.W PySem.Calls
open Tb
theorem j7(t:SetTable)(n:Nat):(t.orStandIn n).led=t.led:=by unfold SetTable.orStandIn SetTable.standIn;split<;>rfl
theorem Y8(t:SetTable)(es:Array (Int×Value))(h:Int)(x:Value):(layNew t es h x).2.1.led=t.led:=by
 unfold layNew;split
 ·exact j7 _ _
 ·rfl
theorem f8{t t':SetTable}{hs:Array Int}{n:Nat}{o:Array Nat}(h:t.relaid hs n=some (t',o)):t'.led=t.led/\t'.plain=t.plain:=by
 unfold SetTable.relaid SetTable.laid at h;cases hc:SetTable.layClean (SetTable.sizeAbove n-1) hs with
 |none=>rw[hc]at h;cases h
 |some ow =>
  rw[hc]at h;have h':=(Prod.mk.inj (yX h)).1;rw[<-h'];exact⟨rfl,rfl⟩
theorem f9(t:SetTable)(es:Array (Int×Value))(n:Nat):(relayAll t es n).2.1.led=t.led/\(t.plain=false->(relayAll t es n).2.1.plain=false):=by
 unfold relayAll;split
 ·rename_i t' o e;dsimp only;have:=f8 e;split
  ·exact⟨this.1,λh=>this.2.trans h⟩
  ·exact⟨rfl,λ_=>rfl⟩
 ·exact⟨rfl,λ_=>rfl⟩
section
variable {prog:Program}{w:World}{A:Around}{E:Value->Shared->Prop}{s:Shared}
structure GoodS(w:World)(Es:List (Int×Value))(D:List Str):Prop where
 in1:∀e∈Es,∃x t,x∈D/\e=(hashStr w x,.str x t)
 in2:∀x∈D,∃t,(hashStr w x,.str x t)∈Es
 one:Es.Pairwise λe e'=>∀x t t',e.2 = .str x t->e'.2≠.str x t'
theorem GoodS.perm{Es Es':List (Int×Value)}{D:List Str}(g:GoodS w Es D)(p:Es'.Perm Es):GoodS w Es' D :=
 ⟨λe he=>g.in1 e (p.mem_iff.mp he),λx hx=>let⟨t,h⟩:=g.in2 x hx;⟨t,p.mem_iff.mpr h⟩,(p.pairwise_iff (λ{a b} A2 x t t' h1 h2=>A2 x t' t h2 h1)).mpr g.one⟩
theorem GoodS.elems{Es:List (Int×Value)}{D:List Str}(g:GoodS w Es D):ElemsOf (PySem.strKind prog w) Es:=λe he=>by
 obtain⟨x,t,_,rfl⟩:=g.in1 e he;exact⟨⟨x,by show Value.isStrOf x (.str x t)=true;simp[Value.isStrOf],rfl⟩,rfl⟩
theorem add_str{S:Addr}{ep:Nat}{es:Array (Int×Value)}{t:SetTable}{D:List Str}{x:Str}{tok:Tok}(hS:s.heap.get? S=some (yy es ep t))(hf:t.fits es.size=true)(g:GoodS w es.toList D)(hb:es.size+1<scanBound)(cV:es.size≠0->t.plain=false){Q:Bool->Shared->Prop}
  (q:∀(b:Bool)(h':Heap)(tk:Nat)(fC:Array (Int×Value))(oS:Nat)(t':SetTable),h'.get? S=some (yy fC oS t')->Heap.SameBut S s.heap h'->t'.fits fC.size=true->t'.led=t.led->(fC.size≠0->t'.plain=false)->GoodS w fC.toList (D++[x])->fC.size<=es.size+1->Q b { s with heap:=h',toks:=tk }) :
  wpAny (model prog w) A (setAdd S (.str x tok)) Q E s:=by
 have Cd:(PySem.strKind prog w).is x (.str x tok)=true:=by show Value.isStrOf x (.str x tok)=true;simp[Value.isStrOf]
 unfold setAdd;refine xS (zZ ((PySem.strKind prog w).pyHash Cd ?_));have Ew:({ s with toks:=s.toks+1 }:Shared).heap.get? S=some (yy es ep t):=hS;unfold setAddHashed setAddHashedIn;refine xS (zZ (xK Ew rfl hf ?_));dsimp only;rw[byScan_of (knd:=PySem.strKind prog w) rfl (by lia) g.elems];simp only[if_true];unfold setAddByScan;refine zZ (zZ (tG (zZ (wpAny_setScan_of (knd:=PySem.strKind prog w) Cd Ew rfl hf g.elems ?_))));cases hr:List.findIdx? (λe=>(PySem.strKind prog w).is x e.2) es.toList with
 |some j =>
  dsimp only;obtain⟨hj,hpj,_⟩:=List.findIdx?_eq_some_iff_getElem.mp hr;refine zW (zW (q false s.heap _ es ep t hS (Heap.SameBut.refl S s.heap) hf rfl cV ⟨λe he=>?_,λy hy=>?_,g.one⟩ (wG _)))
  ·obtain⟨y,t',h1,h2⟩:=g.in1 e he;exact⟨y,t',yH _ h1,h2⟩
  ·rcases zP.mp hy with hy|hy
   ·exact g.in2 y hy
   ·rw[zS.mp hy];have hm:=vY hj;obtain⟨y',t',_,e⟩:=g.in1 _ hm;rw[e]at hpj;have:y'=x:=by
     have h5:Value.isStrOf x (.str y' t')=true:=hpj;simpa[Value.isStrOf]using h5
    subst this;exact⟨t',by rw[<-e];exact hm⟩
 |none =>
  dsimp only;have qG:∀e∈es.toList,∀t',e.2≠.str x t':=λe he t' z=>by
   have:=List.findIdx?_eq_none_iff.mp hr e he;rw[z]at this;have h5:Value.isStrOf x (.str x t')=false:=this;simp[Value.isStrOf]at h5
  have iP:=layNew_perm t es (hashStr w x) (.str x tok);have A0:=layNew_fits t es (hashStr w x) (.str x tok);have jH:=Y8 t es (hashStr w x) (.str x tok);have hh:(PySem.strKind prog w).hash x=hashStr w x:=rfl;rw[hh];generalize hL:layNew t es (hashStr w x) (.str x tok)=L at iP A0 jH ⊢;obtain⟨oJ,t1,FX,gave⟩:=L;dsimp only at iP A0 jH ⊢;rw[Array.toList_push]at iP;have hsz:oJ.size=es.size+1:=by
   have:=iP.length_eq;simpa using this
  have Cm:GoodS w oJ.toList (D++[x]):=by
   refine GoodS.perm (Es:=(hashStr w x,Value.str x tok)::es.toList) ⟨λe he=>?_,λy hy=>?_,vC.mpr ⟨λe he y t1 t2 h1 h2=>?_,g.one⟩⟩ (iP.trans (List.perm_append_singleton _ _))
   ·rcases zD.mp he with rfl|he
    ·exact⟨x,tok,zF _ (zS.mpr rfl),rfl⟩
    ·obtain⟨y,t',h1,h2⟩:=g.in1 e he;exact⟨y,t',yH _ h1,h2⟩
   ·rcases zP.mp hy with hy|hy
    ·obtain⟨t',h⟩:=g.in2 y hy;exact⟨t',zI _ h⟩
    ·rw[zS.mp hy];exact⟨tok,zB⟩
   ·cases h1;exact qG e he t2 h2
  have hgw:∀(b:Bool)(s₁:Shared)(Q':Unit->Shared->Prop),Q' () s₁->wpAny (model prog w) A (match b with|true=>rule "set.scan.the-table-gave-way" | false=>pure ()) Q' E s₁:=λb s₁ Q' hq=>by
   cases b
   ·exact zW hq
   ·exact tG hq
  have F':∀t2:SetTable,t2.fits oJ.size=true->t2.led=t.led->t2.plain=false->∀(R:Option Bool->Shared->Prop),(∀h' fC oS t',h'.get? S=some (yy fC oS t')->Heap.SameBut S s.heap h'->t'.fits fC.size=true->t'.led=t.led->t'.plain=false->fC.toList.Perm oJ.toList->R (some true) { s with heap:=h',toks:=s.toks+1 }) ->
    wpAny (model prog w) A (do
     storeSet S oJ t2
     if(!FX&&t2.tooFull)=true then do
      (match(relayAll t2 oJ (SetTable.grown oJ.size)).2.2 with|true=>rule "set.scan.the-table-gave-way" | false=>pure ())
      storeSet S (relayAll t2 oJ (SetTable.grown oJ.size)).1 (relayAll t2 oJ (SetTable.grown oJ.size)).2.1
      pure (some true)
     else pure (some true)) R E { s with toks:=s.toks+1 }:=by
   intro t2 f2 l2 p2 R hR;refine zZ (tf Ew (fits_of_scanBound (by rw[hsz];exact hb)) λh1 hS2 DO=>?_);split
   ·have CK:=relayAll_perm t2 oJ (SetTable.grown oJ.size);have hf2:=relayAll_fits t2 oJ (SetTable.grown oJ.size);obtain⟨rD,hpl2⟩:=f9 t2 oJ (SetTable.grown oJ.size);have rX:(relayAll t2 oJ (SetTable.grown oJ.size)).1.size=oJ.size:=by
     have:=CK.length_eq;simpa using this
    refine zZ (hgw _ _ _ (zZ (tf (s:={ s with heap:=h1,toks:=s.toks+1 }) hS2 (fits_of_scanBound (by rw[rX,hsz];exact hb)) λh2 hS3 sb2=>zW ?_)));exact hR h2 _ _ _ hS3 (DO.trans sb2) hf2 (rD.trans l2) (hpl2 p2) CK
   ·exact zW (hR h1 oJ _ t2 hS2 DO f2 l2 p2 .rfl)
  have bZ:∀h' fC oS t',h'.get? S=some (yy fC oS t')->Heap.SameBut S s.heap h'->t'.fits fC.size=true->t'.led=t.led->t'.plain=false->fC.toList.Perm oJ.toList->Q true { s with heap:=h',toks:=s.toks+1 }:=λh' fC oS t' e1 e2 e3 e4 e5 e6=>by
   refine q true h' _ fC oS t' e1 e2 e3 e4 (λ_=>e5) (Cm.perm e6) ?_;have:=e6.length_eq;simp at this;lia
  refine zZ (hgw _ _ _ ?_);split
  ·rw[hashByValue_scannable 8 (x:=.str x tok) rfl];refine zZ (zW ?_);simp only[plainKind,Bool.false_eq_true,if_false];exact F' { t1 with plain:=false } (SetTable.fits_plain_off A0) jH rfl _ λh' fC oS t' e1 e2 e3 e4 e5 e6=>zW (bZ h' fC oS t' e1 e2 e3 e4 e5 e6)
  ·rename_i rQ;refine zZ (zW ?_);simp only[if_true];exact F' t1 A0 jH (by simpa using rQ) _ λh' fC oS t' e1 e2 e3 e4 e5 e6=>zW (bZ h' fC oS t' e1 e2 e3 e4 e5 e6)
end
end My
namespace My
open PySem PySem.Spec PySem.W PySem.Calls
open PyProof.Rows hiding St
namespace Srt
variable {O:KeyOrd}{key:Nat->O.α}{n:Nat}
def Ok{α:Type}(key:Nat->O.α)(n:Nat):KasT α->(α->Prop)->Prop
 | .ret a,P=>P a
 | .ask i j k,P=>i<n/\j<n/\Ok key n (k (O.blt (key i) (key j))) P
theorem Ok.mono{α:Type}{P P':α->Prop}(hp:∀a,P a->P' a):∀{t:KasT α},Ok key n t P->Ok key n t P'
 | .ret a,h=>hp a h
 | .ask i j k,h=>⟨h.1,h.2.1,Ok.mono hp h.2.2⟩
theorem Ok.bind{α β:Type}{f:α->KasT β}{P:β->Prop}:∀{t:KasT α},Ok key n t (λa=>Ok key n (f a) P)->Ok key n (t.bind f) P
 | .ret a,h=>h
 | .ask i j k,h=>⟨h.1,h.2.1,Ok.bind h.2.2⟩
theorem Ok.wp{α:Type}{cmp:Nat->Nat->(Bool->Shared->Prop)->Shared->Prop}{P:α->Prop}{Q:α->Shared->Prop}{s:Shared}(hc:∀i j C,i<n->j<n->C (O.blt (key i) (key j)) s->cmp i j C s)(hq:∀a,P a->Q a s):∀{t:KasT α},Ok key n t P->t.kasWp cmp Q s
 | .ret a,h=>hq a h
 | .ask i j k,h=>hc i j _ h.1 h.2.1 (Ok.wp hc hq h.2.2)
def K(key:Nat->O.α)(p:Array Nat)(i:Nat):O.α:=key (p.getD i 0)
structure All(n:Nat)(p:Array Nat):Prop where
 pm:p.toList.Perm (List.range n)
theorem All.size{p:Array Nat}(a:All n p):p.size=n:=by
 have:=a.pm.length_eq;simpa using this
theorem All.lt{p:Array Nat}(a:All n p)(hn:0<n)(i:Nat):p.getD i 0<n:=by
 by_cases hi:i<p.size
 ·have e:p.getD i 0=p[i]:=by simp[Array.getD,hi]
  rw[e];have:p[i]∈p.toList:=by simp
  exact xU.mp (a.pm.mem_iff.mp this)
 ·have e:p.getD i 0=0:=by simp[Array.getD,hi]
  rw[e];exact hn
theorem All.of{p p':Array Nat}(a:All n p)(h:p'.Perm p):All n p':=⟨(Array.perm_iff_toList_perm.mp h).trans a.pm⟩
theorem uh{p:Array Nat}{i:Nat}:p.getD i 0=(p[i]?).getD 0:=by
 by_cases hi:i<p.size
 ·simp[Array.getD,hi]
 ·simp[Array.getD,hi]
theorem Ri{p:Array Nat}{i j:Nat}(hj:j<=p.size)(k:Nat):K key (kas_rev p i j) k=if i<=k/\k<j then K key p (i+j-1-k)else K key p k:=by
 have e:=getElem?_mirror_all (xs:=p) (i:=i) hj k;unfold K kas_rev;rw[uh,e];split
 ·rw[<-uh]
 ·rw[<-uh]
theorem Od{p:Array Nat}{AN d:Nat}(hs:AN<p.size)(hd:d<=AN)(k:Nat):K key (bubble p AN d) k=if k=AN-d then K key p AN else if AN-d<k/\k<=AN then K key p (k-1)else K key p k:=by
 have e:=getElem?_bubble hs d hd k;unfold K;rw[uh,e]
 by_cases h1:k=AN-d
 ·rw[zH h1,zH h1,<-uh]
 ·rw[zK h1,zK h1]
  by_cases h2:AN-d<k/\k<=AN
  ·rw[zH h2,zH h2,<-uh]
  ·rw[zK h2,zK h2,<-uh]
def Up(key:Nat->O.α)(p:Array Nat)(m:Nat):Prop:=∀i j,i<=j->j<m->O.kle (K key p i) (K key p j)
def Dn(key:Nat->O.α)(p:Array Nat)(m:Nat):Prop:=∀i j,i<=j->j<m->O.kle (K key p j) (K key p i)
theorem Up.step{p:Array Nat}{m:Nat}(h:Up key p m)(h1:1<=m)(hc:O.kle (K key p (m-1)) (K key p m)):Up key p (m+1):=λi j qH hj=>by
 by_cases e:j=m
 ·subst e
  by_cases e2:i=j
  ·subst e2;exact wN _
  ·exact uK (h i (j-1) (by lia) (by lia)) hc
 ·exact h i j qH (by lia)
theorem Dn.step{p:Array Nat}{m:Nat}(h:Dn key p m)(h1:1<=m)(hc:O.kle (K key p m) (K key p (m-1))):Dn key p (m+1):=λi j qH hj=>by
 by_cases e:j=m
 ·subst e
  by_cases e2:i=j
  ·subst e2;exact wN _
  ·exact uK hc (h i (j-1) (by lia) (by lia))
 ·exact h i j qH (by lia)
theorem Zj{p:Array Nat}(a:All n p)(hn:0<n):∀(f m:Nat),1<=m->Up key p m->Ok key n (kas_asc p f m) λr=>m<=r/\r<=m+f/\Up key p r/\(r=m+f\/O.klt (K key p r) (K key p (r-1)))
 |0,m,h1,h=>⟨zT _,zT _,h,.inl rfl⟩
 |f+1,m,h1,h=>by
  refine⟨a.lt hn _,a.lt hn _,?_⟩;cases hc:O.blt (key (p.getD m 0)) (key (p.getD (m-1) 0))with
  |true=>exact⟨zT _,by lia,h,.inr hc⟩
  |false =>
   (try dsimp only);rw[zK zJ]
   refine Ok.mono (λr hr=>?_) (Zj a hn f (m+1) (by lia) (h.step h1 hc));exact⟨by lia,by lia,hr.2.2.1,hr.2.2.2.imp (λe=>by lia) id⟩
theorem lw{p:Array Nat}{i j:Nat}(hj:j<=p.size)(he:∀k,i<=k->k<j->K key p k=K key p (j-1))(k:Nat):K key (kas_rev p i j) k=K key p k:=by
 rw[Ri hj];split
 ·rw[he _ (by lia) (by lia),he k (by lia) (by lia)]
 ·rfl
theorem qf{p:Array Nat}(a:All n p)(i j:Nat):All n (kas_rev p i j):=a.of (mirror_perm _ _ _ _)
theorem ni(hn:0<n):∀(f:Nat)(p:Array Nat)(m q:Nat),All n p->1<=m->m+f<=n->q+1<=m->Dn key p m->(∀k,m-(q+1)<=k->k<m->K key p k=K key p (m-1)) ->
  Ok key n (kas_desc f p m q) λr=>All n r.1/\m<=r.2.1/\r.2.1<=m+f/\r.2.2+1<=r.2.1/\Dn key r.1 r.2.1/\∀k,r.2.1-(r.2.2+1)<=k->k<r.2.1->K key r.1 k=K key r.1 (r.2.1-1)
 |0,p,m,q,a,h1,hf,hq,hd,he=>⟨a,zT _,zT _,hq,hd,he⟩
 |f+1,p,m,q,a,h1,hf,hq,hd,he=>by
  refine⟨a.lt hn _,a.lt hn _,?_⟩;cases hc:O.blt (key (p.getD m 0)) (key (p.getD (m-1) 0))with
  |true =>
   (try dsimp only);rw[zH rfl]
   have CI:Dn key p (m+1):=hd.step h1 (tR hc);split
   ·have kM:=lw (key:=key) (p:=p) (i:=m-(q+1)) (j:=m) (by rw[a.size];lia) he;refine Ok.mono (λr hr=>⟨hr.1,by lia,by lia,hr.2.2.2⟩) (ni hn f (kas_rev p (m-(q+1)) m) (m+1) 0 (qf a _ _) (by lia) (by lia) (by lia) (λi j qH hj=>?_) λk h1 h2=>?_)
    ·rw[kM,kM];exact CI i j qH hj
    ·have:k=m+1-1:=by lia
     rw[this]
   ·refine Ok.mono (λr hr=>⟨hr.1,by lia,by lia,hr.2.2.2⟩) (ni hn f p (m+1) 0 a (by lia) (by lia) (by lia) CI λk h1 h2=>?_);have:k=m+1-1:=by lia
    rw[this]
  |false =>
   (try dsimp only);rw[zK zJ]
   refine⟨a.lt hn _,a.lt hn _,?_⟩;cases B5:O.blt (key (p.getD (m-1) 0)) (key (p.getD m 0))with
   |true =>
    (try dsimp only);rw[zH rfl]
    exact⟨a,zT _,(by show m<=m+(f+1);lia),hq,hd,he⟩
   |false =>
    (try dsimp only);rw[zK zJ]
    have Em:K key p m=K key p (m-1):=O.total _ _ hc B5;refine Ok.mono (λr hr=>⟨hr.1,by lia,by lia,hr.2.2.2⟩) (ni hn f p (m+1) (q+1) a (by lia) (by lia) (by lia) (hd.step h1 (by rw[Em];exact wN _)) λk h1 h2=>?_);rw[show m+1-1=m by lia]
    by_cases e:k=m
    ·rw[e]
    ·rw[he k (by lia) (by lia),Em]
def Run(key:Nat->O.α)(n:Nat)(r:Nat×Array Nat):Prop:=All n r.2/\1<=r.1/\r.1<=n/\Up key r.2 r.1
theorem cn(hn:0<n){p:Array Nat}{m:Nat}(a:All n p)(h1:1<=m)(hm:m<=n)(hd:Dn key p m):Ok key n (kas_tail3 m n p) (Run key n):=by
 unfold kas_tail3;refine Ok.bind (Ok.mono (λr hr=>?_) (Zj (qf a 0 m) hn (n-m) m h1 λi j qH hj=>?_))
 ·exact⟨qf a 0 m,by lia,by lia,hr.2.2.1⟩
 ·have hs:m<=p.size:=by rw[a.size];exact hm
  rw[Ri hs,Ri hs,zH ⟨by lia,by lia⟩,zH ⟨by lia,by lia⟩];exact hd _ _ (by lia) (by lia)
theorem oj(hn:0<n){p:Array Nat}{m:Nat}(a:All n p)(h1:1<=m)(hm:m<n)(hd:Dn key p (m+1)):Ok key n (kas_descPart m n p) (Run key n):=by
 unfold kas_descPart;refine Ok.bind (Ok.mono (λr hr=>?_) (ni hn (n-(m+1)) p (m+1) 0 a (by lia) (by lia) (by lia) hd λk h1 h2=>by rw[show k=m+1-1 by lia]));obtain⟨r1,r2,r3⟩:=r;obtain⟨a',b1,b2,b3,b4,b5⟩:=hr;dsimp only at a' b1 b2 b3 b4 b5 ⊢;split
 ·have kM:=lw (key:=key) (p:=r1) (i:=r2-(r3+1)) (j:=r2) (by rw[a'.size];lia) b5;exact cn hn (qf a' _ _) (by lia) (by lia) λi j qH hj=>by rw[kM,kM];exact b4 i j qH hj
 ·exact cn hn a' (by lia) (by lia) b4
theorem Td{p:Array Nat}(a:All n p)(hn:0<n):Ok key n (kas_count n p) (Run key n):=by
 unfold kas_count;refine Ok.bind (Ok.mono (λr hr=>?_) (Zj a hn (n-1) 1 (zT _) λi j qH hj=>by
  have:i=j:=by lia
  subst this;exact wN _))
 obtain⟨h1,h2,h3,h4⟩:=hr
 by_cases e:r=n
 ·subst e;simp only[tH,if_true];exact⟨a,h1,zT _,h3⟩
 ·have e':(r==n)=false:=by simpa using e
  simp only[e',Bool.false_eq_true,if_false];have bE:r<n:=by lia
  have FP:O.klt (K key p r) (K key p (r-1)):=by
   rcases h4 with h4|h4
   ·lia
   ·exact h4
  split
  ·refine⟨a.lt hn _,a.lt hn _,?_⟩;cases hc:O.blt (key (p.getD 0 0)) (key (p.getD (r-1) 0))with
   |true =>
    (try dsimp only);rw[zH rfl]
    exact⟨a,h1,by lia,h3⟩
   |false =>
    (try dsimp only);rw[zK zJ]
    have Em:∀k,0<=k->k<r->K key p k=K key p (r-1):=λk _ hk=>by
     refine KeyOrd.kle_antisymm (h3 k (r-1) (by lia) (by lia)) ?_;exact uK (show O.kle (K key p (r-1)) (K key p 0)from hc) (h3 0 k (by lia) hk)
    have kM:=lw (key:=key) (p:=p) (i:=0) (j:=r) (by rw[a.size];lia) Em;refine oj hn (qf a 0 r) h1 bE λi j qH hj=>?_;rw[kM,kM]
    by_cases ej:j=r
    ·subst ej
     by_cases ei:i=j
     ·subst ei;exact wN _
     ·rw[Em i (by lia) (by lia)];exact tR FP
    ·rw[Em i (by lia) (by lia),Em j (by lia) (by lia)];exact wN _
  ·have oE:r=1:=by lia
   subst oE;refine oj hn a (zT _) bE λi j qH hj=>?_
   by_cases ei:i=j
   ·subst ei;exact wN _
   ·have hi:i=0:=by lia
    have hj:j=1:=by lia
    subst hi hj;exact tR FP
theorem ln{p:Array Nat}(a:All n p)(hn:0<n)(k:Nat)(hk:k<n)(hu:Up key p k):∀(f l r:Nat),l<=r->r<=k->r-l<=f->(∀i,i<l->O.kle (K key p i) (K key p k))->(∀i,r<=i->i<k->O.klt (K key p k) (K key p i)) ->
  Ok key n (kas_place p k f l r) λl'=>l'<=k/\(∀i,i<l'->O.kle (K key p i) (K key p k))/\(∀i,l'<=i->i<k->O.klt (K key p k) (K key p i))
 |0,l,r,h1,h2,h3,h4,h5=>⟨by lia,h4,λi hi=>h5 i (by lia)⟩
 |f+1,l,r,h1,h2,h3,h4,h5=>by
  unfold kas_place;split
  ·exact⟨by lia,h4,λi hi=>h5 i (by lia)⟩
  ·refine⟨a.lt hn _,a.lt hn _,?_⟩;cases hc:O.blt (key (p.getD k 0)) (key (p.getD ((l+r) / 2) 0))with
   |true =>
    (try dsimp only);rw[zH rfl]
    exact ln a hn k hk hu f l ((l+r) / 2) (by lia) (by lia) (by lia) h4 λi hi hik=>KeyOrd.klt_of_klt_of_kle hc (hu _ _ hi hik)
   |false =>
    (try dsimp only);rw[zK zJ]
    exact ln a hn k hk hu f ((l+r) / 2+1) r (by lia) h2 (by lia) (λi hi=>uK (hu i ((l+r) / 2) (by lia) (by lia)) (show O.kle (K key p ((l+r) / 2)) (K key p k)from hc)) h5
theorem S9(hn:0<n):∀(f:Nat)(p:Array Nat)(k:Nat),All n p->k+f=n->Up key p k->Ok key n (kas_bin f p k) λr=>All n r/\Up key r n
 |0,p,k,a,hk,hu=>⟨a,by rw[<-hk];exact hu⟩
 |f+1,p,k,a,hk,hu=>by
  have hkn:k<n:=by lia
  refine Ok.bind (Ok.mono (λl hl=>?_) (ln a hn k hkn hu k 0 k (yV _) (zT _) (by lia) (λi hi=>by lia) (λi h1 h2=>by lia)));obtain⟨hlk,CP,hhi⟩:=hl;have hs:k<p.size:=by rw[a.size];exact hkn
  refine S9 hn f (bubble p k (k-l)) (k+1) (a.of (bubble_perm _ _ _)) (by lia) λi j qH hj=>?_;rw[Od hs (by lia),Od hs (by lia),show k-(k-l)=l by lia]
  by_cases ei:i=l
  ·rw[zH ei]
   by_cases ej:j=l
   ·rw[zH ej];exact wN _
   ·rw[zK ej,zH ⟨by lia,by lia⟩];exact tR (hhi _ (by lia) (by lia))
  ·rw[zK ei]
   by_cases ei2:l<i/\i<=k
   ·rw[zH ei2,zK (by lia),zH ⟨by lia,by lia⟩];exact hu _ _ (by lia) (by lia)
   ·rw[zK ei2];have TN:i<l:=by lia
    by_cases ej:j=l
    ·rw[zH ej];exact CP i TN
    ·rw[zK ej]
     by_cases ej2:l<j/\j<=k
     ·rw[zH ej2];exact hu _ _ (by lia) (by lia)
     ·rw[zK ej2];exact hu _ _ qH (by lia)
theorem ok_sort(hn:0<n):Ok key n (kas_sort n) λr=>All n r/\Up key r n:=by
 unfold kas_sort;have a0:All n (List.toArray (List.range n)):=⟨.rfl⟩
 refine Ok.bind (Ok.mono (λr hr=>?_) (Td a0 hn));obtain⟨m,p⟩:=r;obtain⟨a,h1,h2,h3⟩:=hr;dsimp only at a h1 h2 h3 ⊢;split
 ·rw[show max m 1=m by lia];exact S9 hn (n-m) p m a (by lia) h3
 ·have:m=n:=by lia
  subst this;exact⟨a,h3⟩
end Srt
end My
namespace My
open PySem PySem.Spec PySem.W PySem.Calls
open PyProof.Rows hiding St
section
variable {prog:Program}{w:World}{A:Around}{E:Value->Shared->Prop}{s:Shared}
theorem fe{D:Addr}{vs:List Value}{n0:Nat}{P:PySem.Fin->Shared->Prop}(ho:s.heap.get? D=some (seqObj "list" vs.toArray n0))(FT:vs.length<64){O:KeyOrd}(key:Nat->O.α)(κ:SortKind)
  (hk:2<=vs.length->∀(s1:Shared)(Q':SortKind->Shared->Prop)(E':Value->Shared->Prop),(∀b o,b≠D->s.heap.get? b=some o->s1.heap.get? b=some o)->Q' κ s1->wpAny (model prog w) A (keyKind' vs.toArray) Q' E' s1)
  (hc:∀(s1:Shared)(i j:Nat)(C:Bool->Shared->Prop)(E':Value->Shared->Prop),(∀b o,b≠D->s.heap.get? b=some o->s1.heap.get? b=some o)->i<vs.length->j<vs.length->C (O.blt (key i) (key j)) s1->wpAny (model prog w) A (keyLt' κ (vs.getD i Value.none) (vs.getD j Value.none)) C E' s1)
  (h:∀(p:Array Nat)(h':Heap)(e:Nat),Srt.All vs.length p->Srt.Up key p vs.length->(∀b o,b≠D->s.heap.get? b=some o->h'.get? b=some o)->h'.get? D=some (seqObj "list" (p.toList.map λi=>vs.getD i Value.none).toArray e)->P (.done (.ret .none)) { s with heap:=h' }) :
  wpAny (model prog w) A (Builtin.«list.sort» ⟨[.ref D],[]⟩) P E s:=by
 have hD:D<s.heap.objs.size:=zU ho;obtain⟨e1,ho1⟩:∃e1,(s.heap.update D (Obj.mapSeq λ_=>(#[]:Array Value))).get? D=some (seqObj "list" #[] e1):=⟨_,get?_update_seq ho λ_=>#[]⟩
 rw[list_sort_plain];refine zZ (listItems_at ho rfl (zZ (listUpdate_at ho rfl (zZ (seqEpoch_at ho1 rfl (zZ (wpAny_newTuple (zZ (wpAny_newList (xS ?_) (yV _))) (by show vs.length<=_;rw[zM];lia))))) (by rw[zQ,zM];lia) (yV _))));generalize hH:((s.heap.update D (Obj.mapSeq λ_=>(#[]:Array Value))).push (seqObj "tuple" vs.toArray 0)).push (seqObj "list" #[] 0)=H3;have keep:∀b o,b≠D->s.heap.get? b=some o->H3.get? b=some o:=λb o hb e=>by
  rw[<-hH];exact zY _ (zY _ ((yS _ _ (wY hb)).trans e))
 have TB:H3.get? D=some (seqObj "list" #[] e1):=by
  rw[<-hH];exact zY _ (zY _ ho1)
 have bZ:∀(p:Array Nat),Srt.All vs.length p->Srt.Up key p vs.length->P (.done (.ret .none)) { s with heap:=H3.update D (Obj.mapSeq λ_=>List.toArray (p.toList.map λi=>vs.getD i Value.none)) }:=λp hp hu =>
  h p _ _ hp hu (λb o hb e=>(yS _ _ (wY hb)).trans (keep b o hb e)) (get?_update_seq TB λ_=>List.toArray (p.toList.map λi=>vs.getD i Value.none))
 refine(show wpAny (model prog w) A _ P E { s with heap:=H3 }from ?_);dsimp only;have hsz:vs.toArray.size=vs.length:=zQ
 by_cases h2:vs.toArray.size<2
 ·rw[zH h2,zH h2];refine zZ (zW ?_);rw[StateT.run_pure];refine zZ (zW ?_);dsimp only;have hid:(arrOf (SortSt.mk' general' (vs.toArray.zip vs.toArray) #[] 7 none)).map (·.2)=List.toArray ((List.range vs.length).map λi=>vs.getD i Value.none):=by
   show(vs.toArray.zip vs.toArray).map (·.2)=_;apply wJ.mp;apply uL
   ·simp
   ·intro i a1 a2;have hi:i<vs.length:=by simpa using a2
    simp[hi]
  refine zZ (seqEpoch_at TB rfl ?_);rw[hid];refine zZ (listUpdate_at TB rfl ?_ (yV _) (by rw[zQ,zX,tS,zM];lia));simp only[bne_self_eq_false,Bool.false_eq_true,if_false];refine zW ?_;have:=bZ (List.toArray (List.range vs.length)) ⟨.rfl⟩ λi j qH hj=>by
   have:i=j:=by lia
   subst this;exact wN _
  exact this
 ·rw[zK h2,zK h2];have sQ:2<=vs.length:=by lia
  refine zZ (hk sQ { s with heap:=H3 } _ _ keep ?_);have ask:(kas_sort vs.length).kasWp (kas_ask prog w A κ vs) (λp s'=>s'={ s with heap:=H3 }/\Srt.All vs.length p/\Srt.Up key p vs.length) { s with heap:=H3 } :=
   Srt.Ok.wp (λi j C hi hj q=>hc { s with heap:=H3 } i j C _ keep hi hj q) (λp hp=>⟨rfl,hp.1,hp.2⟩) (Srt.ok_sort (by lia))
  refine zZ (yR (kat_run (Q:=λkE s'=>∃p:Array Nat,arrOf kE=p.map (kas_item (vs.toArray.zip vs.toArray))/\failedOf kE=none/\s'={ s with heap:=H3 }/\Srt.All vs.length p/\Srt.Up key p vs.length) rfl sQ FT (λp kE s' _ a2 a3 a4=>⟨p,a2,a3,a4⟩) ask) ?_ λ_ _ e=>e);rintro⟨⟨⟩,kE⟩ s' ⟨p,har,hf,rfl,hp,hu⟩;dsimp only;rw[kat_snds rfl har];refine zZ (seqEpoch_at TB rfl (zZ (listUpdate_at TB rfl ?_ (yV _) ?_)))
  ·rw[hf];simp only[bne_self_eq_false,Bool.false_eq_true,if_false];exact zW (bZ p hp hu)
  ·have:=hp.size;rw[zQ,zX,xQ,this,zM];lia
end
end My
namespace My
open PySem PySem.Spec PySem.W PySem.Calls
open PyProof.Rows hiding St
def xm:List Bool->List Bool->Bool
 |[],[]=>false
 |[],_::_=>true
 |_::_,[]=>false
 |a::x,b::y=>if a=b then xm x y else !a&&b
theorem og:∀a,xm a a=false
 |[]=>rfl
 |a::x=>by rw[xm,zH rfl];exact og x
theorem k6:∀a b c,xm a b=true->xm b c=true->xm a c=true
 |[],[],_,h,_=>by simp[xm]at h
 |[],_::_,[],_,h=>by simp[xm]at h
 |[],_::_,_::_,_,_=>rfl
 |_::_,[],_,h,_=>by simp[xm]at h
 |_::_,_::_,[],_,h=>by simp[xm]at h
 |a::x,b::y,c::z,h1,h2=>by
  have ih:=k6 x y z;cases a<;>cases b<;>cases c<;>simp[xm]at h1 h2 ⊢<;>exact ih h1 h2
theorem bt:∀a b c,xm a c=true->xm a b=true\/xm b c=true
 |[],[],[],h=>by simp[xm]at h
 |[],[],_::_,_=>.inr rfl
 |[],_::_,_,_=>.inl rfl
 |_::_,_,[],h=>by simp[xm]at h
 |_::_,[],_::_,_=>.inr rfl
 |a::x,b::y,c::z,h=>by
  have ih:=bt x y z;cases a<;>cases b<;>cases c<;>simp[xm]at h ⊢<;>exact ih h
theorem qw:∀a b,xm a b=false->xm b a=false->a=b
 |[],[],_,_=>rfl
 |[],_::_,h,_=>by simp[xm]at h
 |_::_,[],_,h=>by simp[xm]at h
 |a::x,b::y,h1,h2=>by
  have ih:=qw x y;cases a<;>cases b<;>simp[xm]at h1 h2 ⊢<;>exact ih h1 h2
def Gp:KeyOrd where
 α:=List Bool
 blt:=xm
 irrefl:=og
 trans:=k6
 negTrans:=bt
 total:=qw
section
variable {prog:Program}{w:World}{A:Around}{E:Value->Shared->Prop}{s:Shared}
theorem Mq{a b:Bool}{Q:Bool->Shared->Prop}(h:Q (decide (b2i a<b2i b)) s):wpAny (model prog w) A (oneLt' true (.bool a) (.bool b)) Q E s:=by
 rw[oneLt'_eq];simp only[if_true];refine zZ (wpAny_cRoomFor_byValue rfl (zZ (wpAny_callSpecialIfBound?_slot (T:="bool") rfl F.slot_bool_lt (call_gives F.slot_bool_lt rfl F.entry_int_lt (F.args_int_lt_2 _ _) (gives_int_lt_bools a b) ?_))));exact wF h
theorem Rq{a b:Bool}(h:a≠b):decide (b2i a<b2i b)=(!a&&b):=by cases a<;>cases b<;>first|rfl|exact absurd rfl h
theorem qa:∀{k:List Bool}{vs:List Value},ItemsAre (kl prog w) k vs->vs=k.map Value.bool
 |_,_,.nil=>rfl
 |_,_,.cons h r=>by rw[xi h,qa r];rfl
theorem Sl(b bZ:Bool){Q:Bool->Shared->Prop}:∀(x y:List Bool)(i:Nat),bZ=decide (x.length<y.length)->Q (xm x y) s->KatLex prog w A b bZ Q ((x.map Value.bool).zip (y.map Value.bool)) i s
 |[],[],i,hf,h=>kat_nil (by rw[hf];exact h)
 |[],_::_,i,hf,h=>kat_nil (by rw[hf];simpa[xm]using h)
 |_::_,[],i,hf,h=>kat_nil (by rw[hf];simpa[xm]using h)
 |a::x,c::y,i,hf,h=>by
  refine kat_cons (SeqAt.EqAt.bool_bool a c _ _ _ _ ?_)
  by_cases e:a=c
  ·subst e;have e2:(a==a)=true:=by simp
   rw[e2];refine kat_yes (Sl b bZ x y (i+1) (by rw[hf];simp) ?_);rw[xm,zH rfl]at h;exact h
  ·have e2:(a==c)=false:=by simpa using e
   rw[e2];refine kat_no ?_;rw[xm,zK e]at h;cases hb:(b&&i==0)with
   |true=>exact Mq (by rw[Rq e];exact h)
   |false=>exact kat_one _ _ (lt_bool (by rw[Rq e];exact h))
theorem Pm{x y:Addr}{kx ky:List Bool}(b:Bool){C:Bool->Shared->Prop}(hx:Bt prog w s.heap kx x)(hy:Bt prog w s.heap ky y)(h:C (xm kx ky) s):wpAny (model prog w) A (keyLt' (tuples' b) (.ref x) (.ref y)) C E s:=by
 obtain⟨ox,ix,nx,e1,_,d1,i1⟩:=hx;obtain⟨oy,iy,ny,e2,_,d2,i2⟩:=hy;refine kat_lt e1 d1 e2 d2 ?_;have h1:=qa i1;have h2:=qa i2;have l1:ix.size=kx.length:=by rw[<-xQ,h1,zX]
 have l2:iy.size=ky.length:=by rw[<-xQ,h2,zX]
 rw[h1,h2,l1,l2];exact Sl b _ kx ky 0 rfl h
theorem nw:∀(R:List (Addr×List Bool)),(∀r∈R,Bt prog w s.heap r.2 r.1/\r.2≠[])->∃fs:List Value,KatTups s.heap (R.map λr=>Value.ref r.1) fs/\fs.length=R.length/\∀v∈fs,∃b,v = .bool b
 |[],_=>⟨[],.nil,rfl,λv hv=>by simp at hv⟩
 |r::R,h=>by
  obtain⟨fs,h1,h2,h3⟩:=nw R λq hq=>h q (zI _ hq);obtain⟨⟨o,aH,n,ho,hc,hd,hi⟩,gQ⟩:=h r zB;have e:=qa hi;cases hk:r.2 with
  |nil=>exact absurd hk gQ
  |cons b k =>
   rw[hk,List.map_cons]at e;refine⟨.bool b::fs,KatTups.cons ho hc hd (by rw[<-Array.getElem?_toList,e];rfl) h1,by simp[h2],λv hv=>?_⟩;rcases zD.mp hv with rfl|hv
   ·exact⟨b,rfl⟩
   ·exact h3 v hv
theorem W0{D:Addr}{R:List (Addr×List Bool)}{n0:Nat}{P:PySem.Fin->Shared->Prop}(ho:s.heap.get? D=some (seqObj "list" (R.map λr=>Value.ref r.1).toArray n0))(hR:∀r∈R,Bt prog w s.heap r.2 r.1/\r.2≠[])(FT:R.length<64)
  (h:∀(R':List (Addr×List Bool))(h':Heap)(e:Nat),R'.Perm R->(R'.map (·.2)).Pairwise (λa b=>xm b a=false)->(∀b o,b≠D->s.heap.get? b=some o->h'.get? b=some o)->h'.get? D=some (seqObj "list" (R'.map λr=>Value.ref r.1).toArray e)->P (.done (.ret .none)) { s with heap:=h' }) :
  wpAny (model prog w) A (Builtin.«list.sort» ⟨[.ref D],[]⟩) P E s:=by
 have hl:(R.map λr=>Value.ref r.1).length=R.length:=zX _;have tup:∀{h':Heap},(∀b o,b≠D->s.heap.get? b=some o->h'.get? b=some o)->∀r∈R,Bt prog w h' r.2 r.1/\r.2≠[]:=λ{h'} k r hr=>by
  obtain⟨⟨o,aH,n,e,hc,hd,hi⟩,gQ⟩:=hR r hr;refine⟨⟨o,aH,n,k _ _ (λz=>?_) e,hc,hd,hi⟩,gQ⟩;rw[z]at e;have:=xT Obj.cls (yX (e.symm.trans ho));rw[hc]at this;simp at this
 refine fe (O:=Gp) ho (by rw[hl];exact FT) (λi=>(R.getD i (0,[])).2) (tuples' true) (λh2 s1 Q' E' k q=>?_) (λs1 i j C E' k hi hj q=>?_) λp h' e ha hu k eD=>?_
 ·obtain⟨fs,h1,sQ,h3⟩:=nw (s:=s1) R (tup k);refine kat_kind (T:=.type "bool") h1 (by rw[sQ];rw[hl]at h2;lia) (λv hv=>?_) rfl q;obtain⟨b,rfl⟩:=h3 v hv;exact Looks.of_pure rfl
 ·rw[hl]at hi hj;have e1:(R.map λr=>Value.ref r.1).getD i Value.none = .ref (R.getD i (0,[])).1:=by simp[hi]
  have e2:(R.map λr=>Value.ref r.1).getD j Value.none = .ref (R.getD j (0,[])).1:=by simp[hj]
  have m1:R.getD i (0,[])∈R:=by simp[hi]
  have m2:R.getD j (0,[])∈R:=by simp[hj]
  rw[e1,e2];exact Pm true (tup k _ m1).1 (tup k _ m2).1 q
 ·rw[hl]at ha hu;have hp:(p.toList.map λi=>R.getD i (0,[])).Perm R:=by
   have h1:=ha.pm.map λi=>R.getD i (0,[]);have h2:(List.range R.length).map (λi=>R.getD i (0,[]))=R:=by
    apply uL
    ·simp
    ·intro i a1 a2;simp[a2]
   rw[h2]at h1;exact h1
  refine h (p.toList.map λi=>R.getD i (0,[])) h' e hp ?_ k ?_
  ·rw[xO,xX];intro i j hi hj qH;have oF:i<p.size:=by simpa using hi
   have rR:j<p.size:=by simpa using hj
   have:=hu i j (xP qH) (by rw[<-ha.size];exact rR);have g1:p.getD i 0=p[i]:=by simp[Array.getD,oF]
   have g2:p.getD j 0=p[j]:=by simp[Array.getD,rR]
   unfold Srt.K at this;rw[g1,g2]at this;have h9:xm (R.getD p[j] (0,[])).2 (R.getD p[i] (0,[])).2=false:=this;simpa using h9
  ·rw[eD,xO]
   congr 3
   apply List.map_congr_left;intro i hi;have oF:i<R.length:=xU.mp (ha.pm.mem_iff.mp hi);simp[oF]
end
end My
namespace My
open PySem PySem.Spec PySem.W PySem.Calls L2
open PyProof.Rows hiding St
section
open Tb
theorem Ym:∀{vs:List Value}{ss:List Str},StrsAre vs ss->∀(i:Nat)(v:Value),vs[i]?=some v->∃x t,ss[i]?=some x/\v = .str x t
 |_,_,.nil,i,v,h=>by simp at h
 |_,_,.cons x t r,0,v,h=>⟨x,t,rfl,by simpa using h.symm⟩
 |_,_,.cons x t r,i+1,v,h=>by
  obtain⟨y,u,h1,h2⟩:=Ym r i v (by simpa using h);exact⟨y,u,by simpa using h1,h2⟩
section
variable {X:Cx}
theorem bn{pins:List (Addr×Obj)}{σ:St}{H:Hp}{s:Shared}(I:Inv X pins σ H s)(d:Drawn):Inv X pins σ H { s with drawn:=d }:=⟨I.ok,I.os,I.bare,I.base,I.loc,I.cell,I.free,I.freeC,I.pin,I.hok,I.len⟩
theorem Q7(hc:X.calm=true){pins:List (Addr×Obj)}{σ:St}{H:Hp}{s:Shared}(I:Inv X pins σ H s){p:Addr}{ss:List Str}{Q:VK}(hq:SqL X.K H p (ss.map V.str)\/SqT X.K H p (ss.map V.str))(aZ:ss.length+1<scanBound)(FT:∀cW:List Str,cW.Nodup->(∀x∈cW,x∈ss)->cW.length<64)
  (q:∀cW:List Str,cW.Nodup->(∀x,x∈cW↔x∈ss)->sortedS cW=true->New H (.lst (cW.map V.str)) Q) :
  wpAny (model X.prog X.w) X.A (call (.type "set") [.ref p]) (λu s'=>wpAny (model X.prog X.w) X.A (call (.builtin "sorted") [u]) (EP X pins σ Q) X.xe s') X.xe s:=by
 obtain⟨aH,rv,pl⟩:∃aH:List Value,Vals (ss.map V.str) aH/\(s.heap.IsList p aH.toArray\/s.heap.IsTuple p aH.toArray):=by
  rcases hq with hq|hq
  ·obtain⟨aH,rv,pl,_⟩:=I.list hq;exact⟨aH,rv,.inl pl.isList⟩
  ·obtain⟨aH,rv,pl,_⟩:=I.tuple hq;exact⟨aH,rv,.inr pl⟩
 have iH:=jy rv;have TN:aH.length=ss.length:=by rw[<-rv.length,zX]
 have hh:X.A.handled=none:=I.ok.hd hc;refine Nw hh pl (λi h=>∃es ep t,h.get? s.heap.objs.size=some (yy es ep t)/\t.fits es.size=true/\t.led=!byT X.w/\(es.size≠0->t.plain=false)/\GoodS X.w es.toList (ss.take i)/\es.size<=i) ?_ ?_ ?_ ?_
 ·rintro i h h' ⟨es,ep,t,e,r⟩ k;exact⟨es,ep,t,k _ _ (zE (xD _)) e,r⟩
 ·refine⟨#[],0,_,zR _ rfl,rfl,rfl,λz=>absurd rfl z,⟨λe he=>by simp at he,λx hx=>by simp at hx,.nil⟩,zT _⟩
 ·rintro i v A' s' Q' E' hu hv ⟨es,ep,t,e,f,l,pn,g,le⟩ qq;have BZ:aH[i]?=some v:=by simpa using hv
  obtain⟨x,tok,hx,rfl⟩:=Ym iH i v BZ;have hi:i<ss.length:=(zV.mp hx).1;refine add_str e f g (by lia) pn λb h' tk fC oS t' e' sb f' l' pn' g' le'=>qq b h' tk sb ⟨fC,oS,t',e',f',l'.trans l,pn',?_,by lia⟩;rw[yY,hx];exact g'
 ·rintro h' tk ⟨es,ep,t,e,f,l,pn,g,le⟩ keep;have Cf:aH.toArray.size=ss.length:=by rw[zQ,TN]
  rw[Cf,yT]at g;rw[Cf]at le;have Bu:t.plain=true->t.place.toList.Pairwise (·<·):=λhp=>by
   have h0:es.size=0:=xI λz=>by rw[pn z]at hp;cases hp
   have:=bb f;have h1:t.place.toList=[]:=vH.mp (by rw[xQ,this,h0]);rw[h1];exact .nil
  have hzl:es.size<=sizeLine:=fits_of_scanBound (by lia);refine mf (s:={ s with heap:=h',toks:=tk }) hh e f l Bu hzl λD h2 d tk2 ws hp Aw hD eD=>?_;have CH:∀v,v∈ws->∃x t,v = .str x t:=λv hv=>by
   obtain⟨e1,oG,rfl⟩:=zC.mp (hp.mem_iff.mp hv);obtain⟨x,t,_,rfl⟩:=g.in1 e1 oG;exact⟨x,t,rfl⟩
  have hS:=strsAre_map ws CH;have jV:∀x,x∈ws.map strOf↔x∈ss:=λx=>by
   constructor
   ·intro hx;obtain⟨v,hv,rfl⟩:=zC.mp hx;obtain⟨e1,oG,rfl⟩:=zC.mp (hp.mem_iff.mp hv);obtain⟨y,t,hy,rfl⟩:=g.in1 e1 oG;exact hy
   ·intro hx;obtain⟨t,ht⟩:=g.in2 x hx;exact zC.mpr ⟨.str x t,hp.mem_iff.mpr (zC.mpr ⟨_,ht,rfl⟩),rfl⟩
  have BQ:(ws.map strOf).Nodup:=by
   have h1:(es.toList.map (·.2)).Pairwise λv v'=>∀x t t',v = .str x t->v'≠.str x t':=uQ.mpr g.one;have h2:=(hp.pairwise_iff (λ{a b} A2 x t t' z1 z2=>A2 x t' t z2 z1)).mpr h1;refine uQ.mpr (vK (λ{a b} ha hb A2=>?_) h2);obtain⟨x,t,rfl⟩:=CH a ha;obtain⟨y,t',rfl⟩:=CH b hb;intro z;have z':x=y:=z;subst z';exact A2 x t t' rfl rfl
  have TJ:ws.length<64:=by
   have:=FT _ BQ λx hx=>(jV x).mp hx
   rwa [zX]at this
  refine xW slot_list_sort ⟨_,eD,rfl⟩ entry_list_sort (list_sort_treeK strKind_oneLt eD hS.keysOf (λv₁ v₂ rest e=>keyKind_strs (by rw[<-e];exact hS)) TJ λkE a1 a2=>⟨_,rfl,?_⟩) (args_list_sort _);obtain⟨cW,b1,b2,b3⟩:=sorted_out_str hS a1 a2;have Ey:s.heap.objs.size<=D:=yM (xP (zU e)) hD;obtain⟨e2,CS⟩:=sortedHeap_at (out:=(arrOf kE).map (·.2)) eD;have hn:H D=none:=I.hok.fresh Ey;refine⟨.ref D,upd H D (.lst (cW.map V.str)),?_,rfl,(q cW (b2.nodup_iff.mpr BQ) (λx=>(b2.mem_iff).trans (jV x)) b3).at D hn⟩;refine(bn I d).laid (t':=tk2) (λb o eb=>?_) Ey ⟨?_,((arrOf kE).map (·.2)).toList,e2,jr b1,by rw[Array.toArray_toList];exact CS⟩
  ·have TZ:b<s.heap.objs.size:=zU eb;have eb2:=Aw b o (keep b o eb);rw[sortedHeap_old (zE (zG TZ Ey)) (zU eb2)];exact eb2
  ·rw[zX,b2.length_eq,zX];exact xP (zG TJ (by decide))
end
end
section
open Tb
theorem bo{prog:Program}{w:World}:∀k:List Bool,ItemsAre (kl prog w) k (k.map Value.bool)
 |[]=>.nil
 |b::k=>.cons (by show Vx b (.bool b)=true;simp[Vx]) (bo k)
section
variable {X:Cx}
theorem Hs{pins:List (Addr×Obj)}{σ:St}{H:Hp}{s:Shared}(I:Inv X pins σ H s){a:Addr}{k:List Bool}(h:SqT X.K H a (k.map V.bl)):Bt X.prog X.w s.heap k a:=by
 obtain⟨aH,rv,⟨o,e,hc,n,d⟩,_⟩:=I.tuple h;have:=we rv;subst this;exact⟨o,_,n,e,hc,d,bo k⟩
theorem jx:∀{as:List Addr}{us:List Value},Vals (as.map V.ref) us->us=as.map Value.ref
 |[],us,r=>by cases r;rfl
 |a::as,us,r=>by
  rw[List.map_cons]at r;cases r with
  |cons r1 r2 =>
   cases r1;rw[jx r2]
   rfl
theorem jc:∀(as:List Addr),Vals (as.map V.ref) (as.map Value.ref)
 |[]=>.nil
 |a::as=>.cons rfl (jc as)
theorem Q6(hc:X.calm=true)(hu:X.A.units+64<cLine){pins:List (Addr×Obj)}{σ:St}{H:Hp}{s:Shared}(I:Inv X pins σ H s){p:Addr}{R:List (Addr×List Bool)}{Q:VK}(hq:SqL X.K H p (R.map λr=>V.ref r.1))(hR:∀r∈R,SqT X.K H r.1 (r.2.map V.bl)/\r.2≠[])(FT:R.length<64)
  (q:∀R':List (Addr×List Bool),(∀r∈R',r∈R)->(R'.map (·.2)).Nodup->(∀k,k∈R'.map (·.2)↔k∈R.map (·.2))->(R'.map (·.2)).Pairwise (λa b=>xm b a=false)->R'.length<=R.length->New H (.lst (R'.map λr=>V.ref r.1)) Q) :
  wpAny (model X.prog X.w) X.A (call (.type "set") [.ref p]) (λu s'=>wpAny (model X.prog X.w) X.A (call (.builtin "sorted") [u]) (EP X pins σ Q) X.xe s') X.xe s:=by
 obtain⟨aH,rv,pl,hz⟩:=I.list hq;have UK:aH=R.map λr=>Value.ref r.1:=by
  have h1:(R.map λr=>V.ref r.1)=(R.map (·.1)).map V.ref:=by rw[xO];rfl
  rw[h1]at rv;rw[jx rv,xO]
  rfl
 have hBt:∀r∈R,Bt X.prog X.w s.heap r.2 r.1:=λr hr=>Hs I (hR r hr).1;have hh:X.A.handled=none:=I.ok.hd hc;have old:∀{h:Heap},(∀b o,s.heap.get? b=some o->h.get? b=some o)->∀r∈R,Bt X.prog X.w h r.2 r.1:=λ{h} k r hr=>(hBt r hr).mono λo ho=>k _ o ho;refine on hh pl.isList (λi h=>∃L es ep t,h.get? s.heap.objs.size=some (yy es ep t)/\Rep L es t/\pw L t/\t.led=!byT X.w/\Good X.prog X.w h (L.map (·.2)) ((R.take i).map (·.2))/\L.length<=i/\(∀e∈L.map (·.2),∃r∈R,e.2 = .ref r.1)/\∀r∈R,Bt X.prog X.w h r.2 r.1) ?_ ?_ ?_ ?_
 ·rintro i h h' ⟨L,es,ep,t,e,r,r5,l,g,le,me,ob⟩ k;have kt:∀r∈R,Bt X.prog X.w h' r.2 r.1:=λr hr=>(ob r hr).mono λo ho=>k _ o (λz=>by
   obtain⟨o2,_,_,e2,_⟩:=hBt r hr;have:=zU e2;rw[z]at this;exact absurd this (uN.mpr (wG _))) ho
  refine⟨L,es,ep,t,k _ _ (zE (xD _)) e,r,r5,l,?_,le,me,kt⟩;have upE:∀e1 k1,e1∈L.map (·.2)->Elem X.prog X.w h e1 k1->Elem X.prog X.w h' e1 k1:=λe1 k1 oG x=>by
   obtain⟨r1,oE,er1⟩:=me e1 oG;obtain⟨b,eb,hb,hh1⟩:=x;rw[er1]at eb;cases eb;exact⟨r1.1,er1,by
    have e3:=(ob r1 oE).inj hb;subst e3;exact kt r1 oE,hh1⟩
  have dnE:∀e1 k1,e1∈L.map (·.2)->Elem X.prog X.w h' e1 k1->Elem X.prog X.w h e1 k1:=λe1 k1 oG x=>by
   obtain⟨k2,_,x2⟩:=g.in1 e1 oG;have:=(upE e1 k2 oG x2).inj x;subst this;exact x2
  exact⟨λe1 h1=>let⟨k1,a1,a2⟩:=g.in1 e1 h1;⟨k1,a1,upE e1 k1 h1 a2⟩,λk1 h1=>let⟨e1,a1,a2⟩:=g.in2 k1 h1;⟨e1,a1,upE e1 k1 a1 a2⟩,
   vK (λ{a b} ha hb A2 k1 x1 x2=>A2 k1 (dnE a k1 ha x1) (dnE b k1 hb x2)) g.one⟩
 ·refine⟨[],#[],0,_,zR _ rfl,⟨rfl,rfl,rfl,.nil,λx hx=>by simp at hx,.inl rfl,by simp⟩,(show 0*5<7*3 by decide),rfl,⟨λe he=>by simp at he,λk hk=>by simp at hk,.nil⟩,zT _,λe he=>by simp at he,old λb o e=>zY _ e⟩
 ·rintro i v A' s' Q' E' FG hv ⟨L,es,ep,t,e,r,r5,l,g,le,me,ob⟩ qq;rw[UK]at hv;have BZ:(R.map λr=>Value.ref r.1)[i]?=some v:=by simpa using hv
  rw[yU]at BZ;cases hri:R[i]? with
  |none=>rw[hri]at BZ;cases BZ
  |some r1 =>
   rw[hri]at BZ;cases BZ;have hm:=zN hri;have hi:i<R.length:=(zV.mp hri).1;refine O6 (by lia) r r5 (by lia) e g (ob r1 hm) λb h' tk L' fC oS t' e' sb r' r5' l' pl' g' le' me'=>qq b h' tk sb ⟨L',fC,oS,t',e',r',r5',l'.trans l,?_,by lia,λe1 oG=>?_,λr2 SW=>?_⟩
   ·rw[yY,hri,yW];exact g'
   ·rcases me' e1 oG with z|z
    ·exact me e1 z
    ·exact⟨r1,hm,z⟩
   ·obtain⟨o2,i2,n2,e2,c2,rest⟩:=ob r2 SW;exact⟨o2,i2,n2,cz e sb _ _ c2 e2,c2,rest⟩
 ·rintro h' tk ⟨L,es,ep,t,e,r,r5,l,g,le,me,ob⟩ keep;have Cf:aH.toArray.size=R.length:=by rw[UK,zQ,zX]
  rw[Cf]at g le;rw[yT]at g;have FM:es.toList=L.map (·.2):=by rw[r.es]
  have El:es.size=L.length:=by rw[r.es];simp
  have Bu:t.plain=true->t.place.toList.Pairwise (·<·):=λ_=>by rw[r.pl];exact r.up
  refine mf (s:={ s with heap:=h',toks:=tk }) hh e r.fits l Bu (by rw[El,zM];lia) λD h2 d tk2 ws hp Aw hD eD=>?_;rw[FM]at hp;have hrow:∀v∈ws,∃r1∈R,v = .ref r1.1:=λv hv=>by
   obtain⟨e1,oG,rfl⟩:=zC.mp (hp.mem_iff.mp hv);exact me e1 oG
  have pick:∀ws:List Value,(∀v∈ws,∃r1∈R,v = .ref r1.1)->∃R1:List (Addr×List Bool),(∀r1∈R1,r1∈R)/\ws=R1.map λr1=>Value.ref r1.1:=by
   intro ws
   induction ws with
   |nil=>exact λ_=>⟨[],by simp,rfl⟩
   |cons v ws ih =>
    intro CH;obtain⟨R1,h1,h2⟩:=ih λv hv=>CH v (zI _ hv);obtain⟨r1,oE,e1⟩:=CH v zB;refine⟨r1::R1,λy hy=>?_,by rw[e1,h2];rfl⟩;rcases zD.mp hy with rfl|hy
    ·exact oE
    ·exact h1 y hy
  obtain⟨R1,BV,ews⟩:=pick ws hrow;have pX:∀r1∈R,∀e1∈L.map (·.2),e1.2 = .ref r1.1->Elem X.prog X.w h' e1 r1.2:=λr1 oE e1 oG z=>by
   obtain⟨k1,_,b,eb,hb,hh1⟩:=g.in1 e1 oG;rw[z]at eb;cases eb;have:=(ob r1 oE).inj hb;subst this;exact⟨r1.1,z,hb,hh1⟩
  have jV:∀k,k∈R1.map (·.2)↔k∈R.map (·.2):=λk=>by
   constructor
   ·intro hk;obtain⟨r1,oE,rfl⟩:=zC.mp hk;exact yP (BV r1 oE)
   ·intro hk;obtain⟨e1,oG,hE⟩:=g.in2 k hk;have hv:e1.2∈ws:=hp.mem_iff.mpr (yP oG);rw[ews]at hv;obtain⟨r1,oE,er1⟩:=zC.mp hv;have:=(pX r1 (BV r1 oE) e1 oG er1.symm).inj hE;exact zC.mpr ⟨r1,oE,this⟩
  have BQ:(R1.map (·.2)).Nodup:=by
   have h1:((L.map (·.2)).map (·.2)).Pairwise λv v'=>∀r1∈R,∀r2∈R,v = .ref r1.1->v' = .ref r2.1->r1.2≠r2.2 :=
    uQ.mpr (vK (λ{a b} ha hb A2 r1 oE r2 SW z1 z2 z3=>A2 r1.2 (pX r1 oE a ha z1) (z3▸pX r2 SW b hb z2)) g.one)
   have h2:=(hp.pairwise_iff (λ{a b} A2 r1 oE r2 SW z1 z2 z3=>A2 r2 SW r1 oE z2 z1 z3.symm)).mpr h1;rw[ews]at h2;exact uQ.mpr (vK (λ{a b} ha hb A2 z=>A2 a (BV a ha) b (BV b hb) rfl rfl z) (uQ.mp h2))
  have hR1l:R1.length=L.length:=by
   have:=hp.length_eq;rw[ews]at this;simpa using this
  rw[ews]at eD;refine xW slot_list_sort ⟨_,eD,rfl⟩ entry_list_sort (W0 (prog:=X.prog) (w:=X.w) eD (λr1 oE=>⟨(ob r1 (BV r1 oE)).mono λo ho=>Aw _ o ho,(hR r1 (BV r1 oE)).2⟩) (by lia) λR2 h3 e3 pm up k3 eD3=>⟨_,rfl,?_⟩) (args_list_sort _);have Ey:s.heap.objs.size<=D:=yM (xP (zU e)) hD;have hn:H D=none:=I.hok.fresh Ey;have q2:=q R2 (λr1 oE=>BV r1 (pm.mem_iff.mp oE)) ((pm.map (·.2)).nodup_iff.mpr BQ) (λk=>((pm.map (·.2)).mem_iff).trans (jV k)) up (by rw[pm.length_eq];lia);refine⟨.ref D,upd H D (.lst (R2.map λr1=>V.ref r1.1)),?_,rfl,q2.at D hn⟩;refine(bn I d).laid (t':=tk2) (λb o eb=>?_) Ey ⟨?_,R2.map (λr1=>Value.ref r1.1),e3,?_,eD3⟩
  ·have TZ:b<s.heap.objs.size:=zU eb;exact k3 b o (zE (zG TZ Ey)) (Aw b o (keep b o eb))
  ·rw[zX,pm.length_eq,zM];lia
  ·have h1:(R2.map λr=>V.ref r.1)=(R2.map (·.1)).map V.ref:=by rw[xO];rfl
   have h2:(R2.map λr=>Value.ref r.1)=(R2.map (·.1)).map Value.ref:=by rw[xO];rfl
   rw[h1,h2];exact jc _
def mSS(K:W.Frag):V->Hp->VK->Prop:=λv H Q=>match v with
 | .ref p=>(∃ss:List Str,(SqL K H p (ss.map V.str)\/SqT K H p (ss.map V.str))/\ss.length+1<scanBound/\(∀cW:List Str,cW.Nodup->(∀x∈cW,x∈ss)->cW.length<64)/\∀cW:List Str,cW.Nodup->(∀x,x∈cW↔x∈ss)->sortedS cW=true->New H (.lst (cW.map V.str)) Q) \/
  ∃R:List (Addr×List Bool),SqL K H p (R.map λr=>V.ref r.1)/\(∀r∈R,SqT K H r.1 (r.2.map V.bl)/\r.2≠[])/\R.length<64 /\
   ∀R':List (Addr×List Bool),(∀r∈R',r∈R)->(R'.map (·.2)).Nodup->(∀k,k∈R'.map (·.2)↔k∈R.map (·.2))->(R'.map (·.2)).Pairwise (λa b=>xm b a=false)->R'.length<=R.length->New H (.lst (R'.map λr=>V.ref r.1)) Q
 |_=>False
theorem Gu{K:W.Frag}{H:Hp}{Q:VK}{p:Addr}:mSS K (.ref p) H Q=((∃ss:List Str,(SqL K H p (ss.map V.str)\/SqT K H p (ss.map V.str))/\ss.length+1<scanBound/\(∀cW:List Str,cW.Nodup->(∀x∈cW,x∈ss)->cW.length<64)/\∀cW:List Str,cW.Nodup->(∀x,x∈cW↔x∈ss)->sortedS cW=true->New H (.lst (cW.map V.str)) Q) \/
  ∃R:List (Addr×List Bool),SqL K H p (R.map λr=>V.ref r.1)/\(∀r∈R,SqT K H r.1 (r.2.map V.bl)/\r.2≠[])/\R.length<64 /\
   ∀R':List (Addr×List Bool),(∀r∈R',r∈R)->(R'.map (·.2)).Nodup->(∀k,k∈R'.map (·.2)↔k∈R.map (·.2))->(R'.map (·.2)).Pairwise (λa b=>xm b a=false)->R'.length<=R.length->New H (.lst (R'.map λr=>V.ref r.1)) Q):=rfl
def tSS(K:W.Frag)(te:TE):TE:=fun σ H Q=>te σ H λv H1=>mSS K v H1 Q
theorem ww{e:Expr}{te:TE}{p1 p2 pos1 BX:Pos}(hc:X.calm=true)(hu:X.A.units+64<cLine)(g1:Gl X "sorted")(m1:X.mg "sorted"=none)(g2:Gl X "set")(m2:X.mg "set"=none)(ha:PE X e te)
  (oG:starEach [.Call (.Name "set" p2) [e] [] BX] X.env=[(false,eval (.Call (.Name "set" p2) [e] [] BX) X.env)]:=by rfl) (CS:starEach [e] X.env=[(false,eval e X.env)]:=by rfl) :
  PE X (.Call (.Name "sorted" p1) [.Call (.Name "set" p2) [e] [] BX] [] pos1) (tSS X.K te):=by
 intro pins s σ H Q I h;refine xH (tq I g1 m1 Vf (PyProof.Rows.callWith_builtin1 ?_ oG rfl));rw[oG];refine(show wpAny _ _ (spliced ((false,eval (.Call (.Name "set" p2) [e] [] BX) X.env)::[])) _ _ s from Calls.spliced_cons ?_);refine xH (tq I g2 m2 Ls (wS ?_ CS rfl));rw[CS];refine(show wpAny _ _ (spliced ((false,eval e X.env)::[])) _ _ s from Calls.spliced_cons (thn (ha pins s σ H _ I h) λu s1 ⟨x,H1,I1,r1,q1⟩=>tU ?_));cases x with
 |ref a =>
  cases r1;rcases(show _\/_ from q1)with⟨ss,b1,b2,b3,b4⟩|⟨R,b1,b2,b3,b4⟩
  ·exact thn (Q7 hc I1 b1 b2 b3 b4) λu2 s2 h2=>tU h2
  ·exact thn (Q6 hc hu I1 b1 b2 b3 b4) λu2 s2 h2=>tU h2
 |_=>exact(show False from q1).elim
end
end
section
section
variable {X:Cx}
def mDN:TE:=λ_ H Q=>New H (.dK []) Q
def Md:O5:=λx y v H k=>match x with
 | .ref a=>(∃kvs ky,H a=some (.dK kvs)/\y=kV ky/\kvs.length<sizeLine/\k (upd H a (.dK (qe kvs ky v))))\/(∃xs i,∃j:Nat,H a=some (.lst xs)/\y = .int i/\i=(j:Int)/\j<xs.length/\k (upd H a (.lst (xs.set j v))))
 |_=>False
theorem Ki{a:Addr}{y v:V}{H:Hp}{k:Hp->Prop}:Md (.ref a) y v H k=((∃kvs ky,H a=some (.dK kvs)/\y=kV ky/\kvs.length<sizeLine/\k (upd H a (.dK (qe kvs ky v))))\/(∃xs i,∃j:Nat,H a=some (.lst xs)/\y = .int i/\i=(j:Int)/\j<xs.length/\k (upd H a (.lst (xs.set j v))))):=rfl
theorem Qz(hu:X.A.units+64<cLine):Lk X Md:=by
 intro pins s σ H o i v ov iv u Q I ro ri rv h;cases o with
 |ref a =>
  cases ro;rcases(show _\/_ from h)with⟨kvs,ky,e,rfl,hl,q⟩|⟨xs,i',j,e,rfl,rfl,hj,q⟩
  ·exact Vn (by lia) I (.inl ⟨kvs,ky,e,rfl,hl,rfl⟩) ri rv λs' I'=>⟨_,I',q⟩
  ·exact Uj pins s σ H (.ref a) _ v _ iv u Q I rfl ri rv ⟨a,xs,(j:Int),j,rfl,rfl,e,by unfold ixN;rw[zH (Int.natCast_nonneg j),zH (Int.ofNat_lt.mpr hj),xV],q⟩
 |_=>exact(show False from h).elim
theorem Jg{o i e:Expr}{to ti te:TE}{p1 p2:Pos}(hu:X.A.units+64<cLine)(ho:PE X o to)(hi:PE X i ti)(he:PE X e te)
  (ha:∀v,assign (.Subscript o i p1) X.env v=(do
   let ov <-holding [v] (eval o X.env)
   let iv <-holding [v,ov] (eval i X.env)
   standAt p1
   holding [v,ov,iv] (setItem ov iv v)
   release [v,ov,iv] []):=by intro _;rfl)
  (hs:swapsWithSole [.Subscript o i p1] e p2.line X.env=pure false:=by rfl) (hw:swappedStores [.Subscript o i p1] e X.env=pure none:=by rfl)
  (h1:(assignEach [.Subscript o i p1] X.env).map (·.2)=[assign (.Subscript o i p1) X.env]:=by rfl):PS X (.Assign [.Subscript o i p1] e p2) (Ux te (Ly to ti Md)):=M7 he (M4 ho hi (Qz hu) ha) hs hw h1
end
end
section
theorem wx{α:Type}[DecidableEq α]:∀{l m:List α},l.Nodup->(∀x∈l,x∈m)->l.length<=m.length
 |[],_,_,_=>yV _
 |a::l,m,hn,hs=>by
  rw[uW]at hn;have ha:=hs a zB;have ih:=wx (l:=l) (m:=m.erase a) hn.2 λx hx=>(List.mem_erase_of_ne (by intro z;subst z;exact hn.1 hx)).mpr (hs x (zI _ hx));rw[List.length_erase_of_mem ha]at ih;have:=tW ha;rw[yJ];lia
def leS(a b:Str):Prop:=ltCps b.cps.toList a.cps.toList=false
theorem leS_iff{a b:Str}:leS a b↔strKind.kle a.cps.toList b.cps.toList:=by
 unfold leS;rw[ltCps_eq];exact Iff.rfl
theorem V7{a b c:Str}(h1:leS a b)(h2:leS b c):leS a c:=leS_iff.mpr (uK (leS_iff.mp h1) (leS_iff.mp h2))
theorem Sk{a b:Str}(h1:leS a b)(h2:leS b a):a=b:=by
 have:=KeyOrd.kle_antisymm (leS_iff.mp h1) (leS_iff.mp h2);cases a;cases b
 congr 1
 exact wJ.mp this
theorem uc:∀(p:Str)(l:List Str),risingS p l=true->(p::l).Pairwise leS
 |p,[],_=>List.pairwise_singleton _ _
 |p,x::r,h=>by
  have h':(!ltCps x.cps.toList p.cps.toList&&risingS x r)=true:=h;rw[yN]at h';have hpx:leS p x:=by unfold leS;simpa using h'.1
  have ih:=uc x r h'.2;refine vC.mpr ⟨λy hy=>?_,ih⟩;rcases zD.mp hy with rfl|hy
  ·exact hpx
  ·exact V7 hpx ((vC.mp ih).1 y hy)
theorem ud:∀(l:List Str),sortedS l=true->l.Pairwise leS
 |[],_=>.nil
 |x::r,h=>uc x r h
theorem W1{a b:List Str}(h1:sortedS a=true)(h2:sortedS b=true)(n1:a.Nodup)(n2:b.Nodup)(he:∀x,x∈a↔x∈b):a=b :=
 List.Perm.eq_of_pairwise (λ_ _ _ _ x y=>Sk x y) (ud a h1) (ud b h2) ((List.perm_ext_iff_of_nodup n1 n2).mpr he)
theorem Qu{a b:List (List Bool)}(h1:a.Pairwise λx y=>xm y x=false)(h2:b.Pairwise λx y=>xm y x=false)(n1:a.Nodup)(n2:b.Nodup)(he:∀x,x∈a↔x∈b):a=b :=
 List.Perm.eq_of_pairwise (λ_ _ _ _ x y=>qw _ _ y x) h1 h2 ((List.perm_ext_iff_of_nodup n1 n2).mpr he)
open Classical in
theorem Jx(kvs:List (Key×V))(k:Key)(v:V):(qe kvs k v).map (·.1)=if k∈kvs.map (·.1)then kvs.map (·.1)else kvs.map (·.1)++[k]:=by
 unfold qe;have hk:(kvs.any λkv=>decide (kv.1=k))=true↔k∈kvs.map (·.1):=by
  rw[wT,zC];constructor
  ·rintro⟨x,h1,h2⟩;exact⟨x,h1,yZ h2⟩
  ·rintro⟨x,h1,h2⟩;exact⟨x,h1,zO h2⟩
 by_cases h:k∈kvs.map (·.1)
 ·rw[zH h,zH (hk.mpr h),xO];apply List.map_congr_left;intro x _;show(if x.1=k then(x.1,v)else x).1=x.1;split<;>rfl
 ·rw[zK h,zK (λz=>h (hk.mp z)),yW]
  rfl
end
end My
namespace My
open PySem PySem.Spec L2
open PyProof.Rows hiding St
def Say.subs:Say->List Say
 | .letter _=>[]
 | .neg s=>[s]
 | .bin _ s t=>[s,t]
theorem va(s:Say):s.pieces=1+(s.subs.map Say.pieces).sum:=by
 cases s<;>simp[Say.subs,Say.pieces]<;>lia
theorem qo{s:Say}(h:s.subs≠[]):s.letters=(s.subs.map Say.letters).flatten:=by
 cases s<;>simp[Say.subs,Say.letters]at h ⊢
theorem yl:∀s:Say,s.letters.length<=s.pieces
 | .letter _=>zT _
 | .neg s=>Nat.le_succ_of_le (yl s)
 | .bin _ s t=>by
  have h1:=yl s;have h2:=yl t;simp only[Say.letters,Say.pieces,zL];lia
theorem qi{K:W.Frag}{H:Hp}{v:V}{s:Say}(h:SayAt K H v s)(hn:s.subs≠[]):∃a wd us,v = .ref a/\SqT K H a (.str wd::us)/\decide (wd=Str.ofString "letter")=false/\us.length=s.subs.length/\us.length<=2/\∀(i:Nat) u,us[i]?=some u->∃t,s.subs[i]?=some t/\SayAt K H u t/\t.pieces<s.pieces:=by
 cases s with
 |letter x=>exact absurd rfl hn
 |neg t =>
  obtain⟨a,u,rfl,ha,ht⟩:=h;refine⟨a,_,[u],rfl,ha,w10,rfl,by simp,λi x hx=>?_⟩
  match i,hx with
  |0,hx =>
   cases hx;exact⟨t,rfl,ht,xD _⟩
  |i+1,hx=>simp at hx
 |bin o t t' =>
  obtain⟨a,u,u',rfl,ha,ht,rB⟩:=h;refine⟨a,_,[u,u'],rfl,ha,by cases o<;>first|exact w20|exact w30|exact w40,rfl,by simp,λi x hx=>?_⟩
  match i,hx with
  |0,hx =>
   cases hx;exact⟨t,rfl,ht,by simp only[Say.pieces];lia⟩
  |1,hx =>
   cases hx;exact⟨t',rfl,rB,by simp only[Say.pieces];lia⟩
  |i+2,hx=>simp at hx
theorem mx{α:Type}(x:α)(us:List α):atI (x::us) 0=some x:=mw (xs:=x::us) (j:=0) rfl
theorem p7(x:V)(us:List V):uz (x::us) (some 1) none=us:=by
 unfold uz;have e1:HT.sIx (x::us).length 0 (some 1)=1:=by
  show(if(1:Int)<0 then((1:Int)+((x::us).length:Int)).toNat else min (1:Int).toNat (x::us).length)=1;rw[zK (by decide)];show min 1 (us.length+1)=1;lia
 rw[e1,HT.sIx_none];show(us.take (us.length+1-1))=us;rw[Nat.add_sub_cancel,yT]
theorem ko:∀(ts:List Say),((ts.map Say.letters).flatten).length<=(ts.map Say.pieces).sum
 |[]=>zT _
 |t::ts=>by
  have h1:=yl t;have h2:=ko ts;simp only[List.map_cons,List.flatten_cons,zL,uC];lia
theorem ml(f:Say->Nat):∀(ts:List Say)(i:Nat),((ts.take i).map f).sum<=(ts.map f).sum
 |[],i=>by simp
 |t::ts,0=>by simp
 |t::ts,i+1=>by
  have:=ml f ts i;simp only[List.take_succ_cons,List.map_cons,uC];lia
end My
namespace My
open PySem PySem.Spec PySem.W PySem.Calls L2
open PyProof.Rows hiding St
section
section
variable {X:Cx}
theorem Op:OpR X (binaryOp .Pow) (mII Li λi j=>.int (i ^ j.toNat)):=uo Mw k9
def Oc(i j:Int):Prop:=0<j/\j.natAbs.log2<9000
theorem Tt:OpR X (binaryOp .FloorDiv) (rI Oc λi j=>.int (i / j)):=opI λi j _ _ _ _ _ hc q=>by
 have h1:(0:Int)<j:=hc.1;exact floordiv_int (by lia) (by rw[Int.fdiv_eq_ediv_of_nonneg i (by lia)];exact q) (.inl (PyProof.noPylong_of_log2 hc.2))
theorem Pp:OpR X (binaryOp .FloorDiv) (mII Oc λi j=>.int (i / j)):=uo Tt k9
def Gi(neg:Bool):R2:=λx y H Q=>y = .non/\Q (.bl (if neg then !decide (x = .non)else decide (x = .non))) H
def Gh:V->List V->Hp->VK->Prop:=λx vs H Q=>match x,vs with
 | .ref l,[.int i,y]=>∃xs,H l=some (.lst xs)/\xs.length<sizeLine/\0<=i/\i<2 ^ 62/\Q .non (upd H l (.lst (xs.take i.toNat++y::xs.drop i.toNat)))
 |_,_=>False
theorem J8{l:Addr}{i:Int}{y:V}{H:Hp}{Q:VK}:Gh (.ref l) [.int i,y] H Q=∃xs,H l=some (.lst xs)/\xs.length<sizeLine/\0<=i/\i<2 ^ 62/\Q .non (upd H l (.lst (xs.take i.toNat++y::xs.drop i.toNat))):=rfl
def Ge:V->List V->Hp->VK->Prop:=λx vs H Q=>match x,vs with
 | .ref l,[]=>∃xs,H l=some (.lst xs)/\Q .non (upd H l (.lst []))
 |_,_=>False
theorem Jz{l:Addr}{H:Hp}{Q:VK}:Ge (.ref l) [] H Q=∃xs,H l=some (.lst xs)/\Q .non (upd H l (.lst [])):=rfl
theorem Wx(bs:List Bool):(List.range bs.length).all (λi=>bs.getD i false)=bs.all id:=by
 have e:bs=(List.range bs.length).map λi=>bs.getD i false:=by
  apply uL
  ·simp
  ·intro i h1 h2;simp[h1]
 have:=xT (λl:List Bool=>l.all id) e;simp only[List.all_map]at this;exact this.symm
theorem Wy(bs:List Bool):(List.range bs.length).any (λi=>bs.getD i false)=bs.any id:=by
 have e:bs=(List.range bs.length).map λi=>bs.getD i false:=by
  apply uL
  ·simp
  ·intro i h1 h2;simp[h1]
 have:=xT (λl:List Bool=>l.any id) e;simp only[List.any_map]at this;exact this.symm
def mAA(g:List Bool->Bool)(K:W.Frag):List V->Hp->VK->Prop:=λxs H Q=>match xs with
 |[.ref p]=>∃bs:List Bool,SqL K H p (bs.map V.bl)/\Q (.bl (g bs)) H
 |_=>False
theorem Gq{g:List Bool->Bool}{K:W.Frag}{p:Addr}{H:Hp}{Q:VK}:mAA g K [.ref p] H Q=∃bs:List Bool,SqL K H p (bs.map V.bl)/\Q (.bl (g bs)) H:=rfl
theorem jt{prog:Program}{w:World}{A:Around}(bs:List Bool):TruthOf prog w A (λi v=>(bs.map Value.bool).toArray[i]?=some v) λi=>bs.getD i false:=λi v s Q E hv hQ=>by
 have:(bs[i]?).map Value.bool=some v:=by simpa using hv
 cases e:bs[i]? with
 |none=>rw[e]at this;cases this
 |some b =>
  rw[e]at this;cases this;refine wF ?_;have hQ':Q (bs.getD i false) s:=hQ;rw[yL,e]at hQ';exact hQ'
theorem Iy(hc:X.calm=true):wv X (.builtin "all") (mAA (λbs=>bs.all id) X.K):=by
 intro pins s σ H xs us Q I r h
 match xs,h with
 |[.ref p],h =>
  obtain⟨bs,hq,q⟩:=(show∃bs:List Bool,SqL X.K H p (bs.map V.bl)/\Q (.bl (bs.all id)) H from h)
  obtain⟨u,rfl,rx⟩:=vn r;cases rx;obtain⟨aH,rv,pl,hz⟩:=I.list hq;have e:=we rv;subst e;have bE:p<s.heap.objs.size:=by obtain⟨o,e,_⟩:=pl.isList;exact zU e
  refine call_all_walk (vN pl.isList ?_);refine⟨s.heap.objs.size,_,_,_,_,_,_,rfl,Walks.list (A:=X.A.in1) (I.ok.hd hc) _ p (zE bE) (bs.map Value.bool).toArray,⟨⟨_,zR _ rfl,rfl,rfl⟩,pl.isList.push _⟩,jt bs,λh' tk hk=>?_⟩;have hsz:(bs.map Value.bool).toArray.size=bs.length:=by simp
  rw[hsz,Wx];refine⟨.bl (bs.all id),H,?_,rfl,q⟩;exact I.kept λb o e=>hk b o (λz=>absurd (zU e) (by rw[zS.mp z];exact xA _)) (zY _ e)
theorem Iz(hc:X.calm=true):wv X (.builtin "any") (mAA (λbs=>bs.any id) X.K):=by
 intro pins s σ H xs us Q I r h
 match xs,h with
 |[.ref p],h =>
  obtain⟨bs,hq,q⟩:=(show∃bs:List Bool,SqL X.K H p (bs.map V.bl)/\Q (.bl (bs.any id)) H from h)
  obtain⟨u,rfl,rx⟩:=vn r;cases rx;obtain⟨aH,rv,pl,hz⟩:=I.list hq;have e:=we rv;subst e;have bE:p<s.heap.objs.size:=by obtain⟨o,e,_⟩:=pl.isList;exact zU e
  refine call_any_walk (vN pl.isList ?_);refine⟨s.heap.objs.size,_,_,_,_,_,_,rfl,Walks.list (A:=X.A.in1) (I.ok.hd hc) _ p (zE bE) (bs.map Value.bool).toArray,⟨⟨_,zR _ rfl,rfl,rfl⟩,pl.isList.push _⟩,jt bs,λh' tk hk=>?_⟩;have hsz:(bs.map Value.bool).toArray.size=bs.length:=by simp
  rw[hsz,Wy];refine⟨.bl (bs.any id),H,?_,rfl,q⟩;exact I.kept λb o e=>hk b o (λz=>absurd (zU e) (by rw[zS.mp z];exact xA _)) (zY _ e)
theorem Lo:bootBuiltins "all"=some (.builtin "all"):=by decide +kernel
theorem Lp:bootBuiltins "any"=some (.builtin "any"):=by decide +kernel
end
end
end My
namespace My
open PySem PySem.Spec L2
open PyProof.Rows hiding St
def SaysAt(K:W.Frag)(H:Hp):List V->List Say->Prop
 |[],[]=>True
 |v::vs,s::ss=>SayAt K H v s/\SaysAt K H vs ss
 |_,_=>False
theorem SaysAt.mono{K:W.Frag}{H H':Hp}(t:Tups H H'):∀{vs:List V}{ss:List Say},SaysAt K H vs ss->SaysAt K H' vs ss
 |[],[],_=>trivial
 |v::vs,s::ss,h=>⟨h.1.mono t,SaysAt.mono t h.2⟩
 |[],_::_,h=>h.elim
 |_::_,[],h=>h.elim
theorem SaysAt.app{K:W.Frag}{H:Hp}:∀{vs:List V}{ss:List Say}{vs':List V}{cW:List Say},SaysAt K H vs ss->SaysAt K H vs' cW->SaysAt K H (vs++vs') (ss++cW)
 |[],[],_,_,_,h=>h
 |v::vs,s::ss,_,_,h,h'=>⟨h.1,SaysAt.app h.2 h'⟩
 |[],_::_,_,_,h,_=>h.elim
 |_::_,[],_,_,h,_=>h.elim
theorem SaysAt.len{K:W.Frag}{H:Hp}:∀{vs:List V}{ss:List Say},SaysAt K H vs ss->vs.length=ss.length
 |[],[],_=>rfl
 |v::vs,s::ss,h=>by rw[yJ,yJ,SaysAt.len h.2]
 |[],_::_,h=>h.elim
 |_::_,[],h=>h.elim
def uf(ts:List Say):List Str:=(ts.map Say.letters).flatten
theorem Rm(a b:List Say):uf (a++b)=uf a++uf b:=by simp[uf]
def u3(k:List Bool):PyData:=.tuple (k.map PyData.bool)
def je(ks:List (List Bool)):PyData:=.list (ks.map u3)
theorem kr(K:W.Frag)(H:Hp):∀k:List Bool,HasL K H (k.map V.bl) (k.map PyData.bool)
 |[]=>by simp[HasL]
 |x::k=>by
  have ih:=kr K H k;rw[List.map_cons,List.map_cons];unfold HasL;exact⟨_,_,rfl,by unfold Has;rfl,ih⟩
theorem e9{K:W.Frag}{H:Hp}{a:Addr}{k:List Bool}(h:SqT K H a (k.map V.bl)):Has K H (.ref a) (u3 k):=by
 unfold u3 Has;exact⟨a,_,rfl,h,kr K H k⟩
theorem o9{K:W.Frag}{H:Hp}:∀{R:List (Addr×List Bool)},(∀r∈R,SqT K H r.1 (r.2.map V.bl))->HasL K H (R.map λr=>V.ref r.1) ((R.map (·.2)).map u3)
 |[],_=>by simp[HasL]
 |r::R,h=>by
  have ih:=o9 (R:=R) λq hq=>h q (zI _ hq);rw[List.map_cons,List.map_cons,List.map_cons];unfold HasL;exact⟨_,_,rfl,e9 (h r zB),ih⟩
theorem bh{K:W.Frag}{H:Hp}{p:Addr}{R:List (Addr×List Bool)}(h:SqL K H p (R.map λr=>V.ref r.1))(hr:∀r∈R,SqT K H r.1 (r.2.map V.bl)):Has K H (.ref p) (je (R.map (·.2))):=by
 unfold je Has;exact⟨p,_,rfl,h,o9 hr⟩
theorem Xt:∀k:List Bool,PyData.canLayAll0 (k.map PyData.bool)=true/\PyData.depthAll (k.map PyData.bool)=0
 |[]=>by simp[PyData.canLayAll0,PyData.depthAll]
 |x::k=>by
  obtain⟨h1,h2⟩:=Xt k;rw[List.map_cons];refine⟨?_,?_⟩
  ·rw[PyData.canLayAll0,h1,Bool.and_true,PyData.canLay0]
  ·rw[PyData.depthAll,h2,PyData.depth]
   rfl
theorem ng(k:List Bool):PyData.canLay0 (u3 k)=true/\PyData.depth (u3 k)=1:=by
 obtain⟨h1,h2⟩:=Xt k;unfold u3;exact⟨by rw[PyData.canLay0];exact h1,by rw[PyData.depth,h2]⟩
theorem Z3(k:List Bool):SeqAt.shaped (u3 k)=true:=by
 obtain⟨h1,h2⟩:=ng k;unfold SeqAt.shaped;rw[h1,h2]
 rfl
theorem k4:∀ks:List (List Bool),PyData.canLayAll0 (ks.map u3)=true/\PyData.depthAll (ks.map u3)<=1
 |[]=>by simp[PyData.canLayAll0,PyData.depthAll]
 |k::ks=>by
  obtain⟨h1,h2⟩:=k4 ks;obtain⟨a1,a2⟩:=ng k;rw[List.map_cons];refine⟨?_,?_⟩
  ·rw[PyData.canLayAll0,h1,Bool.and_true,a1]
  ·rw[PyData.depthAll,a2];lia
theorem oo(ks:List (List Bool)):SeqAt.shaped (je ks)=true:=by
 obtain⟨h1,h2⟩:=k4 ks;unfold SeqAt.shaped je;rw[PyData.canLay0,h1,PyData.depth];generalize PyData.depthAll (ks.map u3)=d at h2
 match d,h2 with
 |0,_=>rfl
 |1,_=>rfl
def NamesOf(ts:List Say)(ss:List Str):Prop:=ss.Nodup/\(∀x,x∈ss↔x∈uf ts)/\sortedS ss=true
theorem NamesOf.eq{ts:List Say}{a b:List Str}(h1:NamesOf ts a)(h2:NamesOf ts b):a=b:=W1 h1.2.2 h2.2.2 h1.1 h2.1 λx=>(h1.2.1 x).trans (h2.2.1 x).symm
def qg(ts:List Say)(hs:List Str):List Bool:=ts.map λt=>t.so hs
theorem sw(ts:List Say)(hs:List Str):(qg ts hs).length=ts.length:=by simp[qg]
def FitRows(ts:List Say)(ss:List Str)(ks:List (List Bool)):Prop:=ks.Nodup/\(∀k,k∈ks↔∃n,n<2 ^ ss.length/\k=qg ts (y9 (n:Nat) ss))/\ks.Pairwise (λa b=>xm b a=false)
theorem FitRows.eq{ts:List Say}{ss:List Str}{a b:List (List Bool)}(h1:FitRows ts ss a)(h2:FitRows ts ss b):a=b:=Qu h1.2.2 h2.2.2 h1.1 h2.1 λx=>(h1.2.1 x).trans (h2.2.1 x).symm
theorem mem_allL{x:Str}{ts:List Say}:x∈uf ts↔∃t∈ts,x∈t.letters:=by
 unfold uf;rw[List.mem_flatten];constructor
 ·rintro⟨l,hl,hx⟩;obtain⟨t,ht,rfl⟩:=zC.mp hl;exact⟨t,ht,hx⟩
 ·rintro⟨t,ht,hx⟩;exact⟨t.letters,yP ht,hx⟩
theorem SaysAt.at{K:W.Frag}{H:Hp}:∀{vs:List V}{ts:List Say},SaysAt K H vs ts->∀(i:Nat) v,vs[i]?=some v->∃t,ts[i]?=some t/\SayAt K H v t
 |[],[],_,i,v,h=>by simp at h
 |v::vs,t::ts,h,0,u,e=>by
  cases e;exact⟨t,rfl,h.1⟩
 |v::vs,t::ts,h,i+1,u,e=>by simpa using SaysAt.at h.2 i u (by simpa using e)
 |[],_::_,h,_,_,_=>h.elim
 |_::_,[],h,_,_,_=>h.elim
structure Lst(ts:List Say)(xs:List Str):Prop where
 lo:1<=ts.length
 hi:ts.length<=6
 pc:∀t∈ts,t.pieces<=40
 nm:∀x∈uf ts,x∈xs
 xl:xs.length<=5
 ok:∀x∈xs,Nm x
theorem Lst.names{ts:List Say}{xs ss:List Str}(l:Lst ts xs)(h:NamesOf ts ss):ss.length<=5/\∀x∈ss,Nm x :=
 ⟨yM (wx h.1 λx hx=>l.nm x ((h.2.1 x).mp hx)) l.xl,λx hx=>l.ok x (l.nm x ((h.2.1 x).mp hx))⟩
theorem kh:∀ts:List Say,(∀t∈ts,t.pieces<=40)->(uf ts).length<=40*ts.length
 |[],_=>zT _
 |t::ts,h=>by
  have h1:=yl t;have h2:=h t zB;have h3:=kh ts λu hu=>h u (zI _ hu);simp only[uf,List.map_cons,List.flatten_cons,zL,yJ]at h3 ⊢;lia
end My
namespace My
open PySem PySem.Spec PySem.W PySem.Calls L2
open PyProof.Rows hiding St
section
section
variable {X:Cx}
def Ik(K:W.Frag):V->List V->Hp->VK->Prop:=λx vs H Q=>match x,vs with
 | .ref l,[.ref b]=>∃xs zs,H l=some (.lst xs)/\(H b=some (.lst zs)\/SqT K H b zs)/\xs.length+zs.length<=sizeLine/\Q .non (upd H l (.lst (xs++zs)))
 |_,_=>False
theorem Nk{K:W.Frag}{l b:Addr}{H:Hp}{Q:VK}:Ik K (.ref l) [.ref b] H Q=∃xs zs,H l=some (.lst xs)/\(H b=some (.lst zs)\/SqT K H b zs)/\xs.length+zs.length<=sizeLine/\Q .non (upd H l (.lst (xs++zs))):=rfl
theorem Gy{C:Addr->Addr->Prop}{x:V}{vs:List V}(h:match x,vs with|.ref l,[.ref b]=>C l b|_,_=>False):∃l b,x = .ref l/\vs=[.ref b]/\C l b:=by
 cases x with
 |ref l =>
  cases vs with
  |nil=>exact(show False from h).elim
  |cons y t =>
   cases t with
   |nil =>
    cases y with
    |ref b=>exact⟨l,b,rfl,rfl,h⟩
    |_=>exact(show False from h).elim
   |cons _ _=>exact(show False from by cases y<;>exact h).elim
 |_=>exact(show False from by rcases vs with _|⟨y,_|⟨_,_⟩⟩<;>first|exact h|(cases y<;>exact h)).elim
theorem fk:MtR X "list.extend" (Ik X.K):=λpins s σ H x xs v us Q I rx rs h=>by
 obtain⟨l,b,rfl,rfl,ys,zs,e,e2,z,q⟩:=Gy (C:=λl b=>∃xs zs,H l=some (.lst xs)/\(H b=some (.lst zs)\/SqT X.K H b zs)/\xs.length+zs.length<=sizeLine/\Q .non (upd H l (.lst (xs++zs)))) h;rcases e2 with e2|e2
 ·exact Wf pins s σ H _ _ v us Q I rx rs ⟨l,b,ys,zs,rfl,rfl,e,e2,z,q⟩
 ·cases rx;obtain⟨u,rfl,ru⟩:=vn rs;cases ru;obtain⟨hz,aH,n,r,hl,el⟩:=I.lstM e;obtain⟨lA,r2,⟨o2,eb,B5,n2,Ep⟩,_⟩:=I.tuple e2;have rD:=r2.length;refine xW wH ⟨_,el,rfl⟩ F.entry_list_extend ?_ (F.args_list_extend_2 _ _);refine(show wpAny _ _ (Builtin.List.listExtendWith (.ref l) (.ref b) .none) _ _ s from ?_);unfold Builtin.List.listExtendWith;refine zZ (uI (T:="tuple") ⟨_,eb,B5⟩ ?_);simp only[show(Value.type "tuple"==Value.type "tuple")=true from by decide,Bool.or_true,if_true];refine zZ (listItems_at eb Ep (zZ (listItems_at el rfl ?_)));have hsz:aH.toArray.size+lA.toArray.size<=sizeLine:=by rw[zQ,zQ];lia
  rw[zK (by rw[b8 hsz,tP];exact zJ)];refine zZ (listUpdate_at el rfl ?_ (by rw[zQ];lia) (by rw[tQ];lia));refine zZ (zW (zW ⟨_,rfl,?_⟩));refine⟨.non,_,I.lset (its':=aH++lA) e el (by simp) (r.append r2) ?_,rfl,q⟩;rw[zL];lia
end
end
end My
namespace My
open PySem PySem.Spec L2
open PyProof.Rows hiding St
theorem tm{ts:List Say}{ss:List Str}{ks:List (List Bool)}(h:FitRows ts ss ks){k:List Bool}(hk:k∈ks):k.length=ts.length:=by
 obtain⟨n,_,e⟩:=(h.2.1 k).mp hk;rw[e];exact sw _ _
theorem Pg{ts:List Say}{ss:List Str}{R:List (Addr×List Bool)}(h:FitRows ts ss (R.map (·.2))):1<=R.length:=by
 have:qg ts (y9 ((0:Nat):Int) ss)∈R.map (·.2):=(h.2.1 _).mpr ⟨0,Nat.two_pow_pos _,rfl⟩;have:=tW this;rw[zX]at this;exact this
end My
namespace My
open PySem PySem.Spec PySem.W PySem.Calls L2
open AutoSeq1 (wpAny_loadPart')
open PyProof.Rows hiding St
section
variable {X:Cx}{pins:List (Addr×Obj)}{σ:St}{H:Hp}{s:Shared}{h':Heap}
theorem np{t':Nat}(L:List Addr)(I:Inv X pins σ H s)(hf:∀b∈L,qu X pins H b)(k:∀b o,b∉L->s.heap.get? b=some o->h'.get? b=some o):Inv X pins σ H { s with heap:=h',toks:=t' }:=by
 have M':∀b u,H b=some u->b∉L:=λb u e z=>by rw[(hf b z).1]at e;cases e
 refine I.step (g':=s.gens) (d':=s.drawn) (ch:=L) (λb hb=>⟨(hf b hb).2.2.2.1,(hf b hb).2.1,(hf b hb).2.2.2.2.1,(hf b hb).2.2.2.2.2⟩) (λb o _ _ hc e _=>k b o hc e) (λb o _ _ hc e _=>⟨o.slots,k b o hc e⟩) (λ_ _ _ _ n=>n)
  (λb o hc e=>⟨o,k b o hc e⟩) (λ_ _ e=>e) (λ_ _ _ e=>e) (λb ps e=>⟨#[],by rw[e];simp⟩) (λm hm=>?_) (λb u e=>?_) I.bare
 ·obtain⟨o,es,ep,ho,r⟩:=hm;exact⟨o,es,ep,k _ o (λz=>(hf _ z).2.1 rfl) ho,r⟩
 ·refine(I.hok b u e).stay (λc v hc q=>k c v (hc.elim (λz=>by rw[z];exact M' b u e) λz=>M' c _ z) q) (λ_ q=>q) λ_ _ q=>q
end
section
variable {prog:Program}{w:World}{A:Around}{E:Value->Shared->Prop}{s:Shared}
theorem j6{it t:Addr}{i:Nat}{items:Array Value}{x:Value}{Q:Value->Shared->Prop}(sO:s.heap.IsTupleIter it t i)(ht:s.heap.IsTuple t items)(hx:items[i]?=some x)
  (hQ:∀h',h'.IsTupleIter it t (i+1)->Heap.SameBut it s.heap h'->Q x { s with heap:=h' }):wpAny (model prog w) A (Builtin.SmallTypes.nextOf (.ref it)) Q E s:=by
 obtain⟨o,ho,hc,hd⟩:=id sO;obtain⟨ol,BO,_,nl,A1⟩:=ht;unfold Builtin.SmallTypes.nextOf;refine zZ (xM (name:=Str.ofString "__next__") sO.typeIs vW (xW vW sO.typeIs F.entry_tuple_iterator_next ?_ (F.args_tuple_iterator_next_1 _)));show wpAny _ _ (field (.ref it) 0 >>= _) _ _ s;refine zZ (yC ho hd (x:=.ref t) rfl ?_);show wpAny _ _ (if(Value.ref t==Value.none)=true then _ else _) _ _ s;rw[zK (show¬((Value.ref t==Value.none)=true)from zJ)];show wpAny _ _ (field (.ref it) 1 >>= _) _ _ s;refine zZ (yC ho hd (x:=.int i 0) rfl ?_);show wpAny _ _ (seqItems? (.ref t) >>= _) _ _ s;refine zZ (wR BO A1 ?_);simp only[xV,hx];refine zZ (tN ho hd (by simp) (zW ⟨x,rfl,zW (hQ _ ⟨_,yD _ ho (vU (wU hd _)),(Obj.cls_mapFields ..).trans hc,by rw[wU hd];simp[rawInt]⟩ (Heap.SameBut.update ..))⟩))
theorem fq{it t:Addr}{i:Nat}{items:Array Value}{Q:Value->Shared->Prop}(hh:A.handled=none)(sO:s.heap.IsTupleIter it t i)(ht:s.heap.IsTuple t items)(hx:items[i]?=none)
  (hE:∀h' e,Heap.ExtBut it s.heap h'->(∃o,h'.get? e=some o/\o.cls = .type "StopIteration")->E (.ref e) { s with heap:=h' }):wpAny (model prog w) A (Builtin.SmallTypes.nextOf (.ref it)) Q E s:=by
 obtain⟨o,ho,hc,hd⟩:=id sO;obtain⟨ol,BO,_,nl,A1⟩:=ht;unfold Builtin.SmallTypes.nextOf;refine zZ (xM (name:=Str.ofString "__next__") sO.typeIs vW (xW vW sO.typeIs F.entry_tuple_iterator_next ?_ (F.args_tuple_iterator_next_1 _)));show wpAny _ _ (field (.ref it) 0 >>= _) _ _ s;refine zZ (yC ho hd (x:=.ref t) rfl ?_);show wpAny _ _ (if(Value.ref t==Value.none)=true then _ else _) _ _ s;rw[zK (show¬((Value.ref t==Value.none)=true)from zJ)];show wpAny _ _ (field (.ref it) 1 >>= _) _ _ s;refine zZ (yC ho hd (x:=.int i 0) rfl ?_);show wpAny _ _ (seqItems? (.ref t) >>= _) _ _ s;refine zZ (wR BO A1 ?_);simp only[xV,hx];refine zZ (tG (zZ (tN ho hd (by simp) ?_)));show wpAny _ _ (newExc (.type "StopIteration") [] >>= _) _ _ _;refine zZ ?_;simp only[newExc,newTuple];refine zZ (yB ?_ (by size_fits));refine zZ (m:=firstArgMember _ _) (wpAny_of_eq (a:=Value.none) (by first|rfl|(simp only[firstArgMember];rfl)) ?_);refine yB ?_ (by size_fits);simp only[raiseNew];refine zZ (wpAny_handled ?_);first|rw[show A.in1.handled=none from hh]|rw[hh]
 refine zZ (zW (wpAny_throw (hE _ _ (((Heap.SameBut.update ..).extBut.push _).push _) ⟨_,zR _ rfl,rfl⟩)))
end
theorem Vz{h h':Heap}{t it:Addr}{items:Array Value}(x:h.IsTuple t items)(hs:Heap.ExtBut it h h')(gQ:t≠it):h'.IsTuple t items:=let⟨o,ho,r⟩:=x;⟨o,hs t o gQ ho,r⟩
theorem uv{prog:Program}{w:World}{A:Around}(hh:A.handled=none)(it t:Addr)(gQ:t≠it)(items:Array Value):Draws prog w A it [it,t] items.size (λi v=>items[i]?=some v) (λi h=>h.IsTupleIter it t i/\h.IsTuple t items)where
 live:=λ_ _ st=>st.1.elim λo ho=>⟨o,ho.1⟩
 frame:=λ_ _ _ st hk=>⟨st.1.at λo e=>hk it (by simp) o e,st.2.elim λo ho=>⟨o,hk t (by simp) o ho.1,ho.2⟩⟩
 item:=λi s Q E hi st hQ=>j6 st.1 st.2 (x:=items[i]) (by simp[hi]) λh' hit' FI=>hQ _ h' s.toks (by simp[hi]) ⟨hit',Vz st.2 FI.extBut gQ⟩ FI
 done:=λs Q E st hE=>fq hh st.1 st.2 (by simp) hE
end My
namespace My
open PySem PySem.Spec PySem.W PySem.Calls L2
open AutoSeq1 (wpAny_loadPart')
open PyProof.Rows hiding St
def mm(t:Addr):Obj:={ cls:=.type "tuple_iterator",data:=.fields #[.ref t,.int 0 0] }
def Y2(it:Addr):Obj:={ cls:=.type "enumerate",data:=.fields #[.none,.bool false,.ref it,rawInt 0,.none,.none] }
theorem Vo(l:Addr)(items:Array Value):Meets (Builtin.«enumerate.__new__» ⟨[.type "enumerate",.ref l],[]⟩) (λ_ R s=>s.heap.IsTuple l items /\
  R (.ok (.ret (.ref (s.heap.push (mm l)).objs.size))) { s with heap:=(s.heap.push (mm l)).push (Y2 s.heap.objs.size) }) :=
 .of_wp λprog w A R s h=>by
  obtain⟨hp,g,d,tk,os⟩:=s;obtain⟨hL,h⟩:=h;have rY:=sub_enumerate;obtain⟨o,hl,hc,n,hd⟩:=id hL;replace hL:Heap.IsTuple (Shared.heap ⟨hp,g,d,tk,os⟩) l items:=hL
  wp_walk using vS hl
  refine wpAny_stack_any λst=>zW ?_;split
  ·rename_i c _ _ _ _ _;cases(c==Value.type "enumerate")
   ·wp_walk using vS hl,wK hL;exact⟨_,rfl,h⟩
   ·wp_walk using vS hl,wK hL;exact⟨_,rfl,h⟩
  ·wp_walk using vS hl,wK hL;exact⟨_,rfl,h⟩
section
variable {prog:Program}{w:World}{A:Around}{E:Value->Shared->Prop}{s:Shared}
theorem Yy{l:Addr}{items:Array Value}{Q:Value->Shared->Prop}(hL:s.heap.IsTuple l items)
  (h:∀h',IsEnum h' (s.heap.objs.size+1) s.heap.objs.size 0 .none->h'.IsTupleIter s.heap.objs.size l 0->(∀b o,s.heap.get? b=some o->h'.get? b=some o)->Q (.ref (s.heap.objs.size+1)) { s with heap:=h' }) :
  wpAny (model prog w) A (call (.type "enumerate") [.ref l]) Q E s:=by
 refine callType_new F.called_enumerate (by decide) (F.typeCall_enumerate_1 _) (F.newCall_enumerate_1 _) (λobj=>F.args_object_init_2 obj _) F.entry_enumerate_new (Vo l items) ⟨hL,?_⟩;have hz:(s.heap.push (mm l)).objs.size=s.heap.objs.size+1:=xL ..;show _/\_;rw[hz];have he:IsEnum ((s.heap.push (mm l)).push (Y2 s.heap.objs.size)) (s.heap.objs.size+1) s.heap.objs.size 0 .none:=by
  have:=zR (s.heap.push (mm l)) (o:=Y2 s.heap.objs.size) rfl;rw[hz]at this;exact this
 exact⟨⟨_,he,rfl⟩,h _ he ⟨_,zY _ (zR _ rfl),rfl,rfl⟩ λb o x=>zY _ (zY _ x)⟩
end
theorem ki{h:Heap}{a e it:Addr}{items:Array Value}{i:Int}{j:Nat}{old:Value}(ha:h.IsTuple a items)(he:IsEnum h e it i old)(hi:h.IsTupleIter it a j):∀b∈[e,it],a≠b:=λb hb z=>by
 obtain⟨o,e1,c1,_⟩:=ha;subst z;rcases zD.mp hb with z|z
 ·have FO:h.get? e=some _:=he;rw[<-z,e1]at FO;have:=yX FO;rw[this]at c1;simp at c1
 ·have z:=zS.mp z;obtain⟨o2,e2,c2,_⟩:=hi;rw[<-z,e1]at e2;cases e2;rw[c1]at c2;simp at c2
def Ite(K:W.Frag)(a:Addr):It :=
 ⟨λi H=>∃xs x,SqT K H a xs/\xs[i]?=some x,λi H v H'=>∃p x,v = .ref p/\H p=none/\H'=upd H p (.tup [.int (i:Int),x])/\∀xs,SqT K H a xs->xs[i]?=some x,λi H=>∃xs,SqT K H a xs/\xs.length=i⟩
theorem ai{P:Program}{w:World}{K:W.Frag}{sR:List Expr}{k:Nat}{pos:Pos}(a e it:Addr)(hei:e≠it):d4 P w K (.Tuple sR k pos) (Ite K a) [e,it] e (λi h=>(∃old,IsEnum h e it ((i:Nat):Int) old)/\h.IsTupleIter it a i)where
 mem:=by simp
 obj:=λi h st b hb=>by
  obtain⟨⟨old,he⟩,hi⟩:=st;rcases zD.mp hb with rfl|hb
  ·exact⟨_,he,λv z=>by cases(show Data.fields _=Data.cell v from z)⟩
  ·rw[zS.mp hb];obtain⟨o,e1,c,d⟩:=hi;exact⟨o,e1,λv z=>by rw[d]at z;cases z⟩
 keep:=λi h h' st kk=>⟨st.1.imp λold he=>kk e (by simp) _ he,st.2.at λo e1=>kk it (by simp) o e1⟩
 item:=by
  intro X hP hw hK hc i pins s σ H E I hf st hg;subst hP hw hK;obtain⟨xs,x,hq,hx⟩:=hg;obtain⟨aH,rv,p,hz⟩:=I.tuple hq;obtain⟨u,hu,ru⟩:=rv.get hx;obtain⟨⟨old,he⟩,hi⟩:=st;have sO:s.heap.IsTuple a aH.toArray:=p;have hilt:i<aH.toArray.size:=by
   have:=(zV.mp hu).1;simpa using this
  have hae:∀b∈[e,it],a≠b:=ki sO he hi;refine wpAny_pyNext_enum_itemD (uv (A:=X.A.in1) (I.ok.hd hc) it a (hae it (by simp)) aH.toArray) he ⟨hi,sO⟩ hilt hei (λz=>by
   rcases zD.mp z with z|z
   ·exact hei z
   ·exact hae e (by simp) (zS.mp z).symm) λy h1 tk hy ho hs1 hT hsz hk=>?_
  have ey:y=u:=by
   have h1:aH.toArray[i]?=some y:=hy;have h2:aH.toArray[i]?=some u:=by simpa using hu
   rw[h2]at h1;exact(yX h1).symm
  subst ey;refine⟨_,rfl,wpAny_letOwnedTupleGo_enum (s:={ s with heap:=h1,toks:=tk+1 }) ho λh2 CS rC=>?_⟩;have kG:e<s.heap.objs.size:=zU he;have fr:H s.heap.objs.size=none:=I.hok.fresh (zT _);have I1:Inv X pins σ (upd H s.heap.objs.size (.tup [.int (i:Int),x])) { s with heap:=s.heap.push { cls:=.type "tuple",data:=.seq #[.int i tk,y] },toks:=tk } :=
   I.laid (λb o e1=>zY _ e1) (zT _) ⟨by simp only[yJ,wO];rw[zM];decide,[.int i tk,y],.cons ⟨_,rfl⟩ (.cons ru .nil),⟨_,zR _ rfl,rfl,_,rfl⟩⟩
  have lt2:∀b∈[e,it],b<s.heap.objs.size:=λb hb=>by
   rcases zD.mp hb with rfl|hb
   ·exact kG
   ·rw[zS.mp hb];obtain⟨o,e1,_⟩:=hi;exact zU e1
  have TU:∀b∈[e,it],qu X pins (upd H s.heap.objs.size (.tup [.int (i:Int),x])) b:=λb hb=>⟨by rw[zj (zE (lt2 b hb))];exact(hf b hb).1,(hf b hb).2⟩
  have I2:Inv X pins σ (upd H s.heap.objs.size (.tup [.int (i:Int),x])) { s with heap:=h2,toks:=tk+1 }:=np (s:={ s with heap:=s.heap.push { cls:=.type "tuple",data:=.seq #[.int i tk,y] },toks:=tk }) [e,it] I1 TU λb o hb e1=>by
   have AV:b≠e:=λz=>hb (by simp[z]);have hbi:b≠it:=λz=>hb (by simp[z]);refine(rC.2 b AV).trans ?_;rcases Heap.get?_push_cases e1 with⟨rfl,rfl⟩|e1
   ·exact hT
   ·exact hk b o AV hbi e1
  exact⟨.ref s.heap.objs.size,upd H s.heap.objs.size (.tup [.int (i:Int),x]),I2,rfl,⟨_,x,rfl,fr,rfl,λys DW=>by rw[I.tuple_inj DW hq];exact hx⟩,⟨⟨_,by simpa using CS⟩,hs1.1.at λo e1=>(rC.2 it (wY hei)).trans e1⟩,λb hb=>(TU b hb).1⟩
 done:=by
  intro X hP hw hK hc i pins s σ H E I hf st hg;subst hP hw hK;obtain⟨xs,hq,hx⟩:=hg;obtain⟨aH,rv,p,hz⟩:=I.tuple hq;obtain⟨⟨old,he⟩,hi⟩:=st;have sO:s.heap.IsTuple a aH.toArray:=p;have hae:∀b∈[e,it],a≠b:=ki sO he hi;have hl:aH.toArray.size=i:=by rw[zQ,<-rv.length];exact hx
  refine wpAny_pyNext_enum_endD (uv (A:=X.A.in1) (I.ok.hd hc) it a (hae it (by simp)) aH.toArray) he ⟨by rw[hl];exact hi,sO⟩ λh1 eb=>⟨rfl,np (t':=s.toks) [e,it] I hf λb o hb e1=>eb b o (λz=>hb (by simp[z])) e1⟩
 self:=λ_ _ _ _ _ st h=>by
  obtain⟨⟨old,he⟩,_⟩:=st;exact wpAny_pyIter_enum he h
end My
namespace My
open PySem PySem.Spec PySem.W PySem.Calls L2
open PyProof.Rows hiding St
section
section
variable {X:Cx}
theorem Pb:bootBuiltins "enumerate"=some (.type "enumerate"):=by decide +kernel
def iEn(K:W.Frag)(ta:TA):TI:=fun σ H R=>ta σ H (on1 (cq λa H1=>(∃xs,SqT K H1 a xs)/\R (Ite K a) H1))
theorem Mf{sR:List Expr}{kk:Nat}{pt:Pos}{a:Expr}{ta:TA}{p pos:Pos}(hg:Gl X "enumerate")(hm:X.mg "enumerate"=none)(ha:PA X [a] ta)(hs:starEach [a] X.env=[(false,eval a X.env)]:=by rfl):
  PI X (.Tuple sR kk pt) (.Call (.Name "enumerate" p) [a] [] pos) (iEn X.K ta):=by
 intro pins s σ H R I h;refine Call_ (tq I hg hm Pb (wS (thn (ha pos pins s σ H _ I h) λus s1 ⟨vs,H1,I1,r1,q1⟩=>?_) hs rfl));rcases vs with _|⟨x,_|⟨y,rr⟩⟩
 ·exact(show False from q1).elim
 ·cases x with
  |ref b =>
   obtain⟨⟨xs,hq⟩,q⟩:=(show(∃xs,SqT X.K H1 b xs)/\R (Ite X.K b) H1 from q1)
   cases r1 with
   |cons r rr =>
    cases rr;cases r;obtain⟨aH,rv,p1,hz⟩:=I1.tuple hq;refine Yy (show s1.heap.IsTuple b aH.toArray from p1) λh' he hi hk=>?_;refine wpAny_pyIter_enum (s:={ s1 with heap:=h' }) he ?_;have I2:Inv X pins σ H1 { s1 with heap:=h' }:=I1.kept (t':=s1.toks) hk;refine⟨_,[s1.heap.objs.size+1,s1.heap.objs.size],_,_,H1,rfl,I2,ai b _ _ (Nat.succ_ne_self _),⟨⟨_,he⟩,hi⟩,λc hc=>?_,q⟩;have AS:s1.heap.objs.size<=c:=by
     rcases zD.mp hc with rfl|hc
     ·exact wG _
     ·rw[zS.mp hc];exact zT _
    exact I1.fpOk AS (I1.hok.fresh AS)
  |_=>exact(show False from q1).elim
 ·exact(show False from q1).elim
end
end
end My
namespace My
open PySem PySem.Spec L2
open PyProof.Rows hiding St
structure JudgesAt(K:W.Frag)(H:Hp)(a:Addr)(J:List (Addr×List Bool))(m:Nat):Prop where
 sq:SqT K H a (J.map λr=>V.ref r.1)
 row:∀r∈J,SqT K H r.1 (r.2.map V.bl)
 len:∀r∈J,r.2.length=m
 lo:1<=J.length
 hi:J.length<=100
theorem JudgesAt.mono{K:W.Frag}{H H':Hp}{a:Addr}{J:List (Addr×List Bool)}{m:Nat}(t:Tups H H')(h:JudgesAt K H a J m):JudgesAt K H' a J m:=⟨t.sqT h.sq,λr hr=>t.sqT (h.row r hr),h.len,h.lo,h.hi⟩
end My
namespace My
open PySem PySem.Spec L2
open PyProof.Rows hiding St
section
variable {X:Cx}
def Iw(K:W.Frag):List V->Hp->VK->Prop:=λxs H Q=>match xs with
 |[.ref p]=>∃ns:List Int,SqL K H p (ns.map V.int)/\Q (.int ns.sum) H
 |_=>False
theorem Kl{K:W.Frag}{H:Hp}{Q:VK}{p:Addr}:Iw K [.ref p] H Q=(∃ns:List Int,SqL K H p (ns.map V.int)/\Q (.int ns.sum) H):=rfl
theorem Zu{ns:List Int}{aH:List Value}{xs:Array (Int×Tok)}(hi:IntsAre aH ns)(hx:aH.toArray=intItems xs):preSum (numAt xs) xs.size=ns.sum:=by
 have h1:numsOf aH.toArray.toList=ns:=hi.numsOf;rw[hx,nums_intItems]at h1;have h2:=preSum_eq xs xs.size;rw[h1]at h2;rw[h2]
 congr 1
 rw[<-h1];exact vF (uZ (by simp))
theorem Ji(hc:X.calm=true):wv X (.builtin "sum") (Iw X.K):=by
 intro pins s σ H xs us Q I r h
 match xs,h with
 |[.ref p],h =>
  obtain⟨ns,hq,q⟩:=(show∃ns:List Int,SqL X.K H p (ns.map V.int)/\Q (.int ns.sum) H from h)
  obtain⟨u,rfl,rx⟩:=vn r;cases rx;obtain⟨aH,rv,pl,hz⟩:=I.list hq;have hi:=Y7 rv;obtain⟨ys,hy⟩:=hi.allInts.items;have hl:s.heap.IsList p (intItems ys):=hy▸pl.isList;refine sum_intListG (I.ok.hd hc) hl λh' tk t' hk=>?_;rw[Zu hi hy];exact⟨.int ns.sum,H,I.kept hk,⟨t',rfl⟩,q⟩
theorem Lu:bootBuiltins "sum"=some (.builtin "sum"):=by decide +kernel
end
structure Fx(K:W.Frag)(x:Str)(st:Stmt)(f:Addr)(fd:FuncData):Prop where
 ex:∃(oc:Value)(od:Option Addr)(dV kV doc pm:Value)(an:Option Addr)(cdv ct:Value)(osl:Array (Option Value)),
  fd=W.fnOf x x (zu st) (zw st) (z4 st) dV kV doc pm an cdv ct/\K.lookup f=some ⟨oc,od,.func fd,osl⟩/\W.codeIn K cdv x=true
 kp:W.keepIn K (.ref f)=true
structure Ft(K:W.Frag)(mg:Str->Option Value)(x:Str)(st:Stmt)(ps:List Str)(ds:List Value):Prop where
 ex:∃(f:Addr)(fd:FuncData),Fx K x st f fd/\Binds K fd ps []/\Binds K fd ps ds/\mg x=some (.ref f)
structure G3(P:Program)(w:World)(K:W.Frag)(mg:Str->Option Value)(base:Heap)(k:Nat)(x:Str)(ps:List Str)(ds:List Value)(sp:Sp):Prop where
 ex:∃(f:Addr)(fd:FuncData),FnOk P w K mg base CX0 k f fd ps sp/\Binds K fd ps []/\Binds K fd ps ds/\W.keepIn K (.ref f)=true/\mg x=some (.ref f)
section
variable {P:Program}{w:World}{K:W.Frag}{mg:Str->Option Value}{base:Heap}
end
section
variable {X:Cx}
def Jn(R:It->Hp->Prop):List V->Hp->Prop:=λvs H=>match vs with
 |[.int i,.int j]=>(-(2 ^ 62)<=i/\i<2 ^ 62/\-(2 ^ 62)<=j/\j<2 ^ 62)/\R (Itr i (j-i).toNat) H
 |_=>False
theorem Qb{R:It->Hp->Prop}{i j:Int}{H:Hp}:Jn R [.int i,.int j] H=((-(2 ^ 62)<=i/\i<2 ^ 62/\-(2 ^ 62)<=j/\j<2 ^ 62)/\R (Itr i (j-i).toNat) H):=rfl
def iR2(ta:TA):TI:=fun σ H R=>ta σ H (Jn R)
end
theorem k7{J:It}{n:Nat}{g:TG}{tb:TS}{D:ue}{σ:St}{H:Hp}(Pv:Nat->St->Hp->Prop)(h0:Pv 0 σ H)
  (hgo:∀i σ H,i<n->Pv i σ H->J.go i H) (iH:∀σ H,Pv n σ H->J.stop n H)
  (hs:∀i v σ H H',i<n->Pv i σ H->J.yld i H v H'->g v σ H' fun σ2 H2=>tb { D with nx:=Pv (i+1),ct:=Pv (i+1),bk:=D.nx } σ2 H2) (hd:∀σ H,Pv n σ H->D.nx σ H):aq g tb J D σ H:=by
 refine⟨λi m σ H=>m=n-i/\i<=n/\Pv i σ H,⟨n,by simp,yV _,h0⟩,?_⟩;rintro i m σ H ⟨rfl,hi,p⟩
 by_cases bE:i<n
 ·exact .inr ⟨hgo i σ H bE p,Pv (i+1),fun σ' H' p'=>⟨n-(i+1),by lia,rfl,bE,p'⟩,λx H' y=>hs i x σ H H' bE p y⟩
 ·have e:i=n:=by lia
  subst e;exact .inl ⟨iH σ H p,hd σ H p⟩
theorem Y9{K:W.Frag}{a:Addr}{xs:List V}{j k:Nat}{tb:TS}{D:ue}{σ:St}{H:Hp}(Pv:Nat->St->Hp->Prop)(h0:Pv 0 σ H)(hl:∀i σ H,i<=xs.length->Pv i σ H->SqT K H a xs)
  (hs:∀(i:Nat) x σ H H',xs[i]?=some x->Pv i σ H->Same H H'->tb { D with nx:=Pv (i+1),ct:=Pv (i+1),bk:=D.nx } (sv (sv σ j (.int (i:Int))) k x) H') (hd:∀σ H,Pv xs.length σ H->D.nx σ H) :
  aq (mG2 K j k) tb (Ite K a) D σ H :=
 k7 (n:=xs.length) Pv h0 (λi σ H hi p=>⟨xs,xs[i],hl i σ H (xP hi) p,by simp[hi]⟩) (fun σ H p=>⟨xs,hl _ σ H (zT _) p,rfl⟩) (λi v σ H H' hi p y=>by
  obtain⟨b,x,rfl,hn,rfl,hx⟩:=y;exact⟨b,_,_,rfl,SqT.of zy,hs i x σ H _ (hx xs (hl i σ H (xP hi) p)) p (vx hn _)⟩) hd
end My
namespace My
open PySem PySem.Spec PySem.W PySem.Calls L2
open PyProof.Rows hiding St
section
theorem xa{h:Heap}{a b:Addr}{oa ob:Obj}(ha:h.get? a=some oa)(hb:h.get? b=some ob)(hc:oa.cls≠ob.cls):a≠b:=λz=>by
 subst z;rw[ha]at hb;cases hb;exact hc rfl
def Fu(z tI tO i1 i2 l1 l2:Addr)(i:Nat)(h:Heap):Prop:=IsZip h z tI tO .none/\IsPair h tI (.ref i1) (.ref i2)/\(∃u v,IsPair h tO u v)/\h.IsListIter i1 l1 i/\h.IsListIter i2 l2 i
def Itz(K:W.Frag)(a b:Addr):It :=
 ⟨λi H=>∃xs ys x y,SqL K H a xs/\SqL K H b ys/\xs[i]?=some x/\ys[i]?=some y,λi H v H'=>∃p x y,v = .ref p/\H p=none/\H'=upd H p (.tup [x,y])/\(∀xs,SqL K H a xs->xs[i]?=some x)/\∀ys,SqL K H b ys->ys[i]?=some y,λi H=>∃xs ys,SqL K H a xs/\SqL K H b ys/\xs.length=i/\ys.length=i⟩
section
variable {X:Cx}
theorem Lv:bootBuiltins "zip"=some (.type "zip"):=by decide +kernel
def onZ(K:W.Frag)(R:It->Hp->Prop):List V->Hp->Prop:=λvs H=>match vs with
 |[.ref a,.ref b]=>((∃xs,SqL K H a xs)/\∃ys,SqL K H b ys)/\R (Itz K a b) H
 |_=>False
theorem Mp{K:W.Frag}{R:It->Hp->Prop}{a b:Addr}{H:Hp}:onZ K R [.ref a,.ref b] H=(((∃xs,SqL K H a xs)/\∃ys,SqL K H b ys)/\R (Itz K a b) H):=rfl
def iZp(K:W.Frag)(ta:TA):TI:=fun σ H R=>ta σ H (onZ K R)
end
section
variable {X:Cx}
def Iq(K:W.Frag):List V->Hp->VK->Prop:=λxs H Q=>match xs with
 |[.ref p]=>∃ns:List Int,SqL K H p (ns.map V.int)/\0<ns.length/\∀M,M∈ns->(∀a∈ns,M<=a)->Q (.int M) H
 |_=>False
theorem Np{K:W.Frag}{H:Hp}{Q:VK}{p:Addr}:Iq K [.ref p] H Q=(∃ns:List Int,SqL K H p (ns.map V.int)/\0<ns.length/\∀M,M∈ns->(∀a∈ns,M<=a)->Q (.int M) H):=rfl
end
end
section
structure ZA(z tI tO i1 i2:Addr)(f1 f2:List Addr):Prop where
 tz:tI≠z
 oz:tO≠z
 az:i1≠z
 bz:i2≠z
 to:tI≠tO
 ta:tI≠i1
 tb:tI≠i2
 oa:tO≠i1
 ob:tO≠i2
 ab:i1≠i2
 g1:∀b∈f1,b≠z/\b≠tO/\b≠i2
 g2:∀b∈f2,b≠z/\b≠tO/\b≠i1
section
variable {prog:Program}{w:World}{A:Around}{E:Value->Shared->Prop}{s:Shared}{z tI tO i1 i2:Addr}{f1 f2:List Addr}{n1 n2 k1 k2:Nat}{P1 P2:Nat->Value->Prop}{S1 S2:Nat->Heap->Prop}{u v:Value}
theorem Va{Q:Value->Shared->Prop}(D:ZA z tI tO i1 i2 f1 f2)(D1:Draws prog w A i1 f1 n1 P1 S1)(D2:Draws prog w A i2 f2 n2 P2 S2)
  (hz:IsZip s.heap z tI tO .none) (hI:IsPair s.heap tI (.ref i1) (.ref i2)) (hO:IsPair s.heap tO u v) (h1:S1 k1 s.heap) (h2:S2 k2 s.heap) (l1:k1<n1) (l2:k2<n2)
  (hQ:∀x y h' tk,P1 k1 x->P2 k2 y->IsZip h' z tI tO (rawInt s.heap.objs.size)->IsPair h' tO x y->S1 (k1+1) h'->S2 (k2+1) h'->IsPair h' s.heap.objs.size x y ->
   (∀c o,c≠z->c≠tO->c≠i1->c≠i2->s.heap.get? c=some o->h'.get? c=some o)->Q (.ref s.heap.objs.size) { s with heap:=h',toks:=tk }) :
  wpAny (model prog w) A (Builtin.«zip.__next__» ⟨[.ref z],[]⟩) (λbZ s'=>∃v,bZ = .done (.ret v)/\Q v s') E s:=by
 refine(show wpAny _ _ (field (.ref z) 2 >>= _) _ _ _ from zZ (yC hz rfl (x:=.bool false) rfl ?_));refine(show wpAny _ _ (field (.ref z) 3 >>= _) _ _ _ from zZ (yC hz rfl (x:=.ref tI) rfl (zZ (wR hI rfl ?_))));refine(show wpAny _ _ (Builtin.SmallTypes.ownedTupleIsFree (.ref z) >>= _) _ _ _ from zZ ?_);unfold Builtin.SmallTypes.ownedTupleIsFree;refine zZ (yC hz rfl (x:=.none) rfl (zW ?_));simp only[if_true];refine zZ (tG (zZ (yC hz rfl (x:=.ref tO) rfl (zZ (vV hz (by simp) λg1 rP q1=>?_)))));replace rP:IsZip g1 z tI tO .ellipsis:=rP;have FF:∀c o,c≠z->s.heap.get? c=some o->g1.get? c=some o:=λc o h e=>q1.extBut c o h e;refine zZ ?_;simp only[List.zipIdx_cons,List.zipIdx_nil,List.forIn_cons,List.forIn_nil];refine zZ (zZ (wpAny_onRaise (show wpAny _ _ (Builtin.SmallTypes.nextOf (.ref i1) >>= _) _ _ _ from zZ ?_)));refine D1.item k1 { s with heap:=g1 } _ _ l1 (D1.frame _ _ _ h1 λb hb o e=>FF b o (D.g1 b hb).1 e) λx g2 t2 hx UI q2=>zW ?_;have hO2:IsPair g2 tO u v:=q2.extBut _ _ D.oa (FF _ _ D.oz hO);refine zZ (wR hO2 rfl (zZ (wpAny_updateSeq_pair hO2 λg3 hO3 q3=>?_)));replace hO3:IsPair g3 tO x v:=hO3;have kp3:∀c o,c≠z->c≠tO->c≠i1->s.heap.get? c=some o->g3.get? c=some o:=λc o c1 c2 c3 e=>q3.extBut _ _ c2 (q2.extBut _ _ c3 (FF c o c1 e));refine zZ (wpAny_letGo (zW (zZ (zZ (wpAny_onRaise (show wpAny _ _ (Builtin.SmallTypes.nextOf (.ref i2) >>= _) _ _ _ from zZ ?_))))));refine D2.item k2 { s with heap:=g3,toks:=t2 } _ _ l2 (D2.frame _ _ _ h2 λb hb o e=>kp3 b o (D.g2 b hb).1 (D.g2 b hb).2.1 (D.g2 b hb).2.2 e) λy g4 t4 hy sQ q4=>zW ?_;have hO4:IsPair g4 tO x v:=q4.extBut _ _ D.ob hO3;refine zZ (wR hO4 rfl (zZ (wpAny_updateSeq_pair hO4 λg5 hO5 q5=>?_)));replace hO5:IsPair g5 tO x y:=hO5;have kp5:∀c o,c≠z->c≠tO->c≠i1->c≠i2->s.heap.get? c=some o->g5.get? c=some o:=λc o c1 c2 c3 c4 e=>q5.extBut _ _ c2 (q4.extBut _ _ c4 (kp3 c o c1 c2 c3 e));have hz5:IsZip g5 z tI tO .ellipsis:=q5.extBut _ _ D.oz.symm (q4.extBut _ _ D.bz.symm (q3.extBut _ _ D.oz.symm (q2.extBut _ _ D.az.symm rP)));have sz5:g5.objs.size=s.heap.objs.size:=by rw[q5.1,q4.1,q3.1,q2.1,q1.1]
 have a5:S1 (k1+1) g5:=D1.frame _ _ _ UI λb hb o e=>q5.extBut _ _ (D.g1 b hb).2.1 (q4.extBut _ _ (D.g1 b hb).2.2 (q3.extBut _ _ (D.g1 b hb).2.1 e));have b5:S2 (k2+1) g5:=D2.frame _ _ _ sQ λb hb o e=>q5.extBut _ _ (D.g2 b hb).2.1 e;refine zZ (wpAny_letGo (zW (zW (zZ (wR hO5 rfl (zZ (wpAny_newTuple ?_)))))));have zl:z<g5.objs.size:=zU hz5;refine(show wpAny _ _ (Builtin.SmallTypes.ownedTupleHandOut (.ref z) (.ref g5.objs.size) >>= _) _ _ _ from zZ ?_);unfold Builtin.SmallTypes.ownedTupleHandOut;have hz6:IsZip (g5.push { cls:=.type "tuple",data:=.seq #[x,y] }) z tI tO .ellipsis:=zY _ hz5;refine zZ (vV hz6 (by simp) λg7 hz7 q7=>?_);replace hz7:IsZip g7 z tI tO (rawInt g5.objs.size):=hz7;refine vV hz7 (by simp) λg8 hz8 q8=>?_;replace hz8:IsZip g8 z tI tO (rawInt g5.objs.size):=hz8;have up:∀c o,c≠z->g5.get? c=some o->g8.get? c=some o:=λc o c1 e=>q8.extBut _ _ c1 (q7.extBut _ _ c1 (zY _ e));have hT8:IsPair g8 g5.objs.size x y:=q8.extBut _ _ (wB zl) (q7.extBut _ _ (wB zl) (zR _ rfl));rw[sz5]at hz8 hT8;refine zW ⟨_,rfl,(show Q (.ref g5.objs.size) _ from ?_)⟩;rw[sz5];exact hQ x y g8 _ hx hy hz8 (up _ _ D.oz hO5) (D1.frame _ _ _ a5 λb hb o e=>up b o (D.g1 b hb).1 e) (D2.frame _ _ _ b5 λb hb o e=>up b o (D.g2 b hb).1 e) hT8 λc o c1 c2 c3 c4 e=>up c o c1 (kp5 c o c1 c2 c3 c4 e)
theorem Rg{Q:Fin->Shared->Prop}(D:ZA z tI tO i1 i2 f1 f2)(D1:Draws prog w A i1 f1 n1 P1 S1)
  (hz:IsZip s.heap z tI tO .none) (hI:IsPair s.heap tI (.ref i1) (.ref i2)) (hO:IsPair s.heap tO u v) (h1:S1 n1 s.heap)
  (hE:∀h' e,(∀c o,c≠z->c≠i1->s.heap.get? c=some o->h'.get? c=some o)->(∃o,h'.get? e=some o/\o.cls = .type "StopIteration")->E (.ref e) { s with heap:=h' }) :
  wpAny (model prog w) A (Builtin.«zip.__next__» ⟨[.ref z],[]⟩) Q E s:=by
 refine(show wpAny _ _ (field (.ref z) 2 >>= _) _ _ _ from zZ (yC hz rfl (x:=.bool false) rfl ?_));refine(show wpAny _ _ (field (.ref z) 3 >>= _) _ _ _ from zZ (yC hz rfl (x:=.ref tI) rfl (zZ (wR hI rfl ?_))));refine(show wpAny _ _ (Builtin.SmallTypes.ownedTupleIsFree (.ref z) >>= _) _ _ _ from zZ ?_);unfold Builtin.SmallTypes.ownedTupleIsFree;refine zZ (yC hz rfl (x:=.none) rfl (zW ?_));simp only[if_true];refine zZ (tG (zZ (yC hz rfl (x:=.ref tO) rfl (zZ (vV hz (by simp) λg1 rP q1=>?_)))));replace rP:IsZip g1 z tI tO .ellipsis:=rP;have FF:∀c o,c≠z->s.heap.get? c=some o->g1.get? c=some o:=λc o h e=>q1.extBut c o h e;refine zZ ?_;simp only[List.zipIdx_cons,List.zipIdx_nil,List.forIn_cons,List.forIn_nil];refine zZ (zZ (wpAny_onRaise (show wpAny _ _ (Builtin.SmallTypes.nextOf (.ref i1) >>= _) _ _ _ from zZ ?_)));refine D1.done { s with heap:=g1 } _ _ (D1.frame _ _ _ h1 λb hb o e=>FF b o (D.g1 b hb).1 e) λg2 e q2 he=>?_;obtain⟨oe,ho,hc⟩:=he;have DU:IsZip g2 z tI tO .ellipsis:=q2 _ _ D.az.symm rP;have hez:e≠z:=λq=>by
  subst q;have hz2':g2.get? e=some _:=DU;rw[hz2']at ho;cases ho;simp at hc
 refine vV (s:={ s with heap:=g2 }) DU (by simp) λg3 _ q3=>hE g3 e (λc o c1 c2 x=>q3.extBut _ _ c1 (q2 _ _ c2 (FF c o c1 x))) ⟨oe,q3.extBut _ _ hez ho,hc⟩
theorem am{Q:Option Value->Shared->Prop}(D:ZA z tI tO i1 i2 f1 f2)(D1:Draws prog w A.in1 i1 f1 n1 P1 S1)(D2:Draws prog w A.in1 i2 f2 n2 P2 S2)
  (hz:IsZip s.heap z tI tO .none) (hI:IsPair s.heap tI (.ref i1) (.ref i2)) (hO:IsPair s.heap tO u v) (h1:S1 k1 s.heap) (h2:S2 k2 s.heap) (l1:k1<n1) (l2:k2<n2)
  (hQ:∀x y h' tk,P1 k1 x->P2 k2 y->IsZip h' z tI tO (rawInt s.heap.objs.size)->IsPair h' tO x y->S1 (k1+1) h'->S2 (k2+1) h'->IsPair h' s.heap.objs.size x y ->
   (∀c o,c≠z->c≠tO->c≠i1->c≠i2->s.heap.get? c=some o->h'.get? c=some o)->Q (some (.ref s.heap.objs.size)) { s with heap:=h',toks:=tk }):wpAny (model prog w) A (pyNext (.ref z)) Q E s:=by
 have hT:s.TypeIs (.ref z) "zip":=⟨_,hz,rfl⟩
 unfold pyNext;exact zZ (wpAny_attempt (xM (name:=Str.ofString "__next__") hT uS (xW uS hT F.entry_zip_next (Va D D1 D2 hz hI hO h1 h2 l1 l2 λx y h' tk p1 p2 c1 c2 c3 c4 c5 c6=>zW (hQ x y h' tk p1 p2 c1 c2 c3 c4 c5 c6)) (F.args_zip_next_1 _))))
theorem Xb{Q:Option Value->Shared->Prop}(D:ZA z tI tO i1 i2 f1 f2)(D1:Draws prog w A.in1 i1 f1 n1 P1 S1)
  (hz:IsZip s.heap z tI tO .none) (hI:IsPair s.heap tI (.ref i1) (.ref i2)) (hO:IsPair s.heap tO u v) (h1:S1 n1 s.heap)
  (hQ:∀h',(∀c o,c≠z->c≠i1->s.heap.get? c=some o->h'.get? c=some o)->Q none { s with heap:=h' }):wpAny (model prog w) A (pyNext (.ref z)) Q E s:=by
 have hT:s.TypeIs (.ref z) "zip":=⟨_,hz,rfl⟩
 unfold pyNext;refine zZ (wpAny_attempt (xM (name:=Str.ofString "__next__") hT uS (xW uS hT F.entry_zip_next (Rg D D1 hz hI hO h1 λh' e hk he=>?_) (F.args_zip_next_1 _))));obtain⟨o,ho,hc⟩:=he;exact zZ (wpAny_isInstance (T:="StopIteration") (b:=true) ⟨o,ho,hc⟩ isSubtype_stop (zW (hQ _ hk)))
end
def zt1(h:Heap)(a:Addr):Heap:=h.push (mm a)
def zt2(h:Heap)(a b:Addr):Heap:=(zt1 h a).push (mm b)
def zt3(h:Heap)(a b:Addr):Heap:=(zt2 h a b).push { cls:=.type "tuple",data:=.seq #[.ref h.objs.size,.ref (zt1 h a).objs.size] }
def zt4(h:Heap)(a b:Addr):Heap:=(zt3 h a b).push { cls:=.type "tuple",data:=.seq #[.none,.none] }
def zt5(h:Heap)(a b:Addr):Heap:=(zt4 h a b).push { cls:=.type "zip",data:=.fields #[.none,.bool false,.bool false,.ref (zt2 h a b).objs.size,.ref (zt3 h a b).objs.size] }
theorem Vb(a b:Addr)(xs ys:Array Value):Meets (Builtin.«zip.__new__» ⟨[.type "zip",.ref a,.ref b],[]⟩) (λ_ R s=>s.heap.IsTuple a xs/\s.heap.IsTuple b ys /\
  R (.ok (.ret (.ref (zt4 s.heap a b).objs.size))) { s with heap:=zt5 s.heap a b }) :=
 .of_wp λprog w A R s h=>by
  obtain⟨hp,g,d,tk,os⟩:=s;obtain⟨ha,hb,h⟩:=h;have rY:=sub_zip;have hA:Heap.IsTuple (Shared.heap ⟨hp,g,d,tk,os⟩) a xs:=ha;have hB:Heap.IsTuple (Shared.heap ⟨hp.push { cls:=.type "tuple_iterator",data:=.fields #[.ref a,.int 0 0] },g,d,tk,os⟩) b ys:=hb.elim λo ho=>⟨o,zY _ ho.1,ho.2⟩
  wp_walk using wK hA,wK hB
  exact⟨_,rfl,h⟩
section
variable {prog:Program}{w:World}{A:Around}{E:Value->Shared->Prop}{s:Shared}
theorem Vl{a b:Addr}{xs ys:Array Value}{Q:Value->Shared->Prop}(ha:s.heap.IsTuple a xs)(hb:s.heap.IsTuple b ys)
  (h:∀h',IsZip h' (s.heap.objs.size+4) (s.heap.objs.size+2) (s.heap.objs.size+3) .none->IsPair h' (s.heap.objs.size+2) (.ref s.heap.objs.size) (.ref (s.heap.objs.size+1))->IsPair h' (s.heap.objs.size+3) .none .none ->
   h'.IsTupleIter s.heap.objs.size a 0->h'.IsTupleIter (s.heap.objs.size+1) b 0->(∀c o,s.heap.get? c=some o->h'.get? c=some o)->Q (.ref (s.heap.objs.size+4)) { s with heap:=h' }):wpAny (model prog w) A (call (.type "zip") [.ref a,.ref b]) Q E s:=by
 refine callType_new F.called_zip (by decide) (F.typeCall_zip_2 _ _) (F.newCall_zip_2 _ _) (λobj=>F.args_object_init_3 obj _ _) F.entry_zip_new (Vb a b xs ys) ⟨ha,hb,?_⟩;have y1:(zt1 s.heap a).objs.size=s.heap.objs.size+1:=xL ..;have y2:(zt2 s.heap a b).objs.size=s.heap.objs.size+2:=by unfold zt2;rw[xL,y1]
 have y3:(zt3 s.heap a b).objs.size=s.heap.objs.size+3:=by unfold zt3;rw[xL,y2]
 have y4:(zt4 s.heap a b).objs.size=s.heap.objs.size+4:=by unfold zt4;rw[xL,y3]
 have p5:(zt5 s.heap a b).get? (zt4 s.heap a b).objs.size=some _:=zR _ rfl;have p4:(zt5 s.heap a b).get? (zt3 s.heap a b).objs.size=some _:=zY _ (zR _ rfl);have k3:∀c o,(zt3 s.heap a b).get? c=some o->(zt5 s.heap a b).get? c=some o:=λc o e=>zY _ (zY _ e);have p3:(zt5 s.heap a b).get? (zt2 s.heap a b).objs.size=some _:=k3 _ _ (zR _ rfl);have p2:(zt5 s.heap a b).get? (zt1 s.heap a).objs.size=some _:=k3 _ _ (zY _ (zR _ rfl));have p1:(zt5 s.heap a b).get? s.heap.objs.size=some _:=k3 _ _ (zY _ (zY _ (zR _ rfl)));show _/\_;rw[y2,y3,y4]at p5;rw[y1,y2]at p3;rw[y3]at p4;rw[y1]at p2;rw[y4];exact⟨⟨_,p5,rfl⟩,h _ p5 p3 p4 ⟨_,p1,rfl,rfl⟩ ⟨_,p2,rfl,rfl⟩ λc o x=>k3 _ _ (zY _ (zY _ (zY _ x)))⟩
end
def ZtSt(z tI tO i1 i2 l1 l2:Addr)(i:Nat)(h:Heap):Prop:=IsZip h z tI tO .none/\IsPair h tI (.ref i1) (.ref i2)/\(∃u v,IsPair h tO u v)/\h.IsTupleIter i1 l1 i/\h.IsTupleIter i2 l2 i
theorem ZtSt.lt{z tI tO i1 i2 l1 l2:Addr}{i:Nat}{h:Heap}(st:ZtSt z tI tO i1 i2 l1 l2 i h):∀b∈[z,tI,tO,i1,i2],b<h.objs.size:=λb hb=>by
 obtain⟨hz,hI,⟨u,v,hO⟩,⟨oa,ea,_⟩,⟨ob,eb,_⟩⟩:=st;simp only[zD,tJ,or_false]at hb;rcases hb with rfl|rfl|rfl|rfl|rfl
 ·exact zU hz
 ·exact zU hI
 ·exact zU hO
 ·exact zU ea
 ·exact zU eb
theorem d0{h:Heap}{z tI tO i1 i2 l1 l2:Addr}{i:Nat}{xs ys:Array Value}(t:tI≠tO)(ii:i1≠i2)(l1o:l1≠tO)(l2o:l2≠tO)(st:ZtSt z tI tO i1 i2 l1 l2 i h)(h1:h.IsTuple l1 xs)(h2:h.IsTuple l2 ys):ZA z tI tO i1 i2 [i1,l1] [i2,l2]:=by
 obtain⟨hz,hI,⟨u,v,hO⟩,⟨oa,ea,ca,_⟩,⟨ob,eb,cb,_⟩⟩:=st;obtain⟨o1,e1,c1,_⟩:=h1;obtain⟨o2,e2,c2,_⟩:=h2;have Br:h.get? z=some _:=hz;have hI':h.get? tI=some _:=hI;have UE:h.get? tO=some _:=hO;refine⟨xa hI' Br (by simp),xa UE Br (by simp),xa ea Br (by rw[ca];simp),xa eb Br (by rw[cb];simp),t,xa hI' ea (by rw[ca];simp),xa hI' eb (by rw[cb];simp),xa UE ea (by rw[ca];simp),xa UE eb (by rw[cb];simp),ii,λb hb=>?_,λb hb=>?_⟩
 ·rcases zD.mp hb with rfl|hb
  ·exact⟨xa ea Br (by rw[ca];simp),(xa UE ea (by rw[ca];simp)).symm,ii⟩
  ·rw[zS.mp hb];exact⟨xa e1 Br (by rw[c1];simp),l1o,xa e1 eb (by rw[c1,cb];simp)⟩
 ·rcases zD.mp hb with rfl|hb
  ·exact⟨xa eb Br (by rw[cb];simp),(xa UE eb (by rw[cb];simp)).symm,ii.symm⟩
  ·rw[zS.mp hb];exact⟨xa e2 Br (by rw[c2];simp),l2o,xa e2 ea (by rw[c2,ca];simp)⟩
def Rh(K:W.Frag)(a b:Addr):It :=
 ⟨λi H=>∃xs ys x y,SqT K H a xs/\SqT K H b ys/\xs[i]?=some x/\ys[i]?=some y,λi H v H'=>∃p x y,v = .ref p/\H p=none/\H'=upd H p (.tup [x,y])/\(∀xs,SqT K H a xs->xs[i]?=some x)/\∀ys,SqT K H b ys->ys[i]?=some y,λi H=>∃xs ys,SqT K H a xs/\SqT K H b ys/\xs.length=i/\ys.length=i⟩
theorem W7{P:Program}{w:World}{K:W.Frag}{sR:List Expr}{k:Nat}{pos:Pos}(l1 l2 z tI tO i1 i2:Addr)(t:tI≠tO)(ii:i1≠i2)(l1o:l1≠tO)(l2o:l2≠tO):
  d4 P w K (.Tuple sR k pos) (Rh K l1 l2) [z,tI,tO,i1,i2] z (ZtSt z tI tO i1 i2 l1 l2)where
 mem:=by simp
 obj:=λi h st b hb=>by
  obtain⟨hz,hI,⟨u,v,hO⟩,⟨oa,ea,ca,da⟩,⟨ob,eb,cb,db⟩⟩:=st;simp only[zD,tJ,or_false]at hb;rcases hb with rfl|rfl|rfl|rfl|rfl
  ·exact⟨_,hz,λv z=>by cases(show Data.fields _=Data.cell v from z)⟩
  ·exact⟨_,hI,λv z=>by cases(show Data.seq _ _=Data.cell v from z)⟩
  ·exact⟨_,hO,λv z=>by cases(show Data.seq _ _=Data.cell v from z)⟩
  ·exact⟨oa,ea,λv z=>by rw[da]at z;cases z⟩
  ·exact⟨ob,eb,λv z=>by rw[db]at z;cases z⟩
 keep:=λi h h' st kk=>by
  obtain⟨hz,hI,⟨u,v,hO⟩,ha,hb⟩:=st;exact⟨kk z (by simp) _ hz,kk tI (by simp) _ hI,⟨u,v,kk tO (by simp) _ hO⟩,ha.at λo e=>kk i1 (by simp) o e,hb.at λo e=>kk i2 (by simp) o e⟩
 item:=by
  intro X hP hw hK hc i pins s σ H E I hf st hg;subst hP hw hK;obtain⟨xs,ys,x,y,FK,FJ,hx,hy⟩:=hg;obtain⟨aH,rv,p,rP⟩:=I.tuple FK;obtain⟨DT,BN,p',DU⟩:=I.tuple FJ;obtain⟨u,hu,ru⟩:=rv.get hx;obtain⟨v,hv,rv'⟩:=BN.get hy;have rQ:s.heap.IsTuple l1 aH.toArray:=p;have CK:s.heap.IsTuple l2 DT.toArray:=p';have ap:=d0 t ii l1o l2o st rQ CK;have kE:=st;obtain⟨hz,hI,⟨u0,v0,hO⟩,ha,hb⟩:=st;have Az:i<aH.toArray.size:=by simpa using(zV.mp hu).1
  have rD:i<DT.toArray.size:=by simpa using(zV.mp hv).1
  refine am ap (uv (A:=X.A.in1) (I.ok.hd hc) i1 l1 (λq=>(ap.g1 l1 (by simp)).2.2 (by
   obtain⟨o1,e1,c1,_⟩:=rQ;obtain⟨o2,e2,c2,_⟩:=ha;rw[q,e2]at e1;cases e1;rw[c2]at c1;simp at c1)) aH.toArray) (uv (A:=X.A.in1) (I.ok.hd hc) i2 l2 (λq=>(ap.g2 l2 (by simp)).2.2 (by
   obtain⟨o1,e1,c1,_⟩:=CK;obtain⟨o2,e2,c2,_⟩:=hb;rw[q,e2]at e1;cases e1;rw[c2]at c1;simp at c1)) DT.toArray) hz hI hO ⟨ha,rQ⟩ ⟨hb,CK⟩ Az rD λx' y' h1 tk rW DX a1 a2 a3 a4 a5 hk=>?_
  have ex:x'=u:=by
   have h2:aH.toArray[i]?=some u:=by simpa using hu
   exact yX (rW.symm.trans h2)
  have ey:y'=v:=by
   have h2:DT.toArray[i]?=some v:=by simpa using hv
   exact yX (DX.symm.trans h2)
  subst ex ey;refine⟨_,rfl,wpAny_letOwnedTupleGo_zip (s:={ s with heap:=h1,toks:=tk }) a1 λh2 b1 rC=>?_⟩;have fr:H s.heap.objs.size=none:=I.hok.fresh (zT _);have I1:Inv X pins σ (upd H s.heap.objs.size (.tup [x,y])) { s with heap:=s.heap.push { cls:=.type "tuple",data:=.seq #[x',y'] },toks:=tk } :=
   I.laid (λb o e1=>zY _ e1) (zT _) ⟨by simp only[yJ,wO];rw[zM];decide,[x',y'],.cons ru (.cons rv' .nil),⟨_,zR _ rfl,rfl,_,rfl⟩⟩
  have lt5:=ZtSt.lt kE;have TU:∀b∈[z,tI,tO,i1,i2],qu X pins (upd H s.heap.objs.size (.tup [x,y])) b:=λb eZ=>⟨by rw[zj (zE (lt5 b eZ))];exact(hf b eZ).1,(hf b eZ).2⟩
  have I2:Inv X pins σ (upd H s.heap.objs.size (.tup [x,y])) { s with heap:=h2,toks:=tk }:=np (s:={ s with heap:=s.heap.push { cls:=.type "tuple",data:=.seq #[x',y'] },toks:=tk }) [z,tI,tO,i1,i2] I1 TU λb o eZ e1=>by
   have n1:b≠z:=λq=>eZ (by simp[q]);have n2:b≠tO:=λq=>eZ (by simp[q]);have n3:b≠i1:=λq=>eZ (by simp[q]);have n4:b≠i2:=λq=>eZ (by simp[q]);refine(rC.2 b n1).trans ?_;rcases Heap.get?_push_cases e1 with⟨rfl,rfl⟩|e1
   ·exact a5
   ·exact hk b o n1 n2 n3 n4 e1
  refine⟨.ref s.heap.objs.size,upd H s.heap.objs.size (.tup [x,y]),I2,rfl,⟨_,x,y,rfl,fr,rfl,λFW DW=>by rw[I.tuple_inj DW FK];exact hx,λFW DW=>by rw[I.tuple_inj DW FJ];exact hy⟩,⟨b1,?_,⟨x',y',?_⟩,a3.1.at λo e1=>(rC.2 i1 ap.az).trans e1,a4.1.at λo e1=>(rC.2 i2 ap.bz).trans e1⟩,λb eZ=>(TU b eZ).1⟩
  ·exact(rC.2 tI ap.tz).trans (hk tI _ ap.tz ap.to ap.ta ap.tb hI)
  ·exact(rC.2 tO ap.oz).trans a2
 done:=by
  intro X hP hw hK hc i pins s σ H E I hf st hg;subst hP hw hK;obtain⟨xs,ys,FK,FJ,hx,hy⟩:=hg;obtain⟨aH,rv,p,rP⟩:=I.tuple FK;obtain⟨DT,BN,p',DU⟩:=I.tuple FJ;have rQ:s.heap.IsTuple l1 aH.toArray:=p;have ap:=d0 t ii l1o l2o st rQ p';obtain⟨hz,hI,⟨u0,v0,hO⟩,ha,hb⟩:=st;have hs:aH.toArray.size=i:=by rw[zQ,<-rv.length];exact hx
  refine Xb ap (uv (A:=X.A.in1) (I.ok.hd hc) i1 l1 (λq=>(ap.g1 l1 (by simp)).2.2 (by
   obtain⟨o1,e1,c1,_⟩:=rQ;obtain⟨o2,e2,c2,_⟩:=ha;rw[q,e2]at e1;cases e1;rw[c2]at c1;simp at c1)) aH.toArray) hz hI hO ⟨by rw[hs];exact ha,rQ⟩ λh1 hk=>⟨rfl,np (t':=s.toks) [z,tI,tO,i1,i2] I hf λb o eZ e1=>hk b o (λq=>eZ (by simp[q])) (λq=>eZ (by simp[q])) e1⟩
 self:=λ_ _ _ _ _ st h=>wpAny_pyIter_zip st.1 h
theorem Wb{K:W.Frag}{a b:Addr}{xs ys:List V}{j k:Nat}{tb:TS}{D:ue}{σ:St}{H:Hp}(Pv:Nat->St->Hp->Prop)(SO:xs.length=ys.length)(h0:Pv 0 σ H)(hl:∀i σ H,i<=xs.length->Pv i σ H->SqT K H a xs/\SqT K H b ys)
  (hs:∀(i:Nat) x y σ H H',xs[i]?=some x->ys[i]?=some y->Pv i σ H->Same H H'->tb { D with nx:=Pv (i+1),ct:=Pv (i+1),bk:=D.nx } (sv (sv σ j x) k y) H') (hd:∀σ H,Pv xs.length σ H->D.nx σ H) :
  aq (mG2 K j k) tb (Rh K a b) D σ H :=
 k7 (n:=xs.length) Pv h0 (λi σ H hi p=>⟨xs,ys,xs[i],ys[i]'(SO▸hi),(hl i σ H (xP hi) p).1,(hl i σ H (xP hi) p).2,by simp[hi],by simp[SO▸hi]⟩)
  (fun σ H p=>⟨xs,ys,(hl _ σ H (zT _) p).1,(hl _ σ H (zT _) p).2,rfl,SO.symm⟩) (λi v σ H H' hi p y=>by
  obtain⟨c,x,y',rfl,hn,rfl,hx,hy⟩:=y;have hh:=hl i σ H (xP hi) p;exact⟨c,_,_,rfl,SqT.of zy,hs i x y' σ H _ (hx xs hh.1) (hy ys hh.2) p (vx hn _)⟩) hd
end
section
section
variable {X:Cx}
def Jp(K:W.Frag)(R:It->Hp->Prop):List V->Hp->Prop:=λvs H=>match vs with
 |[.ref a,.ref b]=>((∃xs,SqT K H a xs)/\∃ys,SqT K H b ys)/\R (Rh K a b) H
 |_=>False
theorem Qd{K:W.Frag}{R:It->Hp->Prop}{a b:Addr}{H:Hp}:Jp K R [.ref a,.ref b] H=(((∃xs,SqT K H a xs)/\∃ys,SqT K H b ys)/\R (Rh K a b) H):=rfl
def iZt(K:W.Frag)(ta:TA):TI:=fun σ H R=>ta σ H (Jp K R)
theorem Mh{sR:List Expr}{kk:Nat}{pt:Pos}{a b:Expr}{ta:TA}{p pos:Pos}(hg:Gl X "zip")(hm:X.mg "zip"=none)(ha:PA X [a,b] ta)(hs:starEach [a,b] X.env=[(false,eval a X.env),(false,eval b X.env)]:=by rfl)
  (rC:starEach [b] X.env=[(false,eval b X.env)]:=by rfl):PI X (.Tuple sR kk pt) (.Call (.Name "zip" p) [a,b] [] pos) (iZt X.K ta):=by
 intro pins s σ H R I h;refine Call_ (tq I hg hm Lv (wS (thn (ha pos pins s σ H _ I h) λus s1 ⟨vs,H1,I1,r1,q1⟩=>?_) (by rw[hs,rC]) (by rw[rC];rfl)))
 match vs,q1 with
 |[.ref a,.ref b],q1 =>
  obtain⟨⟨⟨xs,FK⟩,⟨ys,FJ⟩⟩,q⟩:=(show((∃xs,SqT X.K H1 a xs)/\∃ys,SqT X.K H1 b ys)/\R (Rh X.K a b) H1 from q1)
  obtain⟨u,w',rfl,ru,BN⟩:=ju r1;cases ru;cases BN;obtain⟨aH,rv,p1,rP⟩:=I1.tuple FK;obtain⟨DT,rv2,p2,DU⟩:=I1.tuple FJ;have la:a<s1.heap.objs.size:=by obtain⟨o,e,_⟩:=p1;exact zU e
  have lb:b<s1.heap.objs.size:=by obtain⟨o,e,_⟩:=p2;exact zU e
  refine Vl (show s1.heap.IsTuple a aH.toArray from p1) (show s1.heap.IsTuple b DT.toArray from p2) λh' hz hI hO ha hb hk=>?_;refine wpAny_pyIter_zip (s:={ s1 with heap:=h' }) hz ?_;have I2:Inv X pins σ H1 { s1 with heap:=h' }:=I1.kept (t':=s1.toks) hk;refine⟨_,[s1.heap.objs.size+4,s1.heap.objs.size+2,s1.heap.objs.size+3,s1.heap.objs.size,s1.heap.objs.size+1],_,_,H1,rfl,I2,W7 a b _ _ _ _ _ (λq=>absurd (Nat.add_left_cancel q) (by decide)) (λq=>absurd q (zE (xD _))) (zE (zG la (uJ _ _))) (zE (zG lb (uJ _ _))),⟨hz,hI,⟨_,_,hO⟩,ha,hb⟩,λc hc=>?_,q⟩;have AS:s1.heap.objs.size<=c:=by
   simp only[zD,tJ,or_false]at hc;rcases hc with rfl|rfl|rfl|rfl|rfl
   ·exact uJ _ _
   ·exact uJ _ _
   ·exact uJ _ _
   ·exact zT _
   ·exact wG _
  exact I1.fpOk AS (I1.hok.fresh AS)
end
def G5(lo st:Int)(n:Nat):It:=⟨λi _=>i<n,λi H x H'=>H'=H/\x = .int (lo+i*st),λi _=>n<=i⟩
section
variable {X:Cx}
def Jo(R:It->Hp->Prop):List V->Hp->Prop:=λvs H=>match vs with
 |[.int i,.int j,.int c]=>(0<=i/\i<=100000/\0<=j/\j<=100000/\1<=c/\c<=100000)/\R (G5 i c (Builtin.Range.rangeSize i j c).toNat) H
 |_=>False
theorem Qc{R:It->Hp->Prop}{i j c:Int}{H:Hp}:Jo R [.int i,.int j,.int c] H=((0<=i/\i<=100000/\0<=j/\j<=100000/\1<=c/\c<=100000)/\R (G5 i c (Builtin.Range.rangeSize i j c).toNat) H):=rfl
def iR3(ta:TA):TI:=fun σ H R=>ta σ H (Jo R)
end
end
section
structure Mk0(K:W.Frag)(C:Addr):Prop where
 makes:W.makesIn K C=true
 init:W.findIn K (.ref C) "__init__"=some (some (.builtin "object.__init__"))
 kp:W.keepIn K (.ref C)=true
def N5(C:Addr):TE:=λ_ H Q=>∀x dx,H x=none->H dx=none->dx≠x->Q (.ref x) (upd (upd H dx (.own x)) x (.ins C dx []))
section
variable {X:Cx}
end
structure DefM(K:W.Frag)(C:Addr)(x qual:Str)(st:Stmt)(ps:List Str):Prop where
 ex:∃(f:Addr)(fd:FuncData),Fun K x qual st f fd/\(∀us:List Value,us.length=ps.length->bindArgs fd ⟨us,[]⟩=pure (ps.zip us))/\Vc K C x f/\Cls K C
structure r9(P:Program)(w:World)(K:W.Frag)(mg:Str->Option Value)(base:Heap)(k:Nat)(C:Addr)(x:Str)(ps:List Str)(sp:Sp):Prop where
 ex:∃(f:Addr)(fd:FuncData),FnOk P w K mg base CX0 k f fd ps sp/\Binds K fd ps []/\Vc K C x f/\Cls K C
section
variable {P:Program}{w:World}{K:W.Frag}{mg:Str->Option Value}{base:Heap}
theorem DefM.callee{C:Addr}{x qual:Str}{st:Stmt}{N ps:List Str}{k:Nat}{sp:Sp}(F:DefM K C x qual st ps)(S:zr N ps (z4 st))(len:∀vs H Q E,sp vs H Q E->vs.length=ps.length)
  (bI:∀(f:Addr)(cdv:Value)(A:Around)(outer:List Env)(s:Shared)(H:Hp)(vs:List V)(Q:VK)(E:XK),Room k (A.deeper (envOfC qual (z4 st) s.heap.objs.size f cdv))->sp vs H Q E ->
   ∃σ t,start N vs=σ/\PSs (wg CX0 P w K mg base N qual (z4 st) f cdv A outer s H E).nox (zw st) t/\t { nx:=λ_ H'=>Q .non H',rt:=Q } σ H):r9 P w K mg base (k+1) C x ps sp:=by
 obtain⟨f,fd,F,b,hm,hc⟩:=F.ex;refine⟨f,fd,F.ok S len λcdv A outer s H vs Q E hr h=>?_,.all b,hm,hc⟩;obtain⟨σ,t,e,ht,q⟩:=bI f cdv A outer s H vs Q E hr h;exact⟨t,ht,by rw[e];exact q⟩
theorem lg{X:Cx}{C:Addr}{k k':Nat}{x:Str}{ps:List Str}{sp:Sp}{ta:TE}{t:TA}{o e:Expr}{es:List Expr}{pos apos:Pos}{pl:Sem Bool}(C':r9 X.prog X.w X.K X.mg X.base k C x ps sp)(hr:Room k' X.A)(hk:k<=k')(ho:PE X o ta)(ha:PA X (e::es) t)
  (iH:starEach (e::es) X.env=(false,eval e X.env)::starEach es X.env:=by rfl) (cV:(backTo pos (starEach es X.env)).any (·.1)=false:=by rfl)
  (ht:eval (.Call (.Attribute o x apos) (e::es) [] pos) X.env=(do
   let ov <-eval o X.env;standAt apos.atName
   let(f,first) <-holding [ov] (getMethod ov x pl);callWith pos f first (backTo pos (starEach (e::es) X.env)) (backToKw pos (keywordEach [] X.env))):=by rfl) :
  PE X (.Call (.Attribute o x apos) (e::es) [] pos) (js C x sp [] E0 ta t):=by
 obtain⟨f,fd,F,b,hm,hc⟩:=C'.ex;exact X5 (pl:=pl) ho hc hm F (hr.mono hk) b .nil Tw ha iH cV ht
end
def za(st:Stmt)(j:Nat):Stmt:=match st with
 | .ClassDef _ _ _ b _ _ _ _ _ _ _=>b.getD j (.Pass ⟨0,0,0,0⟩)
 |_=>.Pass ⟨0,0,0,0⟩
theorem sd{K:W.Frag}{C:Addr}{x qual:Str}{st:Stmt}{ps:List Str}{f:Addr}{oc:Value}{od an:Option Addr}{osl:Array (Option Value)}{kV doc pm cdv ct:Value}
  (a:W.findIn K (.ref C) x=some (some (.ref f))) (l:K.lookup f=some ⟨oc,od,.func (W.fnOf x qual (zu st) (zw st) (z4 st) .none kV doc pm an cdv ct),osl⟩)
  (c:W.codeIn K cdv qual=true) (k:W.keepIn K (.ref f)=true) (fn:W.isFn K (.ref f)=true) (cl:Cls K C)
  (hb:∀(kV doc pm:Value)(an:Option Addr)(cdv ct:Value)(us:List Value),us.length=ps.length->bindArgs (W.fnOf x qual (zu st) (zw st) (z4 st) .none kV doc pm an cdv ct) ⟨us,[]⟩=pure (ps.zip us)):DefM K C x qual st ps :=
 ⟨f,_,ez l c k,hb kV doc pm an cdv ct,⟨a,fn,k⟩,cl⟩
end
section
theorem Yx:bootBuiltins "str"=some (.type "str"):=by decide +kernel
section
variable {X:Cx}
def ub(k:Str->Hp->Prop):V->Hp->Prop:=λx H=>match x with
 | .str c=>k c H
 |_=>False
theorem Tr{k:Str->Hp->Prop}{c:Str}{H:Hp}:ub k (.str c) H=k c H:=rfl
def PF(X:Cx)(es:List Expr)(t:Str->TE):Prop:=∀(out:Str)(pins:List (Addr×Obj))(s:Shared)(σ:St)(H:Hp)(Q:VK),Inv X pins σ H s->t out σ H Q->wpAny (model X.prog X.w) X.A (joinParts out (evalEach es X.env)) (EP X pins σ Q) X.xe s
def tF0:Str->TE:=λout _ H Q=>out.length<=sizeLine/\Q (.str out) H
def tFC(te:TE)(t:Str->TE):Str->TE:=λout σ H Q=>te σ H (ub λy H1=>(out++y).length<=sizeLine/\t (out++y) σ H1 Q)
def tFv(te:TE):TE:=fun σ H Q=>te σ H (ub λy H1=>y.length<=sizeLine/\Q (.str y) H1)
theorem pi:PF X [] tF0:=λout pins s σ H Q I h=>joinParts_nil ⟨.str out,H,I.tok _,⟨_,rfl⟩,h.2⟩ h.1
theorem yr{e:Expr}{es:List Expr}{te:TE}{t:Str->TE}(ha:PE X e te)(hr:PF X es t)(hs:evalEach (e::es) X.env=eval e X.env::evalEach es X.env:=by rfl):PF X (e::es) (tFC te t):=by
 intro out pins s σ H Q I h;rw[hs];refine joinParts_cons (thn (ha pins s σ H _ I h) λv s1 ⟨x,H1,I1,r1,q1⟩=>?_);cases x with
 |str y =>
  obtain⟨t1,rfl⟩:=r1;obtain⟨h2,h3⟩:=(show(out++y).length<=sizeLine/\t (out++y) σ H1 Q from q1)
  exact⟨h2,hr _ pins s1 σ H1 Q I1 h3⟩
 |_=>exact(show False from q1).elim
theorem vm{e:Expr}{te:TE}{pos:Pos}(ha:PE X e te):PE X (.FormattedValue e (-1) none pos) (tFv te):=by
 intro pins s σ H Q I h;refine FormattedValue_plain (thn (ha pins s σ H _ I h) λv s1 ⟨x,H1,I1,r1,q1⟩=>?_);cases x with
 |str y =>
  obtain⟨t1,rfl⟩:=r1;obtain⟨h2,h3⟩:=(show y.length<=sizeLine/\Q (.str y) H1 from q1)
  exact formatField_str (λt' tk=>⟨.str y,H1,I1.tok _,⟨_,rfl⟩,h3⟩) h2
 |_=>exact(show False from q1).elim
theorem ph{e1 e2:Expr}{es:List Expr}{t:Str->TE}{pos:Pos}(h:PF X (e1::e2::es) t):PE X (.JoinedStr (e1::e2::es) pos) (t Str.empty):=λpins s σ H Q I q=>JoinedStr_many (h _ pins s σ H Q I q)
theorem dk:∀{ys:List Str}{us:List Value},Vals (ys.map V.str) us->StrsAre us ys
 |[],_,h=>by
  cases h;exact .nil
 |y::ys,_,h=>by
  cases h with
  |cons r rr =>
   obtain⟨t,rfl⟩:=r;exact .cons y t (dk rr)
def tJn(K:W.Frag)(to:TE)(t:TA):TE:=fun σ H Q=>to σ H (ub λx H1=>t σ H1 (on1 (cq λp H2=>∃ys:List Str,SqL K H2 p (ys.map V.str)/\(ys.map (·.length)).sum+ys.length*x.length<=16777216/\Q (.str (Txt.join x ys)) H2)))
theorem fo{o e:Expr}{to:TE}{t:TA}{apos cpos:Pos}(ho:PE X o to)(ha:PA X [e] t)
  (jX:attributeBase o "join" X.env (eval o X.env)=eval o X.env:=by rfl)
  (pW:((backTo cpos (starEach [e] X.env)).all (λx=>!x.1)&&(backToKw cpos (keywordEach [] X.env)).all (λx=>x.1.isSome)
  &&decide ([e].length+([]:List Keyword).length+(if([]:List Keyword).isEmpty then 0 else 1)<30))=true:=by rfl)
  (jW:(apos.endLine==cpos.line)=true:=by rfl) (hs:starEach [e] X.env=[(false,eval e X.env)]:=by rfl) :
  PE X (.Call (.Attribute o "join" apos) [e] [] cpos) (tJn X.K to t):=by
 intro pins s σ H Q I h;refine wD jX pW jW rfl (thn (ho pins s σ H _ I h) λv s1 ⟨x,H1,I1,r1,q1⟩=>?_);cases x with
 |str x =>
  obtain⟨t1,rfl⟩:=r1;refine⟨"str","str.join",vE,F.slot_str_join,F.type_str_join,uY _ _ _,(λ_ e=>nomatch e),?_⟩;have hA:=ha cpos pins s1 σ H1 _ I1 q1;rw[hs]at hA ⊢;refine wC rfl (vQ ?_);refine thn hA λus s2 ⟨vs,H2,I2,r2,q2⟩=>?_;rcases vs with _|⟨y,_|⟨z,rr⟩⟩
  ·exact(show False from q2).elim
  ·cases y with
   |ref p =>
    obtain⟨ys,hq,hok,q⟩:=(show∃ys:List Str,SqL X.K H2 p (ys.map V.str)/\(ys.map (·.length)).sum+ys.length*x.length<=16777216/\Q (.str (Txt.join x ys)) H2 from q2)
    obtain⟨aH,rv,pl,_⟩:=I2.list hq;obtain⟨u,rfl,ru⟩:=vn r2;cases ru;exact join_list pl.isList (by simpa using dk rv) hok λt' k=>⟨.str _,H2,I2.tok _,⟨_,rfl⟩,q⟩
   |_=>exact(show False from q2).elim
  ·exact(show False from q2).elim
 |_=>exact(show False from q1).elim
def Sr:List V->Hp->VK->Prop:=λxs H Q=>match xs with
 |[.bl k]=>Q (.int (if k=true then 1 else 0)) H
 |_=>False
theorem Nl{k:Bool}{H:Hp}{Q:VK}:Sr [.bl k] H Q=Q (.int (if k=true then 1 else 0)) H:=rfl
theorem Ps:wv X (.type "int") Sr:=by
 intro pins s σ H xs us Q I r h
 match xs,h with
 |[.bl k],h=>exact Vi pins s σ H _ us Q I r (.inr ⟨k,rfl,h⟩)
end
theorem yf(x y:Str):(x++y).length=x.length+y.length:=by
 show(x.cps++y.cps).size=_;exact tQ
theorem ib(x:Str):Str.empty++x=x:=by
 show(⟨#[]++x.cps⟩:Str)=x;simp
def Say.text:Say->Str
 | .letter x=>x
 | .neg s=>Str.ofString "not "++s.text
 | .bin .con s t=>Str.ofString "("++s.text++Str.ofString " "++Str.ofString "and"++Str.ofString " "++t.text++Str.ofString ")"
 | .bin .dis s t=>Str.ofString "("++s.text++Str.ofString " "++Str.ofString "or"++Str.ofString " "++t.text++Str.ofString ")"
 | .bin .imp s t=>Str.ofString "(if "++s.text++Str.ofString " then "++t.text++Str.ofString ")"
theorem l9:(Str.ofString "not ").length=4:=by decide +kernel
theorem ji:(Str.ofString "(").length=1:=by decide +kernel
theorem l8:(Str.ofString ")").length=1:=by decide +kernel
theorem jh:(Str.ofString " ").length=1:=by decide +kernel
theorem l7:(Str.ofString "and").length=3:=by decide +kernel
theorem dc:(Str.ofString "or").length=2:=by decide +kernel
theorem c9:(Str.ofString "(if ").length=4:=by decide +kernel
theorem qj:(Str.ofString " then ").length=6:=by decide +kernel
theorem yz:∀s:Say,(∀x∈s.letters,Nm x)->s.text.length<=40*s.pieces
 | .letter x,h=>by
  have:=(h x (zS.mpr rfl)).1;simp only[Say.text,Say.pieces];lia
 | .neg s,h=>by
  have:=yz s h;simp only[Say.text,Say.pieces,yf,l9];lia
 | .bin .con s t,h=>by
  have h1:=yz s λx hx=>h x (zP.mpr (.inl hx));have h2:=yz t λx hx=>h x (zP.mpr (.inr hx));simp only[Say.text,Say.pieces,yf,ji,l8,jh,l7];lia
 | .bin .dis s t,h=>by
  have h1:=yz s λx hx=>h x (zP.mpr (.inl hx));have h2:=yz t λx hx=>h x (zP.mpr (.inr hx));simp only[Say.text,Say.pieces,yf,ji,l8,jh,dc];lia
 | .bin .imp s t,h=>by
  have h1:=yz s λx hx=>h x (zP.mpr (.inl hx));have h2:=yz t λx hx=>h x (zP.mpr (.inr hx));simp only[Say.text,Say.pieces,yf,c9,l8,qj];lia
def u4:Say->PyData
 | .letter x=>.tuple [.str (Str.ofString "letter"),.str x]
 | .neg s=>.tuple [.str (Str.ofString "not"),u4 s]
 | .bin o s t=>.tuple [.str o.word,u4 s,u4 t]
theorem m3{K:W.Frag}{H:Hp}:∀{s:Say}{v:V},SayAt K H v s->Has K H v (u4 s)
 | .letter x,v,⟨a,e,h⟩=>by
  subst e;unfold u4 Has;exact⟨a,_,rfl,h,im K H [_,_]⟩
 | .neg s,v,⟨a,u,e,h,h1⟩=>by
  subst e;have i1:=m3 h1;unfold u4 Has;refine⟨a,_,rfl,h,?_⟩;unfold HasL;refine⟨_,_,rfl,by unfold Has;rfl,?_⟩;unfold HasL;refine⟨_,_,rfl,i1,?_⟩;simp[HasL]
 | .bin o s t,v,⟨a,u,u',e,h,h1,h2⟩=>by
  subst e;have i1:=m3 h1;have i2:=m3 h2;unfold u4 Has;refine⟨a,_,rfl,h,?_⟩;unfold HasL;refine⟨_,_,rfl,by unfold Has;rfl,?_⟩;unfold HasL;refine⟨_,_,rfl,i1,?_⟩;unfold HasL;refine⟨_,_,rfl,i2,?_⟩;simp[HasL]
theorem Wn:PyData.strOk (Str.ofString "letter")=true:=by decide +kernel
theorem Ml:PyData.strOk (Str.ofString "not")=true:=by decide +kernel
theorem P9:∀o:Op2,PyData.strOk o.word=true
 | .con=>by show PyData.strOk (Str.ofString "and")=true;decide +kernel
 | .dis=>by show PyData.strOk (Str.ofString "or")=true;decide +kernel
 | .imp=>by show PyData.strOk (Str.ofString "if")=true;decide +kernel
theorem nh:∀s:Say,(∀x∈s.letters,Nm x)->PyData.canLay0 (u4 s)=true/\PyData.depth (u4 s)<=s.pieces
 | .letter x,h=>by
  have:=(h x (zS.mpr rfl)).2;constructor
  ·simp[u4,PyData.canLay0,PyData.canLayAll0,this,Wn]
  ·simp[u4,PyData.depth,PyData.depthAll,Say.pieces]
 | .neg s,h=>by
  obtain⟨h1,h2⟩:=nh s h;constructor
  ·simp[u4,PyData.canLay0,PyData.canLayAll0,h1,Ml]
  ·simp[u4,PyData.depth,PyData.depthAll,Say.pieces,h2]
 | .bin o s t,h=>by
  obtain⟨h1,h2⟩:=nh s λx hx=>h x (zP.mpr (.inl hx));obtain⟨h3,h4⟩:=nh t λx hx=>h x (zP.mpr (.inr hx));constructor
  ·simp[u4,PyData.canLay0,PyData.canLayAll0,h1,h3,P9]
  ·simp[u4,PyData.depth,PyData.depthAll,Say.pieces];lia
theorem il{K:W.Frag}{H:Hp}:∀{us:List V}{ts:List Say},SaysAt K H us ts->HasL K H us (ts.map u4)
 |[],[],_=>by simp[HasL]
 |u::us,t::ts,h=>by
  have ih:=il h.2;rw[List.map_cons];unfold HasL;exact⟨_,_,rfl,m3 h.1,ih⟩
theorem bq:∀ts:List Say,(∀t∈ts,t.pieces<=40/\∀x∈t.letters,Nm x)->PyData.canLayAll0 (ts.map u4)=true/\PyData.depthAll (ts.map u4)<=40
 |[],_=>by simp[PyData.canLayAll0,PyData.depthAll]
 |t::ts,h=>by
  obtain⟨h1,h2⟩:=bq ts λu hu=>h u (zI _ hu);have ht:=h t zB;obtain⟨a1,a2⟩:=nh t ht.2;rw[List.map_cons];refine⟨?_,?_⟩
  ·rw[PyData.canLayAll0,h1,Bool.and_true,a1]
  ·rw[PyData.depthAll];lia
end
end My
namespace My
open PySem
theorem vb{us:List Value}(h:us.length=1):∃a,us=[a]:=by
 cases us with
 |nil=>cases h
 |cons a us=>exact⟨a,by rw[vH.mp (Nat.succ.inj h)]⟩
theorem ux{us:List Value}(h:us.length=2):∃a b,us=[a,b]:=by
 cases us with
 |nil=>cases h
 |cons a us=>obtain⟨b,e⟩:=vb (Nat.succ.inj h);exact⟨a,b,by rw[e]⟩
theorem Pl{us:List Value}(h:us.length=3):∃a b c,us=[a,b,c]:=by
 cases us with
 |nil=>cases h
 |cons a us=>obtain⟨b,c,e⟩:=ux (Nat.succ.inj h);exact⟨a,b,c,by rw[e]⟩
theorem Ih{us:List Value}(h:us.length=4):∃a b c d,us=[a,b,c,d]:=by
 cases us with
 |nil=>cases h
 |cons a us=>obtain⟨b,c,d,e⟩:=Pl (Nat.succ.inj h);exact⟨a,b,c,d,by rw[e]⟩
end My
namespace My
open PySem PySem.Spec PySem.W PySem.Calls L2
open PyProof.Rows hiding St
section
def Fly(h:Heap)(a C:Addr)(dx:Option Addr)(fl:Option (Addr×Value)):Prop :=
 ∃oe vs,h.get? a=some oe/\oe.cls = .ref C/\oe.dict=dx/\oe.data = .fields vs/\vs[2]?=some .none/\match fl with
  |none=>vs[1]?=some .none
  |some (T,v)=>vs[1]?=some (.ref T)/\T≠a/\∃oT ts,h.get? T=some oT/\oT.data = .fields ts/\ts[3]?=some v
structure Rj(fs:List Addr)(a:Addr)(old:Option (Addr×Value))(h h':Heap):Prop where
 keep:∀b o,h.get? b=some o->b∉fs->b≠a->(∀T v,old=some (T,v)->b≠T)->h'.get? b=some o
 slot:∀b o,h.get? b=some o->b∈fs->∃sl,h'.get? b=some { o with slots:=sl }
 there:∀b o,h.get? b=some o->∃o',h'.get? b=some o'
section
variable {M:Model}{A:Around}{E:Value->Shared->Prop}{s:Shared}{base:Heap}{env:Env}{outer:List Env}{L a C:Addr}{dx:Option Addr}
theorem lh(o:Obj)(f:Array Value->Array Value):(o.mapFields f).dict=o.dict:=by
 obtain⟨c,d,dt,sl⟩:=o;cases dt<;>rfl
theorem b9{oe:Obj}{vs:Array Value}{head:Value}{Ck:Bool}{Q:Unit->Shared->Prop}(Ek:A.frames=some (env::outer))(hl:s.heap.FunFrames base (env::outer))(hf:env.frame=some L)
  (he:s.heap.get? a=some oe) (hc:oe.cls = .ref C) (oH:oe.dict=dx) (hd:oe.data = .fields vs) (h2:vs[2]?=some .none) (hsz:1<vs.size)
  (h:∀h' T,s.heap.objs.size<=T->Rj (frs (env::outer)) a none s.heap h'->Fly h' a C dx (some (T,rawInt L))->Q () { s with heap:=h' }) :
  wpAny M A (do let x <-frameOf env;let pl <-entryPlaceOf L Ck;let b <-EntryCells.newEntry head x .none (rawInt L) .none pl;setField (.ref a) 1 b) Q E s:=by
 have TV:a∉(env::outer).filterMap (·.frame):=λhm=>by
  obtain⟨_,o,ho,Eh⟩:=hl.mem hm;rw[he]at ho;injection ho with ho;subst ho;exact Eh vs hd
 refine zZ (wpAny_frameOf_fun Ek hl hf λh₁ hs₁=>?_);refine zZ (wpAny_entryPlaceOf λpl cV=>?_);unfold EntryCells.newEntry newFields;refine zZ (yB ?_ (cV.sizeOk5 _ _ _ _ _));have he₁:h₁.get? a=some oe:=(hs₁.2.1 a TV).trans he;have he₂:=zY (h:=h₁) { cls:=.type "traceback",dict:=none,data:=.fields ([head,.ref L,.none,rawInt L,.none]++(if pl.isEmpty then List.replicate 6 Value.none else pl)).toArray } he₁;refine tN he₂ hd hsz ?_;have BS:h₁.objs.size≠a:=wB (zU he₁);have hd₃:=wU hd (·.setIfInBounds 1 (Value.ref h₁.objs.size));have he₃:=yD (Obj.mapFields (·.setIfInBounds 1 (Value.ref h₁.objs.size))) he₂ (vU hd₃);have hT₃:=(yS (h₁.push { cls:=.type "traceback",dict:=none,data:=.fields ([head,.ref L,.none,rawInt L,.none]++(if pl.isEmpty then List.replicate 6 Value.none else pl)).toArray })
  (Obj.mapFields (·.setIfInBounds 1 (Value.ref h₁.objs.size))) (wY BS)).trans (zR h₁ rfl)
 have keep:∀b o,b≠a->h₁.get? b=some o ->
   ((h₁.push { cls:=.type "traceback",dict:=none,data:=.fields ([head,.ref L,.none,rawInt L,.none]++(if pl.isEmpty then List.replicate 6 Value.none else pl)).toArray }).update a (Obj.mapFields (·.setIfInBounds 1 (Value.ref h₁.objs.size)))).get? b=some o:=λb o AV hb=>by
  rw[yS _ _ (wY AV)];exact zY _ hb
 refine h _ h₁.objs.size (by rw[hs₁.1];exact zT _) ⟨λb o hb hf FS _=>keep b o FS ((hs₁.2.1 b hf).trans hb),λb o hb hf=>?_,λb o hb=>?_⟩ ?_
 ·obtain⟨sl,e⟩:=hs₁.2.2 b o hb;exact⟨sl,keep b _ (λz=>TV (z▸hf)) e⟩
 ·by_cases z:b=a
  ·subst z;exact⟨_,he₃⟩
  ·obtain⟨sl,e⟩:=hs₁.2.2 b o hb;exact⟨_,keep b _ z e⟩
 ·exact⟨_,_,he₃,(Obj.cls_mapFields _ _).trans hc,(lh _ _).trans oH,hd₃,by rw[Array.getElem?_setIfInBounds_ne (by decide)];exact h2,by simp[hsz],BS,_,_,hT₃,rfl,by first|(simp;done)|(rcases cV with rfl|⟨_,_,_,_,_,_,_,rfl⟩<;>simp)⟩
theorem ft{old:Option (Addr×Value)}{Q:Unit->Shared->Prop}(Ek:A.frames=some (env::outer))(hl:s.heap.FunFrames base (env::outer))(hf:env.frame=some L)
  (F:Fly s.heap a C dx old) (ho:∀T v,old=some (T,v)->v = .none)
  (h:∀h' T,s.heap.objs.size<=T->Rj (frs (env::outer)) a old s.heap h'->Fly h' a C dx (some (T,rawInt L))->Q () { s with heap:=h' }) :
  wpAny M A (noteFrame (.ref a) env) Q E s:=by
 obtain⟨oe,vs,he,hc,oH,hd,h2,r⟩:=F;cases old with
 |none =>
  unfold noteFrame;simp only[hf];refine zZ (yC he hd r ?_);rw[zK (by decide)];exact b9 Ek hl hf he hc oH hd h2 (yA.mp r).1 h
 |some p =>
  obtain⟨T,v⟩:=p;obtain rfl:=ho T v rfl;obtain⟨h1,BS,oT,ts,hT,AT,h3⟩:=r;unfold noteFrame;simp only[hf];refine zZ (yC he hd h1 ?_);rw[zH (show(Value.ref T != Value.none)=true from by simp)];refine zZ (yC hT AT h3 ?_);rw[zK (show¬((Value.none==rawInt L)=true)from by simp[rawInt])];refine zZ (tN hT AT (yA.mp h3).1 ?_);have other:∀b,b≠T->(s.heap.update T (Obj.mapFields (·.setIfInBounds 3 Value.none))).get? b=s.heap.get? b:=λb hb=>yS _ _ (wY hb);have qX:∀b o,s.heap.get? b=some o->(∀vs,o.data≠.fields vs)->b≠T:=λb o hb Eh q=>by
   rw[q,hT]at hb;injection hb with hb;subst hb;exact Eh ts AT
  have UD:=yD (Obj.mapFields (·.setIfInBounds 3 Value.none)) hT (vU (wU AT _));refine b9 (s:={ s with heap:=s.heap.update T (Obj.mapFields (·.setIfInBounds 3 Value.none)) }) (base:=base) Ek (hl.of_keeps λb o hb Eh=>⟨o,(other b (qX b o hb Eh)).trans hb,rfl⟩) hf ((other a (wY BS)).trans he) hc oH hd h2 (yA.mp h1).1 λh' T' hn N F=>?_;refine h h' T' (yM (uZ (Heap.size_after_update ..).symm) hn) ⟨λb o hb Ch FS hbT=>N.keep b o ((other b (hbT T _ rfl)).trans hb) Ch FS (λ_ _ z=>nomatch z),λb o hb Ch=>N.slot b o ((other b (qX b o hb λws q=>?_)).trans hb) Ch,λb o hb=>?_⟩ F
  ·obtain⟨_,o',BP,Eh⟩:=hl.mem (b:=b) Ch;rw[hb]at BP;cases BP;exact Eh ws q
  ·by_cases z:b=T
   ·subst z;exact N.there b _ UD
   ·exact N.there b o ((other b z).trans hb)
theorem uw{T:Addr}{v:Value}{Q:Unit->Shared->Prop}(F:Fly s.heap a C dx (some (T,v)))
  (h:∀h',(∀b o,b≠T->s.heap.get? b=some o->h'.get? b=some o)->Fly h' a C dx (some (T,.none))->Q () { s with heap:=h' }):wpAny M A (setFlight (.ref a) none) Q E s:=by
 obtain⟨oe,vs,he,hc,oH,hd,h2,h1,BS,oT,ts,hT,AT,h3⟩:=F;refine wpAny_setFlight_none he hd h1 hT AT (yA.mp h3).1 (h _ (λb o hb e=>(yS _ _ (wY hb)).trans e) ?_);have hsz:=(yA.mp h3).1;exact⟨oe,vs,(yS _ _ BS).trans he,hc,oH,hd,h2,h1,BS,_,_,yD _ hT (vU (wU AT _)),wU AT _,by simp[Array.getElem?_setIfInBounds,hsz]⟩
end
end
section
open Builtin Builtin.ObjectAttr
def vbm:List Value:=[.type "ValueError",.type "Exception",.type "BaseException",.type "object"]
def cr:List Value->Bool
 | .ref _::r=>cr r
 |l=>l==vbm
def xIn(K:Frag)(C:Addr):Bool:=match K.lookup C with
 |some ⟨.type "type",_,.cls cd,sl⟩=>(match cd.mro,sl.toList with
  | .ref C'::bm,[_,_,_,_,some (.builtin n),_]=>C'==C&&n=="ValueError.__new__"&&!cd.hasDel&&cd.hasDict&&tailIn K vbm bm&&cr bm
  |_,_=>false)
 |_=>false
structure XO(K:Frag)(C:Addr)(h:Heap)(cd:ClassData):Prop where
 at_:clsIn K C=some cd
 hd:cd.hasDict=true
 obj:∃bm N nm q bs hdct sn sub ab col dd k0 k1 k2 k3 k5,h.get? C=some (excClassObj nm q C N bs bm hdct sn sub ab col dd k0 k1 k2 k3 k5 "ValueError.__new__")/\OwnTail h vbm bm/\cd.mro = .ref C::bm
 over:cr cd.mro=true
theorem Lh{K:Frag}{C:Addr}{h:Heap}(X:K.In h)(q:xIn K C=true):∃cd,XO K C h cd:=by
 unfold xIn at q;split at q
 ·rename_i dd cd sl ho;split at q
  ·rename_i C' bm k0 k1 k2 k3 n k5 hm hs;simp only[yN,wI,Bool.not_eq_true']at q;obtain⟨⟨⟨⟨⟨rfl,rfl⟩,B3⟩,hdi⟩,ht⟩,hov⟩:=q;refine⟨cd,by unfold clsIn;rw[ho],hdi,?_,by rw[hm];exact hov⟩;obtain⟨nm,bs,mro,ns,qn,hd,sn,sub,ab,col,del⟩:=cd;dsimp only at hm B3;subst hm B3;have CJ:sl=#[k0,k1,k2,k3,some (.builtin "ValueError.__new__"),k5]:=by
    obtain⟨l⟩:=sl;simp only at hs;rw[hs]
   subst CJ;exact⟨bm,ns,nm,qn,bs,hd,sn,sub,ab,col,dd,k0,k1,k2,k3,k5,X _ _ ho,tail_of_in X ht,rfl⟩
  ·cases q
 ·cases q
theorem i7{n:String}(h:vbm.contains (.type n)=true):∀{l:List Value},cr l=true->l.contains (.type n)=true
 |[],e=>by cases e
 |v::r,e=>by
  cases v with
  |ref c=>rw[List.contains_cons,i7 h (l:=r) e,Bool.or_true]
  |_=>rw[eq_of_beq (show((_::r)==vbm)=true from e)];exact h
theorem cx(self:Value):∀{l:List Value},cr l=true->refuseLoop self "__setattr__" l=pure ()
 |[],e=>by cases e
 |v::r,e=>by
  cases v with
  |ref c=>rw[refuseLoop_ref];exact cx self (l:=r) e
  |_=>rw[eq_of_beq (show((_::r)==vbm)=true from e)];exact F.store_ValueError.passes self
section
variable {prog:Program}{w:World}{A:Around}{E:Value->Shared->Prop}{s:Shared}{K:Frag}{a C:Addr}
theorem Ws{R:Result->Shared->Prop}{ox:Obj}{od:Option Obj}{name:Str}{tk:Tok}{v:Value}{cd:ClassData}(X:K.In s.heap)(I:InstAt s.heap a ox C od)(x:XO K C s.heap cd)(ht:takerIn K C name=some none)
  (h:∀b,wpAny (model prog w) A.in1 (storeInOwnDict (.ref a) (.ref C) (.str name tk) name v b)
   (λbZ s'=>match bZ with|.done f=>R (.ok f) s'|.again c'=>c'.quiet=true/\codeAny (model prog w) A c' R s') (λe s'=>R (.error e) s') s) :
  codeAny (model prog w) A (.call (.builtin "object.__setattr__") ⟨[.ref a,.str name tk,v],[]⟩) R s:=by
 have SF:=F.store_object;have ne:cd.mro.isEmpty=false:=by cases q:cd.mro with|nil=>have:=x.over;rw[q]at this;cases this|cons _ _=>rfl
 have sub:Looks (model prog w) s.heap (isInstance (.ref a) (.type "object")) true:=I.type.andThen (looks_mroIn X (by unfold mroIn;rw[x.at_,Option.bind_some,zK (by rw[ne];decide),i7 (by decide) x.over]));refine uP SF.slot.plain SF.entry (@check_slot (model prog w) _ _ s "object.__setattr__" "object" "__setattr__" (.ref a) [.str name tk,v] [] _ SF.kind SF.split sub (SF.args (.ref a) (.str name tk) v) ?_);obtain⟨ZK,ha,hr⟩:=Option.bind_eq_some_iff.mp ht;have hm:Looks (model prog w) s.heap (mroOf (.ref C)) cd.mro:=(looks_clsIn X x.at_).andThen .now;have L3:Looks (model prog w) s.heap (storeTaker? ZK) none:=by
  cases ZK with
  |none=>exact .now
  |some a =>
   obtain⟨b,hb,e⟩:=Option.map_eq_some_iff.mp hr;refine(looks_takesIn X hb).andThen ?_;cases b with
   |false=>exact .now
   |true=>cases e
 rw[osa_eq,refuse_eq];refine zZ (zZ (I.type.here (zZ (hm.here ?_))));rw[cx _ x.over];refine zW (zZ (I.type.here (zZ ((looks_findIn X ha).here (zZ (L3.here ?_))))));exact h _
theorem Ku{oe:Obj}{vs:Array Value}{name:Str}{v:Value}{cd:ClassData}{Q:Unit->Shared->Prop}(X:K.In s.heap)(x:XO K C s.heap cd)(hs:findIn K (.ref C) "__setattr__"=some (some (.builtin "object.__setattr__")))(ht:takerIn K C name=some none)
  (he:s.heap.get? a=some oe) (hc:oe.cls = .ref C) (FP:oe.dict=none) (hd:oe.data = .fields vs)
  (h:∀h' dx tk,s.heap.objs.size<=dx->h'.Ns1 dx (λy=>if y=name then some v else none)->h'.get? a=some { oe with dict:=some dx }->(∀b o,b≠a->s.heap.get? b=some o->h'.get? b=some o)->Q () { s with heap:=h',toks:=tk }) :
  wpAny (model prog w) A (setAttr (.ref a) name v) Q E s:=by
 have I:InstAt s.heap a oe C none:=⟨he,hc,by unfold notCls;rw[hd],by rw[FP];trivial⟩
 refine set_plain X I hs (Ws (s:={ s with toks:=s.toks+1 }) X I x ht λb=>?_);obtain⟨oc,od,dt,sl⟩:=oe;dsimp only at hc FP hd;subst hc FP hd;obtain⟨hh,g,d,t,os⟩:=s;have he₁:(hh.push { cls:=.type "dict",data:=.dict #[] }).get? a=some ⟨.ref C,none,.fields vs,sl⟩:=zY _ he;have hxs:a≠hh.objs.size:=zE (zU he);refine zZ (zW (zZ (zZ (wpAny_loadPart he (zZ (W.Looks.here (looks_clsIn X x.at_) ?_))))));rw[x.hd];show wpAny _ _ _ _ _ _;refine zZ (wpAny_alloc' ?_);refine zZ (wpAny_update' he₁ ?_);refine zW ?_;have hgd:((hh.push { cls:=.type "dict",data:=.dict #[] }).update a λo=>{ cls:=o.cls,dict:=some hh.objs.size,data:=o.data,slots:=o.slots }).get? hh.objs.size
  =some { cls:=.type "dict",data:=.dict #[] }:=(Heap.get?_update_ne _ _ _ _ hxs.symm).trans (Heap.get?_push_at rfl rfl)
 have BQ:((hh.push { cls:=.type "dict",data:=.dict #[] }).update a λo=>{ cls:=o.cls,dict:=some hh.objs.size,data:=o.data,slots:=o.slots }).Ns hh.objs.size (λ_=>none) :=
  ⟨_,#[],_,hgd,rfl,λe he=>absurd he (by simp),λ_=>rfl⟩
 show wpAny _ _ (storeInDict hh.objs.size (.str name t) name v) _ _ _;unfold storeInDict newKeyGuard;refine zZ (zW (zZ (wpAny_nsSet1 (Heap.Ns1.of_empty BQ) λh' FL hs=>?_)));obtain⟨oD,esD,epD,hoD,hdD,B4⟩:=FL.count (Within.cons name v Within.nil);refine zZ (wpAny_lookBehind hoD (by rw[hdD];exact pastItsLine_dict (yM B4 (by rw[yJ,wO,zM];lia))) ?_);refine zW (h h' hh.objs.size _ (zT _) FL ?_ λb o hb e=>?_)
 ·refine(hs.2 a hxs).trans (yD _ he₁ rfl)
 ·exact(hs.2 b (zE (zU e))).trans ((Heap.get?_update_ne _ _ _ _ hb).trans (zY _ e))
end
end
section
open Builtin Builtin.ObjectAttr
section
variable {prog:Program}{w:World}{A:Around}{E:Value->Shared->Prop}{h:Heap}{g:Array GenState}{d:Drawn}{t:Nat}{os:OsState}{K:Frag}{a C:Addr}
theorem nt{bm:List Value}{N:Addr}{nm q:Str}{bs:List Value}{hdct:Bool}{sn:List Str}{sub:List Value}{ab:Bool}{col:Option Bool}{dd:Option Addr}{k0 k1 k2 k3 k5:Option Value}{rest:List Value}{fI:Addr}{Q:Fin->Shared->Prop}(X:K.In h)
  (hC:h.get? C=some (excClassObj nm q C N bs bm hdct sn sub ab col dd k0 k1 k2 k3 k5 "ValueError.__new__")) (T:OwnTail h vbm bm) (hi:findIn K (.ref C) "__init__"=some (some (.ref fI))) (hf:typeIn K (.ref fI)=some (.type "function"))
  (hq:∀h' e,h.objs.size<=e->Heap.MadeExcOf h h' e (.ref C) rest ->
   wpAny (model prog w) A (call (.ref fI) (.ref e::rest)) (λr s'=>r = .none/\Q (.done (.ret (.ref e))) s') E ⟨h',g,d,t,os⟩) (mY:rest.length<=sizeLine) :
  wpAny (model prog w) A (Builtin.«type.__call__» ⟨.ref C::rest,[]⟩) Q E ⟨h,g,d,t,os⟩:=by
 have F:=F.excBase_ValueError
 repeat(first|with_reducible refine xB hC ?_|with_reducible refine wpAny_madeBy_exc hC ?_|wp_step)
 refine codeAny_call_builtin_code (vB _ F.quiet) (wpAny_check_new_subT F T hC ?_);refine codeAny_exc_new_subT F T hC ?_ mY;show wpAny _ _ _ _ _ _;have kp:∀b o,h.get? b=some o->((h.push { cls:=.type "tuple",data:=.seq rest.toArray }).push { cls:=.ref C,data:=.fields #[.ref h.objs.size,.none,.none,.none,.bool false,.none] }).get? b=some o:=λb o e=>zY _ (zY _ e);have hC₁:=kp _ _ hC;have X₁:=X.keeps kp;have AA:((h.push { cls:=.type "tuple",data:=.seq rest.toArray }).push
   { cls:=.ref C,data:=.fields #[.ref h.objs.size,.none,.none,.none,.bool false,.none] }).get? (h.objs.size+1)=some
   { cls:=.ref C,data:=.fields #[.ref h.objs.size,.none,.none,.none,.bool false,.none] }:=by heap_get
 have hcC:(Value.ref C::bm).contains (.ref C)=true:=by simp
 unfold isInstance
 repeat(first|with_reducible refine xB AA ?_|(with_reducible refine uF hC₁ ?_;rw[hcC])|wp_step)
 show wpAny _ _ (typeLookup (.ref C) _) _ _ _;refine(looks_findIn (M:=model prog w) X₁ hi).at ?_;refine xS (zZ ?_);refine(bind_fn X₁ (.ref (h.objs.size+1)) hf).at ?_;refine zZ (yR (hq _ (h.objs.size+1) (wG _) ⟨kp,vR (wG _),h.objs.size,AA,vR (zT _),?_⟩) (λr s' hr=>?_) λ_ _ x=>x)
 ·exact zY _ (Heap.get?_push_at rfl rfl)
 ·obtain⟨rfl,hQ⟩:=hr
  wp_walk
  exact hQ
theorem Yz{bm:List Value}{N:Addr}{nm q:Str}{bs:List Value}{hdct:Bool}{sn:List Str}{sub:List Value}{ab:Bool}{col:Option Bool}{dd:Option Addr}{k0 k1 k2 k3 k5:Option Value}{rest:List Value}{fI:Addr}{Q:Value->Shared->Prop}(X:K.In h)
  (hC:h.get? C=some (excClassObj nm q C N bs bm hdct sn sub ab col dd k0 k1 k2 k3 k5 "ValueError.__new__")) (T:OwnTail h vbm bm) (hi:findIn K (.ref C) "__init__"=some (some (.ref fI))) (hf:typeIn K (.ref fI)=some (.type "function"))
  (hq:∀h' e,h.objs.size<=e->Heap.MadeExcOf h h' e (.ref C) rest ->
   wpAny (model prog w) (A.under (.builtin "type.__call__" ⟨.ref C::rest,[]⟩)) (call (.ref fI) (.ref e::rest)) (λr s'=>r = .none/\Q (.ref e) s') E ⟨h',g,d,t,os⟩) (mY:rest.length<=sizeLine) :
  wpAny (model prog w) A (call (.ref C) rest) Q E ⟨h,g,d,t,os⟩:=by
 have f1:=tc_lookup;have f2:=tc_bind (.ref C);have hT:(⟨h,g,d,t,os⟩:Shared).TypeIs (.ref C) "type":=⟨_,hC,rfl⟩
 refine uO (codeAny_of_tree ?_);show wpAny _ _ (callAny (.ref C) _) _ _ _
 repeat(any_goals (first|assumption|with_reducible refine xB hC ?_|wp_step))
 refine⟨rfl,?_⟩;refine codeAny_call_builtin_at (vB _ (by decide +kernel)) entry_typeCall (wpAny_check_type_call_sub hC (nt X hC T hi hf (λh' e hz hm=>?_) mY));exact hq h' e hz hm
end
end
section
open Builtin Builtin.ObjectAttr
structure XCls(K:Frag)(C:Addr):Prop where
 x:xIn K C=true
 ga:findIn K (.ref C) "__getattribute__"=some (some (.builtin "BaseException.__getattribute__"))
 gt:findIn K (.ref C) "__getattr__"=some none
 sa:findIn K (.ref C) "__setattr__"=some (some (.builtin "object.__setattr__"))
 mb:mroIn K C (.type "BaseException")=some true
 mo:mroIn K C (.type "object")=some true
 kp:keepIn K (.ref C)=true
 ca:findIn K (.ref C) "__class__"=some (some (.builtin "object.__class__"))
 cg:specialIn K (.builtin "object.__class__") "__get__"=some (some (.builtin "getset_descriptor.__get__"))
 ct:takesIn K (.builtin "object.__class__")=some true
theorem XCls.cls{K:Frag}{C:Addr}(c:XCls K C):∃cd,clsIn K C=some cd/\cd.hasDict=true:=by
 have q:=c.x;unfold xIn at q;split at q
 ·rename_i dd cd sl ho;split at q
  ·simp only[yN,wI,Bool.not_eq_true']at q;exact⟨cd,by unfold clsIn;rw[ho],q.1.1.2⟩
  ·cases q
 ·cases q
section
variable {prog:Program}{w:World}{A:Around}{E:Value->Shared->Prop}{K:Frag}{a C:Addr}
theorem Pc{ox:Obj}{od:Option Obj}{s:Shared}{Q:Option Value->Shared->Prop}(X:K.In s.heap)(I:InstAt s.heap a ox C od)(c:XCls K C)(hq:Q (some (.ref C)) { s with toks:=s.toks+1 }):wpAny (model prog w) A (getAttr? (.ref a) "__class__") Q E s:=by
 obtain⟨h,g,d,t,os⟩:=s;obtain⟨cd,qJ,hdi⟩:=c.cls;have hf:findObj K C od "__class__"=some (.bind (.builtin "getset_descriptor.__get__") (.builtin "object.__class__")):=by simp only[findObj,qJ,c.ca,c.cg,c.ct,Option.bind_some]
 have L0:=I.type (M:=model prog w);have L1:=looks_findIn (M:=model prog w) X c.ga;have L2:=looks_findIn (M:=model prog w) X c.gt;have L3:=looks_find (M:=model prog w) X I hf;have f3:=F.attr_ValueError.ga.bind (.ref a);have rV:(Value.builtin "BaseException.__getattribute__"==Value.builtin "object.__getattribute__")=false:=by decide +kernel
 have pH:(onTheHeap (Value.ref C)&&Value.builtin "BaseException.__getattribute__"==Value.builtin "object.__getattribute__")=false:=by rw[rV];rfl
 unfold getAttr? getAttrBy?;refine zZ (wpAny_mkText ?_)
 repeat(any_goals (first|assumption|with_reducible refine L0.at ?_|with_reducible refine L1.at ?_|with_reducible refine L2.at ?_|wp_step))
 refine uP F.attr_ValueError.ga.plain F.entry_bexc_ga (@check_slot (model prog w) _ _ ⟨h,g,d,t+1,os⟩ "BaseException.__getattribute__" "BaseException" "__getattribute__" (.ref a) [.str "__class__" t] [] _ (by decide +kernel) (by decide +kernel) (L0.andThen (looks_mroIn X c.mb)) (F.args_bexc_ga _ _) ?_)
 repeat(any_goals (first|assumption|with_reducible refine L0.at ?_|with_reducible refine L3.at ?_|wp_step))
 refine class_get (s:=⟨h,g,d,t+1,os⟩) (ox:=ox) (od:=od) X I c.mo ?_
 repeat(any_goals (first|assumption|wp_step))
theorem Sh{ox:Obj}{od:Option Obj}(c:XCls K C):KitX K (.ref a) (.ref C) (λh=>InstAt h a ox C od)where
 ty:=λ_ _ _ I=>I.type
 it:=λ_ _ X _=>by
  obtain⟨cdD,B4,_⟩:=c.cls;unfold clsIn at B4;split at B4
  ·rename_i c' d' cd' HS ho;intro A' Q' E' s' k q;unfold isType loadHead;exact zZ (wpAny_loadPart (k _ _ (X _ _ ho)) (zW q))
  ·cases B4
 ne:=λh tp dd aH n sl X htp=>by
  obtain⟨cdD,B4,_⟩:=c.cls;refine Bool.eq_false_iff.mpr λq=>?_;have e:C=tp:=Value.ref.inj (wI.mp q);subst e;unfold clsIn at B4;split at B4
  ·rename_i c' d' cd' HS ho;have z:=(X _ _ ho).symm.trans htp;cases z
  ·cases B4
 ca:=λX I k=>Pc X I c k
end
def exO(a C:Addr)(dx:Option Addr)(n:Bool):HO:=.ext λh=>∃oe vs v1,h.get? a=some oe/\oe.cls = .ref C/\oe.dict=dx/\oe.data = .fields vs/\vs[1]?=some v1/\((n=true->v1 = .none)/\vs[2]?=some .none)
section
variable {P:Program}{w:World}{H:Hp}{h:Heap}{a C:Addr}{dx:Option Addr}{n:Bool}
theorem o8(e:∃oe vs v1,h.get? a=some oe/\oe.cls = .ref C/\oe.dict=dx/\oe.data = .fields vs/\vs[1]?=some v1/\((n=true->v1 = .none)/\vs[2]?=some .none)):ObjOk P w H h a (exO a C dx n):=by
 refine⟨e,?_,λh1 h2 ⟨oe,vs,v1,e1,r⟩ k=>⟨oe,vs,v1,k _ e1,r⟩⟩;obtain⟨oe,_,_,e1,_⟩:=e;exact⟨oe,e1⟩
theorem vq(ok:HOk P w H h)(e:H a=some (exO a C dx n)):∃oe vs v1,h.get? a=some oe/\oe.cls = .ref C/\oe.dict=dx/\oe.data = .fields vs/\vs[1]?=some v1/\((n=true->v1 = .none)/\vs[2]?=some .none):=(ok a _ e).1
end
section
variable {X:Cx}{pins:List (Addr×Obj)}{σ:St}{H:Hp}{s:Shared}{a C:Addr}{n:Bool}
theorem Inv.exDict{dx:Addr}{fs:List (Str×V)}{mA:Str->Option Value}{h':Heap}{t':Nat}(I:Inv X pins σ H s)(ea:H a=some (exO a C none n))(hz:s.heap.objs.size<=dx)(k:∀b o,b≠a->s.heap.get? b=some o->h'.get? b=some o)
  (ns:h'.Ns1 dx mA) (r:∀f,RelO (fs.lookup f) (mA f)) (na:∃oe vs v1,h'.get? a=some oe/\oe.cls = .ref C/\oe.dict=some dx/\oe.data = .fields vs/\vs[1]?=some v1/\((n=true->v1 = .none)/\vs[2]?=some .none)) :
  Inv X pins σ (upd (upd H dx (.xd fs)) a (exO a C (some dx) n)) { s with heap:=h',toks:=t' }:=by
 have oH:H dx=none:=I.hok.fresh hz;have ne:dx≠a:=λz=>by rw[z,ea]at oH;cases oH
 have at_:∀b o,H b=some o->b≠a->(upd (upd H dx (.xd fs)) a (exO a C (some dx) n)) b=some o:=λb o e z=>by rw[zj z,zj (λq=>by rw[q,oH]at e;cases e)];exact e
 refine I.un ⟨λb o e q _ _=>k b o (λz=>by rw[z,ea]at q;cases q) e,λb o e q _ _=>⟨o.slots,k b o (λz=>by rw[z,ea]at q;cases q) e⟩,λb o e q _=>?_,λb o e _=>?_,λb xs e=>at_ b _ e λz=>?_,λb o u e=>at_ b _ e λz=>?_,λb ps e=>⟨#[],?_⟩⟩ λb o e=>?_
 ·rw[zj (λz=>by rw[z,ea]at q;cases q),zj (zE (zG (zU e) hz))];exact q
 ·by_cases z:b=a
  ·obtain⟨oe,_,_,e1,_⟩:=na;exact⟨oe,z▸e1⟩
  ·exact⟨o,k b o z e⟩
 ·rw[z,ea]at e;cases e
 ·rw[z,ea]at e;cases e
 ·rw[at_ b _ e λz=>by rw[z,ea]at e;cases e];simp
 ·by_cases z:b=a
  ·subst z;rw[zy]at e;cases e;exact o8 na
  ·rw[zj z]at e
   by_cases q:b=dx
   ·subst q;rw[zy]at e;cases e;exact⟨mA,ns,r⟩
   ·rw[zj q]at e;refine(I.hok b o e).stay (λc u hc g=>k c u ?_ g) (λc g=>at_ c _ g λy=>?_) λc xs g=>at_ c _ g λy=>?_
    ·rcases hc with y|y
     ·rw[y];exact z
     ·intro y';rw[y',ea]at y;cases y
    ·rw[y,ea]at g;cases g
    ·rw[y,ea]at g;cases g
end
end
section
theorem Oa{K:Frag}{C:Addr}{h:Heap}(X:K.In h)(c:XCls K C):∃bm N nm q bs hdct sn sub ab col dd k0 k1 k2 k3 k5,h.get? C=some (excClassObj nm q C N bs bm hdct sn sub ab col dd k0 k1 k2 k3 k5 "ValueError.__new__")/\OwnTail h vbm bm:=by
 obtain⟨cd,x⟩:=Lh X c.x;obtain⟨bm,N,nm,q,bs,hdct,sn,sub,ab,col,dd,k0,k1,k2,k3,k5,hC,T,_⟩:=x.obj;exact⟨bm,N,nm,q,bs,hdct,sn,sub,ab,col,dd,k0,k1,k2,k3,k5,hC,T⟩
def Ot(K:Frag)(ta tv:TE)(f:Str):TS:=λD σ H=>tv σ H λy H1=>ta σ H1 λx H2=>∃a C n,x = .ref a/\H2 a=some (exO a C none n)/\XCls K C/\takerIn K C f=some none /\
 ∀dx,H2 dx=none->D.nx σ (upd (upd H2 dx (.xd [(f,y)])) a (exO a C (some dx) n))
def K6(K:Frag)(ta:TE)(f:Str):TE:=fun σ H Q=>ta σ H λx H1=>∃a C dx n fs v,x = .ref a/\H1 a=some (exO a C (some dx) n)/\H1 dx=some (.xd fs)/\XCls K C/\NoAttr K C f/\fs.lookup f=some v/\Q v H1
section
variable {X:Cx}{o e value:Expr}{f:Str}{pos kQ:Pos}{ta tv:TE}
theorem Ql(ha:PE X o ta)(hv:PE X value tv)(hs:swapsWith value (some (.Attribute o f kQ)) pos.line X.env=pure false):PS X (.Assign [.Attribute o f kQ] value pos) (Ot X.K ta tv f):=by
 intro pins s σ H D I h;refine plainObj_wpAny_Assign_Attribute (thn (hv pins s σ H _ I h) λu s1 ⟨y,H1,I1,ry,q⟩=>thn (ha pins s1 σ H1 _ I1 q) λov s2 ⟨x,H2,I2,rx,a,C,n,ex,ea,c,ht,q2⟩=>?_) hs;subst ex;obtain rfl:ov=Value.ref a:=rx;obtain⟨cd,x⟩:=Lh I2.kIn c.x;obtain⟨oe,vs,v1,e1,e2,e3,e4,e5,e6⟩:=vq I2.hok ea;refine Ku I2.kIn x c.sa ht e1 e2 e3 e4 λh' dx tk hz hn e' k=>?_;have hr:∀g,RelO (([(f,y)]:List (Str×V)).lookup g) (if g=f then some u else none):=λg=>by
  by_cases z:g=f
  ·rw[zH z,z,List.lookup_cons_self];exact ry
  ·rw[zK z,uM,wQ.mpr z];exact True.intro
 refine⟨σ,_,Inv.exDict (n:=n) (t':=tk) I2 ea hz k hn hr ⟨_,vs,v1,e',e2,rfl,e4,e5,e6⟩,q2 dx (I2.hok.fresh hz)⟩
end
structure DefI(K:Frag)(C:Addr)(qual:Str)(st:Stmt)(ps:List Str):Prop where
 ex:∃(f:Addr)(fd:FuncData),Fun K "__init__" qual st f fd/\(∀us:List Value,us.length=ps.length->bindArgs fd ⟨us,[]⟩=pure (ps.zip us))/\findIn K (.ref C) "__init__"=some (some (.ref f))/\typeIn K (.ref f)=some (.type "function")/\XCls K C
structure mq(P:Program)(w:World)(K:Frag)(mg:Str->Option Value)(base:Heap)(k:Nat)(C:Addr)(ps:List Str)(sp:Sp):Prop where
 ex:∃(f:Addr)(fd:FuncData),FnOk P w K mg base CX0 k f fd ps sp/\Binds K fd ps []/\findIn K (.ref C) "__init__"=some (some (.ref f))/\typeIn K (.ref f)=some (.type "function")/\XCls K C
theorem DefI.callee{P:Program}{w:World}{K:Frag}{mg:Str->Option Value}{base:Heap}{C:Addr}{qual:Str}{st:Stmt}{N ps:List Str}{k:Nat}{sp:Sp}(F:DefI K C qual st ps)(S:zr N ps (z4 st))(len:∀vs H Q E,sp vs H Q E->vs.length=ps.length)
  (bI:∀(f:Addr)(cdv:Value)(A:Around)(outer:List Env)(s:Shared)(H:Hp)(vs:List V)(Q:VK)(E:XK),Room k (A.deeper (envOfC qual (z4 st) s.heap.objs.size f cdv))->sp vs H Q E ->
   ∃σ t,start N vs=σ/\PSs (wg CX0 P w K mg base N qual (z4 st) f cdv A outer s H E).nox (zw st) t/\t { nx:=λ_ H'=>Q .non H',rt:=Q } σ H):mq P w K mg base (k+1) C ps sp:=by
 obtain⟨f,fd,F,b,hi,hf,hc⟩:=F.ex;refine⟨f,fd,F.ok S len λcdv A outer s H vs Q E hr h=>?_,.all b,hi,hf,hc⟩;obtain⟨σ,t,e,ht,q⟩:=bI f cdv A outer s H vs Q E hr h;exact⟨t,ht,by rw[e];exact q⟩
theorem Pd{K:Frag}{C:Addr}{qual:Str}{st:Stmt}{ps:List Str}{f:Addr}{oc:Value}{od an:Option Addr}{osl:Array (Option Value)}{kV doc pm cdv ct:Value}
  (a:findIn K (.ref C) "__init__"=some (some (.ref f))) (l:K.lookup f=some ⟨oc,od,.func (W.fnOf "__init__" qual (zu st) (zw st) (z4 st) .none kV doc pm an cdv ct),osl⟩)
  (c:codeIn K cdv qual=true) (k:keepIn K (.ref f)=true) (n:typeIn K (.ref f)=some (.type "function")) (x:XCls K C)
  (h:∀(kV doc pm:Value)(an:Option Addr)(cdv ct:Value)(us:List Value),us.length=ps.length->bindArgs (W.fnOf "__init__" qual (zu st) (zw st) (z4 st) .none kV doc pm an cdv ct) ⟨us,[]⟩=pure (ps.zip us)):DefI K C qual st ps :=
 ⟨f,_,ez l c k,λus hl=>h kV doc pm an cdv ct us hl,a,n,x⟩
def O1(C:Addr)(sp:Sp)(t:TA):TE:=fun σ H Q=>t σ H λvs H1=>vs.length<=sizeLine/\∀a,H1 a=none->sp (.ref a::vs) (upd H1 a (exO a C none true)) (λv H2=>v = .non/\Q (.ref a) H2) E0
theorem Mg{X:Cx}{C:Addr}{x:Str}{e:Expr}{es:List Expr}{t:TA}{k k':Nat}{ps:List Str}{sp:Sp}{p pos:Pos}(F:mq X.prog X.w X.K X.mg X.base k C ps sp)(hr:Room k' X.A)(hk:k+1<=k')(hm:X.mg x=some (.ref C))(ha:PA X (e::es) t)(hg:Gl X x:=by rfl)
  (kI:(x==("__debug__":Str))=false:=by decide) (he:starEach (e::es) X.env=(false,eval e X.env)::starEach es X.env:=by rfl) (cV:(backTo pos (starEach es X.env)).any (·.1)=false:=by rfl) :
  PE X (.Call (.Name x p) (e::es) [] pos) (O1 C sp t):=by
 intro pins s σ H Q I h;obtain⟨fI,fd,F,b,hi,hf,c⟩:=F.ex;refine xH (wj I hg hm ?_ kI);refine wL (h₀:=X.base) I.ok.mod.kin c.kp (thn (ha pos pins s σ H _ I h) λus s1 ⟨vs,H1,I1,r,hz,q⟩=>⟨I1.kIn,?_⟩) he cV;obtain⟨bm,N,nm,qq,bs,hdct,sn,sub,ab,col,dd,k0,k1,k2,k3,k5,hC,T⟩:=Oa I1.kIn c;obtain⟨hh,g,d,tt,os⟩:=s1;refine Yz I1.kIn hC T hi hf (λh' a SN oQ=>?_) (show us.length<=sizeLine by rw[<-r.length];exact hz);obtain⟨tp,ht,_,_⟩:=oQ.there;have I2:Inv X pins σ (upd H1 a (exO a C none true)) ⟨h',g,d,tt,os⟩:=I1.laid (a:=a) (t':=tt) oQ.keeps SN (o8 ⟨_,_,.none,ht,rfl,rfl,rfl,rfl,λ_=>rfl,rfl⟩);have hq:=q a (I1.hok.fresh SN);have r2:Vals (V.ref a::vs) (Value.ref a::us):=.cons rfl r;have hl:((Value.ref a::us)++[]).length=ps.length:=by
  rw[List.append_nil];exact r2.length.symm.trans (F.len _ _ _ _ hq)
 have hb:=b ⟨h',g,d,tt,os⟩ (Value.ref a::us) I2.kIn hl;rw[List.append_nil]at hb;refine uO (wA (F.run _ X.stack _ _ ⟨Value.ref a::us,[]⟩ (Value.ref a::us) _ _ E0 ((hr.mono hk).make C us []) (I2.env0.make C us []) hb r2 hq) λr s' Bw=>?_);cases r with
 |error e=>exact False.elim Bw
 |ok fl =>
  cases fl with
  |ret u =>
   obtain⟨v,H',I3,rv,ev,q3⟩:=I2.after Bw;subst ev;exact⟨rv,⟨V.ref a,H',I3,rfl,q3⟩⟩
  |next=>exact False.elim Bw
  |brk=>exact False.elim Bw
  |cont=>exact False.elim Bw
end
section
def Le:V->Option Value
 | .ref a=>some (.ref a)
 | .ty n=>some (.type n)
 |_=>none
theorem U7{c:V}{cv u:Value}(h:Le c=some cv)(r:RelV c u):u=cv:=by
 cases c<;>first|(cases h;exact r)|cases h
section
variable {X:Cx}
theorem tw{x:Str}{pos:Pos}{C:Addr}(hm:X.mg x=some (.ref C))(hg:Gl X x:=by rfl)(kI:(x==("__debug__":Str))=false:=by decide):PE X (.Name x pos) (tC (.ref C)) :=
 λpins s σ H Q I h=>wj I hg hm ⟨.ref C,H,I,rfl,h⟩ kI
end
section
variable {M:Model}{A:Around}{E:Value->Shared->Prop}{env:Env}{K:Frag}
theorem Qr{s:Shared}{x:Sem Value}{Q:Flow->Shared->Prop}(hh:A.handled=none)
  (h:wpAny M A x (λv s₁=>∃a C oe vs,v = .ref a/\K.In s₁.heap/\XCls K C/\s₁.heap.get? a=some oe/\oe.cls = .ref C/\oe.data = .fields vs/\vs[1]?=some .none/\E (.ref a) s₁) E s) :
  wpAny M A (raiseStmt env (some x) none) Q E s:=by
 unfold raiseStmt;refine zZ (yR h (λv s₁ h₁=>?_) λ_ _ x=>x);obtain⟨a,C,oe,vs,rfl,KX,c,he,hc,hd,h1,hE⟩:=h₁;obtain⟨bm,N,nm,qq,bs,hdct,sn,sub,ab,col,dd,k0,k1,k2,k3,k5,hC,T⟩:=Oa KX c;have hcB:(Value.ref C::bm).contains (.type "BaseException")=true:=by rw[List.contains_cons,T.hasType (b:=true) (by decide),Bool.or_true]
 obtain⟨oc,od,dt,sl⟩:=oe;dsimp only at hc hd;subst hc hd;obtain⟨hp,g,d,tk,os⟩:=s₁
 repeat(first|with_reducible refine xB he ?_|with_reducible refine xB hC ?_|(with_reducible refine uF hC ?_;rw[hcB])|with_reducible refine yC he rfl h1 ?_|wp_step)
 exact wpAny_raiseNew_none hh hE
end
def d3(X:Cx)(E:XK):Prop:=∀(pins:List (Addr×Obj))(σ:St)(H:Hp)(s:Shared)(a C:Addr)(dx:Option Addr),Inv X pins σ H s->H a=some (exO a C dx true)->E (.ref a) dx (upd H a (exO a C dx false))->X.xe (.ref a) s
def ac(K:Frag)(E:XK)(te:TE):TS:=λD σ H=>te σ H λx H1=>∃a C dx,x = .ref a/\H1 a=some (exO a C dx true)/\XCls K C/\E (.ref a) dx (upd H1 a (exO a C dx false))
theorem T6{X:Cx}{e:Expr}{te:TE}{E:XK}{pos:Pos}(he:PE X e te)(hx:d3 X E)(hh:X.A.handled=none):PS X (.Raise (some e) none pos) (ac X.K E te):=by
 intro pins s σ H D I h;rw[arm_exec_Raise];refine zZ (tF (Qr (K:=X.K) hh (zZ (thn (he pins s σ H _ I h) λv s1 ⟨x,H1,I1,rx,a,C,dx,ex,ea,c,q⟩=>zZ (tF (zW ?_))))));subst ex;obtain rfl:v=Value.ref a:=rx;obtain⟨oe,vs,v1,e1,e2,e3,e4,e5,e6⟩:=vq I1.hok ea;obtain rfl:=e6.1 rfl;exact⟨a,C,oe,vs,rfl,I1.kIn,c,e1,e2,e4,e5,hx pins σ H1 s1 a C dx I1 ea q⟩
end
section
def CXr(P:Program)(w:World):CXT:=λouter H s E e s'=>∃a C dx H' T,e = .ref a/\s'.os=s.os/\AllBare s'.gens/\Un (frs outer) [] H H' s.heap s'.heap/\HOk P w H' s'.heap /\
 H' a=some (exO a C dx false)/\H' T=none/\s.heap.objs.size<=T/\Fly s'.heap a C dx (some (T,.none))/\E e dx H'
theorem gw{H:Hp}{a:Addr}{o:HO}(e:H a=some o):upd H a o=H:=by
 funext b
 by_cases z:b=a
 ·rw[z,zy,e]
 ·rw[zj z]
section
variable {P:Program}{w:World}{K:Frag}{mg:Str->Option Value}{base:Heap}{N:List Str}{qual:Str}{scope:Scope}{f:Addr}{cd:Value}{A:Around}{outer:List Env}{s₀:Shared}{H₀:Hp}{E:XK}
theorem sm{X:Cx}{pins:List (Addr×Obj)}{σ:St}{H:Hp}{s:Shared}{a C T:Addr}{dx:Option Addr}{old:Option (Addr×Value)}{n:Bool}{h1 h2:Heap}{fl:Option (Addr×Value)}(I:Inv X pins σ H s)(ea:H a=some (exO a C dx n))(ho:∀T v,old=some (T,v)->H T=none)
  (N:Rj (frs X.stack) a old s.heap h1) (hz:s.heap.objs.size<=T) (k2:∀b o,b≠T->h1.get? b=some o->h2.get? b=some o) (F2:Fly h2 a C dx fl):HOk X.prog X.w (upd H a (exO a C dx false)) h2:=by
 intro b o e
 by_cases z:b=a
 ·subst z;rw[zy]at e;cases e;obtain⟨oe,vs,e1,e2,e3,e4,h2,r⟩:=F2;cases fl with
  |none=>exact o8 ⟨oe,vs,_,e1,e2,e3,e4,r,(λz=>by cases z),h2⟩
  |some p=>exact o8 ⟨oe,vs,_,e1,e2,e3,e4,r.1,(λz=>by cases z),h2⟩
 ·rw[zj z]at e;refine(I.hok b o e).stay (λc u hc g=>?_) (λc g=>?_) λc xs g=>?_
  ·have ht:H c≠none:=by
    rcases hc with y|y
    ·rw[y,e];exact λq=>by cases q
    ·rw[y];exact λq=>by cases q
   refine k2 c u (zE (zG (zU g) hz)) (N.keep c u g (λq=>ht (I.stkFree c q)) (λq=>?_) λT' v' q y=>ht (by rw[y];exact ho T' v' q));rcases hc with y|y
   ·exact z (y.symm.trans q)
   ·rw[q,ea]at y;cases y
  ·rw[zj λy=>by rw[y,ea]at g;cases g];exact g
  ·rw[zj λy=>by rw[y,ea]at g;cases g];exact g
theorem br{pins:List (Addr×Obj)}{σ:St}{H:Hp}{s:Shared}{a C:Addr}{dx:Option Addr}{n:Bool}{old:Option (Addr×Value)}(I:Inv (wg (CXr P w) P w K mg base N qual scope f cd A outer s₀ H₀ E) pins σ H s)(ea:H a=some (exO a C dx n))(F:Fly s.heap a C dx old)
  (ho:∀T v,old=some (T,v)->v = .none/\H T=none/\s₀.heap.objs.size<=T) (hE:E (.ref a) dx (upd H a (exO a C dx false))):(wg (CXr P w) P w K mg base N qual scope f cd A outer s₀ H₀ E).xe (.ref a) s:=by
 have hL:s₀.heap.objs.size<=s₀.heap.objs.size:=zT _;show wpAny (model P w) (A.deeper (envOfC qual scope s₀.heap.objs.size f cd)) (leaving (envOfC qual scope s₀.heap.objs.size f cd) (.ref a)) _ _ s;unfold leaving;refine zZ (ft (base:=base) (L:=s₀.heap.objs.size) I.ok.frames I.stack rfl F (λT v q=>(ho T v q).1) λh1 T hz N F1=>uw (s:={ s with heap:=h1 }) F1 λh2 k2 F2=>?_);have sz:=I.sz;have E1:∀b o,s₀.heap.get? b=some o->b≠T:=λb o e=>zE (zG (zU e) (yM sz hz));have mem:∀b,b∈frs (envOfC qual scope s₀.heap.objs.size f cd::outer)->b=s₀.heap.objs.size\/b∈frs outer:=λb q=>by
  unfold frs at q;rw[xZ]at q;exact zD.mp q
 have na:∀b,H b=none->b≠a:=λb q z=>by rw[z,ea]at q;cases q
 refine⟨a,C,dx,upd H a (exO a C dx false),T,rfl,I.os,I.bare,⟨λb o e q hb hx=>?_,λb o e q hb hx=>?_,λb o e q hx=>?_,λb o e hx=>?_,λb xs e=>?_,λb o u e=>?_,λb ps e=>?_⟩,sm I ea (λT v q=>(ho T v q).2.1) N hz k2 F2,zy,?_,yM sz hz,F2,hE⟩
 ·have e1:=I.base.keep b o e q hb hx;have e2:=I.base.free b o e q hx;refine k2 b o (E1 b o e) (N.keep b o e1 (λz=>?_) (na b e2) λT' v' z y=>?_)
  ·rcases mem b z with y|y
   ·exact absurd (zU e) (by rw[y];exact xA _)
   ·exact hb y
  ·exact absurd (zU e) (by rw[y];exact uN.mpr (ho T' v' z).2.2)
 ·obtain⟨sl,e1⟩:=I.base.slot b o e q hb hx;obtain⟨AO,e2⟩:=N.slot b _ e1 (by unfold frs;rw[xZ];exact zI _ hb);exact⟨AO,k2 b _ (E1 b o e) e2⟩
 ·have e2:=I.base.free b o e q hx;rw[zj (na b e2)];exact e2
 ·obtain⟨o1,e1⟩:=I.base.there b o e hx;obtain⟨o2,e2⟩:=N.there b o1 e1;exact⟨o2,k2 b _ (E1 b o e) e2⟩
 ·have e1:=I.base.tups b xs e;rw[zj λz=>by rw[z,ea]at e1;cases e1];exact e1
 ·have e1:=I.base.frzs b o u e;rw[zj λz=>by rw[z,ea]at e1;cases e1];exact e1
 ·obtain⟨m,e1⟩:=I.base.tbls b ps e;exact⟨m,by rw[zj λz=>by rw[z,ea]at e1;cases e1];exact e1⟩
 ·have e2:=I.hok.fresh hz;rw[zj (na T e2)];exact e2
theorem w6:d3 (wg (CXr P w) P w K mg base N qual scope f cd A outer s₀ H₀ E) E:=by
 intro pins σ H s a C dx I ea hE;obtain⟨oe,vs,v1,e1,e2,e3,e4,e5,e6⟩:=vq I.hok ea;obtain rfl:=e6.1 rfl;exact br (old:=none) I ea ⟨oe,vs,e1,e2,e3,e4,e6.2,e5⟩ (λ_ _ z=>nomatch z) hE
theorem yq:v9 (CXr P w) (wg (CXr P w) P w K mg base N qual scope f cd A outer s₀ H₀ E) E:=by
 intro pins σ H s e s' I h;obtain⟨a,C,dx,H',T,rfl,os,bare,un,hok,ea,hT,hz,F,hE⟩:=h;have I':=Inv.call' (ch:=[]) I os un hok bare (λb z=>absurd z (by simp));exact br (old:=some (T,.none)) I' ea F (λT' v' z=>by cases z;exact⟨rfl,hT,yM I.sz hz⟩) (by rw[gw ea];exact hE)
theorem okX{x:Str}{st:Stmt}{fd:FuncData}{ps:List Str}{k:Nat}{sp:Sp}(F:Fun K x qual st f fd)(S:zr N ps (z4 st))(len:∀vs H Q E,sp vs H Q E->vs.length=ps.length)
  (bI:∀(cdv:Value)(A:Around)(outer:List Env)(s:Shared)(H:Hp)(vs:List V)(Q:VK)(E:XK),Room k (A.deeper (envOfC qual (z4 st) s.heap.objs.size f cdv))->sp vs H Q E ->
   ∃t,PSs (wg (CXr P w) P w K mg base N qual (z4 st) f cdv A outer s H E) (zw st) t/\t { nx:=λ_ H'=>Q .non H',rt:=Q } (start N vs) H):FnOk P w K mg base (CXr P w) (k+1) f fd ps sp:=by
 obtain⟨oc,od,kV,doc,pm,an,cdv,ct,osl,rfl,lk,qJ⟩:=F.ex;exact R0 lk qJ S len λA outer s H vs Q E hr AR=>bI cdv A outer s H vs Q E hr AR
end
theorem PS.nox{X:Cx}{st:Stmt}{t:TS}(h:PS X.nox st t):PS X st t:=λpins s σ H D I hw =>
 yR (h pins s σ H D (I.wish _) hw) (λ_ _ q=>q.unwish) λ_ _ z=>False.elim z
end
section
section
variable {X:Cx}{pins:List (Addr×Obj)}{σ:St}{H:Hp}{s:Shared}
theorem Xl{M:Model}{A:Around}{E:Value->Shared->Prop}{i:Nat}{x:Str}{pos:Pos}{Q:Unit->Shared->Prop}(I:Inv X pins σ H s)(hN:X.N.Nodup)(hi:X.N[i]?=some x)(hk:X.env.scope.names.lookup x=some .local)
  (h:∀s',Inv X pins (σ.set i none) H s'->Q () s'):wpAny M A (do bindName X.env x .none;unbindBehindTheSuite X.env x pos) Q E s:=by
 obtain⟨m,hn,hl⟩:=id I.loc;have Er:(X.env.scope.kind == .class||(X.env.scope.kind == .module&&X.env.locals != X.env.globals))=false:=by rw[I.ok.kind];rfl
 have hiσ:i<σ.length:=by rw[I.len];exact(zV.mp hi).1
 have cne:=I.cne;refine wpAny_nameGoes_keeps hk hn Er λh' v FL hs=>?_;obtain⟨oL,_,_,hoL,_⟩:=id hn;refine h _ ⟨I.ok,I.os,I.bare,⟨λb o e n hb hx=>?_,λb o e n hb hx=>?_,I.base.free,λb o e hx=>?_,I.base.tups,I.base.frzs,I.base.tbls⟩,⟨_,FL,λj y v' e1 e2 e3=>?_⟩,λy c e=>?_,I.free,I.freeC,λp hp=>?_,λb ob e=>?_,by simpa using I.len⟩
 ·exact(hs.2 b (zE (zG (zU e) I.ok.above))).trans (I.base.keep b o e n hb hx)
 ·obtain⟨sl,e1⟩:=I.base.slot b o e n hb hx;exact⟨sl,(hs.2 b (zE (zG (zU e) I.ok.above))).trans e1⟩
 ·obtain⟨o',e1⟩:=I.base.there b o e hx;exact⟨o',(hs.2 b (zE (zG (zU e) I.ok.above))).trans e1⟩
 ·by_cases hj:j=i
  ·subst hj;rw[tY hiσ]at e2;cases e2
  ·rw[List.getElem?_set_ne (wY hj)]at e2;obtain⟨u',r',q⟩:=hl j y v' e1 e2 e3;refine⟨u',r',?_⟩;rcases q with⟨k,e⟩|⟨k,c,e,z⟩
   ·refine .inl ⟨k,?_⟩;have:y≠x:=λe=>hj (ll hN e1 (e▸hi));simp[this,e]
   ·exact .inr ⟨k,c,e,z.sameBut hs (cne y c e)⟩
 ·obtain⟨w',z⟩:=I.cell y c e;exact⟨w',z.sameBut hs (cne y c e)⟩
 ·obtain⟨e,n,ne,nf,d⟩:=I.pin p hp;exact⟨(hs.2 p.1 ne).trans e,n,ne,nf,d⟩
 ·refine(I.hok b ob e).stay (λc w' hc q=>(hs.2 c ?_).trans q) (λ_ q=>q) λ_ _ q=>q;rintro rfl;rcases hc with rfl|hc
  ·rw[I.free]at e;cases e
  ·rw[I.free]at hc;cases hc
abbrev Z9(X:Cx)(a:Addr):Cx:={ X with A:=X.A.mark (some (.ref a)),calm:=false,xe:=λ_ _=>False }
theorem m7(I:Inv X pins σ H s)(a:Addr):Inv (Z9 X a) pins σ H s :=
 ⟨⟨I.ok.mod,I.ok.kind,I.ok.glob,I.ok.blt,I.ok.above,I.ok.inj,I.ok.has,I.ok.cab,(λz=>absurd (show false=true from z) zJ),I.ok.frames,I.ok.stk,I.ok.exf,I.ok.bs,I.ok.bsz,I.ok.noex,I.ok.exfs,I.ok.funs,I.ok.frf⟩,I.os,I.bare,I.base,I.loc,I.cell,I.free,I.freeC,I.pin,I.hok,I.len⟩
theorem vo{a:Addr}(ok:X.Ok)(I:Inv (Z9 X a) pins σ H s):Inv X pins σ H s:=⟨ok,I.os,I.bare,I.base,I.loc,I.cell,I.free,I.freeC,I.pin,I.hok,I.len⟩
end
section
variable {prog:Program}{w:World}{A:Around}{E:Value->Shared->Prop}{s:Shared}{env:Env}{K:Frag}
theorem Rz{M:Model}{a C J:Addr}{oe:Obj}{Q:Bool->Shared->Prop}(X:K.In s.heap)(c:XCls K C)(j:XCls K J)(hm:mroIn K C (.ref J)=some true)(he:s.heap.get? a=some oe)(hc:oe.cls = .ref C)(hq:Q true s):wpAny M A (excMatches (.ref a) (.ref J)) Q E s:=by
 obtain⟨bm,N,nm,qq,bs,hdct,sn,sub,ab,col,dd,k0,k1,k2,k3,k5,hJ,T⟩:=Oa X j;have hcB:(Value.ref J::bm).contains (.type "BaseException")=true:=by rw[List.contains_cons,T.hasType (b:=true) (by decide),Bool.or_true]
 have L:Looks M s.heap (isSubtype (.ref C) (.ref J)) true:=looks_mroIn X hm;have f:=tc_notTuple;obtain⟨hp,g,d,tk,os⟩:=s;unfold excMatches
 repeat(first|(with_reducible refine xB he ?_;rw[hc])|with_reducible refine xB hJ ?_|(with_reducible refine uF hJ ?_;rw[hcB])|with_reducible refine L.at ?_|wp_step)
 exact hq
theorem Y6{e:Addr}{t:Expr}{n:Str}{b₀:Stmt}{fV:List Stmt}{pos:Pos}{rest:List ExceptHandler}{Q:Flow->Shared->Prop}
  (h:wpAny (model prog w) (A.mark (some (.ref e))) (eval t env) (λc s₁=>wpAny (model prog w) (A.mark (some (.ref e))) (excMatches (.ref e) c) (λb s₂=>b=true /\
   wpAny (model prog w) (A.mark (some (.ref e))) (setFlight (.ref e) none) (λ_ s₃=>wpAny (model prog w) (A.mark (some (.ref e))) (storeName env n (.ref e)) (λ_ s₄ =>
    wpAny (model prog w) (A.mark (some (.ref e))) (execs (b₀ :: fV) env) (λf s₅=>wpAny (model prog w) A (do bindName env n .none;unbindBehindTheSuite env n pos) (λ_ s₆=>Q f s₆) (λ_ _=>False) s₅)
     (λ_ _=>False) s₄) (λ_ _=>False) s₃) (λ_ _=>False) s₂) (λ_ _=>False) s₁) (λ_ _=>False) s) :
  wpAny (model prog w) A (handleBy (.ref e) env (.ExceptHandler (some t) (some n) (b₀ :: fV) pos::rest)) Q E s:=by
 refine wpAny_handleBy_cons (codeAny_handlers_test (yR h (λc s₁ h₁=>yR h₁ (λb s₂ h₂=>?_) λ_ _ z=>z.elim) λ_ _ z=>z.elim)) (by intro q;cases q);obtain⟨rfl,h₂⟩:=h₂;refine codeAny_handlers_suite_as (yR h₂ (λ_ s₃ h₃=>yR h₃ (λ_ s₄ h₄=>yR h₄ (λf s₅ h₅=>?_) λ_ _ z=>z.elim) λ_ _ z=>z.elim) λ_ _ z=>z.elim);exact yR h₅ (λ_ _ z=>z) λ_ _ z=>z.elim
end
def O4(K:Frag)(J:Addr)(sp:Sp)(ta:TA)(i:Nat)(ts:Addr->TS):TS:=λD σ H=>ta σ H λvs H1=>sp vs H1 (λ_ H2=>D.nx σ H2) λe dx H'=>∃a C,e = .ref a/\H' a=some (exO a C dx false)/\XCls K C/\mroIn K C (.ref J)=some true /\
 ts a { nx:=fun σ' AW=>D.nx (σ'.set i none) AW,rt:=D.rt } (σ.set i (some (.ref a))) H'
structure ym(P:Program)(w:World)(K:Frag)(mg:Str->Option Value)(base:Heap)(k:Nat)(x:Str)(ps:List Str)(sp:Sp):Prop where
 ex:∃(f:Addr)(fd:FuncData),FnOk P w K mg base (CXr P w) k f fd ps sp/\Binds K fd ps []/\mg x=some (.ref f)/\keepIn K (.ref f)=true
theorem Qn{X:Cx}{x n J:Str}{Ja:Addr}{e:Expr}{es:List Expr}{b₀:Stmt}{fV:List Stmt}{i k k':Nat}{ps:List Str}{sp:Sp}{ta:TA}{ts:Addr->TS}{p pos B8 jp oP Bk:Pos}(C:ym X.prog X.w X.K X.mg X.base k x ps sp)(hr:Room k' X.A)(hk:k<=k')(ha:PA X.nox (e::es) ta)
  (hJ:X.mg J=some (.ref Ja)) (xJ:XCls X.K Ja) (hs:∀a,PSs (Z9 X a) (b₀ :: fV) (ts a)) (hi:X.N[i]?=some n) (hN:X.N.Nodup) (Cc:X.env.scope.names.lookup n=some .local:=by rfl) (hg:Gl X x:=by rfl) (hgJ:Gl X J:=by rfl)
  (iH:X.stack=X.env::X.outer:=by rfl) (hfm:X.env.frame=some X.env.locals:=by rfl) (DZ:swapsWith (.Call (.Name x p) (e::es) [] pos) none B8.line X.env=pure false:=by rfl)
  (kI:(x==("__debug__":Str))=false:=by decide) (hdJ:(J==("__debug__":Str))=false:=by decide) (he:starEach (e::es) X.env=(false,eval e X.env)::starEach es X.env:=by rfl) (cV:(backTo pos (starEach es X.env)).any (·.1)=false:=by rfl) :
  PS X (.Try [.Expr (.Call (.Name x p) (e::es) [] pos) B8] [.ExceptHandler (some (.Name J jp)) (some n) (b₀ :: fV) oP] [] [] Bk) (O4 X.K Ja sp ta i ts):=by
 intro pins s σ H D I h;obtain⟨f,fd,F,b,hm,hkp⟩:=C.ex;refine wpAny_Try_except (tK (wpAny_Expr_any (xH (wj I hg hm ?_ kI)) I.quiet DZ));refine wL (h₀:=X.base) I.ok.mod.kin hkp (yR (ha pos pins s σ H _ (I.wish _) h) (λus s1 ⟨vs,H1,I1',r,q⟩=>⟨I1'.kIn,?_⟩) λ_ _ z=>z.elim) he cV;have I1:=I1'.unwish;have hl:(us++[]).length=ps.length:=by rw[List.append_nil];exact r.length.symm.trans (F.len _ _ _ _ q)
 have hb:=b s1 us I1.kIn hl;rw[List.append_nil]at hb;refine uO (wA (F.run X.A X.stack s1 H1 ⟨us,[]⟩ us vs _ _ (hr.mono hk) I1.env0 hb r q) λr s' hq=>?_);cases r with
 |ok fl =>
  cases fl with
  |ret u =>
   obtain⟨v,H2,I2,rv,q2⟩:=I1.after hq;exact wP (wP (show SP X pins D .next s' from⟨σ,H2,I2,q2⟩))
  |next=>exact False.elim hq
  |brk=>exact False.elim hq
  |cont=>exact False.elim hq
 |error ev =>
  obtain⟨a,C,dx,H',T,rfl,os,bare,un,hok,ea,hT,hz,Fl,a',C',ee,ea',xc,hmr,hts⟩:=hq;cases ee;obtain⟨oe,ovs,ov,e1,e2,_⟩:=vq hok ea;obtain⟨oe',ovs',ov',UM,UL,_⟩:=vq hok ea';rw[e1]at UM;cases UM;rw[e2]at UL;cases UL;have no:∀b∈([]:List Addr),(b∈X.ex\/X.s₀.heap.objs.size<=b)/\b≠X.env.locals/\(∀x c,X.env.cells.lookup x=some c->c≠b)/\∀p∈X.pn++pins,p.1≠b:=λb z=>absurd z (by simp);have I':=Inv.call' (ch:=[]) I1 os un hok bare no;refine ft (base:=X.base) (L:=X.env.locals) (iH▸I'.ok.frames) (iH▸I'.stack) hfm Fl (λT v z=>by cases z;rfl) λh1 T1 rP N F1=>uw (s:={ s' with heap:=h1 }) F1 λh2 k2 F2=>?_;rw[<-iH]at N;have na:∀b,H' b=none->b≠a:=λb q z=>by rw[z,ea]at q;cases q
  have mk:∀h2,(∀b o,b≠T1->h1.get? b=some o->h2.get? b=some o)->Fly h2 a C dx (some (T1,.none))->Inv X pins σ H' { s' with heap:=h2 }:=λh2 k2 F2=>by
   have sJ:=sm I' ea (λT' v' z=>by cases z;exact hT) N rP k2 F2;rw[gw ea]at sJ;have nT:∀b o,s'.heap.get? b=some o->b≠T1:=λb o e=>zE (zG (zU e) rP);refine Inv.call' (ch:=[]) I1 (s':={ s' with heap:=h2 }) os ⟨λb o e q hb hx=>?_,λb o e q hb hx=>?_,un.free,λb o e hx=>?_,un.tups,un.frzs,un.tbls⟩ sJ bare no
   ·have g:=un.keep b o e q hb hx;refine k2 b o (nT b o g) (N.keep b o g hb (na b (un.free b o e q hx)) λT' v' z y=>?_);cases z;exact absurd (zU e) (by rw[y];exact uN.mpr hz)
   ·obtain⟨sl,g⟩:=un.slot b o e q hb hx;obtain⟨AO,g2⟩:=N.slot b _ g hb;exact⟨AO,k2 b _ (nT b _ g) g2⟩
   ·obtain⟨o1,g⟩:=un.there b o e hx;obtain⟨o2,g2⟩:=N.there b o1 g;exact⟨o2,k2 b _ (nT b _ g) g2⟩
  have I2:=mk h2 k2 F2;obtain⟨oe2,vs2,g1,g2,g3,g4,g5⟩:=id F2;refine Y6 (wj (X:=Z9 X a) (m7 I2 a) hgJ hJ ?_ hdJ);refine Rz (K:=X.K) (s:={ s' with heap:=h2 }) I2.kIn xc xJ hmr g1 g2 ⟨rfl,uw (s:={ s' with heap:=h2 }) F2 λh3 k3 F3=>?_⟩;have I3:=mk h3 (λb o z e=>k3 b o z (k2 b o z e)) F3;refine mi (X:=Z9 X a) (m7 I3 a) hN hi (.inl Cc) (v:=.ref a) rfl (λs4 I4=>?_) (.inr Cc);refine yR (hs a pins s4 _ H' _ I4 hts) (λf s5 q=>?_) λ_ _ z=>z;cases f with
  |next =>
   obtain⟨σ',AW,I5,q⟩:=q;exact Xl (vo I.ok I5) hN hi Cc λs6 I6=>⟨_,_,I6,q⟩
  |ret u =>
   obtain⟨v,σ',AW,I5,rv,q⟩:=q;exact Xl (vo I.ok I5) hN hi Cc λs6 I6=>⟨v,_,_,I6,rv,q⟩
  |brk=>obtain⟨_,_,_,q⟩:=q;exact q.elim
  |cont=>obtain⟨_,_,_,q⟩:=q;exact q.elim
end
section
theorem jz:bootBuiltins "ValueError"=some (.type "ValueError"):=by decide +kernel
section
variable {X:Cx}
end
section
variable {P:Program}{w:World}{K:W.Frag}{mg:Str->Option Value}{base:Heap}
theorem Def.calleeX{x:Str}{st:Stmt}{N ps:List Str}{k:Nat}{sp:Sp}(F:Def K mg x st ps)(S:zr N ps (z4 st))(len:∀vs H Q E,sp vs H Q E->vs.length=ps.length)
  (bI:∀(f:Addr)(cdv:Value)(A:Around)(outer:List Env)(s:Shared)(H:Hp)(vs:List V)(Q:VK)(E:XK),Room k (A.deeper (envOfC x (z4 st) s.heap.objs.size f cdv))->sp vs H Q E ->
   ∃σ t,start N vs=σ/\PSs (wg (CXr P w) P w K mg base N x (z4 st) f cdv A outer s H E) (zw st) t/\t { nx:=λ_ H'=>Q .non H',rt:=Q } σ H):ym P w K mg base (k+1) x ps sp:=by
 obtain⟨f,fd,F,b,hm⟩:=F.ex;refine⟨f,fd,okX F S len λcdv A outer s H vs Q E hr h=>?_,.all b,hm,F.kp⟩;obtain⟨σ,t,e,ht,q⟩:=bI f cdv A outer s H vs Q E hr h;exact⟨t,ht,by rw[e];exact q⟩
theorem wk{X:Cx}{k k':Nat}{x:Str}{ps:List Str}{sp:Sp}{t:TA}{e:Expr}{es:List Expr}{p pos:Pos}{E:XK}(C:ym X.prog X.w X.K X.mg X.base k x ps sp)(hx:v9 (CXr X.prog X.w) X E)(hr:Room k' X.A)(hk:k<=k')(ha:PA X (e::es) t)(hg:Gl X x:=by rfl)
  (kI:(x==("__debug__":Str))=false:=by decide) (he:starEach (e::es) X.env=(false,eval e X.env)::starEach es X.env:=by rfl) (cV:(backTo pos (starEach es X.env)).any (·.1)=false:=by rfl) :
  PE X (.Call (.Name x p) (e::es) [] pos) (Yn sp [] E t):=by
 obtain⟨f,fd,F,b,hm,kp⟩:=C.ex;exact X4 F (hr.mono hk) hg hm kp b .nil hx ha kI he cV
end
end
section
theorem yi{X:Cx}{e:Expr}{te:TE}{E:XK}{pos:Pos}(he:PE X e te)(hx:d3 X E)(hc:X.calm=true):PS X (.Raise (some e) none pos) (ac X.K E te) :=
 λpins s σ H D I h=>T6 he hx (I.ok.hd hc) pins s σ H D I h
theorem qt{K:Frag}{C:Addr}(x:xIn K C=true)(ga:findIn K (.ref C) "__getattribute__"=some (some (.builtin "BaseException.__getattribute__")))(gt:findIn K (.ref C) "__getattr__"=some none)
  (sa:findIn K (.ref C) "__setattr__"=some (some (.builtin "object.__setattr__"))) (mb:mroIn K C (.type "BaseException")=some true) (mo:mroIn K C (.type "object")=some true) (kp:keepIn K (.ref C)=true)
  (ca:findIn K (.ref C) "__class__"=some (some (.builtin "object.__class__"))) (cg:specialIn K (.builtin "object.__class__") "__get__"=some (some (.builtin "getset_descriptor.__get__"))) (ct:takesIn K (.builtin "object.__class__")=some true):XCls K C:=⟨x,ga,gt,sa,mb,mo,kp,ca,cg,ct⟩
end
section
section
variable {prog:Program}{w:World}{A:Around}{E:Value->Shared->Prop}{s:Shared}{env:Env}{K:Frag}
theorem bg{e:Addr}{t:Expr}{b₀:Stmt}{fV:List Stmt}{pos:Pos}{rest:List ExceptHandler}{Q:Flow->Shared->Prop}
  (h:wpAny (model prog w) (A.mark (some (.ref e))) (eval t env) (λc s₁=>wpAny (model prog w) (A.mark (some (.ref e))) (excMatches (.ref e) c) (λb s₂=>b=true /\
   wpAny (model prog w) (A.mark (some (.ref e))) (setFlight (.ref e) none) (λ_ s₃ =>
    wpAny (model prog w) (A.mark (some (.ref e))) (execs (b₀ :: fV) env) (λf s₅=>Q f s₅)
     (λ_ _=>False) s₃) (λ_ _=>False) s₂) (λ_ _=>False) s₁) (λ_ _=>False) s) :
  wpAny (model prog w) A (handleBy (.ref e) env (.ExceptHandler (some t) none (b₀ :: fV) pos::rest)) Q E s:=by
 refine wpAny_handleBy_cons (codeAny_handlers_test (yR h (λc s₁ h₁=>yR h₁ (λb s₂ h₂=>?_) λ_ _ z=>z.elim) λ_ _ z=>z.elim)) (by intro q;cases q);obtain⟨rfl,h₂⟩:=h₂;exact codeAny_handlers_suite (yR h₂ (λ_ s₃ h₃=>yR h₃ (λf s₅ h₅=>h₅) λ_ _ z=>z.elim) λ_ _ z=>z.elim)
end
end
section
structure DefN(K:Frag)(C:Addr)(qual:Str)(st:Stmt)(ps:List Str)(ds:List Value):Prop where
 ex:∃(f:Addr)(oc:Value)(od:Option Addr)(dV kV doc pm:Value)(an:Option Addr)(cdv ct:Value)(osl:Array (Option Value)),K.lookup f=some ⟨oc,od,.func (fnOf "__init__" qual (zu st) (zw st) (z4 st) dV kV doc pm an cdv ct),osl⟩/\codeIn K cdv qual=true/\Mk K C f /\
  Binds K (fnOf "__init__" qual (zu st) (zw st) (z4 st) dV kV doc pm an cdv ct) ps []/\Binds K (fnOf "__init__" qual (zu st) (zw st) (z4 st) dV kV doc pm an cdv ct) ps ds
structure mr(P:Program)(w:World)(K:Frag)(mg:Str->Option Value)(base:Heap)(k:Nat)(C:Addr)(ps:List Str)(ds:List Value)(sp:Sp):Prop where
 ex:∃(f:Addr)(fd:FuncData),FnOk P w K mg base CX0 k f fd ps sp/\Binds K fd ps []/\Binds K fd ps ds/\Mk K C f
theorem DefN.callee{P:Program}{w:World}{K:Frag}{mg:Str->Option Value}{base:Heap}{C:Addr}{qual:Str}{st:Stmt}{N ps:List Str}{ds:List Value}{k:Nat}{sp:Sp}(F:DefN K C qual st ps ds)(S:zr N ps (z4 st))(len:∀vs H Q E,sp vs H Q E->vs.length=ps.length)
  (bI:∀(f:Addr)(cdv:Value)(A:Around)(outer:List Env)(s:Shared)(H:Hp)(vs:List V)(Q:VK)(E:XK),Room k (A.deeper (envOfC qual (z4 st) s.heap.objs.size f cdv))->sp vs H Q E ->
   ∃σ t,start N vs=σ/\PSs (wg CX0 P w K mg base N qual (z4 st) f cdv A outer s H E).nox (zw st) t/\t { nx:=λ_ H'=>Q .non H',rt:=Q } σ H):mr P w K mg base (k+1) C ps ds sp:=by
 obtain⟨f,oc,od,dV,kV,doc,pm,an,cdv,ct,osl,lk,qJ,M,b0,b1⟩:=F.ex;refine⟨f,_,R0 lk qJ S len λA outer s H vs Q E hr AR=>?_,b0,b1,M⟩;obtain⟨σ,t,e,h,q⟩:=bI f cdv A outer s H vs Q E hr AR;exact⟨t,h.nox,by rw[e];exact q⟩
section
variable {X:Cx}{C:Addr}{x:Str}{k k':Nat}{ps:List Str}{ds:List Value}{oK:List V}{sp:Sp}{t:TA}{e:Expr}{es:List Expr}{p pos:Pos}
theorem Pt(C':mr X.prog X.w X.K X.mg X.base k C ps ds sp)(hr:Room k' X.A)(hk:k+1<=k')(hm:X.mg x=some (.ref C))(ha:PA X (e::es) t)(hg:Gl X x:=by rfl)
  (kI:(x==("__debug__":Str))=false:=by decide) (he:starEach (e::es) X.env=(false,eval e X.env)::starEach es X.env:=by rfl) (cV:(backTo pos (starEach es X.env)).any (·.1)=false:=by rfl) :
  PE X (.Call (.Name x p) (e::es) [] pos) (Uy C sp [] E0 t):=by
 obtain⟨f,fd,F,b,_,M⟩:=C'.ex;exact Qh M F (hr.mono hk) hg hm b .nil Tw ha kI he cV
end
theorem Pe{K:Frag}{C:Addr}{qual:Str}{st:Stmt}{ps:List Str}{ds:List Value}{f:Addr}{oc dV:Value}{od an:Option Addr}{osl:Array (Option Value)}{kV doc pm cdv ct:Value}
  (a:findIn K (.ref C) "__init__"=some (some (.ref f))) (l:K.lookup f=some ⟨oc,od,.func (fnOf "__init__" qual (zu st) (zw st) (z4 st) dV kV doc pm an cdv ct),osl⟩)
  (c:codeIn K cdv qual=true) (fn:isFn K (.ref f)=true) (mk:makesIn K C=true) (kp:keepIn K (.ref C)=true)
  (b0:Binds K (fnOf "__init__" qual (zu st) (zw st) (z4 st) dV kV doc pm an cdv ct) ps []) (b1:Binds K (fnOf "__init__" qual (zu st) (zw st) (z4 st) dV kV doc pm an cdv ct) ps ds):DefN K C qual st ps ds :=
 ⟨f,oc,od,dV,kV,doc,pm,an,cdv,ct,osl,l,c,⟨mk,a,fn,kp⟩,b0,b1⟩
end
end My
namespace My
section
open PySem PySem.StrLaws PySem.Builtin PySem.Builtin.Str
def jl(y:List Nat):List (List Nat)->List Nat
 |[]=>[]
 |[p]=>p
 |p::q::r=>p++y++jl y (q::r)
theorem m9(y:Str):∀ps:List Str,(Str.join y ps).cps.toList=jl y.cps.toList (ps.map λp=>p.cps.toList)
 |[]=>rfl
 |[p]=>rfl
 |p::q::r=>by
  have ih:=m9 y (q::r);show(p++y++Str.join y (q::r)).cps.toList=_;rw[xG,xG,yF,yF,ih]
  rfl
theorem Xd{x y:Str}{c k:Nat}{ys:List Nat}(hy:y.cps.toList=c::ys)(h:At x y x.length k):x.cps.toList[k]?=some c:=by
 have h2:=h.2;rw[subAt_eq]at h2;have h3:=eq_of_beq h2;rw[hy]at h3;have hl:y.length=ys.length+1:=by
  have:y.cps.toList.length=ys.length+1:=by rw[hy];rfl
  simpa[Str.length]using this
 rw[hl]at h3;have h4:((x.cps.toList.drop k).take (ys.length+1))[0]?=some c:=by rw[h3];rfl
 rw[vL (tL _),vA]at h4;exact h4
theorem Hr{x y:Str}{a:Nat}{p r:List Nat}(h:x.cps.toList.drop a=p++y.cps.toList++r)(ha:a<=x.length):At x y x.length (a+p.length):=by
 have hn:x.cps.toList.length=x.length:=by simp[Str.length]
 have hy:y.cps.toList.length=y.length:=by simp[Str.length]
 have hl:=xT List.length h;rw[yG,zL,zL,hn,hy]at hl;refine⟨by lia,?_⟩;rw[subAt_eq,<-List.drop_drop,h,yQ,List.drop_left,<-hy,List.take_left];exact tH _
theorem lq(x y:Str)(c:Nat)(ys:List Nat)(hy:y.cps.toList=c::ys):∀(ps:List Str)(p:Str)(AD:List Nat)(a f:Nat),ChainG x y x.length a AD f->(∀k,f<=k->¬At x y x.length k)->a<=x.length ->
  x.cps.toList.drop a=jl y.cps.toList ((p::ps).map λp=>p.cps.toList)->(∀q∈p::ps,c∉q.cps.toList)->partsFrom x y.length a AD=p::ps
 |[],p,AD,a,f,hG,hn,ha,hd,hf=>by
  have AU:x.cps.toList.drop a=p.cps.toList:=hd;have qG:∀k,a<=k->¬At x y x.length k:=λk hk hA=>by
   have h1:=Xd hy hA;have h2:(x.cps.toList.drop a)[k-a]?=some c:=by rw[vA];rw[show a+(k-a)=k by lia];exact h1
   rw[AU]at h2;exact hf p zB (zN h2)
  cases AD with
  |nil =>
   show[strSub x a x.length]=[p]
   congr 1
   apply Str.ext';apply wJ.mp;rw[strSub_toList,AU];have hn:x.cps.toList.length=x.length:=by simp[Str.length]
   have hl:=xT List.length AU;rw[yG,hn]at hl;exact vF (by lia)
  |cons d r=>exact absurd hG.2.1 (qG d hG.1)
 |q::ps,p,AD,a,f,hG,hn,ha,hd,hf=>by
  have AU:x.cps.toList.drop a=p.cps.toList++y.cps.toList++jl y.cps.toList ((q::ps).map λp=>p.cps.toList):=hd;have hA:=Hr AU ha;have cV:p.cps.toList.length=p.length:=by simp[Str.length]
  rw[cV]at hA;have qG:∀k,a<=k->k<a+p.length->¬At x y x.length k:=λk hk hk2 hA=>by
   have h1:=Xd hy hA;have h2:(x.cps.toList.drop a)[k-a]?=some c:=by rw[vA];rw[show a+(k-a)=k by lia];exact h1
   rw[AU,yQ,wX (by rw[cV];lia)]at h2;exact hf p zB (zN h2)
  cases AD with
  |nil =>
   have e:f=a:=hG;exact absurd hA (hn _ (by lia))
  |cons d r =>
   obtain⟨g1,g2,g3,g4⟩:=hG;have e:d=a+p.length:=by
    rcases tT d (a+p.length)with h|h|h
    ·exact absurd g2 (qG d g1 h)
    ·exact h
    ·exact absurd hA (g3 _ (by lia) h)
   subst e;show strSub x a (a+p.length)::partsFrom x y.length (a+p.length+y.length) r=p::q::ps;have e1:strSub x a (a+p.length)=p:=by
    apply Str.ext';apply wJ.mp;rw[strSub_toList,AU,Nat.add_sub_cancel_left,yQ,<-cV,List.take_left]
   have CG:y.cps.toList.length=y.length:=by simp[Str.length]
   have e2:x.cps.toList.drop (a+p.length+y.length)=jl y.cps.toList ((q::ps).map λp=>p.cps.toList):=by
    rw[Nat.add_assoc,<-List.drop_drop,AU,<-cV,<-CG,<-zL,List.drop_left]
   rw[e1,lq x y c ys hy ps q r _ f g4 hn (by have:=g2.1;lia) e2 λz hz=>hf z (zI _ hz)]
theorem Sf(x:Str):1<=Builtin.Str.strKind x:=by
 unfold Builtin.Str.strKind;split
 ·exact zT _
 ·split<;>decide
theorem Z7(y:Str)(c:Nat)(ys:List Nat)(hy:y.cps.toList=c::ys)(hk:Builtin.Str.strKind y=1)(p:Str)(ps:List Str)(hf:∀q∈p::ps,c∉q.cps.toList):Txt.split (Txt.join y (p::ps)) y=p::ps:=by
 have hj:Txt.join y (p::ps)=Str.join y (p::ps):=glued_eq_join y (p::ps);rw[hj];have CG:1<=y.length:=by
  have:y.cps.toList.length=ys.length+1:=by rw[hy];rfl
  have:y.length=ys.length+1:=by simpa[Str.length]using this
  lia
 have hJ:=m9 y (p::ps);obtain⟨f,hG,hn⟩:=occ_tight (Str.join y (p::ps)) y CG;have key:=lq (Str.join y (p::ps)) y c ys hy ps p _ 0 f hG hn (yV _) (by rw[tM];exact hJ) hf;unfold Txt.split;have one:ps=[]->Str.join y (p::ps)=p:=λe=>by rw[e];rfl
 split
 ·rename_i hc;rw[Bool.or_eq_true,decide_eq_true_eq,decide_eq_true_eq]at hc;rcases hc with h|h
  ·cases ps with
   |nil=>rw[one rfl]
   |cons q r =>
    exfalso;have hl:=xT List.length hJ;have e1:(Str.join y (p::q::r)).cps.toList.length=(Str.join y (p::q::r)).length:=by simp[Str.length]
    have e2:y.cps.toList.length=y.length:=by simp[Str.length]
    rw[e1]at hl;simp only[List.map_cons,jl,zL,e2]at hl;lia
  ·have:=Sf (Str.join y (p::ps));lia
 ·split
  ·rename_i h1 h2;rw[List.isEmpty_iff]at h2;rw[h2]at key;refine Eq.trans ?_ key;show[_]=[strSub _ 0 _]
   rw[sub_whole]
  ·rw[partsBetween_eq];exact key
theorem Sc{y:List Nat}{c:Nat}:∀{ps:List (List Nat)},c∈jl y ps->c∈y\/∃p∈ps,c∈p
 |[],h=>by cases h
 |[p],h=>.inr ⟨p,zS.mpr rfl,h⟩
 |p::q::r,h=>by
  have h':c∈p++y++jl y (q::r):=h;rcases zP.mp h' with h|h
  ·rcases zP.mp h with h|h
   ·exact .inr ⟨p,zB,h⟩
   ·exact .inl h
  ·rcases Sc h with h|⟨p',hp,h⟩
   ·exact .inl h
   ·exact .inr ⟨p',zI _ hp,h⟩
end
end My
namespace My
open PySem PySem.Spec PySem.W PySem.Calls L2
open PyProof.Rows hiding St
section
section
variable {X:Cx}
def Iv:List V->Hp->VK->Prop:=λxs H Q=>match xs with
 |[.int i]=>i.natAbs.log2<1920/\Q (.str (toString i)) H
 |_=>False
theorem Nq{i:Int}{H:Hp}{Q:VK}:Iv [.int i] H Q=(i.natAbs.log2<1920/\Q (.str (toString i)) H):=rfl
theorem Y0{prog:Program}{w:World}{A:Around}{E:Value->Shared->Prop}{s:Shared}{x y:Str}{t u:Tok}{Q:Value->Shared->Prop}(hy:(y.length==0)=false)(hsz:x.length<=sizeLine)(rX:(Txt.split x y).length<=sizeLine)
  (hq:∀(l:List (Str×Tok)) k,l.map (·.1)=Txt.split x y->Q (.ref s.heap.objs.size) { s with heap:=s.heap.push { cls:=.type "list",data:=.seq (strValues l).toArray },toks:=k }) :
  wpAny (model prog w) A (call (.builtin "str.split") [.str x t,.str y u]) Q E s:=by
 cases h1:(decide (x.length<y.length)||decide (Builtin.Str.strKind x<Builtin.Str.strKind y))
 ·cases hf:(Builtin.Str.occurrences x y 0 x.length (x.length+1)).isEmpty
  ·have e:Txt.split x y=Builtin.Str.partsBetween x (Builtin.Str.occurrences x y 0 x.length (x.length+1)) y.length:=(zK (ne_true_of_eq_false h1)).trans (zK (ne_true_of_eq_false hf));rw[e]at rX;refine call_meets F.slot_str_split (uY _ _ _) F.entry_str_split (F.args_str_split_2 _ _) (meets_str_split_sep x y t u h1 hy hf hsz rX) ?_;show wants Q E _ { s with toks:=_,heap:=s.heap.push { cls:=.type "list",data:=.seq (strsFrom s.toks (Builtin.Str.partsBetween x (Builtin.Str.occurrences x y 0 x.length (x.length+1)) y.length)).toArray } };rw[strsFrom_eq];exact hq (numbered s.toks _) _ ((numbered_texts _ _).trans e.symm)
  ·exact call_meets F.slot_str_split (uY _ _ _) F.entry_str_split (F.args_str_split_2 _ _) (meets_str_split_not_found x y t u h1 hy hf)
    (hq [(x,t)] _ ((zK (ne_true_of_eq_false h1)).trans (zH hf)).symm)
 ·exact call_meets F.slot_str_split (uY _ _ _) F.entry_str_split (F.args_str_split_2 _ _) (meets_str_split_cannot_occur x y t u h1)
   (hq [(x,t)] _ (zH h1).symm)
theorem dw:∀(l:List (Str×Tok)),Vals ((l.map (·.1)).map V.str) (strValues l)
 |[]=>.nil
 |p::l=>.cons ⟨p.2,rfl⟩ (dw l)
def La(to:TE)(t:TA):TE:=fun σ H Q=>to σ H (ub λx H1=>t σ H1 (on1 (ub λy H2=>(y.length==0)=false/\x.length<=sizeLine/\(Txt.split x y).length<=1000/\∀(D:Addr)(H3:Hp),H2 D=none->Same H2 H3->H3 D=some (.lst ((Txt.split x y).map V.str))->Q (.ref D) H3)))
theorem Pu{o e:Expr}{to:TE}{t:TA}{apos cpos:Pos}(ho:PE X o to)(ha:PA X [e] t)
  (jX:attributeBase o "split" X.env (eval o X.env)=eval o X.env:=by rfl)
  (pW:((backTo cpos (starEach [e] X.env)).all (λx=>!x.1)&&(backToKw cpos (keywordEach [] X.env)).all (λx=>x.1.isSome)
  &&decide ([e].length+([]:List Keyword).length+(if([]:List Keyword).isEmpty then 0 else 1)<30))=true:=by rfl)
  (jW:(apos.endLine==cpos.line)=true:=by rfl) (hs:starEach [e] X.env=[(false,eval e X.env)]:=by rfl) :
  PE X (.Call (.Attribute o "split" apos) [e] [] cpos) (La to t):=by
 intro pins s σ H Q I h;refine wD jX pW jW rfl (thn (ho pins s σ H _ I h) λv s1 ⟨x,H1,I1,r1,q1⟩=>?_);cases x with
 |str x =>
  obtain⟨t1,rfl⟩:=r1;refine⟨"str","str.split",vE,F.slot_str_split,F.type_str_split,uY _ _ _,(λ_ e=>nomatch e),?_⟩;have hA:=ha cpos pins s1 σ H1 _ I1 q1;rw[hs]at hA ⊢;refine wC rfl (vQ ?_);refine thn hA λus s2 ⟨vs,H2,I2,r2,q2⟩=>?_;rcases vs with _|⟨y,_|⟨z,rr⟩⟩
  ·exact(show False from q2).elim
  ·cases y with
   |str y =>
    obtain⟨hy,hsz,rX,q⟩:=(show(y.length==0)=false/\x.length<=sizeLine/\(Txt.split x y).length<=1000/\∀(D:Addr)(H3:Hp),H2 D=none->Same H2 H3->H3 D=some (.lst ((Txt.split x y).map V.str))->Q (.ref D) H3 from q2)
    obtain⟨u,rfl,ru⟩:=vn r2;obtain⟨t2,rfl⟩:=ru;have fr:H2 s2.heap.objs.size=none:=I2.hok.fresh (zT _);refine Y0 hy hsz (xP (vp rX)) λl k e=>?_;refine⟨.ref s2.heap.objs.size,upd H2 s2.heap.objs.size (.lst ((Txt.split x y).map V.str)),?_,rfl,q _ _ fr (vx fr _) zy⟩;refine I2.laid (λb o e1=>zY _ e1) (zT _) ⟨?_,strValues l,0,?_,?_⟩
    ·rw[zX];exact xP (vp rX)
    ·rw[<-e];exact dw l
    ·exact zR _ rfl
   |_=>exact(show False from q2).elim
  ·exact(show False from q2).elim
 |_=>exact(show False from q1).elim
def Lb(to:TE)(t:TA):TE:=fun σ H Q=>to σ H (ub λx H1=>t σ H1 (on1 (ub λy H2=>Q (.bl (Txt.startswith x y)) H2)))
theorem bx{o e:Expr}{to:TE}{t:TA}{apos cpos:Pos}(ho:PE X o to)(ha:PA X [e] t)
  (jX:attributeBase o "startswith" X.env (eval o X.env)=eval o X.env:=by rfl)
  (pW:((backTo cpos (starEach [e] X.env)).all (λx=>!x.1)&&(backToKw cpos (keywordEach [] X.env)).all (λx=>x.1.isSome)
  &&decide ([e].length+([]:List Keyword).length+(if([]:List Keyword).isEmpty then 0 else 1)<30))=true:=by rfl)
  (jW:(apos.endLine==cpos.line)=true:=by rfl) (hs:starEach [e] X.env=[(false,eval e X.env)]:=by rfl) :
  PE X (.Call (.Attribute o "startswith" apos) [e] [] cpos) (Lb to t):=by
 intro pins s σ H Q I h;refine wD jX pW jW rfl (thn (ho pins s σ H _ I h) λv s1 ⟨x,H1,I1,r1,q1⟩=>?_);cases x with
 |str x =>
  obtain⟨t1,rfl⟩:=r1;refine⟨"str","str.startswith",vE,F.slot_str_startswith,F.type_str_startswith,uY _ _ _,(λ_ e=>nomatch e),?_⟩;have hA:=ha cpos pins s1 σ H1 _ I1 q1;rw[hs]at hA ⊢;refine wC rfl (vQ ?_);refine thn hA λus s2 ⟨vs,H2,I2,r2,q2⟩=>?_;rcases vs with _|⟨y,_|⟨z,rr⟩⟩
  ·exact(show False from q2).elim
  ·cases y with
   |str y =>
    have q:Q (.bl (Txt.startswith x y)) H2:=q2;obtain⟨u,rfl,ru⟩:=vn r2;obtain⟨t2,rfl⟩:=ru;exact SC.startswith ⟨.bl _,H2,I2,rfl,q⟩
   |_=>exact(show False from q2).elim
  ·exact(show False from q2).elim
 |_=>exact(show False from q1).elim
end
end
section
open Builtin Builtin.ObjectAttr
section
variable {prog:Program}{w:World}{A:Around}{E:Value->Shared->Prop}{h:Heap}{g:Array GenState}{d:Drawn}{t:Nat}{os:OsState}{C N:Addr}{bm:List Value}{nm q:Str}{bs:List Value}{hdct:Bool}{sn:List Str}{sub:List Value}{ab:Bool}{col:Option Bool}{dd:Option Addr}{k0 k1 k2 k3 k5:Option Value}
theorem mn{mN:Str->Option Value}{rest:List Value}{Q:Fin->Shared->Prop}(T:OwnTail h vbm bm)
  (hC:h.get? C=some (excClassObj nm q C N bs bm hdct sn sub ab col dd k0 k1 k2 k3 k5 "ValueError.__new__")) (hn:h.Ns N mN) (CM:mN "__init__"=none)
  (hq:∀h' e,h.objs.size<=e->Heap.MadeExcOf h h' e (.ref C) rest->Q (.done (.ret (.ref e))) ⟨h',g,d,t,os⟩) (mY:rest.length<=sizeLine) :
  wpAny (model prog w) A (Builtin.«type.__call__» ⟨.ref C::rest,[]⟩) Q E ⟨h,g,d,t,os⟩:=by
 have F:=F.excBase_ValueError
 repeat(first|with_reducible refine xB hC ?_|with_reducible refine wpAny_madeBy_exc hC ?_|wp_step)
 refine codeAny_call_builtin_code (vB _ F.quiet) (wpAny_check_new_subT F T hC ?_);refine codeAny_exc_new_subT F T hC ?_ mY;show wpAny _ _ _ _ _ _;have kp:∀b o,h.get? b=some o->((h.push { cls:=.type "tuple",data:=.seq rest.toArray }).push { cls:=.ref C,data:=.fields #[.ref h.objs.size,.none,.none,.none,.bool false,.none] }).get? b=some o:=λb o e=>zY _ (zY _ e);have hC₁:=kp _ _ hC;have hn₁:=hn.keeps kp;have AA:((h.push { cls:=.type "tuple",data:=.seq rest.toArray }).push
   { cls:=.ref C,data:=.fields #[.ref h.objs.size,.none,.none,.none,.bool false,.none] }).get? (h.objs.size+1)=some
   { cls:=.ref C,data:=.fields #[.ref h.objs.size,.none,.none,.none,.bool false,.none] }:=by heap_get
 have hcC:(Value.ref C::bm).contains (.ref C)=true:=by simp
 have T₁:=T.keeps kp;unfold isInstance
 repeat(first|with_reducible refine xB AA ?_|(with_reducible refine uF hC₁ ?_;rw[hcC])|wp_step)
 show wpAny _ _ (typeLookup (.ref C) _) _ _ _;refine wpAny_typeLookup_tail hC₁ hn₁ T₁ F.mroIs F.init.lookup ?_;rw[CM];refine xS (zZ (wpAny_of_eq (F.init.bind _) ?_));refine zZ (uO (uP F.init.plain F.initEntry (wpAny_check_init_subT F T₁ hC₁ AA rfl ?_)))
 wp_walk
 refine hq _ (h.objs.size+1) (wG _) ⟨λb o hb=>?_,vR (wG _),h.objs.size+2,?_,vR (by lia),?_⟩
 ·rw[yS _ _ (wB (vM (zU hb)))];exact zY _ (kp _ _ hb)
 ·rw[yD _ (zY _ AA) rfl];simp only[xL]
  rfl
 ·rw[yS _ _ (show h.objs.size+1≠h.objs.size+2 by lia)];exact Heap.get?_push_at (by simp only[xL]) rfl
theorem Vh{mN:Str->Option Value}{rest:List Value}{Q:Value->Shared->Prop}(T:OwnTail h vbm bm)
  (hC:h.get? C=some (excClassObj nm q C N bs bm hdct sn sub ab col dd k0 k1 k2 k3 k5 "ValueError.__new__")) (hn:h.Ns N mN) (CM:mN "__init__"=none)
  (hq:∀h' e,h.objs.size<=e->Heap.MadeExcOf h h' e (.ref C) rest->Q (.ref e) ⟨h',g,d,t,os⟩) (mY:rest.length<=sizeLine) :
  wpAny (model prog w) A (call (.ref C) rest) Q E ⟨h,g,d,t,os⟩:=by
 have f1:=tc_lookup;have f2:=tc_bind (.ref C);have hT:(⟨h,g,d,t,os⟩:Shared).TypeIs (.ref C) "type":=⟨_,hC,rfl⟩
 refine uO (codeAny_of_tree ?_);show wpAny _ _ (callAny (.ref C) _) _ _ _
 repeat(any_goals (first|assumption|with_reducible refine xB hC ?_|wp_step))
 refine⟨rfl,?_⟩;refine codeAny_call_builtin_at (vB _ (by decide +kernel)) entry_typeCall (wpAny_check_type_call_sub hC (mn T hC hn CM (λh' e hz hm=>?_) mY));exact hq h' e hz hm
end
structure vt(K:Frag)(C:Addr):Prop where
 x:XCls K C
 e:excIn K C vbm "ValueError.__new__"=true
theorem Lf{K:Frag}{C:Addr}{h:Heap}(X:K.In h)(c:vt K C):∃bm N nm q bs hdct sn sub ab col dd k0 k1 k2 k3 k5 mN,h.get? C=some (excClassObj nm q C N bs bm hdct sn sub ab col dd k0 k1 k2 k3 k5 "ValueError.__new__")/\h.Ns N mN/\mN "__init__"=none/\OwnTail h vbm bm:=by
 have q:=c.e;unfold excIn at q;split at q
 ·rename_i dd cd sl ho;split at q
  ·rename_i C' bm k0 k1 k2 k3 n k5 hm hs;simp only[yN,wI,Bool.not_eq_true']at q;obtain⟨⟨⟨⟨⟨rfl,rfl⟩,B3⟩,ht⟩,hok⟩,CM⟩:=q;obtain⟨nm,bs,mro,ns,qn,hd,sn,sub,ab,col,del⟩:=cd;dsimp only at hm B3 hok CM;subst hm B3;have CJ:sl=#[k0,k1,k2,k3,some (.builtin "ValueError.__new__"),k5]:=by
    obtain⟨l⟩:=sl;simp only at hs;rw[hs]
   subst CJ;exact⟨bm,ns,nm,qn,bs,hd,sn,sub,ab,col,dd,k0,k1,k2,k3,k5,_,X _ _ ho,.of_isNs (isNs_of_in X hok),nsMap_none_of_in X hok CM,tail_of_in X ht⟩
  ·cases q
 ·cases q
def Uz(C:Addr)(t:TA):TE:=fun σ H Q=>t σ H λvs H1=>vs.length<=sizeLine/\∀a,H1 a=none->Q (.ref a) (upd H1 a (exO a C none true))
theorem xf{X:Cx}{C:Addr}{x:Str}{e:Expr}{es:List Expr}{t:TA}{p pos:Pos}(c:vt X.K C)(hm:X.mg x=some (.ref C))(ha:PA X (e::es) t)(hg:Gl X x:=by rfl)
  (kI:(x==("__debug__":Str))=false:=by decide) (he:starEach (e::es) X.env=(false,eval e X.env)::starEach es X.env:=by rfl) (cV:(backTo pos (starEach es X.env)).any (·.1)=false:=by rfl) :
  PE X (.Call (.Name x p) (e::es) [] pos) (Uz C t):=by
 intro pins s σ H Q I h;refine xH (wj I hg hm ?_ kI);refine wL (h₀:=X.base) I.ok.mod.kin c.x.kp (thn (ha pos pins s σ H _ I h) λus s1 ⟨vs,H1,I1,r,hz,q⟩=>⟨I1.kIn,?_⟩) he cV;obtain⟨bm,N,nm,qq,bs,hdct,sn,sub,ab,col,dd,k0,k1,k2,k3,k5,mN,hC,hn,CM,T⟩:=Lf I1.kIn c;obtain⟨hh,g,d,tt,os⟩:=s1;refine Vh T hC hn CM (λh' a SN oQ=>?_) (show us.length<=sizeLine by rw[<-r.length];exact hz);obtain⟨tp,ht,_,_⟩:=oQ.there;have I2:Inv X pins σ (upd H1 a (exO a C none true)) ⟨h',g,d,tt,os⟩:=I1.laid (a:=a) (t':=tt) oQ.keeps SN (o8 ⟨_,_,.none,ht,rfl,rfl,rfl,rfl,λ_=>rfl,rfl⟩);exact⟨.ref a,_,I2,rfl,q a (I1.hok.fresh SN)⟩
def Io(K:Frag):List V->Hp->VK->Prop:=λxs H Q=>∃a C dx n c cv b,xs=[.ref a,c]/\H a=some (exO a C dx n)/\(dx=none\/∃d fs,dx=some d/\H d=some (.xd fs))/\XCls K C/\Le c=some cv/\kitOne K (.ref C) cv=some b/\Q (.bl b) H
section
variable {X:Cx}
theorem iw:wv X (.builtin "isinstance") (Io X.K):=by
 intro pins s σ H xs us Q I r h;obtain⟨a,C,dx,n,c,cv,b,rfl,ea,hd,xc,rc,e,q⟩:=h;obtain⟨u,w',rfl,r1,r2⟩:=ju r;cases r1;obtain rfl:=U7 rc r2;obtain⟨oe,vs,v1,e1,e2,e3,e4,e5,e6⟩:=vq I.hok ea;rcases hd with rfl|⟨d,fs,rfl,ed⟩
 ·have J:W.InstAt s.heap a oe C none:=⟨e1,e2,by unfold notCls;rw[e4],by rw[e3];trivial⟩
  exact kia_one (Sh (ox:=oe) (od:=none) xc) I.kIn J e (λz=>nomatch z) λtk=>⟨.bl b,H,I.tok tk,rfl,q⟩
 ·obtain⟨mA,ns,_⟩:=(show∃mA,s.heap.Ns1 d mA/\∀f,RelO (fs.lookup f) (mA f)from I.hok d _ ed)
  obtain⟨od,hod,hl⟩:=iu ns;have J:W.InstAt s.heap a oe C (some od):=⟨e1,e2,by unfold notCls;rw[e4],by rw[e3];exact hod⟩
  exact kia_one (Sh (ox:=oe) (od:=some od) xc) I.kIn J e (λz=>nomatch z) λtk=>⟨.bl b,H,I.tok tk,rfl,q⟩
theorem sk{x:Str}{pos:Pos}{i:Int}{tk:Tok}(hm:X.mg x=some (.int i tk))(hg:Gl X x:=by rfl)(kI:(x==("__debug__":Str))=false:=by decide):PE X (.Name x pos) (tC (.int i)) :=
 λpins s σ H Q I h=>wj I hg hm ⟨.int i,H,I,⟨tk,rfl⟩,h⟩ kI
def Gf(K:Frag)(g:Bool->Bool):R2:=λx y H Q=>∃d ds,Has K H x d/\Has K H y (.list ds)/\PyData.canLay0 d=true/\PyData.canLayAll0 ds=true/\PyData.depthAll ds<=60/\Q (.bl (g (ds.any λy=>PyData.eqv y d))) H
theorem I0(hu:X.A.units+64<cLine):OpR X (compareOp .In) (Gf X.K id):=by
 intro pins s σ H x y v u Q I rx ry h;obtain⟨d,ds,h1,h2,c1,c2,hd,q⟩:=h;obtain⟨as,ra⟩:=wa I d _ _ h1 rx;obtain⟨bs,rb⟩:=wa I _ _ _ h2 ry;exact SeqAt.in_list_reads rb ra c2 c1 (by lia) ⟨.bl _,H,I,rfl,q⟩
end
end
section
def ku(X:Cx):Value->Shared->Prop:=notedBy (model X.prog X.w) X.A X.env (cameBackBy (model X.prog X.w) X.A X.env X.xe)
section
variable {M:Model}{A:Around}{E:Value->Shared->Prop}{s:Shared}{a C L:Addr}{dx:Option Addr}
theorem Lm{T:Addr}{v:Value}{x:String}{Q:Unit->Shared->Prop}(F:Fly s.heap a C dx (some (T,v)))
  (h:∀h',(∀b o,b≠T->s.heap.get? b=some o->h'.get? b=some o)->Fly h' a C dx (some (T,rawInt L))->Q () { s with heap:=h' }):wpAny M A (do
   if(<-field (.ref a) 1) == .none then unsupported x
   setFlight (.ref a) (some L)) Q E s:=by
 obtain⟨oe,vs,he,hc,oH,hd,h2,h1,BS,oT,ts,hT,AT,h3⟩:=F;have hsz:=(yA.mp h3).1;refine zZ (yC he hd h1 ?_);rw[zK (show¬((Value.ref T==Value.none)=true)from by simp)];unfold setFlight;refine zZ (yC he hd h1 ?_);rw[zH (show(Value.ref T != Value.none)=true from by simp)];refine tN hT AT hsz (h _ (λb o hb e=>(yS _ _ (wY hb)).trans e) ?_);exact⟨oe,vs,(yS _ _ BS).trans he,hc,oH,hd,h2,h1,BS,_,_,yD _ hT (vU (wU AT _)),wU AT _,by simp[Array.getElem?_setIfInBounds,hsz]⟩
end
section
variable {P:Program}{w:World}{K:Frag}{mg:Str->Option Value}{base:Heap}{N:List Str}{qual:Str}{scope:Scope}{f:Addr}{cd:Value}{A:Around}{outer:List Env}{s₀:Shared}{H₀:Hp}{E:XK}
theorem V8{pins:List (Addr×Obj)}{σ:St}{H:Hp}{s:Shared}{a C T:Addr}{dx:Option Addr}(I:Inv (wg (CXr P w) P w K mg base N qual scope f cd A outer s₀ H₀ E) pins σ H s)(ea:H a=some (exO a C dx false))(F:Fly s.heap a C dx (some (T,rawInt s₀.heap.objs.size)))
  (hT:H T=none) (hz:s₀.heap.objs.size<=T) (hE:E (.ref a) dx H):(wg (CXr P w) P w K mg base N qual scope f cd A outer s₀ H₀ E).xe (.ref a) s:=by
 show wpAny (model P w) (A.deeper (envOfC qual scope s₀.heap.objs.size f cd)) (leaving (envOfC qual scope s₀.heap.objs.size f cd) (.ref a)) _ _ s;unfold leaving;obtain⟨oe,vs,e1,e2,e3,e4,_,e5,e6,oT,ts,g1,g2,g3⟩:=id F;refine zZ ?_;unfold noteFrame;simp only[show(envOfC qual scope s₀.heap.objs.size f cd).frame=some s₀.heap.objs.size from rfl];refine zZ (yC e1 e4 e5 ?_);rw[zH (show(Value.ref T != Value.none)=true from by simp)];refine zZ (yC g1 g2 g3 ?_);rw[zH (show(rawInt s₀.heap.objs.size==rawInt s₀.heap.objs.size)=true from by simp)];refine zW (uw F λh2 k2 F2=>?_);have na:∀b,H b=none->b≠a:=λb q z=>by rw[z,ea]at q;cases q
 have E1:∀b o,s₀.heap.get? b=some o->b≠T:=λb o e=>zE (zG (zU e) hz);have B:=I.base;refine⟨a,C,dx,H,T,rfl,I.os,I.bare,⟨λb o e q hb hx=>k2 b o (E1 b o e) (B.keep b o e q hb hx),λb o e q hb hx=>?_,B.free,λb o e hx=>?_,B.tups,B.frzs,B.tbls⟩,λb o e=>?_,ea,hT,hz,F2,hE⟩
 ·obtain⟨sl,q1⟩:=B.slot b o e q hb hx;exact⟨sl,k2 b _ (E1 b o e) q1⟩
 ·obtain⟨o1,q1⟩:=B.there b o e hx;exact⟨o1,k2 b _ (E1 b o e) q1⟩
 ·by_cases z:b=a
  ·subst z;rw[ea]at e;cases e;obtain⟨oe,vs,e1,e2,e3,e4,h2,r⟩:=F2;exact o8 ⟨oe,vs,_,e1,e2,e3,e4,r.1,(λz=>by cases z),h2⟩
  ·refine(I.hok b o e).stay (λc u hc g=>k2 c u (λy=>?_) g) (λc g=>g) λc xs g=>g;subst y;rcases hc with y|y
   ·rw[y,e]at hT;cases hT
   ·rw[y]at hT;cases hT
theorem Tu{pins:List (Addr×Obj)}{σ:St}{H1 H:Hp}{s1 s:Shared}{a C:Addr}{dx:Option Addr}{n:Bool}{old:Option (Addr×Value)}(I1:Inv (wg (CXr P w) P w K mg base N qual scope f cd A outer s₀ H₀ E) pins σ H1 s1)(os:s.os=s1.os)(bare:AllBare s.gens)
  (un:Un (frs (envOfC qual scope s₀.heap.objs.size f cd::outer)) [] H1 H s1.heap s.heap) (I:Inv (wg (CXr P w) P w K mg base N qual scope f cd A outer s₀ H₀ E) pins σ H s) (ea:H a=some (exO a C dx n)) (F:Fly s.heap a C dx old)
  (ho:∀T v,old=some (T,v)->v = .none/\H T=none/\s1.heap.objs.size<=T) (hE:E (.ref a) dx (upd H a (exO a C dx false))):ku (wg (CXr P w) P w K mg base N qual scope f cd A outer s₀ H₀ E) (.ref a) s:=by
 show wpAny (model P w) (A.deeper (envOfC qual scope s₀.heap.objs.size f cd)) (noteFrame (.ref a) (envOfC qual scope s₀.heap.objs.size f cd)) _ _ s;refine ft (base:=base) (L:=s₀.heap.objs.size) I.ok.frames I.stack rfl F (λT v q=>(ho T v q).1) λh1 T hz Nt F1=>?_;refine Lm (s:={ s with heap:=h1 }) (L:=s₀.heap.objs.size) F1 λh2 k2 F2=>?_;have na:∀b,H b=none->b≠a:=λb q z=>by rw[z,ea]at q;cases q
 have nT:∀b o,s.heap.get? b=some o->b≠T:=λb o e=>zE (zG (zU e) hz);have sJ:=sm I ea (λT v q=>(ho T v q).2.1) Nt hz k2 F2;have I2:Inv (wg (CXr P w) P w K mg base N qual scope f cd A outer s₀ H₀ E) pins σ (upd H a (exO a C dx false)) { s with heap:=h2 }:=by
  refine Inv.call' (ch:=[]) I1 (s':={ s with heap:=h2 }) os ⟨λb o e q hb hx=>?_,λb o e q hb hx=>?_,λb o e q hx=>?_,λb o e hx=>?_,λb xs e=>?_,λb o u e=>?_,λb ps e=>?_⟩ sJ bare (λb z=>absurd z (by simp))
  ·have g:=un.keep b o e q hb hx;refine k2 b o (nT b o g) (Nt.keep b o g hb (na b (un.free b o e q hx)) λT' v' z y=>?_);exact absurd (zU e) (by rw[y];exact uN.mpr (ho T' v' z).2.2)
  ·obtain⟨sl,g⟩:=un.slot b o e q hb hx;obtain⟨AO,g2⟩:=Nt.slot b _ g hb;exact⟨AO,k2 b _ (nT b _ g) g2⟩
  ·have e2:=un.free b o e q hx;rw[zj (na b e2)];exact e2
  ·obtain⟨o1,g⟩:=un.there b o e hx;obtain⟨o2,g2⟩:=Nt.there b o1 g;exact⟨o2,k2 b _ (nT b _ g) g2⟩
  ·have e1:=un.tups b xs e;rw[zj λz=>by rw[z,ea]at e1;cases e1];exact e1
  ·have e1:=un.frzs b o u e;rw[zj λz=>by rw[z,ea]at e1;cases e1];exact e1
  ·obtain⟨m,e1⟩:=un.tbls b ps e;exact⟨m,by rw[zj λz=>by rw[z,ea]at e1;cases e1];exact e1⟩
 have hTn:=I.hok.fresh hz;exact V8 I2 zy F2 (by rw[zj (na T hTn)];exact hTn) (yM I.sz hz) hE
theorem Yb:d3 ((wg (CXr P w) P w K mg base N qual scope f cd A outer s₀ H₀ E).wish (ku (wg (CXr P w) P w K mg base N qual scope f cd A outer s₀ H₀ E))) E:=by
 intro pins σ H s a C dx I ea hE;have I:=I.unwish;obtain⟨oe,vs,v1,e1,e2,e3,e4,e5,e6⟩:=vq I.hok ea;obtain rfl:=e6.1 rfl;exact Tu (old:=none) I rfl I.bare (Un.refl ..) I ea ⟨oe,vs,e1,e2,e3,e4,e6.2,e5⟩ (λ_ _ z=>nomatch z) hE
theorem X3:v9 (CXr P w) ((wg (CXr P w) P w K mg base N qual scope f cd A outer s₀ H₀ E).wish (ku (wg (CXr P w) P w K mg base N qual scope f cd A outer s₀ H₀ E))) E:=by
 intro pins σ H s e s' I h;have I:=I.unwish;obtain⟨a,C,dx,H',T,rfl,os,bare,un,hok,ea,hT,hz,F,hE⟩:=h;have I':=Inv.call' (ch:=[]) I os un hok bare (λb z=>absurd z (by simp));exact Tu (old:=some (T,.none)) I os bare un I' ea F (λT' v' z=>by cases z;exact⟨rfl,hT,hz⟩) (by rw[gw ea];exact hE)
end
section
variable {X:Cx}{tg:Expr}
theorem f6{iter:Expr}{body:List Stmt}{wi:TI}{g:TG}{tb:TS}{pos:Pos}(hc:X.calm=true)(hi:PI X tg iter wi)(hg:PG (X.wish (ku X)) tg g)(hb:PSs (X.wish (ku X)) body tb)
  (hs:∀x,foldedSetIterable iter X.env x=pure x:=by intro _;rfl):PS X (.For tg iter body [] pos) (Mb wi g tb):=by
 intro pins s σ H D I h;refine wpAny_For (thn (hi pins s σ H _ I h) λv s1 h1=>thn h1 λSK s2 h2=>?_) hs;obtain⟨it,fp,tn,J,H2,e,I2,T,DM,f2,W,⟨m0,w0⟩,mM⟩:=h2;subst e;have rS:∀{H':Hp},(∀b∈fp,H' b=none)->∀b∈fp,qu X pins H' b:=λhn b hb=>⟨hn b hb,(f2 b hb).2⟩
 refine codeAny_forLoop_any (λn s'=>∃i σ' H',Inv X pins σ' H' s'/\tn i s'.heap/\(∀b∈fp,H' b=none)/\W i n σ' H') ?_ m0 ⟨0,σ,H2,I2,DM,λb hb=>(f2 b hb).1,w0⟩;rintro n s3 ⟨i,σ3,H3,I3,GA,UJ,w3⟩;rcases mM i n σ3 H3 w3 with⟨stop,qn⟩|⟨go,N,hN,step⟩
 ·refine thn (T.done X rfl rfl rfl hc i pins s3 σ3 H3 _ I3 (rS UJ) GA stop) λr s4 ⟨hr,I4⟩=>?_;subst hr;exact wP ⟨σ3,H3,I4,qn⟩
 ·refine thn (T.item X rfl rfl rfl hc i pins s3 σ3 H3 _ I3 (rS UJ) GA go) λr s4 ⟨u,hr,h4⟩=>?_;subst hr;refine thn h4 λ_ s5 ⟨x,H5,I5,r5,y5,BM,FV⟩=>?_;have I5':=I5.pinned (rS FV) (T.obj _ _ BM);refine thn (hg _ s5 σ3 H5 x u _ (I5'.wish _) r5 (step x H5 y5)) λ_ s6 ⟨σ6,H6,I6,q6⟩=>?_;refine thn (hb _ s6 σ6 H6 _ I6 q6) λf s7 q7=>?_;have again:∀{σ7:St}{H7:Hp},Inv X (pins++re fp s5.heap) σ7 H7 s7->N σ7 H7->∃m,m<n/\∃i σ' H',Inv X pins σ' H' s7/\tn i s7.heap/\(∀b∈fp,H' b=none)/\W i m σ' H':=λ{σ7 H7} I7 n7=>by
   obtain⟨m',hm,w7⟩:=hN σ7 H7 n7;refine⟨m',hm,i+1,σ7,H7,I7.unpinned,T.keep _ _ _ BM λb hb o e=>(I7.pin (b,o) (zF _ (zF _ (wb hb e)))).1,λb hb=>?_,w7⟩;obtain⟨o,e,d⟩:=T.obj _ _ BM b hb;exact(I7.pin (b,o) (zF _ (zF _ (wb hb e)))).2.1
  have q8:SP X (pins++re fp s5.heap) _ f s7:=q7.unwish;cases f with
  |next=>obtain⟨σ7,H7,I7,n7⟩:=q8;exact again I7 n7
  |cont=>obtain⟨σ7,H7,I7,n7⟩:=q8;exact again I7 n7
  |brk=>obtain⟨σ7,H7,I7,q7⟩:=q8;exact⟨σ7,H7,I7.unpinned,q7⟩
  |ret v=>obtain⟨x7,σ7,H7,I7,r7,q7⟩:=q8;exact⟨x7,σ7,H7,I7.unpinned,r7,q7⟩
end
theorem nj{P:Program}{w:World}{X:Cx}:v9 (CXr P w) X (λ_ _ _=>False):=by
 intro pins σ H s e s' I h;obtain⟨a,C,dx,H',T,_,_,_,_,_,_,_,_,_,z⟩:=h;exact z.elim
section
variable {X:Cx}
end
end
section
section
variable {X:Cx}
def O2(to:TE)(t:TA):TE:=fun σ H Q=>to σ H (ub λx H1=>t σ H1 λvs H2=>∃y i,vs=[.str y,.int i]/\Q (.bl (Txt.startswith3 x y i)) H2)
theorem We{o e1 e2:Expr}{to:TE}{t:TA}{apos cpos:Pos}(ho:PE X o to)(ha:PA X [e1,e2] t)
  (jX:attributeBase o "startswith" X.env (eval o X.env)=eval o X.env:=by rfl)
  (pW:((backTo cpos (starEach [e1,e2] X.env)).all (λx=>!x.1)&&(backToKw cpos (keywordEach [] X.env)).all (λx=>x.1.isSome)
  &&decide ([e1,e2].length+([]:List Keyword).length+(if([]:List Keyword).isEmpty then 0 else 1)<30))=true:=by rfl)
  (jW:(apos.endLine==cpos.line)=true:=by rfl) (hs:starEach [e1,e2] X.env=[(false,eval e1 X.env),(false,eval e2 X.env)]:=by rfl) :
  PE X (.Call (.Attribute o "startswith" apos) [e1,e2] [] cpos) (O2 to t):=by
 intro pins s σ H Q I h;refine wD jX pW jW rfl (thn (ho pins s σ H _ I h) λv s1 ⟨x,H1,I1,r1,q1⟩=>?_);cases x with
 |str x =>
  obtain⟨t1,rfl⟩:=r1;refine⟨"str","str.startswith",vE,F.slot_str_startswith,F.type_str_startswith,uY _ _ _,(λ_ e=>nomatch e),?_⟩;have hA:=ha cpos pins s1 σ H1 _ I1 q1;rw[hs]at hA ⊢;refine wC rfl (vQ ?_);refine thn hA λus s2 ⟨vs,H2,I2,r2,q2⟩=>?_;obtain⟨y,i,rfl,q⟩:=q2;obtain⟨u,w',rfl,ru,BN⟩:=ju r2;obtain⟨t2,rfl⟩:=(show∃t,u=Value.str y t from ru)
  obtain⟨t3,rfl⟩:=(show∃t,w'=Value.int i t from BN)
  exact SC.startswith3 ⟨.bl _,H2,I2,rfl,q⟩
 |_=>exact(show False from q1).elim
def tFr(te:TE):TE:=fun σ H Q=>te σ H (ub λy H1=>(reprText y).length<=sizeLine/\Q (.str (reprText y)) H1)
theorem i8{e:Expr}{te:TE}{pos:Pos}(ha:PE X e te):PE X (.FormattedValue e 114 none pos) (tFr te):=by
 intro pins s σ H Q I h;refine wpAny_FormattedValue_repr (thn (ha pins s σ H _ I h) λv s1 ⟨x,H1,I1,r1,q1⟩=>?_);cases x with
 |str y =>
  obtain⟨t1,rfl⟩:=r1;obtain⟨h2,h3⟩:=(show(reprText y).length<=sizeLine/\Q (.str (reprText y)) H1 from q1)
  exact pyReprObj_str (formatField_str (λt' tk=>⟨.str _,H1,I1.tok _,⟨_,rfl⟩,h3⟩) h2) h2
 |_=>exact(show False from q1).elim
def Gg:R2:=λx y H Q=>∃a b,x = .str a/\y = .str b/\Q (.bl (Txt.contains b a)) H
theorem Jb:OpR X (compareOp .In) Gg:=by
 intro pins s σ H x y v u Q I rx ry h;obtain⟨a,b,rfl,rfl,q⟩:=h;obtain⟨t,rfl⟩:=(show∃t,v=Value.str a t from rx)
 obtain⟨t',rfl⟩:=(show∃t,u=Value.str b t from ry)
 exact SB.contains ⟨.bl _,H,I,rfl,q⟩
theorem Pq{x y:Str}{pos:Pos}{tk:Tok}(hm:X.mg x=some (.str y tk))(hg:Gl X x:=by rfl)(kI:(x==("__debug__":Str))=false:=by decide):PE X (.Name x pos) (tC (.str y)) :=
 λpins s σ H Q I h=>wj I hg hm ⟨.str y,H,I,⟨tk,rfl⟩,h⟩ kI
def DictK(P:Program)(w:World)(K:Frag)(a:Addr)(kvs:List (Key×Value)):Prop:=∃o es ep,K.lookup a=some o/\o.ExactDict/\o.data = .dict es ep/\KeysOf (x8 P w) es/\Pairs (x8 P w) es.toList kvs/\(kvs.map (·.1)).Nodup/\(a==sysModules)=false
theorem DictK.of{P:Program}{w:World}{K:Frag}{a:Addr}{kvs:List (Key×Value)}{h:Heap}(d:DictK P w K a kvs)(X:K.In h):(a==sysModules)=false/\h.DictOf (x8 P w) a kvs:=by
 obtain⟨o,es,ep,h1,h2,h3,h4,h5,h6,h7⟩:=d;exact⟨h7,o,es,ep,X _ _ h1,h2,h3,h4,h5,h6⟩
def K4(P:Program)(w:World)(K:Frag)(td ti:TE):TE:=fun σ H Q=>td σ H (cq λa H1=>ti σ H1 (ub λx H2=>∃kvs u v,DictK P w K a kvs/\valueAt kvs (Sum.inr x)=some u/\RelV v u/\Q v H2))
theorem Po{o i:Expr}{td ti:TE}{pos:Pos}(ho:PE X o td)(hi:PE X i ti)(hs:G7 i):PE X (.Subscript o i pos) (K4 X.prog X.w X.K td ti):=by
 intro pins s σ H Q I h;refine Q9 F.slot_dict_getitem.lookup hs (thn (ho pins s σ H _ I h) λu s1 ⟨x,H1,I1,rx,q1⟩=>?_);cases x with
 |ref a =>
  cases rx;refine thn (hi pins s1 σ H1 _ I1 q1) λiv s2 ⟨y,H2,I2,ry,q2⟩=>?_;cases y with
  |str n =>
   obtain⟨kvs,u,v,d,ev,rv,q⟩:=(show∃kvs u v,DictK X.prog X.w X.K a kvs/\valueAt kvs (Sum.inr n)=some u/\RelV v u/\Q v H2 from q2)
   obtain⟨hd,dd⟩:=d.of I2.kIn;obtain⟨o',es,ep,g1,g2,_⟩:=id dd;exact⟨⟨o',g1,g2.1⟩,wpAny_getItem_of (Xr (k:=Sum.inr n) ry) dd.mapOf ev ⟨v,H2,I2.tok _,rv,q⟩⟩
  |_=>exact(show False from q2).elim
 |_=>exact(show False from q1).elim
def Ir(P:Program)(w:World)(K:Frag):R2:=λx y H Q=>∃n a kvs,x = .str n/\y = .ref a/\DictK P w K a kvs/\Q (.bl (!(valueAt kvs (Sum.inr n)).isSome)) H
theorem Sy:OpR X (compareOp .NotIn) (Ir X.prog X.w X.K):=by
 intro pins s σ H x y v u Q I rx ry h;obtain⟨n,a,kvs,rfl,rfl,d,q⟩:=h;cases ry;obtain⟨hd,dd⟩:=d.of I.kIn;exact wpAny_notIn_of (Xr (k:=Sum.inr n) rx) hd dd.mapOf ⟨.bl _,H,I.tok _,rfl,q⟩
end
def Its(x:Str):It:=⟨λi _=>i<x.length,λi H v H'=>H'=H/\∃c,x.cps[i]?=some c/\v = .str ⟨#[c]⟩,λi _=>x.length<=i⟩
theorem W5{P:Program}{w:World}{K:W.Frag}{tg:Expr}(x:Str)(t:Tok)(it:Addr):d4 P w K tg (Its x) [it] it (λi h=>h.IsStrIter it "str_ascii_iterator" x t i)where
 mem:=by simp
 obj:=λi h st b hb=>by
  have e:b=it:=by simpa using hb
  subst e;obtain⟨o,e,c,d⟩:=st;exact⟨o,e,λv z=>by rw[d]at z;cases z⟩
 keep:=λi h h' st k=>by
  obtain⟨o,e,r⟩:=st;exact⟨o,k it (by simp) o e,r⟩
 item:=by
  intro X hP hw hK hc i pins s σ H E I hf st hg;subst hP hw hK;obtain⟨c,hx⟩:∃c,x.cps[i]?=some c:=⟨_,uH hg⟩
  obtain⟨f0,f1,f2,f3,f4,f5⟩:=hf it (by simp);refine wpAny_pyNext_ascii_item st hx λh' kE sb=>?_;have I1:Inv X pins σ H { s with heap:=h',toks:=s.toks+1 }:=I.turned (t':=s.toks+1) (λb o hb e=>(sb.2 b hb).trans e) f0 f1 f3 f4 f5;obtain⟨o,e,c',d⟩:=id kE;exact⟨_,rfl,bf (s:={ s with heap:=h',toks:=s.toks+1 }) e c' d (by decide) ⟨.str ⟨#[c]⟩,H,I1,⟨_,rfl⟩,⟨rfl,c,hx,rfl⟩,kE,λb hb=>(hf b hb).1⟩⟩
 done:=by
  intro X hP hw hK hc i pins s σ H E I hf st hg;subst hP hw hK;obtain⟨f0,f1,f2,f3,f4,f5⟩:=hf it (by simp);exact wpAny_pyNext_ascii_end (I.ok.hd hc) st (Array.getElem?_eq_none hg) λh' eb=>⟨rfl,I.turned (t':=s.toks) (λb o hb e=>eb b o hb e) f0 f1 f3 f4 f5⟩
 self:=λ_ _ _ _ _ st h=>wpAny_pyIter_striter_ascii st h
theorem W6{P:Program}{w:World}{K:W.Frag}{tg:Expr}(x:Str)(t:Tok)(it:Addr):d4 P w K tg (Its x) [it] it (λi h=>h.IsStrIter it "str_iterator" x t i)where
 mem:=by simp
 obj:=λi h st b hb=>by
  have e:b=it:=by simpa using hb
  subst e;obtain⟨o,e,c,d⟩:=st;exact⟨o,e,λv z=>by rw[d]at z;cases z⟩
 keep:=λi h h' st k=>by
  obtain⟨o,e,r⟩:=st;exact⟨o,k it (by simp) o e,r⟩
 item:=by
  intro X hP hw hK hc i pins s σ H E I hf st hg;subst hP hw hK;obtain⟨c,hx⟩:∃c,x.cps[i]?=some c:=⟨_,uH hg⟩
  obtain⟨f0,f1,f2,f3,f4,f5⟩:=hf it (by simp);refine wpAny_pyNext_wide_item st hx λh' kE sb=>?_;have I1:Inv X pins σ H { s with heap:=h',toks:=s.toks+1 }:=I.turned (t':=s.toks+1) (λb o hb e=>(sb.2 b hb).trans e) f0 f1 f3 f4 f5;obtain⟨o,e,c',d⟩:=id kE;exact⟨_,rfl,bf (s:={ s with heap:=h',toks:=s.toks+1 }) e c' d (by decide) ⟨.str ⟨#[c]⟩,H,I1,⟨_,rfl⟩,⟨rfl,c,hx,rfl⟩,kE,λb hb=>(hf b hb).1⟩⟩
 done:=by
  intro X hP hw hK hc i pins s σ H E I hf st hg;subst hP hw hK;obtain⟨f0,f1,f2,f3,f4,f5⟩:=hf it (by simp);exact wpAny_pyNext_wide_end (I.ok.hd hc) st (Array.getElem?_eq_none hg) λh' eb=>⟨rfl,I.turned (t':=s.toks) (λb o hb e=>eb b o hb e) f0 f1 f3 f4 f5⟩
 self:=λ_ _ _ _ _ st h=>wpAny_pyIter_striter_wide st h
section
variable {X:Cx}{tg:Expr}
def Ib(tl:TE):TI:=fun σ H R=>tl σ H (ub λx H1=>R (Its x) H1)
theorem T0{l:Expr}{tl:TE}(hl:PE X l tl):PI X tg l (Ib tl):=by
 intro pins s σ H R I h;refine thn (hl pins s σ H _ I h) λv s1 ⟨x,H1,I1,r1,q1⟩=>?_;cases x with
 |str x =>
  obtain⟨t1,rfl⟩:=r1;have q:R (Its x) H1:=q1;have fp:∀b∈[s1.heap.objs.size],qu X pins H1 b:=λb hb=>by
   have e:b=s1.heap.objs.size:=by simpa using hb
   subst e;exact I1.fpOk (zT _) (I1.hok.fresh (zT _))
  cases ha:x.cps.all (·<128)with
  |true=>exact wpAny_pyIter_ascii ha ⟨s1.heap.objs.size,[s1.heap.objs.size],_,_,H1,rfl,I1.kept (t':=s1.toks) λb o e=>zY _ e,W5 x t1 _,⟨_,zR _ rfl,rfl,rfl⟩,fp,q⟩
  |false=>exact wpAny_pyIter_wide ha ⟨s1.heap.objs.size,[s1.heap.objs.size],_,_,H1,rfl,I1.kept (t':=s1.toks) λb o e=>zY _ e,W6 x t1 _,⟨_,zR _ rfl,rfl,rfl⟩,fp,q⟩
 |_=>exact(show False from q1).elim
end
theorem Sm{x:Str}{g:TG}{tb:TS}{D:ue}{σ:St}{H:Hp}(Pv:Nat->St->Hp->Prop)(h0:Pv 0 σ H)
  (hs:∀i c σ H,x.cps[i]?=some c->Pv i σ H->g (.str ⟨#[c]⟩) σ H fun σ2 H2=>tb { D with nx:=Pv (i+1),ct:=Pv (i+1),bk:=D.nx } σ2 H2) (hd:∀σ H,Pv x.length σ H->D.nx σ H):aq g tb (Its x) D σ H :=
 k7 (J:=Its x) (n:=x.length) Pv h0 (λ_ _ _ hi _=>hi) (λ_ _ _=>zT _) (λi v σ H H' hi p y=>by
  obtain⟨rfl,c,hc,rfl⟩:=y;exact hs i c σ _ hc p) hd
theorem Ru{x:Str}{te:TE}{ρ:St}{Q:VK}{H1:Hp}(Pv:Addr->Nat->List V->Hp->Prop)(hsz:x.length<=sizeLine)
  (h0:∀D H2,H1 D=none->Same H1 H2->H2 D=some (.lst [])->Pv D 0 [] H2)
  (hl:∀D i ys H,Pv D i ys H->H D=some (.lst ys)/\ys.length=i)
  (hs:∀D i c ys H,x.cps[i]?=some c->Pv D i ys H->te (some (.str ⟨#[c]⟩) :: ρ) H λy H3=>H3 D=some (.lst ys)/\CN x.length i (Pv D (i+1) (ys++[y]) (upd H3 D (.lst (ys++[y])))))
  (hd:∀D ys H,Pv D x.length ys H->Q (.ref D) H):ua 1 (mG 0) o4 te ρ (Its x) Q H1 :=
 p0 (J:=Its x) Pv hsz h0 (λD i ys H _ p=>⟨(hl D i ys H p).1,uZ (hl D i ys H p).2⟩) (λ_ _ _ _ hi _=>hi) (λ_ _ _ _=>zT _) (λD i v ys H H' τ hi hτ p y=>by
  obtain⟨t,rfl⟩:=fz hτ;obtain⟨rfl,c,hc,rfl⟩:=y;exact⟨⟨[some _],rfl,rfl⟩,hs D i c ys _ hc p⟩) hd
structure ye(P:Program)(w:World)(K:W.Frag)(mg:Str->Option Value)(base:Heap)(k:Nat)(C:Addr)(x:Str)(ps:List Str)(sp:Sp):Prop where
 ex:∃(f:Addr)(fd:FuncData),FnOk P w K mg base (CXr P w) k f fd ps sp/\Binds K fd ps []/\Vc K C x f/\Cls K C
section
variable {P:Program}{w:World}{K:W.Frag}{mg:Str->Option Value}{base:Heap}
theorem DefM.calleeX{C:Addr}{x qual:Str}{st:Stmt}{N ps:List Str}{k:Nat}{sp:Sp}(F:DefM K C x qual st ps)(S:zr N ps (z4 st))(len:∀vs H Q E,sp vs H Q E->vs.length=ps.length)
  (bI:∀(f:Addr)(cdv:Value)(A:Around)(outer:List Env)(s:Shared)(H:Hp)(vs:List V)(Q:VK)(E:XK),Room k (A.deeper (envOfC qual (z4 st) s.heap.objs.size f cdv))->sp vs H Q E ->
   ∃σ t,start N vs=σ/\PSs (wg (CXr P w) P w K mg base N qual (z4 st) f cdv A outer s H E) (zw st) t/\t { nx:=λ_ H'=>Q .non H',rt:=Q } σ H):ye P w K mg base (k+1) C x ps sp:=by
 obtain⟨f,fd,F,b,hm,hc⟩:=F.ex;refine⟨f,fd,okX F S len λcdv A outer s H vs Q E hr h=>?_,.all b,hm,hc⟩;obtain⟨σ,t,e,ht,q⟩:=bI f cdv A outer s H vs Q E hr h;exact⟨t,ht,by rw[e];exact q⟩
theorem ul{X:Cx}{C:Addr}{k k':Nat}{x:Str}{ps:List Str}{sp:Sp}{ta:TE}{t:TA}{o e:Expr}{es:List Expr}{pos apos:Pos}{pl:Sem Bool}{E:XK}(C':ye X.prog X.w X.K X.mg X.base k C x ps sp)(hx:v9 (CXr X.prog X.w) X E)(hr:Room k' X.A)(hk:k<=k')(ho:PE X o ta)(ha:PA X (e::es) t)
  (iH:starEach (e::es) X.env=(false,eval e X.env)::starEach es X.env:=by rfl) (cV:(backTo pos (starEach es X.env)).any (·.1)=false:=by rfl)
  (ht:eval (.Call (.Attribute o x apos) (e::es) [] pos) X.env=(do
   let ov <-eval o X.env;standAt apos.atName
   let(f,first) <-holding [ov] (getMethod ov x pl);callWith pos f first (backTo pos (starEach (e::es) X.env)) (backToKw pos (keywordEach [] X.env))):=by rfl) :
  PE X (.Call (.Attribute o x apos) (e::es) [] pos) (js C x sp [] E ta t):=by
 obtain⟨f,fd,F,b,hm,hc⟩:=C'.ex;exact X5 (pl:=pl) ho hc hm F (hr.mono hk) b .nil hx ha iH cV ht
theorem wl{X:Cx}{C:Addr}{k k':Nat}{x:Str}{ps:List Str}{sp:Sp}{ta:TE}{o:Expr}{pos apos:Pos}{pl:Sem Bool}{E:XK}(C':ye X.prog X.w X.K X.mg X.base k C x ps sp)(hx:v9 (CXr X.prog X.w) X E)(hr:Room k' X.A)(hk:k<=k')(ho:PE X o ta)
  (ht:eval (.Call (.Attribute o x apos) [] [] pos) X.env=(do
   let ov <-eval o X.env
   standAt apos.atName
   let(f,first) <-holding [ov] (getMethod ov x pl)
   callWith pos f first (backTo pos (starEach [] X.env)) (backToKw pos (keywordEach [] X.env))):=by rfl) :
  PE X (.Call (.Attribute o x apos) [] [] pos) (js C x sp [] E ta Ra):=by
 obtain⟨f,fd,F,b,hm,hc⟩:=C'.ex;exact Tx (pl:=pl) ho hc hm F (hr.mono hk) b .nil hx ht
end
def O3(K:Frag)(J:Addr)(sp:Sp)(ta:TA)(ts:Addr->TS):TS:=λD σ H=>ta σ H λvs H1=>sp vs H1 (λ_ H2=>D.nx σ H2) λe dx H'=>∃a C,e = .ref a/\H' a=some (exO a C dx false)/\XCls K C/\mroIn K C (.ref J)=some true/\ts a D σ H'
theorem Qm{X:Cx}{x J:Str}{Ja:Addr}{e:Expr}{es:List Expr}{b₀:Stmt}{fV:List Stmt}{k k':Nat}{ps:List Str}{sp:Sp}{ta:TA}{ts:Addr->TS}{p pos B8 jp oP Bk:Pos}(C:ym X.prog X.w X.K X.mg X.base k x ps sp)(hr:Room k' X.A)(hk:k<=k')(ha:PA X.nox (e::es) ta)
  (hJ:X.mg J=some (.ref Ja)) (xJ:XCls X.K Ja) (hs:∀a,PSs (Z9 X a) (b₀ :: fV) (ts a)) (hg:Gl X x:=by rfl) (hgJ:Gl X J:=by rfl)
  (iH:X.stack=X.env::X.outer:=by rfl) (hfm:X.env.frame=some X.env.locals:=by rfl) (DZ:swapsWith (.Call (.Name x p) (e::es) [] pos) none B8.line X.env=pure false:=by rfl)
  (kI:(x==("__debug__":Str))=false:=by decide) (hdJ:(J==("__debug__":Str))=false:=by decide) (he:starEach (e::es) X.env=(false,eval e X.env)::starEach es X.env:=by rfl) (cV:(backTo pos (starEach es X.env)).any (·.1)=false:=by rfl) :
  PS X (.Try [.Expr (.Call (.Name x p) (e::es) [] pos) B8] [.ExceptHandler (some (.Name J jp)) none (b₀ :: fV) oP] [] [] Bk) (O3 X.K Ja sp ta ts):=by
 intro pins s σ H D I h;obtain⟨f,fd,F,b,hm,hkp⟩:=C.ex;refine wpAny_Try_except (tK (wpAny_Expr_any (xH (wj I hg hm ?_ kI)) I.quiet DZ));refine wL (h₀:=X.base) I.ok.mod.kin hkp (yR (ha pos pins s σ H _ (I.wish _) h) (λus s1 ⟨vs,H1,I1',r,q⟩=>⟨I1'.kIn,?_⟩) λ_ _ z=>z.elim) he cV;have I1:=I1'.unwish;have hl:(us++[]).length=ps.length:=by rw[List.append_nil];exact r.length.symm.trans (F.len _ _ _ _ q)
 have hb:=b s1 us I1.kIn hl;rw[List.append_nil]at hb;refine uO (wA (F.run X.A X.stack s1 H1 ⟨us,[]⟩ us vs _ _ (hr.mono hk) I1.env0 hb r q) λr s' hq=>?_);cases r with
 |ok fl =>
  cases fl with
  |ret u =>
   obtain⟨v,H2,I2,rv,q2⟩:=I1.after hq;exact wP (wP (show SP X pins D .next s' from⟨σ,H2,I2,q2⟩))
  |next=>exact False.elim hq
  |brk=>exact False.elim hq
  |cont=>exact False.elim hq
 |error ev =>
  obtain⟨a,C,dx,H',T,rfl,os,bare,un,hok,ea,hT,hz,Fl,a',C',ee,ea',xc,hmr,hts⟩:=hq;cases ee;obtain⟨oe,ovs,ov,e1,e2,_⟩:=vq hok ea;obtain⟨oe',ovs',ov',UM,UL,_⟩:=vq hok ea';rw[e1]at UM;cases UM;rw[e2]at UL;cases UL;have no:∀b∈([]:List Addr),(b∈X.ex\/X.s₀.heap.objs.size<=b)/\b≠X.env.locals/\(∀x c,X.env.cells.lookup x=some c->c≠b)/\∀p∈X.pn++pins,p.1≠b:=λb z=>absurd z (by simp);have I':=Inv.call' (ch:=[]) I1 os un hok bare no;refine ft (base:=X.base) (L:=X.env.locals) (iH▸I'.ok.frames) (iH▸I'.stack) hfm Fl (λT v z=>by cases z;rfl) λh1 T1 rP N F1=>uw (s:={ s' with heap:=h1 }) F1 λh2 k2 F2=>?_;rw[<-iH]at N;have na:∀b,H' b=none->b≠a:=λb q z=>by rw[z,ea]at q;cases q
  have mk:∀h2,(∀b o,b≠T1->h1.get? b=some o->h2.get? b=some o)->Fly h2 a C dx (some (T1,.none))->Inv X pins σ H' { s' with heap:=h2 }:=λh2 k2 F2=>by
   have sJ:=sm I' ea (λT' v' z=>by cases z;exact hT) N rP k2 F2;rw[gw ea]at sJ;have nT:∀b o,s'.heap.get? b=some o->b≠T1:=λb o e=>zE (zG (zU e) rP);refine Inv.call' (ch:=[]) I1 (s':={ s' with heap:=h2 }) os ⟨λb o e q hb hx=>?_,λb o e q hb hx=>?_,un.free,λb o e hx=>?_,un.tups,un.frzs,un.tbls⟩ sJ bare no
   ·have g:=un.keep b o e q hb hx;refine k2 b o (nT b o g) (N.keep b o g hb (na b (un.free b o e q hx)) λT' v' z y=>?_);cases z;exact absurd (zU e) (by rw[y];exact uN.mpr hz)
   ·obtain⟨sl,g⟩:=un.slot b o e q hb hx;obtain⟨AO,g2⟩:=N.slot b _ g hb;exact⟨AO,k2 b _ (nT b _ g) g2⟩
   ·obtain⟨o1,g⟩:=un.there b o e hx;obtain⟨o2,g2⟩:=N.there b o1 g;exact⟨o2,k2 b _ (nT b _ g) g2⟩
  have I2:=mk h2 k2 F2;obtain⟨oe2,vs2,g1,g2,g3,g4,g5⟩:=id F2;refine bg (wj (X:=Z9 X a) (m7 I2 a) hgJ hJ ?_ hdJ);refine Rz (K:=X.K) (s:={ s' with heap:=h2 }) I2.kIn xc xJ hmr g1 g2 ⟨rfl,uw (s:={ s' with heap:=h2 }) F2 λh3 k3 F3=>?_⟩;have I3:=mk h3 (λb o z e=>k3 b o z (k2 b o z e)) F3;refine yR (hs a pins _ _ H' _ (m7 I3 a) hts) (λf s5 q=>?_) λ_ _ z=>z;cases f with
  |next =>
   obtain⟨σ',AW,I5,q⟩:=q;exact⟨_,_,vo I.ok I5,q⟩
  |ret u =>
   obtain⟨v,σ',AW,I5,rv,q⟩:=q;exact⟨v,_,_,vo I.ok I5,rv,q⟩
  |brk =>
   obtain⟨σ',AW,I5,q⟩:=q;exact⟨_,_,vo I.ok I5,q⟩
  |cont =>
   obtain⟨σ',AW,I5,q⟩:=q;exact⟨_,_,vo I.ok I5,q⟩
end
end My
namespace Kx
open PySem PySem.Spec L2 My
open PyProof.Rows hiding St
def top(i:Nat):Stmt:=PySem.Challenge.pw_manyjudges_k61_whole_read_back.main.body.getD i (.Pass ⟨0,0,0,0⟩)
theorem Kt{t u:TS}{D:ue}{σ:L2.St}{H:Hp}(h:t { D with nx:=u D } σ H):dq t u D σ H:=h
end Kx
namespace Kx
open PySem PySem.Spec L2 My
open PyProof.Rows hiding St
local macro_rules|`(tactic| walk_at "r1")=>`(tactic| first|dsimp only[K7,Uz,O1,Ot,K6,ac,Io,O2,tFr,K4,Ib,O3,K5,js,Ks,Uy,N5,K9,O0,N4,K3,mV,gv,sv,Iu,mG,tOp,tC,Oz,Ra,Yn,tCB,Oo,Yo,tSl,Ix,Ip,mB,Ol,Is,On,K2,tOr,K8,tIf,mBM,Gd,Ia,iR1,iEn,Ss,Mb,Sv,dn,iR2,Qb,iR3,Qc,iZt,Qd,iZp,Mp,Kl,Np,Qa,Tp,Tq,Mo,Nb,Nd,Nc,Gr,J7,J1,J0,J5,Nj,Nh,Nf,Ni,Ng,J4,Ke,Kd,Gs,Kc,Ka,Kk,Kj,No,Nn,T9,Qo,J9,Jy,Nk,Kh,Kf,Kg,J8,Jz,Gq,Gi,tSS,Gu,Nl,tFC,tF0,tFv,tJn,Tr,La,Lb,Nq,ao,o4,mDN,Ux,Ly,Ki,mG2,List.map_cons,List.map_nil,id,F6,F5,decide_true,decide_false,Bool.not_true,Bool.not_false,if_true,if_false,ite_true,ite_false,reduceIte]|simp only[List.map_cons,List.map_nil,w01,w02,w03,w04,w10,w12,w13,w14,w20,w21,w23,w24,w30,w31,w32,w34,w40,w41,w42,w43,List.append_nil,decide_true,decide_false,Bool.not_true,Bool.not_false,if_true,if_false,Bool.false_eq_true,ite_true,ite_false,reduceIte])
local macro_rules|`(tactic| walk_at "rd")=>`(tactic| (repeat(first|dsimp only[dq,U0]|walk_at "r1"));try dsimp only)
local macro_rules|`(tactic| walk_at "rs")=>`(tactic| (repeat(walk_at "r1"));try dsimp only)
local macro_rules|`(tactic| walk_at "rp")=>`(tactic| (repeat(first|with_reducible refine Kt ?_|dsimp only[U0]|walk_at "r1"));try dsimp only)
section
variable {P:Program}{w:World}{K:W.Frag}{mg:Str->Option Value}{base:Heap}
def K1(K:W.Frag)(n:Nat):Sp:=λvs H Q _=>∃(v:V)(h:Addr)(s:Say)(hs:List Str),vs=[v,.ref h]/\SayAt K H v s/\s.pieces<=n/\SqT K H h (hs.map V.str)/\Q (.bl (s.so hs)) H
theorem sc_is_so:zr ["saying","held","kind","one","other"] ["saying","held"] (z4 (top 11)):=⟨rfl,rfl,rfl,by decide +kernel,rfl,by decide +kernel,by decide +kernel⟩
theorem cf(D:Def K mg "is_so" (top 11) ["saying","held"]):∀n:Nat,zv P w K mg base n "is_so" ["saying","held"] (K1 K n)
 |0=>yo D λvs H Q E h=>by
  obtain⟨v,h,s,hs,_,_,hp,_⟩:=h;exact absurd s.pieces_pos (by lia)
 |n+1=>by
  have kC:=cf D n;refine D.callee sc_is_so (λvs H Q E h=>?_) λf cdv A outer s H vs Q E hr h=>?_
  ·obtain⟨v,h,s,hs,rfl,_⟩:=h
   rfl
  have nd:=sc_is_so.nd;obtain⟨v,h,s,hs,rfl,hv,hp,hh,q⟩:=h;refine⟨[some v,some (.ref h),none,none,none],_,rfl,(z5 (zg 2 nd (yj (z8 0) zz (λ_ _=>rfl)))
  (z5 (zd (zh (ya hr.units) (z8 2) zx (zk _)) (z0 (zt (xy Pr (yj (z8 0) zz (λ_ _=>rfl)) (z8 1) (by with_unfolding_all rfl)))) zm)
  (z5 (zd (zh (ya hr.units) (z8 2) zx (zk _)) (z0 (zt (Xv (zp kC hr (by lia) (z9 (yj (z8 0) zz (λ_ _=>rfl)) (z9 (z8 1) z6)))))) zm)
  (z5 (zg 3 nd (zp kC hr (by lia) (z9 (yj (z8 0) zz (λ_ _=>rfl)) (z9 (z8 1) z6))))
  (z5 (zg 4 nd (zp kC hr (by lia) (z9 (yj (z8 0) zz (λ_ _=>rfl)) (z9 (z8 1) z6))))
  (z5 (zd (zh (ya hr.units) (z8 2) zx (zk _)) (z0 (zt (oi (z8 3) (uq (z8 4))))) zm)
  (z5 (zd (zh (ya hr.units) (z8 2) zx (zk _)) (z0 (zt (Jf (z8 3) (uq (z8 4))))) zm)
  (z0 (zt (Jf (Xv (z8 3)) (uq (z8 4)))))))))))),?_⟩
  cases s with
  |letter x =>
   obtain⟨a,rfl,ha⟩:=hv;walk_at"rp";refine⟨_,_,.inr ha,rfl,?_⟩;walk_at"rp";refine⟨_,_,.inr ha,rfl,?_⟩;walk_at"rp";refine⟨_,.inr hh,rfl,au hs,?_⟩;rw[m4];exact q
  |neg t =>
   obtain⟨a,u,rfl,ha,ht⟩:=hv;walk_at"rp";refine⟨_,_,.inr ha,rfl,?_⟩;walk_at"rp";refine⟨_,_,.inr ha,rfl,?_⟩;walk_at"rp";exact⟨u,h,t,hs,rfl,ht,by have:=hp;simp only[Say.pieces]at this;lia,hh,q⟩
  |bin o t t' =>
   obtain⟨a,u,u',rfl,ha,ht,rB⟩:=hv;have p1:t.pieces<=n/\t'.pieces<=n:=by have:=hp;simp only[Say.pieces]at this;lia
   cases o <;>
   ·dsimp only[Op2.word]at ha;walk_at"rp";refine⟨_,_,.inr ha,rfl,?_⟩;walk_at"rp";refine⟨_,_,.inr ha,rfl,?_⟩;walk_at"rp";refine⟨u,h,t,hs,rfl,ht,p1.1,hh,?_⟩;refine⟨_,_,.inr ha,rfl,?_⟩;refine⟨u',h,t',hs,rfl,rB,p1.2,hh,?_⟩;walk_at"rp";simp only[Say.so,Op2.so]at q;cases e:Say.so hs t<;>rw[e]at q<;>simpa using q
theorem my{ns:List Int}{k:Int}(h0:0<=k)(h:k<(ns.length:Int)):∃v:Int,atI (ns.map V.int) k=some (.int v):=by
 have hk:k.toNat<ns.length:=by lia
 have ek:k=((k.toNat:Nat):Int):=by lia
 have e:atI (ns.map V.int) ((k.toNat:Nat):Int)=some (.int ns[k.toNat]):=mw (by rw[yU,yE hk]<;>rfl);rw[<-ek]at e;exact⟨_,e⟩
theorem o7{α:Type}{xs:List α}{k:Int}(h0:0<=k)(h:k<(xs.length:Int)):∃v,v∈xs/\atI xs k=some v:=by
 have hk:k.toNat<xs.length:=by lia
 have ek:k=((k.toNat:Nat):Int):=by lia
 have e:atI xs ((k.toNat:Nat):Int)=some xs[k.toNat]:=mw (yE hk);rw[<-ek]at e;exact⟨_,vY hk,e⟩
theorem cm{i j:Int}(h:-(2 ^ 64)<i/\i<2 ^ 64):CMul i j:=.inl h
theorem cm2{i j:Int}(h:-(2 ^ 64)<j/\j<2 ^ 64):CMul i j:=.inr h
def Z5(K:W.Frag):Sp:=λvs H Q _=>∃(a:Addr)(ns:List Int)(k:Int),vs=[.ref a,.int k]/\SqL K H a (ns.map V.int)/\ns.length<=5000/\0<=k/\k<=100000/\∀r:Int,Q (.int r) H
theorem sc_cell:zr ["_law_script","_law_k","_law_number"] ["_law_script","_law_k"] (z4 (top 44)):=⟨rfl,rfl,rfl,by decide +kernel,rfl,by decide +kernel,by decide +kernel⟩
theorem Pz(D:Def K mg "_law_cell" (top 44) ["_law_script","_law_k"])(aD:mg "len"=none):zv P w K mg base 1 "_law_cell" ["_law_script","_law_k"] (Z5 K):=by
 refine D.callee sc_cell (λvs H Q E h=>?_) λf cdv A outer s H vs Q E hr h=>?_
 ·obtain⟨a,ns,k,rfl,_⟩:=h
  rfl
 have nd:=sc_cell.nd;obtain⟨a,ns,k,rfl,hS,fG,h0,hk,q⟩:=h;refine⟨[some (.ref a),some (.int k),none],_,rfl,(z5 (zd (zh Wc (z8 1) (zq xz rfl aD yt (z9 (z8 0) z6)) (zk _)) (z0 (zt (yj (z8 0) (z8 1) (λ_ _=>rfl)))) zm)
  (z5 (zg 2 nd (zn zf (zn u8 (z8 1) zz) zz))
  (z5 (zd (zh bw (zq xz rfl aD yt (z9 (z8 0) z6)) zz (zk _)) (z0 (zg 2 nd (zn zf (zn zf (zn u8 (zn u7 (yj (z8 0) (zn u7 (z8 1) (zq xz rfl aD yt (z9 (z8 0) z6))) (λ_ _=>rfl)) zz) zz) (zn u8 (zn u8 (z8 1) (z8 1)) zz)) zz))) zm)
  (z0 (zt (zn u7 (zn u8 (z8 2) (z8 2)) zz)))))),?_⟩
 walk_at"rp";refine⟨_,.inl hS,?_⟩;rw[zX];have hkk:k*k<=100000*100000:=Int.mul_le_mul hk hk h0 (by decide);have hkn:0<=k*k:=Int.mul_nonneg h0 h0;refine w9 (λc=>?_) (λc=>?_)
 ·obtain⟨v,e⟩:=my h0 (yZ c);exact⟨_,_,.inl hS,e,q v⟩
 ·refine⟨cm2 (by lia),_,.inl hS,?_⟩;rw[zX];refine w9 (λd=>?_) (λd=>?_)
  ·have d':(0:Int)<(ns.length:Int):=yZ d;refine⟨_,.inl hS,?_⟩;rw[zX];obtain⟨v,e⟩:=my (ns:=ns) (k:=k % (ns.length:Int)) (uB _ (by lia)) (vD _ d');refine⟨d',_,_,.inl hS,e,?_⟩;walk_at"rp";exact⟨by decide,cm2 (by lia),cm (by lia),cm (by lia),cm (by lia),by decide,q _⟩
  ·walk_at"rp";exact⟨cm (by lia),by decide,q _⟩
def pr(K:W.Frag):Sp:=λvs H Q _=>∃(a:Addr)(ns:List Int)(k m:Int),vs=[.ref a,.int k,.int m]/\SqL K H a (ns.map V.int)/\ns.length<=5000/\0<=k/\k<=100000/\0<m/\∀r:Int,0<=r->r<m->Q (.int r) H
theorem sc_pick:zr ["_law_script","_law_k","_law_many","_law_number"] ["_law_script","_law_k","_law_many"] (z4 (top 45)):=⟨rfl,rfl,rfl,by decide +kernel,rfl,by decide +kernel,by decide +kernel⟩
theorem P4(D:Def K mg "_law_pick" (top 45) ["_law_script","_law_k","_law_many"])(jR:zv P w K mg base 1 "_law_cell" ["_law_script","_law_k"] (Z5 K)):zv P w K mg base 2 "_law_pick" ["_law_script","_law_k","_law_many"] (pr K):=by
 refine D.callee sc_pick (λvs H Q E h=>?_) λf cdv A outer s H vs Q E hr h=>?_
 ·obtain⟨a,ns,k,m,rfl,_⟩:=h
  rfl
 have nd:=sc_pick.nd;obtain⟨a,ns,k,m,rfl,hS,fG,h0,hk,hm,q⟩:=h;refine⟨[some (.ref a),some (.int k),some (.int m),none],_,rfl,(z5 (zg 3 nd (zn zf (zn u8 (zn u7 (zp jR hr (by lia) (z9 (z8 0) (z9 (z8 1) z6))) zz) (zn zf zz (zn u8 zz (z8 1)))) (zn u8 zz (z8 1))))
  (z0 (zt (zn u7 (zn fm (zn u7 (z8 3) zz) zz) (z8 2))))),?_⟩
 walk_at"rp";refine⟨a,ns,k,rfl,hS,fG,h0,hk,λr=>?_⟩;walk_at"rp";exact⟨by decide,cm (by lia),cm (by lia),cm (by lia),by decide,⟨by decide,by decide⟩,hm,q _ (uB _ (by lia)) (vD _ hm)⟩
theorem zc{n:Nat}(h:n<=1000):n<=sizeLine:=xP (vp h)
def lit(s:String):List Nat:=(Str.ofString s).cps.toList
def nx(x:List Nat)(p:Nat)(y:List Nat):Bool:=y.isPrefixOf (x.drop p)
def Z4:List Nat:=lit "abcdefghijklmnopqrstuvwxyz"
def xt(c:Nat):Bool:=decide (c∈Z4)
def wordsL:List Str:=[Str.ofString "not",Str.ofString "and",Str.ofString "or",Str.ofString "if",Str.ofString "then",Str.ofString "say",Str.ofString "judge"]
def yd(x:List Nat)(p:Nat):List Nat:=(x.drop p).takeWhile xt
def t7(n:List Nat):Bool:=!decide (n=[])&&(!decide (6<n.length)&&!decide ((⟨n.toArray⟩:Str)∈wordsL))
abbrev PR:=Option (Say×Nat×Nat)
def cs(x:List Nat)(r p:Nat):PR:=if t7 (yd x p)=true then some (.letter ⟨(yd x p).toArray⟩,r,p+(yd x p).length)else none
def qd(x:List Nat)(o:Op2)(t1:Say):PR->PR
 |some (t2,r2,p2)=>if nx x p2 (lit ")")=true then some (.bin o t1 t2,r2,p2+1)else none
 |none=>none
def pIf(x:List Nat)(FE:Nat->Nat->PR)(r p:Nat):PR:=match FE r (p+4)with
 |some (t1,r1,p1)=>if nx x p1 (lit " then ")=true then qd x .imp t1 (FE r1 (p1+6))else none
 |none=>none
def rz(x:List Nat)(FE:Nat->Nat->PR)(r p:Nat):PR:=match FE r (p+1)with
 |some (t1,r1,p1)=>if nx x p1 (lit " and ")=true then qd x .con t1 (FE r1 (p1+5))else if nx x p1 (lit " or ")=true then qd x .dis t1 (FE r1 (p1+4))else none
 |none=>none
def Tv:PR->PR
 |some (t,r,p)=>some (.neg t,r,p)
 |none=>none
def yp(x:List Nat):Nat->Nat->Nat->PR
 |0,_,_=>none
 |_+1,0,_=>none
 |f+1,r+1,p=>if nx x p (lit "not ")=true then Tv (yp x f r (p+4))else if nx x p (lit "(if ")=true then pIf x (yp x f) r p else if nx x p (lit "(")=true then rz x (yp x f) r p else cs x r p
structure tj(x:Str):Prop where
 len:x.length<=100000
 cps:∀c∈x.cps.toList,c<16 ^ 8
def rdI(x:Str)(i j:Int):List (Str×V):=[("text",.str x),("place",.int i),("pieces",.int j)]
abbrev rdF(x:Str)(p n:Nat):List (Str×V):=rdI x (p:Int) (n:Int)
def SameA(o:Addr)(H H':Hp):Prop:=∀b u,b≠o->H b=some u->H' b=some u
theorem SameA.refl(o:Addr)(H:Hp):SameA o H H:=λ_ _ _ e=>e
theorem SameA.trans{o:Addr}{H H1 H2:Hp}(a:SameA o H H1)(b:SameA o H1 H2):SameA o H H2:=λc u h e=>b c u h (a c u h e)
theorem SameA.of{o:Addr}{H H':Hp}(s:Same H H'):SameA o H H':=λb u _ e=>s b u e
theorem SameA.upd(o:Addr)(H:Hp)(u:HO):SameA o H (upd H o u):=λb v h e=>by rw[zj h];exact e
theorem SameA.tups{o C dx:Addr}{fs:List (Str×V)}{H H':Hp}(s:SameA o H H')(h:H o=some (.ins C dx fs)):Tups H H' :=
 ⟨λb xs e=>s b _ (λz=>by rw[z,h]at e;cases e) e,λb u v e=>s b _ (λz=>by rw[z,h]at e;cases e) e⟩
def NoE(Cn o:Addr)(H:Hp)(E:XK):Prop:=∀(a:Addr)(H':Hp),SameA o H H'->H' a=some (exO a Cn none false)->E (.ref a) none H'
theorem NoE.mono{Cn o:Addr}{H H':Hp}{E:XK}(s:SameA o H H')(h:NoE Cn o H E):NoE Cn o H' E:=λa H2 s2 e=>h a H2 (s.trans s2) e
theorem Wh{Cn o a:Addr}{H H1:Hp}{E:XK}(h:NoE Cn o H E)(s:SameA o H H1)(na:H1 a=none):E (.ref a) none (upd (upd H1 a (exO a Cn none true)) a (exO a Cn none false)):=by
 refine h a _ (λb u hb e=>?_) zy;have FS:b≠a:=λz=>by
  have:=s b u hb e;rw[z,na]at this;cases this
 rw[zj FS,zj FS];exact s b u hb e
theorem Zx{Cn o:Addr}{H H1:Hp}{E:XK}(x0:vt K Cn)(h:NoE Cn o H E)(s:SameA o H H1):∀a,H1 a=none->∃pO C dx,V.ref a=V.ref pO/\upd H1 a (exO a Cn none true) pO=some (exO pO C dx true)/\XCls K C/\E (Value.ref pO) dx (upd (upd H1 a (exO a Cn none true)) pO (exO pO C dx false)):=λa na=>⟨a,Cn,none,rfl,zy,x0.x,Wh h s na⟩
theorem se(x:Str):(Str.empty++x).length=x.length:=by
 show(#[]++x.cps).size=_;rw[tQ];exact tB _
theorem xu(x:Str):x.cps.toList.length=x.length:=by simp[Str.length]
theorem vh{x y:List Nat}{p:Nat}(hp:p<=x.length)(h:nx x p y=true):p+y.length<=x.length:=by
 have h1:=(yK.mp h).length_le;rw[yG]at h1;lia
theorem Uw{x y:Str}{p:Nat}(hp:p<=x.length):Txt.startswith3 x y (p:Int)=nx x.cps.toList p y.cps.toList:=by
 have e:fromIndex x.length (p:Int)=p:=by unfold fromIndex;rw[zK (by lia)];lia
 unfold Txt.startswith3;rw[e,StrLaws.subAt_eq,uX,yN];unfold nx;have hx:=xu x;have hy:=xu y;constructor
 ·rintro⟨h1,h2⟩;have sQ:=eq_of_beq h2;rw[yK,<-sQ,<-hy];exact List.take_prefix _ _
 ·intro h;have pV:=yK.mp h;have h1:=pV.length_le;rw[yG]at h1;refine⟨zO (by lia),wI.mpr ?_⟩;rw[<-hy];exact(List.prefix_iff_eq_take.mp pV).symm
theorem i9{x:Str}{i j k:Int}:t9 (Str.ofString "place") (.int k) (rdI x i j)=rdI x k j:=rfl
theorem Zv{x:Str}{i j k:Int}:t9 (Str.ofString "pieces") (.int k) (rdI x i j)=rdI x i k:=rfl
structure RdC(K:W.Frag)(C:Addr):Prop where
 cl:Cls K C
 t:NoAttr K C "text"
 p:NoAttr K C "place"
 n:NoAttr K C "pieces"
def gm(C:Addr):Sp:=λvs H Q _=>∃(o dx:Addr)(x y:Str)(p n:Nat),vs=[.ref o,.str y]/\H o=some (.ins C dx (rdF x p n))/\p<=x.length/\Q (.bl (nx x.cps.toList p y.cps.toList)) H
theorem sc_next:zr ["self","signs"] ["self","signs"] (z4 (za (top 34) 1)):=⟨rfl,rfl,rfl,by decide +kernel,rfl,by decide +kernel,by decide +kernel⟩
theorem Wk{C:Addr}(D:DefM K C "is_next" "Reading.is_next" (za (top 34) 1) ["self","signs"])(rc:RdC K C):r9 P w K mg base 1 C "is_next" ["self","signs"] (gm C):=by
 refine D.callee sc_next (λvs H Q E h=>?_) λf cdv A outer s H vs Q E hr h=>?_
 ·obtain⟨o,dx,x,y,p,n,rfl,_⟩:=h
  rfl
 have nd:=sc_next.nd;obtain⟨o,dx,x,y,p,n,rfl,ho,hp,q⟩:=h;refine⟨[some (.ref o),some (.str y)],_,rfl,(z0 (zt (We (wt (z8 0) rfl) (z9 (z8 1) (z9 (wt (z8 0) rfl) z6))))),?_⟩;walk_at"rp";refine⟨o,C,dx,_,_,rfl,ho,rc.cl,rc.t,rfl,?_⟩;walk_at"rp";refine⟨o,C,dx,_,_,rfl,ho,rc.cl,rc.p,rfl,?_⟩;walk_at"rp";refine⟨y,_,rfl,?_⟩;rw[Uw hp];exact q
def Hj(y:Str):Prop:=y.length<=100/\∀c∈y.cps.toList,c<16 ^ 8
def gr(C Cn:Addr):Sp:=λvs H Q E=>∃(o dx:Addr)(x y:Str)(p n:Nat),vs=[.ref o,.str y]/\H o=some (.ins C dx (rdF x p n))/\p<=x.length/\Hj y/\(nx x.cps.toList p y.cps.toList=true->∀H',SameA o H H'->H' o=some (.ins C dx (rdF x (p+y.length) n))->Q .non H')/\(nx x.cps.toList p y.cps.toList=false->NoE Cn o H E)
theorem sc_skip:zr ["self","signs"] ["self","signs"] (z4 (za (top 34) 2)):=⟨rfl,rfl,rfl,by decide +kernel,rfl,by decide +kernel,by decide +kernel⟩
theorem S0:(Str.ofString " is missing").length=11:=by decide +kernel
theorem Zg:(Str.ofString " is no name").length=11:=by decide +kernel
theorem Q8(x y:Str):(x++y).length=x.length+y.length:=by
 show(x.cps++y.cps).size=_;exact tQ
theorem P7{C Cn:Addr}(D:DefM K C "skip" "Reading.skip" (za (top 34) 2) ["self","signs"])(rc:RdC K C)(aL:r9 P w K mg base 1 C "is_next" ["self","signs"] (gm C))(aC:vt K Cn)(aF:mg "NoText"=some (.ref Cn))(aD:mg "len"=none):ye P w K mg base 2 C "skip" ["self","signs"] (gr C Cn):=by
 refine D.calleeX sc_skip (λvs H Q E h=>?_) λf cdv A outer s H vs Q E hr h=>?_
 ·obtain⟨o,dx,x,y,p,n,rfl,_⟩:=h
  rfl
 have nd:=sc_skip.nd;obtain⟨o,dx,x,y,p,n,rfl,ho,hp,hy,qy,qn⟩:=h;refine⟨[some (.ref o),some (.str y)],_,rfl,(z5 (zd (t8 (wn (lg aL hr (by lia) (z8 0) (z9 (z8 1) z6)))) (z0 (yi (xf aC aF (z9 (ph (yr (i8 (z8 1)) (yr zx pi))) z6)) w6 rfl)) zm)
  (z0 (pj (z8 0) (zn zf (wt (z8 0) rfl) (zq xz rfl aD yt (z9 (z8 1) z6))) rfl))),?_⟩
 walk_at"rp";refine⟨o,dx,_,rfl,ho,rfl,?_⟩;walk_at"rp";refine⟨o,dx,x,y,p,n,rfl,ho,hp,?_⟩;cases hb:nx x.cps.toList p y.cps.toList with
 |false =>
  walk_at"rp";have B':=StrLaws.reprText_len y hy.2;have h1:=hy.1;refine⟨by rw[zM];lia,?_⟩;walk_at"rp";have hm:=S0;refine⟨by rw[se,zM];lia,by rw[Q8,se,zM];lia,by rw[Q8,se,zM];lia,zc (by simp),Zx aC (qn hb) (SameA.refl _ _)⟩
 |true =>
  walk_at"rp";refine⟨o,C,dx,_,_,rfl,ho,rc.cl,rc.p,rfl,?_⟩;walk_at"rp";refine⟨by rw[zM];have:=hy.1;lia,o,C,dx,_,rfl,ho,rc.cl,rc.p,(show(3:Nat)<1000 by decide),?_⟩;rw[i9,<-Int.natCast_add];exact qy hb _ (SameA.upd _ _ _) zy
theorem Lc{x:List Nat}{p i:Nat}(h:i<(yd x p).length):∃c,x[p+i]?=some c/\xt c=true:=by
 have h1:=uR (l:=x.drop p) xt;obtain⟨t,ht⟩:=h1;have e:(x.drop p)[i]?=some (yd x p)[i]:=by
  rw[<-ht];show((yd x p)++t)[i]?=_;rw[wX h,yE h]
 rw[vA]at e;exact⟨_,e,(xC.mp (List.all_takeWhile (p:=xt) (l:=x.drop p))) _ (vY h)⟩
theorem N6{x:List Nat}{p c:Nat}(h:x[p+(yd x p).length]?=some c):xt c=false:=by
 unfold yd at h;rw[<-vA]at h;generalize x.drop p=s at h
 induction s with
 |nil=>simp at h
 |cons a s ih =>
  rw[List.takeWhile_cons]at h;cases ha:xt a with
  |true =>
   rw[ha,zH rfl,yJ,List.getElem?_cons_succ]at h;exact ih h
  |false =>
   rw[ha,zK (by decide),wO,List.getElem?_cons_zero]at h;cases h;exact ha
theorem S4{x:List Nat}{p:Nat}(hp:p<=x.length):p+(yd x p).length<=x.length:=by
 have:=(uR (l:=x.drop p) xt).length_le;rw[yG]at this;unfold yd;lia
theorem S5{x:Str}{p:Nat}(hp:p<=x.length):Txt.slice x (some (p:Int)) (some ((p+(yd x.cps.toList p).length:Nat):Int))=⟨(yd x.cps.toList p).toArray⟩:=by
 have h1:=S4 (x:=x.cps.toList) (by rw[xu];exact hp);rw[xu]at h1;rw[wI.mp (slice_closesL (by lia) (by lia) (by lia))]
 congr 2
 rw[xV,show(((p+(yd x.cps.toList p).length:Nat):Int)-(p:Int)).toNat=(yd x.cps.toList p).length by lia];exact(List.prefix_iff_eq_take.mp (uR (l:=x.cps.toList.drop p) xt)).symm
theorem str_nil{n:List Nat}:((⟨n.toArray⟩:Str)=Str.ofString "")↔n=[]:=by
 constructor
 ·intro h;have h2:=xT (λz:Str=>z.cps.toList) h;have h3:(Str.ofString "").cps.toList=[]:=by decide +kernel
  rw[h3]at h2;simpa using h2
 ·intro h;subst h
  decide +kernel
theorem Qw{t u:TS}{D:ue}{σ:L2.St}{H:Hp}(C:L2.St->Hp->Prop)(h1:∀N:L2.St->Hp->Prop,(∀σ' H',C σ' H'->N σ' H')->t { D with nx:=N } σ H)(h2:∀σ' H',C σ' H'->u D σ' H'):dq t u D σ H:=h1 (u D) h2
def Yk(C Cn:Addr):Sp:=λvs H Q E=>∃(o dx:Addr)(x:Str)(p n:Nat),vs=[.ref o]/\H o=some (.ins C dx (rdF x p n))/\p<=x.length/\tj x/\(t7 (yd x.cps.toList p)=true->∀H',SameA o H H'->H' o=some (.ins C dx (rdF x (p+(yd x.cps.toList p).length) n))->Q (.str ⟨(yd x.cps.toList p).toArray⟩) H')/\(t7 (yd x.cps.toList p)=false->NoE Cn o H E)
theorem sc_tname:zr ["self","start","name"] ["self"] (z4 (za (top 34) 3)):=⟨rfl,rfl,rfl,by decide +kernel,rfl,by decide +kernel,by decide +kernel⟩
theorem Tk{C Cn Wa:Addr}{t1 t2:Tok}(D:DefM K C "take_name" "Reading.take_name" (za (top 34) 3) ["self"])(rc:RdC K C)(aC:vt K Cn)(aF:mg "NoText"=some (.ref Cn))(bQ:mg "SMALL_LETTERS"=some (.str "abcdefghijklmnopqrstuvwxyz" t1))(bY:mg "LONGEST_NAME"=some (.int 6 t2))(mW:mg "WORDS"=some (.ref Wa))(hW:∀H,SqT K H Wa (wordsL.map V.str))(aD:mg "len"=none):ye P w K mg base 1 C "take_name" ["self"] (Yk C Cn):=by
 refine D.calleeX sc_tname (λvs H Q E h=>?_) λf cdv A outer s H vs Q E hr h=>?_
 ·obtain⟨o,dx,x,p,n,rfl,_⟩:=h
  rfl
 have nd:=sc_tname.nd;obtain⟨o,dx,x,p,n,rfl,ho,hp,hx,qy,qn⟩:=h;have hxl:=hx.len;have oR:=xu x;have hnl:=S4 (x:=x.cps.toList) (p:=p) (by lia);refine⟨[some (.ref o),none,none],_,rfl,(z5 (zg 1 nd (wt (z8 0) rfl))
  (z5 (PS.nox (Pw yI (PW.pt (T8 (zh Wc (wt (z8 0) rfl) (zq xz rfl aD yt (z9 (wt (z8 0) rfl) z6)) (zk _)) (X8 (zh Jb (yj (wt (z8 0) rfl) (wt (z8 0) rfl) (λ_ _=>rfl)) (Pq bQ) (by with_unfolding_all rfl))))) (z0 (pj (z8 0) (zn zf (wt (z8 0) rfl) zz) rfl))))
  (z5 (zg 2 nd (xw (wt (z8 0) rfl) (xk (z8 1)) (xk (wt (z8 0) rfl))))
  (z5 (zd (PW.pt (r8 (zh (ya hr.units) (z8 2) zx (zk _)) (r8 (zh bw (zq xz rfl aD yt (z9 (z8 2) z6)) (sk bY) (zk _)) (ur (zh Pr (z8 2) (tw mW) (by with_unfolding_all rfl)))))) (z0 (yi (xf aC aF (z9 (ph (yr (i8 (z8 2)) (yr zx pi))) z6)) w6 rfl)) zm)
  (z0 (zt (z8 2))))))),?_⟩
 walk_at"rp";refine⟨o,C,dx,_,_,rfl,ho,rc.cl,rc.p,rfl,?_⟩;refine Qw (C:=fun σ' H'=>σ'=[some (.ref o),some (.int (p:Int)),none]/\SameA o H H'/\H' o=some (.ins C dx (rdF x (p+(yd x.cps.toList p).length) n))) (λN hN=>?_) ?_
 ·walk_at"rp";refine⟨λm σ H'=>∃i,i+m=(yd x.cps.toList p).length/\σ=[some (.ref o),some (.int (p:Int)),none]/\SameA o H H'/\H' o=some (.ins C dx (rdF x (p+i) n)),⟨_,0,tB _,rfl,SameA.refl _ _,ho⟩,?_⟩;rintro m σ H1 ⟨i,him,rfl,s1,h1⟩;walk_at"rp";refine⟨o,C,dx,_,_,rfl,h1,rc.cl,rc.p,rfl,?_⟩;walk_at"rp";refine⟨o,C,dx,_,_,rfl,h1,rc.cl,rc.t,rfl,?_⟩;walk_at"rp";refine⟨by rw[zM];lia,?_⟩;refine w9 (λc=>?_) λc=>?_
  ·have bE:=yZ c;refine⟨o,C,dx,_,_,rfl,h1,rc.cl,rc.t,rfl,o,C,dx,_,_,rfl,h1,rc.cl,rc.p,rfl,?_⟩;walk_at"rp";obtain⟨ch,qI⟩:∃ch,x.cps.toList[p+i]?=some ch:=⟨_,yE (by lia)⟩
   refine⟨by rw[zM];lia,ch,mw qI,_,_,rfl,rfl,?_⟩;have FR:Txt.contains (Str.ofString "abcdefghijklmnopqrstuvwxyz") (⟨#[ch]⟩:Str)=xt ch:=StrLaws.found_one _ _;rw[FR]
   by_cases hi:i<(yd x.cps.toList p).length
   ·obtain⟨ch',h2,h3⟩:=Lc hi;rw[qI]at h2;cases h2;rw[h3];walk_at"rp";refine⟨fun σ' H'=>σ'=[some (.ref o),some (.int (p:Int)),none]/\SameA o H H'/\H' o=some (.ins C dx (rdF x (p+(i+1)) n)),fun σ' H' ⟨e1,e2,e3⟩=>⟨m-1,by lia,i+1,by lia,e1,e2,e3⟩,?_⟩;walk_at"rp";refine⟨o,C,dx,_,_,rfl,h1,rc.cl,rc.p,rfl,o,C,dx,_,rfl,h1,rc.cl,rc.p,(show(3:Nat)<1000 by decide),by trivial,s1.trans (SameA.upd _ _ _),?_⟩;rw[zy,i9]
    rfl
   ·have e:i=(yd x.cps.toList p).length:=by lia
    subst e;rw[N6 qI];walk_at"rp";exact hN _ _ ⟨rfl,s1,h1⟩
  ·have AS:¬((p+i:Nat):Int)<(x.length:Int):=λz=>c (zO z);have e:i=(yd x.cps.toList p).length:=by lia
   subst e;exact hN _ _ ⟨rfl,s1,h1⟩
 ·rintro σ' H1 ⟨rfl,s1,h1⟩;walk_at"rp";refine⟨o,C,dx,_,_,rfl,h1,rc.cl,rc.t,rfl,?_⟩;walk_at"rp";refine⟨o,C,dx,_,_,rfl,h1,rc.cl,rc.p,rfl,?_⟩;walk_at"rp";refine⟨by rw[zM];lia,?_⟩;rw[S5 hp];have hnn:(⟨(yd x.cps.toList p).toArray⟩:Str).length=(yd x.cps.toList p).length:=by simp[Str.length]
  have hncp:∀c∈(⟨(yd x.cps.toList p).toArray⟩:Str).cps.toList,c<16 ^ 8:=λc hc=>hx.cps c (by
   have h2:c∈yd x.cps.toList p:=by simpa using hc
   exact vP ((uR (l:=x.cps.toList.drop p) xt).subset h2))
  have B':=StrLaws.reprText_len _ hncp;rw[hnn]at B';have hm:=Zg;have kL:t7 (yd x.cps.toList p)=false->_:=λno=>Zx aC (qn no) s1;have sz:∀z:Str,z.length<=2000000->(Str.empty++z).length<=sizeLine/\(Str.empty++z++Str.ofString " is no name").length<=sizeLine/\(Str.empty++z++Str.ofString " is no name").length<=sizeLine/\[V.str (Str.empty++z++Str.ofString " is no name")].length<=sizeLine:=λz hz=>⟨by rw[se,zM];lia,by rw[Q8,se,zM];lia,by rw[Q8,se,zM];lia,zc (by simp)⟩
  have R:t7 (yd x.cps.toList p)=false->((reprText ⟨(yd x.cps.toList p).toArray⟩).length<=sizeLine/\_/\_/\_/\_/\_):=λno=>by
   have z:=sz (reprText ⟨(yd x.cps.toList p).toArray⟩) (by lia);exact⟨by rw[zM];lia,z.1,z.2.1,z.2.2.1,z.2.2.2,kL no⟩
  walk_at"rp";refine w9 (λc=>R ?_) λc=>⟨by rw[hnn,zM];lia,w9 (λc2=>R ?_) λc2=>⟨_,.inr (hW _),rfl,rfl,?_⟩⟩
  ·have e:=str_nil.mp (yZ c);unfold t7;rw[e]
   rfl
  ·have e:=yZ c2;rw[hnn]at e;unfold t7;rw[zO (show 6<(yd x.cps.toList p).length by lia)];simp
  ·have e1:¬yd x.cps.toList p=[]:=λz=>c (zO (str_nil.mpr z));have e2:¬6<(yd x.cps.toList p).length:=λz=>c2 (zO (by rw[hnn];lia));rw[m4];have e3:(wordsL.any λy=>y==(⟨(yd x.cps.toList p).toArray⟩:Str))=decide ((⟨(yd x.cps.toList p).toArray⟩:Str)∈wordsL):=by
    rw[uX,wT,decide_eq_true_iff];exact⟨λ⟨y,hy,e⟩=>by rw[<-wI.mp e];exact hy,λh=>⟨_,h,wI.mpr rfl⟩⟩
   rw[e3];have hok:t7 (yd x.cps.toList p)=!decide ((⟨(yd x.cps.toList p).toArray⟩:Str)∈wordsL):=by
    unfold t7;rw[zA e1,zA e2]
    rfl
   cases hw:decide ((⟨(yd x.cps.toList p).toArray⟩:Str)∈wordsL)with
   |true =>
    walk_at"rp";exact R (by rw[hok,hw];rfl)
   |false =>
    walk_at"rp";exact qy (by rw[hok,hw];rfl) H1 s1 h1
theorem su{x:List Nat}{o:Op2}{t1 t:Say}{q:PR}{r p:Nat}(h:qd x o t1 q=some (t,r,p)):∃t2 p2,q=some (t2,r,p2)/\nx x p2 (lit ")")=true/\t = .bin o t1 t2/\p=p2+1:=by
 unfold qd at h;split at h
 ·rename_i t2 r2 p2;split at h
  ·rename_i hn;cases h;exact⟨_,_,rfl,hn,rfl,rfl⟩
  ·cases h
 ·cases h
theorem wq{x:List Nat}:∀{f r p:Nat}{t:Say}{r' p':Nat},yp x f r p=some (t,r',p')->p<=x.length->r'<r/\p'<=x.length
 |0,r,p,t,r',p',h,_=>by simp[yp]at h
 |f+1,0,p,t,r',p',h,_=>by simp[yp]at h
 |f+1,r+1,p,t,r',p',h,hp=>by
  rw[yp]at h;split at h
  ·rename_i hn;have h4:=vh hp hn;unfold Tv at h;split at h
   ·rename_i t1 r1 p1 e;cases h;have:=wq e (show p+4<=x.length from h4);lia
   ·cases h
  ·split at h
   ·rename_i hn;have h4:=vh hp hn;unfold pIf at h;split at h
    ·rename_i t1 r1 p1 e;have i1:=wq e (show p+4<=x.length from h4);split at h
     ·rename_i BR;have h6:=vh i1.2 BR;obtain⟨t2,p2,e2,CO,rfl,rfl⟩:=su h;have i2:=wq e2 (show p1+6<=x.length from h6);have h1:=vh i2.2 CO;exact⟨by lia,h1⟩
     ·cases h
    ·cases h
   ·split at h
    ·rename_i hn;have h4:=vh hp hn;unfold rz at h;split at h
     ·rename_i t1 r1 p1 e;have i1:=wq e (show p+1<=x.length from h4);split at h
      ·rename_i BR;have h6:=vh i1.2 BR;obtain⟨t2,p2,e2,CO,rfl,rfl⟩:=su h;have i2:=wq e2 (show p1+5<=x.length from h6);have h1:=vh i2.2 CO;exact⟨by lia,h1⟩
      ·split at h
       ·rename_i BR;have h6:=vh i1.2 BR;obtain⟨t2,p2,e2,CO,rfl,rfl⟩:=su h;have i2:=wq e2 (show p1+4<=x.length from h6);have h1:=vh i2.2 CO;exact⟨by lia,h1⟩
       ·cases h
     ·cases h
    ·unfold cs at h;split at h
     ·cases h;exact⟨by lia,S4 hp⟩
     ·cases h
def RES(K:W.Frag)(C Cn o dx:Addr)(x:Str)(H:Hp)(Q:VK)(E:XK):PR->Prop
 |none=>NoE Cn o H E
 |some (t,r,p)=>∀(v:V)(H':Hp),SameA o H H'->H' o=some (.ins C dx (rdF x p (40-r)))->SayAt K H' v t->Q v H'
def N3(K:W.Frag)(C Cn:Addr)(f:Nat)(ok:List Nat->Nat->Prop)(g:List Nat->Nat->Nat->PR):Sp:=λvs H Q E=>∃(o dx:Addr)(x:Str)(p n:Nat),vs=[.ref o]/\H o=some (.ins C dx (rdF x p n))/\p<=x.length/\tj x/\n<=40/\41-n<=f/\ok x.cps.toList p/\RES K C Cn o dx x H Q E (g x.cps.toList (40-n) p)
def Q5(K:W.Frag)(C Cn:Addr)(f:Nat):Sp:=N3 K C Cn f (λ_ _=>True) (λx=>yp x f)
def Gz(K:W.Frag)(C Cn:Addr)(f:Nat):Sp:=N3 K C Cn f (λx p=>nx x p (lit "(if ")=true) (λx=>pIf x (yp x f))
def G0(K:W.Frag)(C Cn:Addr)(f:Nat):Sp:=N3 K C Cn f (λx p=>nx x p (lit "(")=true) (λx=>rz x (yp x f))
theorem RES.mono{C Cn o dx:Addr}{x:Str}{H H1:Hp}{Q:VK}{E:XK}(s:SameA o H H1):∀{q:PR},RES K C Cn o dx x H Q E q->RES K C Cn o dx x H1 Q E q
 |none,h=>NoE.mono s h
 |some (t,r,p),h=>λv H' s' h' hv=>h v H' (s.trans s') h' hv
theorem wu{s:String}(h:(Str.ofString s).length<=100/\((Str.ofString s).cps.toList.all λc=>decide (c<16 ^ 8))=true):Hj (Str.ofString s):=⟨h.1,λc hc=>yZ (xC.mp h.2 c hc)⟩
theorem SayAt.monoA{o C dx:Addr}{fs:List (Str×V)}{H H':Hp}{v:V}{t:Say}(s:SameA o H H')(h:H o=some (.ins C dx fs))(hv:SayAt K H v t):SayAt K H' v t:=hv.mono (s.tups h)
theorem sc_tif:zr ["self","one","other"] ["self"] (z4 (za (top 34) 4)):=⟨rfl,rfl,rfl,by decide +kernel,rfl,by decide +kernel,by decide +kernel⟩
theorem sc_tpair:zr ["self","one","kind","other"] ["self"] (z4 (za (top 34) 5)):=⟨rfl,rfl,rfl,by decide +kernel,rfl,by decide +kernel,by decide +kernel⟩
theorem sc_tsay:zr ["self"] ["self"] (z4 (za (top 34) 6)):=⟨rfl,rfl,rfl,by decide +kernel,rfl,by decide +kernel,by decide +kernel⟩
theorem Mn{C Cn:Addr}{f:Nat}(D:DefM K C "take_if" "Reading.take_if" (za (top 34) 4) ["self"])(aK:ye P w K mg base 2 C "skip" ["self","signs"] (gr C Cn))(aE:ye P w K mg base (2*f+3) C "take_saying" ["self"] (Q5 K C Cn f)):ye P w K mg base (2*f+4) C "take_if" ["self"] (Gz K C Cn f):=by
 refine D.calleeX sc_tif (λvs H Q E h=>?_) λff cdv A outer s H vs Q E hr h=>?_
 ·obtain⟨o,dx,x,p,n,rfl,_⟩:=h
  rfl
 have nd:=sc_tif.nd;obtain⟨o,dx,x,p,n,rfl,ho,hp,hx,hn,hf,hok,res⟩:=h;have oR:=xu x;have h4:p+4<=x.length:=by have:=vh (by lia) hok;rw[oR]at this;exact this
 refine⟨[some (.ref o),none,none],_,rfl,(z5 (yw (ul aK yq hr (by lia) (z8 0) (z9 zx z6)))
  (z5 (zg 1 nd (wl aE yq hr (by lia) (z8 0)))
  (z5 (yw (ul aK yq hr (by lia) (z8 0) (z9 zx z6)))
  (z5 (zg 2 nd (wl aE yq hr (by lia) (z8 0)))
  (z5 (yw (ul aK yq hr (by lia) (z8 0) (z9 zx z6)))
  (z0 (zt (u9 (z9 zx (z9 (z8 1) (z9 (z8 2) z6))))))))))),?_⟩
 walk_at"rp";refine⟨o,dx,_,rfl,ho,rfl,o,dx,x,_,p,n,rfl,ho,hp,wu (by decide +kernel),λ_ H1 s1 h1=>?_,λno=>?_⟩
 ·walk_at"rp";refine⟨o,dx,_,rfl,h1,rfl,o,dx,x,p+4,n,rfl,h1,h4,hx,hn,hf,trivial,?_⟩;replace res:RES K C Cn o dx x H Q E (pIf x.cps.toList (yp x.cps.toList f) (40-n) p):=res;unfold pIf at res;show RES K C Cn o dx x H1 _ E (yp x.cps.toList f (40-n) (p+4));cases e:yp x.cps.toList f (40-n) (p+4)with
  |none =>
   rw[e]at res;exact NoE.mono s1 res
  |some z =>
   obtain⟨t1,r1,p1⟩:=z;rw[e]at res;dsimp only at res;have i1:=wq e (by lia);rw[oR]at i1;intro v1 H2 s2 h2 Ax;walk_at"rp";have qV:=s1.trans s2;refine⟨o,dx,_,rfl,h2,rfl,o,dx,x,_,p1,_,rfl,h2,i1.2,wu (by decide +kernel),λBa H3 s3 h3=>?_,λno=>?_⟩
   ·rw[zH (show nx x.cps.toList p1 (lit " then ")=true from Ba)]at res;have h6:p1+6<=x.length:=by have:=vh (by rw[oR];exact i1.2) Ba;rw[oR]at this;exact this
    walk_at"rp";refine⟨o,dx,_,rfl,h3,rfl,o,dx,x,p1+6,40-r1,rfl,h3,h6,hx,by lia,by lia,trivial,?_⟩;show RES K C Cn o dx x H3 _ E (yp x.cps.toList f (40-(40-r1)) (p1+6));rw[show 40-(40-r1)=r1 by lia];unfold qd at res;cases e2:yp x.cps.toList f r1 (p1+6)with
    |none =>
     rw[e2]at res;exact NoE.mono (qV.trans s3) res
    |some z2 =>
     obtain⟨t2,r2,p2⟩:=z2;rw[e2]at res;dsimp only at res;have i2:=wq e2 (by lia);rw[oR]at i2;intro v2 H4 s4 B6 BY;walk_at"rp";have AQ:=qV.trans (s3.trans s4);refine⟨o,dx,_,rfl,B6,rfl,o,dx,x,_,p2,_,rfl,B6,i2.2,wu (by decide +kernel),λAZ H5 s5 h5=>?_,λno=>?_⟩
     ·rw[show lit ")"=(Str.ofString ")").cps.toList from rfl]at res;rw[zH AZ]at res;walk_at"rp";refine⟨zc (by simp),λp6 H6 n6 s6 e6=>?_⟩;have Au:=SameA.of (o:=o) s6;refine res _ H6 (AQ.trans (s5.trans Au)) ((s6 _ _ h5).trans (by rfl)) ⟨p6,v1,v2,rfl,SqT.of e6,SayAt.monoA (s3.trans (s4.trans (s5.trans Au))) h2 Ax,SayAt.monoA (s5.trans Au) B6 BY⟩
     ·rw[show lit ")"=(Str.ofString ")").cps.toList from rfl,no,zK (by decide)]at res;exact NoE.mono AQ res
   ·rw[show lit " then "=(Str.ofString " then ").cps.toList from rfl]at res;rw[no,zK (by decide)]at res;exact NoE.mono qV res
 ·rw[show nx x.cps.toList p (Str.ofString "(if ").cps.toList=true from hok]at no;cases no
theorem Rn:Str.empty++Str.ofString " "++Str.ofString "and"++Str.ofString " "=Str.ofString " and ":=by decide +kernel
theorem Qg:Str.empty++Str.ofString " "++Str.ofString "or"++Str.ofString " "=Str.ofString " or ":=by decide +kernel
theorem Tl{C Cn:Addr}{f:Nat}(D:DefM K C "take_pair" "Reading.take_pair" (za (top 34) 5) ["self"])(aL:r9 P w K mg base 1 C "is_next" ["self","signs"] (gm C))(aK:ye P w K mg base 2 C "skip" ["self","signs"] (gr C Cn))(aE:ye P w K mg base (2*f+3) C "take_saying" ["self"] (Q5 K C Cn f)):ye P w K mg base (2*f+4) C "take_pair" ["self"] (G0 K C Cn f):=by
 refine D.calleeX sc_tpair (λvs H Q E h=>?_) λff cdv A outer s H vs Q E hr h=>?_
 ·obtain⟨o,dx,x,p,n,rfl,_⟩:=h
  rfl
 have nd:=sc_tpair.nd;obtain⟨o,dx,x,p,n,rfl,ho,hp,hx,hn,hf,hok,res⟩:=h;have oR:=xu x;have h4:p+1<=x.length:=by have:=vh (by lia) hok;rw[oR]at this;exact this
 refine⟨[some (.ref o),none,none,none],_,rfl,(z5 (yw (ul aK yq hr (by lia) (z8 0) (z9 zx z6)))
  (z5 (zg 1 nd (wl aE yq hr (by lia) (z8 0)))
  (z5 (zg 2 nd (cu (wn (lg aL hr (by lia) (z8 0) (z9 zx z6))) zx zx))
  (z5 (yw (ul aK yq hr (by lia) (z8 0) (z9 (ph (yr zx (yr (vm (z8 2)) (yr zx pi)))) z6)))
  (z5 (zg 3 nd (wl aE yq hr (by lia) (z8 0)))
  (z5 (yw (ul aK yq hr (by lia) (z8 0) (z9 zx z6)))
  (z0 (zt (u9 (z9 (z8 2) (z9 (z8 1) (z9 (z8 3) z6)))))))))))),?_⟩
 walk_at"rp";refine⟨o,dx,_,rfl,ho,rfl,o,dx,x,_,p,n,rfl,ho,hp,wu (by decide +kernel),λ_ H1 s1 h1=>?_,λno=>?_⟩
 ·walk_at"rp";refine⟨o,dx,_,rfl,h1,rfl,o,dx,x,p+1,n,rfl,h1,h4,hx,hn,hf,trivial,?_⟩;replace res:RES K C Cn o dx x H Q E (rz x.cps.toList (yp x.cps.toList f) (40-n) p):=res;unfold rz at res;show RES K C Cn o dx x H1 _ E (yp x.cps.toList f (40-n) (p+1));cases e:yp x.cps.toList f (40-n) (p+1)with
  |none =>
   rw[e]at res;exact NoE.mono s1 res
  |some z =>
   obtain⟨t1,r1,p1⟩:=z;rw[e]at res;dsimp only at res;have i1:=wq e (by lia);rw[oR]at i1;intro v1 H2 s2 h2 Ax;walk_at"rp";have qV:=s1.trans s2;refine⟨o,dx,_,rfl,h2,rfl,o,dx,x,_,p1,_,rfl,h2,i1.2,?_⟩;cases hand:nx x.cps.toList p1 (Str.ofString " and ").cps.toList with
   |true =>
    rw[show lit " and "=(Str.ofString " and ").cps.toList from rfl,hand,zH rfl]at res;walk_at"rp";refine⟨o,dx,_,rfl,h2,rfl,zc (by decide +kernel),zc (by decide +kernel),zc (by decide +kernel),zc (by decide +kernel),zc (by decide +kernel),?_⟩;rw[Rn];refine⟨o,dx,x,_,p1,_,rfl,h2,i1.2,wu (by decide +kernel),λBa H3 s3 h3=>?_,λno=>?_⟩
    ·skip
     have h6:p1+5<=x.length:=by have:=vh (by rw[oR];exact i1.2) Ba;rw[oR]at this;exact this
     walk_at"rp";refine⟨o,dx,_,rfl,h3,rfl,o,dx,x,p1+5,40-r1,rfl,h3,h6,hx,by lia,by lia,trivial,?_⟩;show RES K C Cn o dx x H3 _ E (yp x.cps.toList f (40-(40-r1)) (p1+5));rw[show 40-(40-r1)=r1 by lia];unfold qd at res;cases e2:yp x.cps.toList f r1 (p1+5)with
     |none =>
      rw[e2]at res;exact NoE.mono (qV.trans s3) res
     |some z2 =>
      obtain⟨t2,r2,p2⟩:=z2;rw[e2]at res;dsimp only at res;have i2:=wq e2 (by lia);rw[oR]at i2;intro v2 H4 s4 B6 BY;walk_at"rp";have AQ:=qV.trans (s3.trans s4);refine⟨o,dx,_,rfl,B6,rfl,o,dx,x,_,p2,_,rfl,B6,i2.2,wu (by decide +kernel),λAZ H5 s5 h5=>?_,λno=>?_⟩
      ·rw[show lit ")"=(Str.ofString ")").cps.toList from rfl,zH AZ]at res;walk_at"rp";refine⟨zc (by simp),λp6 H6 n6 s6 e6=>?_⟩;have Au:=SameA.of (o:=o) s6;refine res _ H6 (AQ.trans (s5.trans Au)) ((s6 _ _ h5).trans (by rfl)) ⟨p6,v1,v2,rfl,SqT.of e6,SayAt.monoA (s3.trans (s4.trans (s5.trans Au))) h2 Ax,SayAt.monoA (s5.trans Au) B6 BY⟩
      ·rw[show lit ")"=(Str.ofString ")").cps.toList from rfl,no,zK (by decide)]at res;exact NoE.mono AQ res
    ·(rw[hand]at no;cases no)
   |false =>
    rw[show lit " and "=(Str.ofString " and ").cps.toList from rfl,hand,zK (by decide),show lit " or "=(Str.ofString " or ").cps.toList from rfl]at res;walk_at"rp";refine⟨o,dx,_,rfl,h2,rfl,zc (by decide +kernel),zc (by decide +kernel),zc (by decide +kernel),zc (by decide +kernel),zc (by decide +kernel),?_⟩;rw[Qg];refine⟨o,dx,x,_,p1,_,rfl,h2,i1.2,wu (by decide +kernel),λBa H3 s3 h3=>?_,λno=>?_⟩
    ·rw[zH Ba]at res;have h6:p1+4<=x.length:=by have:=vh (by rw[oR];exact i1.2) Ba;rw[oR]at this;exact this
     walk_at"rp";refine⟨o,dx,_,rfl,h3,rfl,o,dx,x,p1+4,40-r1,rfl,h3,h6,hx,by lia,by lia,trivial,?_⟩;show RES K C Cn o dx x H3 _ E (yp x.cps.toList f (40-(40-r1)) (p1+4));rw[show 40-(40-r1)=r1 by lia];unfold qd at res;cases e2:yp x.cps.toList f r1 (p1+4)with
     |none =>
      rw[e2]at res;exact NoE.mono (qV.trans s3) res
     |some z2 =>
      obtain⟨t2,r2,p2⟩:=z2;rw[e2]at res;dsimp only at res;have i2:=wq e2 (by lia);rw[oR]at i2;intro v2 H4 s4 B6 BY;walk_at"rp";have AQ:=qV.trans (s3.trans s4);refine⟨o,dx,_,rfl,B6,rfl,o,dx,x,_,p2,_,rfl,B6,i2.2,wu (by decide +kernel),λAZ H5 s5 h5=>?_,λno=>?_⟩
      ·rw[show lit ")"=(Str.ofString ")").cps.toList from rfl,zH AZ]at res;walk_at"rp";refine⟨zc (by simp),λp6 H6 n6 s6 e6=>?_⟩;have Au:=SameA.of (o:=o) s6;refine res _ H6 (AQ.trans (s5.trans Au)) ((s6 _ _ h5).trans (by rfl)) ⟨p6,v1,v2,rfl,SqT.of e6,SayAt.monoA (s3.trans (s4.trans (s5.trans Au))) h2 Ax,SayAt.monoA (s5.trans Au) B6 BY⟩
      ·rw[show lit ")"=(Str.ofString ")").cps.toList from rfl,no,zK (by decide)]at res;exact NoE.mono AQ res
    ·(rw[no,zK (by decide)]at res;exact NoE.mono qV res)
 ·rw[show nx x.cps.toList p (Str.ofString "(").cps.toList=true from hok]at no;cases no
theorem X0{C Cn:Addr}{t3:Tok}(DI:DefM K C "take_if" "Reading.take_if" (za (top 34) 4) ["self"])(DP:DefM K C "take_pair" "Reading.take_pair" (za (top 34) 5) ["self"])(D:DefM K C "take_saying" "Reading.take_saying" (za (top 34) 6) ["self"])(rc:RdC K C)(aL:r9 P w K mg base 1 C "is_next" ["self","signs"] (gm C))(aK:ye P w K mg base 2 C "skip" ["self","signs"] (gr C Cn))(cL:ye P w K mg base 1 C "take_name" ["self"] (Yk C Cn))(aC:vt K Cn)(aF:mg "NoText"=some (.ref Cn))(aS:mg "MOST_PIECES"=some (.int 40 t3)):∀f:Nat,ye P w K mg base (2*f+3) C "take_saying" ["self"] (Q5 K C Cn f)
 |0=>D.calleeX sc_tsay (λvs H Q E h=>by
   obtain⟨o,dx,x,p,n,rfl,_⟩:=h
   rfl) λff cdv A outer s H vs Q E hr h=>by
   obtain⟨o,dx,x,p,n,rfl,ho,hp,hx,hn,hf,_⟩:=h;lia
 |f+1=>by
  have aE:=X0 DI DP D rc aL aK cL aC aF aS f;have kD:=Mn DI aK aE;have iK:=Tl DP aL aK aE;refine D.calleeX (k:=2*f+4) sc_tsay (λvs H Q E h=>?_) λff cdv A outer s H vs Q E hr h=>?_
  ·obtain⟨o,dx,x,p,n,rfl,_⟩:=h
   rfl
  have nd:=sc_tsay.nd;obtain⟨o,dx,x,p,n,rfl,ho,hp,hx,hn,hf,hok,res⟩:=h;have oR:=xu x;replace res:RES K C Cn o dx x H Q E (yp x.cps.toList (f+1) (40-n) p):=res;refine⟨[some (.ref o)],_,rfl,(z5 (pj (z8 0) (zn zf (wt (z8 0) rfl) zz) rfl)
  (z5 (zd (zh bw (wt (z8 0) rfl) (sk aS) (zk _)) (z0 (yi (xf aC aF (z9 zx z6)) w6 rfl)) zm)
  (z5 (zd (wn (lg aL hr (by lia) (z8 0) (z9 zx z6))) (z5 (yw (ul aK yq hr (by lia) (z8 0) (z9 zx z6)))
  (z0 (zt (u9 (z9 zx (z9 (wl aE yq hr (by lia) (z8 0)) z6)))))) zm)
  (z5 (zd (wn (lg aL hr (by lia) (z8 0) (z9 zx z6))) (z0 (zt (wl kD yq hr (by lia) (z8 0)))) zm)
  (z5 (zd (wn (lg aL hr (by lia) (z8 0) (z9 zx z6))) (z0 (zt (wl iK yq hr (by lia) (z8 0)))) zm)
  (z0 (zt (u9 (z9 zx (z9 (wl cL yq hr (by lia) (z8 0)) z6)))))))))),?_⟩
  walk_at"rp";refine⟨o,C,dx,_,_,rfl,ho,rc.cl,rc.n,rfl,o,C,dx,_,rfl,ho,rc.cl,rc.n,(show(3:Nat)<1000 by decide),?_⟩;rw[Zv];have s1:SameA o H (upd H o (.ins C dx (rdI x (p:Int) ((n:Int)+1)))):=SameA.upd _ _ _;have h1:upd H o (HO.ins C dx (rdI x (p:Int) ((n:Int)+1))) o=some (.ins C dx (rdF x p (n+1))):=zy;generalize upd H o (HO.ins C dx (rdI x (p:Int) ((n:Int)+1)))=H1 at s1 h1;walk_at"rp";refine⟨o,C,dx,_,_,rfl,h1,rc.cl,rc.n,rfl,?_⟩;walk_at"rp";refine w9 (λc=>?_) λc=>?_
  ·have c':=yZ c;rw[show 40-n=0 by lia,yp]at res;exact⟨zc (by simp),Zx aC res s1⟩
  have bE:n<40:=by
   rcases vZ n 40 with z|z
   ·exact z
   ·exact absurd (zO (by lia)) c
  rw[show 40-n=(40-(n+1))+1 by lia,yp]at res;walk_at"rp";refine⟨o,dx,_,rfl,h1,rfl,o,dx,x,_,p,_,rfl,h1,hp,?_⟩;cases hnot:nx x.cps.toList p (Str.ofString "not ").cps.toList with
  |true =>
   rw[show lit "not "=(Str.ofString "not ").cps.toList from rfl,hnot,zH rfl]at res;walk_at"rp";refine⟨o,dx,_,rfl,h1,rfl,o,dx,x,_,p,_,rfl,h1,hp,wu (by decide +kernel),λ_ H2 s2 h2=>?_,λno=>by rw[hnot]at no;cases no⟩;have h4:p+4<=x.length:=by have:=vh (by lia) hnot;rw[oR]at this;exact this
   walk_at"rp";refine⟨o,dx,_,rfl,h2,rfl,o,dx,x,p+4,n+1,rfl,h2,h4,hx,by lia,by lia,trivial,?_⟩;show RES K C Cn o dx x H2 _ E (yp x.cps.toList f (40-(n+1)) (p+4));unfold Tv at res;cases e:yp x.cps.toList f (40-(n+1)) (p+4)with
   |none =>
    rw[e]at res;exact NoE.mono (s1.trans s2) res
   |some z =>
    obtain⟨t1,r1,p1⟩:=z;rw[e]at res;dsimp only at res;intro v1 H3 s3 h3 Ax;walk_at"rp";refine⟨zc (by simp),λp6 H6 n6 s6 e6=>?_⟩;have Au:=SameA.of (o:=o) s6;exact res _ H6 (s1.trans (s2.trans (s3.trans Au))) (s6 _ _ h3) ⟨p6,v1,rfl,SqT.of e6,SayAt.monoA Au h3 Ax⟩
  |false =>
   rw[show lit "not "=(Str.ofString "not ").cps.toList from rfl,hnot,zK (by decide)]at res;walk_at"rp";refine⟨o,dx,_,rfl,h1,rfl,o,dx,x,_,p,_,rfl,h1,hp,?_⟩;cases Cg:nx x.cps.toList p (Str.ofString "(if ").cps.toList with
   |true =>
    rw[show lit "(if "=(Str.ofString "(if ").cps.toList from rfl,Cg,zH rfl]at res;walk_at"rp";refine⟨o,dx,_,rfl,h1,rfl,o,dx,x,p,n+1,rfl,h1,hp,hx,by lia,by lia,Cg,?_⟩;exact RES.mono s1 res
   |false =>
    rw[show lit "(if "=(Str.ofString "(if ").cps.toList from rfl,Cg,zK (by decide)]at res;walk_at"rp";refine⟨o,dx,_,rfl,h1,rfl,o,dx,x,_,p,_,rfl,h1,hp,?_⟩;cases hop:nx x.cps.toList p (Str.ofString "(").cps.toList with
    |true =>
     rw[show lit "("=(Str.ofString "(").cps.toList from rfl,hop,zH rfl]at res;walk_at"rp";refine⟨o,dx,_,rfl,h1,rfl,o,dx,x,p,n+1,rfl,h1,hp,hx,by lia,by lia,hop,?_⟩;exact RES.mono s1 res
    |false =>
     rw[show lit "("=(Str.ofString "(").cps.toList from rfl,hop,zK (by decide)]at res;unfold cs at res;walk_at"rp";refine⟨o,dx,_,rfl,h1,rfl,o,dx,x,p,n+1,rfl,h1,hp,hx,λBa H2 s2 h2=>?_,λno=>?_⟩
     ·rw[zH Ba]at res;walk_at"rp";refine⟨zc (by simp),λp6 H6 n6 s6 e6=>?_⟩;exact res _ H6 (s1.trans (s2.trans (SameA.of s6))) ((s6 _ _ h2).trans (by rw[show 40-(40-(n+1))=n+1 by lia])) ⟨p6,rfl,SqT.of e6⟩
     ·rw[no,zK (by decide)]at res;exact NoE.mono s1 res
def jn(K:W.Frag)(n:Nat):Sp:=λvs H Q _=>∃(v:V)(s:Say),vs=[v]/\SayAt K H v s/\s.pieces<=n/\s.pieces<=1000/\∀(p:Addr)(H':Hp),H p=none->Same H H'->H' p=some (.lst (s.letters.map V.str))->Q (.ref p) H'
theorem sc_letters:zr ["saying","letters","inner"] ["saying"] (z4 (top 9)):=⟨rfl,rfl,rfl,by decide +kernel,rfl,by decide +kernel,by decide +kernel⟩
theorem lm(D:Def K mg "letters_in" (top 9) ["saying"]):∀n:Nat,zv P w K mg base n "letters_in" ["saying"] (jn K n)
 |0=>yo D λvs H Q E h=>by
  obtain⟨v,s,_,_,hp,_⟩:=h;exact absurd s.pieces_pos (by lia)
 |n+1=>by
  have eF:=lm D n;refine D.callee sc_letters (λvs H Q E h=>?_) λf cdv A outer s H vs Q E hr h=>?_
  ·obtain⟨v,s,rfl,_⟩:=h
   rfl
  have nd:=sc_letters.nd;obtain⟨v,s,rfl,hv,hp,CK,q⟩:=h;refine⟨[some v,none,none],_,rfl,(z5 (zd (zh (ya hr.units) (yj (z8 0) zz (λ_ _=>rfl)) zx (zk _)) (z0 (zt (xq (z9 (yj (z8 0) zz (λ_ _=>rfl)) z6)))) zm)
  (z5 (zg 1 nd (xq z6))
  (z5 (wf yI rfl (yx (xw (z8 0) (xk zz) xg)) (vg 2 nd) (z0 (yw (lf wH vJ fk (z8 1) (z9 (zp eF hr (by lia) (z9 (z8 2) z6)) z6)))))
  (z0 (zt (z8 1)))))),?_⟩
  by_cases hs:s.subs=[]
  ·cases s with
   |letter x =>
    obtain⟨a,rfl,ha⟩:=hv;walk_at"rp";refine⟨_,_,.inr ha,rfl,?_⟩;walk_at"rp";refine⟨_,_,.inr ha,rfl,?_⟩;walk_at"rp";exact⟨zc (by simp),λp H1 n1 s1 e1=>q p H1 n1 s1 e1⟩
   |neg t=>simp[Say.subs]at hs
   |bin o t t'=>simp[Say.subs]at hs
  ·obtain⟨a,wd,us,rfl,ha,hw,hl,rD,hu⟩:=qi hv hs;walk_at"rp";refine⟨_,_,.inr ha,mx _ _,?_⟩;walk_at"rp";rw[hw];walk_at"rp";refine⟨zc (by simp),λr H0 n0 s0 e0=>?_⟩;refine .inr ⟨_,(z7 s0).sqT ha,λp H1 s1 h1=>.inr ⟨⟨_,h1⟩,?_⟩⟩;rw[p7]at h1;refine xj (xs:=us) (λi σ H2=>∃iv,σ=[some (.ref a),some (.ref r),iv]/\H2 r=some (.lst ((((s.subs.take i).map Say.letters).flatten).map V.str))/\Same H H2/\SqT K H2 p us/\i<=us.length) ⟨none,rfl,s1 _ _ e0,s0.trans s1,h1,yV _⟩ ?_ ?_ ?_
   ·rintro i σ H2 _ ⟨iv,rfl,_,_,h2,_⟩;exact h2
   ·rintro i x σ H2 hx ⟨iv,rfl,e2,s2,h2,hi⟩;obtain⟨t,ht,sv,pc⟩:=hu i x hx;walk_at"rp";refine⟨⟨_,_,rfl,e2⟩,x,t,rfl,sv.mono (z7 s2),by lia,by lia,λz H3 n3 s3 e3=>?_⟩;have gQ:z≠r:=λe=>by rw[e,e2]at n3;cases n3
    walk_at"rp";have b1:=ko (s.subs.take i);have b2:=ml Say.pieces s.subs i;have b3:=va s;have b4:=yl t;refine⟨_,_,s3 _ _ e2,.inl e3,?_,some x,rfl,?_,zo (s2.trans s3) n0 _,?_,(zV.mp hx).1⟩
    ·rw[zX,zX];rw[zM];lia
    ·rw[zy,yY,ht];simp
    ·exact(vy (s3 _ _ e2)).sqT ((z7 s3).sqT h2)
   ·rintro σ H2 ⟨iv,rfl,e2,s2,h2,_⟩;walk_at"rp";rw[hl,yT,<-qo hs]at e2;exact q r H2 n0 s2 e2
def pq(K:W.Frag):Sp:=λvs H Q _=>∃(v:V)(s:Say),vs=[v]/\SayAt K H v s/\s.pieces<=40/\∀(p:Addr)(H':Hp)(ss:List Str),Same H H'->SqT K H' p (ss.map V.str)->ss.Nodup->(∀x,x∈ss↔x∈s.letters)->sortedS ss=true->Q (.ref p) H'
theorem sc_namesin:zr ["saying"] ["saying"] (z4 (top 10)):=⟨rfl,rfl,rfl,by decide +kernel,rfl,by decide +kernel,by decide +kernel⟩
theorem Zm(D:Def K mg "names_in" (top 10) ["saying"])(eF:zv P w K mg base 40 "letters_in" ["saying"] (jn K 40))(aM:mg "sorted"=none)(bB:mg "set"=none)(aB:mg "tuple"=none):zv P w K mg base 41 "names_in" ["saying"] (pq K):=by
 refine D.callee sc_namesin (λvs H Q E h=>?_) λf cdv A outer s H vs Q E hr h=>?_
 ·obtain⟨v,s,rfl,_⟩:=h
  rfl
 have nd:=sc_namesin.nd;obtain⟨v,s,rfl,hv,hp,q⟩:=h;refine⟨[some v],_,rfl,(z0 (zt (yh w4 rfl aB yb (z9 (ww rfl hr.units rfl aM rfl bB (zp eF hr (by lia) (z9 (z8 0) z6))) z6)))),?_⟩;walk_at"rp";have aZ:=yl s;refine⟨v,s,rfl,hv,hp,by lia,λp H1 n1 s1 e1=>?_⟩;walk_at"rp";refine .inl ⟨_,.inl (SqL.of e1),by unfold scanBound;lia,λcW hn hs=>?_,λcW hn hm iH r H2 n2 s2 e2=>?_⟩
 ·have:=wx hn hs;lia
 ·walk_at"rp";exact⟨_,.inl (SqL.of e2),λr' H3 s3 h3=>q r' H3 cW (s1.trans (s2.trans s3)) h3 hn hm iH⟩
theorem W3{xs:List Str}(i:Nat)(x:V)(hx:(xs.map V.str)[i]?=some x):∃y,x = .str y/\i<xs.length/\xs.drop i=y::xs.drop (i+1):=by
 rw[yU]at hx;cases e:xs[i]? with
 |none=>rw[e]at hx;cases hx
 |some y =>
  rw[e]at hx;obtain⟨hi,ey⟩:=zV.mp e;exact⟨y,(yX hx).symm,hi,by rw[uG hi,ey]⟩
def Uu(K:W.Frag):Sp:=λvs H Q _=>∃(b:Addr)(xs:List Str),vs=[.ref b]/\SqT K H b (xs.map V.str)/\xs.length<=10/\Q (.int ((2 ^ xs.length:Nat):Int)) H
theorem sc_ways:zr ["names","ways","name"] ["names"] (z4 (top 13)):=⟨rfl,rfl,rfl,by decide +kernel,rfl,by decide +kernel,by decide +kernel⟩
theorem P8(D:Def K mg "ways_to_hold" (top 13) ["names"]):zv P w K mg base 1 "ways_to_hold" ["names"] (Uu K):=by
 refine D.callee sc_ways (λvs H Q E h=>?_) λf cdv A outer s H vs Q E hr h=>?_
 ·obtain⟨b,xs,rfl,_⟩:=h
  rfl
 have nd:=sc_ways.nd;obtain⟨b,xs,rfl,hb,hx,q⟩:=h;refine⟨[some (.ref b),none,none],_,rfl,(z5 (zg 1 nd zz)
  (z5 (wf yI rfl (yx (z8 0)) (vg 2 nd) (z0 (zg 1 nd (zn u8 (z8 1) zz))))
  (z0 (zt (z8 1))))),?_⟩
 walk_at"rp";refine .inr ⟨⟨_,hb⟩,xj (xs:=xs.map V.str) (λi σ H2=>∃nv,σ=[some (.ref b),some (.int ((2 ^ i:Nat):Int)),nv]/\H2=H) ⟨none,rfl,rfl⟩ ?_ ?_ ?_⟩
 ·rintro i σ H2 _ ⟨nv,rfl,rfl⟩;exact hb
 ·rintro i x σ H2 rW ⟨nv,rfl,rfl⟩;walk_at"rp";refine⟨cm2 (by decide),some x,?_,trivial⟩;rw[Nat.pow_succ,Int.natCast_mul]
  rfl
 ·rintro σ H2 ⟨nv,rfl,rfl⟩;walk_at"rp";rw[zX];exact q
def dg(K:W.Frag):Sp:=λvs H Q _=>∃(n:Int)(b:Addr)(xs:List Str),vs=[.int n,.ref b]/\SqT K H b (xs.map V.str)/\xs.length<=100/\∀(r:Addr)(H':Hp),Same H H'->SqT K H' r ((y9 n xs).map V.str)->Q (.ref r) H'
theorem sc_heldby:zr ["number","names","held","rest","name"] ["number","names"] (z4 (top 14)):=⟨rfl,rfl,rfl,by decide +kernel,rfl,by decide +kernel,by decide +kernel⟩
theorem Wj(D:Def K mg "held_by" (top 14) ["number","names"])(aB:mg "tuple"=none):zv P w K mg base 1 "held_by" ["number","names"] (dg K):=by
 refine D.callee sc_heldby (λvs H Q E h=>?_) λf cdv A outer s H vs Q E hr h=>?_
 ·obtain⟨n,b,xs,rfl,_⟩:=h
  rfl
 have nd:=sc_heldby.nd;obtain⟨n,b,xs,rfl,hb,hx,q⟩:=h;refine⟨[some (.int n),some (.ref b),none,none,none],_,rfl,(z5 (zg 2 nd (xq z6))
  (z5 (zg 3 nd (z8 0))
  (z5 (wf yI rfl (yx (z8 1)) (vg 4 nd) (z5 (zd (zh (ya hr.units) (zn u7 (z8 3) zz) zz (zk _)) (z0 (yw (lf xF xE lc (z8 2) (z9 (z8 4) z6)))) zm)
  (z0 (zg 3 nd (zn fm (z8 3) zz)))))
  (z0 (zt (yh w4 rfl aB yb (z9 (z8 2) z6))))))),?_⟩
 walk_at"rp";refine⟨zc (by simp),λp H1 n1 s1 e1=>?_⟩;have aZ:(xs.map V.str).length=xs.length:=zX _;refine .inr ⟨⟨_,(z7 s1).sqT hb⟩,xj (xs:=xs.map V.str) (λi σ H2=>∃(m:Int)(bA:List Str)(nv:Option V),σ=[some (.int n),some (.ref b),some (.ref p),some (.int m),nv]/\bA++y9 m (xs.drop i)=y9 n xs/\H2 p=some (.lst (bA.map V.str))/\Same H H2/\bA.length<=i) ⟨n,[],none,rfl,rfl,e1,s1,zT _⟩ ?_ ?_ ?_⟩
 ·rintro i σ H2 _ ⟨m,bA,nv,rfl,e,ep,s2,_⟩;exact(z7 s2).sqT hb
 ·rintro i x σ H2 rW ⟨m,bA,nv,rfl,e,ep,s2,ha⟩;obtain⟨y,rfl,hi,ed⟩:=W3 i x rW;rw[ed]at e;walk_at"rp";refine⟨by decide,w9 (λc=>?_) (λc=>?_)⟩
  ·have c':m % 2=1:=yZ c;rw[y9,zH c']at e;refine⟨⟨_,_,rfl,ep⟩,_,ep,by rw[zX];exact vp (by lia),⟨by decide,by decide⟩,m / 2,bA++[y],_,rfl,by rw[yQ];exact e,by rw[zy,yW];rfl,zo s2 n1 _,by rw[zL,wM];lia⟩
  ·have c':¬m % 2=1:=λz=>c (zO z);rw[y9,zK c']at e;exact⟨⟨by decide,by decide⟩,m / 2,bA,_,rfl,e,ep,s2,by lia⟩
 ·rintro σ H2 ⟨m,bA,nv,rfl,e,ep,s2,_⟩;rw[aZ,List.drop_length]at e;have e':bA=y9 n xs:=by simpa[y9]using e
  walk_at"rp";exact⟨_,.inl (SqL.of ep),λr H' s3 hr3=>q r H' (s2.trans s3) (by rw[<-e'];exact hr3)⟩
theorem ze{H H':Hp}{p:Addr}(s:Same H H')(n:H' p=none):H p=none:=by
 cases e:H p with
 |none=>rfl
 |some o=>rw[s _ _ e]at n;cases n
theorem o6{ts:List Say}{i:Nat}{t:Say}(h:ts[i]?=some t):uf (ts.take (i+1))=uf (ts.take i)++t.letters:=by
 rw[yY,h,Rm];simp[uf]
def jo(K:W.Frag):Sp:=λvs H Q _=>∃(a:Addr)(us:List V)(ts:List Say)(xs:List Str),vs=[.ref a]/\SqT K H a us/\SaysAt K H us ts/\Lst ts xs/\∀(p:Addr)(H':Hp)(ss:List Str),Same H H'->SqT K H' p (ss.map V.str)->NamesOf ts ss->Q (.ref p) H'
theorem sc_namesof:zr ["sayings","names","saying"] ["sayings"] (z4 (top 16)):=⟨rfl,rfl,rfl,by decide +kernel,rfl,by decide +kernel,by decide +kernel⟩
theorem Zn(D:Def K mg "names_of" (top 16) ["sayings"])(jQ:zv P w K mg base 41 "names_in" ["saying"] (pq K))(aM:mg "sorted"=none)(bB:mg "set"=none)(aB:mg "tuple"=none):zv P w K mg base 42 "names_of" ["sayings"] (jo K):=by
 refine D.callee sc_namesof (λvs H Q E h=>?_) λf cdv A outer s H vs Q E hr h=>?_
 ·obtain⟨a,us,ts,xs,rfl,_⟩:=h
  rfl
 have nd:=sc_namesof.nd;obtain⟨a,us,ts,xs,rfl,ha,hS,hL,q⟩:=h;have hl:=hS.len;refine⟨[some (.ref a),none,none],_,rfl,(z5 (zg 1 nd (xq z6))
  (z5 (wf yI rfl (yx (z8 0)) (vg 2 nd) (z0 (yw (lf wH vJ fk (z8 1) (z9 (zp jQ hr (by lia) (z9 (z8 2) z6)) z6)))))
  (z0 (zt (yh w4 rfl aB yb (z9 (ww rfl hr.units rfl aM rfl bB (z8 1)) z6)))))),?_⟩
 walk_at"rp";refine⟨zc (by simp),λr H1 n1 s1 e1=>?_⟩;refine .inr ⟨⟨_,(z7 s1).sqT ha⟩,xj (xs:=us) (λi σ H2=>∃(bA:List Str)(iv:Option V),σ=[some (.ref a),some (.ref r),iv]/\H2 r=some (.lst (bA.map V.str))/\(∀x,x∈bA↔x∈uf (ts.take i))/\bA.length<=40*i/\Same H H2) ⟨[],none,rfl,e1,λx=>by simp[uf],zT _,s1⟩ ?_ ?_ ?_⟩
 ·rintro i σ H2 _ ⟨bA,iv,rfl,_,_,_,s2⟩;exact(z7 s2).sqT ha
 ·rintro i x σ H2 hx ⟨bA,iv,rfl,e2,hm,hc,s2⟩;obtain⟨t,ht,sv⟩:=hS.at i x hx;have Bv:=zN ht;have hi:i<us.length:=(zV.mp hx).1;have h6:=hL.hi;walk_at"rp";refine⟨⟨_,_,rfl,e2⟩,x,t,rfl,sv.mono (z7 s2),hL.pc t Bv,λp H3 ss s3 hp nds jV _=>?_⟩;walk_at"rp";have CJ:ss.length<=40:=yM (wx nds λy hy=>(jV y).mp hy) (yM (yl t) (hL.pc t Bv));refine⟨_,_,s3 _ _ e2,.inr hp,by rw[zX,zX,zM];lia,bA++ss,some x,rfl,by rw[zy,yW],λy=>?_,by rw[zL];lia,zo (s2.trans s3) n1 _⟩;rw[zP,hm y,jV y,o6 ht,zP]
 ·rintro σ H2 ⟨bA,iv,rfl,e2,hm,hc,s2⟩;rw[hl,yT]at hm;have h6:=hL.hi;walk_at"rp";refine .inl ⟨_,.inl (SqL.of e2),by unfold scanBound;lia,λcW hn hs=>?_,λcW hn TD iH p H3 n3 s3 e3=>?_⟩
  ·have:=wx hn λy hy=>hL.nm y ((hm y).mp (hs y hy));have:=hL.xl;lia
  ·walk_at"rp";exact⟨_,.inl (SqL.of e3),λp' H4 s4 h4=>q p' H4 cW (s2.trans (s3.trans s4)) h4 ⟨hn,λy=>(TD y).trans (hm y),iH⟩⟩
def jk(K:W.Frag):Sp:=λvs H Q _=>∃(a:Addr)(us:List V)(ts:List Say)(xs:List Str),vs=[.ref a]/\SqT K H a us/\SaysAt K H us ts/\Lst ts xs/\∀(p:Addr)(H':Hp)(ss:List Str)(as:List Addr),H p=none->Same H H'->H' p=some (.lst (as.map V.ref))->NamesOf ts ss->as.length=2 ^ ss.length ->
 (∀(n:Nat) b,as[n]?=some b->SqT K H' b ((y9 (n:Int) ss).map V.str))->Q (.ref p) H'
theorem sc_allheld:zr ["sayings","names"] ["sayings"] (z4 (top 17)):=⟨rfl,rfl,rfl,by decide +kernel,rfl,by decide +kernel,by decide +kernel⟩
theorem T5{n:Nat}(h:n<=5):2 ^ n<=32:=Nat.pow_le_pow_right (by decide) h
theorem Zi(D:Def K mg "all_held" (top 17) ["sayings"])(jP:zv P w K mg base 42 "names_of" ["sayings"] (jo K))(AL:zv P w K mg base 1 "held_by" ["number","names"] (dg K))(nW:zv P w K mg base 1 "ways_to_hold" ["names"] (Uu K))(aN:mg "range"=none):
  zv P w K mg base 43 "all_held" ["sayings"] (jk K):=by
 refine D.callee sc_allheld (λvs H Q E h=>?_) λf cdv A outer s H vs Q E hr h=>?_
 ·obtain⟨a,us,ts,xs,rfl,_⟩:=h
  rfl
 have nd:=sc_allheld.nd;obtain⟨a,us,ts,xs,rfl,ha,hS,hL,q⟩:=h;refine⟨[some (.ref a),none],_,rfl,(z5 (zg 1 nd (zp jP hr (by lia) (z9 (z8 0) z6)))
  (z0 (zt (x6 (ixs:=[1]) (y8 (own:=["number"]) (N:=["names"]) rfl rfl rfl rfl rfl rfl rfl (by decide +kernel) rfl rfl rfl) rfl (wm rfl aN (z9 (zp nW hr (by lia) (z9 (z8 1) z6)) z6)) (λ_ _ _ _=>yg) (λ_ _ _ _=>(zp AL hr (by lia) (z9 (z8 0) (z9 (z8 1) z6)))) rfl)))),?_⟩
 walk_at"rp";refine⟨a,us,ts,xs,rfl,ha,hS,hL,λb H1 ss s1 hb hN=>?_⟩;obtain⟨SS,hsn⟩:=hL.names hN;have p5:=T5 SS;have p5':((2 ^ ss.length:Nat):Int)<=32:=Int.ofNat_le.mpr p5;have p50:(0:Int)<=((2 ^ ss.length:Nat):Int):=Int.natCast_nonneg _;walk_at"rp";refine⟨b,ss,rfl,hb,by lia,?_⟩;walk_at"rp";refine⟨⟨by lia,by lia⟩,?_⟩;rw[xV];intro C s₀ H₀ ex;refine vc (λD i ys H2=>∃as:List Addr,ys=as.map V.ref/\as.length=i/\(∀(n:Nat) c,as[n]?=some c->SqT K H2 c ((y9 (n:Int) ss).map V.str))/\H2 D=some (.lst ys)/\Same H1 H2/\H1 D=none) (by rw[zM];lia) ?_ ?_ ?_ ?_
 ·intro D H2 n2 s2 e2;exact⟨[],rfl,rfl,λn c hc=>by simp at hc,e2,s2,n2⟩
 ·rintro D i ys H2 ⟨as,rfl,hl,_,e2,_⟩;exact⟨e2,by simpa using hl⟩
 ·rintro D i ys H2 hi ⟨as,rfl,hl,hc,e2,s2,n2⟩;walk_at"rp";refine⟨_,b,ss,rfl,(z7 s2).sqT hb,by lia,λr H3 s3 h3=>⟨s3 _ _ e2,CN.mk hi ⟨as++[r],by rw[yW];rfl,by rw[zL,hl];rfl,λn c hn=>?_,zy,zo (s2.trans s3) n2 _,n2⟩⟩⟩;have tl:=vy (o:=.lst (as.map V.ref++[V.ref r])) (s3 _ _ e2)
  by_cases bE:n<as.length
  ·rw[wX bE]at hn;exact tl.sqT ((z7 s3).sqT (hc n c hn))
  ·rw[vX (by lia)]at hn;have hnz:n-as.length=0:=by
    cases h9:n-as.length with
    |zero=>rfl
    |succ m=>rw[h9]at hn;simp at hn
   rw[hnz]at hn;cases hn;have:n=i:=by lia
   subst this;rw[Int.zero_add]at h3;exact tl.sqT h3
 ·rintro D ys H2 ⟨as,rfl,hl,hc,e2,s2,n2⟩;exact q D H2 ss as (ze s1 n2) (s1.trans s2) e2 hN hl hc
def nk(K:W.Frag):Sp:=λvs H Q _=>∃(a h:Addr)(us:List V)(ts:List Say)(xs hs:List Str),vs=[.ref a,.ref h]/\SqT K H a us/\SaysAt K H us ts/\Lst ts xs/\SqT K H h (hs.map V.str)/\∀(p:Addr)(H':Hp),Same H H'->SqT K H' p ((qg ts hs).map V.bl)->Q (.ref p) H'
theorem sc_rowof:zr ["sayings","held"] ["sayings","held"] (z4 (top 18)):=⟨rfl,rfl,rfl,by decide +kernel,rfl,by decide +kernel,by decide +kernel⟩
theorem Ti(D:Def K mg "row_of" (top 18) ["sayings","held"])(kC:zv P w K mg base 40 "is_so" ["saying","held"] (K1 K 40))(aB:mg "tuple"=none):zv P w K mg base 41 "row_of" ["sayings","held"] (nk K):=by
 refine D.callee sc_rowof (λvs H Q E h=>?_) λf cdv A outer s H vs Q E hr h=>?_
 ·obtain⟨a,h,us,ts,xs,hs,rfl,_⟩:=h
  rfl
 have nd:=sc_rowof.nd;obtain⟨a,h,us,ts,xs,hs,rfl,ha,hS,hL,hh,q⟩:=h;have hl:=hS.len;have h6:=hL.hi;refine⟨[some (.ref a),some (.ref h)],_,rfl,(z0 (zt (yh w4 rfl aB yb (z9 (x6 (ixs:=[1]) (y8 (own:=["saying"]) (N:=["held"]) rfl rfl rfl rfl rfl rfl rfl (by decide +kernel) rfl rfl rfl) rfl (yx (z8 0)) (λ_ _ _ _=>yg) (λ_ _ _ _=>(zp kC hr (by lia) (z9 (z8 0) (z9 (z8 1) z6)))) rfl) z6)))),?_⟩;walk_at"rp";refine .inr ⟨⟨_,ha⟩,λC s₀ H₀ ex=>?_⟩;refine xo (xs:=us) (λD i ys H2=>ys=((ts.take i).map λt=>t.so hs).map V.bl/\i<=us.length/\H2 D=some (.lst ys)/\Same H H2/\H D=none) (by rw[zM];lia) ?_ ?_ ?_ ?_
 ·intro D H2 n2 s2 e2;exact⟨rfl,yV _,e2,s2,n2⟩
 ·rintro D i ys H2 ⟨rfl,hi,e2,s2,_⟩;exact⟨(z7 s2).sqT ha,e2,by simp;lia⟩
 ·rintro D i v ys H2 hv ⟨rfl,hi,e2,s2,n2⟩;obtain⟨t,ht,sv⟩:=hS.at i v hv;walk_at"rp";refine⟨v,h,t,hs,rfl,sv.mono (z7 s2),hL.pc t (zN ht),(z7 s2).sqT hh,e2,CN.mk (zV.mp hv).1 ⟨?_,(zV.mp hv).1,zy,zo s2 n2 _,n2⟩⟩;rw[yY,ht];simp
 ·rintro D ys H2 ⟨rfl,hi,e2,s2,n2⟩;rw[hl,yT]at e2;exact⟨_,.inl (SqL.of e2),λp H3 s3 h3=>q p H3 (s2.trans s3) h3⟩
def sx(K:W.Frag):Sp:=λvs H Q _=>∃(a:Addr)(us:List V)(ts:List Say)(xs:List Str),vs=[.ref a]/\SqT K H a us/\SaysAt K H us ts/\Lst ts xs/\∀(p:Addr)(H':Hp)(ss:List Str)(R:List (Addr×List Bool)),H p=none->Same H H'->H' p=some (.lst (R.map λr=>V.ref r.1))->(∀r∈R,SqT K H' r.1 (r.2.map V.bl))->NamesOf ts ss->FitRows ts ss (R.map (·.2))->R.length<=32->Q (.ref p) H'
theorem sc_fitrows:zr ["sayings"] ["sayings"] (z4 (top 19)):=⟨rfl,rfl,rfl,by decide +kernel,rfl,by decide +kernel,by decide +kernel⟩
theorem Zl(D:Def K mg "fit_rows" (top 19) ["sayings"])(Al:zv P w K mg base 43 "all_held" ["sayings"] (jk K))(BG:zv P w K mg base 41 "row_of" ["sayings","held"] (nk K))(aM:mg "sorted"=none)(bB:mg "set"=none):
  zv P w K mg base 44 "fit_rows" ["sayings"] (sx K):=by
 refine D.callee sc_fitrows (λvs H Q E h=>?_) λf cdv A outer s H vs Q E hr h=>?_
 ·obtain⟨a,us,ts,xs,rfl,_⟩:=h
  rfl
 have nd:=sc_fitrows.nd;obtain⟨a,us,ts,xs,rfl,ha,hS,hL,q⟩:=h;refine⟨[some (.ref a)],_,rfl,(z0 (zt (ww rfl hr.units rfl aM rfl bB (x6 (ixs:=[0]) (y8 (own:=["held"]) (N:=["sayings"]) rfl rfl rfl rfl rfl rfl rfl (by decide +kernel) rfl rfl rfl) rfl (yx (zp Al hr (by lia) (z9 (z8 0) z6))) (λ_ _ _ _=>yg) (λ_ _ _ _=>(zp BG hr (by lia) (z9 (z8 1) (z9 (z8 0) z6)))) rfl)))),?_⟩;walk_at"rp";refine⟨a,us,ts,xs,rfl,ha,hS,hL,λb H1 ss as nb s1 hb hN has TQ=>?_⟩;obtain⟨SS,hsn⟩:=hL.names hN;have p5:=T5 SS;walk_at"rp";refine .inl ⟨⟨_,SqL.of hb⟩,λC s₀ H₀ ex=>?_⟩;refine Rt (xs:=as.map V.ref) (λD i ys H2=>∃R:List (Addr×List Bool),ys=(R.map λr=>V.ref r.1)/\R.map (·.2)=(List.range i).map (λ(n:Nat)=>qg ts (y9 (n:Int) ss))/\(∀r∈R,SqT K H2 r.1 (r.2.map V.bl))/\H2 D=some (.lst ys)/\Same H1 H2/\H1 D=none) (by rw[zX,zM];lia) ?_ ?_ ?_ ?_
 ·intro D H2 n2 s2 e2;exact⟨[],rfl,rfl,λr hr=>by simp at hr,e2,s2,n2⟩
 ·rintro D i ys H2 ⟨R,rfl,hR,_,e2,s2,_⟩;refine⟨SqL.of (s2 _ _ hb),e2,?_⟩;have:=xT List.length hR;simpa using this
 ·rintro D i v ys H2 hv ⟨R,rfl,hR,hT,e2,s2,n2⟩;rw[yU]at hv;cases hc:as[i]? with
  |none=>rw[hc]at hv;cases hv
  |some c =>
   rw[hc]at hv;cases hv;have hi:i<as.length:=(zV.mp hc).1;walk_at"rp";refine⟨a,c,us,ts,xs,_,rfl,(z7 (s1.trans s2)).sqT ha,hS.mono (z7 (s1.trans s2)),hL,(z7 s2).sqT (TQ i c hc),λp H3 s3 h3=>⟨s3 _ _ e2,CN.mk (by rw[zX];exact hi) ⟨R++[(p,qg ts (y9 (i:Int) ss))],by rw[yW];rfl,?_,λr hr=>?_,zy,zo (s2.trans s3) n2 _,n2⟩⟩⟩
   ·rw[yW,hR,List.range_succ,yW]
    rfl
   ·have tl:=vy (o:=.lst ((R.map λr=>V.ref r.1)++[V.ref p])) (s3 _ _ e2);rcases zP.mp hr with hr|hr
    ·exact tl.sqT ((z7 s3).sqT (hT r hr))
    ·rw[zS.mp hr];exact tl.sqT h3
 ·rintro D ys H2 ⟨R,rfl,hR,hT,e2,s2,n2⟩;rw[zX,has]at hR;have hRl:R.length=2 ^ ss.length:=by
   have:=xT List.length hR;simpa using this
  refine .inr ⟨R,SqL.of e2,λr hr=>⟨hT r hr,?_⟩,by lia,λR' rY BQ jV iH Ei p H3 n3 s3 e3=>?_⟩
  ·have:r.2∈R.map (·.2):=yP hr;rw[hR]at this;obtain⟨n,_,e⟩:=zC.mp this;intro z;rw[<-e]at z;have h1:=sw ts (y9 (n:Int) ss);rw[z]at h1;have:=hL.lo;simp at h1;lia
  ·refine q p H3 ss R' (ze (s1.trans s2) n3) (s1.trans (s2.trans s3)) e3 (λr hr=>(z7 s3).sqT (hT r (rY r hr))) hN ⟨BQ,λk=>?_,iH⟩ (by lia);rw[jV k,hR,zC];constructor
   ·rintro⟨n,hn,rfl⟩;exact⟨n,xU.mp hn,rfl⟩
   ·rintro⟨n,hn,rfl⟩;exact⟨n,xU.mpr hn,rfl⟩
def ql(K:W.Frag)(n:Nat):Sp:=λvs H Q _=>∃(v:V)(s:Say),vs=[v]/\SayAt K H v s/\s.pieces<=n/\∀H',Same H H'->Q (.int s.pieces) H'
theorem sc_pieces:zr ["saying","pieces","inner"] ["saying"] (z4 (top 8)):=⟨rfl,rfl,rfl,by decide +kernel,rfl,by decide +kernel,by decide +kernel⟩
theorem i4(D:Def K mg "pieces_in" (top 8) ["saying"]):∀n:Nat,zv P w K mg base n "pieces_in" ["saying"] (ql K n)
 |0=>yo D λvs H Q E h=>by
  obtain⟨v,s,_,_,hp,_⟩:=h;exact absurd s.pieces_pos (by lia)
 |n+1=>by
  have iE:=i4 D n;refine D.callee sc_pieces (λvs H Q E h=>?_) λf cdv A outer s H vs Q E hr h=>?_
  ·obtain⟨v,s,rfl,_⟩:=h
   rfl
  have nd:=sc_pieces.nd;obtain⟨v,s,rfl,hv,hp,q⟩:=h;refine⟨[some v,none,none],_,rfl,(z5 (zd (zh (ya hr.units) (yj (z8 0) zz (λ_ _=>rfl)) zx (zk _)) (z0 (zt zz)) zm)
  (z5 (zg 1 nd zz)
  (z5 (wf yI rfl (yx (xw (z8 0) (xk zz) xg)) (vg 2 nd) (z0 (zg 1 nd (zn zf (z8 1) (zp iE hr (by lia) (z9 (z8 2) z6))))))
  (z0 (zt (z8 1)))))),?_⟩
  by_cases hs:s.subs=[]
  ·cases s with
   |letter x =>
    obtain⟨a,rfl,ha⟩:=hv;walk_at"rp";refine⟨_,_,.inr ha,rfl,?_⟩;walk_at"rp";exact q H (Same.refl H)
   |neg t=>simp[Say.subs]at hs
   |bin o t t'=>simp[Say.subs]at hs
  ·obtain⟨a,wd,us,rfl,ha,hw,hl,rD,hu⟩:=qi hv hs;walk_at"rp";refine⟨_,_,.inr ha,mx _ _,?_⟩;walk_at"rp";rw[hw];walk_at"rp";refine .inr ⟨_,ha,λp H1 s1 h1=>.inr ⟨⟨_,h1⟩,?_⟩⟩;rw[p7]at h1;refine xj (xs:=us) (λi σ H2=>∃iv,σ=[some (.ref a),some (.int (1+((s.subs.take i).map Say.pieces).sum:Nat)),iv]/\Same H1 H2/\i<=us.length) ⟨none,rfl,Same.refl _,yV _⟩ ?_ ?_ ?_
   ·rintro i σ H2 _ ⟨iv,rfl,s2,_⟩;exact(z7 s2).sqT h1
   ·rintro i x σ H2 hx ⟨iv,rfl,s2,hi⟩;obtain⟨t,ht,sv,pc⟩:=hu i x hx;walk_at"rp";refine⟨x,t,rfl,sv.mono (z7 (s1.trans s2)),by lia,λH3 s3=>?_⟩;walk_at"rp";refine⟨some x,?_,s2.trans s3,(zV.mp hx).1⟩;rw[yY,ht];simp;lia
   ·rintro σ H2 ⟨iv,rfl,s2,_⟩;walk_at"rp";rw[hl,yT,<-va];exact q H2 (s1.trans s2)
structure ar(ts:List Say)(xs:List Str):Prop where
 hi:ts.length<=7
 nm:∀x∈uf ts,x∈xs
 xl:xs.length<=60
 ok:∀x∈xs,Nm x
theorem Lst.toW{ts:List Say}{xs:List Str}(h:Lst ts xs):ar ts xs:=⟨by have:=h.hi;lia,h.nm,by have:=h.xl;lia,h.ok⟩
def dh(K:W.Frag):Sp:=λvs H Q _=>∃(a:Addr)(us:List V)(ts:List Say)(xs:List Str),vs=[.ref a]/\SqT K H a us/\SaysAt K H us ts/\ar ts xs/\(∀t∈ts,t.pieces<=40)/\∀(p:Addr)(H':Hp)(ss:List Str),Same H H'->SqT K H' p (ss.map V.str)->NamesOf ts ss->Q (.ref p) H'
theorem sc_namesw:zr ["sayings","names","saying"] ["sayings"] (z4 (top 16)):=⟨rfl,rfl,rfl,by decide +kernel,rfl,by decide +kernel,by decide +kernel⟩
theorem Wo(D:Def K mg "names_of" (top 16) ["sayings"])(jQ:zv P w K mg base 41 "names_in" ["saying"] (pq K))(aM:mg "sorted"=none)(bB:mg "set"=none)(aB:mg "tuple"=none):zv P w K mg base 42 "names_of" ["sayings"] (dh K):=by
 refine D.callee sc_namesw (λvs H Q E h=>?_) λf cdv A outer s H vs Q E hr h=>?_
 ·obtain⟨a,us,ts,xs,rfl,_⟩:=h
  rfl
 have nd:=sc_namesw.nd;obtain⟨a,us,ts,xs,rfl,ha,hS,hL,Bx,q⟩:=h;have hl:=hS.len;refine⟨[some (.ref a),none,none],_,rfl,(z5 (zg 1 nd (xq z6))
  (z5 (wf yI rfl (yx (z8 0)) (vg 2 nd) (z0 (yw (lf wH vJ fk (z8 1) (z9 (zp jQ hr (by lia) (z9 (z8 2) z6)) z6)))))
  (z0 (zt (yh w4 rfl aB yb (z9 (ww rfl hr.units rfl aM rfl bB (z8 1)) z6)))))),?_⟩
 walk_at"rp";refine⟨zc (by simp),λr H1 n1 s1 e1=>?_⟩;walk_at"rp";refine .inr ⟨⟨_,(z7 s1).sqT ha⟩,xj (xs:=us) (λi σ H2=>∃(bA:List Str)(iv:Option V),σ=[some (.ref a),some (.ref r),iv]/\H2 r=some (.lst (bA.map V.str))/\(∀x,x∈bA↔x∈uf (ts.take i))/\bA.length<=40*i/\Same H H2) ⟨[],none,rfl,e1,by simp[uf],by simp,s1⟩ ?_ ?_ ?_⟩
 ·rintro i σ H2 _ ⟨bA,iv,rfl,_,_,_,s2⟩;exact(z7 s2).sqT ha
 ·rintro i x σ H2 hx ⟨bA,iv,rfl,e2,hm,hc,s2⟩;obtain⟨t,ht,sv⟩:=hS.at i x hx;have Bv:=zN ht;have hi:i<us.length:=(zV.mp hx).1;have h6:=hL.hi;walk_at"rp";refine⟨⟨_,_,rfl,e2⟩,x,t,rfl,sv.mono (z7 s2),Bx t Bv,λp H3 ss s3 hp nds jV _=>?_⟩;walk_at"rp";have CJ:ss.length<=40:=yM (wx nds λy hy=>(jV y).mp hy) (yM (yl t) (Bx t Bv));refine⟨_,_,s3 _ _ e2,.inr hp,by rw[zX,zX,zM];lia,bA++ss,some x,rfl,by rw[zy,yW],λy=>?_,by rw[zL];lia,zo (s2.trans s3) n1 _⟩;rw[zP,hm y,jV y,o6 ht,zP]
 ·rintro σ H2 ⟨bA,iv,rfl,e2,hm,hc,s2⟩;rw[hl,yT]at hm;have h6:=hL.hi;walk_at"rp";refine .inl ⟨_,.inl (SqL.of e2),by unfold scanBound;lia,λcW hn hs=>?_,λcW hn TD iH p H3 n3 s3 e3=>?_⟩
  ·have:=wx hn λy hy=>hL.nm y ((hm y).mp (hs y hy));have:=hL.xl;lia
  ·walk_at"rp";exact⟨_,.inl (SqL.of e3),λp' H4 s4 h4=>q p' H4 cW (s2.trans (s3.trans s4)) h4 ⟨hn,λy=>(TD y).trans (hm y),iH⟩⟩
def okB(ts:List Say)(n:Nat):Prop:=(1<=ts.length/\ts.length<=6)/\(1<=n/\n<=21)/\(∀t∈ts,t.pieces<=40)/\∀ss,NamesOf ts ss->ss.length<=5
def noB(ts:List Say)(n:Nat):Prop:=ts.length<1\/6<ts.length\/n<1\/21<n\/(∃t∈ts,40<t.pieces)\/∀ss,NamesOf ts ss->5<ss.length
def OobE(Co:Addr)(H:Hp)(E:XK):Prop:=∀(a:Addr)(H':Hp),Same H H'->H' a=some (exO a Co none false)->E (.ref a) none H'
def Kz(K:W.Frag)(Co:Addr):Sp:=λvs H Q E=>∃(b j:Addr)(us ws:List V)(ts:List Say)(xs:List Str),vs=[.ref b,.ref j]/\SqT K H b us/\SaysAt K H us ts/\SqT K H j ws/\ar ts xs/\(∀t∈ts,t.pieces<=130)/\ws.length<=2000/\((okB ts ws.length/\∀H',Same H H'->Q .non H')\/(noB ts ws.length/\OobE Co H E))
theorem sc_cb:zr ["sayings","judges"] ["sayings","judges"] (z4 (top 25)):=⟨rfl,rfl,rfl,by decide +kernel,rfl,by decide +kernel,by decide +kernel⟩
theorem Jl{Co:Addr}{t1 t2 t3 t4:Tok}(D:Def K mg "check_bounds" (top 25) ["sayings","judges"])(iE:zv P w K mg base 130 "pieces_in" ["saying"] (ql K 130))(jP:zv P w K mg base 42 "names_of" ["sayings"] (dh K))(aT:vt K Co)(aP:mg "OutOfBounds"=some (.ref Co))(bX:mg "MOST_SAYINGS"=some (.int 6 t1))(dL:mg "MOST_NAMES"=some (.int 5 t2))(aS:mg "MOST_PIECES"=some (.int 40 t3))(cO:mg "MOST_JUDGES"=some (.int 21 t4))(aD:mg "len"=none)(rT:mg "any"=none):ym P w K mg base 131 "check_bounds" ["sayings","judges"] (Kz K Co):=by
 refine D.calleeX sc_cb (λvs H Q E h=>?_) λf cdv A outer s H vs Q E hr h=>?_
 ·obtain⟨b,j,us,ws,ts,xs,rfl,_⟩:=h
  rfl
 have nd:=sc_cb.nd;obtain⟨b,j,us,ws,ts,xs,rfl,hb,hT,hj,hL,Bx,hw,hq⟩:=h;have qn:¬okB ts ws.length->OobE Co H E:=λno=>hq.elim (λz=>absurd z.1 no) λz=>z.2;have hul:=hT.len;have h7:=hL.hi;have oob:∀{H1:Hp}{a:Addr},Same H H1->H1 a=none->¬okB ts ws.length->E (.ref a) none (upd (upd H1 a (exO a Co none true)) a (exO a Co none false)):=λ{H1 a} s1 na no=>qn no a _ (zo (zo s1 (ze s1 na) _) (ze s1 na) _) zy;refine⟨[some (.ref b),some (.ref j)],_,rfl,(z5 (zd (PW.pt (r8 (zh Wc (zq xz rfl aD yt (z9 (z8 0) z6)) zz (zk _)) (ur (zh bw (zq xz rfl aD yt (z9 (z8 0) z6)) (sk bX) (zk _))))) (z0 (yi (xf aT aP (z9 zx z6)) w6 rfl)) zm)
  (z5 (zd (PW.pt (r8 (zh Wc (zq xz rfl aD yt (z9 (z8 1) z6)) zz (zk _)) (ur (zh bw (zq xz rfl aD yt (z9 (z8 1) z6)) (sk cO) (zk _))))) (z0 (yi (xf aT aP (z9 zx z6)) w6 rfl)) zm)
  (z5 (zd (wn (zq (Iz rfl) rfl rT Lp (z9 (x6 (ixs:=[]) (y8 (own:=["saying"]) (N:=[]) rfl rfl rfl rfl rfl rfl rfl (by decide +kernel) rfl rfl rfl) rfl (yx (z8 0)) (λ_ _ _ _=>yg) (λ_ _ _ _=>(xy bw (zp iE hr (by lia) (z9 (z8 0) z6)) (sk aS) (zk _))) rfl) z6))) (z0 (yi (xf aT aP (z9 zx z6)) w6 rfl)) zm)
  (z0 (zd (zh bw (zq xz rfl aD yt (z9 (zp jP hr (by lia) (z9 (z8 0) z6)) z6)) (sk dL) (zk _)) (z0 (yi (xf aT aP (z9 zx z6)) w6 rfl)) zm))))),?_⟩
 have kL:∀{H1:Hp}{x:Str},Same H H1->¬okB ts ws.length->([V.str x].length<=sizeLine/\∀a,H1 a=none->∃pO C dx,V.ref a=V.ref pO/\upd H1 a (exO a Co none true) pO=some (exO pO C dx true)/\XCls K C/\E (Value.ref pO) dx (upd (upd H1 a (exO a Co none true)) pO (exO pO C dx false))):=λ{H1 x} s1 no=>⟨by simp only[yJ,wO];rw[zM];decide,λa na=>⟨a,Co,none,rfl,zy,aT.x,oob s1 na no⟩⟩
 walk_at"rp";refine⟨_,.inr hb,?_⟩;rw[hul];refine w9 (λc=>?_) λc=>?_
 ·exact kL (Same.refl _) λo=>by have:=o.1.1;have:=yZ c;lia
 refine⟨_,.inr hb,?_⟩;rw[hul];refine w9 (λc2=>?_) λc2=>?_
 ·exact kL (Same.refl _) λo=>by have:=o.1.2;have:=yZ c2;lia
 have CP:1<=ts.length:=by
  rcases vZ ts.length 1 with z|z
  ·exact absurd (zO (by lia)) c
  ·exact z
 have h6:ts.length<=6:=by
  rcases vZ 6 ts.length with z|z
  ·exact absurd (zO (by lia)) c2
  ·exact z
 walk_at"rp";refine⟨_,.inr hj,?_⟩;refine w9 (λc3=>?_) λc3=>?_
 ·exact kL (Same.refl _) λo=>by have:=o.2.1.1;have:=yZ c3;lia
 refine⟨_,.inr hj,?_⟩;refine w9 (λc4=>?_) λc4=>?_
 ·exact kL (Same.refl _) λo=>by have:=o.2.1.2;have:=yZ c4;lia
 have hw1:1<=ws.length:=by
  rcases vZ ws.length 1 with z|z
  ·exact absurd (zO (by lia)) c3
  ·exact z
 have hw21:ws.length<=21:=by
  rcases vZ 21 ws.length with z|z
  ·exact absurd (zO (by lia)) c4
  ·exact z
 walk_at"rp";refine .inr ⟨⟨_,hb⟩,λC s₀ H₀ ex=>?_⟩;refine xo (xs:=us) (λD i ys H2=>ys=((ts.take i).map λt=>decide (40<(t.pieces:Int))).map V.bl/\i<=ts.length/\H2 D=some (.lst ys)/\Same H H2/\H D=none) (by rw[hul,zM];lia) ?_ ?_ ?_ ?_
 ·intro D H2 n2 s2 e2;exact⟨rfl,yV _,e2,s2,n2⟩
 ·rintro D i ys H2 ⟨rfl,hi,e2,s2,_⟩;exact⟨(z7 s2).sqT hb,e2,by simp;lia⟩
 ·rintro D i v ys H2 hv ⟨rfl,hi,e2,s2,n2⟩;obtain⟨t,ht,sv⟩:=hT.at i v hv;have Bv:=zN ht;have bE:i<ts.length:=(zV.mp ht).1;walk_at"rp";refine⟨v,t,rfl,sv.mono (z7 s2),Bx t Bv,λH3 s3=>?_⟩;walk_at"rp";refine⟨s3 _ _ e2,CN.mk (by lia) ⟨?_,bE,zy,zo (s2.trans s3) n2 _,n2⟩⟩;rw[yY,ht,yW,yW]
  rfl
 rintro D1 ys1 H1 ⟨rfl,_,e1,s1,n1⟩;rw[hul,yT]at e1;walk_at"rp";refine⟨_,SqL.of e1,?_⟩;refine w9 (λc5=>?_) λc5=>?_
 ·refine kL s1 λo=>?_;obtain⟨b',eZ,e'⟩:=wT.mp c5;obtain⟨t,ht,rfl⟩:=zC.mp eZ;have h1:=o.2.2.1 t ht;have h2:=yZ e';lia
 have S':∀t∈ts,t.pieces<=40:=λt ht=>by
  rcases vZ 40 t.pieces with z|z
  ·exact absurd (show(ts.map λt=>decide (40<(t.pieces:Int))).any id=true from wT.mpr ⟨true,zC.mpr ⟨t,ht,zO (by lia)⟩,rfl⟩) c5
  ·exact z
 walk_at"rp";refine⟨b,us,ts,xs,rfl,(z7 s1).sqT hb,hT.mono (z7 s1),hL,S',λp H2 ss s2 hp hN=>?_⟩;walk_at"rp";refine⟨_,.inr hp,?_⟩;rw[zX];refine w9 (λc6=>?_) λc6=>?_
 ·exact kL (s1.trans s2) λo=>by have:=o.2.2.2 ss hN;have:=yZ c6;lia
 ·have h5:ss.length<=5:=by
   rcases vZ 5 ss.length with z|z
   ·exact absurd (zO (by lia)) c6
   ·exact z
  refine hq.elim (λz=>z.2 H2 (s1.trans s2)) λz=>?_;rcases z.1 with z|z|z|z|⟨t,ht,z⟩|z
  ·lia
  ·lia
  ·lia
  ·lia
  ·have:=S' t ht;lia
  ·have:=z ss hN;lia
def Yg(K:W.Frag):Sp:=λvs H Q _=>∃(r:Addr)(v:V)(R:List (Addr×List Bool))(d:PyData),vs=[.ref r,v]/\H r=some (.lst (R.map λq=>V.ref q.1))/\(∀q∈R,SqT K H q.1 (q.2.map V.bl))/\R.length<=32/\Has K H v d/\PyData.canLay0 d=true /\
 (((R.map (·.2)).any λk=>PyData.eqv (u3 k) d)=false->∀H',Same H H'->Q (.bl false) H') /\
 (((R.map (·.2)).any λk=>PyData.eqv (u3 k) d)=true->∃(a:Addr)(zs:List V)(gs:List Bool),v = .ref a/\SqT K H a zs/\zs.length<=100/\gs.length=zs.length/\(∀(i:Nat) z g,zs[i]?=some z->gs[i]?=some g->(∃b,z = .bl b/\g=true)\/∃n,z = .int n/\g=false)/\∀H',Same H H'->Q (.bl (gs.all id)) H')
theorem sc_among:zr ["rows","row"] ["rows","row"] (z4 (top 26)):=⟨rfl,rfl,rfl,by decide +kernel,rfl,by decide +kernel,by decide +kernel⟩
theorem V2:W.kitOne K (.type "int") (.type "bool")=some false:=by rfl
theorem w8(c:String):W.kitOne K (.type c) (.type c)=some true:=by
 unfold W.kitOne;rw[zH (tH _)]
theorem S8(D:Def K mg "is_among" (top 26) ["rows","row"])(rU:mg "all"=none)(aA:mg "isinstance"=none)(bG:mg "bool"=none):zv P w K mg base 1 "is_among" ["rows","row"] (Yg K):=by
 refine D.callee sc_among (λvs H Q E h=>?_) λf cdv A outer s H vs Q E hr h=>?_
 ·obtain⟨r,v,R,d,rfl,_⟩:=h
  rfl
 have nd:=sc_among.nd;obtain⟨r,v,R,d,rfl,hr0,hR,h32,hd,hc,qn,qy⟩:=h;refine⟨[some (.ref r),some v],_,rfl,(z0 (zt (oi (xy (I0 hr.units) (z8 1) (z8 0) (by with_unfolding_all rfl)) (uq (zq (Iy rfl) rfl rU Lo (z9 (x6 (ixs:=[]) (y8 (own:=["truth"]) (N:=[]) rfl rfl rfl rfl rfl rfl rfl (by decide +kernel) rfl rfl rfl) rfl (yx (z8 1)) (λ_ _ _ _=>yg) (λ_ _ _ _=>(zq u6 rfl aA zi (z9 (z8 0) (z9 (xx (v:=.ty "bool") rfl bG pz rfl) z6)))) rfl) z6)))))),?_⟩;walk_at"rp";have Ej:=k4 (R.map (·.2));refine⟨d,(R.map (·.2)).map u3,hd,(by unfold Has;exact⟨r,_,rfl,SqL.of hr0,o9 hR⟩),hc,Ej.1,by have:=Ej.2;lia,?_⟩;rw[List.any_map];rw[show((R.map (·.2)).any ((λy=>PyData.eqv y d)∘u3))=((R.map (·.2)).any λk=>PyData.eqv (u3 k) d)from rfl];cases hb:((R.map (·.2)).any λk=>PyData.eqv (u3 k) d)with
 |false =>
  walk_at"rp";exact qn hb H (Same.refl _)
 |true =>
  obtain⟨a,zs,gs,rfl,ha,hz,hgl,hk,q⟩:=qy hb;walk_at"rp";refine .inr ⟨⟨_,ha⟩,λC s₀ H₀ ex=>?_⟩;refine xo (xs:=zs) (λD i ys H2=>ys=(gs.take i).map V.bl/\i<=gs.length/\H2 D=some (.lst ys)/\Same H H2/\H D=none) (by rw[zM];lia) ?_ ?_ ?_ ?_
  ·intro D H2 n2 s2 e2;exact⟨rfl,yV _,e2,s2,n2⟩
  ·rintro D i ys H2 ⟨rfl,hi,e2,s2,_⟩;exact⟨(z7 s2).sqT ha,e2,by simp;lia⟩
  ·rintro D i z ys H2 hv ⟨rfl,hi,e2,s2,n2⟩;have bE:i<zs.length:=(zV.mp hv).1;obtain⟨g,hg⟩:∃g,gs[i]?=some g:=⟨_,yE (by lia)⟩
   have bZ:∀g',g'=g->(H2 D=some (.lst ((gs.take i).map V.bl))/\CN zs.length i ((gs.take i).map V.bl++[V.bl g']=(gs.take (i+1)).map V.bl/\i+1<=gs.length/\upd H2 D (.lst ((gs.take i).map V.bl++[V.bl g'])) D=some (.lst ((gs.take i).map V.bl++[V.bl g']))/\Same H (upd H2 D (.lst ((gs.take i).map V.bl++[V.bl g'])))/\H D=none)):=λg' e=>by
    subst e;refine⟨e2,CN.mk bE ⟨?_,by lia,zy,zo s2 n2 _,n2⟩⟩;rw[yY,hg,yW]
    rfl
   rcases hk i z g hv hg with⟨b,rfl,rfl⟩|⟨n,rfl,rfl⟩
   ·walk_at"rp";refine⟨_,true,.of (.bl _),w8 _,?_⟩;exact bZ true rfl
   ·walk_at"rp";refine⟨_,false,.of (.int _),V2,?_⟩;exact bZ false rfl
  ·rintro D ys H2 ⟨rfl,hi,e2,s2,n2⟩;rw[<-hgl,yT]at e2;walk_at"rp";exact⟨gs,SqL.of e2,q H2 s2⟩
def jm(K:W.Frag)(C:Addr):Sp:=λvs H Q _=>∃(a:Addr)(v:V)(n:Bool),vs=[.ref a,v]/\H a=some (exO a C none n)/\∀dx,H dx=none->Q .non (upd (upd H dx (.xd [("number",v)])) a (exO a C (some dx) n))
theorem sc_badrow:zr ["self","number"] ["self","number"] (z4 (za (top 4) 0)):=⟨rfl,rfl,rfl,by decide +kernel,rfl,by decide +kernel,by decide +kernel⟩
theorem Zk{C:Addr}(D:DefI K C "BadRow.__init__" (za (top 4) 0) ["self","number"])(xb:XCls K C)(ht:W.takerIn K C "number"=some none):mq P w K mg base 1 C ["self","number"] (jm K C):=by
 refine D.callee sc_badrow (λvs H Q E h=>?_) λf cdv A outer s H vs Q E hr h=>?_
 ·obtain⟨a,v,n,rfl,_⟩:=h
  rfl
 have nd:=sc_badrow.nd;obtain⟨a,v,n,rfl,ea,q⟩:=h;refine⟨[some (.ref a),some v],_,rfl,(z0 (Ql (z8 0) (z8 1) rfl)),?_⟩;walk_at"rp";exact⟨a,C,n,rfl,ea,xb,ht,q⟩
def Jdg(K:W.Frag)(H:Hp)(R:List (List Bool))(v:V)(g:Bool):Prop:=∃d,Has K H v d/\PyData.canLay0 d=true /\
 (((R.any λk=>PyData.eqv (u3 k) d)=false/\g=false)\/((R.any λk=>PyData.eqv (u3 k) d)=true/\∃(a:Addr)(zs:List V)(gs:List Bool),v = .ref a/\SqT K H a zs/\zs.length<=100/\gs.length=zs.length/\(∀(i:Nat) z g,zs[i]?=some z->gs[i]?=some g->(∃b,z = .bl b/\g=true)\/∃n,z = .int n/\g=false)/\g=gs.all id))
mutual
theorem bi{H H':Hp}(s:Same H H'):∀(d:PyData)(v:V),Has K H v d->Has K H' v d
 | .none,v,h=>by simpa[Has]using h
 | .bool b,v,h=>by simpa[Has]using h
 | .int i,v,h=>by simpa[Has]using h
 | .str x,v,h=>by simpa[Has]using h
 | .tuple ds,v,h=>by
  have h':∃a xs,v = .ref a/\SqT K H a xs/\HasL K H xs ds:=by simpa[Has]using h
  obtain⟨a,xs,rfl,hq,hl⟩:=h';unfold Has;exact⟨a,xs,rfl,(z7 s).sqT hq,hasL_same s ds xs hl⟩
 | .list ds,v,h=>by
  have h':∃a xs,v = .ref a/\SqL K H a xs/\HasL K H xs ds:=by simpa[Has]using h
  obtain⟨a,xs,rfl,hq,hl⟩:=h';unfold Has;exact⟨a,xs,rfl,s.seq hq,hasL_same s ds xs hl⟩
 | .dict _,v,h=>by
  have h':False:=by simpa[Has]using h
  exact h'.elim
theorem hasL_same{H H':Hp}(s:Same H H'):∀(ds:List PyData)(xs:List V),HasL K H xs ds->HasL K H' xs ds
 |[],xs,h=>by simpa[HasL]using h
 |d::ds,xs,h=>by
  have h':∃y ys,xs=y::ys/\Has K H y d/\HasL K H ys ds:=by simpa[HasL]using h
  obtain⟨y,ys,rfl,h1,h2⟩:=h';unfold HasL;exact⟨y,ys,rfl,bi s d y h1,hasL_same s ds ys h2⟩
end
theorem Jdg.same{H H':Hp}{R:List (List Bool)}{v:V}{g:Bool}(s:Same H H')(h:Jdg K H R v g):Jdg K H' R v g:=by
 obtain⟨d,h1,h2,h3⟩:=h;refine⟨d,bi s d v h1,h2,?_⟩;rcases h3 with h3|⟨h4,a,zs,gs,e,ha,r⟩
 ·exact .inl h3
 ·exact .inr ⟨h4,a,zs,gs,e,(z7 s).sqT ha,r⟩
def BadE(Cr:Addr)(H:Hp)(n:Nat)(E:XK):Prop:=∀(a dx:Addr)(H':Hp),Same H H'->H' a=some (exO a Cr (some dx) false)->H' dx=some (.xd [("number",.int (n:Int))])->E (.ref a) (some dx) H'
def N2(K:W.Frag)(Cr:Addr):Sp:=λvs H Q E=>∃(b j:Addr)(us ws:List V)(ts:List Say)(xs:List Str)(gs:List Bool),vs=[.ref b,.ref j]/\SqT K H b us/\SaysAt K H us ts/\Lst ts xs/\SqT K H j ws/\ws.length<=100/\gs.length=ws.length/\(∀ss R,NamesOf ts ss->FitRows ts ss R->∀(i:Nat) v g,ws[i]?=some v->gs[i]?=some g->Jdg K H R v g)/\((∀g∈gs,g=true)->∀H',Same H H'->Q .non H')/\(∀n,gs[n]?=some false->(∀g∈gs.take n,g=true)->BadE Cr H n E)
theorem sc_cr:zr ["sayings","judges","rows","number","row"] ["sayings","judges"] (z4 (top 27)):=⟨rfl,rfl,rfl,by decide +kernel,rfl,by decide +kernel,by decide +kernel⟩
theorem Jm{Cr:Addr}(D:Def K mg "check_rows" (top 27) ["sayings","judges"])(Ak:zv P w K mg base 44 "fit_rows" ["sayings"] (sx K))(Aj:zv P w K mg base 1 "is_among" ["rows","row"] (Yg K))(BL:mq P w K mg base 1 Cr ["self","number"] (jm K Cr))(cN:mg "BadRow"=some (.ref Cr))(xr:XCls K Cr)(dX:mg "enumerate"=none):ym P w K mg base 45 "check_rows" ["sayings","judges"] (N2 K Cr):=by
 refine D.calleeX sc_cr (λvs H Q E h=>?_) λf cdv A outer s H vs Q E hr h=>?_
 ·obtain⟨b,j,us,ws,ts,xs,gs,rfl,_⟩:=h
  rfl
 have nd:=sc_cr.nd;obtain⟨b,j,us,ws,ts,xs,gs,rfl,hb,hT,hL,hj,hw,hgl,hJ,qy,qn⟩:=h;refine⟨[some (.ref b),some (.ref j),none,none,none],_,rfl,(z5 (zg 2 nd (zp Ak hr (by lia) (z9 (z8 0) z6)))
  (z0 (f6 rfl (Mf rfl dX (z9 (z8 1) z6)) (Oq 3 4 rfl nd) (z0 (zd (t8 (wn (zp Aj hr (by lia) (z9 (z8 2) (z9 (z8 4) z6))))) (z0 (yi (Mg BL hr (by lia) cN (z9 (z8 3) z6)) Yb rfl)) zm))))),?_⟩
 walk_at"rp";refine⟨b,us,ts,xs,rfl,hb,hT,hL,λp H1 ss R n1 s1 e1 hR hN hF h32=>?_⟩;walk_at"rp";refine⟨⟨_,(z7 s1).sqT hj⟩,?_⟩;refine Y9 (xs:=ws) (λi σ H2=>(∃x3 x4,σ=[some (.ref b),some (.ref j),some (.ref p),x3,x4])/\Same H1 H2/\∀g∈gs.take i,g=true) ⟨⟨_,_,rfl⟩,Same.refl _,λg hg=>by simp at hg⟩ ?_ ?_ ?_
 ·rintro i σ H2 _ ⟨_,s2,_⟩;exact(z7 (s1.trans s2)).sqT hj
 ·rintro i v σ H2 H3 hv ⟨⟨x3,x4,rfl⟩,s2,cR⟩ s3;have hi:i<ws.length:=(zV.mp hv).1;obtain⟨g,hg⟩:∃g,gs[i]?=some g:=⟨_,yE (by lia)⟩
  have s13:=s2.trans s3;have s03:=s1.trans s13;obtain⟨d,h1,h2,h3⟩:=(hJ ss _ hN hF i v g hv hg).same s03;walk_at"rp";refine⟨p,v,R,d,rfl,s13 _ _ e1,λq hq=>(z7 s13).sqT (hR q hq),h32,h1,h2,λno H4 s4=>?_,λBa=>?_⟩
  ·have eg:g=false:=by
    rcases h3 with h3|⟨h4,_⟩
    ·exact h3.2
    ·rw[no]at h4;cases h4
   subst eg;have AQ:=s03.trans s4;walk_at"rp";refine⟨by rw[zM];simp,λa ha=>⟨a,.int (i:Int),true,rfl,zy,λdx oH=>⟨rfl,a,Cr,some dx,rfl,zy,xr,?_⟩⟩⟩;have Eo:dx≠a:=λz=>by rw[z,zy]at oH;cases oH
   have hd5:H4 dx=none:=by rw[zj Eo]at oH;exact oH
   have s6:Same H4 (upd (upd (upd (upd H4 a (exO a Cr none true)) dx (.xd [("number",.int (i:Int))])) a (exO a Cr (some dx) true)) a (exO a Cr (some dx) false)):=zo (zo (zo (zo (Same.refl _) ha _) hd5 _) ha _) ha _;exact qn i hg cR a dx _ (AQ.trans s6) zy (by rw[zj Eo,zj Eo,zy])
  ·rcases h3 with⟨h4,_⟩|⟨_,a,zs,gz,e,ha,hz,hgz,hk,eg⟩
   ·rw[Ba]at h4;cases h4
   refine⟨a,zs,gz,e,ha,hz,hgz,hk,λH4 s4=>?_⟩;have AQ:=s03.trans s4;rw[<-eg];cases g with
   |true =>
    walk_at"rp";refine⟨⟨_,_,rfl⟩,s13.trans s4,λg' TR=>?_⟩;rw[yY,hg]at TR;rcases zP.mp TR with z|z
    ·exact cR g' z
    ·exact zS.mp z
   |false =>
    walk_at"rp";refine⟨by rw[zM];simp,λa ha=>⟨a,.int (i:Int),true,rfl,zy,λdx oH=>⟨rfl,a,Cr,some dx,rfl,zy,xr,?_⟩⟩⟩;have Eo:dx≠a:=λz=>by rw[z,zy]at oH;cases oH
    have hd5:H4 dx=none:=by rw[zj Eo]at oH;exact oH
    have s6:Same H4 (upd (upd (upd (upd H4 a (exO a Cr none true)) dx (.xd [("number",.int (i:Int))])) a (exO a Cr (some dx) true)) a (exO a Cr (some dx) false)):=zo (zo (zo (zo (Same.refl _) ha _) hd5 _) ha _) ha _;exact qn i hg cR a dx _ (AQ.trans s6) zy (by rw[zj Eo,zj Eo,zy])
 ·rintro σ H2 ⟨⟨x3,x4,rfl⟩,s2,cR⟩;walk_at"rp";rw[<-hgl,yT]at cR;exact qy cR H2 (s1.trans s2)
inductive Vd where
 |bounds
 |row (n:Nat)
 |even
 |ok
def JdgsAt(K:W.Frag)(H:Hp)(ts:List Say)(ws:List V)(gs:List Bool):Prop:=∀ss R,NamesOf ts ss->FitRows ts ss R->∀(i:Nat) v g,ws[i]?=some v->gs[i]?=some g->Jdg K H R v g
def G8(K:W.Frag)(H:Hp)(ts:List Say)(xs:List Str)(ws:List V):Vd->Prop
 | .bounds=>noB ts ws.length
 | .row n=>(Lst ts xs/\1<=ws.length/\ws.length<=21)/\∃gs:List Bool,gs.length=ws.length/\JdgsAt K H ts ws gs/\gs[n]?=some false/\∀g∈gs.take n,g=true
 | .even=>(Lst ts xs/\1<=ws.length/\ws.length<=21)/\JdgsAt K H ts ws (List.replicate ws.length true)/\ws.length % 2=0
 | .ok=>(Lst ts xs/\1<=ws.length/\ws.length<=21)/\JdgsAt K H ts ws (List.replicate ws.length true)/\ws.length % 2=1
def Og(K:W.Frag)(H:Hp)(b j:Addr)(vd:Vd):Prop:=∃(us ws:List V)(ts:List Say)(xs:List Str),SqT K H b us/\SaysAt K H us ts/\SqT K H j ws/\ar ts xs/\(∀t∈ts,t.pieces<=130)/\ws.length<=2000/\G8 K H ts xs ws vd
theorem JdgsAt.same{H H':Hp}{ts:List Say}{ws:List V}{gs:List Bool}(s:Same H H')(h:JdgsAt K H ts ws gs):JdgsAt K H' ts ws gs:=λss R h1 h2 i v g h3 h4=>(h ss R h1 h2 i v g h3 h4).same s
theorem Zh{ts:List Say}{xs:List Str}{n:Nat}(h:Lst ts xs/\1<=n/\n<=21):okB ts n:=⟨⟨h.1.lo,h.1.hi⟩,h.2,h.1.pc,λss hN=>(h.1.names hN).1⟩
theorem OobE.same{C:Addr}{H H':Hp}{E:XK}(s:Same H H')(h:OobE C H E):OobE C H' E:=λa H2 s2 e=>h a H2 (s.trans s2) e
theorem BadE.same{C:Addr}{H H':Hp}{n:Nat}{E:XK}(s:Same H H')(h:BadE C H n E):BadE C H' n E:=λa dx H2 s2 e1 e2=>h a dx H2 (s.trans s2) e1 e2
def G9(K:W.Frag)(Co Cr Ce b j:Addr)(H:Hp)(Q:VK)(E:XK):Vd->Prop
 | .bounds=>OobE Co H E
 | .row n=>BadE Cr H n E
 | .even=>OobE Ce H E
 | .ok=>∀(p:Addr)(H':Hp),Same H H'->SqT K H' p [.ref b,.ref j]->Q (.ref p) H'
def di(K:W.Frag)(Co Cr Ce:Addr):Sp:=λvs H Q E=>∃(b j:Addr)(vd:Vd),vs=[.ref b,.ref j]/\Og K H b j vd/\G9 K Co Cr Ce b j H Q E vd
theorem sc_seated:zr ["sayings","judges"] ["sayings","judges"] (z4 (top 28)):=⟨rfl,rfl,rfl,by decide +kernel,rfl,by decide +kernel,by decide +kernel⟩
theorem Wq{Co Cr Ce:Addr}(D:Def K mg "seated" (top 28) ["sayings","judges"])(oB:ym P w K mg base 131 "check_bounds" ["sayings","judges"] (Kz K Co))(qF:ym P w K mg base 45 "check_rows" ["sayings","judges"] (N2 K Cr))(lN:vt K Ce)(iG:mg "Even"=some (.ref Ce))(aD:mg "len"=none):ym P w K mg base 132 "seated" ["sayings","judges"] (di K Co Cr Ce):=by
 refine D.calleeX sc_seated (λvs H Q E h=>?_) λf cdv A outer s H vs Q E hr h=>?_
 ·obtain⟨b,j,vd,rfl,_⟩:=h
  rfl
 have nd:=sc_seated.nd;obtain⟨b,j,vd,rfl,⟨us,ws,ts,xs,hb,hT,hj,hL,hp,hw,hD⟩,q⟩:=h;refine⟨[some (.ref b),some (.ref j)],_,rfl,(z5 (yw (wk oB yq hr (by lia) (z9 (z8 0) (z9 (z8 1) z6))))
  (z5 (yw (wk qF yq hr (by lia) (z9 (z8 0) (z9 (z8 1) z6))))
  (z5 (zd (zh (ya hr.units) (zn u7 (zq xz rfl aD yt (z9 (z8 1) z6)) zz) zz (zk _)) (z0 (yi (xf lN iG (z9 zx z6)) w6 rfl)) zm)
  (z0 (zt (u9 (z9 (z8 0) (z9 (z8 1) z6)))))))),?_⟩
 walk_at"rp"
 by_cases hv:∃z:G8 K H ts xs ws .bounds,vd = .bounds
 ·obtain⟨z,rfl⟩:=hv;exact⟨b,j,us,ws,ts,xs,rfl,hb,hT,hj,hL,hp,hw,.inr ⟨z,q⟩⟩
 have hok:okB ts ws.length:=by
  cases vd with
  |bounds=>exact absurd ⟨hD,rfl⟩ hv
  |row n=>exact Zh hD.1
  |even=>exact Zh hD.1
  |ok=>exact Zh hD.1
 refine⟨b,j,us,ws,ts,xs,rfl,hb,hT,hj,hL,hp,hw,.inl ⟨hok,λH1 s1=>?_⟩⟩;have hj1:=(z7 s1).sqT hj;walk_at"rp";have go:∀(Q2:VK)(gs:List Bool),(Lst ts xs/\1<=ws.length/\ws.length<=21)->gs.length=ws.length->JdgsAt K H ts ws gs->(((∀g∈gs,g=true)->∀H',Same H1 H'->Q2 .non H')/\∀n,gs[n]?=some false->(∀g∈gs.take n,g=true)->BadE Cr H1 n E)->N2 K Cr [V.ref b,V.ref j] H1 Q2 E:=λQ2 gs hL hg hJ k=>⟨b,j,us,ws,ts,xs,gs,rfl,(z7 s1).sqT hb,hT.mono (z7 s1),hL.1,hj1,by lia,hg,hJ.same s1,k.1,k.2⟩
 cases vd with
 |bounds=>exact absurd ⟨hD,rfl⟩ hv
 |row n =>
  obtain⟨h0,gs,hg,hJ,hn,ht⟩:=hD;refine go _ gs h0 hg hJ ⟨λall=>?_,λm hm oQ=>?_⟩
  ·have:=all false (zN hn);cases this
  ·have e:m=n:=by
    rcases tT m n with z|z|z
    ·have:=ht false (zN (by rw[vL z];exact hm));cases this
    ·exact z
    ·have:=oQ false (zN (by rw[vL z];exact hn));cases this
   subst e;exact BadE.same s1 q
 |even =>
  obtain⟨h0,hJ,h2⟩:=hD;refine go _ _ h0 List.length_replicate hJ ⟨λ_ H2 s2=>?_,λm hm _=>?_⟩
  ·walk_at"rp";refine⟨_,.inr ((z7 s2).sqT hj1),by decide,?_⟩;rw[show decide (((ws.length:Nat):Int) % 2=0)=true from zO (by lia)];walk_at"rp";refine⟨by rw[zM];simp,λa na=>⟨a,Ce,none,rfl,zy,lN.x,?_⟩⟩;have qV:=s1.trans s2;exact q a _ (zo (zo qV (ze qV na) _) (ze qV na) _) zy
  ·have:=List.eq_of_mem_replicate (zN hm);cases this
 |ok =>
  obtain⟨h0,hJ,h2⟩:=hD;refine go _ _ h0 List.length_replicate hJ ⟨λ_ H2 s2=>?_,λm hm _=>?_⟩
  ·walk_at"rp";refine⟨_,.inr ((z7 s2).sqT hj1),by decide,?_⟩;rw[show decide (((ws.length:Nat):Int) % 2=0)=false from zA (by lia)];walk_at"rp";exact⟨zc (by simp),λp H3 n3 s3 e3=>q p H3 (s1.trans (s2.trans s3)) (SqT.of e3)⟩
  ·have:=List.eq_of_mem_replicate (zN hm);cases this
def Ov(C:Addr):Sp:=λvs H Q _=>∃(o dx:Addr)(x:Str),vs=[.ref o,.str x]/\H o=some (.ins C dx [])/\∀H',SameA o H H'->H' o=some (.ins C dx (rdF x 0 0))->Q .non H'
theorem sc_rdinit:zr ["self","text"] ["self","text"] (z4 (za (top 34) 0)):=⟨rfl,rfl,rfl,by decide +kernel,rfl,by decide +kernel,by decide +kernel⟩
theorem Wp{C:Addr}{ds:List Value}(D:DefN K C "Reading.__init__" (za (top 34) 0) ["self","text"] ds)(rc:RdC K C):mr P w K mg base 1 C ["self","text"] ds (Ov C):=by
 refine D.callee sc_rdinit (λvs H Q E h=>?_) λf cdv A outer s H vs Q E hr h=>?_
 ·obtain⟨o,dx,x,rfl,_⟩:=h
  rfl
 have nd:=sc_rdinit.nd;obtain⟨o,dx,x,rfl,ho,q⟩:=h;refine⟨[some (.ref o),some (.str x)],_,rfl,(z5 (pj (z8 0) (z8 1) rfl)
  (z5 (pj (z8 0) zz rfl)
  (z0 (pj (z8 0) zz rfl)))),?_⟩
 walk_at"rp";refine⟨o,C,dx,_,rfl,ho,rc.cl,rc.t,by decide,?_⟩;walk_at"rp";refine⟨o,C,dx,_,rfl,zy,rc.cl,rc.p,(show(1:Nat)<1000 by decide),?_⟩;walk_at"rp";refine⟨o,C,dx,_,rfl,zy,rc.cl,rc.n,(show(2:Nat)<1000 by decide),?_⟩;exact q _ ((SameA.upd _ _ _).trans ((SameA.upd _ _ _).trans (SameA.upd _ _ _))) (by rw[zy];rfl)
theorem rf{Cn:Addr}{H H1:Hp}{E:XK}(x0:vt K Cn)(h:OobE Cn H E)(s:Same H H1):∀a,H1 a=none->∃pO C dx,V.ref a=V.ref pO/\upd H1 a (exO a Cn none true) pO=some (exO pO C dx true)/\XCls K C/\E (Value.ref pO) dx (upd (upd H1 a (exO a Cn none true)) pO (exO pO C dx false)):=λa na=>⟨a,Cn,none,rfl,zy,x0.x,h a _ (zo (zo s (ze s na) _) (ze s na) _) zy⟩
def gj(K:W.Frag)(Cn:Addr):Sp:=λvs H Q E=>∃(v:V)(t:Value)(b:Bool),vs=[v]/\TyX K H v t/\W.kitOne K t (.type "str")=some b/\(b=true->Q .non H)/\(b=false->OobE Cn H E)
theorem sc_check:zr ["text"] ["text"] (z4 (top 35)):=⟨rfl,rfl,rfl,by decide +kernel,rfl,by decide +kernel,by decide +kernel⟩
theorem Tc{Cn:Addr}(D:Def K mg "check_text" (top 35) ["text"])(aC:vt K Cn)(aF:mg "NoText"=some (.ref Cn))(aA:mg "isinstance"=none)(gG:mg "str"=none):ym P w K mg base 1 "check_text" ["text"] (gj K Cn):=by
 refine D.calleeX sc_check (λvs H Q E h=>?_) λf cdv A outer s H vs Q E hr h=>?_
 ·obtain⟨v,t,b,rfl,_⟩:=h
  rfl
 have nd:=sc_check.nd;obtain⟨v,t,b,rfl,ht,hk,qy,qn⟩:=h;refine⟨[some v],_,rfl,(z0 (zd (t8 (wn (zq u6 rfl aA zi (z9 (z8 0) (z9 (xx (v:=.ty "str") rfl gG Yx rfl) z6))))) (z0 (yi (xf aC aF (z9 zx z6)) w6 rfl)) zm)),?_⟩;walk_at"rp";refine⟨t,b,ht,hk,?_⟩;cases b with
 |true =>
  walk_at"rp";exact qy rfl
 |false =>
  walk_at"rp";exact⟨zc (by simp),rf aC (qn rfl) (Same.refl _)⟩
def lr(x:List Nat):Option Say:=match yp x 41 40 0 with
 |some (t,_,p)=>if p<x.length then none else some t
 |none=>none
def Oe(K:W.Frag)(H:Hp)(v:V):Prop:=∃t,TyX K H v t/\W.kitOne K t (.type "str")=some false
def gp(K:W.Frag)(Cn:Addr):Sp:=λvs H Q E=>∃v:V,vs=[v]/\((Oe K H v/\OobE Cn H E)\/∃x:Str,v = .str x/\tj x/\(lr x.cps.toList=none->OobE Cn H E)/\∀t,lr x.cps.toList=some t->∀(v':V)(H':Hp),Same H H'->SayAt K H' v' t->Q v' H')
theorem sc_reads:zr ["text","reading","saying"] ["text"] (z4 (top 36)):=⟨rfl,rfl,rfl,by decide +kernel,rfl,by decide +kernel,by decide +kernel⟩
theorem Th{C Cn:Addr}{ds:List Value}(D:Def K mg "read_saying" (top 36) ["text"])(rc:RdC K C)(eN:ym P w K mg base 1 "check_text" ["text"] (gj K Cn))(oC:mr P w K mg base 1 C ["self","text"] ds (Ov C))(jE:mg "Reading"=some (.ref C))(aE:ye P w K mg base 85 C "take_saying" ["self"] (Q5 K C Cn 41))(aC:vt K Cn)(aF:mg "NoText"=some (.ref Cn))(aD:mg "len"=none):ym P w K mg base 86 "read_saying" ["text"] (gp K Cn):=by
 refine D.calleeX sc_reads (λvs H Q E h=>?_) λf cdv A outer s H vs Q E hr h=>?_
 ·obtain⟨v,rfl,_⟩:=h
  rfl
 have nd:=sc_reads.nd;obtain⟨v,rfl,h⟩:=h;refine⟨[some v,none,none],_,rfl,(z5 (yw (wk eN yq hr (by lia) (z9 (z8 0) z6)))
  (z5 (zg 1 nd (Pt oC hr (by lia) jE (z9 (z8 0) z6)))
  (z5 (zg 2 nd (wl aE yq hr (by lia) (z8 1)))
  (z5 (zd (zh Wc (wt (z8 1) rfl) (zq xz rfl aD yt (z9 (z8 0) z6)) (zk _)) (z0 (yi (xf aC aF (z9 zx z6)) w6 rfl)) zm)
  (z0 (zt (z8 2))))))),?_⟩
 walk_at"rp";rcases h with⟨⟨t,ht,hk⟩,qn⟩|⟨x,rfl,hx,qn,qy⟩
 ·exact⟨v,t,false,rfl,ht,hk,(λz=>by cases z),λ_=>qn⟩
 refine⟨.str x,.type "str",true,rfl,.of (.str _),w8 _,λ_=>?_,λz=>by cases z⟩;walk_at"rp";intro o dx no ndx ne;refine⟨o,dx,x,rfl,zy,λH1 s1 h1=>⟨rfl,?_⟩⟩;have s01:Same H H1:=λb u e=>by
  have hbo:b≠o:=λz=>by rw[z,no]at e;cases e
  have hbd:b≠dx:=λz=>by rw[z,ndx]at e;cases e
  exact s1 b u hbo (by rw[zj hbo,zj hbd];exact e)
 have fresh:∀{H2:Hp},SameA o H1 H2->Same H H2:=λ{H2} s2 b u e=>s2 b u (λz=>by rw[z,no]at e;cases e) (s01 b u e);have oR:=xu x;walk_at"rp";refine⟨o,dx,_,rfl,h1,rfl,o,dx,x,0,0,rfl,h1,yV _,hx,by decide,by decide,trivial,?_⟩;show RES K C Cn o dx x H1 _ E (yp x.cps.toList 41 40 0);unfold lr at qn qy;cases e:yp x.cps.toList 41 40 0 with
 |none =>
  rw[e]at qn;exact λa H2 s2 ea=>qn rfl a H2 (fresh s2) ea
 |some z =>
  obtain⟨t,r,p⟩:=z;rw[e]at qn qy;dsimp only at qn qy;intro v2 H2 s2 h2 hv;walk_at"rp";refine⟨o,C,dx,_,_,rfl,h2,rc.cl,rc.p,rfl,?_⟩;walk_at"rp";refine⟨by rw[zM];have:=hx.len;lia,?_⟩;refine w9 (λc=>?_) λc=>?_
  ·have c':=yZ c;exact⟨zc (by simp),rf aC (qn (by rw[zH (by lia)])) (fresh s2)⟩
  ·have c':¬p<x.cps.toList.length:=λz=>c (zO (by lia));walk_at"rp";exact qy t (by rw[zK c']) v2 H2 (fresh s2) hv
def yn(c:Nat):Bool:=decide (c=121)||decide (c=110)
def Wv(l:List Nat)(m:Nat):Option (List Bool):=if nx l 0 (lit "judge ")=true/\(l.drop 6).length=m/\(l.drop 6).all yn=true then some ((l.drop 6).map λc=>decide (c=121))else none
theorem Oy{x y:Str}:Txt.startswith x y=nx x.cps.toList 0 y.cps.toList:=by
 rw[<-Uw (yV _)];unfold Txt.startswith Txt.startswith3
 rfl
theorem rj(x:Str)(n:Nat):Txt.slice x (some (n:Int)) none=⟨(x.cps.toList.drop n).toArray⟩:=by
 have oR:=xu x
 by_cases h:n<=x.length
 ·rw[slice_from_eq (b:=(x.length:Int)) (by lia) (by lia) rfl]
  congr 2
  rw[xV];exact vF (by rw[yG];lia)
 ·rw[slice_beyond (by lia),tV (by lia)]
  rfl
def uu:List (Key×Value):=[(Sum.inr (Str.ofString "y"),.bool true),(Sum.inr (Str.ofString "n"),.bool false)]
theorem pv(c:Nat):valueAt uu (Sum.inr (⟨#[c]⟩:Str))=if c=121 then some (.bool true)else if c=110 then some (.bool false)else none:=by
 have hy:Str.ofString "y"=⟨#[121]⟩:=by decide +kernel
 have hn:Str.ofString "n"=⟨#[110]⟩:=by decide +kernel
 have inj:∀d:Nat,((Sum.inr (⟨#[d]⟩:Str):Key)=Sum.inr (⟨#[c]⟩:Str))↔c=d:=λd=>by
  constructor
  ·intro h;have h2:(⟨#[d]⟩:Str)=⟨#[c]⟩:=Sum.inr.inj h;have h3:=xT (λz:Str=>z.cps.toList) h2;simpa using h3.symm
  ·intro h;rw[h]
 unfold valueAt uu;rw[hy,hn,uV,uV,List.find?_nil]
 by_cases h1:c=121
 ·rw[zH h1,zO ((inj 121).mpr h1)]
  rfl
 ·rw[zK h1,zA λz=>h1 ((inj 121).mp z)]
  by_cases h2:c=110
  ·rw[zH h2,zO ((inj 110).mpr h2)]
   rfl
  ·rw[zK h2,zA λz=>h2 ((inj 110).mp z)]
   rfl
def Ox(K:W.Frag)(Cn:Addr):Sp:=λvs H Q E=>∃(l:Str)(m:Nat),vs=[.str l,.int (m:Int)]/\tj l/\(Wv l.cps.toList m=none->OobE Cn H E)/\∀k,Wv l.cps.toList m=some k->∀(a:Addr)(H':Hp),Same H H'->SqT K H' a (k.map V.bl)->Q (.ref a) H'
theorem sc_row:zr ["line","many","letters","letter"] ["line","many"] (z4 (top 37)):=⟨rfl,rfl,rfl,by decide +kernel,rfl,by decide +kernel,by decide +kernel⟩
theorem Mm{Cn Ta:Addr}(D:Def K mg "read_row" (top 37) ["line","many"])(aC:vt K Cn)(aF:mg "NoText"=some (.ref Cn))(iF:mg "TRUTHS"=some (.ref Ta))(hTr:DictK P w K Ta uu)(aD:mg "len"=none)(aB:mg "tuple"=none):ym P w K mg base 1 "read_row" ["line","many"] (Ox K Cn):=by
 refine D.calleeX sc_row (λvs H Q E h=>?_) λf cdv A outer s H vs Q E hr h=>?_
 ·obtain⟨l,m,rfl,_⟩:=h
  rfl
 have nd:=sc_row.nd;obtain⟨l,m,rfl,hl,qn,qy⟩:=h;have oR:=xu l;have aZ:=hl.len;have A1:(l.cps.toList.drop 6).length=l.length-6:=by rw[yG,oR]
 refine⟨[some (.str l),some (.int (m:Int)),none,none],_,rfl,(z5 (zg 2 nd (xw (z8 0) (xk (zq xz rfl aD yt (z9 zx z6))) xg))
  (z5 (zd (PW.pt (r8 (t8 (wn (bx (z8 0) (z9 zx z6)))) (ur (zh (Sx hr.units) (zq xz rfl aD yt (z9 (z8 2) z6)) (z8 1) (zk _))))) (z0 (yi (xf aC aF (z9 zx z6)) w6 rfl)) zm)
  (z5 (f6 rfl (T0 (z8 2)) (vg 3 nd) (z0 (zd (zh Sy (z8 3) (tw iF) (by with_unfolding_all rfl)) (z0 (yi (xf aC aF (z9 zx z6)) Yb rfl)) zm)))
  (z0 (zt (yh w4 rfl aB yb (z9 (x6 (ixs:=[]) (y8 (own:=["letter"]) (N:=[]) rfl rfl rfl rfl rfl rfl rfl (by decide +kernel) rfl rfl rfl) rfl (T0 (z8 2)) (λ_ _ _ _=>yg) (λ_ _ _ _=>(Po (tw iF) (z8 0) (λ_ _=>rfl))) rfl) z6))))))),?_⟩
 walk_at"rp";refine⟨zc (by decide +kernel),by rw[zM];lia,?_⟩;rw[show(((Str.ofString "judge ").length:Nat):Int)=((6:Nat):Int)from rfl,rj];have FQ:(⟨(l.cps.toList.drop 6).toArray⟩:Str).length=l.length-6:=by rw[<-A1];simp[Str.length]
 have hat:∀i c,(⟨(l.cps.toList.drop 6).toArray⟩:Str).cps[i]?=some c->(l.cps.toList.drop 6)[i]?=some c:=λi c h=>List.getElem?_toArray.symm.trans h;walk_at"rp";rw[Oy];unfold Wv at qn qy;refine w9 (λc=>⟨zc (by simp),rf aC (qn ?_) (Same.refl _)⟩) λc=>?_
 ·rw[zK λz=>?_];rw[show nx l.cps.toList 0 (Str.ofString "judge ").cps.toList=true from z.1]at c;cases c
 refine⟨by rw[FQ,zM];lia,?_⟩;rw[FQ];have hj:nx l.cps.toList 0 (lit "judge ")=true:=by
  cases hb:nx l.cps.toList 0 (lit "judge ")with
  |true=>rfl
  |false=>exact absurd (show(!nx l.cps.toList 0 (Str.ofString "judge ").cps.toList)=true from by rw[show nx l.cps.toList 0 (Str.ofString "judge ").cps.toList=false from hb];rfl) c
 refine w9 (λc2=>⟨zc (by simp),rf aC (qn ?_) (Same.refl _)⟩) λc2=>?_
 ·rw[zK λz=>?_];have z2:=z.2.1;rw[A1]at z2;rw[zO (show(((l.length-6:Nat)):Int)=(m:Int)by lia)]at c2;cases c2
 have hlm:l.length-6=m:=by
  by_cases z:l.length-6=m
  ·exact z
  ·exact absurd (show(!decide ((((l.length-6:Nat)):Int)=(m:Int)))=true from by rw[zA (by lia)];rfl) c2
 walk_at"rp";refine Sm (x:=⟨(l.cps.toList.drop 6).toArray⟩) (λi σ H2=>∃iv:Option V,σ=[some (.str l),some (.int (m:Int)),some (.str ⟨(l.cps.toList.drop 6).toArray⟩),iv]/\Same H H2/\((l.cps.toList.drop 6).take i).all yn=true) ⟨none,rfl,Same.refl _,rfl⟩ ?_ ?_
 ·rintro i ch σ H2 qI ⟨iv,rfl,s2,cR⟩;have AB:=hat i ch qI;walk_at"rp";refine⟨_,_,uu,rfl,rfl,hTr,?_⟩;rw[pv];have hyn:(if ch=121 then some (Value.bool true)else if ch=110 then some (Value.bool false)else none).isSome=yn ch:=by
   unfold yn
   by_cases h1:ch=121
   ·rw[zH h1,zO h1];rfl
   ·by_cases h2:ch=110
    ·rw[zK h1,zH h2,zA h1,zO h2];rfl
    ·rw[zK h1,zK h2,zA h1,zA h2];rfl
  rw[hyn];cases hb:yn ch with
  |true =>
   walk_at"rp";refine⟨_,rfl,s2,?_⟩;rw[yY,AB,List.all_append,cR];simp[hb]
  |false =>
   walk_at"rp";refine⟨zc (by simp),rf aC (qn ?_) s2⟩;rw[zK λz=>?_];have:=xC.mp z.2.2 ch (zN AB);rw[hb]at this;cases this
 ·rintro σ H2 ⟨iv,rfl,s2,cR⟩;rw[FQ,<-A1,yT]at cR;have qy':=qy _ (zH ⟨hj,by rw[A1];exact hlm,cR⟩);walk_at"rp";intro C s₀ H₀ ex;refine Ru (x:=⟨(l.cps.toList.drop 6).toArray⟩) (λD i ys H3=>ys=(((l.cps.toList.drop 6).take i).map λc=>decide (c=121)).map V.bl/\i<=l.length-6/\H3 D=some (.lst ys)/\Same H2 H3/\H2 D=none) (by rw[FQ,zM];lia) ?_ ?_ ?_ ?_
  ·intro D H3 n3 s3 e3;exact⟨rfl,yV _,e3,s3,n3⟩
  ·rintro D i ys H3 ⟨rfl,hi,e3,_⟩;exact⟨e3,by rw[zX,zX,wZ,A1];lia⟩
  ·rintro D i ch ys H3 qI ⟨rfl,hi,e3,s3,n3⟩;have AB:=hat i ch qI;have bE:i<l.length-6:=by have:=(zV.mp AB).1;lia
   have hy:=xC.mp cR ch (zN AB);have bZ:∀b:Bool,b=decide (ch=121)->H3 D=some (.lst ((((l.cps.toList.drop 6).take i).map λc=>decide (c=121)).map V.bl))/\CN (⟨(l.cps.toList.drop 6).toArray⟩:Str).length i (((((l.cps.toList.drop 6).take i).map λc=>decide (c=121)).map V.bl++[V.bl b]=(((l.cps.toList.drop 6).take (i+1)).map λc=>decide (c=121)).map V.bl)/\i+1<=l.length-6/\upd H3 D (.lst ((((l.cps.toList.drop 6).take i).map λc=>decide (c=121)).map V.bl++[V.bl b])) D=some (.lst ((((l.cps.toList.drop 6).take i).map λc=>decide (c=121)).map V.bl++[V.bl b]))/\Same H2 (upd H3 D (.lst ((((l.cps.toList.drop 6).take i).map λc=>decide (c=121)).map V.bl++[V.bl b])))/\H2 D=none):=λb hb=>by
    subst hb;refine⟨e3,CN.mk (by rw[FQ];exact bE) ⟨?_,by lia,zy,zo s3 n3 _,n3⟩⟩;rw[yY,AB,yW,yW]
    rfl
   walk_at"rp"
   by_cases h1:ch=121
   ·refine⟨uu,.bool true,.bl true,hTr,by rw[pv,zH h1],rfl,bZ true (by rw[zO h1])⟩
   ·have h2:ch=110:=by
     unfold yn at hy;rw[zA h1,Bool.false_or]at hy;exact yZ hy
    refine⟨uu,.bool false,.bl false,hTr,by rw[pv,zK h1,zH h2],rfl,bZ false (by rw[zA h1])⟩
  ·rintro D ys H3 ⟨rfl,hi,e3,s3,n3⟩;rw[FQ,<-A1,yT]at e3;walk_at"rp";exact⟨_,.inl (SqL.of e3),λa H4 s4 h4=>qy' a H4 (s2.trans (s3.trans s4)) h4⟩
theorem p8:∀(k ds:List Bool),PyData.eqvAll (k.map PyData.bool) (ds.map PyData.bool)=true->k=ds
 |[],[],_=>rfl
 |[],_::_,h=>by simp[PyData.eqvAll]at h
 |_::_,[],h=>by simp[PyData.eqvAll]at h
 |a::k,b::ds,h=>by
  rw[List.map_cons,List.map_cons,PyData.eqvAll,yN,PyData.eqv]at h;rw[eq_of_beq h.1,p8 k ds h.2]
section
variable {H:Hp}{R:List (List Bool)}
theorem Ic{v:V}{d:PyData}(h:Has K H v d)(hl:PyData.canLay0 d=true)(he:∀k∈R,PyData.eqv (u3 k) d=false):Jdg K H R v false :=
 ⟨d,h,hl,.inl ⟨List.any_eq_false.mpr λk hk=>by rw[he k hk];decide,rfl⟩⟩
theorem L6{a:Addr}{ds:List Bool}(h:SqT K H a (ds.map V.bl))(hn:ds∉R):Jdg K H R (.ref a) false :=
 Ic (e9 h) (ng ds).1 λk hk=>Bool.eq_false_iff.mpr λe=>hn (by
  unfold u3 at e;rw[PyData.eqv]at e;rw[<-p8 k ds e];exact hk)
end
def JL(K:W.Frag)(H:Hp)(ks:List (List Bool)):List V->List Bool->Prop
 |[],[]=>True
 |v::vs,g::gs=>Jdg K H ks v g/\JL K H ks vs gs
 |_,_=>False
section
variable {H H':Hp}{ks:List (List Bool)}
theorem JL.at:∀{vs:List V}{gs:List Bool},JL K H ks vs gs->∀(i:Nat) v g,vs[i]?=some v->gs[i]?=some g->Jdg K H ks v g
 |[],[],_,i,v,g,h,_=>by simp at h
 |_::_,_::_,h,0,v,g,e1,e2=>by
  cases e1;cases e2;exact h.1
 |_::_,_::_,h,i+1,v,g,e1,e2=>JL.at h.2 i v g (by simpa using e1) (by simpa using e2)
 |[],_::_,h,_,_,_,_,_=>h.elim
 |_::_,[],h,_,_,_,_,_=>h.elim
theorem JL.to{ts:List Say}{ss:List Str}{vs:List V}{gs:List Bool}(hN:NamesOf ts ss)(hF:FitRows ts ss ks)(h:JL K H ks vs gs):JdgsAt K H ts vs gs:=λcW R' h1 h2 i v g hv hg=>by
 cases NamesOf.eq h1 hN;cases FitRows.eq h2 hF;exact h.at i v g hv hg
theorem Sa{a:Addr}{k:List Bool}(h:SqT K H a (k.map V.bl))(hk:k∈ks)(hl:k.length<=100):Jdg K H ks (.ref a) true:=by
 refine⟨_,e9 h,(ng k).1,.inr ⟨wT.mpr ⟨k,hk,ba (Z3 k)⟩,a,_,k.map λ_=>true,rfl,h,by rw[zX];exact hl,by simp,λi z g hz hg=>?_,?_⟩⟩
 ·rw[yU]at hz hg;cases hc:k[i]? with
  |none=>rw[hc]at hz;cases hz
  |some b =>
   rw[hc]at hz hg;cases hz;cases hg;exact .inl ⟨b,rfl,rfl⟩
 ·simp
theorem Xp:∀{J:List (Addr×List Bool)},(∀q∈J,SqT K H q.1 (q.2.map V.bl)/\q.2∈ks/\q.2.length<=100)->JL K H ks (J.map λq=>V.ref q.1) (List.replicate J.length true)
 |[],_=>trivial
 |q::J,h=>by
  obtain⟨h1,h2,h3⟩:=h q zB;exact⟨Sa h1 h2 h3,Xp λr hr=>h r (zI _ hr)⟩
end
theorem Pf{ts:List Say}{ss:List Str}{ks:List (List Bool)}(h:FitRows ts ss ks){k:List Bool}(hk:k∈ks):k.length=ts.length:=by
 obtain⟨n,_,rfl⟩:=(h.2.1 k).mp hk;exact sw _ _
theorem df{c:Nat}(h:xt c=true):c=97\/(98<=c/\c<=122):=by
 have h1:c∈Z4:=yZ h;have h2:∀d∈Z4,d=97\/(98<=d/\d<=122):=by decide +kernel
 exact h2 c h1
theorem S6{x:List Nat}{p c:Nat}(h:c∈yd x p):xt c=true:=xC.mp (List.all_takeWhile (p:=xt) (l:=x.drop p)) c h
theorem oq{n:List Nat}(h:∀c∈n,xt c=true):PyData.strOk (⟨n.toArray⟩:Str)=true:=(Q4 _).mpr λc hc=>by
 have:=df (h c (by simpa using hc));lia
theorem Jk{x:List Nat}{p:Nat}(h:t7 (yd x p)=true):Nm (⟨(yd x p).toArray⟩:Str):=by
 unfold t7 at h;rw[yN,yN]at h;have h1:¬6<(yd x p).length:=λz=>by
  have:=h.2.1;rw[zO z]at this;cases this
 refine⟨?_,oq λc hc=>S6 hc⟩;show(yd x p).toArray.size<=20;rw[zQ];lia
theorem vk{x:List Nat}:∀{f r p:Nat}{t:Say}{r' p':Nat},yp x f r p=some (t,r',p')->t.pieces+r'=r/\∀y∈t.letters,Nm y
 |0,r,p,t,r',p',h=>by simp[yp]at h
 |f+1,0,p,t,r',p',h=>by simp[yp]at h
 |f+1,r+1,p,t,r',p',h=>by
  rw[yp]at h;split at h
  ·unfold Tv at h;split at h
   ·rename_i t1 r1 p1 e;cases h;have:=vk e;exact⟨by simp only[Say.pieces];lia,this.2⟩
   ·cases h
  ·split at h
   ·unfold pIf at h;split at h
    ·rename_i t1 r1 p1 e;have i1:=vk e;split at h
     ·obtain⟨t2,p2,e2,CO,rfl,rfl⟩:=su h;have i2:=vk e2;exact⟨by simp only[Say.pieces];lia,λy hy=>(zP.mp hy).elim (i1.2 y) (i2.2 y)⟩
     ·cases h
    ·cases h
   ·split at h
    ·unfold rz at h;split at h
     ·rename_i t1 r1 p1 e;have i1:=vk e;split at h
      ·obtain⟨t2,p2,e2,CO,rfl,rfl⟩:=su h;have i2:=vk e2;exact⟨by simp only[Say.pieces];lia,λy hy=>(zP.mp hy).elim (i1.2 y) (i2.2 y)⟩
      ·split at h
       ·obtain⟨t2,p2,e2,CO,rfl,rfl⟩:=su h;have i2:=vk e2;exact⟨by simp only[Say.pieces];lia,λy hy=>(zP.mp hy).elim (i1.2 y) (i2.2 y)⟩
       ·cases h
     ·cases h
    ·unfold cs at h;split at h
     ·rename_i hok;cases h;exact⟨by simp only[Say.pieces];lia,λy hy=>by rw[zS.mp hy];exact Jk hok⟩
     ·cases h
theorem Ua{x:List Nat}{t:Say}(h:lr x=some t):t.pieces<=40/\∀y∈t.letters,Nm y:=by
 unfold lr at h;split at h
 ·rename_i t1 r1 p1 e;split at h
  ·cases h
  ·cases h;have:=vk e;exact⟨by lia,this.2⟩
 ·cases h
def xn:List Str->List Say->List (List Bool)->Option (List Say×List (List Bool))
 |[],ts,ks=>some (ts,ks)
 |l::ls,ts,ks=>if nx l.cps.toList 0 (lit "say ")=true/\ks=[]then(match lr (l.cps.toList.drop 4)with
   |some t=>xn ls (ts++[t]) ks
   |none=>none)else(match Wv l.cps.toList ts.length with
   |some k=>xn ls ts (ks++[k])
   |none=>none)
def om(ls:List Str):Option (List Say×List (List Bool)):=match xn ls [] []with
 |some (ts,ks)=>if ts=[]\/ks=[]then none else some (ts,ks)
 |none=>none
def Rl(ts:List Say)(xs:List Str)(ks:List (List Bool)):Vd->Prop
 | .bounds=>noB ts ks.length
 | .row n=>(Lst ts xs/\1<=ks.length/\ks.length<=21)/\∃ss R,NamesOf ts ss/\FitRows ts ss R/\(∃k,ks[n]?=some k/\k∉R)/\∀k∈ks.take n,k∈R
 | .even=>(Lst ts xs/\1<=ks.length/\ks.length<=21)/\(∃ss R,NamesOf ts ss/\FitRows ts ss R/\∀k∈ks,k∈R)/\ks.length % 2=0
 | .ok=>(Lst ts xs/\1<=ks.length/\ks.length<=21)/\(∃ss R,NamesOf ts ss/\FitRows ts ss R/\∀k∈ks,k∈R)/\ks.length % 2=1
theorem Sb{H:Hp}{R:List (List Bool)}:∀{J:List (Addr×List Bool)},(∀q∈J,SqT K H q.1 (q.2.map V.bl))->(∀k∈R,k.length<=100)->JL K H R (J.map λq=>V.ref q.1) (J.map λq=>decide (q.2∈R))
 |[],_,_=>trivial
 |q::J,h,hR=>by
  refine⟨?_,Sb (λz hz=>h z (zI _ hz)) hR⟩;have h1:=h q zB;show Jdg K H R (.ref q.1) (decide (q.2∈R))
  by_cases hq:q.2∈R
  ·rw[zO hq];exact Sa h1 hq (hR _ hq)
  ·rw[zA hq];exact L6 h1 hq
theorem Nr{H:Hp}{b j:Addr}{us:List V}{ts:List Say}{xs:List Str}{J:List (Addr×List Bool)}{vd:Vd}(hb:SqT K H b us)(hT:SaysAt K H us ts)(hj:SqT K H j (J.map λq=>V.ref q.1))(hJ:∀q∈J,SqT K H q.1 (q.2.map V.bl))(hL:ar ts xs)(hp:∀t∈ts,t.pieces<=130)(hn:J.length<=2000)(h:Rl ts xs (J.map (·.2)) vd):Og K H b j vd:=by
 have hl:(J.map λq=>V.ref q.1).length=J.length:=zX _;have rD:(J.map (·.2)).length=J.length:=zX _;refine⟨us,_,ts,xs,hb,hT,hj,hL,hp,by lia,?_⟩;have R100:∀{ss:List Str}{R:List (List Bool)},Lst ts xs->FitRows ts ss R->∀k∈R,k.length<=100:=λhL hF k hk=>by rw[Pf hF hk];have:=hL.hi;lia
 have all:∀{ss:List Str}{R:List (List Bool)},(Lst ts xs/\1<=(J.map (·.2)).length/\(J.map (·.2)).length<=21)->NamesOf ts ss->FitRows ts ss R->(∀k∈J.map (·.2),k∈R)->JdgsAt K H ts (J.map λq=>V.ref q.1) (List.replicate (J.map λq=>V.ref q.1).length true):=λ{ss R} h0 hN hF hk=>by
  rw[hl];exact JL.to hN hF (Xp λq hq=>⟨hJ q hq,hk q.2 (yP (f:=λq:Addr×List Bool=>q.2) hq),R100 h0.1 hF _ (hk q.2 (yP (f:=λq:Addr×List Bool=>q.2) hq))⟩)
 cases vd with
 |bounds =>
  show noB ts _;rw[hl];exact rD▸h
 |row n =>
  obtain⟨h0,ss,R,hN,hF,⟨k,hk,hkR⟩,pV⟩:=h;refine⟨⟨h0.1,by lia,by lia⟩,J.map (λq=>decide (q.2∈R)),by rw[zX,zX],(Sb hJ (R100 h0.1 hF)).to hN hF,?_,λg hg=>?_⟩
  ·rw[yU]at hk ⊢;cases hq:J[n]? with
   |none=>rw[hq]at hk;cases hk
   |some q =>
    rw[hq]at hk;cases hk;exact xT some (zA hkR)
  ·rw[<-List.map_take]at hg;obtain⟨q,hq,rfl⟩:=zC.mp hg;exact zO (pV q.2 (by rw[<-List.map_take];exact yP (f:=λq:Addr×List Bool=>q.2) hq))
 |even =>
  obtain⟨h0,⟨ss,R,hN,hF,hk⟩,h2⟩:=h;exact⟨⟨h0.1,by lia,by lia⟩,all h0 hN hF hk,by lia⟩
 |ok =>
  obtain⟨h0,⟨ss,R,hN,hF,hk⟩,h2⟩:=h;exact⟨⟨h0.1,by lia,by lia⟩,all h0 hN hF hk,by lia⟩
def Of(K:W.Frag)(Co Cr Ce:Addr)(ts:List Say)(ks:List (List Bool))(H:Hp)(Q:VK)(E:XK):Vd->Prop
 | .bounds=>OobE Co H E
 | .row n=>BadE Cr H n E
 | .even=>OobE Ce H E
 | .ok=>∀(p b j:Addr)(H':Hp)(us:List V)(J:List (Addr×List Bool)),Same H H'->SqT K H' p [.ref b,.ref j]->SqT K H' b us->SaysAt K H' us ts->SqT K H' j (J.map λq=>V.ref q.1)->(∀q∈J,SqT K H' q.1 (q.2.map V.bl))->J.map (·.2)=ks->Q (.ref p) H'
def gn(K:W.Frag)(Cn Co Cr Ce:Addr):Sp:=λvs H Q E=>∃v:V,vs=[v]/\((Oe K H v/\OobE Cn H E)\/∃x:Str,v = .str x/\tj x/\(∀l∈Txt.split x (Str.ofString "\n"),tj l)/\(Txt.split x (Str.ofString "\n")).length<=1000/\(om (Txt.split x (Str.ofString "\n"))=none->OobE Cn H E) /\
 ∀ts ks,om (Txt.split x (Str.ofString "\n"))=some (ts,ks)->∃vd xs,ar ts xs/\Rl ts xs ks vd/\Of K Co Cr Ce ts ks H Q E vd)
theorem ie(ks:List (List Bool)):PyData.eqv (je ks) (.list [])=decide (ks=[]):=by
 unfold je;cases ks with
 |nil=>simp[PyData.eqv,PyData.eqvAll]
 |cons k ks=>simp[PyData.eqv,PyData.eqvAll]
theorem Vp(ts:List Say):PyData.eqv (.list (ts.map u4)) (.list [])=decide (ts=[]):=by
 cases ts with
 |nil=>simp[PyData.eqv,PyData.eqvAll]
 |cons k ks=>simp[PyData.eqv,PyData.eqvAll]
theorem sh{H:Hp}{p:Addr}(h:H p=some (.lst [])):Has K H (.ref p) (.list []):=by
 unfold Has;exact⟨p,_,rfl,SqL.of h,by unfold HasL;rfl⟩
theorem rg:SeqAt.shaped (.list [])=true:=by decide +kernel
theorem ge{ts:List Say}(h:∀t∈ts,t.pieces<=40/\∀x∈t.letters,Nm x):SeqAt.shaped (.list (ts.map u4))=true:=by
 obtain⟨h1,h2⟩:=bq ts h;unfold SeqAt.shaped;rw[PyData.canLay0,h1,PyData.depth];exact zO (by lia)
theorem Vu{H:Hp}{p:Addr}{us:List V}{ts:List Say}(h:H p=some (.lst us))(hT:SaysAt K H us ts):Has K H (.ref p) (.list (ts.map u4)):=by
 unfold Has;exact⟨p,_,rfl,SqL.of h,il hT⟩
theorem sc_read:zr ["text","sayings","judges","line"] ["text"] (z4 (top 38)):=⟨rfl,rfl,rfl,by decide +kernel,rfl,by decide +kernel,by decide +kernel⟩
structure RdL(K:W.Frag)(H0 H:Hp)(ls:List Str)(i:Nat)(sa ja D:Addr)(us:List V)(ts:List Say)(J:List (Addr×List Bool)):Prop where
 lsm:Same H0 H
 lsa:H sa=some (.lst us)
 lja:H ja=some (.lst (J.map λq=>V.ref q.1))
 lD:H D=some (.lst (ls.map V.str))
 lT:SaysAt K H us ts
 lJ:∀q∈J,SqT K H q.1 (q.2.map V.bl)
 lpc:∀t∈ts,t.pieces<=40/\∀x∈t.letters,Nm x
 lrun:xn ls [] []=xn (ls.drop i) ts (J.map (·.2))
 ltl:ts.length<=i
 ljl:J.length<=i
theorem RdL.up{H0 H H':Hp}{ls:List Str}{i:Nat}{sa ja D:Addr}{us:List V}{ts:List Say}{J:List (Addr×List Bool)}(s:Same H H')(h:RdL K H0 H ls i sa ja D us ts J):RdL K H0 H' ls i sa ja D us ts J :=
 ⟨h.lsm.trans s,s _ _ h.lsa,s _ _ h.lja,s _ _ h.lD,h.lT.mono (z7 s),λq hq=>(z7 s).sqT (h.lJ q hq),h.lpc,h.lrun,h.ltl,h.ljl⟩
theorem RdL.row{H0 H:Hp}{ls:List Str}{i:Nat}{sa ja D a:Addr}{us:List V}{ts:List Say}{J:List (Addr×List Bool)}{k:List Bool}(h:RdL K H0 H ls i sa ja D us ts J)(n:H0 ja=none)(n1:sa≠ja)(n2:D≠ja)(ha:SqT K H a (k.map V.bl))(e:xn ls [] []=xn (ls.drop (i+1)) ts (J.map (·.2)++[k])):RdL K H0 (upd H ja (.lst ((J.map λq=>V.ref q.1)++[.ref a]))) ls (i+1) sa ja D us ts (J++[(a,k)]):=by
 have tl:=vy (o:=.lst ((J.map λq=>V.ref q.1)++[.ref a])) h.lja;refine⟨zo h.lsm n _,by rw[zj n1];exact h.lsa,by rw[zy,yW];rfl,by rw[zj n2];exact h.lD,h.lT.mono tl,λq hq=>?_,h.lpc,by rw[yW];exact e,Nat.le_succ_of_le h.ltl,by rw[zL];exact Nat.succ_le_succ h.ljl⟩;rcases zP.mp hq with z|z
 ·exact tl.sqT (h.lJ q z)
 ·rw[zS.mp z];exact tl.sqT ha
theorem RdL.say{H0 H:Hp}{ls:List Str}{i:Nat}{sa ja D:Addr}{us:List V}{v:V}{ts:List Say}{t:Say}{J:List (Addr×List Bool)}(h:RdL K H0 H ls i sa ja D us ts J)(n:H0 sa=none)(n1:ja≠sa)(n2:D≠sa)(ha:SayAt K H v t)(ht:t.pieces<=40/\∀x∈t.letters,Nm x)(e:xn ls [] []=xn (ls.drop (i+1)) (ts++[t]) (J.map (·.2))):RdL K H0 (upd H sa (.lst (us++[v]))) ls (i+1) sa ja D (us++[v]) (ts++[t]) J:=by
 have tl:=vy (o:=.lst (us++[v])) h.lsa;refine⟨zo h.lsm n _,zy,by rw[zj n1];exact h.lja,by rw[zj n2];exact h.lD,SaysAt.app (h.lT.mono tl) ⟨ha.mono tl,trivial⟩,λq hq=>tl.sqT (h.lJ q hq),λu hu=>?_,e,by rw[zL];exact Nat.succ_le_succ h.ltl,Nat.le_succ_of_le h.ljl⟩;rcases zP.mp hu with z|z
 ·exact h.lpc u z
 ·rw[zS.mp z];exact ht
theorem U5{x:Str}{n:Nat}(h:tj x):tj (⟨(x.cps.toList.drop n).toArray⟩:Str):=by
 have hl:(⟨(x.cps.toList.drop n).toArray⟩:Str).length=x.cps.toList.length-n:=by
  show(x.cps.toList.drop n).toArray.size=_;rw[zQ,yG]
 refine⟨?_,λc hc=>h.cps c (vP (by simpa using hc))⟩;rw[hl,xu];have:=h.len;lia
theorem P5{Cn Co Cr Ce:Addr}(D:Def K mg "read" (top 38) ["text"])(eN:ym P w K mg base 1 "check_text" ["text"] (gj K Cn))(bF:ym P w K mg base 86 "read_saying" ["text"] (gp K Cn))(Af:ym P w K mg base 1 "read_row" ["line","many"] (Ox K Cn))(nX:ym P w K mg base 132 "seated" ["sayings","judges"] (di K Co Cr Ce))(aC:vt K Cn)(aF:mg "NoText"=some (.ref Cn))(aD:mg "len"=none)(aB:mg "tuple"=none):ym P w K mg base 133 "read" ["text"] (gn K Cn Co Cr Ce):=by
 refine D.calleeX sc_read (λvs H Q E h=>?_) λf cdv A outer s H vs Q E hr h=>?_
 ·obtain⟨v,rfl,_⟩:=h
  rfl
 have nd:=sc_read.nd;obtain⟨v,rfl,h⟩:=h;refine⟨[some v,none,none,none],_,rfl,(z5 (yw (wk eN yq hr (by lia) (z9 (z8 0) z6)))
  (z5 (zg 1 nd (xq z6))
  (z5 (zg 2 nd (xq z6))
  (z5 (f6 rfl (yx (Pu (z8 0) (z9 zx z6))) (vg 3 nd) (z0 (zd (PW.pt (T8 (wn (bx (z8 3) (z9 zx z6))) (X8 (zh (ya hr.units) (z8 2) (xq z6) (zk _))))) (z0 (yw (lf xF xE lc (z8 1) (z9 (wk bF X3 hr (by lia) (z9 (xw (z8 3) (xk (zq xz rfl aD yt (z9 zx z6))) xg) z6)) z6)))) (z0 (yw (lf xF xE lc (z8 2) (z9 (wk Af X3 hr (by lia) (z9 (z8 3) (z9 (zq xz rfl aD yt (z9 (z8 1) z6)) z6))) z6)))))))
  (z5 (zd (PW.pt (r8 (zh (ya hr.units) (z8 1) (xq z6) (zk _)) (ur (zh (ya hr.units) (z8 2) (xq z6) (zk _))))) (z0 (yi (xf aC aF (z9 zx z6)) w6 rfl)) zm)
  (z0 (zt (wk nX yq hr (by lia) (z9 (yh w4 rfl aB yb (z9 (z8 1) z6)) (z9 (yh w4 rfl aB yb (z9 (z8 2) z6)) z6)))))))))),?_⟩
 walk_at"rp";rcases h with⟨⟨t,ht,hk⟩,qn⟩|⟨x,rfl,hx,hls,hl1000,qn,qy⟩
 ·exact⟨v,t,false,rfl,ht,hk,(λz=>by cases z),λ_=>qn⟩
 refine⟨.str x,.type "str",true,rfl,.of (.str _),w8 _,λ_=>?_,λz=>by cases z⟩;walk_at"rp";refine⟨zc (by simp),λsa H1 n1 s1 e1=>?_⟩;walk_at"rp";refine⟨zc (by simp),λja H2 n2 s2 e2=>?_⟩;walk_at"rp";generalize hlines:Txt.split x (Str.ofString "\n")=ls at hls hl1000 qn qy;refine⟨by decide +kernel,by rw[zM];have:=hx.len;lia,hl1000,λDl H3 n3 s3 e3=>?_⟩;have nsj:sa≠ja:=λz=>by rw[<-z,e1]at n2;cases n2
 have nsD:sa≠Dl:=λz=>by rw[<-z,s2 _ _ e1]at n3;cases n3
 have njD:ja≠Dl:=λz=>by rw[<-z,e2]at n3;cases n3
 have nsa:H sa=none:=n1;have nja:H ja=none:=ze s1 n2;have B':xn ls [] []=none->om ls=none:=λh=>by unfold om;rw[h]
 refine .inl ⟨⟨_,SqL.of e3⟩,?_⟩;refine sj (xs:=ls.map V.str) (λi σ H4=>∃(us:List V)(ts:List Say)(J:List (Addr×List Bool))(lv:Option V),σ=[some (.str x),some (.ref sa),some (.ref ja),lv]/\RdL K H H4 ls i sa ja Dl us ts J) ⟨[],[],[],none,rfl,s1.trans (s2.trans s3),(s2.trans s3) _ _ e1,s3 _ _ e2,e3,trivial,(λq hq=>by cases hq),(λt ht=>by cases ht),rfl,zT _,zT _⟩ ?_ ?_ ?_
 ·rintro i σ H4 _ ⟨us,ts,J,lv,rfl,h4⟩;exact SqL.of h4.lD
 ·rintro i v σ H4 hv ⟨us,ts,J,lv,rfl,h4⟩;rw[yU]at hv;cases hc:ls[i]? with
  |none=>rw[hc]at hv;cases hv
  |some l =>
   rw[hc]at hv;cases hv;have TN:i<ls.length:=(zV.mp hc).1;have CP:=hls l (zN hc);have dZ:=h4.lrun;have hdr:ls.drop i=l::ls.drop (i+1):=by
    rw[uG TN]
    congr 1
    exact(zV.mp hc).2
   rw[hdr,xn]at dZ;have htl:=h4.ltl;have hjl:=h4.ljl;walk_at"rp";rw[Oy];refine w9 (λc=>?_) λc=>?_
   ·refine⟨zc (by simp),λp5 H5 n5 s5 e5=>?_⟩;have hr:=h4.up s5;walk_at"rp";refine⟨_,_,bh (SqL.of hr.lja) hr.lJ,sh e5,oo _,rg,?_⟩;rw[ie];refine w9 (λc2=>?_) λc2=>?_
    ·have DV:nx l.cps.toList 0 (lit "say ")=true/\J.map (·.2)=[]:=⟨c,yZ c2⟩
     refine⟨⟨_,_,rfl,hr.lsa⟩,?_⟩;walk_at"rp";refine⟨zc (by decide +kernel),by rw[zM];have:=CP.len;lia,?_⟩;rw[show(((Str.ofString "say ").length:Nat):Int)=((4:Nat):Int)from rfl,rj];rw[zH DV]at dZ;refine⟨_,rfl,.inr ⟨_,rfl,U5 CP,λno=>?_,λt ht v6 H6 s6 h6=>?_⟩⟩
     ·have no':lr (l.cps.toList.drop 4)=none:=by simpa using no
      rw[no']at dZ;exact OobE.same hr.lsm (qn (B' dZ))
     ·have rB:lr (l.cps.toList.drop 4)=some t:=by simpa using ht
      rw[rB]at dZ;walk_at"rp";exact⟨_,(hr.up s6).lsa,by rw[hr.lT.len,zM];lia,_,_,_,_,rfl,(hr.up s6).say nsa nsj.symm nsD.symm h6 (Ua rB) dZ⟩
    ·have qG:¬(nx l.cps.toList 0 (lit "say ")=true/\J.map (·.2)=[]):=λz=>c2 (zO z.2);refine⟨⟨_,_,rfl,hr.lja⟩,?_⟩;walk_at"rp";refine⟨_,.inl (SqL.of hr.lsa),?_⟩;rw[hr.lT.len];rw[zK qG]at dZ;refine⟨l,ts.length,rfl,CP,λno=>?_,λk hk a H6 s6 h6=>?_⟩
     ·rw[no]at dZ;exact OobE.same hr.lsm (qn (B' dZ))
     ·rw[hk]at dZ;walk_at"rp";exact⟨_,(hr.up s6).lja,by rw[zX,zM];lia,us,ts,_,_,rfl,(hr.up s6).row nja nsj njD.symm h6 dZ⟩
   ·have qG:¬(nx l.cps.toList 0 (lit "say ")=true/\J.map (·.2)=[]):=λz=>c z.1;have hr:=h4;refine⟨⟨_,_,rfl,hr.lja⟩,?_⟩;walk_at"rp";refine⟨_,.inl (SqL.of hr.lsa),?_⟩;rw[hr.lT.len];rw[zK qG]at dZ;refine⟨l,ts.length,rfl,CP,λno=>?_,λk hk a H6 s6 h6=>?_⟩
    ·rw[no]at dZ;exact OobE.same hr.lsm (qn (B' dZ))
    ·rw[hk]at dZ;walk_at"rp";exact⟨_,(hr.up s6).lja,by rw[zX,zM];lia,us,ts,_,_,rfl,(hr.up s6).row nja nsj njD.symm h6 dZ⟩
 ·rintro σ H4 ⟨us,ts,J,lv,rfl,h4⟩;have dZ:=h4.lrun;rw[zX,List.drop_length,xn]at dZ;have SV:om ls=if ts=[]\/J.map (·.2)=[]then none else some (ts,J.map (·.2)):=by unfold om;rw[dZ]
  have htl:=h4.ltl;have hjl:=h4.ljl;rw[zX]at htl hjl;walk_at"rp";refine⟨zc (by simp),λp5 H5 n5 s5 e5=>?_⟩;have h5:=h4.up s5;walk_at"rp";refine⟨_,_,Vu h5.lsa h5.lT,sh e5,ge h5.lpc,rg,?_⟩;rw[Vp];refine w9 (λc=>⟨zc (by simp),rf aC (qn (by rw[SV,zH (.inl (yZ c))])) h5.lsm⟩) λc=>?_;refine⟨zc (by simp),λp6 H6 n6 s6 e6=>?_⟩;have h6:=h5.up s6;walk_at"rp";refine⟨_,_,bh (SqL.of h6.lja) h6.lJ,sh e6,oo _,rg,?_⟩;rw[ie];refine w9 (λc2=>⟨zc (by simp),rf aC (qn (by rw[SV,zH (.inr (yZ c2))])) h6.lsm⟩) λc2=>?_;have qG:¬(ts=[]\/J.map (·.2)=[]):=λz=>z.elim (λz=>c (zO z)) λz=>c2 (zO z);rw[zK qG]at SV;obtain⟨vd,xs,hW,hV,hQ⟩:=qy _ _ SV;walk_at"rp";refine⟨_,.inl (SqL.of h6.lsa),λb H7 s7 hb=>?_⟩;walk_at"rp";refine⟨_,.inl (SqL.of (s7 _ _ h6.lja)),λj H8 s8 hj=>?_⟩;have h8:=(h6.up s7).up s8;have hb8:=(z7 s8).sqT hb;refine⟨b,j,vd,rfl,Nr hb8 h8.lT hj h8.lJ hW (λt ht=>yM (h8.lpc t ht).1 (by decide)) (by lia) hV,?_⟩;cases vd with
  |bounds=>exact OobE.same h8.lsm hQ
  |row n=>exact BadE.same h8.lsm hQ
  |even=>exact OobE.same h8.lsm hQ
  |ok =>
   intro p H9 s9 hp;have h9:=h8.up s9;exact hQ p b j H9 us J h9.lsm hp ((z7 s9).sqT hb8) h9.lT ((z7 s9).sqT hj) h9.lJ rfl
def okS(x:Str):Prop:=∀c∈x.cps.toList,xt c=true
def NmV(y:Str):Prop:=t7 y.cps.toList=true/\okS y
def NoL(rest:List Nat):Prop:=∀c,rest.head?=some c->xt c=false
theorem v7{x y z:List Nat}{p:Nat}(h:x.drop p=y++z):nx x p y=true:=by
 unfold nx;rw[h,yK];exact List.prefix_append _ _
theorem xh{x y z:List Nat}{p:Nat}(h:x.drop p=y++z):x.drop (p+y.length)=z:=by
 rw[<-List.drop_drop,h,List.drop_left]
theorem i3{x z w:List Nat}{p c d:Nat}(h:x.drop p=c::z)(qJ:c≠d):nx x p (d::w)=false:=by
 unfold nx;rw[h];show((d==c)&&_)=false;rw[wQ.mpr (wY qJ),Bool.false_and]
theorem al{n rest:List Nat}(hn:∀c∈n,xt c=true)(hr:NoL rest):(n++rest).takeWhile xt=n:=by
 induction n with
 |nil =>
  cases rest with
  |nil=>rfl
  |cons c r=>rw[uA,List.takeWhile_cons,hr c rfl];rfl
 |cons a n ih =>
  rw[List.cons_append,List.takeWhile_cons,hn a zB];simp only[if_true];rw[ih λc hc=>hn c (zI _ hc)]
theorem u5:lit "not "=[110,111,116,32]:=by decide +kernel
theorem tu:lit "(if "=[40,105,102,32]:=by decide +kernel
theorem vv:lit "("=[40]:=by decide +kernel
theorem qx:lit ")"=[41]:=by decide +kernel
theorem qb:lit " then "=[32,116,104,101,110,32]:=by decide +kernel
theorem uj:lit " and "=[32,97,110,100,32]:=by decide +kernel
theorem qz:lit " or "=[32,111,114,32]:=by decide +kernel
theorem Ky:xt 40=false:=by decide +kernel
theorem Uo:xt 41=false:=by decide +kernel
theorem jj:xt 32=false:=by decide +kernel
theorem wo{c:Nat}{r:List Nat}(h:xt c=false):NoL (c::r):=λd e=>by cases e;exact h
theorem Mi{y:Str}(h:NmV y):∃c n,y.cps.toList=c::n/\xt c=true:=by
 cases e:y.cps.toList with
 |nil =>
  have:=h.1;rw[e,show t7 []=false by decide +kernel]at this;cases this
 |cons c n=>exact⟨c,n,rfl,h.2 c (by rw[e];exact zB)⟩
theorem S3{y:Str}(h:NmV y):y∉wordsL:=λhm=>by
 have h1:=h.1;unfold t7 at h1;rw[yN,yN]at h1;have e:(⟨y.cps.toList.toArray⟩:Str)=y:=by simp
 rw[e,zO hm]at h1;exact absurd h1.2.2 (by decide)
theorem Xx{y:Str}{rest w:List Nat}{s:String}{n:List Nat}(h:NmV y)(hr:NoL rest)(hs:n++32::w=y.cps.toList++rest)(hn:∀c∈n,xt c=true)(hw:(Str.ofString s).cps.toList=n)(hi:Str.ofString s∈wordsL):False:=by
 have h1:=al (n:=y.cps.toList) h.2 hr;rw[<-hs,al hn (wo jj)]at h1;refine S3 h ?_;have e:y=Str.ofString s:=by
  apply Str.ext';apply wJ.mp;rw[hw,h1]
 rw[e];exact hi
def tl(t:Say):List Nat:=t.text.cps.toList
theorem Yq{t:Say}{rest w:List Nat}(hv:∀y∈t.letters,NmV y)(hr:NoL rest)(h:[105,102,32]++w=tl t++rest):False:=by
 unfold tl at h;cases t with
 |letter y=>exact Xx (s:="if") (n:=[105,102]) (hv y (zS.mpr rfl)) hr (by simpa[Say.text]using h) (by decide +kernel) (by decide +kernel) (by decide +kernel)
 |neg t =>
  have e:(Say.neg t).text.cps.toList=lit "not "++t.text.cps.toList:=by
   show(Str.ofString "not "++t.text).cps.toList=_;rw[xG,yF];rfl
  rw[e,u5]at h;simp at h
 |bin o t1 t2 =>
  have e:∃z,(Say.bin o t1 t2).text.cps.toList=40::z:=by
   cases o with
   |con=>exact⟨_,by simp only[Say.text,xG,yF,yQ];rw[show(Str.ofString "(").cps.toList=[40]from vv];rfl⟩
   |dis=>exact⟨_,by simp only[Say.text,xG,yF,yQ];rw[show(Str.ofString "(").cps.toList=[40]from vv];rfl⟩
   |imp=>exact⟨_,by simp only[Say.text,xG,yF,yQ];rw[show(Str.ofString "(if ").cps.toList=[40,105,102,32]from tu];rfl⟩
  obtain⟨z,e⟩:=e;rw[e]at h;simp at h
theorem U3(y:Str):tl (.letter y)=y.cps.toList:=rfl
theorem ah(t:Say):tl (.neg t)=lit "not "++tl t:=by
 show(Str.ofString "not "++t.text).cps.toList=_;rw[xG,yF];rfl
theorem ag(a b:Say):tl (.bin .imp a b)=lit "(if "++(tl a++(lit " then "++(tl b++lit ")"))):=by
 unfold tl;simp only[Say.text,xG,yF,yQ]
 rfl
theorem F4:lit " and "=(Str.ofString " ").cps.toList++((Str.ofString "and").cps.toList++(Str.ofString " ").cps.toList):=by decide +kernel
theorem or3:lit " or "=(Str.ofString " ").cps.toList++((Str.ofString "or").cps.toList++(Str.ofString " ").cps.toList):=by decide +kernel
theorem ae(a b:Say):tl (.bin .con a b)=lit "("++(tl a++(lit " and "++(tl b++lit ")"))):=by
 rw[F4];unfold tl;simp only[Say.text,xG,yF,yQ]
 rfl
theorem af(a b:Say):tl (.bin .dis a b)=lit "("++(tl a++(lit " or "++(tl b++lit ")"))):=by
 rw[or3];unfold tl;simp only[Say.text,xG,yF,yQ]
 rfl
def Rk(x:List Nat)(f r p:Nat)(t:Say):Prop:=(t.pieces<=r->yp x f r p=some (t,r-t.pieces,p+(tl t).length))/\(r<t.pieces->yp x f r p=none)
theorem Y1{x rest:List Nat}{o:Op2}{t1 t2:Say}{f r p:Nat}(h:Rk x f r p t2)(hx:x.drop p=tl t2++(lit ")"++rest)):(t2.pieces<=r->qd x o t1 (yp x f r p)=some (.bin o t1 t2,r-t2.pieces,p+(tl t2).length+1))/\(r<t2.pieces->qd x o t1 (yp x f r p)=none):=by
 constructor
 ·intro hr;rw[h.1 hr];have h2:=v7 (xh hx);unfold qd;dsimp only;rw[zH h2]
 ·intro hr;rw[h.2 hr]
  rfl
theorem wy{x:List Nat}:∀(t:Say)(f r p:Nat)(rest:List Nat),(∀y∈t.letters,NmV y)->x.drop p=tl t++rest->NoL rest->r<f->Rk x f r p t
 |t,0,r,p,rest,_,_,_,hf=>absurd hf (by lia)
 |t,f+1,0,p,rest,_,_,_,_=>⟨λh=>absurd t.pieces_pos (by lia),λ_=>by rw[yp]⟩
 | .letter y,f+1,r+1,p,rest,hv,hx,hr,hf=>by
  have hy:=hv y (zS.mpr rfl);rw[U3]at hx;obtain⟨c,n,ec,hc⟩:=Mi hy;have rV:x.drop p=c::(n++rest):=by rw[hx,ec];rfl
  have TY:c≠40:=λz=>by rw[z,Ky]at hc;cases hc
  have h1:nx x p (lit "not ")=false:=by
   cases hb:nx x p (lit "not ")with
   |false=>rfl
   |true =>
    obtain⟨w,hw⟩:=yK.mp hb;rw[u5,hx]at hw;exact(Xx (s:="not") (n:=[110,111,116]) (w:=w) hy hr hw (by decide +kernel) (by decide +kernel) (by decide +kernel)).elim
  have h2:nx x p (lit "(if ")=false:=by rw[tu];exact i3 rV TY
  have h3:nx x p (lit "(")=false:=by rw[vv];exact i3 rV TY
  have hn:yd x p=y.cps.toList:=by unfold yd;rw[hx];exact al hy.2 hr
  refine⟨λ_=>?_,λh=>absurd h (by simp only[Say.pieces];lia)⟩;rw[yp,h1,zK (by decide),h2,zK (by decide),h3,zK (by decide)];unfold cs;rw[hn,zH hy.1,U3];simp[Say.pieces]
 | .neg t,f+1,r+1,p,rest,hv,hx,hr,hf=>by
  rw[ah,yQ]at hx;have h1:=v7 hx;have ih:=wy t f r (p+4) rest hv (by have:=xh hx;rw[u5]at this;exact this) hr (by lia);have hl:(tl (.neg t)).length=4+(tl t).length:=by rw[ah,zL,u5];rfl
  refine⟨λhp=>?_,λhp=>?_⟩
  ·rw[yp,zH h1,ih.1 (by simp only[Say.pieces]at hp;lia),hl];unfold Tv;dsimp only;simp only[Say.pieces]
   congr 3<;>lia
  ·rw[yp,zH h1,ih.2 (by simp only[Say.pieces]at hp;lia)]
   rfl
 | .bin .imp t1 t2,f+1,r+1,p,rest,hv,hx,hr,hf=>by
  have hl:(tl (.bin .imp t1 t2)).length=4+((tl t1).length+(6+((tl t2).length+1))):=by rw[ag];simp only[zL];rw[tu,qb,qx];rfl
  rw[ag]at hx;simp only[yQ]at hx;have h0:nx x p (lit "not ")=false:=by
   rw[u5];rw[tu]at hx;exact i3 hx (by decide)
  have h1:=v7 hx;have pH:=xh hx;rw[show(lit "(if ").length=4 by rw[tu];rfl]at pH;have i1:=wy t1 f r (p+4) _ (λy hy=>hv y (yH _ hy)) pH (by rw[qb];exact wo jj) (by lia);have rV:=xh pH;have h2:=v7 rV;have Bs:=xh rV;rw[show(lit " then ").length=6 by rw[qb];rfl]at Bs;have i2:=wy t2 f (r-t1.pieces) (p+4+(tl t1).length+6) _ (λy hy=>hv y (zF _ hy)) Bs (by rw[qx];exact wo Uo) (by lia);have e2:=Y1 (o:=.imp) (t1:=t1) i2 Bs;have SX:(Say.bin .imp t1 t2).pieces=t1.pieces+t2.pieces+1:=by simp only[Say.pieces]
  rcases vZ r t1.pieces with bE|AS
  ·refine⟨λhp=>absurd hp (by lia),λ_=>?_⟩;rw[yp,h0,zK (by decide),zH h1];unfold pIf;rw[i1.2 bE]
  ·have e:yp x (f+1) (r+1) p=qd x .imp t1 (yp x f (r-t1.pieces) (p+4+(tl t1).length+6)):=by
    rw[yp,h0,zK (by decide),zH h1];unfold pIf;rw[i1.1 AS];dsimp only;rw[zH h2]
   refine⟨λhp=>?_,λhp=>?_⟩
   ·rw[e,e2.1 (by lia),hl,SX]
    congr 3<;>lia
   ·rw[e,e2.2 (by lia)]
 | .bin .con t1 t2,f+1,r+1,p,rest,hv,hx,hr,hf=>by
  have hl:(tl (.bin .con t1 t2)).length=1+((tl t1).length+(5+((tl t2).length+1))):=by rw[ae];simp only[zL];rw[vv,uj,qx];rfl
  rw[ae]at hx;simp only[yQ]at hx;have h0:nx x p (lit "not ")=false:=by
   rw[u5];rw[vv]at hx;exact i3 hx (by decide)
  have h1:=v7 hx;have pH:=xh hx;rw[show(lit "(").length=1 by rw[vv];rfl]at pH;have Ax:∀y∈t1.letters,NmV y:=λy hy=>hv y (yH _ hy);have i1:=wy t1 f r (p+1) _ Ax pH (by rw[uj];exact wo jj) (by lia);have rV:=xh pH;have h2:=v7 rV;have Bs:=xh rV;have hna:nx x (p+1+(tl t1).length) (lit " or ")=true->nx x (p+1+(tl t1).length) (lit " and ")=false:=λ_=>by
   cases hb:nx x (p+1+(tl t1).length) (lit " and ")with
   |false=>rfl
   |true =>
    rename_i hor;obtain⟨w1,e1⟩:=yK.mp hb;obtain⟨w2,e2⟩:=yK.mp hor;rw[<-e2,uj,qz]at e1;simp at e1
  rw[show(lit " and ").length=5 by rw[uj];rfl]at Bs;have Cg:nx x p (lit "(if ")=false:=by
   cases hb:nx x p (lit "(if ")with
   |false=>rfl
   |true =>
    obtain⟨w,hw⟩:=yK.mp hb;rw[hx,tu,vv,uj]at hw;exact(Yq (t:=t1) (w:=w) Ax (wo jj) (by simpa using hw)).elim
  have i2:=wy t2 f (r-t1.pieces) (p+1+(tl t1).length+5) _ (λy hy=>hv y (zF _ hy)) Bs (by rw[qx];exact wo Uo) (by lia);have e2:=Y1 (o:=.con) (t1:=t1) i2 Bs;have SX:(Say.bin .con t1 t2).pieces=t1.pieces+t2.pieces+1:=by simp only[Say.pieces]
  rcases vZ r t1.pieces with bE|AS
  ·refine⟨λhp=>absurd hp (by lia),λ_=>?_⟩;rw[yp,h0,zK (by decide),Cg,zK (by decide),zH h1];unfold rz;rw[i1.2 bE]
  ·have e:yp x (f+1) (r+1) p=qd x .con t1 (yp x f (r-t1.pieces) (p+1+(tl t1).length+5)):=by
    rw[yp,h0,zK (by decide),Cg,zK (by decide),zH h1];unfold rz;rw[i1.1 AS];dsimp only
    (rw[zH h2])
   refine⟨λhp=>?_,λhp=>?_⟩
   ·rw[e,e2.1 (by lia),hl,SX]
    congr 3<;>lia
   ·rw[e,e2.2 (by lia)]
 | .bin .dis t1 t2,f+1,r+1,p,rest,hv,hx,hr,hf=>by
  have hl:(tl (.bin .dis t1 t2)).length=1+((tl t1).length+(4+((tl t2).length+1))):=by rw[af];simp only[zL];rw[vv,qz,qx];rfl
  rw[af]at hx;simp only[yQ]at hx;have h0:nx x p (lit "not ")=false:=by
   rw[u5];rw[vv]at hx;exact i3 hx (by decide)
  have h1:=v7 hx;have pH:=xh hx;rw[show(lit "(").length=1 by rw[vv];rfl]at pH;have Ax:∀y∈t1.letters,NmV y:=λy hy=>hv y (yH _ hy);have i1:=wy t1 f r (p+1) _ Ax pH (by rw[qz];exact wo jj) (by lia);have rV:=xh pH;have h2:=v7 rV;have Bs:=xh rV;have hna:nx x (p+1+(tl t1).length) (lit " or ")=true->nx x (p+1+(tl t1).length) (lit " and ")=false:=λ_=>by
   cases hb:nx x (p+1+(tl t1).length) (lit " and ")with
   |false=>rfl
   |true =>
    rename_i hor;obtain⟨w1,e1⟩:=yK.mp hb;obtain⟨w2,e2⟩:=yK.mp hor;rw[<-e2,uj,qz]at e1;simp at e1
  rw[show(lit " or ").length=4 by rw[qz];rfl]at Bs;have Cg:nx x p (lit "(if ")=false:=by
   cases hb:nx x p (lit "(if ")with
   |false=>rfl
   |true =>
    obtain⟨w,hw⟩:=yK.mp hb;rw[hx,tu,vv,qz]at hw;exact(Yq (t:=t1) (w:=w) Ax (wo jj) (by simpa using hw)).elim
  have i2:=wy t2 f (r-t1.pieces) (p+1+(tl t1).length+4) _ (λy hy=>hv y (zF _ hy)) Bs (by rw[qx];exact wo Uo) (by lia);have e2:=Y1 (o:=.dis) (t1:=t1) i2 Bs;have SX:(Say.bin .dis t1 t2).pieces=t1.pieces+t2.pieces+1:=by simp only[Say.pieces]
  rcases vZ r t1.pieces with bE|AS
  ·refine⟨λhp=>absurd hp (by lia),λ_=>?_⟩;rw[yp,h0,zK (by decide),Cg,zK (by decide),zH h1];unfold rz;rw[i1.2 bE]
  ·have e:yp x (f+1) (r+1) p=qd x .dis t1 (yp x f (r-t1.pieces) (p+1+(tl t1).length+4)):=by
    rw[yp,h0,zK (by decide),Cg,zK (by decide),zH h1];unfold rz;rw[i1.1 AS];dsimp only
    (rw[zK (by rw[hna h2];decide),zH h2])
   refine⟨λhp=>?_,λhp=>?_⟩
   ·rw[e,e2.1 (by lia),hl,SX]
    congr 3<;>lia
   ·rw[e,e2.2 (by lia)]
theorem v8(x y:Str):(x++y).length=x.length+y.length:=yf x y
theorem o5:(Str.ofString "abcdefghijklmnopqrstuvwxyz").cps.toList.length=26:=by decide +kernel
theorem alets_len':(Str.ofString "abcdefghijklmnopqrstuvwxyz").length=26:=by decide +kernel
theorem kg:okS (Str.ofString "abcdefghijklmnopqrstuvwxyz"):=by unfold okS;decide +kernel
theorem mj:(Str.ofString "qzkxw").length=5:=by decide +kernel
theorem Rb:okS (Str.ofString "qzkxw"):=by unfold okS;decide +kernel
theorem Px:okS (Str.ofString ""):=by unfold okS;decide +kernel
theorem Lg:(Str.ofString "x").length=1:=by decide +kernel
theorem qc{x y:Str}(h1:okS x)(h2:okS y):okS (x++y):=λc h=>by
 rw[xG,yF]at h;rcases zP.mp h with z|z
 ·exact h1 c z
 ·exact h2 c z
theorem fu{x:Str}{c:Nat}(h1:okS x)(h:c∈x.cps.toList):okS (⟨#[c]⟩:Str):=λd hd=>by
 rw[show d=c by simpa using hd];exact h1 c h
theorem sr{x:Str}(h1:okS x)(l u:Option Int):okS (Txt.slice x l u):=λd hc=>by
 unfold Txt.slice at hc;split at hc
 ·exact h1 d hc
 ·have Et:d∈List.filterMap (λi=>x.cps[i]?) (Builtin.Str.strSliceIndices l u 1 x.length):=by simpa using hc
  obtain⟨i,_,hi⟩:=List.mem_filterMap.mp Et;exact h1 d (by have:=Array.mem_of_getElem? hi;simpa using this)
theorem ut{x:Str}{j:Int}(h0:0<=j)(h2:j<=x.length):(Txt.slice x none (some j)).length=j.toNat:=by
 rw[wI.mp (slice_closes_toL h0 h2)];have hx:x.cps.toList.length=x.length:=by simp[Str.length]
 show(List.take _ _).toArray.size=_;rw[zQ,wZ,yG,hx];lia
theorem md{x:Str}{j:Int}(h0:0<=j)(h2:j<=x.length):(Txt.slice x (some j) none).length=x.length-j.toNat:=by
 obtain⟨n,rfl⟩:=Int.eq_ofNat_of_zero_le h0;rw[rj];show(List.drop _ _).toArray.size=_;rw[zQ,yG,xu]
 rfl
theorem Rf:∀y∈wordsL,NmV (Str.ofString "x"++y):=by
 have h:∀y∈wordsL,t7 (Str.ofString "x"++y).cps.toList=true/\∀c∈(Str.ofString "x"++y).cps.toList,xt c=true:=by decide +kernel
 exact h
def Ut:Sp:=λvs H Q _=>∃x:Str,vs=[.str x]/\1<=x.length/\x.length<=6/\okS x/\∀(y:Str)(H':Hp),Same H H'->NmV y->Q (.str y) H'
theorem sc_safe:zr ["_law_name"] ["_law_name"] (z4 (top 47)):=⟨rfl,rfl,rfl,by decide +kernel,rfl,by decide +kernel,by decide +kernel⟩
theorem P6(D:Def K mg "_law_safe" (top 47) ["_law_name"]):zv P w K mg base 1 "_law_safe" ["_law_name"] Ut:=by
 refine D.callee sc_safe (λvs H Q E h=>?_) λf cdv A outer s H vs Q E hr h=>?_
 ·obtain⟨x,rfl,_⟩:=h
  rfl
 have nd:=sc_safe.nd;obtain⟨x,rfl,pH,hx,ho,q⟩:=h;refine⟨[some (.str x)],_,rfl,(z5 (zd (zh Pr (z8 0) (xq (z9 zx (z9 zx (z9 zx (z9 zx (z9 zx (z9 zx (z9 zx z6)))))))) (by with_unfolding_all rfl)) (z0 (zt (zn zf zx (z8 0)))) zm)
  (z0 (zt (z8 0)))),?_⟩
 walk_at"rp";refine⟨zc (by simp),λp H1 n1 s1 e1=>?_⟩;refine⟨_,.inl (SqL.of e1),rfl,rfl,?_⟩;walk_at"rp";rw[show([V.str (Str.ofString "not"),V.str (Str.ofString "and"),V.str (Str.ofString "or"),V.str (Str.ofString "if"),V.str (Str.ofString "then"),V.str (Str.ofString "say"),V.str (Str.ofString "judge")]:List V)=wordsL.map V.str from rfl,m4];refine w9 (λc=>?_) (λc=>?_)
 ·obtain⟨y,hy,e⟩:=wT.mp c;have e':=eq_of_beq e;subst e';exact⟨zc (by rw[Lg];lia),q _ H1 s1 (Rf y hy)⟩
 ·refine q _ H1 s1 ⟨?_,ho⟩;have hnw:x∉wordsL:=λz=>c (wT.mpr ⟨x,z,tH _⟩);have hl:=xu x;unfold t7;have e:(⟨x.cps.toList.toArray⟩:Str)=x:=by simp
  rw[e,zA hnw,zA (show¬6<x.cps.toList.length by lia),zA λz=>by rw[z]at hl;simp at hl;lia]
  rfl
def Yj(K:W.Frag):Sp:=λvs H Q _=>∃(a:Addr)(ns:List Int)(k m:Int),vs=[.ref a,.int k,.int m]/\SqL K H a (ns.map V.int)/\ns.length<=5000/\0<=k/\k<=1000/\1<=m/\m<=5 /\
 ∀(p:Addr)(H':Hp)(xs:List Str),H p=none->Same H H'->H' p=some (.lst (xs.map V.str))->(xs.length:Int)=m->(∀x∈xs,NmV x)->Q (.ref p) H'
theorem U6{C:Str->Hp->Prop}{G:Prop}{B:Str->Hp->Prop}(h:(∀w Ho,C w Ho->B w Ho)->G)(hr:∀w Ho,C w Ho->B w Ho):G:=h hr
theorem O9{xs:List Str}(hx:∀x∈xs,x.length<=5/\okS x){k:Int}(h0:0<=k)(h:k<(xs.length:Int)):∃x:Str,atI (xs.map V.str) k=some (.str x)/\x.length<=5/\okS x:=by
 obtain⟨v,hv,e⟩:=o7 (xs:=xs.map V.str) h0 (by rw[zX];exact h);obtain⟨x,pH,rfl⟩:=zC.mp hv;exact⟨x,e,hx x pH⟩
def wds:List Str:=[Str.ofString "no",Str.ofString "an",Str.ofString "o",Str.ofString "i",Str.ofString "the",Str.ofString "sa",Str.ofString "judg",Str.ofString "nd",Str.ofString "ot",Str.ofString "f"]
theorem N8:∀x∈wds,x.length<=5/\okS x:=by unfold okS;decide +kernel
theorem sc_names:zr ["_law_script","_law_k","_law_many","_law_letters","_law_word","_law_j","_law_first","_law_at"] ["_law_script","_law_k","_law_many"] (z4 (top 48)):=⟨rfl,rfl,rfl,by decide +kernel,rfl,by decide +kernel,by decide +kernel⟩
theorem Tg(D:Def K mg "_law_names" (top 48) ["_law_script","_law_k","_law_many"])(aI:zv P w K mg base 2 "_law_pick" ["_law_script","_law_k","_law_many"] (pr K))(nZ:zv P w K mg base 1 "_law_safe" ["_law_name"] Ut)(aD:mg "len"=none)(aN:mg "range"=none):zv P w K mg base 3 "_law_names" ["_law_script","_law_k","_law_many"] (Yj K):=by
 refine D.callee sc_names (λvs H Q E h=>?_) λf cdv A outer s H vs Q E hr h=>?_
 ·obtain⟨a,ns,k,m,rfl,_⟩:=h
  rfl
 have nd:=sc_names.nd;obtain⟨a,ns,k,m,rfl,hS,fG,h0,hk,hm,hm5,q⟩:=h;refine⟨[some (.ref a),some (.int k),some (.int m),none,none,none,none,none],_,rfl,(z5 (zg 3 nd zx)
  (z5 (zg 4 nd zx)
  (z5 (wf yI rfl (wm rfl aN (z9 (zp aI hr (by lia) (z9 (z8 0) (z9 (z8 1) (z9 zz z6)))) z6)) (vg 5 nd) (z0 (zg 4 nd (zn zf (z8 4) (yj (z8 3) (zp aI hr (by lia) (z9 (z8 0) (z9 (zn zf (zn zf (z8 1) (zn u8 zz (z8 5))) zz) (z9 zz z6)))) (λ_ _=>rfl))))))
  (z5 (zd (zh (ya hr.units) (zp aI hr (by lia) (z9 (z8 0) (z9 (zn zf (z8 1) zz) (z9 zz z6)))) zz (zk _)) (z0 (zg 4 nd (yj (xq (z9 zx (z9 zx (z9 zx (z9 zx (z9 zx (z9 zx (z9 zx (z9 zx (z9 zx (z9 zx z6))))))))))) (zp aI hr (by lia) (z9 (z8 0) (z9 (zn zf (z8 1) zz) (z9 zz z6)))) (λ_ _=>rfl)))) zm)
  (z5 (zg 6 nd (zp aI hr (by lia) (z9 (z8 0) (z9 (zn zf (z8 1) zz) (z9 zz z6)))))
  (z5 (zd (zh (ya hr.units) (zp aI hr (by lia) (z9 (z8 0) (z9 (zn zf (z8 1) zz) (z9 zz z6)))) zz (zk _)) (z5 (zg 4 nd (xw (zn zf (zn zf (z8 4) (yj (z8 3) (z8 6) (λ_ _=>rfl))) zx) xg (xk zz)))
  (z0 (zt (x6 (ixs:=[4]) (y8 (own:=["_law_j"]) (N:=["_law_word"]) rfl rfl rfl rfl rfl rfl rfl (by decide +kernel) rfl rfl rfl) rfl (wm rfl aN (z9 (z8 2) z6)) (λ_ _ _ _=>yg) (λ_ _ _ _=>(zp nZ hr (by lia) (z9 (xw (z8 1) xg (xk (zn zf (z8 0) zz))) z6))) rfl)))) zm)
  (z5 (zg 7 nd (zp aI hr (by lia) (z9 (z8 0) (z9 (zn zf (z8 1) zz) (z9 (zn zf (zq xz rfl aD yt (z9 (z8 4) z6)) zz) z6)))))
  (z0 (zt (x6 (ixs:=[4,7,3,6]) (y8 (own:=["_law_j"]) (N:=["_law_word","_law_at","_law_letters","_law_first"]) rfl rfl rfl rfl rfl rfl rfl (by decide +kernel) rfl rfl rfl) rfl (wm rfl aN (z9 (z8 2) z6)) (λ_ _ _ _=>yg) (λ_ _ _ _=>(zp nZ hr (by lia) (z9 (zn zf (zn zf (xw (z8 1) xg (xk (z8 2))) (yj (z8 3) (zn u7 (zn zf (z8 4) (zn u8 zz (z8 0))) zz) (λ_ _=>rfl))) (xw (z8 1) (xk (z8 2)) xg)) z6))) rfl)))))))))),?_⟩
 simp only[dq];walk_at"rs";simp only[dq];walk_at"rs";simp only[dq];walk_at"rs";refine⟨a,ns,k,6,rfl,hS,fG,h0,by lia,by decide,λr r0 r6=>?_⟩;walk_at"rs";refine⟨⟨by lia,by lia⟩,?_⟩;refine uk (λi σ H'=>∃(word:Str)(jv:Option V),σ=[some (.ref a),some (.int k),some (.int m),some (.str "abcdefghijklmnopqrstuvwxyz"),some (.str word),jv,none,none]/\H'=H/\word.length=i/\i<=5/\okS word) ⟨_,none,rfl,rfl,rfl,by decide,Px⟩ ?_ ?_
 ·rintro i σ H' hi ⟨word,jv,rfl,rfl,hw,hi5,hok⟩;walk_at"rp";refine⟨cm (by lia),a,ns,_,26,rfl,hS,fG,by lia,by lia,by decide,λr' r0' r21=>?_⟩;walk_at"rp";obtain⟨c,hc,ec⟩:=o7 (xs:=(Str.ofString "abcdefghijklmnopqrstuvwxyz").cps.toList) r0' (by rw[o5];exact r21);refine⟨by rw[alets_len'];exact zc (by decide),c,ec,?_,?_⟩
  ·show word.length+1<=sizeLine;exact zc (by lia)
  ·refine⟨_,_,rfl,trivial,?_,by lia,qc hok (fu kg hc)⟩;rw[v8,hw]
   rfl
 ·rintro σ H' ⟨word,jv,rfl,rfl,hw,hw5,hok⟩;simp only[dq];refine U6 (C:=λw Ho=>w.length<=5/\okS w/\Same H' Ho) (B:=?B) (λrest=>?h) ?hr
  case h =>
   walk_at"rs";refine⟨a,ns,k+2,3,rfl,hS,fG,by lia,by lia,by decide,λw3 _ _=>?_⟩;walk_at"rs";refine w9 (λc=>?_) (λc=>?_)
   ·walk_at"rs";refine⟨zc (by simp),λp H1 n1 s1 e1=>?_⟩;refine⟨a,ns,k+1,10,rfl,s1.seq hS,fG,by lia,by lia,by decide,λj j0 j10=>?_⟩;walk_at"rs";obtain⟨x,ex,pH,rV⟩:=O9 (xs:=wds) N8 j0 j10;refine⟨_,_,.inl (SqL.of e1),ex,?_⟩;exact rest x H1 ⟨pH,rV,s1⟩
   ·exact rest word H' ⟨by lia,hok,Same.refl _⟩
  rintro word Ho ⟨hw5,hok,so⟩;walk_at"rp";have Ex:=so.seq hS;refine⟨a,ns,k+3,26,rfl,Ex,fG,by lia,by lia,by decide,λfirst f0 f21=>?_⟩;walk_at"rp";refine⟨a,ns,k+4,3,rfl,Ex,fG,by lia,by lia,by decide,λw3 _ _=>?_⟩;walk_at"rp";refine w9 (λc=>?_) (λc=>?_)
  ·obtain⟨cc,hcc,ec⟩:=o7 (xs:=(Str.ofString "abcdefghijklmnopqrstuvwxyz").cps.toList) f0 (by rw[o5];exact f21);refine⟨by rw[alets_len'];exact zc (by decide),cc,ec,?_⟩;have l1:(word++(⟨#[cc]⟩:Str)).length<=6:=by
    rw[v8];show word.length+1<=6;lia
   refine⟨zc (by show word.length+1<=1000;lia),zc (by rw[mj];lia),zc (by rw[v8,mj];lia),⟨by lia,by lia⟩,?_⟩;have l2:(Txt.slice (word++{ cps:=#[cc] }++Str.ofString "qzkxw") none (some 6)).length=6:=by
    have hz:((word++(⟨#[cc]⟩:Str))++Str.ofString "qzkxw").length=word.length+1+5:=by rw[v8,v8,mj];rfl
    exact(ut (by decide) (by rw[hz];lia)).trans rfl
   have o2:okS (Txt.slice (word++{ cps:=#[cc] }++Str.ofString "qzkxw") none (some 6)):=sr (qc (qc hok (fu kg hcc)) Rb) _ _;generalize Txt.slice (word++{ cps:=#[cc] }++Str.ofString "qzkxw") none (some 6)=word' at l2 o2;intro C s₀ H₀ ex;refine vc (λD i ys H1=>∃xs:List Str,ys=xs.map V.str/\xs.length=i/\(∀x∈xs,NmV x)/\H1 D=some (.lst ys)/\Same Ho H1/\Ho D=none) (zc (by lia)) ?_ ?_ ?_ ?_
   ·intro D H2 n s2 e2;exact⟨[],rfl,rfl,(by simp),e2,s2,n⟩
   ·rintro D i ys H1 ⟨xs,rfl,hl,_,e,_⟩;exact⟨e,by simpa using hl⟩
   ·rintro D i ys H1 hi ⟨xs,rfl,hl,hx,e,s1,n1⟩;walk_at"rp";have b1:=ut (x:=word') (j:=0+(i:Int)+1) (by lia) (by lia);refine⟨zc (by lia),_,rfl,by lia,by lia,sr o2 _ _,λy H2 s2 hy=>⟨s2 _ _ e,CN.mk hi ⟨xs++[y],(by rw[yW];rfl),(by rw[zL,hl];rfl),λx rW=>?_,zy,zo (s1.trans s2) n1 _,n1⟩⟩⟩;rcases zP.mp rW with z|z
    ·exact hx x z
    ·rw[zS.mp z];exact hy
   ·rintro D ys H1 ⟨xs,rfl,hl,hx,e,s1,n1⟩;exact q D H1 xs (ze so n1) (so.trans s1) e (by rw[hl];lia) hx
  ·refine⟨zc (by lia),a,ns,k+5,_,rfl,Ex,fG,by lia,by lia,by lia,λat_ t0 tl=>?_⟩;walk_at"rp";refine⟨⟨by lia,by lia⟩,?_⟩;intro C s₀ H₀ ex;refine vc (λD i ys H1=>∃xs:List Str,ys=xs.map V.str/\xs.length=i/\(∀x∈xs,NmV x)/\H1 D=some (.lst ys)/\Same Ho H1/\Ho D=none) (zc (by lia)) ?_ ?_ ?_ ?_
   ·intro D H2 n s2 e2;exact⟨[],rfl,rfl,(by simp),e2,s2,n⟩
   ·rintro D i ys H1 ⟨xs,rfl,hl,_,e,_⟩;exact⟨e,by simpa using hl⟩
   ·rintro D i ys H1 hi ⟨xs,rfl,hl,hx,e,s1,n1⟩;walk_at"rp";obtain⟨c2,B5,ec⟩:=o7 (xs:=(Str.ofString "abcdefghijklmnopqrstuvwxyz").cps.toList) (k:=(first+5*(0+(i:Int))) % 26) (uB _ (by decide)) (by rw[o5];exact vD _ (by decide));have b1:=ut (x:=word) (j:=at_) t0 (by lia);have b2:=md (x:=word) (j:=at_) t0 (by lia);have Az:(⟨#[c2]⟩:Str).length=1:=rfl;have b3:(Txt.slice word none (some at_)++(⟨#[c2]⟩:Str)).length<=6:=by
     rw[v8];show(Txt.slice word none (some at_)).length+1<=6;lia
    refine⟨zc (by lia),cm (by lia),(by decide),(by rw[alets_len'];exact zc (by decide)),c2,ec,zc (by show(Txt.slice word none (some at_)).length+1<=1000;lia),zc (by lia),zc (by lia),_,rfl,by rw[v8,v8,Az];lia,by rw[v8,v8,Az];lia,qc (qc (sr hok _ _) (fu kg B5)) (sr hok _ _),λy H2 s2 hy=>⟨s2 _ _ e,
     CN.mk hi ⟨xs++[y],(by rw[yW];rfl),(by rw[zL,hl];rfl),λx rW=>?_,zy,zo (s1.trans s2) n1 _,n1⟩⟩⟩
    rcases zP.mp rW with z|z
    ·exact hx x z
    ·rw[zS.mp z];exact hy
   ·rintro D ys H1 ⟨xs,rfl,hl,hx,e,s1,n1⟩;exact q D H1 xs (ze so n1) (so.trans s1) e (by rw[hl];lia) hx
def qm(K:W.Frag)(n:Nat):Sp:=λvs H Q _=>∃(a:Addr)(ns:List Int)(k m:Int)(b:Addr)(xs:List Str),vs=[.ref a,.int k,.int m,.ref b]/\SqL K H a (ns.map V.int)/\ns.length<=5000/\0<=k/\k+3*m<=9000/\1<=m/\m<=n /\
 (SqL K H b (xs.map V.str)\/SqT K H b (xs.map V.str))/\0<xs.length/\xs.length<=100/\∀(v:V)(H':Hp)(s:Say),Same H H'->SayAt K H' v s->(s.pieces:Int)<=m->(∀x∈s.letters,x∈xs)->Q v H'
theorem Ug{H H':Hp}{b:Addr}{xs:List V}(s:Same H H')(h:SqL K H b xs\/SqT K H b xs):SqL K H' b xs\/SqT K H' b xs:=h.imp s.seq (z7 s).sqT
theorem O8{xs:List Str}{k:Int}(h0:0<=k)(h:k<(xs.length:Int)):∃x:Str,x∈xs/\atI (xs.map V.str) k=some (.str x):=by
 obtain⟨v,hv,e⟩:=o7 (xs:=xs.map V.str) h0 (by rw[zX];exact h);obtain⟨x,hx,rfl⟩:=zC.mp hv;exact⟨x,hx,e⟩
theorem sc_saying:zr ["_law_script","_law_k","_law_room","_law_names_here","_law_way","_law_left","_law_one","_law_other"] ["_law_script","_law_k","_law_room","_law_names_here"] (z4 (top 49)):=⟨rfl,rfl,rfl,by decide +kernel,rfl,by decide +kernel,by decide +kernel⟩
theorem i5(D:Def K mg "_law_saying" (top 49) ["_law_script","_law_k","_law_room","_law_names_here"])(aI:zv P w K mg base 2 "_law_pick" ["_law_script","_law_k","_law_many"] (pr K))(aD:mg "len"=none):
  ∀n:Nat,zv P w K mg base (n+3) "_law_saying" ["_law_script","_law_k","_law_room","_law_names_here"] (qm K n)
 |0=>ay (yo D λvs H Q E h=>by
  obtain⟨a,ns,k,m,b,xs,_,_,_,_,_,h1,h2,_⟩:=h;lia) (yV _)
 |n+1=>by
  have aV:=i5 D aI aD n;refine D.callee sc_saying (λvs H Q E h=>?_) λf cdv A outer s H vs Q E hr h=>?_
  ·obtain⟨a,ns,k,m,b,xs,rfl,_⟩:=h
   rfl
  have nd:=sc_saying.nd;obtain⟨a,ns,k,m,b,xs,rfl,hS,fG,h0,hk,hm1,hm,hb,hx0,hx,q⟩:=h;refine⟨[some (.ref a),some (.int k),some (.int m),some (.ref b),none,none,none,none],_,rfl,(z5 (zg 4 nd (zp aI hr (by lia) (z9 (z8 0) (z9 (z8 1) (z9 zz z6)))))
  (z5 (zd (PW.pt (r8 (zh Wc (z8 2) zz (zk _)) (ur (zh (ya hr.units) (z8 4) zz (zk _))))) (z0 (zt (u9 (z9 zx (z9 (yj (z8 3) (zp aI hr (by lia) (z9 (z8 0) (z9 (zn zf (z8 1) zz) (z9 (zq xz rfl aD yt (z9 (z8 3) z6)) z6)))) (λ_ _=>rfl)) z6))))) zm)
  (z5 (zd (PW.pt (r8 (zh (ya hr.units) (z8 2) zz (zk _)) (ur (zh (ya hr.units) (z8 4) zz (zk _))))) (z0 (zt (u9 (z9 zx (z9 (zp aV hr (by lia) (z9 (z8 0) (z9 (zn zf (z8 1) zz) (z9 (zn Xw (z8 2) zz) (z9 (z8 3) z6))))) z6))))) zm)
  (z5 (zg 5 nd (zn zf zz (zp aI hr (by lia) (z9 (z8 0) (z9 (zn zf (z8 1) zz) (z9 (zn Xw (z8 2) zz) z6))))))
  (z5 (zg 6 nd (zp aV hr (by lia) (z9 (z8 0) (z9 (zn zf (z8 1) zz) (z9 (z8 5) (z9 (z8 3) z6))))))
  (z5 (zg 7 nd (zp aV hr (by lia) (z9 (z8 0) (z9 (zn zf (zn zf (z8 1) zz) (zn u8 zz (z8 5))) (z9 (zn Xw (zn Xw (z8 2) zz) (z8 5)) (z9 (z8 3) z6))))))
  (z0 (zt (u9 (z9 (yj (xq (z9 zx (z9 zx (z9 zx z6)))) (zp aI hr (by lia) (z9 (z8 0) (z9 (zn zf (z8 1) zz) (z9 zz z6)))) (λ_ _=>rfl)) (z9 (z8 6) (z9 (z8 7) z6)))))))))))),?_⟩
  walk_at"rp";refine⟨a,ns,k,9,rfl,hS,fG,h0,by lia,by decide,λway _ _=>?_⟩;walk_at"rp";have letter:∃ys,(SqL K H b ys\/SqT K H b ys)/\pr K [V.ref a,V.int (k+1),V.int (ys.length:Int)] H (λy H2=>match V.ref b,y with
    |V.str z,V.int i=>z.length<=sizeLine/\∃c,atI z.cps.toList i=some c/\[V.str (Str.ofString "letter"),V.str { cps:=#[c] }].length<=sizeLine/\New H2 (HO.tup [V.str (Str.ofString "letter"),V.str { cps:=#[c] }]) Q
    |V.ref p,V.int i=>∃xs v,(SqL K H2 p xs\/SqT K H2 p xs)/\atI xs i=some v/\[V.str (Str.ofString "letter"),v].length<=sizeLine/\New H2 (HO.tup [V.str (Str.ofString "letter"),v]) Q
    |x,x_1=>False) E0:=by
   refine⟨_,hb,a,ns,k+1,_,rfl,hS,fG,by lia,by lia,by rw[zX];lia,λr r0 r1=>?_⟩;rw[zX]at r1;obtain⟨x,pH,ex⟩:=O8 (xs:=xs) r0 r1;refine⟨_,_,hb,ex,zc (by simp),λp H' n1 s1 e1=>?_⟩;refine q _ H' (.letter x) s1 ⟨p,rfl,SqT.of e1⟩ (by show((1:Nat):Int)<=m;lia) λy hy=>?_;rw[zS.mp hy];exact pH
  have neg:2<=m->qm K n [V.ref a,V.int (k+3),V.int (m-1),V.ref b] H (λx H1=>[V.str (Str.ofString "not"),x].length<=sizeLine/\New H1 (HO.tup [V.str (Str.ofString "not"),x]) Q) E0:=by
   intro hm2;refine⟨a,ns,k+3,m-1,b,xs,rfl,hS,fG,by lia,by lia,by lia,by lia,hb,hx0,hx,λv H' s s1 sv pc lt=>?_⟩;refine⟨zc (by simp),λp H2 n2 s2 e2=>?_⟩;exact q _ H2 (.neg s) (s1.trans s2) ⟨p,v,rfl,SqT.of e2,sv.mono (z7 s2)⟩ (by show((s.pieces+1:Nat):Int)<=m;lia) lt
  refine w9 (λ_=>letter) (λc1=>?_);refine w9 (λ_=>letter) (λc2=>?_);have hm2:2<=m:=by
   have:¬m<2:=λz=>c1 (zO z);lia
  refine w9 (λ_=>neg hm2) (λc3=>?_);refine w9 (λ_=>neg hm2) (λc4=>?_);have hm3:3<=m:=by
   have:¬m=2:=λz=>c3 (zO z);lia
  refine⟨a,ns,k+1,m-2,rfl,hS,fG,by lia,by lia,by lia,λl l0 l1=>?_⟩;walk_at"rp";refine⟨a,ns,k+3,1+l,b,xs,rfl,hS,fG,by lia,by lia,by lia,by lia,hb,hx0,hx,λv H1 t s1 sv pc lt=>?_⟩;refine⟨cm (by decide),a,ns,_,m-1-(1+l),b,xs,rfl,s1.seq hS,fG,by lia,by lia,by lia,by lia,Ug s1 hb,hx0,hx,λv' H2 t' s2 sv' pc' lt'=>?_⟩;refine⟨zc (by simp),λp H3 n3 s3 e3=>?_⟩;refine⟨a,ns,k+2,3,rfl,(s1.trans (s2.trans s3)).seq hS,fG,by lia,by lia,by decide,λo o0 o3=>?_⟩;walk_at"rp";have bZ:∀(op:Op2),New H3 (HO.tup [V.str op.word,v,v']) Q:=λop p4 H4 n4 s4 e4=>by
   refine q _ H4 (.bin op t t') (s1.trans (s2.trans (s3.trans s4))) ⟨p4,v,v',rfl,SqT.of e4,sv.mono (z7 (s2.trans (s3.trans s4))),sv'.mono (z7 (s3.trans s4))⟩ ?_ λx hx=>?_
   ·show((t.pieces+t'.pieces+1:Nat):Int)<=m;lia
   ·rcases zP.mp hx with z|z
    ·exact lt x z
    ·exact lt' x z
  have o':o=0\/o=1\/o=2:=by lia
  rcases o' with rfl|rfl|rfl
  ·exact⟨_,_,.inl (SqL.of e3),rfl,zc (by simp),bZ .con⟩
  ·exact⟨_,_,.inl (SqL.of e3),rfl,zc (by simp),bZ .dis⟩
  ·exact⟨_,_,.inl (SqL.of e3),rfl,zc (by simp),bZ .imp⟩
def gl(K:W.Frag)(n:Nat):Sp:=λvs H Q _=>∃(v:V)(h:Addr)(s:Say)(hs:List Str),vs=[v,.ref h]/\SayAt K H v s/\s.pieces<=n/\SqT K H h (hs.map V.str)/\∀H',Same H H'->Q (.bl (s.so hs)) H'
theorem sc_lawso:zr ["_law_saying_here","_law_held_here","_law_truths"] ["_law_saying_here","_law_held_here"] (z4 (top 50)):=⟨rfl,rfl,rfl,by decide +kernel,rfl,by decide +kernel,by decide +kernel⟩
theorem ci(D:Def K mg "_law_so" (top 50) ["_law_saying_here","_law_held_here"])(pT:mg "min"=none)(pU:mg "max"=none):∀n:Nat,zv P w K mg base n "_law_so" ["_law_saying_here","_law_held_here"] (gl K n)
 |0=>yo D λvs H Q E h=>by
  obtain⟨v,h,s,hs,_,_,hp,_⟩:=h;exact absurd s.pieces_pos (by lia)
 |n+1=>by
  have nY:=ci D pT pU n;refine D.callee sc_lawso (λvs H Q E h=>?_) λf cdv A outer s H vs Q E hr h=>?_
  ·obtain⟨v,h,s,hs,rfl,_⟩:=h
   rfl
  have nd:=sc_lawso.nd;obtain⟨v,h,s,hs,rfl,hv,hp,hh,q⟩:=h;refine⟨[some v,some (.ref h),none],_,rfl,(z5 (zd (zh (ya hr.units) (yj (z8 0) zz (λ_ _=>rfl)) zx (zk _)) (z0 (zt (xy Pr (yj (z8 0) zz (λ_ _=>rfl)) (z8 1) (by with_unfolding_all rfl)))) zm)
  (z5 (um 2 nd (ixs:=[1]) (y8 (own:=["_law_part"]) (N:=["_law_held_here"]) rfl rfl rfl rfl rfl rfl rfl (by decide +kernel) rfl rfl rfl) rfl (yx (xw (z8 0) (xk zz) xg)) (λ_ _ _ _=>yg) (λ_ _ _ _=>(zp nY hr (by lia) (z9 (z8 0) (z9 (z8 1) z6)))) rfl)
  (z5 (zd (zh (ya hr.units) (yj (z8 0) zz (λ_ _=>rfl)) zx (zk _)) (z0 (zt (Xv (yj (z8 2) zz (λ_ _=>rfl))))) zm)
  (z5 (zd (zh (ya hr.units) (yj (z8 0) zz (λ_ _=>rfl)) zx (zk _)) (z0 (zt (zq (Je rfl) rfl pT Lr (z9 (z8 2) z6)))) zm)
  (z5 (zd (zh (ya hr.units) (yj (z8 0) zz (λ_ _=>rfl)) zx (zk _)) (z0 (zt (zq (Jd rfl) rfl pU Lq (z9 (z8 2) z6)))) zm)
  (z0 (zt (xy Gk (yj (z8 2) zz (λ_ _=>rfl)) (yj (z8 2) zz (λ_ _=>rfl)) (zk _))))))))),?_⟩
  have sS:∀{te:TE}{p:Addr}{H1:Hp}{us:List V}{ts:List Say}{Q':VK},(∀v H Q,te [some v,some (.ref h)] H Q=gl K n [v,.ref h] H Q E0)->Same H H1->SqT K H1 p us->us.length=ts.length->us.length<=10->(∀(i:Nat) u,us[i]?=some u->∃t,ts[i]?=some t/\SayAt K H1 u t/\t.pieces<=n) ->
    (∀D H2,Same H H2->H2 D=some (.lst ((ts.map λt=>t.so hs).map V.bl))->Q' (.ref D) H2)->ua 1 (mG 0) o4 te [some (.ref h)] (Itt K p) Q' H1:=by
   intro te p H1 us ts Q' hte s1 rQ hl hl10 hu q';refine xo (xs:=us) (λD i ys H'=>ys=((ts.take i).map λt=>t.so hs).map V.bl/\i<=us.length/\H' D=some (.lst ys)/\Same H1 H'/\H1 D=none) (zc (by lia)) ?_ ?_ ?_ ?_
   ·intro D H2 nn s2 e2;exact⟨rfl,yV _,e2,s2,nn⟩
   ·rintro D i ys H' ⟨rfl,hi,e,s2,_⟩;exact⟨(z7 s2).sqT rQ,e,by simp;lia⟩
   ·rintro D i v ys H' hv ⟨rfl,hi,e,s2,n2⟩;obtain⟨t,ht,sv,pc⟩:=hu i v hv;rw[hte];refine⟨v,h,t,hs,rfl,sv.mono (z7 s2),pc,(z7 (s1.trans s2)).sqT hh,λH3 s3=>⟨s3 _ _ e,CN.mk ?_ ⟨?_,?_,zy,zo (s2.trans s3) n2 _,n2⟩⟩⟩
    ·exact(zV.mp hv).1
    ·rw[yY,ht];simp
    ·exact(zV.mp hv).1
   ·rintro D ys H' ⟨rfl,hi,e,s2,n2⟩;rw[hl,yT]at e;exact q' D H' (s1.trans s2) e
  cases s with
  |letter x =>
   obtain⟨a,rfl,ha⟩:=hv;walk_at"rp";refine⟨_,_,.inr ha,rfl,?_⟩;walk_at"rp";refine⟨_,_,.inr ha,rfl,?_⟩;refine⟨_,.inr hh,rfl,au hs,?_⟩;rw[m4];exact q H (Same.refl H)
  |neg t =>
   obtain⟨a,u,rfl,ha,ht⟩:=hv;walk_at"rp";refine⟨_,_,.inr ha,rfl,?_⟩;walk_at"rp";refine .inr ⟨_,ha,λp H1 s1 h1=>.inr ⟨⟨_,h1⟩,λC s₀ H₀ ex=>?_⟩⟩;refine sS (us:=[u]) (ts:=[t]) (λ_ _ _=>rfl) s1 h1 rfl (by simp) (λi x hx=>?_) λD H2 s2 e2=>?_
   ·match i,hx with
    |0,hx =>
     cases hx;exact⟨t,rfl,ht.mono (z7 s1),by have:=hp;simp only[Say.pieces]at this;lia⟩
    |i+1,hx=>simp at hx
   ·have qK:=(z7 s2).sqT ha;refine⟨_,_,.inr qK,rfl,?_⟩;walk_at"rp";refine⟨_,_,.inl (SqL.of e2),rfl,?_⟩;exact q H2 s2
  |bin o t t' =>
   obtain⟨a,u,u',rfl,ha,ht,rB⟩:=hv;have p1:t.pieces<=n/\t'.pieces<=n:=by have:=hp;simp only[Say.pieces]at this;lia
   have hu:∀{H1:Hp},Same H H1->∀(i:Nat) x,[u,u'][i]?=some x->∃r,[t,t'][i]?=some r/\SayAt K H1 x r/\r.pieces<=n:=λs1 i x hx=>by
    match i,hx with
    |0,hx =>
     cases hx;exact⟨t,rfl,ht.mono (z7 s1),p1.1⟩
    |1,hx =>
     cases hx;exact⟨t',rfl,rB.mono (z7 s1),p1.2⟩
    |i+2,hx=>simp at hx
   cases o with
   |con =>
    dsimp only[Op2.word]at ha;walk_at"rp";refine⟨_,_,.inr ha,rfl,?_⟩;walk_at"rp";refine .inr ⟨_,ha,λp H1 s1 h1=>.inr ⟨⟨_,h1⟩,λC s₀ H₀ ex=>?_⟩⟩;refine sS (us:=[u,u']) (ts:=[t,t']) (λ_ _ _=>rfl) s1 h1 rfl (by simp) (hu s1) λD H2 s2 e2=>?_;have qK:=(z7 s2).sqT ha;refine⟨_,_,.inr qK,rfl,?_⟩;walk_at"rp";refine⟨_,_,.inr qK,rfl,?_⟩;walk_at"rp";refine⟨_,SqL.of e2,by simp,?_⟩;have:=q H2 s2;simpa[Say.so,Op2.so]using this
   |dis =>
    dsimp only[Op2.word]at ha;walk_at"rp";refine⟨_,_,.inr ha,rfl,?_⟩;walk_at"rp";refine .inr ⟨_,ha,λp H1 s1 h1=>.inr ⟨⟨_,h1⟩,λC s₀ H₀ ex=>?_⟩⟩;refine sS (us:=[u,u']) (ts:=[t,t']) (λ_ _ _=>rfl) s1 h1 rfl (by simp) (hu s1) λD H2 s2 e2=>?_;have qK:=(z7 s2).sqT ha;refine⟨_,_,.inr qK,rfl,?_⟩;walk_at"rp";refine⟨_,_,.inr qK,rfl,?_⟩;walk_at"rp";refine⟨_,_,.inr qK,rfl,?_⟩;walk_at"rp";refine⟨_,SqL.of e2,by simp,?_⟩;have:=q H2 s2;simpa[Say.so,Op2.so]using this
   |imp =>
    dsimp only[Op2.word]at ha;walk_at"rp";refine⟨_,_,.inr ha,rfl,?_⟩;walk_at"rp";refine .inr ⟨_,ha,λp H1 s1 h1=>.inr ⟨⟨_,h1⟩,λC s₀ H₀ ex=>?_⟩⟩;refine sS (us:=[u,u']) (ts:=[t,t']) (λ_ _ _=>rfl) s1 h1 rfl (by simp) (hu s1) λD H2 s2 e2=>?_;have qK:=(z7 s2).sqT ha;refine⟨_,_,.inr qK,rfl,?_⟩;walk_at"rp";refine⟨_,_,.inr qK,rfl,?_⟩;walk_at"rp";refine⟨_,_,.inr qK,rfl,?_⟩;walk_at"rp";refine⟨_,_,.inl (SqL.of e2),rfl,?_⟩;refine⟨_,_,.inl (SqL.of e2),rfl,?_⟩;exact q H2 s2
def Ur(K:W.Frag):Sp:=λvs H Q _=>∃(n:Int)(b:Addr)(xs:List Str),vs=[.int n,.ref b]/\(SqL K H b (xs.map V.str)\/SqT K H b (xs.map V.str))/\xs.length<=100/\∀(r:Addr)(H':Hp),Same H H'->SqT K H' r ((y9 n xs).map V.str)->Q (.ref r) H'
theorem sc_held:zr ["_law_number","_law_names_here","_law_held_here","_law_name"] ["_law_number","_law_names_here"] (z4 (top 51)):=⟨rfl,rfl,rfl,by decide +kernel,rfl,by decide +kernel,by decide +kernel⟩
theorem P3(D:Def K mg "_law_held" (top 51) ["_law_number","_law_names_here"])(aB:mg "tuple"=none):zv P w K mg base 1 "_law_held" ["_law_number","_law_names_here"] (Ur K):=by
 refine D.callee sc_held (λvs H Q E h=>?_) λf cdv A outer s H vs Q E hr h=>?_
 ·obtain⟨n,b,xs,rfl,_⟩:=h
  rfl
 have nd:=sc_held.nd;obtain⟨n,b,xs,rfl,hb,hx,q⟩:=h;refine⟨[some (.int n),some (.ref b),none,none],_,rfl,(z5 (zg 2 nd (xq z6))
  (z5 (wf yI rfl (yx (z8 1)) (vg 3 nd) (z5 (zd (zh (ya hr.units) (zn u7 (z8 0) zz) zz (zk _)) (z0 (yw (lf xF xE lc (z8 2) (z9 (z8 3) z6)))) zm)
  (z0 (zg 0 nd (zn fm (z8 0) zz)))))
  (z0 (zt (yh w4 rfl aB yb (z9 (z8 2) z6)))))),?_⟩
 walk_at"rp";refine⟨zc (by simp),λp H1 n1 s1 e1=>?_⟩;have aZ:(xs.map V.str).length=xs.length:=zX _;have SM:∃(m:Int)(bA:List Str)(nv:Option V),([some (V.int n),some (V.ref b),some (V.ref p),none]:List (Option V))=[some (.int m),some (.ref b),some (.ref p),nv]/\bA++y9 m (xs.drop 0)=y9 n xs/\H1 p=some (.lst (bA.map V.str))/\Same H H1/\bA.length<=0 :=
  ⟨n,[],none,rfl,rfl,e1,s1,zT _⟩
 have bZ:∀(σ:L2.St)(H2:Hp),(∃(m:Int)(bA:List Str)(nv:Option V),σ=[some (.int m),some (.ref b),some (.ref p),nv]/\bA++y9 m (xs.drop (xs.map V.str).length)=y9 n xs/\H2 p=some (.lst (bA.map V.str))/\Same H H2/\bA.length<=(xs.map V.str).length) ->
   H2 p=some (.lst ((y9 n xs).map V.str))/\Same H H2/\gv σ 2=some (.ref p):=by
  rintro σ H2 ⟨m,bA,nv,rfl,e,ep,s2,_⟩;rw[aZ,List.drop_length]at e;have e':bA=y9 n xs:=by simpa[y9]using e
  rw[<-e'];exact⟨ep,s2,rfl⟩
 have NC:∀(σ:L2.St)(H2:Hp),(∃(m:Int)(bA:List Str)(nv:Option V),σ=[some (.int m),some (.ref b),some (.ref p),nv]/\bA++y9 m (xs.drop (xs.map V.str).length)=y9 n xs/\H2 p=some (.lst (bA.map V.str))/\Same H H2/\bA.length<=(xs.map V.str).length) ->
   ∃ys,(SqL K H2 p ys\/SqT K H2 p ys)/\∀(r:Addr)(H':Hp),Same H2 H'->SqT K H' r ys->Q (.ref r) H':=by
  intro σ H2 h;obtain⟨ep,s2,_⟩:=bZ σ H2 h;exact⟨_,.inl (SqL.of ep),λr H' s3 hr=>q r H' (s2.trans s3) hr⟩
 have step:∀(i:Nat)(x:V),(xs.map V.str)[i]?=some x->∃y,x = .str y/\i<xs.length/\xs.drop i=y::xs.drop (i+1):=by
  intro i x hx;rw[yU]at hx;cases e:xs[i]? with
  |none=>rw[e]at hx;cases hx
  |some y =>
   rw[e]at hx;obtain⟨hi,ey⟩:=zV.mp e;exact⟨y,(yX hx).symm,hi,by rw[uG hi,ey]⟩
 rcases hb with hb|hb
 ·refine .inl ⟨⟨_,s1.seq hb⟩,sj (xs:=xs.map V.str) (λi σ H2=>∃(m:Int)(bA:List Str)(nv:Option V),σ=[some (.int m),some (.ref b),some (.ref p),nv]/\bA++y9 m (xs.drop i)=y9 n xs/\H2 p=some (.lst (bA.map V.str))/\Same H H2/\bA.length<=i) SM ?_ ?_ ?_⟩
  ·rintro i σ H2 _ ⟨m,bA,nv,rfl,e,ep,s2,_⟩;exact s2.seq hb
  ·rintro i x σ H2 rW ⟨m,bA,nv,rfl,e,ep,s2,ha⟩;obtain⟨y,rfl,hi,ed⟩:=step i x rW;rw[ed]at e;walk_at"rp";refine⟨by decide,w9 (λc=>?_) (λc=>?_)⟩
   ·have c':m % 2=1:=yZ c;rw[y9,zH c']at e;refine⟨⟨_,_,rfl,ep⟩,_,ep,by rw[zX];exact vp (by lia),⟨by decide,by decide⟩,m / 2,bA++[y],_,rfl,by rw[yQ];exact e,by rw[zy,yW];rfl,zo s2 n1 _,by rw[zL,wM];lia⟩
   ·have c':¬m % 2=1:=λz=>c (zO z);rw[y9,zK c']at e;exact⟨⟨by decide,by decide⟩,m / 2,bA,_,rfl,e,ep,s2,by lia⟩
  ·intro σ H2 h;obtain⟨m,bA,nv,rfl,_⟩:=id h;walk_at"rp";exact NC _ H2 h
 ·refine .inr ⟨⟨_,(z7 s1).sqT hb⟩,xj (xs:=xs.map V.str) (λi σ H2=>∃(m:Int)(bA:List Str)(nv:Option V),σ=[some (.int m),some (.ref b),some (.ref p),nv]/\bA++y9 m (xs.drop i)=y9 n xs/\H2 p=some (.lst (bA.map V.str))/\Same H H2/\bA.length<=i) SM ?_ ?_ ?_⟩
  ·rintro i σ H2 _ ⟨m,bA,nv,rfl,e,ep,s2,_⟩;exact(z7 s2).sqT hb
  ·rintro i x σ H2 rW ⟨m,bA,nv,rfl,e,ep,s2,ha⟩;obtain⟨y,rfl,hi,ed⟩:=step i x rW;rw[ed]at e;walk_at"rp";refine⟨by decide,w9 (λc=>?_) (λc=>?_)⟩
   ·have c':m % 2=1:=yZ c;rw[y9,zH c']at e;refine⟨⟨_,_,rfl,ep⟩,_,ep,by rw[zX];exact vp (by lia),⟨by decide,by decide⟩,m / 2,bA++[y],_,rfl,by rw[yQ];exact e,by rw[zy,yW];rfl,zo s2 n1 _,by rw[zL,wM];lia⟩
   ·have c':¬m % 2=1:=λz=>c (zO z);rw[y9,zK c']at e;exact⟨⟨by decide,by decide⟩,m / 2,bA,_,rfl,e,ep,s2,by lia⟩
  ·intro σ H2 h;obtain⟨m,bA,nv,rfl,_⟩:=id h;walk_at"rp";exact NC _ H2 h
def dj(K:W.Frag)(n:Nat):Sp:=λvs H Q _=>∃(v:V)(s:Say),vs=[v]/\SayAt K H v s/\s.pieces<=n/\s.pieces<=1000/\∀(p:Addr)(H':Hp),H p=none->Same H H'->H' p=some (.lst (s.letters.map V.str))->Q (.ref p) H'
theorem sc_within:zr ["_law_saying_here","_law_found","_law_part"] ["_law_saying_here"] (z4 (top 52)):=⟨rfl,rfl,rfl,by decide +kernel,rfl,by decide +kernel,by decide +kernel⟩
theorem i6(D:Def K mg "_law_within" (top 52) ["_law_saying_here"]):∀n:Nat,zv P w K mg base n "_law_within" ["_law_saying_here"] (dj K n)
 |0=>yo D λvs H Q E h=>by
  obtain⟨v,s,_,_,hp,_⟩:=h;exact absurd s.pieces_pos (by lia)
 |n+1=>by
  have eJ:=i6 D n;refine D.callee sc_within (λvs H Q E h=>?_) λf cdv A outer s H vs Q E hr h=>?_
  ·obtain⟨v,s,rfl,_⟩:=h
   rfl
  have nd:=sc_within.nd;obtain⟨v,s,rfl,hv,hp,CK,q⟩:=h;refine⟨[some v,none,none],_,rfl,(z5 (zd (zh (ya hr.units) (yj (z8 0) zz (λ_ _=>rfl)) zx (zk _)) (z0 (zt (xq (z9 (yj (z8 0) zz (λ_ _=>rfl)) z6)))) zm)
  (z5 (zg 1 nd (xq z6))
  (z5 (wf yI rfl (yx (xw (z8 0) (xk zz) xg)) (vg 2 nd) (z0 (zg 1 nd (zn zf (z8 1) (zp eJ hr (by lia) (z9 (z8 2) z6))))))
  (z0 (zt (z8 1)))))),?_⟩
  by_cases hs:s.subs=[]
  ·cases s with
   |letter x =>
    obtain⟨a,rfl,ha⟩:=hv;walk_at"rp";refine⟨_,_,.inr ha,rfl,?_⟩;walk_at"rp";refine⟨_,_,.inr ha,rfl,?_⟩;walk_at"rp";exact⟨zc (by simp),λp H1 n1 s1 e1=>q p H1 n1 s1 e1⟩
   |neg t=>simp[Say.subs]at hs
   |bin o t t'=>simp[Say.subs]at hs
  ·obtain⟨a,wd,us,rfl,ha,hw,hl,rD,hu⟩:=qi hv hs;walk_at"rp";refine⟨_,_,.inr ha,mx _ _,?_⟩;walk_at"rp";rw[hw];walk_at"rp";refine⟨zc (by simp),λr H0 n0 s0 e0=>?_⟩;refine .inr ⟨_,(z7 s0).sqT ha,λp H1 s1 h1=>.inr ⟨⟨_,h1⟩,?_⟩⟩;rw[p7]at h1;refine xj (xs:=us) (λi σ H2=>∃(r:Addr)(iv:Option V),σ=[some (.ref a),some (.ref r),iv]/\H r=none/\H2 r=some (.lst ((((s.subs.take i).map Say.letters).flatten).map V.str))/\Same H H2/\Same H1 H2/\i<=us.length) ⟨r,none,rfl,n0,s1 _ _ e0,s0.trans s1,Same.refl _,yV _⟩ ?_ ?_ ?_
   ·rintro i σ H2 _ ⟨r,iv,rfl,_,_,_,s2,_⟩;exact(z7 s2).sqT h1
   ·rintro i x σ H2 hx ⟨r,iv,rfl,nr,e2,s2,s2',hi⟩;obtain⟨t,ht,sv,pc⟩:=hu i x hx;walk_at"rp";refine⟨x,t,rfl,sv.mono (z7 s2),by lia,by lia,λz H3 n3 s3 e3=>?_⟩;walk_at"rp";have b1:=ko (s.subs.take i);have b2:=ml Say.pieces s.subs i;have b3:=va s;have b4:=yl t;refine .inl ⟨_,_,s3 _ _ e2,e3,by rw[zX,zX,zM];lia,λr2 H4 n4 s4 e4=>⟨r2,some x,rfl,ze (s2.trans s3) n4,?_,s2.trans (s3.trans s4),s2'.trans (s3.trans s4),(zV.mp hx).1⟩⟩;rw[e4,yY,ht];simp
   ·rintro σ H2 ⟨r,iv,rfl,nr,e2,s2,_,_⟩;walk_at"rp";rw[hl,yT,<-qo hs]at e2;exact q r H2 nr s2 e2
def mh(K:W.Frag):Sp:=λvs H Q _=>∃(a:Addr)(us:List V)(ts:List Say)(xs:List Str),vs=[.ref a]/\SqT K H a us/\SaysAt K H us ts/\Lst ts xs/\∀(p:Addr)(H':Hp)(ss:List Str),H p=none->Same H H'->H' p=some (.lst (ss.map V.str))->NamesOf ts ss->Q (.ref p) H'
theorem sc_allnames:zr ["_law_sayings_here","_law_found","_law_saying_here"] ["_law_sayings_here"] (z4 (top 53)):=⟨rfl,rfl,rfl,by decide +kernel,rfl,by decide +kernel,by decide +kernel⟩
theorem ce(D:Def K mg "_law_all_names" (top 53) ["_law_sayings_here"])(eJ:zv P w K mg base 40 "_law_within" ["_law_saying_here"] (dj K 40))(aM:mg "sorted"=none)(bB:mg "set"=none):zv P w K mg base 41 "_law_all_names" ["_law_sayings_here"] (mh K):=by
 refine D.callee sc_allnames (λvs H Q E h=>?_) λf cdv A outer s H vs Q E hr h=>?_
 ·obtain⟨a,us,ts,xs,rfl,_⟩:=h
  rfl
 have nd:=sc_allnames.nd;obtain⟨a,us,ts,xs,rfl,ha,hS,hL,q⟩:=h;have hl:=hS.len;refine⟨[some (.ref a),none,none],_,rfl,(z5 (zg 1 nd (xq z6))
  (z5 (wf yI rfl (yx (z8 0)) (vg 2 nd) (z0 (zg 1 nd (zn zf (z8 1) (zp eJ hr (by lia) (z9 (z8 2) z6))))))
  (z0 (zt (ww rfl hr.units rfl aM rfl bB (z8 1)))))),?_⟩
 walk_at"rp";refine⟨zc (by simp),λr H1 n1 s1 e1=>?_⟩;refine .inr ⟨⟨_,(z7 s1).sqT ha⟩,xj (xs:=us) (λi σ H2=>∃(r:Addr)(iv:Option V),σ=[some (.ref a),some (.ref r),iv]/\H2 r=some (.lst ((uf (ts.take i)).map V.str))/\Same H H2) ⟨r,none,rfl,e1,s1⟩ ?_ ?_ ?_⟩
 ·rintro i σ H2 _ ⟨r,iv,rfl,_,s2⟩;exact(z7 s2).sqT ha
 ·rintro i x σ H2 hx ⟨r,iv,rfl,e2,s2⟩;obtain⟨t,ht,sv⟩:=hS.at i x hx;have Bv:=zN ht;have hi:i<us.length:=(zV.mp hx).1;have h6:=hL.hi;walk_at"rp";refine⟨x,t,rfl,sv.mono (z7 s2),hL.pc t Bv,by have:=hL.pc t Bv;lia,λp H3 n3 s3 e3=>?_⟩;walk_at"rp";have h1:=kh (ts.take i) λu hu=>hL.pc u (List.mem_of_mem_take hu);have h2:=yl t;have h3:=hL.pc t Bv;have h4:(ts.take i).length<=6:=by rw[wZ];lia
  refine .inl ⟨_,_,s3 _ _ e2,e3,by rw[zX,zX,zM];lia,λr2 H4 n4 s4 e4=>⟨r2,some x,rfl,?_,s2.trans (s3.trans s4)⟩⟩;rw[e4,o6 ht,yW]
 ·rintro σ H2 ⟨r,iv,rfl,e2,s2⟩;rw[hl,yT]at e2;have h6:=hL.hi;have h1:=kh ts hL.pc;walk_at"rp";refine .inl ⟨_,.inl (SqL.of e2),by unfold scanBound;lia,λcW hn hs=>?_,λcW hn TD iH p H3 n3 s3 e3=>?_⟩
  ·have:=wx hn λy hy=>hL.nm y (hs y hy);have:=hL.xl;lia
  ·exact q p H3 cW (ze s2 n3) (s2.trans s3) e3 ⟨hn,TD,iH⟩
theorem sc_lawrow:zr ["_law_sayings_here","_law_held_here"] ["_law_sayings_here","_law_held_here"] (z4 (top 54)):=⟨rfl,rfl,rfl,by decide +kernel,rfl,by decide +kernel,by decide +kernel⟩
theorem Wm(D:Def K mg "_law_row" (top 54) ["_law_sayings_here","_law_held_here"])(nY:zv P w K mg base 40 "_law_so" ["_law_saying_here","_law_held_here"] (gl K 40))(aB:mg "tuple"=none):zv P w K mg base 41 "_law_row" ["_law_sayings_here","_law_held_here"] (nk K):=by
 refine D.callee sc_lawrow (λvs H Q E h=>?_) λf cdv A outer s H vs Q E hr h=>?_
 ·obtain⟨a,h,us,ts,xs,hs,rfl,_⟩:=h
  rfl
 have nd:=sc_lawrow.nd;obtain⟨a,h,us,ts,xs,hs,rfl,ha,hS,hL,hh,q⟩:=h;have hl:=hS.len;have h6:=hL.hi;refine⟨[some (.ref a),some (.ref h)],_,rfl,(z0 (zt (yh w4 rfl aB yb (z9 (x6 (ixs:=[1]) (y8 (own:=["_law_saying_here"]) (N:=["_law_held_here"]) rfl rfl rfl rfl rfl rfl rfl (by decide +kernel) rfl rfl rfl) rfl (yx (z8 0)) (λ_ _ _ _=>yg) (λ_ _ _ _=>(zp nY hr (by lia) (z9 (z8 0) (z9 (z8 1) z6)))) rfl) z6)))),?_⟩;walk_at"rp";refine .inr ⟨⟨_,ha⟩,λC s₀ H₀ ex=>?_⟩;refine xo (xs:=us) (λD i ys H2=>ys=((ts.take i).map λt=>t.so hs).map V.bl/\i<=us.length/\H2 D=some (.lst ys)/\Same H H2/\H D=none) (by rw[zM];lia) ?_ ?_ ?_ ?_
 ·intro D H2 n2 s2 e2;exact⟨rfl,yV _,e2,s2,n2⟩
 ·rintro D i ys H2 ⟨rfl,hi,e2,s2,_⟩;exact⟨(z7 s2).sqT ha,e2,by simp;lia⟩
 ·rintro D i v ys H2 hv ⟨rfl,hi,e2,s2,n2⟩;obtain⟨t,ht,sv⟩:=hS.at i v hv;walk_at"rp";refine⟨v,h,t,hs,rfl,sv.mono (z7 s2),hL.pc t (zN ht),(z7 s2).sqT hh,λH3 s3=>⟨s3 _ _ e2,CN.mk (zV.mp hv).1 ⟨?_,(zV.mp hv).1,zy,zo (s2.trans s3) n2 _,n2⟩⟩⟩;rw[yY,ht];simp
 ·rintro D ys H2 ⟨rfl,hi,e2,s2,n2⟩;rw[hl,yT]at e2;exact⟨_,.inl (SqL.of e2),λp H3 s3 h3=>q p H3 (s2.trans s3) h3⟩
theorem sc_lawfit:zr ["_law_sayings_here","_law_names_here","_law_number","_law_name"] ["_law_sayings_here"] (z4 (top 55)):=⟨rfl,rfl,rfl,by decide +kernel,rfl,by decide +kernel,by decide +kernel⟩
theorem Wl(D:Def K mg "_law_fit_rows" (top 55) ["_law_sayings_here"])(lM:zv P w K mg base 41 "_law_all_names" ["_law_sayings_here"] (mh K))(AK:zv P w K mg base 41 "_law_row" ["_law_sayings_here","_law_held_here"] (nk K))(Ah:zv P w K mg base 1 "_law_held" ["_law_number","_law_names_here"] (Ur K))
  (aM:mg "sorted"=none) (bB:mg "set"=none) (aN:mg "range"=none):zv P w K mg base 42 "_law_fit_rows" ["_law_sayings_here"] (sx K):=by
 refine D.callee sc_lawfit (λvs H Q E h=>?_) λf cdv A outer s H vs Q E hr h=>?_
 ·obtain⟨a,us,ts,xs,rfl,_⟩:=h
  rfl
 have nd:=sc_lawfit.nd;obtain⟨a,us,ts,xs,rfl,ha,hS,hL,q⟩:=h;refine⟨[some (.ref a),none,none,none],_,rfl,(z5 (zg 1 nd (zp lM hr (by lia) (z9 (z8 0) z6)))
  (z5 (zg 2 nd zz)
  (z5 (wf yI rfl (yx (z8 1)) (vg 3 nd) (z0 (zg 2 nd (zn u8 zz (z8 2)))))
  (z0 (zt (ww rfl hr.units rfl aM rfl bB (x6 (ixs:=[0,1]) (y8 (own:=["_law_k"]) (N:=["_law_sayings_here","_law_names_here"]) rfl rfl rfl rfl rfl rfl rfl (by decide +kernel) rfl rfl rfl) rfl (wm rfl aN (z9 (z8 2) z6)) (λ_ _ _ _=>yg) (λ_ _ _ _=>(zp AK hr (by lia) (z9 (z8 1) (z9 (zp Ah hr (by lia) (z9 (z8 0) (z9 (z8 2) z6))) z6)))) rfl))))))),?_⟩
 walk_at"rp";refine⟨a,us,ts,xs,rfl,ha,hS,hL,λb H1 ss nb s1 hb hN=>?_⟩;obtain⟨SS,hsn⟩:=hL.names hN;have p5:=T5 SS;walk_at"rp";refine .inl ⟨⟨_,SqL.of hb⟩,sj (xs:=ss.map V.str) (λi σ H2=>∃nv,σ=[some (.ref a),some (.ref b),some (.int ((2 ^ i:Nat):Int)),nv]/\H2=H1) ⟨none,rfl,rfl⟩ ?_ ?_ ?_⟩
 ·rintro i σ H2 _ ⟨nv,rfl,rfl⟩;exact SqL.of hb
 ·rintro i x σ H2 rW ⟨nv,rfl,rfl⟩;walk_at"rp";refine⟨cm (by decide),some x,?_,trivial⟩;rw[Nat.pow_succ,Int.natCast_mul,Int.mul_comm]
  rfl
 rintro σ H2 ⟨nv,rfl,rfl⟩;walk_at"rp";rw[zX];have p5':((2 ^ ss.length:Nat):Int)<=32:=Int.ofNat_le.mpr p5;have p50:(0:Int)<=((2 ^ ss.length:Nat):Int):=Int.natCast_nonneg _;refine⟨⟨by lia,by lia⟩,?_⟩;rw[xV];intro C s₀ H₀ ex;refine vc (λD i ys H3=>∃R:List (Addr×List Bool),ys=(R.map λr=>V.ref r.1)/\R.map (·.2)=(List.range i).map (λ(n:Nat)=>qg ts (y9 (n:Int) ss))/\(∀r∈R,SqT K H3 r.1 (r.2.map V.bl))/\H3 D=some (.lst ys)/\Same H2 H3/\H2 D=none) (by rw[zM];lia) ?_ ?_ ?_ ?_
 ·intro D H3 n3 s3 e3;exact⟨[],rfl,rfl,λr hr=>by simp at hr,e3,s3,n3⟩
 ·rintro D i ys H3 ⟨R,rfl,hR,_,e3,s3,_⟩;refine⟨e3,?_⟩;have:=xT List.length hR;simpa using this
 ·rintro D i ys H3 hi ⟨R,rfl,hR,hT,e3,s3,n3⟩;walk_at"rp";rw[Int.zero_add];refine⟨_,b,ss,rfl,.inl (s3.seq (SqL.of hb)),by lia,λc H4 s4 h4=>?_⟩;refine⟨a,c,us,ts,xs,_,rfl,(z7 (s1.trans (s3.trans s4))).sqT ha,hS.mono (z7 (s1.trans (s3.trans s4))),hL,h4,λp H5 s5 h5=>⟨(s4.trans s5) _ _ e3,CN.mk hi ⟨R++[(p,qg ts (y9 (i:Int) ss))],by rw[yW];rfl,?_,λr hr=>?_,zy,zo (s3.trans (s4.trans s5)) n3 _,n3⟩⟩⟩
  ·rw[yW,hR,List.range_succ,yW]
   rfl
  ·have tl:=vy (o:=.lst ((R.map λr=>V.ref r.1)++[V.ref p])) ((s4.trans s5) _ _ e3);rcases zP.mp hr with hr|hr
   ·exact tl.sqT ((z7 (s4.trans s5)).sqT (hT r hr))
   ·rw[zS.mp hr];exact tl.sqT h5
 ·rintro D ys H3 ⟨R,rfl,hR,hT,e3,s3,n3⟩;have hRl:R.length=2 ^ ss.length:=by
   have:=xT List.length hR;simpa using this
  refine .inr ⟨R,SqL.of e3,λr hr=>⟨hT r hr,?_⟩,by lia,λR' rY BQ jV iH Ei p H4 n4 s4 e4=>?_⟩
  ·have:r.2∈R.map (·.2):=yP hr;rw[hR]at this;obtain⟨n,_,e⟩:=zC.mp this;intro z;rw[<-e]at z;have h1:=sw ts (y9 (n:Int) ss);rw[z]at h1;have:=hL.lo;simp at h1;lia
  ·refine q p H4 ss R' (ze (s1.trans s3) n4) (s1.trans (s3.trans s4)) e4 (λr hr=>(z7 s4).sqT (hT r (rY r hr))) hN ⟨BQ,λk=>?_,iH⟩ (by lia);rw[jV k,hR,zC];constructor
   ·rintro⟨n,hn,rfl⟩;exact⟨n,xU.mp hn,rfl⟩
   ·rintro⟨n,hn,rfl⟩;exact⟨n,xU.mpr hn,rfl⟩
theorem Uf{H:Hp}{b l:Addr}{xs:List V}{o:HO}(gQ:b≠l)(h:SqL K H b xs):SqL K (upd H l o) b xs:=by
 rcases h with(h|⟨o',h⟩)|h
 ·exact .inl (.inl (by rw[zj gQ];exact h))
 ·exact .inl (.inr ⟨o',by rw[zj gQ];exact h⟩)
 ·exact .inr h
def ou(K:W.Frag):Sp:=λvs H Q _=>∃(a:Addr)(ns:List Int)(k:Int)(b:Addr)(xs:List Str),vs=[.ref a,.int k,.ref b]/\SqL K H a (ns.map V.int)/\ns.length<=5000/\0<=k/\k<=1000/\H b=some (.lst (xs.map V.str))/\1<=xs.length/\xs.length<=5/\(∀x∈xs,Nm x) /\
 ∀(p:Addr)(H':Hp)(us:List V)(ts:List Say),Same H H'->SqT K H' p us->SaysAt K H' us ts->Lst ts xs->Q (.ref p) H'
theorem sc_sayings60:zr ["_law_script","_law_k","_law_names_here","_law_sayings_here","_law_j","_law_room"] ["_law_script","_law_k","_law_names_here"] (z4 (top 56)):=⟨rfl,rfl,rfl,by decide +kernel,rfl,by decide +kernel,by decide +kernel⟩
theorem fw(D:Def K mg "_law_sayings" (top 56) ["_law_script","_law_k","_law_names_here"])(aI:zv P w K mg base 2 "_law_pick" ["_law_script","_law_k","_law_many"] (pr K))(aV:zv P w K mg base 43 "_law_saying" ["_law_script","_law_k","_law_room","_law_names_here"] (qm K 40))(aN:mg "range"=none)(aB:mg "tuple"=none):zv P w K mg base 44 "_law_sayings" ["_law_script","_law_k","_law_names_here"] (ou K):=by
 refine D.callee sc_sayings60 (λvs H Q E h=>?_) λf cdv A outer s H vs Q E hr h=>?_
 ·obtain⟨a,ns,k,b,xs,rfl,_⟩:=h
  rfl
 have nd:=sc_sayings60.nd;obtain⟨a,ns,k,b,xs,rfl,hS,fG,k0,k1,eb,pH,hx5,hx,q⟩:=h;refine⟨[some (.ref a),some (.int k),some (.ref b),none,none,none],_,rfl,(z5 (zg 3 nd (xq z6))
  (z5 (wf yI rfl (wm rfl aN (z9 (zn zf zz (zp aI hr (by lia) (z9 (z8 0) (z9 (z8 1) (z9 zz z6))))) z6)) (vg 4 nd) (z5 (zg 5 nd (yj (xq (z9 zz (z9 zz (z9 zz (z9 zz (z9 zz (z9 zz z6))))))) (zp aI hr (by lia) (z9 (z8 0) (z9 (zn zf (zn zf (z8 1) zz) (z8 4)) (z9 zz z6)))) (λ_ _=>rfl)))
  (z0 (yw (lf xF xE lc (z8 3) (z9 (zp aV hr (by lia) (z9 (z8 0) (z9 (zn zf (zn zf (z8 1) zz) (zn u8 zz (z8 4))) (z9 (z8 5) (z9 (z8 2) z6))))) z6))))))
  (z0 (zt (yh w4 rfl aB yb (z9 (z8 3) z6)))))),?_⟩
 walk_at"rp";refine⟨zc (by simp),λl H2 n2 s2 e2=>?_⟩;refine⟨a,ns,_,6,rfl,s2.seq hS,fG,k0,by lia,by decide,λm m0 m6=>?_⟩;walk_at"rp";refine⟨⟨by lia,by lia⟩,?_⟩;refine uk (λi σ H3=>∃(us:List V)(ts:List Say)(x4 x5:Option V),σ=[some (.ref a),some (.int k),some (.ref b),some (.ref l),x4,x5]/\H3 l=some (.lst us)/\SaysAt K H3 us ts/\ts.length=i/\(∀t∈ts,t.pieces<=40/\∀x∈t.letters,x∈xs)/\Same H H3/\SqL K H3 b (xs.map V.str)) ⟨[],[],none,none,rfl,e2,trivial,rfl,λt ht=>by simp at ht,s2,s2.seq (SqL.of eb)⟩ ?_ ?_
 ·rintro i σ H3 hi ⟨us,ts,x4,x5,rfl,e3,BU,hl,Bx,s3,UB⟩;walk_at"rp";refine⟨zc (by simp),λrl H4 n4 s4 e4=>?_⟩;have s34:Same H H4:=s3.trans s4;refine⟨a,ns,_,6,rfl,s34.seq hS,fG,by lia,by lia,by decide,λj j0 j5=>?_⟩;walk_at"rp";obtain⟨rm,erm,rm1,rm9⟩:∃rm:Int,atI [V.int 1,V.int 2,V.int 3,V.int 5,V.int 9,V.int 40] j=some (.int rm)/\1<=rm/\rm<=40:=by
   have o':j=0\/j=1\/j=2\/j=3\/j=4\/j=5:=by lia
   rcases o' with rfl|rfl|rfl|rfl|rfl|rfl
   ·exact⟨1,rfl,by decide,by decide⟩
   ·exact⟨2,rfl,by decide,by decide⟩
   ·exact⟨3,rfl,by decide,by decide⟩
   ·exact⟨5,rfl,by decide,by decide⟩
   ·exact⟨9,rfl,by decide,by decide⟩
   ·exact⟨40,rfl,by decide,by decide⟩
  refine⟨_,_,.inl (SqL.of e4),erm,?_⟩;walk_at"rp";refine⟨⟨_,_,rfl,s4 _ _ e3⟩,cm (by decide),a,ns,_,rm,b,xs,rfl,s34.seq hS,fG,by lia,by lia,rm1,by lia,.inl (s4.seq UB),by lia,by lia,λv H5 t s5 sv pc lt=>?_⟩;walk_at"rp";have e5:=(s4.trans s5) _ _ e3;have tl:=vy (o:=.lst (us++[v])) e5;refine⟨us,e5,by rw[BU.len,hl,zM];lia,us++[v],ts++[t],_,_,rfl,zy,SaysAt.app (BU.mono ((z7 (s4.trans s5)).trans tl)) ⟨sv.mono tl,trivial⟩,by rw[zL,hl];rfl,λu hu=>?_,zo (s34.trans s5) n2 _,?_⟩
  ·rcases zP.mp hu with hu|hu
   ·exact Bx u hu
   ·rw[zS.mp hu];exact⟨by lia,lt⟩
  ·have gQ:b≠l:=λz=>by rw[<-z,eb]at n2;cases n2
   have hb5:=(s4.trans s5).seq UB;exact Uf gQ hb5
 ·rintro σ H3 ⟨us,ts,x4,x5,rfl,e3,BU,hl,Bx,s3,UB⟩;walk_at"rp";refine⟨_,.inl (SqL.of e3),λp' H4 s4 h4=>q p' H4 us ts (s3.trans s4) h4 (BU.mono (z7 s4)) ⟨by lia,by lia,λt ht=>by have:=(Bx t ht).1;lia,λx rW=>?_,by lia,hx⟩⟩;obtain⟨t,ht,hxt⟩:=mem_allL.mp rW;exact(Bx t ht).2 x hxt
def jq(K:W.Frag):Sp:=λvs H Q _=>∃(a:Addr)(ns:List Int)(k:Int)(b:Addr)(R:List (Addr×List Bool))(m:Nat)(n:Int),vs=[.ref a,.int k,.ref b,.int n]/\SqL K H a (ns.map V.int)/\ns.length<=5000/\0<=k/\k<=1000/\H b=some (.lst (R.map λr=>V.ref r.1))/\(∀r∈R,SqT K H r.1 (r.2.map V.bl)/\r.2.length=m)/\1<=R.length/\R.length<=64/\1<=n/\n<=21 /\
 ∀(p:Addr)(H':Hp)(J:List (Addr×List Bool)),Same H H'->JudgesAt K H' p J m->(J.length:Int)=n->(∀r∈J,r∈R)->Q (.ref p) H'
theorem sc_seats60:zr ["_law_script","_law_k","_law_fit","_law_many"] ["_law_script","_law_k","_law_fit","_law_many"] (z4 (top 57)):=⟨rfl,rfl,rfl,by decide +kernel,rfl,by decide +kernel,by decide +kernel⟩
theorem Zp(D:Def K mg "_law_seats" (top 57) ["_law_script","_law_k","_law_fit","_law_many"])(jR:zv P w K mg base 1 "_law_cell" ["_law_script","_law_k"] (Z5 K))(aD:mg "len"=none)(aN:mg "range"=none)(aB:mg "tuple"=none):
  zv P w K mg base 3 "_law_seats" ["_law_script","_law_k","_law_fit","_law_many"] (jq K):=by
 refine D.callee sc_seats60 (λvs H Q E h=>?_) λf cdv A outer s H vs Q E hr h=>?_
 ·obtain⟨a,ns,k,b,R,m,n,rfl,_⟩:=h
  rfl
 have nd:=sc_seats60.nd;obtain⟨a,ns,k,b,R,m,n,rfl,hS,fG,k0,k1,hb,hR,BV,hR64,hn1,hn21,q⟩:=h;refine⟨[some (.ref a),some (.int k),some (.ref b),some (.int n)],_,rfl,(z0 (zt (yh w4 rfl aB yb (z9 (x6 (ixs:=[2,0,1]) (y8 (own:=["_law_j"]) (N:=["_law_fit","_law_script","_law_k"]) rfl rfl rfl rfl rfl rfl rfl (by decide +kernel) rfl rfl rfl) rfl (wm rfl aN (z9 (z8 3) z6)) (λ_ _ _ _=>yg) (λ_ _ _ _=>(yj (z8 1) (zn u7 (zp jR hr (by lia) (z9 (z8 2) (z9 (zn zf (z8 3) (z8 0)) z6))) (zq xz rfl aD yt (z9 (z8 1) z6))) (λ_ _=>rfl))) rfl) z6)))),?_⟩;obtain⟨n,rfl⟩:∃n':Nat,n=(n':Int):=⟨n.toNat,by lia⟩
 walk_at"rp";refine⟨⟨by lia,by lia⟩,λC s₀ H₀ ex=>?_⟩;rw[xV];refine vc (λD i ys H2=>∃J:List (Addr×List Bool),ys=(J.map λr=>V.ref r.1)/\J.length=i/\(∀r∈J,r∈R)/\H2 D=some (.lst ys)/\Same H H2/\H D=none) (by rw[zM];lia) ?_ ?_ ?_ ?_
 ·intro D H2 n2 s2 e2;exact⟨[],rfl,rfl,λr hr=>by simp at hr,e2,s2,n2⟩
 ·rintro D i ys H2 ⟨J,rfl,hl,_,e2,s2,_⟩;exact⟨e2,by rw[zX,hl]⟩
 ·rintro D i ys H2 hi ⟨J,rfl,hl,hJ,e2,s2,n2⟩;walk_at"rp";refine⟨a,ns,_,rfl,s2.seq hS,fG,by lia,by lia,λcc=>?_⟩;walk_at"rp";refine⟨_,.inl (SqL.of (s2 _ _ hb)),?_⟩;rw[zX];have oP:(0:Int)<(R.length:Int):=by lia
  obtain⟨v,hv,ev⟩:=o7 (xs:=R.map λr=>V.ref r.1) (k:=cc % (R.length:Int)) (uB _ (by lia)) (by rw[zX];exact vD _ oP);obtain⟨r',Ca,rfl⟩:=zC.mp hv;refine⟨oP,_,_,.inl (SqL.of (s2 _ _ hb)),ev,?_⟩;refine⟨e2,CN.mk hi ⟨J++[r'],by rw[yW];rfl,by rw[zL,hl];rfl,λx hx=>?_,zy,zo s2 n2 _,n2⟩⟩;rcases zP.mp hx with z|z
  ·exact hJ x z
  ·rw[zS.mp z];exact Ca
 ·rintro D ys H2 ⟨J,rfl,hl,hJ,e2,s2,n2⟩;exact⟨_,.inl (SqL.of e2),λp H3 s3 h3=>q p H3 J (s2.trans s3) ⟨h3,λr hr=>(z7 (s2.trans s3)).sqT (hR r (hJ r hr)).1,λr hr=>(hR r (hJ r hr)).2,by lia,by lia⟩ (by lia) hJ⟩
def SzT(s:Say):Prop:=s.pieces<=40/\∀x∈s.letters,Nm x
def gq(K:W.Frag)(n:Nat):Sp:=λvs H Q _=>∃(v:V)(s:Say),vs=[v]/\SayAt K H v s/\s.pieces<=n/\SzT s/\Q (.str s.text) H
theorem szt{n:Nat}(h:n<=16000000):n<=sizeLine:=by rw[zM];lia
theorem sc_shown:zr ["saying","kind","one","other"] ["saying"] (z4 (top 40)):=⟨rfl,rfl,rfl,by decide +kernel,rfl,by decide +kernel,by decide +kernel⟩
theorem ck(D:Def K mg "shown" (top 40) ["saying"]):∀n:Nat,zv P w K mg base n "shown" ["saying"] (gq K n)
 |0=>yo D λvs H Q E h=>by
  obtain⟨v,s,_,_,hp,_⟩:=h;exact absurd s.pieces_pos (by lia)
 |n+1=>by
  have cM:=ck D n;refine D.callee sc_shown (λvs H Q E h=>?_) λf cdv A outer s H vs Q E hr h=>?_
  ·obtain⟨v,s,rfl,_⟩:=h
   rfl
  have nd:=sc_shown.nd;obtain⟨v,s,rfl,hv,hp,hz,q⟩:=h;refine⟨[some v,none,none,none],_,rfl,(z5 (zg 1 nd (yj (z8 0) zz (λ_ _=>rfl)))
  (z5 (zd (zh (ya hr.units) (z8 1) zx (zk _)) (z0 (zt (yj (z8 0) zz (λ_ _=>rfl)))) zm)
  (z5 (zg 2 nd (zp cM hr (by lia) (z9 (yj (z8 0) zz (λ_ _=>rfl)) z6)))
  (z5 (zd (zh (ya hr.units) (z8 1) zx (zk _)) (z0 (zt (ph (yr zx (yr (vm (z8 2)) pi))))) zm)
  (z5 (zg 3 nd (zp cM hr (by lia) (z9 (yj (z8 0) zz (λ_ _=>rfl)) z6)))
  (z5 (zd (zh (ya hr.units) (z8 1) zx (zk _)) (z0 (zt (ph (yr zx (yr (vm (z8 2)) (yr zx (yr (vm (z8 3)) (yr zx pi)))))))) zm)
  (z0 (zt (ph (yr zx (yr (vm (z8 2)) (yr zx (yr (vm (z8 1)) (yr zx (yr (vm (z8 3)) (yr zx pi)))))))))))))))),?_⟩
  have hzz:=hz;obtain⟨z1,z2⟩:=hz;have tl:=yz s z2;cases s with
  |letter x =>
   obtain⟨a,rfl,ha⟩:=hv;walk_at"rp";refine⟨_,_,.inr ha,rfl,?_⟩;walk_at"rp";exact⟨_,_,.inr ha,rfl,q⟩
  |neg t =>
   obtain⟨a,u,rfl,ha,ht⟩:=hv;simp only[Say.pieces]at hp z1;have tl1:=yz t z2;walk_at"rp";refine⟨_,_,.inr ha,rfl,?_⟩;walk_at"rp";refine⟨_,_,.inr ha,rfl,?_⟩;walk_at"rp";refine⟨u,t,rfl,ht,by lia,⟨by lia,z2⟩,?_⟩;walk_at"rp";simp only[ib];refine⟨szt (by rw[l9];lia),szt (by lia),szt (by rw[yf,l9];lia),szt (by rw[yf,l9];lia),q⟩
  |bin o t t' =>
   obtain⟨a,u,u',rfl,ha,ht,rB⟩:=hv;simp only[Say.pieces]at hp z1;have y1:∀x∈t.letters,Nm x:=λx hx=>z2 x (zP.mpr (.inl hx));have y2:∀x∈t'.letters,Nm x:=λx hx=>z2 x (zP.mpr (.inr hx));have tl1:=yz t y1;have tl2:=yz t' y2;cases o <;>
   ·dsimp only[Op2.word]at ha;walk_at"rp";refine⟨_,_,.inr ha,rfl,?_⟩;walk_at"rp";refine⟨_,_,.inr ha,rfl,?_⟩;walk_at"rp";refine⟨u,t,rfl,ht,by lia,⟨by lia,y1⟩,?_⟩;walk_at"rp";refine⟨_,_,.inr ha,rfl,?_⟩;walk_at"rp";refine⟨u',t',rfl,rB,by lia,⟨by lia,y2⟩,?_⟩;walk_at"rp";simp only[ib,yf,ji,l8,jh,l7,dc,c9,qj]
    repeat first
     |exact q
     |refine⟨szt (by lia),?_⟩
def SzW(s:Say):Prop:=s.pieces<=60/\∀x∈s.letters,Nm x
def gk(K:W.Frag)(n:Nat):Sp:=λvs H Q _=>∃(v:V)(s:Say),vs=[v]/\SayAt K H v s/\s.pieces<=n/\SzW s/\∀H',Same H H'->Q (.str s.text) H'
theorem sc_lshw:zr ["_law_saying_here","_law_parts"] ["_law_saying_here"] (z4 (top 58)):=⟨rfl,rfl,rfl,by decide +kernel,rfl,by decide +kernel,by decide +kernel⟩
theorem Xy(D:Def K mg "_law_shown" (top 58) ["_law_saying_here"]):∀n:Nat,zv P w K mg base n "_law_shown" ["_law_saying_here"] (gk K n)
 |0=>yo D λvs H Q E h=>by
  obtain⟨v,s,_,_,hp,_⟩:=h;exact absurd s.pieces_pos (by lia)
 |n+1=>by
  have bV:=Xy D n;refine D.callee sc_lshw (λvs H Q E h=>?_) λf cdv A outer s H vs Q E hr h=>?_
  ·obtain⟨v,s,rfl,_⟩:=h
   rfl
  have nd:=sc_lshw.nd;obtain⟨v,s,rfl,hv,hp,⟨z1,z2⟩,q⟩:=h;refine⟨[some v,none],_,rfl,(z5 (zd (zh (ya hr.units) (yj (z8 0) zz (λ_ _=>rfl)) zx (zk _)) (z0 (zt (yj (z8 0) zz (λ_ _=>rfl)))) zm)
  (z5 (um 1 nd (ixs:=[]) (y8 (own:=["_law_part"]) (N:=[]) rfl rfl rfl rfl rfl rfl rfl (by decide +kernel) rfl rfl rfl) rfl (yx (xw (z8 0) (xk zz) xg)) (λ_ _ _ _=>yg) (λ_ _ _ _=>(zp bV hr (by lia) (z9 (z8 0) z6))) rfl)
  (z5 (zd (zh (ya hr.units) (yj (z8 0) zz (λ_ _=>rfl)) zx (zk _)) (z0 (zt (zn zf zx (yj (z8 1) zz (λ_ _=>rfl))))) zm)
  (z5 (zd (zh (ya hr.units) (yj (z8 0) zz (λ_ _=>rfl)) zx (zk _)) (z0 (zt (zn zf (zn zf (zn zf (zn zf zx (yj (z8 1) zz (λ_ _=>rfl))) zx) (yj (z8 1) zz (λ_ _=>rfl))) zx))) zm)
  (z0 (zt (zn zf (zn zf (zn zf (zn zf (zn zf (zn zf zx (yj (z8 1) zz (λ_ _=>rfl))) zx) (yj (z8 0) zz (λ_ _=>rfl))) zx) (yj (z8 1) zz (λ_ _=>rfl))) zx))))))),?_⟩
  have sS:∀{te:TE}{p:Addr}{H1:Hp}{us:List V}{ts:List Say}{Q':VK},(∀v H Q,te [some v] H Q=gk K n [v] H Q E0)->Same H H1->SqT K H1 p us->us.length=ts.length->us.length<=10->(∀(i:Nat) u,us[i]?=some u->∃t,ts[i]?=some t/\SayAt K H1 u t/\t.pieces<=n/\SzW t) ->
    (∀D H2,Same H H2->H2 D=some (.lst ((ts.map λt=>t.text).map V.str))->Q' (.ref D) H2)->ua 1 (mG 0) o4 te [] (Itt K p) Q' H1:=by
   intro te p H1 us ts Q' hte s1 rQ hl hl10 hu q';refine xo (xs:=us) (λD i ys H'=>ys=((ts.take i).map λt=>t.text).map V.str/\i<=us.length/\H' D=some (.lst ys)/\Same H1 H'/\H1 D=none) (zc (by lia)) ?_ ?_ ?_ ?_
   ·intro D H2 nn s2 e2;exact⟨rfl,yV _,e2,s2,nn⟩
   ·rintro D i ys H' ⟨rfl,hi,e,s2,_⟩;exact⟨(z7 s2).sqT rQ,e,by simp;lia⟩
   ·rintro D i v ys H' hv ⟨rfl,hi,e,s2,n2⟩;obtain⟨t,ht,sv,pc,hz⟩:=hu i v hv;rw[hte];refine⟨v,t,rfl,sv.mono (z7 s2),pc,hz,λH3 s3=>⟨s3 _ _ e,CN.mk ?_ ⟨?_,?_,zy,zo (s2.trans s3) n2 _,n2⟩⟩⟩
    ·exact(zV.mp hv).1
    ·rw[yY,ht];simp
    ·exact(zV.mp hv).1
   ·rintro D ys H' ⟨rfl,hi,e,s2,n2⟩;rw[hl,yT]at e;exact q' D H' (s1.trans s2) e
  cases s with
  |letter x =>
   obtain⟨a,rfl,ha⟩:=hv;walk_at"rp";refine⟨_,_,.inr ha,rfl,?_⟩;walk_at"rp";exact⟨_,_,.inr ha,rfl,q H (Same.refl H)⟩
  |neg t =>
   obtain⟨a,u,rfl,ha,ht⟩:=hv;simp only[Say.pieces]at hp z1;have tl1:=yz t z2;walk_at"rp";refine⟨_,_,.inr ha,rfl,?_⟩;walk_at"rp";refine .inr ⟨_,ha,λp H1 s1 h1=>.inr ⟨⟨_,h1⟩,λC s₀ H₀ ex=>?_⟩⟩;refine sS (us:=[u]) (ts:=[t]) (λ_ _ _=>rfl) s1 h1 rfl (by simp) (λi x hx=>?_) λD H2 s2 e2=>?_
   ·match i,hx with
    |0,hx =>
     cases hx;exact⟨t,rfl,ht.mono (z7 s1),by lia,by lia,z2⟩
    |i+1,hx=>simp at hx
   ·have qK:=(z7 s2).sqT ha;refine⟨_,_,.inr qK,rfl,?_⟩;walk_at"rp";refine⟨_,_,.inl (SqL.of e2),rfl,?_⟩;walk_at"rp";exact⟨szt (by rw[l9];lia),q H2 s2⟩
  |bin o t t' =>
   obtain⟨a,u,u',rfl,ha,ht,rB⟩:=hv;simp only[Say.pieces]at hp z1;have y1:∀x∈t.letters,Nm x:=λx hx=>z2 x (zP.mpr (.inl hx));have y2:∀x∈t'.letters,Nm x:=λx hx=>z2 x (zP.mpr (.inr hx));have tl1:=yz t y1;have tl2:=yz t' y2;have hu:∀{H1:Hp},Same H H1->∀(i:Nat) x,[u,u'][i]?=some x->∃r,[t,t'][i]?=some r/\SayAt K H1 x r/\r.pieces<=n/\SzW r:=λs1 i x hx=>by
    match i,hx with
    |0,hx =>
     cases hx;exact⟨t,rfl,ht.mono (z7 s1),by lia,by lia,y1⟩
    |1,hx =>
     cases hx;exact⟨t',rfl,rB.mono (z7 s1),by lia,by lia,y2⟩
    |i+2,hx=>simp at hx
   cases o <;>
   ·dsimp only[Op2.word]at ha;walk_at"rp";refine⟨_,_,.inr ha,rfl,?_⟩;walk_at"rp";refine .inr ⟨_,ha,λp H1 s1 h1=>.inr ⟨⟨_,h1⟩,λC s₀ H₀ ex=>?_⟩⟩;refine sS (us:=[u,u']) (ts:=[t,t']) (λ_ _ _=>rfl) s1 h1 rfl (by simp) (hu s1) λD H2 s2 e2=>?_;have qK:=(z7 s2).sqT ha;have q2:=q H2 s2;refine⟨_,_,.inr qK,rfl,?_⟩;walk_at"rp";refine⟨_,_,.inr qK,rfl,?_⟩;walk_at"rp";refine⟨_,_,.inl (SqL.of e2),rfl,?_⟩;walk_at"rp";simp only[yf,ji,l8,jh,l7,dc,c9,qj]
    repeat first
     |exact q2
     |refine⟨szt (by lia),?_⟩
     |(refine⟨_,_,.inr qK,rfl,?_⟩;walk_at"rp";simp only[yf,ji,l8,jh,l7,dc,c9,qj])
     |(refine⟨_,_,.inl (SqL.of e2),rfl,?_⟩;walk_at"rp";simp only[yf,ji,l8,jh,l7,dc,c9,qj])
def ynT(b:Bool):Str:=if b=true then Str.ofString "y" else Str.ofString "n"
def j8(k:List Bool):Str:=Txt.join (Str.ofString "") (k.map ynT)
def yu(ts:List Say)(ks:List (List Bool)):List Str:=(ts.map λt=>Str.ofString "say "++t.text)++ks.map λk=>Str.ofString "judge "++j8 k
theorem l_e:(Str.ofString "").length=0:=by decide +kernel
theorem Ie:(Str.ofString "\n").length=1:=by decide +kernel
theorem Xs:(Str.ofString "say ").length=4:=by decide +kernel
theorem nc:(Str.ofString "judge ").length=6:=by decide +kernel
theorem Gb(b:Bool):(ynT b).length=1:=by cases b<;>decide +kernel
theorem Xq(sep:Str)(ys:List Str):(Txt.join sep ys).length<=(ys.map (·.length)).sum+ys.length*sep.length:=by
 show(PySem.Builtin.Str.glued sep ys).length<=_;rw[StrLaws.glued_eq_join];exact StrLaws.join_length_le sep ys
theorem gu:∀k:List Bool,((k.map ynT).map (·.length)).sum=k.length
 |[]=>rfl
 |b::k=>by
  rw[List.map_cons,List.map_cons,uC,gu k,Gb,yJ];lia
theorem qh(k:List Bool):(j8 k).length<=k.length:=by
 have:=Xq (Str.ofString "") (k.map ynT);rw[gu,l_e]at this;unfold j8;lia
theorem Uv{ys:List Str}{b:Nat}(h:∀y∈ys,y.length<=b):(ys.map (·.length)).sum<=ys.length*b:=by
 induction ys with
 |nil=>exact yV _
 |cons y ys ih =>
  have h1:=h y zB;have h2:=ih λz hz=>h z (zI _ hz);rw[List.map_cons,uC,yJ,Nat.succ_mul];lia
theorem bv{ts:List Say}{ks:List (List Bool)}(h1:ts.length<=6)(h2:ks.length<=21)(h3:∀t∈ts,SzT t)(h4:∀k∈ks,k.length<=6):((yu ts ks).map (·.length)).sum+(yu ts ks).length*(Str.ofString "\n").length<=16777216:=by
 have hl:(yu ts ks).length=ts.length+ks.length:=by
  unfold yu;rw[zL,zX,zX]
 have:=Uv (ys:=yu ts ks) (b:=2000) λy hy=>by
  rcases zP.mp hy with z|z
  ·obtain⟨t,ht,rfl⟩:=zC.mp z;have hz:=h3 t ht;have:=yz t hz.2;have:=hz.1;rw[yf,Xs];lia
  ·obtain⟨k,hk,rfl⟩:=zC.mp z;have:=qh k;have:=h4 k hk;rw[yf,nc];lia
 rw[Ie];rw[hl]at this ⊢;lia
def Us(K:W.Frag):Sp:=λvs H Q _=>∃(a:Addr)(k:List Bool),vs=[.ref a]/\SqT K H a (k.map V.bl)/\k.length<=10/\∀H',Same H H'->Q (.str (j8 k)) H'
theorem sc_letters60:zr ["row"] ["row"] (z4 (top 41)):=⟨rfl,rfl,rfl,by decide +kernel,rfl,by decide +kernel,by decide +kernel⟩
theorem fv(D:Def K mg "letters_for" (top 41) ["row"]):zv P w K mg base 1 "letters_for" ["row"] (Us K):=by
 refine D.callee sc_letters60 (λvs H Q E h=>?_) λf cdv A outer s H vs Q E hr h=>?_
 ·obtain⟨a,k,rfl,_⟩:=h
  rfl
 have nd:=sc_letters60.nd;obtain⟨a,k,rfl,ha,hk,q⟩:=h;refine⟨[some (.ref a)],_,rfl,(z0 (zt (fo zx (z9 (x6 (ixs:=[]) (y8 (own:=["truth"]) (N:=[]) rfl rfl rfl rfl rfl rfl rfl (by decide +kernel) rfl rfl rfl) rfl (yx (z8 0)) (λ_ _ _ _=>yg) (λ_ _ _ _=>(cu (wn (z8 0)) zx zx)) rfl) z6)))),?_⟩;walk_at"rp";refine .inr ⟨⟨_,ha⟩,λC s₀ H₀ ex=>?_⟩;refine xo (xs:=k.map V.bl) (λD i ys H2=>ys=((k.take i).map ynT).map V.str/\i<=k.length/\H2 D=some (.lst ys)/\Same H H2/\H D=none) (by rw[zX,zM];lia) ?_ ?_ ?_ ?_
 ·intro D H2 n2 s2 e2;exact⟨rfl,yV _,e2,s2,n2⟩
 ·rintro D i ys H2 ⟨rfl,hi,e2,s2,_⟩;exact⟨(z7 s2).sqT ha,e2,by simp;lia⟩
 ·rintro D i v ys H2 hv ⟨rfl,hi,e2,s2,n2⟩;rw[yU]at hv;cases hb:k[i]? with
  |none=>rw[hb]at hv;cases hv
  |some b =>
  rw[hb]at hv;cases hv;have oF:=(zV.mp hb).1;have bZ:upd H2 D (.lst (((k.take i).map ynT).map V.str++[V.str (ynT b)]))=upd H2 D (.lst (((k.take (i+1)).map ynT).map V.str)):=by
   rw[yY,hb];simp
  walk_at"rp";cases b with
  |true=>exact⟨e2,CN.mk (by rw[zX];exact oF) ⟨by rw[yY,hb];simp[ynT],oF,zy,zo s2 n2 _,n2⟩⟩
  |false=>exact⟨e2,CN.mk (by rw[zX];exact oF) ⟨by rw[yY,hb];simp[ynT],oF,zy,zo s2 n2 _,n2⟩⟩
 ·rintro D ys H2 ⟨rfl,hi,e2,s2,n2⟩;rw[zX,yT]at e2;refine⟨k.map ynT,SqL.of e2,?_,q H2 s2⟩;rw[gu,l_e];lia
def sy(K:W.Frag):Sp:=λvs H Q _=>∃(a b:Addr)(us:List V)(ts:List Say)(J:List (Addr×List Bool)),vs=[.ref a,.ref b]/\SqT K H a us/\SaysAt K H us ts/\ts.length<=6/\(∀t∈ts,SzT t)/\JudgesAt K H b J ts.length/\J.length<=21/\∀H',Same H H'->Q (.str (Txt.join (Str.ofString "\n") (yu ts (J.map (·.2))))) H'
theorem sc_written:zr ["sayings","judges","lines"] ["sayings","judges"] (z4 (top 42)):=⟨rfl,rfl,rfl,by decide +kernel,rfl,by decide +kernel,by decide +kernel⟩
theorem Zq(D:Def K mg "written" (top 42) ["sayings","judges"])(cM:zv P w K mg base 40 "shown" ["saying"] (gq K 40))(pA:zv P w K mg base 1 "letters_for" ["row"] (Us K)):zv P w K mg base 41 "written" ["sayings","judges"] (sy K):=by
 refine D.callee sc_written (λvs H Q E h=>?_) λf cdv A outer s H vs Q E hr h=>?_
 ·obtain⟨a,b,us,ts,J,rfl,_⟩:=h
  rfl
 have nd:=sc_written.nd;obtain⟨a,b,us,ts,J,rfl,ha,hS,h6,hz,hJ,UH,q⟩:=h;have hl:=hS.len;refine⟨[some (.ref a),some (.ref b),none],_,rfl,(z5 (um 2 nd (ixs:=[]) (y8 (own:=["saying"]) (N:=[]) rfl rfl rfl rfl rfl rfl rfl (by decide +kernel) rfl rfl rfl) rfl (yx (z8 0)) (λ_ _ _ _=>yg) (λ_ _ _ _=>(zn zf zx (zp cM hr (by lia) (z9 (z8 0) z6)))) rfl)
  (z5 (yw (lf wH vJ fk (z8 2) (z9 (x6 (ixs:=[]) (y8 (own:=["row"]) (N:=[]) rfl rfl rfl rfl rfl rfl rfl (by decide +kernel) rfl rfl rfl) rfl (yx (z8 1)) (λ_ _ _ _=>yg) (λ_ _ _ _=>(zn zf zx (zp pA hr (by lia) (z9 (z8 0) z6)))) rfl) z6)))
  (z0 (zt (fo zx (z9 (z8 2) z6)))))),?_⟩
 walk_at"rp";refine .inr ⟨⟨_,ha⟩,λC s₀ H₀ ex=>?_⟩;refine xo (xs:=us) (λD i ys H2=>ys=((ts.take i).map λt=>Str.ofString "say "++t.text).map V.str/\i<=us.length/\H2 D=some (.lst ys)/\Same H H2/\H D=none) (by rw[zM];lia) ?_ ?_ ?_ ?_
 ·intro D H2 n2 s2 e2;exact⟨rfl,yV _,e2,s2,n2⟩
 ·rintro D i ys H2 ⟨rfl,hi,e2,s2,_⟩;exact⟨(z7 s2).sqT ha,e2,by simp;lia⟩
 ·rintro D i v ys H2 hv ⟨rfl,hi,e2,s2,n2⟩;obtain⟨t,ht,sv⟩:=hS.at i v hv;have DY:=hz t (zN ht);have htl:=yz t DY.2;have htp:=DY.1;walk_at"rp";refine⟨v,t,rfl,sv.mono (z7 s2),htp,DY,?_⟩;walk_at"rp";refine⟨szt (by rw[Xs];lia),e2,CN.mk (zV.mp hv).1 ⟨?_,(zV.mp hv).1,zy,zo s2 n2 _,n2⟩⟩;rw[yY,ht];simp
 ·rintro D ys H2 ⟨rfl,hi,e2,s2,n2⟩;rw[hl,yT]at e2;walk_at"rp";refine⟨⟨_,_,rfl,e2⟩,?_⟩;have sP:=hJ.mono (z7 s2);refine .inr ⟨⟨_,sP.sq⟩,λC s₀ H₀ ex=>?_⟩;refine xo (xs:=J.map λr=>V.ref r.1) (λD' i ys H3=>ys=(((J.map (·.2)).take i).map λk=>Str.ofString "judge "++j8 k).map V.str/\i<=J.length/\H3 D'=some (.lst ys)/\Same H2 H3/\H2 D'=none) (by rw[zX,zM];lia) ?_ ?_ ?_ ?_
  ·intro D' H3 n3 s3 e3;exact⟨rfl,yV _,e3,s3,n3⟩
  ·rintro D' i ys H3 ⟨rfl,hi,e3,s3,_⟩;exact⟨(z7 s3).sqT sP.sq,e3,by simp;lia⟩
  ·rintro D' i v ys H3 hv ⟨rfl,hi,e3,s3,n3⟩;rw[yU]at hv;cases hb:J[i]? with
   |none=>rw[hb]at hv;cases hv
   |some r =>
   rw[hb]at hv;cases hv;have oF:=(zV.mp hb).1;have SU:=zN hb;have B':=sP.len r SU;have hrt:=qh r.2;walk_at"rp";refine⟨r.1,r.2,rfl,(z7 s3).sqT (sP.row r SU),by lia,λH4 s4=>?_⟩;walk_at"rp";refine⟨szt (by rw[nc];lia),s4 _ _ e3,CN.mk (by rw[zX];exact oF) ⟨?_,oF,zy,zo (s3.trans s4) n3 _,n3⟩⟩;rw[yY,yU,hb];simp
  ·rintro D' ys H3 ⟨rfl,hi,e3,s3,n3⟩;rw[zX]at e3;rw[show J.length=(J.map (·.2)).length from(zX _).symm,yT]at e3;walk_at"rp";refine⟨_,_,s3 _ _ e2,.inl e3,by simp only[zX];rw[zM];lia,?_⟩;walk_at"rp";refine⟨yu ts (J.map (·.2)),SqL.of (by rw[zy];unfold yu;rw[yW]),bv h6 (by rw[zX];exact UH) hz (λk hk=>?_),q _ (zo (s2.trans s3) n2 _)⟩;obtain⟨r,hr,rfl⟩:=zC.mp hk;rw[hJ.len r hr];exact h6
theorem ny0:atI (Str.ofString "ny").cps.toList 0=some 110:=by decide +kernel
theorem ny1:atI (Str.ofString "ny").cps.toList 1=some 121:=by decide +kernel
theorem Gm:(⟨#[110]⟩:Str)=Str.ofString "n":=by decide +kernel
theorem Gn:(⟨#[121]⟩:Str)=Str.ofString "y":=by decide +kernel
theorem S7:(Str.ofString "ny").length<=sizeLine:=by rw[zM];decide +kernel
theorem sc_lwritten:zr ["_law_sayings_here","_law_judges","_law_lines","_law_row_here"] ["_law_sayings_here","_law_judges"] (z4 (top 59)):=⟨rfl,rfl,rfl,by decide +kernel,rfl,by decide +kernel,by decide +kernel⟩
theorem cj(D:Def K mg "_law_written" (top 59) ["_law_sayings_here","_law_judges"])(bV:zv P w K mg base 60 "_law_shown" ["_law_saying_here"] (gk K 60))(gH:mg "int"=none):zv P w K mg base 61 "_law_written" ["_law_sayings_here","_law_judges"] (sy K):=by
 refine D.callee sc_lwritten (λvs H Q E h=>?_) λf cdv A outer s H vs Q E hr h=>?_
 ·obtain⟨a,b,us,ts,J,rfl,_⟩:=h
  rfl
 have nd:=sc_lwritten.nd;obtain⟨a,b,us,ts,J,rfl,ha,hS,h6,hz,hJ,UH,q⟩:=h;have hl:=hS.len;refine⟨[some (.ref a),some (.ref b),none,none],_,rfl,(z5 (um 2 nd (ixs:=[]) (y8 (own:=["_law_saying_here"]) (N:=[]) rfl rfl rfl rfl rfl rfl rfl (by decide +kernel) rfl rfl rfl) rfl (yx (z8 0)) (λ_ _ _ _=>yg) (λ_ _ _ _=>(zn zf zx (zp bV hr (by lia) (z9 (z8 0) z6)))) rfl)
  (z5 (wf yI rfl (yx (z8 1)) (vg 3 nd) (z0 (yw (lf xF xE lc (z8 2) (z9 (zn zf zx (fo zx (z9 (x6 (ixs:=[]) (y8 (own:=["_law_truth"]) (N:=[]) rfl rfl rfl rfl rfl rfl rfl (by decide +kernel) rfl rfl rfl) rfl (yx (z8 3)) (λ_ _ _ _=>yg) (λ_ _ _ _=>(yj zx (yh Ps rfl gH Yw (z9 (z8 0) z6)) (λ_ _=>rfl))) rfl) z6))) z6)))))
  (z0 (zt (fo zx (z9 (z8 2) z6)))))),?_⟩
 walk_at"rp";refine .inr ⟨⟨_,ha⟩,λC s₀ H₀ ex=>?_⟩;refine xo (xs:=us) (λD i ys H2=>ys=((ts.take i).map λt=>Str.ofString "say "++t.text).map V.str/\i<=us.length/\H2 D=some (.lst ys)/\Same H H2/\H D=none) (by rw[zM];lia) ?_ ?_ ?_ ?_
 ·intro D H2 n2 s2 e2;exact⟨rfl,yV _,e2,s2,n2⟩
 ·rintro D i ys H2 ⟨rfl,hi,e2,s2,_⟩;exact⟨(z7 s2).sqT ha,e2,by simp;lia⟩
 ·rintro D i v ys H2 hv ⟨rfl,hi,e2,s2,n2⟩;obtain⟨t,ht,sv⟩:=hS.at i v hv;have DY:=hz t (zN ht);have htl:=yz t DY.2;have htp:=DY.1;walk_at"rp";refine⟨v,t,rfl,sv.mono (z7 s2),by lia,⟨by lia,DY.2⟩,λH3 s3=>?_⟩;walk_at"rp";refine⟨szt (by rw[Xs];lia),s3 _ _ e2,CN.mk (zV.mp hv).1 ⟨?_,(zV.mp hv).1,zy,zo (s2.trans s3) n2 _,n2⟩⟩;rw[yY,ht];simp
 rintro D ys H2 ⟨rfl,hi,e2,s2,n2⟩;rw[hl,yT]at e2;have sP:=hJ.mono (z7 s2);walk_at"rp";refine .inr ⟨⟨_,sP.sq⟩,xj (xs:=J.map λr=>V.ref r.1) (λi σ H3=>∃x3:Option V,σ=[some (.ref a),some (.ref b),some (.ref D),x3]/\H3 D=some (.lst ((yu ts ((J.map (·.2)).take i)).map V.str))/\Same H H3/\Tups H2 H3/\i<=J.length) ⟨none,rfl,by rw[e2];unfold yu;simp,s2,Tups.refl _,yV _⟩ ?_ ?_ ?_⟩
 ·rintro i σ H3 _ ⟨x3,rfl,e3,s3,t3,_⟩;exact t3.sqT sP.sq
 ·rintro i v σ H3 hv ⟨x3,rfl,e3,s3,t3,hi3⟩;rw[yU]at hv;cases hb:J[i]? with
  |none=>rw[hb]at hv;cases hv
  |some r =>
  rw[hb]at hv;cases hv;have oF:=(zV.mp hb).1;have SU:=zN hb;have B':=hJ.len r SU;have hrt:=qh r.2;have hr3:=t3.sqT (sP.row r SU);walk_at"rp";refine⟨⟨_,_,rfl,e3⟩,.inr ⟨⟨_,hr3⟩,λC s₀ H₀ ex=>?_⟩⟩;refine xo (xs:=r.2.map V.bl) (λD' i ys H4=>ys=((r.2.take i).map ynT).map V.str/\i<=r.2.length/\H4 D'=some (.lst ys)/\Same H3 H4/\H3 D'=none) (by rw[zX,zM];lia) ?_ ?_ ?_ ?_
  ·intro D' H4 n4 s4 e4;exact⟨rfl,yV _,e4,s4,n4⟩
  ·rintro D' j ys H4 ⟨rfl,hj,e4,s4,_⟩;exact⟨(z7 s4).sqT hr3,e4,by simp;lia⟩
  ·rintro D' j v ys H4 hv ⟨rfl,hj,e4,s4,n4⟩;rw[yU]at hv;cases hc:r.2[j]? with
   |none=>rw[hc]at hv;cases hv
   |some c =>
   rw[hc]at hv;cases hv;have rR:=(zV.mp hc).1;walk_at"rp";cases c with
   |true=>exact⟨S7,121,ny1,e4,CN.mk (by rw[zX];exact rR) ⟨by rw[yY,hc,Gn];simp[ynT],rR,zy,zo s4 n4 _,n4⟩⟩
   |false=>exact⟨S7,110,ny0,e4,CN.mk (by rw[zX];exact rR) ⟨by rw[yY,hc,Gm];simp[ynT],rR,zy,zo s4 n4 _,n4⟩⟩
  ·rintro D' ys H4 ⟨rfl,hj,e4,s4,n4⟩;rw[zX,yT]at e4;walk_at"rp";refine⟨r.2.map ynT,SqL.of e4,by rw[gu,l_e];lia,?_⟩;walk_at"rp";have e5:=s4 _ _ e3;refine⟨szt (by rw[nc];show 6+(j8 r.2).length<=_;lia),_,e5,?_,_,rfl,?_,zo (s3.trans s4) n2 _,(t3.trans (z7 s4)).trans (vy e5),oF⟩
   ·unfold yu;simp only[zX,zL,wZ];rw[zM];lia
   ·rw[zy,yY,yU,hb];unfold yu;simp[j8]
 rintro σ H3 ⟨x3,rfl,e3,s3,t3,_⟩;rw[zX]at e3;rw[show J.length=(J.map (·.2)).length from(zX _).symm,yT]at e3;walk_at"rp";refine⟨yu ts (J.map (·.2)),SqL.of e3,bv h6 (by rw[zX];exact UH) hz (λk hk=>?_),q _ s3⟩;obtain⟨r,hr,rfl⟩:=zC.mp hk;rw[hJ.len r hr];exact h6
def Sg(c:Nat):Prop:=32<=c/\c<=122
theorem wz{x y:List Nat}(h1:∀c∈x,Sg c)(h2:∀c∈y,Sg c):∀c∈x++y,Sg c:=List.forall_mem_append.mpr ⟨h1,h2⟩
theorem Ny:∀c∈lit "not ",Sg c:=by rw[u5];unfold Sg;decide
theorem Kv:∀c∈lit "(if ",Sg c:=by rw[tu];unfold Sg;decide
theorem Ou:∀c∈lit "(",Sg c:=by rw[vv];unfold Sg;decide
theorem Uk:∀c∈lit ")",Sg c:=by rw[qx];unfold Sg;decide
theorem Q0:∀c∈lit " then ",Sg c:=by rw[qb];unfold Sg;decide
theorem Nx:∀c∈lit " and ",Sg c:=by rw[uj];unfold Sg;decide
theorem Kw:∀c∈lit " or ",Sg c:=by rw[qz];unfold Sg;decide
theorem fg:lit "say "=[115,97,121,32]:=by decide +kernel
theorem pf:lit "judge "=[106,117,100,103,101,32]:=by decide +kernel
theorem Nz:∀c∈lit "say ",Sg c:=by rw[fg];unfold Sg;decide
theorem Ul:∀c∈lit "judge ",Sg c:=by rw[pf];unfold Sg;decide
theorem qp:∀t:Say,(∀y∈t.letters,NmV y)->∀c∈tl t,Sg c
 | .letter y,h=>λc hc=>by
  have:=df ((h y (zS.mpr rfl)).2 c hc);unfold Sg;lia
 | .neg t,h=>by rw[ah];exact wz Ny (qp t h)
 | .bin .con a b,h=>by rw[ae];exact wz Ou (wz (qp a λy hy=>h y (yH _ hy)) (wz Nx (wz (qp b λy hy=>h y (zF _ hy)) Uk)))
 | .bin .dis a b,h=>by rw[af];exact wz Ou (wz (qp a λy hy=>h y (yH _ hy)) (wz Kw (wz (qp b λy hy=>h y (zF _ hy)) Uk)))
 | .bin .imp a b,h=>by rw[ag];exact wz Kv (wz (qp a λy hy=>h y (yH _ hy)) (wz Q0 (wz (qp b λy hy=>h y (zF _ hy)) Uk)))
theorem lj{y:Str}(h:NmV y):Nm y:=by
 have h1:=h.1;unfold t7 at h1;rw[yN,yN]at h1;have hl:=xu y;have h2:¬6<y.cps.toList.length:=λz=>by
  have:=h1.2.1;rw[zO z]at this;cases this
 refine⟨by lia,?_⟩;have e:(⟨y.cps.toList.toArray⟩:Str)=y:=by simp
 rw[<-e];exact oq h.2
theorem jb{t:Say}(hv:∀y∈t.letters,NmV y):lr (tl t)=if t.pieces<=40 then some t else none:=by
 have h:=wy (x:=tl t) t 41 40 0 [] hv (by rw[tM,List.append_nil]) (λc e=>by cases e) (by decide);unfold lr
 by_cases hp:t.pieces<=40
 ·rw[h.1 hp,zH hp];dsimp only;rw[zK (by lia)]
 ·rw[h.2 (by lia),zK hp]
theorem Re{t:Say}(hp:t.pieces<=60)(hv:∀y∈t.letters,NmV y):tj t.text:=by
 have:=yz t λy hy=>lj (hv y hy);refine⟨by lia,λc hc=>?_⟩;have:=(qp t hv c hc).2;lia
def ynC(b:Bool):Nat:=if b=true then 121 else 110
theorem Ob(b:Bool):(ynT b).cps.toList=[ynC b]:=by cases b<;>decide +kernel
theorem Sd:∀ks:List Nat,jl [] (ks.map λc=>[c])=ks
 |[]=>rfl
 |[c]=>by simp[jl]
 |c::d::ks=>by
  have:=Sd (d::ks);simp only[List.map_cons]at this ⊢;rw[jl,this]
  rfl
theorem Qt(k:List Bool):(j8 k).cps.toList=k.map ynC:=by
 show(PySem.Builtin.Str.glued (Str.ofString "") (k.map ynT)).cps.toList=_;rw[StrLaws.glued_eq_join,m9,xO];rw[show(λp:Str=>p.cps.toList)∘ynT=(λc=>[c])∘ynC from funext Ob,<-xO,show(Str.ofString "").cps.toList=[]by decide +kernel,Sd]
def Z0(t:Say):Str:=Str.ofString "say "++t.text
def ui(k:List Bool):Str:=Str.ofString "judge "++j8 k
theorem gc(t:Say):(Z0 t).cps.toList=lit "say "++tl t:=by
 unfold Z0;rw[xG,yF];rfl
theorem si(k:List Bool):(ui k).cps.toList=lit "judge "++k.map ynC:=by
 unfold ui;rw[xG,yF,Qt];rfl
theorem Ww(k:List Bool):Wv (ui k).cps.toList k.length=some k:=by
 have hd:(ui k).cps.toList.drop 6=k.map ynC:=by rw[si,pf];rfl
 have ha:(k.map ynC).all yn=true:=xC.mpr λc hc=>by
  obtain⟨b,_,rfl⟩:=zC.mp hc;cases b<;>rfl
 have hn:nx (ui k).cps.toList 0 (lit "judge ")=true:=v7 (z:=k.map ynC) (by rw[tM,si]);unfold Wv;rw[hd,zH ⟨hn,zX _,ha⟩,xO,show((λc=>decide (c=121))∘ynC)=id from funext λb=>by cases b<;>rfl,List.map_id]
theorem X9:∀(ks:List (List Bool))(ts:List Say)(OT:List (List Bool)),(∀k∈ks,k.length=ts.length)->xn (ks.map ui) ts OT=some (ts,OT++ks)
 |[],ts,OT,_=>by rw[List.map_nil,xn,List.append_nil]
 |k::ks,ts,OT,h=>by
  have hn:nx (ui k).cps.toList 0 (lit "say ")=false:=by
   rw[fg];exact i3 (c:=106) (z:=[117,100,103,101,32]++k.map ynC) (by rw[tM,si,pf];rfl) (by decide)
  rw[List.map_cons,xn,hn,zK (by rintro⟨z,_⟩;cases z),<-h k zB,Ww];dsimp only;rw[X9 ks ts (OT++[k]) λk' hk=>h k' (zI _ hk),yQ]
  rfl
theorem Ya:∀(ts FZ:List Say)(ls:List Str),(∀t∈ts,t.pieces<=40/\∀y∈t.letters,NmV y)->xn (ts.map Z0++ls) FZ []=xn ls (FZ++ts) []
 |[],FZ,ls,_=>by rw[List.map_nil,uA,List.append_nil]
 |t::ts,FZ,ls,h=>by
  have h1:=h t zB;have hn:nx (Z0 t).cps.toList 0 (lit "say ")=true:=v7 (z:=tl t) (by rw[tM,gc]);have hd:(Z0 t).cps.toList.drop 4=tl t:=by rw[gc,fg];rfl
  rw[List.map_cons,List.cons_append,xn,zH ⟨hn,rfl⟩,hd,jb h1.2,zH h1.1];dsimp only;rw[Ya ts (FZ++[t]) ls λt' ht=>h t' (zI _ ht),yQ]
  rfl
theorem Zw{ts:List Say}{ks:List (List Bool)}(h1:∀t∈ts,t.pieces<=40/\∀y∈t.letters,NmV y)(h2:∀k∈ks,k.length=ts.length)(n1:ts≠[])(n2:ks≠[]):om (yu ts ks)=some (ts,ks):=by
 unfold om;rw[show yu ts ks=ts.map Z0++ks.map ui from rfl,Ya ts [] _ h1,uA,X9 ks ts [] h2];dsimp only;rw[uA,zK (λz=>z.elim n1 n2)]
theorem fc{ts:List Say}{ks:List (List Bool)}(h1:∀t∈ts,t.pieces<=40/\∀y∈t.letters,NmV y):∀l∈yu ts ks,∀c∈l.cps.toList,Sg c:=λl hl=>by
 rcases zP.mp hl with z|z
 ·obtain⟨t,ht,rfl⟩:=zC.mp z;rw[show(Str.ofString "say "++t.text)=Z0 t from rfl,gc];exact wz Nz (qp t (h1 t ht).2)
 ·obtain⟨k,hk,rfl⟩:=zC.mp z;rw[show(Str.ofString "judge "++j8 k)=ui k from rfl,si];refine wz Ul λc hc=>?_;obtain⟨b,_,rfl⟩:=zC.mp hc;cases b
  ·exact⟨by decide,by decide⟩
  ·exact⟨by decide,by decide⟩
theorem bu{ts:List Say}{ks:List (List Bool)}(h1:∀t∈ts,t.pieces<=40/\∀y∈t.letters,NmV y)(h2:∀k∈ks,k.length<=6):∀l∈yu ts ks,l.length<=2000:=λy hy=>by
 rcases zP.mp hy with z|z
 ·obtain⟨t,ht,rfl⟩:=zC.mp z;have:=yz t λy hy=>lj ((h1 t ht).2 y hy);have:=(h1 t ht).1;rw[yf,Xs];lia
 ·obtain⟨k,hk,rfl⟩:=zC.mp z;have:=qh k;have:=h2 k hk;rw[yf,nc];lia
def rk(ts:List Say)(ks:List (List Bool)):Str:=Txt.join (Str.ofString "\n") (yu ts ks)
structure WrT(ts:List Say)(ks:List (List Bool)):Prop where
 say:∀t∈ts,t.pieces<=40/\∀y∈t.letters,NmV y
 row:∀k∈ks,k.length=ts.length
 lo:1<=ts.length
 hi:ts.length<=6
 jlo:1<=ks.length
 jhi:ks.length<=21
theorem pe(ts:List Say)(ks:List (List Bool)):(yu ts ks).length=ts.length+ks.length:=by
 unfold yu;rw[zL,zX,zX]
theorem dy{ts:List Say}{ks:List (List Bool)}(h:WrT ts ks):Txt.split (rk ts ks) (Str.ofString "\n")=yu ts ks:=by
 have hf:∀l∈yu ts ks,10∉l.cps.toList:=λl hl z=>by
  have:=(fc h.say l hl 10 z).1;lia
 unfold rk;cases e:yu ts ks with
 |nil =>
  have h1:=pe ts ks;have h2:=h.lo;rw[e,wO]at h1;exact absurd h1 (by lia)
 |cons p ps=>exact Z7 (Str.ofString "\n") 10 [] (by decide +kernel) (by decide +kernel) p ps λq hq=>hf q (by rw[e];exact hq)
theorem W9{ts:List Say}{ks:List (List Bool)}(h:WrT ts ks):tj (rk ts ks):=by
 have h6:∀k∈ks,k.length<=6:=λk hk=>by rw[h.row k hk];exact h.hi
 constructor
 ·have:=Xq (Str.ofString "\n") (yu ts ks);have h2:=Uv (bu h.say h6);rw[pe]at this h2;rw[Ie]at this;have:=h.hi;have:=h.jhi;unfold rk;lia
 ·intro c hc;have Et:c∈(Str.join (Str.ofString "\n") (yu ts ks)).cps.toList:=by rw[<-StrLaws.glued_eq_join];exact hc
  rw[m9]at Et;rcases Sc Et with z|⟨p,hp,z⟩
  ·rw[show(Str.ofString "\n").cps.toList=[10]by decide +kernel]at z;rw[zS.mp z]
   decide
  ·obtain⟨l,hl,rfl⟩:=zC.mp hp;have:=(fc h.say l hl c z).2;lia
theorem V9{ts:List Say}{ks:List (List Bool)}(h:WrT ts ks):∀l∈yu ts ks,tj l:=λl hl=>⟨yM (bu h.say (λk hk=>by rw[h.row k hk];exact h.hi) l hl) (by decide),λc hc=>by
 have:=(fc h.say l hl c hc).2;lia⟩
theorem V3:W.kitOne K (.type "str") (.type "bool")=some false:=by rfl
theorem V4:W.kitOne K (.type "tuple") (.type "bool")=some false:=by rfl
theorem V6:W.kitOne K (.type "tuple") (.type "str")=some false:=by rfl
theorem V5:W.kitOne K (.type "tuple") (.type "int")=some false:=by rfl
theorem ir:W.kitOne K (.type "tuple") (.type "list")=some false:=by rfl
def SmT(K:W.Frag)(H:Hp):Nat->V->V->Prop
 |0,_,_=>False
 |d+1,v,u=>(∃b,v = .bl b/\u = .bl b)\/(∃s,v = .str s/\u = .str s)\/∃(a b:Addr)(xs ys:List V),v = .ref a/\u = .ref b/\(SqT K H a xs/\SqT K H b ys)/\xs.length=ys.length/\∀(i:Nat)(x y:V),xs[i]?=some x->ys[i]?=some y->SmT K H d x y
theorem SmT.mono{H H':Hp}(s:Same H H'):∀{d:Nat}{v u:V},SmT K H d v u->SmT K H' d v u
 |0,_,_,h=>h.elim
 |d+1,v,u,h=>h.imp id λh=>h.imp id λ⟨a,b,xs,ys,e1,e2,hq,hl,hx⟩=>⟨a,b,xs,ys,e1,e2,⟨(z7 s).sqT hq.1,(z7 s).sqT hq.2⟩,hl,λi x y h1 h2=>SmT.mono s (hx i x y h1 h2)⟩
theorem SmT.le{H:Hp}:∀{d d':Nat}{v u:V},d<=d'->SmT K H d v u->SmT K H d' v u
 |0,_,_,_,_,h=>h.elim
 |d+1,0,_,_,l,_=>absurd l (by lia)
 |d+1,d'+1,v,u,l,h=>h.imp id λh=>h.imp id λ⟨a,b,xs,ys,e1,e2,hq,hl,hx⟩=>⟨a,b,xs,ys,e1,e2,hq,hl,λi x y h1 h2=>SmT.le (Nat.le_of_succ_le_succ l) (hx i x y h1 h2)⟩
theorem gh{H:Hp}(x:Str)(d:Nat):SmT K H (d+1) (.str x) (.str x):=.inr (.inl ⟨x,rfl,rfl⟩)
def Z6(K:W.Frag)(d:Nat):Sp:=λvs H Q _=>∃v u:V,vs=[v,u]/\SmT K H d v u/\∀H',Same H H'->Q (.bl true) H'
theorem sc_same:zr ["_law_found","_law_due","_law_one","_law_other"] ["_law_found","_law_due"] (z4 (top 46)):=⟨rfl,rfl,rfl,by decide +kernel,rfl,by decide +kernel,by decide +kernel⟩
theorem Xz(D:Def K mg "_law_same" (top 46) ["_law_found","_law_due"])(aD:mg "len"=none)(aA:mg "isinstance"=none)(aB:mg "tuple"=none)(dA:mg "list"=none)(bG:mg "bool"=none)(gH:mg "int"=none)(gG:mg "str"=none)(pR:mg "zip"=none):∀d:Nat,zv P w K mg base d "_law_same" ["_law_found","_law_due"] (Z6 K d)
 |0=>yo D λvs H Q E h=>by
  obtain⟨v,u,_,h,_⟩:=h;exact h.elim
 |d+1=>by
  have bR:=Xz D aD aA aB dA bG gH gG pR d;refine D.callee sc_same (λvs H Q E h=>?_) λf cdv A outer s H vs Q E hr h=>?_
  ·obtain⟨v,u,rfl,_⟩:=h
   rfl
  have nd:=sc_same.nd;obtain⟨v,u,rfl,h,q⟩:=h;refine⟨[some v,some u,none,none],_,rfl,(z5 (zd (wn (zq u6 rfl aA zi (z9 (z8 1) (z9 (xx (v:=.ty "bool") rfl bG pz rfl) z6)))) (z0 (zt (oi (zq u6 rfl aA zi (z9 (z8 0) (z9 (xx (v:=.ty "bool") rfl bG pz rfl) z6))) (uq (xy (ya hr.units) (z8 0) (z8 1) (zk _)))))) zm)
  (z5 (zd (wn (zq u6 rfl aA zi (z9 (z8 1) (z9 (xx (v:=.ty "str") rfl gG Yx rfl) z6)))) (z0 (zt (oi (zq u6 rfl aA zi (z9 (z8 0) (z9 (xx (v:=.ty "str") rfl gG Yx rfl) z6))) (uq (xy (ya hr.units) (z8 0) (z8 1) (zk _)))))) zm)
  (z5 (zd (wn (zq u6 rfl aA zi (z9 (z8 1) (z9 (xx (v:=.ty "int") rfl gH Yw rfl) z6)))) (z0 (zt (oi (zq u6 rfl aA zi (z9 (z8 0) (z9 (xx (v:=.ty "int") rfl gH Yw rfl) z6))) (oi (Xv (zq u6 rfl aA zi (z9 (z8 0) (z9 (xx (v:=.ty "bool") rfl bG pz rfl) z6)))) (uq (xy (ya hr.units) (z8 0) (z8 1) (zk _))))))) zm)
  (z5 (zd (PW.pt (r8 (zh (Sx hr.units) (zq u6 rfl aA zi (z9 (z8 1) (z9 (xx (v:=.ty "list") rfl dA d7 rfl) z6))) (zq u6 rfl aA zi (z9 (z8 0) (z9 (xx (v:=.ty "list") rfl dA d7 rfl) z6))) (zk _)) (ur (zh (Sx hr.units) (zq u6 rfl aA zi (z9 (z8 1) (z9 (xx (v:=.ty "tuple") rfl aB yb rfl) z6))) (zq u6 rfl aA zi (z9 (z8 0) (z9 (xx (v:=.ty "tuple") rfl aB yb rfl) z6))) (zk _))))) (z0 (zt uy)) zm)
  (z5 (zd (zh (Sx hr.units) (zq xz rfl aD yt (z9 (z8 0) z6)) (zq xz rfl aD yt (z9 (z8 1) z6)) (zk _)) (z0 (zt uy)) zm)
  (z5 (wf yI rfl (Mh rfl pR (z9 (z8 0) (z9 (z8 1) z6))) (Oq 2 3 rfl nd) (z0 (zd (t8 (wn (zp bR hr (by lia) (z9 (z8 2) (z9 (z8 3) z6))))) (z0 (zt uy)) zm)))
  (z0 (zt uy)))))))),?_⟩
  rcases h with⟨i,rfl,rfl⟩|⟨z,rfl,rfl⟩|⟨a,b,xs,ys,rfl,rfl,hq,hl,hx⟩
  ·walk_at"rp";refine⟨_,true,.of (.bl _),w8 _,?_⟩;walk_at"rp";refine⟨_,true,.of (.bl _),w8 _,?_⟩;walk_at"rp"
   try rw[zO rfl]
   exact q H (Same.refl _)
  ·walk_at"rp";refine⟨_,false,.of (.str _),V3,?_⟩;walk_at"rp";refine⟨_,true,.of (.str _),w8 _,?_⟩;walk_at"rp";refine⟨_,true,.of (.str _),w8 _,?_⟩;walk_at"rp"
   try rw[zO rfl]
   exact q H (Same.refl _)
  ·have eZ:=hq.2;have UC:=hq.1;walk_at"rp";refine⟨_,false,.tup eZ,V4,?_⟩;walk_at"rp";refine⟨_,false,.tup eZ,V6,?_⟩;walk_at"rp";refine⟨_,false,.tup eZ,V5,?_⟩;walk_at"rp";refine⟨_,_,.tup eZ,ir,_,_,.tup UC,ir,?_⟩
   try rw[zO rfl]
   walk_at"rp";refine⟨_,_,.tup eZ,w8 _,_,_,.tup UC,w8 _,?_⟩
   try rw[zO rfl]
   walk_at"rp";refine⟨_,.inr UC,_,.inr eZ,?_⟩;rw[hl]
   try rw[zO rfl]
   walk_at"rp";refine⟨⟨⟨_,UC⟩,⟨_,eZ⟩⟩,Wb (xs:=xs) (ys:=ys) (λi σ H2=>(∃x2 x3,σ=[some (.ref a),some (.ref b),x2,x3])/\Same H H2) hl ⟨⟨none,none,rfl⟩,Same.refl H⟩ ?_ ?_ ?_⟩
   ·rintro i σ H2 _ ⟨⟨x2,x3,rfl⟩,s2⟩;exact⟨(z7 s2).sqT UC,(z7 s2).sqT eZ⟩
   ·rintro i x y σ H2 H3 h1 h2 ⟨⟨x2,x3,rfl⟩,s2⟩ s3;walk_at"rp";refine⟨x,y,rfl,(hx i x y h1 h2).mono (s2.trans s3),λH4 s4=>?_⟩;walk_at"rp";exact⟨⟨_,_,rfl⟩,s2.trans (s3.trans s4)⟩
   ·rintro σ H2 ⟨⟨x2,x3,rfl⟩,s2⟩;walk_at"rp";exact q H2 s2
theorem qk{H:Hp}:∀{t:Say}{v u:V},SayAt K H v t->SayAt K H u t->SmT K H (t.pieces+1) v u
 | .letter x,v,u,h,h'=>by
  obtain⟨a,rfl,ha⟩:=h;obtain⟨b,rfl,hb⟩:=h';refine .inr (.inr ⟨a,b,_,_,rfl,rfl,⟨ha,hb⟩,rfl,λi x y h1 h2=>?_⟩);rw[h1]at h2;cases h2;rcases zD.mp (zN h1)with e|e
  ·rw[e];exact gh _ _
  ·rw[zS.mp e];exact gh _ _
 | .neg t,v,u,h,h'=>by
  obtain⟨a,v1,rfl,ha,hv⟩:=h;obtain⟨b,u1,rfl,hb,hu⟩:=h';have i1:=qk hv hu;refine .inr (.inr ⟨a,b,_,_,rfl,rfl,⟨ha,hb⟩,rfl,λi x y h1 h2=>?_⟩)
  match i,h1,h2 with
  |0,h1,h2=>cases h1;cases h2;exact SmT.le (d:=1) (by simp only[Say.pieces];lia) (gh _ _)
  |1,h1,h2=>cases h1;cases h2;exact SmT.le (by simp only[Say.pieces];lia) i1
  |i+2,h1,h2=>simp at h1
 | .bin o t1 t2,v,u,h,h'=>by
  obtain⟨a,v1,v2,rfl,ha,Ax,BY⟩:=h;obtain⟨b,u1,u2,rfl,hb,hu1,hu2⟩:=h';have i1:=qk Ax hu1;have i2:=qk BY hu2;have p1:=t1.pieces_pos;have p2:=t2.pieces_pos;refine .inr (.inr ⟨a,b,_,_,rfl,rfl,⟨ha,hb⟩,rfl,λi x y h1 h2=>?_⟩)
  match i,h1,h2 with
  |0,h1,h2=>cases h1;cases h2;exact SmT.le (d:=1) (by simp only[Say.pieces];lia) (gh _ _)
  |1,h1,h2=>cases h1;cases h2;exact SmT.le (by simp only[Say.pieces];lia) i1
  |2,h1,h2=>cases h1;cases h2;exact SmT.le (by simp only[Say.pieces];lia) i2
  |i+3,h1,h2=>simp at h1
theorem Q3{H:Hp}{a b:Addr}{k:List Bool}(h:SqT K H a (k.map V.bl))(h':SqT K H b (k.map V.bl)):SmT K H 2 (.ref a) (.ref b):=.inr (.inr ⟨a,b,_,_,rfl,rfl,⟨h,h'⟩,rfl,λi x y h1 h2=>by
 rw[h1]at h2;cases h2;obtain⟨c,_,rfl⟩:=zC.mp (zN h1);exact .inl ⟨c,rfl,rfl⟩⟩)
theorem de{H:Hp}{p q b j b' j':Addr}{us us':List V}{ts:List Say}{J J':List (Addr×List Bool)}(hp:SqT K H p [.ref b,.ref j])(hq:SqT K H q [.ref b',.ref j'])(hb:SqT K H b us)(hT:SaysAt K H us ts)(eZ:SqT K H b' us')(Ev:SaysAt K H us' ts)(Bx:∀t∈ts,t.pieces<=40)(hj:SqT K H j (J.map λq=>V.ref q.1))(hJ:∀q∈J,SqT K H q.1 (q.2.map V.bl))(rR:SqT K H j' (J'.map λq=>V.ref q.1))(hJ':∀q∈J',SqT K H q.1 (q.2.map V.bl))(e:J.map (·.2)=J'.map (·.2)):SmT K H 43 (.ref p) (.ref q):=by
 refine .inr (.inr ⟨p,q,_,_,rfl,rfl,⟨hp,hq⟩,rfl,λi x y h1 h2=>?_⟩)
 match i,h1,h2 with
 |0,h1,h2 =>
  cases h1;cases h2;refine .inr (.inr ⟨b,b',_,_,rfl,rfl,⟨hb,eZ⟩,by rw[hT.len,Ev.len],λi x y h1 h2=>?_⟩);obtain⟨t,ht,hs⟩:=hT.at i x h1;obtain⟨t',rB,FI⟩:=Ev.at i y h2;rw[ht]at rB;cases rB;have h41:t.pieces+1<=41:=Nat.succ_le_succ (Bx t (zN ht));exact SmT.le h41 (qk hs FI)
 |1,h1,h2 =>
  cases h1;cases h2;refine .inr (.inr ⟨j,j',_,_,rfl,rfl,⟨hj,rR⟩,by rw[zX,zX];have:=xT List.length e;rwa [zX,zX]at this,λi x y h1 h2=>?_⟩);rw[yU]at h1 h2;cases e1:J[i]? with
  |none=>rw[e1]at h1;cases h1
  |some q1 =>
  cases e2:J'[i]? with
  |none=>rw[e2]at h2;cases h2
  |some q2 =>
  rw[e1]at h1;rw[e2]at h2;cases h1;cases h2;have ek:q1.2=q2.2:=by
   have:=xT (λl:List (List Bool)=>l[i]?) e;simp only[yU,e1,e2,Option.map_some]at this;exact yX this
  have hk:=hJ' q2 (zN e2);rw[<-ek]at hk;exact SmT.le (by decide) (Q3 (hJ q1 (zN e1)) hk)
 |i+2,h1,h2=>simp at h1
theorem Z8(l:List Say):(l.map λt=>(t.pieces:Int)).sum=((l.map Say.pieces).sum:Nat):=by
 induction l with
 |nil=>rfl
 |cons t l ih =>
  rw[List.map_cons,List.map_cons,uC,uC,ih];lia
theorem sc_lpc:zr ["_law_saying_here"] ["_law_saying_here"] (z4 (top 61)):=⟨rfl,rfl,rfl,by decide +kernel,rfl,by decide +kernel,by decide +kernel⟩
theorem Tf(D:Def K mg "_law_pieces" (top 61) ["_law_saying_here"])(pS:mg "sum"=none):∀n:Nat,zv P w K mg base n "_law_pieces" ["_law_saying_here"] (ql K n)
 |0=>yo D λvs H Q E h=>by
  obtain⟨v,s,_,_,hp,_⟩:=h;exact absurd s.pieces_pos (by lia)
 |n+1=>by
  have eL:=Tf D pS n;refine D.callee sc_lpc (λvs H Q E h=>?_) λf cdv A outer s H vs Q E hr h=>?_
  ·obtain⟨v,s,rfl,_⟩:=h
   rfl
  have nd:=sc_lpc.nd;obtain⟨v,s,rfl,hv,hp,q⟩:=h;refine⟨[some v],_,rfl,(z5 (zd (zh (ya hr.units) (yj (z8 0) zz (λ_ _=>rfl)) zx (zk _)) (z0 (zt zz)) zm)
  (z0 (zt (zn zf zz (zq (Ji rfl) rfl pS Lu (z9 (x6 (ixs:=[]) (y8 (own:=["_law_part"]) (N:=[]) rfl rfl rfl rfl rfl rfl rfl (by decide +kernel) rfl rfl rfl) rfl (yx (xw (z8 0) (xk zz) xg)) (λ_ _ _ _=>yg) (λ_ _ _ _=>(zp eL hr (by lia) (z9 (z8 0) z6))) rfl) z6)))))),?_⟩
  by_cases hs:s.subs=[]
  ·cases s with
   |letter x =>
    obtain⟨a,rfl,ha⟩:=hv;walk_at"rd";refine⟨_,_,.inr ha,rfl,?_⟩;walk_at"rd";exact q H (Same.refl H)
   |neg t=>simp[Say.subs]at hs
   |bin o t t'=>simp[Say.subs]at hs
  ·obtain⟨a,wd,us,rfl,ha,hw,hl,rD,hu⟩:=qi hv hs;walk_at"rd";refine⟨_,_,.inr ha,mx _ _,?_⟩;walk_at"rd";rw[hw];walk_at"rd";refine .inr ⟨_,ha,λp H1 s1 h1=>.inr ⟨⟨_,h1⟩,λC s₀ H₀ ex=>?_⟩⟩;rw[p7]at h1;refine xo (xs:=us) (λD i ys H'=>ys=((s.subs.take i).map λt=>(t.pieces:Int)).map V.int/\i<=us.length/\H' D=some (.lst ys)/\Same H1 H'/\H1 D=none) (zc (by lia)) ?_ ?_ ?_ ?_
   ·intro D H2 nn s2 e2;exact⟨rfl,yV _,e2,s2,nn⟩
   ·rintro D i ys H' ⟨rfl,hi,e,s2,_⟩;exact⟨(z7 s2).sqT h1,e,by simp;lia⟩
   ·rintro D i v ys H' hv ⟨rfl,hi,e,s2,n2⟩;obtain⟨t,ht,sv,pc⟩:=hu i v hv;walk_at"rd";refine⟨v,t,rfl,sv.mono (z7 (s1.trans s2)),by lia,λH3 s3=>⟨s3 _ _ e,CN.mk ?_ ⟨?_,?_,zy,zo (s2.trans s3) n2 _,n2⟩⟩⟩
    ·exact(zV.mp hv).1
    ·rw[yY,ht];simp
    ·exact(zV.mp hv).1
   ·rintro D ys H' ⟨rfl,hi,e,s2,n2⟩;rw[hl,yT]at e;walk_at"rd";refine⟨_,SqL.of e,?_⟩;walk_at"rd";rw[Z8,show(1:Int)+(((s.subs.map Say.pieces).sum:Nat):Int)=((s.pieces:Nat):Int)by rw[va];lia];exact q H' (s1.trans s2)
def K0(K:W.Frag):Sp:=λvs H Q _=>∃(v:V)(s:Say),vs=[v]/\SayAt K H v s/\s.pieces<=60/\(∀y∈s.letters,NmV y)/\∀H',Same H H'->Q (.bl true) H'
theorem sc_sread:zr ["_law_saying_here","_law_text","_law_refused_here"] ["_law_saying_here"] (z4 (top 62)):=⟨rfl,rfl,rfl,by decide +kernel,rfl,by decide +kernel,by decide +kernel⟩
theorem Tj{Cn:Addr}(D:Def K mg "_law_saying_read" (top 62) ["_law_saying_here"])(bV:zv P w K mg base 60 "_law_shown" ["_law_saying_here"] (gk K 60))(eL:zv P w K mg base 60 "_law_pieces" ["_law_saying_here"] (ql K 60))(bF:ym P w K mg base 86 "read_saying" ["text"] (gp K Cn))(bR:zv P w K mg base 43 "_law_same" ["_law_found","_law_due"] (Z6 K 43))(cM:zv P w K mg base 40 "shown" ["saying"] (gq K 40))(fT:XCls K Cn)(km:W.mroIn K Cn (.ref Cn)=some true)(aF:mg "NoText"=some (.ref Cn)):zv P w K mg base 87 "_law_saying_read" ["_law_saying_here"] (K0 K):=by
 refine D.callee sc_sread (λvs H Q E h=>?_) λf cdv A outer s H vs Q E hr h=>?_
 ·obtain⟨v,s,rfl,_⟩:=h
  rfl
 have nd:=sc_sread.nd;obtain⟨v,s,rfl,hv,hp,hn,q⟩:=h;refine⟨[some v,none,none],_,rfl,(z5 (zg 1 nd (zp bV hr (by lia) (z9 (z8 0) z6)))
  (z5 (zd (zh bw (zp eL hr (by lia) (z9 (z8 0) z6)) zz (zk _)) (z5 (zg 2 nd uy)
  (z5 (Qm bF hr (by lia) (z9 (z8 1) z6) aF fT (λ_=>(z0 (zg 2 nd uy))))
  (z0 (zt (z8 2))))) zm)
  (z0 (zt (oi (zp bR hr (by lia) (z9 (wk bF nj hr (by lia) (z9 (z8 1) z6)) (z9 (z8 0) z6))) (uq (xy (ya hr.units) (zp cM hr (by lia) (z9 (wk bF nj hr (by lia) (z9 (z8 1) z6)) z6)) (z8 1) (zk _)))))))),?_⟩
 walk_at"rp";have hN:∀y∈s.letters,Nm y:=λy hy=>lj (hn y hy);refine⟨v,s,rfl,hv,hp,⟨hp,hN⟩,λH1 s1=>?_⟩;walk_at"rp";refine⟨v,s,rfl,hv.mono (z7 s1),hp,λH2 s2=>?_⟩;have s12:=s1.trans s2;have BY:=hv.mono (z7 s12);have ht:=Re hp hn;have Ca:lr s.text.cps.toList=if s.pieces<=40 then some s else none:=jb hn
 walk_at"rp";refine w9 (λc=>?_) λc=>?_
 ·have c':¬s.pieces<=40:=λz=>absurd (yZ c) (by lia);rw[zK c']at Ca;walk_at"rp";refine⟨.str s.text,rfl,.inr ⟨s.text,rfl,ht,λ_ a H3 s3 ea=>?_,λt e=>?_⟩⟩
  ·refine⟨a,Cn,rfl,ea,fT,km,?_⟩;walk_at"rp";exact q H3 (s12.trans s3)
  ·rw[Ca]at e;cases e
 ·have c':s.pieces<=40:=Nat.le_of_not_lt λz=>c (zO (by lia));rw[zH c']at Ca;walk_at"rp";refine⟨.str s.text,rfl,.inr ⟨s.text,rfl,ht,λz=>?_,λt e v3 H3 s3 hv3=>?_⟩⟩
  ·rw[Ca]at z;cases z
  rw[Ca]at e;cases e;walk_at"rp";refine⟨v3,v,rfl,SmT.le (d':=43) (by lia) (qk hv3 (BY.mono (z7 s3))),λH4 s4=>?_⟩;walk_at"rp";refine⟨.str s.text,rfl,.inr ⟨s.text,rfl,ht,λz=>?_,λt e v5 H5 s5 hv5=>?_⟩⟩
  ·rw[Ca]at z;cases z
  rw[Ca]at e;cases e;walk_at"rp";refine⟨v5,s,rfl,hv5,c',⟨c',hN⟩,?_⟩;walk_at"rp"
  try rw[zO rfl]
  exact q H5 (s12.trans (s3.trans (s4.trans s5)))
structure G6(K:W.Frag)(Cj Cn Co Cr Ce Cb:Addr):Prop where
 x:XCls K Ce
 m:W.mroIn K Ce (.ref Cj)=some true
 n:W.kitOne K (.ref Ce) (.ref Cn)=some false
 o:W.kitOne K (.ref Ce) (.ref Co)=some false
 r:W.kitOne K (.ref Ce) (.ref Cr)=some false
 e:W.kitOne K (.ref Ce) (.ref Ce)=some true
 b:W.kitOne K (.ref Ce) (.ref Cb)=some false
 v:W.kitOne K (.ref Ce) (.type "ValueError")=some true
def Ow(K:W.Frag):Sp:=λvs H Q _=>∃(ts:List Say)(ks:List (List Bool))(xs:List Str),vs=[.str (rk ts ks),.int 3]/\WrT ts ks/\ar ts xs/\Rl ts xs ks .even/\∀H',Same H H'->Q (.bl true) H'
theorem f7{Cn Co Cr Ce:Addr}{ts:List Say}{ks:List (List Bool)}{xs:List Str}{H:Hp}{Q:VK}{E:XK}{vd:Vd}(hW:WrT ts ks)(hL:ar ts xs)(hV:Rl ts xs ks vd)(h:Of K Co Cr Ce ts ks H Q E vd):gn K Cn Co Cr Ce [.str (rk ts ks)] H Q E:=by
 have hs:=dy hW;have hr:=Zw hW.say hW.row (λz=>by have:=hW.lo;rw[z,wO]at this;lia) (λz=>by have:=hW.jlo;rw[z,wO]at this;lia);refine⟨_,rfl,.inr ⟨_,rfl,W9 hW,by rw[hs];exact V9 hW,by rw[hs,pe];have:=hW.hi;have:=hW.jhi;lia,λz=>?_,λts' ks' e=>?_⟩⟩
 ·rw[hs,hr]at z;cases z
 ·rw[hs,hr]at e;cases e;exact⟨vd,xs,hL,hV,h⟩
theorem Xm{H:Hp}{p:Addr}{ds:List Bool}(h:H p=some (.lst (ds.map V.bl))):Has K H (.ref p) (.list (ds.map PyData.bool)):=by
 unfold Has;exact⟨p,_,rfl,SqL.of h,kr K H ds⟩
theorem rh:SeqAt.shaped (.list ([false,false,false,true,false,true].map PyData.bool))=true:=by decide +kernel
theorem sc_refused:zr ["_law_text","_law_kind","error","_law_kinds"] ["_law_text","_law_kind"] (z4 (top 60)):=⟨rfl,rfl,rfl,by decide +kernel,rfl,by decide +kernel,by decide +kernel⟩
theorem Zo{Cj Cn Co Cr Ce Cb:Addr}(D:Def K mg "_law_refused" (top 60) ["_law_text","_law_kind"])(jO:ym P w K mg base 133 "read" ["text"] (gn K Cn Co Cr Ce))(dQ:XCls K Cj)(ke:G6 K Cj Cn Co Cr Ce Cb)
  (dM:mg "JudgeError"=some (.ref Cj)) (aP:mg "OutOfBounds"=some (.ref Co)) (cN:mg "BadRow"=some (.ref Cr)) (iG:mg "Even"=some (.ref Ce)) (aF:mg "NoText"=some (.ref Cn)) (kH:mg "Barred"=some (.ref Cb)) (dJ:mg "ValueError"=none) (aA:mg "isinstance"=none):zv P w K mg base 134 "_law_refused" ["_law_text","_law_kind"] (Ow K):=by
 refine D.callee sc_refused (λvs H Q E h=>?_) λf cdv A outer s H vs Q E hr h=>?_
 ·obtain⟨ts,ks,xs,rfl,_⟩:=h
  rfl
 have nd:=sc_refused.nd;obtain⟨ts,ks,xs,rfl,hW,hL,hV,q⟩:=h;refine⟨[some (.str (rk ts ks)),some (.int 3),none,none],_,rfl,(z5 (Qn (i:=2) jO hr (by lia) (z9 (z8 0) z6) dM dQ (λ_=>(z5 (zg 3 nd (xq (z9 (zq iw rfl aA zi (z9 (z8 2) (z9 (tw aF) z6))) (z9 (zq iw rfl aA zi (z9 (z8 2) (z9 (tw aP) z6))) (z9 (zq iw rfl aA zi (z9 (z8 2) (z9 (tw cN) z6))) z6)))))
  (z5 (zg 3 nd (zn zf (z8 3) (xq (z9 (zq iw rfl aA zi (z9 (z8 2) (z9 (tw iG) z6))) (z9 (zq iw rfl aA zi (z9 (z8 2) (z9 (tw kH) z6))) (z9 (zq iw rfl aA zi (z9 (z8 2) (z9 (xx (v:=.ty "ValueError") rfl dJ jz rfl) z6))) z6))))))
  (z0 (zt (xy (ya hr.units) (z8 3) (xq (z9 (xy (ya hr.units) (z8 1) zz (zk _)) (z9 (xy (ya hr.units) (z8 1) zz (zk _)) (z9 (xy (ya hr.units) (z8 1) zz (zk _)) (z9 (xy (ya hr.units) (z8 1) zz (zk _)) (z9 uy (z9 uy z6))))))) (zk _))))))) rfl nd)
  (z0 (zt uy))),?_⟩
 walk_at"rp";dsimp only[O4];walk_at"rp";refine f7 hW hL hV λa H2 s2 ea=>?_;have dp:(none:Option Addr)=none\/∃d fs,(none:Option Addr)=some d/\H2 d=some (.xd fs):=.inl rfl;refine⟨a,Ce,rfl,ea,ke.x,ke.m,?_⟩;simp only[List.set_cons_succ,List.set_cons_zero];walk_at"rp";refine⟨a,Ce,none,false,_,_,false,rfl,ea,dp,ke.x,rfl,ke.n,a,Ce,none,false,_,_,false,rfl,ea,dp,ke.x,rfl,ke.o,a,Ce,none,false,_,_,false,rfl,ea,dp,ke.x,rfl,ke.r,?_⟩;walk_at"rp";refine⟨zc (by simp),λl3 H3 n3 s3 e3=>?_⟩;have ea3:=s3 _ _ ea;have dp3:(none:Option Addr)=none\/∃d fs,(none:Option Addr)=some d/\H3 d=some (.xd fs):=.inl rfl;walk_at"rp";refine⟨a,Ce,none,false,_,_,true,rfl,ea3,dp3,ke.x,rfl,ke.e,a,Ce,none,false,_,_,false,rfl,ea3,dp3,ke.x,rfl,ke.b,a,Ce,none,false,_,_,true,rfl,ea3,dp3,ke.x,rfl,ke.v,?_⟩;walk_at"rp";refine⟨zc (by simp),λl4 H4 n4 s4 e4=>?_⟩;walk_at"rp";refine .inl ⟨_,_,s4 _ _ e3,e4,zc (by simp),λl5 H5 n5 s5 e5=>⟨zc (by simp),λl6 H6 n6 s6 e6=>?_⟩⟩;walk_at"rp";refine⟨_,_,Xm (ds:=[false,false,false,true,false,true]) (s6 _ _ e5),Xm (ds:=[false,false,false,true,false,true]) e6,rh,rh,?_⟩;rw[ba rh];exact q H6 (s2.trans (s3.trans (s4.trans (s5.trans s6))))
theorem N9{H:Hp}{v1 v2 v3 v4:Addr}{x y:V}{t o:Say}(h:SayAt K H x t)(h':SayAt K H y o)(h1:SqT K H v1 [.str "not",x])(h2:SqT K H v2 [.str "and",x,y])(h3:SqT K H v3 [.str "or",y,x])(h4:SqT K H v4 [.str "if",y,x]):SaysAt K H [x,.ref v1,.ref v2,.ref v3,.ref v4] [t,.neg t,.bin .con t o,.bin .dis o t,.bin .imp o t] :=
 ⟨h,⟨_,_,rfl,h1,h⟩,⟨_,_,_,rfl,h2,h,h'⟩,⟨_,_,_,rfl,h3,h',h⟩,⟨_,_,_,rfl,h4,h',h⟩,trivial⟩
theorem Ph{t o:Say}(h1:t.pieces<=40)(h2:o.pieces<=12)(h3:∀y∈t.letters,NmV y)(h4:∀y∈o.letters,NmV y):∀z∈[t,.neg t,.bin .con t o,.bin .dis o t,.bin .imp o t],z.pieces<=60/\∀y∈z.letters,NmV y:=by
 have to:∀y∈t.letters++o.letters,NmV y:=λy hy=>(zP.mp hy).elim (h3 y) (h4 y);have ot:∀y∈o.letters++t.letters,NmV y:=λy hy=>(zP.mp hy).elim (h4 y) (h3 y);intro z hz;rcases zD.mp hz with rfl|hz
 ·exact⟨by lia,h3⟩
 rcases zD.mp hz with rfl|hz
 ·exact⟨by simp only[Say.pieces];lia,h3⟩
 rcases zD.mp hz with rfl|hz
 ·exact⟨by simp only[Say.pieces];lia,to⟩
 rcases zD.mp hz with rfl|hz
 ·exact⟨by simp only[Say.pieces];lia,ot⟩
 rw[zS.mp hz];exact⟨by simp only[Say.pieces];lia,ot⟩
theorem Ld{C:Addr->List (Addr×List Bool)->Hp->Prop}{G:Prop}{B:Addr->List (Addr×List Bool)->Hp->Prop}(h:(∀j J H,C j J H->B j J H)->G)(hr:∀j J H,C j J H->B j J H):G:=h hr
theorem Rv(xs:List V){j:Int}(h:0<=j):uz xs (some j) none=xs.drop j.toNat:=by
 unfold uz;rw[HT.sIx_none];have e:HT.sIx xs.length 0 (some j)=min j.toNat xs.length:=by
  show(if j<0 then(j+(xs.length:Int)).toNat else min j.toNat xs.length)=_;rw[zK (by lia)]
 rw[e]
 by_cases hj:j.toNat<=xs.length
 ·rw[Nat.min_eq_left hj,vF (by rw[yG];exact zT _)]
 ·rw[Nat.min_eq_right (by lia),tV (zT _),tV (by lia),List.take_nil]
def Yh(K:W.Frag):Sp:=λvs H Q _=>∃(a:Addr)(ns:List Int),vs=[.ref a]/\SqL K H a (ns.map V.int)/\ns.length<=5000/\∀H',Q (.bl true) H'
theorem sc_holds:zr ["_law_script","_law_names_here","_law_saying_here","_law_other","_law_whole","_law_sayings_here","_law_judges","_law_text","_law_found","_law_row_here"] ["_law_script"] (z4 (top 63)):=⟨rfl,rfl,rfl,by decide +kernel,rfl,by decide +kernel,by decide +kernel⟩
theorem Te{Cn Co Cr Ce:Addr}(D:Def K mg "_law_holds_for" (top 63) ["_law_script"])(aI:zv P w K mg base 2 "_law_pick" ["_law_script","_law_k","_law_many"] (pr K))(rN:zv P w K mg base 3 "_law_names" ["_law_script","_law_k","_law_many"] (Yj K))(aV:zv P w K mg base 43 "_law_saying" ["_law_script","_law_k","_law_room","_law_names_here"] (qm K 40))(kB:zv P w K mg base 87 "_law_saying_read" ["_law_saying_here"] (K0 K))(pB:zv P w K mg base 44 "_law_sayings" ["_law_script","_law_k","_law_names_here"] (ou K))(oA:zv P w K mg base 42 "_law_fit_rows" ["_law_sayings_here"] (sx K))(rM:zv P w K mg base 3 "_law_seats" ["_law_script","_law_k","_law_fit","_law_many"] (jq K))
  (iV:zv P w K mg base 61 "_law_written" ["_law_sayings_here","_law_judges"] (sy K)) (kJ:zv P w K mg base 41 "written" ["sayings","judges"] (sy K)) (pC:zv P w K mg base 134 "_law_refused" ["_law_text","_law_kind"] (Ow K)) (jO:ym P w K mg base 133 "read" ["text"] (gn K Cn Co Cr Ce)) (bR:zv P w K mg base 43 "_law_same" ["_law_found","_law_due"] (Z6 K 43)) (aD:mg "len"=none) (aA:mg "isinstance"=none) (bG:mg "bool"=none):zv P w K mg base 135 "_law_holds_for" ["_law_script"] (Yh K):=by
 refine D.callee sc_holds (λvs H Q E h=>?_) λf cdv A outer s H vs Q E hr h=>?_
 ·obtain⟨a,ns,rfl,_⟩:=h
  rfl
 have nd:=sc_holds.nd;obtain⟨a,ns,rfl,hS,fG,q⟩:=h;refine⟨[some (.ref a),none,none,none,none,none,none,none,none,none],_,rfl,(z5 (zg 1 nd (zp rN hr (by lia) (z9 (z8 0) (z9 zz (z9 (zn zf zz (zp aI hr (by lia) (z9 (z8 0) (z9 zz (z9 zz z6))))) z6)))))
  (z5 (zg 2 nd (zp aV hr (by lia) (z9 (z8 0) (z9 zz (z9 zz (z9 (z8 1) z6))))))
  (z5 (zg 3 nd (zp aV hr (by lia) (z9 (z8 0) (z9 zz (z9 (zn zf zz (zp aI hr (by lia) (z9 (z8 0) (z9 zz (z9 zz z6))))) (z9 (z8 1) z6))))))
  (z5 (wf yI rfl (yx (xq (z9 (z8 2) (z9 (u9 (z9 zx (z9 (z8 2) z6))) (z9 (u9 (z9 zx (z9 (z8 2) (z9 (z8 3) z6)))) (z9 (u9 (z9 zx (z9 (z8 3) (z9 (z8 2) z6)))) (z9 (u9 (z9 zx (z9 (z8 3) (z9 (z8 2) z6)))) z6))))))) (vg 4 nd) (z0 (zd (t8 (wn (zp kB hr (by lia) (z9 (z8 4) z6)))) (z0 (zt uy)) zm)))
  (z5 (zg 5 nd (zp pB hr (by lia) (z9 (z8 0) (z9 zz (z9 (z8 1) z6)))))
  (z5 (zg 6 nd (zp rM hr (by lia) (z9 (z8 0) (z9 zz (z9 (zp oA hr (by lia) (z9 (z8 5) z6)) (z9 (zn zf zz (zp aI hr (by lia) (z9 (z8 0) (z9 zz (z9 zz z6))))) z6))))))
  (z5 (zg 7 nd (zp iV hr (by lia) (z9 (z8 5) (z9 (z8 6) z6))))
  (z5 (zd (zh (ya hr.units) (zn u7 (zq xz rfl aD yt (z9 (z8 6) z6)) zz) zz (zk _)) (z5 (zd (t8 (wn (zp pC hr (by lia) (z9 (z8 7) (z9 zz z6))))) (z0 (zt uy)) zm)
  (z5 (zg 6 nd (xw (z8 6) (xk zz) xg))
  (z0 (zg 7 nd (zp iV hr (by lia) (z9 (z8 5) (z9 (z8 6) z6))))))) zm)
  (z5 (zg 8 nd (wk jO nj hr (by lia) (z9 (z8 7) z6)))
  (z5 (zd (t8 (wn (zp bR hr (by lia) (z9 (z8 8) (z9 (u9 (z9 (z8 5) (z9 (z8 6) z6))) z6))))) (z0 (zt uy)) zm)
  (z5 (wf yI rfl (yx (yj (z8 8) zz (λ_ _=>rfl))) (vg 9 nd) (z0 (zd (zh (Sx hr.units) (zq xz rfl aD yt (z9 (x6 (ixs:=[]) (y8 (own:=["_law_truth"]) (N:=[]) rfl rfl rfl rfl rfl rfl rfl (by decide +kernel) rfl rfl rfl) rfl (yx (z8 9)) (λ_ _ _ _=>(Qk (wn (zq u6 rfl aA zi (z9 (z8 0) (z9 (xx (v:=.ty "bool") rfl bG pz rfl) z6)))))) (λ_ _ _ _=>(z8 0)) rfl) z6)) (zq xz rfl aD yt (z9 (z8 9) z6)) (zk _)) (z0 (zt uy)) zm)))
  (z0 (zt (oi (xy (ya hr.units) (zp kJ hr (by lia) (z9 (yj (z8 8) zz (λ_ _=>rfl)) (z9 (yj (z8 8) zz (λ_ _=>rfl)) z6))) (z8 7) (zk _)) (uq (zp bR hr (by lia) (z9 (wk jO nj hr (by lia) (z9 (z8 7) z6)) (z9 (u9 (z9 (z8 5) (z9 (z8 6) z6))) z6)))))))))))))))))),?_⟩
 walk_at"rp";refine⟨a,ns,_,5,rfl,hS,fG,by decide,by decide,by decide,λr r0 r1=>?_⟩;walk_at"rp";refine⟨a,ns,_,_,rfl,hS,fG,by decide,by decide,by lia,by lia,λb H1 xs nb s1 eb lb hx=>?_⟩;walk_at"rp";refine⟨a,ns,_,_,b,xs,rfl,s1.seq hS,fG,by decide,by decide,by decide,by decide,.inl (SqL.of eb),by lia,by lia,λv H2 t s2 hv pc lt=>?_⟩;walk_at"rp";have qV:=s1.trans s2;refine⟨a,ns,_,12,rfl,qV.seq hS,fG,by decide,by decide,by decide,λr2 r20 r21=>?_⟩;walk_at"rp";refine⟨a,ns,_,_,b,xs,rfl,qV.seq hS,fG,by decide,by lia,by lia,by lia,.inl (SqL.of (s2 _ _ eb)),by lia,by lia,λu H3 o s3 hu pc2 lt2=>?_⟩;walk_at"rp";have s23:=s2.trans s3;refine⟨zc (by simp),λq1 H4 n4 s4 e4=>⟨zc (by simp),λq2 H5 n5 s5 e5=>⟨zc (by simp),λq3 H6 n6 s6 e6=>⟨zc (by simp),λq4 H7 n7 s7 e7=>⟨zc (by simp),λq5 H8 n8 s8 e8=>?_⟩⟩⟩⟩⟩;have s78:=s7.trans s8;have s68:=s6.trans s78;have s58:=s5.trans s68;have s48:=s4.trans s58;have h5:=N9 (hv.mono (z7 (s3.trans s48))) (hu.mono (z7 s48)) (SqT.of (s58 _ _ e4)) (SqT.of (s68 _ _ e5)) (SqT.of (s78 _ _ e6)) (SqT.of (s8 _ _ e7));have h5z:=Ph (t:=t) (o:=o) (by lia) (by lia) (λy hy=>hx y (lt y hy)) λy hy=>hx y (lt2 y hy);have h5l:=h5.len;generalize[t,.neg t,.bin .con t o,.bin .dis o t,.bin .imp o t]=ts5 at h5 h5z h5l;generalize[v,.ref q1,.ref q2,.ref q3,.ref q4]=us5 at h5 e8 h5l;have s08:=qV.trans (s3.trans s48);have eb8:=(s23.trans s48) _ _ eb;walk_at"rp";refine .inl ⟨⟨_,SqL.of e8⟩,sj (xs:=us5) (λi σ H9=>(∃x4,σ=[some (.ref a),some (.ref b),some v,some u,x4,none,none,none,none,none])/\Same H8 H9) ⟨⟨_,rfl⟩,Same.refl _⟩ ?_ ?_ ?_⟩
 ·rintro i σ H9 _ ⟨_,s9⟩;exact SqL.of (s9 _ _ e8)
 ·rintro i x σ H9 B0 ⟨⟨x4,rfl⟩,s9⟩;obtain⟨t',rB,sv⟩:=h5.at i x B0;have hz:=h5z t' (zN rB);walk_at"rp";refine⟨x,t',rfl,sv.mono (z7 s9),hz.1,hz.2,λHa sa=>?_⟩;walk_at"rp";exact⟨⟨_,rfl⟩,s9.trans sa⟩
 rintro σ H9 ⟨⟨x4,rfl⟩,s9⟩;have s09:=s08.trans s9;walk_at"rp";refine⟨a,ns,_,b,xs,rfl,s09.seq hS,fG,by decide,by decide,s9 _ _ eb8,by lia,by lia,λx h=>lj (hx x h),λsa Ha us ts sA FH BU hL=>?_⟩;walk_at"rp";refine⟨sa,us,ts,xs,rfl,FH,BU,hL,λd Hb ss R nB sB eB hR hN hF hR32=>?_⟩;have s0b:=s09.trans (sA.trans sB);walk_at"rp";refine⟨a,ns,_,21,rfl,s0b.seq hS,fG,by decide,by decide,by decide,λy y0 y21=>?_⟩;walk_at"rp";have hRm:∀r∈R,r.2.length=ts.length:=λr hr=>tm hF (yP (f:=λr:Addr×List Bool=>r.2) hr);have BV:1<=R.length:=Pg hF;refine⟨a,ns,_,d,R,ts.length,_,rfl,s0b.seq hS,fG,by decide,by decide,eB,λr hr=>⟨hR r hr,hRm r hr⟩,BV,by lia,by lia,by lia,λjd Hc J sC hJ hJl hJR=>?_⟩;have hWt:∀t∈ts,t.pieces<=40/\∀y∈t.letters,NmV y:=λt ht=>⟨hL.pc t ht,λy hy=>hx y (hL.nm y (mem_allL.mpr ⟨t,ht,hy⟩))⟩
 have hsz:∀t∈ts,SzT t:=λt ht=>⟨(hWt t ht).1,λy hy=>lj ((hWt t ht).2 y hy)⟩
 have HV:=sB.trans sC;walk_at"rp";refine⟨sa,jd,us,ts,J,rfl,(z7 HV).sqT FH,BU.mono (z7 HV),hL.hi,hsz,hJ,by lia,λHd sD=>?_⟩;have CU:∀k∈J.map (·.2),k∈R.map (·.2):=λk hk=>by
  obtain⟨z,hz,rfl⟩:=zC.mp hk;exact yP (f:=λr:Addr×List Bool=>r.2) (hJR z hz)
 walk_at"rp";refine⟨_,.inr ((z7 sD).sqT hJ.sq),by decide,?_⟩;rw[zX];refine Ld (C:=λj' J' H'=>JudgesAt K H' j' J' ts.length/\J'.length<=21/\J'.length % 2=1/\(∀k∈J'.map (·.2),k∈R.map (·.2))/\Same Ha H') (B:=?B) (λrest=>?h) ?hr
 case h =>
  refine w9 (λc=>?_) (λc=>?_)
  ·have c':J.length % 2=0:=by
    have:=yZ c;lia
   walk_at"rp";have hW:WrT ts (J.map (·.2)):=⟨hWt,λk hk=>tm hF (CU k hk),hL.lo,hL.hi,by rw[zX];lia,by rw[zX];lia⟩
   refine⟨ts,J.map (·.2),xs,rfl,hW,Lst.toW hL,⟨⟨hL,hW.jlo,hW.jhi⟩,⟨ss,_,hN,hF,CU⟩,by rw[zX];exact c'⟩,λHe sE=>?_⟩;walk_at"rp";have sce:=sD.trans sE;refine .inr ⟨_,(z7 sce).sqT hJ.sq,λj2 Hf sF hj2=>?_⟩;rw[Rv _ (by decide),<-List.map_drop]at hj2;obtain⟨J2,eJ2⟩:∃J2,J2=J.drop (Int.toNat 1):=⟨_,rfl⟩
   rw[<-eJ2]at hj2;have l2:J2.length=J.length-1:=by rw[eJ2,yG];rfl
   have m2:∀z∈J2,z∈J:=λz hz=>vP (by rw[<-eJ2];exact hz);have scf:=sce.trans sF;have sP:JudgesAt K Hf j2 J2 ts.length:=⟨hj2,λz hz=>(z7 scf).sqT (hJ.row z (m2 z hz)),λz hz=>hJ.len z (m2 z hz),by lia,by lia⟩
   have saf:=HV.trans scf;walk_at"rp";refine⟨sa,j2,us,ts,J2,rfl,(z7 saf).sqT FH,BU.mono (z7 saf),hL.hi,hsz,sP,by lia,λHg sG=>?_⟩;walk_at"rp";refine rest j2 J2 Hg ⟨sP.mono (z7 sG),by lia,by lia,λk hk=>?_,saf.trans sG⟩;obtain⟨z,hz,rfl⟩:=zC.mp hk;exact CU _ (yP (f:=λr:Addr×List Bool=>r.2) (m2 z hz))
  ·have c':J.length % 2=1:=by
    have:¬((J.length:Nat):Int) % 2=0:=λz=>c (zO z);lia
   exact rest jd J Hd ⟨hJ.mono (z7 sD),by lia,c',CU,HV.trans sD⟩
 clear hJ hJl hJR CU sC HV sD;rintro jd J He ⟨hJ,UH,hodd,CU,sE⟩;have hW:WrT ts (J.map (·.2)):=⟨hWt,λk hk=>tm hF (CU k hk),hL.lo,hL.hi,by rw[zX];exact hJ.lo,by rw[zX];exact UH⟩
 have hV:Rl ts xs (J.map (·.2)) .ok:=⟨⟨hL,hW.jlo,hW.jhi⟩,⟨ss,_,hN,hF,CU⟩,by rw[zX];exact hodd⟩
 refine f7 (vd:=.ok) hW (Lst.toW hL) hV ?_;intro p b' j' Hf us' J2 sF hp eZ Ev rR sP ek;walk_at"rp";refine⟨zc (by simp),λp2 Hg nG sG eG=>?_⟩;have seg:=sF.trans sG;have sag:=sE.trans seg;refine⟨.ref p,.ref p2,rfl,de ((z7 sG).sqT hp) (SqT.of eG) ((z7 sG).sqT eZ) (Ev.mono (z7 sG)) ((z7 sag).sqT FH) (BU.mono (z7 sag)) hL.pc ((z7 sG).sqT rR) (λz hz=>(z7 sG).sqT (sP z hz)) ((z7 seg).sqT hJ.sq) (λz hz=>(z7 seg).sqT (hJ.row z hz)) ek,λHh sH=>?_⟩;have HU:=sG.trans sH;walk_at"rp";refine⟨_,_,.inr ((z7 HU).sqT hp),rfl,?_⟩;refine .inr ⟨⟨_,(z7 HU).sqT rR⟩,xj (xs:=J2.map λq=>V.ref q.1) (λi σ Hi=>(∃x9,σ=[some (.ref a),some (.ref b),some v,some u,x4,some (.ref sa),some (.ref jd),some (.str (Txt.join (Str.ofString "\n") (yu ts (J.map (·.2))))),some (.ref p),x9])/\Same Hh Hi) ⟨⟨_,rfl⟩,Same.refl _⟩ ?_ ?_ ?_⟩
 ·rintro i σ Hi _ ⟨_,sI⟩;exact(z7 (HU.trans sI)).sqT rR
 ·rintro i x σ Hi B0 ⟨⟨x9,rfl⟩,sI⟩;rw[yU]at B0;cases e1:J2[i]? with
  |none=>rw[e1]at B0;cases B0
  |some r2 =>
  rw[e1]at B0;cases B0;have hrw:=(z7 (HU.trans sI)).sqT (sP r2 (zN e1));have B':r2.2.length<=6:=by
   have hm:r2.2∈J.map (·.2):=by rw[<-ek];exact yP (f:=λr:Addr×List Bool=>r.2) (zN e1)
   rw[hW.row _ hm];exact hL.hi
  walk_at"rp";refine .inr ⟨⟨_,hrw⟩,λC s₀ H₀ ex=>?_⟩;refine ia (xs:=r2.2.map V.bl) (λD i ys H'=>ys=(r2.2.take i).map V.bl/\i<=r2.2.length/\H' D=some (.lst ys)/\Same Hi H'/\Hi D=none) (zc (by rw[zX];lia)) ?_ ?_ ?_ ?_
  ·intro D H2 nn s2 e2;exact⟨rfl,yV _,e2,s2,nn⟩
  ·rintro D i ys H' ⟨rfl,hi,e,s2,_⟩;exact⟨(z7 s2).sqT hrw,e,by rw[zX,wZ];exact Nat.min_le_left _ _⟩
  ·rintro D i v ys H' hv ⟨rfl,hi,e,s2,n2⟩;rw[yU]at hv;cases e3:r2.2[i]? with
   |none=>rw[e3]at hv;cases hv
   |some c =>
   rw[e3]at hv;cases hv;have bE:=(zV.mp e3).1;walk_at"rp";refine⟨_,true,.of (.bl _),w8 _,?_⟩;walk_at"rp";exact⟨e,CN.mk (by rw[zX];exact bE) ⟨by rw[yY,e3];simp,bE,zy,zo s2 n2 _,n2⟩⟩
  ·rintro D ys H' ⟨rfl,hi,e,s2,n2⟩;rw[zX,yT]at e;walk_at"rp";refine⟨_,.inl (SqL.of e),_,.inr ((z7 s2).sqT hrw),?_⟩;rw[zK (by rw[zO rfl];decide)];exact⟨⟨_,rfl⟩,sI.trans s2⟩
 rintro σ Hi ⟨⟨x9,rfl⟩,sI⟩;have FC:=HU.trans sI;walk_at"rp";have hpI:=(z7 FC).sqT hp;have rD:J2.length=J.length:=by have:=xT List.length ek;rwa [zX,zX]at this
 have hJ2I:JudgesAt K Hi j' J2 ts.length:=⟨(z7 FC).sqT rR,λz hz=>(z7 FC).sqT (sP z hz),λz hz=>hW.row _ (by rw[<-ek];exact yP (f:=λr:Addr×List Bool=>r.2) hz),by have:=hJ.lo;lia,by lia⟩
 refine⟨_,_,.inr hpI,rfl,_,_,.inr hpI,rfl,b',j',us',ts,J2,rfl,(z7 FC).sqT eZ,Ev.mono (z7 FC),hL.hi,hsz,hJ2I,by lia,λHk sK=>?_⟩;rw[ek];walk_at"rp"
 try rw[zO rfl]
 walk_at"rp";refine f7 (vd:=.ok) hW (Lst.toW hL) hV ?_;intro p3 b3 j3 Hl us3 J3 sL hp3 UB hT3 hj3 hJ3 ek3;have sek:=sF.trans (FC.trans (sK.trans sL));refine⟨zc (by simp),λp4 Hm nM sM eM=>?_⟩;have sem:=sek.trans sM;have sam:=sE.trans sem;exact⟨.ref p3,.ref p4,rfl,de ((z7 sM).sqT hp3) (SqT.of eM) ((z7 sM).sqT UB) (hT3.mono (z7 sM)) ((z7 sam).sqT FH) (BU.mono (z7 sam)) hL.pc ((z7 sM).sqT hj3) (λz hz=>(z7 sM).sqT (hJ3 z hz)) ((z7 sem).sqT hJ.sq) (λz hz=>(z7 sem).sqT (hJ.row z hz)) ek3,λHn sN=>q Hn⟩
def Uq(K:W.Frag):Sp:=λvs H Q _=>∃(a:Addr)(ns:List Int),vs=[.ref a]/\SqL K H a (ns.map V.int)/\ns.length<=63/\∀(p:Addr)(H':Hp)(ms:List Int),Same H H'->SqL K H' p (ms.map V.int)->ms.length<=5000->Q (.ref p) H'
theorem sc_free:zr ["_law_script","_law_left","_law_found","_law_k","_law_j"] ["_law_script"] (z4 (top 64)):=⟨rfl,rfl,rfl,by decide +kernel,rfl,by decide +kernel,by decide +kernel⟩
theorem Rw(ns:List Int)(lo hi:Option Int):∃ms:List Int,uz (ns.map V.int) lo hi=ms.map V.int/\ms.length<=ns.length:=by
 refine⟨(ns.drop (HT.sIx (ns.map V.int).length 0 lo)).take (HT.sIx (ns.map V.int).length (ns.map V.int).length hi-HT.sIx (ns.map V.int).length 0 lo),?_,?_⟩
 ·unfold uz;rw[List.map_take,List.map_drop]
 ·rw[wZ,yG];lia
theorem Yp:(0:Int)<(10:Int) ^ (61:Int).toNat:=by decide +kernel
theorem Rc:((10:Int) ^ (61:Int).toNat).natAbs.log2<9000:=by decide +kernel
theorem U2:Li 10 61:=⟨by decide,by decide,by decide⟩
theorem P0(D:Def K mg "_law_free" (top 64) ["_law_script"])(aD:mg "len"=none)(aN:mg "range"=none)(dA:mg "list"=none):zv P w K mg base 1 "_law_free" ["_law_script"] (Uq K):=by
 refine D.callee sc_free (λvs H Q E h=>?_) λf cdv A outer s H vs Q E hr h=>?_
 ·obtain⟨a,ns,rfl,_⟩:=h
  rfl
 have nd:=sc_free.nd;obtain⟨a,ns,rfl,hS,fG,q⟩:=h;refine⟨[some (.ref a),none,none,none,none],_,rfl,(z5 (zd (PW.pt (r8 (zh (ya hr.units) (zq xz rfl aD yt (z9 (z8 0) z6)) zz (zk _)) (ur (zh (ya hr.units) (zn u7 (yj (z8 0) zz (λ_ _=>rfl)) zz) zz (zk _))))) (z0 (zt (z8 0))) zm)
  (z5 (zg 1 nd (zn zf (xq (z9 (zn fm (yj (z8 0) zz (λ_ _=>rfl)) zz) z6)) (yh Sw rfl dA d7 (z9 (xw (z8 0) (xk zz) (xk zz)) z6))))
  (z5 (zg 2 nd (xq z6))
  (z5 (wf yI rfl (wm rfl aN (z9 zz z6)) (vg 3 nd) (z0 (wf yI rfl (wm rfl aN (z9 (zq xz rfl aD yt (z9 (z8 1) z6)) z6)) (vg 4 nd) (z5 (yw (lf xF xE lc (z8 2) (z9 (zn u7 (yj (z8 1) (z8 4) (λ_ _=>rfl)) (zn Op zz zz)) z6)))
  (z0 (Jg hr.units (z8 1) (z8 4) (zn Pp (yj (z8 1) (z8 4) (λ_ _=>rfl)) (zn Op zz zz))))))))
  (z0 (zt (z8 2))))))),?_⟩
 walk_at"rp";refine⟨_,.inl hS,?_⟩;rw[zX];refine w9 (λc=>q a H ns (Same.refl H) hS (by lia)) (λc=>?_);have oP:(0:Int)<(ns.length:Int):=by
  have:¬(ns.length:Int)=0:=λz=>c (zO z);lia
 obtain⟨v0,e0⟩:=my (ns:=ns) (k:=0) (by decide) oP;refine⟨_,_,.inl hS,e0,?_⟩;walk_at"rp";refine⟨by decide,w9 (λc=>q a H ns (Same.refl H) hS (by lia)) (λc=>?_)⟩;refine⟨_,_,.inl hS,e0,?_⟩;walk_at"rp";refine⟨⟨by decide,by decide⟩,zc (by simp),λl1 H1 n1 s1 e1=>?_⟩;obtain⟨ms,ems,hms⟩:=Rw ns (some 1) (some 63);refine .inl ⟨_,s1.seq hS,λl2 H2 n2 s2 e2=>?_⟩;rw[ems]at e2;refine⟨_,.inl (SqL.of e2),λl3 H3 n3 s3 e3=>?_⟩;refine .inl ⟨_,_,(s2.trans s3) _ _ e1,e3,by rw[zX,zM];simp;lia,λl H4 n4 s4 e4=>?_⟩;walk_at"rp";refine⟨zc (by simp),λfd H5 n5 s5 e5=>?_⟩;have s05:Same H H5:=s1.trans (s2.trans (s3.trans (s4.trans s5)));have gQ:l≠fd:=λz=>by rw[<-z,e4]at n5;cases n5
 have nl:H l=none:=ze (s1.trans (s2.trans s3)) n4;have nf:H fd=none:=ze (s1.trans (s2.trans (s3.trans s4))) n5;refine⟨⟨by decide,by decide⟩,?_⟩
 try rw[show((26:Int)).toNat=26 from rfl]
 refine uk (λi σ H6=>∃(ls fs:List Int)(x3 x4:Option V),σ=[some (.ref a),some (.ref l),some (.ref fd),x3,x4]/\H6 l=some (.lst (ls.map V.int))/\H6 fd=some (.lst (fs.map V.int))/\ls.length<=64/\fs.length<=64*i/\Same H H6) ⟨_::ms,[],none,none,rfl,s5 _ _ e4,e5,by simp;lia,yV _,s05⟩ ?_ ?_
 ·rintro i σ H6 hi ⟨ls,fs,x3,x4,rfl,el,ef,hls,Ch,s6⟩;walk_at"rp";refine⟨_,.inl (SqL.of el),?_⟩;rw[zX];refine⟨⟨by lia,by lia⟩,?_⟩;rw[xV];refine uk (λj σ H7=>∃(CC Cp:List Int)(y4:Option V),σ=[some (.ref a),some (.ref l),some (.ref fd),some (.int (0+(i:Int))),y4]/\H7 l=some (.lst (CC.map V.int))/\H7 fd=some (.lst (Cp.map V.int))/\CC.length=ls.length/\Cp.length=fs.length+j/\Same H H7) ⟨ls,fs,x4,rfl,el,ef,rfl,rfl,s6⟩ ?_ ?_
  ·rintro j σ H7 hj ⟨CC,Cp,y4,rfl,el',ef',hl',hf',s7⟩;walk_at"rp";obtain⟨v,ev⟩:=my (ns:=CC) (k:=0+(j:Int)) (by lia) (by lia);refine⟨⟨_,_,rfl,ef'⟩,_,_,.inl (SqL.of el'),ev,?_⟩;walk_at"rp";refine⟨U2,Yp,_,ef',by rw[zX,zM];lia,?_⟩;have ef2:∀y:V,upd H7 fd (.lst (Cp.map V.int++[y])) l=some (.lst (CC.map V.int)):=λy=>by rw[zj gQ];exact el'
   refine⟨_,_,.inl (SqL.of (ef2 _)),ev,?_⟩;walk_at"rp";refine⟨U2,⟨Yp,Rc⟩,?_⟩;refine .inr ⟨_,_,j,ef2 _,rfl,by lia,by rw[zX];lia,?_⟩;refine⟨CC.set j (v / (10:Int) ^ (61:Int).toNat),Cp++[v % (10:Int) ^ (61:Int).toNat],_,rfl,?_,?_,by rw[List.length_set];exact hl',by rw[zL];simp;lia,zo (zo s7 nf _) nl _⟩
   ·rw[zy,List.map_set]
   ·rw[zj (wY gQ),zy,yW]
    rfl
  ·rintro σ H7 ⟨CC,Cp,y4,rfl,el',ef',hl',hf',s7⟩;exact⟨CC,Cp,_,_,rfl,el',ef',by lia,by lia,s7⟩
 ·rintro σ H6 ⟨ls,fs,x3,x4,rfl,el,ef,hls,Ch,s6⟩;walk_at"rp";exact q fd H6 fs s6 (SqL.of ef) (by lia)
def Yi(K:W.Frag):Sp:=λvs H Q _=>∃(a:Addr)(ns:List Int),vs=[.ref a]/\SqL K H a (ns.map V.int)/\ns.length<=63/\∀H',Q (.bl true) H'
theorem sc_law:zr ["_law_script"] ["_law_script"] (z4 (top 65)):=⟨rfl,rfl,rfl,by decide +kernel,rfl,by decide +kernel,by decide +kernel⟩
theorem Mj{f:Addr}{fd:FuncData}(D:Fun K "law" "law" (top 65) f fd)(lL:zv P w K mg base 135 "_law_holds_for" ["_law_script"] (Yh K))(Ai:zv P w K mg base 1 "_law_free" ["_law_script"] (Uq K)):FnOk P w K mg base CX0 136 f fd ["_law_script"] (Yi K):=by
 refine R4 D sc_law (λvs H Q E h=>?_) λf cdv A outer s H vs Q E hr h=>?_
 ·obtain⟨a,ns,rfl,_⟩:=h
  rfl
 have nd:=sc_law.nd;obtain⟨a,ns,rfl,hS,fG,q⟩:=h;refine⟨[some (.ref a)],_,rfl,(z0 (zt (zp lL hr (by lia) (z9 (zp Ai hr (by lia) (z9 (z8 0) z6)) z6)))),?_⟩;walk_at"rd";refine⟨a,ns,rfl,hS,fG,λp H1 ms s1 hp hm=>?_⟩;exact⟨p,ms,rfl,hp,hm,q⟩
theorem eu{Ta:Addr}{es:Array DictEntry}{ep:Nat}{t1 t2:Tok}(l:K.lookup Ta=some ⟨.type "dict",none,.dict es ep,#[]⟩)(q:es=#[⟨hashStr w "y",.str "y" t1,.bool true⟩,⟨hashStr w "n",.str "n" t2,.bool false⟩])(n:(Ta==sysModules)=false):DictK P w K Ta uu:=by
 subst q;refine⟨_,_,_,l,⟨rfl,rfl,rfl⟩,rfl,λe he=>?_,.cons (vw _ _ _ _) rfl (.cons (vw _ _ _ _) rfl .nil),by decide +kernel,n⟩;have FO:e∈[(⟨hashStr w "y",.str "y" t1,.bool true⟩:DictEntry),⟨hashStr w "n",.str "n" t2,.bool false⟩]:=by simpa using he
 rcases zD.mp FO with z|z
 ·rw[z];exact⟨_,vw _ _ _ _,rfl⟩
 ·rw[zS.mp z];exact⟨_,vw _ _ _ _,rfl⟩
theorem Xa{Wa:Addr}{od:Option Addr}{n:Nat}{sl:Array (Option Value)}{t0 t1 t2 t3 t4 t5 t6:Tok}(l:K.lookup Wa=some ⟨.type "tuple",od,.seq #[.str "not" t0,.str "and" t1,.str "or" t2,.str "if" t3,.str "then" t4,.str "say" t5,.str "judge" t6] n,sl⟩)(H:Hp):SqT K H Wa (wordsL.map V.str) :=
 .inr ⟨_,_,_,l,rfl,rfl,zc (show 7<=1000 by decide),.cons ⟨_,rfl⟩ (.cons ⟨_,rfl⟩ (.cons ⟨_,rfl⟩ (.cons ⟨_,rfl⟩ (.cons ⟨_,rfl⟩ (.cons ⟨_,rfl⟩ (.cons ⟨_,rfl⟩ .nil))))))⟩
end
end Kx
namespace Kx
open PySem PySem.Spec L2 My
open PyProof.Rows hiding St
theorem all_mk{l:W.OpenLaw}{w:World}{K:W.Frag}{h:Heap}{mg:Str->Option Value}{fa:Addr}(X:K.In h)(G:h.Ns mainGlobals mg)(hfa:mg "law"=some (.ref fa))
  {f_8:Addr}{od_8 an_8:Option Addr}{sl_8:Array (Option Value)}{oc_8 kV_8 dc_8 pm_8 XU ct_8:Value}
  {f_9:Addr}{od_9 an_9:Option Addr}{sl_9:Array (Option Value)}{oc_9 kV_9 dc_9 pm_9 XT ct_9:Value}
  {Fg:Addr}{LI an_10:Option Addr}{HR:Array (Option Value)}{MX SJ V' JK DG XQ:Value}
  {Ff:Addr}{LH an_11:Option Addr}{HQ:Array (Option Value)}{MW SI VZ JJ DF XN:Value}
  {Fe:Addr}{LG an_13:Option Addr}{HP:Array (Option Value)}{MV SH VY JI DE XM:Value}
  {Fd:Addr}{LF an_14:Option Addr}{HN:Array (Option Value)}{MU SG VX JH DD XJ:Value}
  {Fc:Addr}{LD an_16:Option Addr}{HM:Array (Option Value)}{MT SE VW JG DC XI:Value}
  {Fb:Addr}{LC an_17:Option Addr}{HL:Array (Option Value)}{MS SD VV JF DB XH:Value}
  {Fa:Addr}{LB an_18:Option Addr}{HK:Array (Option Value)}{MR SA VU JE DA XG:Value}
  {EZ:Addr}{LA an_19:Option Addr}{HJ:Array (Option Value)}{MQ RZ VT JD D9 XF:Value}
  {EY:Addr}{K' an_25:Option Addr}{HI:Array (Option Value)}{MP RY VS JC D8 XE:Value}
  {EX:Addr}{KZ an_26:Option Addr}{HH:Array (Option Value)}{MO RX VR JB D7 XD:Value}
  {EW:Addr}{KY an_27:Option Addr}{HG:Array (Option Value)}{MN RW VQ JA D6 XC:Value}
  {EV:Addr}{KW an_28:Option Addr}{HF:Array (Option Value)}{MM RV VP IZ D5 XB:Value}
  {EU:Addr}{KU an_35:Option Addr}{HE:Array (Option Value)}{ML RU VO IY D4 XA:Value}
  {ET:Addr}{KS an_36:Option Addr}{HD:Array (Option Value)}{MK RT VN IX D3 W':Value}
  {ES:Addr}{KR an_37:Option Addr}{HC:Array (Option Value)}{MJ RS VM IW D0 WZ:Value}
  {ER:Addr}{KQ an_38:Option Addr}{HB:Array (Option Value)}{MI RQ VL IV Dz WY:Value}
  {EQ:Addr}{KP an_40:Option Addr}{HA:Array (Option Value)}{MH RP VJ IU Dy WX:Value}
  {EO:Addr}{KO an_41:Option Addr}{G':Array (Option Value)}{MG RO VI IT Dx WW:Value}
  {EN:Addr}{KN an_42:Option Addr}{GZ:Array (Option Value)}{MF RN VH IS Dw WV:Value}
  {EM:Addr}{KL an_44:Option Addr}{GY:Array (Option Value)}{ME RM VG IR Dv WU:Value}
  {EL:Addr}{KJ an_45:Option Addr}{GX:Array (Option Value)}{MD RL VF IQ Du WT:Value}
  {EK:Addr}{KI an_46:Option Addr}{GW:Array (Option Value)}{MC RK VE IP Dt WS:Value}
  {EJ:Addr}{KH an_47:Option Addr}{GV:Array (Option Value)}{MB RJ VD IN Ds WR:Value}
  {EI:Addr}{KG an_48:Option Addr}{GU:Array (Option Value)}{MA RI VC IM Dr WQ:Value}
  {EH:Addr}{KE an_49:Option Addr}{GS:Array (Option Value)}{LZ RH VB IL Dq WP:Value}
  {EG:Addr}{KD ZZ:Option Addr}{GR:Array (Option Value)}{LY RG VA IK Dp WO:Value}
  {EF:Addr}{KC ZY:Option Addr}{GQ:Array (Option Value)}{LX RF U' IJ Do WN:Value}
  {EE:Addr}{KA ZX:Option Addr}{GP:Array (Option Value)}{LW RE UZ II Dm WM:Value}
  {ED:Addr}{JZ ZW:Option Addr}{GO:Array (Option Value)}{LV RD UY IH Dk WL:Value}
  {EC:Addr}{JY ZV:Option Addr}{GN:Array (Option Value)}{LU RC UX IG Dj WK:Value}
  {EB:Addr}{JX ZU:Option Addr}{GL:Array (Option Value)}{LS RB UW IF Di WJ:Value}
  {EA:Addr}{JW ZT:Option Addr}{GK:Array (Option Value)}{LR RA UV IE Dh WI:Value}
  {E9:Addr}{JV ZS:Option Addr}{GJ:Array (Option Value)}{LQ QZ UU ID Dg WH:Value}
  {E8:Addr}{JU ZR:Option Addr}{GI:Array (Option Value)}{LP QY UT IC Df WG:Value}
  {E7:Addr}{JT ZQ:Option Addr}{GH:Array (Option Value)}{LO QX US IB De WF:Value}
  {E6:Addr}{JS ZP:Option Addr}{GG:Array (Option Value)}{LN QW UR IA Dd WE:Value}
  {E5:Addr}{JR ZO:Option Addr}{GF:Array (Option Value)}{LM QV UQ HZ Dc WD:Value}
  {E4:Addr}{JQ ZN:Option Addr}{GD:Array (Option Value)}{LL QU UP HY Db WC:Value}
  {E3:Addr}{JP ZM:Option Addr}{GC:Array (Option Value)}{LK QT UO HX CZ WB:Value}
  {E2:Addr}{JO ZL:Option Addr}{GB:Array (Option Value)}{LJ QS UN HW CY WA:Value}
  {B7:Addr}{DR BB:Option Addr}{DN:Array (Option Value)}{DS Bq B9 Bo sT BA:Value}
  {aG:Addr}
  {cS:Addr}{kU lH:Option Addr}{kP:Array (Option Value)}{kX kZ lC kS fE lF:Value}
  {bD:Addr}{jB jN:Option Addr}{iX:Array (Option Value)}{jD jG jJ iZ cU jL:Value}
  {bJ:Addr}{kT lG:Option Addr}{kO:Array (Option Value)}{kW kY lB kR fD lE:Value}
  {aY:Addr}{gB iB:Option Addr}{fX:Array (Option Value)}{gD gP gU fZ bU gX:Value}
  {bC:Addr}{jA jM:Option Addr}{iW:Array (Option Value)}{jC jF jI iY cT jK:Value}
  {aX:Addr}{gA iA:Option Addr}{fW:Array (Option Value)}{gC gO gT fY bT gW:Value}
  {aU:Addr}{dU eE:Option Addr}{dR:Array (Option Value)}{dW dY eA dS bK eC:Value}
  {aR:Addr}
  {bS:Addr}{mS nO:Option Addr}{mQ:Array (Option Value)}{mT mX nA mR gY nC:Value}
  {aO:Addr}
  {aJ:Addr}
  {aW:Addr}
  {aQ:Addr}
  {nN:Addr}
  {mO:Tok}
  {pQ:Tok}
  {oN:Tok}
  {oO:Tok}
  {mP:Tok}
  {kN:Tok}
  {A4:Addr}
  {Bp:Option Addr}{Bl:Nat}{Bm:Array (Option Value)}{Bj Bi Bg Bf Be Bd Bc:Tok}
  {nL:Addr}
  {pK:Array DictEntry}{AC:Nat}{A9 A8:Tok}
  (a_8:W.nsIn K mainGlobals "pieces_in"=some (some (.ref f_8))) (l_8:K.lookup f_8=some ⟨oc_8,od_8,.func (W.fnOf "pieces_in" "pieces_in" (zu (top 8)) (zw (top 8)) (z4 (top 8)) .none kV_8 dc_8 pm_8 an_8 XU ct_8),sl_8⟩) (c_8:W.codeIn K XU "pieces_in"=true) (k_8:W.keepIn K (.ref f_8)=true)
  (a_9:W.nsIn K mainGlobals "letters_in"=some (some (.ref f_9))) (l_9:K.lookup f_9=some ⟨oc_9,od_9,.func (W.fnOf "letters_in" "letters_in" (zu (top 9)) (zw (top 9)) (z4 (top 9)) .none kV_9 dc_9 pm_9 an_9 XT ct_9),sl_9⟩) (c_9:W.codeIn K XT "letters_in"=true) (k_9:W.keepIn K (.ref f_9)=true)
  (a_10:W.nsIn K mainGlobals "names_in"=some (some (.ref Fg))) (OS:K.lookup Fg=some ⟨MX,LI,.func (W.fnOf "names_in" "names_in" (zu (top 10)) (zw (top 10)) (z4 (top 10)) .none SJ V' JK an_10 DG XQ),HR⟩) (ZI:W.codeIn K DG "names_in"=true) (QR:W.keepIn K (.ref Fg)=true)
  (a_11:W.nsIn K mainGlobals "is_so"=some (some (.ref Ff))) (OR:K.lookup Ff=some ⟨MW,LH,.func (W.fnOf "is_so" "is_so" (zu (top 11)) (zw (top 11)) (z4 (top 11)) .none SI VZ JJ an_11 DF XN),HQ⟩) (ZH:W.codeIn K DF "is_so"=true) (QQ:W.keepIn K (.ref Ff)=true)
  (a_13:W.nsIn K mainGlobals "ways_to_hold"=some (some (.ref Fe))) (OQ:K.lookup Fe=some ⟨MV,LG,.func (W.fnOf "ways_to_hold" "ways_to_hold" (zu (top 13)) (zw (top 13)) (z4 (top 13)) .none SH VY JI an_13 DE XM),HP⟩) (ZG:W.codeIn K DE "ways_to_hold"=true) (QP:W.keepIn K (.ref Fe)=true)
  (a_14:W.nsIn K mainGlobals "held_by"=some (some (.ref Fd))) (OP:K.lookup Fd=some ⟨MU,LF,.func (W.fnOf "held_by" "held_by" (zu (top 14)) (zw (top 14)) (z4 (top 14)) .none SG VX JH an_14 DD XJ),HN⟩) (ZF:W.codeIn K DD "held_by"=true) (QO:W.keepIn K (.ref Fd)=true)
  (a_16:W.nsIn K mainGlobals "names_of"=some (some (.ref Fc))) (OO:K.lookup Fc=some ⟨MT,LD,.func (W.fnOf "names_of" "names_of" (zu (top 16)) (zw (top 16)) (z4 (top 16)) .none SE VW JG an_16 DC XI),HM⟩) (ZE:W.codeIn K DC "names_of"=true) (QN:W.keepIn K (.ref Fc)=true)
  (a_17:W.nsIn K mainGlobals "all_held"=some (some (.ref Fb))) (ON:K.lookup Fb=some ⟨MS,LC,.func (W.fnOf "all_held" "all_held" (zu (top 17)) (zw (top 17)) (z4 (top 17)) .none SD VV JF an_17 DB XH),HL⟩) (ZD:W.codeIn K DB "all_held"=true) (QM:W.keepIn K (.ref Fb)=true)
  (a_18:W.nsIn K mainGlobals "row_of"=some (some (.ref Fa))) (OM:K.lookup Fa=some ⟨MR,LB,.func (W.fnOf "row_of" "row_of" (zu (top 18)) (zw (top 18)) (z4 (top 18)) .none SA VU JE an_18 DA XG),HK⟩) (ZC:W.codeIn K DA "row_of"=true) (QL:W.keepIn K (.ref Fa)=true)
  (a_19:W.nsIn K mainGlobals "fit_rows"=some (some (.ref EZ))) (OL:K.lookup EZ=some ⟨MQ,LA,.func (W.fnOf "fit_rows" "fit_rows" (zu (top 19)) (zw (top 19)) (z4 (top 19)) .none RZ VT JD an_19 D9 XF),HJ⟩) (ZB:W.codeIn K D9 "fit_rows"=true) (QK:W.keepIn K (.ref EZ)=true)
  (a_25:W.nsIn K mainGlobals "check_bounds"=some (some (.ref EY))) (OK:K.lookup EY=some ⟨MP,K',.func (W.fnOf "check_bounds" "check_bounds" (zu (top 25)) (zw (top 25)) (z4 (top 25)) .none RY VS JC an_25 D8 XE),HI⟩) (Y':W.codeIn K D8 "check_bounds"=true) (QJ:W.keepIn K (.ref EY)=true)
  (a_26:W.nsIn K mainGlobals "is_among"=some (some (.ref EX))) (OJ:K.lookup EX=some ⟨MO,KZ,.func (W.fnOf "is_among" "is_among" (zu (top 26)) (zw (top 26)) (z4 (top 26)) .none RX VR JB an_26 D7 XD),HH⟩) (YZ:W.codeIn K D7 "is_among"=true) (QI:W.keepIn K (.ref EX)=true)
  (a_27:W.nsIn K mainGlobals "check_rows"=some (some (.ref EW))) (OI:K.lookup EW=some ⟨MN,KY,.func (W.fnOf "check_rows" "check_rows" (zu (top 27)) (zw (top 27)) (z4 (top 27)) .none RW VQ JA an_27 D6 XC),HG⟩) (YY:W.codeIn K D6 "check_rows"=true) (QH:W.keepIn K (.ref EW)=true)
  (a_28:W.nsIn K mainGlobals "seated"=some (some (.ref EV))) (OH:K.lookup EV=some ⟨MM,KW,.func (W.fnOf "seated" "seated" (zu (top 28)) (zw (top 28)) (z4 (top 28)) .none RV VP IZ an_28 D5 XB),HF⟩) (YX:W.codeIn K D5 "seated"=true) (QG:W.keepIn K (.ref EV)=true)
  (a_35:W.nsIn K mainGlobals "check_text"=some (some (.ref EU))) (OG:K.lookup EU=some ⟨ML,KU,.func (W.fnOf "check_text" "check_text" (zu (top 35)) (zw (top 35)) (z4 (top 35)) .none RU VO IY an_35 D4 XA),HE⟩) (YW:W.codeIn K D4 "check_text"=true) (QF:W.keepIn K (.ref EU)=true)
  (a_36:W.nsIn K mainGlobals "read_saying"=some (some (.ref ET))) (OF:K.lookup ET=some ⟨MK,KS,.func (W.fnOf "read_saying" "read_saying" (zu (top 36)) (zw (top 36)) (z4 (top 36)) .none RT VN IX an_36 D3 W'),HD⟩) (YV:W.codeIn K D3 "read_saying"=true) (QE:W.keepIn K (.ref ET)=true)
  (a_37:W.nsIn K mainGlobals "read_row"=some (some (.ref ES))) (OE:K.lookup ES=some ⟨MJ,KR,.func (W.fnOf "read_row" "read_row" (zu (top 37)) (zw (top 37)) (z4 (top 37)) .none RS VM IW an_37 D0 WZ),HC⟩) (YU:W.codeIn K D0 "read_row"=true) (QD:W.keepIn K (.ref ES)=true)
  (a_38:W.nsIn K mainGlobals "read"=some (some (.ref ER))) (OD:K.lookup ER=some ⟨MI,KQ,.func (W.fnOf "read" "read" (zu (top 38)) (zw (top 38)) (z4 (top 38)) .none RQ VL IV an_38 Dz WY),HB⟩) (YT:W.codeIn K Dz "read"=true) (QC:W.keepIn K (.ref ER)=true)
  (a_40:W.nsIn K mainGlobals "shown"=some (some (.ref EQ))) (OC:K.lookup EQ=some ⟨MH,KP,.func (W.fnOf "shown" "shown" (zu (top 40)) (zw (top 40)) (z4 (top 40)) .none RP VJ IU an_40 Dy WX),HA⟩) (YS:W.codeIn K Dy "shown"=true) (QB:W.keepIn K (.ref EQ)=true)
  (a_41:W.nsIn K mainGlobals "letters_for"=some (some (.ref EO))) (OB:K.lookup EO=some ⟨MG,KO,.func (W.fnOf "letters_for" "letters_for" (zu (top 41)) (zw (top 41)) (z4 (top 41)) .none RO VI IT an_41 Dx WW),G'⟩) (YR:W.codeIn K Dx "letters_for"=true) (QA:W.keepIn K (.ref EO)=true)
  (a_42:W.nsIn K mainGlobals "written"=some (some (.ref EN))) (OA:K.lookup EN=some ⟨MF,KN,.func (W.fnOf "written" "written" (zu (top 42)) (zw (top 42)) (z4 (top 42)) .none RN VH IS an_42 Dw WV),GZ⟩) (YQ:W.codeIn K Dw "written"=true) (PZ:W.keepIn K (.ref EN)=true)
  (a_44:W.nsIn K mainGlobals "_law_cell"=some (some (.ref EM))) (NZ:K.lookup EM=some ⟨ME,KL,.func (W.fnOf "_law_cell" "_law_cell" (zu (top 44)) (zw (top 44)) (z4 (top 44)) .none RM VG IR an_44 Dv WU),GY⟩) (YO:W.codeIn K Dv "_law_cell"=true) (PY:W.keepIn K (.ref EM)=true)
  (a_45:W.nsIn K mainGlobals "_law_pick"=some (some (.ref EL))) (NY:K.lookup EL=some ⟨MD,KJ,.func (W.fnOf "_law_pick" "_law_pick" (zu (top 45)) (zw (top 45)) (z4 (top 45)) .none RL VF IQ an_45 Du WT),GX⟩) (YN:W.codeIn K Du "_law_pick"=true) (PX:W.keepIn K (.ref EL)=true)
  (a_46:W.nsIn K mainGlobals "_law_same"=some (some (.ref EK))) (NW:K.lookup EK=some ⟨MC,KI,.func (W.fnOf "_law_same" "_law_same" (zu (top 46)) (zw (top 46)) (z4 (top 46)) .none RK VE IP an_46 Dt WS),GW⟩) (YM:W.codeIn K Dt "_law_same"=true) (PV:W.keepIn K (.ref EK)=true)
  (a_47:W.nsIn K mainGlobals "_law_safe"=some (some (.ref EJ))) (NV:K.lookup EJ=some ⟨MB,KH,.func (W.fnOf "_law_safe" "_law_safe" (zu (top 47)) (zw (top 47)) (z4 (top 47)) .none RJ VD IN an_47 Ds WR),GV⟩) (YL:W.codeIn K Ds "_law_safe"=true) (PU:W.keepIn K (.ref EJ)=true)
  (a_48:W.nsIn K mainGlobals "_law_names"=some (some (.ref EI))) (NU:K.lookup EI=some ⟨MA,KG,.func (W.fnOf "_law_names" "_law_names" (zu (top 48)) (zw (top 48)) (z4 (top 48)) .none RI VC IM an_48 Dr WQ),GU⟩) (YK:W.codeIn K Dr "_law_names"=true) (PQ:W.keepIn K (.ref EI)=true)
  (a_49:W.nsIn K mainGlobals "_law_saying"=some (some (.ref EH))) (NT:K.lookup EH=some ⟨LZ,KE,.func (W.fnOf "_law_saying" "_law_saying" (zu (top 49)) (zw (top 49)) (z4 (top 49)) .none RH VB IL an_49 Dq WP),GS⟩) (YJ:W.codeIn K Dq "_law_saying"=true) (PP:W.keepIn K (.ref EH)=true)
  (a_50:W.nsIn K mainGlobals "_law_so"=some (some (.ref EG))) (NS:K.lookup EG=some ⟨LY,KD,.func (W.fnOf "_law_so" "_law_so" (zu (top 50)) (zw (top 50)) (z4 (top 50)) .none RG VA IK ZZ Dp WO),GR⟩) (YI:W.codeIn K Dp "_law_so"=true) (PN:W.keepIn K (.ref EG)=true)
  (a_51:W.nsIn K mainGlobals "_law_held"=some (some (.ref EF))) (NR:K.lookup EF=some ⟨LX,KC,.func (W.fnOf "_law_held" "_law_held" (zu (top 51)) (zw (top 51)) (z4 (top 51)) .none RF U' IJ ZY Do WN),GQ⟩) (YH:W.codeIn K Do "_law_held"=true) (PM:W.keepIn K (.ref EF)=true)
  (a_52:W.nsIn K mainGlobals "_law_within"=some (some (.ref EE))) (NQ:K.lookup EE=some ⟨LW,KA,.func (W.fnOf "_law_within" "_law_within" (zu (top 52)) (zw (top 52)) (z4 (top 52)) .none RE UZ II ZX Dm WM),GP⟩) (YG:W.codeIn K Dm "_law_within"=true) (PL:W.keepIn K (.ref EE)=true)
  (a_53:W.nsIn K mainGlobals "_law_all_names"=some (some (.ref ED))) (NP:K.lookup ED=some ⟨LV,JZ,.func (W.fnOf "_law_all_names" "_law_all_names" (zu (top 53)) (zw (top 53)) (z4 (top 53)) .none RD UY IH ZW Dk WL),GO⟩) (YF:W.codeIn K Dk "_law_all_names"=true) (PK:W.keepIn K (.ref ED)=true)
  (a_54:W.nsIn K mainGlobals "_law_row"=some (some (.ref EC))) (NO:K.lookup EC=some ⟨LU,JY,.func (W.fnOf "_law_row" "_law_row" (zu (top 54)) (zw (top 54)) (z4 (top 54)) .none RC UX IG ZV Dj WK),GN⟩) (YE:W.codeIn K Dj "_law_row"=true) (PJ:W.keepIn K (.ref EC)=true)
  (a_55:W.nsIn K mainGlobals "_law_fit_rows"=some (some (.ref EB))) (NN:K.lookup EB=some ⟨LS,JX,.func (W.fnOf "_law_fit_rows" "_law_fit_rows" (zu (top 55)) (zw (top 55)) (z4 (top 55)) .none RB UW IF ZU Di WJ),GL⟩) (YD:W.codeIn K Di "_law_fit_rows"=true) (PH:W.keepIn K (.ref EB)=true)
  (a_56:W.nsIn K mainGlobals "_law_sayings"=some (some (.ref EA))) (NM:K.lookup EA=some ⟨LR,JW,.func (W.fnOf "_law_sayings" "_law_sayings" (zu (top 56)) (zw (top 56)) (z4 (top 56)) .none RA UV IE ZT Dh WI),GK⟩) (YC:W.codeIn K Dh "_law_sayings"=true) (PD:W.keepIn K (.ref EA)=true)
  (a_57:W.nsIn K mainGlobals "_law_seats"=some (some (.ref E9))) (NL:K.lookup E9=some ⟨LQ,JV,.func (W.fnOf "_law_seats" "_law_seats" (zu (top 57)) (zw (top 57)) (z4 (top 57)) .none QZ UU ID ZS Dg WH),GJ⟩) (YB:W.codeIn K Dg "_law_seats"=true) (PC:W.keepIn K (.ref E9)=true)
  (a_58:W.nsIn K mainGlobals "_law_shown"=some (some (.ref E8))) (NK:K.lookup E8=some ⟨LP,JU,.func (W.fnOf "_law_shown" "_law_shown" (zu (top 58)) (zw (top 58)) (z4 (top 58)) .none QY UT IC ZR Df WG),GI⟩) (YA:W.codeIn K Df "_law_shown"=true) (PB:W.keepIn K (.ref E8)=true)
  (a_59:W.nsIn K mainGlobals "_law_written"=some (some (.ref E7))) (NJ:K.lookup E7=some ⟨LO,JT,.func (W.fnOf "_law_written" "_law_written" (zu (top 59)) (zw (top 59)) (z4 (top 59)) .none QX US IB ZQ De WF),GH⟩) (X':W.codeIn K De "_law_written"=true) (OZ:W.keepIn K (.ref E7)=true)
  (a_60:W.nsIn K mainGlobals "_law_refused"=some (some (.ref E6))) (NI:K.lookup E6=some ⟨LN,JS,.func (W.fnOf "_law_refused" "_law_refused" (zu (top 60)) (zw (top 60)) (z4 (top 60)) .none QW UR IA ZP Dd WE),GG⟩) (XZ:W.codeIn K Dd "_law_refused"=true) (OY:W.keepIn K (.ref E6)=true)
  (a_61:W.nsIn K mainGlobals "_law_pieces"=some (some (.ref E5))) (NH:K.lookup E5=some ⟨LM,JR,.func (W.fnOf "_law_pieces" "_law_pieces" (zu (top 61)) (zw (top 61)) (z4 (top 61)) .none QV UQ HZ ZO Dc WD),GF⟩) (XY:W.codeIn K Dc "_law_pieces"=true) (OX:W.keepIn K (.ref E5)=true)
  (a_62:W.nsIn K mainGlobals "_law_saying_read"=some (some (.ref E4))) (NG:K.lookup E4=some ⟨LL,JQ,.func (W.fnOf "_law_saying_read" "_law_saying_read" (zu (top 62)) (zw (top 62)) (z4 (top 62)) .none QU UP HY ZN Db WC),GD⟩) (XX:W.codeIn K Db "_law_saying_read"=true) (OW:W.keepIn K (.ref E4)=true)
  (a_63:W.nsIn K mainGlobals "_law_holds_for"=some (some (.ref E3))) (NF:K.lookup E3=some ⟨LK,JP,.func (W.fnOf "_law_holds_for" "_law_holds_for" (zu (top 63)) (zw (top 63)) (z4 (top 63)) .none QT UO HX ZM CZ WB),GC⟩) (XW:W.codeIn K CZ "_law_holds_for"=true) (OV:W.keepIn K (.ref E3)=true)
  (a_64:W.nsIn K mainGlobals "_law_free"=some (some (.ref E2))) (NE:K.lookup E2=some ⟨LJ,JO,.func (W.fnOf "_law_free" "_law_free" (zu (top 64)) (zw (top 64)) (z4 (top 64)) .none QS UN HW ZL CY WA),GB⟩) (XV:W.codeIn K CY "_law_free"=true) (OU:W.keepIn K (.ref E2)=true)
  (DK:W.nsIn K mainGlobals "law"=some (some (.ref B7))) (CD:K.lookup B7=some ⟨DS,DR,.func (W.fnOf "law" "law" (zu (top 65)) (zw (top 65)) (z4 (top 65)) .none Bq B9 Bo BB sT BA),DN⟩) (DH:W.codeIn K sT "law"=true) (CF:W.keepIn K (.ref B7)=true)
  (nK:W.nsIn K mainGlobals "Reading"=some (some (.ref aG))) (nF:W.makesIn K aG=true) (nH:W.keepIn K (.ref aG)=true) (nJ:W.plainGet K aG Str.empty=true) (nI:W.hasDictIn K aG=true) (nE:W.plainOver K aG=true) (nD:W.findIn K (.ref aG) "__setattr__"=some (some (.builtin "object.__setattr__")))
  (iD:W.findIn K (.ref aG) "__init__"=some (some (.ref cS))) (gJ:K.lookup cS=some ⟨kX,kU,.func (W.fnOf "__init__" "Reading.__init__" (zu (za (top 34) 0)) (zw (za (top 34) 0)) (z4 (za (top 34) 0)) .none kZ lC kS lH fE lF),kP⟩) (hX:W.codeIn K fE "Reading.__init__"=true) (gF:W.isFn K (.ref cS)=true) (eY:NoAttr K aG "text")
  (dI:W.findIn K (.ref aG) "is_next"=some (some (.ref bD))) (dC:K.lookup bD=some ⟨jD,jB,.func (W.fnOf "is_next" "Reading.is_next" (zu (za (top 34) 1)) (zw (za (top 34) 1)) (z4 (za (top 34) 1)) .none jG jJ iZ jN cU jL),iX⟩) (dG:W.codeIn K cU "Reading.is_next"=true) (dE:W.keepIn K (.ref bD)=true) (cZ:W.isFn K (.ref bD)=true)
  (iC:W.findIn K (.ref aG) "skip"=some (some (.ref bJ))) (gI:K.lookup bJ=some ⟨kW,kT,.func (W.fnOf "skip" "Reading.skip" (zu (za (top 34) 2)) (zw (za (top 34) 2)) (z4 (za (top 34) 2)) .none kY lB kR lG fD lE),kO⟩) (hU:W.codeIn K fD "Reading.skip"=true) (gN:W.keepIn K (.ref bJ)=true) (gE:W.isFn K (.ref bJ)=true)
  (cK:W.findIn K (.ref aG) "take_name"=some (some (.ref aY))) (cD:K.lookup aY=some ⟨gD,gB,.func (W.fnOf "take_name" "Reading.take_name" (zu (za (top 34) 3)) (zw (za (top 34) 3)) (z4 (za (top 34) 3)) .none gP gU fZ iB bU gX),fX⟩) (cI:W.codeIn K bU "Reading.take_name"=true) (cG:W.keepIn K (.ref aY)=true) (cB:W.isFn K (.ref aY)=true)
  (dH:W.findIn K (.ref aG) "take_if"=some (some (.ref bC))) (dB:K.lookup bC=some ⟨jC,jA,.func (W.fnOf "take_if" "Reading.take_if" (zu (za (top 34) 4)) (zw (za (top 34) 4)) (z4 (za (top 34) 4)) .none jF jI iY jM cT jK),iW⟩) (dF:W.codeIn K cT "Reading.take_if"=true) (dD:W.keepIn K (.ref bC)=true) (cY:W.isFn K (.ref bC)=true)
  (cJ:W.findIn K (.ref aG) "take_pair"=some (some (.ref aX))) (cC:K.lookup aX=some ⟨gC,gA,.func (W.fnOf "take_pair" "Reading.take_pair" (zu (za (top 34) 5)) (zw (za (top 34) 5)) (z4 (za (top 34) 5)) .none gO gT fY iA bT gW),fW⟩) (cH:W.codeIn K bT "Reading.take_pair"=true) (cF:W.keepIn K (.ref aX)=true) (cA:W.isFn K (.ref aX)=true)
  (bP:W.findIn K (.ref aG) "take_saying"=some (some (.ref aU))) (bM:K.lookup aU=some ⟨dW,dU,.func (W.fnOf "take_saying" "Reading.take_saying" (zu (za (top 34) 6)) (zw (za (top 34) 6)) (z4 (za (top 34) 6)) .none dY eA dS eE bK eC),dR⟩) (bO:W.codeIn K bK "Reading.take_saying"=true) (bN:W.keepIn K (.ref aU)=true) (bL:W.isFn K (.ref aU)=true)
  (pN:W.nsIn K mainGlobals "BadRow"=some (some (.ref aR)))
  (pE:xIn K aR=true)
  (mD:W.findIn K (.ref aR) "__getattribute__"=some (some (.builtin "BaseException.__getattribute__")))
  (lZ:W.findIn K (.ref aR) "__getattr__"=some none)
  (lP:W.findIn K (.ref aR) "__setattr__"=some (some (.builtin "object.__setattr__")))
  (lV:W.mroIn K aR (.type "BaseException")=some true)
  (lR:W.mroIn K aR (.type "object")=some true)
  (lX:W.keepIn K (.ref aR)=true)
  (mK:W.findIn K (.ref aR) "__class__"=some (some (.builtin "object.__class__")))
  (mI:W.specialIn K (.builtin "object.__class__") "__get__"=some (some (.builtin "getset_descriptor.__get__")))
  (mF:W.takesIn K (.builtin "object.__class__")=some true)
  (iU:W.findIn K (.ref aR) "__init__"=some (some (.ref bS))) (iN:K.lookup bS=some ⟨mT,mS,.func (W.fnOf "__init__" "BadRow.__init__" (zu (za (top 4) 0)) (zw (za (top 4) 0)) (z4 (za (top 4) 0)) .none mX nA mR nO gY nC),mQ⟩) (iT:W.codeIn K gY "BadRow.__init__"=true) (iO:W.keepIn K (.ref bS)=true) (iM:W.typeIn K (.ref bS)=some (.type "function")) (fU:W.takerIn K aR "number"=some none) (mU:NoAttr K aR "number")
  (iS:W.nsIn K mainGlobals "JudgeError"=some (some (.ref aO)))
  (iL:xIn K aO=true)
  (fO:W.findIn K (.ref aO) "__getattribute__"=some (some (.builtin "BaseException.__getattribute__")))
  (fN:W.findIn K (.ref aO) "__getattr__"=some none)
  (fJ:W.findIn K (.ref aO) "__setattr__"=some (some (.builtin "object.__setattr__")))
  (fL:W.mroIn K aO (.type "BaseException")=some true)
  (fK:W.mroIn K aO (.type "object")=some true)
  (fM:W.keepIn K (.ref aO)=true)
  (fS:W.findIn K (.ref aO) "__class__"=some (some (.builtin "object.__class__")))
  (fR:W.specialIn K (.builtin "object.__class__") "__get__"=some (some (.builtin "getset_descriptor.__get__")))
  (fQ:W.takesIn K (.builtin "object.__class__")=some true)
  (gZ:W.nsIn K mainGlobals "OutOfBounds"=some (some (.ref aJ)))
  (fH:xIn K aJ=true)
  (eU:W.findIn K (.ref aJ) "__getattribute__"=some (some (.builtin "BaseException.__getattribute__")))
  (eS:W.findIn K (.ref aJ) "__getattr__"=some none)
  (eO:W.findIn K (.ref aJ) "__setattr__"=some (some (.builtin "object.__setattr__")))
  (eQ:W.mroIn K aJ (.type "BaseException")=some true)
  (eP:W.mroIn K aJ (.type "object")=some true)
  (eR:W.keepIn K (.ref aJ)=true)
  (eX:W.findIn K (.ref aJ) "__class__"=some (some (.builtin "object.__class__")))
  (eW:W.specialIn K (.builtin "object.__class__") "__get__"=some (some (.builtin "getset_descriptor.__get__")))
  (eV:W.takesIn K (.builtin "object.__class__")=some true)
  (fP:W.excIn K aJ vbm "ValueError.__new__"=true)
  (A3:W.nsIn K mainGlobals "Even"=some (some (.ref aW)))
  (Ao:xIn K aW=true)
  (qR:W.findIn K (.ref aW) "__getattribute__"=some (some (.builtin "BaseException.__getattribute__")))
  (qQ:W.findIn K (.ref aW) "__getattr__"=some none)
  (qM:W.findIn K (.ref aW) "__setattr__"=some (some (.builtin "object.__setattr__")))
  (qO:W.mroIn K aW (.type "BaseException")=some true)
  (qN:W.mroIn K aW (.type "object")=some true)
  (qP:W.keepIn K (.ref aW)=true)
  (qU:W.findIn K (.ref aW) "__class__"=some (some (.builtin "object.__class__")))
  (qT:W.specialIn K (.builtin "object.__class__") "__get__"=some (some (.builtin "getset_descriptor.__get__")))
  (qS:W.takesIn K (.builtin "object.__class__")=some true)
  (Ap:W.excIn K aW vbm "ValueError.__new__"=true)
  (pL:W.nsIn K mainGlobals "NoText"=some (some (.ref aQ)))
  (pD:xIn K aQ=true)
  (mC:W.findIn K (.ref aQ) "__getattribute__"=some (some (.builtin "BaseException.__getattribute__")))
  (lY:W.findIn K (.ref aQ) "__getattr__"=some none)
  (lO:W.findIn K (.ref aQ) "__setattr__"=some (some (.builtin "object.__setattr__")))
  (lU:W.mroIn K aQ (.type "BaseException")=some true)
  (lQ:W.mroIn K aQ (.type "object")=some true)
  (lW:W.keepIn K (.ref aQ)=true)
  (mJ:W.findIn K (.ref aQ) "__class__"=some (some (.builtin "object.__class__")))
  (mH:W.specialIn K (.builtin "object.__class__") "__get__"=some (some (.builtin "getset_descriptor.__get__")))
  (mE:W.takesIn K (.builtin "object.__class__")=some true)
  (pF:W.excIn K aQ vbm "ValueError.__new__"=true)
  (pM:W.nsIn K mainGlobals "Barred"=some (some (.ref nN)))
  (fA:W.nsIn K mainGlobals "MOST_SAYINGS"=some (some (.int 6 mO)))
  (iR:W.nsIn K mainGlobals "MOST_NAMES"=some (some (.int 5 pQ)))
  (gR:W.nsIn K mainGlobals "MOST_PIECES"=some (some (.int 40 oN)))
  (gS:W.nsIn K mainGlobals "MOST_JUDGES"=some (some (.int 21 oO)))
  (fB:W.nsIn K mainGlobals "LONGEST_NAME"=some (some (.int 6 mP)))
  (dP:W.nsIn K mainGlobals "SMALL_LETTERS"=some (some (.str "abcdefghijklmnopqrstuvwxyz" kN)))
  (rE:W.nsIn K mainGlobals "WORDS"=some (some (.ref A4)))
  (Av:K.lookup A4=some ⟨.type "tuple",Bp,.seq #[.str "not" Bj,.str "and" Bi,.str "or" Bg,.str "if" Bf,.str "then" Be,.str "say" Bd,.str "judge" Bc] Bl,Bm⟩)
  (pJ:W.nsIn K mainGlobals "TRUTHS"=some (some (.ref nL)))
  (qZ:K.lookup nL=some ⟨.type "dict",none,.dict pK AC,#[]⟩) (qW:pK=#[⟨hashStr w "y",.str "y" A9,.bool true⟩,⟨hashStr w "n",.str "n" A8,.bool false⟩]) (qY:(nL==sysModules)=false)
  (dN:NoAttr K aG "place")
  (cX:NoAttr K aG "pieces")
  (gK:W.kitOne K (.ref aW) (.ref aQ)=some false)
  (cE:W.kitOne K (.ref aW) (.ref aJ)=some false)
  (gM:W.kitOne K (.ref aW) (.ref aR)=some false)
  (jU:W.kitOne K (.ref aW) (.ref aW)=some true)
  (gL:W.kitOne K (.ref aW) (.ref nN)=some false)
  (cQ:W.kitOne K (.ref aW) (.type "ValueError")=some true)
  (cP:W.mroIn K aW (.ref aO)=some true)
  (dO:W.mroIn K aQ (.ref aQ)=some true)
  (C7:W.nsIn K mainGlobals "len"=some none)
  (An:W.nsIn K mainGlobals "range"=some none)
  (Am:W.nsIn K mainGlobals "tuple"=some none)
  (AX:W.nsIn K mainGlobals "list"=some none)
  (qL:W.nsIn K mainGlobals "sorted"=some none)
  (C4:W.nsIn K mainGlobals "set"=some none)
  (kK:W.nsIn K mainGlobals "enumerate"=some none)
  (jS:W.nsIn K mainGlobals "isinstance"=some none)
  (AY:W.nsIn K mainGlobals "bool"=some none)
  (C8:W.nsIn K mainGlobals "int"=some none)
  (C3:W.nsIn K mainGlobals "str"=some none)
  (CA:W.nsIn K mainGlobals "all"=some none)
  (C9:W.nsIn K mainGlobals "any"=some none)
  (C2:W.nsIn K mainGlobals "sum"=some none)
  (C1:W.nsIn K mainGlobals "zip"=some none)
  (C5:W.nsIn K mainGlobals "min"=some none)
  (C6:W.nsIn K mainGlobals "max"=some none)
  (jT:W.nsIn K mainGlobals "ValueError"=some none) :
  ∃fd:FuncData,(∀(s:Shared)(v:Value),BindsTo s fd ⟨[v],[]⟩ [("_law_script",v)])/\∀base:Heap,K.In base->base.Ns mainGlobals mg->FnOk l.prog w K mg base CX0 136 fa fd ["_law_script"] (Yi K):=by
 have e:=hfa.symm.trans (xY X G DK);cases e;have rG:Def K mg "pieces_in" (top 8) ["saying"]:=zb X G a_8 l_8 c_8 k_8 λ_ _ _ _ _ _ us hl=>by obtain⟨_,e⟩:=vb hl;rw[e];rfl
 have pY:Def K mg "letters_in" (top 9) ["saying"]:=zb X G a_9 l_9 c_9 k_9 λ_ _ _ _ _ _ us hl=>by obtain⟨_,e⟩:=vb hl;rw[e];rfl
 have sV:Def K mg "names_in" (top 10) ["saying"]:=zb X G a_10 OS ZI QR λ_ _ _ _ _ _ us hl=>by obtain⟨_,e⟩:=vb hl;rw[e];rfl
 have Cs:Def K mg "is_so" (top 11) ["saying","held"]:=zb X G a_11 OR ZH QQ λ_ _ _ _ _ _ us hl=>by obtain⟨_,_,e⟩:=ux hl;rw[e];rfl
 have nP:Def K mg "ways_to_hold" (top 13) ["names"]:=zb X G a_13 OQ ZG QP λ_ _ _ _ _ _ us hl=>by obtain⟨_,e⟩:=vb hl;rw[e];rfl
 have AG:Def K mg "held_by" (top 14) ["number","names"]:=zb X G a_14 OP ZF QO λ_ _ _ _ _ _ us hl=>by obtain⟨_,_,e⟩:=ux hl;rw[e];rfl
 have nQ:Def K mg "names_of" (top 16) ["sayings"]:=zb X G a_16 OO ZE QN λ_ _ _ _ _ _ us hl=>by obtain⟨_,e⟩:=vb hl;rw[e];rfl
 have Ae:Def K mg "all_held" (top 17) ["sayings"]:=zb X G a_17 ON ZD QM λ_ _ _ _ _ _ us hl=>by obtain⟨_,e⟩:=vb hl;rw[e];rfl
 have BD:Def K mg "row_of" (top 18) ["sayings","held"]:=zb X G a_18 OM ZC QL λ_ _ _ _ _ _ us hl=>by obtain⟨_,_,e⟩:=ux hl;rw[e];rfl
 have Ad:Def K mg "fit_rows" (top 19) ["sayings"]:=zb X G a_19 OL ZB QK λ_ _ _ _ _ _ us hl=>by obtain⟨_,e⟩:=vb hl;rw[e];rfl
 have nS:Def K mg "check_bounds" (top 25) ["sayings","judges"]:=zb X G a_25 OK Y' QJ λ_ _ _ _ _ _ us hl=>by obtain⟨_,_,e⟩:=ux hl;rw[e];rfl
 have Ac:Def K mg "is_among" (top 26) ["rows","row"]:=zb X G a_26 OJ YZ QI λ_ _ _ _ _ _ us hl=>by obtain⟨_,_,e⟩:=ux hl;rw[e];rfl
 have qD:Def K mg "check_rows" (top 27) ["sayings","judges"]:=zb X G a_27 OI YY QH λ_ _ _ _ _ _ us hl=>by obtain⟨_,_,e⟩:=ux hl;rw[e];rfl
 have BC:Def K mg "seated" (top 28) ["sayings","judges"]:=zb X G a_28 OH YX QG λ_ _ _ _ _ _ us hl=>by obtain⟨_,_,e⟩:=ux hl;rw[e];rfl
 have qC:Def K mg "check_text" (top 35) ["text"]:=zb X G a_35 OG YW QF λ_ _ _ _ _ _ us hl=>by obtain⟨_,e⟩:=vb hl;rw[e];rfl
 have oU:Def K mg "read_saying" (top 36) ["text"]:=zb X G a_36 OF YV QE λ_ _ _ _ _ _ us hl=>by obtain⟨_,e⟩:=vb hl;rw[e];rfl
 have sU:Def K mg "read_row" (top 37) ["line","many"]:=zb X G a_37 OE YU QD λ_ _ _ _ _ _ us hl=>by obtain⟨_,_,e⟩:=ux hl;rw[e];rfl
 have Fj:Def K mg "read" (top 38) ["text"]:=zb X G a_38 OD YT QC λ_ _ _ _ _ _ us hl=>by obtain⟨_,e⟩:=vb hl;rw[e];rfl
 have Cq:Def K mg "shown" (top 40) ["saying"]:=zb X G a_40 OC YS QB λ_ _ _ _ _ _ us hl=>by obtain⟨_,e⟩:=vb hl;rw[e];rfl
 have oV:Def K mg "letters_for" (top 41) ["row"]:=zb X G a_41 OB YR QA λ_ _ _ _ _ _ us hl=>by obtain⟨_,e⟩:=vb hl;rw[e];rfl
 have AE:Def K mg "written" (top 42) ["sayings","judges"]:=zb X G a_42 OA YQ PZ λ_ _ _ _ _ _ us hl=>by obtain⟨_,_,e⟩:=ux hl;rw[e];rfl
 have Ab:Def K mg "_law_cell" (top 44) ["_law_script","_law_k"]:=zb X G a_44 NZ YO PY λ_ _ _ _ _ _ us hl=>by obtain⟨_,_,e⟩:=ux hl;rw[e];rfl
 have sY:Def K mg "_law_pick" (top 45) ["_law_script","_law_k","_law_many"]:=zb X G a_45 NY YN PX λ_ _ _ _ _ _ us hl=>by obtain⟨_,_,_,e⟩:=Pl hl;rw[e];rfl
 have sW:Def K mg "_law_same" (top 46) ["_law_found","_law_due"]:=zb X G a_46 NW YM PV λ_ _ _ _ _ _ us hl=>by obtain⟨_,_,e⟩:=ux hl;rw[e];rfl
 have sX:Def K mg "_law_safe" (top 47) ["_law_name"]:=zb X G a_47 NV YL PU λ_ _ _ _ _ _ us hl=>by obtain⟨_,e⟩:=vb hl;rw[e];rfl
 have rK:Def K mg "_law_names" (top 48) ["_law_script","_law_k","_law_many"]:=zb X G a_48 NU YK PQ λ_ _ _ _ _ _ us hl=>by obtain⟨_,_,_,e⟩:=Pl hl;rw[e];rfl
 have qA:Def K mg "_law_saying" (top 49) ["_law_script","_law_k","_law_room","_law_names_here"]:=zb X G a_49 NT YJ PP λ_ _ _ _ _ _ us hl=>by obtain⟨_,_,_,_,e⟩:=Ih hl;rw[e];rfl
 have BE:Def K mg "_law_so" (top 50) ["_law_saying_here","_law_held_here"]:=zb X G a_50 NS YI PN λ_ _ _ _ _ _ us hl=>by obtain⟨_,_,e⟩:=ux hl;rw[e];rfl
 have sZ:Def K mg "_law_held" (top 51) ["_law_number","_law_names_here"]:=zb X G a_51 NR YH PM λ_ _ _ _ _ _ us hl=>by obtain⟨_,_,e⟩:=ux hl;rw[e];rfl
 have pZ:Def K mg "_law_within" (top 52) ["_law_saying_here"]:=zb X G a_52 NQ YG PL λ_ _ _ _ _ _ us hl=>by obtain⟨_,e⟩:=vb hl;rw[e];rfl
 have lK:Def K mg "_law_all_names" (top 53) ["_law_sayings_here"]:=zb X G a_53 NP YF PK λ_ _ _ _ _ _ us hl=>by obtain⟨_,e⟩:=vb hl;rw[e];rfl
 have AF:Def K mg "_law_row" (top 54) ["_law_sayings_here","_law_held_here"]:=zb X G a_54 NO YE PJ λ_ _ _ _ _ _ us hl=>by obtain⟨_,_,e⟩:=ux hl;rw[e];rfl
 have nR:Def K mg "_law_fit_rows" (top 55) ["_law_sayings_here"]:=zb X G a_55 NN YD PH λ_ _ _ _ _ _ us hl=>by obtain⟨_,e⟩:=vb hl;rw[e];rfl
 have oX:Def K mg "_law_sayings" (top 56) ["_law_script","_law_k","_law_names_here"]:=zb X G a_56 NM YC PD λ_ _ _ _ _ _ us hl=>by obtain⟨_,_,_,e⟩:=Pl hl;rw[e];rfl
 have rJ:Def K mg "_law_seats" (top 57) ["_law_script","_law_k","_law_fit","_law_many"]:=zb X G a_57 NL YB PC λ_ _ _ _ _ _ us hl=>by obtain⟨_,_,_,_,e⟩:=Ih hl;rw[e];rfl
 have rH:Def K mg "_law_shown" (top 58) ["_law_saying_here"]:=zb X G a_58 NK YA PB λ_ _ _ _ _ _ us hl=>by obtain⟨_,e⟩:=vb hl;rw[e];rfl
 have oW:Def K mg "_law_written" (top 59) ["_law_sayings_here","_law_judges"]:=zb X G a_59 NJ X' OZ λ_ _ _ _ _ _ us hl=>by obtain⟨_,_,e⟩:=ux hl;rw[e];rfl
 have oY:Def K mg "_law_refused" (top 60) ["_law_text","_law_kind"]:=zb X G a_60 NI XZ OY λ_ _ _ _ _ _ us hl=>by obtain⟨_,_,e⟩:=ux hl;rw[e];rfl
 have qB:Def K mg "_law_pieces" (top 61) ["_law_saying_here"]:=zb X G a_61 NH XY OX λ_ _ _ _ _ _ us hl=>by obtain⟨_,e⟩:=vb hl;rw[e];rfl
 have jY:Def K mg "_law_saying_read" (top 62) ["_law_saying_here"]:=zb X G a_62 NG XX OW λ_ _ _ _ _ _ us hl=>by obtain⟨_,e⟩:=vb hl;rw[e];rfl
 have lI:Def K mg "_law_holds_for" (top 63) ["_law_script"]:=zb X G a_63 NF XW OV λ_ _ _ _ _ _ us hl=>by obtain⟨_,e⟩:=vb hl;rw[e];rfl
 have Aa:Def K mg "_law_free" (top 64) ["_law_script"]:=zb X G a_64 NE XV OU λ_ _ _ _ _ _ us hl=>by obtain⟨_,e⟩:=vb hl;rw[e];rfl
 have jE:=xY X G nK;have bH:Cls K aG:=⟨nJ,nI,nE,nD⟩
 have nV:DefN K aG "Reading.__init__" (za (top 34) 0) ["self","text"] []:=Pe iD gJ hX gF nF nH (.all λus hl=>by obtain⟨_,_,e⟩:=ux hl;rw[e];rfl) (.all λus hl=>by obtain⟨_,_,e⟩:=ux hl;rw[e];rfl);have kA:DefM K aG "is_next" "Reading.is_next" (za (top 34) 1) ["self","signs"]:=sd dI dC dG dE cZ bH λ_ _ _ _ _ _ us hl=>match us,hl with|[_,_],_=>rfl
 have nU:DefM K aG "skip" "Reading.skip" (za (top 34) 2) ["self","signs"]:=sd iC gI hU gN gE bH λ_ _ _ _ _ _ us hl=>match us,hl with|[_,_],_=>rfl
 have iJ:DefM K aG "take_name" "Reading.take_name" (za (top 34) 3) ["self"]:=sd cK cD cI cG cB bH λ_ _ _ _ _ _ us hl=>match us,hl with|[_],_=>rfl
 have jZ:DefM K aG "take_if" "Reading.take_if" (za (top 34) 4) ["self"]:=sd dH dB dF dD cY bH λ_ _ _ _ _ _ us hl=>match us,hl with|[_],_=>rfl
 have iI:DefM K aG "take_pair" "Reading.take_pair" (za (top 34) 5) ["self"]:=sd cJ cC cH cF cA bH λ_ _ _ _ _ _ us hl=>match us,hl with|[_],_=>rfl
 have fF:DefM K aG "take_saying" "Reading.take_saying" (za (top 34) 6) ["self"]:=sd bP bM bO bN bL bH λ_ _ _ _ _ _ us hl=>match us,hl with|[_],_=>rfl
 have cN:=xY X G pN;have mL:XCls K aR:=qt pE mD lZ lP lV lR lX mK mI mF;have oZ:DefI K aR "BadRow.__init__" (za (top 4) 0) ["self","number"]:=Pd iU iN iT iO iM mL λ_ _ _ _ _ _ us hl=>by obtain⟨_,_,e⟩:=ux hl;rw[e];rfl
 have dM:=xY X G iS;have dQ:XCls K aO:=qt iL fO fN fJ fL fK fM fS fR fQ;have aP:=xY X G gZ;have oM:XCls K aJ:=qt fH eU eS eO eQ eP eR eX eW eV;have aT:vt K aJ:=⟨oM,fP⟩
 have iG:=xY X G A3;have Bb:XCls K aW:=qt Ao qR qQ qM qO qN qP qU qT qS;have lN:vt K aW:=⟨Bb,Ap⟩
 have aF:=xY X G pL;have fT:XCls K aQ:=qt pD mC lY lO lU lQ lW mJ mH mE;have aC:vt K aQ:=⟨fT,pF⟩
 have kH:=xY X G pM;have bX:=xY X G fA;have dL:=xY X G iR;have aS:=xY X G gR;have cO:=xY X G gS;have bY:=xY X G fB;have bQ:=xY X G dP;have mW:=xY X G rE;have iF:=xY X G pJ;have aD:=yO X G C7;have aN:=yO X G An;have aB:=yO X G Am;have dA:=yO X G AX;have aM:=yO X G qL;have bB:=yO X G C4;have dX:=yO X G kK;have aA:=yO X G jS;have bG:=yO X G AY;have gH:=yO X G C8;have gG:=yO X G C3;have rU:=yO X G CA;have rT:=yO X G C9;have pS:=yO X G C2;have pR:=yO X G C1;have pT:=yO X G C5;have pU:=yO X G C6;have dJ:=yO X G jT;have F_law:=ez (st:=top 65) CD DH CF;refine⟨W.fnOf "law" "law" (zu (top 65)) (zw (top 65)) (z4 (top 65)) .none Bq B9 Bo BB sT BA,λs v=>.of_eq rfl,λbase _ _=>?_⟩;have BK:=Pz (P:=l.prog) (w:=w) (base:=base) Ab aD;have qE:=P4 sY BK;have Cy:=Tg rK qE (P6 sX) aD aN;have C_so:=cf (P:=l.prog) (w:=w) (base:=base) Cs 40;have pP:=Zm (P:=l.prog) (w:=w) (base:=base) sV (lm pY 40) aM bB aB;have AJ:=Zn nQ pP aM bB aB;have BH:=Wo nQ pP aM bB aB;have BJ:=Wj (P:=l.prog) (w:=w) (base:=base) AG aB;have AM:=Zi Ae AJ BJ (P8 nP) aN;have Cw:=Ti BD C_so aB;have C_fit:=Zl Ad AM Cw aM bB;have C_cb:=Jl nS (i4 (P:=l.prog) (w:=w) (base:=base) rG 130) BH aT aP bX dL aS cO aD rT;have C0:=S8 (P:=l.prog) (w:=w) (base:=base) Ac rU aA bG;have Fq:=Zk (P:=l.prog) (w:=w) (mg:=mg) (base:=base) oZ mL fU;have C_cr:=Jm qD C_fit C0 Fq cN mL dX;have nX:=Wq BC C_cb C_cr lN iG aD;have rc:RdC K aG:=⟨bH,eY,dN,cX⟩
 have rO:=Wk (P:=l.prog) (w:=w) (mg:=mg) (base:=base) kA rc;have Fm:=P7 nU rc rO aC aF aD;have Ct:=Tk (P:=l.prog) (w:=w) (mg:=mg) (base:=base) iJ rc aC aF bQ bY mW (Xa Av) aD;have Fk:=X0 jZ iI fF rc rO Fm Ct aC aF aS 41;have A7:=Tc (P:=l.prog) (w:=w) (base:=base) qC aC aF aA gG;have A6:=Th oU rc A7 (Wp nV rc) jE Fk aC aF aD;have C_row:=Mm (P:=l.prog) (w:=w) (base:=base) sU aC aF iF (eu qZ qW qY) aD aB;have jO:=P5 Fj A7 A6 C_row nX aC aF aD aB;have cM:=ck (P:=l.prog) (w:=w) (base:=base) Cq 40;have BI:=Xy (P:=l.prog) (w:=w) (base:=base) rH 60;have kJ:=Zq AE cM (fv oV);have Ag:=cj oW BI gH;have rL:=i5 (P:=l.prog) (w:=w) (base:=base) qA qE aD 40;have AH:=fw oX qE rL aN aB;have Cv:=Zp rJ BK aD aN aB;have Fp:=P3 (P:=l.prog) (w:=w) (base:=base) sZ aB;have FA:=ce (P:=l.prog) (w:=w) (base:=base) lK (i6 pZ 40) aM bB;have Fn:=Wm (P:=l.prog) (w:=w) (base:=base) AF (ci BE pT pU 40) aB;have Fo:=Wl nR FA Fn Fp aM bB aN;have BF:=Xz (P:=l.prog) (w:=w) (base:=base) sW aD aA aB dA bG gH gG pR 43;have ke:G6 K aO aQ aJ aR aW nN:=⟨Bb,cP,gK,cE,gM,jU,gL,cQ⟩
 have AI:=Zo oY jO dQ ke dM aP cN iG aF kH dJ aA;have Cu:=Tj jY BI (Tf qB pS 60) A6 BF cM fT dO aF;have Cz:=Te lI qE Cy rL Cu AH Fo Cv Ag kJ AI jO BF aD aA bG;exact Mj F_law Cz (P0 Aa aD aN dA)
theorem walk{l:W.OpenLaw}{q:Program}{pG:List Str}{XP:(Str->Option Value)->Heap->Prop}{YP:World->Heap->Prop}{d:DefRec}{K:Params->W.Frag}(hn:l.most=some 63)(TX:d.params.defaults=[])
  (hY:∀(w:World)(h:Heap),YP w h->(K w.params).In h)
  (F:∀(w:World)(mg:Str->Option Value)(fa:Addr)(h:Heap),(K w.params).In h->h.Ns mainGlobals mg->mg d.name=some (.ref fa) ->
   ∃fd:FuncData,(∀(s:Shared)(u:Value),BindsTo s fd ⟨[u],[]⟩ [("_law_script",u)])/\∀base:Heap,(K w.params).In base->base.Ns mainGlobals mg->FnOk l.prog w (K w.params) mg base CX0 136 fa fd ["_law_script"] (Yi (K w.params))) :
  W.WalkO q pG XP YP l.row.toRowW d [] (λf vs=>PySem.call f vs) :=
 L2.walk_of (n:=63) (k:=136) (x:="_law_script") (CX:=λ_=>CX0) (sp:=λw=>Yi (K w.params)) hn (by decide) TX ⟨rfl,by decide,by decide⟩ hY F (λ_ _ a ns hl _ hS=>⟨a,ns,rfl,hS,hl,λ_=>rfl⟩) λ_ _ _ _ _ z=>z
end Kx
open PySem PySem.W PyProof.Rows
set_option maxRecDepth 100000 in
set_option maxHeartbeats 0 in
theorem PySem.Challenge.cw_manyjudges_k61_whole_read_back_holds : PySem.Challenge.rw_manyjudges_k61_whole_read_back.Holds := by
 w_on;o_law;k_head;(case hw=>w_witness2)
 k_fill
 refine Kx.walk (l:=PySem.Challenge.rw_manyjudges_k61_whole_read_back) rfl rfl (λw h Y=>W.kIn_of Y) ?F
 case F =>
  intro w mg fa h KX G TF;refine' Kx.all_mk KX G TF ?a_8 ?l_8 ?c_8 ?k_8 ?a_9 ?l_9 ?c_9 ?k_9 ?a_10 ?OS ?ZI ?QR ?a_11 ?OR ?ZH ?QQ ?a_13 ?OQ ?ZG ?QP ?a_14 ?OP ?ZF ?QO ?a_16 ?OO ?ZE ?QN ?a_17 ?ON ?ZD ?QM ?a_18 ?OM ?ZC ?QL ?a_19 ?OL ?ZB ?QK ?a_25 ?OK ?Y' ?QJ ?a_26 ?OJ ?YZ ?QI ?a_27 ?OI ?YY ?QH ?a_28 ?OH ?YX ?QG ?a_35 ?OG ?YW ?QF ?a_36 ?OF ?YV ?QE ?a_37 ?OE ?YU ?QD ?a_38 ?OD ?YT ?QC ?a_40 ?OC ?YS ?QB ?a_41 ?OB ?YR ?QA ?a_42 ?OA ?YQ ?PZ ?a_44 ?NZ ?YO ?PY ?a_45 ?NY ?YN ?PX ?a_46 ?NW ?YM ?PV ?a_47 ?NV ?YL ?PU ?a_48 ?NU ?YK ?PQ ?a_49 ?NT ?YJ ?PP ?a_50 ?NS ?YI ?PN ?a_51 ?NR ?YH ?PM ?a_52 ?NQ ?YG ?PL ?a_53 ?NP ?YF ?PK ?a_54 ?NO ?YE ?PJ ?a_55 ?NN ?YD ?PH ?a_56 ?NM ?YC ?PD ?a_57 ?NL ?YB ?PC ?a_58 ?NK ?YA ?PB ?a_59 ?NJ ?X' ?OZ ?a_60 ?NI ?XZ ?OY ?a_61 ?NH ?XY ?OX ?a_62 ?NG ?XX ?OW ?a_63 ?NF ?XW ?OV ?a_64 ?NE ?XV ?OU ?DK ?CD ?DH ?CF ?nK ?nF ?nH ?nJ ?nI ?nE ?nD ?iD ?gJ ?hX ?gF ?eY ?dI ?dC ?dG ?dE ?cZ ?iC ?gI ?hU ?gN ?gE ?cK ?cD ?cI ?cG ?cB ?dH ?dB ?dF ?dD ?cY ?cJ ?cC ?cH ?cF ?cA ?bP ?bM ?bO ?bN ?bL ?pN ?pE ?mD ?lZ ?lP ?lV ?lR ?lX ?mK ?mI ?mF ?iU ?iN ?iT ?iO ?iM ?fU ?mU ?iS ?iL ?fO ?fN ?fJ ?fL ?fK ?fM ?fS ?fR ?fQ ?gZ ?fH ?eU ?eS ?eO ?eQ ?eP ?eR ?eX ?eW ?eV ?fP ?A3 ?Ao ?qR ?qQ ?qM ?qO ?qN ?qP ?qU ?qT ?qS ?Ap ?pL ?pD ?mC ?lY ?lO ?lU ?lQ ?lW ?mJ ?mH ?mE ?pF ?pM ?fA ?iR ?gR ?gS ?fB ?dP ?rE ?Av ?pJ ?qZ ?qW ?qY ?dN ?cX ?gK ?cE ?gM ?jU ?gL ?cQ ?cP ?dO ?C7 ?An ?Am ?AX ?qL ?C4 ?kK ?jS ?AY ?C8 ?C3 ?CA ?C9 ?C2 ?C1 ?C5 ?C6 ?jT
  (case a_8=>k_is);(case l_8=>k_is);(case c_8=>k_is);(case k_8=>k_is)
  (case a_9=>k_is);(case l_9=>k_is);(case c_9=>k_is);(case k_9=>k_is)
  (case a_10=>k_is);(case OS=>k_is);(case ZI=>k_is);(case QR=>k_is)
  (case a_11=>k_is);(case OR=>k_is);(case ZH=>k_is);(case QQ=>k_is)
  (case a_13=>k_is);(case OQ=>k_is);(case ZG=>k_is);(case QP=>k_is)
  (case a_14=>k_is);(case OP=>k_is);(case ZF=>k_is);(case QO=>k_is)
  (case a_16=>k_is);(case OO=>k_is);(case ZE=>k_is);(case QN=>k_is)
  (case a_17=>k_is);(case ON=>k_is);(case ZD=>k_is);(case QM=>k_is)
  (case a_18=>k_is);(case OM=>k_is);(case ZC=>k_is);(case QL=>k_is)
  (case a_19=>k_is);(case OL=>k_is);(case ZB=>k_is);(case QK=>k_is)
  (case a_25=>k_is);(case OK=>k_is);(case Y'=>k_is);(case QJ=>k_is)
  (case a_26=>k_is);(case OJ=>k_is);(case YZ=>k_is);(case QI=>k_is)
  (case a_27=>k_is);(case OI=>k_is);(case YY=>k_is);(case QH=>k_is)
  (case a_28=>k_is);(case OH=>k_is);(case YX=>k_is);(case QG=>k_is)
  (case a_35=>k_is);(case OG=>k_is);(case YW=>k_is);(case QF=>k_is)
  (case a_36=>k_is);(case OF=>k_is);(case YV=>k_is);(case QE=>k_is)
  (case a_37=>k_is);(case OE=>k_is);(case YU=>k_is);(case QD=>k_is)
  (case a_38=>k_is);(case OD=>k_is);(case YT=>k_is);(case QC=>k_is)
  (case a_40=>k_is);(case OC=>k_is);(case YS=>k_is);(case QB=>k_is)
  (case a_41=>k_is);(case OB=>k_is);(case YR=>k_is);(case QA=>k_is)
  (case a_42=>k_is);(case OA=>k_is);(case YQ=>k_is);(case PZ=>k_is)
  (case a_44=>k_is);(case NZ=>k_is);(case YO=>k_is);(case PY=>k_is)
  (case a_45=>k_is);(case NY=>k_is);(case YN=>k_is);(case PX=>k_is)
  (case a_46=>k_is);(case NW=>k_is);(case YM=>k_is);(case PV=>k_is)
  (case a_47=>k_is);(case NV=>k_is);(case YL=>k_is);(case PU=>k_is)
  (case a_48=>k_is);(case NU=>k_is);(case YK=>k_is);(case PQ=>k_is)
  (case a_49=>k_is);(case NT=>k_is);(case YJ=>k_is);(case PP=>k_is)
  (case a_50=>k_is);(case NS=>k_is);(case YI=>k_is);(case PN=>k_is)
  (case a_51=>k_is);(case NR=>k_is);(case YH=>k_is);(case PM=>k_is)
  (case a_52=>k_is);(case NQ=>k_is);(case YG=>k_is);(case PL=>k_is)
  (case a_53=>k_is);(case NP=>k_is);(case YF=>k_is);(case PK=>k_is)
  (case a_54=>k_is);(case NO=>k_is);(case YE=>k_is);(case PJ=>k_is)
  (case a_55=>k_is);(case NN=>k_is);(case YD=>k_is);(case PH=>k_is)
  (case a_56=>k_is);(case NM=>k_is);(case YC=>k_is);(case PD=>k_is)
  (case a_57=>k_is);(case NL=>k_is);(case YB=>k_is);(case PC=>k_is)
  (case a_58=>k_is);(case NK=>k_is);(case YA=>k_is);(case PB=>k_is)
  (case a_59=>k_is);(case NJ=>k_is);(case X'=>k_is);(case OZ=>k_is)
  (case a_60=>k_is);(case NI=>k_is);(case XZ=>k_is);(case OY=>k_is)
  (case a_61=>k_is);(case NH=>k_is);(case XY=>k_is);(case OX=>k_is)
  (case a_62=>k_is);(case NG=>k_is);(case XX=>k_is);(case OW=>k_is)
  (case a_63=>k_is);(case NF=>k_is);(case XW=>k_is);(case OV=>k_is)
  (case a_64=>k_is);(case NE=>k_is);(case XV=>k_is);(case OU=>k_is)
  (case DK=>k_is);(case CD=>k_is);(case DH=>k_is);(case CF=>k_is)
  (case nK=>k_is);(case nF=>k_is);(case nH=>k_is);(case nJ=>k_is);(case nI=>k_is);(case nE=>k_is);(case nD=>k_is)
  (case iD=>k_is);(case gJ=>k_is);(case hX=>k_is);(case gF=>k_is);(case eY=>(show W.findIn _ _ _=_;k_is))
  (case dI=>k_is);(case dC=>k_is);(case dG=>k_is);(case dE=>k_is);(case cZ=>k_is)
  (case iC=>k_is);(case gI=>k_is);(case hU=>k_is);(case gN=>k_is);(case gE=>k_is)
  (case cK=>k_is);(case cD=>k_is);(case cI=>k_is);(case cG=>k_is);(case cB=>k_is)
  (case dH=>k_is);(case dB=>k_is);(case dF=>k_is);(case dD=>k_is);(case cY=>k_is)
  (case cJ=>k_is);(case cC=>k_is);(case cH=>k_is);(case cF=>k_is);(case cA=>k_is)
  (case bP=>k_is);(case bM=>k_is);(case bO=>k_is);(case bN=>k_is);(case bL=>k_is)
  (case pN=>k_is)
  (case pE=>kernel_rfl);(case mD=>k_is);(case lZ=>k_is);(case lP=>k_is);(case lV=>k_is);(case lR=>k_is);(case lX=>k_is);(case mK=>k_is);(case mI=>k_is);(case mF=>k_is)
  (case iU=>k_is);(case iN=>k_is);(case iT=>k_is);(case iO=>k_is);(case iM=>k_is);(case fU=>k_is);(case mU=>(show W.findIn _ _ _=_;k_is))
  (case iS=>k_is)
  (case iL=>kernel_rfl);(case fO=>k_is);(case fN=>k_is);(case fJ=>k_is);(case fL=>k_is);(case fK=>k_is);(case fM=>k_is);(case fS=>k_is);(case fR=>k_is);(case fQ=>k_is)
  (case gZ=>k_is)
  (case fH=>kernel_rfl);(case eU=>k_is);(case eS=>k_is);(case eO=>k_is);(case eQ=>k_is);(case eP=>k_is);(case eR=>k_is);(case eX=>k_is);(case eW=>k_is);(case eV=>k_is)
  (case fP=>kernel_rfl)
  (case A3=>k_is)
  (case Ao=>kernel_rfl);(case qR=>k_is);(case qQ=>k_is);(case qM=>k_is);(case qO=>k_is);(case qN=>k_is);(case qP=>k_is);(case qU=>k_is);(case qT=>k_is);(case qS=>k_is)
  (case Ap=>kernel_rfl)
  (case pL=>k_is)
  (case pD=>kernel_rfl);(case mC=>k_is);(case lY=>k_is);(case lO=>k_is);(case lU=>k_is);(case lQ=>k_is);(case lW=>k_is);(case mJ=>k_is);(case mH=>k_is);(case mE=>k_is)
  (case pF=>kernel_rfl)
  (case pM=>k_is)
  (case fA=>k_is)
  (case iR=>k_is)
  (case gR=>k_is)
  (case gS=>k_is)
  (case fB=>k_is)
  (case dP=>k_is)
  (case rE=>k_is)
  (case Av=>k_is)
  (case pJ=>k_is)
  (case qZ=>k_is);(case qW=>rfl);(case qY=>rfl)
  (case dN=>(show W.findIn _ _ _=_;k_is))
  (case cX=>(show W.findIn _ _ _=_;k_is))
  (case gK=>kernel_rfl)
  (case cE=>kernel_rfl)
  (case gM=>kernel_rfl)
  (case jU=>kernel_rfl)
  (case gL=>kernel_rfl)
  (case cQ=>kernel_rfl)
  (case cP=>k_is)
  (case dO=>k_is)
  (case C7=>k_is)
  (case An=>k_is)
  (case Am=>k_is)
  (case AX=>k_is)
  (case qL=>k_is)
  (case C4=>k_is)
  (case kK=>k_is)
  (case jS=>k_is)
  (case AY=>k_is)
  (case C8=>k_is)
  (case C3=>k_is)
  (case CA=>k_is)
  (case C9=>k_is)
  (case C2=>k_is)
  (case C1=>k_is)
  (case C5=>k_is)
  (case C6=>k_is)
  (case jT=>k_is)
#print axioms PySem.Challenge.cw_manyjudges_k61_whole_read_back_holds
