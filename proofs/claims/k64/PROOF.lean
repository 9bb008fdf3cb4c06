import PyProof.Rows.All
import Wide.All
import OpenK.AllK
import Wide.FinOn
import Lean
import PyProof.EqAt
import PyProof.EqKinds
import PyProof.TupleCall
import PySem.Challenge.RW_manyjudges_k64_reports
set_option compiler.extract_closed false
set_option genSizeOfSpec false
set_option Elab.async false
set_option linter.all false
set_option maxRecDepth 100000
namespace PySem.W.Fast
theorem tw13511000000189352624:True:=trivial
theorem tw1763626346953098413:True:=trivial
theorem tw764099973674924043:True:=trivial
theorem tw1846080023571368866:True:=trivial
theorem tw14241574730546246146:True:=trivial
theorem tw1940255274035536608:True:=trivial
theorem tw3055383607131062824:True:=trivial
theorem tw4038495100903500590:True:=trivial
theorem tw10339515945709468489:True:=trivial
theorem tw7202488656660219734:True:=trivial
theorem tw10354323636917777889:True:=trivial
theorem tw8205873560919782754:True:=trivial
theorem tw12795748905982095607:True:=trivial
theorem tw18274883151856840405:True:=trivial
theorem tw14457984869884458268:True:=trivial
theorem tw18415838392281712431:True:=trivial
theorem tw5438210292948552322:True:=trivial
theorem tw14347538297226592876:True:=trivial
theorem tw12451583262434902521:True:=trivial
theorem tw1210268286439215585:True:=trivial
theorem tw15632741602780387693:True:=trivial
theorem tw7343688373883912856:True:=trivial
theorem tw13971045387201227537:True:=trivial
theorem tw5287346215022495461:True:=trivial
theorem tw6926461463006476362:True:=trivial
theorem tw5808212984167417214:True:=trivial
theorem tw9968683243606812009:True:=trivial
theorem tw13571790465369631899:True:=trivial
theorem tw4610262707464813882:True:=trivial
theorem tw8056683955530210667:True:=trivial
theorem tw3976900442858960780:True:=trivial
theorem tw6383777265563826626:True:=trivial
theorem tw12079041984419535935:True:=trivial
theorem tw14665872644630973592:True:=trivial
theorem tw15474660471307028376:True:=trivial
theorem tw2899011720673484137:True:=trivial
theorem tw6874149987357522543:True:=trivial
theorem tw9040456661310109333:True:=trivial
theorem tw14111335159412852906:True:=trivial
theorem tw659755951425560099:True:=trivial
theorem tw2759127743418611791:True:=trivial
theorem tw16014146123824527512:True:=trivial
theorem tw11758857372476040896:True:=trivial
theorem tw4643344576754192420:True:=trivial
theorem tw14579249061006778547:True:=trivial
theorem tw8162142887814774967:True:=trivial
theorem tw12746575019164564453:True:=trivial
theorem tw8214952496398563367:True:=trivial
theorem tw7765423968391079604:True:=trivial
theorem tw12734538351690274951:True:=trivial
theorem tw1393075025369332576:True:=trivial
theorem tw13716750724926626907:True:=trivial
theorem tw6353899319748429078:True:=trivial
theorem tw2507444050621397877:True:=trivial
theorem tw4551136643794947820:True:=trivial
theorem tw17648083505636761706:True:=trivial
theorem tw2369514151734010161:True:=trivial
theorem tw9151125423882797613:True:=trivial
theorem tw16221378627753009057:True:=trivial
theorem tw5884189259143325005:True:=trivial
theorem tw15323909531961432541:True:=trivial
theorem tw451983324962070877:True:=trivial
theorem tw15365440636885193637:True:=trivial
theorem tw4471601653968741904:True:=trivial
theorem tw9913132614671500241:True:=trivial
theorem tw14160556157263189515:True:=trivial
theorem tw4890201550821283808:True:=trivial
theorem tw16049854645200927513:True:=trivial
theorem tw16062127122049333019:True:=trivial
theorem tw14502767097048760989:True:=trivial
theorem tw6363143301569798193:True:=trivial
theorem tw1873494306687705553:True:=trivial
theorem tw8165563841092670971:True:=trivial
theorem tw18137272215903777011:True:=trivial
theorem tw6125972746441151507:True:=trivial
theorem tw14876178813330221637:True:=trivial
theorem tw18029726518146844559:True:=trivial
theorem tw3087060127897242755:True:=trivial
theorem tw530026937729235692:True:=trivial
theorem tw18295188960240601473:True:=trivial
theorem tw6707824712549071674:True:=trivial
theorem tw11665152954860714774:True:=trivial
theorem tw10387802421420216608:True:=trivial
theorem tw11617844240485856448:True:=trivial
theorem tw16904732176015412337:True:=trivial
theorem tw12561275919433562340:True:=trivial
theorem tw10614982541320353189:True:=trivial
theorem tw13824005956955073902:True:=trivial
theorem tw7540271288889317306:True:=trivial
theorem tw18068720386993493095:True:=trivial
theorem tw15165044448829484608:True:=trivial
theorem tw7916739682170468095:True:=trivial
theorem tw4159645645163471009:True:=trivial
theorem tw10280674117940513743:True:=trivial
theorem tw9556875826100628559:True:=trivial
theorem tw706015391448551353:True:=trivial
theorem tw11937538661884098163:True:=trivial
theorem tw14095905590697675986:True:=trivial
theorem tw7491637342501899593:True:=trivial
theorem tw2446454922541265225:True:=trivial
theorem tw2683711114446361455:True:=trivial
theorem tw17231065290753498058:True:=trivial
theorem tw3079551632384126808:True:=trivial
theorem tw11515839199596413206:True:=trivial
theorem tw10106796938721989060:True:=trivial
theorem tw15491776984647965589:True:=trivial
theorem tw17124077484101392125:True:=trivial
theorem tw6049726382288139844:True:=trivial
theorem tw15613494262010573671:True:=trivial
theorem tw13385042151935618129:True:=trivial
theorem tw11204166565224950768:True:=trivial
theorem tw9333963213435887052:True:=trivial
theorem tw8574527793367808033:True:=trivial
theorem tw10757005432126324651:True:=trivial
theorem tw5415532163129567224:True:=trivial
theorem tw13862313427466570778:True:=trivial
theorem tw14929712581328956462:True:=trivial
theorem tw2047400520500518085:True:=trivial
theorem tw6658951389327330094:True:=trivial
theorem tw940147604553831452:True:=trivial
theorem tw1768566961714972036:True:=trivial
theorem tw6254732246071962830:True:=trivial
theorem tw15668699430752295954:True:=trivial
theorem tw5746873168131968117:True:=trivial
theorem tw1549051667347577793:True:=trivial
theorem tw4432370172990034493:True:=trivial
theorem tw7047801511060276899:True:=trivial
theorem tw6876585657851340708:True:=trivial
theorem tw8528691666891121081:True:=trivial
theorem tw9256847651868747437:True:=trivial
theorem tw780178551622238259:True:=trivial
theorem tw14980241225368047643:True:=trivial
theorem tw17740420305489582543:True:=trivial
theorem tw6639866614988813622:True:=trivial
theorem tw1822583022497729829:True:=trivial
theorem tw16129048793807033497:True:=trivial
theorem tw13711425779870338294:True:=trivial
theorem tw1923577206453488327:True:=trivial
theorem tw17458979257852454538:True:=trivial
theorem tw10671534009649468193:True:=trivial
end PySem.W.Fast
section
open PySem
def zZ:=@PySem.wpAny_bind
def zY:=@List.length_map
def zX:=@PySem.Heap.get?_push_of_some
def zW:=@List.getElem?_eq_some_iff
def zV:=@PySem.wpAny_pure
def zU:=@Nat.le_refl
def zT:=@List.getElem?_map
def zS:=@List.getElem?_eq_getElem
def zR:=@PySem.Heap.get?_push_size
def zQ:=@PySem.Heap.lt_size
def zP:=@List.length_append
def zO:=@List.mem_singleton
def zN:=@List.mem_of_getElem?
def zM:=@PySem.sizeLine_eq
def zL:=@List.size_toArray
def zK:=@List.mem_append
def zJ:=@List.map_append
def zI:=@List.mem_cons
def zH:=@List.mem_cons_of_mem
def zG:=@List.mem_cons_self
def zF:=@Nat.ne_of_lt
def zE:=@Bool.false_ne_true
def zD:=@List.mem_map
def zC:=@if_neg
def zB:=@List.take_length
def zA:=@Nat.lt_of_lt_of_le
def yZ:=@List.getD_eq_getElem?_getD
def yY:=@List.take_add_one
def yX:=@Option.some.inj
def yW:=@Int.toNat_natCast
def yV:=@if_pos
def yU:=@decide_eq_true
def yT:=@Nat.le_trans
def yS:=@List.length_take
def yR:=@Nat.zero_le
def yQ:=@of_decide_eq_true
def yP:=@List.mem_append_right
def yO:=@decide_eq_false
def yN:=@PySem.Heap.get?_update_other
def yM:=@PySem.PassesOwn.never
def yL:=@List.length_cons
def yK:=@List.getElem?_append_left
def yJ:=@Bool.and_eq_true
def yI:=@List.getElem?_append_right
def yH:=@List.mem_range
def yG:=@List.mem_map_of_mem
def yF:=@List.map_map
def yE:=@List.pairwise_iff_getElem
def yD:=@List.any_eq_true
def yC:=@W.mg_none_of
def yB:=@Nat.lt_succ_self
def yA:=@List.all_eq_true
def xZ:=@PySem.wpAny_newObj_type
def xY:=@List.length_range
def xX:=@PySem.Heap.size_push
def xW:=@Nat.le_of_lt
def xV:=@PySem.wpAny_call_entry
def xU:=@PyProof.Rows.callWith_type1
def xT:=@PySem.wpAny_mono
def xS:=@PySem.wpAny_holding
def xR:=@PySem.lookup_relabel_local
def xQ:=@PySem.wpAny_callSpecial?_slot
def xP:=@List.mem_filter
def xO:=@List.mem_append_left
def xN:=@PySem.Around.under_plainId
def xM:=@List.pairwise_cons
def xL:=@List.getElem?_eq_none
def xK:=@congrArg
def xJ:=@Classical.byContradiction
def xI:=@Nat.lt_succ_of_lt
def xH:=@PyProof.Rows.slot_tuple_getitem
def xG:=@PySem.Heap.get?_update_self
def xF:=@List.length_singleton
def xE:=@List.length_filter_le
def xD:=@Array.length_toList
def xC:=@PySem.mem_of_lookup
def xB:=@W.kia_one
def xA:=@PySem.wpAny_setState_of
def wZ:=@List.mem_of_mem_take
def wY:=@List.take_of_length_le
def wX:=@Nat.ne_of_gt
def wW:=@List.length_nil
def wV:=@PySem.codeAny_builtin
def wU:=@Ne.symm
def wT:=@F.slot_list_append
def wS:=@F.type_list_append
def wR:=@List.length_drop
def wQ:=@List.filter_cons
def wP:=@Nat.le_add_right
def wO:=@List.filterMap_cons
def wN:=@PySem.wpAny_field
def wM:=@List.append_assoc
def wL:=@PySem.wpAny_Call_Name_kw
def wK:=@List.nodup_cons
def wJ:=@Int.zero_add
def wI:=@PySem.wpAny_seqItems
def wH:=@F.called_set
def wG:=@PySem.wpAny_setField_rec
def wF:=@List.filter_append
def wE:=@List.length_eq_zero_iff
def wD:=@F.plain_list_iadd
def wC:=@Array.toList_inj
def wB:=@List.pairwise_map
def wA:=@beq_eq_false_iff_ne
def vZ:=@List.getElem_of_mem
def vY:=@List.range_succ
def vX:=@PyProof.Rows.KeyOrd.kle_refl
def vW:=@Array.getElem?_toList
def vV:=@PySem.wpAny_typeNameOfWhole_itemiter
def vU:=@PySem.wpAny_pyIter_tuple
def vT:=@Nat.lt_irrefl
def vS:=@PySem.plainId_quiet
def vR:=@F.slot_dict_itemiterator_next
def vQ:=@Nat.le_succ
def vP:=@Calls.spliced_nil
def vO:=@PySem.wpAny_truthy_bool
def vN:=@PySem.wpAny_loadPart'
def vM:=@PyProof.Rows.F.plain_set_update_loop
def vL:=@Array.toList_append
def vK:=@Nat.le_of_eq
def vJ:=@List.getElem_mem
def vI:=@List.nodup_range
def vH:=@List.ext_getElem
def vG:=@List.not_mem_nil
def vF:=@List.perm_ext_iff_of_nodup
def vE:=@F.slot_tuple_iterator_next
def vD:=@Calls.spliced_cons
def vC:=@Int.emod_lt_of_pos
def vB:=@F.plain_extend_loop
def vA:=@PySem.wpAny_typeNameOf_itemiter
def uZ:=@List.foldl_cons
def uY:=@PySem.wpAny_typeOf
def uX:=@Option.isSome_iff_exists
def uW:=@List.getElem?_take_of_lt
def uV:=@List.Pairwise.imp_of_mem
def uU:=@PyProof.Rows.listUpdate_at
def uT:=@PySem.Heap.SameBut.update
def uS:=@PyProof.Rows.callWith_builtin1
def uR:=@PySem.wpAny_askSetting
def uQ:=@beq_self_eq_true
def uP:=@PySem.wpAny_Call_method_late
def uO:=@Calls.callWith_builtin
def uN:=@PySem.codeAny_mono
def uM:=@beq_iff_eq
def uL:=@List.find?_cons
def uK:=@Int.emod_nonneg
def uJ:=@PySem.wpAny_ite_split
def uI:=@PySem.wpAny_updateSeq
def uH:=@PyProof.Rows.get?_update_seq
def uG:=@List.filter_nil
def uF:=@W.mg_of
def uE:=@PySem.wpAny_attempt
def uD:=@F.slot_zip_next
def uC:=@F.plain_proto_collect
def uB:=@List.take_sublist
def uA:=@PySem.wpAny_pyIter_list
def tZ:=@PySem.SeqAt.EqAt.bool_bool
def tY:=@Calls.evalArgs_plain
def tX:=@List.mem_of_mem_drop
def tW:=@Bool.and_false
def tV:=@PySem.typeIs_str
def tU:=@PySem.wpAny_rule
def tT:=@PySem.wpAny_isInstance
def tS:=@PyProof.Rows.KeyOrd.kle_trans
def tR:=@PySem.Heap.size_update
def tQ:=@List.getElem?_eq_none_iff
def tP:=@List.map_congr_left
def tN:=@Bool.or_eq_true_iff
def tM:=@List.filter_eq_self
def tL:=@F.args_tuple_add_2
def tK:=@F.slot_list_extend
def tJ:=@PySem.wpAny_newList
def tH:=@PySem.wpAny_passesOwn
def tG:=@Bool.eq_iff_iff
def tF:=@PyProof.Rows.entry_list_sort
def tE:=@List.mem_filterMap
def tD:=@PySem.SeqAt.EqAt.int_int
def tB:=@Array.forIn_toList
def sZ:=@of_decide_eq_false
def sY:=@Nat.not_lt
def sX:=@F.entry_tuple_add
def sW:=@List.pairwise_singleton
def sV:=@F.slot_tuple_add
def sU:=@List.length_pos_of_mem
def sT:=@Array.getElem?_eq_none
def sS:=@PySem.wpAny_isOneOf_itemiter
def sR:=@F.plainAttrs_str
def sQ:=@List.filter_eq_nil_iff
def sP:=@List.ext_getElem?
def sO:=@PyProof.Rows.KeyOrd.kle_of_klt
def sM:=@Bool.eq_false_iff
def sL:=@PySem.isSubtype_type
def sK:=@PySem.wpAny_newTuple
def sJ:=@PyProof.Rows.slot_list_sort
def sI:=@PySem.Str.cps_append
def sH:=@Nat.succ_pos
def sG:=@List.lookup_cons
def sF:=@List.drop_length
def sE:=@PySem.wpAny_pyIter_zip
def sD:=@PySem.call_meets
def sC:=@List.any_cons
def sB:=@Nat.lt_trans
def sA:=@PySem.Txt.slice_le
def rZ:=@Nat.zero_add
def rY:=@PyProof.Rows.listItems_at
def rX:=@Nat.sub_self
def rW:=@Nat.succ.inj
def rV:=@PySem.wpAny_load
end
namespace L2
open PySem PySem.Spec PyProof.Rows
abbrev Key:=Sum Int Str
def j6:Key->Value->Bool
 | .inl k,v=>Value.isInt k v
 | .inr x,v=>Value.isStrOf x v
def Fa(w:World):Key->Int
 | .inl k=>hashInt k
 | .inr x=>hashStr w x
theorem ya:∀{k:Key}{v:Value},j6 k v=true->(∃i t,k=Sum.inl i/\v=Value.int i t)\/(∃x t,k=Sum.inr x/\v=Value.str x t)
 | .inl i,v,h=>by
  obtain⟨t,e⟩:=Value.isInt_shape (k:=i) (v:=v) h;exact .inl ⟨i,t,rfl,e⟩
 | .inr x,v,h=>by
  obtain⟨t,e⟩:=Value.isStrOf_shape (x:=x) (v:=v) h;exact .inr ⟨x,t,rfl,e⟩
theorem Tv(i:Int)(t:Tok):j6 (.inl i) (.int i t)=true:=by simp[j6,Value.isInt]
theorem Tw(x:Str)(t:Tok):j6 (.inr x) (.str x t)=true:=by simp[j6,Value.isStrOf]
theorem Jl(a b:Int):decide ((Sum.inl a:Key)=Sum.inl b)=(a==b):=by
 by_cases e:a=b
 ·subst e;simp
 ·have h:¬(Sum.inl a:Key)=Sum.inl b:=λq=>e (Sum.inl.inj q);rw[yO h];exact(wA.mpr e).symm
theorem Jo(a b:Str):decide ((Sum.inr a:Key)=Sum.inr b)=decide (a=b):=by
 by_cases e:a=b
 ·subst e;simp
 ·have h:¬(Sum.inr a:Key)=Sum.inr b:=λq=>e (Sum.inr.inj q);rw[yO h,yO e]
theorem Jm(a:Int)(b:Str):decide ((Sum.inl a:Key)=Sum.inr b)=false:=yO (λq=>nomatch q)
theorem Jn(a:Str)(b:Int):decide ((Sum.inr a:Key)=Sum.inl b)=false:=yO (λq=>nomatch q)
def xj(prog:Program)(w:World):PySem.KeyKind prog w Key where
 is:=j6
 hash:=Fa w
 inj:=λv a b ha hb=>by
  rcases ya ha with⟨i,t,rfl,rfl⟩|⟨x,t,rfl,rfl⟩
  ·rcases ya hb with⟨j,u,rfl,e⟩|⟨y,u,rfl,e⟩
   ·injection e with e1 _;rw[e1]
   ·exact nomatch e
  ·rcases ya hb with⟨j,u,rfl,e⟩|⟨y,u,rfl,e⟩
   ·exact nomatch e
   ·injection e with e1 _;rw[e1]
 byValue:=λk v h=>by
  rcases ya h with⟨i,t,rfl,rfl⟩|⟨x,t,rfl,rfl⟩<;>rfl
 pyHash:=λhv h=>by
  rcases ya hv with⟨i,t,rfl,rfl⟩|⟨x,t,rfl,rfl⟩
  ·exact wpAny_pyHash_int h
  ·exact wpAny_pyHash_str h
 eqBool:=λhu hv h=>by
  rcases ya hu with⟨i,t,rfl,rfl⟩|⟨x,t,rfl,rfl⟩
  ·rcases ya hv with⟨j,u,rfl,rfl⟩|⟨y,u,rfl,rfl⟩
   ·rw[Jl]at h;exact wpAny_eqBool_int h
   ·rw[Jm]at h;exact SeqAt.EqAt.int_str i t y u _ _ _ _ h
  ·rcases ya hv with⟨j,u,rfl,rfl⟩|⟨y,u,rfl,rfl⟩
   ·rw[Jn]at h;exact SeqAt.EqAt.str_int x t j u _ _ _ _ h
   ·rw[Jo]at h;exact wpAny_eqBool_str h
 «strs»:=λk x t v h=>by
  rcases ya h with⟨i,u,rfl,e⟩|⟨y,u,rfl,e⟩
  ·exact nomatch e
  ·injection e with e1 _;subst e1;cases v<;>rfl
theorem Z6(prog:Program)(w:World)(i:Int)(t:Tok):(xj prog w).is (.inl i) (.int i t)=true:=Tv i t
theorem Z7(prog:Program)(w:World)(x:Str)(t:Tok):(xj prog w).is (.inr x) (.str x t)=true:=Tw x t
end L2
namespace L2
open PySem PySem.Spec PyProof.Rows
inductive V where
 |non|bl (b:Bool)|int (i:Int)|str (x:Str)|byt (b:Array UInt8)|flt (b:UInt64)|ref (a:Addr)|ty (n:String)
 deriving DecidableEq
def RelV:V->Value->Prop
 | .non,u=>u=Value.none
 | .bl b,u=>u=Value.bool b
 | .int i,u=>∃t,u=Value.int i t
 | .str x,u=>∃t,u=Value.str x t
 | .byt b,u=>∃t,u=Value.bytes b t
 | .flt b,u=>∃t,u=Value.float b t
 | .ref a,u=>u=Value.ref a
 | .ty n,u=>u=Value.type n
abbrev Vals:List V->List Value->Prop:=Paired RelV
theorem Vals.length{xs:List V}{us:List Value}(r:Vals xs us):xs.length=us.length:=Paired.length r
theorem Vals.get:∀{xs:List V}{us:List Value}{i:Nat}{x:V},Vals xs us->xs[i]?=some x->∃u,us[i]?=some u/\RelV x u
 |_,_,_,_,.nil,e=>by simp at e
 |_,_,0,_,.cons r _,e=>by simp at e;subst e;exact⟨_,rfl,r⟩
 |_,_,i+1,x,.cons _ t,e=>by
  obtain⟨u,h1,h2⟩:=Vals.get (i:=i) (x:=x) t (by simpa using e);exact⟨u,by simpa using h1,h2⟩
theorem Vals.set{x:V}{u:Value}(r:RelV x u):∀{xs:List V}{us:List Value}(i:Nat),Vals xs us->Vals (xs.set i x) (us.set i u)
 |_,_,_,.nil=>.nil
 |_,_,0,.cons _ t=>.cons r t
 |_,_,i+1,.cons q t=>.cons q (Vals.set r i t)
theorem Vals.append:∀{xs ys:List V}{us ws:List Value},Vals xs us->Vals ys ws->Vals (xs++ys) (us++ws)
 |_,_,_,_,.nil,s=>s
 |_,_,_,_,.cons r t,s=>.cons r (Vals.append t s)
theorem Vals.take:∀{xs:List V}{us:List Value}(n:Nat),Vals xs us->Vals (xs.take n) (us.take n)
 |_,_,0,_=>.nil
 |_,_,_+1,.nil=>.nil
 |_,_,n+1,.cons r t=>.cons r (Vals.take n t)
theorem Vals.drop:∀{xs:List V}{us:List Value}(n:Nat),Vals xs us->Vals (xs.drop n) (us.drop n)
 |_,_,0,r=>r
 |_,_,_+1,.nil=>.nil
 |_,_,n+1,.cons _ t=>Vals.drop n t
def RelO:Option V->Option Value->Prop
 |some v,some u=>RelV v u
 |none,none=>True
 |_,_=>False
def KV{κ:Type}:List (κ×V)->List (κ×Value)->Prop:=Paired λ(p:κ×V)(q:κ×Value)=>p.1=q.1/\RelV p.2 q.2
def kV:Key->V
 | .inl i=>.int i
 | .inr x=>.str x
inductive HO where
 |lst (xs:List V)
 |tup (xs:List V)
 |dK (kvs:List (Key×V))|dT (kvs:List (List Key×V))
 |set (S:Int->Bool) (n:Nat)
 |ins (C dx:Addr) (fs:List (Str×V))
 |own (x:Addr)
 |xd (fs:List (Str×V))
 |met (f x:Addr)
 |rng (lo hi:Int)
 |frz (o:Obj) (u:HO)
 |tbl (ps:Array Value)
 |ext (φ:Heap->Prop)
abbrev Hp:=Addr->Option HO
def upd(H:Hp)(a:Addr)(o:HO):Hp:=λb=>if b=a then some o else H b
theorem zx{H:Hp}{a:Addr}{o:HO}:upd H a o a=some o:=by unfold upd;rw[yV rfl]
theorem zh{H:Hp}{a b:Addr}{o:HO}(h:b≠a):upd H a o b=H b:=by unfold upd;rw[zC h]
theorem G2{H:Hp}{a b:Addr}{o u:HO}(h:H a=some o)(h':H b=some u)(d:o≠u):a≠b:=by
 intro e;subst e;rw[h]at h';exact d (yX h')
theorem v8{H:Hp}{a b:Addr}{o:HO}(h:H a=some o)(h':H b=none):a≠b:=by
 intro e;subst e;rw[h]at h';cases h'
section
variable (P:Program) (w:World)
def ObjOk(H:Hp)(h:Heap)(a:Addr):HO->Prop
 | .lst xs=>xs.length<=sizeLine/\∃(aD:List Value)(n:Nat),Vals xs aD/\h.get? a=some { cls:=.type "list",data:=.seq aD.toArray n }
 | .tup xs=>xs.length<=sizeLine/\∃aD:List Value,Vals xs aD/\IsTup h a aD.toArray
 | .dK kvs=>kvs.length<=sizeLine/\(a==sysModules)=false/\∃vs,KV kvs vs/\h.DictOf (xj P w) a vs
 | .dT kvs=>kvs.length<=sizeLine/\(a==sysModules)=false/\∃xs:List (List Key×Addr×Value),
   Paired (λ(p:List Key×V)(q:List Key×Addr×Value)=>p.1=q.1/\H q.2.1=some (.tup (p.1.map kV))/\RelV p.2 q.2.2) kvs xs /\
   ∃o es ep,h.get? a=some o/\o.ExactDict/\o.data = .dict es ep/\es.toList=xs.map (entryOfKey (tupleKind (xj P w)))/\(xs.map (·.1)).Nodup
 | .set S n=>h.SetOf (intKind P w) a S n
 | .ins C dx fs=>H dx=some (.own a)/\fs.length<=1000/\dx≠a/\h.get? a=some (W.instObj C dx) /\
   ∃mA,h.Ns1 dx mA/\(∀f,RelO (fs.lookup f) (mA f))/\PySem.Within mA (fs.map (·.1))
 | .own _=>∃o,h.get? a=some o
 | .xd fs=>∃mA,h.Ns1 a mA/\∀f,RelO (fs.lookup f) (mA f)
 | .rng lo hi=>∃t u v,h.get? a=some { cls:=.type "range",data:=.fields #[.int lo t,.int hi u,.int 1 v] }
 | .frz o u=>h.get? a=some o/\ObjOk H h a u
 | .tbl ps=>h.get? a=some { cls:=.none,data:=.fields ps }
 | .met f x=>h.get? a=some (W.methodObj (.ref f) (.ref x))
 | .ext φ=>φ h/\(∃o,h.get? a=some o)/\∀h1 h2:Heap,φ h1->(∀o,h1.get? a=some o->h2.get? a=some o)->φ h2
def HOk(H:Hp)(h:Heap):Prop:=∀a o,H a=some o->ObjOk P w H h a o
end
section
variable {P:Program}{w:World}{H H':Hp}{h h':Heap}{a:Addr}{o:HO}
theorem ObjOk.lt(x:ObjOk P w H h a o):a<h.objs.size:=by
 cases o with
 |lst xs=>obtain⟨_,_,_,_,e⟩:=x;exact zQ e
 |tup xs=>obtain⟨_,_,_,p⟩:=x;exact p.lt
 |dK kvs=>obtain⟨_,_,_,_,o,_,_,e,_⟩:=x;exact zQ e
 |dT kvs=>obtain⟨_,_,_,_,o,_,_,e,_⟩:=x;exact zQ e
 |set S n=>obtain⟨o,_,_,_,e,_⟩:=x;exact zQ e
 |ins C dx fs=>obtain⟨_,_,_,e,_⟩:=x;exact zQ e
 |own y=>obtain⟨_,e⟩:=x;exact zQ e
 |xd fs=>obtain⟨_,⟨_,_,_,e,_⟩,_⟩:=x;exact zQ e
 |rng lo hi=>obtain⟨_,_,_,e⟩:=x;exact zQ e
 |frz ob u=>obtain⟨e,_⟩:=x;exact zQ e
 |tbl ps=>exact zQ (show h.get? a=some _ from x)
 |met f y=>exact zQ (show h.get? a=some _ from x)
 |ext φ=>obtain⟨_,⟨_,e⟩,_⟩:=x;exact zQ e
theorem Paired.mapP{α β:Type}{F G:α->β->Prop}:∀{l₁:List α}{l₂:List β},Paired F l₁ l₂->(∀a b,F a b->G a b)->Paired G l₁ l₂
 |_,_,.nil,_=>.nil
 |_,_,.cons r t,f=>.cons (f _ _ r) (Paired.mapP t f)
theorem ObjOk.stay(x:ObjOk P w H h a o)(k:∀b u,(b=a\/H b=some (.own a))->h.get? b=some u->h'.get? b=some u)
  (ho:∀b,H b=some (.own a)->H' b=some (.own a)) (ht:∀b xs,H b=some (.tup xs)->H' b=some (.tup xs)):ObjOk P w H' h' a o:=by
 induction o with
 |lst xs=>obtain⟨z,aD,n,r,e⟩:=x;exact⟨z,aD,n,r,k _ _ (.inl rfl) e⟩
 |tup xs=>obtain⟨z,aD,r,ob,e,c⟩:=x;exact⟨z,aD,r,ob,k _ _ (.inl rfl) e,c⟩
 |dK kvs=>obtain⟨z,y,vs,r,ob,es,ep,e,c⟩:=x;exact⟨z,y,vs,r,ob,es,ep,k _ _ (.inl rfl) e,c⟩
 |dT kvs =>
  obtain⟨z,y,xs,r,ob,es,ep,e,c⟩:=x;exact⟨z,y,xs,Paired.mapP r λp q z=>⟨z.1,ht _ _ z.2.1,z.2.2⟩,ob,es,ep,k _ _ (.inl rfl) e,c⟩
 |set S n=>obtain⟨ob,es,ep,t,e,c⟩:=x;exact⟨ob,es,ep,t,k _ _ (.inl rfl) e,c⟩
 |ins C dx fs =>
  obtain⟨d,z,ne,e,mA,⟨od,es,ep,e2,c⟩,r⟩:=x;exact⟨ho _ d,z,ne,k _ _ (.inl rfl) e,mA,⟨od,es,ep,k _ _ (.inr d) e2,c⟩,r⟩
 |own y=>obtain⟨ob,e⟩:=x;exact⟨ob,k _ _ (.inl rfl) e⟩
 |xd fs=>obtain⟨mA,⟨od,es,ep,e,c⟩,r⟩:=x;exact⟨mA,⟨od,es,ep,k _ _ (.inl rfl) e,c⟩,r⟩
 |rng lo hi=>obtain⟨t,u,v,e⟩:=x;exact⟨t,u,v,k _ _ (.inl rfl) e⟩
 |frz ob u ih=>obtain⟨e,q⟩:=x;exact⟨k _ _ (.inl rfl) e,ih q⟩
 |tbl ps =>
  have e:h.get? a=some { cls:=.none,data:=.fields ps }:=x;show h'.get? a=some { cls:=.none,data:=.fields ps };exact k a _ (.inl rfl) e
 |met f y =>
  have e:h.get? a=some (W.methodObj (.ref f) (.ref y)):=x;show h'.get? a=some (W.methodObj (.ref f) (.ref y));exact k a _ (.inl rfl) e
 |ext φ=>obtain⟨p,⟨o,e⟩,st⟩:=x;exact⟨st _ _ p λo q=>k _ _ (.inl rfl) q,⟨o,k _ _ (.inl rfl) e⟩,st⟩
theorem HOk.lt(x:HOk P w H h)(e:H a=some o):a<h.objs.size:=(x a o e).lt
theorem HOk.fresh(x:HOk P w H h)(e:h.objs.size<=a):H a=none:=by
 cases q:H a with
 |none=>rfl
 |some u=>exact absurd (zA (x.lt q) e) (vT _)
theorem HOk.kept(x:HOk P w H h)(k:∀b u,h.get? b=some u->h'.get? b=some u):HOk P w H h':=λa o e =>
 (x a o e).stay (λb u _ q=>k b u q) (λ_ q=>q) λ_ _ q=>q
theorem HOk.laid(x:HOk P w H h)(k:∀b u,h.get? b=some u->h'.get? b=some u)(hp:h.objs.size<=a)(new:ObjOk P w (upd H a o) h' a o):HOk P w (upd H a o) h':=λb u e=>by
 have hn:=x.fresh hp
 by_cases hb:b=a
 ·subst hb;rw[zx]at e;cases e;exact new
 ·rw[zh hb]at e;exact(x b u e).stay (λc v _ q=>k c v q) (λc q=>by rw[zh (v8 q hn)];exact q) λc xs q=>by rw[zh (v8 q hn)];exact q
end
def Rd(H:Hp)(a:Addr)(u:HO):Prop:=H a=some u\/∃o,H a=some (.frz o u)
theorem Rd.ok{P:Program}{w:World}{H:Hp}{h:Heap}{a:Addr}{u:HO}(r:Rd H a u)(x:HOk P w H h):ObjOk P w H h a u:=by
 rcases r with r|⟨o,r⟩
 ·exact x a u r
 ·obtain⟨_,q⟩:=x a _ r;exact q
def Mut:Option HO->Prop
 |some (.lst _)=>True
 |some (.dK _)=>True
 |some (.dT _)=>True
 |some (.set _ _)=>True
 |some (.ins _ _ _)=>True
 |some (.ext _)=>True
 |_=>False
section
variable {P:Program}{w:World}{H:Hp}{h h':Heap}{x e:Addr}{o':HO}
theorem HOk.write(ok:HOk P w H h)(mu:Mut (H x))(he:e=x\/H e=some (.own x))(k:∀b u,b≠e->h.get? b=some u->h'.get? b=some u)(CQ:∃u,h'.get? e=some u)
  (new:ObjOk P w (upd H x o') h' x o'):HOk P w (upd H x o') h':=λb u q=>by
 have DK:∀c y,H c=some (.own y)->c≠x:=λc y r z=>by subst z;rw[r]at mu;exact mu
 have ntup:∀c xs,H c=some (.tup xs)->c≠x:=λc xs r z=>by subst z;rw[r]at mu;exact mu
 by_cases hb:b=x
 ·subst hb;rw[zx]at q;cases q;exact new
 ·rw[zh hb]at q
  by_cases Ah:b=e
  ·have q':H b=some (.own x):=by
    rcases he with z|z
    ·exact absurd (Ah.trans z) hb
    ·rw[Ah];exact z
   rw[q]at q';cases q';obtain⟨v,hv⟩:=CQ;exact⟨v,by rw[Ah];exact hv⟩
  ·refine(ok b u q).stay (λc v hc r=>k c v ?_ r) (λc r=>by rw[zh (DK c b r)];exact r) λc xs r=>by rw[zh (ntup c xs r)];exact r
   rcases hc with rfl|hc
   ·exact Ah
   ·rintro rfl;rcases he with z|z
    ·exact DK c b hc z
    ·rw[hc]at z;cases z;exact hb rfl
end
structure Un(fs ex:List Addr)(H H':Hp)(h h':Heap):Prop where
 keep:∀b o,h.get? b=some o->H b=none->b∉fs->b∉ex->h'.get? b=some o
 slot:∀b o,h.get? b=some o->H b=none->b∈fs->b∉ex->∃sl,h'.get? b=some { o with slots:=sl }
 free:∀b o,h.get? b=some o->H b=none->b∉ex->H' b=none
 there:∀b o,h.get? b=some o->b∉ex->∃o',h'.get? b=some o'
 tups:∀b xs,H b=some (.tup xs)->H' b=some (.tup xs)
 frzs:∀b o u,H b=some (.frz o u)->H' b=some (.frz o u)
 tbls:∀b ps,H b=some (.tbl ps)->∃more,H' b=some (.tbl (ps++more))
section
variable {fs fs' ex ex':List Addr}{H H1 H2:Hp}{h h1 h2 h':Heap}{a x e:Addr}{o:HO}
theorem Un.any(u:Un fs ex H H1 h h1){b:Addr}{ob:Obj}(q:h.get? b=some ob)(n:H b=none)(hx:b∉ex):∃sl,h1.get? b=some { ob with slots:=sl }:=by
 by_cases hb:b∈fs
 ·exact u.slot b ob q n hb hx
 ·exact⟨ob.slots,u.keep b ob q n hb hx⟩
theorem Un.kept(k:∀b u,h.get? b=some u->h'.get? b=some u):Un fs ex H H h h' :=
 ⟨λb ob q _ _ _=>k b ob q,λb ob q _ _ _=>⟨ob.slots,k b ob q⟩,λ_ _ _ n _=>n,λb ob q _=>⟨ob,k b ob q⟩,λ_ _ q=>q,λ_ _ _ q=>q,λ_ ps q=>⟨#[],by rw[q];simp⟩⟩
theorem Un.refl:Un fs ex H H h h:=Un.kept λ_ _ q=>q
theorem Un.laid(k:∀b u,h.get? b=some u->h'.get? b=some u)(hp:h.objs.size<=a)(hn:H a=none):Un fs ex H (upd H a o) h h' where
 keep:=λb u q _ _ _=>k b u q
 slot:=λb u q _ _ _=>⟨u.slots,k b u q⟩
 free:=λb u q n _=>by rw[zh (zF (zA (zQ q) hp))];exact n
 there:=λb u q _=>⟨u,k b u q⟩
 tups:=λb xs q=>by rw[zh (v8 q hn)];exact q
 frzs:=λb u xs q=>by rw[zh (v8 q hn)];exact q
 tbls:=λb ps q=>⟨#[],by rw[zh (v8 q hn),q];simp⟩
theorem Un.write(mu:Mut (H x))(he:e=x\/H e=some (.own x))(k:∀b u,b≠e->h.get? b=some u->h'.get? b=some u)(CQ:∃u,h'.get? e=some u):Un fs ex H (upd H x o) h h':=by
 have hx:∀b,H b=none->b≠x:=λb n z=>by subst z;rw[n]at mu;exact mu
 have hb:∀b,H b=none->b≠e:=λb n z=>by
  subst z;rcases he with r|r
  ·exact hx b n r
  ·rw[n]at r;cases r
 have hm:∀b u,H b=some u->¬Mut (some u)->b≠x:=λb u q nm z=>by subst z;rw[q]at mu;exact nm mu
 refine⟨λb u q n _ _=>k b u (hb b n) q,λb u q n _ _=>⟨u.slots,k b u (hb b n) q⟩,λb u q n _=>by rw[zh (hx b n)];exact n,λb u q _=>?_,
  λb xs q=>by rw[zh (hm b _ q λz=>z)];exact q,λb u xs q=>by rw[zh (hm b _ q λz=>z)];exact q,λb ps q=>⟨#[],by rw[zh (hm b _ q λz=>z),q];simp⟩⟩
 by_cases Ah:b=e
 ·subst Ah;exact CQ
 ·exact⟨u,k b u Ah q⟩
end
def trk(h:Heap)(H:Hp):List Addr:=(List.range h.objs.size).filter λa=>(H a).isSome
def jy(h:Heap)(H:Hp):Heap:=W.hideAll h (trk h H)
theorem To(h:Heap)(H:Hp):(jy h H).objs.size=h.objs.size:=W.hideAll_size _ _
theorem Pk{h:Heap}{H:Hp}{b:Addr}{o:Obj}(e:h.get? b=some o)(n:H b=none):(jy h H).get? b=some o :=
 W.hideAll_get _ e λhm=>by
  have q:(H b).isSome=true:=(xP.mp hm).2;rw[n]at q;simp at q
theorem V8{h:Heap}{H:Hp}{b:Addr}{o:Obj}(e:(jy h H).get? b=some o):h.get? b=some o/\H b=none:=by
 have e':h.get? b=some o:=W.of_hideAll (trk h H) e;refine⟨e',?_⟩;cases q:H b with
 |none=>rfl
 |some x =>
  have hm:b∈trk h H:=xP.mpr ⟨yH.mpr (zQ e'),by simp[q]⟩;have z:(jy h H).get? b=none:=W.hideAll_none (trk h H) hm;rw[z]at e;cases e
def Mc(g h:Heap)(L:Addr):List (Addr×Obj):=(List.range h.objs.size).filterMap λa=>if a=L\/(g.get? a).isSome=true then none else(h.get? a).map λo=>(a,o)
def rest(g h:Heap)(L d:Addr):List (Addr×Obj):=(Mc g h L).filter λp=>decide (p.1≠d)
end L2
namespace L2
open PySem PySem.Spec PyProof.Rows
structure Mod(K:W.Frag)(mg:Str->Option Value)(base:Heap):Prop where
 kin:K.In base
 glob:base.Ns mainGlobals mg
 blt:∃mb,base.Ns builtinsNs mb/\∀x:Str,x≠"__name__"->mb x=bootBuiltins x
 nolimit:base.NoLimit
structure Cx where
 prog:Program
 w:World
 K:W.Frag
 mg:Str->Option Value
 base:Heap
 A:Around
 N:List Str
 s₀:Shared
 H₀:Hp
 env:Env
 outer:List Env
 stack:List Env
 ex:List Addr
 fn:Str->Bool
 calm:Bool
 pn:List (Addr×Obj)
 xe:Value->Shared->Prop
def frs(l:List Env):List Addr:=l.filterMap (·.frame)
abbrev Cx.fs(X:Cx):List Addr:=frs X.outer
def Vis(sc:Scope)(x:Str):Prop:=sc.names.lookup x=some .local\/sc.names.lookup x=some .cell\/sc.names.lookup x=some .free
def Loc(sc:Scope)(x:Str):Prop:=sc.names.lookup x=some .local\/sc.names.lookup x=some .cell
def E2(env:Env)(h:Heap)(m:Str->Option Value)(x:Str)(u:Value):Prop :=
 (env.kindOf x=some .local/\m x=some u)\/((env.kindOf x=some .cell\/env.kindOf x=some .free)/\∃c,env.cells.lookup x=some c/\h.IsCell c (some u))
structure Cx.Ok(X:Cx):Prop where
 mod:Mod X.K X.mg X.base
 kind:X.env.scope.kind = .function
 glob:X.env.globals=mainGlobals
 blt:X.env.builtins=builtinsNs
 above:X.s₀.heap.objs.size<=X.env.locals
 inj:∀x y c,X.env.cells.lookup x=some c->X.env.cells.lookup y=some c->x=y
 has:∀x,(X.env.kindOf x=some .cell\/X.env.kindOf x=some .free)->∃c,X.env.cells.lookup x=some c
 cab:∀x c,X.fn x=true->X.env.cells.lookup x=some c->X.s₀.heap.objs.size<=c
 hd:X.calm=true->X.A.handled=none
 frames:X.A.frames=some X.stack
 stk:X.stack=X.outer\/(X.stack=X.env::X.outer/\X.env.frame=some X.env.locals)
 exf:∀b∈X.ex,b≠X.env.locals/\∀x c,X.env.cells.lookup x=some c->c≠b
 bs:∀b o,X.base.get? b=some o->X.s₀.heap.get? b=some o/\X.H₀ b=none
 bsz:X.base.objs.size<=X.s₀.heap.objs.size
 noex:∀b o,X.base.get? b=some o->b∉X.ex
 exfs:∀b∈X.ex,b∉X.fs
 funs:X.s₀.heap.FunFrames X.base X.outer
 frf:∀b∈X.fs,X.H₀ b=none
structure Inv(X:Cx)(pins:List (Addr×Obj))(σ:List (Option V))(H:Hp)(s:Shared):Prop where
 ok:X.Ok
 os:s.os=X.s₀.os
 bare:AllBare s.gens
 base:Un X.fs X.ex X.H₀ H X.s₀.heap s.heap
 loc:∃m,s.heap.Ns X.env.locals m/\∀(i:Nat)(x:Str)(v:V),X.N[i]?=some x->σ[i]?=some (some v)->Vis X.env.scope x->∃u,RelV v u/\E2 X.env s.heap m x u
 cell:∀x c,X.env.cells.lookup x=some c->∃v,s.heap.IsCell c v
 free:H X.env.locals=none
 freeC:∀x c,X.env.cells.lookup x=some c->H c=none
 pin:∀p∈X.pn++pins,s.heap.get? p.1=some p.2/\H p.1=none/\p.1≠X.env.locals/\p.1∉X.fs/\∀v,p.2.data≠.cell v
 hok:HOk X.prog X.w H s.heap
 len:σ.length=X.N.length
section
variable {X:Cx}{pins:List (Addr×Obj)}{σ:List (Option V)}{H H':Hp}{s:Shared}{h':Heap}
theorem Cx.Ok.nofr(ok:X.Ok){b:Addr}{o:Obj}(e:X.base.get? b=some o):b∉X.fs:=λhb=>by
 have:=(ok.funs.mem hb).1;rw[e]at this;cases this
theorem Inv.bs(I:Inv X pins σ H s):∀b o,X.base.get? b=some o->s.heap.get? b=some o/\H b=none:=λb o e =>
 ⟨I.base.keep b o (I.ok.bs b o e).1 (I.ok.bs b o e).2 (I.ok.nofr e) (I.ok.noex b o e),I.base.free b o (I.ok.bs b o e).1 (I.ok.bs b o e).2 (I.ok.noex b o e)⟩
theorem Inv.bk(I:Inv X pins σ H s):∀b o,X.base.get? b=some o->s.heap.get? b=some o:=λb o e=>(I.bs b o e).1
theorem Inv.mod(I:Inv X pins σ H s):Mod X.K X.mg X.base:=I.ok.mod
theorem Inv.kIn(I:Inv X pins σ H s):X.K.In s.heap:=I.ok.mod.kin.keeps I.bk
theorem Inv.nolimit(I:Inv X pins σ H s):s.heap.NoLimit:=I.ok.mod.nolimit.keeps I.bk
theorem Inv.lt(I:Inv X pins σ H s):X.env.locals<s.heap.objs.size:=let⟨_,hn,_⟩:=I.loc;hn.lt
theorem Inv.sz(I:Inv X pins σ H s):X.s₀.heap.objs.size<=s.heap.objs.size:=yT I.ok.above (xW I.lt)
theorem Inv.nofs(I:Inv X pins σ H s){a:Addr}(h:s.heap.objs.size<=a):a∉X.fs:=λhb=>by
 obtain⟨_,o,ho,_⟩:=I.ok.funs.mem hb;exact absurd (zA (zQ ho) (yT I.sz h)) (vT _)
theorem Inv.cne(I:Inv X pins σ H s):∀x c,X.env.cells.lookup x=some c->c≠X.env.locals:=λx c e z=>by
 obtain⟨v,o,ho,hd⟩:=I.cell x c e;obtain⟨m,⟨o',es,ep,BX,oQ,_⟩,_⟩:=I.loc;rw[z,BX]at ho;cases ho;rw[oQ]at hd;cases hd
theorem Inv.funs(I:Inv X pins σ H s):s.heap.FunFrames X.base X.outer:=by
 have all:∀(l:List Env),(∀b∈frs l,b∈X.fs)->X.s₀.heap.FunFrames X.base l->s.heap.FunFrames X.base l:=by
  intro l
  induction l with
  |nil=>intro _ _;trivial
  |cons env r ih =>
   intro hs hl;obtain⟨hk,⟨L,o,hf,hn,ho,hd⟩,hr⟩:=hl;have hL:L∈X.fs:=hs L (by unfold frs;rw[wO,hf];exact zG);obtain⟨sl,e⟩:=I.base.slot L o ho (I.ok.frf L hL) hL λz=>I.ok.exfs L z hL;exact⟨hk,⟨L,_,hf,hn,e,hd⟩,ih (λb hb=>hs b (by unfold frs;rw[wO,hf];exact zH _ hb)) hr⟩
 exact all X.outer (λ_ hb=>hb) I.ok.funs
theorem Inv.stack(I:Inv X pins σ H s):s.heap.FunFrames X.base X.stack:=by
 rcases I.ok.stk with e|⟨e,hf⟩
 ·rw[e];exact I.funs
 ·rw[e];obtain⟨m,hn,_⟩:=I.loc;refine .cons (by rw[I.ok.kind];decide) hf hn ?_ I.funs;exact Heap.get?_none_of_le (yT I.ok.bsz I.ok.above)
theorem Inv.stkSub(I:Inv X pins σ H s):∀b∈frs X.stack,b∈X.env.locals::X.fs:=λb hb=>by
 rcases I.ok.stk with e|⟨e,hf⟩
 ·rw[e]at hb;exact zH _ hb
 ·rw[e]at hb;unfold frs at hb;rw[wO,hf]at hb;exact hb
theorem Inv.stkFree(I:Inv X pins σ H s):∀b∈frs X.stack,H b=none:=λb hb=>by
 rcases zI.mp (I.stkSub b hb)with e|hb
 ·rw[e];exact I.free
 ·obtain⟨_,o,ho,_⟩:=I.ok.funs.mem hb;exact I.base.free b o ho (I.ok.frf b hb) λz=>I.ok.exfs b z hb
theorem Inv.step{g':Array GenState}{t':Nat}{d':Drawn}{ch:List Addr}(I:Inv X pins σ H s)
  (Ag:∀b∈ch,(b∈X.ex\/X.s₀.heap.objs.size<=b)/\b≠X.env.locals/\(∀x c,X.env.cells.lookup x=some c->c≠b)/\∀p∈X.pn++pins,p.1≠b)
  (keep:∀b o,b≠X.env.locals->b∉X.fs->b∉ch->s.heap.get? b=some o->H b=none->h'.get? b=some o)
  (slot:∀b o,b≠X.env.locals->b∈X.fs->b∉ch->s.heap.get? b=some o->H b=none->∃sl,h'.get? b=some { o with slots:=sl }) (free:∀b o,b∉ch->s.heap.get? b=some o->H b=none->H' b=none)
  (there:∀b o,b∉ch->s.heap.get? b=some o->∃o',h'.get? b=some o')
  (tups:∀b xs,H b=some (.tup xs)->H' b=some (.tup xs)) (frzs:∀b o u,H b=some (.frz o u)->H' b=some (.frz o u)) (tbls:∀b ps,H b=some (.tbl ps)->∃more,H' b=some (.tbl (ps++more)))
  (ns:∀m,s.heap.Ns X.env.locals m->h'.Ns X.env.locals m) (hok:HOk X.prog X.w H' h') (hg:AllBare g') :
  Inv X pins σ H' { s with heap:=h',gens:=g',drawn:=d',toks:=t' }:=by
 have neL:∀b o,X.s₀.heap.get? b=some o->b≠X.env.locals:=λb o e=>zF (zA (zQ e) I.ok.above);have neC:∀b o,X.s₀.heap.get? b=some o->b∉X.ex->b∉ch:=λb o e hx hb=>by
  rcases(Ag b hb).1 with z|z
  ·exact hx z
  ·exact absurd (zA (zQ e) z) (vT _)
 have Br:∀x c,X.env.cells.lookup x=some c->∀v,s.heap.IsCell c v->h'.IsCell c v:=λx c e v ⟨o,ho,hd⟩=>by
  have DO:c∉ch:=λz=>(Ag c z).2.2.1 x c e rfl
  by_cases hc:c∈X.fs
  ·obtain⟨sl,q⟩:=slot c o (I.cne x c e) hc DO ho (I.freeC x c e);exact⟨_,q,hd⟩
  ·exact⟨o,keep c o (I.cne x c e) hc DO ho (I.freeC x c e),hd⟩
 refine⟨I.ok,I.os,hg,⟨λb o e n hb hx=>?_,λb o e n hb hx=>?_,λb o e n hx=>?_,λb o e hx=>?_,λb xs e=>tups b xs (I.base.tups b xs e),λb o xs e=>frzs b o xs (I.base.frzs b o xs e),λb ps e=>?_⟩,?_,λx c e=>?_,?_,λx c e=>?_,λp hp=>?_,hok,I.len⟩
 ·exact keep b o (neL b o e) hb (neC b o e hx) (I.base.keep b o e n hb hx) (I.base.free b o e n hx)
 ·obtain⟨sl,e1⟩:=I.base.slot b o e n hb hx;obtain⟨sl',e2⟩:=slot b _ (neL b o e) hb (neC b o e hx) e1 (I.base.free b o e n hx);exact⟨sl',e2⟩
 ·obtain⟨o',e1⟩:=I.base.there b o e hx;exact free b o' (neC b o e hx) e1 (I.base.free b o e n hx)
 ·obtain⟨o',e1⟩:=I.base.there b o e hx;exact there b o' (neC b o e hx) e1
 ·obtain⟨m1,e1⟩:=I.base.tbls b ps e;obtain⟨m2,e2⟩:=tbls b _ e1;exact⟨m1++m2,by rw[e2,Array.append_assoc]⟩
 ·obtain⟨m,hn,hl⟩:=I.loc;refine⟨m,ns m hn,λi x v e1 e2 e3=>?_⟩;obtain⟨u,r,l⟩:=hl i x v e1 e2 e3;refine⟨u,r,?_⟩;rcases l with l|⟨k,c,e,z⟩
  ·exact .inl l
  ·exact .inr ⟨k,c,e,Br x c e _ z⟩
 ·obtain⟨v,z⟩:=I.cell x c e;exact⟨v,Br x c e v z⟩
 ·obtain⟨m,⟨o,_,_,ho,_⟩,_⟩:=I.loc;exact free _ o (λz=>(Ag _ z).2.1 rfl) ho I.free
 ·obtain⟨v,o,ho,hd⟩:=I.cell x c e;exact free c o (λz=>(Ag c z).2.2.1 x c e rfl) ho (I.freeC x c e)
 ·obtain⟨e,n,ne,nf,d⟩:=I.pin p hp;have DO:p.1∉ch:=λz=>(Ag p.1 z).2.2.2 p hp rfl;exact⟨keep p.1 p.2 ne nf DO e n,free p.1 p.2 DO e n,ne,nf,d⟩
theorem Inv.un{t':Nat}(I:Inv X pins σ H s)(u:Un X.fs [] H H' s.heap h')(hok:HOk X.prog X.w H' h'):Inv X pins σ H' { s with heap:=h',toks:=t' }:=by
 obtain⟨m,⟨o,es,ep,ho,r⟩,_⟩:=id I.loc;obtain⟨sl,hL⟩:=u.any ho I.free (by simp);exact I.step (g':=s.gens) (d':=s.drawn) (ch:=[]) (λ_ z=>nomatch z) (λb o _ hb _ e n=>u.keep b o e n hb (by simp)) (λb o _ hb _ e n=>u.slot b o e n hb (by simp)) (λb o _ e n=>u.free b o e n (by simp)) (λb o _ e=>u.there b o e (by simp)) u.tups u.frzs u.tbls (λm' hm=>by
  obtain⟨o',cJ,kM,BX,r'⟩:=hm;rw[ho]at BX;cases BX;exact⟨_,cJ,kM,hL,r'⟩) hok I.bare
theorem Inv.call{g':Array GenState}{t':Nat}{d':Drawn}{ch:List Addr}(I:Inv X pins σ H s)(u:Un (frs X.stack) ch H H' s.heap h')(hok:HOk X.prog X.w H' h')(hg:AllBare g')
  (Ag:∀b∈ch,(b∈X.ex\/X.s₀.heap.objs.size<=b)/\b≠X.env.locals/\(∀x c,X.env.cells.lookup x=some c->c≠b)/\∀p∈X.pn++pins,p.1≠b) :
  Inv X pins σ H' { s with heap:=h',gens:=g',drawn:=d',toks:=t' }:=by
 obtain⟨m,⟨o,es,ep,ho,r⟩,_⟩:=id I.loc;obtain⟨sl,hL⟩:=u.any ho I.free λz=>(Ag _ z).2.1 rfl;exact I.step (ch:=ch) Ag (λb o hL hb hc e n=>u.keep b o e n (λz=>(zI.mp (I.stkSub b z)).elim hL hb) hc) (λb o _ _ hc e n=>u.any e n hc) (λb o hc e n=>u.free b o e n hc) (λb o hc e=>u.there b o e hc) u.tups u.frzs u.tbls (λm' hm=>by
  obtain⟨o',cJ,kM,BX,r'⟩:=hm;rw[ho]at BX;cases BX;exact⟨_,cJ,kM,hL,r'⟩) hok hg
theorem Inv.turned{t':Nat}{it:Addr}(I:Inv X pins σ H s)(k:∀b o,b≠it->s.heap.get? b=some o->h'.get? b=some o)(hn:H it=none)(hL:it≠X.env.locals)
  (h1:it∈X.ex\/X.s₀.heap.objs.size<=it) (h2:∀x c,X.env.cells.lookup x=some c->c≠it) (h3:∀p∈X.pn++pins,p.1≠it):Inv X pins σ H { s with heap:=h',toks:=t' }:=by
 have DL:∀b u,H b=some u->b≠it:=λb u e z=>by rw[z,hn]at e;cases e
 refine I.step (g':=s.gens) (d':=s.drawn) (ch:=[it]) (λb hb=>?_) (λb o _ _ hc e _=>k b o (λz=>hc (by simp[z])) e) (λb o _ _ hc e _=>⟨o.slots,k b o (λz=>hc (by simp[z])) e⟩) (λ_ _ _ _ n=>n)
  (λb o hc e=>⟨o,k b o (λz=>hc (by simp[z])) e⟩) (λ_ _ e=>e) (λ_ _ _ e=>e) (λb ps e=>⟨#[],by rw[e];simp⟩) (λm hm=>?_) (λb u e=>?_) I.bare
 ·have e:b=it:=by simpa using hb
  subst e;exact⟨h1,hL,h2,h3⟩
 ·obtain⟨o,es,ep,ho,r⟩:=hm;exact⟨o,es,ep,k _ o (wU hL) ho,r⟩
 ·refine(I.hok b u e).stay (λc v hc q=>k c v ?_ q) (λ_ q=>q) λ_ _ q=>q;rcases hc with z|z
  ·rw[z];exact DL b u e
  ·exact DL c _ z
theorem Inv.tok(I:Inv X pins σ H s)(t:Nat):Inv X pins σ H { s with toks:=t }:=I.un (h':=s.heap) (t':=t) Un.refl I.hok
theorem Inv.kept{t':Nat}(I:Inv X pins σ H s)(k:∀b u,s.heap.get? b=some u->h'.get? b=some u):Inv X pins σ H { s with heap:=h',toks:=t' }:=I.un (Un.kept k) (I.hok.kept k)
theorem Inv.laid{a:Addr}{o:HO}{t':Nat}(I:Inv X pins σ H s)(k:∀b u,s.heap.get? b=some u->h'.get? b=some u)(hp:s.heap.objs.size<=a)(new:ObjOk X.prog X.w (upd H a o) h' a o):
  Inv X pins σ (upd H a o) { s with heap:=h',toks:=t' }:=I.un (Un.laid k hp (I.hok.fresh hp)) (I.hok.laid k hp new)
theorem Inv.write{x e:Addr}{o:HO}{t':Nat}(I:Inv X pins σ H s)(mu:Mut (H x))(he:e=x\/H e=some (.own x))(k:∀b u,b≠e->s.heap.get? b=some u->h'.get? b=some u)(CQ:∃u,h'.get? e=some u)
  (new:ObjOk X.prog X.w (upd H x o) h' x o):Inv X pins σ (upd H x o) { s with heap:=h',toks:=t' }:=I.un (Un.write mu he k CQ) (I.hok.write mu he k CQ new)
theorem Inv.pins_of{AS:List (Addr×Obj)}(I:Inv X pins σ H s)(h:∀p∈AS,s.heap.get? p.1=some p.2/\H p.1=none/\p.1≠X.env.locals/\p.1∉X.fs/\∀v,p.2.data≠.cell v):Inv X AS σ H s :=
 ⟨I.ok,I.os,I.bare,I.base,I.loc,I.cell,I.free,I.freeC,λp hp=>(zK.mp hp).elim (λz=>I.pin p (xO _ z)) (h p),I.hok,I.len⟩
theorem Z8{N:List Str}(hN:N.Nodup){i j:Nat}{x:Str}(a:N[i]?=some x)(b:N[j]?=some x):i=j:=by
 obtain⟨h1,e1⟩:=zW.mp a;obtain⟨h2,e2⟩:=zW.mp b;exact(List.getElem_inj hN).mp (e1.trans e2.symm)
theorem U4{M:Model}{A:Around}{E:Value->Shared->Prop}{i:Nat}{x:Str}{v:V}{u:Value}{Q:Unit->Shared->Prop}(I:Inv X pins σ H s)(hN:X.N.Nodup)(hi:X.N[i]?=some x)(hx:Loc X.env.scope x)(r:RelV v u)
  (h:∀s',Inv X pins (σ.set i (some v)) H s'->(∃a,Heap.SameBut a s.heap s'.heap/\(a=X.env.locals\/X.env.cells.lookup x=some a))->Q () s') (hf:X.fn x=true\/X.env.scope.names.lookup x=some .local:=by first|exact .inl rfl|exact .inr rfl|assumption):wpAny M A (storeName X.env x u) Q E s:=by
 obtain⟨m,hn,hl⟩:=id I.loc;have hcls:(X.env.scope.kind == .class||(X.env.scope.kind == .module&&X.env.locals != X.env.globals))=false:=by rw[I.ok.kind];rfl
 have hiσ:i<σ.length:=by rw[I.len];exact(zW.mp hi).1
 have cne:=I.cne;have oF:∀{a:Addr}{h':Heap},(∃o,s.heap.get? a=some o/\H a=none)->Heap.SameBut a s.heap h'->HOk X.prog X.w H h':=λ{a h'} ha hs b ob e=>by
  obtain⟨_,_,Bc⟩:=ha;refine(I.hok b ob e).stay (λc w' hc q=>(hs.2 c ?_).trans q) (λ_ q=>q) λ_ _ q=>q;rintro rfl;rcases hc with rfl|hc
  ·rw[Bc]at e;cases e
  ·rw[Bc]at hc;cases hc
 rcases hx with hk|hk
 ·refine wpAny_storeName_local hk hn (λh' iT hs=>?_) hcls;obtain⟨oL,_,_,EF,_⟩:=id hn;refine h _ ⟨I.ok,I.os,I.bare,⟨λb o e n hb hx=>?_,λb o e n hb hx=>?_,I.base.free,λb o e hx=>?_,I.base.tups,I.base.frzs,I.base.tbls⟩,⟨_,iT,λj y v' e1 e2 e3=>?_⟩,λy c e=>?_,I.free,I.freeC,λp hp=>?_,oF ⟨oL,EF,I.free⟩ hs,by simpa using I.len⟩ ⟨_,hs,.inl rfl⟩
  ·exact(hs.2 b (zF (zA (zQ e) I.ok.above))).trans (I.base.keep b o e n hb hx)
  ·obtain⟨sl,e1⟩:=I.base.slot b o e n hb hx;exact⟨sl,(hs.2 b (zF (zA (zQ e) I.ok.above))).trans e1⟩
  ·obtain⟨o',e1⟩:=I.base.there b o e hx;exact⟨o',(hs.2 b (zF (zA (zQ e) I.ok.above))).trans e1⟩
  ·by_cases hj:j=i
   ·subst hj;rw[hi]at e1;cases e1;rw[List.getElem?_set_self hiσ]at e2;cases e2;exact⟨u,r,.inl ⟨hk,by simp⟩⟩
   ·rw[List.getElem?_set_ne (wU hj)]at e2;obtain⟨u',r',q⟩:=hl j y v' e1 e2 e3;refine⟨u',r',?_⟩;rcases q with⟨k,e⟩|⟨k,c,e,z⟩
    ·refine .inl ⟨k,?_⟩;have:y≠x:=λe=>hj (Z8 hN e1 (e▸hi));simp[this,e]
    ·exact .inr ⟨k,c,e,z.sameBut hs (cne y c e)⟩
  ·obtain⟨w',z⟩:=I.cell y c e;exact⟨w',z.sameBut hs (cne y c e)⟩
  ·obtain⟨e,n,ne,nf,d⟩:=I.pin p hp;exact⟨(hs.2 p.1 ne).trans e,n,ne,nf,d⟩
 ·have hfn:X.fn x=true:=by
   rcases hf with z|z
   ·exact z
   ·rw[z]at hk;cases hk
  obtain⟨c,hc⟩:=I.ok.has x (.inl hk);obtain⟨w',z⟩:=I.cell x c hc;refine wpAny_storeName_cell I.ok.kind hk hc z (λh' mT hs=>?_);obtain⟨oc,hoc,hocd⟩:=id z;refine h { s with heap:=h' } ⟨I.ok,I.os,I.bare,⟨λb o e n hb hx=>?_,λb o e n hb hx=>?_,I.base.free,λb o e hx=>?_,I.base.tups,I.base.frzs,I.base.tbls⟩,⟨m,hn.sameBut hs (wU (cne x c hc)),λj y v' e1 e2 e3=>?_⟩,λy c' e=>?_,I.free,I.freeC,λp hp=>?_,oF ⟨oc,hoc,I.freeC x c hc⟩ hs,by simpa using I.len⟩ ⟨c,hs,.inr hc⟩
  ·exact(hs.2 b (zF (zA (zQ e) (I.ok.cab x c hfn hc)))).trans (I.base.keep b o e n hb hx)
  ·obtain⟨sl,e1⟩:=I.base.slot b o e n hb hx;exact⟨sl,(hs.2 b (zF (zA (zQ e) (I.ok.cab x c hfn hc)))).trans e1⟩
  ·obtain⟨o',e1⟩:=I.base.there b o e hx;exact⟨o',(hs.2 b (zF (zA (zQ e) (I.ok.cab x c hfn hc)))).trans e1⟩
  ·by_cases hj:j=i
   ·subst hj;rw[hi]at e1;cases e1;rw[List.getElem?_set_self hiσ]at e2;cases e2;exact⟨u,r,.inr ⟨.inl hk,c,hc,mT⟩⟩
   ·rw[List.getElem?_set_ne (wU hj)]at e2;obtain⟨u',r',q⟩:=hl j y v' e1 e2 e3;refine⟨u',r',?_⟩;rcases q with q|⟨k,c',e,z'⟩
    ·exact .inl q
    ·refine .inr ⟨k,c',e,z'.sameBut hs ?_⟩;rintro rfl;exact hj (Z8 hN e1 (I.ok.inj _ _ _ e hc▸hi))
  ·by_cases hcc:c'=c
   ·subst hcc;exact⟨_,mT⟩
   ·obtain⟨w2,z2⟩:=I.cell y c' e;exact⟨w2,z2.sameBut hs hcc⟩
  ·obtain⟨e,n,ne,nf,d⟩:=I.pin p hp;refine⟨(hs.2 p.1 ?_).trans e,n,ne,nf,d⟩;intro q;rw[q,hoc]at e;have q':oc=p.2:=yX e;exact d w' (by rw[<-q'];exact hocd)
theorem bi{M:Model}{A:Around}{E:Value->Shared->Prop}{i:Nat}{x:Str}{v:V}{u:Value}{Q:Unit->Shared->Prop}(I:Inv X pins σ H s)(hN:X.N.Nodup)(hi:X.N[i]?=some x)(hx:Loc X.env.scope x)(r:RelV v u)
  (h:∀s',Inv X pins (σ.set i (some v)) H s'->Q () s') (hf:X.fn x=true\/X.env.scope.names.lookup x=some .local:=by first|exact .inl rfl|exact .inr rfl|assumption):wpAny M A (storeName X.env x u) Q E s :=
 U4 I hN hi hx r (λs' I' _=>h s' I') hf
theorem Inv.call'{s':Shared}{ch:List Addr}(I:Inv X pins σ H s)(ho:s'.os=s.os)(u:Un (frs X.stack) ch H H' s.heap s'.heap)(hok:HOk X.prog X.w H' s'.heap)(hg:AllBare s'.gens)
  (Ag:∀b∈ch,(b∈X.ex\/X.s₀.heap.objs.size<=b)/\b≠X.env.locals/\(∀x c,X.env.cells.lookup x=some c->c≠b)/\∀p∈X.pn++pins,p.1≠b):Inv X pins σ H' s':=by
 obtain⟨h',g',d',t',o'⟩:=s';have e:o'=s.os:=ho;subst e;exact I.call (g':=g') (t':=t') (d':=d') u hok hg Ag
end
abbrev XK:=Value->Option Addr->Hp->Prop
abbrev St:=List (Option V)
abbrev VK:=V->Hp->Prop
abbrev TE:=St->Hp->VK->Prop
abbrev TT:=St->Hp->(Bool->Hp->Prop)->Prop
abbrev TA:=St->Hp->(List V->Hp->Prop)->Prop
structure rh where
 nx:St->Hp->Prop
 rt:VK
 bk:St->Hp->Prop:=λ_ _=>False
 ct:St->Hp->Prop:=λ_ _=>False
abbrev TS:=rh->St->Hp->Prop
def EP(X:Cx)(pins:List (Addr×Obj))(σ:St)(Q:VK)(u:Value)(s':Shared):Prop:=∃v H',Inv X pins σ H' s'/\RelV v u/\Q v H'
def TP(X:Cx)(pins:List (Addr×Obj))(σ:St)(Q:Bool->Hp->Prop)(b:Bool)(s':Shared):Prop:=∃H',Inv X pins σ H' s'/\Q b H'
def AP(X:Cx)(pins:List (Addr×Obj))(σ:St)(Q:List V->Hp->Prop)(us:List Value)(s':Shared):Prop:=∃vs H',Inv X pins σ H' s'/\Vals vs us/\Q vs H'
def SP(X:Cx)(pins:List (Addr×Obj))(D:rh)(f:Flow)(s':Shared):Prop :=
 match f with
 | .next=>∃σ' H',Inv X pins σ' H' s'/\D.nx σ' H'
 | .brk=>∃σ' H',Inv X pins σ' H' s'/\D.bk σ' H'
 | .cont=>∃σ' H',Inv X pins σ' H' s'/\D.ct σ' H'
 | .ret u=>∃v σ' H',Inv X pins σ' H' s'/\RelV v u/\D.rt v H'
def PE(X:Cx)(e:Expr)(t:TE):Prop :=
 ∀(pins:List (Addr×Obj))(s:Shared)(σ:St)(H:Hp)(Q:VK),Inv X pins σ H s->t σ H Q->wpAny (model X.prog X.w) X.A (eval e X.env) (EP X pins σ Q) X.xe s
def PT(X:Cx)(e:Expr)(t:TT):Prop :=
 ∀(pins:List (Addr×Obj))(s:Shared)(σ:St)(H:Hp)(Q:Bool->Hp->Prop),Inv X pins σ H s->t σ H Q->wpAny (model X.prog X.w) X.A (isTrue e X.env (eval e X.env)) (TP X pins σ Q) X.xe s
def PW(X:Cx)(e:Expr)(t:TT):Prop :=
 ∀(oC:Sem Value)(pins:List (Addr×Obj))(s:Shared)(σ:St)(H:Hp)(Q:Bool->Hp->Prop),Inv X pins σ H s->t σ H Q->wpAny (model X.prog X.w) X.A (isTrue e X.env oC) (TP X pins σ Q) X.xe s
theorem PW.pt{X:Cx}{e:Expr}{t:TT}(h:PW X e t):PT X e t:=h _
def PA(X:Cx)(es:List Expr)(t:TA):Prop :=
 ∀(pos:Pos)(pins:List (Addr×Obj))(s:Shared)(σ:St)(H:Hp)(Q:List V->Hp->Prop),Inv X pins σ H s->t σ H Q->wpAny (model X.prog X.w) X.A (spliced (backTo pos (starEach es X.env))) (AP X pins σ Q) X.xe s
def PS(X:Cx)(st:Stmt)(t:TS):Prop :=
 ∀(pins:List (Addr×Obj))(s:Shared)(σ:St)(H:Hp)(D:rh),Inv X pins σ H s->t D σ H->wpAny (model X.prog X.w) X.A (exec st X.env) (SP X pins D) X.xe s
def PSs(X:Cx)(st:List Stmt)(t:TS):Prop :=
 ∀(pins:List (Addr×Obj))(s:Shared)(σ:St)(H:Hp)(D:rh),Inv X pins σ H s->t D σ H->wpAny (model X.prog X.w) X.A (execs st X.env) (SP X pins D) X.xe s
theorem thn{α:Type}{t:Sem α}{Q Q':α->Shared->Prop}{M:Model}{A:Around}{E:Value->Shared->Prop}{s:Shared}(h:wpAny M A t Q E s)(hQ:∀a s,Q a s->Q' a s):wpAny M A t Q' E s:=xT h hQ λ_ _ x=>x
end L2
namespace L2
open PySem PySem.Spec PyProof.Rows
section
variable {X:Cx}
def Fu(i:Nat):TE:=fun σ H Q=>∃v,σ[i]?=some (some v)/\Q v H
def tC(v:V):TE:=λ_ H Q=>Q v H
theorem Kl{i:Nat}{x:Str}{pos:Pos}(hN:X.N[i]?=some x)(hv:Vis X.env.scope x)(hd:(x==("__debug__":Str))=false:=by decide)(kH:(x==("__classdict__":Str))=false:=by decide):PE X (.Name x pos) (Fu i):=by
 intro pins s σ H Q I h;obtain⟨v,e,h⟩:=h;obtain⟨m,hn,hl⟩:=I.loc;obtain⟨u,r,l⟩:=hl i x v hN e hv;have aU:EP X pins σ Q u s:=⟨v,H,I,r,h⟩
 rcases l with⟨hk,hm⟩|⟨hk,c,hc,hcell⟩
 ·exact wpAny_Name (wpAny_loadName_local I.ok.kind hk hn hm aU) hd
 ·rcases hk with hk|hk
  ·exact wpAny_Name (wpAny_loadName_cell I.ok.kind hk hc hcell aU) hd
  ·exact wpAny_Name (wpAny_loadName_free I.ok.kind hk hc hcell aU kH) hd
theorem zz{i j pos}:PE X (.Constant (.int i) j pos) (tC (.int i)):=λ_ _ _ H _ I h=>wpAny_Constant_int ⟨.int i,H,I.tok _,⟨_,rfl⟩,h⟩
theorem wn{b j pos}:PE X (.Constant (.bool b) j pos) (tC (.bl b)):=λ_ _ _ H _ I h=>Constant_bool ⟨.bl b,H,I,rfl,h⟩
theorem qu{j pos}:PE X (.Constant .none j pos) (tC .non):=λ_ _ _ H _ I h=>Constant_none ⟨.non,H,I,rfl,h⟩
theorem zp{x j pos}:PE X (.Constant (.str x) j pos) (tC (.str x)):=λ_ _ _ H _ I h=>Calls.Constant_str ⟨.str x,H,I.tok _,⟨_,rfl⟩,h⟩
def Gl(X:Cx)(x:Str):Prop:=X.env.kindOf x=some .globalImplicit
theorem cw{E:Value->Shared->Prop}{pins:List (Addr×Obj)}{s:Shared}{σ:St}{H:Hp}{x:Str}{u:Value}{pos:Pos}{Q:Value->Shared->Prop}(I:Inv X pins σ H s)(hg:Gl X x)(hm:X.mg x=some u)(h:Q u s)
  (hd:(x==("__debug__":Str))=false:=by decide):wpAny (model X.prog X.w) X.A (eval (.Name x pos) X.env) Q E s :=
 Calls.Name_function_global I.ok.kind hg (Calls.loadGlobal_global (by rw[I.ok.glob];exact I.mod.glob.keeps I.bk) hm h) hd
theorem wg{E:Value->Shared->Prop}{pins:List (Addr×Obj)}{s:Shared}{σ:St}{H:Hp}{x:Str}{u:Value}{pos:Pos}{Q:Value->Shared->Prop}(I:Inv X pins σ H s)(hg:Gl X x)(hm:X.mg x=none)(hv:bootBuiltins x=some u)(h:Q u s)
  (hn:x≠"__name__":=by decide) (hd:(x==("__debug__":Str))=false:=by decide):wpAny (model X.prog X.w) X.A (eval (.Name x pos) X.env) Q E s:=by
 obtain⟨mb,h1,h2⟩:=I.mod.blt;exact Calls.Name_function_global I.ok.kind hg (Calls.loadGlobal_builtin (by rw[I.ok.glob];exact I.mod.glob.keeps I.bk) hm (by rw[I.ok.blt];exact h1.keeps I.bk) ((h2 x hn).trans hv) h) hd
theorem Nw{x:Str}{v:V}{u:Value}{pos:Pos}(hg:Gl X x)(hm:X.mg x=none)(hv:bootBuiltins x=some u)(r:RelV v u)(hn:x≠"__name__":=by decide)(hd:(x==("__debug__":Str))=false:=by decide):PE X (.Name x pos) (tC v) :=
 λ_ _ _ H _ I h=>wg I hg hm hv ⟨v,H,I,r,h⟩ hn hd
variable {a b:Expr}{ta tb:TE}{pos:Pos}
variable {tA tB':TT}{rest:List Expr}
def Ii(t u:TT):TT:=fun σ H Q=>t σ H λc H1=>if c=true then u σ H1 Q else Q false H1
def tOr(t u:TT):TT:=fun σ H Q=>t σ H λc H1=>if c=true then Q true H1 else u σ H1 Q
def Il(t:TT):TT:=fun σ H Q=>t σ H λc H1=>Q (!c) H1
theorem Wg(ha:PT X a tA):PW X (.BoolOp .And [a] pos) tA:=by
 intro wh pins s σ H Q I h;refine isTrue_and (thn (ha pins s σ H Q I h) λc s1 e=>?_);cases c with
 |true=>exact isTrue_and_nil e
 |false=>exact e
theorem dv(ha:PT X a tA):PW X (.BoolOp .Or [a] pos) tA:=by
 intro wh pins s σ H Q I h;refine isTrue_or (thn (ha pins s σ H Q I h) λc s1 e=>?_);cases c with
 |false=>exact isTrue_or_nil e
 |true=>exact e
theorem Rn(ha:PT X a tA)(hb:PW X (.BoolOp .And (b::rest) pos) tB'):PW X (.BoolOp .And (a::b::rest) pos) (Ii tA tB'):=by
 intro wh pins s σ H Q I h;refine isTrue_and (thn (ha pins s σ H _ I h) λc s1 ⟨H1,I1,q1⟩=>?_);cases c with
 |true=>exact hb wh pins s1 σ H1 Q I1 q1
 |false=>exact⟨H1,I1,q1⟩
theorem Wh(ha:PT X a tA)(hb:PW X (.BoolOp .Or (b::rest) pos) tB'):PW X (.BoolOp .Or (a::b::rest) pos) (tOr tA tB'):=by
 intro wh pins s σ H Q I h;refine isTrue_or (thn (ha pins s σ H _ I h) λc s1 ⟨H1,I1,q1⟩=>?_);cases c with
 |true=>exact⟨H1,I1,q1⟩
 |false=>exact hb wh pins s1 σ H1 Q I1 q1
theorem u5(ha:PT X a tA):PT X (.UnaryOp .Not a pos) (Il tA):=by
 intro pins s σ H Q I h;exact isTrue_not (ha pins s σ H (λc H1=>Q (!c) H1) I h)
theorem Yi{op}{t:TE}(h:PE X a t):PE X (.BoolOp op [a] pos) t:=λpins s σ H Q I hw=>BoolOp_one (h pins s σ H Q I hw)
def tIf(t:TT)(ta tb:TE):TE:=fun σ H Q=>t σ H λc H1=>if c=true then ta σ H1 Q else tb σ H1 Q
theorem Q7{c:Expr}(hc:PT X c tA)(ha:PE X a ta)(hb:PE X b tb):PE X (.IfExp c a b pos) (tIf tA ta tb):=by
 intro pins s σ H Q I h;refine wpAny_IfExp (thn (hc pins s σ H _ I h) λd s1 ⟨H1,I1,q1⟩=>?_);cases d with
 |true=>exact ha pins s1 σ H1 Q I1 q1
 |false=>exact hb pins s1 σ H1 Q I1 q1
end
end L2
namespace L2
open PySem PySem.Spec PyProof.Rows
def SqL(K:W.Frag)(H:Hp)(a:Addr)(xs:List V):Prop :=
 Rd H a (.lst xs) \/
  ∃(o:Obj)(aD:Array Value)(n:Nat),K.lookup a=some o/\o.cls = .type "list"/\o.dict=none/\o.data = .seq aD n/\aD.size<=sizeLine/\Vals xs aD.toList
def SqT(K:W.Frag)(H:Hp)(a:Addr)(xs:List V):Prop :=
 Rd H a (.tup xs) \/
  ∃(o:Obj)(aD:Array Value)(n:Nat),K.lookup a=some o/\o.cls = .type "tuple"/\o.data = .seq aD n/\aD.size<=sizeLine/\Vals xs aD.toList
def E3:Value->Option V
 | .none=>some .non
 | .bool b=>some (.bl b)
 | .int i _=>some (.int i)
 | .str x _=>some (.str x)
 | .bytes b _=>some (.byt b)
 | .float b _=>some (.flt b)
 | .ref a=>some (.ref a)
 | .type n=>some (.ty n)
 |_=>none
theorem RelV.abs{x:V}{u:Value}(r:RelV x u):E3 u=some x:=by
 cases x with
 |non=>cases r;rfl
 |bl _=>cases r;rfl
 |int _=>obtain⟨t,rfl⟩:=r;rfl
 |str _=>obtain⟨t,rfl⟩:=r;rfl
 |byt _=>obtain⟨t,rfl⟩:=r;rfl
 |flt _=>obtain⟨t,rfl⟩:=r;rfl
 |ref _=>cases r;rfl
 |ty _=>cases r;rfl
theorem RelV.inj{x y:V}{u:Value}(r:RelV x u)(q:RelV y u):x=y:=yX (r.abs.symm.trans q.abs)
theorem Vals.inj:∀{xs ys:List V}{us:List Value},Vals xs us->Vals ys us->xs=ys
 |_,_,_,.nil,.nil=>rfl
 |_,_,_,.cons r t,.cons r' t'=>by rw[r.inj r',Vals.inj t t']
section
variable {X:Cx}{pins:List (Addr×Obj)}{σ:St}{H:Hp}{s:Shared}{a:Addr}{xs ys:List V}
theorem SqL.of{K:W.Frag}(h:H a=some (.lst xs)):SqL K H a xs:=.inl (.inl h)
theorem SqT.of{K:W.Frag}(h:H a=some (.tup xs)):SqT K H a xs:=.inl (.inl h)
theorem Inv.list(I:Inv X pins σ H s)(h:SqL X.K H a xs):∃aD:List Value,Vals xs aD/\PlainL s.heap a aD.toArray/\xs.length<=sizeLine:=by
 rcases h with h|⟨o,aD,n,hk,hc,hd,hs,hz,r⟩
 ·obtain⟨z,aD,n,r,e⟩:=h.ok I.hok;exact⟨aD,r,⟨_,n,e,rfl,rfl,rfl⟩,z⟩
 ·refine⟨aD.toList,r,⟨o,n,I.kIn a o hk,hc,hd,by simpa using hs⟩,?_⟩;have e:=r.length;simp only[xD]at e;lia
theorem Inv.tuple(I:Inv X pins σ H s)(h:SqT X.K H a xs):∃aD:List Value,Vals xs aD/\IsTup s.heap a aD.toArray/\xs.length<=sizeLine:=by
 rcases h with h|⟨o,aD,n,hk,hc,hs,hz,r⟩
 ·obtain⟨z,aD,r,p⟩:=h.ok I.hok;exact⟨aD,r,p,z⟩
 ·refine⟨aD.toList,r,⟨o,I.kIn a o hk,hc,n,by simpa using hs⟩,?_⟩;have e:=r.length;simp only[xD]at e;lia
theorem Inv.list_inj(I:Inv X pins σ H s)(h:SqL X.K H a xs)(h':SqL X.K H a ys):xs=ys:=by
 obtain⟨aD,r,⟨o,n,e,_,_,d⟩,_⟩:=I.list h;obtain⟨its',r',⟨o',n',e',_,_,d'⟩,_⟩:=I.list h';rw[e]at e';cases e';rw[d]at d';injection d' with d1 _;have:aD=its':=by simpa using xK Array.toList d1
 subst this;exact r.inj r'
theorem Inv.tuple_inj(I:Inv X pins σ H s)(h:SqT X.K H a xs)(h':SqT X.K H a ys):xs=ys:=by
 obtain⟨aD,r,⟨o,e,_,n,d⟩,_⟩:=I.tuple h;obtain⟨its',r',⟨o',e',_,n',d'⟩,_⟩:=I.tuple h';rw[e]at e';cases e';rw[d]at d';injection d' with d1 _;have:aD=its':=by simpa using xK Array.toList d1
 subst this;exact r.inj r'
end
abbrev Cx.wish(X:Cx)(E:Value->Shared->Prop):Cx:={ X with xe:=E }
abbrev Cx.nox(X:Cx):Cx:=X.wish λ_ _=>False
theorem Cx.Ok.wish{X:Cx}(ok:X.Ok)(E:Value->Shared->Prop):(X.wish E).Ok :=
 ⟨ok.mod,ok.kind,ok.glob,ok.blt,ok.above,ok.inj,ok.has,ok.cab,ok.hd,ok.frames,ok.stk,ok.exf,ok.bs,ok.bsz,ok.noex,ok.exfs,ok.funs,ok.frf⟩
theorem Cx.Ok.unwish{X:Cx}{E:Value->Shared->Prop}(ok:(X.wish E).Ok):X.Ok :=
 ⟨ok.mod,ok.kind,ok.glob,ok.blt,ok.above,ok.inj,ok.has,ok.cab,ok.hd,ok.frames,ok.stk,ok.exf,ok.bs,ok.bsz,ok.noex,ok.exfs,ok.funs,ok.frf⟩
section
variable {X:Cx}{pins:List (Addr×Obj)}{σ:St}{H:Hp}{s:Shared}{E:Value->Shared->Prop}
theorem Inv.wish(I:Inv X pins σ H s)(E:Value->Shared->Prop):Inv (X.wish E) pins σ H s:=⟨I.ok.wish E,I.os,I.bare,I.base,I.loc,I.cell,I.free,I.freeC,I.pin,I.hok,I.len⟩
theorem Inv.unwish(I:Inv (X.wish E) pins σ H s):Inv X pins σ H s:=⟨I.ok.unwish,I.os,I.bare,I.base,I.loc,I.cell,I.free,I.freeC,I.pin,I.hok,I.len⟩
theorem SP.unwish{D:rh}{f:Flow}{s':Shared}(h:SP (X.wish E) pins D f s'):SP X pins D f s':=by
 cases f with
 |next=>obtain⟨σ',H',I,q⟩:=h;exact⟨σ',H',I.unwish,q⟩
 |brk=>obtain⟨σ',H',I,q⟩:=h;exact⟨σ',H',I.unwish,q⟩
 |cont=>obtain⟨σ',H',I,q⟩:=h;exact⟨σ',H',I.unwish,q⟩
 |ret u=>obtain⟨v,σ',H',I,r,q⟩:=h;exact⟨v,σ',H',I.unwish,r,q⟩
theorem PSs.nox{st:List Stmt}{t:TS}(h:PSs X.nox st t):PSs X st t:=λpins s σ H D I hw =>
 xT (h pins s σ H D (I.wish _) hw) (λ_ _ q=>q.unwish) λ_ _ z=>False.elim z
end
section
variable {X:Cx}{st:Stmt}{rest:List Stmt}{t u:TS}{e:Expr}{te:TE}{pos:Pos}
def Sr:TS:=λD σ H=>D.nx σ H
def Ss(t u:TS):TS:=λD σ H=>t { D with nx:=u D } σ H
theorem zm:PSs X [] Sr:=λ_ _ σ H _ I h=>wpAny_execs_nil ⟨σ,H,I,h⟩
theorem z5(h1:PS X st t)(h2:PSs X rest u):PSs X (st::rest) (Ss t u):=by
 intro pins s σ H D I h;refine wpAny_execs_cons (thn (h1 pins s σ H { D with nx:=u D } I h) λf s1 q=>?_);cases f with
 |next =>
  obtain⟨σ',H',I',q⟩:=q;exact h2 pins s1 σ' H' D I' q
 |ret v=>exact q
 |brk=>exact q
 |cont=>exact q
theorem z4(h1:PS X st t):PSs X [st] t:=by
 intro pins s σ H D I h;refine wpAny_execs_cons (thn (h1 pins s σ H D I h) λf s1 q=>?_);cases f with
 |next=>exact wpAny_execs_nil q
 |ret v=>exact q
 |brk=>exact q
 |cont=>exact q
theorem Inv.quiet{pins:List (Addr×Obj)}{σ:St}{H:Hp}{s:Shared}(I:Inv X pins σ H s):interactive X.env=false:=by simp[interactive,I.ok.kind]
def L6(te:TE):TS:=λD σ H=>te σ H λ_ H1=>D.nx σ H1
theorem v6(he:PE X e te)(hs:swapsWith e none pos.line X.env=pure false:=by rfl):PS X (.Expr e pos) (L6 te):=by
 intro pins s σ H D I h;exact wpAny_Expr_any (thn (he pins s σ H _ I h) λv s1 ⟨x,H1,I1,r1,q1⟩=>⟨σ,H1,I1,q1⟩) I.quiet hs
def Im(te:TE):TS:=λD σ H=>te σ H D.rt
theorem zv(he:PE X e te):PS X (.Return (some e) pos) (Im te):=by
 intro pins s σ H D I h;exact wpAny_Return_some (thn (he pins s σ H _ I h) λv s1 ⟨x,H1,I1,r1,q1⟩=>⟨x,σ,H1,I1,r1,q1⟩)
def Ij(c:TT)(t u:TS):TS:=λD σ H=>c σ H λb H1=>if b=true then t D σ H1 else u D σ H1
theorem y6{c:Expr}{a b:List Stmt}{tc:TT}(hc:PT X c tc)(ha:PSs X a t)(hb:PSs X b u):PS X (.If c a b pos) (Ij tc t u):=by
 intro pins s σ H D I h;refine wpAny_If (thn (hc pins s σ H _ I h) λd s1 ⟨H1,I1,q1⟩=>?_);cases d with
 |true=>exact ha pins s1 σ H1 D I1 q1
 |false=>exact hb pins s1 σ H1 D I1 q1
end
abbrev TG:=V->St->Hp->(St->Hp->Prop)->Prop
abbrev TGs:=List V->St->Hp->(St->Hp->Prop)->Prop
def PG(X:Cx)(bA:Expr)(t:TG):Prop :=
 ∀(pins:List (Addr×Obj))(s:Shared)(σ:St)(H:Hp)(v:V)(u:Value)(Q:St->Hp->Prop),Inv X pins σ H s->RelV v u->t v σ H Q ->
  wpAny (model X.prog X.w) X.A (assign bA X.env u) (λ_ s'=>∃σ' H',Inv X pins σ' H' s'/\Q σ' H') X.xe s
def PGs(X:Cx)(ts:List Expr)(t:TGs):Prop :=
 ∀(pins:List (Addr×Obj))(s:Shared)(σ:St)(H:Hp)(vs:List V)(us:List Value)(Q:St->Hp->Prop),Inv X pins σ H s->Vals vs us->t vs σ H Q ->
  wpAny (model X.prog X.w) X.A (assignInOrder ((assignEach ts X.env).map (·.2)) us) (λ_ s'=>∃σ' H',Inv X pins σ' H' s'/\Q σ' H') X.xe s
abbrev Os:=V->V->V->Hp->(Hp->Prop)->Prop
def L9(X:Cx)(t:Os):Prop :=
 ∀(pins:List (Addr×Obj))(s:Shared)(σ:St)(H:Hp)(o i v:V)(ov iv u:Value)(Q:Hp->Prop),Inv X pins σ H s->RelV o ov->RelV i iv->RelV v u->t o i v H Q ->
  wpAny (model X.prog X.w) X.A (setItem ov iv u) (λ_ s'=>∃H',Inv X pins σ H' s'/\Q H') X.xe s
section
variable {X:Cx}{pos:Pos}
def f6(i:Nat):TG:=λv σ H Q=>Q (σ.set i (some v)) H
theorem N1{i:Nat}{x:Str}(hN:X.N.Nodup)(hi:X.N[i]?=some x)(hx:Loc X.env.scope x)(hf:X.fn x=true\/X.env.scope.names.lookup x=some .local:=by first|exact .inl rfl|exact .inr rfl|assumption):PG X (.Name x pos) (f6 i):=by
 intro pins s σ H v u Q I r h;exact wpAny_assign_Name (bi I hN hi hx r (λs' I'=>⟨_,H,I',h⟩) hf)
def E7:TGs:=λvs σ H Q=>vs=[]/\Q σ H
def F7(t:TG)(u:TGs):TGs:=λvs σ H Q=>∃v r,vs=v::r/\t v σ H fun σ' H'=>u r σ' H' Q
theorem Wd:PGs X [] E7:=by
 intro pins s σ H vs us Q I r h;obtain⟨e,h⟩:=h;subst e;cases r;exact assignInOrder_nil ⟨σ,H,I,h⟩
theorem tw{e:Expr}{es:List Expr}{t:TG}{u:TGs}(h1:PG X e t)(h2:PGs X es u)
  (hs:(assignEach (e::es) X.env).map (·.2)=assign e X.env::(assignEach es X.env).map (·.2):=by rfl):PGs X (e::es) (F7 t u):=by
 intro pins s σ H vs us Q I r h;obtain⟨v,vr,e1,h⟩:=h;subst e1;cases r with
 |cons r rr =>
  rw[hs];refine assignInOrder_cons (thn (h1 pins s σ H _ _ _ I r h) λ_ s1 ⟨σ1,H1,I1,q1⟩=>?_);exact h2 pins s1 σ1 H1 _ _ Q I1 rr q1
def E8(K:W.Frag)(n:Nat)(t:TGs):TG:=λv σ H Q=>∃a xs,v = .ref a/\SqT K H a xs/\xs.length=n/\t xs σ H Q
theorem Rf{es:List Expr}{k:Nat}{t:TGs}{n:Nat}(hc:X.calm=true)(h:PGs X es t)
  (hn:(assignEach es X.env).length=n:=by rfl) (fR:(assignEach es X.env).findIdx? (·.1)=none:=by rfl):PG X (.Tuple es k pos) (E8 X.K n t):=by
 intro pins s σ H v u Q I r hw;obtain⟨a,xs,e1,hq,hl,hw⟩:=hw;subst e1;cases r;obtain⟨aD,rv,ht,hz⟩:=I.tuple hq;refine assign_Tuple_tuple (I.ok.hd hc) ht (by simp[hn,<-hl,rv.length]) fR λh' hx=>?_;have I1:Inv X pins σ H { s with heap:=h' }:=I.kept (t':=s.toks) λb o e=>hx b o (zF (zQ e)) e;exact h pins _ σ H xs _ Q I1 (by simpa using rv) hw
def Mj(to ti:TE)(t:Os):TG:=λv σ H Q=>to σ H λo H1=>ti σ H1 λi H2=>t o i v H2 λH3=>Q σ H3
theorem Re{o i:Expr}{to ti:TE}{t:Os}(ho:PE X o to)(hi:PE X i ti)(hs:L9 X t)
  (ha:∀v,assign (.Subscript o i pos) X.env v=(do
   let ov <-holding [v] (eval o X.env)
   let iv <-holding [v,ov] (eval i X.env)
   standAt pos
   holding [v,ov,iv] (setItem ov iv v)
   release [v,ov,iv] []):=by intro _;rfl):PG X (.Subscript o i pos) (Mj to ti t):=by
 intro pins s σ H v u Q I r h;rw[ha];refine zZ (xS (thn (ho pins s σ H _ I h) λov s1 ⟨x,H1,I1,r1,q1⟩=>?_));refine zZ (xS (thn (hi pins s1 σ H1 _ I1 q1) λiv s2 ⟨y,H2,I2,r2,q2⟩=>?_));refine zZ (wpAny_standAt (zZ (xS (thn (hs pins s2 σ H2 x y v ov iv u _ I2 r1 r2 r q2) λ_ s3 ⟨H3,I3,q3⟩=>?_))));exact wpAny_release ⟨σ,H3,I3,q3⟩
def U6(te:TE)(g:TG):TS:=λD σ H=>te σ H λx H1=>g x σ H1 D.nx
theorem Rl{tg e:Expr}{te:TE}{g:TG}(he:PE X e te)(hg:PG X tg g)(hs:swapsWithSole [tg] e pos.line X.env=pure false:=by rfl)(hw:swappedStores [tg] e X.env=pure none:=by rfl)
  (h1:(assignEach [tg] X.env).map (·.2)=[assign tg X.env]:=by rfl):PS X (.Assign [tg] e pos) (U6 te g):=by
 intro pins s σ H D I h;refine wpAny_Assign_stores (thn (he pins s σ H _ I h) λv s1 ⟨x,H1,I1,r1,q1⟩=>?_) hs hw;rw[h1];exact thn (hg pins s1 σ H1 x v _ I1 r1 q1) λ_ s2 q=>q
theorem Kp{i:Nat}{x:Str}{e:Expr}{te:TE}{lH:Pos}(hN:X.N.Nodup)(hi:X.N[i]?=some x)(hx:Loc X.env.scope x)(he:PE X e te)(hs:swapsWith e (some (.Name x lH)) pos.line X.env=pure false:=by rfl)(hf:X.fn x=true\/X.env.scope.names.lookup x=some .local:=by first|exact .inl rfl|exact .inr rfl|assumption):
  PS X (.Assign [.Name x lH] e pos) (U6 te (f6 i)):=by
 intro pins s σ H D I h;refine wpAny_Assign_Name (thn (he pins s σ H _ I h) λv s1 ⟨y,H1,I1,r1,q1⟩=>?_) hs;exact bi I1 hN hi hx r1 (λs2 I2=>⟨_,H1,I2,q1⟩) hf
end
section
variable {X:Cx}{pos:Pos}
end
structure It where
 go:Nat->Hp->Prop
 yld:Nat->Hp->V->Hp->Prop
 stop:Nat->Hp->Prop
def pi(X:Cx)(pins:List (Addr×Obj))(H:Hp)(b:Addr):Prop :=
 H b=none/\b≠X.env.locals/\b∉X.fs/\(b∈X.ex\/X.s₀.heap.objs.size<=b)/\(∀x c,X.env.cells.lookup x=some c->c≠b)/\∀p∈X.pn++pins,p.1≠b
theorem Inv.fpOk{X:Cx}{pins:List (Addr×Obj)}{σ:St}{H H':Hp}{s:Shared}{b:Addr}(I:Inv X pins σ H s)(hb:s.heap.objs.size<=b)(hn:H' b=none):pi X pins H' b:=by
 refine⟨hn,wX (zA I.lt hb),I.nofs hb,.inr (yT I.sz hb),λx c e z=>?_,λp hp z=>?_⟩
 ·obtain⟨v,q⟩:=I.cell x c e;exact absurd (zA q.lt (by rw[z];exact hb)) (vT _)
 ·exact absurd (zA (zQ (I.pin p hp).1) (by rw[z];exact hb)) (vT _)
structure Zh(P:Program)(w:World)(K:W.Frag)(tg:Expr)(J:It)(fp:List Addr)(it:Addr)(tn:Nat->Heap->Prop):Prop where
 mem:it∈fp
 obj:∀i h,tn i h->∀b∈fp,∃o,h.get? b=some o/\∀v,o.data≠.cell v
 keep:∀i h h',tn i h->(∀b∈fp,∀o,h.get? b=some o->h'.get? b=some o)->tn i h'
 item:∀(X:Cx),X.prog=P->X.w=w->X.K=K->X.calm=true->∀(i:Nat)(pins:List (Addr×Obj))(s:Shared)(σ:St)(H:Hp)(E:Value->Shared->Prop),Inv X pins σ H s->(∀b∈fp,pi X pins H b)->tn i s.heap->J.go i H ->
  wpAny (model P w) X.A (pyNext (.ref it)) (λr s1=>∃u,r=some u /\
   wpAny (model P w) X.A (letOwnedTupleGo tg (.ref it) u) (λ_ s2=>∃x H',Inv X pins σ H' s2/\RelV x u/\J.yld i H x H'/\tn (i+1) s2.heap/\∀b∈fp,H' b=none) E s1) E s
 done:∀(X:Cx),X.prog=P->X.w=w->X.K=K->X.calm=true->∀(i:Nat)(pins:List (Addr×Obj))(s:Shared)(σ:St)(H:Hp)(E:Value->Shared->Prop),Inv X pins σ H s->(∀b∈fp,pi X pins H b)->tn i s.heap->J.stop i H ->
  wpAny (model P w) X.A (pyNext (.ref it)) (λr s1=>r=none/\Inv X pins σ H s1) E s
 self:∀(A:Around)(i:Nat)(s:Shared)(Q:Value->Shared->Prop)(E:Value->Shared->Prop),tn i s.heap->Q (.ref it) s->wpAny (model P w) A (pyIter (.ref it)) Q E s
abbrev TI:=St->Hp->(It->Hp->Prop)->Prop
def PIE(X:Cx)(pins:List (Addr×Obj))(σ:St)(tg:Expr)(R:It->Hp->Prop)(itv:Value)(s2:Shared):Prop :=
 ∃(it:Addr)(fp:List Addr)(tn:Nat->Heap->Prop)(J:It)(H':Hp),itv = .ref it/\Inv X pins σ H' s2/\Zh X.prog X.w X.K tg J fp it tn/\tn 0 s2.heap/\(∀b∈fp,pi X pins H' b)/\R J H'
def PI(X:Cx)(tg iter:Expr)(wi:TI):Prop :=
 ∀(pins:List (Addr×Obj))(s:Shared)(σ:St)(H:Hp)(R:It->Hp->Prop),Inv X pins σ H s->wi σ H R ->
  wpAny (model X.prog X.w) X.A (eval iter X.env) (λv s1=>wpAny (model X.prog X.w) X.A (pyIter v) (PIE X pins σ tg R) X.xe s1) X.xe s
theorem Pj{M:Model}{A:Around}{E:Value->Shared->Prop}{s:Shared}{tg:Expr}{it:Addr}{u:Value}{o:Obj}{n:String}{vs:Array Value}{Q:Unit->Shared->Prop}(ho:s.heap.get? it=some o)(hc:o.cls = .type n)(hd:o.data = .fields vs)
  (hn:["enumerate","zip","dict_itemiterator","dict_reverseitemiterator","odict_iterator","itertools.zip_longest","itertools.pairwise"].contains n=false) (hQ:Q () s):wpAny M A (letOwnedTupleGo tg (.ref it) u) Q E s:=by
 unfold letOwnedTupleGo;cases tg<;>first
  |exact zV hQ
  |(cases u<;>first
    |exact zV hQ
    |(refine zZ (rV ho ?_);rw[hc,hd];show wpAny M A (if(["enumerate","zip","dict_itemiterator","dict_reverseitemiterator","odict_iterator","itertools.zip_longest","itertools.pairwise"].contains n&&vs[0]?==some (rawInt _))=true then _ else _) Q E s;rw[zC (by intro h;rw[hn,Bool.false_and]at h;cases h)];exact zV hQ))
def Itl(K:W.Frag)(a:Addr):It :=
 ⟨λi H=>∃xs x,SqL K H a xs/\xs[i]?=some x,λi H x H'=>H'=H/\∀xs,SqL K H a xs->xs[i]?=some x,λi H=>∃xs,SqL K H a xs/\xs.length<=i⟩
def Itt(K:W.Frag)(a:Addr):It :=
 ⟨λi H=>∃xs x,SqT K H a xs/\xs[i]?=some x,λi H x H'=>H'=H/\∀xs,SqT K H a xs->xs[i]?=some x,λi H=>∃xs,SqT K H a xs/\xs.length<=i⟩
def Itr(lo:Int)(n:Nat):It:=⟨λi _=>i<n,λi H x H'=>H'=H/\x = .int (lo+i),λi _=>n<=i⟩
theorem U7{P:Program}{w:World}{K:W.Frag}{tg:Expr}(a it:Addr):Zh P w K tg (Itl K a) [it] it (λi h=>h.IsListIter it a i)where
 mem:=by simp
 obj:=λi h st b hb=>by
  have e:b=it:=by simpa using hb
  subst e;obtain⟨o,e,c,d⟩:=st;exact⟨o,e,λv z=>by rw[d]at z;cases z⟩
 keep:=λi h h' st k=>st.at λo e=>k it (by simp) o e
 item:=by
  intro X hP hw hK hc i pins s σ H E I hf st hg;subst hP hw hK;obtain⟨xs,x,hq,hx⟩:=hg;obtain⟨aD,rv,p,hz⟩:=I.list hq;obtain⟨u,hu,ru⟩:=rv.get hx;obtain⟨f0,f1,f2,f3,f4,f5⟩:=hf it (by simp);refine wpAny_pyNext_list_item st p.isList (x:=u) (by simpa using hu) λh' fB sb=>?_;have I1:Inv X pins σ H { s with heap:=h' }:=I.turned (t':=s.toks) (λb o hb e=>(sb.2 b hb).trans e) f0 f1 f3 f4 f5;obtain⟨o,e,c,d⟩:=id fB;exact⟨u,rfl,Pj (s:={ s with heap:=h' }) e c d (by decide) ⟨x,H,I1,ru,⟨rfl,λys hy=>by rw[I.list_inj hy hq];exact hx⟩,fB,λb hb=>(hf b hb).1⟩⟩
 done:=by
  intro X hP hw hK hc i pins s σ H E I hf st hg;subst hP hw hK;obtain⟨xs,hq,hx⟩:=hg;obtain⟨aD,rv,p,hz⟩:=I.list hq;obtain⟨f0,f1,f2,f3,f4,f5⟩:=hf it (by simp);have hl:=rv.length;exact wpAny_pyNext_list_end (I.ok.hd hc) st p.isList (by simp;lia) λh' eb=>⟨rfl,I.turned (t':=s.toks) (λb o hb e=>eb b o hb e) f0 f1 f3 f4 f5⟩
 self:=λ_ _ _ _ _ st h=>wpAny_pyIter_listiter st h
theorem mn{P:Program}{w:World}{K:W.Frag}{tg:Expr}(a it:Addr):Zh P w K tg (Itt K a) [it] it (λi h=>h.IsTupleIter it a i)where
 mem:=by simp
 obj:=λi h st b hb=>by
  have e:b=it:=by simpa using hb
  subst e;obtain⟨o,e,c,d⟩:=st;exact⟨o,e,λv z=>by rw[d]at z;cases z⟩
 keep:=λi h h' st k=>st.at λo e=>k it (by simp) o e
 item:=by
  intro X hP hw hK hc i pins s σ H E I hf st hg;subst hP hw hK;obtain⟨xs,x,hq,hx⟩:=hg;obtain⟨aD,rv,p,hz⟩:=I.tuple hq;obtain⟨u,hu,ru⟩:=rv.get hx;obtain⟨f0,f1,f2,f3,f4,f5⟩:=hf it (by simp);refine wpAny_pyNext_tuple_item st (show s.heap.IsTuple a aD.toArray from p) (x:=u) (by simpa using hu) λh' fB sb=>?_;have I1:Inv X pins σ H { s with heap:=h' }:=I.turned (t':=s.toks) (λb o hb e=>(sb.2 b hb).trans e) f0 f1 f3 f4 f5;obtain⟨o,e,c,d⟩:=id fB;exact⟨u,rfl,Pj (s:={ s with heap:=h' }) e c d (by decide) ⟨x,H,I1,ru,⟨rfl,λys hy=>by rw[I.tuple_inj hy hq];exact hx⟩,fB,λb hb=>(hf b hb).1⟩⟩
 done:=by
  intro X hP hw hK hc i pins s σ H E I hf st hg;subst hP hw hK;obtain⟨xs,hq,hx⟩:=hg;obtain⟨aD,rv,p,hz⟩:=I.tuple hq;obtain⟨f0,f1,f2,f3,f4,f5⟩:=hf it (by simp);have hl:=rv.length;exact wpAny_pyNext_tuple_end (I.ok.hd hc) st (show s.heap.IsTuple a aD.toArray from p) (by simp;lia) λh' eb=>⟨rfl,I.turned (t':=s.toks) (λb o hb e=>eb b o hb e) f0 f1 f3 f4 f5⟩
 self:=λ_ _ _ _ _ st h=>wpAny_pyIter_tupleiter st h
theorem Y9{P:Program}{w:World}{K:W.Frag}{tg:Expr}(it:Addr)(lo:Int)(n:Nat):Zh P w K tg (Itr lo n) [it] it (λi h=>IsRangeIter h it (lo+(i:Nat)*1) ((n:Int)-(i:Nat)) 1)where
 mem:=by simp
 obj:=λi h st b hb=>by
  have e:b=it:=by simpa using hb
  subst e;exact⟨_,st,λv z=>by
   have z':Data.fields _=Data.cell v:=z;cases z'⟩
 keep:=λi h h' st k=>k it (by simp) _ st
 item:=by
  intro X hP hw hK hc i pins s σ H E I hf st hg;subst hP hw hK;obtain⟨f0,f1,f2,f3,f4,f5⟩:=hf it (by simp);have W:=Walks.range (prog:=X.prog) (w:=X.w) (I.ok.hd hc) it lo 1 n;refine W.item i s _ _ hg st λv h' tk hv fB kk=>?_;obtain⟨t,rfl⟩:=hv;have I1:Inv X pins σ H { s with heap:=h',toks:=tk }:=I.turned (λb o hb e=>kk b o (by simpa using hb) e) f0 f1 f3 f4 f5;refine⟨_,rfl,Pj (s:={ s with heap:=h',toks:=tk }) (n:="range_iterator") fB rfl rfl (by decide) ⟨.int (lo+i),H,I1,⟨t,?_⟩,⟨rfl,rfl⟩,fB,λb hb=>(hf b hb).1⟩⟩;rw[Int.mul_one]
 done:=by
  intro X hP hw hK hc i pins s σ H E I hf st hg;subst hP hw hK;obtain⟨f0,f1,f2,f3,f4,f5⟩:=hf it (by simp);exact wpAny_pyNext_range_end (I.ok.hd hc) st (by have:n<=i:=hg;lia) λh' eb=>⟨rfl,I.turned (t':=s.toks) (λb o hb e=>eb b o hb e) f0 f1 f3 f4 f5⟩
 self:=λ_ _ _ _ _ st h=>wpAny_pyIter_rangeiter st h
end L2
namespace L2
open PySem PySem.Spec PyProof.Rows
section
variable {X:Cx}{tg:Expr}
theorem Rp{pins:List (Addr×Obj)}{σ:St}{H:Hp}{s:Shared}{R:It->Hp->Prop}{E:Value->Shared->Prop}{lo hi:Int}{t u v:Tok}{tk:Nat}(I:Inv X pins σ H s)(h1:-(2 ^ 62)<=lo)(h2:lo<2 ^ 62)(h3:-(2 ^ 62)<=hi)(h4:hi<2 ^ 62)
  (q:R (Itr lo (hi-lo).toNat) H):wpAny (model X.prog X.w) X.A (pyIter (.ref s.heap.objs.size)) (PIE X pins σ tg R) E { s with heap:=s.heap.push { cls:=.type "range",data:=.fields #[.int lo t,.int hi u,.int 1 v] },toks:=tk }:=by
 refine wpAny_pyIter_range (IsRange.new ..) (small_one h1 h2 h3 h4) ?_;have I1:Inv X pins σ H { s with heap:=s.heap.push { cls:=.type "range",data:=.fields #[.int lo t,.int hi u,.int 1 v] },toks:=tk }:=I.kept λb o e=>zX _ e;refine⟨(s.heap.push { cls:=.type "range",data:=.fields #[.int lo t,.int hi u,.int 1 v] }).objs.size,[(s.heap.push { cls:=.type "range",data:=.fields #[.int lo t,.int hi u,.int 1 v] }).objs.size],_,_,H,rfl,
  I1.kept (t':=tk) λb o e=>zX _ e,Y9 _ lo (hi-lo).toNat,?_,λb hb=>?_,q⟩
 ·have e1:lo+((0:Nat):Int)*1=lo:=by simp
  have e2:(((hi-lo).toNat:Nat):Int)-((0:Nat):Int)=Builtin.Range.rangeSize lo hi 1:=by rw[rangeSize_one];split<;>lia
  show IsRangeIter _ _ (lo+((0:Nat):Int)*1) ((((hi-lo).toNat:Nat):Int)-((0:Nat):Int)) 1;rw[e1,e2];exact zR _ rfl
 ·have e:b=(s.heap.push { cls:=.type "range",data:=.fields #[.int lo t,.int hi u,.int 1 v] }).objs.size:=by simpa using hb
  subst e;exact I1.fpOk (zU _) (I1.hok.fresh (zU _))
def Ft(wi:TI)(g:TG)(tb:TS):TS:=λD σ H=>wi σ H λJ H1=>∃W:Nat->Nat->St->Hp->Prop,(∃m,W 0 m σ H1)/\∀i m σ H,W i m σ H ->
 (J.stop i H/\D.nx σ H)\/(J.go i H/\∃N:St->Hp->Prop,(∀σ' H',N σ' H'->∃m',m'<m/\W (i+1) m' σ' H')/\∀x H',J.yld i H x H'->g x σ H' fun σ2 H2=>tb { D with nx:=N,ct:=N,bk:=D.nx } σ2 H2)
def k8(fp:List Addr)(h:Heap):List (Addr×Obj):=fp.filterMap λb=>(h.get? b).map λo=>(b,o)
theorem ul{fp:List Addr}{h:Heap}{b:Addr}{o:Obj}(hb:b∈fp)(e:h.get? b=some o):(b,o)∈k8 fp h:=tE.mpr ⟨b,hb,by rw[e];rfl⟩
theorem Ud{fp:List Addr}{h:Heap}{p:Addr×Obj}(hp:p∈k8 fp h):p.1∈fp/\h.get? p.1=some p.2:=by
 obtain⟨b,hb,e⟩:=tE.mp hp;cases q:h.get? b with
 |none=>rw[q]at e;cases e
 |some o =>
  rw[q]at e;have e':(b,o)=p:=yX e;subst e';exact⟨hb,q⟩
theorem Inv.pinned{pins:List (Addr×Obj)}{σ:St}{H:Hp}{s:Shared}{fp:List Addr}(I:Inv X pins σ H s)(hf:∀b∈fp,pi X pins H b)(ho:∀b∈fp,∃o,s.heap.get? b=some o/\∀v,o.data≠.cell v):Inv X (pins++k8 fp s.heap) σ H s :=
 I.pins_of λp hp=>(zK.mp hp).elim (λz=>I.pin p (yP _ z)) λz=>by
  obtain⟨hb,e⟩:=Ud z;obtain⟨f0,f1,f2,_⟩:=hf p.1 hb;obtain⟨o,e',d⟩:=ho p.1 hb;rw[e]at e';cases e';exact⟨e,f0,f1,f2,d⟩
theorem Inv.unpinned{pins pl:List (Addr×Obj)}{σ:St}{H:Hp}{s:Shared}(I:Inv X (pins++pl) σ H s):Inv X pins σ H s:=I.pins_of λp hp=>I.pin p (yP _ (xO _ hp))
theorem Kn{iter:Expr}{body:List Stmt}{wi:TI}{g:TG}{tb:TS}{pos:Pos}(hp:PassesOwn (model X.prog X.w) X.A X.env X.xe)(hc:X.calm=true)(hi:PI X tg iter wi)(hg:PG X tg g)(hb:PSs X body tb)
  (hs:∀x,foldedSetIterable iter X.env x=pure x:=by intro _;rfl):PS X (.For tg iter body [] pos) (Ft wi g tb):=by
 intro pins s σ H D I h;refine wpAny_For (thn (hi pins s σ H _ I h) λv s1 h1=>thn h1 λitv s2 h2=>?_) hs;obtain⟨it,fp,tn,J,H2,e,I2,T,Dm,f2,W,⟨m0,w0⟩,mW⟩:=h2;subst e;have B5:∀{H':Hp},(∀b∈fp,H' b=none)->∀b∈fp,pi X pins H' b:=λhn b hb=>⟨hn b hb,(f2 b hb).2⟩
 refine codeAny_forLoop_any (λn s'=>∃i σ' H',Inv X pins σ' H' s'/\tn i s'.heap/\(∀b∈fp,H' b=none)/\W i n σ' H') ?_ m0 ⟨0,σ,H2,I2,Dm,λb hb=>(f2 b hb).1,w0⟩;rintro n s3 ⟨i,σ3,H3,I3,st3,fr3,w3⟩;rcases mW i n σ3 H3 w3 with⟨stop,qn⟩|⟨go,N,hN,step⟩
 ·refine tH hp (thn (T.done X rfl rfl rfl hc i pins s3 σ3 H3 X.xe I3 (B5 fr3) st3 stop) λr s4 ⟨hr,I4⟩=>?_);subst hr;exact wpAny_execs_nil ⟨σ3,H3,I4,qn⟩
 ·refine tH hp (thn (T.item X rfl rfl rfl hc i pins s3 σ3 H3 X.xe I3 (B5 fr3) st3 go) λr s4 ⟨u,hr,h4⟩=>?_);subst hr;refine tH hp (thn h4 λ_ s5 ⟨x,H5,I5,r5,y5,Cy,fr5⟩=>?_);have I5':=I5.pinned (B5 fr5) (T.obj _ _ Cy);refine tH hp (thn (hg _ s5 σ3 H5 x u _ I5' r5 (step x H5 y5)) λ_ s6 ⟨σ6,H6,I6,q6⟩=>?_);refine tH hp (thn (hb _ s6 σ6 H6 _ I6 q6) λf s7 q7=>?_);have again:∀{σ7:St}{H7:Hp},Inv X (pins++k8 fp s5.heap) σ7 H7 s7->N σ7 H7->∃m,m<n/\∃i σ' H',Inv X pins σ' H' s7/\tn i s7.heap/\(∀b∈fp,H' b=none)/\W i m σ' H':=λ{σ7 H7} I7 n7=>by
   obtain⟨m',hm,w7⟩:=hN σ7 H7 n7;refine⟨m',hm,i+1,σ7,H7,I7.unpinned,T.keep _ _ _ Cy λb hb o e=>(I7.pin (b,o) (yP _ (yP _ (ul hb e)))).1,λb hb=>?_,w7⟩;obtain⟨o,e,d⟩:=T.obj _ _ Cy b hb;exact(I7.pin (b,o) (yP _ (yP _ (ul hb e)))).2.1
  cases f with
  |next=>obtain⟨σ7,H7,I7,n7⟩:=q7;exact again I7 n7
  |cont=>obtain⟨σ7,H7,I7,n7⟩:=q7;exact again I7 n7
  |brk=>obtain⟨σ7,H7,I7,q7⟩:=q7;exact⟨σ7,H7,I7.unpinned,q7⟩
  |ret v=>obtain⟨x7,σ7,H7,I7,r7,q7⟩:=q7;exact⟨x7,σ7,H7,I7.unpinned,r7,q7⟩
end
theorem Pg{K:W.Frag}{a:Addr}{xs:List V}{g:TG}{tb:TS}{D:rh}{σ:St}{H:Hp}(Pv:Nat->St->Hp->Prop)(h0:Pv 0 σ H)(hl:∀i σ H,i<=xs.length->Pv i σ H->SqL K H a xs)
  (hs:∀i x σ H,xs[i]?=some x->Pv i σ H->g x σ H fun σ2 H2=>tb { D with nx:=Pv (i+1),ct:=Pv (i+1),bk:=D.nx } σ2 H2) (hd:∀σ H,Pv xs.length σ H->D.nx σ H) :
  ∃W:Nat->Nat->St->Hp->Prop,(∃m,W 0 m σ H)/\∀i m σ H,W i m σ H ->
   ((Itl K a).stop i H/\D.nx σ H)\/((Itl K a).go i H/\∃N:St->Hp->Prop,(∀σ' H',N σ' H'->∃m',m'<m/\W (i+1) m' σ' H')/\∀x H',(Itl K a).yld i H x H'->g x σ H' fun σ2 H2=>tb { D with nx:=N,ct:=N,bk:=D.nx } σ2 H2):=by
 refine⟨λi m σ H=>m=xs.length-i/\i<=xs.length/\Pv i σ H,⟨xs.length,by simp,yR _,h0⟩,?_⟩;rintro i m σ H ⟨rfl,hi,p⟩;have q:=hl i σ H hi p
 by_cases aI:i<xs.length
 ·refine .inr ⟨⟨xs,xs[i],q,by simp[aI]⟩,Pv (i+1),fun σ' H' p'=>⟨xs.length-(i+1),by lia,rfl,aI,p'⟩,λx H' y=>?_⟩;obtain⟨e,y⟩:=y;subst e;exact hs i x σ _ (y xs q) p
 ·have e:i=xs.length:=by lia
  subst e;exact .inl ⟨⟨xs,q,zU _⟩,hd σ H p⟩
theorem Mi{K:W.Frag}{a:Addr}{xs:List V}{g:TG}{tb:TS}{D:rh}{σ:St}{H:Hp}(Pv:Nat->St->Hp->Prop)(h0:Pv 0 σ H)(hl:∀i σ H,i<=xs.length->Pv i σ H->SqT K H a xs)
  (hs:∀i x σ H,xs[i]?=some x->Pv i σ H->g x σ H fun σ2 H2=>tb { D with nx:=Pv (i+1),ct:=Pv (i+1),bk:=D.nx } σ2 H2) (hd:∀σ H,Pv xs.length σ H->D.nx σ H) :
  ∃W:Nat->Nat->St->Hp->Prop,(∃m,W 0 m σ H)/\∀i m σ H,W i m σ H ->
   ((Itt K a).stop i H/\D.nx σ H)\/((Itt K a).go i H/\∃N:St->Hp->Prop,(∀σ' H',N σ' H'->∃m',m'<m/\W (i+1) m' σ' H')/\∀x H',(Itt K a).yld i H x H'->g x σ H' fun σ2 H2=>tb { D with nx:=N,ct:=N,bk:=D.nx } σ2 H2):=by
 refine⟨λi m σ H=>m=xs.length-i/\i<=xs.length/\Pv i σ H,⟨xs.length,by simp,yR _,h0⟩,?_⟩;rintro i m σ H ⟨rfl,hi,p⟩;have q:=hl i σ H hi p
 by_cases aI:i<xs.length
 ·refine .inr ⟨⟨xs,xs[i],q,by simp[aI]⟩,Pv (i+1),fun σ' H' p'=>⟨xs.length-(i+1),by lia,rfl,aI,p'⟩,λx H' y=>?_⟩;obtain⟨e,y⟩:=y;subst e;exact hs i x σ _ (y xs q) p
 ·have e:i=xs.length:=by lia
  subst e;exact .inl ⟨⟨xs,q,zU _⟩,hd σ H p⟩
theorem Tl{lo:Int}{n:Nat}{g:TG}{tb:TS}{D:rh}{σ:St}{H:Hp}(Pv:Nat->St->Hp->Prop)(h0:Pv 0 σ H)
  (hs:∀i σ H,i<n->Pv i σ H->g (.int (lo+i)) σ H fun σ2 H2=>tb { D with nx:=Pv (i+1),ct:=Pv (i+1),bk:=D.nx } σ2 H2) (hd:∀σ H,Pv n σ H->D.nx σ H) :
  ∃W:Nat->Nat->St->Hp->Prop,(∃m,W 0 m σ H)/\∀i m σ H,W i m σ H ->
   ((Itr lo n).stop i H/\D.nx σ H)\/((Itr lo n).go i H/\∃N:St->Hp->Prop,(∀σ' H',N σ' H'->∃m',m'<m/\W (i+1) m' σ' H')/\∀x H',(Itr lo n).yld i H x H'->g x σ H' fun σ2 H2=>tb { D with nx:=N,ct:=N,bk:=D.nx } σ2 H2):=by
 refine⟨λi m σ H=>m=n-i/\i<=n/\Pv i σ H,⟨n,by simp,yR _,h0⟩,?_⟩;rintro i m σ H ⟨rfl,hi,p⟩
 by_cases aI:i<n
 ·refine .inr ⟨aI,Pv (i+1),fun σ' H' p'=>⟨n-(i+1),by lia,rfl,aI,p'⟩,λx H' y=>?_⟩;obtain⟨e,y⟩:=y;subst e y;exact hs i σ _ aI p
 ·have e:i=n:=by lia
  subst e;exact .inl ⟨zU _,hd σ H p⟩
end L2
namespace L2
open PySem PySem.Spec PyProof.Rows
abbrev R2:=V->V->Hp->VK->Prop
def OpR(X:Cx)(f:Value->Value->Sem Value)(r:R2):Prop :=
 ∀(pins:List (Addr×Obj))(s:Shared)(σ:St)(H:Hp)(x y:V)(v u:Value)(Q:VK),Inv X pins σ H s->RelV x v->RelV y u->r x y H Q ->
  wpAny (model X.prog X.w) X.A (f v u) (EP X pins σ Q) X.xe s
def UnR(X:Cx)(f:Value->Sem Value)(r:V->Hp->VK->Prop):Prop :=
 ∀(pins:List (Addr×Obj))(s:Shared)(σ:St)(H:Hp)(x:V)(v:Value)(Q:VK),Inv X pins σ H s->RelV x v->r x H Q ->
  wpAny (model X.prog X.w) X.A (f v) (EP X pins σ Q) X.xe s
def ww(X:Cx)(f:Value)(r:List V->Hp->VK->Prop):Prop :=
 ∀(pins:List (Addr×Obj))(s:Shared)(σ:St)(H:Hp)(xs:List V)(us:List Value)(Q:VK),Inv X pins σ H s->Vals xs us->r xs H Q ->
  wpAny (model X.prog X.w) X.A (call f us) (EP X pins σ Q) X.xe s
def tOp(r:R2)(ta tb:TE):TE:=fun σ H Q=>ta σ H λx H1=>tb σ H1 λy H2=>r x y H2 Q
def tUn(r:V->Hp->VK->Prop)(ta:TE):TE:=fun σ H Q=>ta σ H λx H1=>r x H1 Q
def rI(C:Int->Int->Prop)(g:Int->Int->V):R2:=λx y H Q=>∃i j,x = .int i/\y = .int j/\C i j/\Q (g i j) H
def rI0(g:Int->Int->V):R2:=λx y H Q=>∃i j,x = .int i/\y = .int j/\Q (g i j) H
def rU(g:Int->V):V->Hp->VK->Prop:=λx H Q=>∃i,x = .int i/\Q (g i) H
section
variable {X:Cx}{a b c:Expr}{ta tb tc:TE}{pos:Pos}
theorem Iz(ha:PE X a ta)(hb:PE X b tb){pins:List (Addr×Obj)}{s:Shared}{σ:St}{H:Hp}{R:V->V->Hp->Prop}(I:Inv X pins σ H s)
  (h:ta σ H λx H1=>tb σ H1 λy H2=>R x y H2) {Q:Value->Shared->Prop}{f:Value->Value->Sem Value}
  (hf:∀v u s2 x y H2,Inv X pins σ H2 s2->RelV x v->RelV y u->R x y H2->wpAny (model X.prog X.w) X.A (f v u) Q X.xe s2) :
  wpAny (model X.prog X.w) X.A (eval a X.env) (λv s₁=>wpAny (model X.prog X.w) X.A (eval b X.env) (λu s₂=>wpAny (model X.prog X.w) X.A (f v u) Q X.xe s₂) X.xe s₁) X.xe s:=by
 refine thn (ha pins s σ H _ I h) λv s1 ⟨x,H1,I1,r1,q1⟩=>?_;refine thn (hb pins s1 σ H1 _ I1 q1) λu s2 ⟨y,H2,I2,r2,q2⟩=>?_;exact hf v u s2 x y H2 I2 r1 r2 q2
theorem zt{op:Operator}{r:R2}(ho:OpR X (binaryOp op) r)(ha:PE X a ta)(hb:PE X b tb):PE X (.BinOp a op b pos) (tOp r ta tb):=by
 intro pins s σ H Q I h;exact wpAny_BinOp (Iz ha hb I h λv u s2 x y H2 I2 rx ry q=>ho pins s2 σ H2 x y v u Q I2 rx ry q)
theorem Lz{op:UnaryOp}{r:V->Hp->VK->Prop}(ho:UnR X (unaryOp op) r)(ha:PE X a ta):PE X (.UnaryOp op a pos) (tUn r ta):=by
 intro pins s σ H Q I h;exact UnaryOp_ (thn (ha pins s σ H _ I h) λv s1 ⟨x,H1,I1,r1,q1⟩=>ho pins s1 σ H1 x v Q I1 r1 q1)
theorem opI{f:Value->Value->Sem Value}{C:Int->Int->Prop}{g:Int->Int->Int}
  (rule:∀(i j:Int)(t u:Tok)(s:Shared)(Q:Value->Shared->Prop)(E:Value->Shared->Prop),C i j->Q (.int (g i j) s.toks) { s with toks:=s.toks+1 }->wpAny (model X.prog X.w) X.A (f (.int i t) (.int j u)) Q E s) :
  OpR X f (rI C λi j=>.int (g i j)):=by
 intro pins s σ H x y v u Q I rx ry h;obtain⟨i,j,rfl,rfl,hc,q⟩:=h;obtain⟨t,rfl⟩:=rx;obtain⟨t',rfl⟩:=ry;exact rule i j t t' s _ _ hc ⟨.int (g i j),H,I.tok _,⟨_,rfl⟩,q⟩
theorem G5{f:Value->Value->Sem Value}{g:Int->Int->Int}
  (rule:∀(i j:Int)(t u:Tok)(s:Shared)(Q:Value->Shared->Prop)(E:Value->Shared->Prop),Q (.int (g i j) s.toks) { s with toks:=s.toks+1 }->wpAny (model X.prog X.w) X.A (f (.int i t) (.int j u)) Q E s) :
  OpR X f (rI0 λi j=>.int (g i j)):=by
 intro pins s σ H x y v u Q I rx ry h;obtain⟨i,j,rfl,rfl,q⟩:=h;obtain⟨t,rfl⟩:=rx;obtain⟨t',rfl⟩:=ry;exact rule i j t t' s _ _ ⟨.int (g i j),H,I.tok _,⟨_,rfl⟩,q⟩
theorem Nq{f:Value->Value->Sem Value}{g:Int->Int->Bool}
  (rule:∀(i j:Int)(t u:Tok)(s:Shared)(Q:Value->Shared->Prop)(E:Value->Shared->Prop),Q (.bool (g i j)) s->wpAny (model X.prog X.w) X.A (f (.int i t) (.int j u)) Q E s) :
  OpR X f (rI0 λi j=>.bl (g i j)):=by
 intro pins s σ H x y v u Q I rx ry h;obtain⟨i,j,rfl,rfl,q⟩:=h;obtain⟨t,rfl⟩:=rx;obtain⟨t',rfl⟩:=ry;exact rule i j t t' s _ _ ⟨.bl (g i j),H,I,rfl,q⟩
def Fx(i j:Int):Prop:=0<j/\j<1073741824
def CMul(i j:Int):Prop:=(-(2 ^ 64)<i/\i<2 ^ 64)\/(-(2 ^ 64)<j/\j<2 ^ 64)
theorem CMul.ok{i j:Int}(h:CMul i j):IntMulOk i j:=by
 rcases h with⟨h1,h2⟩|⟨h1,h2⟩
 ·exact .of_left (intBits_le_64 h1 h2)
 ·exact .of_right (intBits_le_64 h1 h2)
theorem Ke:OpR X (binaryOp .Add) (rI0 λi j=>.int (i+j)):=G5 λ_ _ _ _ _ _ _ q=>add_int q
theorem Kj:OpR X (binaryOp .Sub) (rI0 λi j=>.int (i-j)):=G5 λ_ _ _ _ _ _ _ q=>sub_int q
theorem Ki:OpR X (binaryOp .Mult) (rI CMul λi j=>.int (i*j)):=opI λ_ _ _ _ _ _ _ hc q=>mul_int q hc.ok
theorem Nt:OpR X (binaryOp .FloorDiv) (rI Fx λi j=>.int (i / j)):=opI λi j _ _ _ _ _ hc q=>by
 have h1:(0:Int)<j:=hc.1;have h2:j<1073741824:=hc.2;exact floordiv_int (by lia) (by rw[Int.fdiv_eq_ediv_of_nonneg i (by lia)];exact q) (.inl (PyProof.noPylong_small (by lia)))
theorem Kh:OpR X (binaryOp .Mod) (rI (λ_ j=>0<j) λi j=>.int (i % j)):=opI λi j _ _ _ _ _ hc q=>by
 have h1:(0:Int)<j:=hc;exact mod_int' (by lia) (by rw[Int.fmod_eq_emod_of_nonneg i (by lia)];exact q)
theorem unI{f:Value->Sem Value}{g:Int->Int}
  (rule:∀(i:Int)(t:Tok)(s:Shared)(Q:Value->Shared->Prop)(E:Value->Shared->Prop),Q (.int (g i) s.toks) { s with toks:=s.toks+1 }->wpAny (model X.prog X.w) X.A (f (.int i t)) Q E s) :
  UnR X f (rU λi=>.int (g i)):=by
 intro pins s σ H x v Q I rx h;obtain⟨i,rfl,q⟩:=h;obtain⟨t,rfl⟩:=rx;exact rule i t s _ _ ⟨.int (g i),H,I.tok _,⟨_,rfl⟩,q⟩
theorem Sx:UnR X (unaryOp .USub) (rU λi=>.int (-i)):=unI λ_ _ _ _ _ q=>neg_int q
end
def K9:V->V->Bool
 | .non,.non=>true|.non,.int _=>true|.int _,.non=>true|.non,.bl _=>true|.bl _,.non=>true|.non,.str _=>true|.str _,.non=>true
 | .int _,.int _=>true|.bl _,.bl _=>true|.str _,.str _=>true|.byt _,.byt _=>true
 | .int _,.str _=>true|.str _,.int _=>true|.bl _,.str _=>true|.str _,.bl _=>true
 |_,_=>false
def rEq:R2:=λx y H Q=>K9 x y=true/\Q (.bl (decide (x=y))) H
def rNe:R2:=λx y H Q=>K9 x y=true/\Q (.bl (!decide (x=y))) H
theorem Vm{i j:Int}:decide (V.int i=V.int j)=(i==j):=by
 rw[tG];simp
theorem O7{i j:Bool}:decide (V.bl i=V.bl j)=(i==j):=by
 rw[tG];simp
theorem Vn{i j:Str}:decide (V.str i=V.str j)=(i==j):=by
 rw[tG];simp
theorem Vl{i j:Array UInt8}:decide (V.byt i=V.byt j)=(i.toList==j.toList):=by
 rw[tG];cases i;cases j;simp
section
variable {X:Cx}{a b c:Expr}{ta tb tc:TE}{pos:Pos}
theorem ym{pins:List (Addr×Obj)}{σ:St}{H:Hp}{s:Shared}{Q:VK}{k k':Bool}(I:Inv X pins σ H s)(q:Q (.bl k) H)(e:k=k'):EP X pins σ Q (.bool k') s:=by
 subst e;exact⟨.bl k,H,I,rfl,q⟩
theorem G6:OpR X (compareOp .Eq) rEq:=by
 intro pins s σ H x y v u Q I rx ry h;obtain⟨hs,q⟩:=h;cases x with
 |non =>
  cases rx;cases y with
  |non=>cases ry;exact PySem.EqNone.eq_none_none (ym I q (by simp))
  |bl j=>cases ry;exact PySem.EqNone.eq_none_bool (ym I q (by simp))
  |int j=>obtain⟨t',rfl⟩:=ry;exact PySem.EqNone.eq_none_int (ym I q (by simp))
  |str j=>obtain⟨t',rfl⟩:=ry;exact PySem.EqNone.eq_none_str (ym I q (by simp))
  |_=>exact absurd (show false=true from hs) zE
 |bl i =>
  cases rx;cases y with
  |non=>cases ry;exact PySem.EqNone.eq_bool_none (ym I q (by simp))
  |bl j=>cases ry;exact eq_bool (ym I q O7)
  |str j=>obtain⟨t',rfl⟩:=ry;exact PySem.EqMixed.eq_bool_str (ym I q (by simp))
  |_=>exact absurd (show false=true from hs) zE
 |int i =>
  obtain⟨t,rfl⟩:=rx;cases y with
  |non=>cases ry;exact PySem.EqNone.eq_int_none (ym I q (by simp))
  |int j=>obtain⟨t',rfl⟩:=ry;exact eq_int (ym I q Vm)
  |str j=>obtain⟨t',rfl⟩:=ry;exact PySem.EqMixed.eq_int_str (ym I q (by simp))
  |_=>exact absurd (show false=true from hs) zE
 |str i =>
  obtain⟨t,rfl⟩:=rx;cases y with
  |non=>cases ry;exact PySem.EqNone.eq_str_none (ym I q (by simp))
  |bl j=>cases ry;exact PySem.EqMixed.eq_str_bool (ym I q (by simp))
  |int j=>obtain⟨t',rfl⟩:=ry;exact PySem.EqMixed.eq_str_int (ym I q (by simp))
  |str j=>obtain⟨t',rfl⟩:=ry;exact eq_str (ym I q Vn)
  |_=>exact absurd (show false=true from hs) zE
 |byt i =>
  obtain⟨t,rfl⟩:=rx;cases y with
  |byt j=>obtain⟨t',rfl⟩:=ry;exact W.eq_bytes (ym I q Vl)
  |_=>exact absurd (show false=true from hs) zE
 |_=>cases y<;>exact absurd (show false=true from hs) zE
theorem Hb:OpR X (compareOp .NotEq) rNe:=by
 intro pins s σ H x y v u Q I rx ry h;obtain⟨hs,q⟩:=h;cases x with
 |non =>
  cases rx;cases y with
  |non=>cases ry;exact PySem.EqNone.ne_none_none (ym I q (by simp))
  |bl j=>cases ry;exact PySem.EqNone.ne_none_bool (ym I q (by simp))
  |int j=>obtain⟨t',rfl⟩:=ry;exact PySem.EqNone.ne_none_int (ym I q (by simp))
  |str j=>obtain⟨t',rfl⟩:=ry;exact PySem.EqNone.ne_none_str (ym I q (by simp))
  |_=>exact absurd (show false=true from hs) zE
 |bl i =>
  cases rx;cases y with
  |non=>cases ry;exact PySem.EqNone.ne_bool_none (ym I q (by simp))
  |bl j=>cases ry;exact ne_bool (ym I q (xK not O7))
  |str j=>obtain⟨t',rfl⟩:=ry;exact PySem.EqMixed.ne_bool_str (ym I q (by simp))
  |_=>exact absurd (show false=true from hs) zE
 |int i =>
  obtain⟨t,rfl⟩:=rx;cases y with
  |non=>cases ry;exact PySem.EqNone.ne_int_none (ym I q (by simp))
  |int j=>obtain⟨t',rfl⟩:=ry;exact ne_int (ym I q (xK not Vm))
  |str j=>obtain⟨t',rfl⟩:=ry;exact PySem.EqMixed.ne_int_str (ym I q (by simp))
  |_=>exact absurd (show false=true from hs) zE
 |str i =>
  obtain⟨t,rfl⟩:=rx;cases y with
  |non=>cases ry;exact PySem.EqNone.ne_str_none (ym I q (by simp))
  |bl j=>cases ry;exact PySem.EqMixed.ne_str_bool (ym I q (by simp))
  |int j=>obtain⟨t',rfl⟩:=ry;exact PySem.EqMixed.ne_str_int (ym I q (by simp))
  |str j=>obtain⟨t',rfl⟩:=ry;exact ne_str (ym I q (xK not Vn))
  |_=>exact absurd (show false=true from hs) zE
 |byt i =>
  obtain⟨t,rfl⟩:=rx;cases y with
  |byt j=>obtain⟨t',rfl⟩:=ry;exact W.ne_bytes (ym I q (xK not Vl))
  |_=>exact absurd (show false=true from hs) zE
 |_=>cases y<;>exact absurd (show false=true from hs) zE
theorem Ha:OpR X (compareOp .Lt) (rI0 λi j=>.bl (decide (i<j))):=Nq λ_ _ _ _ _ _ _ q=>lt_int q
theorem G9:OpR X (compareOp .LtE) (rI0 λi j=>.bl (decide (i<=j))):=Nq λ_ _ _ _ _ _ _ q=>le_int q
theorem G8:OpR X (compareOp .Gt) (rI0 λi j=>.bl (decide (j<i))):=Nq λ_ _ _ _ _ _ _ q=>gt_int q
theorem G7:OpR X (compareOp .GtE) (rI0 λi j=>.bl (decide (j<=i))):=Nq λ_ _ _ _ _ _ _ q=>ge_int q
theorem Kg:OpR X (compareOp .Is) (λx y H Q=>y = .non/\Q (.bl (decide (x = .non))) H):=by
 intro pins s σ H x y v u Q I rx ry h;obtain⟨rfl,q⟩:=h;cases ry;refine is_none_gen (ym I q ?_);cases x<;>first
  |(cases rx;rfl)
  |(obtain⟨t,rfl⟩:=rx;rfl)
theorem zi(b:Expr){op:CmpOp}(h:op≠.In:=by decide)(h2:op≠.NotIn:=by decide):behindInMarks op b=false:=by
 have e1:(op==CmpOp.In)=false:=by cases op<;>first|rfl|exact absurd rfl h
 have e2:(op==CmpOp.NotIn)=false:=by cases op<;>first|rfl|exact absurd rfl h2
 cases b<;>simp[behindInMarks,e1,e2]
theorem uq{op:CmpOp}{r:R2}(ho:OpR X (compareOp op) r)(ha:PE X a ta)(hb:PE X b tb)(hm:behindInMarks op b=false):PE X (.Compare a [op] [b] pos) (tOp r ta tb):=by
 intro pins s σ H Q I h;exact wpAny_Compare1 (Iz ha hb I h λv u s2 x y H2 I2 rx ry q=>ho pins s2 σ H2 x y v u Q I2 rx ry q) hm
theorem o8:(sizeLine:Nat)<2 ^ 63:=by rw[zM];decide
theorem Yf:OpR X (binaryOp .Add) (λx y H Q=>∃i j,x = .str i/\y = .str j/\i.length+j.length<=sizeLine/\Q (.str (i++j)) H):=by
 intro pins s σ H x y v u Q I rx ry h;obtain⟨i,j,rfl,rfl,hz,q⟩:=h;obtain⟨t,rfl⟩:=rx;obtain⟨t',rfl⟩:=ry;exact add_str (λt' tk=>⟨.str (i++j),H,I.tok _,⟨_,rfl⟩,q⟩) hz
theorem wc{x:V}{us:List Value}(r:Vals [x] us):∃u,us=[u]/\RelV x u:=by
 cases r with
 |cons r1 r2=>cases r2;exact⟨_,rfl,r1⟩
theorem br{x y:V}{us:List Value}(r:Vals [x,y] us):∃u w',us=[u,w']/\RelV x u/\RelV y w':=by
 cases r with
 |cons r1 r2 =>
  cases r2 with
  |cons r3 r4=>cases r4;exact⟨_,_,rfl,r1,r3⟩
theorem Zl:ww X (.builtin "abs") (λxs H Q=>∃i,xs=[.int i]/\Q (.int (if i<0 then -i else i)) H):=by
 intro pins s σ H xs us Q I r h;obtain⟨i,rfl,q⟩:=h;obtain⟨u,rfl,t,rfl⟩:=wc r;exact call_abs_int λu tk=>⟨.int (if i<0 then -i else i),H,I.tok _,⟨_,rfl⟩,q⟩
theorem Ta(hc:X.calm=true):ww X (.builtin "max") (λxs H Q=>∃i j,xs=[.int i,.int j]/\Q (.int (if j>i then j else i)) H):=by
 intro pins s σ H xs us Q I r h;obtain⟨i,j,rfl,q⟩:=h;obtain⟨u,w',rfl,⟨t,rfl⟩,⟨t',rfl⟩⟩:=br r;refine max_two_ints (I.ok.hd hc) λh' tk k=>⟨_,H,I.kept k,?_,q⟩
 by_cases hj:j>i
 ·rw[yV hj,yV hj];exact⟨_,rfl⟩
 ·rw[zC hj,zC hj];exact⟨_,rfl⟩
theorem Tc(hc:X.calm=true):ww X (.builtin "min") (λxs H Q=>∃i j,xs=[.int i,.int j]/\Q (.int (if j<i then j else i)) H):=by
 intro pins s σ H xs us Q I r h;obtain⟨i,j,rfl,q⟩:=h;obtain⟨u,w',rfl,⟨t,rfl⟩,⟨t',rfl⟩⟩:=br r;refine min_two_ints (I.ok.hd hc) λh' tk k=>⟨_,H,I.kept k,?_,q⟩
 by_cases hj:j<i
 ·rw[yV hj,yV hj];exact⟨_,rfl⟩
 ·rw[zC hj,zC hj];exact⟨_,rfl⟩
theorem S9:ww X (.type "int") (λxs H Q=>(∃i,xs=[.int i]/\Q (.int i) H)\/∃k,xs=[.bl k]/\Q (.int (if k then 1 else 0)) H):=by
 intro pins s σ H xs us Q I r h;rcases h with⟨i,rfl,q⟩|⟨k,rfl,q⟩
 ·obtain⟨u,rfl,t,rfl⟩:=wc r;exact call_int_int ⟨.int i,H,I,⟨_,rfl⟩,q⟩
 ·obtain⟨u,rfl,r1⟩:=wc r;cases r1;exact call_int_bool ⟨.int (if k then 1 else 0),H,I.tok _,⟨_,rfl⟩,q⟩
theorem ck:ww X (.type "str") (λxs H Q=>∃i,xs=[.int i]/\i.natAbs.log2<1920/\Q (.str (toString i)) H):=by
 intro pins s σ H xs us Q I r h;obtain⟨i,rfl,hz,q⟩:=h;obtain⟨u,rfl,t,rfl⟩:=wc r;exact PySem.P.str_of_int hz ⟨.str _,H,I.tok _,⟨_,rfl⟩,q⟩
end
end L2
namespace L2
open PySem PySem.Spec PyProof.Rows
structure ObjM(h:Heap)(x dx C:Addr)(mA:Str->Option Value):Prop where
 obj:h.get? x=some (W.instObj C dx)
 ns:h.Ns1 dx mA
 ne:dx≠x
theorem T3{h:Heap}{dx:Addr}{mA:Str->Option Value}(n:h.Ns1 dx mA):∃od,h.get? dx=some od/\∀name,W.lookIn name od=some (mA name):=by
 obtain⟨o,es,ep,ho,hd,hk,_,hm⟩:=n;refine⟨o,ho,λname=>?_⟩;have e:=hm name;unfold nsFind findBy at e;rw[<-Array.find?_toList]at e;unfold W.lookIn;rw[hd];dsimp only;split
 ·rename_i y q;rw[q]at e;exact xK some e
 ·rename_i q;rw[q]at e;have a:es.toList.any (·.refKey)=false:=by
   rw[List.any_eq_false];intro y hy;obtain⟨z,t,pI⟩:=hk y (Array.mem_toList_iff.mp hy);simp[DictEntry.refKey,pI]
  have a':¬es.toList.any (·.refKey)=true:=by rw[a];exact zE
  rw[zC a'];exact xK some e
theorem ObjM.look{h:Heap}{x dx C:Addr}{mA:Str->Option Value}(I:ObjM h x dx C mA):∃od,W.InstAt h x (W.instObj C dx) C (some od)/\∀name,W.lookIn name od=some (mA name) :=
 let⟨od,ho,hl⟩:=T3 I.ns
 ⟨od,⟨I.obj,rfl,rfl,ho⟩,hl⟩
section
variable {prog:Program}{w:World}{A:Around}{E:Value->Shared->Prop}{s:Shared}{K:W.Frag}{x dx C f:Addr}{mA:Str->Option Value}{name:Str}{v:Value}
theorem Ml{expr:Bool}{Q:Value->Shared->Prop}(X:K.In s.heap)(I:ObjM s.heap x dx C mA)(hg:W.plainGet K C name=true)(hh:W.hasDictIn K C=true)
  (ha:W.findIn K (.ref C) name=some none) (hv:mA name=some v) (mZ:W.handedIn v=true) (h:Q v { s with toks:=s.toks+1 }) :
  wpAny (model prog w) A (getAttr (.ref x) name expr) Q E s:=by
 obtain⟨od,J,hl⟩:=I.look;exact W.get_value X J (W.plainGet_of hg).1 (W.findObj_own hh ha rfl (by rw[hl,hv])) mZ h
theorem Pi{pl:Sem Bool}{Q:Value×List Value->Shared->Prop}(X:K.In s.heap)(I:ObjM s.heap x dx C mA)(hg:W.plainGet K C name=true)
  (hf:W.findIn K (.ref C) name=some (some (.ref f))) (ht:W.isFn K (.ref f)=true) (hv:mA name=none) (h:Q (.ref f,[.ref x]) s) :
  wpAny (model prog w) A (getMethod (.ref x) name pl) Q E s:=by
 obtain⟨od,J,hl⟩:=I.look;exact W.method_fn X J (W.plainGet_of hg).1 (W.plainGet_of hg).2 hf (uM.mp ht) (by show(W.lookIn name od).map (·.isSome)=some false;rw[hl,hv];rfl) h
theorem Ob{ns:List Str}{Q:Unit->Shared->Prop}(X:K.In s.heap)(I:ObjM s.heap x dx C mA)
  (hs:W.findIn K (.ref C) "__setattr__"=some (some (.builtin "object.__setattr__"))) (hp:W.plainOver K C=true) (ht:W.takerIn K C name=some none) (hh:W.hasDictIn K C=true)
  (hw:PySem.Within mA ns) (hsz:ns.length<=sizeLine)
  (h:∀h',ObjM h' x dx C (λy=>if y=name then some v else mA y)->Heap.SameBut dx s.heap h'->Q () { s with heap:=h',toks:=s.toks+2 }) :
  wpAny (model prog w) A (setAttr (.ref x) name v) Q E s:=by
 obtain⟨od,J,hl⟩:=I.look;refine W.set_plain X J hs (W.osa_open (s:={ s with toks:=s.toks+1 }) (r:=none) X J hp ht λb=>?_);obtain⟨cd,hc,oQ⟩:=W.any_some hh;have hx:s.heap.get? x=some ⟨.ref C,some dx,.plain,#[]⟩:=I.obj;refine zZ (zV (zZ (zZ (wpAny_loadPart hx (zZ (W.Looks.here (s:={ s with toks:=s.toks+1 }) (W.looks_clsIn X hc) ?_))))));rw[oQ];refine zV (a:=some dx) (zZ (zV (zZ ?_)));refine wpAny_nsSet1 (s:={ s with toks:=s.toks+1 }) I.ns λh' CD fS=>?_;obtain⟨oD,esD,epD,hoD,hdD,hcD⟩:=CD.count (PySem.Within.cons name v hw);refine zZ (wpAny_lookBehind hoD (by rw[hdD];exact pastItsLine_dict (yT hcD (by rw[yL];lia))) ?_);exact zV (h _ ⟨(fS.2 _ (wU I.ne)).trans I.obj,CD,I.ne⟩ fS)
theorem Qj{R:Result->Shared->Prop}{vs:List Value}{kw:List (Str×Value)}(X:K.In s.heap)(hm:W.makesIn K C=true)
  (hi:W.findIn K (.ref C) "__init__"=some (some (.ref f))) (hf:W.typeIn K (.ref f)=some (.type "function"))
  (h:codeAny (model prog w) (A.under (.builtin "type.__call__" ⟨.ref C::vs,kw⟩)) (.call (.ref f) ⟨.ref (s.heap.objs.size+1)::vs,kw⟩) (W.InitBack (s.heap.objs.size+1) R)
   { s with heap:=(s.heap.push W.emptyDict).push (W.instObj C s.heap.objs.size) }) :
  codeAny (model prog w) A (.call (.ref C) ⟨vs,kw⟩) R s:=by
 obtain⟨hh,g,d,t,os⟩:=s;exact W.make_core (W.makes_of X hm) (W.looks_findIn X hi) (λself=>W.bind_fn X self hf) (.inl rfl) h
theorem T8{R:Result->Shared->Prop}(X:K.In s.heap)(hm:W.makesIn K C=true)
  (hi:W.findIn K (.ref C) "__init__"=some (some (.builtin "object.__init__")))
  (hb:∀self,W.Looks (model prog w) s.heap (bindSpecial (.builtin "object.__init__") self) (.builtin "object.__init__",[self]))
  (h:codeAny (model prog w) (A.under (.builtin "type.__call__" ⟨[.ref C],[]⟩)) (.call (.builtin "object.__init__") ⟨[.ref (s.heap.objs.size+1)],[]⟩) (W.InitBack (s.heap.objs.size+1) R)
   { s with heap:=(s.heap.push W.emptyDict).push (W.instObj C s.heap.objs.size) }) :
  codeAny (model prog w) A (.call (.ref C) ⟨[],[]⟩) R s:=by
 obtain⟨hh,g,d,t,os⟩:=s;exact W.make_core (W.makes_of X hm) (W.looks_findIn X hi) hb (.inr ⟨rfl,rfl⟩) h
end
def rk(f:Str)(v:V):List (Str×V)->List (Str×V)
 |[]=>[(f,v)]
 |(g,x)::r=>if g=f then(g,v)::r else(g,x)::rk f v r
theorem og(f g:Str)(v:V):∀fs:List (Str×V),(rk f v fs).lookup g=if g=f then some v else fs.lookup g
 |[]=>by
  show List.lookup g [(f,v)]=_
  by_cases h:g=f
  ·have hb:(g==f)=true:=uM.mpr h;simp only[List.lookup,hb,yV h]
  ·have hb:(g==f)=false:=wA.mpr h;simp only[List.lookup,hb,zC h]
 |(k,x)::r=>by
  have ih:=og f g v r;rw[show rk f v ((k,x)::r)=(if k=f then(k,v)::r else(k,x)::rk f v r)from rfl]
  by_cases hk:k=f
  ·rw[yV hk]
   by_cases h:g=k
   ·have hb:(g==k)=true:=uM.mpr h;simp only[List.lookup,hb,yV (h.trans hk)]
   ·have hb:(g==k)=false:=wA.mpr h;simp only[List.lookup,hb,zC (λe:g=f=>h (e.trans hk.symm))]
  ·rw[zC hk]
   by_cases h:g=k
   ·have hb:(g==k)=true:=uM.mpr h;simp only[List.lookup,hb,zC (λe:g=f=>hk (h.symm.trans e))]
   ·have hb:(g==k)=false:=wA.mpr h;simp only[List.lookup,hb];exact ih
theorem o6(f:Str)(v:V):∀fs:List (Str×V),f∈(rk f v fs).map (·.1)/\∀g,g∈fs.map (·.1)->g∈(rk f v fs).map (·.1)
 |[]=>⟨by simp[rk],λg h=>by simp at h⟩
 |(k,x)::r=>by
  obtain⟨i1,i2⟩:=o6 f v r;rw[show rk f v ((k,x)::r)=(if k=f then(k,v)::r else(k,x)::rk f v r)from rfl]
  by_cases hk:k=f
  ·rw[yV hk];subst hk;exact⟨by simp,λg h=>by simpa using h⟩
  ·rw[zC hk];refine⟨?_,λg h=>?_⟩
   ·rw[List.map_cons];exact zH _ i1
   ·rw[List.map_cons]at h ⊢;rcases zI.mp h with e|e
    ·exact zI.mpr (.inl e)
    ·exact zH _ (i2 g e)
theorem nu(f:Str)(v:V):∀fs:List (Str×V),(rk f v fs).length<=fs.length+1
 |[]=>by simp[rk]
 |(k,x)::r=>by
  have ih:=nu f v r;rw[show rk f v ((k,x)::r)=(if k=f then(k,v)::r else(k,x)::rk f v r)from rfl]
  by_cases hk:k=f
  ·rw[yV hk,yL,yL];lia
  ·rw[zC hk,yL,yL];lia
theorem RelO.some_of{v:V}{o:Option Value}(r:RelO (some v) o):∃u,o=some u/\RelV v u:=by
 cases o with
 |none=>exact(show False from r).elim
 |some u=>exact⟨u,rfl,r⟩
theorem RelO.none_of{o:Option Value}(r:RelO none o):o=none:=by
 cases o with
 |none=>rfl
 |some u=>exact(show False from r).elim
theorem Tn{v:V}{u:Value}(r:RelV v u):W.handedIn u=true:=by
 cases v with
 |non=>cases(show u=Value.none from r);rfl
 |bl b=>cases(show u=Value.bool b from r);rfl
 |int i=>obtain⟨t,e⟩:=(show∃t,u=Value.int i t from r);cases e;rfl
 |str x=>obtain⟨t,e⟩:=(show∃t,u=Value.str x t from r);cases e;rfl
 |byt b=>obtain⟨t,e⟩:=(show∃t,u=Value.bytes b t from r);cases e;rfl
 |flt b=>obtain⟨t,e⟩:=(show∃t,u=Value.float b t from r);cases e;rfl
 |ref a=>cases(show u=Value.ref a from r);rfl
 |ty n=>cases(show u=Value.type n from r);rfl
section
variable {P:Program}{w:World}{H H':Hp}{h h':Heap}{a C dx:Addr}{fs fs':List (Str×V)}
theorem mw(hok:HOk P w H h)(e:H a=some (.ins C dx fs)):∃mA,ObjM h a dx C mA/\(∀f,RelO (fs.lookup f) (mA f))/\PySem.Within mA (fs.map (·.1))/\fs.length<=1000/\H dx=some (.own a):=by
 obtain⟨d,z,ne,ob,mA,n,r,q⟩:=(show ObjOk P w H h a (.ins C dx fs)from hok a _ e)
 exact⟨mA,⟨ob,n,ne⟩,r,q,z,d⟩
end
structure Cls(K:W.Frag)(C:Addr):Prop where
 pg:W.plainGet K C Str.empty=true
 hd:W.hasDictIn K C=true
 po:W.plainOver K C=true
 sa:W.findIn K (.ref C) "__setattr__"=some (some (.builtin "object.__setattr__"))
theorem Cls.get{K:W.Frag}{C:Addr}(c:Cls K C)(f:Str):W.plainGet K C f=true:=c.pg
def NoAttr(K:W.Frag)(C:Addr)(f:Str):Prop:=W.findIn K (.ref C) f=some none
theorem NoAttr.taker{K:W.Frag}{C:Addr}{f:Str}(n:NoAttr K C f):W.takerIn K C f=some none:=by
 unfold W.takerIn;rw[show W.findIn K (.ref C) f=some none from n]
 rfl
structure Con(K:W.Frag)(C:Addr)(f:Str)(v:V)(u:Value):Prop where
 at_:W.findIn K (.ref C) f=some (some u)
 rel:RelV v u
 get:W.specialIn K u "__get__"=some none
 cp:W.copiedNames.contains f=false
structure L8(K:W.Frag)(C:Addr)(m:Str)(f:Addr):Prop where
 at_:W.findIn K (.ref C) m=some (some (.ref f))
 fn:W.isFn K (.ref f)=true
 kp:W.keepIn K (.ref f)=true
section
variable {X:Cx}{pins:List (Addr×Obj)}{σ:St}{H:Hp}{s:Shared}{a C dx:Addr}{fs:List (Str×V)}{f:Str}{v:V}{A:Around}{E:Value->Shared->Prop}
theorem Xg{b:Bool}{Q:Value->Shared->Prop}(I:Inv X pins σ H s)(e:H a=some (.ins C dx fs))(c:Cls X.K C)(n:NoAttr X.K C f)(l:fs.lookup f=some v)
  (h:∀u s',Inv X pins σ H s'->RelV v u->Q u s'):wpAny (model X.prog X.w) A (getAttr (.ref a) f b) Q E s:=by
 obtain⟨mA,O,r,_,_,_⟩:=mw I.hok e;obtain⟨u,hu,ru⟩:=RelO.some_of (v:=v) (o:=mA f) (by rw[<-l];exact r f);exact Ml I.kIn O (c.get f) c.hd n hu (Tn ru) (h u _ (I.tok _) ru)
theorem Xh{m:Str}{g:Addr}{pl:Sem Bool}{Q:Value×List Value->Shared->Prop}(I:Inv X pins σ H s)(e:H a=some (.ins C dx fs))(c:Cls X.K C)(k:L8 X.K C m g)(l:fs.lookup m=none)
  (h:Q (.ref g,[.ref a]) s):wpAny (model X.prog X.w) A (getMethod (.ref a) m pl) Q E s:=by
 obtain⟨mA,O,r,_,_,_⟩:=mw I.hok e;have hn:mA m=none:=RelO.none_of (by rw[<-l];exact r m);exact Pi I.kIn O (c.get m) k.at_ k.fn hn h
theorem Yr{y:V}{u:Value}{Q:Unit->Shared->Prop}(I:Inv X pins σ H s)(e:H a=some (.ins C dx fs))(c:Cls X.K C)(n:NoAttr X.K C f)(hl:fs.length<1000)(ry:RelV y u)
  (h:∀s',Inv X pins σ (upd H a (.ins C dx (rk f y fs))) s'->Q () s'):wpAny (model X.prog X.w) A (setAttr (.ref a) f u) Q E s:=by
 obtain⟨mA,O,r,wi,_,ho⟩:=mw I.hok e;have hz:(fs.map (·.1)).length<=sizeLine:=by rw[zY,zM];lia
 refine Ob I.kIn O c.sa c.po n.taker c.hd wi hz λh' O' sb=>h _ ?_;have hd:∃o,h'.get? dx=some o:=let⟨o,_,_,e',_⟩:=O'.ns;⟨o,e'⟩;refine I.write (x:=a) (e:=dx) (by rw[e];exact True.intro) (.inr ho) (λb q hb z=>(sb.2 b hb).trans z) hd ?_;refine⟨by rw[zh O.ne];exact ho,?_,O.ne,O'.obj,_,O'.ns,λg=>?_,λg hg=>?_⟩
 ·have:=nu f y fs;lia
 ·show RelO ((rk f y fs).lookup g) (if g=f then some u else mA g);rw[og]
  by_cases q:g=f
  ·rw[yV q,yV q];exact ry
  ·rw[zC q,zC q];exact r g
 ·by_cases q:g=f
  ·rw[q];exact(o6 f y fs).1
  ·refine(o6 f y fs).2 g (wi g λz=>hg ?_);show(if g=f then some u else mA g)=none;rw[zC q];exact z
theorem Inv.made(I:Inv X pins σ H s):Inv X pins σ (upd (upd H s.heap.objs.size (.own (s.heap.objs.size+1))) (s.heap.objs.size+1) (.ins C s.heap.objs.size []))
  { s with heap:=(s.heap.push W.emptyDict).push (W.instObj C s.heap.objs.size) }:=by
 have e1:(s.heap.push W.emptyDict).get? s.heap.objs.size=some W.emptyDict:=zR s.heap rfl;have e2:((s.heap.push W.emptyDict).push (W.instObj C s.heap.objs.size)).get? (s.heap.objs.size+1)=some (W.instObj C s.heap.objs.size):=by
  have:=zR (s.heap.push W.emptyDict) (o:=W.instObj C s.heap.objs.size) rfl
  rwa [xX]at this
 have e3:(s.heap.push W.emptyDict).Ns s.heap.objs.size (λ_=>none):=⟨W.emptyDict,#[],_,e1,rfl,(λe he=>absurd he (by simp)),λ_=>rfl⟩
 have I1:=I.laid (a:=s.heap.objs.size) (o:=.own (s.heap.objs.size+1)) (h':=s.heap.push W.emptyDict) (t':=s.toks) (λb u q=>zX _ q) (zU _) ⟨_,e1⟩;refine I1.laid (a:=s.heap.objs.size+1) (o:=.ins C s.heap.objs.size []) (t':=s.toks) (λb u q=>zX _ q) (vK (xX _ _)) ?_;have ne:s.heap.objs.size≠s.heap.objs.size+1:=zF (yB _);refine⟨by rw[zh ne,zx],yR _,ne,e2,λ_=>none,(Heap.Ns1.of_empty e3).at λo q=>zX _ q,λ_=>True.intro,λy hy=>absurd rfl hy⟩
theorem Me{prog:Program}{w:World}{env:Env}{e:Expr}{f:Str}{pos:Pos}{s:Shared}{Q:Value->Shared->Prop}(hb:attributeBase e f env (eval e env)=eval e env)
  (h:wpAny (model prog w) A (eval e env) (λo s₁=>wpAny (model prog w) A (getAttr o f true) Q E s₁) E s):wpAny (model prog w) A (eval (.Attribute e f pos) env) Q E s :=
 Attribute_any_ h (by rw[arm_eval_Attribute,hb])
end
def Fs(K:W.Frag)(ta:TE)(f:Str):TE:=fun σ H Q=>ta σ H λx H1=>∃a C dx fs v,x = .ref a/\H1 a=some (.ins C dx fs)/\Cls K C/\NoAttr K C f/\fs.lookup f=some v/\Q v H1
def Ie(K:W.Frag)(ta tv:TE)(f:Str):TS:=λD σ H=>tv σ H λy H1=>ta σ H1 λx H2=>∃a C dx fs,x = .ref a/\H2 a=some (.ins C dx fs)/\Cls K C/\NoAttr K C f/\fs.length<1000 /\
 D.nx σ (upd H2 a (.ins C dx (rk f y fs)))
section
variable {X:Cx}{o e value:Expr}{f:Str}{pos lH tpos:Pos}{ta tv:TE}
theorem Yh(he:PE X e ta)(hb:attributeBase e f X.env (eval e X.env)=eval e X.env):PE X (.Attribute e f pos) (Fs X.K ta f):=by
 intro pins s σ H Q I h;refine Me hb (thn (he pins s σ H _ I h) λu s1 ⟨x,H1,I1,rx,a,C,dx,fs,v,ex,ea,c,n,l,q⟩=>?_);subst ex;obtain rfl:u=Value.ref a:=rx;exact Xg I1 ea c n l λu' s2 I2 ru=>⟨v,H1,I2,ru,q⟩
theorem Rm(ha:PE X o ta)(hv:PE X value tv)(hs:swapsWith value (some (.Attribute o f lH)) pos.line X.env=pure false):PS X (.Assign [.Attribute o f lH] value pos) (Ie X.K ta tv f):=by
 intro pins s σ H D I h;refine plainObj_wpAny_Assign_Attribute (thn (hv pins s σ H _ I h) λu s1 ⟨y,H1,I1,ry,q⟩=>thn (ha pins s1 σ H1 _ I1 q) λov s2 ⟨x,H2,I2,rx,a,C,dx,fs,ex,ea,c,n,l,q2⟩=>?_) hs;subst ex;obtain rfl:ov=Value.ref a:=rx;exact Yr I2 ea c n l ry λs3 I3=>⟨σ,_,I3,q2⟩
end
section
variable {X:Cx}{pins:List (Addr×Obj)}{σ:St}{H:Hp}{s:Shared}{A:Around}{E:Value->Shared->Prop}{Q:Value->Shared->Prop}{c:Value}{b:Bool}
inductive TyOf (K:W.Frag) (H:Hp):V->Value->Prop where
 |non:TyOf K H .non (.type "NoneType")
 |bl (x:Bool):TyOf K H (.bl x) (.type "bool")
 |int (i:Int):TyOf K H (.int i) (.type "int")
 |str (x:Str):TyOf K H (.str x) (.type "str")
 |flt (x:UInt64):TyOf K H (.flt x) (.type "float")
 |lst {a:Addr}{xs:List V} (e:H a=some (.lst xs)):TyOf K H (.ref a) (.type "list")
 |frz {a:Addr}{o:Obj}{xs:List V} (e:H a=some (.frz o (.lst xs))):TyOf K H (.ref a) (.type "list")
 |tup {a:Addr}{xs:List V} (e:H a=some (.tup xs)):TyOf K H (.ref a) (.type "tuple")
 |dK {a:Addr}{kvs:List (Key×V)} (e:H a=some (.dK kvs)):TyOf K H (.ref a) (.type "dict")
 |dT {a:Addr}{kvs:List (List Key×V)} (e:H a=some (.dT kvs)):TyOf K H (.ref a) (.type "dict")
 |ins {a C dx:Addr}{fs:List (Str×V)} (e:H a=some (.ins C dx fs)) (cl:Cls K C) (ha:W.findIn K (.ref C) "__class__"=some (some (.builtin "object.__class__")))
   (hn:W.specialIn K (.builtin "object.__class__") "__get__"=some (some (.builtin "getset_descriptor.__get__"))) (htk:W.takesIn K (.builtin "object.__class__")=some true)
   (hm:W.mroIn K C (.type "object")=some true):TyOf K H (.ref a) (.ref C)
theorem Tr{x:V}{u t:Value}(I:Inv X pins σ H s)(rx:RelV x u)(ty:TyOf X.K H x t)(e:W.kitOne X.K t c=some b)(h:∀tk,Q (.bool b) { s with toks:=tk }):
  wpAny (model X.prog X.w) A (call (.builtin "isinstance") [u,c]) Q E s:=by
 cases ty with
 |non=>cases(show u=Value.none from rx);exact xB W.kitx_none I.kIn True.intro e (λz=>nomatch z) h
 |bl y=>cases(show u=Value.bool y from rx);exact xB W.kitx_bool I.kIn True.intro e (λz=>nomatch z) h
 |int i=>obtain⟨t,q⟩:=(show∃t,u=Value.int i t from rx);cases q;exact xB W.kitx_int I.kIn True.intro e (λz=>nomatch z) h
 |str y=>obtain⟨t,q⟩:=(show∃t,u=Value.str y t from rx);cases q;exact xB W.kitx_str I.kIn True.intro e (λz=>nomatch z) h
 |flt y=>obtain⟨t,q⟩:=(show∃t,u=Value.float y t from rx);cases q;exact xB W.kitx_float I.kIn True.intro e (λz=>nomatch z) h
 | @lst a xs ea =>
  cases(show u=Value.ref a from rx);obtain⟨_,_,n,_,h1⟩:=(show ObjOk X.prog X.w H s.heap a (.lst xs)from I.hok a _ ea)
  exact xB W.kitx_list I.kIn ⟨_,h1,rfl⟩ e (λz=>nomatch z) h
 | @frz a ob xs ea =>
  cases(show u=Value.ref a from rx);obtain⟨_,_,_,n,_,h1⟩:=(show ObjOk X.prog X.w H s.heap a (.frz ob (.lst xs))from I.hok a _ ea)
  exact xB W.kitx_list I.kIn ⟨_,h1,rfl⟩ e (λz=>nomatch z) h
 | @tup a xs ea =>
  cases(show u=Value.ref a from rx);obtain⟨_,_,_,p⟩:=(show ObjOk X.prog X.w H s.heap a (.tup xs)from I.hok a _ ea)
  obtain⟨o,h1,h2,_⟩:=p;exact xB W.kitx_tuple I.kIn ⟨o,h1,h2⟩ e (λz=>nomatch z) h
 | @dK a kvs ea =>
  cases(show u=Value.ref a from rx);obtain⟨_,_,vs,_,p⟩:=(show ObjOk X.prog X.w H s.heap a (.dK kvs)from I.hok a _ ea)
  obtain⟨o,es,ep,h1,h2,_⟩:=p;exact xB W.kitx_dict I.kIn ⟨o,h1,h2.1⟩ e (λz=>nomatch z) h
 | @dT a kvs ea =>
  cases(show u=Value.ref a from rx);obtain⟨_,_,xs,_,o,es,ep,h1,h2,_⟩:=(show ObjOk X.prog X.w H s.heap a (.dT kvs)from I.hok a _ ea)
  exact xB W.kitx_dict I.kIn ⟨o,h1,h2.1⟩ e (λz=>nomatch z) h
 | @ins a C dx fs ea cl ha hn htk hm =>
  cases(show u=Value.ref a from rx);obtain⟨mA,O,_⟩:=mw I.hok ea;obtain⟨od,J,_⟩:=O.look;exact xB (W.kitx_own (cl.get _) cl.hd ha hn htk hm) I.kIn J e (λz=>nomatch z) h
end
end L2
namespace L2
open PySem PySem.Spec PyProof.Rows
structure Room(k:Nat)(A:Around):Prop where
 hd:A.handled=none
 dp:A.depth+3*k+5<recursionLimit
 un:A.units+16*k+200<cLine
theorem Room.mono{j k:Nat}{A:Around}(r:Room k A)(h:j<=k):Room j A:=⟨r.hd,by have:=r.dp;lia,by have:=r.un;lia⟩
theorem Room.deeper{k:Nat}{A:Around}(r:Room (k+1) A)(env:Env):Room k (A.deeper env) :=
 ⟨r.hd,by have:=r.dp;show A.depth+1+3*k+5<_;lia,by have:=r.un;show A.units+3+16*k+200<_;lia⟩
theorem Room.in1{k:Nat}{A:Around}(r:Room (k+1) A):Room k A.in1 :=
 ⟨r.hd,by have:=r.dp;show A.depth+3*k+5<_;lia,by have:=r.un;show A.units+1+16*k+200<_;lia⟩
theorem Xy{A:Around}{C:Addr}{us:List Value}{kw:List (Str×Value)}:(A.under (.builtin "type.__call__" ⟨.ref C::us,kw⟩)).depth=A.depth+1:=by
 first|rfl|simp[Around.under,Code.weight,Code.isCreation,Code.isGuard,Code.isCaller,Code.frames,Code.isFrame,guardIds]
theorem Xz{A:Around}{C:Addr}{us:List Value}{kw:List (Str×Value)}:(A.under (.builtin "type.__call__" ⟨.ref C::us,kw⟩)).units=A.units+1:=by
 first|rfl|simp[Around.under,Code.cUnits,Code.frames,Code.isFrame]
theorem Room.make{k:Nat}{A:Around}(r:Room (k+1) A)(C:Addr)(us:List Value)(kw:List (Str×Value)):Room k (A.under (.builtin "type.__call__" ⟨.ref C::us,kw⟩)) :=
 ⟨r.hd,by have:=r.dp;rw[Xy];lia,by have:=r.un;rw[Xz];lia⟩
theorem Room.depth{k:Nat}{A:Around}(r:Room k A):A.depth<recursionLimit:=by have:=r.dp;lia
theorem Room.units{k:Nat}{A:Around}(r:Room k A):A.units+64<cLine:=by have:=r.un;lia
def Ik:TA:=λ_ H Q=>Q [] H
def L5(ta:TE)(tr:TA):TA:=fun σ H Q=>ta σ H λx H1=>tr σ H1 λxs H2=>Q (x::xs) H2
section
variable {X:Cx}{e:Expr}{es:List Expr}{te:TE}{t:TA}{pos:Pos}
theorem z6:PA X [] Ik:=λ_ _ _ _ H Q I h=>vP ⟨[],H,I,.nil,h⟩
theorem z9(ha:PE X e te)(hr:PA X es t)(hs:starEach (e::es) X.env=(false,eval e X.env)::starEach es X.env:=by rfl):PA X (e::es) (L5 te t):=by
 intro pos pins s σ H Q I h;rw[hs];show wpAny _ _ (spliced ((false,eval e X.env)::backTo pos (starEach es X.env))) _ _ s;refine vD (thn (ha pins s σ H _ I h) λu s1 ⟨x,H1,I1,r1,q1⟩=>?_);exact thn (hr pos pins s1 σ H1 _ I1 q1) λus s2 ⟨xs,H2,I2,r2,q2⟩=>⟨x::xs,H2,I2,.cons r1 r2,q2⟩
end
abbrev Sp:=List V->Hp->VK->XK->Prop
abbrev CXT:=List Env->Hp->Shared->XK->Value->Shared->Prop
structure Env0(P:Program)(w:World)(K:W.Frag)(mg:Str->Option Value)(base:Heap)(A:Around)(outer:List Env)(s:Shared)(H:Hp):Prop where
 frames:A.frames=some outer
 mod:Mod K mg base
 bs:∀b o,base.get? b=some o->s.heap.get? b=some o/\H b=none
 bsz:base.objs.size<=s.heap.objs.size
 funs:s.heap.FunFrames base outer
 frf:∀b∈frs outer,H b=none
 hok:HOk P w H s.heap
 bare:AllBare s.gens
def CE(outer:List Env)(P:Program)(w:World)(H:Hp)(s:Shared)(Q:VK)(u:Value)(s':Shared):Prop :=
 ∃v H',s'.os=s.os/\AllBare s'.gens/\Un (frs outer) [] H H' s.heap s'.heap/\HOk P w H' s'.heap/\RelV v u/\Q v H'
def CR(CX:CXT)(outer:List Env)(P:Program)(w:World)(H:Hp)(s:Shared)(Q:VK)(E:XK)(r:Result)(s':Shared):Prop :=
 match r with
 | .ok (.ret u)=>CE outer P w H s Q u s'
 | .ok _=>False
 | .error e=>CX outer H s E e s'
structure FnOk(P:Program)(w:World)(K:W.Frag)(mg:Str->Option Value)(base:Heap)(CX:CXT)(k:Nat)(f:Addr)(fd:FuncData)(ps:List Str)(sp:Sp):Prop where
 len:∀vs H Q E,sp vs H Q E->vs.length=ps.length
 run:∀(A:Around)(outer:List Env)(s:Shared)(H:Hp)(args:Args)(us:List Value)(vs:List V)(Q:VK)(E:XK),Room k A->Env0 P w K mg base A outer s H->BindsTo s fd args (ps.zip us)->Vals vs us->sp vs H Q E ->
  codeAny (model P w) A (.call (.ref f) args) (CR CX outer P w H s Q E) s
theorem FnOk.mono{P:Program}{w:World}{K:W.Frag}{mg:Str->Option Value}{base:Heap}{CX:CXT}{j k:Nat}{f:Addr}{fd:FuncData}{ps:List Str}{sp:Sp}(F:FnOk P w K mg base CX j f fd ps sp)(h:j<=k):
  FnOk P w K mg base CX k f fd ps sp:=⟨F.len,λA outer s H args us vs Q E hr=>F.run A outer s H args us vs Q E (hr.mono h)⟩
theorem FnOk.imp{P:Program}{w:World}{K:W.Frag}{mg:Str->Option Value}{base:Heap}{CX:CXT}{k:Nat}{f:Addr}{fd:FuncData}{ps:List Str}{sp Do:Sp}(F:FnOk P w K mg base CX k f fd ps sp)
  (h:∀vs H Q E,Do vs H Q E->sp vs H Q E):FnOk P w K mg base CX k f fd ps Do :=
 ⟨λvs H Q E q=>F.len vs H Q E (h _ _ _ _ q),λA outer s H args us vs Q E hr he hb hv hs=>F.run A outer s H args us vs Q E hr he hb hv (h _ _ _ _ hs)⟩
theorem Env0.make{P:Program}{w:World}{K:W.Frag}{mg:Str->Option Value}{base:Heap}{A:Around}{outer:List Env}{s:Shared}{H:Hp}(e:Env0 P w K mg base A outer s H)(C:Addr)(us:List Value)(kw:List (Str×Value)):
  Env0 P w K mg base (A.under (.builtin "type.__call__" ⟨.ref C::us,kw⟩)) outer s H:=⟨by first|exact e.frames|(simpa[Around.under,Code.envs,Code.isFrame,pushEnvs]using e.frames),e.mod,e.bs,e.bsz,e.funs,e.frf,e.hok,e.bare⟩
section
variable {X:Cx}{pins:List (Addr×Obj)}{σ:St}{H:Hp}{s s':Shared}
theorem Inv.env0(I:Inv X pins σ H s):Env0 X.prog X.w X.K X.mg X.base X.A X.stack s H :=
 ⟨I.ok.frames,I.ok.mod,I.bs,yT I.ok.bsz I.sz,I.stack,I.stkFree,I.hok,I.bare⟩
theorem Inv.after{Q:VK}{u:Value}(I:Inv X pins σ H s)(h:CE X.stack X.prog X.w H s Q u s'):EP X pins σ Q u s':=by
 obtain⟨v,H',os,bare,un,hok,r,q⟩:=h;obtain⟨hh,g,d,t,os'⟩:=s';obtain rfl:os'=s.os:=os;exact⟨v,H',I.call (h':=hh) (g':=g) (d':=d) (t':=t) (ch:=[]) un hok bare (λb z=>absurd z (by simp)),r,q⟩
end
def Sn(sp:Sp)(kY:List V)(E:XK)(t:TA):TE:=fun σ H Q=>t σ H λvs H1=>sp (vs++kY) H1 Q E
def L7(C:Addr)(m:Str)(sp:Sp)(kY:List V)(E:XK)(ta:TE)(t:TA):TE:=fun σ H Q=>ta σ H λx H1=>∃a dx fs,x = .ref a/\H1 a=some (.ins C dx fs)/\fs.lookup m=none /\
 t σ H1 λvs H2=>sp (x::(vs++kY)) H2 Q E
def So(C:Addr)(sp:Sp)(kY:List V)(E:XK)(t:TA):TE:=fun σ H Q=>t σ H λvs H1=>∀x dx,H1 x=none->H1 dx=none->dx≠x ->
 sp (.ref x::(vs++kY)) (upd (upd H1 dx (.own x)) x (.ins C dx [])) (λv H2=>v = .non/\Q (.ref x) H2) E
def Binds(K:W.Frag)(fd:FuncData)(ps:List Str)(ds:List Value):Prop :=
 ∀(s:Shared)(us:List Value),K.In s.heap->(us++ds).length=ps.length->BindsTo s fd ⟨us,[]⟩ (ps.zip (us++ds))
theorem Binds.all{K:W.Frag}{fd:FuncData}{ps:List Str}(h:∀us:List Value,us.length=ps.length->bindArgs fd ⟨us,[]⟩=pure (ps.zip us)):Binds K fd ps []:=λs us _ hl=>by
 rw[List.append_nil]at hl ⊢;exact .of_eq (h us hl)
def ou(CX:CXT)(X:Cx)(E:XK):Prop:=∀(pins:List (Addr×Obj))(σ:St)(H:Hp)(s:Shared)(e:Value)(s':Shared),Inv X pins σ H s->CX X.stack H s E e s'->X.xe e s'
section
variable {X:Cx}{CX:CXT}{k:Nat}{f C:Addr}{fd:FuncData}{ps:List Str}{sp:Sp}{kY:List V}{ds:List Value}{E:XK}{x m:Str}{p pos apos:Pos}{e o:Expr}{es:List Expr}{ta:TE}{t:TA}
theorem Rv{pins:List (Addr×Obj)}{σ:St}{H:Hp}{s:Shared}{Q:VK}{us:List Value}{vs:List V}(F:FnOk X.prog X.w X.K X.mg X.base CX k f fd ps sp)(hr:Room k X.A)(hb:Binds X.K fd ps ds)(hd:Vals kY ds)(hx:ou CX X E)
  (I:Inv X pins σ H s) (r:Vals vs us) (h:sp (vs++kY) H Q E):wpAny (model X.prog X.w) X.A (call (.ref f) us) (EP X pins σ Q) X.xe s:=by
 have r2:Vals (vs++kY) (us++ds):=r.append hd;have hl:(us++ds).length=ps.length:=by rw[<-r2.length];exact F.len _ _ _ _ h
 refine wpAny_call (uN (F.run X.A X.stack s H ⟨us,[]⟩ (us++ds) (vs++kY) Q E hr I.env0 (hb s us I.kIn hl) r2 h) λr s' hq=>?_);cases r with
 |error e=>exact hx pins σ H s e s' I hq
 |ok fl =>
  cases fl with
  |ret u=>exact I.after hq
  |next=>exact False.elim hq
  |brk=>exact False.elim hq
  |cont=>exact False.elim hq
theorem Nx(F:FnOk X.prog X.w X.K X.mg X.base CX k f fd ps sp)(hr:Room k X.A)(hg:Gl X x)(hm:X.mg x=some (.ref f))(hk:W.keepIn X.K (.ref f)=true)(hb:Binds X.K fd ps ds)(hd:Vals kY ds)(hx:ou CX X E)
  (ha:PA X (e::es) t) (pK:(x==("__debug__":Str))=false:=by decide) (he:starEach (e::es) X.env=(false,eval e X.env)::starEach es X.env:=by rfl) (bL:(backTo pos (starEach es X.env)).any (·.1)=false:=by rfl) :
  PE X (.Call (.Name x p) (e::es) [] pos) (Sn sp kY E t):=by
 intro pins s σ H Q I h;refine wL (cw I hg hm ?_ pK);refine W.callWith_K (h₀:=X.base) I.ok.mod.kin hk (thn (ha pos pins s σ H _ I h) λus s1 ⟨vs,H1,I1,r,q⟩=>⟨I1.kIn,?_⟩) he bL;exact Rv F hr hb hd hx I1 r q
theorem Nz{pl:Sem Bool}(he:PE X o ta)(c:Cls X.K C)(hm:L8 X.K C m f)(F:FnOk X.prog X.w X.K X.mg X.base CX k f fd ps sp)(hr:Room k X.A)(hb:Binds X.K fd ps ds)(hd:Vals kY ds)(hx:ou CX X E)(ha:PA X (e::es) t)
  (fR:starEach (e::es) X.env=(false,eval e X.env)::starEach es X.env:=by rfl) (bL:(backTo pos (starEach es X.env)).any (·.1)=false:=by rfl)
  (ht:eval (.Call (.Attribute o m apos) (e::es) [] pos) X.env=(do
   let ov <-eval o X.env
   standAt apos.atName
   let(f,first) <-holding [ov] (getMethod ov m pl)
   callWith pos f first (backTo pos (starEach (e::es) X.env)) (backToKw pos (keywordEach [] X.env))):=by rfl) :
  PE X (.Call (.Attribute o m apos) (e::es) [] pos) (L7 C m sp kY E ta t):=by
 intro pins s σ H Q I h;refine W.methodCall_KW (pl:=pl) (thn (he pins s σ H _ I h) λu s1 ⟨x,H1,I1,rx,a,dx,fs,ex,ea,l,q⟩=>?_) ht;subst ex;obtain rfl:u=Value.ref a:=rx;refine Xh I1 ea c hm l ?_;refine W.callWith_K (first:=[.ref a]) (h₀:=X.base) I.ok.mod.kin hm.kp (thn (ha pos pins s1 σ H1 _ I1 q) λus s2 ⟨vs,H2,I2,r,q2⟩=>⟨I2.kIn,?_⟩) fR bL;exact Rv (us:=.ref a::us) (vs:=.ref a::vs) F hr hb hd hx I2 (.cons rfl r) q2
structure Mk(K:W.Frag)(C f:Addr):Prop where
 makes:W.makesIn K C=true
 init:W.findIn K (.ref C) "__init__"=some (some (.ref f))
 fn:W.isFn K (.ref f)=true
 kp:W.keepIn K (.ref C)=true
theorem Rx{pins:List (Addr×Obj)}{σ:St}{H:Hp}{s:Shared}{Q:VK}{us:List Value}{vs:List V}(M:Mk X.K C f)(F:FnOk X.prog X.w X.K X.mg X.base CX k f fd ps sp)(hr:Room (k+1) X.A)(hb:Binds X.K fd ps ds)(hd:Vals kY ds)
  (hx:ou CX X E) (I:Inv X pins σ H s) (r:Vals vs us)
  (h:∀x dx,H x=none->H dx=none->dx≠x->sp (.ref x::(vs++kY)) (upd (upd H dx (.own x)) x (.ins C dx [])) (λv H2=>v = .non/\Q (.ref x) H2) E) :
  wpAny (model X.prog X.w) X.A (call (.ref C) us) (EP X pins σ Q) X.xe s:=by
 have hq:=h (s.heap.objs.size+1) s.heap.objs.size (I.hok.fresh (vQ _)) (I.hok.fresh (zU _)) (zF (yB _));have I2:=Inv.made (C:=C) I;have r2:Vals (V.ref (s.heap.objs.size+1)::(vs++kY)) (Value.ref (s.heap.objs.size+1)::(us++ds)):=.cons rfl (r.append hd);have hl:(Value.ref (s.heap.objs.size+1)::us++ds).length=ps.length:=by
  have e:=r2.length;rw[F.len _ _ _ _ hq]at e;exact e.symm
 refine wpAny_call (Qj (f:=f) I.kIn M.makes M.init (uM.mp M.fn) (uN (F.run _ X.stack _ _ ⟨Value.ref (s.heap.objs.size+1)::us,[]⟩ (Value.ref (s.heap.objs.size+1)::(us++ds)) _ _ E (hr.make C us [])
  (I2.env0.make C us []) (hb _ (Value.ref (s.heap.objs.size+1)::us) I2.kIn hl) r2 hq) λr s' BO=>?_))
 cases r with
 |error e=>exact hx pins σ _ _ e s' I2 BO
 |ok fl =>
  cases fl with
  |ret u =>
   obtain⟨v,H',I3,rv,ev,q3⟩:=I2.after BO;subst ev;exact⟨rv,⟨V.ref (s.heap.objs.size+1),H',I3,rfl,q3⟩⟩
  |next=>exact False.elim BO
  |brk=>exact False.elim BO
  |cont=>exact False.elim BO
theorem Ny(M:Mk X.K C f)(F:FnOk X.prog X.w X.K X.mg X.base CX k f fd ps sp)(hr:Room (k+1) X.A)(hg:Gl X x)(hm:X.mg x=some (.ref C))(hb:Binds X.K fd ps ds)(hd:Vals kY ds)(hx:ou CX X E)
  (ha:PA X (e::es) t) (pK:(x==("__debug__":Str))=false:=by decide) (he:starEach (e::es) X.env=(false,eval e X.env)::starEach es X.env:=by rfl) (bL:(backTo pos (starEach es X.env)).any (·.1)=false:=by rfl) :
  PE X (.Call (.Name x p) (e::es) [] pos) (So C sp kY E t):=by
 intro pins s σ H Q I h;refine wL (cw I hg hm ?_ pK);refine W.callWith_K (h₀:=X.base) I.ok.mod.kin M.kp (thn (ha pos pins s σ H _ I h) λus s1 ⟨vs,H1,I1,r,q⟩=>⟨I1.kIn,?_⟩) he bL;exact Rx M F hr hb hd hx I1 r q
end
section
variable {X:Cx}{CX:CXT}{k:Nat}{f C:Addr}{fd:FuncData}{ps ks:List Str}{sp:Sp}{E:XK}{x m:Str}{p pos apos kpos:Pos}{e o:Expr}{es:List Expr}{kws:List Keyword}{te ta:TE}{t tk:TA}{nm:Option Str}
structure E1(K:W.Frag)(fd:FuncData)(ps ks:List Str)(g:List Value->List Value->List Value)(gV:List V->List V->List V):Prop where
 to:∀(s:Shared)(us ws:List Value),K.In s.heap->(g us ws).length=ps.length->BindsTo s fd ⟨us,ks.zip ws⟩ (ps.zip (g us ws))
 rel:∀{vs:List V}{us:List Value}{zs:List V}{ws:List Value},Vals vs us->Vals zs ws->Vals (gV vs zs) (g us ws)
variable {g:List Value->List Value->List Value}{gV:List V->List V->List V}
end
structure vo(N P:List Str)(sc:Scope):Prop where
 kind:sc.kind = .function
 co:sc.isCoroutine=false
 gen:sc.isGenerator=false
 nd:N.Nodup
 pre:N.take P.length=P
 par:∀x∈P,sc.names.lookup x=some .local\/sc.names.lookup x=some .cell
 nofree:∀y∈sc.names,y.2≠.free
theorem fq{kindOf:Str->Option NameKind}{x:Str}:∀{mF:List (Str×Value)}{m:Str->Option Value},(∀v,(x,v)∉mF)->bindL kindOf mF m x=m x
 |[],_,_=>rfl
 |(n,v)::r,m,h=>by
  unfold bindL;rw[fq λw hw=>h w (zH _ hw)];split
  ·have:x≠n:=by rintro rfl;exact h v zG
   simp[this]
  ·rfl
theorem fm{kindOf:Str->Option NameKind}{x:Str}:∀{mF:List (Str×Value)}{m:Str->Option Value},(∀v,(x,v)∉mF)->bindC kindOf mF m x=m x
 |[],_,_=>rfl
 |(n,v)::r,m,h=>by
  unfold bindC;rw[fm λw hw=>h w (zH _ hw)];split
  ·rfl
  ·have:x≠n:=by rintro rfl;exact h v zG
   simp[this]
theorem fo{kindOf:Str->Option NameKind}{x:Str}{v:Value}:∀{P:List Str}{vs:List Value}{i:Nat}{m:Str->Option Value},P.Nodup->P[i]?=some x->vs[i]?=some v->kindOf x=some .local ->
  bindL kindOf (P.zip vs) m x=some v
 |[],_,_,_,_,h,_,_=>by simp at h
 |_::_,[],_,_,_,_,h,_=>by simp at h
 |p::P,w::vs,0,m,nd,h1,h2,hk=>by
  simp at h1 h2;subst h1;subst h2;show bindL kindOf ((p,w)::P.zip vs) m p=_;unfold bindL;rw[fq λv hv=>(wK.mp nd).1 (List.of_mem_zip hv).1,yV hk];simp
 |p::P,w::vs,i+1,m,nd,h1,h2,hk=>by
  show bindL kindOf ((p,w)::P.zip vs) m x=_;unfold bindL;exact fo (i:=i) (wK.mp nd).2 (by simpa using h1) (by simpa using h2) hk
theorem fk{kindOf:Str->Option NameKind}{x:Str}{v:Value}:∀{P:List Str}{vs:List Value}{i:Nat}{m:Str->Option Value},P.Nodup->P[i]?=some x->vs[i]?=some v->kindOf x≠some .local ->
  bindC kindOf (P.zip vs) m x=some v
 |[],_,_,_,_,h,_,_=>by simp at h
 |_::_,[],_,_,_,_,h,_=>by simp at h
 |p::P,w::vs,0,m,nd,h1,h2,hk=>by
  simp at h1 h2;subst h1;subst h2;show bindC kindOf ((p,w)::P.zip vs) m p=_;unfold bindC;rw[fm λv hv=>(wK.mp nd).1 (List.of_mem_zip hv).1,zC hk];simp
 |p::P,w::vs,i+1,m,nd,h1,h2,hk=>by
  show bindC kindOf ((p,w)::P.zip vs) m x=_;unfold bindC;exact fk (i:=i) (wK.mp nd).2 (by simpa using h1) (by simpa using h2) hk
def u9(N:List Str)(vs:List V):St:=vs.map some++List.replicate (N.length-vs.length) none
def o4(CX:CXT)(P:Program)(w:World)(K:W.Frag)(mg:Str->Option Value)(base:Heap)(N:List Str)(qual:Str)(scope:Scope)(f:Addr)(cd:Value)(A:Around)(outer:List Env)(s:Shared)(H:Hp)(E:XK):Cx where
 prog:=P
 w:=w
 K:=K
 mg:=mg
 base:=base
 A:=A.deeper (envOfC qual scope s.heap.objs.size f cd)
 N:=N
 s₀:=s
 H₀:=H
 env:=envOfC qual scope s.heap.objs.size f cd
 outer:=outer
 stack:=envOfC qual scope s.heap.objs.size f cd::outer
 ex:=[]
 calm:=true
 fn:=λ_=>true
 pn:=[]
 xe:=λe s'=>wpAny (model P w) (A.deeper (envOfC qual scope s.heap.objs.size f cd)) (leaving (envOfC qual scope s.heap.objs.size f cd) e) (λ_ s''=>CX outer H s E e s'') (λe' s''=>CX outer H s E e' s'') s'
theorem Zn{sc:Scope}{n:Nat}{x:Str}(h:sc.names.lookup x=some .cell):∃c,(cellsFrom n sc.names []).lookup x=some c:=by
 have q:=W.cellsFrom_some sc.names n [] (.inl h);exact uX.mp q
theorem Tp{CX:CXT}{P:Program}{w:World}{K:W.Frag}{mg:Str->Option Value}{base:Heap}{N ps:List Str}{qual:Str}{scope:Scope}{f:Addr}{cd:Value}{A:Around}{outer:List Env}{s s1:Shared}{H:Hp}{E:XK}{us:List Value}{vs:List V}
  (S:vo N ps scope) (hd:A.handled=none) (e0:Env0 P w K mg base A outer s H) (hl:vs.length=ps.length) (r:Vals vs us)
  (x:InCallC s s.heap.objs.size (bindL (envOfC qual scope s.heap.objs.size f cd).kindOf (ps.zip us) λ_=>none) (cellsFrom (s.heap.objs.size+1) scope.names []) (bindC (envOfC qual scope s.heap.objs.size f cd).kindOf (ps.zip us) λ_=>none) s1) :
  Inv (o4 CX P w K mg base N qual scope f cd A outer s H E) [] (u9 N vs) H s1:=by
 have bL:ps.length<=N.length:=by have:=xK List.length S.pre;rw[yS]at this;lia
 obtain⟨h1,tk,rfl,hk⟩:=x.done;have Ad:∀b:Addr,b∉(o4 CX P w K mg base N qual scope f cd A outer s H E).ex:=λb z=>absurd (show b∈([]:List Addr)from z) (by simp);refine⟨⟨e0.mod,S.kind,rfl,rfl,zU _,λy z c h1 h2=>?_,λy hy=>?_,λy c _ h=>?_,λ_=>hd,Around.frames_deeper e0.frames,.inr ⟨rfl,rfl⟩,λb z=>absurd z (Ad b),e0.bs,e0.bsz,λb _ _=>Ad b,λb z=>absurd z (Ad b),e0.funs,e0.frf⟩,
  rfl,e0.bare,Un.kept hk,⟨_,x.toInCall.ns,λi y v h1 h2 h3=>?_⟩,λy c h=>⟨_,x.cell y c h⟩,e0.hok.fresh (zU _),λy c h=>?_,λp hp=>absurd (show p∈([]:List (Addr×Obj))from hp) (by simp),e0.hok.kept hk,?_⟩
 ·exact name_of_addr x.apart (xC h1) (xC h2)
 ·have hy:scope.names.lookup y=some .cell\/scope.names.lookup y=some .free:=hy;rcases hy with hy|hy
  ·exact Zn hy
  ·exact absurd rfl (S.nofree _ (xC hy))
 ·exact xW (x.above y c (xC h))
 ·have hi:i<vs.length:=by
   unfold u9 at h2
   by_cases hi:i<vs.length
   ·exact hi
   ·rw[yI (by simpa using hi)]at h2;rw[List.getElem?_replicate]at h2;split at h2<;>cases h2
  have ha:vs[i]?=some v:=by
   unfold u9 at h2;rw[yK (by simpa using hi),zT]at h2;cases e:vs[i]? with
   |none=>rw[e]at h2;cases h2
   |some a=>rw[e]at h2;cases h2;rfl
  obtain⟨u,hu,rv⟩:=r.get ha;have hp:ps[i]?=some y:=by
   rw[<-S.pre,uW (by lia)];exact h1
  have ndP:ps.Nodup:=by rw[<-S.pre];exact S.nd.sublist (uB _ _)
  refine⟨u,rv,?_⟩;rcases S.par y (zN hp)with k|k
  ·exact .inl ⟨k,fo ndP hp hu k⟩
  ·obtain⟨c,e⟩:=Zn (n:=s.heap.objs.size+1) k;refine .inr ⟨.inl k,c,e,?_⟩;have q:=x.cell y c e;rw[fk ndP hp hu (by show scope.names.lookup y≠_;rw[k];decide)]at q;exact q
 ·exact e0.hok.fresh (xW (x.above y c (xC h)))
 ·unfold u9;show _=N.length;rw[zP,zY,List.length_replicate];lia
theorem Vs{CX:CXT}{P:Program}{w:World}{K:W.Frag}{mg:Str->Option Value}{base:Heap}{k:Nat}{f:Addr}{name qual:Str}{params:Arguments}{body:List Stmt}{scope:Scope}{dV kV doc pm cdv ct oc:Value}{an od:Option Addr}
  {osl:Array (Option Value)}{N ps:List Str}{sp:Sp} (lk:K.lookup f=some ⟨oc,od,.func (W.fnOf name qual params body scope dV kV doc pm an cdv ct),osl⟩) (kH:W.codeIn K cdv qual=true) (S:vo N ps scope)
  (len:∀vs H Q E,sp vs H Q E->vs.length=ps.length)
  (bI:∀(A:Around)(outer:List Env)(s:Shared)(H:Hp)(vs:List V)(Q:VK)(E:XK),Room k (A.deeper (envOfC qual scope s.heap.objs.size f cdv))->sp vs H Q E ->
   ∃t,PSs (o4 CX P w K mg base N qual scope f cdv A outer s H E) body t/\t { nx:=λ_ H'=>Q .non H',rt:=Q } (u9 N vs) H) :
  FnOk P w K mg base CX (k+1) f (W.fnOf name qual params body scope dV kV doc pm an cdv ct) ps sp:=by
 refine⟨len,λA outer s H args us vs Q E hr e0 hb r kT=>?_⟩;have hl:=len _ _ _ _ kT;have KX:K.In s.heap:=e0.mod.kin.keeps λb o e=>(e0.bs b o e).1;have lim:s.heap.NoLimit:=e0.mod.nolimit.keeps λb o e=>(e0.bs b o e).1;have ET:∀y∈ps.zip us,scope.names.lookup y.1=some .local\/(scope.names.lookup y.1=some .cell/\((cellsFrom (s.heap.objs.size+1) scope.names []).lookup y.1).isSome=true):=λ⟨n,v⟩ hy=>by
  rcases S.par n (List.of_mem_zip hy).1 with q|q
  ·exact .inl q
  ·exact .inr ⟨q,W.cellsFrom_some _ _ _ (.inl q)⟩
 refine codeAny_call_function hr.depth (KX _ _ lk) rfl S.co S.gen rfl (W.codeRec_of KX kH) (hb _ _ _ _ ?_);refine wpAny_newFunctionEnv_cells S.kind ET λenv he s1 x=>?_;subst he;refine⟨lim.keeps x.toInCall.keep,codeAny_func ?_⟩;obtain⟨t,ht,hq⟩:=bI A outer s H vs Q E (hr.deeper _) kT;have I:Inv (o4 CX P w K mg base N qual scope f cdv A outer s H E) [] (u9 N vs) H s1:=Tp S hr.hd e0 hl r x;refine xT (ht [] s1 (u9 N vs) H _ I hq) (λfl s' hs=>?_) λe s' hs=>hs;have aU:∀{σ':St}{H':Hp}{v:V}{u:Value},Inv (o4 CX P w K mg base N qual scope f cdv A outer s H E) [] σ' H' s'->RelV v u->Q v H'->CE outer P w H s Q u s' :=
  λ{σ' H' v u} J rv q=>⟨v,H',J.os,J.bare,J.base,J.hok,rv,q⟩
 cases fl with
 |ret u =>
  obtain⟨v,σ',H',J,rv,q⟩:=hs;exact aU J rv q
 |next =>
  obtain⟨σ',H',J,q⟩:=hs;exact aU (v:=V.non) (u:=Value.none) J rfl q
 |brk =>
  obtain⟨_,_,_,q⟩:=hs;exact False.elim q
 |cont =>
  obtain⟨_,_,_,q⟩:=hs;exact False.elim q
end L2
namespace L2
open PySem PySem.Spec PyProof.Rows
section
variable {X:Cx}{x:Str}{p pos:Pos}{e:Expr}{es:List Expr}{t:TA}{id T:String}{r:List V->Hp->VK->Prop}
def tCB(r:List V->Hp->VK->Prop)(t:TA):TE:=fun σ H Q=>t σ H λvs H1=>r vs H1 Q
theorem zq(hc:ww X (.builtin id) r)(hg:Gl X x)(hm:X.mg x=none)(hv:bootBuiltins x=some (.builtin id))(ha:PA X (e::es) t)(hn:x≠"__name__":=by decide)(pK:(x==("__debug__":Str))=false:=by decide)
  (he:starEach (e::es) X.env=(false,eval e X.env)::starEach es X.env:=by rfl) (bL:(backTo pos (starEach es X.env)).any (·.1)=false:=by rfl):PE X (.Call (.Name x p) (e::es) [] pos) (tCB r t):=by
 intro pins s σ H Q I h;refine wL (wg I hg hm hv ?_ hn pK);exact uS (thn (ha pos pins s σ H _ I h) λus s1 ⟨vs,H1,I1,r1,q1⟩=>hc pins s1 σ H1 vs us Q I1 r1 q1) he bL
theorem ze(hc:ww X (.type T) r)(hg:Gl X x)(hm:X.mg x=none)(hv:bootBuiltins x=some (.type T))(ha:PA X (e::es) t)(hn:x≠"__name__":=by decide)(pK:(x==("__debug__":Str))=false:=by decide)
  (he:starEach (e::es) X.env=(false,eval e X.env)::starEach es X.env:=by rfl) (bL:(backTo pos (starEach es X.env)).any (·.1)=false:=by rfl):PE X (.Call (.Name x p) (e::es) [] pos) (tCB r t):=by
 intro pins s σ H Q I h;refine wL (wg I hg hm hv ?_ hn pK);exact xU (thn (ha pos pins s σ H _ I h) λus s1 ⟨vs,H1,I1,r1,q1⟩=>hc pins s1 σ H1 vs us Q I1 r1 q1) he bL
end
end L2
namespace HT
open PySem PyProof.Rows
section
open PySem.SeqAt
open PySem.AutoSeq1 (wpAny_loadPart')
open PySem.MeetsSeq PySem.MeetsSeq2 PySem.MeetsSeq3
end
section
variable {prog:Program}{w:World}{A:Around}{E:Value->Shared->Prop}{s:Shared}
theorem cat_tup{t b:Addr}{vs ws:List Value}{Q:Value->Shared->Prop}(ht:IsTup s.heap t vs.toArray)(hb:IsTup s.heap b ws.toArray)(hv:vs≠[])
  (h1:ws=[]->Q (.ref t) s) (h2:ws≠[]->Q (.ref s.heap.objs.size) { s with heap:=s.heap.push { cls:=.type "tuple",data:=.seq (vs++ws).toArray } })
  (hsz:vs.length+ws.length<=sizeLine):wpAny (model prog w) A (binaryOp .Add (.ref t) (.ref b)) Q E s:=by
 obtain⟨⟨cls,dd,data,sl⟩,ho,hc,n,hd⟩:=id ht;obtain⟨⟨cls2,dd2,data2,Cz⟩,Ay,cT,n2,Cc⟩:=id hb;simp only at hc hd cT Cc;subst hc hd cT Cc;have e:vs.toArray++ws.toArray=(vs++ws).toArray:=by simp
 by_cases hw:ws=[]
 ·exact concat_meets ⟨_,ho,rfl⟩ ⟨_,Ay,rfl⟩ noFill_tuple_add seq_tuple_add sV sX (tL _ _)
   (tuple_addW1 t b vs.toArray ws.toArray n n2 dd dd2 sl Cz (by simpa using hv) (by simp[hw])) ⟨ho,Ay,h1 hw⟩
 ·refine concat_meets ⟨_,ho,rfl⟩ ⟨_,Ay,rfl⟩ noFill_tuple_add seq_tuple_add sV sX (tL _ _)
   (tuple_addW2 t b vs.toArray ws.toArray n n2 dd dd2 sl Cz (by simpa using hv) (by simpa using hw) (by rw[zL,zL];exact hsz)) ⟨ho,Ay,?_⟩
  rw[e];exact h2 hw
def sIx(n d:Nat):Option Int->Nat
 |none=>d
 |some v=>if v<0 then(v+(n:Int)).toNat else min v.toNat n
theorem sIx_none(n d:Nat):sIx n d none=d:=rfl
theorem K8(n d:Nat)(hd:d<=n)(o:Option Int):sIx n d o<=n:=by
 cases o with
 |none=>exact hd
 |some v =>
  show(if v<0 then(v+(n:Int)).toNat else min v.toNat n)<=n
  by_cases hv:v<0
  ·rw[yV hv];lia
  ·rw[zC hv];exact Nat.min_le_right _ _
theorem Vj(v:Int)(n d:Nat):(if v<0 then max (v+(n:Int)) 0 else min v (n:Int))=((sIx n d (some v):Nat):Int):=by
 show(if v<0 then max (v+(n:Int)) 0 else min v (n:Int))=(((if v<0 then(v+(n:Int)).toNat else min v.toNat n):Nat):Int)
 by_cases hv:v<0
 ·simp only[yV hv];lia
 ·simp only[zC hv];lia
theorem W0(lo hi:Option Int)(n:Nat):Builtin.Slice.sliceAdjust lo hi 1 (n:Int)=(((sIx n 0 lo:Nat):Int),((sIx n n hi:Nat):Int)):=by
 have h1:¬((1:Int)<0):=by lia
 unfold Builtin.Slice.sliceAdjust;simp only[h1,if_false];refine Prod.ext ?_ ?_
 ·cases lo with
  |none=>rfl
  |some v=>exact Vj v n 0
 ·cases hi with
  |none=>rfl
  |some v=>exact Vj v n n
theorem Yl(i j:Nat):Builtin.Slice.slicePlaces (i:Int) (j:Int) 1=j-i:=by
 unfold Builtin.Slice.slicePlaces;have h1:(1:Int)>0:=by lia
 simp only[h1,if_true,Int.ediv_one];split<;>lia
theorem lw{v:Value}{o:Option Int}{Q:Option Int->Shared->Prop}(p:IsPart v o)(h:Q o s):wpAny (model prog w) A (Builtin.Slice.slicePartIndex v) Q E s:=by
 cases p with
 |none=>exact slicePart_none h
 |int i t=>exact slicePart_int h
theorem sliceApplied_gen{sl:Addr}{vl vu:Value}{lo hi:Option Int}{n:Nat}{Q:Int×Int×Nat->Shared->Prop}(hs:s.heap.IsSliceOf sl vl vu .none)(pl:IsPart vl lo)(pu:IsPart vu hi)
  (h:Q (((sIx n 0 lo:Nat):Int),1,sIx n n hi-sIx n 0 lo) s):wpAny (model prog w) A (Builtin.Slice.sliceApplied (.ref sl) (pure (n:Int))) Q E s:=by
 obtain⟨os,BU,Af,A2⟩:=id hs;unfold Builtin.Slice.sliceApplied Builtin.Slice.sliceFields;refine zZ (zZ (wN BU A2 (x:=vl) rfl (zZ (wN BU A2 (x:=vu) rfl (zZ (wN BU A2 (x:=.none) rfl (zV ?_)))))));refine zZ (slicePart_none ?_);show wpAny _ _ (if((1:Int)==0)=true then _ else _) _ _ s;rw[zC (by decide)];refine zZ (lw pl (zZ (lw pu (zZ (zV ?_)))));show wpAny _ _ (match Builtin.Slice.sliceAdjust lo hi 1 (n:Int)with|(lo,hi)=>pure (lo,(1:Int),Builtin.Slice.slicePlaces lo hi 1)) _ _ s;rw[W0 lo hi n];show wpAny _ _ (pure (((sIx n 0 lo:Nat):Int),(1:Int),Builtin.Slice.slicePlaces ((sIx n 0 lo:Nat):Int) ((sIx n n hi:Nat):Int) 1)) _ _ s;rw[Yl];exact zV h
theorem Rg(xs:Array Value)(i k:Nat):((List.range k).filterMap λ(m:Nat)=>xs[((i:Int)+(m:Int)*1).toNat]?).toArray=((xs.toList.drop i).take k).toArray:=by
 have e:(λ(m:Nat)=>xs[((i:Int)+(m:Int)*1).toNat]?)=λm=>xs[i+m]?:=by
  funext m
  have:((i:Int)+(m:Int)*1).toNat=i+m:=by lia
  rw[this]
 rw[e];have:=pick_run xs i k;rw[List.filterMap_map]at this;have e2:((λx=>xs[x]?)∘λx=>i+x)=λm=>xs[i+m]?:=rfl;rw[e2]at this;rw[this]
theorem getItem_tuple_cut{t sl:Addr}{items:Array Value}{vl vu:Value}{lo hi:Option Int}{Q:Value->Shared->Prop}(ht:IsTup s.heap t items)(hs:s.heap.IsSliceOf sl vl vu .none)(pl:IsPart vl lo)(pu:IsPart vu hi)
  (hw:¬(sIx items.size 0 lo=0/\sIx items.size items.size hi=items.size))
  (h:Q (.ref s.heap.objs.size) { s with heap:=s.heap.push { cls:=.type "tuple",data:=.seq ((items.toList.drop (sIx items.size 0 lo)).take (sIx items.size items.size hi-sIx items.size 0 lo)).toArray } })
  (hsz:items.size<=sizeLine):wpAny (model prog w) A (getItem (.ref t) (.ref sl)) Q E s:=by
 have oN:sizeOk (.seq ((items.toList.drop (sIx items.size 0 lo)).take (sIx items.size items.size hi-sIx items.size 0 lo)).toArray):=by
  show((items.toList.drop (sIx items.size 0 lo)).take (sIx items.size items.size hi-sIx items.size 0 lo)).toArray.size<=sizeLine;rw[zL,yS,wR,xD];lia
 have hj:sIx items.size items.size hi<=items.size:=K8 _ _ (zU _) hi;obtain⟨os,BU,Af,A2⟩:=id hs;have hTs:s.TypeIs (.ref sl) "slice":=⟨os,BU,Af⟩
 unfold getItem
 try with_reducible refine xS ?_
 first|refine zZ (zV ?_)|skip
 refine zZ (wpAny_sequenceKey ht.typeIs (by decide) ?_);refine zZ (xQ (name:=Str.ofString "__getitem__") ht.typeIs xH
  (xV xH ht.typeIs entry_tuple_getitem ?_ (args_tuple_getitem _ _)))
 show wpAny _ _ (Builtin.Tuple.tupleItemsOf (.ref t) >>= _) _ _ s;refine zZ (tupleItemsOf_ ht ?_);refine zZ (uY hTs ?_);rw[yV (by decide)];refine zZ (sliceApplied_gen hs pl pu ?_);have eQ:¬((((sIx items.size 0 lo:Nat):Int)==0&&(1:Int)==1&&(sIx items.size items.size hi-sIx items.size 0 lo)==items.size)=true):=by
  intro q;rw[yJ,yJ]at q;have q1:((sIx items.size 0 lo:Nat):Int)=0:=eq_of_beq q.1.1;have q2:sIx items.size items.size hi-sIx items.size 0 lo=items.size:=eq_of_beq q.2;exact hw ⟨by lia,by lia⟩
 show wpAny _ _ (if(((sIx items.size 0 lo:Nat):Int)==0&&(1:Int)==1&&(sIx items.size items.size hi-sIx items.size 0 lo)==items.size)=true then _ else _) _ _ s;rw[zC eQ,Rg]
 first
  |exact zZ (m:=Builtin.Tuple.tupleExact _) (xZ (zV ⟨_,rfl,zV h⟩) oN)
  |exact zZ (m:=Builtin.Tuple.tupleExact _) (xZ (zZ (zV (zV ⟨_,rfl,zV h⟩))) oN)
  |exact zZ (zZ (m:=Builtin.Tuple.tupleExact _) (xZ (zV (zV ⟨_,rfl,zV h⟩)) oN))
  |exact zZ (zZ (m:=Builtin.Tuple.tupleExact _) (xZ (zV ⟨_,rfl,zV h⟩) oN))
end
end HT
namespace L2
open PySem PySem.Spec PyProof.Rows
abbrev TO:=St->Hp->(Option Int->Hp->Prop)->Prop
def PO(X:Cx)(e:Option Expr)(t:TO):Prop :=
 ∀(pins:List (Addr×Obj))(s:Shared)(σ:St)(H:Hp)(Q:Option Int->Hp->Prop),Inv X pins σ H s->t σ H Q ->
  wpAny (model X.prog X.w) X.A (evalPart e X.env) (λu s'=>∃o H',Inv X pins σ H' s'/\IsPart u o/\Q o H') X.xe s
def Ww:TO:=λ_ H Q=>Q none H
theorem jz{ns:List Int}:∀{us:List Value},Vals (ns.map V.int) us->IntsAre us ns:=by
 induction ns with
 |nil=>intro us r;rw[List.map_nil]at r;cases r;exact .nil
 |cons n ns ih =>
  intro us r;rw[List.map_cons]at r;cases r with
  |cons r1 r2 =>
   obtain⟨t,e⟩:=r1;subst e;exact .cons n t (ih r2)
section
variable {X:Cx}{e:Expr}{te:TE}{lo hi:Option Expr}{tl th:TO}{pos p2:Pos}
theorem x9:PO X none Ww:=by
 intro pins s σ H Q I h;rw[evalPart_none];exact zV ⟨none,H,I,.none,h⟩
def SlR(X:Cx)(r:V->Option Int->Option Int->Hp->VK->Prop):Prop :=
 ∀(pins:List (Addr×Obj))(s:Shared)(σ:St)(H:Hp)(x:V)(v vl vu:Value)(lo hi:Option Int)(sl:Addr)(Q:VK),Inv X pins σ H s->RelV x v->s.heap.IsSliceOf sl vl vu .none->IsPart vl lo->IsPart vu hi->r x lo hi H Q ->
  ∃T id,typeLookup (.type T) "__getitem__"=pure (some (.builtin id))/\s.TypeIs v T/\wpAny (model X.prog X.w) X.A (getItem v (.ref sl)) (EP X pins σ Q) X.xe s
theorem SlR.or{r r':V->Option Int->Option Int->Hp->VK->Prop}(h:SlR X r)(h':SlR X r'):SlR X (λx lo hi H Q=>r x lo hi H Q\/r' x lo hi H Q):=by
 intro pins s σ H x v vl vu lo hi sl Q I rx hs pl pu q;rcases q with q|q
 ·exact h pins s σ H x v vl vu lo hi sl Q I rx hs pl pu q
 ·exact h' pins s σ H x v vl vu lo hi sl Q I rx hs pl pu q
def tSl(r:V->Option Int->Option Int->Hp->VK->Prop)(te:TE)(tl th:TO):TE:=fun σ H Q=>te σ H λx H1=>tl σ H1 λl H2=>th σ H2 λu H3=>r x l u H3 Q
theorem Q9{r:V->Option Int->Option Int->Hp->VK->Prop}(hr:SlR X r)(he:PE X e te)(hl:PO X lo tl)(hu:PO X hi th):PE X (.Subscript e (.Slice lo hi none p2) pos) (tSl r te tl th):=by
 intro pins s σ H Q I h;refine Subscript_ (thn (he pins s σ H _ I h) λv s1 ⟨x,H1,I1,r1,q1⟩=>?_);refine wpAny_Slice (thn (hl pins s1 σ H1 _ I1 q1) λvl s2 ⟨l,H2,I2,pl,q2⟩=>thn (hu pins s2 σ H2 _ I2 q2) λvu s3 ⟨u,H3,I3,pu,q3⟩=>?_);rw[evalPart_none];refine zV ?_;have I4:Inv X pins σ H3 { s3 with heap:=s3.heap.push { cls:=.type "slice",data:=.fields #[vl,vu,.none] } }:=I3.kept (t':=s3.toks) λb ob q=>zX _ q;obtain⟨T,id,hT,ht,hg⟩:=hr pins { s3 with heap:=s3.heap.push { cls:=.type "slice",data:=.fields #[vl,vu,.none] } } σ H3 x v vl vu l u s3.heap.objs.size Q I4 r1 (Heap.IsSliceOf.new ..) pl pu q3;show wpAny (model X.prog X.w) X.A (subscriptTail e (.Slice lo hi none p2) v (.ref s3.heap.objs.size)) (EP X pins σ Q) X.xe { s3 with heap:=s3.heap.push { cls:=.type "slice",data:=.fields #[vl,vu,.none] } };exact tail_any (ops:=[.ref s3.heap.objs.size,v]) ht hT hg (by with_unfolding_all rfl)
def vb(xs:List V)(lo hi:Option Int):List V:=(xs.drop (HT.sIx xs.length 0 lo)).take (HT.sIx xs.length xs.length hi-HT.sIx xs.length 0 lo)
theorem nk(xs:List V)(lo hi:Option Int):(vb xs lo hi).length<=xs.length:=by
 unfold vb;rw[yS,wR];lia
def Fp(K:W.Frag):V->Option Int->Option Int->Hp->VK->Prop:=λx lo hi H Q=>∃a xs,x = .ref a/\SqT K H a xs /\
 ¬(HT.sIx xs.length 0 lo=0/\HT.sIx xs.length xs.length hi=xs.length)/\∀p,H p=none->Q (.ref p) (upd H p (.tup (vb xs lo hi)))
theorem Lc:SlR X (Fp X.K):=by
 intro pins s σ H x v vl vu lo hi sl Q I rx hs pl pu h;obtain⟨a,xs,rfl,hx,hw,q⟩:=h;cases rx;obtain⟨aD,r,ht,hz⟩:=I.tuple hx;have aH:aD.toArray.size=xs.length:=by rw[zL];exact r.length.symm
 refine⟨"tuple",_,xH.lookup,ht.typeIs,?_⟩;refine HT.getItem_tuple_cut ht hs pl pu (by rw[aH];exact hw) ?_ (by rw[aH];exact hz);rw[aH];refine⟨.ref s.heap.objs.size,_,I.laid (t':=s.toks) (o:=.tup (vb xs lo hi)) (λb ob q=>zX _ q) (zU _) ?_,rfl,q _ (I.hok.fresh (zU _))⟩;exact⟨yT (nk xs lo hi) hz,_,(r.drop (HT.sIx xs.length 0 lo)).take (HT.sIx xs.length xs.length hi-HT.sIx xs.length 0 lo),IsTup.new _ _⟩
def Hx(K:W.Frag):R2:=λx y H Q=>∃a b xs ys,x = .ref a/\y = .ref b/\SqT K H a xs/\SqT K H b ys/\xs≠[]/\xs.length+ys.length<=sizeLine /\
 (ys=[]->Q (.ref a) H)/\(ys≠[]->∀p,H p=none->Q (.ref p) (upd H p (.tup (xs++ys))))
theorem Vals.nil_iff{xs:List V}{us:List Value}(r:Vals xs us):us=[]↔xs=[]:=by
 cases r with
 |nil=>simp
 |cons _ _=>simp
theorem Nr:OpR X (binaryOp .Add) (Hx X.K):=by
 intro pins s σ H x y v u Q I rx ry h;obtain⟨a,b,xs,ys,rfl,rfl,ha,hb,hx,hz,q1,q2⟩:=h;cases rx;cases ry;obtain⟨aD,r1,p1,_⟩:=I.tuple ha;obtain⟨iA,r2,p2,_⟩:=I.tuple hb;refine HT.cat_tup p1 p2 (λz=>hx (r1.nil_iff.mp z)) (λz=>⟨.ref a,H,I,rfl,q1 (r2.nil_iff.mp z)⟩) (λz=>?_) (by rw[<-r1.length,<-r2.length];exact hz);refine⟨.ref s.heap.objs.size,_,I.laid (t':=s.toks) (o:=.tup (xs++ys)) (λb ob q=>zX _ q) (zU _) ?_,rfl,q2 (λw=>z (r2.nil_iff.mpr w)) _ (I.hok.fresh (zU _))⟩;exact⟨by rw[zP];exact hz,_,r1.append r2,IsTup.new _ _⟩
end
end L2
namespace L2
open PySem PySem.Spec PyProof.Rows
def ixN(n:Nat)(i:Int):Option Nat:=if 0<=i then(if i<n then some i.toNat else none)else if -(n:Int)<=i then some (i+n).toNat else none
def atI{α:Type}(xs:List α)(i:Int):Option α:=(ixN xs.length i).bind λj=>xs[j]?
theorem Vw{n:Nat}{i:Int}{j:Nat}(h:ixN n i=some j):seqIndex? i n=some j/\j<n/\-(n:Int)<=i/\i<n:=by
 unfold ixN at h
 by_cases h0:0<=i
 ·rw[yV h0]at h
  by_cases h1:i<n
  ·rw[yV h1]at h;have e:i.toNat=j:=yX h;exact⟨by rw[seqIndex_of h0 h1,e],by lia,by lia,h1⟩
  ·rw[zC h1]at h;cases h
 ·rw[zC h0]at h
  by_cases h1:-(n:Int)<=i
  ·rw[yV h1]at h;have e:(i+n).toNat=j:=yX h;exact⟨by rw[seqIndex_neg (by lia) h1,e],by lia,h1,by lia⟩
  ·rw[zC h1]at h;cases h
theorem b9{α:Type}{xs:List α}{i:Int}{v:α}(h:atI xs i=some v):∃j,seqIndex? i xs.length=some j/\xs[j]?=some v/\j<xs.length/\-(xs.length:Int)<=i/\i<xs.length:=by
 unfold atI at h;cases e:ixN xs.length i with
 |none=>rw[e]at h;cases h
 |some j =>
  rw[e]at h;obtain⟨h1,h2,h3,h4⟩:=Vw e;exact⟨j,h1,h,h2,h3,h4⟩
theorem yf{α:Type}{xs:List α}{j:Nat}{v:α}(h:xs[j]?=some v):atI xs (j:Int)=some v:=by
 have hj:j<xs.length:=(zW.mp h).1;have e:ixN xs.length (j:Int)=some j:=by
  unfold ixN;rw[yV (by lia),yV (by lia)];simp
 unfold atI;rw[e];exact h
theorem Oz{α:Type}(xs:List α)(v:α):atI (xs++[v]) (-1)=some v:=by
 have hl:(xs++[v]).length=xs.length+1:=by simp
 have e:ixN (xs++[v]).length (-1)=some xs.length:=by
  unfold ixN;rw[hl,zC (by decide),yV (by lia)]
  congr 1
  lia
 unfold atI;rw[e];show(xs++[v])[xs.length]?=some v;simp
def Vc(b:Expr):Prop:=∀o i,subscripted b false o i=operate [o,i] (getItem o i)
def IxR(X:Cx)(r:R2):Prop :=
 ∀(value slice:Expr)(pins:List (Addr×Obj))(s:Shared)(σ:St)(H:Hp)(x y:V)(v u:Value)(Q:VK),Inv X pins σ H s->RelV x v->RelV y u->r x y H Q ->
  subscripted slice false v u=operate [v,u] (getItem v u)->wpAny (model X.prog X.w) X.A (subscriptTail value slice v u) (EP X pins σ Q) X.xe s
def MtR(X:Cx)(id:String)(r:V->List V->Hp->VK->Prop):Prop :=
 ∀(pins:List (Addr×Obj))(s:Shared)(σ:St)(H:Hp)(x:V)(xs:List V)(v:Value)(us:List Value)(Q:VK),Inv X pins σ H s->RelV x v->Vals xs us->r x xs H Q ->
  wpAny (model X.prog X.w) X.A (call (.builtin id) (v::us)) (EP X pins σ Q) X.xe s
section
variable {X:Cx}{a b:Expr}{ta tb:TE}{pos:Pos}
theorem IxR.or{r r':R2}(h:IxR X r)(h':IxR X r'):IxR X (λx y H Q=>r x y H Q\/r' x y H Q):=by
 intro value slice pins s σ H x y v u Q I rx ry q hs;rcases q with q|q
 ·exact h value slice pins s σ H x y v u Q I rx ry q hs
 ·exact h' value slice pins s σ H x y v u Q I rx ry q hs
theorem Hd{r:R2}(hr:IxR X r)(ha:PE X a ta)(hb:PE X b tb)(hs:Vc b):PE X (.Subscript a b pos) (tOp r ta tb):=by
 intro pins s σ H Q I h;exact Subscript_ (Iz ha hb I h λv u s2 x y H2 I2 rx ry q=>hr a b pins s2 σ H2 x y v u Q I2 rx ry q (hs _ _))
def Hy(K:W.Frag):R2:=λx y H Q=>∃p xs i v,x = .ref p/\y = .int i/\SqL K H p xs/\atI xs i=some v/\Q v H
def Ia(K:W.Frag):R2:=λx y H Q=>∃p xs i v,x = .ref p/\y = .int i/\SqT K H p xs/\atI xs i=some v/\Q v H
def Hz:R2:=λx y H Q=>∃z i c,x = .str z/\y = .int i/\z.length<=sizeLine/\atI z.cps.toList i=some c/\Q (.str ⟨#[c]⟩) H
theorem ix_list:IxR X (Hy X.K):=by
 intro value slice pins s σ H x y v u Q I rx ry h hs;obtain⟨p,xs,i,z,rfl,rfl,hq,he,q⟩:=h;cases rx;obtain⟨t,rfl⟩:=ry;obtain⟨aD,r,pl,hz⟩:=I.list hq;obtain⟨j,h1,h2,h3,h4,h5⟩:=b9 he;obtain⟨w,ew,lG⟩:=r.get h2;have hl:=r.length;have hn:=o8;have aU:EP X pins σ Q w s:=⟨z,H,I,lG,q⟩
 by_cases h0:0<=i
 ·have hj:i.toNat=j:=by
   rw[seqIndex_of h0 h5]at h1;exact yX h1
  exact item_listR pl.isList h0 (by lia) (by rw[hj];simpa using ew) aU hs
 ·have hj:(i+(aD.toArray.size:Int)).toNat=j:=by
   rw[seqIndex_neg (by lia) h4]at h1;rw[zL,<-hl];exact yX h1
  exact subscriptTail_builtinR (x:=w) pl.isList.typeIs slot_list_getitem.lookup
   (wpAny_getItem_list_neg (Q:=λr s'=>r=w/\EP X pins σ Q r s') pl.isList (by lia) (by rw[zL]<;>lia) (by lia) (by rw[hj];simpa using ew) ⟨rfl,aU⟩) hs
theorem ix_tup:IxR X (Ia X.K):=by
 intro value slice pins s σ H x y v u Q I rx ry h hs;obtain⟨p,xs,i,z,rfl,rfl,hq,he,q⟩:=h;cases rx;obtain⟨t,rfl⟩:=ry;obtain⟨aD,r,pl,hz⟩:=I.tuple hq;obtain⟨j,h1,h2,h3,h4,h5⟩:=b9 he;obtain⟨w,ew,lG⟩:=r.get h2;have hl:=r.length;have hn:=o8;have aU:EP X pins σ Q w s:=⟨z,H,I,lG,q⟩
 exact subscriptTail_builtinR (x:=w) pl.typeIs slot_tuple_getitem.lookup
  (getItem_tuple (j:=j) (Q:=λr s'=>r=w/\EP X pins σ Q r s') pl (by lia) (by lia) (by rw[zL,<-hl];exact h1) (by simpa using ew) ⟨rfl,aU⟩) hs
theorem Jj:IxR X Hz:=by
 intro value slice pins s σ H x y v u Q I rx ry h hs;obtain⟨z,i,c,rfl,rfl,hz,he,q⟩:=h;obtain⟨t,rfl⟩:=rx;obtain⟨t',rfl⟩:=ry;obtain⟨j,h1,h2,h3,h4,h5⟩:=b9 he;have hl:z.cps.toList.length=z.length:=by simp[Str.length]
 rw[hl]at h1 h4 h5;have hn:=o8;exact tail_any (tV s z t) slot_str_getitem.lookup (getItem_str (c:=c) (by
  have e1:decide (i < -(2 ^ 63:Int))=false:=yO (by lia);have e2:decide (i≥2 ^ 63)=false:=yO (by lia);rw[e1,e2,Bool.or_false]) (by rw[h1];simpa using h2) ⟨.str ⟨#[c]⟩,H,I.tok _,⟨_,rfl⟩,q⟩) hs
def rIx(K:W.Frag):R2:=λx y H Q=>Hy K x y H Q\/Ia K x y H Q\/Hz x y H Q
theorem Ji:IxR X (rIx X.K):=ix_list.or (ix_tup.or Jj)
theorem X0(aD:List Value)(n j:Nat)(u:Value):Obj.mapSeq (·.setIfInBounds j u) { cls:=.type "list",data:=.seq aD.toArray n }={ cls:=.type "list",data:=.seq (aD.set j u).toArray n }:=by
 simp[Obj.mapSeq]
theorem Inv.lst{pins:List (Addr×Obj)}{σ:St}{H:Hp}{s:Shared}{p:Addr}{xs:List V}(I:Inv X pins σ H s)(h:H p=some (.lst xs)):
  ∃(aD:List Value)(n:Nat),Vals xs aD/\s.heap.get? p=some { cls:=.type "list",data:=.seq aD.toArray n }/\xs.length<=sizeLine:=by
 obtain⟨z,aD,n,r,e⟩:=I.hok p _ h;exact⟨aD,n,r,e,z⟩
theorem Inv.lstUpd{pins:List (Addr×Obj)}{σ:St}{H:Hp}{s:Shared}{p:Addr}{xs ys:List V}{aD its':List Value}{n n':Nat}{f:Obj->Obj}(I:Inv X pins σ H s)(h:H p=some (.lst xs))
  (ho:s.heap.get? p=some { cls:=.type "list",data:=.seq aD.toArray n }) (hf:f { cls:=.type "list",data:=.seq aD.toArray n }={ cls:=.type "list",data:=.seq its'.toArray n' }) (r:Vals ys its') (hz:ys.length<=sizeLine) (t:Nat) :
  Inv X pins σ (upd H p (.lst ys)) { s with heap:=s.heap.update p f,toks:=t }:=by
 have e:(s.heap.update p f).get? p=some { cls:=.type "list",data:=.seq its'.toArray n' }:=by
  rw[xG f ho (by rw[hf]<;>rfl),hf]
 refine I.write (x:=p) (e:=p) (by rw[h];trivial) (.inl rfl) (λb u hb q=>(yN _ _ (wU hb)).trans q) ⟨_,e⟩ ?_;exact⟨hz,its',n',r,e⟩
def Ib:V->V->V->Hp->(Hp->Prop)->Prop:=λo i v H Q=>∃p xs k j,o = .ref p/\i = .int k/\H p=some (.lst xs)/\ixN xs.length k=some j/\Q (upd H p (.lst (xs.set j v)))
theorem R6:L9 X Ib:=by
 intro pins s σ H o i v ov iv u Q I ro ri rv h;obtain⟨p,xs,k,j,rfl,rfl,hp,hj,q⟩:=h;cases ro;obtain⟨t,rfl⟩:=ri;obtain⟨aD,n,r,ho,hz⟩:=I.lst hp;obtain⟨h1,h2,h3,h4⟩:=Vw hj;have hl:=r.length;have hn:=o8;have I':Inv X pins σ (upd H p (.lst (xs.set j v))) { s with heap:=s.heap.update p (Obj.mapSeq (·.setIfInBounds j u)) } :=
  I.lstUpd hp ho (X0 aD n j u) (r.set rv j) (by rw[List.length_set];exact hz) s.toks
 by_cases h0:0<=k
 ·have hk:k.toNat=j:=by
   rw[seqIndex_of h0 h4]at h1;exact yX h1
  exact W.ki_setAt ho h0 (by lia) (by rw[zL,<-hl];exact h4) (by rw[hk];exact⟨_,I',q⟩)
 ·have hk:(k+(aD.toArray.size:Int)).toNat=j:=by
   rw[seqIndex_neg (by lia) h3]at h1;rw[zL,<-hl];exact yX h1
  exact W.ki_setBack ho (by lia) (by rw[zL,<-hl];exact h3) (by lia) (by rw[hk];exact⟨_,I',q⟩)
theorem d9(lo hi:Option Int)(n:Nat):(sliceBounds lo hi none n).1=((HT.sIx n 0 lo:Nat):Int)/\(sliceBounds lo hi none n).2.1=((HT.sIx n n hi:Nat):Int)/\(sliceBounds lo hi none n).2.2=1:=by
 refine⟨?_,?_,rfl⟩
 ·cases lo with
  |none=>simp[sliceBounds,HT.sIx]
  |some i =>
   simp only[sliceBounds,HT.sIx,Option.getD_none,show(1:Int)>0 by decide,if_true]
   by_cases h:i<0
   ·simp only[h,if_true]<;>lia
   ·simp only[h,if_false]<;>lia
 ·cases hi with
  |none=>simp[sliceBounds,HT.sIx]
  |some i =>
   simp only[sliceBounds,HT.sIx,Option.getD_none,show(1:Int)>0 by decide,if_true]
   by_cases h:i<0
   ·simp only[h,if_true]<;>lia
   ·simp only[h,if_false]<;>lia
theorem jf(aD:List Value)(lo hi:Option Int):slicePick aD.toArray lo hi none=((aD.drop (HT.sIx aD.length 0 lo)).take (HT.sIx aD.length aD.length hi-HT.sIx aD.length 0 lo)).toArray:=by
 obtain⟨h1,h2,h3⟩:=d9 lo hi aD.toArray.size;unfold slicePick;rw[h1,h2,h3];simp only[sliceRange_one,pick_run,zL]<;>rfl
def Fo(K:W.Frag):V->Option Int->Option Int->Hp->VK->Prop:=λx lo hi H Q=>∃a xs,x = .ref a/\SqL K H a xs/\∀p,H p=none->Q (.ref p) (upd H p (.lst (vb xs lo hi)))
theorem Oe:SlR X (Fo X.K):=by
 intro pins s σ H x v vl vu lo hi sl Q I rx hs pl pu h;obtain⟨a,xs,rfl,hx,q⟩:=h;cases rx;obtain⟨aD,r,ht,hz⟩:=I.list hx;have aH:=r.length;refine⟨"list",_,slot_list_getitem.lookup,ht.isList.typeIs,?_⟩;refine wpAny_getItem_list_slice ht.isList hs pl pu .none (by simp) ?_ (by rw[zL]<;>lia);rw[jf,<-aH];refine⟨.ref s.heap.objs.size,_,I.laid (t':=s.toks) (o:=.lst (vb xs lo hi)) (λb ob q=>zX _ q) (zU _) ?_,rfl,q _ (I.hok.fresh (zU _))⟩;exact⟨yT (nk xs lo hi) hz,_,0,(r.drop (HT.sIx xs.length 0 lo)).take (HT.sIx xs.length xs.length hi-HT.sIx xs.length 0 lo),zR _ rfl⟩
def vd:V->Bool
 | .non=>true
 | .bl _=>true
 | .int _=>true
 | .str _=>true
 |_=>false
def eqV:V->V->Bool
 | .non,.non=>true
 | .bl a,.bl b=>a==b
 | .bl a,.int b=>(if a then 1 else 0)==b
 | .int a,.bl b=>a==(if b then 1 else 0)
 | .int a,.int b=>a==b
 | .str a,.str b=>a==b
 |_,_=>false
theorem Jg{A:Around}{s:Shared}{y x:V}{u v:Value}(ry:RelV y u)(rx:RelV x v)(fy:vd y=true)(fx:vd x=true):SeqAt.EqAt A s u v (eqV y x):=by
 cases y with
 |non =>
  cases ry;cases x with
  |non=>cases rx;exact SeqAt.EqAt.same _
  |bl b=>cases rx;exact SeqAt.EqAt.none_bool b
  |int b=>obtain⟨t,rfl⟩:=rx;exact SeqAt.EqAt.none_int b t
  |str b=>obtain⟨t,rfl⟩:=rx;exact SeqAt.EqAt.none_str b t
  |_=>exact absurd (show false=true from fx) zE
 |bl a =>
  cases ry;cases x with
  |non=>cases rx;exact SeqAt.EqAt.bool_none a
  |bl b=>cases rx;exact tZ a b
  |int b=>obtain⟨t,rfl⟩:=rx;exact SeqAt.EqAt.bool_int a b t
  |str b=>obtain⟨t,rfl⟩:=rx;exact SeqAt.EqAt.bool_str a b t
  |_=>exact absurd (show false=true from fx) zE
 |int a =>
  obtain⟨t',rfl⟩:=ry;cases x with
  |non=>cases rx;exact SeqAt.EqAt.int_none a t'
  |bl b=>cases rx;exact SeqAt.EqAt.int_bool a t' b
  |int b=>obtain⟨t,rfl⟩:=rx;exact tD a t' b t
  |str b=>obtain⟨t,rfl⟩:=rx;exact SeqAt.EqAt.int_str a t' b t
  |_=>exact absurd (show false=true from fx) zE
 |str a =>
  obtain⟨t',rfl⟩:=ry;cases x with
  |non=>cases rx;exact SeqAt.EqAt.str_none a t'
  |bl b=>cases rx;exact SeqAt.EqAt.str_bool a t' b
  |int b=>obtain⟨t,rfl⟩:=rx;exact SeqAt.EqAt.str_int a t' b t
  |str b=>obtain⟨t,rfl⟩:=rx;exact SeqAt.EqAt.str_str a t' b t
  |_=>exact absurd (show false=true from fx) zE
 |_=>exact absurd (show false=true from fy) zE
def eqU(x:V)(u:Value):Bool:=match u with
 | .none=>eqV .non x
 | .bool b=>eqV (.bl b) x
 | .int i _=>eqV (.int i) x
 | .str z _=>eqV (.str z) x
 |_=>false
theorem Pd{x y:V}{u:Value}(r:RelV y u)(f:vd y=true):eqU x u=eqV y x:=by
 cases y with
 |non=>cases r;rfl
 |bl b=>cases r;rfl
 |int i=>obtain⟨t,rfl⟩:=r;rfl
 |str z=>obtain⟨t,rfl⟩:=r;rfl
 |_=>exact absurd (show false=true from f) zE
theorem b8{x:V}:∀{xs:List V}{us:List Value},Vals xs us->xs.all vd=true->us.any (eqU x)=xs.any λy=>eqV y x
 |_,_,.nil,_=>rfl
 |y::xs,u::us,.cons r t,f=>by
  rw[List.all_cons,yJ]at f;rw[sC,sC,Pd r f.1,b8 t f.2]
theorem kj{A:Around}{s:Shared}{x:V}{v:Value}(rx:RelV x v)(fx:vd x=true):∀{xs:List V}{us:List Value},Vals xs us->xs.all vd=true->∀u∈us,SeqAt.EqAt A s u v (eqU x u)
 |_,_,.nil,_=>λu hu=>by cases hu
 |y::xs,u::us,.cons r t,f=>λu' hu=>by
  rw[List.all_cons,yJ]at f;rcases zI.mp hu with rfl|hu
  ·rw[Pd r f.1];exact Jg r rx f.1 fx
  ·exact kj rx fx t f.2 u' hu
def inV(x:V)(xs:List V):Bool:=xs.any λy=>eqV y x
def rIn(K:W.Frag)(neg:Bool):R2:=λx y H Q=>∃p xs,y = .ref p/\(SqL K H p xs\/SqT K H p xs)/\vd x=true/\xs.all vd=true/\Q (.bl (if neg then !inV x xs else inV x xs)) H
theorem Ut:OpR X (compareOp .In) (rIn X.K false):=by
 intro pins s σ H x y v u Q I rx ry h;obtain⟨p,xs,rfl,hq,fx,fs,q⟩:=h;cases ry;rcases hq with hq|hq
 ·obtain⟨aD,r,pl,hz⟩:=I.list hq;refine SeqAt.in_listAt (eqU x) pl.isList (λw hw=>kj rx fx r fs w (by simpa using hw)) ⟨.bl _,H,I,rfl,?_⟩;rw[show aD.toArray.any (eqU x)=aD.any (eqU x)by simp,b8 r fs];exact q
 ·obtain⟨aD,r,pl,hz⟩:=I.tuple hq;refine SeqAt.in_tupleAt (eqU x) pl (λw hw=>kj rx fx r fs w (by simpa using hw)) ⟨.bl _,H,I,rfl,?_⟩;rw[show aD.toArray.any (eqU x)=aD.any (eqU x)by simp,b8 r fs];exact q
theorem cg:ww X (.builtin "len") (λxs H Q=>∃p ys,xs=[.ref p]/\(SqL X.K H p ys\/SqT X.K H p ys)/\Q (.int ys.length) H):=by
 intro pins s σ H xs us Q I r h;obtain⟨p,ys,rfl,hq,q⟩:=h;obtain⟨u,rfl,rx⟩:=wc r;cases rx;have hn:=o8;rcases hq with hq|hq
 ·obtain⟨aD,r',pl,hz⟩:=I.list hq;have aH:=r'.length;exact Calls.call_len_list pl.isList (by simp only[zL]<;>lia) ⟨.int ys.length,H,I.tok _,⟨s.toks+1,by rw[zL,aH]⟩,q⟩
 ·obtain⟨aD,r',pl,hz⟩:=I.tuple hq;have aH:=r'.length;exact len_tuple pl (by simp only[zL]<;>lia) ⟨.int ys.length,H,I.tok _,⟨s.toks+1,by rw[zL,aH]⟩,q⟩
theorem ci:ww X (.builtin "len") (λxs H Q=>∃z,xs=[.str z]/\z.length<=sizeLine/\Q (.int z.length) H):=by
 intro pins s σ H xs us Q I r h;obtain⟨z,rfl,hz,q⟩:=h;obtain⟨u,rfl,t,rfl⟩:=wc r;have hn:=o8;exact len_str (by lia) ⟨.int z.length,H,I.tok _,⟨_,rfl⟩,q⟩
theorem cj:ww X (.type "list") (λxs H Q=>∃p ys,xs=[.ref p]/\(SqL X.K H p ys\/SqT X.K H p ys)/\∀l,H l=none->Q (.ref l) (upd H l (.lst ys))):=by
 intro pins s σ H xs us Q I r h;obtain⟨p,ys,rfl,hq,q⟩:=h;obtain⟨u,rfl,rx⟩:=wc r;cases rx;have aU:∀(aD:List Value),Vals ys aD->ys.length<=sizeLine->∀(h':Heap)(c':Nat),(∀b o',s.heap.get? b=some o'->h'.get? b=some o') ->
   h'.get? s.heap.objs.size=some { cls:=.type "list",dict:=none,data:=.seq aD.toArray c',slots:=#[] }->EP X pins σ Q (.ref s.heap.objs.size) { s with heap:=h' }:=λaD r' hz h' c' kp e =>
  ⟨.ref s.heap.objs.size,_,I.laid (t':=s.toks) kp (zU _) (show ObjOk X.prog X.w _ h' _ (.lst ys)from⟨hz,aD,c',r',e⟩),rfl,q _ (I.hok.fresh (zU _))⟩
 rcases hq with hq|hq
 ·obtain⟨aD,r',pl,hz⟩:=I.list hq;have aH:=r'.length;obtain⟨o,ho,hc,n,hd⟩:=pl.isList;exact call_list_seq p (.inl rfl) ho hc hd (λh' c' kp e=>aU aD r' hz h' c' kp e) (by simp only[zL]<;>lia)
 ·obtain⟨aD,r',pl,hz⟩:=I.tuple hq;have aH:=r'.length;obtain⟨o,ho,hc,n,hd⟩:=pl;exact call_list_seq p (.inr rfl) ho hc hd (λh' c' kp e=>aU aD r' hz h' c' kp e) (by simp only[zL]<;>lia)
theorem rc:ww X (.type "tuple") (λxs H Q=>∃p ys,xs=[.ref p]/\((SqL X.K H p ys/\∀l,H l=none->Q (.ref l) (upd H l (.tup ys)))\/(SqT X.K H p ys/\Q (.ref p) H))):=by
 intro pins s σ H xs us Q I r h;obtain⟨p,ys,rfl,h⟩:=h;obtain⟨u,rfl,rx⟩:=wc r;cases rx;rcases h with⟨hq,q⟩|⟨hq,q⟩
 ·obtain⟨aD,r',pl,hz⟩:=I.list hq;have aH:=r'.length;refine call_tuple_list pl.isList (λh' kp=>?_) (by simp only[zL]<;>lia);have I1:Inv X pins σ H { s with heap:=h' }:=I.kept (t':=s.toks) kp;have I2:Inv X pins σ (upd H h'.objs.size (.tup ys)) { s with heap:=h'.push { cls:=.type "tuple",data:=.seq aD.toArray } } :=
   I1.laid (t':=s.toks) (λb o e=>zX _ e) (zU _) (show ObjOk X.prog X.w _ _ _ (.tup ys)from⟨hz,aD,r',IsTup.new _ _⟩)
  exact⟨.ref h'.objs.size,_,I2,rfl,q _ (I1.hok.fresh (zU _))⟩
 ·obtain⟨aD,r',pl,hz⟩:=I.tuple hq;exact call_tuple_same pl ⟨.ref p,H,I,rfl,q⟩
def tyV(K:W.Frag)(T:String)(x:V)(H:Hp):Prop:=match x with
 | .str _=>T="str"
 | .int _=>T="int"
 | .ref p=>(T="list"/\∃xs,SqL K H p xs)\/(T="tuple"/\∃o,K.lookup p=some o/\o.cls = .type "tuple"/\o.dict=none) \/
   (T="dict"/\((∃kvs,H p=some (.dK kvs))\/∃kvs,H p=some (.dT kvs)))\/(T="set"/\∃S n,H p=some (.set S n))
 |_=>False
theorem Li{pins:List (Addr×Obj)}{σ:St}{H:Hp}{s:Shared}{T:String}{x:V}{v:Value}(I:Inv X pins σ H s)(r:RelV x v)(ty:tyV X.K T x H):
  s.TypeIs v T/\∀a,v = .ref a->∃ob,s.heap.get? a=some ob/\ob.dict=none:=by
 cases x with
 |str z =>
  obtain⟨t,rfl⟩:=r;cases(show T="str" from ty);exact⟨tV s z t,λ_ e=>nomatch e⟩
 |int i =>
  obtain⟨t,rfl⟩:=r;cases(show T="int" from ty);exact⟨typeIs_int s i t,λ_ e=>nomatch e⟩
 |ref p =>
  cases r;rcases ty with⟨rfl,xs,hq⟩|⟨rfl,o,hk,hc,hd⟩|⟨rfl,hk⟩|⟨rfl,S,n,hk⟩
  ·obtain⟨aD,_,pl,_⟩:=I.list hq;refine⟨pl.isList.typeIs,λa e=>?_⟩;cases e;obtain⟨o,n,e,c,hd,_⟩:=pl;exact⟨o,e,hd⟩
  ·refine⟨⟨o,I.kIn p o hk,hc⟩,λa e=>?_⟩;cases e;exact⟨o,I.kIn _ o hk,hd⟩
  ·have z:∃o,s.heap.get? p=some o/\o.ExactDict:=by
    rcases hk with⟨kvs,hk⟩|⟨kvs,hk⟩
    ·obtain⟨_,_,_,_,o,_,_,e,ex,_⟩:=I.hok p _ hk;exact⟨o,e,ex⟩
    ·obtain⟨_,_,_,_,o,_,_,e,ex,_⟩:=I.hok p _ hk;exact⟨o,e,ex⟩
   obtain⟨o,e,ex⟩:=z;refine⟨⟨o,e,ex.1⟩,λa e2=>?_⟩;cases e2;exact⟨o,e,ex.2.1⟩
  ·obtain⟨o,_,_,_,e,ex,_⟩:=I.hok p _ hk;refine⟨⟨o,e,ex.1⟩,λa e2=>?_⟩;cases e2;exact⟨o,e,ex.2.1⟩
 |_=>exact False.elim ty
variable {o e:Expr}{es:List Expr}{to:TE}{t:TA}{name:Str}{apos cpos:Pos}{T id:String}{r:V->List V->Hp->VK->Prop}
end
end L2
namespace L2
open PySem PySem.Spec PyProof.Rows
def MtM(X:Cx)(id:String)(r:V->List V->Hp->VK->Prop):Prop :=
 ∀(pins:List (Addr×Obj))(s:Shared)(σ:St)(H:Hp)(x:V)(xs:List V)(v:Value)(us:List Value)(Q:VK),Inv X pins σ H s->RelV x v->Vals xs us->r x xs H Q ->
  wpAny (model X.prog X.w) X.A (call (.builtin id) (v::us)) (EP X pins σ Q) X.xe s
theorem Vals.one:∀{x:V}{us:List Value},Vals [x] us->∃u,us=[u]/\RelV x u
 |_,_,.cons r .nil=>⟨_,rfl,r⟩
section
variable {X:Cx}{pins:List (Addr×Obj)}{σ:St}{H:Hp}{s:Shared}{l b:Addr}{xs ys zs:List V}
theorem Inv.lset{aD its':List Value}{n:Nat}{f:Array Value->Array Value}{t':Nat}(I:Inv X pins σ H s)(hH:H l=some (.lst xs))
  (e:s.heap.get? l=some { cls:=.type "list",data:=.seq aD.toArray n }) (hf:f aD.toArray=its'.toArray) (hv:Vals ys its') (hz:ys.length<=sizeLine) :
  Inv X pins σ (upd H l (.lst ys)) { s with heap:=s.heap.update l (Obj.mapSeq f),toks:=t' }:=by
 have q:=PySem.IsL.update e f;rw[hf]at q;refine I.write (x:=l) (e:=l) (by rw[hH];exact trivial) (.inl rfl) (λb' u hb hu=>(yN s.heap (Obj.mapSeq f) (wU hb)).trans hu) ⟨_,q⟩ ?_;exact⟨hz,its',_,hv,q⟩
theorem Inv.lnew{aD:List Value}{t':Nat}(I:Inv X pins σ H s)(hv:Vals ys aD)(hz:ys.length<=sizeLine):
  Inv X pins σ (upd H s.heap.objs.size (.lst ys)) { s with heap:=s.heap.push { cls:=.type "list",data:=.seq aD.toArray },toks:=t' } :=
 I.laid (λ_ _ q=>zX _ q) (zU _) ⟨hz,aD,0,hv,zR _ rfl⟩
theorem Inv.fresh(I:Inv X pins σ H s):H s.heap.objs.size=none:=I.hok.fresh (zU _)
theorem Inv.lstM(I:Inv X pins σ H s)(hH:H l=some (.lst xs)):xs.length<=sizeLine/\∃(aD:List Value)(n:Nat),Vals xs aD/\xs.length=aD.length/\s.heap.get? l=some { cls:=.type "list",data:=.seq aD.toArray n }:=by
 obtain⟨z,aD,n,r,e⟩:=I.hok l _ hH;exact⟨z,aD,n,r,r.length,e⟩
theorem Z9{n:Nat}(h:n<=sizeLine):Builtin.List.listTooLong n=false:=by
 unfold Builtin.List.listTooLong;exact yO (by lia)
end
section
variable {X:Cx}
def N6:V->List V->Hp->VK->Prop:=λx vs H Q=>∃l xs y,x = .ref l/\vs=[y]/\H l=some (.lst xs)/\xs.length<sizeLine/\Q .non (upd H l (.lst (xs++[y])))
theorem gk:MtM X "list.append" N6:=by
 intro pins s σ H x vs v us Q I rx rv h;obtain⟨l,xs,y,rfl,rfl,hH,hz,q⟩:=h;cases rx;obtain⟨u,rfl,ru⟩:=rv.one;obtain⟨z,aD,n,r,hl,e⟩:=I.lstM hH;refine sD F.slot_list_append ⟨_,e,rfl⟩ F.entry_list_append (F.args_list_append_2 _ _) (PySem.list_append l aD.toArray n u (by rw[zL];lia)) ⟨e,?_⟩;refine⟨.non,_,I.lset (its':=aD++[u]) hH e (by simp) (r.append (.cons ru .nil)) ?_,rfl,q⟩;rw[zP,xF];lia
def N7:V->List V->Hp->VK->Prop:=λx vs H Q=>∃l b xs zs,x = .ref l/\vs=[.ref b]/\H l=some (.lst xs)/\H b=some (.lst zs)/\xs.length+zs.length<=sizeLine/\Q .non (upd H l (.lst (xs++zs)))
theorem Ua:MtM X "list.extend" N7:=by
 intro pins s σ H x vs v us Q I rx rv h;obtain⟨l,b,xs,zs,rfl,rfl,hH,hB,hz,q⟩:=h;cases rx;obtain⟨u,rfl,ru⟩:=rv.one;cases ru;obtain⟨z,aD,n,r,hl,e⟩:=I.lstM hH;obtain⟨z2,iA,n2,r2,kL,e2⟩:=I.lstM hB;have hsz:aD.toArray.size+iA.toArray.size<=sizeLine:=by rw[zL,zL];lia
 have EN:¬(!aD.toArray.isEmpty&&Builtin.List.listTooLong (aD.toArray.size+iA.toArray.size))=true:=by
  rw[Z9 hsz,tW];exact zE
 refine sD F.slot_list_extend ⟨_,e,rfl⟩ F.entry_list_extend (F.args_list_extend_2 _ _)
  (AutoSeq1.list_extend_list_list_0 l aD.toArray n b iA.toArray n2 EN (by rw[zL];lia) (by lia)) ⟨e,e2,?_⟩
 refine⟨.non,_,I.lset (its':=aD++iA) hH e (by simp) (r.append r2) ?_,rfl,q⟩;rw[zP];lia
def Fn:R2:=λx y H Q=>∃l b xs zs,x = .ref l/\y = .ref b/\H l=some (.lst xs)/\H b=some (.lst zs)/\xs.length+zs.length<=sizeLine/\∀p,H p=none->Q (.ref p) (upd H p (.lst (xs++zs)))
theorem Kf:OpR X (binaryOp .Add) Fn:=by
 intro pins s σ H x y v u Q I rx ry h;obtain⟨l,b,xs,zs,rfl,rfl,hH,hB,hz,q⟩:=h;cases rx;cases ry;obtain⟨z,aD,n,r,hl,e⟩:=I.lstM hH;obtain⟨z2,iA,n2,r2,kL,e2⟩:=I.lstM hB;refine PySem.P.add_list e e2 ?_ (by rw[zL,zL];lia);have ea:aD.toArray++iA.toArray=(aD++iA).toArray:=by simp
 rw[ea];exact⟨.ref _,_,I.lnew (t':=s.toks) (r.append r2) (by rw[zP];lia),rfl,q _ I.fresh⟩
end
section
variable {prog:Program}{w:World}{A:Around}{E:Value->Shared->Prop}{s:Shared}
end
section
variable {X:Cx}
end
end L2
namespace Att
open PySem PySem.W PySem.Calls PyProof.Rows
theorem nh{P:Params}{h:Heap}:∀(ns:List Int)(vs:List Value),WellAll P h vs (ns.map WData.int)->IntsAre vs ns:=by
 intro ns
 induction ns with
 |nil =>
  intro vs w;rw[List.map_nil]at w;cases w;exact .nil
 |cons n ns ih =>
  intro vs w;rw[List.map_cons]at w;cases w with
  |cons a b =>
   cases a;exact .cons _ _ (ih _ b)
theorem U0{l:OpenLaw}{n:Nat}(hn:l.most=some n){P:Params}{h:Heap}{args:List WData}{qH:List Value}
  (Av:l.row.toRowW.claim.pre args=true) (Eg:WellAll P h qH args) :
  ∃a vs ns,qH=[Value.ref a]/\args=[WData.list (ns.map WData.int)]/\h.get? a=some { cls:=.type "list",data:=.seq vs.toArray }/\IntsAre vs ns/\ns.length<=n:=by
 have hsh:WShape.hasAll [] args [.list .int]=true:=(pre_splitW Av).1;have hc:l.pre.holds [] { args:=args }=true:=(pre_splitW Av).2;obtain⟨d,r,rfl,h1,h2⟩:=hasAllW_cons hsh;obtain rfl:=hasAllW_nil h2;obtain⟨xs,rfl,h3⟩:=hasW_list h1;obtain⟨ns,rfl⟩:=items_int h3;have aH:ns.length<=n:=by
  unfold OpenLaw.pre at hc;have h4:(WTm.not (.lt (.lit (.int (n:Int))) (.len (.arg 0)))).holds [] { args:=[.list (ns.map .int)] }=true:=by
   have h4:=(holds_andW hc).1;rw[hn]at h4;exact h4
  have h5:=condW_of h4 (w_not (w_lt w_lit (w_len_list (w_arg rfl))));rw[zY]at h5;refine Nat.le_of_not_lt λq=>?_;have q':(n:Int)<((ns.length:Nat):Int):=by lia
  first
   |(rw[yU q']at h5;exact absurd h5 (by decide))
   |(simp at h5;lia)
 cases Eg with
 |cons w1 w2 =>
  cases w2;cases w1 with
  |list ho bQ=>exact⟨_,_,ns,rfl,rfl,ho,nh ns _ bQ,aH⟩
theorem Uy(l:OpenLaw)(args:List WData):l.row.toRowW.claim.post args (.bool true) args=true :=
 postW_of (r:=l.row.toRowW) (X:=(true==true))
  (show WShape.has [] (.bool true) .bool=true by first|rfl|decide|simp[WShape.has,WShape.arms,WShape.armsAll])
  (show(WTm.eq .res (.lit (.bool true))).value [] { args:=args,res:=some (.bool true),after:=args }=some (.bool (true==true))from w_eq_bool (w_res rfl) w_lit) rfl
theorem attach_call{l:OpenLaw}{n:Nat}{q:Program}{kR:List Str}{XP:(Str->Option Value)->Heap->Prop}{YP:World->Heap->Prop}{d:DefRec}
  (hn:l.most=some n) (EX:d.params.defaults=[])
  (call:∀(w:World)(s₀ s₁:Shared)(mg mb:Str->Option Value)(fa:Addr)(o:Obj)(pm cd doc:Value)(a:Addr)(vs:List Value)(ns:List Int),
   Ground q kR [] XP w s₀ mg mb s₁.heap->YP w s₁.heap ->
   s₁.heap.get? fa=some o->o.data = .func (docDef d.name d.params d.body d.scope pm cd doc)->s₁.heap.CodeRec cd d.name->mg d.name=some (.ref fa) ->
   s₁.heap.get? a=some { cls:=.type "list",data:=.seq vs.toArray }->IntsAre vs ns->ns.length<=n->s₁.gens=#[] ->
   codeAny (model l.prog w) callerA (.call (.ref fa) ⟨[.ref a],[]⟩) (λr s'=>r = .ok (.ret (.bool true))/\OldK s₁.heap s'.heap/\s'.os=s₁.os/\AllBare s'.gens) s₁) :
  WalkO q kR XP YP l.row.toRowW d [] (λf vs=>PySem.call f vs):=by
 intro w s₀ s₁ mg mb G Y fa o pm cd doc dV kV ho hd kH hD EM hg args qH as Av hlay hrd Eg CG;obtain rfl:dV = .none:=Dflts.none hD EX;obtain rfl:kV = .none:=Dflts.noKw hD;obtain⟨a,vs,ns,rfl,rfl,BW,qW,aH⟩:=U0 hn Av Eg;refine enter_call (uN (call w s₀ s₁ mg mb fa o pm cd doc a vs ns G Y ho (fd_plain hd) kH EM BW qW aH hg) λr s' hq=>?_);obtain⟨rfl,h2,h3,h4⟩:=hq;exact⟨.inl ⟨.bool true,.bool true,[],rfl,λ_=>rfl,.bool true,Uy l _,λ_=>⟨List.Pairwise.nil,λ_ hm=>(nomatch hm)⟩⟩,h2,h3,h4⟩
section
variable {prog:Program}{w:World}{A:Around}{E:Value->Shared->Prop}{s:Shared}{K:Frag}
end
end Att
namespace L2
open PySem PySem.Spec PyProof.Rows
theorem io:∀{vs:List Value}{ns:List Int},IntsAre vs ns->Vals (ns.map V.int) vs
 |_,_,.nil=>.nil
 |_,_,.cons n t h=>.cons ⟨t,rfl⟩ (io h)
end L2
namespace L2
open PySem PySem.Spec PyProof.Rows
end L2
namespace L2
open PySem PySem.Spec PyProof.Rows
def yt(s:Stmt):Arguments:=match s with
 | .FunctionDef _ a _ _ _ _ _ _ _ _=>a
 |_=>{ posonlyargs:=[],args:=[],vararg:=none,kwonlyargs:=[],kw_defaults:=[],kwarg:=none,defaults:=[] }
def zc(s:Stmt):List Stmt:=match s with
 | .FunctionDef _ _ b _ _ _ _ _ _ _=>b
 |_=>[]
def zr(s:Stmt):Scope:=match s with
 | .FunctionDef _ _ _ _ _ _ sc _ _ _=>sc
 |_=>{ kind:=.function,names:=[],isGenerator:=false,isCoroutine:=false }
abbrev CX0:CXT:=λ_ _ _ _ _ _=>False
abbrev E0:XK:=λ_ _ _=>False
theorem Q5{X:Cx}:ou CX0 X E0:=λ_ _ _ _ _ _ _ h=>h.elim
structure Fun(K:W.Frag)(x qual:Str)(st:Stmt)(f:Addr)(fd:FuncData):Prop where
 ex:∃(oc:Value)(od:Option Addr)(kV doc pm:Value)(an:Option Addr)(cdv ct:Value)(osl:Array (Option Value)),
  fd=W.fnOf x qual (yt st) (zc st) (zr st) .none kV doc pm an cdv ct/\K.lookup f=some ⟨oc,od,.func fd,osl⟩/\W.codeIn K cdv qual=true
 kp:W.keepIn K (.ref f)=true
section
variable {P:Program}{w:World}{K:W.Frag}{mg:Str->Option Value}{base:Heap}
theorem Fun.ok{x qual:Str}{st:Stmt}{f:Addr}{fd:FuncData}{N ps:List Str}{k:Nat}{sp:Sp}(F:Fun K x qual st f fd)(S:vo N ps (zr st))(len:∀vs H Q E,sp vs H Q E->vs.length=ps.length)
  (bI:∀(cdv:Value)(A:Around)(outer:List Env)(s:Shared)(H:Hp)(vs:List V)(Q:VK)(E:XK),Room k (A.deeper (envOfC qual (zr st) s.heap.objs.size f cdv))->sp vs H Q E ->
   ∃t,PSs (o4 CX0 P w K mg base N qual (zr st) f cdv A outer s H E).nox (zc st) t/\t { nx:=λ_ H'=>Q .non H',rt:=Q } (u9 N vs) H):FnOk P w K mg base CX0 (k+1) f fd ps sp:=by
 obtain⟨oc,od,kV,doc,pm,an,cdv,ct,osl,rfl,lk,kH⟩:=F.ex;refine Vs lk kH S len λA outer s H vs Q E hr kT=>?_;obtain⟨t,h,q⟩:=bI cdv A outer s H vs Q E hr kT;exact⟨t,h.nox,q⟩
theorem Xf{x qual:Str}{st:Stmt}{f:Addr}{oc:Value}{od an:Option Addr}{osl:Array (Option Value)}{kV doc pm cdv ct:Value}(l:K.lookup f=some ⟨oc,od,.func (W.fnOf x qual (yt st) (zc st) (zr st) .none kV doc pm an cdv ct),osl⟩)
  (c:W.codeIn K cdv qual=true) (k:W.keepIn K (.ref f)=true):Fun K x qual st f (W.fnOf x qual (yt st) (zc st) (zr st) .none kV doc pm an cdv ct):=⟨⟨oc,od,kV,doc,pm,an,cdv,ct,osl,rfl,l,c⟩,k⟩
end
theorem vn{n:Nat}(h:n<=1000):n<sizeLine:=Nat.lt_of_le_of_lt h (by decide)
section
variable {X:Cx}
end
theorem vp{c A B:Prop}[Decidable c](h1:c->A)(h2:¬c->B):if c then A else B:=by
 by_cases h:c
 ·rw[yV h];exact h1 h
 ·rw[zC h];exact h2 h
def Same(H H':Hp):Prop:=∀b o,H b=some o->H' b=some o
theorem Same.refl(H:Hp):Same H H:=λ_ _ h=>h
theorem Same.trans{H H1 H2:Hp}(a:Same H H1)(b:Same H1 H2):Same H H2:=λc o h=>b c o (a c o h)
theorem Same.seq{K:W.Frag}{H H':Hp}{a:Addr}{xs:List V}(e:Same H H')(h:SqL K H a xs):SqL K H' a xs:=by
 rcases h with(h|⟨o,h⟩)|h
 ·exact .inl (.inl (e _ _ h))
 ·exact .inl (.inr ⟨o,e _ _ h⟩)
 ·exact .inr h
end L2
namespace L2
open PySem PySem.Spec PyProof.Rows
section
variable {κ:Type} [DecidableEq κ]
def rq(kvs:List (κ×V))(k:κ):Option V:=(kvs.find? λkv=>decide (kv.1=k)).map (·.2)
def ud(kvs:List (κ×V))(k:κ)(v:V):List (κ×V) :=
 if(kvs.any λkv=>decide (kv.1=k))=true then kvs.map (λkv=>if kv.1=k then(kv.1,v)else kv)else kvs++[(k,v)]
theorem ub{p:κ×V}{r:List (κ×V)}{k:κ}(e:p.1=k):rq (p::r) k=some p.2:=by simp[rq,uL,e]
theorem ua{p:κ×V}{r:List (κ×V)}{k:κ}(e:¬p.1=k):rq (p::r) k=rq r k:=by simp[rq,uL,e]
theorem bq(k:κ):∀kvs:List (κ×V),(kvs.any λkv=>decide (kv.1=k))=(rq kvs k).isSome
 |[]=>rfl
 |p::r=>by
  rw[sC]
  by_cases e:p.1=k
  ·simp only[ub e,yU e,Bool.true_or,Option.isSome_some]
  ·rw[ua e,yO e,Bool.false_or];exact bq k r
theorem nw(kvs:List (κ×V))(k:κ)(v:V):(ud kvs k v).length<=kvs.length+1:=by
 unfold ud;split
 ·rw[zY];lia
 ·rw[zP,yL,wW];lia
theorem RelO.isSome_eq{o:Option V}{u:Option Value}(r:RelO o u):o.isSome=u.isSome:=by
 cases o with
 |none=>cases u with
  |none=>rfl
  |some _=>exact(show False from r).elim
 |some _=>cases u with
  |none=>exact(show False from r).elim
  |some _=>rfl
theorem KV.val{kvs:List (κ×V)}{vs:List (κ×Value)}(r:KV kvs vs)(k:κ):RelO (rq kvs k) (valueAt vs k):=by
 unfold KV at r
 induction r with
 |nil=>exact True.intro
 | @cons p q ps qs h t ih =>
  obtain⟨h1,h2⟩:=h
  by_cases e:p.1=k
  ·have e':q.1=k:=h1.symm.trans e;have b:valueAt (q::qs) k=some q.2:=by simp[valueAt,uL,e']
   rw[ub e,b];exact h2
  ·have e':¬q.1=k:=λz=>e (h1.trans z);have b:valueAt (q::qs) k=valueAt qs k:=by simp[valueAt,uL,e']
   rw[ua e,b];exact ih
theorem KV.any{kvs:List (κ×V)}{vs:List (κ×Value)}(r:KV kvs vs)(k:κ):(kvs.any λkv=>decide (kv.1=k))=vs.any λkv=>decide (kv.1=k):=by
 unfold KV at r
 induction r with
 |nil=>rfl
 |cons h t ih=>rw[sC,sC,ih,h.1]
theorem KV.repl{kvs:List (κ×V)}{vs:List (κ×Value)}(r:KV kvs vs)(k:κ){y:V}{u:Value}(ry:RelV y u):
  KV (kvs.map λkv=>if kv.1=k then(kv.1,y)else kv) (vs.map λkv=>if kv.1=k then(kv.1,u)else kv):=by
 unfold KV at r ⊢
 induction r with
 |nil=>exact .nil
 | @cons p q ps qs h t ih =>
  rw[List.map_cons,List.map_cons];refine .cons ?_ ih;obtain⟨h1,h2⟩:=h
  by_cases e:p.1=k
  ·rw[yV e,yV (h1.symm.trans e)];exact⟨h1,ry⟩
  ·rw[zC e,zC (λz=>e (h1.trans z))];exact⟨h1,h2⟩
theorem KV.put{kvs:List (κ×V)}{vs:List (κ×Value)}(r:KV kvs vs)(k:κ){y:V}{u:Value}(ry:RelV y u):KV (ud kvs k y) (stored vs k u):=by
 unfold ud stored;rw[r.any k]
 by_cases e:(vs.any λkv=>decide (kv.1=k))=true
 ·rw[yV e,yV e];exact r.repl k ry
 ·rw[zC e,zC e];exact Paired.snoc r ⟨rfl,ry⟩
theorem KV.length{kvs:List (κ×V)}{vs:List (κ×Value)}(r:KV kvs vs):kvs.length=vs.length:=Paired.length r
end
theorem Po{P:Program}{w:World}{k:Key}{u:Value}(r:RelV (kV k) u):(xj P w).is k u=true:=by
 cases k with
 |inl i=>obtain⟨t,e⟩:=(show∃t,u=Value.int i t from r);subst e;exact Z6 P w i t
 |inr x=>obtain⟨t,e⟩:=(show∃t,u=Value.str x t from r);subst e;exact Z7 P w x t
theorem f9{P:Program}{w:World}:∀{ks:List Key}{us:List Value},Vals (ks.map kV) us->ItemsAre (xj P w) ks us
 |[],_,r=>by rw[List.map_nil]at r;cases r;exact .nil
 |k::ks,_,r=>by
  rw[List.map_cons]at r;cases r with
  |cons h t=>exact .cons (Po h) (f9 t)
abbrev KT(H:Hp):List (List Key×V)->List (List Key×Addr×Value)->Prop:=Paired λp q=>p.1=q.1/\H q.2.1=some (.tup (p.1.map kV))/\RelV p.2 q.2.2
theorem KT.val{H:Hp}{kvs:List (List Key×V)}{xs:List (List Key×Addr×Value)}(r:KT H kvs xs)(k:List Key):RelO (rq kvs k) ((atKey xs k).map (·.2)):=by
 induction r with
 |nil=>exact True.intro
 | @cons p q ps qs h t ih =>
  obtain⟨h1,_,h2⟩:=h
  by_cases e:p.1=k
  ·have e':q.1=k:=h1.symm.trans e;have b:atKey (q::qs) k=some q.2:=by simp[atKey,uL,e']
   rw[ub e,b];exact h2
  ·have e':¬q.1=k:=λz=>e (h1.trans z);have b:atKey (q::qs) k=atKey qs k:=by simp[atKey,uL,e']
   rw[ua e,b];exact ih
theorem KT.repl{H:Hp}{kvs:List (List Key×V)}{xs:List (List Key×Addr×Value)}(r:KT H kvs xs)(k:List Key){y:V}{u:Value}(ry:RelV y u):
  KT H (kvs.map λkv=>if kv.1=k then(kv.1,y)else kv) (xs.map (putAt k u)):=by
 induction r with
 |nil=>exact .nil
 | @cons p q ps qs h t ih =>
  rw[List.map_cons,List.map_cons];refine .cons ?_ ih;obtain⟨h1,h2,h3⟩:=h;unfold putAt
  by_cases e:p.1=k
  ·rw[yV e,yV (h1.symm.trans e)];exact⟨h1,h2,ry⟩
  ·rw[zC e,zC (λz=>e (h1.trans z))];exact⟨h1,h2,h3⟩
theorem KT.put{H:Hp}{kvs:List (List Key×V)}{xs:List (List Key×Addr×Value)}(r:KT H kvs xs)(k:List Key){b:Addr}{y:V}{u:Value}(hb:H b=some (.tup (k.map kV)))(ry:RelV y u):
  KT H (ud kvs k y) (storedH xs k b u):=by
 have e:(kvs.any λkv=>decide (kv.1=k))=(atKey xs k).isSome:=by
  rw[bq,(r.val k).isSome_eq,Option.isSome_map]
 unfold ud storedH;rw[e]
 by_cases q:(atKey xs k).isSome=true
 ·rw[yV q,yV q];exact r.repl k ry
 ·rw[zC q,zC q];exact Paired.snoc r ⟨rfl,hb,ry⟩
theorem KT.keeps{H H':Hp}{kvs:List (List Key×V)}{xs:List (List Key×Addr×Value)}(r:KT H kvs xs)(ht:∀b ys,H b=some (.tup ys)->H' b=some (.tup ys)):KT H' kvs xs :=
 Paired.mapP r λ_ _ z=>⟨z.1,ht _ _ z.2.1,z.2.2⟩
section
variable {P:Program}{w:World}{H:Hp}{h:Heap}{a:Addr}
theorem L3{u:HO}(ok:HOk P w H h)(e:Rd H a u):ObjOk P w H h a u:=e.ok ok
theorem Pa{kvs:List (Key×V)}(ok:HOk P w H h)(e:Rd H a (.dK kvs)):kvs.length<=sizeLine/\(a==sysModules)=false/\∃vs,KV kvs vs/\h.DictOf (xj P w) a vs :=
 show ObjOk P w H h a (.dK kvs)from L3 ok e
theorem O9{kvs:List (Key×V)}(ok:HOk P w H h)(e:H a=some (.dK kvs)):kvs.length<=sizeLine/\(a==sysModules)=false/\∃vs,KV kvs vs/\h.DictOf (xj P w) a vs:=Pa ok (.inl e)
theorem Xn{ks:List Key}(ok:HOk P w H h)(e:H a=some (.tup (ks.map kV))):(tupleKind (xj P w)).is h ks a:=by
 obtain⟨_,aD,r,o,h1,h2,n,h3⟩:=(show ObjOk P w H h a (.tup (ks.map kV))from ok a _ e)
 exact⟨o,aD.toArray,n,h1,h2,h3,by simpa using f9 r⟩
theorem Pb{kvs:List (List Key×V)}(ok:HOk P w H h)(e:Rd H a (.dT kvs)):kvs.length<=sizeLine/\(a==sysModules)=false /\
  ∃xs,KT H kvs xs/\h.DictOfH (tupleKind (xj P w)) a xs:=by
 obtain⟨z,y,xs,r,o,es,ep,h1,h2,h3,h4,h5⟩:=(show ObjOk P w H h a (.dT kvs)from L3 ok e)
 refine⟨z,y,xs,r,o,es,ep,h1,h2,h3,h4,λx hx=>?_,h5⟩;have all:∀{l:List (List Key×V)}{m:List (List Key×Addr×Value)},KT H l m->∀x∈m,(tupleKind (xj P w)).is h x.1 x.2.1:=by
  intro l m q
  induction q with
  |nil=>intro x hx;exact nomatch hx
  | @cons p q ps qs hq t ih =>
   intro x hx;rcases zI.mp hx with e|hx
   ·subst e;exact Xn ok (by rw[<-hq.1];exact hq.2.1)
   ·exact ih x hx
 exact all r x hx
theorem F5{kvs:List (List Key×V)}(ok:HOk P w H h)(e:H a=some (.dT kvs)):kvs.length<=sizeLine/\(a==sysModules)=false /\
  ∃xs,KT H kvs xs/\h.DictOfH (tupleKind (xj P w)) a xs:=Pb ok (.inl e)
end
def Ir(H:Hp)(a:Addr)(y:V)(r:Option V):Prop :=
 (∃kvs k,Rd H a (.dK kvs)/\y=kV k/\r=rq kvs k)\/∃kvs k b,Rd H a (.dT kvs)/\y = .ref b/\H b=some (.tup (k.map kV))/\r=rq kvs k
def Ey(H:Hp)(a:Addr)(y v:V)(H':Hp):Prop :=
 (∃kvs k,H a=some (.dK kvs)/\y=kV k/\kvs.length<sizeLine/\H'=upd H a (.dK (ud kvs k v))) \/
 ∃kvs k b,H a=some (.dT kvs)/\y = .ref b/\H b=some (.tup (k.map kV))/\kvs.length<sizeLine/\H'=upd H a (.dT (ud kvs k v))
section
variable {X:Cx}{pins:List (Addr×Obj)}{σ:St}{H:Hp}{s:Shared}{a:Addr}{y v:V}{u r:Value}{o:Option V}{A:Around}{E:Value->Shared->Prop}
theorem Inv.big(I:Inv X pins σ H s):sysModules<s.heap.objs.size:=by
 have h:mainGlobals<s.heap.objs.size:=(I.mod.glob.keeps I.bk).lt;exact sB (by decide) h
theorem Tg{Q:Value->Shared->Prop}(hu:A.units+1<cLine)(I:Inv X pins σ H s)(g:Ir H a y (some v))(ry:RelV y u)(h:∀w' s',Inv X pins σ H s'->RelV v w'->Q w' s'):
  wpAny (model X.prog X.w) A (getItem (.ref a) u) Q E s:=by
 rcases g with⟨kvs,k,e,ey,l⟩|⟨kvs,k,b,e,ey,eb,l⟩
 ·subst ey;obtain⟨z,hd,vs,rel,dd⟩:=Pa I.hok e;obtain⟨w',hw,lG⟩:=RelO.some_of (v:=v) (o:=valueAt vs k) (by rw[l];exact rel.val k);exact wpAny_getItem_of (Po ry) dd.mapOf hw (h w' _ (I.tok _) lG)
 ·subst ey;cases(show u=Value.ref b from ry);obtain⟨z,hd,xs,rel,dd⟩:=Pb I.hok e;obtain⟨w',hw,lG⟩:=RelO.some_of (v:=v) (o:=(atKey xs k).map (·.2)) (by rw[l];exact rel.val k);obtain⟨p,hp,iK⟩:=Option.map_eq_some_iff.mp hw;refine wpAny_getItem_heap (tupleKind_room_in1 hu) (Xn I.hok eb) dd hp ?_;rw[iK];exact h w' _ (I.tok _) lG
theorem Vk{h':Heap}{t':Nat}{ob:HO}(I:Inv X pins σ H s)(mu:Mut (H a))(hs:Heap.SameBut a s.heap h')(he:∃q,h'.get? a=some q)(new:ObjOk X.prog X.w (upd H a ob) h' a ob):
  Inv X pins σ (upd H a ob) { s with heap:=h',toks:=t' } :=
 I.write (x:=a) (e:=a) mu (.inl rfl) (λb q hb z=>(hs.2 b hb).trans z) he new
theorem Je{P:Program}{w:World}{H':Hp}{h':Heap}{kvs:List (Key×V)}{vs:List (Key×Value)}(z:kvs.length<=sizeLine)(hd:(a==sysModules)=false)(rel:KV kvs vs)(dd:h'.DictOf (xj P w) a vs):
  ObjOk P w H' h' a (.dK kvs):=⟨z,hd,vs,rel,dd⟩
theorem Th{H':Hp}{Q:Unit->Shared->Prop}(hu:A.units+1<cLine)(I:Inv X pins σ H s)(g:Ey H a y v H')(ry:RelV y u)(rv:RelV v r)(h:∀s',Inv X pins σ H' s'->Q () s'):
  wpAny (model X.prog X.w) A (setItem (.ref a) u r) Q E s:=by
 rcases g with⟨kvs,k,e,ey,l,eH⟩|⟨kvs,k,b,e,ey,eb,l,eH⟩
 ·subst ey eH;obtain⟨z,hd,vs,rel,dd⟩:=O9 I.hok e;have hz:vs.length<=sizeLine:=by rw[<-rel.length];exact z
  have hl:(ud kvs k v).length<=sizeLine:=by have:=nw kvs k v;lia
  refine wpAny_setItem_pairs (hsz:=hz) (Po ry) dd λh' dd' hs=>h _ ?_;have he:∃q,h'.get? a=some q:=let⟨q,_,_,hq,_⟩:=dd';⟨q,hq⟩;exact Vk I (by rw[e];exact True.intro) hs he (Je hl hd (rel.put k rv) dd')
 ·subst ey eH;cases(show u=Value.ref b from ry);obtain⟨z,hd,xs,rel,dd⟩:=F5 I.hok e;have hz:xs.length<=sizeLine:=by rw[<-Paired.length rel];exact z
  have hl:(ud kvs k v).length<=sizeLine:=by have:=nw kvs k v;lia
  refine wpAny_setItem_heap (hsz:=hz) (tupleKind_room_in1 hu) (Xn I.hok eb) dd λh' dd' hs=>h _ ?_;obtain⟨q,es,ep,hq,h2,h3,h4,_,h5⟩:=dd';refine Vk I (by rw[e];exact True.intro) hs ⟨q,hq⟩ ⟨hl,hd,_,(rel.put k eb rv).keeps λc ys ec=>?_,q,es,ep,hq,h2,h3,h4,h5⟩;rw[zh (G2 ec e (λz=>nomatch z))];exact ec
end
section
variable {X:Cx}{pins:List (Addr×Obj)}{σ:St}{H:Hp}{s:Shared}{a:Addr}{kvs:List (Key×V)}{k:Key}{u:Value}{A:Around}{E:Value->Shared->Prop}
end
def Fy(i:Expr):Prop:=∀ov iv,subscripted i false ov iv=operate [ov,iv] (getItem ov iv)
theorem Ol{prog:Program}{w:World}{A:Around}{E:Value->Shared->Prop}{s:Shared}{env:Env}{value slice:Expr}{pos:Pos}{T id:String}{Q:Value->Shared->Prop}
  (hl:typeLookup (.type T) "__getitem__"=pure (some (.builtin id))) (hs:Fy slice)
  (h:wpAny (model prog w) A (eval value env) (λo s₁=>wpAny (model prog w) A (eval slice env) (λi s₂=>s₂.TypeIs o T/\wpAny (model prog w) A (getItem o i) Q E s₂) E s₁) E s) :
  wpAny (model prog w) A (eval (.Subscript value slice pos) env) Q E s:=by
 refine Subscript_ (xT h (λo s₁ h₁=>xT h₁ (λi s₂ h₂=>?_) λ_ _ x=>x) λ_ _ x=>x);obtain⟨hT,h₂⟩:=h₂;unfold subscriptTail;refine zZ ?_;rw[getitemInPython_of_ne hT.not_modules];refine zZ (wpAny_specialOf hT hl ?_);have aU:wpAny (model prog w) A (subscripted slice false o i) (λr s₃=>wpAny (model prog w) A (letTemporaryGo value o r >>=λ_=>pure r) Q E s₃) E s₂:=by
  rw[hs o i];exact wpAny_operating (xT h₂ (λr s₃ h₃=>zZ (wpAny_letTemporaryGo (zV h₃))) λ_ _ x=>x)
 first
  |exact zV (zZ aU)
  |exact zZ (zV (zZ aU))
  |exact zZ aU
theorem Zp{X:Cx}{pins:List (Addr×Obj)}{σ:St}{H:Hp}{s:Shared}{a:Addr}{y:V}{o:Option V}(I:Inv X pins σ H s)(g:Ir H a y o):s.TypeIs (.ref a) "dict":=by
 rcases g with⟨kvs,k,e,_,_⟩|⟨kvs,k,b,e,_,_,_⟩
 ·obtain⟨_,_,vs,_,dd⟩:=Pa I.hok e;exact dd.typeIs
 ·obtain⟨_,_,xs,_,dd⟩:=Pb I.hok e;exact dd.typeIs
section
variable {X:Cx}{o i e value:Expr}{pos lH tpos:Pos}{td ty tv:TE}
end
theorem O8{P:Program}{w:World}{H:Hp}(h:Heap)(hb:sysModules<h.objs.size):ObjOk P w H (h.push { cls:=.type "dict",data:=.dict #[] }) h.objs.size (.dK []) :=
 ⟨yR _,wA.mpr (wU (zF hb)),[],.nil,Heap.DictOf.new h⟩
def Lf:TE:=λ_ H Q=>∀p,H p=none->Q (.ref p) (upd H p (.dK []))
section
variable {X:Cx}{pos:Pos}
theorem Q6:PE X (.Dict [] [] pos) Lf:=λpins s σ H Q I h =>
 wpAny_Dict_empty ⟨.ref s.heap.objs.size,_,I.laid (a:=s.heap.objs.size) (o:=.dK []) (t':=s.toks) (λ_ _ q=>zX _ q) (zU _) (O8 s.heap I.big),rfl,h _ (I.hok.fresh (zU _))⟩
end
structure M1(X:Cx)(o:Expr)(m:Str)(apos:Pos)(e:Expr)(cpos:Pos):Prop where
 base:attributeBase o m X.env (eval o X.env)=eval o X.env
 few:((backTo cpos (starEach [e] X.env)).all (λx=>!x.1)&&(backToKw cpos (keywordEach [] X.env)).all (λx=>x.1.isSome)
 &&decide (([e]:List Expr).length+([]:List Keyword).length+(if([]:List Keyword).isEmpty then 0 else 1)<30))=true
 line:(apos.endLine==cpos.line)=true
 trees:backTo cpos (starEach [e] X.env)=[(false,eval e X.env)]
structure M2(X:Cx)(o:Expr)(m:Str)(apos:Pos)(e f:Expr)(cpos:Pos):Prop where
 base:attributeBase o m X.env (eval o X.env)=eval o X.env
 few:((backTo cpos (starEach [e,f] X.env)).all (λx=>!x.1)&&(backToKw cpos (keywordEach [] X.env)).all (λx=>x.1.isSome)
 &&decide (([e,f]:List Expr).length+([]:List Keyword).length+(if([]:List Keyword).isEmpty then 0 else 1)<30))=true
 line:(apos.endLine==cpos.line)=true
 trees:backTo cpos (starEach [e,f] X.env)=[(false,eval e X.env),(false,eval f X.env)]
section
variable {X:Cx}{pins:List (Addr×Obj)}{σ:St}{H:Hp}{s:Shared}{a:Addr}{y d:V}{u r:Value}{o:Option V}{A:Around}{E:Value->Shared->Prop}
end
section
variable {X:Cx}{o e f:Expr}{apos cpos:Pos}{td ty tx:TE}
end
section
variable {X:Cx}{pins:List (Addr×Obj)}{σ:St}{H:Hp}{s:Shared}{a:Addr}{kvs:List (Key×V)}{A:Around}{E:Value->Shared->Prop}
end
section
variable {X:Cx}{pins:List (Addr×Obj)}{σ:St}{H:Hp}{s:Shared}{a:Addr}{y:V}{u:Value}{A:Around}{E:Value->Shared->Prop}
end
end L2
namespace L2
open PySem PySem.Spec PyProof.Rows
section
variable {X:Cx}
end
section
variable {κ:Type} [DecidableEq κ]
end
end L2
set_option maxHeartbeats 4000000
namespace My
open PySem PySem.Spec L2
open PyProof.Rows hiding St
theorem E5{CX:CXT}{P:Program}{w:World}{K:W.Frag}{mg:Str->Option Value}{base:Heap}{N:List Str}{qual:Str}{scope:Scope}{f:Addr}{cd:Value}{A:Around}{outer:List Env}{s:Shared}{H:Hp}{E:XK}:(o4 CX P w K mg base N qual scope f cd A outer s H E).K=K:=rfl
section
variable {X:Cx}
theorem Q8{e:Expr}{t t':TE}(h:PE X e t)(i:∀σ H Q,t' σ H Q->t σ H Q):PE X e t':=λpins s σ H Q I q=>h pins s σ H Q I (i σ H Q q)
theorem Ko{e:Stmt}{t t':TS}(h:PS X e t)(i:∀D σ H,t' D σ H->t D σ H):PS X e t':=λpins s σ H D I q=>h pins s σ H D I (i D σ H q)
theorem uo{f:Value->Value->Sem Value}{r r':R2}(h:OpR X f r)(i:∀x y H Q,r' x y H Q->r x y H Q):OpR X f r':=λpins s σ H x y v u Q I rx ry q=>h pins s σ H x y v u Q I rx ry (i x y H Q q)
theorem Jh{r r':R2}(h:IxR X r)(i:∀x y H Q,r' x y H Q->r x y H Q):IxR X r':=λvalue slice pins s σ H x y v u Q I rx ry q hs=>h value slice pins s σ H x y v u Q I rx ry (i x y H Q q) hs
theorem Lb{r r':V->Option Int->Option Int->Hp->VK->Prop}(h:SlR X r)(i:∀x lo hi H Q,r' x lo hi H Q->r x lo hi H Q):SlR X r':=λpins s σ H x v vl vu lo hi sl Q I rx hs pl pu q=>h pins s σ H x v vl vu lo hi sl Q I rx hs pl pu (i x lo hi H Q q)
end
def New(H:Hp)(o:HO)(Q:VK):Prop:=∀(p:Addr)(H':Hp),H p=none->Same H H'->H' p=some o->Q (.ref p) H'
theorem zu{H H1:Hp}{p:Addr}(h:Same H H1)(n:H p=none)(o:HO):Same H (upd H1 p o):=λb u q=>by
 rw[zh (v8 q n)];exact h b u q
theorem w8{H:Hp}{p:Addr}(n:H p=none)(o:HO):Same H (upd H p o):=zu (Same.refl H) n o
theorem New.at{H:Hp}{o:HO}{Q:VK}(h:New H o Q):∀p,H p=none->Q (.ref p) (upd H p o):=λp n=>h p _ n (w8 n o) zx
def Tups(H H':Hp):Prop:=(∀b xs,H b=some (.tup xs)->H' b=some (.tup xs))/\∀b o u,H b=some (.frz o u)->H' b=some (.frz o u)
theorem Tups.trans{H H1 H2:Hp}(a:Tups H H1)(b:Tups H1 H2):Tups H H2:=⟨λc xs h=>b.1 c xs (a.1 c xs h),λc o u h=>b.2 c o u (a.2 c o u h)⟩
theorem z7{H H':Hp}(a:Same H H'):Tups H H':=⟨λb xs h=>a b _ h,λb o u h=>a b _ h⟩
theorem bp{H:Hp}{p:Addr}{o:HO}(n:(∀xs,H p≠some (.tup xs))/\∀ob u,H p≠some (.frz ob u)):Tups H (upd H p o) :=
 ⟨λb xs h=>by rw[zh (by rintro rfl;exact n.1 xs h)];exact h,λb ob u h=>by rw[zh (by rintro rfl;exact n.2 ob u h)];exact h⟩
theorem xr{H:Hp}{p:Addr}{xs:List V}{o:HO}(h:H p=some (.lst xs)):Tups H (upd H p o):=bp ⟨λys z=>(by rw[h]at z;cases z),λob u z=>(by rw[h]at z;cases z)⟩
theorem ng{H:Hp}{p:Addr}{kvs:List (Key×V)}{o:HO}(h:H p=some (.dK kvs)):Tups H (upd H p o):=bp ⟨λys z=>(by rw[h]at z;cases z),λob u z=>(by rw[h]at z;cases z)⟩
theorem Tups.sqT{K:W.Frag}{H H':Hp}{a:Addr}{xs:List V}(t:Tups H H')(h:SqT K H a xs):SqT K H' a xs:=by
 rcases h with(h|⟨o,h⟩)|h
 ·exact .inl (.inl (t.1 _ _ h))
 ·exact .inl (.inr ⟨o,t.2 _ _ _ h⟩)
 ·exact .inr h
mutual
def Has(K:W.Frag)(H:Hp):V->PyData->Prop
 |v,.none=>v = .non
 |v,.bool b=>v = .bl b
 |v,.int i=>v = .int i
 |v,.str x=>v = .str x
 |v,.tuple ds=>∃a xs,v = .ref a/\SqT K H a xs/\HasL K H xs ds
 |v,.list ds=>∃a xs,v = .ref a/\SqL K H a xs/\HasL K H xs ds
 |_,.dict _=>False
def HasL(K:W.Frag)(H:Hp):List V->List PyData->Prop
 |xs,[]=>xs=[]
 |xs,d::ds=>∃y ys,xs=y::ys/\Has K H y d/\HasL K H ys ds
end
def gv:St->Nat->Option V
 |[],_=>none
 |x::_,0=>x
 |_::r,n+1=>gv r n
def sv:St->Nat->V->St
 |[],_,_=>[]
 |_::r,0,v=>some v::r
 |x::r,n+1,v=>x::sv r n v
theorem cr:∀{σ:St}{i:Nat}{v:V},gv σ i=some v->σ[i]?=some (some v)
 |[],_,_,h=>by simp[gv]at h
 |x::_,0,v,h=>by have h':x=some v:=h;simp[h']
 |_::r,n+1,v,h=>by
  have:=cr (σ:=r) (i:=n) (v:=v) h;simpa using this
theorem Y6:∀(σ:St)(i:Nat)(v:V),σ.set i (some v)=sv σ i v
 |[],_,_=>rfl
 |_::_,0,_=>rfl
 |x::r,n+1,v=>by
  show x::r.set n (some v)=x::sv r n v;rw[Y6 r n v]
section
variable {X:Cx}
def mV(i:Nat):TE:=fun σ H Q=>match gv σ i with
 |some v=>Q v H
 |none=>False
theorem z8(i:Nat){x:Str}{pos:Pos}(hN:X.N[i]?=some x:=by rfl)(hv:Vis X.env.scope x:=by first|exact Or.inl rfl|exact Or.inr (Or.inl rfl)|exact Or.inr (Or.inr rfl))(hd:(x==("__debug__":Str))=false:=by decide)
  (kH:(x==("__classdict__":Str))=false:=by decide):PE X (.Name x pos) (mV i):=Q8 (Kl hN hv hd kH) fun σ H Q q=>by
 unfold mV at q;split at q
 ·rename_i v e;exact⟨v,cr e,q⟩
 ·exact q.elim
def Gj(i:Nat)(te:TE):TS:=λD σ H=>te σ H λx H1=>D.nx (sv σ i x) H1
theorem zn(i:Nat){x:Str}{e:Expr}{te:TE}{pos lH:Pos}(hN:X.N.Nodup)(he:PE X e te)(hi:X.N[i]?=some x:=by rfl)(hx:Loc X.env.scope x:=by first|exact Or.inl rfl|exact Or.inr rfl)
  (hs:swapsWith e (some (.Name x lH)) pos.line X.env=pure false:=by rfl) (hf:X.fn x=true\/X.env.scope.names.lookup x=some .local:=by first|exact .inl rfl|exact .inr rfl):PS X (.Assign [.Name x lH] e pos) (Gj i te) :=
 Ko (Kp (i:=i) hN hi hx he hs hf) λD σ H q=>by
  refine(?_:U6 te (f6 i) D σ H);have e:(λx H1=>D.nx (sv σ i x) H1)=λx H1=>f6 i x σ H1 D.nx:=by
   funext x H1
   show D.nx (sv σ i x) H1=D.nx (σ.set i (some x)) H1;rw[Y6]
  show te σ H λx H1=>f6 i x σ H1 D.nx;rw[<-e];exact q
def mG(i:Nat):TG:=λv σ H Q=>Q (sv σ i v) H
theorem wo(i:Nat){x:Str}{pos:Pos}(hN:X.N.Nodup)(hi:X.N[i]?=some x:=by rfl)(hx:Loc X.env.scope x:=by first|exact Or.inl rfl|exact Or.inr rfl)
  (hf:X.fn x=true\/X.env.scope.names.lookup x=some .local:=by first|exact .inl rfl|exact .inr rfl):PG X (.Name x pos) (mG i):=by
 have h:=N1 (pos:=pos) (X:=X) hN hi hx hf;have e:mG i=f6 i:=by
  funext v σ H Q
  show Q (sv σ i v) H=Q (σ.set i (some v)) H;rw[Y6]
 rw[e];exact h
def Qy(k:Bool->Hp->Prop):V->Hp->Prop:=λx H=>match x with
 | .bl c=>k c H
 |_=>False
theorem No{k:Bool->Hp->Prop}{c:Bool}{H:Hp}:Qy k (.bl c) H=k c H:=rfl
def gr(k:Int->Hp->Prop):V->Hp->Prop:=λx H=>match x with
 | .int c=>k c H
 |_=>False
theorem Qz{k:Int->Hp->Prop}{c:Int}{H:Hp}:gr k (.int c) H=k c H:=rfl
def kr(k:Addr->Hp->Prop):V->Hp->Prop:=λx H=>match x with
 | .ref c=>k c H
 |_=>False
theorem Q0{k:Addr->Hp->Prop}{c:Addr}{H:Hp}:kr k (.ref c) H=k c H:=rfl
def on1(k:V->Hp->Prop):List V->Hp->Prop:=λx H=>match x with
 |[c]=>k c H
 |_=>False
theorem Ka{k:V->Hp->Prop}{c:V}{H:Hp}:on1 k [c] H=k c H:=rfl
def Mv(K:W.Frag):R2:=λx y H Q=>match x,y with
 | .int i,.int j=>Q (.int (i+j)) H
 | .str a,.str b=>a.length+b.length<=sizeLine/\Q (.str (a++b)) H
 | .ref a,.ref b=>(∃xs ys,H a=some (.lst xs)/\H b=some (.lst ys)/\xs.length+ys.length<=sizeLine/\New H (.lst (xs++ys)) Q) \/
   ∃xs ys,SqT K H a xs/\SqT K H b ys/\xs.length+ys.length<=sizeLine/\∀(p:Addr)(H':Hp),Same H H'->SqT K H' p (xs++ys)->Q (.ref p) H'
 |_,_=>False
theorem O5{prog:Program}{w:World}{A:Around}{E:Value->Shared->Prop}{s:Shared}{t b:Addr}{ws:List Value}{Q:Value->Shared->Prop}(ht:IsTup s.heap t #[])(hb:IsTup s.heap b ws.toArray)(h:Q (.ref b) s):
  wpAny (model prog w) A (binaryOp .Add (.ref t) (.ref b)) Q E s:=by
 obtain⟨⟨cls,dd,data,sl⟩,ho,hc,n,hd⟩:=id ht;obtain⟨⟨cls2,dd2,data2,Cz⟩,Ay,cT,n2,Cc⟩:=id hb;simp only at hc hd cT Cc;subst hc hd cT Cc;exact concat_meets ⟨_,ho,rfl⟩ ⟨_,Ay,rfl⟩ noFill_tuple_add seq_tuple_add sV sX (tL _ _)
   (tuple_addW0 t b #[] ws.toArray n n2 dd dd2 sl Cz (by simp)) ⟨ho,Ay,h⟩
theorem Q2:OpR X (binaryOp .Add) (λx y H Q=>∃a b xs ys,x = .ref a/\y = .ref b/\SqT X.K H a xs/\SqT X.K H b ys/\xs.length+ys.length<=sizeLine/\∀(p:Addr)(H':Hp),Same H H'->SqT X.K H' p (xs++ys)->Q (.ref p) H'):=by
 intro pins s σ H x y v u Q I rx ry h;obtain⟨a,b,xs,ys,rfl,rfl,ha,hb,hz,q⟩:=h
 by_cases e:xs=[]
 ·subst e;cases rx;cases ry;obtain⟨aD,r1,p1,_⟩:=I.tuple ha;obtain⟨iA,r2,p2,_⟩:=I.tuple hb;cases r1;exact O5 p1 p2 ⟨.ref b,H,I,rfl,q b H (Same.refl H) hb⟩
 ·refine Nr pins s σ H _ _ v u Q I rx ry ⟨a,b,xs,ys,rfl,rfl,ha,hb,e,hz,λz=>?_,λ_ p n=>?_⟩
  ·subst z;exact q a H (Same.refl H) (by rw[List.append_nil];exact ha)
  ·exact q p _ (w8 n _) (SqT.of zx)
theorem zj:OpR X (binaryOp .Add) (Mv X.K):=by
 intro pins s σ H x y v u Q I rx ry h;cases x with
 |int i=>cases y with
  |int j=>exact Ke pins s σ H _ _ v u Q I rx ry ⟨i,j,rfl,rfl,h⟩
  |_=>exact(show False from h).elim
 |str i=>cases y with
  |str j=>exact Yf pins s σ H _ _ v u Q I rx ry ⟨i,j,rfl,rfl,h.1,h.2⟩
  |_=>exact(show False from h).elim
 |ref a=>cases y with
  |ref b =>
   have h':(∃xs ys,H a=some (.lst xs)/\H b=some (.lst ys)/\xs.length+ys.length<=sizeLine/\New H (.lst (xs++ys)) Q) \/
    ∃xs ys,SqT X.K H a xs/\SqT X.K H b ys/\xs.length+ys.length<=sizeLine/\∀(p:Addr)(H':Hp),Same H H'->SqT X.K H' p (xs++ys)->Q (.ref p) H':=h
   rcases h' with⟨xs,ys,ha,hb,hz,q⟩|⟨xs,ys,ha,hb,hz,q⟩
   ·exact Kf pins s σ H _ _ v u Q I rx ry ⟨a,b,xs,ys,rfl,rfl,ha,hb,hz,q.at⟩
   ·exact Q2 pins s σ H _ _ v u Q I rx ry ⟨a,b,xs,ys,rfl,rfl,ha,hb,hz,q⟩
  |_=>exact(show False from h).elim
 |_=>exact(show False from by cases y<;>exact h).elim
def mII(C:Int->Int->Prop)(g:Int->Int->V):R2:=λx y H Q=>match x,y with
 | .int i,.int j=>C i j/\Q (g i j) H
 |_,_=>False
def T5(g:Int->Int->V):R2:=λx y H Q=>match x,y with
 | .int i,.int j=>Q (g i j) H
 |_,_=>False
theorem Xs{C:Int->Int->Prop}{g:Int->Int->V}(x y:V)(H:Hp)(Q:VK)(h:mII C g x y H Q):rI C g x y H Q:=by
 cases x with
 |int i=>cases y with
  |int j=>exact⟨i,j,rfl,rfl,h.1,h.2⟩
  |_=>exact(show False from h).elim
 |_=>exact(show False from by cases y<;>exact h).elim
theorem m3{g:Int->Int->V}(x y:V)(H:Hp)(Q:VK)(h:T5 g x y H Q):rI0 g x y H Q:=by
 cases x with
 |int i=>cases y with
  |int j=>exact⟨i,j,rfl,rfl,h⟩
  |_=>exact(show False from h).elim
 |_=>exact(show False from by cases y<;>exact h).elim
theorem ki:OpR X (binaryOp .Sub) (T5 λi j=>.int (i-j)):=uo Kj m3
theorem wj:OpR X (binaryOp .Mult) (mII CMul λi j=>.int (i*j)):=uo Ki Xs
theorem ue:OpR X (binaryOp .Mod) (mII (λ_ j=>0<j) λi j=>.int (i % j)):=uo Kh Xs
theorem Xw:OpR X (binaryOp .FloorDiv) (mII Fx λi j=>.int (i / j)):=uo Nt Xs
theorem Gv:OpR X (compareOp .Lt) (T5 λi j=>.bl (decide (i<j))):=uo Ha m3
theorem T6:OpR X (compareOp .Gt) (T5 λi j=>.bl (decide (j<i))):=uo G8 m3
theorem Fd:OpR X (compareOp .GtE) (T5 λi j=>.bl (decide (j<=i))):=uo G7 m3
def mEq(g:Bool->Bool):R2:=λx y H Q=>match x,y with
 | .int i,.int j=>Q (.bl (g (decide (i=j)))) H
 | .bl i,.bl j=>Q (.bl (g (decide (i=j)))) H
 | .str i,.str j=>Q (.bl (g (decide (i=j)))) H
 | .non,.non=>Q (.bl (g true)) H
 | .non,.bl _=>Q (.bl (g false)) H
 | .bl _,.non=>Q (.bl (g false)) H
 | .non,.int _=>Q (.bl (g false)) H
 | .int _,.non=>Q (.bl (g false)) H
 |_,_=>False
theorem F3(i j:Int):decide (V.int i=V.int j)=decide (i=j):=by simp
theorem E6(i j:Bool):decide (V.bl i=V.bl j)=decide (i=j):=by simp
theorem F4(i j:Str):decide (V.str i=V.str j)=decide (i=j):=by simp
theorem Lr{g:Bool->Bool}{x y:V}{H:Hp}{Q:VK}(h:mEq g x y H Q):K9 x y=true/\Q (.bl (g (decide (x=y)))) H:=by
 cases x with
 |int i=>cases y with
  |int j=>exact⟨rfl,by rw[F3];exact h⟩
  |non=>exact⟨rfl,by rw[yO (by intro z;cases z)];exact h⟩
  |_=>exact(show False from h).elim
 |bl i=>cases y with
  |bl j=>exact⟨rfl,by rw[E6];exact h⟩
  |non=>exact⟨rfl,by rw[yO (by intro z;cases z)];exact h⟩
  |_=>exact(show False from h).elim
 |str i=>cases y with
  |str j=>exact⟨rfl,by rw[F4];exact h⟩
  |_=>exact(show False from h).elim
 |non=>cases y with
  |non=>exact⟨rfl,by rw[yU rfl];exact h⟩
  |bl j=>exact⟨rfl,by rw[yO (by intro z;cases z)];exact h⟩
  |int j=>exact⟨rfl,by rw[yO (by intro z;cases z)];exact h⟩
  |_=>exact(show False from h).elim
 |_=>exact(show False from by cases y<;>exact h).elim
mutual
theorem uv{pins:List (Addr×Obj)}{σ:St}{H:Hp}{s:Shared}(I:Inv X pins σ H s):∀(d:PyData)(v:V)(u:Value),Has X.K H v d->RelV v u->∃as,Reads s.heap u d as
 | .none,v,u,h,r=>by
  have h':v = .non:=by simpa[Has]using h
  subst h';cases r;exact⟨_,.none⟩
 | .bool b,v,u,h,r=>by
  have h':v = .bl b:=by simpa[Has]using h
  subst h';cases r;exact⟨_,.bool b⟩
 | .int i,v,u,h,r=>by
  have h':v = .int i:=by simpa[Has]using h
  subst h';obtain⟨t,rfl⟩:=r;exact⟨_,.int i t⟩
 | .str x,v,u,h,r=>by
  have h':v = .str x:=by simpa[Has]using h
  subst h';obtain⟨t,rfl⟩:=r;exact⟨_,.str x t⟩
 | .tuple ds,v,u,h,r=>by
  have h':∃a xs,v = .ref a/\SqT X.K H a xs/\HasL X.K H xs ds:=by simpa[Has]using h
  obtain⟨a,xs,rfl,hq,hl⟩:=h';cases r;obtain⟨aD,rv,⟨o,e,c,n,dd⟩,_⟩:=I.tuple hq;obtain⟨as,ra⟩:=hasL_reads I ds xs aD hl rv;exact⟨_,.tuple e c dd ra⟩
 | .list ds,v,u,h,r=>by
  have h':∃a xs,v = .ref a/\SqL X.K H a xs/\HasL X.K H xs ds:=by simpa[Has]using h
  obtain⟨a,xs,rfl,hq,hl⟩:=h';cases r;obtain⟨aD,rv,pl,_⟩:=I.list hq;obtain⟨o,e,c,n,dd⟩:=pl.isList;obtain⟨as,ra⟩:=hasL_reads I ds xs aD hl rv;exact⟨_,.list e c dd ra⟩
 | .dict _,v,u,h,r=>by
  have h':False:=by simpa[Has]using h
  exact h'.elim
theorem hasL_reads{pins:List (Addr×Obj)}{σ:St}{H:Hp}{s:Shared}(I:Inv X pins σ H s):∀(ds:List PyData)(xs:List V)(us:List Value),HasL X.K H xs ds->Vals xs us->∃as,ReadsAll s.heap us ds as
 |[],xs,us,h,r=>by
  have h':xs=[]:=by simpa[HasL]using h
  subst h';cases r;exact⟨_,.nil⟩
 |d::ds,xs,us,h,r=>by
  have h':∃y ys,xs=y::ys/\Has X.K H y d/\HasL X.K H ys ds:=by simpa[HasL]using h
  obtain⟨y,ys,rfl,h1,h2⟩:=h';cases r with
  |cons r1 r2 =>
   obtain⟨as,ra⟩:=uv I d y _ h1 r1;obtain⟨bs,rb⟩:=hasL_reads I ds ys _ h2 r2;exact⟨_,.cons ra rb⟩
end
def kf(K:W.Frag)(g:Bool->Bool):R2:=λx y H Q=>match x,y with
 | .ref a,.ref b=>∃da db,Has K H (.ref a) da/\Has K H (.ref b) db/\SeqAt.shaped da=true/\SeqAt.shaped db=true/\Q (.bl (g (PyData.eqv da db))) H
 |x,y=>mEq g x y H Q
theorem w6(hu:X.A.units+64<cLine):OpR X (compareOp .Eq) (kf X.K id):=by
 intro pins s σ H x y v u Q I rx ry h;have sc:mEq id x y H Q->wpAny (model X.prog X.w) X.A (compareOp .Eq v u) (EP X pins σ Q) X.xe s:=λh=>G6 pins s σ H x y v u Q I rx ry (Lr h);cases x with
 |ref a=>cases y with
  |ref b =>
   obtain⟨da,db,h1,h2,s1,s2,q⟩:=(show∃da db,Has X.K H (.ref a) da/\Has X.K H (.ref b) db/\SeqAt.shaped da=true/\SeqAt.shaped db=true/\Q (.bl (PyData.eqv da db)) H from h)
   obtain⟨as,ra⟩:=uv I da _ _ h1 rx;obtain⟨bs,rb⟩:=uv I db _ _ h2 ry;exact eq_dataH ra rb s1 s2 hu ⟨.bl _,H,I,rfl,q⟩
  |_=>exact sc h
 |_=>exact sc (by cases y<;>exact h)
theorem di(hu:X.A.units+64<cLine):OpR X (compareOp .NotEq) (kf X.K not):=by
 intro pins s σ H x y v u Q I rx ry h;have sc:mEq not x y H Q->wpAny (model X.prog X.w) X.A (compareOp .NotEq v u) (EP X pins σ Q) X.xe s:=λh=>Hb pins s σ H x y v u Q I rx ry (Lr h);cases x with
 |ref a=>cases y with
  |ref b =>
   obtain⟨da,db,h1,h2,s1,s2,q⟩:=(show∃da db,Has X.K H (.ref a) da/\Has X.K H (.ref b) db/\SeqAt.shaped da=true/\SeqAt.shaped db=true/\Q (.bl (!PyData.eqv da db)) H from h)
   obtain⟨as,ra⟩:=uv I da _ _ h1 rx;obtain⟨bs,rb⟩:=uv I db _ _ h2 ry;exact ne_dataH ra rb s1 s2 hu ⟨.bl _,H,I,rfl,q⟩
  |_=>exact sc h
 |_=>exact sc (by cases y<;>exact h)
def mLe:R2:=λx y H Q=>match x,y with
 | .int i,.int j=>Q (.bl (decide (i<=j))) H
 | .bl i,.bl j=>Q (.bl (!i||j)) H
 |_,_=>False
theorem Fe:OpR X (compareOp .LtE) mLe:=by
 intro pins s σ H x y v u Q I rx ry h
 match x,y,h with
 | .int i,.int j,h=>exact G9 pins s σ H _ _ v u Q I rx ry ⟨i,j,rfl,rfl,h⟩
 | .bl i,.bl j,h =>
  cases rx;cases ry;exact le_bool ⟨.bl (!i||j),H,I,by cases i<;>cases j<;>rfl,h⟩
def mIn(K:W.Frag)(neg:Bool):R2:=λx y H Q=>match y with
 | .ref p=>∃xs,(SqL K H p xs\/SqT K H p xs)/\vd x=true/\xs.all vd=true/\Q (.bl (if neg then !inV x xs else inV x xs)) H
 |_=>False
theorem Ge{K:W.Frag}{neg:Bool}(x y:V)(H:Hp)(Q:VK)(h:mIn K neg x y H Q):rIn K neg x y H Q:=by
 cases y with
 |ref p =>
  obtain⟨xs,q⟩:=(show∃xs,(SqL K H p xs\/SqT K H p xs)/\vd x=true/\xs.all vd=true/\Q (.bl (if neg then !inV x xs else inV x xs)) H from h)
  exact⟨p,xs,rfl,q⟩
 |_=>exact(show False from h).elim
theorem Gq:OpR X (compareOp .In) (mIn X.K false):=uo Ut Ge
def mIx(K:W.Frag):R2:=λx y H Q=>match x,y with
 | .str z,.int i=>z.length<=sizeLine/\∃c,atI z.cps.toList i=some c/\Q (.str ⟨#[c]⟩) H
 | .ref p,.int i=>∃xs v,(SqL K H p xs\/SqT K H p xs)/\atI xs i=some v/\Q v H
 |_,_=>False
theorem Gu:IxR X (mIx X.K):=Jh Ji λx y H Q h=>by
 cases x with
 |str z=>cases y with
  |int i=>exact .inr (.inr ⟨z,i,h.2.choose,rfl,rfl,h.1,h.2.choose_spec.1,h.2.choose_spec.2⟩)
  |_=>exact(show False from h).elim
 |ref p=>cases y with
  |int i =>
   obtain⟨xs,v,hs,e,q⟩:=(show∃xs v,(SqL X.K H p xs\/SqT X.K H p xs)/\atI xs i=some v/\Q v H from h)
   rcases hs with hs|hs
   ·exact .inl ⟨p,xs,i,v,rfl,rfl,hs,e,q⟩
   ·exact .inr (.inl ⟨p,xs,i,v,rfl,rfl,hs,e,q⟩)
  |_=>exact(show False from h).elim
 |_=>exact(show False from by cases y<;>exact h).elim
theorem zd{a b:Expr}{ta tb:TE}{pos:Pos}(ha:PE X a ta)(hb:PE X b tb)(hs:Vc b):PE X (.Subscript a b pos) (tOp (mIx X.K) ta tb):=Hd Gu ha hb hs
theorem qb{prog:Program}{w:World}{A:Around}{E:Value->Shared->Prop}{s:Shared}{t sl:Addr}{items:Array Value}{vl vu:Value}{lo hi:Option Int}{Q:Value->Shared->Prop}(ht:IsTup s.heap t items)(hs:s.heap.IsSliceOf sl vl vu .none)(pl:IsPart vl lo)(pu:IsPart vu hi)
  (hw:HT.sIx items.size 0 lo=0/\HT.sIx items.size items.size hi=items.size) (h:Q (.ref t) s):wpAny (model prog w) A (getItem (.ref t) (.ref sl)) Q E s:=by
 obtain⟨os,BU,Af,A2⟩:=id hs;have hTs:s.TypeIs (.ref sl) "slice":=⟨os,BU,Af⟩
 unfold getItem
 try with_reducible refine xS ?_
 first|refine zZ (zV ?_)|skip
 refine zZ (wpAny_sequenceKey ht.typeIs (by decide) ?_);refine zZ (xQ (name:=Str.ofString "__getitem__") ht.typeIs xH
  (xV xH ht.typeIs entry_tuple_getitem ?_ (args_tuple_getitem _ _)))
 show wpAny _ _ (Builtin.Tuple.tupleItemsOf (.ref t) >>= _) _ _ s;refine zZ (tupleItemsOf_ ht ?_);refine zZ (uY hTs ?_);rw[yV (by decide)];refine zZ (HT.sliceApplied_gen hs pl pu ?_);have BI:(((HT.sIx items.size 0 lo:Nat):Int)==0&&(1:Int)==1&&(HT.sIx items.size items.size hi-HT.sIx items.size 0 lo)==items.size)=true:=by
  rw[hw.1,hw.2];simp
 show wpAny _ _ (if(((HT.sIx items.size 0 lo:Nat):Int)==0&&(1:Int)==1&&(HT.sIx items.size items.size hi-HT.sIx items.size 0 lo)==items.size)=true then _ else _) _ _ s;rw[yV BI];have hex:∀{A':Around}{Q':Bool->Shared->Prop}{E':Value->Shared->Prop},Q' true s->wpAny (model prog w) A' (Builtin.Tuple.tupleIsExact (.ref t)) Q' E' s:=λq=>by
  unfold Builtin.Tuple.tupleIsExact;exact zZ (uY ht.typeIs (zV q))
 refine zZ (hex ?_);rw[yV rfl];exact zZ (tU (zV ⟨_,rfl,zV h⟩))
theorem sl_tupA:SlR X (λx lo hi H Q=>∃a xs,x = .ref a/\SqT X.K H a xs/\∀(p:Addr)(H':Hp),Same H H'->SqT X.K H' p (vb xs lo hi)->Q (.ref p) H'):=by
 intro pins s σ H x v vl vu lo hi sl Q I rx hs pl pu h;obtain⟨a,xs,rfl,hx,q⟩:=h
 by_cases hw:HT.sIx xs.length 0 lo=0/\HT.sIx xs.length xs.length hi=xs.length
 ·cases rx;obtain⟨aD,r,ht,hz⟩:=I.tuple hx;have aH:aD.toArray.size=xs.length:=by rw[zL];exact r.length.symm
  refine⟨"tuple",_,xH.lookup,ht.typeIs,?_⟩;refine qb ht hs pl pu (by rw[aH];exact hw) ⟨.ref a,H,I,rfl,q a H (Same.refl H) ?_⟩;have e:vb xs lo hi=xs:=by
   unfold vb;rw[hw.1,hw.2];simp
  rw[e];exact hx
 ·exact Lc pins s σ H _ v vl vu lo hi sl Q I rx hs pl pu ⟨a,xs,rfl,hx,hw,λp n=>q p _ (w8 n _) (SqT.of zx)⟩
theorem Wb{v:Value}{o:Option Int}(p:IsPart v o):∃l:Option (Int×Tok),v=partValue l/\l.map (·.1)=o:=by
 cases p with
 |none=>exact⟨none,rfl,rfl⟩
 |int i t=>exact⟨some (i,t),rfl,rfl⟩
theorem sl_strA:SlR X (λx lo hi H Q=>∃z,x = .str z/\z.length<=sizeLine/\Q (.str (Txt.slice z lo hi)) H):=by
 intro pins s σ H x v vl vu lo hi sl Q I rx hs pl pu h;obtain⟨z,rfl,hz,q⟩:=h;obtain⟨t,rfl⟩:=rx;obtain⟨l,rfl,rfl⟩:=Wb pl;obtain⟨u,rfl,rfl⟩:=Wb pu;refine⟨"str",_,F.slot_str_getitem.lookup,tV _ _ _,?_⟩;refine wpAny_getItem_str_slice (l:=l) (u:=u) (st:=none) hs rfl (post_val_or_str ⟨yT (sA z _ _) hz,λt' k=>⟨.str (Txt.slice z (l.map (·.1)) (u.map (·.1))),H,I.tok k,⟨t',rfl⟩,q⟩⟩)
def mSl(K:W.Frag):V->Option Int->Option Int->Hp->VK->Prop:=λx lo hi H Q=>match x with
 | .str z=>z.length<=sizeLine/\Q (.str (Txt.slice z lo hi)) H
 | .ref a=>(∃xs,SqL K H a xs/\New H (.lst (vb xs lo hi)) Q)\/∃xs,SqT K H a xs/\∀(p:Addr)(H':Hp),Same H H'->SqT K H' p (vb xs lo hi)->Q (.ref p) H'
 |_=>False
theorem Gz:SlR X (mSl X.K):=Lb (sl_strA.or (sl_tupA.or Oe)) λx lo hi H Q h=>by
 cases x with
 |str z=>exact .inl ⟨z,rfl,h.1,h.2⟩
 |ref a =>
  have h':(∃xs,SqL X.K H a xs/\New H (.lst (vb xs lo hi)) Q)\/∃xs,SqT X.K H a xs/\∀(p:Addr)(H':Hp),Same H H'->SqT X.K H' p (vb xs lo hi)->Q (.ref p) H':=h;rcases h' with⟨xs,hx,q⟩|⟨xs,hx,q⟩
  ·exact .inr (.inr ⟨a,xs,rfl,hx,q.at⟩)
  ·exact .inr (.inl ⟨a,xs,rfl,hx,q⟩)
 |_=>exact(show False from h).elim
def Lv(t:TE):TO:=fun σ H Q=>t σ H (gr λi H1=>Q (some i) H1)
theorem xf{e:Expr}{te:TE}(h:PE X e te):PO X (some e) (Lv te):=by
 intro pins s σ H Q I hw;rw[evalPart_some];refine thn (h pins s σ H _ I hw) λu s1 ⟨x,H1,I1,r1,q1⟩=>?_;cases x with
 |int i =>
  obtain⟨t,rfl⟩:=r1;exact⟨some i,H1,I1,.int i t,q1⟩
 |_=>exact(show False from q1).elim
theorem xz{e:Expr}{te:TE}{lo hi:Option Expr}{tl th:TO}{pos p2:Pos}(he:PE X e te)(hl:PO X lo tl)(hu:PO X hi th):PE X (.Subscript e (.Slice lo hi none p2) pos) (tSl (mSl X.K) te tl th):=Q9 Gz he hl hu
def Gn(t:TA):TE:=fun σ H Q=>t σ H λxs H1=>xs.length<=sizeLine/\New H1 (.tup xs) Q
def Gh(t:TA):TE:=fun σ H Q=>t σ H λxs H1=>xs.length<=sizeLine/\New H1 (.lst xs) Q
theorem wb{es:List Expr}{t:TA}{pos:Pos}{x1}(h:PA X es t):PE X (.Tuple es x1 pos) (Gn t):=by
 intro pins s σ H Q I hq;refine wpAny_Tuple_spliced (thn (h pos pins s σ H _ I hq) λus s1 ⟨xs,H1,I1,r,z,q⟩=>⟨by rw[<-r.length];exact z,?_⟩);have hf:H1 s1.heap.objs.size=none:=I1.hok.fresh (zU _);refine⟨.ref s1.heap.objs.size,upd H1 s1.heap.objs.size (.tup xs),I1.laid (t':=s1.toks) (λb u e=>zX _ e) (zU _) ?_,rfl,q.at _ hf⟩;exact⟨z,us,r,⟨_,zR _ rfl,rfl,_,rfl⟩⟩
theorem wa{es:List Expr}{t:TA}{pos:Pos}(h:PA X es t):PE X (.List es pos) (Gh t):=by
 intro pins s σ H Q I hq;refine wpAny_List_spliced (thn (h pos pins s σ H _ I hq) λus s1 ⟨xs,H1,I1,r,z,q⟩=>⟨by rw[<-r.length];exact z,?_⟩);have hf:H1 s1.heap.objs.size=none:=I1.hok.fresh (zU _);refine⟨.ref s1.heap.objs.size,upd H1 s1.heap.objs.size (.lst xs),I1.laid (t':=s1.toks) (λb u e=>zX _ e) (zU _) ?_,rfl,q.at _ hf⟩;exact⟨z,us,0,r,zR _ rfl⟩
def mB(t:TE):TT:=fun σ H Q=>t σ H (Qy Q)
theorem zg{a b:Expr}{op:CmpOp}{r:R2}{ta tb:TE}{pos:Pos}(ho:OpR X (compareOp op) r)(ha:PE X a ta)(hb:PE X b tb)(hm:behindInMarks op b=false):PT X (.Compare a [op] [b] pos) (mB (tOp r ta tb)):=by
 intro pins s σ H Q I h;refine wpAny_isTrue_Compare1 (thn (ha pins s σ H _ I h) λv s1 ⟨x,H1,I1,r1,q1⟩=>thn (hb pins s1 σ H1 _ I1 q1) λu s2 ⟨y,H2,I2,r2,q2⟩ =>
  thn (ho pins s2 σ H2 x y v u _ I2 r1 r2 q2) λc s3 ⟨z,H3,I3,r3,q3⟩=>?_) hm
 cases z with
 |bl k =>
  cases r3;exact vO ⟨H3,I3,q3⟩
 |_=>exact(show False from q3).elim
theorem vv{e:Expr}{t:TE}(h:PE X e t)(he:∀oC,isTrue e X.env oC=(do let v <-oC;standAt e.pos;holding [v] (truthy v)):=by intro _;rfl):PT X e (mB t):=by
 intro pins s σ H Q I hw;refine isTrue_plain (thn (h pins s σ H _ I hw) λv s1 ⟨x,H1,I1,r1,q1⟩=>?_) (he _);cases x with
 |bl k =>
  cases r1;exact vO ⟨H1,I1,q1⟩
 |_=>exact(show False from q1).elim
def Lq(ta tb:TE):TE:=fun σ H Q=>ta σ H (Qy λc H1=>if c=true then tb σ H1 Q else Q (.bl false) H1)
def Gi(ta tb:TE):TE:=fun σ H Q=>ta σ H (Qy λc H1=>if c=true then Q (.bl true) H1 else tb σ H1 Q)
def Lu(ta:TE):TE:=fun σ H Q=>ta σ H (Qy λc H1=>Q (.bl (!c)) H1)
theorem Go{a b:Expr}{rest:List Expr}{ta tb:TE}{pos:Pos}(ha:PE X a ta)(hb:PE X (.BoolOp .And (b::rest) pos) tb):PE X (.BoolOp .And (a::b::rest) pos) (Lq ta tb):=by
 intro pins s σ H Q I h;refine BoolOp_and (thn (ha pins s σ H _ I h) λv s1 ⟨x,H1,I1,r1,q1⟩=>?_);cases x with
 |bl c =>
  cases r1;refine vO ?_;cases c with
  |true=>exact hb pins s1 σ H1 Q I1 q1
  |false=>exact⟨.bl false,H1,I1,rfl,q1⟩
 |_=>exact(show False from q1).elim
theorem Gx{a b:Expr}{rest:List Expr}{ta tb:TE}{pos:Pos}(ha:PE X a ta)(hb:PE X (.BoolOp .Or (b::rest) pos) tb):PE X (.BoolOp .Or (a::b::rest) pos) (Gi ta tb):=by
 intro pins s σ H Q I h;refine BoolOp_or (thn (ha pins s σ H _ I h) λv s1 ⟨x,H1,I1,r1,q1⟩=>?_);cases x with
 |bl c =>
  cases r1;refine vO ?_;cases c with
  |false=>exact hb pins s1 σ H1 Q I1 q1
  |true=>exact⟨.bl true,H1,I1,rfl,q1⟩
 |_=>exact(show False from q1).elim
theorem Z4{a:Expr}{ta:TE}{pos:Pos}(ha:PE X a ta):PE X (.UnaryOp .Not a pos) (Lu ta):=by
 intro pins s σ H Q I h;refine UnaryOp_ (thn (ha pins s σ H _ I h) λv s1 ⟨x,H1,I1,r1,q1⟩=>?_);cases x with
 |bl c =>
  cases r1;exact not_of (vO ⟨.bl (!c),H1,I1,rfl,q1⟩)
 |_=>exact(show False from q1).elim
def Jt(K:W.Frag):List V->Hp->VK->Prop:=λxs H Q=>match xs with
 |[.str z]=>z.length<=sizeLine/\Q (.int z.length) H
 |[.ref p]=>∃ys,(SqL K H p ys\/SqT K H p ys)/\Q (.int ys.length) H
 |_=>False
theorem yi:ww X (.builtin "len") (Jt X.K):=by
 intro pins s σ H xs us Q I r h
 match xs,h with
 |[.str z],h=>exact ci pins s σ H _ us Q I r ⟨z,rfl,h.1,h.2⟩
 |[.ref p],h =>
  obtain⟨ys,hs,q⟩:=(show∃ys,(SqL X.K H p ys\/SqT X.K H p ys)/\Q (.int ys.length) H from h)
  exact cg pins s σ H _ us Q I r ⟨p,ys,rfl,hs,q⟩
theorem Wa{C:Addr->Prop}{xs:List V}(h:match xs with|[.ref p]=>C p|_=>False):∃p,xs=[.ref p]/\C p:=by
 rcases xs with _|⟨x,_|⟨_,_⟩⟩
 ·exact(show False from h).elim
 ·cases x with
  |ref p=>exact⟨p,rfl,h⟩
  |_=>exact(show False from h).elim
 ·exact(show False from by cases x<;>exact h).elim
def V2(K:W.Frag):List V->Hp->VK->Prop:=λxs H Q=>match xs with
 |[.ref p]=>∃ys,(SqL K H p ys\/SqT K H p ys)/\New H (.lst ys) Q
 |_=>False
theorem Qg:ww X (.type "list") (V2 X.K):=by
 intro pins s σ H xs us Q I r h;obtain⟨p,rfl,ys,hs,q⟩:=Wa (C:=λp=>∃ys,(SqL X.K H p ys\/SqT X.K H p ys)/\New H (.lst ys) Q) h;exact cj pins s σ H _ us Q I r ⟨p,ys,rfl,hs,q.at⟩
def Qc(K:W.Frag):List V->Hp->VK->Prop:=λxs H Q=>match xs with
 |[.ref p]=>∃ys,(SqL K H p ys\/SqT K H p ys)/\∀(r:Addr)(H':Hp),Same H H'->SqT K H' r ys->Q (.ref r) H'
 |_=>False
theorem yg:ww X (.type "tuple") (Qc X.K):=by
 intro pins s σ H xs us Q I r h;obtain⟨p,rfl,ys,hs,q⟩:=Wa (C:=λp=>∃ys,(SqL X.K H p ys\/SqT X.K H p ys)/\∀(r:Addr)(H':Hp),Same H H'->SqT X.K H' r ys->Q (.ref r) H') h;rcases hs with hs|hs
 ·exact rc pins s σ H _ us Q I r ⟨p,ys,rfl,.inl ⟨hs,λl n=>q l _ (w8 n _) (SqT.of zx)⟩⟩
 ·exact rc pins s σ H _ us Q I r ⟨p,ys,rfl,.inr ⟨hs,q p H (Same.refl H) hs⟩⟩
inductive TyX (K:W.Frag) (H:Hp):V->Value->Prop where
 |of {x:V}{t:Value} (h:TyOf K H x t):TyX K H x t
 |tup {a:Addr}{xs:List V} (h:SqT K H a xs):TyX K H (.ref a) (.type "tuple")
 |lst {a:Addr}{xs:List V} (h:SqL K H a xs):TyX K H (.ref a) (.type "list")
def Gf(K:W.Frag):List V->Hp->VK->Prop:=λxs H Q=>match xs with
 |[x,.ty c]=>∃t b,TyX K H x t/\W.kitOne K t (.type c)=some b/\Q (.bl b) H
 |_=>False
theorem Ix{C:V->String->Prop}{xs:List V}(h:match xs with|[x,.ty c]=>C x c|_=>False):∃x c,xs=[x,.ty c]/\C x c:=by
 rcases xs with _|⟨x,_|⟨y,_|⟨_,_⟩⟩⟩
 ·exact(show False from h).elim
 ·exact(show False from h).elim
 ·cases y with
  |ty c=>exact⟨x,c,rfl,h⟩
  |_=>exact(show False from h).elim
 ·exact(show False from by cases y<;>exact h).elim
theorem Gs:ww X (.builtin "isinstance") (Gf X.K):=by
 intro pins s σ H xs us Q I r h;obtain⟨x,c,rfl,t,b,ty,e,q⟩:=Ix (C:=λx c=>∃t b,TyX X.K H x t/\W.kitOne X.K t (.type c)=some b/\Q (.bl b) H) h;obtain⟨u,w',rfl,r1,r2⟩:=br r;cases r2;cases ty with
 |of ty=>exact Tr I r1 ty e λtk=>⟨.bl b,H,I.tok tk,rfl,q⟩
 |tup hq =>
  cases r1;obtain⟨aD,_,⟨o,h1,h2,_⟩,_⟩:=I.tuple hq;exact xB W.kitx_tuple I.kIn ⟨o,h1,h2⟩ e (λz=>nomatch z) λtk=>⟨.bl b,H,I.tok tk,rfl,q⟩
 |lst hq =>
  cases r1;obtain⟨aD,_,pl,_⟩:=I.list hq;obtain⟨o,h1,h2,_⟩:=pl.isList;exact xB W.kitx_list I.kIn ⟨o,h1,h2⟩ e (λz=>nomatch z) λtk=>⟨.bl b,H,I.tok tk,rfl,q⟩
def Gb:V->List V->Hp->VK->Prop:=λx vs H Q=>match x,vs with
 | .ref l,[y]=>∃xs,H l=some (.lst xs)/\xs.length<sizeLine/\Q .non (upd H l (.lst (xs++[y])))
 |_,_=>False
theorem N8{C:Addr->V->Prop}{x:V}{vs:List V}(h:match x,vs with|.ref l,[y]=>C l y|_,_=>False):∃l y,x = .ref l/\vs=[y]/\C l y:=by
 cases x with
 |ref l =>
  rcases vs with _|⟨y,_|⟨_,_⟩⟩
  ·exact(show False from h).elim
  ·exact⟨l,y,rfl,rfl,h⟩
  ·exact(show False from h).elim
 |_=>exact(show False from by rcases vs with _|⟨y,_|⟨_,_⟩⟩<;>exact h).elim
theorem kg:MtR X "list.append" Gb:=λpins s σ H x xs v us Q I rx rs h=>by
 obtain⟨l,y,rfl,rfl,ys,e,z,q⟩:=N8 (C:=λl y=>∃ys,H l=some (.lst ys)/\ys.length<sizeLine/\Q .non (upd H l (.lst (ys++[y])))) h;exact gk pins s σ H _ _ v us Q I rx rs ⟨l,ys,y,rfl,rfl,e,z,q⟩
def mBM(r:V->List V->Hp->VK->Prop)(to:TE)(t:TA):TE:=fun σ H Q=>to σ H λx H1=>(∃p xs,x = .ref p/\H1 p=some (.lst xs))/\t σ H1 λxs H2=>r x xs H2 Q
theorem kh{o e:Expr}{es:List Expr}{to:TE}{t:TA}{name:Str}{apos cpos:Pos}{id:String}{r:V->List V->Hp->VK->Prop}(slot:Slot "list" name id)(hty:typeOf (.builtin id)=pure (.type "method_descriptor"))(hm:MtR X id r)(ho:PE X o to)(ha:PA X (e::es) t)
  (fF:attributeBase o name X.env (eval o X.env)=eval o X.env:=by rfl)
  (nL:((backTo cpos (starEach (e::es) X.env)).all (λx=>!x.1)&&(backToKw cpos (keywordEach [] X.env)).all (λx=>x.1.isSome)
  &&decide ((e::es).length+([]:List Keyword).length+(if([]:List Keyword).isEmpty then 0 else 1)<30))=true:=by rfl)
  (fD:(apos.endLine==cpos.line)=true:=by rfl) (hs:starEach (e::es) X.env=(false,eval e X.env)::starEach es X.env:=by rfl) (nG:(backTo cpos (starEach es X.env)).any (·.1)=false:=by rfl) :
  PE X (.Call (.Attribute o name apos) (e::es) [] cpos) (mBM r to t):=by
 intro pins s σ H Q I h;refine uP fF nL fD rfl (thn (ho pins s σ H _ I h) λv s1 ⟨x,H1,I1,r1,⟨p,xs,e,hp⟩,q1⟩=>?_);subst e;obtain⟨h1,h2⟩:=Li (T:="list") I1 r1 (.inl ⟨rfl,xs,SqL.of hp⟩);refine⟨"list",id,F.plainAttrs_list,slot,hty,h1,h2,?_⟩;have hA:=ha cpos pins s1 σ H1 _ I1 q1;rw[hs]at hA ⊢;refine uO (by show(false||(backTo cpos (starEach es X.env)).any (·.1))=false;rw[nG]<;>rfl) (tY ?_);exact thn hA λus s2 ⟨vs,H2,I2,r2,q2⟩=>hm pins s2 σ H2 _ vs v us Q I2 r1 r2 q2
def F9(K:W.Frag)(tl:TE):TI:=fun σ H R=>tl σ H (kr λa H1=>((∃xs,SqL K H1 a xs)/\R (Itl K a) H1)\/((∃xs,SqT K H1 a xs)/\R (Itt K a) H1))
theorem yw{tg l:Expr}{tl:TE}(hl:PE X l tl):PI X tg l (F9 X.K tl):=by
 intro pins s σ H R I h;refine thn (hl pins s σ H _ I h) λv s1 ⟨x,H1,I1,r1,q1⟩=>?_;cases x with
 |ref a =>
  cases r1;rcases(show((∃xs,SqL X.K H1 a xs)/\R (Itl X.K a) H1)\/((∃xs,SqT X.K H1 a xs)/\R (Itt X.K a) H1)from q1)with⟨⟨xs,hq⟩,q⟩|⟨⟨xs,hq⟩,q⟩
  ·obtain⟨aD,rv,p,hz⟩:=I1.list hq;refine uA p.isList ?_;refine⟨s1.heap.objs.size,[s1.heap.objs.size],_,_,H1,rfl,I1.kept (t':=s1.toks) λb o e=>zX _ e,U7 a _,⟨_,zR _ rfl,rfl,rfl⟩,λb hb=>?_,q⟩;have e:b=s1.heap.objs.size:=by simpa using hb
   subst e;exact I1.fpOk (zU _) (I1.hok.fresh (zU _))
  ·obtain⟨aD,rv,p,hz⟩:=I1.tuple hq;refine vU (show s1.heap.IsTuple a aD.toArray from p) ?_;refine⟨s1.heap.objs.size,[s1.heap.objs.size],_,_,H1,rfl,I1.kept (t':=s1.toks) λb o e=>zX _ e,mn a _,⟨_,zR _ rfl,rfl,rfl⟩,λb hb=>?_,q⟩;have e:b=s1.heap.objs.size:=by simpa using hb
   subst e;exact I1.fpOk (zU _) (I1.hok.fresh (zU _))
 |_=>exact(show False from q1).elim
def iR1(ta:TA):TI:=fun σ H R=>ta σ H (on1 (gr λj H1=>(-(2 ^ 62)<=j/\j<2 ^ 62)/\R (Itr 0 j.toNat) H1))
theorem yp{tg a:Expr}{ta:TA}{p pos:Pos}(hg:Gl X "range")(hm:X.mg "range"=none)(ha:PA X [a] ta)(hs:starEach [a] X.env=[(false,eval a X.env)]:=by rfl):PI X tg (.Call (.Name "range" p) [a] [] pos) (iR1 ta):=by
 intro pins s σ H R I h;refine Call_ (wg I hg hm boot_range (xU (thn (ha pos pins s σ H _ I h) λus s1 ⟨vs,H1,I1,r1,q1⟩=>?_) hs rfl));rcases vs with _|⟨x,_|⟨y,rr⟩⟩
 ·exact(show False from q1).elim
 ·cases x with
  |int j =>
   obtain⟨⟨q1,q2⟩,q⟩:=(show(-(2 ^ 62)<=j/\j<2 ^ 62)/\R (Itr 0 j.toNat) H1 from q1)
   cases r1 with
   |cons r rr =>
    cases rr;obtain⟨t,rfl⟩:=r;exact call_range_1 (Rp I1 (by lia) (by lia) q1 q2 (by simpa using q))
  |_=>exact(show False from q1).elim
 ·exact(show False from q1).elim
def Wz(g:TG)(tb:TS)(J:It)(D:rh)(σ:St)(H1:Hp):Prop:=∃W:Nat->Nat->St->Hp->Prop,(∃m,W 0 m σ H1)/\∀i m σ H,W i m σ H ->
 (J.stop i H/\D.nx σ H)\/(J.go i H/\∃N:St->Hp->Prop,(∀σ' H',N σ' H'->∃m',m'<m/\W (i+1) m' σ' H')/\∀x H',J.yld i H x H'->g x σ H' fun σ2 H2=>tb { D with nx:=N,ct:=N,bk:=D.nx } σ2 H2)
def Gd(wi:TI)(g:TG)(tb:TS):TS:=λD σ H=>wi σ H λJ H1=>Wz g tb J D σ H1
theorem xq{tg iter:Expr}{body:List Stmt}{wi:TI}{g:TG}{tb:TS}{pos:Pos}(hp:PassesOwn (model X.prog X.w) X.A X.env X.xe)(hc:X.calm=true)(hi:PI X tg iter wi)(hg:PG X tg g)(hb:PSs X body tb)
  (hs:∀x,foldedSetIterable iter X.env x=pure x:=by intro _;rfl):PS X (.For tg iter body [] pos) (Gd wi g tb):=Kn hp hc hi hg hb hs
theorem vm{K:W.Frag}{a:Addr}{xs:List V}{g:TG}{tb:TS}{D:rh}{σ:St}{H:Hp}(Pv:Nat->St->Hp->Prop)(h0:Pv 0 σ H)(hl:∀i σ H,i<=xs.length->Pv i σ H->SqL K H a xs)
  (hs:∀i x σ H,xs[i]?=some x->Pv i σ H->g x σ H fun σ2 H2=>tb { D with nx:=Pv (i+1),ct:=Pv (i+1),bk:=D.nx } σ2 H2) (hd:∀σ H,Pv xs.length σ H->D.nx σ H):Wz g tb (Itl K a) D σ H:=Pg Pv h0 hl hs hd
theorem xh{K:W.Frag}{a:Addr}{xs:List V}{g:TG}{tb:TS}{D:rh}{σ:St}{H:Hp}(Pv:Nat->St->Hp->Prop)(h0:Pv 0 σ H)(hl:∀i σ H,i<=xs.length->Pv i σ H->SqT K H a xs)
  (hs:∀i x σ H,xs[i]?=some x->Pv i σ H->g x σ H fun σ2 H2=>tb { D with nx:=Pv (i+1),ct:=Pv (i+1),bk:=D.nx } σ2 H2) (hd:∀σ H,Pv xs.length σ H->D.nx σ H):Wz g tb (Itt K a) D σ H:=Mi Pv h0 hl hs hd
theorem w4{n:Nat}{g:TG}{tb:TS}{D:rh}{σ:St}{H:Hp}(Pv:Nat->St->Hp->Prop)(h0:Pv 0 σ H)
  (hs:∀i σ H,i<n->Pv i σ H->g (.int (0+(i:Int))) σ H fun σ2 H2=>tb { D with nx:=Pv (i+1),ct:=Pv (i+1),bk:=D.nx } σ2 H2) (hd:∀σ H,Pv n σ H->D.nx σ H):Wz g tb (Itr 0 n) D σ H:=Tl Pv h0 hs hd
end
section
variable {K:W.Frag}{H:Hp}{Q:VK}{i j:Int}{x y:Str}{p r:Addr}{c d:Bool}{g:Bool->Bool}{v:V}{neg:Bool}
theorem Kq:Mv K (.int i) (.int j) H Q=Q (.int (i+j)) H:=rfl
theorem Ks:Mv K (.str x) (.str y) H Q=(x.length+y.length<=sizeLine/\Q (.str (x++y)) H):=rfl
theorem Kr:Mv K (.ref p) (.ref r) H Q=((∃xs ys,H p=some (.lst xs)/\H r=some (.lst ys)/\xs.length+ys.length<=sizeLine/\New H (.lst (xs++ys)) Q) \/
   ∃xs ys,SqT K H p xs/\SqT K H r ys/\xs.length+ys.length<=sizeLine/\∀(p:Addr)(H':Hp),Same H H'->SqT K H' p (xs++ys)->Q (.ref p) H'):=rfl
theorem Fj{C:Int->Int->Prop}{f:Int->Int->V}:mII C f (.int i) (.int j) H Q=(C i j/\Q (f i j) H):=rfl
theorem Hj{f:Int->Int->V}:T5 f (.int i) (.int j) H Q=Q (f i j) H:=rfl
theorem Hg:kf K g (.int i) (.int j) H Q=Q (.bl (g (decide (i=j)))) H:=rfl
theorem Hf:kf K g (.bl c) (.bl d) H Q=Q (.bl (g (decide (c=d)))) H:=rfl
theorem Hi:kf K g (.str x) (.str y) H Q=Q (.bl (g (decide (x=y)))) H:=rfl
theorem Kz:kf K g .non .non H Q=Q (.bl (g true)) H:=rfl
theorem Kw:kf K g .non (.bl c) H Q=Q (.bl (g false)) H:=rfl
theorem Ku:kf K g (.bl c) .non H Q=Q (.bl (g false)) H:=rfl
theorem Ky:kf K g .non (.int i) H Q=Q (.bl (g false)) H:=rfl
theorem Kv:kf K g (.int i) .non H Q=Q (.bl (g false)) H:=rfl
theorem Hh:kf K g (.ref p) (.ref r) H Q=(∃da db,Has K H (.ref p) da/\Has K H (.ref r) db/\SeqAt.shaped da=true/\SeqAt.shaped db=true/\Q (.bl (g (PyData.eqv da db))) H):=rfl
theorem Hq:mLe (.int i) (.int j) H Q=Q (.bl (decide (i<=j))) H:=rfl
theorem Ho:mLe (.bl c) (.bl d) H Q=Q (.bl (!c||d)) H:=rfl
theorem Fk:mIn K neg v (.ref p) H Q=(∃xs,(SqL K H p xs\/SqT K H p xs)/\vd v=true/\xs.all vd=true/\Q (.bl (if neg then !inV v xs else inV v xs)) H):=rfl
theorem Hn:mIx K (.str x) (.int i) H Q=(x.length<=sizeLine/\∃c,atI x.cps.toList i=some c/\Q (.str ⟨#[c]⟩) H):=rfl
theorem Hm:mIx K (.ref p) (.int i) H Q=(∃xs v,(SqL K H p xs\/SqT K H p xs)/\atI xs i=some v/\Q v H):=rfl
theorem Hv{lo hi:Option Int}:mSl K (.str x) lo hi H Q=(x.length<=sizeLine/\Q (.str (Txt.slice x lo hi)) H):=rfl
theorem Hu{lo hi:Option Int}:mSl K (.ref p) lo hi H Q=((∃xs,SqL K H p xs/\New H (.lst (vb xs lo hi)) Q)\/∃xs,SqT K H p xs/\∀(p:Addr)(H':Hp),Same H H'->SqT K H' p (vb xs lo hi)->Q (.ref p) H'):=rfl
theorem K3:Jt K [.str x] H Q=(x.length<=sizeLine/\Q (.int x.length) H):=rfl
theorem K2:Jt K [.ref p] H Q=(∃ys,(SqL K H p ys\/SqT K H p ys)/\Q (.int ys.length) H):=rfl
theorem Ro:V2 K [.ref p] H Q=(∃ys,(SqL K H p ys\/SqT K H p ys)/\New H (.lst ys) Q):=rfl
theorem N5:Qc K [.ref p] H Q=(∃ys,(SqL K H p ys\/SqT K H p ys)/\∀(r:Addr)(H':Hp),Same H H'->SqT K H' r ys->Q (.ref r) H'):=rfl
theorem Hl{T:String}:Gf K [v,.ty T] H Q=(∃t b,TyX K H v t/\W.kitOne K t (.type T)=some b/\Q (.bl b) H):=rfl
theorem He:Gb (.ref p) [v] H Q=(∃xs,H p=some (.lst xs)/\xs.length<sizeLine/\Q .non (upd H p (.lst (xs++[v])))):=rfl
end
structure zy(P:Program)(w:World)(K:W.Frag)(mg:Str->Option Value)(base:Heap)(k:Nat)(x:Str)(ps:List Str)(sp:Sp):Prop where
 ex:∃(f:Addr)(fd:FuncData),FnOk P w K mg base CX0 k f fd ps sp/\Binds K fd ps []/\W.keepIn K (.ref f)=true/\mg x=some (.ref f)
theorem zw{X:Cx}{k k':Nat}{x:Str}{ps:List Str}{sp:Sp}{t:TA}{e:Expr}{es:List Expr}{p pos:Pos}(C:zy X.prog X.w X.K X.mg X.base k x ps sp)(hr:Room k' X.A)(hk:k<=k')(ha:PA X (e::es) t)(hg:Gl X x:=by rfl)
  (pK:(x==("__debug__":Str))=false:=by decide) (he:starEach (e::es) X.env=(false,eval e X.env)::starEach es X.env:=by rfl) (bL:(backTo pos (starEach es X.env)).any (·.1)=false:=by rfl) :
  PE X (.Call (.Name x p) (e::es) [] pos) (Sn sp [] E0 t):=by
 obtain⟨f,fd,F,b,kp,hm⟩:=C.ex;exact Nx F (hr.mono hk) hg hm kp b .nil Q5 ha pK he bL
theorem Zm{P:Program}{w:World}{K:W.Frag}{mg:Str->Option Value}{base:Heap}{k k':Nat}{x:Str}{ps:List Str}{sp:Sp}(C:zy P w K mg base k x ps sp)(h:k<=k'):zy P w K mg base k' x ps sp:=by
 obtain⟨f,fd,F,b,kp,hm⟩:=C.ex;exact⟨f,fd,F.mono h,b,kp,hm⟩
structure Def(K:W.Frag)(mg:Str->Option Value)(x:Str)(st:Stmt)(ps:List Str):Prop where
 ex:∃(f:Addr)(fd:FuncData),Fun K x x st f fd/\(∀us:List Value,us.length=ps.length->bindArgs fd ⟨us,[]⟩=pure (ps.zip us))/\mg x=some (.ref f)
section
variable {P:Program}{w:World}{K:W.Frag}{mg:Str->Option Value}{base:Heap}
theorem Ph{x:Str}{st:Stmt}{f:Addr}{fd:FuncData}{N ps:List Str}{k:Nat}{sp:Sp}(F:Fun K x x st f fd)(S:vo N ps (zr st))(len:∀vs H Q E,sp vs H Q E->vs.length=ps.length)
  (bI:∀(f:Addr)(cdv:Value)(A:Around)(outer:List Env)(s:Shared)(H:Hp)(vs:List V)(Q:VK)(E:XK),Room k (A.deeper (envOfC x (zr st) s.heap.objs.size f cdv))->N.Nodup->sp vs H Q E ->
   ∃σ t,u9 N vs=σ/\PSs (o4 CX0 P w K mg base N x (zr st) f cdv A outer s H E).nox (zc st) t/\t { nx:=λ_ H'=>Q .non H',rt:=Q } σ H):FnOk P w K mg base CX0 (k+1) f fd ps sp :=
 F.ok S len λcdv A outer s H vs Q E hr h=>by
  obtain⟨σ,t,e,ht,q⟩:=bI f cdv A outer s H vs Q E hr S.nd h;exact⟨t,ht,by rw[e];exact q⟩
theorem Def.callee{x:Str}{st:Stmt}{N ps:List Str}{k:Nat}{sp:Sp}(F:Def K mg x st ps)(S:vo N ps (zr st))(len:∀vs H Q E,sp vs H Q E->vs.length=ps.length)
  (bI:∀(f:Addr)(cdv:Value)(A:Around)(outer:List Env)(s:Shared)(H:Hp)(vs:List V)(Q:VK)(E:XK),Room k (A.deeper (envOfC x (zr st) s.heap.objs.size f cdv))->N.Nodup->sp vs H Q E ->
   ∃σ t,u9 N vs=σ/\PSs (o4 CX0 P w K mg base N x (zr st) f cdv A outer s H E).nox (zc st) t/\t { nx:=λ_ H'=>Q .non H',rt:=Q } σ H):zy P w K mg base (k+1) x ps sp:=by
 obtain⟨f,fd,F,b,hm⟩:=F.ex;exact⟨f,fd,Ph F S len bI,.all b,F.kp,hm⟩
theorem def_mk{h:Heap}{x:Str}{st:Stmt}{ps:List Str}{f:Addr}{oc:Value}{od an:Option Addr}{osl:Array (Option Value)}{kV doc pm cdv ct:Value}(X:K.In h)(G:h.Ns mainGlobals mg)
  (a:W.nsIn K mainGlobals x=some (some (.ref f))) (l:K.lookup f=some ⟨oc,od,.func (W.fnOf x x (yt st) (zc st) (zr st) .none kV doc pm an cdv ct),osl⟩)
  (c:W.codeIn K cdv x=true) (k:W.keepIn K (.ref f)=true)
  (hb:∀(kV doc pm:Value)(an:Option Addr)(cdv ct:Value)(us:List Value),us.length=ps.length->bindArgs (W.fnOf x x (yt st) (zc st) (zr st) .none kV doc pm an cdv ct) ⟨us,[]⟩=pure (ps.zip us)):Def K mg x st ps :=
 ⟨f,_,Xf l c k,hb kV doc pm an cdv ct,uF X G a⟩
end
end My
namespace My
open PySem PySem.Spec L2
open PyProof.Rows hiding St
def yr(X:Cx)(N':List Str)(scope:Scope)(cl:List (Str×Addr))(C:Addr)(s₀:Shared)(H₀:Hp)(ex:List Addr):Cx where
 prog:=X.prog
 w:=X.w
 K:=X.K
 mg:=X.mg
 base:=X.base
 A:=X.A
 N:=N'
 s₀:=s₀
 H₀:=H₀
 env:=compEnvC scope cl C X.env
 outer:=X.stack
 stack:=X.stack
 ex:=ex
 fn:=λ_=>false
 calm:=X.calm
 pn:=[]
 xe:=λ_ _=>False
structure CompOk(X:Cx)(own N:List Str)(scope:Scope)(cl:List (Str×Addr)):Prop where
 clos:closureFor scope X.env=pure cl
 sub:∀p∈cl,X.env.cells.lookup p.1=some p.2
 have_:∀p∈scope.names,p.2 = .free->∃c,cl.lookup p.1=some c
 nocell:∀y∈scope.names,y.2≠.cell
 kind:scope.kind = .function
 names:∀y∈scope.names,y.2 = .local->scope.names.lookup y.1=some .local
 mine:∀x∈own,scope.names.lookup x=some .local
 nd:(own++N).Nodup
 cells:∀y∈N,X.env.kindOf y=some .cell\/X.env.kindOf y=some .free
 free:∀y∈N,∃c,cl.lookup y=some c
 vis:∀y∈N,(relabel scope X.env).names.lookup y=some .cell\/(relabel scope X.env).names.lookup y=some .free
theorem wz{env:Env}:∀{names:List (Str×NameKind)}{x:Str}{k:NameKind},
  (names.map λ(n,k)=>if(k==NameKind.free&&env.scope.kind == .function&&env.kindOf n==some .cell)then(n,NameKind.cell)else(n,k)).lookup x=some k ->
  (k = .cell\/k = .free)->names.lookup x=some .cell\/names.lookup x=some .free
 |[],_,_,h,_=>by simp at h
 |(n,k')::r,x,k,h,hk=>by
  have ih:=@wz env r x k;have h':List.lookup x ((if(k'==NameKind.free&&env.scope.kind == .function&&env.kindOf n==some .cell)=true then(n,NameKind.cell)else(n,k'))::(r.map λ(n,k)=>if(k==NameKind.free&&env.scope.kind == .function&&env.kindOf n==some .cell)then(n,NameKind.cell)else(n,k)))=some k:=h
  by_cases hc:(k'==NameKind.free&&env.scope.kind == .function&&env.kindOf n==some .cell)=true
  ·rw[yV hc]at h';have aW:k' = .free:=by
    rw[yJ,yJ]at hc;exact eq_of_beq hc.1.1
   cases hx:x==n with
   |true=>right;simp only[sG,hx,aW]
   |false =>
    simp only[sG,hx]at h' ⊢;exact ih h' hk
  ·rw[zC hc]at h';cases hx:x==n with
   |true =>
    simp only[sG,hx]at h' ⊢;cases h';rcases hk with rfl|rfl
    ·left;rfl
    ·right;rfl
   |false =>
    simp only[sG,hx]at h' ⊢;exact ih h' hk
section
variable {X:Cx}{own N:List Str}{scope:Scope}{cl:List (Str×Addr)}
theorem CompOk.up(k:CompOk X own N scope cl){y:Str}{c:Addr}(h:cl.lookup y=some c):X.env.cells.lookup y=some c:=k.sub (y,c) (xC h)
theorem Xl{NX:List Str}{ixs:List Nat}{N:List Str}(h:ixs.map (λi=>NX[i]?)=N.map some):ixs.length=N.length:=by
 have:=xK List.length h;simpa using this
theorem Pn{NX:List Str}{ixs:List Nat}{N:List Str}(h:ixs.map (λi=>NX[i]?)=N.map some):∀(j:Nat)(i:Nat),ixs[j]?=some i->∃y,NX[i]?=some y/\N[j]?=some y:=λj i e=>by
 have h1:(ixs.map (λi=>NX[i]?))[j]?=(N.map some)[j]?:=by rw[h]
 rw[zT,zT,e]at h1;cases e2:N[j]? with
 |none=>rw[e2]at h1;cases h1
 |some y=>rw[e2]at h1;exact⟨y,yX h1,rfl⟩
theorem zo(clos:closureFor scope X.env=pure cl)(sub:cl.map (λp=>X.env.cells.lookup p.1)=cl.map (λp=>some p.2))
  (b1:(scope.names.all λp=>!(p.2 == .free)||(cl.lookup p.1).isSome)=true) (b2:(scope.names.all λp=>!(p.2 == .cell))=true) (kind:scope.kind = .function)
  (b3:(scope.names.all λp=>!(p.2 == .local)||scope.names.lookup p.1==some .local)=true) (ow:own.map (λx=>scope.names.lookup x)=own.map (λ_=>some .local)) (nd:(own++N).Nodup)
  (b4:(N.all λy=>X.env.kindOf y==some .cell||X.env.kindOf y==some .free)=true) (b5:(N.all λy=>(cl.lookup y).isSome)=true)
  (b6:(N.all λy=>(relabel scope X.env).names.lookup y==some .cell||(relabel scope X.env).names.lookup y==some .free)=true):CompOk X own N scope cl:=by
 rw[yA]at b1 b2 b3 b4 b5 b6;refine⟨clos,List.map_inj_left.mp sub,λp hp hf=>?_,λp hp hc=>?_,kind,λp hp hl=>?_,List.map_inj_left.mp ow,nd,λy hy=>?_,λy hy=>uX.mp (b5 y hy),λy hy=>?_⟩
 ·have h:=b1 p hp;rw[hf]at h;exact uX.mp (by simpa using h)
 ·have h:=b2 p hp;rw[hc]at h;simp at h
 ·have h:=b3 p hp;rw[hl]at h;simpa using h
 ·have h:=b4 y hy;rw[Bool.or_eq_true]at h;exact h.imp eq_of_beq eq_of_beq
 ·have h:=b6 y hy;rw[Bool.or_eq_true]at h;exact h.imp eq_of_beq eq_of_beq
theorem O6{pins:List (Addr×Obj)}{σ:St}{H:Hp}{s:Shared}{fp:List Addr}{h₁:Heap}{tk:Nat}{ixs:List Nat}(k:CompOk X own N scope cl)(I:Inv X pins σ H s)(hf:∀b∈fp,pi X pins H b)(hfp:∀b∈fp,b<s.heap.objs.size)
  (mS:∀(j:Nat)(i:Nat),ixs[j]?=some i->∃y,X.N[i]?=some y/\N[j]?=some y) (aH:ixs.length=N.length)
  (qC:h₁.Ns s.heap.objs.size λ_=>none) (EU:∀b o,b≠s.heap.objs.size->s.heap.get? b=some o->h₁.get? b=some o) :
  Inv (yr X (own++N) scope cl s.heap.objs.size s H fp) [] (own.map (λ_=>none)++ixs.map (gv σ)) H { s with heap:=h₁,toks:=tk }:=by
 have old:∀b o,s.heap.get? b=some o->h₁.get? b=some o:=λb o e=>EU b o (zF (zQ e)) e;have nfs:∀b∈fp,b∉frs X.stack:=λb hb z=>by
  rcases zI.mp (I.stkSub b z)with e|e
  ·exact(hf b hb).2.1 e
  ·exact(hf b hb).2.2.1 e
 refine⟨⟨I.ok.mod,?_,I.ok.glob,I.ok.blt,zU _,?_,?_,?_,I.ok.hd,I.ok.frames,.inl rfl,?_,I.bs,yT I.ok.bsz I.sz,?_,nfs,I.stack,I.stkFree⟩,
  rfl,I.bare,Un.kept old,⟨λ_=>none,qC,?_⟩,?_,I.hok.fresh (zU _),?_,λp hp=>absurd hp (by simp[yr]),I.hok.kept old,?_⟩
 ·exact k.kind
 ·exact λy z c h1 h2=>I.ok.inj y z c (k.up h1) (k.up h2)
 ·intro y hy;have BJ:scope.names.lookup y=some .cell\/scope.names.lookup y=some .free:=by
   rcases hy with hy|hy
   ·exact wz (env:=X.env) hy (.inl rfl)
   ·exact wz (env:=X.env) hy (.inr rfl)
  rcases BJ with BJ|BJ
  ·exact absurd rfl (k.nocell _ (xC BJ))
  ·exact k.have_ _ (xC BJ) rfl
 ·intro y c h1;exact absurd h1 (by simp[yr])
 ·intro b hb;exact⟨zF (hfp b hb),λy c e=>(hf b hb).2.2.2.2.1 y c (k.up e)⟩
 ·intro b o e hb;rcases(hf b hb).2.2.2.1 with z|z
  ·exact I.ok.noex b o e z
  ·exact absurd (zA (zQ e) (yT I.ok.bsz z)) (vT _)
 ·intro i y v h1 h2 h3;have h1:(own++N)[i]?=some y:=h1
  by_cases hio:i<own.length
  ·rw[yK (by simpa using hio)]at h2;simp[hio]at h2
  ·have fU:(ixs.map (gv σ))[i-own.length]?=some (some v):=by rw[yI (by simpa using hio)]at h2;simpa using h2
   have pN:N[i-own.length]?=some y:=by rw[yI (by lia)]at h1;exact h1
   generalize i-own.length=i at pN fU;rw[zT]at fU;cases e:ixs[i]? with
   |none=>rw[e]at fU;cases fU
   |some j =>
    rw[e]at fU;have Cg:gv σ j=some v:=by simpa using fU
    obtain⟨z,hz,gE⟩:=mS i j e;rw[pN]at gE;cases gE;have hm:=zN pN;obtain⟨m,hn,hl⟩:=I.loc;have hvis:Vis X.env.scope y:=.inr (k.cells y hm);obtain⟨u,ru,l⟩:=hl j y v hz (cr Cg) hvis;refine⟨u,ru,?_⟩;rcases l with⟨l,_⟩|⟨_,c,ec,ic⟩
    ·exfalso;rcases k.cells y hm with z|z<;>(rw[l]at z;cases z)
    ·obtain⟨c',FL⟩:=k.free y hm;have:c=c':=yX (ec.symm.trans (k.up FL));subst this;refine .inr ⟨?_,c,FL,?_⟩
     ·exact k.vis y hm
     ·obtain⟨o,ho,hd⟩:=ic;exact⟨o,old _ _ ho,hd⟩
 ·intro y c e;obtain⟨v,o,ho,hd⟩:=I.cell y c (k.up e);exact⟨v,o,old _ _ ho,hd⟩
 ·intro y c e;exact I.freeC y c (k.up e)
 ·show(own.map (λ_=>none)++ixs.map (gv σ)).length=(own++N).length;simp[aH]
def PIf(X:Cx)(dZ:List Expr)(t:TT):Prop:=∀(pins:List (Addr×Obj))(s:Shared)(σ:St)(H:Hp)(Q:Bool->Hp->Prop),Inv X pins σ H s->t σ H Q ->
 wpAny (model X.prog X.w) X.A (forIn dZ true λc r=>if r=true then do let ok <-isTrue c X.env (eval c X.env);pure (ForInStep.yield ok)else pure (ForInStep.yield r)) (TP X pins σ Q) X.xe s
def mi:TT:=λ_ H Q=>Q true H
theorem yu:PIf X [] mi:=λpins s σ H Q I h=>by
 rw[List.forIn_nil];exact zV ⟨H,I,h⟩
theorem vq{c:Expr}{tc:TT}(hc:PT X c tc):PIf X [c] tc:=λpins s σ H Q I h=>by
 rw[List.forIn_cons];simp only[if_true];refine zZ (zZ (thn (hc pins s σ H Q I h) λb s1 h1=>zV ?_));dsimp only;rw[List.forIn_nil];exact zV h1
theorem cn(eA bA iter:Expr)(dZ:List Expr)(scope:Scope)(pos:Pos)(it aG:Value)(env:Env):
  compTurn (.ListComp eA [⟨bA,iter,dZ,0⟩] scope pos) 0 it aG env=(standAt iter.pos >>=λ_=>pyNext it >>=λr=>match r with
   |none=>pure (.done .next)
   |some v=>letOwnedTupleGo bA it v >>=λ_=>assign bA env v >>=λ_ =>
    (forIn dZ true λc r=>if r=true then do let ok <-isTrue c env (eval c env);pure (ForInStep.yield ok)else pure (ForInStep.yield r)) >>=λok =>
     if ok=true then(eval eA env >>=λx=>call (.builtin "list.append") [aG,x] >>=λ_=>pure ()) >>=λ_=>again (.compLoop (.ListComp eA [⟨bA,iter,dZ,0⟩] scope pos) 0 it aG env)
     else again (.compLoop (.ListComp eA [⟨bA,iter,dZ,0⟩] scope pos) 0 it aG env)):=by rfl
theorem i4{prog:Program}{w:World}{A:Around}{R:Result->Shared->Prop}{s:Shared}{eA bA iter:Expr}{dZ:List Expr}{scope:Scope}{pos:Pos}{it aG:Value}{env:Env}(I:Nat->Shared->Prop)
  (mW:∀n s,I n s->∀E:Value->Shared->Prop,wpAny (model prog w) A (pyNext it) (λr s₁=>match r with
   |none=>R (.ok .next) s₁
   |some v=>wpAny (model prog w) A (letOwnedTupleGo bA it v) (λ_ s₁'=>wpAny (model prog w) A (assign bA env v) (λ_ s₂ =>
     wpAny (model prog w) A (forIn dZ true λc r=>if r=true then do let ok <-isTrue c env (eval c env);pure (ForInStep.yield ok)else pure (ForInStep.yield r)) (λok s₂'=>if ok=true then wpAny (model prog w) A (eval eA env) (λx s₃ =>
      wpAny (model prog w) A (call (.builtin "list.append") [aG,x]) (λ_ s₄=>∃m,m<n/\I m s₄) E s₃) E s₂' else∃m,m<n/\I m s₂') E s₂) E s₁') E s₁) E s)
  (n:Nat) (h:I n s) :
  codeAny (model prog w) A (.compLoop (.ListComp eA [⟨bA,iter,dZ,0⟩] scope pos) 0 it aG env) R s:=by
 refine codeAny_loop rfl I (λn s hI=>?_) n h;show wpAny _ _ ((compTurn (.ListComp eA [⟨bA,iter,dZ,0⟩] scope pos) 0 it aG env).onRaise (λx=>do noteFrame x env;theTreesLotGoes x)) _ _ s;refine wpAny_noted ?_;rw[cn];refine zZ (wpAny_standAt (zZ (xT (mW n s hI _) (λr s₁ h₁=>?_) λ_ _ h'=>h')));cases r with
 |none=>exact zV h₁
 |some v =>
  refine zZ (xT h₁ (λ_ s₁' h₁'=>zZ (xT h₁' (λ_ s₂ h₂=>zZ (xT h₂ (λok s₂' h₂'=>?_) λ_ _ h'=>h')) λ_ _ h'=>h')) λ_ _ h'=>h');cases ok with
  |true =>
   simp only[if_true]at h₂' ⊢;exact zZ (zZ (xT h₂' (λx s₃ h₃=>zZ (xT h₃ (λ_ s₄ h₄=>zV (zV ⟨rfl,h₄⟩)) λ_ _ h'=>h')) λ_ _ h'=>h'))
  |false =>
   simp only[Bool.false_eq_true,if_false]at h₂' ⊢;exact zV ⟨rfl,h₂'⟩
def vt(no:Nat)(g:TG)(tt:TT)(te:TE)(ρ:St)(J:It)(Q:VK)(H1:Hp):Prop:=∀(D:Addr)(H2:Hp),H1 D=none->Same H1 H2->H2 D=some (.lst []) ->
 ∃W:Nat->Nat->List V->Hp->Prop,(∃m,W 0 m [] H2)/\∀i m ys H',W i m ys H'->H' D=some (.lst ys) /\
  ((J.stop i H'/\Q (.ref D) H')\/(J.go i H'/\ys.length<sizeLine/\∀(τ:St) v H'',τ.length=no->J.yld i H' v H''->g v (τ++ρ) H'' fun σ2 H3=>(∃τ':St,σ2=τ'++ρ/\τ'.length=no)/\tt σ2 H3 λb H4 =>
   if b=true then te σ2 H4 λy H5=>H5 D=some (.lst ys)/\∃m',m'<m/\W (i+1) m' (ys++[y]) (upd H5 D (.lst (ys++[y])))else∃m',m'<m/\W (i+1) m' ys H4))
def mh(no:Nat)(ixs:List Nat)(wi:TI)(g:TG)(tt:Addr->Shared->Hp->List Addr->TT)(te:Addr->Shared->Hp->List Addr->TE):TE:=fun σ H Q=>wi σ H λJ H1=>∀(C:Addr)(s₀:Shared)(H₀:Hp)(ex:List Addr),vt no g (tt C s₀ H₀ ex) (te C s₀ H₀ ex) (ixs.map (gv σ)) J Q H1
theorem E4{X:Cx}{N':List Str}{scope:Scope}{cl:List (Str×Addr)}{C:Addr}{s₀:Shared}{H₀:Hp}{ex:List Addr}:(yr X N' scope cl C s₀ H₀ ex).K=X.K:=rfl
theorem js{eA iter tg:Expr}{dZ:List Expr}{ixs:List Nat}{g:TG}{tt:Addr->Shared->Hp->List Addr->TT}{te:Addr->Shared->Hp->List Addr->TE}{pos:Pos}{pins:List (Addr×Obj)}{σ:St}{H:Hp}{s₂:Shared}{it:Addr}{fp:List Addr}{tn:Nat->Heap->Prop}{J:It}{Q:VK}{RR:Value->Addr->Result->Shared->Prop}{E:Value->Shared->Prop}
  (k:CompOk X own N scope cl) (kW:X.calm=true) (mS:∀(j:Nat)(i:Nat),ixs[j]?=some i->∃y,X.N[i]?=some y/\N[j]?=some y) (aH:ixs.length=N.length)
  (hg:∀(C:Addr)(s₀:Shared)(H₀:Hp)(ex:List Addr),PG (yr X (own++N) scope cl C s₀ H₀ ex) tg g)
  (ht:∀(C:Addr)(s₀:Shared)(H₀:Hp)(ex:List Addr),PIf (yr X (own++N) scope cl C s₀ H₀ ex) dZ (tt C s₀ H₀ ex))
  (he:∀(C:Addr)(s₀:Shared)(H₀:Hp)(ex:List Addr),PE (yr X (own++N) scope cl C s₀ H₀ ex) eA (te C s₀ H₀ ex))
  (I:Inv X pins σ H s₂) (T:Zh X.prog X.w X.K tg J fp it tn) (st:tn 0 s₂.heap) (hf:∀b∈fp,pi X pins H b)
  (q:∀(C:Addr)(s₀:Shared)(H₀:Hp)(ex:List Addr),vt own.length g (tt C s₀ H₀ ex) (te C s₀ H₀ ex) (ixs.map (gv σ)) J Q H)
  (hRR:∀(D C:Addr)(H':Hp)(s':Shared)(m:Str->Option Value),Inv X pins σ H' s'->s'.heap.Ns C m->H' C=none->C≠X.env.locals->C∉X.fs->(∀p∈X.pn++pins,p.1≠C)->(∀y c,X.env.cells.lookup y=some c->c≠C)->X.s₀.heap.objs.size<=C->Q (.ref D) H'->RR (.ref D) C (.ok .next) s') :
  wpAny (model X.prog X.w) X.A (newList []) (λaG s₃=>wpAny (model X.prog X.w) X.A (newFunctionEnv scope X.env.globals cl [] X.env.qual none .none (some X.env)) (λFV s₄ =>
   codeAny (model X.prog X.w) X.A (.compStart (.ListComp eA [⟨tg,iter,dZ,0⟩] scope pos) 0 (.ref it) aG { FV with scope:=relabel scope X.env }) (RR aG FV.locals) s₄) E s₃) E s₂:=by
 refine xZ (wpAny_newFunctionEnv k.nocell (by intro y hy;simp at hy) (λh₁ qC₁ C7₁=>?_) k.kind);dsimp only at qC₁ C7₁ ⊢;have qZ:H s₂.heap.objs.size=none:=I.hok.fresh (zU _);have I3:Inv X pins σ (upd H s₂.heap.objs.size (.lst [])) { s₂ with heap:=s₂.heap.push { cls:=.type "list",dict:=none,data:=.seq ([]:List Value).toArray } } :=
  I.laid (t':=s₂.toks) (λb o e=>zX _ e) (zU _) ⟨yR _,[],0,.nil,zR _ rfl⟩
 obtain⟨W,⟨m0,w0⟩,mW⟩:=q (s₂.heap.push { cls:=.type "list",dict:=none,data:=.seq ([]:List Value).toArray }).objs.size { s₂ with heap:=s₂.heap.push { cls:=.type "list",dict:=none,data:=.seq ([]:List Value).toArray } } (upd H s₂.heap.objs.size (.lst [])) fp s₂.heap.objs.size _ qZ (w8 qZ _) zx;have lT:∀b o,s₂.heap.get? b=some o->(s₂.heap.push { cls:=.type "list",dict:=none,data:=.seq ([]:List Value).toArray }).get? b=some o:=λb o e=>zX _ e;have Bn:∀b∈fp,b<s₂.heap.objs.size:=λb hb=>by
  obtain⟨o,e,_⟩:=T.obj _ _ st b hb;exact zQ e
 have hf3:∀b∈fp,pi X pins (upd H s₂.heap.objs.size (.lst [])) b:=λb hb=>⟨by rw[zh (zF (Bn b hb))];exact(hf b hb).1,(hf b hb).2⟩
 generalize hH3:upd H s₂.heap.objs.size (.lst [])=H3 at I3 w0 hf3 mW;generalize hh2:s₂.heap.push { cls:=.type "list",dict:=none,data:=.seq ([]:List Value).toArray }=h2 at I3 qC₁ C7₁ lT mW ⊢;have Ek:h2.objs.size=s₂.heap.objs.size+1:=by rw[<-hh2,xX]
 have fp2:∀b∈fp,b<h2.objs.size:=λb hb=>by rw[Ek];exact xI (Bn b hb)
 have nK:∀b o,b≠h2.objs.size->h2.get? b=some o->h₁.get? b=some o:=λb o hb e=>C7₁.extBut b o hb (zX _ e);have I4:=O6 (fp:=fp) (h₁:=h₁) (tk:=s₂.toks+([]:List (Str×Value)).length) (s:={ s₂ with heap:=h2 }) k I3 hf3 fp2 mS aH (by simpa using qC₁) nK;have st4:tn 0 h₁:=T.keep _ _ _ st λb hb o e=>nK b o (zF (fp2 b hb)) (lT b o e);have fr4:∀b∈fp,H3 b=none:=λb hb=>(hf3 b hb).1;have blk:∀{H':Hp},(∀b∈fp,H' b=none)->∀b∈fp,pi (yr X (own++N) scope cl h2.objs.size { s₂ with heap:=h2 } H3 fp) [] H' b:=λhn b hb =>
  ⟨hn b hb,(I4.ok.exf b hb).1,I4.ok.exfs b hb,.inl hb,(I4.ok.exf b hb).2,λp hp=>absurd hp (by simp[yr])⟩
 have loop:∀s₃:Shared,s₃={ s₂ with heap:=h₁,toks:=s₂.toks+([]:List (Str×Value)).length } ->
   codeAny (model X.prog X.w) X.A (.compLoop (.ListComp eA [⟨tg,iter,dZ,0⟩] scope pos) 0 (.ref it) (.ref s₂.heap.objs.size) (compEnvC scope cl h2.objs.size X.env)) (RR (.ref s₂.heap.objs.size) h2.objs.size) s₃:=by
  rintro s₃ rfl;refine i4 (λn s'=>∃i τ ys H',τ.length=own.length/\Inv (yr X (own++N) scope cl h2.objs.size { s₂ with heap:=h2 } H3 fp) [] (τ++ixs.map (gv σ)) H' s'/\tn i s'.heap/\(∀b∈fp,H' b=none)/\W i n ys H') ?_ m0 ⟨0,own.map (λ_=>none),[],H3,by simp,I4,st4,fr4,w0⟩;rintro n s5 ⟨i,τ,ys,H5,hτ,I5,Cy,fr5,w5⟩ E';obtain⟨hD,alt⟩:=mW i n ys H5 w5;rcases alt with⟨stop,qn⟩|⟨go,hz,step⟩
  ·refine xT (T.done (yr X (own++N) scope cl h2.objs.size { s₂ with heap:=h2 } H3 fp) rfl rfl rfl kW i [] s5 _ H5 E' I5 (blk fr5) Cy stop) (λr s6 hr=>?_) λ_ _ e=>e;obtain⟨rfl,I6⟩:=hr;obtain⟨m6,hn6,_⟩:=I6.loc;have J6:Inv X pins σ H5 s6:=by
    refine I3.call' (ch:=fp) I6.os I6.base I6.hok I6.bare λb hb=>?_;obtain⟨_,f1,f2,f3,f4,f5⟩:=hf3 b hb;exact⟨f3,f1,f4,f5⟩
   have szle:X.s₀.heap.objs.size<=h2.objs.size:=I3.sz;refine hRR s₂.heap.objs.size h2.objs.size H5 s6 m6 J6 hn6 I6.free (wX I3.lt) (I3.nofs (zU _)) (λp hp z=>?_) (λy c e z=>?_) szle qn
   ·exact absurd (zQ (I3.pin p hp).1) (by rw[z];exact vT _)
   ·obtain⟨u,ic⟩:=I3.cell y c e;exact absurd ic.lt (by rw[z];exact vT _)
  ·refine xT (T.item (yr X (own++N) scope cl h2.objs.size { s₂ with heap:=h2 } H3 fp) rfl rfl rfl kW i [] s5 _ H5 E' I5 (blk fr5) Cy go) (λr s6 hr=>?_) λ_ _ e=>e;obtain⟨u,rfl,h6⟩:=hr;refine xT h6 (λ_ s7 h7=>?_) λ_ _ e=>e;obtain⟨xv,H7,I7,r7,y7,st7,fr7⟩:=h7;have I7':=I7.pinned (blk fr7) (T.obj _ _ st7);refine xT (hg _ _ _ _ _ s7 _ H7 xv u _ I7' r7 (step τ xv H7 hτ y7)) (λ_ s8 h8=>?_) λ_ _ e=>e.elim;obtain⟨σ8,H8,I8,⟨τ',rfl,hτ'⟩,q8⟩:=h8;refine xT (ht _ _ _ _ _ s8 _ H8 _ I8 q8) (λok s9 h9=>?_) λ_ _ e=>e.elim;obtain⟨H9,I9,q9⟩:=h9;have F':∀(bZ:Hp)(mX:Shared)(AO:List V)(m':Nat),Inv (yr X (own++N) scope cl h2.objs.size { s₂ with heap:=h2 } H3 fp) ([]++k8 fp s7.heap) (τ'++ixs.map (gv σ)) bZ mX->m'<n->W (i+1) m' AO bZ ->
     ∃m,m<n/\∃i τ ys H',τ.length=own.length/\Inv (yr X (own++N) scope cl h2.objs.size { s₂ with heap:=h2 } H3 fp) [] (τ++ixs.map (gv σ)) H' mX/\tn i mX.heap/\(∀b∈fp,H' b=none)/\W i m ys H':=λbZ mX AO m' GG pH w10=>by
    refine⟨m',pH,i+1,τ',AO,bZ,hτ',GG.unpinned (pins:=[]),T.keep _ _ _ st7 λb hb o e=>(GG.pin (b,o) (yP _ (yP _ (ul hb e)))).1,λb hb=>?_,w10⟩;obtain⟨o,e,d⟩:=T.obj _ _ st7 b hb;exact(GG.pin (b,o) (yP _ (yP _ (ul hb e)))).2.1
   cases ok with
   |true =>
    simp only[if_true]at q9 ⊢;refine xT (he _ _ _ _ _ s9 _ H9 _ I9 q9) (λy mX A6=>?_) λ_ _ e=>e.elim;obtain⟨yv,bZ,GG,r10,hD10,m',pH,w10⟩:=A6;refine xT (gk (X:=yr X (own++N) scope cl h2.objs.size { s₂ with heap:=h2 } H3 fp) _ mX _ bZ (.ref s₂.heap.objs.size) [yv] (.ref s₂.heap.objs.size) [y] (λv' H'=>H'=upd bZ s₂.heap.objs.size (.lst (ys++[yv]))) GG rfl (.cons r10 .nil) ⟨_,ys,yv,rfl,rfl,hD10,hz,rfl⟩) (λ_ Du h11=>?_) λ_ _ e=>e.elim;obtain⟨_,H11,I11,_,rfl⟩:=h11;exact F' _ _ _ m' I11 pH w10
   |false =>
    simp only[Bool.false_eq_true,if_false]at q9 ⊢;obtain⟨m',pH,w10⟩:=q9;exact F' _ _ _ m' I9 pH w10
 exact codeAny_compStart_list (loop _ rfl) (T.self _ 0 _ _ _ st4 (loop _ rfl))
theorem Vv{pins:List (Addr×Obj)}{σ:St}{H:Hp}{s:Shared}{C:Addr}{Bm:Heap}(I:Inv X pins σ H s)(hC:H C=none)(hL:C≠X.env.locals)(hp:∀p∈X.pn++pins,p.1≠C)(hc:∀y c,X.env.cells.lookup y=some c->c≠C)(h0:X.s₀.heap.objs.size<=C)
  (hs:∀b o,b≠C->s.heap.get? b=some o->Bm.get? b=some o):Inv X pins σ H { s with heap:=Bm } :=
 I.turned (t':=s.toks) hs hC hL (.inr h0) hc hp
theorem Xt{eA iter tg:Expr}{dZ:List Expr}{ixs:List Nat}{wi:TI}{g:TG}{tt:Addr->Shared->Hp->List Addr->TT}{te:Addr->Shared->Hp->List Addr->TE}{pos:Pos}
  (k:CompOk X own N scope cl) (kW:X.calm=true) (hi:PI X tg iter wi)
  (hg:∀(C:Addr)(s₀:Shared)(H₀:Hp)(ex:List Addr),PG (yr X (own++N) scope cl C s₀ H₀ ex) tg g) (ht:∀(C:Addr)(s₀:Shared)(H₀:Hp)(ex:List Addr),PIf (yr X (own++N) scope cl C s₀ H₀ ex) dZ (tt C s₀ H₀ ex))
  (he:∀(C:Addr)(s₀:Shared)(H₀:Hp)(ex:List Addr),PE (yr X (own++N) scope cl C s₀ H₀ ex) eA (te C s₀ H₀ ex))
  (hx:ixs.map (λi=>X.N[i]?)=N.map some)
  (hs:∀x,foldedSetIterable iter X.env x=pure x:=by intro _;rfl):PE X (.ListComp eA [⟨tg,iter,dZ,0⟩] scope pos) (mh own.length ixs wi g tt te):=by
 intro pins s σ H Q I h;rw[eval_ListComp];refine wpAny_comprehension_free (use:=none) rfl hs k.clos k.kind k.names (thn (hi pins s σ H _ I h) λv s1 h1=>thn h1 λitv s2 h2=>?_);obtain⟨it,fp,tn,J,H2,rfl,I2,T,Dm,f2,q⟩:=h2;refine js (RR:=λaG C=>compPost (model X.prog X.w) X.A X.xe none (EP X pins σ Q) aG C) k kW (Pn hx) (Xl hx) hg ht he I2 T Dm f2 q ?_;intro D C H' s' m J' hn hC hL hfs hp hc h0 q';exact⟨m,hn,λBm qO=>⟨.ref D,H',Vv J' hC hL hp hc h0 (λb o hb e=>qO.extBut b o hb e),rfl,q'⟩⟩
def Qb(i:Nat)(t:TE):TS:=λD σ H=>t σ H λx H1=>D.nx (sv σ i x) H1
theorem T7(i:Nat){eA iter tg:Expr}{dZ:List Expr}{y:Str}{py:Pos}{ixs:List Nat}{wi:TI}{g:TG}{tt:Addr->Shared->Hp->List Addr->TT}{te:Addr->Shared->Hp->List Addr->TE}{pos pC:Pos}(hN:X.N.Nodup)
  (k:CompOk X own N scope cl) (kW:X.calm=true) (hi:PI X tg iter wi)
  (hg:∀(C:Addr)(s₀:Shared)(H₀:Hp)(ex:List Addr),PG (yr X (own++N) scope cl C s₀ H₀ ex) tg g) (ht:∀(C:Addr)(s₀:Shared)(H₀:Hp)(ex:List Addr),PIf (yr X (own++N) scope cl C s₀ H₀ ex) dZ (tt C s₀ H₀ ex))
  (he:∀(C:Addr)(s₀:Shared)(H₀:Hp)(ex:List Addr),PE (yr X (own++N) scope cl C s₀ H₀ ex) eA (te C s₀ H₀ ex))
  (hx:ixs.map (λi=>X.N[i]?)=N.map some)
  (hy:X.N[i]?=some y:=by rfl) (fQ:X.env.scope.names.lookup y=some .local:=by rfl)
  (hsw:swapsWith (.ListComp eA [⟨tg,iter,dZ,0⟩] scope pos) (some (.Name y py)) pC.line X.env=pure true:=by rfl)
  (hs:∀x,foldedSetIterable iter X.env x=pure x:=by intro _;rfl):PS X (.Assign [.Name y py] (.ListComp eA [⟨tg,iter,dZ,0⟩] scope pos) pC) (Qb i (mh own.length ixs wi g tt te)):=by
 intro pins s σ H D I h;rw[exec_Assign_Name_used _ _ _ _ hsw];refine zZ (wpAny_standAt (zZ ?_));show wpAny _ X.A (do let _ <-comprehension (.ListComp eA [⟨tg,iter,dZ,0⟩] scope pos) scope X.env _ (newList []) false (eval iter X.env) (some (assign (.Name y py) X.env))) _ _ s;refine zZ (xT (wpAny_comprehension_free (use:=some (assign (.Name y py) X.env)) (Q:=λ_ s'=>SP X pins D .next s') rfl hs k.clos k.kind k.names (thn (hi pins s σ H _ I h) λv s1 h1=>thn h1 λitv s2 h2=>?_)) (λ_ s' hq=>zV (zV hq)) λ_ _ e=>e);obtain⟨it,fp,tn,J,H2,rfl,I2,T,Dm,f2,q⟩:=h2;refine js (Q:=λx H1=>D.nx (sv σ i x) H1) (RR:=λaG C=>compPost (model X.prog X.w) X.A X.xe (some (assign (.Name y py) X.env)) (λ_ s'=>SP X pins D .next s') aG C) k kW (Pn hx) (Xl hx) hg ht he I2 T Dm f2 q ?_;intro L C H' s' m J' hn hC hL hfs hp hc h0 q';obtain⟨o,es,ep,ho,hd,hk,hm⟩:=id hn;have J2:Inv X (pins++[(C,o)]) σ H' s':=J'.pins_of λp iB=>(zK.mp iB).elim (λz=>J'.pin p (yP _ z)) λz=>by
  have e:p=(C,o):=by simpa using z
  subst e;exact⟨ho,hC,hL,hfs,λv z=>by rw[hd]at z;cases z⟩
 have hg:PG X (.Name y py) (mG i):=wo i hN hy (.inl fQ) (.inr fQ);show wpAny (model X.prog X.w) X.A (assign (.Name y py) X.env (.ref L)) _ _ s';refine thn (hg _ s' σ H' (.ref L) (.ref L) D.nx J2 rfl q') λ_ s3 h3=>?_;obtain⟨σ3,H3,I3,q3⟩:=h3;have pc:=I3.pin (C,o) (yP _ (yP _ (zO.mpr rfl)));refine⟨m,⟨o,es,ep,pc.1,hd,hk,hm⟩,λBm qO=>⟨σ3,H3,?_,q3⟩⟩;exact Vv (I3.unpinned) pc.2.1 hL hp hc h0 (λb ob hb e=>qO.extBut b ob hb e)
end
def CN(n i:Nat)(P:Prop):Prop:=∃m':Nat,m'<n-i/\m'=n-(i+1)/\i+1<=n/\P
theorem CN.mk{n i:Nat}{P:Prop}(h:i<n)(p:P):CN n i P:=⟨n-(i+1),by lia,rfl,h,p⟩
theorem Ye{τ:St}(h:τ.length=1):∃t,τ=[t]:=by
 match τ,h with
 |[t],_=>exact⟨t,rfl⟩
theorem fg{τ:St}(h:τ.length=2):∃t u,τ=[t,u]:=by
 match τ,h with
 |[t,u],_=>exact⟨t,u,rfl⟩
def mG2(K:W.Frag)(i j:Nat):TG:=λv σ H Q=>∃a x y,v = .ref a/\SqT K H a [x,y]/\Q (sv (sv σ i x) j y) H
def qz(tt:TT)(te:TE)(σ:St)(D:Addr)(n i:Nat)(ys:List V)(P:List V->Hp->Prop)(H:Hp):Prop :=
 tt σ H λb H4=>if b=true then te σ H4 λy H5=>H5 D=some (.lst ys)/\CN n i (P (ys++[y]) (upd H5 D (.lst (ys++[y]))))else CN n i (P ys H4)
theorem vz{J:It}{n:Nat}{no:Nat}{g:TG}{tt:TT}{te:TE}{ρ:St}{Q:VK}{H1:Hp}(Pv:Addr->Nat->List V->Hp->Prop)(hsz:n<=sizeLine)
  (h0:∀D H2,H1 D=none->Same H1 H2->H2 D=some (.lst [])->Pv D 0 [] H2)
  (hl:∀D i ys H,i<=n->Pv D i ys H->H D=some (.lst ys)/\ys.length<=i)
  (hgo:∀D i ys H,i<n->Pv D i ys H->J.go i H) (En:∀D ys H,Pv D n ys H->J.stop n H)
  (hs:∀D i v ys H H' (τ:St),i<n->τ.length=no->Pv D i ys H->J.yld i H v H'->g v (τ++ρ) H' fun σ2 H3=>(∃τ':St,σ2=τ'++ρ/\τ'.length=no)/\qz tt te σ2 D n i ys (Pv D (i+1)) H3)
  (hd:∀D ys H,Pv D n ys H->Q (.ref D) H):vt no g tt te ρ J Q H1:=by
 intro D H2 n2 s2 e2;refine⟨λi m ys H=>m=n-i/\i<=n/\Pv D i ys H,⟨n,by simp,yR _,h0 D H2 n2 s2 e2⟩,?_⟩;rintro i m ys H ⟨rfl,hi,p⟩;obtain⟨eD,ly⟩:=hl D i ys H hi p;refine⟨eD,?_⟩
 by_cases aI:i<n
 ·refine .inr ⟨hgo D i ys H aI p,by lia,fun τ v H'' hτ y=>?_⟩;exact hs D i v ys H H'' τ aI hτ p y
 ·have e:i=n:=by lia
  subst e;exact .inl ⟨En D ys H p,hd D ys H p⟩
theorem vh{K:W.Frag}{a:Addr}{xs:List V}{tt:TT}{te:TE}{ρ:St}{Q:VK}{H1:Hp}(Pv:Addr->Nat->List V->Hp->Prop)(hsz:xs.length<=sizeLine)
  (h0:∀D H2,H1 D=none->Same H1 H2->H2 D=some (.lst [])->Pv D 0 [] H2)
  (hl:∀D i ys H,Pv D i ys H->SqT K H a xs/\H D=some (.lst ys)/\ys.length<=i)
  (hs:∀D i v ys H,xs[i]?=some v->Pv D i ys H->qz tt te (some v :: ρ) D xs.length i ys (Pv D (i+1)) H)
  (hd:∀D ys H,Pv D xs.length ys H->Q (.ref D) H):vt 1 (mG 0) tt te ρ (Itt K a) Q H1 :=
 vz Pv hsz h0 (λD i ys H _ p=>(hl D i ys H p).2) (λD i ys H hi p=>⟨xs,xs[i],(hl D i ys H p).1,by simp[hi]⟩) (λD ys H p=>⟨xs,(hl D _ ys H p).1,zU _⟩) (λD i v ys H H' τ hi hτ p y=>by
  obtain⟨t,rfl⟩:=Ye hτ;obtain⟨e,y⟩:=y;subst e;exact⟨⟨[some v],rfl,rfl⟩,hs D i v ys _ (y xs (hl D i ys _ p).1) p⟩) hd
theorem fu{K:W.Frag}{a:Addr}{xs:List V}{tt:TT}{te:TE}{ρ:St}{Q:VK}{H1:Hp}(Pv:Addr->Nat->List V->Hp->Prop)(hsz:xs.length<=sizeLine)
  (h0:∀D H2,H1 D=none->Same H1 H2->H2 D=some (.lst [])->Pv D 0 [] H2)
  (hl:∀D i ys H,Pv D i ys H->SqL K H a xs/\H D=some (.lst ys)/\ys.length<=i)
  (hs:∀D i v ys H,xs[i]?=some v->Pv D i ys H->qz tt te (some v :: ρ) D xs.length i ys (Pv D (i+1)) H)
  (hd:∀D ys H,Pv D xs.length ys H->Q (.ref D) H):vt 1 (mG 0) tt te ρ (Itl K a) Q H1 :=
 vz Pv hsz h0 (λD i ys H _ p=>(hl D i ys H p).2) (λD i ys H hi p=>⟨xs,xs[i],(hl D i ys H p).1,by simp[hi]⟩) (λD ys H p=>⟨xs,(hl D _ ys H p).1,zU _⟩) (λD i v ys H H' τ hi hτ p y=>by
  obtain⟨t,rfl⟩:=Ye hτ;obtain⟨e,y⟩:=y;subst e;exact⟨⟨[some v],rfl,rfl⟩,hs D i v ys _ (y xs (hl D i ys _ p).1) p⟩) hd
theorem nj{lo:Int}{n:Nat}{tt:TT}{te:TE}{ρ:St}{Q:VK}{H1:Hp}(Pv:Addr->Nat->List V->Hp->Prop)(hsz:n<=sizeLine)
  (h0:∀D H2,H1 D=none->Same H1 H2->H2 D=some (.lst [])->Pv D 0 [] H2)
  (hl:∀D i ys H,Pv D i ys H->H D=some (.lst ys)/\ys.length<=i)
  (hs:∀D i ys H,i<n->Pv D i ys H->qz tt te (some (.int (lo+i)) :: ρ) D n i ys (Pv D (i+1)) H)
  (hd:∀D ys H,Pv D n ys H->Q (.ref D) H):vt 1 (mG 0) tt te ρ (Itr lo n) Q H1 :=
 vz Pv hsz h0 (λD i ys H _ p=>hl D i ys H p) (λD i ys H hi p=>hi) (λD ys H p=>zU _) (λD i v ys H H' τ hi hτ p y=>by
  obtain⟨t,rfl⟩:=Ye hτ;obtain⟨e,y⟩:=y;subst e y;exact⟨⟨[_],rfl,rfl⟩,hs D i ys _ hi p⟩) hd
theorem Te{K:W.Frag}{a:Addr}{xs:List V}{tt:TT}{te:TE}{ρ:St}{Q:VK}{H1:Hp}(Pv:Addr->Nat->List V->Hp->Prop)(hsz:xs.length<=sizeLine)
  (h0:∀D H2,H1 D=none->Same H1 H2->H2 D=some (.lst [])->Pv D 0 [] H2)
  (hl:∀D i ys H,Pv D i ys H->SqT K H a xs/\H D=some (.lst ys)/\ys.length<=i)
  (hs:∀D i v ys H,xs[i]?=some v->Pv D i ys H->∃b x y,v = .ref b/\SqT K H b [x,y]/\qz tt te (some x::some y :: ρ) D xs.length i ys (Pv D (i+1)) H)
  (hd:∀D ys H,Pv D xs.length ys H->Q (.ref D) H):vt 2 (mG2 K 0 1) tt te ρ (Itt K a) Q H1 :=
 vz Pv hsz h0 (λD i ys H _ p=>(hl D i ys H p).2) (λD i ys H hi p=>⟨xs,xs[i],(hl D i ys H p).1,by simp[hi]⟩) (λD ys H p=>⟨xs,(hl D _ ys H p).1,zU _⟩) (λD i v ys H H' τ hi hτ p y=>by
  obtain⟨t,u,rfl⟩:=fg hτ;obtain⟨e,y⟩:=y;subst e;obtain⟨b,x1,y1,e1,h1,h2⟩:=hs D i v ys _ (y xs (hl D i ys _ p).1) p;exact⟨b,x1,y1,e1,h1,⟨[some x1,some y1],rfl,rfl⟩,h2⟩) hd
theorem Td{K:W.Frag}{a:Addr}{xs:List V}{tt:TT}{te:TE}{ρ:St}{Q:VK}{H1:Hp}(Pv:Addr->Nat->List V->Hp->Prop)(hsz:xs.length<=sizeLine)
  (h0:∀D H2,H1 D=none->Same H1 H2->H2 D=some (.lst [])->Pv D 0 [] H2)
  (hl:∀D i ys H,Pv D i ys H->SqL K H a xs/\H D=some (.lst ys)/\ys.length<=i)
  (hs:∀D i v ys H,xs[i]?=some v->Pv D i ys H->∃b x y,v = .ref b/\SqT K H b [x,y]/\qz tt te (some x::some y :: ρ) D xs.length i ys (Pv D (i+1)) H)
  (hd:∀D ys H,Pv D xs.length ys H->Q (.ref D) H):vt 2 (mG2 K 0 1) tt te ρ (Itl K a) Q H1 :=
 vz Pv hsz h0 (λD i ys H _ p=>(hl D i ys H p).2) (λD i ys H hi p=>⟨xs,xs[i],(hl D i ys H p).1,by simp[hi]⟩) (λD ys H p=>⟨xs,(hl D _ ys H p).1,zU _⟩) (λD i v ys H H' τ hi hτ p y=>by
  obtain⟨t,u,rfl⟩:=fg hτ;obtain⟨e,y⟩:=y;subst e;obtain⟨b,x1,y1,e1,h1,h2⟩:=hs D i v ys _ (y xs (hl D i ys _ p).1) p;exact⟨b,x1,y1,e1,h1,⟨[some x1,some y1],rfl,rfl⟩,h2⟩) hd
theorem vc{K:W.Frag}{a:Addr}{xs:List V}{te:TE}{ρ:St}{Q:VK}{H1:Hp}(Pv:Addr->Nat->List V->Hp->Prop)(hsz:xs.length<=sizeLine)
  (h0:∀D H2,H1 D=none->Same H1 H2->H2 D=some (.lst [])->Pv D 0 [] H2)
  (hl:∀D i ys H,Pv D i ys H->SqT K H a xs/\H D=some (.lst ys)/\ys.length=i)
  (hs:∀D i v ys H,xs[i]?=some v->Pv D i ys H->te (some v :: ρ) H λy H3=>H3 D=some (.lst ys)/\CN xs.length i (Pv D (i+1) (ys++[y]) (upd H3 D (.lst (ys++[y])))))
  (hd:∀D ys H,Pv D xs.length ys H->Q (.ref D) H):vt 1 (mG 0) mi te ρ (Itt K a) Q H1:=vh Pv hsz h0 (λD i ys H p=>let⟨a1,a2,a3⟩:=hl D i ys H p;⟨a1,a2,vK a3⟩) hs hd
theorem tm{K:W.Frag}{a:Addr}{xs:List V}{te:TE}{ρ:St}{Q:VK}{H1:Hp}(Pv:Addr->Nat->List V->Hp->Prop)(hsz:xs.length<=sizeLine)
  (h0:∀D H2,H1 D=none->Same H1 H2->H2 D=some (.lst [])->Pv D 0 [] H2)
  (hl:∀D i ys H,Pv D i ys H->SqL K H a xs/\H D=some (.lst ys)/\ys.length=i)
  (hs:∀D i v ys H,xs[i]?=some v->Pv D i ys H->te (some v :: ρ) H λy H3=>H3 D=some (.lst ys)/\CN xs.length i (Pv D (i+1) (ys++[y]) (upd H3 D (.lst (ys++[y])))))
  (hd:∀D ys H,Pv D xs.length ys H->Q (.ref D) H):vt 1 (mG 0) mi te ρ (Itl K a) Q H1:=fu Pv hsz h0 (λD i ys H p=>let⟨a1,a2,a3⟩:=hl D i ys H p;⟨a1,a2,vK a3⟩) hs hd
theorem yd{lo:Int}{n:Nat}{te:TE}{ρ:St}{Q:VK}{H1:Hp}(Pv:Addr->Nat->List V->Hp->Prop)(hsz:n<=sizeLine)
  (h0:∀D H2,H1 D=none->Same H1 H2->H2 D=some (.lst [])->Pv D 0 [] H2)
  (hl:∀D i ys H,Pv D i ys H->H D=some (.lst ys)/\ys.length=i)
  (hs:∀D i ys H,i<n->Pv D i ys H->te (some (.int (lo+i)) :: ρ) H λy H3=>H3 D=some (.lst ys)/\CN n i (Pv D (i+1) (ys++[y]) (upd H3 D (.lst (ys++[y])))))
  (hd:∀D ys H,Pv D n ys H->Q (.ref D) H):vt 1 (mG 0) mi te ρ (Itr lo n) Q H1:=nj Pv hsz h0 (λD i ys H p=>let⟨a1,a2⟩:=hl D i ys H p;⟨a1,vK a2⟩) hs hd
section
variable {X:Cx}{N:List Str}{scope:Scope}{cl:List (Str×Addr)}
theorem Wc{x:Str}{px:Pos}(k:CompOk X [x] N scope cl)(C:Addr)(s₀:Shared)(H₀:Hp)(ex:List Addr):PG (yr X ([x]++N) scope cl C s₀ H₀ ex) (.Name x px) (mG 0) :=
 wo 0 k.nd rfl (.inl (xR (k.mine x (zO.mpr rfl)))) (.inr (xR (k.mine x (zO.mpr rfl))))
end
section
variable {X:Cx}
theorem Qi(i j:Nat){x y:Str}{p p' pos:Pos}{k:Nat}(hc:X.calm=true)(hN:X.N.Nodup)(hi:X.N[i]?=some x:=by rfl)(hj:X.N[j]?=some y:=by rfl)(hx:Loc X.env.scope x:=by first|exact Or.inl rfl|exact Or.inr rfl)(hy:Loc X.env.scope y:=by first|exact Or.inl rfl|exact Or.inr rfl)
  (hf:X.fn x=true\/X.env.scope.names.lookup x=some .local:=by first|exact .inl rfl|exact .inr rfl) (hf':X.fn y=true\/X.env.scope.names.lookup y=some .local:=by first|exact .inl rfl|exact .inr rfl)
  (hn:(assignEach [.Name x p,.Name y p'] X.env).length=2:=by rfl) (fR:(assignEach [.Name x p,.Name y p'] X.env).findIdx? (·.1)=none:=by rfl)
  (hs:(assignEach [.Name x p,.Name y p'] X.env).map (·.2)=assign (.Name x p) X.env::(assignEach [.Name y p'] X.env).map (·.2):=by rfl) (C8:(assignEach [.Name y p'] X.env).map (·.2)=assign (.Name y p') X.env::(assignEach [] X.env).map (·.2):=by rfl) :
  PG X (.Tuple [.Name x p,.Name y p'] k pos) (mG2 X.K i j):=by
 intro pins s σ H v u Q I r h;obtain⟨a,x1,y1,rfl,hq,q⟩:=h;exact Rf hc (tw (wo i hN hi hx hf) (tw (wo j hN hj hy hf') Wd C8) hs) hn fR pins s σ H _ u Q I r ⟨a,_,rfl,hq,rfl,x1,_,rfl,y1,_,rfl,rfl,q⟩
variable {N:List Str}{scope:Scope}{cl:List (Str×Addr)}{eA iter:Expr}{dZ:List Expr}{ixs:List Nat}{wi:TI}{tt:Addr->Shared->Hp->List Addr->TT}{te:Addr->Shared->Hp->List Addr->TE}{pos px py pp pC pt:Pos}{x y z:Str}{kk:Nat}
theorem N2(k:CompOk X [x,y] N scope cl)(hc:X.calm=true)(C:Addr)(s₀:Shared)(H₀:Hp)(ex:List Addr):PG (yr X ([x,y]++N) scope cl C s₀ H₀ ex) (.Tuple [.Name x px,.Name y py] kk pp) (mG2 X.K 0 1) :=
 Qi (X:=yr X ([x,y]++N) scope cl C s₀ H₀ ex) 0 1 hc k.nd rfl rfl (.inl (xR (k.mine x (by simp)))) (.inl (xR (k.mine y (by simp)))) (.inr (xR (k.mine x (by simp)))) (.inr (xR (k.mine y (by simp))))
theorem yc(k:CompOk X [x] N scope cl)(hc:X.calm=true)(hi:PI X (.Name x px) iter wi)(ht:∀(C:Addr)(s₀:Shared)(H₀:Hp)(ex:List Addr),PIf (yr X ([x]++N) scope cl C s₀ H₀ ex) dZ (tt C s₀ H₀ ex))
  (he:∀(C:Addr)(s₀:Shared)(H₀:Hp)(ex:List Addr),PE (yr X ([x]++N) scope cl C s₀ H₀ ex) eA (te C s₀ H₀ ex)) (hx:ixs.map (λi=>X.N[i]?)=N.map some) (hs:∀x,foldedSetIterable iter X.env x=pure x:=by intro _;rfl) :
  PE X (.ListComp eA [⟨.Name x px,iter,dZ,0⟩] scope pos) (mh 1 ixs wi (mG 0) tt te):=Xt k hc hi (Wc k) ht he hx hs
theorem qd(k:CompOk X [x,y] N scope cl)(hc:X.calm=true)(hi:PI X (.Tuple [.Name x px,.Name y py] kk pp) iter wi)(ht:∀(C:Addr)(s₀:Shared)(H₀:Hp)(ex:List Addr),PIf (yr X ([x,y]++N) scope cl C s₀ H₀ ex) dZ (tt C s₀ H₀ ex))
  (he:∀(C:Addr)(s₀:Shared)(H₀:Hp)(ex:List Addr),PE (yr X ([x,y]++N) scope cl C s₀ H₀ ex) eA (te C s₀ H₀ ex)) (hx:ixs.map (λi=>X.N[i]?)=N.map some) (hs:∀x,foldedSetIterable iter X.env x=pure x:=by intro _;rfl) :
  PE X (.ListComp eA [⟨.Tuple [.Name x px,.Name y py] kk pp,iter,dZ,0⟩] scope pos) (mh 2 ixs wi (mG2 X.K 0 1) tt te):=Xt k hc hi (N2 k hc) ht he hx hs
theorem ye(i:Nat)(hN:X.N.Nodup)(k:CompOk X [x] N scope cl)(hc:X.calm=true)(hi:PI X (.Name x px) iter wi)(ht:∀(C:Addr)(s₀:Shared)(H₀:Hp)(ex:List Addr),PIf (yr X ([x]++N) scope cl C s₀ H₀ ex) dZ (tt C s₀ H₀ ex))
  (he:∀(C:Addr)(s₀:Shared)(H₀:Hp)(ex:List Addr),PE (yr X ([x]++N) scope cl C s₀ H₀ ex) eA (te C s₀ H₀ ex)) (hx:ixs.map (λi=>X.N[i]?)=N.map some) (hy:X.N[i]?=some z:=by rfl) (fQ:X.env.scope.names.lookup z=some .local:=by rfl)
  (hsw:swapsWith (.ListComp eA [⟨.Name x px,iter,dZ,0⟩] scope pos) (some (.Name z pt)) pC.line X.env=pure true:=by rfl) (hs:∀x,foldedSetIterable iter X.env x=pure x:=by intro _;rfl) :
  PS X (.Assign [.Name z pt] (.ListComp eA [⟨.Name x px,iter,dZ,0⟩] scope pos) pC) (Qb i (mh 1 ixs wi (mG 0) tt te)):=T7 i hN k hc hi (Wc k) ht he hx hy fQ hsw hs
end
end My
namespace My
open PySem PySem.Spec L2
open PyProof.Rows hiding St
section
variable {X:Cx}
theorem ut:∀{bs:List Bool}{us:List Value},Vals (bs.map V.bl) us->us=bs.map Value.bool
 |[],us,r=>by cases r;rfl
 |b::bs,us,r=>by
  rw[List.map_cons]at r;cases r with
  |cons r1 r2 =>
   have e:_=Value.bool b:=r1;rw[e,ut r2]
   rfl
theorem O0{bs:List Bool}{i:Nat}(hi:i<bs.length)(h:∀j,j<=bs.length-1->b2i (bs.getD i false)<=b2i (bs.getD j false)):bs.getD i false=bs.all id:=by
 cases e:bs.all id with
 |true =>
  rw[yA]at e;have:=e (bs[i]) (vJ hi);simpa[yZ,hi]using this
 |false =>
  rw[List.all_eq_false]at e;obtain⟨x,hx,hn⟩:=e;obtain⟨j,hj,rfl⟩:=List.mem_iff_getElem.mp hx;have h1:=h j (by lia);have e2:bs.getD j false=false:=by simpa[yZ,hj]using hn
  rw[e2]at h1;cases e3:bs.getD i false with
  |false=>rfl
  |true=>rw[e3]at h1;exact absurd h1 (by decide)
theorem O1{bs:List Bool}{i:Nat}(hi:i<bs.length)(h:∀j,j<=bs.length-1->b2i (bs.getD j false)<=b2i (bs.getD i false)):bs.getD i false=bs.any id:=by
 cases e:bs.any id with
 |false =>
  rw[List.any_eq_false]at e;have:=e (bs[i]) (vJ hi);simpa[yZ,hi]using this
 |true =>
  rw[yD]at e;obtain⟨x,hx,hn⟩:=e;obtain⟨j,hj,rfl⟩:=List.mem_iff_getElem.mp hx;have h1:=h j (by lia);have e2:bs.getD j false=true:=by simpa[yZ,hj]using hn
  rw[e2]at h1;cases e3:bs.getD i false with
  |true=>rfl
  |false=>rw[e3]at h1;exact absurd h1 (by decide)
def mMM(gi:Int->Int->Int)(gb:List Bool->Bool)(K:W.Frag):List V->Hp->VK->Prop:=λxs H Q=>match xs with
 |[.int i,.int j]=>Q (.int (gi i j)) H
 |[.ref p]=>∃bs:List Bool,SqL K H p (bs.map V.bl)/\0<bs.length/\Q (.bl (gb bs)) H
 |_=>False
theorem Lx(hc:X.calm=true):ww X (.builtin "min") (mMM (λi j=>if j<i then j else i) (λbs=>bs.all id) X.K):=by
 intro pins s σ H xs us Q I r h
 match xs,h with
 |[.int i,.int j],h=>exact Tc hc pins s σ H _ us Q I r ⟨i,j,rfl,h⟩
 |[.ref p],h =>
  obtain⟨bs,hq,aZ,q⟩:=(show∃bs:List Bool,SqL X.K H p (bs.map V.bl)/\0<bs.length/\Q (.bl (bs.all id)) H from h)
  obtain⟨u,rfl,rx⟩:=wc r;cases rx;obtain⟨aD,rv,pl,hz⟩:=I.list hq;have e:=ut rv;subst e;have aI:p<s.heap.objs.size:=by obtain⟨o,e,_⟩:=pl.isList;exact zQ e
  refine call_min_walk (uA pl.isList ?_);refine⟨s.heap.objs.size,_,_,_,_,_,λi j=>decide (b2i (bs.getD i false)<b2i (bs.getD j false)),rfl,Walks.list (A:=X.A.in1) (I.ok.hd hc) _ p (zF aI) (bs.map Value.bool).toArray,⟨⟨_,zR _ rfl,rfl,rfl⟩,pl.isList.push _⟩,λb hb=>?_,by simpa using aZ,?_,λv h' tk hP hk=>?_⟩
  ·show b<(s.heap.push _).objs.size;rw[xX];rcases zI.mp hb with rfl|hb
   ·exact yB _
   ·rw[zO.mp hb];exact xI aI
  ·intro i j vi vj s' Q' E' hi hj hQ;have ei:vi = .bool (bs.getD i false):=by
    have:(bs[i]?).map Value.bool=some vi:=by simpa using hi
    cases e:bs[i]? with
    |none=>rw[e]at this;cases this
    |some b=>rw[e]at this;rw[yZ,e];exact(yX this).symm
   have ej:vj = .bool (bs.getD j false):=by
    have:(bs[j]?).map Value.bool=some vj:=by simpa using hj
    cases e:bs[j]? with
    |none=>rw[e]at this;cases this
    |some b=>rw[e]at this;rw[yZ,e];exact(yX this).symm
   subst ei ej;exact lt_bool hQ
  ·obtain⟨h1,h2⟩:=argBest_lt (λi=>b2i (bs.getD i false)) ((bs.map Value.bool).toArray.size-1);have hsz:(bs.map Value.bool).toArray.size=bs.length:=by simp
   rw[hsz]at h1 h2 hP;have hb:=O0 (bs:=bs) (i:=argBest (λi j=>decide (b2i (bs.getD i false)<b2i (bs.getD j false))) (bs.length-1)) (by lia) (λj hj=>h2 j hj);have ev:v = .bool (bs.all id):=by
    have h3:(bs[argBest (λi j=>decide (b2i (bs.getD i false)<b2i (bs.getD j false))) (bs.length-1)]?).map Value.bool=some v:=by simpa using hP
    rw[yZ]at hb;cases e:bs[argBest (λi j=>decide (b2i (bs.getD i false)<b2i (bs.getD j false))) (bs.length-1)]? with
    |none=>rw[e]at h3;cases h3
    |some b=>rw[e]at h3 hb;rw[<-hb];exact(yX h3).symm
   subst ev;refine⟨.bl (bs.all id),H,?_,rfl,q⟩;exact I.kept λb o e=>hk b o (λz=>absurd (zQ e) (by rw[zO.mp z];exact vT _)) (zX _ e)
theorem Gw(hc:X.calm=true):ww X (.builtin "max") (mMM (λi j=>if j>i then j else i) (λbs=>bs.any id) X.K):=by
 intro pins s σ H xs us Q I r h
 match xs,h with
 |[.int i,.int j],h=>exact Ta hc pins s σ H _ us Q I r ⟨i,j,rfl,h⟩
 |[.ref p],h =>
  obtain⟨bs,hq,aZ,q⟩:=(show∃bs:List Bool,SqL X.K H p (bs.map V.bl)/\0<bs.length/\Q (.bl (bs.any id)) H from h)
  obtain⟨u,rfl,rx⟩:=wc r;cases rx;obtain⟨aD,rv,pl,hz⟩:=I.list hq;have e:=ut rv;subst e;have aI:p<s.heap.objs.size:=by obtain⟨o,e,_⟩:=pl.isList;exact zQ e
  refine call_max_walk (uA pl.isList ?_);refine⟨s.heap.objs.size,_,_,_,_,_,λi j=>decide (b2i (bs.getD i false)>b2i (bs.getD j false)),rfl,Walks.list (A:=X.A.in1) (I.ok.hd hc) _ p (zF aI) (bs.map Value.bool).toArray,⟨⟨_,zR _ rfl,rfl,rfl⟩,pl.isList.push _⟩,λb hb=>?_,by simpa using aZ,?_,λv h' tk hP hk=>?_⟩
  ·show b<(s.heap.push _).objs.size;rw[xX];rcases zI.mp hb with rfl|hb
   ·exact yB _
   ·rw[zO.mp hb];exact xI aI
  ·intro i j vi vj s' Q' E' hi hj hQ;have ei:vi = .bool (bs.getD i false):=by
    have:(bs[i]?).map Value.bool=some vi:=by simpa using hi
    cases e:bs[i]? with
    |none=>rw[e]at this;cases this
    |some b=>rw[e]at this;rw[yZ,e];exact(yX this).symm
   have ej:vj = .bool (bs.getD j false):=by
    have:(bs[j]?).map Value.bool=some vj:=by simpa using hj
    cases e:bs[j]? with
    |none=>rw[e]at this;cases this
    |some b=>rw[e]at this;rw[yZ,e];exact(yX this).symm
   subst ei ej;exact gt_bool hQ
  ·obtain⟨h1,h2⟩:=argBest_gt (λi=>b2i (bs.getD i false)) ((bs.map Value.bool).toArray.size-1);have hsz:(bs.map Value.bool).toArray.size=bs.length:=by simp
   rw[hsz]at h1 h2 hP;have hb:=O1 (bs:=bs) (i:=argBest (λi j=>decide (b2i (bs.getD i false)>b2i (bs.getD j false))) (bs.length-1)) (by lia) (λj hj=>h2 j hj);have ev:v = .bool (bs.any id):=by
    have h3:(bs[argBest (λi j=>decide (b2i (bs.getD i false)>b2i (bs.getD j false))) (bs.length-1)]?).map Value.bool=some v:=by simpa using hP
    rw[yZ]at hb;cases e:bs[argBest (λi j=>decide (b2i (bs.getD i false)>b2i (bs.getD j false))) (bs.length-1)]? with
    |none=>rw[e]at h3;cases h3
    |some b=>rw[e]at h3 hb;rw[<-hb];exact(yX h3).symm
   subst ev;refine⟨.bl (bs.any id),H,?_,rfl,q⟩;exact I.kept λb o e=>hk b o (λz=>absurd (zQ e) (by rw[zO.mp z];exact vT _)) (zX _ e)
theorem Hr{gi:Int->Int->Int}{gb:List Bool->Bool}{K:W.Frag}{H:Hp}{Q:VK}{i j:Int}:mMM gi gb K [.int i,.int j] H Q=Q (.int (gi i j)) H:=rfl
theorem Hs{gi:Int->Int->Int}{gb:List Bool->Bool}{K:W.Frag}{H:Hp}{Q:VK}{p:Addr}:mMM gi gb K [.ref p] H Q=(∃bs:List Bool,SqL K H p (bs.map V.bl)/\0<bs.length/\Q (.bl (gb bs)) H):=rfl
theorem ip:∀{ss:List Str}{us:List Value},Vals (ss.map V.str) us->StrsAre us ss
 |[],us,r=>by cases r;exact .nil
 |x::ss,us,r=>by
  rw[List.map_cons]at r;cases r with
  |cons r1 r2 =>
   obtain⟨t,rfl⟩:=r1;exact .cons x t (ip r2)
theorem ik:∀{us:List Value}{ss:List Str},StrsAre us ss->Vals (ss.map V.str) us
 |_,_,.nil=>.nil
 |_,_,.cons x t h=>.cons ⟨t,rfl⟩ (ik h)
end
end My
namespace My
open PySem PySem.Spec L2
open PyProof.Rows hiding St
theorem yy:bootBuiltins "len"=some (.builtin "len"):=by decide +kernel
theorem I0:bootBuiltins "max"=some (.builtin "max"):=by decide +kernel
theorem cf:bootBuiltins "min"=some (.builtin "min"):=by decide +kernel
theorem r9:bootBuiltins "sorted"=some (.builtin "sorted"):=by decide +kernel
theorem iw:bootBuiltins "isinstance"=some (.builtin "isinstance"):=by decide +kernel
theorem Vi:bootBuiltins "list"=some (.type "list"):=by decide +kernel
theorem yo:bootBuiltins "tuple"=some (.type "tuple"):=by decide +kernel
theorem Ja:bootBuiltins "set"=some (.type "set"):=by decide +kernel
theorem O3:bootBuiltins "int"=some (.type "int"):=by decide +kernel
theorem w01:decide (Str.ofString "letter"=Str.ofString "not")=false:=by decide +kernel
theorem w02:decide (Str.ofString "letter"=Str.ofString "and")=false:=by decide +kernel
theorem w03:decide (Str.ofString "letter"=Str.ofString "or")=false:=by decide +kernel
theorem w04:decide (Str.ofString "letter"=Str.ofString "if")=false:=by decide +kernel
theorem w10:decide (Str.ofString "not"=Str.ofString "letter")=false:=by decide +kernel
theorem w12:decide (Str.ofString "not"=Str.ofString "and")=false:=by decide +kernel
theorem w13:decide (Str.ofString "not"=Str.ofString "or")=false:=by decide +kernel
theorem w14:decide (Str.ofString "not"=Str.ofString "if")=false:=by decide +kernel
theorem w20:decide (Str.ofString "and"=Str.ofString "letter")=false:=by decide +kernel
theorem w21:decide (Str.ofString "and"=Str.ofString "not")=false:=by decide +kernel
theorem w23:decide (Str.ofString "and"=Str.ofString "or")=false:=by decide +kernel
theorem w24:decide (Str.ofString "and"=Str.ofString "if")=false:=by decide +kernel
theorem w30:decide (Str.ofString "or"=Str.ofString "letter")=false:=by decide +kernel
theorem w31:decide (Str.ofString "or"=Str.ofString "not")=false:=by decide +kernel
theorem w32:decide (Str.ofString "or"=Str.ofString "and")=false:=by decide +kernel
theorem w34:decide (Str.ofString "or"=Str.ofString "if")=false:=by decide +kernel
theorem w40:decide (Str.ofString "if"=Str.ofString "letter")=false:=by decide +kernel
theorem w41:decide (Str.ofString "if"=Str.ofString "not")=false:=by decide +kernel
theorem w42:decide (Str.ofString "if"=Str.ofString "and")=false:=by decide +kernel
theorem w43:decide (Str.ofString "if"=Str.ofString "or")=false:=by decide +kernel
inductive Op2|con|dis|imp
def Op2.word:Op2->Str
 | .con=>"and"
 | .dis=>"or"
 | .imp=>"if"
def Op2.so:Op2->Bool->Bool->Bool
 | .con,a,b=>a&&b
 | .dis,a,b=>a||b
 | .imp,a,b=>!a||b
inductive Say
 |letter (x:Str)
 |neg (s:Say)
 |bin (o:Op2) (s t:Say)
def Say.pieces:Say->Nat
 | .letter _=>1
 | .neg s=>s.pieces+1
 | .bin _ s t=>s.pieces+t.pieces+1
theorem Say.pieces_pos:∀s:Say,0<s.pieces
 | .letter _=>Nat.one_pos
 | .neg _=>sH _
 | .bin _ _ _=>sH _
def Say.letters:Say->List Str
 | .letter x=>[x]
 | .neg s=>s.letters
 | .bin _ s t=>s.letters++t.letters
def Say.so(hs:List Str):Say->Bool
 | .letter x=>hs.any λy=>y==x
 | .neg s=>!s.so hs
 | .bin o s t=>o.so (s.so hs) (t.so hs)
def SayAt(K:W.Frag)(H:Hp):V->Say->Prop
 |v,.letter x=>∃a,v = .ref a/\SqT K H a [.str "letter",.str x]
 |v,.neg s=>∃a u,v = .ref a/\SqT K H a [.str "not",u]/\SayAt K H u s
 |v,.bin o s t=>∃a u u',v = .ref a/\SqT K H a [.str o.word,u,u']/\SayAt K H u s/\SayAt K H u' t
theorem SayAt.mono{K:W.Frag}{H H':Hp}(t:Tups H H'):∀{s:Say}{v:V},SayAt K H v s->SayAt K H' v s
 | .letter x,v,⟨a,e,h⟩=>⟨a,e,t.sqT h⟩
 | .neg s,v,⟨a,u,e,h,h1⟩=>⟨a,u,e,t.sqT h,SayAt.mono t h1⟩
 | .bin o s r,v,⟨a,u,u',e,h,h1,h2⟩=>⟨a,u,u',e,t.sqT h,SayAt.mono t h1,SayAt.mono t h2⟩
theorem Zi(hs:List Str):(hs.map V.str).all vd=true:=by
 rw[yA];intro x hx;obtain⟨y,_,rfl⟩:=zD.mp hx
 rfl
theorem Vu(x:Str)(hs:List Str):inV (.str x) (hs.map V.str)=hs.any λy=>y==x:=by
 unfold inV;rw[List.any_map]
 rfl
theorem sn(x:Str):PyData.strOk x=true↔∀c∈x.cps.toList,c<0x110000:=by
 unfold PyData.strOk;rw[<-Array.all_toList,yA];exact⟨λh c hc=>yQ (h c hc),λh c hc=>yU (h c hc)⟩
theorem Wo{x y:Str}(h1:PyData.strOk x=true)(h2:PyData.strOk y=true):PyData.strOk (x++y)=true:=by
 rw[sn]at h1 h2 ⊢;intro c hc;have mT:c∈(x.cps++y.cps).toList:=hc;rw[vL]at mT;rcases zK.mp mT with z|z
 ·exact h1 c z
 ·exact h2 c z
theorem Of{x:Str}{c:Nat}(h1:PyData.strOk x=true)(h:c∈x.cps.toList):PyData.strOk ⟨#[c]⟩=true:=by
 rw[sn]at h1 ⊢;intro d hd;have:d=c:=by simpa using hd
 rw[this];exact h1 c h
theorem U1{x:Str}(h1:PyData.strOk x=true)(l u:Option Int):PyData.strOk (Txt.slice x l u)=true:=by
 unfold Txt.slice;split
 ·exact h1
 ·rw[sn]at h1 ⊢;intro c hc;have mT:c∈List.filterMap (λi=>x.cps[i]?) (Builtin.Str.strSliceIndices l u 1 x.length):=by simpa using hc
  obtain⟨i,_,hi⟩:=tE.mp mT;exact h1 c (by
   have:=Array.mem_of_getElem? hi;simpa using this)
def Nm(x:Str):Prop:=x.length<=20/\PyData.strOk x=true
theorem f7(K:W.Frag)(H:Hp):∀ss:List Str,HasL K H (ss.map V.str) (ss.map PyData.str)
 |[]=>by simp[HasL]
 |x::ss=>by
  have ih:=f7 K H ss;rw[List.map_cons,List.map_cons];unfold HasL;exact⟨_,_,rfl,by unfold Has;rfl,ih⟩
theorem Zz:∀ss:List Str,(∀x∈ss,PyData.strOk x=true)->PyData.canLayAll0 (ss.map PyData.str)=true/\PyData.depthAll (ss.map PyData.str)=0
 |[],_=>by simp[PyData.canLayAll0,PyData.depthAll]
 |x::ss,h=>by
  obtain⟨h1,h2⟩:=Zz ss λy hy=>h y (zH _ hy);have hx:=h x zG;rw[List.map_cons];refine⟨?_,?_⟩
  ·rw[PyData.canLayAll0,h1,Bool.and_true,PyData.canLay0];exact hx
  ·rw[PyData.depthAll,h2,PyData.depth]
   rfl
theorem Pf{d:PyData}(h:SeqAt.shaped d=true):PyData.eqv d d=true:=SeqAt.eqv_refl d (SeqAt.canLay_of_shaped h)
def yz:Int->List Str->List Str
 |_,[]=>[]
 |n,x::r=>if n % 2=1 then x::yz (n / 2) r else yz (n / 2) r
theorem xm{P:Program}{w:World}{K:W.Frag}{mg:Str->Option Value}{base:Heap}{x:Str}{st:Stmt}{ps:List Str}{sp:Sp}(F:Def K mg x st ps)(no:∀vs H Q E,¬sp vs H Q E):zy P w K mg base 0 x ps sp:=by
 obtain⟨f,fd,F,b,hm⟩:=F.ex;exact⟨f,fd,⟨λvs H Q E h=>absurd h (no vs H Q E),λA outer s H args us vs Q E _ _ _ _ h=>absurd h (no vs H Q E)⟩,.all b,F.kp,hm⟩
end My
namespace My
open PySem
namespace Tb
open PySem.SetTable
def av(m:Nat)(p:Probe):Probe :=
 if p.more>0 then{ p with j:=p.j+1,more:=p.more-1 }else
 { p with j:=(leap m p.i p.perturb).1,more:=runEnd m (leap m p.i p.perturb).1-(leap m p.i p.perturb).1,i:=(leap m p.i p.perturb).1,perturb:=(leap m p.i p.perturb).2 }
theorem ji(t:SetTable)(p:Probe):t.advance p=av t.mask p:=rfl
def itr(m:Nat):Nat->Probe->Probe
 |0,p=>p
 |k+1,p=>itr m k (av m p)
theorem mx(m:Nat):∀(a b:Nat)(p:Probe),itr m (a+b) p=itr m b (itr m a p)
 |0,b,p=>by rw[rZ];rfl
 |a+1,b,p=>by
  rw[show a+1+b=(a+b)+1 by lia];exact mx m a b (av m p)
theorem j4(m k:Nat)(p:Probe):itr m (k+1) p=av m (itr m k p):=mx m k 1 p
def hd(m i p:Nat):Probe:={ j:=i,more:=runEnd m i-i,i:=i,perturb:=p,dummy:=none }
def st0(m:Nat)(h:Int):Probe:=hd m (bits h % (m+1)) (bits h)
theorem Rw(m:Nat):∀(r j i p:Nat)(d:Option Nat),itr m r { j:=j,more:=r,i:=i,perturb:=p,dummy:=d }={ j:=j+r,more:=0,i:=i,perturb:=p,dummy:=d }
 |0,_,_,_,_=>rfl
 |r+1,j,i,p,d=>by
  show itr m r (av m { j:=j,more:=r+1,i:=i,perturb:=p,dummy:=d })=_;have e:av m { j:=j,more:=r+1,i:=i,perturb:=p,dummy:=d }={ j:=j+1,more:=r,i:=i,perturb:=p,dummy:=d }:=by
   unfold av;simp
  rw[e,Rw m r,show j+1+r=j+(r+1)by lia]
theorem Wj(m i p:Nat):itr m (runEnd m i-i+1) (hd m i p)=hd m (leap m i p).1 (leap m i p).2:=by
 rw[j4];unfold hd;rw[Rw]
 rfl
theorem Oa(m i:Nat):runEnd m i-i+1<=10:=by
 unfold runEnd;split<;>lia
def lp(m:Nat):Nat->Nat×Nat->Nat×Nat
 |0,x=>x
 |n+1,x=>lp m n (leap m x.1 x.2)
theorem P4(m:Nat):∀(n:Nat)(x:Nat×Nat),∃k,k<=10*n/\itr m k (hd m x.1 x.2)=hd m (lp m n x).1 (lp m n x).2
 |0,x=>⟨0,zU _,rfl⟩
 |n+1,x=>by
  obtain⟨k,hk,e⟩:=P4 m n (leap m x.1 x.2);refine⟨runEnd m x.1-x.1+1+k,by have:=Oa m x.1;lia,?_⟩;rw[mx,Wj];exact e
theorem df(m:Nat):∀(a b:Nat)(x:Nat×Nat),lp m (a+b) x=lp m b (lp m a x)
 |0,b,x=>by rw[rZ];rfl
 |a+1,b,x=>by
  rw[show a+1+b=(a+b)+1 by lia];exact df m a b (leap m x.1 x.2)
theorem Xr(m:Nat):∀(n:Nat)(x:Nat×Nat),(lp m n x).2=x.2 / 32 ^ n
 |0,x=>by simp[lp]
 |n+1,x=>by
  show(lp m n (leap m x.1 x.2)).2=_;rw[Xr m n];show x.2 / 32 / 32 ^ n=_;rw[Nat.div_div_eq_div_mul,Nat.pow_succ,Nat.mul_comm]
theorem Vh(h:Int):bits h<2 ^ 64:=by
 unfold bits;have h1:0<=h % (2 ^ 64:Int):=uK _ (by decide);have h2:h % (2 ^ 64:Int)<2 ^ 64:=vC _ (by decide);lia
def cy(m:Nat):Nat->Nat->Nat
 |0,i=>i
 |n+1,i=>cy m n ((i*5+1) % (m+1))
theorem cq(m:Nat):∀(a b i:Nat),cy m (a+b) i=cy m b (cy m a i)
 |0,b,i=>by rw[rZ];rfl
 |a+1,b,i=>by
  rw[show a+1+b=(a+b)+1 by lia];exact cq m a b _
theorem P0(m:Nat):∀(n i:Nat),lp m n (i,0)=(cy m n i,0)
 |0,_=>rfl
 |n+1,i=>by
  show lp m n (leap m i 0)=_;have e:leap m i 0=((i*5+1) % (m+1),0):=by unfold leap;simp
  rw[e,P0 m n]
  rfl
theorem Lo(m:Nat)(n:Nat)(x:Nat×Nat):(lp m (n+1) x).1<=m:=by
 rw[df];show(leap m (lp m n x).1 (lp m n x).2).1<=m;unfold leap;exact Nat.le_of_lt_succ (Nat.mod_lt _ (sH m))
def Mk(m:Nat):Prop:=m=7\/m=31\/m=127
def Kk(m:Nat):Bool:=(cy m (m+1) 0==0)&&(List.range (m+1)).all λe=>(List.range (m+1)).any λa=>cy m a 0==e
theorem Ff:Kk 7=true:=by decide +kernel
theorem orb{m:Nat}(hm:Mk m):cy m (m+1) 0=0/\∀e,e<=m->∃a,a<=m/\cy m a 0=e:=by
 have h:Kk m=true:=by rcases hm with rfl|rfl|rfl<;>first|exact Ff|exact orb31|exact orb127
 unfold Kk at h;rw[yJ,yA]at h;refine⟨by simpa using h.1,λe he=>?_⟩;have:=h.2 e (yH.mpr (by lia));rw[yD]at this;obtain⟨a,ha,e'⟩:=this;exact⟨a,by have:=yH.mp ha;lia,by simpa using e'⟩
theorem Ll{m:Nat}(hm:Mk m){i e:Nat}(hi:i<=m)(he:e<=m):∃k,k<=m/\cy m k i=e:=by
 obtain⟨h0,h1⟩:=orb hm;obtain⟨a,ha,rfl⟩:=h1 i hi;obtain⟨b,hb,rfl⟩:=h1 e he
 by_cases kX:a<=b
 ·refine⟨b-a,by lia,?_⟩;rw[<-cq,show a+(b-a)=b by lia]
 ·refine⟨b+(m+1)-a,by lia,?_⟩;rw[<-cq,show a+(b+(m+1)-a)=(m+1)+b by lia,cq,h0]
def pos(m:Nat)(h:Int)(k:Nat):Nat:=(itr m k (st0 m h)).j
theorem Ic{m:Nat}(hm:Mk m)(h:Int){e:Nat}(he:e<=m):∃k,k<=10*(m+13)/\pos m h k=e:=by
 have h13:lp m 13 (bits h % (m+1),bits h)=((lp m 13 (bits h % (m+1),bits h)).1,0):=by
  have:(lp m 13 (bits h % (m+1),bits h)).2=0:=by
   rw[Xr];exact Nat.div_eq_of_lt (sB (Vh h) (by decide))
  exact Prod.ext rfl this
 obtain⟨k,hk,ek⟩:=Ll hm (Lo m 12 (bits h % (m+1),bits h)) he;obtain⟨r,hr,er⟩:=P4 m (13+k) (bits h % (m+1),bits h);refine⟨r,by lia,?_⟩;unfold pos st0;rw[er,df,h13,P0];exact ek
theorem least{P:Nat->Prop}:∀n:Nat,P n->∃k,k<=n/\P k/\∀k',k'<k->¬P k':=by
 intro n
 induction n using Nat.strongRecOn with
 |_ n ih =>
  intro h
  by_cases hc:∃k',k'<n/\P k'
  ·obtain⟨k',hk,hp⟩:=hc;obtain⟨k,h1,h2,h3⟩:=ih k' hk hp;exact⟨k,by lia,h2,h3⟩
  ·exact⟨n,zU _,h,λk' hk hp=>hc ⟨k',hk,hp⟩⟩
theorem Yk:∀(n:Nat)(l:List Nat),(∀e,e<n->e∈l)->n<=l.length
 |0,_,_=>yR _
 |n+1,l,h=>by
  have hn:=h n (yB n);have h1:=Yk n (l.erase n) λe he=>(List.mem_erase_of_ne (by lia)).mpr (h e (by lia));rw[List.length_erase_of_mem hn]at h1;have:=sU hn;lia
theorem Xd{m:Nat}(hm:Mk m)(h:Int){l:List Nat}(hl:l.length<=m):∃K,K<=10*(m+13)/\pos m h K∉l/\∀k,k<K->pos m h k∈l:=by
 have hex:∃e,e<=m/\e∉l:=by
  by_cases hc:∃e,e<=m/\e∉l
  ·exact hc
  ·exfalso;have:=Yk (m+1) l λe he=>xJ λhn=>hc ⟨e,by lia,hn⟩;lia
 obtain⟨e,he,hn⟩:=hex;obtain⟨k,hk,ek⟩:=Ic hm h he;obtain⟨K,h1,h2,h3⟩:=least (P:=λk=>pos m h k∉l) k (by rw[ek];exact hn);exact⟨K,by lia,h2,λk' aW=>xJ λhc=>h3 k' aW hc⟩
theorem sf{l:List Nat}(hr:l.Pairwise (·<·)){i i' d:Nat}(h:i<i')(h':i'<l.length):l.toArray.getD i d<l.toArray.getD i' d:=by
 have:=yE.mp hr i i' (by lia) h' h;simpa[Array.getD,h',show i<l.length by lia]using this
theorem jp{l:List Nat}(hr:l.Pairwise (·<·))(j:Nat):∀(iV lo hi:Nat),hi<=l.length->lo<=hi->hi-lo<=iV->(∀i,i<lo->l.toArray.getD i j<j)->(∀i,hi<=i->i<l.length->j<=l.toArray.getD i j) ->
  below.go l.toArray j iV lo hi<=l.length/\(∀i,i<below.go l.toArray j iV lo hi->l.toArray.getD i j<j)/\(∀i,below.go l.toArray j iV lo hi<=i->i<l.length->j<=l.toArray.getD i j)
 |0,lo,hi,h1,h2,h3,h4,h5=>by
  unfold below.go;exact⟨by lia,h4,λi bT=>h5 i (by lia)⟩
 |f+1,lo,hi,h1,h2,h3,h4,h5=>by
  unfold below.go
  by_cases aI:lo<hi
  ·rw[yV aI];dsimp only
   by_cases hc:l.toArray.getD ((lo+hi) / 2) j<j
   ·rw[yV hc];refine jp hr j f _ _ h1 (by lia) (by lia) (λi bT=>?_) h5
    by_cases e:i=(lo+hi) / 2
    ·rw[e];exact hc
    ·exact sB (sf hr (by lia) (by lia)) hc
   ·rw[zC hc];refine jp hr j f _ _ (by lia) (by lia) (by lia) h4 (λi bT hl=>?_)
    by_cases e:i=(lo+hi) / 2
    ·rw[e];exact sY.mp hc
    ·exact yT (sY.mp hc) (xW (sf hr (by lia) hl))
  ·rw[zC aI];exact⟨by lia,h4,λi bT=>h5 i (by lia)⟩
theorem uh{l:List Nat}(hr:l.Pairwise (·<·))(j:Nat):below l.toArray j<=l.length/\(∀i,i<below l.toArray j->l.toArray.getD i j<j)/\(∀i,below l.toArray j<=i->i<l.length->j<=l.toArray.getD i j):=by
 unfold below;have hs:l.toArray.size=l.length:=zL;rw[hs];exact jp hr j l.length 0 l.length (zU _) (yR _) (by lia) (λi hi=>by lia) (λi h1 h2=>by lia)
theorem se{l:List Nat}{i d:Nat}(h:i<l.length):l.toArray.getD i d=l[i]:=by simp[Array.getD,h]
theorem S7{l:List Nat}(hr:l.Pairwise (·<·)){j:Nat}(h:j∈l):l[below l.toArray j]?=some j:=by
 obtain⟨b1,b2,b3⟩:=uh hr j;obtain⟨i,hi,e⟩:=vZ h;have h1:¬i<below l.toArray j:=λz=>by
  have:=b2 i z;rw[se hi,e]at this;lia
 have h2:¬below l.toArray j<i:=λz=>by
  have h3:=b3 (below l.toArray j) (zU _) (by lia);have h4:=sf (d:=j) hr z hi;rw[se hi,e]at h4;lia
 have:below l.toArray j=i:=by lia
 rw[this,zS hi,e]
theorem W2{l:List Nat}(hr:l.Pairwise (·<·)){j:Nat}:(∀x∈l.take (below l.toArray j),x<j)/\(∀x∈l.drop (below l.toArray j),j<=x):=by
 obtain⟨b1,b2,b3⟩:=uh hr j;constructor
 ·intro x hx;obtain⟨i,hi,e⟩:=vZ hx;rw[yS]at hi;have:=b2 i (by lia);rw[se (by lia)]at this;rw[List.getElem_take]at e;lia
 ·intro x hx;obtain⟨i,hi,e⟩:=vZ hx;rw[wR]at hi;have:=b3 (below l.toArray j+i) (by lia) (by lia);rw[se (by lia)]at this;rw[List.getElem_drop]at e;lia
theorem U9{l:List Nat}(hr:l.Pairwise (·<·)){j:Nat}(hj:j∉l):(l.take (below l.toArray j)++j::l.drop (below l.toArray j)).Pairwise (·<·):=by
 obtain⟨h1,h2⟩:=W2 hr (j:=j);have hd:∀x∈l.drop (below l.toArray j),j<x:=λx hx=>by
  have:=h2 x hx;have aZ:x≠j:=λe=>hj (e▸tX hx);lia
 refine List.pairwise_append.mpr ⟨hr.sublist (uB _ _),xM.mpr ⟨hd,hr.sublist (List.drop_sublist _ _)⟩,λa ha b hb=>?_⟩;rcases zI.mp hb with rfl|hb
 ·exact h1 a ha
 ·exact sB (h1 a ha) (hd b hb)
end Tb
end My
namespace My
open PySem
namespace Tb
open PySem.SetTable
structure Rep(L:List (Nat×(Int×Value)))(es:Array (Int×Value))(t:SetTable):Prop where
 es:es=(L.map (·.2)).toArray
 pl:t.place=(L.map (·.1)).toArray
 dm:t.dummies=#[]
 up:(L.map (·.1)).Pairwise (·<·)
 pa:∀x∈L,∃k,pos t.mask x.2.1 k=x.1/\∀k',k'<k->pos t.mask x.2.1 k'∈L.map (·.1)
 mz:Mk t.mask
 fl:L.length<=t.mask
variable {L:List (Nat×(Int×Value))}{es:Array (Int×Value)}{t:SetTable}
theorem Rep.fits(r:Rep L es t):t.fits es.size=true:=by
 unfold SetTable.fits SetTable.fill;rw[r.pl,r.es,r.dm];simpa using r.fl
theorem Rep.odd(r:Rep L es t):t.gaveWay=false:=by
 unfold SetTable.gaveWay;rcases r.mz with e|e|e<;>rw[e]<;>rfl
theorem Vt(j:Nat):has #[] j=false:=by unfold has;simp
theorem Rep.slot_live(r:Rep L es t){j:Nat}(h:j∈L.map (·.1)):∃i e,t.slot j = .live i/\L[i]?=some (j,e)/\es[i]?=some e:=by
 have hb:=S7 r.up h;have hp:t.place[below t.place j]?=some j:=by rw[r.pl];simpa using hb
 rw[zT]at hb;cases hx:L[below (L.map (·.1)).toArray j]? with
 |none=>rw[hx]at hb;cases hb
 |some x =>
  rw[hx]at hb;have e1:x.1=j:=by simpa using hb
  refine⟨below t.place j,x.2,?_,?_,?_⟩
  ·unfold SetTable.slot;dsimp only;rw[hp];simp
  ·rw[r.pl,hx,<-e1]
  ·rw[r.es,r.pl];simp[hx]
theorem Rep.slot_free(r:Rep L es t){j:Nat}(h:j∉L.map (·.1)):t.slot j = .empty:=by
 unfold SetTable.slot;dsimp only;have hp:(t.place[below t.place j]?==some j)=false:=by
  rw[wA];intro e;rw[r.pl]at e;exact h (by
   have:=Array.mem_of_getElem? e;simpa using this)
 rw[hp,r.dm,Vt];simp
theorem gc(m:Nat):∀(k:Nat)(p:Probe),(itr m k p).dummy=p.dummy
 |0,_=>rfl
 |k+1,p=>by
  rw[itr,gc m k];unfold av;split<;>rfl
theorem Rep.probe_go(r:Rep L es t){hashAt:Nat->Int}(hh:∀i e,es[i]?=some e->hashAt i=e.1)(h:Int){K:Nat}(hK:pos t.mask h K∉L.map (·.1))(hk:∀k,k<K->pos t.mask h k∈L.map (·.1)):∀(iV m:Nat),m<=K->K-m<iV ->
  (probe.go t hashAt h iV (itr t.mask m (st0 t.mask h))=some (.empty (pos t.mask h K) none)/\∀k e,m<=k->k<K->(pos t.mask h k,e)∈L->e.1≠h) \/
  ∃k i v,m<=k/\k<K/\probe.go t hashAt h iV (itr t.mask m (st0 t.mask h))=some (.candidate (pos t.mask h k) i (itr t.mask (k+1) (st0 t.mask h)))/\t.slot (pos t.mask h k) = .live i/\es[i]?=some (h,v)/\(pos t.mask h k,(h,v))∈L/\∀k' e,m<=k'->k'<k->(pos t.mask h k',e)∈L->e.1≠h
 |0,m,hm,hf=>by lia
 |f+1,m,hm,hf=>by
  unfold probe.go;have hj:(itr t.mask m (st0 t.mask h)).j=pos t.mask h m:=rfl;have hd:(itr t.mask m (st0 t.mask h)).dummy=none:=by rw[gc];rfl
  by_cases eK:m=K
  ·subst eK;rw[hj,r.slot_free hK];dsimp only;rw[hd];exact .inl ⟨rfl,λk e h1 h2=>by lia⟩
  ·have aI:m<K:=by lia
   obtain⟨i,el,hs,hL,he⟩:=r.slot_live (hk m aI);rw[hj,hs];dsimp only;have Db:∀e',(pos t.mask h m,e')∈L->e'=el:=λe' he'=>by
    obtain⟨i',bT,e2⟩:=vZ he';have hL':=(zW.mp hL)
    obtain⟨hi,e3⟩:=hL';have:i'=i:=by
     rcases Nat.lt_trichotomy i' i with z|z|z
     ·have:=yE.mp r.up i' i (by simpa using bT) (by simpa using hi) z;simp[e2,e3]at this
     ·exact z
     ·have:=yE.mp r.up i i' (by simpa using hi) (by simpa using bT) z;simp[e2,e3]at this
    subst this;rw[e2]at e3;exact(Prod.mk.inj e3).2
   by_cases hc:(hashAt i==h)=true
   ·rw[yV hc];have Ca:el.1=h:=by rw[<-hh i el he];exact eq_of_beq hc
    refine .inr ⟨m,i,el.2,zU _,aI,?_,hs,?_,?_,λk' e h1 h2=>by lia⟩
    ·rw[ji,<-j4]
    ·rw[he,<-Ca]
    ·have e5:((h,el.2):Int×Value)=el:=Prod.ext Ca.symm rfl;rw[e5];exact zN hL
   ·rw[zC hc,ji,<-j4];have Ca:el.1≠h:=λz=>hc (by rw[hh i el he,z];simp);rcases Rep.probe_go r hh h hK hk f (m+1) (by lia) (by lia)with⟨a,b⟩|⟨k,i',v,a1,a2,a3,a4,a5,a6,a7⟩
    ·refine .inl ⟨a,λk e h1 h2 pH=>?_⟩
     by_cases z:k=m
     ·subst z;rw[Db e pH];exact Ca
     ·exact b k e (by lia) h2 pH
    ·refine .inr ⟨k,i',v,by lia,a2,a3,a4,a5,a6,λk' e h1 h2 pH=>?_⟩
     by_cases z:k'=m
     ·subst z;rw[Db e pH];exact Ca
     ·exact a7 k' e (by lia) h2 pH
theorem qt{α β:Type}(f:α->β)(l:List α)(p:Nat)(x:α):(l.take p++x::l.drop p).map f=(l.map f).take p++f x::(l.map f).drop p:=by simp
theorem rf{α:Type}(l:List α)(p:Nat)(x:α):insertAt l.toArray p x=(l.take p++x::l.drop p).toArray:=by
 apply wC.mp;rw[SetTable.toList_insertAt]
def ins(L:List (Nat×(Int×Value)))(j:Nat)(e:Int×Value):List (Nat×(Int×Value)):=L.take (below (L.map (·.1)).toArray j)++(j,e)::L.drop (below (L.map (·.1)).toArray j)
theorem mem_ins{j:Nat}{e:Int×Value}{x:Nat×(Int×Value)}:x∈ins L j e↔x=(j,e)\/x∈L:=by
 unfold ins;rw[zK,zI];constructor
 ·rintro(h|h|h)
  ·exact .inr (wZ h)
  ·exact .inl h
  ·exact .inr (tX h)
 ·rintro(h|h)
  ·exact .inr (.inl h)
  ·have:x∈L.take (below (L.map (·.1)).toArray j)++L.drop (below (L.map (·.1)).toArray j):=by rw[List.take_append_drop];exact h
   rcases zK.mp this with z|z
   ·exact .inl z
   ·exact .inr (.inr z)
theorem Zv(j:Nat)(e:Int×Value):(ins L j e).Perm ((j,e)::L):=by
 unfold ins;refine List.perm_middle.trans ?_;rw[List.take_append_drop]
theorem Rep.put(r:Rep L es t){h:Int}{x:Value}{K:Nat}(hK:pos t.mask h K∉L.map (·.1))(hk:∀k,k<K->pos t.mask h k∈L.map (·.1))(hl:L.length+1<=t.mask):
  Rep (ins L (pos t.mask h K) (h,x)) (insertAt es (t.put (pos t.mask h K)).2 (h,x)) (t.put (pos t.mask h K)).1:=by
 have e1:(t.put (pos t.mask h K)).2=below (L.map (·.1)).toArray (pos t.mask h K):=by unfold SetTable.put;dsimp only;rw[r.pl]
 have e2:(t.put (pos t.mask h K)).1.mask=t.mask:=rfl;refine⟨?_,?_,?_,?_,?_,r.mz,?_⟩
 ·rw[e1,r.es,rf];unfold ins;rw[qt]
 ·unfold SetTable.put;dsimp only;rw[r.pl,rf];unfold ins;rw[qt]
 ·unfold SetTable.put;dsimp only;rw[r.dm,Vt];simp
 ·unfold ins;rw[qt];exact U9 r.up hK
 ·intro y hy;rw[e2];have sub:∀j,j∈L.map (·.1)->j∈(ins L (pos t.mask h K) (h,x)).map (·.1):=λj hj=>by
   obtain⟨z,hz,rfl⟩:=zD.mp hj;exact zD.mpr ⟨z,mem_ins.mpr (.inr hz),rfl⟩
  rcases mem_ins.mp hy with rfl|hy
  ·exact⟨K,rfl,λk' aW=>sub _ (hk k' aW)⟩
  ·obtain⟨k,h1,h2⟩:=r.pa y hy;exact⟨k,h1,λk' aW=>sub _ (h2 k' aW)⟩
 ·have:=(Zv (L:=L) (pos t.mask h K) (h,x)).length_eq;rw[this];exact hl
end Tb
end My
namespace My
open PySem
namespace Tb
open PySem.SetTable
theorem gs{m i:Nat}(h:i<=m):runEnd m i<=m:=by unfold runEnd;split<;>lia
theorem pd(m i:Nat):i<=runEnd m i:=by unfold runEnd;split<;>lia
theorem Pm(m:Nat):∀(k:Nat)(p:Probe),p.j+p.more<=m->(itr m k p).j+(itr m k p).more<=m
 |0,_,h=>h
 |k+1,p,h=>by
  refine Pm m k (av m p) ?_;unfold av;split
  ·show p.j+1+(p.more-1)<=m;lia
  ·have h1:(leap m p.i p.perturb).1<=m:=by unfold leap;exact Nat.le_of_lt_succ (Nat.mod_lt _ (sH m))
   have h2:=gs h1;have h3:=pd m (leap m p.i p.perturb).1;show(leap m p.i p.perturb).1+(runEnd m (leap m p.i p.perturb).1-(leap m p.i p.perturb).1)<=m;lia
theorem Km(m:Nat)(h:Int)(k:Nat):pos m h k<=m:=by
 have h1:bits h % (m+1)<=m:=Nat.le_of_lt_succ (Nat.mod_lt _ (sH m));have h2:=gs h1;have h3:=pd m (bits h % (m+1));have:=Pm m k (st0 m h) (by show bits h % (m+1)+(runEnd m (bits h % (m+1))-bits h % (m+1))<=m;lia);unfold pos;lia
theorem k9(m:Nat):∀(k r j i p:Nat)(d:Option Nat),k<=r->(itr m k { j:=j,more:=r,i:=i,perturb:=p,dummy:=d }).j=j+k
 |0,_,_,_,_,_,_=>rfl
 |k+1,r,j,i,p,d,h=>by
  show(itr m k (av m { j:=j,more:=r,i:=i,perturb:=p,dummy:=d })).j=_;have e:av m { j:=j,more:=r,i:=i,perturb:=p,dummy:=d }={ j:=j+1,more:=r-1,i:=i,perturb:=p,dummy:=d }:=by
   unfold av;rw[yV (by show r>0;lia)]
  rw[e,k9 m k (r-1) (j+1) i p d (by lia)];lia
theorem Tj{n:Nat}{p:Nat->Bool}(h:(List.range n).find? p=none):∀k,k<n->p k=false:=λk hk=>by
 have:=List.find?_eq_none.mp h k (yH.mpr hk);simpa using this
theorem Tk{n k:Nat}{p:Nat->Bool}(h:(List.range n).find? p=some k):k<n/\p k=true/\∀k',k'<k->p k'=false:=by
 have h1:=List.find?_range_eq_some.mp h;refine⟨by simpa using h1.2.1,h1.1,λk' aW=>by simpa using h1.2.2 k' aW⟩
def fr(o:Array (Option Nat))(j:Nat):Bool:=(o.getD j (some 0)).isNone
theorem fz(m:Nat)(o:Array (Option Nat)):∀(f:Nat)(x:Nat×Nat)(n:Nat),n<f->fr o (lp m n x).1=true ->
  ∃k,layClean.free m o f x.1 x.2=some (itr m k (hd m x.1 x.2)).j/\fr o (itr m k (hd m x.1 x.2)).j=true/\∀k',k'<k->fr o (itr m k' (hd m x.1 x.2)).j=false
 |0,_,_,h,_=>by lia
 |f+1,x,n,hn,hfr=>by
  unfold layClean.free;have hre:=pd m x.1;cases hc:(List.range (runEnd m x.1+1-x.1)).find? λk=>(o.getD (x.1+k) (some 0)).isNone with
  |some k =>
   obtain⟨h1,h2,h3⟩:=Tk hc;have ep:∀k',k'<=k->(itr m k' (hd m x.1 x.2)).j=x.1+k':=λk' aW=>k9 m k' _ _ _ _ _ (by lia);refine⟨k,?_,?_,λk' aW=>?_⟩
   ·dsimp only;rw[ep k (zU _)]
   ·rw[ep k (zU _)];exact h2
   ·rw[ep k' (by lia)];exact h3 k' aW
  |none =>
   have h1:=Tj hc;have ep:∀k',k'<=runEnd m x.1-x.1->(itr m k' (hd m x.1 x.2)).j=x.1+k':=λk' aW=>k9 m k' _ _ _ _ _ aW;cases n with
   |zero =>
    exfalso;have:=h1 0 (by lia);have h2:fr o x.1=true:=hfr;unfold fr at h2;rw[Nat.add_zero]at this;rw[this]at h2;cases h2
   |succ n =>
    obtain⟨k,e,a1,a2⟩:=fz m o f (leap m x.1 x.2) n (by lia) hfr;have er:∀k',itr m (runEnd m x.1-x.1+1+k') (hd m x.1 x.2)=itr m k' (hd m (leap m x.1 x.2).1 (leap m x.1 x.2).2):=λk'=>by rw[mx,Wj]
    refine⟨runEnd m x.1-x.1+1+k,?_,?_,λk' aW=>?_⟩
    ·rw[er];exact e
    ·rw[er];exact a1
    ·by_cases z:k'<runEnd m x.1-x.1+1
     ·rw[ep k' (by lia)];exact h1 k' (by lia)
     ·have:=a2 (k'-(runEnd m x.1-x.1+1)) (by lia);rw[<-er,show runEnd m x.1-x.1+1+(k'-(runEnd m x.1-x.1+1))=k' by lia]at this;exact this
theorem Rq{m:Nat}(hm:Mk m)(h:Int){e:Nat}(he:e<=m):∃n,n<turns m/\(lp m n (bits h % (m+1),bits h)).1=e:=by
 have h13:lp m 13 (bits h % (m+1),bits h)=((lp m 13 (bits h % (m+1),bits h)).1,0):=by
  have:(lp m 13 (bits h % (m+1),bits h)).2=0:=by
   rw[Xr];exact Nat.div_eq_of_lt (sB (Vh h) (by decide))
  exact Prod.ext rfl this
 obtain⟨k,hk,ek⟩:=Ll hm (Lo m 12 (bits h % (m+1),bits h)) he;refine⟨13+k,by unfold turns;lia,?_⟩;rw[df,h13,P0];exact ek
def lv(m:Nat)(o:Array (Option Nat)):List (Nat×Nat):=(List.range (m+1)).filterMap λj=>(o.getD j none).map (j,·)
theorem Zr{α β:Type}{g g':α->Option β}:∀{l:List α},(∀a∈l,g' a=g a)->l.filterMap g'=l.filterMap g
 |[],_=>rfl
 |a::l,h=>by
  rw[wO,wO,h a zG,Zr λb hb=>h b (zH _ hb)]
theorem Vr{β:Type}{g g':Nat->Option β}{j:Nat}{b:β}(hg:g j=none)(hg':g' j=some b)(aZ:∀a,a≠j->g' a=g a):∀{l:List Nat},l.Nodup->j∈l->(l.filterMap g').Perm (b::l.filterMap g)
 |[],_,h=>by simp at h
 |a::l,hn,h=>by
  rw[wK]at hn;rw[wO,wO]
  by_cases e:a=j
  ·subst e;rw[hg,hg'];dsimp only;rw[Zr λc hc=>aZ c λz=>hn.1 (z▸hc)]
  ·rw[aZ a e];have hj:j∈l:=by
    rcases zI.mp h with z|z
    ·exact absurd z.symm e
    ·exact z
   have ih:=Vr hg hg' aZ hn.2 hj;cases g a with
   |none=>exact ih
   |some c=>exact(ih.cons c).trans (.swap _ _ _)
structure Laid(m:Nat)(hs:List Int)(o:Array (Option Nat))(Z:List (Nat×Nat)):Prop where
 sz:o.size=m+1
 pm:(lv m o).Perm Z
 ix:Z.map (·.2)=List.range hs.length
 fr:∀j,fr o j=true↔j<=m/\j∉Z.map (·.1)
 pa:∀z∈Z,∀h,hs[z.2]?=some h->∃k,pos m h k=z.1/\∀k',k'<k->pos m h k'∈Z.map (·.1)
theorem Laid.zero(m:Nat):Laid m [] (Array.replicate (m+1) none) []:=by
 refine⟨by simp,?_,rfl,λj=>?_,λz hz=>by simp at hz⟩
 ·unfold lv;have:(List.range (m+1)).filterMap (λj=>((Array.replicate (m+1) (none:Option Nat)).getD j none).map (j,·))=[]:=by
   rw[List.filterMap_eq_nil_iff];intro j hj;have qD:j<m+1:=yH.mp hj;simp[Array.getD,qD]
  rw[this]
 ·unfold Tb.fr
  by_cases hj:j<m+1
  ·simp[Array.getD,hj];lia
  ·simp[Array.getD,hj];lia
theorem Laid.step{m:Nat}{hs:List Int}{o:Array (Option Nat)}{Z:List (Nat×Nat)}(hm:Mk m)(la:Laid m hs o Z)(h:Int)(hl:hs.length+1<=m):
  ∃j,layClean.free m o (turns m) (bits h % (m+1)) (bits h)=some j/\Laid m (hs++[h]) (o.setIfInBounds j (some hs.length)) (Z++[(j,hs.length)]):=by
 have hZ:Z.length=hs.length:=by
  have:=xK List.length la.ix;simpa using this
 have hex:∃e,e<=m/\e∉Z.map (·.1):=by
  by_cases hc:∃e,e<=m/\e∉Z.map (·.1)
  ·exact hc
  ·exfalso;have:=Yk (m+1) (Z.map (·.1)) λe he=>xJ λhn=>hc ⟨e,by lia,hn⟩;rw[zY]at this;lia
 obtain⟨e,he,hen⟩:=hex;obtain⟨n,hn,en⟩:=Rq hm h he;obtain⟨k,e1,e2,e3⟩:=fz m o (turns m) (bits h % (m+1),bits h) n hn (by rw[en];exact(la.fr e).mpr ⟨he,hen⟩);have Aw:(itr m k (hd m (bits h % (m+1)) (bits h))).j=pos m h k:=rfl;rw[Aw]at e1 e2;obtain⟨j1,j2⟩:=(la.fr _).mp e2;refine⟨pos m h k,e1,?_,?_,?_,λj=>?_,λz hz h' hh=>?_⟩
 ·rw[Array.size_setIfInBounds];exact la.sz
 ·have aI:pos m h k<o.size:=by rw[la.sz];lia
  have EJ:o.getD (pos m h k) none=none:=by
   unfold Tb.fr at e2;simp only[Array.getD,aI,dif_pos]at e2 ⊢;simpa using e2
  have key:(lv m (o.setIfInBounds (pos m h k) (some hs.length))).Perm ((pos m h k,hs.length)::lv m o):=by
   unfold lv;refine Vr (j:=pos m h k) ?_ ?_ ?_ vI (yH.mpr (by lia))
   ·rw[EJ];rfl
   ·have:(o.setIfInBounds (pos m h k) (some hs.length)).getD (pos m h k) none=some hs.length:=by simp[Array.getD,aI]
    rw[this];rfl
   ·intro a ha;have:(o.setIfInBounds (pos m h k) (some hs.length)).getD a none=o.getD a none:=by
     by_cases hz:a<o.size
     ·simp[Array.getD,hz,Array.getElem_setIfInBounds,wU ha]
     ·simp[Array.getD,hz]
    rw[this]
  refine key.trans ((la.pm.cons _).trans ?_);exact(List.perm_append_singleton _ _).symm
 ·rw[zJ,la.ix,zP,xF,vY];rfl
 ·have aI:pos m h k<o.size:=by rw[la.sz];lia
  rw[zJ,zK]
  by_cases ej:j=pos m h k
  ·subst ej;have:Tb.fr (o.setIfInBounds (pos m h k) (some hs.length)) (pos m h k)=false:=by unfold Tb.fr;simp[Array.getD,aI]
   rw[this];simp
  ·have:Tb.fr (o.setIfInBounds (pos m h k) (some hs.length)) j=Tb.fr o j:=by
    unfold Tb.fr
    by_cases hz:j<o.size
    ·simp[Array.getD,hz,Array.getElem_setIfInBounds,wU ej]
    ·simp[Array.getD,hz]
   rw[this,la.fr];simp[ej]
 ·have sub:∀q,q∈Z.map (·.1)->q∈(Z++[(pos m h k,hs.length)]).map (·.1):=λq hq=>by rw[zJ];exact xO _ hq
  rcases zK.mp hz with hz|hz
  ·have aI:z.2<hs.length:=by
    have:z.2∈Z.map (·.2):=yG hz;rw[la.ix]at this;exact yH.mp this
   rw[yK aI]at hh;obtain⟨k2,a1,a2⟩:=la.pa z hz h' hh;exact⟨k2,a1,λk' aW=>sub _ (a2 k' aW)⟩
  ·rw[zO]at hz;subst hz;have:h'=h:=by simpa using hh.symm
   subst this;refine⟨k,rfl,λk' aW=>sub _ ?_⟩;have hb:=e3 k' aW;have EA:(itr m k' (hd m (bits h' % (m+1)) (bits h'))).j=pos m h' k':=rfl;rw[EA]at hb;have fT:pos m h' k'<=m:=Km m h' k';refine xJ λhn=>?_;have:=(la.fr _).mpr ⟨fT,hn⟩;rw[this]at hb;cases hb
end Tb
end My
namespace My
open PySem
namespace Tb
open PySem.SetTable
def Zt(m:Nat)(aG:Option (Array (Option Nat)×Nat))(h:Int):Option (Array (Option Nat)×Nat):=do
 let(owner,k) <-aG
 let j <-layClean.free m owner (turns m) (bits h % (m+1)) (bits h)
 pure (owner.setIfInBounds j (some k),k+1)
theorem Zy(m:Nat)(hs:Array Int):layClean m hs=(hs.foldl (Zt m) (some (Array.replicate (m+1) none,0))).map (·.1):=rfl
theorem fw{m:Nat}(hm:Mk m):∀(rest done:List Int)(o:Array (Option Nat))(Z:List (Nat×Nat)),Laid m done o Z->done.length+rest.length<=m ->
  ∃o' Z',rest.foldl (Zt m) (some (o,done.length))=some (o',(done++rest).length)/\Laid m (done++rest) o' Z'
 |[],done,o,Z,la,_=>⟨o,Z,by simp,by rw[List.append_nil];exact la⟩
 |h::rest,done,o,Z,la,hl=>by
  rw[yL]at hl;obtain⟨j,e,la'⟩:=la.step hm h (by lia);obtain⟨o',Z',e',DR⟩:=fw hm rest (done++[h]) _ _ la' (by rw[zP,xF];lia);refine⟨o',Z',?_,by rw[wM]at DR;exact DR⟩;rw[uZ];have e2:Zt m (some (o,done.length)) h=some (o.setIfInBounds j (some done.length),(done++[h]).length):=by
   unfold Zt;show(layClean.free m o (turns m) (bits h % (m+1)) (bits h)).bind _=_;rw[e];simp
  rw[e2,e',wM]
  rfl
theorem Zs(es:Array (Int×Value)):∀l:List (Nat×Nat),(∀z∈l,z.2<es.size)->(l.map (·.2)).filterMap (λi=>es[i]?)=l.map λz=>es.getD z.2 (0,Value.none)
 |[],_=>rfl
 |z::l,h=>by
  have hz:=h z zG;rw[List.map_cons,wO,List.map_cons,Zs es l λy hy=>h y (zH _ hy)];have e:es[z.2]?=some (es.getD z.2 (0,Value.none)):=by simp[Array.getD,hz]
  rw[e]
theorem gj(es:Array (Int×Value)):(List.range es.size).map (λk=>es.getD k (0,Value.none))=es.toList:=by
 apply vH
 ·simp
 ·intro i h1 h2;have hi:i<es.size:=by simpa using h1
  simp[Array.getD,hi]
theorem Ga(m:Nat)(o:Array (Option Nat)):((lv m o).map (·.1)).Pairwise (·<·):=by
 have e:∀l:List Nat,((l.filterMap λj=>(o.getD j none).map (j,·)).map (·.1))=l.filter λj=>(o.getD j none).isSome:=by
  intro l
  induction l with
  |nil=>rfl
  |cons a l ih =>
   rw[wO,wQ];cases hg:o.getD a none with
   |none=>simpa using ih
   |some c=>simpa using ih
 unfold lv;rw[e];exact List.Pairwise.sublist List.filter_sublist List.pairwise_lt_range
theorem Pu{m:Nat}(hm:Mk m)(es:Array (Int×Value))(hn:es.size<=m)(fi mv:Nat)(led plain:Bool):
  ∃t' order,laid m fi mv led plain (es.map (·.1))=some (t',order)/\t'.mask=m/\t'.led=led/\t'.plain=plain/\∃L',Rep L' (order.filterMap (es[·]?)) t'/\(L'.map (·.2)).Perm es.toList:=by
 obtain⟨o,Z,e,la⟩:=fw hm (es.map (·.1)).toList [] _ _ (Laid.zero m) (by simpa using hn);rw[List.nil_append]at e la;have aH:((es.map (·.1)).toList).length=es.size:=by simp
 have ec:layClean m (es.map (·.1))=some o:=by
  rw[Zy,<-Array.foldl_toList];show Option.map _ (List.foldl (Zt m) (some (Array.replicate (m+1) none,([]:List Int).length)) _)=_;rw[e]
  rfl
 have hv:∀z∈lv m o,z.2<es.size:=λz hz=>by
  have:z.2∈Z.map (·.2):=yG (la.pm.mem_iff.mp hz);rw[la.ix,aH]at this;exact yH.mp this
 refine⟨_,_,by
  unfold laid;rw[ec]
  rfl,rfl,rfl,rfl,(lv m o).map (λz=>(z.1,es.getD z.2 (0,Value.none))),⟨?_,?_,rfl,?_,?_,hm,?_⟩,?_⟩
 ·show Array.filterMap _ ((lv m o).map (·.2)).toArray=_;apply wC.mp;rw[Array.toList_filterMap];show List.filterMap _ ((lv m o).map (·.2))=_;rw[Zs es _ hv,yF]
  rfl
 ·show((lv m o).map (·.1)).toArray=_;rw[yF]
  rfl
 ·rw[yF];exact Ga m o
 ·intro x hx;obtain⟨z,hz,rfl⟩:=zD.mp hx;have oK:=hv z hz;have hh:((es.map (·.1)).toList)[z.2]?=some (es.getD z.2 (0,Value.none)).1:=by simp[Array.getD,oK]
  obtain⟨k,a1,a2⟩:=la.pa z (la.pm.mem_iff.mp hz) _ hh;refine⟨k,a1,λk' aW=>?_⟩;rw[yF];have:=a2 k' aW;exact(la.pm.map (·.1)).mem_iff.mpr this
 ·have:(lv m o).length=es.size:=by
   rw[la.pm.length_eq];have:=xK List.length la.ix;simpa using this
  rw[zY,this];exact hn
 ·rw[yF];have h1:((lv m o).map λz=>es.getD z.2 (0,Value.none)).Perm (Z.map λz=>es.getD z.2 (0,Value.none)):=la.pm.map _;have h2:(Z.map λz=>es.getD z.2 (0,Value.none))=es.toList:=by
   have:(Z.map λz=>es.getD z.2 (0,Value.none))=(Z.map (·.2)).map λk=>es.getD k (0,Value.none):=by rw[yF];rfl
   rw[this,la.ix,aH,gj]
  rw[<-h2];exact h1
def pk(L:List (Nat×(Int×Value)))(t:SetTable):Prop:=L.length*5<t.mask*3
theorem Yo{L:List (Nat×(Int×Value))}{es:Array (Int×Value)}{t:SetTable}(r:Rep L es t)(hb:L.length<=76)(h0:(L.length-1)*5<t.mask*3)(h1:t.mask*3<=L.length*5):
  sizeAbove (grown L.length)<=4096/\∃t' order L',t.relaid (es.map (·.1)) (grown L.length)=some (t',order)/\t'.led=t.led/\t'.plain=t.plain/\Rep L' (order.filterMap (es[·]?)) t'/\(L'.map (·.2)).Perm (L.map (·.2))/\pk L' t':=by
 have CP:es.size=L.length:=by rw[r.es];simp
 have key:∀m',Mk m'->L.length<=m'->sizeAbove (grown L.length)-1=m'->L.length*5<m'*3->∃t' order L',t.relaid (es.map (·.1)) (grown L.length)=some (t',order)/\t'.led=t.led/\t'.plain=t.plain/\Rep L' (order.filterMap (es[·]?)) t'/\(L'.map (·.2)).Perm (L.map (·.2))/\pk L' t':=by
  intro m' pH hl hs hr;obtain⟨t',order,e1,e2,e3,e4,L',rp,pm⟩:=Pu pH es (by lia) t.finger (t.movedTo m') t.led t.plain;have el:es.toList=L.map (·.2):=by rw[r.es]
  refine⟨t',order,L',?_,e3,e4,rp,by rw[<-el];exact pm,?_⟩
  ·unfold SetTable.relaid;rw[hs];exact e1
  ·unfold pk;have h5:L'.length=L.length:=by
    have:=pm.length_eq;rw[el]at this;simpa using this
   rw[h5,e2];exact hr
 rcases r.mz with e|e|e
 ·rw[e]at h0 h1;have hL:L.length=5:=by lia
  rw[hL]at key ⊢;exact⟨by decide,key 31 (.inr (.inl rfl)) (by decide) (by decide) (by decide)⟩
 ·rw[e]at h0 h1;have hL:L.length=19:=by lia
  rw[hL]at key ⊢;exact⟨by decide,key 127 (.inr (.inr rfl)) (by decide) (by decide) (by decide)⟩
 ·rw[e]at h0 h1;lia
end Tb
end My
namespace My
open PySem PySem.Spec PySem.W
section
variable {prog:Program}{w:World}{A:Around}{E:Value->Shared->Prop}{s:Shared}
def Tq:Bool->Value->Bool
 |b,.bool c=>c==b
 |_,_=>false
theorem wy{b:Bool}{v:Value}(h:Tq b v=true):v = .bool b:=by
 cases v<;>simp_all [Tq]
theorem Mm{b:Bool}{Q:Int->Shared->Prop}(h:Q (if b=true then 1 else 0) { s with toks:=s.toks+1 }):wpAny (model prog w) A (pyHash (.bool b)) Q E s:=by
 show wpAny _ _ (pyHashByItsType (.bool b)) _ _ _;refine pyHash_slot (T:="bool") rfl F.slot_bool_hash entry_int_hash (args_int_hash _) (beq_builtin_none _) (.inl rfl) ?_;cases b
 ·exact(show wpAny _ _ (do ret (<-mkInt 0)) _ _ s from zZ (wpAny_mkInt (zV ⟨_,_,rfl,h⟩)))
 ·exact(show wpAny _ _ (do ret (<-mkInt 1)) _ _ s from zZ (wpAny_mkInt (zV ⟨_,_,rfl,h⟩)))
def jq(prog:Program)(w:World):PySem.KeyKind prog w Bool where
 is:=Tq
 hash:=λb=>if b=true then 1 else 0
 inj:=λv a b h1 h2=>by
  have e1:=wy h1;have e2:=wy h2;rw[e1]at e2;exact Value.bool.inj e2
 byValue:=λk v h=>by rw[wy h];rfl
 pyHash:=λhv h=>by rw[wy hv];exact Mm h
 eqBool:=λ{A E s a b u v Q} hu hv h=>by
  rw[wy hu,wy hv];refine tZ a b _ _ _ _ ?_;have e:(a==b)=decide (a=b):=by cases a<;>cases b<;>rfl
  rw[e];exact h
 «strs»:=λk x t v h=>by simp[Tq]at h
abbrev Bt(prog:Program)(w:World)(h:Heap)(k:List Bool)(a:Addr):Prop:=IsTupleKey (jq prog w) h k a
abbrev Bh(prog:Program)(w:World)(k:List Bool):Int:=tupleKeyHash (jq prog w) k
theorem Zk{h:Heap}{k:List Bool}{vs:List Value}(x:ItemsAre (jq prog w) k vs):∀v∈vs,∃b,v = .bool b:=by
 induction x with
 |nil=>intro v hv;simp at hv
 |cons h1 _ ih =>
  intro v hv;rcases zI.mp hv with rfl|hv
  ·exact⟨_,wy h1⟩
  ·exact ih v hv
theorem W5{k:List Bool}{a:Addr}{Q:Bool->Shared->Prop}(hk:Bt prog w s.heap k a)(h:Q true s):wpAny (model prog w) A (hashByValue 8 (.ref a)) Q E s:=by
 have hT:=hk.typeIs;obtain⟨o,items,n,ho,hc,hd,hi⟩:=hk;unfold hashByValue;refine zZ (wpAny_specialOf hT F.slot_tuple_hash.lookup ?_);show wpAny _ _ (seqItems? (.ref a) >>= _) _ _ s;refine zZ (wI ho hd ?_);refine zZ ?_;show wpAny _ _ (forIn items _ _) _ _ s;rw[<-tB];refine wpAny_forIn_list _ (λrest r s'=>r.1=none/\s'=s/\∀v∈rest,∃b,v = .bool b) _ ?_ ?_ _ _ ⟨rfl,rfl,Zk (h:=s.heap) hi⟩
 ·rintro v rest r s' ⟨hr,rfl,bQ⟩;obtain⟨b,rfl⟩:=bQ v zG;refine zZ (zV ?_);simp only[Bool.not_true,Bool.false_eq_true,if_false];exact zV ⟨rfl,rfl,λu C6=>bQ u (zH _ C6)⟩
 ·rintro⟨r1,r2⟩ s' ⟨hr,rfl,_⟩;simp only at hr;subst hr;exact zV h
theorem Zj{k:List Bool}{a:Addr}{Q:Bool->Shared->Prop}(hk:Bt prog w s.heap k a)(h:Q false s):wpAny (model prog w) A (ofAClassStatement 8 (.ref a)) Q E s:=by
 have hT:=hk.typeIs;obtain⟨o,items,n,ho,hc,hd,hi⟩:=hk;unfold ofAClassStatement;refine zZ (uY hT ?_);show wpAny _ _ (pure true >>= _) _ _ s;refine zZ (zV ?_);simp only[Bool.not_true,Bool.false_eq_true,if_false];refine zZ (wI ho hd ?_);refine zZ ?_;show wpAny _ _ (forIn items _ _) _ _ s;rw[<-tB];refine wpAny_forIn_list _ (λrest r s'=>r.1=none/\s'=s/\∀v∈rest,∃b,v = .bool b) _ ?_ ?_ _ _ ⟨rfl,rfl,Zk (h:=s.heap) hi⟩
 ·rintro v rest r s' ⟨hr,rfl,bQ⟩;obtain⟨b,rfl⟩:=bQ v zG;refine zZ (zV ?_);simp only[Bool.false_eq_true,if_false];exact zV ⟨rfl,rfl,λu C6=>bQ u (zH _ C6)⟩
 ·rintro⟨r1,r2⟩ s' ⟨hr,rfl,_⟩;simp only at hr;subst hr;exact zV h
theorem S8{k:List Bool}{a:Addr}{ys:List Value}{Q:Bool->Shared->Prop}(hk:Bt prog w s.heap k a)(hy:∀y∈ys,∃k' b,y = .ref b/\Bt prog w s.heap k' b)(h:Q false s):
  wpAny (model prog w) A (searchCouldBeSeen (.ref a) ys) Q E s:=by
 unfold searchCouldBeSeen;refine zZ ?_;refine wpAny_forIn_list _ (λrest r s'=>r.1=none/\s'=s/\∀y∈rest,∃k' b,y = .ref b/\Bt prog w s.heap k' b) _ ?_ ?_ _ _ ⟨rfl,rfl,hy⟩
 ·rintro v rest r s' ⟨hr,rfl,bQ⟩;obtain⟨k',b,rfl,hb⟩:=bQ v zG;have nx:∀u∈rest,∃k' b,u = .ref b/\Bt prog w s'.heap k' b:=λu C6=>bQ u (zH _ C6);dsimp only;split
  ·exact zV ⟨rfl,rfl,nx⟩
  ·refine zZ (wpAny_eqIsQuiet_tuple hk ?_);simp only[Bool.not_true,Bool.false_eq_true,if_false];refine zZ (wpAny_eqIsQuiet_tuple hb ?_);simp only[Bool.not_true,Bool.false_eq_true,if_false];refine zZ (Zj hk ?_);simp only[Bool.false_eq_true,if_false];refine zZ (Zj hb ?_);simp only[Bool.false_eq_true,if_false];exact zV ⟨rfl,rfl,nx⟩
 ·rintro⟨r1,r2⟩ s' ⟨hr,rfl,_⟩;simp only at hr;subst hr;exact zV h
end
end My
namespace My
open PySem PySem.Spec PySem.W
open Tb
section
variable {prog:Program}{w:World}{A:Around}{E:Value->Shared->Prop}{s:Shared}
def Elem(prog:Program)(w:World)(h:Heap)(e:Int×Value)(k:List Bool):Prop:=∃b,e.2 = .ref b/\Bt prog w h k b/\e.1=Bh prog w k
theorem Elem.inj{h:Heap}{e:Int×Value}{k k':List Bool}(x:Elem prog w h e k)(y:Elem prog w h e k'):k=k':=by
 obtain⟨b,e1,h1,_⟩:=x;obtain⟨b',e2,h2,_⟩:=y;rw[e1]at e2;cases e2;exact h1.inj h2
structure Good(prog:Program)(w:World)(h:Heap)(Es:List (Int×Value))(D:List (List Bool)):Prop where
 in1:∀e∈Es,∃k,k∈D/\Elem prog w h e k
 in2:∀k∈D,∃e∈Es,Elem prog w h e k
 one:Es.Pairwise λe e'=>∀k,Elem prog w h e k->¬Elem prog w h e' k
theorem Good.perm{h:Heap}{Es GL:List (Int×Value)}{D:List (List Bool)}(g:Good prog w h Es D)(p:GL.Perm Es):Good prog w h GL D :=
 ⟨λe he=>g.in1 e (p.mem_iff.mp he),λk hk=>let⟨e,he,x⟩:=g.in2 k hk;⟨e,p.mem_iff.mpr he,x⟩,(p.pairwise_iff (λ{x y} oM k h1 h2=>oM k h2 h1)).mpr g.one⟩
theorem Bt.mono{h h':Heap}{k:List Bool}{a:Addr}(x:Bt prog w h k a)(hk:∀o,h.get? a=some o->h'.get? a=some o):Bt prog w h' k a:=by
 obtain⟨o,items,n,ho,r⟩:=x;exact⟨o,items,n,hk o ho,r⟩
theorem Good.mono{h h':Heap}{Es:List (Int×Value)}{D:List (List Bool)}(g:Good prog w h Es D)(hk:∀a o,o.cls = .type "tuple"->h.get? a=some o->h'.get? a=some o):Good prog w h' Es D:=by
 have up:∀e k,Elem prog w h e k->Elem prog w h' e k:=λe k ⟨b,e1,⟨o,items,n,ho,hc,r⟩,h2⟩=>⟨b,e1,⟨o,items,n,hk b o hc ho,hc,r⟩,h2⟩
 refine⟨λe he=>let⟨k,h1,h2⟩:=g.in1 e he;⟨k,h1,up e k h2⟩,λk aW=>let⟨e,h1,h2⟩:=g.in2 k aW;⟨e,h1,up e k h2⟩,?_⟩;refine(yE.mpr λi j hi hj iU=>?_);intro k h1 h2;obtain⟨k1,_,x1⟩:=g.in1 _ (vJ hi);obtain⟨k2,_,x2⟩:=g.in1 _ (vJ hj);have e1:=(up _ _ x1).inj h1;have e2:=(up _ _ x2).inj h2;subst e1;subst e2;exact yE.mp g.one i j hi hj iU _ x1 x2
abbrev yk(es:Array (Int×Value))(ep:Nat)(t:SetTable):Obj:={ cls:=.type "set",dict:=none,data:=.set es ep t,slots:=#[] }
theorem gt(hu:A.units<cLine){S:Addr}{ep:Nat}{es:Array (Int×Value)}{t:SetTable}{L:List (Nat×(Int×Value))}{D:List (List Bool)}(r:Rep L es t)(hS:s.heap.get? S=some (yk es ep t))(g:Good prog w s.heap (L.map (·.2)) D)
  {x:Addr}{kx:List Bool} (hx:Bt prog w s.heap kx x) {K:Nat} (hK:pos t.mask (Bh prog w kx) K∉L.map (·.1)) (FG:∀k,k<K->pos t.mask (Bh prog w kx) k∈L.map (·.1)) (Kb:K<=10*(t.mask+13)) {Q:SetFound->Shared->Prop}
  (q1:(∃e∈L.map (·.2),Elem prog w s.heap e kx)->Q (.there none) s) (q2:(∀e∈L.map (·.2),¬Elem prog w s.heap e kx)->Q (.free (pos t.mask (Bh prog w kx) K) false) s) :
  ∀(f m:Nat)(oG:Option SetTable.Probe),m<=K->K-m<f->(∀y∈L,∀k,k<m->pos t.mask (Bh prog w kx) k=y.1->¬Elem prog w s.heap y.2 kx)->oG.getD (t.probeStart (Bh prog w kx))=itr t.mask m (st0 t.mask (Bh prog w kx)) ->
   wpAny (model prog w) A (setSearchFrom S (.ref x) (Bh prog w kx) true f oG) Q E s
 |0,m,oG,_,hf,_,_=>by lia
 |f+1,m,oG,hm,hf,eQ,est=>by
  unfold setSearchFrom;refine zZ (xA hS rfl r.fits ?_);dsimp only;rw[r.odd];simp only[Bool.false_eq_true,if_false];rw[est];have BQ:t.probe (λi=>(es[i]?.map (·.1)).getD 0) (Bh prog w kx) (itr t.mask m (st0 t.mask (Bh prog w kx)))=SetTable.probe.go t (λi=>(es[i]?.map (·.1)).getD 0) (Bh prog w kx) (10*SetTable.turns t.mask) (itr t.mask m (st0 t.mask (Bh prog w kx))):=rfl;have A3:∀(i:Nat)(e:Int×Value),es[i]?=some e->(λ(i:Nat)=>(es[i]?.map (·.1)).getD 0) i=e.1:=λi e he=>by simp[he]
  have hpg:=r.probe_go A3 (Bh prog w kx) hK FG (10*SetTable.turns t.mask) m hm (by unfold SetTable.turns;lia);rw[<-BQ]at hpg;split
  case h_2 qS =>
   exfalso;rcases hpg with⟨e,_⟩|⟨k,i,v,_,_,e,_⟩
   ·exact qS _ e
   ·exact qS _ e
  rename_i met qS;rcases hpg with⟨e,aZ⟩|⟨k,i,v,h1,h2,e,hsl,CP,hL,aZ⟩
  ·have em:=yX (qS.symm.trans e);subst em;dsimp only;refine zV (q2 λel Ca hE=>?_);obtain⟨y,hy,rfl⟩:=zD.mp Ca;obtain⟨k0,qV,nK⟩:=r.pa y hy;have hh:y.2.1=Bh prog w kx:=by obtain⟨b,_,_,h2⟩:=hE;exact h2
   rw[hh]at qV nK;have aI:k0<K:=by
    refine xJ λhn=>?_
    by_cases e0:k0=K
    ·subst e0;exact hK (by rw[qV];exact yG hy)
    ·exact hK (nK K (by lia))
   by_cases hlm:k0<m
   ·exact eQ y hy k0 hlm qV hE
   ·exact aZ k0 y.2 (by lia) aI (by rw[qV];exact hy) hh
  ·have em:=yX (qS.symm.trans e);subst em;dsimp only;obtain⟨kb,_,hE⟩:=g.in1 (Bh prog w kx,v) (zD.mpr ⟨_,hL,rfl⟩);obtain⟨b,eb,hb,hbh⟩:=id hE;dsimp only at eb hbh;subst eb;have rest:wpAny (model prog w) A (do
     let some (_,y):=es[i]?|unsupported "internal:set-entry"
     let equal <-holding [y] (eqBool y (.ref x))
     let(cJ,_,t') <-setState S
     if true&&equal then return SetFound.there none
     let some sam:=t'.sameMemory t.moves t.mask|unsupported "set.changed-during-lookup:is-the-new-block-at-the-old-address"
     let still <-match(if sam then t'.slot (pos t.mask (Bh prog w kx) k)else .empty)with
      | .live i'=>match cJ[i']? with
       |some (_,y')=>do pure (if <-isSame y' y then some i' else none)
       |none=>pure none
      |_=>pure none
     match still with
     |none=>rule "set.search.anew";setSearchFrom S (.ref x) (Bh prog w kx) true f none
     |some i'=>if equal then return SetFound.there (some i')else setSearchFrom S (.ref x) (Bh prog w kx) true f (some (itr t.mask (k+1) (st0 t.mask (Bh prog w kx))))) Q E s:=by
    rw[CP];dsimp only;refine zZ (xS (wpAny_eqBool_tuple hu hb hx ?_));refine zZ (xA hS rfl r.fits ?_);dsimp only
    by_cases hk:kb=kx
    ·rw[yU hk];simp only[Bool.and_self,if_true];exact zV (q1 ⟨(Bh prog w kx,.ref b),zD.mpr ⟨_,hL,rfl⟩,hk▸hE⟩)
    ·rw[yO hk];simp only[tW,Bool.false_eq_true,if_false];have kU:t.sameMemory t.moves t.mask=some true:=by unfold SetTable.sameMemory;simp
     rw[kU];dsimp only;simp only[if_true];rw[hsl];dsimp only;rw[CP];dsimp only;refine zZ (wpAny_isSame_ref_self (zZ (zV ?_)));simp only[if_true];refine gt hu r hS g hx hK FG Kb q1 q2 f (k+1) _ (by lia) (by lia) (λy hy k' aW ek' hEy=>?_) rfl;have hh:y.2.1=Bh prog w kx:=by obtain⟨b,_,_,h2⟩:=hEy;exact h2
     by_cases z1:k'<m
     ·exact eQ y hy k' z1 ek' hEy
     ·by_cases z2:k'=k
      ·subst z2;obtain⟨i1,e1,s1,L1,s2⟩:=r.slot_live (yG (f:=(·.1)) hy);rw[<-ek',hsl]at s1;cases s1;have pF:y.2=e1:=by
        obtain⟨i2,hi2,e2⟩:=vZ hy;obtain⟨CO,e3⟩:=zW.mp L1;have:i2=i:=by
         rcases Nat.lt_trichotomy i2 i with z|z|z
         ·have:=yE.mp r.up i2 i (by simpa using hi2) (by simpa using CO) z;simp[e2,e3]at this
         ·exact z
         ·have:=yE.mp r.up i i2 (by simpa using CO) (by simpa using hi2) z;simp[e2,e3]at this
        subst this;rw[e2]at e3;rw[e3]
       rw[CP]at s2;cases s2;rw[pF]at hEy;exact hk (hE.inj hEy)
      ·exact aZ k' y.2 (by lia) (by lia) (by rw[ek'];exact hy) hh
   by_cases eS:t.led=true
   ·rw[eS];simp only[Bool.not_true,Bool.false_eq_true,if_false];exact rest
   ·have qU:t.led=false:=by simpa using eS
    rw[qU];simp only[Bool.not_false,if_true];refine zZ (S8 hx (λy hy=>?_) ?_)
    ·obtain⟨e1,eU,rfl⟩:=zD.mp hy;have Bf:e1∈L.map (·.2):=by
      have h3:e1∈es.toList:=by
       have:=(Array.mem_filter.mp (Array.mem_toList_iff.mp eU)).1;exact Array.mem_toList_iff.mpr this
      rw[r.es]at h3;exact h3
     obtain⟨k1,_,b1,Cm,rB,_⟩:=g.in1 e1 Bf;exact⟨k1,b1,Cm,rB⟩
    ·simp only[Bool.false_eq_true,if_false];exact rest
end
end My
namespace My
open PySem PySem.Spec PySem.W
open Tb
section
variable {prog:Program}{w:World}{A:Around}{E:Value->Shared->Prop}{s:Shared}
theorem sr{S:Addr}{es cJ:Array (Int×Value)}{ep:Nat}{t t':SetTable}{Q:Unit->Shared->Prop}(hS:s.heap.get? S=some (yk es ep t))(hz:cJ.size<=sizeLine)
  (h:∀h',h'.get? S=some (yk cJ (ep+1) t')->Heap.SameBut S s.heap h'->Q () { s with heap:=h' }):wpAny (model prog w) A (storeSet S cJ t') Q E s:=by
 refine wpAny_storeSet_of hS rfl (h _ ?_ (uT s.heap S (Obj.putSet cJ t'))) hz;have e:=xG (Obj.putSet cJ t') hS (by rfl);exact e
theorem ao{S:Addr}{es:Array (Int×Value)}{ep:Nat}{t:SetTable}{h h':Heap}(hS:h.get? S=some (yk es ep t))(sb:Heap.SameBut S h h'):∀a o,o.cls = .type "tuple"->h.get? a=some o->h'.get? a=some o:=λa o hc ho=>by
 have aZ:a≠S:=by
  rintro rfl;rw[hS]at ho;cases ho;simp at hc
 exact(sb.2 a aZ).trans ho
theorem Ma(hu:A.units+1<cLine){S:Addr}{ep:Nat}{es:Array (Int×Value)}{t:SetTable}{L:List (Nat×(Int×Value))}{D:List (List Bool)}(r:Rep L es t)(r5:pk L t)(hb:L.length<76)(hS:s.heap.get? S=some (yk es ep t))(g:Good prog w s.heap (L.map (·.2)) D)
  {x:Addr}{kx:List Bool} (hx:Bt prog w s.heap kx x) {Q:Bool->Shared->Prop}
  (q:∀(b:Bool)(h':Heap)(tk:Nat)(L':List (Nat×(Int×Value)))(cJ:Array (Int×Value))(kM:Nat)(t':SetTable),h'.get? S=some (yk cJ kM t')->Heap.SameBut S s.heap h'->Rep L' cJ t'->pk L' t'->t'.led=t.led->t'.plain=t.plain ->
   Good prog w h' (L'.map (·.2)) (D++[kx])->L'.length<=L.length+1->(∀e∈L'.map (·.2),e∈L.map (·.2)\/e.2 = .ref x)->Q b { s with heap:=h',toks:=tk }):wpAny (model prog w) A (setAdd S (.ref x)) Q E s:=by
 unfold setAdd;refine xS (zZ (wpAny_pyHash_tuple (by lia) hx ?_));unfold setAddHashed setAddHashedIn;refine xS (zZ (xA (s:={ s with toks:=s.toks+(kx.length+1) }) hS rfl r.fits ?_));dsimp only;have FA:byScan (.ref x) es=false:=by unfold byScan;rfl
 rw[FA];simp only[Bool.false_eq_true,if_false];have hm:t.mask<=127:=by rcases r.mz with e|e|e<;>rw[e]<;>decide
 obtain⟨K,Kb,hK,FG⟩:=Xd r.mz (Bh prog w kx) (l:=L.map (·.1)) (by rw[zY];exact r.fl);unfold setSearch;refine zZ (gt (s:={ s with toks:=s.toks+(kx.length+1) }) (by lia) r hS g hx hK FG Kb (λhex=>?_) (λeQ=>?_) 100000 0 none (yR _) (by lia) (λy _ k hk=>absurd hk (Nat.not_lt_zero _)) rfl)
 ·dsimp only;refine zV (q false s.heap _ L es ep t hS (Heap.SameBut.refl S s.heap) r r5 rfl rfl ⟨λe he=>?_,λk hk=>?_,g.one⟩ (vQ _) λe he=>.inl he)
  ·obtain⟨k,h1,h2⟩:=g.in1 e he;exact⟨k,xO _ h1,h2⟩
  ·rcases zK.mp hk with hk|hk
   ·exact g.in2 k hk
   ·rw[zO.mp hk];exact hex
 ·dsimp only;refine zZ (xA (s:={ s with toks:=s.toks+(kx.length+1) }) hS rfl r.fits ?_);dsimp only;have B':es.size=L.length:=by rw[r.es];simp
  have r':=r.put (x:=.ref x) hK FG (by unfold pk at r5;lia);have BP:(t.put (pos t.mask (Bh prog w kx) K)).1.plain=t.plain/\(t.put (pos t.mask (Bh prog w kx) K)).1.led=t.led/\(t.put (pos t.mask (Bh prog w kx) K)).1.mask=t.mask:=⟨rfl,rfl,rfl⟩
  generalize hT:t.put (pos t.mask (Bh prog w kx) K)=T at r' BP ⊢;obtain⟨t1,p⟩:=T;dsimp only at r' BP ⊢;obtain⟨bL,hld,hmk⟩:=BP;have cH:=Zv (L:=L) (pos t.mask (Bh prog w kx) K) (Bh prog w kx,Value.ref x);generalize hL':ins L (pos t.mask (Bh prog w kx) K) (Bh prog w kx,Value.ref x)=L1 at r' cH;have aH:L1.length=L.length+1:=by rw[cH.length_eq];rfl
  have hsz:(SetTable.insertAt es p (Bh prog w kx,Value.ref x)).size=L1.length:=by rw[r'.es];simp
  have A7:∀h',Heap.SameBut S s.heap h'->Good prog w h' (L1.map (·.2)) (D++[kx]):=λh' sb=>by
   refine Good.mono ?_ (ao hS sb);refine Good.perm (Es:=(Bh prog w kx,Value.ref x)::L.map (·.2)) ⟨λe he=>?_,λk hk=>?_,xM.mpr ⟨λe he k h1 h2=>?_,g.one⟩⟩ (cH.map (·.2))
   ·rcases zI.mp he with rfl|he
    ·exact⟨kx,yP _ (zO.mpr rfl),x,rfl,hx,rfl⟩
    ·obtain⟨k,h1,h2⟩:=g.in1 e he;exact⟨k,xO _ h1,h2⟩
   ·rcases zK.mp hk with hk|hk
    ·obtain⟨e,h1,h2⟩:=g.in2 k hk;exact⟨e,zH _ h1,h2⟩
    ·rw[zO.mp hk];exact⟨_,zG,x,rfl,hx,rfl⟩
   ·have:k=kx:=h1.inj ⟨x,rfl,hx,rfl⟩;subst this;exact eQ e he h2
  have DP:∀e∈L1.map (·.2),e∈L.map (·.2)\/e.2 = .ref x:=λe he=>by
   have:=(cH.map (·.2)).mem_iff.mp he;rcases zI.mp this with z|z
   ·exact .inr (by rw[z])
   ·exact .inl z
  have body:wpAny (model prog w) A (do
    storeSet S (SetTable.insertAt es p (Bh prog w kx,Value.ref x)) t1
    if(!false&&t1.tooFull)=true then do
     setRelay S (SetTable.grown (es.size+1))
     pure true
    else pure true) Q E { s with toks:=s.toks+(kx.length+1) }:=by
   refine zZ (sr (s:={ s with toks:=s.toks+(kx.length+1) }) hS (by rw[hsz,zM];lia) λh1 A4 B7=>?_);have htf:t1.tooFull=decide (t1.mask*3<=L1.length*5):=by
    unfold SetTable.tooFull SetTable.fill;rw[r'.pl,r'.dm];simp
   by_cases hfull:t1.mask*3<=L1.length*5
   ·rw[htf,yU hfull];simp only[Bool.not_false,Bool.and_self,if_true];obtain⟨hsa,t2,order,L2,e1,e2,e3,r2,pm,r52⟩:=Yo r' (by lia) (by unfold pk at r5;rw[hmk,aH];lia) hfull;have hgr:SetTable.grown (es.size+1)=SetTable.grown L1.length:=by rw[B',aH]
    rw[hgr];unfold setRelay;refine zZ (zZ (xA (s:={ s with heap:=h1,toks:=s.toks+(kx.length+1) }) A4 rfl r'.fits ?_));dsimp only;rw[zC (by rw[zM];lia),e1];have fS:(order.filterMap ((SetTable.insertAt es p (Bh prog w kx,Value.ref x))[·]?)).size=L1.length:=by
     rw[r2.es];have h6:=pm.length_eq;simpa using h6
    refine zZ (show wpAny _ _ (if((order.filterMap ((SetTable.insertAt es p (Bh prog w kx,Value.ref x))[·]?)).size != (SetTable.insertAt es p (Bh prog w kx,Value.ref x)).size)=true then _ else pure (order.filterMap ((SetTable.insertAt es p (Bh prog w kx,Value.ref x))[·]?),t2)) _ _ _ from ?_);rw[zC (by rw[fS,hsz];simp)];refine zV ?_;dsimp only;refine sr (s:={ s with heap:=h1,toks:=s.toks+(kx.length+1) }) A4 (by rw[fS,zM];lia) λh2 Bi sb2=>?_;refine zV (q true h2 _ L2 _ _ t2 Bi (B7.trans sb2) r2 r52 (e2.trans hld) (e3.trans bL) ((A7 h2 (B7.trans sb2)).perm pm) ?_ λe he=>DP e (pm.mem_iff.mp he));have h6:=pm.length_eq;simp at h6;lia
   ·rw[htf,yO hfull];simp only[tW,Bool.false_eq_true,if_false];exact zV (q true h1 _ L1 _ _ t1 A4 B7 r' (by unfold pk;lia) hld bL (A7 h1 B7) (by lia) DP)
  split
  ·refine zZ (W5 (s:={ s with toks:=s.toks+(kx.length+1) }) hx ?_);simp only[if_true];exact body
  ·refine zZ (zV ?_);simp only[if_true];exact body
end
end My
namespace My
open PySem PySem.Spec PySem.W
open Tb
section
variable {prog:Program}{w:World}{A:Around}{E:Value->Shared->Prop}{s:Shared}
abbrev byT(w:World):Bool:=w.params.followText "set-order"
abbrev xg(w:World):Obj:=yk #[] 0 (.fresh 0 0 (!byT w))
theorem Oc(a:Value){Q₁:Value->Shared->Prop}(h:Q₁ (.ref s.heap.objs.size) { s with heap:=s.heap.push (xg w) }):
  codeAny (model prog w) A (.call (.builtin "set.__new__") ⟨[.type "set",a],[]⟩) (wants Q₁ E) s:=by
 refine codeAny_of_tree (show wpAny _ A.in1 (do checkBuiltinCall "set.__new__" ⟨[.type "set",a],[]⟩;again (.builtin "set.__new__" ⟨[.type "set",a],[]⟩)) _ _ s from ?_);refine zZ (wpAny_of_eq (F.newCall_set_1 a) (zV ⟨vS F.plain_set_new _,?_⟩));refine wV F.entry_set_new (by
  rw[xN F.plain_set_new _];unfold Builtin.«set.__new__» Builtin.Frozenset.newClass;have iQ:=sub_set_self;obtain⟨hp,g,d,tk,os⟩:=s;dsimp only
  wp_walk
  refine uR (zV ?_);dsimp only;simp only[newObj];exact zZ (wpAny_alloc (zV (zV h))))
theorem R0{I S:Addr}{fp wr:List Addr}{n:Nat}{P:Nat->Value->Prop}{St:Nat->Heap->Prop}(W:Walks prog w A.in1 I fp wr n P St)(hSf:S∉fp)(J:Nat->Heap->Prop)(hJ:∀i h h',J i h->(∀b o,b∉wr->h.get? b=some o->h'.get? b=some o)->J i h')
  (Ak:∀i v (s':Shared) (Q:Bool->Shared->Prop) (E':Value->Shared->Prop),i<n->P i v->J i s'.heap->(∀b h' tk,Heap.SameBut S s'.heap h'->J (i+1) h'->Q b { s' with heap:=h',toks:=tk })->wpAny (model prog w) A.in1 (setAdd S v) Q E' s')
  {R:Result->Shared->Prop} (h₀:Heap) (hR:∀(s':Shared) h' tk,J n h'->(∀b o,b≠S->b∉wr->h₀.get? b=some o->h'.get? b=some o)->s'={ s with heap:=h',toks:=tk }->R (.ok (.ret .none)) s') :
  ∀(k i:Nat)(h:Heap)(tk:Nat),n-i=k->i<=n->St i h->J i h->(∀b o,b≠S->b∉wr->h₀.get? b=some o->h.get? b=some o)->codeAny (model prog w) A (.builtin "set.update.loop" ⟨[.ref S,.ref I],[]⟩) R { s with heap:=h,toks:=tk }:=by
 intro k
 induction k with
 |zero =>
  intro i h tk hk hi st j keep;have e:i=n:=by lia
  subst e;refine wV PyProof.Rows.F.entry_set_update_loop ?_;rw[xN vM _];refine(show wpAny _ A.in1 (pyNext (.ref I) >>= _) _ _ _ from zZ (W.done { s with heap:=h,toks:=tk } _ _ st λh' tk' aW=>?_));exact(show wpAny _ A.in1 (ret Value.none) _ _ _ from zV (hR _ h' tk' (hJ _ _ _ j aW) (λb o h1 h2 h3=>aW b o h2 (keep b o h1 h2 h3)) rfl))
 |succ k ih =>
  intro i h tk hk hi st j keep;have aI:i<n:=by lia
  refine wV PyProof.Rows.F.entry_set_update_loop ?_;rw[xN vM _];refine(show wpAny _ A.in1 (pyNext (.ref I) >>= _) _ _ _ from zZ (W.item i { s with heap:=h,toks:=tk } _ _ aI st λv h' tk' hP fB aW=>?_));refine(show wpAny _ A.in1 (holding [v] (setAdd S v) >>= _) _ _ _ from zZ (xS (Ak i v { s with heap:=h',toks:=tk' } _ _ aI hP (hJ _ _ _ j aW) λb Bm tk'' sb j'=>?_)));refine zV ⟨vS vM _,ih (i+1) Bm tk'' (by lia) aI ?_ j' λb o h1 h2 h3=>?_⟩
  ·exact W.frame _ _ _ fB λb hb o e=>(sb.2 b λz=>hSf (z▸hb)).trans e
  ·exact(sb.2 b h1).trans (aW b o h2 (keep b o h1 h2 h3))
set_option maxHeartbeats 3200000 in
theorem lm{T:String}{l:Addr}{items:Array Value}{Q:Value->Shared->Prop}(n1:isSubtype (.type T) (.type "set")=pure false)(n2:isSubtype (.type T) (.type "frozenset")=pure false)(n3:(Value.type T==Value.type "dict")=false)(hh:A.handled=none)(ol:Obj)(lW:s.heap.get? l=some ol)(rA:ol.cls = .type T)
  (fE:∀(A':Around)(s':Shared)(E':Value->Shared->Prop)(Q':Value->Shared->Prop),A'.handled=none->s'.heap.get? l=some ol->(∀(oI:Obj)(St:Nat->Heap->Prop),(∀A'':Around,A''.handled=none->Walks prog w A'' s'.heap.objs.size [s'.heap.objs.size,l] [s'.heap.objs.size] items.size (λi v=>items[i]?=some v) St)->St 0 (s'.heap.push oI)->Q' (.ref s'.heap.objs.size) { s' with heap:=s'.heap.push oI })->wpAny (model prog w) A' (pyIter (.ref l)) Q' E' s') (J:Nat->Heap->Prop) (hJ:∀i h h',J i h->(∀b o,b≠s.heap.objs.size+1->h.get? b=some o->h'.get? b=some o)->J i h')
  (j0:J 0 (s.heap.push (xg w)))
  (Ak:∀i v (A':Around) (s':Shared) (Q:Bool->Shared->Prop) (E':Value->Shared->Prop),A'.units<=A.units+8->items[i]?=some v->J i s'.heap->(∀b h' tk,Heap.SameBut s.heap.objs.size s'.heap h'->J (i+1) h'->Q b { s' with heap:=h',toks:=tk })->wpAny (model prog w) A' (setAdd s.heap.objs.size v) Q E' s')
  (h:∀(h':Heap)(tk:Nat),J items.size h'->(∀b o,s.heap.get? b=some o->h'.get? b=some o)->Q (.ref s.heap.objs.size) { s with heap:=h',toks:=tk }) :
  wpAny (model prog w) A (call (.type "set") [.ref l]) Q E s:=by
 obtain⟨c,tl,hmro⟩:=wH.mro;have hmade:=wH.made;have iQ:=wH.sub;refine wpAny_call (codeAny_of_tree (show wpAny _ _ (callAny (.type "set") _) _ _ _ from zV ⟨Code.quiet_builtin _ (by decide +kernel),wV F.entry_type_call ?_⟩));rw[Around.under_plain (weight_type_call_type "set" [.ref l] []) rfl];have t1:=wH.notType;have t2:=wH.canCreate;have t3:=F.typeCall_set_1 (.ref l)
 repeat any_goals first|assumption|wp_step
 refine uN (Oc (.ref l) (E:=E) (Q₁:=λobj s₁=>obj = .ref s.heap.objs.size/\s₁={ s with heap:=s.heap.push (xg w) }) ⟨rfl,rfl⟩) λr s₁ hr=>?_;cases r with
 |error e=>exact hr
 |ok fl =>
  cases fl with
  |ret obj =>
   obtain⟨rfl,rfl⟩:=hr;have hS:(s.heap.push (xg w)).get? s.heap.objs.size=some (xg w):=zR _ rfl;have hT:Shared.TypeIs { s with heap:=s.heap.push (xg w) } (.ref s.heap.objs.size) "set":=⟨_,hS,rfl⟩
   have i1:=wH.init.lookup;have i2:=wH.init.bind (.ref s.heap.objs.size)
   repeat any_goals first|assumption|wp_step
   refine uN (codeAny_call_builtin (R:=wants (λr s₂=>r = .none/\∃h' tk,s₂={ s with heap:=h',toks:=tk }/\J items.size h'/\∀b o,s.heap.get? b=some o->h'.get? b=some o) E) wH.init.plain F.entry_set_init (check_set_init_1 hT ?_)) λr₂ s₂ hr₂=>?_
   ·obtain⟨ocls,DC,DD,BD⟩:=ol;simp only at rA;subst rA;have nH:(s.heap.push (xg w)).get? l=some { cls:=.type T,dict:=DC,data:=DD,slots:=BD }:=zX _ lW;unfold Builtin.«set.__init__» noKeywords Builtin.Frozenset.updateFrom;generalize hPI:pyIter=PI
    wp_walk
    subst hPI;refine fE _ _ _ _ (by simp[hh]) nH λoI St W st=>(zZ (wpAny_runValue ?_))
    have lS:l<s.heap.objs.size:=zQ lW;have Ck:(s.heap.push (xg w)).objs.size=s.heap.objs.size+1:=xX _ _;have hSf:s.heap.objs.size∉[(s.heap.push (xg w)).objs.size,l]:=by
     rw[Ck];simp only[zI,vG,or_false,not_or];exact⟨zF (yB _),wX lS⟩
    refine R0 (s:=s) (W _ (by simp[hh])) hSf J (λi h h' j k=>hJ i h h' j λb o hb e=>k b o (by rw[Ck];simpa using hb) e)
     (λi v s' Q' E' hi hv j q=>Ak i v _ s' Q' E' (by simp only[Around.in1_units];lia) hv j q) s.heap ?_ (items.size-0) 0 _ s.toks (by lia) (yR _) st (hJ 0 _ _ j0 λb o _ e=>zX _ e) λb o _ _ e=>zX _ (zX _ e)
    rintro s' h' tk j keep rfl;refine(show wpAny _ _ _ _ _ _ from zV (show wpAny _ _ (ret Value.none) _ _ _ from zV ⟨rfl,h',tk,rfl,j,λb o e=>keep b o (zF (zQ e)) ?_ e⟩));rw[Ck];have:=zQ e;simp only[zO];exact zF (xI this)
   ·cases r₂ with
    |error e=>exact hr₂
    |ok fl₂ =>
     cases fl₂ with
     |ret r =>
      obtain⟨rfl,h',tk,rfl,j,aW⟩:=hr₂
      repeat any_goals first|assumption|wp_step
      exact h _ _ j aW
     |_=>exact hr₂.elim
  |_=>exact hr.elim
theorem oj{l:Addr}{items:Array Value}{Q:Value->Shared->Prop}(hh:A.handled=none)(hl:s.heap.IsList l items)(J:Nat->Heap->Prop)(hJ:∀i h h',J i h->(∀b o,b≠s.heap.objs.size+1->h.get? b=some o->h'.get? b=some o)->J i h')
  (j0:J 0 (s.heap.push (xg w)))
  (Ak:∀i v (A':Around) (s':Shared) (Q:Bool->Shared->Prop) (E':Value->Shared->Prop),A'.units<=A.units+8->items[i]?=some v->J i s'.heap->(∀b h' tk,Heap.SameBut s.heap.objs.size s'.heap h'->J (i+1) h'->Q b { s' with heap:=h',toks:=tk })->wpAny (model prog w) A' (setAdd s.heap.objs.size v) Q E' s')
  (h:∀(h':Heap)(tk:Nat),J items.size h'->(∀b o,s.heap.get? b=some o->h'.get? b=some o)->Q (.ref s.heap.objs.size) { s with heap:=h',toks:=tk }) :
  wpAny (model prog w) A (call (.type "set") [.ref l]) Q E s:=by
 obtain⟨ol,lW,rA,nl,pJ⟩:=hl;refine lm (T:="list") F.sub_list_set F.sub_list_frozenset (by decide) hh ol lW rA (λA' s' E' Q' FJ nH k=>?_) J hJ j0 Ak h;have oO:s'.heap.IsList l items:=⟨ol,nH,rA,nl,pJ⟩
 exact uA oO (k _ _ (λA'' Cf=>Walks.list Cf _ l (zF (zQ nH)) items) ⟨⟨_,zR _ rfl,rfl,rfl⟩,oO.push _⟩)
theorem jh:isSubtype (.type "tuple") (.type "set")=pure false:=by rw[sL];kernel_rfl
theorem jg:isSubtype (.type "tuple") (.type "frozenset")=pure false:=by rw[sL];kernel_rfl
theorem d6{l:Addr}{items:Array Value}{Q:Value->Shared->Prop}(hh:A.handled=none)(hl:s.heap.IsTuple l items)(J:Nat->Heap->Prop)(hJ:∀i h h',J i h->(∀b o,b≠s.heap.objs.size+1->h.get? b=some o->h'.get? b=some o)->J i h')
  (j0:J 0 (s.heap.push (xg w)))
  (Ak:∀i v (A':Around) (s':Shared) (Q:Bool->Shared->Prop) (E':Value->Shared->Prop),A'.units<=A.units+8->items[i]?=some v->J i s'.heap->(∀b h' tk,Heap.SameBut s.heap.objs.size s'.heap h'->J (i+1) h'->Q b { s' with heap:=h',toks:=tk })->wpAny (model prog w) A' (setAdd s.heap.objs.size v) Q E' s')
  (h:∀(h':Heap)(tk:Nat),J items.size h'->(∀b o,s.heap.get? b=some o->h'.get? b=some o)->Q (.ref s.heap.objs.size) { s with heap:=h',toks:=tk }) :
  wpAny (model prog w) A (call (.type "set") [.ref l]) Q E s:=by
 obtain⟨ol,lW,rA,nl,pJ⟩:=hl;refine lm (T:="tuple") jh jg (by decide) hh ol lW rA (λA' s' E' Q' FJ nH k=>?_) J hJ j0 Ak h;have oO:s'.heap.IsTuple l items:=⟨ol,nH,rA,nl,pJ⟩
 exact vU oO (k _ _ (λA'' Cf=>Walks.tuple Cf _ l (zF (zQ nH)) items) ⟨⟨_,zR _ rfl,rfl,rfl⟩,oO.push _⟩)
theorem La{l:Addr}{items:Array Value}{Q:Value->Shared->Prop}(hh:A.handled=none)(hl:s.heap.IsList l items\/s.heap.IsTuple l items)(J:Nat->Heap->Prop)(hJ:∀i h h',J i h->(∀b o,b≠s.heap.objs.size+1->h.get? b=some o->h'.get? b=some o)->J i h')
  (j0:J 0 (s.heap.push (xg w)))
  (Ak:∀i v (A':Around) (s':Shared) (Q:Bool->Shared->Prop) (E':Value->Shared->Prop),A'.units<=A.units+8->items[i]?=some v->J i s'.heap->(∀b h' tk,Heap.SameBut s.heap.objs.size s'.heap h'->J (i+1) h'->Q b { s' with heap:=h',toks:=tk })->wpAny (model prog w) A' (setAdd s.heap.objs.size v) Q E' s')
  (h:∀(h':Heap)(tk:Nat),J items.size h'->(∀b o,s.heap.get? b=some o->h'.get? b=some o)->Q (.ref s.heap.objs.size) { s with heap:=h',toks:=tk }) :
  wpAny (model prog w) A (call (.type "set") [.ref l]) Q E s:=by
 rcases hl with hl|hl
 ·exact oj hh hl J hJ j0 Ak h
 ·exact d6 hh hl J hJ j0 Ak h
end
end My
namespace My
open PySem PySem.Spec PySem.W
open Tb
theorem si_next:Slot "set_iterator" "__next__" "set_iterator.__next__" :=
 Slot.of (n:="__next__") (owner:="set_iterator") (by rw[typeLookup_type,builtinLookup_eq_fast];kernel_rfl)
  (by decide +kernel) (by decide +kernel) (by decide +kernel) (by first|exact Or.inl (by decide +kernel)|exact Or.inr (by decide +kernel)) (by rw[sL];kernel_rfl)
theorem ar:entryFor table "set_iterator.__next__"=some Builtin.«set_iterator.__next__»:=entryFor_of_tree (by kernel_rfl)
theorem au:Manifest.owners.lookup (String.ofList "rotareti_tes".toList.reverse)=some Manifest.sig_set_iterator:=by kernel_rfl
theorem Wm(a:Value):argsOk "set_iterator.__next__" ⟨[a],[]⟩:=by
 unfold argsOk;rw[signature?_of (id:="set_iterator.__next__") (n:="__txen__".toList) (o:="rotareti_tes".toList) (by kernel_rfl) au]
 kernel_rfl
theorem ll:entryFor table "set.__iter__"=some Builtin.«frozenset.__iter__»:=entryFor_alias (id':="frozenset.__iter__") (by kernel_rfl) rfl (by decide +kernel) (by kernel_rfl)
section
variable {prog:Program}{w:World}{A:Around}{E:Value->Shared->Prop}{s:Shared}
abbrev v5(first:Value)(i:Nat)(S:Addr)(n ep:Nat):Obj:={ cls:=.type "set_iterator",dict:=none,data:=.fields #[first,.int i 0,.ref S,.int n 0,.int ep 0],slots:=#[] }
theorem Uc{S:Addr}{es:Array (Int×Value)}{ep:Nat}{t:SetTable}{slot given:Nat}{Q:Option (Value×Nat)->Shared->Prop}(hS:s.heap.get? S=some (yk es ep t))(hf:t.fits es.size=true)(hb:byT w=true)
  (h:Q (((pickOrder (w.params.setOrder S ep) es)[given]?).map λe=>(e.2,slot)) s):wpAny (model prog w) A (setNext S slot given ep) Q E s:=by
 unfold setNext;refine zZ (xA hS rfl hf ?_);unfold setsByText;refine zZ (zZ (uR (zV ?_)));show wpAny _ _ (if byT w=true then _ else _) _ _ _;rw[yV hb];dsimp only;rw[zC (by simp)];unfold setWalk setsByText;refine zZ (zZ (xA hS rfl hf ?_));refine zZ (zZ (uR (zV ?_)));show wpAny _ _ (if byT w=true then _ else _) _ _ _;rw[yV hb];refine zZ (uR (zV (zV h)))
theorem X3{S:Addr}{es:Array (Int×Value)}{ep:Nat}{t:SetTable}{slot given:Nat}{Q:Option (Value×Nat)->Shared->Prop}(hS:s.heap.get? S=some (yk es ep t))(hf:t.fits es.size=true)(hb:byT w=false)(hd:(!t.plain&&decide (es.size>1))=false)(hl:t.led=true)
  (h:Q (match es[SetTable.below t.place slot]?,t.place[SetTable.below t.place slot]? with|some (_,x),some j=>some (x,j+1)|_,_=>none) s):wpAny (model prog w) A (setNext S slot given ep) Q E s:=by
 unfold setNext;refine zZ (xA hS rfl hf ?_);unfold setsByText;refine zZ (zZ (uR (zV ?_)));show wpAny _ _ (if byT w=true then _ else _) _ _ _;rw[zC (by rw[hb];exact zE)];show wpAny _ _ (if(!t.plain&&decide (es.size>1))=true then _ else _) _ _ _;rw[hd,zC zE];refine zZ (show wpAny _ _ (if(!t.led&&!es.isEmpty)=true then _ else pure ()) _ _ _ from ?_);rw[hl,zC (by simp)];refine zV (zV h)
theorem X2{S:Addr}{es:Array (Int×Value)}{ep:Nat}{t:SetTable}{place:Nat}{x:Int×Value}{Q:Value->Shared->Prop}(hS:s.heap.get? S=some (yk es ep t))(hf:t.fits es.size=true)(hx:es[place]?=some x)(h:Q x.2 s):
  wpAny (model prog w) A (setNextDrawn S place ep) Q E s:=by
 unfold setNextDrawn;refine zZ (xA hS rfl hf ?_);dsimp only;rw[zC (by simp),hx];exact zV h
theorem Wu{I:Addr}{h1:Heap}{Q:Option Value->Shared->Prop}(hh:A.handled=none)(hQ:∀h',(∀b o,h1.get? b=some o->h'.get? b=some o)->Q none { s with heap:=h' }){Q':PySem.Fin->Shared->Prop}:
  wpAny (model prog w) A.in1 (do raiseNew (<-newExc (.type "StopIteration") []):Sem PySem.Fin) Q' (λe s'=>wpAny (model prog w) A (do if <-isInstance e (.type "StopIteration")then pure none else throw e) Q E s') { s with heap:=h1 }:=by
 refine zZ ?_;simp only[newExc,newTuple];refine zZ (xZ ?_ (by size_fits));refine zZ (m:=firstArgMember _ _) (wpAny_of_eq (a:=Value.none) (by first|rfl|(simp only[firstArgMember];rfl)) (xZ ?_ (by size_fits)));simp only[raiseNew];refine zZ (wpAny_handled ?_);rw[show A.in1.handled=none from hh];refine zZ (zV (wpAny_throw ?_));refine zZ (tT (b:=true) (T:="StopIteration") ⟨_,zR _ rfl,rfl⟩ isSubtype_stop ?_);exact zV (hQ _ λb o e=>zX _ (zX _ e))
end
end My
namespace My
open PySem PySem.Spec PySem.W
open Tb
section
variable {prog:Program}{w:World}{A:Around}{E:Value->Shared->Prop}{s:Shared}
theorem fld{I:Addr}{vs:Array Value}{k:Nat}{x:Value}{Q:Unit->Shared->Prop}(ho:s.heap.get? I=some { cls:=.type "set_iterator",dict:=none,data:=.fields vs,slots:=#[] })(hk:k<vs.size)
  (h:∀h',h'.get? I=some { cls:=.type "set_iterator",dict:=none,data:=.fields (vs.setIfInBounds k x),slots:=#[] }->Heap.SameBut I s.heap h'->Q () { s with heap:=h' }):wpAny (model prog w) A (setField (.ref I) k x) Q E s:=wG ho hk h
theorem Rh{I S:Addr}{es:Array (Int×Value)}{ep slot i:Nat}{t:SetTable}{Q:Option Value->Shared->Prop}(hh:A.handled=none)(hI:s.heap.get? I=some (v5 (.int slot 0) i S es.size ep))(hS:s.heap.get? S=some (yk es ep t))(hf:t.fits es.size=true)
  {r:Option (Value×Nat)} (hn:∀(A':Around)(E':Value->Shared->Prop)(Q':Option (Value×Nat)->Shared->Prop),Q' r s->wpAny (model prog w) A' (setNext S slot i ep) Q' E' s)
  (q1:∀x nx h',r=some (x,nx)->h'.get? I=some (v5 (.int nx 0) (i+1) S es.size ep)->Heap.SameBut I s.heap h'->Q (some x) { s with heap:=h' })
  (q2:∀h',r=none->(∀b o,b≠I->s.heap.get? b=some o->h'.get? b=some o)->Q none { s with heap:=h' }):wpAny (model prog w) A (pyNext (.ref I)) Q E s:=by
 have hT:s.TypeIs (.ref I) "set_iterator":=⟨_,hI,rfl⟩
 unfold pyNext;refine zZ (uE (xQ (name:=Str.ofString "__next__") hT si_next (xV si_next hT ar ?_ (Wm _))));unfold Builtin.«set_iterator.__next__»;refine zZ (zV (zZ (wpAny_fieldsOf hI rfl ?_)));dsimp only;refine zZ (wpAny_setEntries_of hS rfl hf ?_);rw[zC (by simp)];simp only[yW];refine zZ (hn _ _ _ ?_);cases r with
 |some y =>
  obtain⟨x,nx⟩:=y;dsimp only;refine zZ (fld hI (by simp) λh1 e1 s1=>?_);refine zZ (fld (s:={ s with heap:=h1 }) e1 (by simp) λh2 e2 s2=>?_);exact zV ⟨_,rfl,zV (q1 x nx h2 rfl (by unfold v5;simpa[rawInt]using e2) (s1.trans s2))⟩
 |none =>
  dsimp only;refine zZ (fld hI (by simp) λh1 e1 s1=>?_);exact Wu (I:=I) hh λh' k=>q2 h' rfl λb o hb e=>k b o ((s1.2 b hb).trans e)
theorem Ri{I S T:Addr}{es:Array (Int×Value)}{ep i:Nat}{t:SetTable}{ps:List Nat}{c:Nat}{Q:Option Value->Shared->Prop}(hh:A.handled=none)(hI:s.heap.get? I=some (v5 (.ref T) i S es.size ep))(hS:s.heap.get? S=some (yk es ep t))(hf:t.fits es.size=true)
  (hT':∃o,s.heap.get? T=some o/\o.data = .seq (ps.map λ(i:Nat)=>rawInt i).toArray c)
  (q1:∀p x h',ps[i]?=some p->es[p]?=some x->h'.get? I=some (v5 (.ref T) (i+1) S es.size ep)->Heap.SameBut I s.heap h'->Q (some x.2) { s with heap:=h' }) (hp:∀p,ps[i]?=some p->∃x,es[p]?=some x)
  (q2:∀h',ps[i]?=none->(∀b o,b≠I->s.heap.get? b=some o->h'.get? b=some o)->Q none { s with heap:=h' }):wpAny (model prog w) A (pyNext (.ref I)) Q E s:=by
 have hT:s.TypeIs (.ref I) "set_iterator":=⟨_,hI,rfl⟩
 obtain⟨oT,eT,dT⟩:=hT';unfold pyNext;refine zZ (uE (xQ (name:=Str.ofString "__next__") hT si_next (xV si_next hT ar ?_ (Wm _))));unfold Builtin.«set_iterator.__next__»;refine zZ (zV (zZ (wpAny_fieldsOf hI rfl ?_)));dsimp only;refine zZ (wpAny_setEntries_of hS rfl hf ?_);rw[zC (by simp)];simp only[yW];refine zZ (wI eT dT ?_);dsimp only;cases hpi:ps[i]? with
 |some p =>
  have e:((ps.map λ(i:Nat)=>rawInt i).toArray)[i]?=some (rawInt p):=by simp[hpi]
  rw[e];obtain⟨x,hx⟩:=hp p hpi;show wpAny _ _ (setNextDrawn S (Int.toNat (p:Int)) ep >>= _) _ _ _;rw[yW];refine zZ (X2 hS hf hx ?_);refine zZ (fld hI (by simp) λh1 e1 s1=>?_);exact zV ⟨_,rfl,zV (q1 p x h1 hpi hx (by unfold v5;simpa[rawInt]using e1) s1)⟩
 |none =>
  have e:((ps.map λ(i:Nat)=>rawInt i).toArray)[i]?=none:=by simpa using hpi
  rw[e];dsimp only;refine zZ (fld hI (by simp) λh1 e1 s1=>?_);refine zZ (fld (s:={ s with heap:=h1 }) e1 (by simp) λh2 e2 s2=>?_);exact Wu (I:=I) hh λh' k=>q2 h' hpi λb o hb e=>k b o ((s2.2 b hb).trans ((s1.2 b hb).trans e))
theorem Wn:Slot "set_iterator" "__iter__" "set_iterator.__iter__" :=
 Slot.of (n:="__iter__") (owner:="set_iterator") (by rw[typeLookup_type,builtinLookup_eq_fast];kernel_rfl)
  (by decide +kernel) (by decide +kernel) (by decide +kernel) (by first|exact Or.inl (by decide +kernel)|exact Or.inr (by decide +kernel)) (by rw[sL];kernel_rfl)
theorem je:entryFor table "set_iterator.__iter__"=some Builtin.«dict_keyiterator.__iter__»:=entryFor_alias (id':="dict_keyiterator.__iter__") (by kernel_rfl) rfl (by decide +kernel) (by kernel_rfl)
theorem d8(a:Value):argsOk "set_iterator.__iter__" ⟨[a],[]⟩:=by
 unfold argsOk;rw[signature?_of (id:="set_iterator.__iter__") (n:="__reti__".toList) (o:="rotareti_tes".toList) (by kernel_rfl) au]
 kernel_rfl
theorem Wk{I:Addr}{fs:Array Value}{Q:Value->Shared->Prop}(hI:s.heap.get? I=some { cls:=.type "set_iterator",dict:=none,data:=.fields fs,slots:=#[] })(h:Q (.ref I) s):wpAny (model prog w) A (pyIter (.ref I)) Q E s:=by
 have hT:s.TypeIs (.ref I) "set_iterator":=⟨_,hI,rfl⟩
 refine wpAny_pyIter_slot hT Wn (xV Wn hT je ?_ (d8 _));refine(show wpAny _ _ (ret (.ref I)) _ _ s from ?_);exact zV ⟨_,rfl,"set_iterator",_,hT,si_next.lookup,h⟩
end
end My
namespace My
open PySem PySem.Spec PySem.W
open Tb
theorem v7{α:Type}:∀{l:List α}{i:Nat}(hi:i<l.length),(l[i]::l.eraseIdx i).Perm l
 |a::l,0,_=>.rfl
 |a::l,i+1,hi=>by
  have bT:i<l.length:=by simpa using hi
  have ih:=v7 bT;show(l[i]::a::l.eraseIdx i).Perm (a::l);exact(List.Perm.swap _ _ _).trans (ih.cons a)
theorem We{α:Type}(next:Nat->Nat):∀(iV k:Nat)(left:List α)(out:Array α),left.length<=iV->(pickOrder.go next iV k left out).toList.Perm (out.toList++left)
 |0,k,left,out,h=>by
  have:left=[]:=wE.mp (by lia);subst this;unfold pickOrder.go;simp
 |f+1,k,left,out,h=>by
  unfold pickOrder.go;cases hc:left[next k % left.length]? with
  |none =>
   dsimp only;have:left=[]:=by
    rcases left with _|⟨a,l⟩
    ·rfl
    ·exfalso;rw[tQ]at hc;have:=Nat.mod_lt (next k) (show 0<(a::l).length by simp);lia
   subst this;simp
  |some x =>
   dsimp only;obtain⟨hi,e⟩:=zW.mp hc;have ih:=We next f (k+1) (left.eraseIdx (next k % left.length)) (out.push x) (by rw[List.length_eraseIdx_of_lt hi];lia)
   refine ih.trans ?_;rw[Array.toList_push,wM];refine List.Perm.append_left _ ?_;have:=v7 hi;rw[e]at this;exact this
theorem Ux{α:Type}(next:Nat->Nat)(xs:Array α):(pickOrder next xs).toList.Perm xs.toList:=by
 have:=We next xs.size 0 xs.toList #[] (by simp)
 simpa[pickOrder]using this
section
variable {prog:Program}{w:World}{A:Around}{E:Value->Shared->Prop}{s:Shared}
theorem wp_choose'{qA:Source}{n:Nat}{Q:Nat->Shared->Prop}(hn:n≠0)(h:∀i d,i<n->Q i { s with drawn:=d }):wpAny (model prog w) A (choose qA n) Q E s:=fun Γ p hΓ=>by
 unfold choose;rw[Sem.wp_choose];exact⟨hn,h _ _ (Nat.mod_lt _ (Nat.pos_of_ne_zero hn))⟩
theorem qm{α:Type}:∀(n:Nat)(xs:List α)(s:Shared)(Q:List α->Shared->Prop),xs.length<=n->(∀ys d,ys.Perm xs->Q ys { s with drawn:=d })->wpAny (model prog w) A (drawOrder n xs) Q E s
 |0,xs,s,Q,hn,h=>by
  have:xs=[]:=wE.mp (by lia);subst this;unfold drawOrder;exact zV (h [] s.drawn .rfl)
 |n+1,[],s,Q,_,h=>by
  unfold drawOrder;exact zV (h [] s.drawn .rfl)
 |n+1,x::xs,s,Q,hn,h=>by
  unfold drawOrder;refine zZ (wp_choose' (by simp) λi d hi=>?_);have e:(x::xs)[i]?=some (x::xs)[i]:=zS hi;rw[e];dsimp only;refine zZ (qm n ((x::xs).eraseIdx i) { s with drawn:=d } _ (by rw[List.length_eraseIdx_of_lt hi];simp at hn ⊢;lia) λys d' p=>?_);exact zV (h _ d' ((p.cons _).trans (v7 hi)))
theorem Sy{I S:Addr}{es:Array (Int×Value)}{ep:Nat}{t:SetTable}(hh:A.handled=none)(hf:t.fits es.size=true)(aZ:I≠S)(vs:List Value)(aH:vs.length=es.size)(sl:Nat->Nat)
  (hr:∀i (s':Shared) (A':Around) (E':Value->Shared->Prop) (Q':Option (Value×Nat)->Shared->Prop),i<=es.size->s'.heap.get? S=some (yk es ep t)->Q' ((vs[i]?).map λv=>(v,sl (i+1))) s'->wpAny (model prog w) A' (setNext S (sl i) i ep) Q' E' s') :
  Walks prog w A I [I,S] [I] es.size (λi v=>vs[i]?=some v) (λi h=>h.get? I=some (v5 (.int (sl i) 0) i S es.size ep)/\h.get? S=some (yk es ep t))where
 sub:=λb hb=>by simp at hb;simp[hb]
 frame:=λi h h' st k=>⟨k I (by simp) _ st.1,k S (by simp) _ st.2⟩
 item:=λi s Q E hi st hQ=>by
  refine Rh (t:=t) hh st.1 st.2 hf (λA' E' Q' q=>hr i s A' E' Q' (by lia) st.2 q) (λx nx h' e eI sb=>?_) (λh' e=>?_)
  ·cases hv:vs[i]? with
   |none=>rw[hv]at e;cases e
   |some v =>
    rw[hv]at e;cases e;refine hQ _ h' s.toks hv ⟨eI,(sb.2 S (wU aZ)).trans st.2⟩ λb o hb e=>(sb.2 b λz=>hb (by simp[z])).trans e
  ·have:vs[i]?=some vs[i]:=zS (by lia);rw[this]at e;cases e
 done:=λs Q E st hQ=>by
  refine Rh (t:=t) hh st.1 st.2 hf (λA' E' Q' q=>hr _ s A' E' Q' (zU _) st.2 q) (λx nx h' e eI sb=>?_) (λh' e k=>?_)
  ·have:vs[es.size]?=none:=xL (by lia);rw[this]at e;cases e
  ·exact hQ h' s.toks λb o hb e=>k b o (λz=>hb (by simp[z])) e
 self:=λi s Q E st hQ=>Wk st.1 hQ
theorem S0{I S T:Addr}{es:Array (Int×Value)}{ep:Nat}{t:SetTable}{ps:List Nat}{c:Nat}(hh:A.handled=none)(hf:t.fits es.size=true)(aZ:I≠S)(hnT:I≠T)(hp:ps.Perm (List.range es.size)):
  Walks prog w A I [I,S,T] [I] es.size (λi v=>(ps.map λp=>(es.getD p (0,Value.none)).2)[i]?=some v) (λi h=>h.get? I=some (v5 (.ref T) i S es.size ep)/\h.get? S=some (yk es ep t)/\∃o,h.get? T=some o/\o.data = .seq (ps.map λ(i:Nat)=>rawInt i).toArray c)where
 sub:=λb hb=>by simp at hb;simp[hb]
 frame:=λi h h' st k=>⟨k I (by simp) _ st.1,k S (by simp) _ st.2.1,let⟨o,e,d⟩:=st.2.2;⟨o,k T (by simp) _ e,d⟩⟩
 item:=λi s Q E hi st hQ=>by
  have aH:ps.length=es.size:=by rw[hp.length_eq,xY]
  refine Ri (t:=t) hh st.1 st.2.1 hf st.2.2 (λp x h' e1 e2 eI sb=>?_) (λp e=>?_) (λh' e=>?_)
  ·refine hQ _ h' s.toks ?_ ⟨eI,(sb.2 S (wU aZ)).trans st.2.1,let⟨o,e,d⟩:=st.2.2;⟨o,(sb.2 T (wU hnT)).trans e,d⟩⟩ λb o hb e=>(sb.2 b λz=>hb (by simp[z])).trans e;have qR:p<es.size:=(Array.getElem?_eq_some_iff.mp e2).1;have e3:es.getD p (0,Value.none)=x:=by
    have:=(Array.getElem?_eq_some_iff.mp e2).2;simp[Array.getD,qR,this]
   show(ps.map λp=>(es.getD p (0,Value.none)).2)[i]?=some x.2;rw[zT,e1];show some (es.getD p (0,Value.none)).2=some x.2;rw[e3]
  ·have hm:=yH.mp (hp.mem_iff.mp (zN e));exact⟨es[p],by simp[hm]⟩
  ·have:ps[i]?=some ps[i]:=zS (by lia);rw[this]at e;cases e
 done:=λs Q E st hQ=>by
  have aH:ps.length=es.size:=by rw[hp.length_eq,xY]
  have hn:ps[es.size]?=none:=xL (by lia);refine Ri (t:=t) hh st.1 st.2.1 hf st.2.2 (λp x h' e1=>by rw[hn]at e1;cases e1) (λp e=>by rw[hn]at e;cases e) (λh' e k=>?_);exact hQ h' s.toks λb o hb e=>k b o (λz=>hb (by simp[z])) e
 self:=λi s Q E st hQ=>Wk st.1 hQ
end
theorem W3{pl:List Nat}(hr:pl.Pairwise (·<·)):SetTable.below pl.toArray 0=0:=by
 obtain⟨b1,b2,b3⟩:=uh hr 0;rcases Nat.eq_zero_or_pos (SetTable.below pl.toArray 0)with e|e
 ·exact e
 ·have:=b2 0 e;lia
theorem W1{pl:List Nat}(hr:pl.Pairwise (·<·)){i:Nat}(hi:i<pl.length):SetTable.below pl.toArray (pl[i]+1)=i+1:=by
 obtain⟨b1,b2,b3⟩:=uh hr (pl[i]+1);have h1:i<SetTable.below pl.toArray (pl[i]+1):=by
  refine xJ λhn=>?_;have:=b3 i (by lia) hi;rw[se hi]at this;lia
 have h2:¬i+1<SetTable.below pl.toArray (pl[i]+1):=λz=>by
  have h3:=b2 (i+1) z;have h4:i+1<pl.length:=by lia
  have h5:=sf (d:=pl[i]+1) hr (show i<i+1 by lia) h4;rw[se hi]at h5;lia
 lia
end My
namespace My
open PySem PySem.Spec PySem.W
open Tb
section
variable {prog:Program}{w:World}{A:Around}{E:Value->Shared->Prop}{s:Shared}
theorem R8(a:Addr):Builtin.Frozenset.slot0 "__iter__" ⟨[.ref a],[]⟩=pure a:=rfl
theorem bu{S:Addr}{es:Array (Int×Value)}{ep:Nat}{t:SetTable}{Q:Bool->Shared->Prop}(hS:s.heap.get? S=some (yk es ep t))(hf:t.fits es.size=true)(h:Q (!byT w&&(!t.plain&&decide (es.size>1))) s):wpAny (model prog w) A (setDrawn S) Q E s:=by
 unfold setDrawn;refine zZ (xA hS rfl hf ?_);unfold setsByText;refine zZ (zZ (uR (zV ?_)));exact zV h
theorem Zq{t:SetTable}{n:Nat}(hf:t.fits n=true):t.place.size=n:=by
 unfold SetTable.fits at hf;rw[yJ]at hf;exact eq_of_beq hf.1
theorem Pl{S:Addr}{es:Array (Int×Value)}{ep:Nat}{t:SetTable}{Q:Value->Shared->Prop}(hS:s.heap.get? S=some (yk es ep t))(hf:t.fits es.size=true)(eS:t.led=!byT w)(nA:t.plain=true->t.place.toList.Pairwise (·<·))(hz:es.size<=sizeLine)
  (h:∀(I:Addr)(h1:Heap)(d:Drawn)(fp:List Addr)(ws:List Value)(St:Nat->Heap->Prop),ws.Perm (es.toList.map (·.2))->(∀A':Around,A'.handled=none->Walks prog w A' I fp [I] es.size (λi v=>ws[i]?=some v) St)->St 0 h1->(∀b∈fp,b=S\/s.heap.objs.size<=b) ->
   (∀b o,s.heap.get? b=some o->h1.get? b=some o)->s.heap.objs.size<=I->Q (.ref I) { s with heap:=h1,drawn:=d }):wpAny (model prog w) A (pyIter (.ref S)) Q E s:=by
 have hT:s.TypeIs (.ref S) "set":=⟨_,hS,rfl⟩
 have aI:S<s.heap.objs.size:=zQ hS;refine wpAny_pyIter_slot hT F.slot_set_iter (xV F.slot_set_iter hT ll ?_ (F.args_set_iter_1 _));unfold Builtin.«frozenset.__iter__»;refine zZ (wpAny_of_eq (R8 S) ?_);unfold Builtin.Frozenset.sizeOf;refine zZ (zZ (wpAny_setEntries_of hS rfl hf (zV ?_)));refine zZ (bu hS hf ?_);have Bw:∀(ws:List Value)(sl:Nat->Nat),sl 0=0->ws.Perm (es.toList.map (·.2)) ->
   (∀i (s':Shared) (A':Around) (E':Value->Shared->Prop) (Q':Option (Value×Nat)->Shared->Prop),i<=es.size->s'.heap.get? S=some (yk es ep t)->Q' ((ws[i]?).map λv=>(v,sl (i+1))) s'->wpAny (model prog w) A' (setNext S (sl i) i ep) Q' E' s') ->
   wpAny (model prog w) A.in1 (do let first <-pure (rawInt 0);ret (<-newFields "set_iterator" [first,rawInt 0,.ref S,rawInt es.size,rawInt (<-setEpoch S)]))
    (λaU s'=>∃r,aU = .done (.ret r)/\∃T' r',s'.TypeIs r T'/\typeLookup (.type T') "__next__"=pure (some r')/\Q r s') E s:=by
  intro ws sl h0 hp hr;have hl:ws.length=es.size:=by rw[hp.length_eq];simp
  refine zZ (zV (zZ (wpAny_setEpoch_of hS rfl hf (zZ ?_))));unfold newFields;refine xZ (zV ⟨_,rfl,"set_iterator",_,⟨_,zR _ rfl,rfl⟩,si_next.lookup,?_⟩);refine h _ _ s.drawn [s.heap.objs.size,S] ws _ hp (λA' FJ=>Sy FJ hf (wX aI) ws hl sl hr) ⟨?_,zX _ hS⟩ (λb hb=>?_) (λb o e=>zX _ e) (zU _)
  ·rw[h0];exact zR _ rfl
  ·rcases zI.mp hb with rfl|hb
   ·exact .inr (zU _)
   ·exact .inl (zO.mp hb)
 cases hb:byT w with
 |true =>
  simp only[Bool.not_true,Bool.false_and,Bool.false_eq_true,if_false];refine Bw ((pickOrder (w.params.setOrder S ep) es).toList.map (·.2)) (λ_=>0) rfl ((Ux _ es).map _) λi s' A' E' Q' hi CS q=>Uc CS hf hb ?_;rw[zT,vW,Option.map_map]at q;exact q
 |false =>
  have qU:t.led=true:=by rw[eS,hb];rfl
  cases hd:(!t.plain&&decide (es.size>1))with
  |true =>
   simp only[Bool.not_false,Bool.and_self,if_true];refine zZ (qm es.size (List.range es.size) s _ (by simp) λps d hp=>?_);have bL:ps.length=es.size:=by rw[hp.length_eq,xY]
   refine zZ (sK ?_ (by rw[zY,bL];exact hz));refine zZ (wpAny_setEpoch_of (s:={ s with heap:=_,drawn:=d }) (zX _ hS) rfl hf (zZ ?_));unfold newFields;refine xZ (zV ⟨_,rfl,"set_iterator",_,⟨_,zR _ rfl,rfl⟩,si_next.lookup,?_⟩);have Ck:(s.heap.push (PyProof.Rows.seqObj "tuple" (ps.map λ(i:Nat)=>rawInt i).toArray 0)).objs.size=s.heap.objs.size+1:=xX _ _;refine h _ _ d [s.heap.objs.size+1,S,s.heap.objs.size] (ps.map λp=>(es.getD p (0,Value.none)).2) (λi h=>h.get? (s.heap.objs.size+1)=some (v5 (.ref s.heap.objs.size) i S es.size ep)/\h.get? S=some (yk es ep t)/\∃o,h.get? s.heap.objs.size=some o/\o.data = .seq (ps.map λ(i:Nat)=>rawInt i).toArray 0) ?_ (λA' FJ=>?_) ⟨?_,?_,?_⟩ (λb bU=>?_) (λb o e=>zX _ (zX _ e)) (by rw[Ck];exact vQ _)
   ·have h1:=hp.map λp=>(es.getD p (0,Value.none)).2;have h2:(List.range es.size).map (λp=>(es.getD p (0,Value.none)).2)=es.toList.map (·.2):=by
     have:=xK (List.map (·.2)) (gj es);rw[yF]at this;exact this
    rw[h2]at h1;exact h1
   ·have e1:(s.heap.push (PyProof.Rows.seqObj "tuple" (ps.map λ(i:Nat)=>rawInt i).toArray 0)).objs.size=s.heap.objs.size+1:=Ck;have:=S0 (A:=A') (I:=s.heap.objs.size+1) (S:=S) (T:=s.heap.objs.size) (ep:=ep) (c:=0) (prog:=prog) (w:=w) FJ hf (wX (xI aI)) (wX (yB _)) hp;show Walks prog w A' (s.heap.push (PyProof.Rows.seqObj "tuple" (ps.map λ(i:Nat)=>rawInt i).toArray 0)).objs.size _ [(s.heap.push (PyProof.Rows.seqObj "tuple" (ps.map λ(i:Nat)=>rawInt i).toArray 0)).objs.size] _ _ _;rw[e1];exact this
   ·have e2:=zR (s.heap.push (PyProof.Rows.seqObj "tuple" (ps.map λ(i:Nat)=>rawInt i).toArray 0)) (o:=v5 (.ref s.heap.objs.size) 0 S es.size ep) rfl;rw[Ck]at e2;exact e2
   ·exact zX _ (zX _ hS)
   ·exact⟨_,zX _ (zR _ rfl),rfl⟩
   ·rcases zI.mp bU with rfl|bU
    ·exact .inr (vQ _)
    ·rcases zI.mp bU with rfl|bU
     ·exact .inl rfl
     ·rw[zO.mp bU];exact .inr (zU _)
  |false =>
   simp only[tW,Bool.false_eq_true,if_false];have qR:=Zq hf;have up:t.place.toList.Pairwise (·<·):=by
    cases bL:t.plain with
    |true=>exact nA bL
    |false =>
     rw[bL]at hd;have fT:t.place.toList.length<=1:=by
      rw[xD,qR];simpa using hd
     match t.place.toList,fT with
     |[],_=>exact .nil
     |[a],_=>exact sW _ _
   refine Bw (es.toList.map (·.2)) (λi=>if i=0 then 0 else t.place.getD (i-1) 0+1) rfl .rfl λi s' A' E' Q' hi CS q=>X3 CS hf hb hd qU ?_;have Ai:SetTable.below t.place (if i=0 then 0 else t.place.getD (i-1) 0+1)=i:=by
    have e0:t.place=t.place.toList.toArray:=by simp
    by_cases hi0:i=0
    ·subst hi0;rw[yV rfl,e0];exact W3 up
    ·rw[zC hi0];have CO:i-1<t.place.toList.length:=by rw[xD,qR];lia
     have:=W1 up CO;have e1:t.place.toList[i-1]=t.place.getD (i-1) 0:=by
      have:i-1<t.place.size:=by lia
      simp[Array.getD,this]
     rw[e1]at this;have e2:t.place.toList.toArray=t.place:=by simp
     rw[e2]at this;rw[this];lia
   show Q' (match es[SetTable.below t.place (if i=0 then 0 else t.place.getD (i-1) 0+1)]?,t.place[SetTable.below t.place (if i=0 then 0 else t.place.getD (i-1) 0+1)]? with|some (_,x),some j=>some (x,j+1)|_,_=>none) s';rw[Ai]
   by_cases nJ:i<es.size
   ·have e1:es[i]?=some es[i]:=by simp[nJ]
    have mP:i<t.place.size:=by lia
    have e2:t.place[i]?=some t.place[i]:=by simp[mP]
    rw[e1,e2];have e3:(es.toList.map (·.2))[i]?=some es[i].2:=by simp[nJ]
    rw[e3]at q;have e4:t.place.getD i 0=t.place[i]:=by simp[Array.getD,mP]
    have q':Q' (some (es[i].2,t.place.getD i 0+1)) s':=q;rw[e4]at q';exact q'
   ·have e1:es[i]?=none:=by simp;lia
    rw[e1];have e3:(es.toList.map (·.2))[i]?=none:=by simp;lia
    rw[e3]at q;exact q
end
end My
namespace My
open PySem PySem.Spec PySem.W PySem.Calls
open PyProof.Rows hiding St
open Tb
section
variable {prog:Program}{w:World}{A:Around}{E:Value->Shared->Prop}{s:Shared}
theorem R5{S:Addr}{Q:Bool->Shared->Prop}(hT:s.TypeIs (.ref S) "set")(h:Q false s):wpAny (model prog w) A (Builtin.List.listLengthHint (.ref S)) Q E s:=by
 unfold Builtin.List.listLengthHint;refine zZ (wpAny_specialOf hT F.slot_set_len.lookup ?_);generalize A0:("set.__len__":String)=id0
 wp_delta
 rw[show splitId id0=some ("set","__len__")from by subst A0;decide +kernel];subst A0;refine zZ (tT (b:=true) (T:="set") hT sub_set_self (uJ (λz=>absurd z (by decide)) λ_=>?_));exact uJ (λ_=>zZ (uY hT (zV h))) λz=>absurd (by decide +kernel) z
theorem Yq{S l:Addr}{c:Nat}{es:Array (Int×Value)}{ep:Nat}{t:SetTable}{R:Result->Shared->Prop}{res:Value}(hh:A.handled=none)(hS:s.heap.get? S=some (yk es ep t))(hf:t.fits es.size=true)(eS:t.led=!byT w)(nA:t.plain=true->t.place.toList.Pairwise (·<·))(hz:es.size<=sizeLine)
  (hl:s.heap.get? l=some { cls:=.type "list",data:=.seq #[] c }) (hR:∀h' d tk (ws:List Value) c',ws.Perm (es.toList.map (·.2))->(∀b o,b≠l->s.heap.get? b=some o->h'.get? b=some o)->h'.get? l=some { cls:=.type "list",dict:=none,data:=.seq ws.toArray c',slots:=#[] }->R (.ok (.ret res)) { s with heap:=h',drawn:=d,toks:=tk }) :
  wpAny (model prog w) A.in1 (Builtin.List.listExtendWith (.ref l) (.ref S) res) (λaU s'=>match aU with|.done f=>R (.ok f) s'|.again c'=>c'.quiet=true/\codeAny (model prog w) A c' R s') (λe s'=>R (.error e) s') s:=by
 have hT:s.TypeIs (.ref S) "set":=⟨_,hS,rfl⟩
 have hlS:l≠S:=by
  rintro rfl;have:=xK Obj.cls (yX (hS.symm.trans hl));simp at this
 unfold Builtin.List.listExtendWith;refine zZ (uY hT ?_);have n1:Builtin.List.listSameRef (.ref l) (.ref S)=false:=by simp[Builtin.List.listSameRef,hlS]
 have n2:(Value.type "set"==Value.type "list")=false:=by decide
 have n3:(Value.type "set"==Value.type "tuple")=false:=by decide
 simp only[n1,n2,n3,Bool.or_false,Bool.false_eq_true,if_false];refine zZ (Pl hS hf eS nA hz λI h1 d fp ws St hp W st hfp keep hI=>?_);have aI:l<s.heap.objs.size:=zQ hl;have hlf:l∉fp:=λz=>by
  rcases hfp l z with e|e
  ·exact hlS e
  ·exact absurd aI (sY.mpr e)
 have key:∀(h:Heap)(c₁:Nat),St 0 h->(∀b o,b≠l->s.heap.get? b=some o->h.get? b=some o)->h.get? l=some { cls:=.type "list",data:=.seq #[] c₁ } ->
   codeAny (model prog w) A (.builtin "list.extend.loop" ⟨[.ref l,.ref I,res],[]⟩) R { s with heap:=h,drawn:=d }:=by
  intro h c₁ fB k' CJ;refine codeAny_extend_loopS (W A.in1 hh).toS hz l hlf res es.size 0 { s with heap:=h,drawn:=d } #[] c₁ rfl (yR _) fB CJ (ItemsOf.nil _) λs' aG c' hm he dB=>?_;rw[Moved.eq_with hm];have AW:aG=ws.toArray:=by
   apply wC.mp;have kL:ws.length=es.size:=by rw[hp.length_eq];simp
   apply sP;intro i
   by_cases hi:i<es.size
   ·have hsz:i<aG.size:=by rw[dB.1];exact hi
    have h3:aG[i]?=some aG[i]:=Array.getElem?_eq_getElem hsz;have h4:=dB.2 i _ h3;rw[vW,h3];exact h4.symm
   ·rw[xL (by rw[xD,dB.1];lia)];exact(xL (by show ws.length<=i;lia)).symm
  rw[AW]at he;refine hR s'.heap d s'.toks ws c' hp (λb o hb e=>hm.heap b o (λz=>?_) (k' b o hb e)) he;rcases zI.mp z with e'|z
  ·exact hb e'
  ·rw[zO.mp z]at e;exact absurd (zQ e) (sY.mpr hI)
 have hT1:Shared.TypeIs { s with heap:=h1,drawn:=d } (.ref S) "set":=⟨_,keep _ _ hS,rfl⟩
 refine zZ (xS (R5 hT1 ?_));have oO:=keep _ _ hl;refine uJ (λ_=>?_) (λ_=>zV ⟨vS vB _,key h1 c st (λb o _ e=>keep b o e) oO⟩);refine zZ (tU (zZ (show wpAny _ _ (updateSeq l (·.push .none) >>=λ_=>updateSeq l (·.pop)) _ _ _ from ?_)));refine zZ (uI oO rfl ?_);have kL:=xG (Obj.mapSeq (·.push Value.none)) oO rfl;refine uI (hz:=by seq_fits) kL rfl ?_;have ER:=xG (Obj.mapSeq (·.pop)) kL rfl;refine zV ⟨vS vB _,key _ _ ?_ (λb o hb e=>?_) ER⟩
 ·refine(W A.in1 hh).frame 0 _ _ st λb hb o e=>?_;have bU:b≠l:=λz=>hlf (z▸hb);exact(yN _ _ (wU bU)).trans ((yN _ _ (wU bU)).trans e)
 ·exact(yN _ _ (wU hb)).trans ((yN _ _ (wU hb)).trans (keep b o e))
theorem aq{S:Addr}{es:Array (Int×Value)}{ep:Nat}{t:SetTable}{R:List Value->Shared->Prop}(hh:A.handled=none)(hS:s.heap.get? S=some (yk es ep t))(hf:t.fits es.size=true)(eS:t.led=!byT w)(nA:t.plain=true->t.place.toList.Pairwise (·<·))(hz:es.size<=sizeLine)
  (h:∀h' d tk (ws:List Value),ws.Perm (es.toList.map (·.2))->(∀b o,s.heap.get? b=some o->h'.get? b=some o)->s.heap.objs.size<h'.objs.size->R ws { s with heap:=h',drawn:=d,toks:=tk }):wpAny (model prog w) A (collect (.ref S)) R E s:=by
 unfold collect;refine zZ (wpAny_runValue (wV entry_proto_collect' (by
  rw[xN uC _];refine(show wpAny _ A.in1 (newList [] >>=λl=>again (.builtin "list.__iadd__" ⟨[l,.ref S],[]⟩)) _ _ s from zZ (xZ ?_));refine zV ⟨vS wD _,wV entry_list_iadd' ?_⟩;rw[xN wD _];refine(show wpAny _ A.in1 (Builtin.List.listExtendWith (.ref s.heap.objs.size) (.ref S) (.ref s.heap.objs.size)) _ _ _ from ?_);have hl:(s.heap.push { cls:=.type "list",data:=.seq ([]:List Value).toArray }).get? s.heap.objs.size=some { cls:=.type "list",data:=.seq #[] }:=zR _ rfl;have key:=Yq (prog:=prog) (A:=A) (s:={ s with heap:=s.heap.push { cls:=.type "list",data:=.seq ([]:List Value).toArray } }) (res:=.ref s.heap.objs.size)
   (R:=λq s'=>∃(h':Heap)(d:Drawn)(tk:Nat)(ws:List Value)(c':Nat),q = .ok (.ret (.ref s.heap.objs.size))/\s'={ s with heap:=h',drawn:=d,toks:=tk }/\ws.Perm (es.toList.map (·.2))/\(∀b o,s.heap.get? b=some o->h'.get? b=some o)/\h'.get? s.heap.objs.size=some { cls:=.type "list",dict:=none,data:=.seq ws.toArray c',slots:=#[] })
   hh (zX _ hS) hf eS nA hz hl λh' d tk ws c' hp k e=>⟨h',d,tk,ws,c',rfl,rfl,hp,λb o e'=>k b o (zF (zQ e')) (zX _ e'),e⟩
  refine xT key (λaU s' x=>?_) λe s' x=>?_
  ·cases aU with
   |done f =>
    obtain⟨h',d,tk,ws,c',e,rfl,hp,k,el⟩:=x;cases e;exact(show wpAny _ A (load s.heap.objs.size >>= _) _ _ _ from zZ (rV el (zV (h h' d tk ws hp k (zQ el)))))
   |again c₁ =>
    refine⟨x.1,uN x.2 λq s₂ y=>?_⟩;obtain⟨h',d,tk,ws,c',rfl,rfl,hp,k,el⟩:=y;exact(show wpAny _ A (load s.heap.objs.size >>= _) _ _ _ from zZ (rV el (zV (h h' d tk ws hp k (zQ el)))))
  ·obtain⟨_,_,_,_,_,e',_⟩:=x;cases e')))
theorem lx{S:Addr}{es:Array (Int×Value)}{ep:Nat}{t:SetTable}{Q:Value->Shared->Prop}(hh:A.handled=none)(hS:s.heap.get? S=some (yk es ep t))(hf:t.fits es.size=true)(eS:t.led=!byT w)(nA:t.plain=true->t.place.toList.Pairwise (·<·))(hz:es.size<=sizeLine)
  (h:∀D h' d tk (ws:List Value),ws.Perm (es.toList.map (·.2))->(∀b o,s.heap.get? b=some o->h'.get? b=some o)->s.heap.objs.size<=D->h'.get? D=some (seqObj "list" ws.toArray 0) ->
   wpAny (model prog w) A.in1 (call (.builtin "list.sort") [.ref D]) (λ_ s'=>Q (.ref D) s') E { s with heap:=h',drawn:=d,toks:=tk }):wpAny (model prog w) A (call (.builtin "sorted") [.ref S]) Q E s:=by
 refine call_function_entry kind_sorted plain_sorted entry_sorted (args_sorted1 _) (by
  unfold Builtin.«sorted»;refine zZ (m:=checkCount "sorted" 1 1 _) (zV (zZ (aq (A:=A.in1) hh hS hf eS nA hz λh' d tk ws hp k fT=>?_)));have hl:ws.length=es.size:=by rw[hp.length_eq];simp
  refine zZ (tJ ?_ (by rw[hl];exact hz));have g:=h h'.objs.size (h'.push (seqObj "list" ws.toArray 0)) d tk ws hp (λb o e=>zX _ (k b o e)) (xW fT) (zR _ rfl);exact zZ (xS (xT g (λ_ s' x=>zV ⟨_,rfl,x⟩) λ_ _ e=>e)))
end
end My
namespace My
open PySem PySem.Spec PySem.W PySem.Calls
open Tb
theorem jb(t:SetTable)(n:Nat):(t.orStandIn n).led=t.led:=by unfold SetTable.orStandIn SetTable.standIn;split<;>rfl
theorem Xo(t:SetTable)(es:Array (Int×Value))(h:Int)(x:Value):(layNew t es h x).2.1.led=t.led:=by
 unfold layNew;split
 ·exact jb _ _
 ·rfl
theorem dw{t t':SetTable}{hs:Array Int}{n:Nat}{o:Array Nat}(h:t.relaid hs n=some (t',o)):t'.led=t.led/\t'.plain=t.plain:=by
 unfold SetTable.relaid SetTable.laid at h;cases hc:SetTable.layClean (SetTable.sizeAbove n-1) hs with
 |none=>rw[hc]at h;cases h
 |some ow =>
  rw[hc]at h;have h':=(Prod.mk.inj (yX h)).1;rw[<-h'];exact⟨rfl,rfl⟩
theorem dy(t:SetTable)(es:Array (Int×Value))(n:Nat):(relayAll t es n).2.1.led=t.led/\(t.plain=false->(relayAll t es n).2.1.plain=false):=by
 unfold relayAll;split
 ·rename_i t' o e;dsimp only;have:=dw e;split
  ·exact⟨this.1,λh=>this.2.trans h⟩
  ·exact⟨rfl,λ_=>rfl⟩
 ·exact⟨rfl,λ_=>rfl⟩
section
variable {prog:Program}{w:World}{A:Around}{E:Value->Shared->Prop}{s:Shared}
structure GoodS(w:World)(Es:List (Int×Value))(D:List Str):Prop where
 in1:∀e∈Es,∃x t,x∈D/\e=(hashStr w x,.str x t)
 in2:∀x∈D,∃t,(hashStr w x,.str x t)∈Es
 one:Es.Pairwise λe e'=>∀x t t',e.2 = .str x t->e'.2≠.str x t'
theorem GoodS.perm{Es GL:List (Int×Value)}{D:List Str}(g:GoodS w Es D)(p:GL.Perm Es):GoodS w GL D :=
 ⟨λe he=>g.in1 e (p.mem_iff.mp he),λx hx=>let⟨t,h⟩:=g.in2 x hx;⟨t,p.mem_iff.mpr h⟩,(p.pairwise_iff (λ{a b} kX x t t' h1 h2=>kX x t' t h2 h1)).mpr g.one⟩
theorem GoodS.elems{Es:List (Int×Value)}{D:List Str}(g:GoodS w Es D):ElemsOf (PySem.strKind prog w) Es:=λe he=>by
 obtain⟨x,t,_,rfl⟩:=g.in1 e he;exact⟨⟨x,by show Value.isStrOf x (.str x t)=true;simp[Value.isStrOf],rfl⟩,rfl⟩
theorem add_str{S:Addr}{ep:Nat}{es:Array (Int×Value)}{t:SetTable}{D:List Str}{x:Str}{tok:Tok}(hS:s.heap.get? S=some (yk es ep t))(hf:t.fits es.size=true)(g:GoodS w es.toList D)(hb:es.size+1<scanBound)(bL:es.size≠0->t.plain=false){Q:Bool->Shared->Prop}
  (q:∀(b:Bool)(h':Heap)(tk:Nat)(cJ:Array (Int×Value))(kM:Nat)(t':SetTable),h'.get? S=some (yk cJ kM t')->Heap.SameBut S s.heap h'->t'.fits cJ.size=true->t'.led=t.led->(cJ.size≠0->t'.plain=false)->GoodS w cJ.toList (D++[x])->cJ.size<=es.size+1->Q b { s with heap:=h',toks:=tk }) :
  wpAny (model prog w) A (setAdd S (.str x tok)) Q E s:=by
 have pI:(PySem.strKind prog w).is x (.str x tok)=true:=by show Value.isStrOf x (.str x tok)=true;simp[Value.isStrOf]
 unfold setAdd;refine xS (zZ ((PySem.strKind prog w).pyHash pI ?_));have A4:({ s with toks:=s.toks+1 }:Shared).heap.get? S=some (yk es ep t):=hS;unfold setAddHashed setAddHashedIn;refine xS (zZ (xA A4 rfl hf ?_));dsimp only;rw[byScan_of (knd:=PySem.strKind prog w) rfl (by lia) g.elems];simp only[if_true];unfold setAddByScan;refine zZ (zZ (tU (zZ (wpAny_setScan_of (knd:=PySem.strKind prog w) pI A4 rfl hf g.elems ?_))));cases hr:List.findIdx? (λe=>(PySem.strKind prog w).is x e.2) es.toList with
 |some j =>
  dsimp only;obtain⟨hj,hpj,_⟩:=List.findIdx?_eq_some_iff_getElem.mp hr;refine zV (zV (q false s.heap _ es ep t hS (Heap.SameBut.refl S s.heap) hf rfl bL ⟨λe he=>?_,λy hy=>?_,g.one⟩ (vQ _)))
  ·obtain⟨y,t',h1,h2⟩:=g.in1 e he;exact⟨y,t',xO _ h1,h2⟩
  ·rcases zK.mp hy with hy|hy
   ·exact g.in2 y hy
   ·rw[zO.mp hy];have hm:=vJ hj;obtain⟨y',t',_,e⟩:=g.in1 _ hm;rw[e]at hpj;have:y'=x:=by
     have h5:Value.isStrOf x (.str y' t')=true:=hpj;simpa[Value.isStrOf]using h5
    subst this;exact⟨t',by rw[<-e];exact hm⟩
 |none =>
  dsimp only;have eQ:∀e∈es.toList,∀t',e.2≠.str x t':=λe he t' z=>by
   have:=List.findIdx?_eq_none_iff.mp hr e he;rw[z]at this;have h5:Value.isStrOf x (.str x t')=false:=this;simp[Value.isStrOf]at h5
  have cH:=layNew_perm t es (hashStr w x) (.str x tok);have oP:=layNew_fits t es (hashStr w x) (.str x tok);have eS:=Xo t es (hashStr w x) (.str x tok);have hh:(PySem.strKind prog w).hash x=hashStr w x:=rfl;rw[hh];generalize hL:layNew t es (hashStr w x) (.str x tok)=L at cH oP eS ⊢;obtain⟨kI,t1,CW,gave⟩:=L;dsimp only at cH oP eS ⊢;rw[Array.toList_push]at cH;have hsz:kI.size=es.size+1:=by
   have:=cH.length_eq;simpa using this
  have A7:GoodS w kI.toList (D++[x]):=by
   refine GoodS.perm (Es:=(hashStr w x,Value.str x tok)::es.toList) ⟨λe he=>?_,λy hy=>?_,xM.mpr ⟨λe he y t1 t2 h1 h2=>?_,g.one⟩⟩ (cH.trans (List.perm_append_singleton _ _))
   ·rcases zI.mp he with rfl|he
    ·exact⟨x,tok,yP _ (zO.mpr rfl),rfl⟩
    ·obtain⟨y,t',h1,h2⟩:=g.in1 e he;exact⟨y,t',xO _ h1,h2⟩
   ·rcases zK.mp hy with hy|hy
    ·obtain⟨t',h⟩:=g.in2 y hy;exact⟨t',zH _ h⟩
    ·rw[zO.mp hy];exact⟨tok,zG⟩
   ·cases h1;exact eQ e he t2 h2
  have hgw:∀(b:Bool)(s₁:Shared)(Q':Unit->Shared->Prop),Q' () s₁->wpAny (model prog w) A (match b with|true=>rule "set.scan.the-table-gave-way" | false=>pure ()) Q' E s₁:=λb s₁ Q' hq=>by
   cases b
   ·exact zV hq
   ·exact tU hq
  have Dk:∀t2:SetTable,t2.fits kI.size=true->t2.led=t.led->t2.plain=false->∀(R:Option Bool->Shared->Prop),(∀h' cJ kM t',h'.get? S=some (yk cJ kM t')->Heap.SameBut S s.heap h'->t'.fits cJ.size=true->t'.led=t.led->t'.plain=false->cJ.toList.Perm kI.toList->R (some true) { s with heap:=h',toks:=s.toks+1 }) ->
    wpAny (model prog w) A (do
     storeSet S kI t2
     if(!CW&&t2.tooFull)=true then do
      (match(relayAll t2 kI (SetTable.grown kI.size)).2.2 with|true=>rule "set.scan.the-table-gave-way" | false=>pure ())
      storeSet S (relayAll t2 kI (SetTable.grown kI.size)).1 (relayAll t2 kI (SetTable.grown kI.size)).2.1
      pure (some true)
     else pure (some true)) R E { s with toks:=s.toks+1 }:=by
   intro t2 f2 l2 p2 R hR;refine zZ (sr A4 (fits_of_scanBound (by rw[hsz];exact hb)) λh1 Bi B7=>?_);split
   ·have iK:=relayAll_perm t2 kI (SetTable.grown kI.size);have hf2:=relayAll_fits t2 kI (SetTable.grown kI.size);obtain⟨kL,hpl2⟩:=dy t2 kI (SetTable.grown kI.size);have nB:(relayAll t2 kI (SetTable.grown kI.size)).1.size=kI.size:=by
     have:=iK.length_eq;simpa using this
    refine zZ (hgw _ _ _ (zZ (sr (s:={ s with heap:=h1,toks:=s.toks+1 }) Bi (fits_of_scanBound (by rw[nB,hsz];exact hb)) λh2 hS3 sb2=>zV ?_)));exact hR h2 _ _ _ hS3 (B7.trans sb2) hf2 (kL.trans l2) (hpl2 p2) iK
   ·exact zV (hR h1 kI _ t2 Bi B7 f2 l2 p2 .rfl)
  have aU:∀h' cJ kM t',h'.get? S=some (yk cJ kM t')->Heap.SameBut S s.heap h'->t'.fits cJ.size=true->t'.led=t.led->t'.plain=false->cJ.toList.Perm kI.toList->Q true { s with heap:=h',toks:=s.toks+1 }:=λh' cJ kM t' e1 e2 e3 e4 e5 e6=>by
   refine q true h' _ cJ kM t' e1 e2 e3 e4 (λ_=>e5) (A7.perm e6) ?_;have:=e6.length_eq;simp at this;lia
  refine zZ (hgw _ _ _ ?_);split
  ·rw[hashByValue_scannable 8 (x:=.str x tok) rfl];refine zZ (zV ?_);simp only[plainKind,Bool.false_eq_true,if_false];exact Dk { t1 with plain:=false } (SetTable.fits_plain_off oP) eS rfl _ λh' cJ kM t' e1 e2 e3 e4 e5 e6=>zV (aU h' cJ kM t' e1 e2 e3 e4 e5 e6)
  ·rename_i mP;refine zZ (zV ?_);simp only[if_true];exact Dk t1 oP eS (by simpa using mP) _ λh' cJ kM t' e1 e2 e3 e4 e5 e6=>zV (aU h' cJ kM t' e1 e2 e3 e4 e5 e6)
end
end My
namespace My
open PySem PySem.Spec PySem.W PySem.Calls
open PyProof.Rows hiding St
namespace Srt
variable {O:KeyOrd}{key:Nat->O.α}{n:Nat}
def Ok{α:Type}(key:Nat->O.α)(n:Nat):KasT α->(α->Prop)->Prop
 | .ret a,P=>P a
 | .ask i j k,P=>i<n/\j<n/\Ok key n (k (O.blt (key i) (key j))) P
theorem Ok.mono{α:Type}{P P':α->Prop}(hp:∀a,P a->P' a):∀{t:KasT α},Ok key n t P->Ok key n t P'
 | .ret a,h=>hp a h
 | .ask i j k,h=>⟨h.1,h.2.1,Ok.mono hp h.2.2⟩
theorem Ok.bind{α β:Type}{f:α->KasT β}{P:β->Prop}:∀{t:KasT α},Ok key n t (λa=>Ok key n (f a) P)->Ok key n (t.bind f) P
 | .ret a,h=>h
 | .ask i j k,h=>⟨h.1,h.2.1,Ok.bind h.2.2⟩
theorem Ok.wp{α:Type}{Bq:Nat->Nat->(Bool->Shared->Prop)->Shared->Prop}{P:α->Prop}{Q:α->Shared->Prop}{s:Shared}(hc:∀i j C,i<n->j<n->C (O.blt (key i) (key j)) s->Bq i j C s)(hq:∀a,P a->Q a s):∀{t:KasT α},Ok key n t P->t.kasWp Bq Q s
 | .ret a,h=>hq a h
 | .ask i j k,h=>hc i j _ h.1 h.2.1 (Ok.wp hc hq h.2.2)
def K(key:Nat->O.α)(p:Array Nat)(i:Nat):O.α:=key (p.getD i 0)
structure All(n:Nat)(p:Array Nat):Prop where
 pm:p.toList.Perm (List.range n)
theorem All.size{p:Array Nat}(a:All n p):p.size=n:=by
 have:=a.pm.length_eq;simpa using this
theorem All.lt{p:Array Nat}(a:All n p)(hn:0<n)(i:Nat):p.getD i 0<n:=by
 by_cases hi:i<p.size
 ·have e:p.getD i 0=p[i]:=by simp[Array.getD,hi]
  rw[e];have:p[i]∈p.toList:=by simp
  exact yH.mp (a.pm.mem_iff.mp this)
 ·have e:p.getD i 0=0:=by simp[Array.getD,hi]
  rw[e];exact hn
theorem All.of{p p':Array Nat}(a:All n p)(h:p'.Perm p):All n p':=⟨(Array.perm_iff_toList_perm.mp h).trans a.pm⟩
theorem ui{p:Array Nat}{i:Nat}:p.getD i 0=(p[i]?).getD 0:=by
 by_cases hi:i<p.size
 ·simp[Array.getD,hi]
 ·simp[Array.getD,hi]
theorem Op{p:Array Nat}{i j:Nat}(hj:j<=p.size)(k:Nat):K key (kas_rev p i j) k=if i<=k/\k<j then K key p (i+j-1-k)else K key p k:=by
 have e:=getElem?_mirror_all (xs:=p) (i:=i) hj k;unfold K kas_rev;rw[ui,e];split
 ·rw[<-ui]
 ·rw[<-ui]
theorem Lk{p:Array Nat}{qA d:Nat}(hs:qA<p.size)(hd:d<=qA)(k:Nat):K key (bubble p qA d) k=if k=qA-d then K key p qA else if qA-d<k/\k<=qA then K key p (k-1)else K key p k:=by
 have e:=getElem?_bubble hs d hd k;unfold K;rw[ui,e]
 by_cases h1:k=qA-d
 ·rw[yV h1,yV h1,<-ui]
 ·rw[zC h1,zC h1]
  by_cases h2:qA-d<k/\k<=qA
  ·rw[yV h2,yV h2,<-ui]
  ·rw[zC h2,zC h2,<-ui]
def Up(key:Nat->O.α)(p:Array Nat)(m:Nat):Prop:=∀i j,i<=j->j<m->O.kle (K key p i) (K key p j)
def Dn(key:Nat->O.α)(p:Array Nat)(m:Nat):Prop:=∀i j,i<=j->j<m->O.kle (K key p j) (K key p i)
theorem Up.step{p:Array Nat}{m:Nat}(h:Up key p m)(h1:1<=m)(hc:O.kle (K key p (m-1)) (K key p m)):Up key p (m+1):=λi j iU hj=>by
 by_cases e:j=m
 ·subst e
  by_cases e2:i=j
  ·subst e2;exact vX _
  ·exact tS (h i (j-1) (by lia) (by lia)) hc
 ·exact h i j iU (by lia)
theorem Dn.step{p:Array Nat}{m:Nat}(h:Dn key p m)(h1:1<=m)(hc:O.kle (K key p m) (K key p (m-1))):Dn key p (m+1):=λi j iU hj=>by
 by_cases e:j=m
 ·subst e
  by_cases e2:i=j
  ·subst e2;exact vX _
  ·exact tS hc (h i (j-1) (by lia) (by lia))
 ·exact h i j iU (by lia)
theorem X5{p:Array Nat}(a:All n p)(hn:0<n):∀(f m:Nat),1<=m->Up key p m->Ok key n (kas_asc p f m) λr=>m<=r/\r<=m+f/\Up key p r/\(r=m+f\/O.klt (K key p r) (K key p (r-1)))
 |0,m,h1,h=>⟨zU _,zU _,h,.inl rfl⟩
 |f+1,m,h1,h=>by
  refine⟨a.lt hn _,a.lt hn _,?_⟩;cases hc:O.blt (key (p.getD m 0)) (key (p.getD (m-1) 0))with
  |true=>exact⟨zU _,by lia,h,.inr hc⟩
  |false =>
   (try dsimp only);rw[zC zE]
   refine Ok.mono (λr hr=>?_) (X5 a hn f (m+1) (by lia) (h.step h1 hc));exact⟨by lia,by lia,hr.2.2.1,hr.2.2.2.imp (λe=>by lia) id⟩
theorem lf{p:Array Nat}{i j:Nat}(hj:j<=p.size)(he:∀k,i<=k->k<j->K key p k=K key p (j-1))(k:Nat):K key (kas_rev p i j) k=K key p k:=by
 rw[Op hj];split
 ·rw[he _ (by lia) (by lia),he k (by lia) (by lia)]
 ·rfl
theorem qg{p:Array Nat}(a:All n p)(i j:Nat):All n (kas_rev p i j):=a.of (mirror_perm _ _ _ _)
theorem m5(hn:0<n):∀(f:Nat)(p:Array Nat)(m q:Nat),All n p->1<=m->m+f<=n->q+1<=m->Dn key p m->(∀k,m-(q+1)<=k->k<m->K key p k=K key p (m-1)) ->
  Ok key n (kas_desc f p m q) λr=>All n r.1/\m<=r.2.1/\r.2.1<=m+f/\r.2.2+1<=r.2.1/\Dn key r.1 r.2.1/\∀k,r.2.1-(r.2.2+1)<=k->k<r.2.1->K key r.1 k=K key r.1 (r.2.1-1)
 |0,p,m,q,a,h1,hf,hq,hd,he=>⟨a,zU _,zU _,hq,hd,he⟩
 |f+1,p,m,q,a,h1,hf,hq,hd,he=>by
  refine⟨a.lt hn _,a.lt hn _,?_⟩;cases hc:O.blt (key (p.getD m 0)) (key (p.getD (m-1) 0))with
  |true =>
   (try dsimp only);rw[yV rfl]
   have eF:Dn key p (m+1):=hd.step h1 (sO hc);split
   ·have gF:=lf (key:=key) (p:=p) (i:=m-(q+1)) (j:=m) (by rw[a.size];lia) he;refine Ok.mono (λr hr=>⟨hr.1,by lia,by lia,hr.2.2.2⟩) (m5 hn f (kas_rev p (m-(q+1)) m) (m+1) 0 (qg a _ _) (by lia) (by lia) (by lia) (λi j iU hj=>?_) λk h1 h2=>?_)
    ·rw[gF,gF];exact eF i j iU hj
    ·have:k=m+1-1:=by lia
     rw[this]
   ·refine Ok.mono (λr hr=>⟨hr.1,by lia,by lia,hr.2.2.2⟩) (m5 hn f p (m+1) 0 a (by lia) (by lia) (by lia) eF λk h1 h2=>?_);have:k=m+1-1:=by lia
    rw[this]
  |false =>
   (try dsimp only);rw[zC zE]
   refine⟨a.lt hn _,a.lt hn _,?_⟩;cases cT:O.blt (key (p.getD (m-1) 0)) (key (p.getD m 0))with
   |true =>
    (try dsimp only);rw[yV rfl]
    exact⟨a,zU _,(by show m<=m+(f+1);lia),hq,hd,he⟩
   |false =>
    (try dsimp only);rw[zC zE]
    have A1:K key p m=K key p (m-1):=O.total _ _ hc cT;refine Ok.mono (λr hr=>⟨hr.1,by lia,by lia,hr.2.2.2⟩) (m5 hn f p (m+1) (q+1) a (by lia) (by lia) (by lia) (hd.step h1 (by rw[A1];exact vX _)) λk h1 h2=>?_);rw[show m+1-1=m by lia]
    by_cases e:k=m
    ·rw[e]
    ·rw[he k (by lia) (by lia),A1]
def Run(key:Nat->O.α)(n:Nat)(r:Nat×Array Nat):Prop:=All n r.2/\1<=r.1/\r.1<=n/\Up key r.2 r.1
theorem aj(hn:0<n){p:Array Nat}{m:Nat}(a:All n p)(h1:1<=m)(hm:m<=n)(hd:Dn key p m):Ok key n (kas_tail3 m n p) (Run key n):=by
 unfold kas_tail3;refine Ok.bind (Ok.mono (λr hr=>?_) (X5 (qg a 0 m) hn (n-m) m h1 λi j iU hj=>?_))
 ·exact⟨qg a 0 m,by lia,by lia,hr.2.2.1⟩
 ·have hs:m<=p.size:=by rw[a.size];exact hm
  rw[Op hs,Op hs,yV ⟨by lia,by lia⟩,yV ⟨by lia,by lia⟩];exact hd _ _ (by lia) (by lia)
theorem oh(hn:0<n){p:Array Nat}{m:Nat}(a:All n p)(h1:1<=m)(hm:m<n)(hd:Dn key p (m+1)):Ok key n (kas_descPart m n p) (Run key n):=by
 unfold kas_descPart;refine Ok.bind (Ok.mono (λr hr=>?_) (m5 hn (n-(m+1)) p (m+1) 0 a (by lia) (by lia) (by lia) hd λk h1 h2=>by rw[show k=m+1-1 by lia]));obtain⟨r1,r2,r3⟩:=r;obtain⟨a',b1,b2,b3,b4,b5⟩:=hr;dsimp only at a' b1 b2 b3 b4 b5 ⊢;split
 ·have gF:=lf (key:=key) (p:=r1) (i:=r2-(r3+1)) (j:=r2) (by rw[a'.size];lia) b5;exact aj hn (qg a' _ _) (by lia) (by lia) λi j iU hj=>by rw[gF,gF];exact b4 i j iU hj
 ·exact aj hn a' (by lia) (by lia) b4
theorem Qp{p:Array Nat}(a:All n p)(hn:0<n):Ok key n (kas_count n p) (Run key n):=by
 unfold kas_count;refine Ok.bind (Ok.mono (λr hr=>?_) (X5 a hn (n-1) 1 (zU _) λi j iU hj=>by
  have:i=j:=by lia
  subst this;exact vX _))
 obtain⟨h1,h2,h3,h4⟩:=hr
 by_cases e:r=n
 ·subst e;simp only[uQ,if_true];exact⟨a,h1,zU _,h3⟩
 ·have e':(r==n)=false:=by simpa using e
  simp only[e',Bool.false_eq_true,if_false];have aI:r<n:=by lia
  have hdn:O.klt (K key p r) (K key p (r-1)):=by
   rcases h4 with h4|h4
   ·lia
   ·exact h4
  split
  ·refine⟨a.lt hn _,a.lt hn _,?_⟩;cases hc:O.blt (key (p.getD 0 0)) (key (p.getD (r-1) 0))with
   |true =>
    (try dsimp only);rw[yV rfl]
    exact⟨a,h1,by lia,h3⟩
   |false =>
    (try dsimp only);rw[zC zE]
    have A1:∀k,0<=k->k<r->K key p k=K key p (r-1):=λk _ hk=>by
     refine KeyOrd.kle_antisymm (h3 k (r-1) (by lia) (by lia)) ?_;exact tS (show O.kle (K key p (r-1)) (K key p 0)from hc) (h3 0 k (by lia) hk)
    have gF:=lf (key:=key) (p:=p) (i:=0) (j:=r) (by rw[a.size];lia) A1;refine oh hn (qg a 0 r) h1 aI λi j iU hj=>?_;rw[gF,gF]
    by_cases ej:j=r
    ·subst ej
     by_cases ei:i=j
     ·subst ei;exact vX _
     ·rw[A1 i (by lia) (by lia)];exact sO hdn
    ·rw[A1 i (by lia) (by lia),A1 j (by lia) (by lia)];exact vX _
  ·have kG:r=1:=by lia
   subst kG;refine oh hn a (zU _) aI λi j iU hj=>?_
   by_cases ei:i=j
   ·subst ei;exact vX _
   ·have hi:i=0:=by lia
    have hj:j=1:=by lia
    subst hi hj;exact sO hdn
theorem kq{p:Array Nat}(a:All n p)(hn:0<n)(k:Nat)(hk:k<n)(hu:Up key p k):∀(f l r:Nat),l<=r->r<=k->r-l<=f->(∀i,i<l->O.kle (K key p i) (K key p k))->(∀i,r<=i->i<k->O.klt (K key p k) (K key p i)) ->
  Ok key n (kas_place p k f l r) λl'=>l'<=k/\(∀i,i<l'->O.kle (K key p i) (K key p k))/\(∀i,l'<=i->i<k->O.klt (K key p k) (K key p i))
 |0,l,r,h1,h2,h3,h4,h5=>⟨by lia,h4,λi hi=>h5 i (by lia)⟩
 |f+1,l,r,h1,h2,h3,h4,h5=>by
  unfold kas_place;split
  ·exact⟨by lia,h4,λi hi=>h5 i (by lia)⟩
  ·refine⟨a.lt hn _,a.lt hn _,?_⟩;cases hc:O.blt (key (p.getD k 0)) (key (p.getD ((l+r) / 2) 0))with
   |true =>
    (try dsimp only);rw[yV rfl]
    exact kq a hn k hk hu f l ((l+r) / 2) (by lia) (by lia) (by lia) h4 λi hi hik=>KeyOrd.klt_of_klt_of_kle hc (hu _ _ hi hik)
   |false =>
    (try dsimp only);rw[zC zE]
    exact kq a hn k hk hu f ((l+r) / 2+1) r (by lia) h2 (by lia) (λi hi=>tS (hu i ((l+r) / 2) (by lia) (by lia)) (show O.kle (K key p ((l+r) / 2)) (K key p k)from hc)) h5
theorem Qm(hn:0<n):∀(f:Nat)(p:Array Nat)(k:Nat),All n p->k+f=n->Up key p k->Ok key n (kas_bin f p k) λr=>All n r/\Up key r n
 |0,p,k,a,hk,hu=>⟨a,by rw[<-hk];exact hu⟩
 |f+1,p,k,a,hk,hu=>by
  have hkn:k<n:=by lia
  refine Ok.bind (Ok.mono (λl hl=>?_) (kq a hn k hkn hu k 0 k (yR _) (zU _) (by lia) (λi hi=>by lia) (λi h1 h2=>by lia)));obtain⟨hlk,CG,lK⟩:=hl;have hs:k<p.size:=by rw[a.size];exact hkn
  refine Qm hn f (bubble p k (k-l)) (k+1) (a.of (bubble_perm _ _ _)) (by lia) λi j iU hj=>?_;rw[Lk hs (by lia),Lk hs (by lia),show k-(k-l)=l by lia]
  by_cases ei:i=l
  ·rw[yV ei]
   by_cases ej:j=l
   ·rw[yV ej];exact vX _
   ·rw[zC ej,yV ⟨by lia,by lia⟩];exact sO (lK _ (by lia) (by lia))
  ·rw[zC ei]
   by_cases ei2:l<i/\i<=k
   ·rw[yV ei2,zC (by lia),yV ⟨by lia,by lia⟩];exact hu _ _ (by lia) (by lia)
   ·rw[zC ei2];have Bb:i<l:=by lia
    by_cases ej:j=l
    ·rw[yV ej];exact CG i Bb
    ·rw[zC ej]
     by_cases ej2:l<j/\j<=k
     ·rw[yV ej2];exact hu _ _ (by lia) (by lia)
     ·rw[zC ej2];exact hu _ _ iU (by lia)
theorem ok_sort(hn:0<n):Ok key n (kas_sort n) λr=>All n r/\Up key r n:=by
 unfold kas_sort;have a0:All n (List.toArray (List.range n)):=⟨.rfl⟩
 refine Ok.bind (Ok.mono (λr hr=>?_) (Qp a0 hn));obtain⟨m,p⟩:=r;obtain⟨a,h1,h2,h3⟩:=hr;dsimp only at a h1 h2 h3 ⊢;split
 ·rw[show max m 1=m by lia];exact Qm hn (n-m) p m a (by lia) h3
 ·have:m=n:=by lia
  subst this;exact⟨a,h3⟩
end Srt
end My
namespace My
open PySem PySem.Spec PySem.W PySem.Calls
open PyProof.Rows hiding St
section
variable {prog:Program}{w:World}{A:Around}{E:Value->Shared->Prop}{s:Shared}
theorem uk{D:Addr}{vs:List Value}{n0:Nat}{P:PySem.Fin->Shared->Prop}(ho:s.heap.get? D=some (seqObj "list" vs.toArray n0))(mD:vs.length<64){O:KeyOrd}(key:Nat->O.α)(κ:SortKind)
  (hk:2<=vs.length->∀(s1:Shared)(Q':SortKind->Shared->Prop)(E':Value->Shared->Prop),(∀b o,b≠D->s.heap.get? b=some o->s1.heap.get? b=some o)->Q' κ s1->wpAny (model prog w) A (keyKind' vs.toArray) Q' E' s1)
  (hc:∀(s1:Shared)(i j:Nat)(C:Bool->Shared->Prop)(E':Value->Shared->Prop),(∀b o,b≠D->s.heap.get? b=some o->s1.heap.get? b=some o)->i<vs.length->j<vs.length->C (O.blt (key i) (key j)) s1->wpAny (model prog w) A (keyLt' κ (vs.getD i Value.none) (vs.getD j Value.none)) C E' s1)
  (h:∀(p:Array Nat)(h':Heap)(e:Nat),Srt.All vs.length p->Srt.Up key p vs.length->(∀b o,b≠D->s.heap.get? b=some o->h'.get? b=some o)->h'.get? D=some (seqObj "list" (p.toList.map λi=>vs.getD i Value.none).toArray e)->P (.done (.ret .none)) { s with heap:=h' }) :
  wpAny (model prog w) A (Builtin.«list.sort» ⟨[.ref D],[]⟩) P E s:=by
 have hD:D<s.heap.objs.size:=zQ ho;obtain⟨e1,EI⟩:∃e1,(s.heap.update D (Obj.mapSeq λ_=>(#[]:Array Value))).get? D=some (seqObj "list" #[] e1):=⟨_,uH ho λ_=>#[]⟩
 rw[list_sort_plain];refine zZ (rY ho rfl (zZ (uU ho rfl (zZ (seqEpoch_at EI rfl (zZ (sK (zZ (tJ (xS ?_) (yR _))) (by show vs.length<=_;rw[zM];lia))))) (by rw[zL,zM];lia) (yR _))));generalize hH:((s.heap.update D (Obj.mapSeq λ_=>(#[]:Array Value))).push (seqObj "tuple" vs.toArray 0)).push (seqObj "list" #[] 0)=H3;have keep:∀b o,b≠D->s.heap.get? b=some o->H3.get? b=some o:=λb o hb e=>by
  rw[<-hH];exact zX _ (zX _ ((yN _ _ (wU hb)).trans e))
 have EG:H3.get? D=some (seqObj "list" #[] e1):=by
  rw[<-hH];exact zX _ (zX _ EI)
 have aU:∀(p:Array Nat),Srt.All vs.length p->Srt.Up key p vs.length->P (.done (.ret .none)) { s with heap:=H3.update D (Obj.mapSeq λ_=>List.toArray (p.toList.map λi=>vs.getD i Value.none)) }:=λp hp hu =>
  h p _ _ hp hu (λb o hb e=>(yN _ _ (wU hb)).trans (keep b o hb e)) (uH EG λ_=>List.toArray (p.toList.map λi=>vs.getD i Value.none))
 refine(show wpAny (model prog w) A _ P E { s with heap:=H3 }from ?_);dsimp only;have hsz:vs.toArray.size=vs.length:=zL
 by_cases h2:vs.toArray.size<2
 ·rw[yV h2,yV h2];refine zZ (zV ?_);rw[StateT.run_pure];refine zZ (zV ?_);dsimp only;have A0:(arrOf (SortSt.mk' general' (vs.toArray.zip vs.toArray) #[] 7 none)).map (·.2)=List.toArray ((List.range vs.length).map λi=>vs.getD i Value.none):=by
   show(vs.toArray.zip vs.toArray).map (·.2)=_;apply wC.mp;apply vH
   ·simp
   ·intro i a1 a2;have hi:i<vs.length:=by simpa using a2
    simp[hi]
  refine zZ (seqEpoch_at EG rfl ?_);rw[A0];refine zZ (uU EG rfl ?_ (yR _) (by rw[zL,zY,xY,zM];lia));simp only[bne_self_eq_false,Bool.false_eq_true,if_false];refine zV ?_;have:=aU (List.toArray (List.range vs.length)) ⟨.rfl⟩ λi j iU hj=>by
   have:i=j:=by lia
   subst this;exact vX _
  exact this
 ·rw[zC h2,zC h2];have fU:2<=vs.length:=by lia
  refine zZ (hk fU { s with heap:=H3 } _ _ keep ?_);have ask:(kas_sort vs.length).kasWp (kas_ask prog w A κ vs) (λp s'=>s'={ s with heap:=H3 }/\Srt.All vs.length p/\Srt.Up key p vs.length) { s with heap:=H3 } :=
   Srt.Ok.wp (λi j C hi hj q=>hc { s with heap:=H3 } i j C _ keep hi hj q) (λp hp=>⟨rfl,hp.1,hp.2⟩) (Srt.ok_sort (by lia))
  refine zZ (xT (kat_run (Q:=λfB s'=>∃p:Array Nat,arrOf fB=p.map (kas_item (vs.toArray.zip vs.toArray))/\failedOf fB=none/\s'={ s with heap:=H3 }/\Srt.All vs.length p/\Srt.Up key p vs.length) rfl fU mD (λp fB s' _ a2 a3 a4=>⟨p,a2,a3,a4⟩) ask) ?_ λ_ _ e=>e);rintro⟨⟨⟩,fB⟩ s' ⟨p,har,hf,rfl,hp,hu⟩;dsimp only;rw[kat_snds rfl har];refine zZ (seqEpoch_at EG rfl (zZ (uU EG rfl ?_ (yR _) ?_)))
  ·rw[hf];simp only[bne_self_eq_false,Bool.false_eq_true,if_false];exact zV (aU p hp hu)
  ·have:=hp.size;rw[zL,zY,xD,this,zM];lia
end
end My
namespace My
open PySem PySem.Spec PySem.W PySem.Calls
open PyProof.Rows hiding St
def xc:List Bool->List Bool->Bool
 |[],[]=>false
 |[],_::_=>true
 |_::_,[]=>false
 |a::x,b::y=>if a=b then xc x y else !a&&b
theorem nz:∀a,xc a a=false
 |[]=>rfl
 |a::x=>by rw[xc,yV rfl];exact nz x
theorem kd:∀a b c,xc a b=true->xc b c=true->xc a c=true
 |[],[],_,h,_=>by simp[xc]at h
 |[],_::_,[],_,h=>by simp[xc]at h
 |[],_::_,_::_,_,_=>rfl
 |_::_,[],_,h,_=>by simp[xc]at h
 |_::_,_::_,[],_,h=>by simp[xc]at h
 |a::x,b::y,c::z,h1,h2=>by
  have ih:=kd x y z;cases a<;>cases b<;>cases c<;>simp[xc]at h1 h2 ⊢<;>exact ih h1 h2
theorem Z0:∀a b c,xc a c=true->xc a b=true\/xc b c=true
 |[],[],[],h=>by simp[xc]at h
 |[],[],_::_,_=>.inr rfl
 |[],_::_,_,_=>.inl rfl
 |_::_,_,[],h=>by simp[xc]at h
 |_::_,[],_::_,_=>.inr rfl
 |a::x,b::y,c::z,h=>by
  have ih:=Z0 x y z;cases a<;>cases b<;>cases c<;>simp[xc]at h ⊢<;>exact ih h
theorem qr:∀a b,xc a b=false->xc b a=false->a=b
 |[],[],_,_=>rfl
 |[],_::_,h,_=>by simp[xc]at h
 |_::_,[],_,h=>by simp[xc]at h
 |a::x,b::y,h1,h2=>by
  have ih:=qr x y;cases a<;>cases b<;>simp[xc]at h1 h2 ⊢<;>exact ih h1 h2
def Fg:KeyOrd where
 α:=List Bool
 blt:=xc
 irrefl:=nz
 trans:=kd
 negTrans:=Z0
 total:=qr
section
variable {prog:Program}{w:World}{A:Around}{E:Value->Shared->Prop}{s:Shared}
theorem Kd{a b:Bool}{Q:Bool->Shared->Prop}(h:Q (decide (b2i a<b2i b)) s):wpAny (model prog w) A (oneLt' true (.bool a) (.bool b)) Q E s:=by
 rw[oneLt'_eq];simp only[if_true];refine zZ (wpAny_cRoomFor_byValue rfl (zZ (wpAny_callSpecialIfBound?_slot (T:="bool") rfl F.slot_bool_lt (call_gives F.slot_bool_lt rfl F.entry_int_lt (F.args_int_lt_2 _ _) (gives_int_lt_bools a b) ?_))));exact vO h
theorem W4{a b:Bool}(h:a≠b):decide (b2i a<b2i b)=(!a&&b):=by cases a<;>cases b<;>first|rfl|exact absurd rfl h
theorem qc:∀{k:List Bool}{vs:List Value},ItemsAre (jq prog w) k vs->vs=k.map Value.bool
 |_,_,.nil=>rfl
 |_,_,.cons h r=>by rw[wy h,qc r];rfl
theorem Pz(b aU:Bool){Q:Bool->Shared->Prop}:∀(x y:List Bool)(i:Nat),aU=decide (x.length<y.length)->Q (xc x y) s->KatLex prog w A b aU Q ((x.map Value.bool).zip (y.map Value.bool)) i s
 |[],[],i,hf,h=>kat_nil (by rw[hf];exact h)
 |[],_::_,i,hf,h=>kat_nil (by rw[hf];simpa[xc]using h)
 |_::_,[],i,hf,h=>kat_nil (by rw[hf];simpa[xc]using h)
 |a::x,c::y,i,hf,h=>by
  refine kat_cons (tZ a c _ _ _ _ ?_)
  by_cases e:a=c
  ·subst e;have e2:(a==a)=true:=by simp
   rw[e2];refine kat_yes (Pz b aU x y (i+1) (by rw[hf];simp) ?_);rw[xc,yV rfl]at h;exact h
  ·have e2:(a==c)=false:=by simpa using e
   rw[e2];refine kat_no ?_;rw[xc,zC e]at h;cases hb:(b&&i==0)with
   |true=>exact Kd (by rw[W4 e];exact h)
   |false=>exact kat_one _ _ (lt_bool (by rw[W4 e];exact h))
theorem Mu{x y:Addr}{kx ky:List Bool}(b:Bool){C:Bool->Shared->Prop}(hx:Bt prog w s.heap kx x)(hy:Bt prog w s.heap ky y)(h:C (xc kx ky) s):wpAny (model prog w) A (keyLt' (tuples' b) (.ref x) (.ref y)) C E s:=by
 obtain⟨ox,ix,nx,e1,_,d1,i1⟩:=hx;obtain⟨oy,iy,ny,e2,_,d2,i2⟩:=hy;refine kat_lt e1 d1 e2 d2 ?_;have h1:=qc i1;have h2:=qc i2;have l1:ix.size=kx.length:=by rw[<-xD,h1,zY]
 have l2:iy.size=ky.length:=by rw[<-xD,h2,zY]
 rw[h1,h2,l1,l2];exact Pz b _ kx ky 0 rfl h
theorem nq:∀(R:List (Addr×List Bool)),(∀r∈R,Bt prog w s.heap r.2 r.1/\r.2≠[])->∃fs:List Value,KatTups s.heap (R.map λr=>Value.ref r.1) fs/\fs.length=R.length/\∀v∈fs,∃b,v = .bool b
 |[],_=>⟨[],.nil,rfl,λv hv=>by simp at hv⟩
 |r::R,h=>by
  obtain⟨fs,h1,h2,h3⟩:=nq R λq hq=>h q (zH _ hq);obtain⟨⟨o,aD,n,ho,hc,hd,hi⟩,aZ⟩:=h r zG;have e:=qc hi;cases hk:r.2 with
  |nil=>exact absurd hk aZ
  |cons b k =>
   rw[hk,List.map_cons]at e;refine⟨.bool b::fs,KatTups.cons ho hc hd (by rw[<-vW,e];rfl) h1,by simp[h2],λv hv=>?_⟩;rcases zI.mp hv with rfl|hv
   ·exact⟨b,rfl⟩
   ·exact h3 v hv
theorem U2{D:Addr}{R:List (Addr×List Bool)}{n0:Nat}{P:PySem.Fin->Shared->Prop}(ho:s.heap.get? D=some (seqObj "list" (R.map λr=>Value.ref r.1).toArray n0))(hR:∀r∈R,Bt prog w s.heap r.2 r.1/\r.2≠[])(mD:R.length<64)
  (h:∀(R':List (Addr×List Bool))(h':Heap)(e:Nat),R'.Perm R->(R'.map (·.2)).Pairwise (λa b=>xc b a=false)->(∀b o,b≠D->s.heap.get? b=some o->h'.get? b=some o)->h'.get? D=some (seqObj "list" (R'.map λr=>Value.ref r.1).toArray e)->P (.done (.ret .none)) { s with heap:=h' }) :
  wpAny (model prog w) A (Builtin.«list.sort» ⟨[.ref D],[]⟩) P E s:=by
 have hl:(R.map λr=>Value.ref r.1).length=R.length:=zY _;have tup:∀{h':Heap},(∀b o,b≠D->s.heap.get? b=some o->h'.get? b=some o)->∀r∈R,Bt prog w h' r.2 r.1/\r.2≠[]:=λ{h'} k r hr=>by
  obtain⟨⟨o,aD,n,e,hc,hd,hi⟩,aZ⟩:=hR r hr;refine⟨⟨o,aD,n,k _ _ (λz=>?_) e,hc,hd,hi⟩,aZ⟩;rw[z]at e;have:=xK Obj.cls (yX (e.symm.trans ho));rw[hc]at this;simp at this
 refine uk (O:=Fg) ho (by rw[hl];exact mD) (λi=>(R.getD i (0,[])).2) (tuples' true) (λh2 s1 Q' E' k q=>?_) (λs1 i j C E' k hi hj q=>?_) λp h' e ha hu k eD=>?_
 ·obtain⟨fs,h1,fU,h3⟩:=nq (s:=s1) R (tup k);refine kat_kind (T:=.type "bool") h1 (by rw[fU];rw[hl]at h2;lia) (λv hv=>?_) rfl q;obtain⟨b,rfl⟩:=h3 v hv;exact Looks.of_pure rfl
 ·rw[hl]at hi hj;have e1:(R.map λr=>Value.ref r.1).getD i Value.none = .ref (R.getD i (0,[])).1:=by simp[hi]
  have e2:(R.map λr=>Value.ref r.1).getD j Value.none = .ref (R.getD j (0,[])).1:=by simp[hj]
  have m1:R.getD i (0,[])∈R:=by simp[hi]
  have m2:R.getD j (0,[])∈R:=by simp[hj]
  rw[e1,e2];exact Mu true (tup k _ m1).1 (tup k _ m2).1 q
 ·rw[hl]at ha hu;have hp:(p.toList.map λi=>R.getD i (0,[])).Perm R:=by
   have h1:=ha.pm.map λi=>R.getD i (0,[]);have h2:(List.range R.length).map (λi=>R.getD i (0,[]))=R:=by
    apply vH
    ·simp
    ·intro i a1 a2;simp[a2]
   rw[h2]at h1;exact h1
  refine h (p.toList.map λi=>R.getD i (0,[])) h' e hp ?_ k ?_
  ·rw[yF,yE];intro i j hi hj iU;have bT:i<p.size:=by simpa using hi
   have qD:j<p.size:=by simpa using hj
   have:=hu i j (xW iU) (by rw[<-ha.size];exact qD);have g1:p.getD i 0=p[i]:=by simp[Array.getD,bT]
   have g2:p.getD j 0=p[j]:=by simp[Array.getD,qD]
   unfold Srt.K at this;rw[g1,g2]at this;have h9:xc (R.getD p[j] (0,[])).2 (R.getD p[i] (0,[])).2=false:=this;simpa using h9
  ·rw[eD,yF]
   congr 3
   apply tP;intro i hi;have bT:i<R.length:=yH.mp (ha.pm.mem_iff.mp hi);simp[bT]
end
end My
namespace My
open PySem PySem.Spec PySem.W PySem.Calls L2
open PyProof.Rows hiding St
section
open Tb
theorem Wv:∀{vs:List Value}{ss:List Str},StrsAre vs ss->∀(i:Nat)(v:Value),vs[i]?=some v->∃x t,ss[i]?=some x/\v = .str x t
 |_,_,.nil,i,v,h=>by simp at h
 |_,_,.cons x t r,0,v,h=>⟨x,t,rfl,by simpa using h.symm⟩
 |_,_,.cons x t r,i+1,v,h=>by
  obtain⟨y,u,h1,h2⟩:=Wv r i v (by simpa using h);exact⟨y,u,by simpa using h1,h2⟩
section
variable {X:Cx}
theorem Zw{pins:List (Addr×Obj)}{σ:St}{H:Hp}{s:Shared}(I:Inv X pins σ H s)(d:Drawn):Inv X pins σ H { s with drawn:=d }:=⟨I.ok,I.os,I.bare,I.base,I.loc,I.cell,I.free,I.freeC,I.pin,I.hok,I.len⟩
theorem Oi(hc:X.calm=true){pins:List (Addr×Obj)}{σ:St}{H:Hp}{s:Shared}(I:Inv X pins σ H s){p:Addr}{ss:List Str}{Q:VK}(hq:SqL X.K H p (ss.map V.str)\/SqT X.K H p (ss.map V.str))(aH:ss.length+1<scanBound)(mD:∀bS:List Str,bS.Nodup->(∀x∈bS,x∈ss)->bS.length<64)
  (q:∀bS:List Str,bS.Nodup->(∀x,x∈bS↔x∈ss)->sortedS bS=true->New H (.lst (bS.map V.str)) Q) :
  wpAny (model X.prog X.w) X.A (call (.type "set") [.ref p]) (λu s'=>wpAny (model X.prog X.w) X.A (call (.builtin "sorted") [u]) (EP X pins σ Q) X.xe s') X.xe s:=by
 obtain⟨aD,rv,pl⟩:∃aD:List Value,Vals (ss.map V.str) aD/\(s.heap.IsList p aD.toArray\/s.heap.IsTuple p aD.toArray):=by
  rcases hq with hq|hq
  ·obtain⟨aD,rv,pl,_⟩:=I.list hq;exact⟨aD,rv,.inl pl.isList⟩
  ·obtain⟨aD,rv,pl,_⟩:=I.tuple hq;exact⟨aD,rv,.inr pl⟩
 have fR:=ip rv;have Bb:aD.length=ss.length:=by rw[<-rv.length,zY]
 have hh:X.A.handled=none:=I.ok.hd hc;refine La hh pl (λi h=>∃es ep t,h.get? s.heap.objs.size=some (yk es ep t)/\t.fits es.size=true/\t.led=!byT X.w/\(es.size≠0->t.plain=false)/\GoodS X.w es.toList (ss.take i)/\es.size<=i) ?_ ?_ ?_ ?_
 ·rintro i h h' ⟨es,ep,t,e,r⟩ k;exact⟨es,ep,t,k _ _ (zF (yB _)) e,r⟩
 ·refine⟨#[],0,_,zR _ rfl,rfl,rfl,λz=>absurd rfl z,⟨λe he=>by simp at he,λx hx=>by simp at hx,.nil⟩,zU _⟩
 ·rintro i v A' s' Q' E' hu hv ⟨es,ep,t,e,f,l,pn,g,le⟩ qq;have mZ:aD[i]?=some v:=by simpa using hv
  obtain⟨x,tok,hx,rfl⟩:=Wv fR i v mZ;have hi:i<ss.length:=(zW.mp hx).1;refine add_str e f g (by lia) pn λb h' tk cJ kM t' e' sb f' l' pn' g' le'=>qq b h' tk sb ⟨cJ,kM,t',e',f',l'.trans l,pn',?_,by lia⟩;rw[yY,hx];exact g'
 ·rintro h' tk ⟨es,ep,t,e,f,l,pn,g,le⟩ keep;have Az:aD.toArray.size=ss.length:=by rw[zL,Bb]
  rw[Az,zB]at g;rw[Az]at le;have nA:t.plain=true->t.place.toList.Pairwise (·<·):=λhp=>by
   have h0:es.size=0:=xJ λz=>by rw[pn z]at hp;cases hp
   have:=Zq f;have h1:t.place.toList=[]:=wE.mp (by rw[xD,this,h0]);rw[h1];exact .nil
  have BH:es.size<=sizeLine:=fits_of_scanBound (by lia);refine lx (s:={ s with heap:=h',toks:=tk }) hh e f l nA BH λD h2 d tk2 ws hp oJ hD eD=>?_;have AW:∀v,v∈ws->∃x t,v = .str x t:=λv hv=>by
   obtain⟨e1,eU,rfl⟩:=zD.mp (hp.mem_iff.mp hv);obtain⟨x,t,_,rfl⟩:=g.in1 e1 eU;exact⟨x,t,rfl⟩
  have hS:=strsAre_map ws AW;have dA:∀x,x∈ws.map strOf↔x∈ss:=λx=>by
   constructor
   ·intro hx;obtain⟨v,hv,rfl⟩:=zD.mp hx;obtain⟨e1,eU,rfl⟩:=zD.mp (hp.mem_iff.mp hv);obtain⟨y,t,hy,rfl⟩:=g.in1 e1 eU;exact hy
   ·intro hx;obtain⟨t,ht⟩:=g.in2 x hx;exact zD.mpr ⟨.str x t,hp.mem_iff.mpr (zD.mpr ⟨_,ht,rfl⟩),rfl⟩
  have lX:(ws.map strOf).Nodup:=by
   have h1:(es.toList.map (·.2)).Pairwise λv v'=>∀x t t',v = .str x t->v'≠.str x t':=wB.mpr g.one;have h2:=(hp.pairwise_iff (λ{a b} kX x t t' z1 z2=>kX x t' t z2 z1)).mpr h1;refine wB.mpr (uV (λ{a b} ha hb kX=>?_) h2);obtain⟨x,t,rfl⟩:=AW a ha;obtain⟨y,t',rfl⟩:=AW b hb;intro z;have z':x=y:=z;subst z';exact kX x t t' rfl rfl
  have EQ:ws.length<64:=by
   have:=mD _ lX λx hx=>(dA x).mp hx
   rwa [zY]at this
  refine xV sJ ⟨_,eD,rfl⟩ tF (list_sort_treeK strKind_oneLt eD hS.keysOf (λv₁ v₂ rest e=>keyKind_strs (by rw[<-e];exact hS)) EQ λfB a1 a2=>⟨_,rfl,?_⟩) (args_list_sort _);obtain⟨bS,b1,b2,b3⟩:=sorted_out_str hS a1 a2;have A5:s.heap.objs.size<=D:=yT (xW (zQ e)) hD;obtain⟨e2,Bf⟩:=sortedHeap_at (out:=(arrOf fB).map (·.2)) eD;have hn:H D=none:=I.hok.fresh A5;refine⟨.ref D,upd H D (.lst (bS.map V.str)),?_,rfl,(q bS (b2.nodup_iff.mpr lX) (λx=>(b2.mem_iff).trans (dA x)) b3).at D hn⟩;refine(Zw I d).laid (t':=tk2) (λb o eb=>?_) A5 ⟨?_,((arrOf fB).map (·.2)).toList,e2,ik b1,by rw[Array.toArray_toList];exact Bf⟩
  ·have FA:b<s.heap.objs.size:=zQ eb;have eb2:=oJ b o (keep b o eb);rw[sortedHeap_old (zF (zA FA A5)) (zQ eb2)];exact eb2
  ·rw[zY,b2.length_eq,zY];exact xW (zA EQ (by decide))
end
end
section
open Tb
theorem Zx{prog:Program}{w:World}:∀k:List Bool,ItemsAre (jq prog w) k (k.map Value.bool)
 |[]=>.nil
 |b::k=>.cons (by show Tq b (.bool b)=true;simp[Tq]) (Zx k)
section
variable {X:Cx}
theorem F2{pins:List (Addr×Obj)}{σ:St}{H:Hp}{s:Shared}(I:Inv X pins σ H s){a:Addr}{k:List Bool}(h:SqT X.K H a (k.map V.bl)):Bt X.prog X.w s.heap k a:=by
 obtain⟨aD,rv,⟨o,e,hc,n,d⟩,_⟩:=I.tuple h;have:=ut rv;subst this;exact⟨o,_,n,e,hc,d,Zx k⟩
theorem ph:∀{as:List Addr}{us:List Value},Vals (as.map V.ref) us->us=as.map Value.ref
 |[],us,r=>by cases r;rfl
 |a::as,us,r=>by
  rw[List.map_cons]at r;cases r with
  |cons r1 r2 =>
   cases r1;rw[ph r2]
   rfl
theorem sj:∀(as:List Addr),Vals (as.map V.ref) (as.map Value.ref)
 |[]=>.nil
 |a::as=>.cons rfl (sj as)
theorem Oh(hc:X.calm=true)(hu:X.A.units+64<cLine){pins:List (Addr×Obj)}{σ:St}{H:Hp}{s:Shared}(I:Inv X pins σ H s){p:Addr}{R:List (Addr×List Bool)}{Q:VK}(hq:SqL X.K H p (R.map λr=>V.ref r.1))(hR:∀r∈R,SqT X.K H r.1 (r.2.map V.bl)/\r.2≠[])(mD:R.length<64)
  (q:∀R':List (Addr×List Bool),(∀r∈R',r∈R)->(R'.map (·.2)).Nodup->(∀k,k∈R'.map (·.2)↔k∈R.map (·.2))->(R'.map (·.2)).Pairwise (λa b=>xc b a=false)->R'.length<=R.length->New H (.lst (R'.map λr=>V.ref r.1)) Q) :
  wpAny (model X.prog X.w) X.A (call (.type "set") [.ref p]) (λu s'=>wpAny (model X.prog X.w) X.A (call (.builtin "sorted") [u]) (EP X pins σ Q) X.xe s') X.xe s:=by
 obtain⟨aD,rv,pl,hz⟩:=I.list hq;have A8:aD=R.map λr=>Value.ref r.1:=by
  have h1:(R.map λr=>V.ref r.1)=(R.map (·.1)).map V.ref:=by rw[yF];rfl
  rw[h1]at rv;rw[ph rv,yF]
  rfl
 have hBt:∀r∈R,Bt X.prog X.w s.heap r.2 r.1:=λr hr=>F2 I (hR r hr).1;have hh:X.A.handled=none:=I.ok.hd hc;have old:∀{h:Heap},(∀b o,s.heap.get? b=some o->h.get? b=some o)->∀r∈R,Bt X.prog X.w h r.2 r.1:=λ{h} k r hr=>(hBt r hr).mono λo ho=>k _ o ho;refine oj hh pl.isList (λi h=>∃L es ep t,h.get? s.heap.objs.size=some (yk es ep t)/\Rep L es t/\pk L t/\t.led=!byT X.w/\Good X.prog X.w h (L.map (·.2)) ((R.take i).map (·.2))/\L.length<=i/\(∀e∈L.map (·.2),∃r∈R,e.2 = .ref r.1)/\∀r∈R,Bt X.prog X.w h r.2 r.1) ?_ ?_ ?_ ?_
 ·rintro i h h' ⟨L,es,ep,t,e,r,r5,l,g,le,me,ob⟩ k;have kt:∀r∈R,Bt X.prog X.w h' r.2 r.1:=λr hr=>(ob r hr).mono λo ho=>k _ o (λz=>by
   obtain⟨o2,_,_,e2,_⟩:=hBt r hr;have:=zQ e2;rw[z]at this;exact absurd this (sY.mpr (vQ _))) ho
  refine⟨L,es,ep,t,k _ _ (zF (yB _)) e,r,r5,l,?_,le,me,kt⟩;have upE:∀e1 k1,e1∈L.map (·.2)->Elem X.prog X.w h e1 k1->Elem X.prog X.w h' e1 k1:=λe1 k1 eU x=>by
   obtain⟨r1,kG,er1⟩:=me e1 eU;obtain⟨b,eb,hb,qX⟩:=x;rw[er1]at eb;cases eb;exact⟨r1.1,er1,by
    have e3:=(ob r1 kG).inj hb;subst e3;exact kt r1 kG,qX⟩
  have dnE:∀e1 k1,e1∈L.map (·.2)->Elem X.prog X.w h' e1 k1->Elem X.prog X.w h e1 k1:=λe1 k1 eU x=>by
   obtain⟨k2,_,x2⟩:=g.in1 e1 eU;have:=(upE e1 k2 eU x2).inj x;subst this;exact x2
  exact⟨λe1 h1=>let⟨k1,a1,a2⟩:=g.in1 e1 h1;⟨k1,a1,upE e1 k1 h1 a2⟩,λk1 h1=>let⟨e1,a1,a2⟩:=g.in2 k1 h1;⟨e1,a1,upE e1 k1 a1 a2⟩,
   uV (λ{a b} ha hb kX k1 x1 x2=>kX k1 (dnE a k1 ha x1) (dnE b k1 hb x2)) g.one⟩
 ·refine⟨[],#[],0,_,zR _ rfl,⟨rfl,rfl,rfl,.nil,λx hx=>by simp at hx,.inl rfl,by simp⟩,(show 0*5<7*3 by decide),rfl,⟨λe he=>by simp at he,λk hk=>by simp at hk,.nil⟩,zU _,λe he=>by simp at he,old λb o e=>zX _ e⟩
 ·rintro i v A' s' Q' E' C6 hv ⟨L,es,ep,t,e,r,r5,l,g,le,me,ob⟩ qq;rw[A8]at hv;have mZ:(R.map λr=>Value.ref r.1)[i]?=some v:=by simpa using hv
  rw[zT]at mZ;cases lV:R[i]? with
  |none=>rw[lV]at mZ;cases mZ
  |some r1 =>
   rw[lV]at mZ;cases mZ;have hm:=zN lV;have hi:i<R.length:=(zW.mp lV).1;refine Ma (by lia) r r5 (by lia) e g (ob r1 hm) λb h' tk L' cJ kM t' e' sb r' r5' l' pl' g' le' me'=>qq b h' tk sb ⟨L',cJ,kM,t',e',r',r5',l'.trans l,?_,by lia,λe1 eU=>?_,λr2 Ev=>?_⟩
   ·rw[yY,lV,zJ];exact g'
   ·rcases me' e1 eU with z|z
    ·exact me e1 z
    ·exact⟨r1,hm,z⟩
   ·obtain⟨o2,i2,n2,e2,c2,rest⟩:=ob r2 Ev;exact⟨o2,i2,n2,ao e sb _ _ c2 e2,c2,rest⟩
 ·rintro h' tk ⟨L,es,ep,t,e,r,r5,l,g,le,me,ob⟩ keep;have Az:aD.toArray.size=R.length:=by rw[A8,zL,zY]
  rw[Az]at g le;rw[zB]at g;have CP:es.toList=L.map (·.2):=by rw[r.es]
  have B':es.size=L.length:=by rw[r.es];simp
  have nA:t.plain=true->t.place.toList.Pairwise (·<·):=λ_=>by rw[r.pl];exact r.up
  refine lx (s:={ s with heap:=h',toks:=tk }) hh e r.fits l nA (by rw[B',zM];lia) λD h2 d tk2 ws hp oJ hD eD=>?_;rw[CP]at hp;have iR:∀v∈ws,∃r1∈R,v = .ref r1.1:=λv hv=>by
   obtain⟨e1,eU,rfl⟩:=zD.mp (hp.mem_iff.mp hv);exact me e1 eU
  have pick:∀ws:List Value,(∀v∈ws,∃r1∈R,v = .ref r1.1)->∃R1:List (Addr×List Bool),(∀r1∈R1,r1∈R)/\ws=R1.map λr1=>Value.ref r1.1:=by
   intro ws
   induction ws with
   |nil=>exact λ_=>⟨[],by simp,rfl⟩
   |cons v ws ih =>
    intro AW;obtain⟨R1,h1,h2⟩:=ih λv hv=>AW v (zH _ hv);obtain⟨r1,kG,e1⟩:=AW v zG;refine⟨r1::R1,λy hy=>?_,by rw[e1,h2];rfl⟩;rcases zI.mp hy with rfl|hy
    ·exact kG
    ·exact h1 y hy
  obtain⟨R1,oU,ews⟩:=pick ws iR;have lL:∀r1∈R,∀e1∈L.map (·.2),e1.2 = .ref r1.1->Elem X.prog X.w h' e1 r1.2:=λr1 kG e1 eU z=>by
   obtain⟨k1,_,b,eb,hb,qX⟩:=g.in1 e1 eU;rw[z]at eb;cases eb;have:=(ob r1 kG).inj hb;subst this;exact⟨r1.1,z,hb,qX⟩
  have dA:∀k,k∈R1.map (·.2)↔k∈R.map (·.2):=λk=>by
   constructor
   ·intro hk;obtain⟨r1,kG,rfl⟩:=zD.mp hk;exact yG (oU r1 kG)
   ·intro hk;obtain⟨e1,eU,hE⟩:=g.in2 k hk;have hv:e1.2∈ws:=hp.mem_iff.mpr (yG eU);rw[ews]at hv;obtain⟨r1,kG,er1⟩:=zD.mp hv;have:=(lL r1 (oU r1 kG) e1 eU er1.symm).inj hE;exact zD.mpr ⟨r1,kG,this⟩
  have lX:(R1.map (·.2)).Nodup:=by
   have h1:((L.map (·.2)).map (·.2)).Pairwise λv v'=>∀r1∈R,∀r2∈R,v = .ref r1.1->v' = .ref r2.1->r1.2≠r2.2 :=
    wB.mpr (uV (λ{a b} ha hb kX r1 kG r2 Ev z1 z2 z3=>kX r1.2 (lL r1 kG a ha z1) (z3▸lL r2 Ev b hb z2)) g.one)
   have h2:=(hp.pairwise_iff (λ{a b} kX r1 kG r2 Ev z1 z2 z3=>kX r2 Ev r1 kG z2 z1 z3.symm)).mpr h1;rw[ews]at h2;exact wB.mpr (uV (λ{a b} ha hb kX z=>kX a (oU a ha) b (oU b hb) rfl rfl z) (wB.mp h2))
  have hR1l:R1.length=L.length:=by
   have:=hp.length_eq;rw[ews]at this;simpa using this
  rw[ews]at eD;refine xV sJ ⟨_,eD,rfl⟩ tF (U2 (prog:=X.prog) (w:=X.w) eD (λr1 kG=>⟨(ob r1 (oU r1 kG)).mono λo ho=>oJ _ o ho,(hR r1 (oU r1 kG)).2⟩) (by lia) λR2 h3 e3 pm up k3 eD3=>⟨_,rfl,?_⟩) (args_list_sort _);have A5:s.heap.objs.size<=D:=yT (xW (zQ e)) hD;have hn:H D=none:=I.hok.fresh A5;have q2:=q R2 (λr1 kG=>oU r1 (pm.mem_iff.mp kG)) ((pm.map (·.2)).nodup_iff.mpr lX) (λk=>((pm.map (·.2)).mem_iff).trans (dA k)) up (by rw[pm.length_eq];lia);refine⟨.ref D,upd H D (.lst (R2.map λr1=>V.ref r1.1)),?_,rfl,q2.at D hn⟩;refine(Zw I d).laid (t':=tk2) (λb o eb=>?_) A5 ⟨?_,R2.map (λr1=>Value.ref r1.1),e3,?_,eD3⟩
  ·have FA:b<s.heap.objs.size:=zQ eb;exact k3 b o (zF (zA FA A5)) (oJ b o (keep b o eb))
  ·rw[zY,pm.length_eq,zM];lia
  ·have h1:(R2.map λr=>V.ref r.1)=(R2.map (·.1)).map V.ref:=by rw[yF];rfl
   have h2:(R2.map λr=>Value.ref r.1)=(R2.map (·.1)).map Value.ref:=by rw[yF];rfl
   rw[h1,h2];exact sj _
def mSS(K:W.Frag):V->Hp->VK->Prop:=λv H Q=>match v with
 | .ref p=>(∃ss:List Str,(SqL K H p (ss.map V.str)\/SqT K H p (ss.map V.str))/\ss.length+1<scanBound/\(∀bS:List Str,bS.Nodup->(∀x∈bS,x∈ss)->bS.length<64)/\∀bS:List Str,bS.Nodup->(∀x,x∈bS↔x∈ss)->sortedS bS=true->New H (.lst (bS.map V.str)) Q) \/
  ∃R:List (Addr×List Bool),SqL K H p (R.map λr=>V.ref r.1)/\(∀r∈R,SqT K H r.1 (r.2.map V.bl)/\r.2≠[])/\R.length<64 /\
   ∀R':List (Addr×List Bool),(∀r∈R',r∈R)->(R'.map (·.2)).Nodup->(∀k,k∈R'.map (·.2)↔k∈R.map (·.2))->(R'.map (·.2)).Pairwise (λa b=>xc b a=false)->R'.length<=R.length->New H (.lst (R'.map λr=>V.ref r.1)) Q
 |_=>False
theorem Fm{K:W.Frag}{H:Hp}{Q:VK}{p:Addr}:mSS K (.ref p) H Q=((∃ss:List Str,(SqL K H p (ss.map V.str)\/SqT K H p (ss.map V.str))/\ss.length+1<scanBound/\(∀bS:List Str,bS.Nodup->(∀x∈bS,x∈ss)->bS.length<64)/\∀bS:List Str,bS.Nodup->(∀x,x∈bS↔x∈ss)->sortedS bS=true->New H (.lst (bS.map V.str)) Q) \/
  ∃R:List (Addr×List Bool),SqL K H p (R.map λr=>V.ref r.1)/\(∀r∈R,SqT K H r.1 (r.2.map V.bl)/\r.2≠[])/\R.length<64 /\
   ∀R':List (Addr×List Bool),(∀r∈R',r∈R)->(R'.map (·.2)).Nodup->(∀k,k∈R'.map (·.2)↔k∈R.map (·.2))->(R'.map (·.2)).Pairwise (λa b=>xc b a=false)->R'.length<=R.length->New H (.lst (R'.map λr=>V.ref r.1)) Q):=rfl
def tSS(K:W.Frag)(te:TE):TE:=fun σ H Q=>te σ H λv H1=>mSS K v H1 Q
theorem v4{e:Expr}{te:TE}{p1 p2 kJ bH:Pos}(hc:X.calm=true)(hu:X.A.units+64<cLine)(g1:Gl X "sorted")(m1:X.mg "sorted"=none)(g2:Gl X "set")(m2:X.mg "set"=none)(ha:PE X e te)
  (eU:starEach [.Call (.Name "set" p2) [e] [] bH] X.env=[(false,eval (.Call (.Name "set" p2) [e] [] bH) X.env)]:=by rfl) (Bf:starEach [e] X.env=[(false,eval e X.env)]:=by rfl) :
  PE X (.Call (.Name "sorted" p1) [.Call (.Name "set" p2) [e] [] bH] [] kJ) (tSS X.K te):=by
 intro pins s σ H Q I h;refine wL (wg I g1 m1 r9 (uS ?_ eU rfl));rw[eU];refine(show wpAny _ _ (spliced ((false,eval (.Call (.Name "set" p2) [e] [] bH) X.env)::[])) _ _ s from vD ?_);refine wL (wg I g2 m2 Ja (xU ?_ Bf rfl));rw[Bf];refine(show wpAny _ _ (spliced ((false,eval e X.env)::[])) _ _ s from vD (thn (ha pins s σ H _ I h) λu s1 ⟨x,H1,I1,r1,q1⟩=>vP ?_));cases x with
 |ref a =>
  cases r1;rcases(show _\/_ from q1)with⟨ss,b1,b2,b3,b4⟩|⟨R,b1,b2,b3,b4⟩
  ·exact thn (Oi hc I1 b1 b2 b3 b4) λu2 s2 h2=>vP h2
  ·exact thn (Oh hc hu I1 b1 b2 b3 b4) λu2 s2 h2=>vP h2
 |_=>exact(show False from q1).elim
end
end
section
section
variable {X:Cx}
def mDN:TE:=λ_ H Q=>New H (.dK []) Q
theorem Qd{pos:Pos}:PE X (.Dict [] [] pos) mDN:=Q8 Q6 fun σ H Q q p n=>New.at q p n
def Ju:Os:=λx y v H k=>match x with
 | .ref a=>(∃kvs ky,H a=some (.dK kvs)/\y=kV ky/\kvs.length<sizeLine/\k (upd H a (.dK (ud kvs ky v))))\/(∃xs i,∃j:Nat,H a=some (.lst xs)/\y = .int i/\i=(j:Int)/\j<xs.length/\k (upd H a (.lst (xs.set j v))))
 |_=>False
theorem Ht{a:Addr}{y v:V}{H:Hp}{k:Hp->Prop}:Ju (.ref a) y v H k=((∃kvs ky,H a=some (.dK kvs)/\y=kV ky/\kvs.length<sizeLine/\k (upd H a (.dK (ud kvs ky v))))\/(∃xs i,∃j:Nat,H a=some (.lst xs)/\y = .int i/\i=(j:Int)/\j<xs.length/\k (upd H a (.lst (xs.set j v))))):=rfl
theorem Wl(hu:X.A.units+64<cLine):L9 X Ju:=by
 intro pins s σ H o i v ov iv u Q I ro ri rv h;cases o with
 |ref a =>
  cases ro;rcases(show _\/_ from h)with⟨kvs,ky,e,rfl,hl,q⟩|⟨xs,i',j,e,rfl,rfl,hj,q⟩
  ·exact Th (by lia) I (.inl ⟨kvs,ky,e,rfl,hl,rfl⟩) ri rv λs' I'=>⟨_,I',q⟩
  ·exact R6 pins s σ H (.ref a) _ v _ iv u Q I rfl ri rv ⟨a,xs,(j:Int),j,rfl,rfl,e,by unfold ixN;rw[yV (Int.natCast_nonneg j),yV (Int.ofNat_lt.mpr hj),yW],q⟩
 |_=>exact(show False from h).elim
theorem Gy{o i e:Expr}{to ti te:TE}{p1 p2:Pos}(hu:X.A.units+64<cLine)(ho:PE X o to)(hi:PE X i ti)(he:PE X e te)
  (ha:∀v,assign (.Subscript o i p1) X.env v=(do
   let ov <-holding [v] (eval o X.env)
   let iv <-holding [v,ov] (eval i X.env)
   standAt p1
   holding [v,ov,iv] (setItem ov iv v)
   release [v,ov,iv] []):=by intro _;rfl)
  (hs:swapsWithSole [.Subscript o i p1] e p2.line X.env=pure false:=by rfl) (hw:swappedStores [.Subscript o i p1] e X.env=pure none:=by rfl)
  (h1:(assignEach [.Subscript o i p1] X.env).map (·.2)=[assign (.Subscript o i p1) X.env]:=by rfl):PS X (.Assign [.Subscript o i p1] e p2) (U6 te (Mj to ti Ju)):=Rl he (Re ho hi (Wl hu) ha) hs hw h1
end
end
section
theorem v9{α:Type}[DecidableEq α]:∀{l m:List α},l.Nodup->(∀x∈l,x∈m)->l.length<=m.length
 |[],_,_,_=>yR _
 |a::l,m,hn,hs=>by
  rw[wK]at hn;have ha:=hs a zG;have ih:=v9 (l:=l) (m:=m.erase a) hn.2 λx hx=>(List.mem_erase_of_ne (by intro z;subst z;exact hn.1 hx)).mpr (hs x (zH _ hx));rw[List.length_erase_of_mem ha]at ih;have:=sU ha;rw[yL];lia
def leS(a b:Str):Prop:=ltCps b.cps.toList a.cps.toList=false
theorem leS_iff{a b:Str}:leS a b↔strKind.kle a.cps.toList b.cps.toList:=by
 unfold leS;rw[ltCps_eq];exact Iff.rfl
theorem Tz{a b c:Str}(h1:leS a b)(h2:leS b c):leS a c:=leS_iff.mpr (tS (leS_iff.mp h1) (leS_iff.mp h2))
theorem Py{a b:Str}(h1:leS a b)(h2:leS b a):a=b:=by
 have:=KeyOrd.kle_antisymm (leS_iff.mp h1) (leS_iff.mp h2);cases a;cases b
 congr 1
 exact wC.mp this
theorem uf:∀(p:Str)(l:List Str),risingS p l=true->(p::l).Pairwise leS
 |p,[],_=>sW _ _
 |p,x::r,h=>by
  have h':(!ltCps x.cps.toList p.cps.toList&&risingS x r)=true:=h;rw[yJ]at h';have hpx:leS p x:=by unfold leS;simpa using h'.1
  have ih:=uf x r h'.2;refine xM.mpr ⟨λy hy=>?_,ih⟩;rcases zI.mp hy with rfl|hy
  ·exact hpx
  ·exact Tz hpx ((xM.mp ih).1 y hy)
theorem ug:∀(l:List Str),sortedS l=true->l.Pairwise leS
 |[],_=>.nil
 |x::r,h=>uf x r h
theorem U3{a b:List Str}(h1:sortedS a=true)(h2:sortedS b=true)(n1:a.Nodup)(n2:b.Nodup)(he:∀x,x∈a↔x∈b):a=b :=
 List.Perm.eq_of_pairwise (λ_ _ _ _ x y=>Py x y) (ug a h1) (ug b h2) ((vF n1 n2).mpr he)
theorem N9{a b:List (List Bool)}(h1:a.Pairwise λx y=>xc y x=false)(h2:b.Pairwise λx y=>xc y x=false)(n1:a.Nodup)(n2:b.Nodup)(he:∀x,x∈a↔x∈b):a=b :=
 List.Perm.eq_of_pairwise (λ_ _ _ _ x y=>qr _ _ y x) h1 h2 ((vF n1 n2).mpr he)
open Classical in
end
end My
namespace My
open PySem PySem.Spec L2
open PyProof.Rows hiding St
def Say.subs:Say->List Say
 | .letter _=>[]
 | .neg s=>[s]
 | .bin _ s t=>[s,t]
theorem ot(s:Say):s.pieces=1+(s.subs.map Say.pieces).sum:=by
 cases s<;>simp[Say.subs,Say.pieces]<;>lia
theorem qj{s:Say}(h:s.subs≠[]):s.letters=(s.subs.map Say.letters).flatten:=by
 cases s<;>simp[Say.subs,Say.letters]at h ⊢
theorem yb:∀s:Say,s.letters.length<=s.pieces
 | .letter _=>zU _
 | .neg s=>Nat.le_succ_of_le (yb s)
 | .bin _ s t=>by
  have h1:=yb s;have h2:=yb t;simp only[Say.letters,Say.pieces,zP];lia
theorem am{K:W.Frag}{H:Hp}{v:V}{s:Say}(h:SayAt K H v s)(hn:s.subs≠[]):∃a wd us,v = .ref a/\SqT K H a (.str wd::us)/\decide (wd=Str.ofString "letter")=false/\us.length=s.subs.length/\us.length<=2/\∀(i:Nat) u,us[i]?=some u->∃t,s.subs[i]?=some t/\SayAt K H u t/\t.pieces<s.pieces:=by
 cases s with
 |letter x=>exact absurd rfl hn
 |neg t =>
  obtain⟨a,u,rfl,ha,ht⟩:=h;refine⟨a,_,[u],rfl,ha,w10,rfl,by simp,λi x hx=>?_⟩
  match i,hx with
  |0,hx =>
   cases hx;exact⟨t,rfl,ht,yB _⟩
  |i+1,hx=>simp at hx
 |bin o t t' =>
  obtain⟨a,u,u',rfl,ha,ht,As⟩:=h;refine⟨a,_,[u,u'],rfl,ha,by cases o<;>first|exact w20|exact w30|exact w40,rfl,by simp,λi x hx=>?_⟩
  match i,hx with
  |0,hx =>
   cases hx;exact⟨t,rfl,ht,by simp only[Say.pieces];lia⟩
  |1,hx =>
   cases hx;exact⟨t',rfl,As,by simp only[Say.pieces];lia⟩
  |i+2,hx=>simp at hx
theorem ce{α:Type}(x:α)(us:List α):atI (x::us) 0=some x:=yf (xs:=x::us) (j:=0) rfl
theorem jt(x:V)(us:List V):vb (x::us) (some 1) none=us:=by
 unfold vb;have e1:HT.sIx (x::us).length 0 (some 1)=1:=by
  show(if(1:Int)<0 then((1:Int)+((x::us).length:Int)).toNat else min (1:Int).toNat (x::us).length)=1;rw[zC (by decide)];show min 1 (us.length+1)=1;lia
 rw[e1,HT.sIx_none];show(us.take (us.length+1-1))=us;rw[Nat.add_sub_cancel,zB]
theorem jw:∀(ts:List Say),((ts.map Say.letters).flatten).length<=(ts.map Say.pieces).sum
 |[]=>zU _
 |t::ts=>by
  have h1:=yb t;have h2:=jw ts;simp only[List.map_cons,List.flatten_cons,zP,List.sum_cons];lia
theorem ml(f:Say->Nat):∀(ts:List Say)(i:Nat),((ts.take i).map f).sum<=(ts.map f).sum
 |[],i=>by simp
 |t::ts,0=>by simp
 |t::ts,i+1=>by
  have:=ml f ts i;simp only[List.take_succ_cons,List.map_cons,List.sum_cons];lia
end My
namespace My
open PySem PySem.Spec PySem.W PySem.Calls L2
open PyProof.Rows hiding St
section
section
variable {X:Cx}
def Gg(neg:Bool):R2:=λx y H Q=>y = .non/\Q (.bl (if neg then !decide (x = .non)else decide (x = .non))) H
theorem Qf:OpR X (compareOp .Is) (Gg false):=uo Kg λ_ _ _ _ h=>h
def Js:V->List V->Hp->VK->Prop:=λx vs H Q=>match x,vs with
 | .ref l,[.int i,y]=>∃xs,H l=some (.lst xs)/\xs.length<sizeLine/\0<=i/\i<2 ^ 62/\Q .non (upd H l (.lst (xs.take i.toNat++y::xs.drop i.toNat)))
 |_,_=>False
theorem Hk{l:Addr}{i:Int}{y:V}{H:Hp}{Q:VK}:Js (.ref l) [.int i,y] H Q=∃xs,H l=some (.lst xs)/\xs.length<sizeLine/\0<=i/\i<2 ^ 62/\Q .non (upd H l (.lst (xs.take i.toNat++y::xs.drop i.toNat))):=rfl
theorem iq:∀{xs:List V}{us:List Value}(n:Nat),Vals xs us->Vals (xs.take n) (us.take n)
 |_,_,0,_=>.nil
 |_,_,n+1,.nil=>.nil
 |_,_,n+1,.cons h r=>.cons h (iq n r)
theorem im:∀{xs:List V}{us:List Value}(n:Nat),Vals xs us->Vals (xs.drop n) (us.drop n)
 |_,_,0,h=>h
 |_,_,n+1,.nil=>.nil
 |_,_,n+1,.cons h r=>im n r
theorem Gr:MtR X "list.insert" Js:=λpins s σ H x xs v us Q I rx rs h=>by
 match x,xs,h with
 | .ref l,[.int i,y],h =>
  obtain⟨ys,hH,hz,h0,h1,q⟩:=(show∃ys,H l=some (.lst ys)/\ys.length<sizeLine/\0<=i/\i<2 ^ 62/\Q .non (upd H l (.lst (ys.take i.toNat++y::ys.drop i.toNat)))from h)
  cases rx;cases rs with
  |cons r1 rs =>
   cases rs with
   |cons r2 rs =>
    cases rs;obtain⟨t,rfl⟩:=r1;rename_i u;obtain⟨z,aD,n,r,hl,e⟩:=I.lstM hH;refine sD F.slot_list_insert ⟨_,e,rfl⟩ F.entry_list_insert (F.args_list_insert_3 _ _ _) (AutoSeq1.list_insert_list_int_val_1 l aD.toArray n i t u (by rw[fitsIndex_both (by lia) (by lia)];simp) (by rw[zL];lia)) ⟨e,?_⟩;refine⟨.non,_,I.lset (its':=aD.take i.toNat++u::aD.drop i.toNat) hH e ?_ ((iq _ r).append (.cons r2 (im _ r))) ?_,rfl,q⟩
    ·have e1:(if i<0 then(i+(aD.toArray.size:Int)).toNat else min i.toNat aD.toArray.size)=min i.toNat aD.length:=by rw[zC (by lia),zL]
     show(aD.toArray.extract 0 (if i<0 then(i+(aD.toArray.size:Int)).toNat else min i.toNat aD.toArray.size)).push u++aD.toArray.extract (if i<0 then(i+(aD.toArray.size:Int)).toNat else min i.toNat aD.toArray.size)=_;rw[e1,kl_ins_eq]
     by_cases hm:i.toNat<=aD.length
     ·rw[Nat.min_eq_left hm]
     ·rw[Nat.min_eq_right (by lia),zB,sF,wY (by lia),List.drop_eq_nil_of_le (by lia)]
    ·rw[zP,yL,yS,wR];lia
end
end
end My
namespace My
open PySem PySem.Spec L2
open PyProof.Rows hiding St
def SaysAt(K:W.Frag)(H:Hp):List V->List Say->Prop
 |[],[]=>True
 |v::vs,s::ss=>SayAt K H v s/\SaysAt K H vs ss
 |_,_=>False
theorem SaysAt.mono{K:W.Frag}{H H':Hp}(t:Tups H H'):∀{vs:List V}{ss:List Say},SaysAt K H vs ss->SaysAt K H' vs ss
 |[],[],_=>trivial
 |v::vs,s::ss,h=>⟨h.1.mono t,SaysAt.mono t h.2⟩
 |[],_::_,h=>h.elim
 |_::_,[],h=>h.elim
theorem SaysAt.app{K:W.Frag}{H:Hp}:∀{vs:List V}{ss:List Say}{Cw:List V}{bS:List Say},SaysAt K H vs ss->SaysAt K H Cw bS->SaysAt K H (vs++Cw) (ss++bS)
 |[],[],_,_,_,h=>h
 |v::vs,s::ss,_,_,h,h'=>⟨h.1,SaysAt.app h.2 h'⟩
 |[],_::_,_,_,h,_=>h.elim
 |_::_,[],_,_,h,_=>h.elim
theorem SaysAt.len{K:W.Frag}{H:Hp}:∀{vs:List V}{ss:List Say},SaysAt K H vs ss->vs.length=ss.length
 |[],[],_=>rfl
 |v::vs,s::ss,h=>by rw[yL,yL,SaysAt.len h.2]
 |[],_::_,h=>h.elim
 |_::_,[],h=>h.elim
def rj(ts:List Say):List Str:=(ts.map Say.letters).flatten
theorem Ow(a b:List Say):rj (a++b)=rj a++rj b:=by simp[rj]
theorem f8{K:W.Frag}{H:Hp}{a:Addr}{ss:List Str}(h:SqL K H a (ss.map V.str)):Has K H (.ref a) (.list (ss.map PyData.str)):=by
 unfold Has;exact⟨a,_,rfl,h,f7 K H ss⟩
theorem d7{ss:List Str}(h:∀x∈ss,PyData.strOk x=true):SeqAt.shaped (.list (ss.map PyData.str))=true:=by
 obtain⟨h1,h2⟩:=Zz ss h;unfold SeqAt.shaped;rw[PyData.canLay0,h1,PyData.depth,h2]
 rfl
def NamesOf(ts:List Say)(ss:List Str):Prop:=ss.Nodup/\(∀x,x∈ss↔x∈rj ts)/\sortedS ss=true
theorem NamesOf.eq{ts:List Say}{a b:List Str}(h1:NamesOf ts a)(h2:NamesOf ts b):a=b:=U3 h1.2.2 h2.2.2 h1.1 h2.1 λx=>(h1.2.1 x).trans (h2.2.1 x).symm
def rg(ts:List Say)(hs:List Str):List Bool:=ts.map λt=>t.so hs
theorem pb(ts:List Say)(hs:List Str):(rg ts hs).length=ts.length:=by simp[rg]
def FitRows(ts:List Say)(ss:List Str)(ks:List (List Bool)):Prop:=ks.Nodup/\(∀k,k∈ks↔∃n,n<2 ^ ss.length/\k=rg ts (yz (n:Nat) ss))/\ks.Pairwise (λa b=>xc b a=false)
theorem FitRows.eq{ts:List Say}{ss:List Str}{a b:List (List Bool)}(h1:FitRows ts ss a)(h2:FitRows ts ss b):a=b:=N9 h1.2.2 h2.2.2 h1.1 h2.1 λx=>(h1.2.1 x).trans (h2.2.1 x).symm
theorem mem_allL{x:Str}{ts:List Say}:x∈rj ts↔∃t∈ts,x∈t.letters:=by
 unfold rj;rw[List.mem_flatten];constructor
 ·rintro⟨l,hl,hx⟩;obtain⟨t,ht,rfl⟩:=zD.mp hl;exact⟨t,ht,hx⟩
 ·rintro⟨t,ht,hx⟩;exact⟨t.letters,yG ht,hx⟩
theorem SaysAt.at{K:W.Frag}{H:Hp}:∀{vs:List V}{ts:List Say},SaysAt K H vs ts->∀(i:Nat) v,vs[i]?=some v->∃t,ts[i]?=some t/\SayAt K H v t
 |[],[],_,i,v,h=>by simp at h
 |v::vs,t::ts,h,0,u,e=>by
  cases e;exact⟨t,rfl,h.1⟩
 |v::vs,t::ts,h,i+1,u,e=>by simpa using SaysAt.at h.2 i u (by simpa using e)
 |[],_::_,h,_,_,_=>h.elim
 |_::_,[],h,_,_,_=>h.elim
structure Lst(ts:List Say)(xs:List Str):Prop where
 lo:1<=ts.length
 hi:ts.length<=6
 pc:∀t∈ts,t.pieces<=40
 nm:∀x∈rj ts,x∈xs
 xl:xs.length<=5
 ok:∀x∈xs,Nm x
theorem Lst.names{ts:List Say}{xs ss:List Str}(l:Lst ts xs)(h:NamesOf ts ss):ss.length<=5/\∀x∈ss,Nm x :=
 ⟨yT (v9 h.1 λx hx=>l.nm x ((h.2.1 x).mp hx)) l.xl,λx hx=>l.ok x (l.nm x ((h.2.1 x).mp hx))⟩
theorem jm:∀ts:List Say,(∀t∈ts,t.pieces<=40)->(rj ts).length<=40*ts.length
 |[],_=>zU _
 |t::ts,h=>by
  have h1:=yb t;have h2:=h t zG;have h3:=jm ts λu hu=>h u (zH _ hu);simp only[rj,List.map_cons,List.flatten_cons,zP,yL]at h3 ⊢;lia
end My
namespace My
open PySem PySem.Spec PySem.W PySem.Calls L2
open PyProof.Rows hiding St
section
section
variable {X:Cx}
def Gc(K:W.Frag):V->List V->Hp->VK->Prop:=λx vs H Q=>match x,vs with
 | .ref l,[.ref b]=>∃xs zs,H l=some (.lst xs)/\(H b=some (.lst zs)\/SqT K H b zs)/\xs.length+zs.length<=sizeLine/\Q .non (upd H l (.lst (xs++zs)))
 |_,_=>False
theorem K0{K:W.Frag}{l b:Addr}{H:Hp}{Q:VK}:Gc K (.ref l) [.ref b] H Q=∃xs zs,H l=some (.lst xs)/\(H b=some (.lst zs)\/SqT K H b zs)/\xs.length+zs.length<=sizeLine/\Q .non (upd H l (.lst (xs++zs))):=rfl
theorem Fq{C:Addr->Addr->Prop}{x:V}{vs:List V}(h:match x,vs with|.ref l,[.ref b]=>C l b|_,_=>False):∃l b,x = .ref l/\vs=[.ref b]/\C l b:=by
 cases x with
 |ref l =>
  cases vs with
  |nil=>exact(show False from h).elim
  |cons y t =>
   cases t with
   |nil =>
    cases y with
    |ref b=>exact⟨l,b,rfl,rfl,h⟩
    |_=>exact(show False from h).elim
   |cons _ _=>exact(show False from by cases y<;>exact h).elim
 |_=>exact(show False from by rcases vs with _|⟨y,_|⟨_,_⟩⟩<;>first|exact h|(cases y<;>exact h)).elim
theorem Qe:MtR X "list.extend" (Gc X.K):=λpins s σ H x xs v us Q I rx rs h=>by
 obtain⟨l,b,rfl,rfl,ys,zs,e,e2,z,q⟩:=Fq (C:=λl b=>∃xs zs,H l=some (.lst xs)/\(H b=some (.lst zs)\/SqT X.K H b zs)/\xs.length+zs.length<=sizeLine/\Q .non (upd H l (.lst (xs++zs)))) h;rcases e2 with e2|e2
 ·exact Ua pins s σ H _ _ v us Q I rx rs ⟨l,b,ys,zs,rfl,rfl,e,e2,z,q⟩
 ·cases rx;obtain⟨u,rfl,ru⟩:=wc rs;cases ru;obtain⟨hz,aD,n,r,hl,el⟩:=I.lstM e;obtain⟨iA,r2,⟨o2,eb,cT,n2,Cc⟩,_⟩:=I.tuple e2;have kL:=r2.length;refine xV tK ⟨_,el,rfl⟩ F.entry_list_extend ?_ (F.args_list_extend_2 _ _);refine(show wpAny _ _ (Builtin.List.listExtendWith (.ref l) (.ref b) .none) _ _ s from ?_);unfold Builtin.List.listExtendWith;refine zZ (uY (T:="tuple") ⟨_,eb,cT⟩ ?_);simp only[show(Value.type "tuple"==Value.type "tuple")=true from by decide,Bool.or_true,if_true];refine zZ (rY eb Cc (zZ (rY el rfl ?_)));have hsz:aD.toArray.size+iA.toArray.size<=sizeLine:=by rw[zL,zL];lia
  rw[zC (by rw[Z9 hsz,tW];exact zE)];refine zZ (uU el rfl ?_ (by rw[zL];lia) (by rw[Array.size_append];lia));refine zZ (zV (zV ⟨_,rfl,?_⟩));refine⟨.non,_,I.lset (its':=aD++iA) e el (by simp) (r.append r2) ?_,rfl,q⟩;rw[zP];lia
end
end
end My
namespace My
open PySem PySem.Spec L2
open PyProof.Rows hiding St
def PairsAt(K:W.Frag)(H:Hp):List V->List (Nat×Bool)->Prop
 |[],[]=>True
 |v::vs,p::ps=>(∃b,v = .ref b/\SqT K H b [.int (p.1:Int),.bl p.2])/\PairsAt K H vs ps
 |_,_=>False
theorem PairsAt.mono{K:W.Frag}{H H':Hp}(t:Tups H H'):∀{vs:List V}{ps:List (Nat×Bool)},PairsAt K H vs ps->PairsAt K H' vs ps
 |[],[],_=>trivial
 |v::vs,p::ps,⟨⟨b,e,h⟩,r⟩=>⟨⟨b,e,t.sqT h⟩,PairsAt.mono t r⟩
 |[],_::_,h=>h.elim
 |_::_,[],h=>h.elim
theorem PairsAt.app{K:W.Frag}{H:Hp}:∀{vs:List V}{ps:List (Nat×Bool)}{Cw:List V}{ps':List (Nat×Bool)},PairsAt K H vs ps->PairsAt K H Cw ps'->PairsAt K H (vs++Cw) (ps++ps')
 |[],[],_,_,_,h=>h
 |v::vs,s::ss,_,_,h,h'=>⟨h.1,PairsAt.app h.2 h'⟩
 |[],_::_,_,_,h,_=>h.elim
 |_::_,[],_,_,h,_=>h.elim
theorem PairsAt.len{K:W.Frag}{H:Hp}:∀{vs:List V}{ps:List (Nat×Bool)},PairsAt K H vs ps->vs.length=ps.length
 |[],[],_=>rfl
 |v::vs,s::ss,h=>by rw[yL,yL,PairsAt.len h.2]
 |[],_::_,h=>h.elim
 |_::_,[],h=>h.elim
theorem PairsAt.at{K:W.Frag}{H:Hp}:∀{vs:List V}{ps:List (Nat×Bool)},PairsAt K H vs ps->∀(i:Nat) v,vs[i]?=some v->∃b p,ps[i]?=some p/\v = .ref b/\SqT K H b [.int (p.1:Int),.bl p.2]
 |[],[],_,i,v,h=>by simp at h
 |v::vs,p::ps,h,0,u,e=>by
  cases e;obtain⟨b,e1,h1⟩:=h.1;exact⟨b,p,rfl,e1,h1⟩
 |v::vs,p::ps,h,i+1,u,e=>by simpa using PairsAt.at h.2 i u (by simpa using e)
 |[],_::_,h,_,_,_=>h.elim
 |_::_,[],h,_,_,_=>h.elim
def agr(k:List Bool)(ps:List (Nat×Bool)):Bool:=ps.all λp=>k.getD p.1 false==p.2
theorem jk{k:List Bool}{ps:List (Nat×Bool)}{i:Nat}{p:Nat×Bool}(h:ps[i]?=some p):agr k (ps.take (i+1))=(agr k (ps.take i)&&(k.getD p.1 false==p.2)):=by
 rw[yY,h];simp[agr]
theorem Iv{k:List Bool}{ps:List (Nat×Bool)}{p:Nat×Bool}(hm:p∈ps)(h:(k.getD p.1 false==p.2)=false):agr k ps=false:=by
 unfold agr;rw[sM];intro z;rw[yA]at z;rw[z p hm]at h;cases h
theorem wf{k:List Bool}{n:Nat}(h:n<k.length):atI (k.map V.bl) (n:Int)=some (.bl (k.getD n false)):=yf (by rw[zT,zS h];simp[h])
end My
namespace My
open PySem PySem.Spec L2
open PyProof.Rows hiding St
theorem u8{ts:List Say}{ss:List Str}{ks:List (List Bool)}(h:FitRows ts ss ks){k:List Bool}(hk:k∈ks):k.length=ts.length:=by
 obtain⟨n,_,e⟩:=(h.2.1 k).mp hk;rw[e];exact pb _ _
theorem Vq{ts:List Say}{ss:List Str}{R:List (Addr×List Bool)}(h:FitRows ts ss (R.map (·.2))):1<=R.length:=by
 have:rg ts (yz ((0:Nat):Int) ss)∈R.map (·.2):=(h.2.1 _).mpr ⟨0,Nat.two_pow_pos _,rfl⟩;have:=sU this;rw[zY]at this;exact this
def col(ks:List (List Bool))(ps:List (Nat×Bool))(j:Nat):List Bool:=(ks.filter λk=>agr k ps).map λk=>k.getD j false
end My
namespace My
open PySem PySem.Spec PySem.W PySem.Calls L2
open AutoSeq1 (wpAny_loadPart')
open PyProof.Rows hiding St
section
variable {X:Cx}{pins:List (Addr×Obj)}{σ:St}{H:Hp}{s:Shared}{h':Heap}
theorem sx{t':Nat}(L:List Addr)(I:Inv X pins σ H s)(hf:∀b∈L,pi X pins H b)(k:∀b o,b∉L->s.heap.get? b=some o->h'.get? b=some o):Inv X pins σ H { s with heap:=h',toks:=t' }:=by
 have DL:∀b u,H b=some u->b∉L:=λb u e z=>by rw[(hf b z).1]at e;cases e
 refine I.step (g':=s.gens) (d':=s.drawn) (ch:=L) (λb hb=>⟨(hf b hb).2.2.2.1,(hf b hb).2.1,(hf b hb).2.2.2.2.1,(hf b hb).2.2.2.2.2⟩) (λb o _ _ hc e _=>k b o hc e) (λb o _ _ hc e _=>⟨o.slots,k b o hc e⟩) (λ_ _ _ _ n=>n)
  (λb o hc e=>⟨o,k b o hc e⟩) (λ_ _ e=>e) (λ_ _ _ e=>e) (λb ps e=>⟨#[],by rw[e];simp⟩) (λm hm=>?_) (λb u e=>?_) I.bare
 ·obtain⟨o,es,ep,ho,r⟩:=hm;exact⟨o,es,ep,k _ o (λz=>(hf _ z).2.1 rfl) ho,r⟩
 ·refine(I.hok b u e).stay (λc v hc q=>k c v (hc.elim (λz=>by rw[z];exact DL b u e) λz=>DL c _ z) q) (λ_ q=>q) λ_ _ q=>q
end
section
variable {prog:Program}{w:World}{A:Around}{E:Value->Shared->Prop}{s:Shared}
theorem i9{it t:Addr}{i:Nat}{items:Array Value}{x:Value}{Q:Value->Shared->Prop}(fE:s.heap.IsTupleIter it t i)(ht:s.heap.IsTuple t items)(hx:items[i]?=some x)
  (hQ:∀h',h'.IsTupleIter it t (i+1)->Heap.SameBut it s.heap h'->Q x { s with heap:=h' }):wpAny (model prog w) A (Builtin.SmallTypes.nextOf (.ref it)) Q E s:=by
 obtain⟨o,ho,hc,hd⟩:=id fE;obtain⟨ol,lW,_,nl,pJ⟩:=ht;unfold Builtin.SmallTypes.nextOf;refine zZ (xQ (name:=Str.ofString "__next__") fE.typeIs vE (xV vE fE.typeIs F.entry_tuple_iterator_next ?_ (F.args_tuple_iterator_next_1 _)));show wpAny _ _ (field (.ref it) 0 >>= _) _ _ s;refine zZ (wN ho hd (x:=.ref t) rfl ?_);show wpAny _ _ (if(Value.ref t==Value.none)=true then _ else _) _ _ s;rw[zC (show¬((Value.ref t==Value.none)=true)from zE)];show wpAny _ _ (field (.ref it) 1 >>= _) _ _ s;refine zZ (wN ho hd (x:=.int i 0) rfl ?_);show wpAny _ _ (seqItems? (.ref t) >>= _) _ _ s;refine zZ (wI lW pJ ?_);simp only[yW,hx];refine zZ (wpAny_setField ho hd (by simp) (zV ⟨x,rfl,zV (hQ _ ⟨_,xG _ ho (Obj.isFreed_of_fields (Obj.data_mapFields hd _)),(Obj.cls_mapFields ..).trans hc,by rw[Obj.data_mapFields hd];simp[rawInt]⟩ (uT ..))⟩))
theorem dq{it t:Addr}{i:Nat}{items:Array Value}{Q:Value->Shared->Prop}(hh:A.handled=none)(fE:s.heap.IsTupleIter it t i)(ht:s.heap.IsTuple t items)(hx:items[i]?=none)
  (hE:∀h' e,Heap.ExtBut it s.heap h'->(∃o,h'.get? e=some o/\o.cls = .type "StopIteration")->E (.ref e) { s with heap:=h' }):wpAny (model prog w) A (Builtin.SmallTypes.nextOf (.ref it)) Q E s:=by
 obtain⟨o,ho,hc,hd⟩:=id fE;obtain⟨ol,lW,_,nl,pJ⟩:=ht;unfold Builtin.SmallTypes.nextOf;refine zZ (xQ (name:=Str.ofString "__next__") fE.typeIs vE (xV vE fE.typeIs F.entry_tuple_iterator_next ?_ (F.args_tuple_iterator_next_1 _)));show wpAny _ _ (field (.ref it) 0 >>= _) _ _ s;refine zZ (wN ho hd (x:=.ref t) rfl ?_);show wpAny _ _ (if(Value.ref t==Value.none)=true then _ else _) _ _ s;rw[zC (show¬((Value.ref t==Value.none)=true)from zE)];show wpAny _ _ (field (.ref it) 1 >>= _) _ _ s;refine zZ (wN ho hd (x:=.int i 0) rfl ?_);show wpAny _ _ (seqItems? (.ref t) >>= _) _ _ s;refine zZ (wI lW pJ ?_);simp only[yW,hx];refine zZ (tU (zZ (wpAny_setField ho hd (by simp) ?_)));show wpAny _ _ (newExc (.type "StopIteration") [] >>= _) _ _ _;refine zZ ?_;simp only[newExc,newTuple];refine zZ (xZ ?_ (by size_fits));refine zZ (m:=firstArgMember _ _) (wpAny_of_eq (a:=Value.none) (by first|rfl|(simp only[firstArgMember];rfl)) ?_);refine xZ ?_ (by size_fits);simp only[raiseNew];refine zZ (wpAny_handled ?_);first|rw[show A.in1.handled=none from hh]|rw[hh]
 refine zZ (zV (wpAny_throw (hE _ _ (((uT ..).extBut.push _).push _) ⟨_,zR _ rfl,rfl⟩)))
end
theorem Ts{h h':Heap}{t it:Addr}{items:Array Value}(x:h.IsTuple t items)(hs:Heap.ExtBut it h h')(aZ:t≠it):h'.IsTuple t items:=let⟨o,ho,r⟩:=x;⟨o,hs t o aZ ho,r⟩
theorem o5{prog:Program}{w:World}{A:Around}(hh:A.handled=none)(it t:Addr)(aZ:t≠it)(items:Array Value):Draws prog w A it [it,t] items.size (λi v=>items[i]?=some v) (λi h=>h.IsTupleIter it t i/\h.IsTuple t items)where
 live:=λ_ _ st=>st.1.elim λo ho=>⟨o,ho.1⟩
 frame:=λ_ _ _ st hk=>⟨st.1.at λo e=>hk it (by simp) o e,st.2.elim λo ho=>⟨o,hk t (by simp) o ho.1,ho.2⟩⟩
 item:=λi s Q E hi st hQ=>i9 st.1 st.2 (x:=items[i]) (by simp[hi]) λh' hit' C8=>hQ _ h' s.toks (by simp[hi]) ⟨hit',Ts st.2 C8.extBut aZ⟩ C8
 done:=λs Q E st hE=>dq hh st.1 st.2 (by simp) hE
end My
namespace My
open PySem PySem.Spec PySem.W PySem.Calls L2
open AutoSeq1 (wpAny_loadPart')
open PyProof.Rows hiding St
def bo(t:Addr):Obj:={ cls:=.type "tuple_iterator",data:=.fields #[.ref t,.int 0 0] }
def Xa(it:Addr):Obj:={ cls:=.type "enumerate",data:=.fields #[.none,.bool false,.ref it,rawInt 0,.none,.none] }
theorem Ti(l:Addr)(items:Array Value):Meets (Builtin.«enumerate.__new__» ⟨[.type "enumerate",.ref l],[]⟩) (λ_ R s=>s.heap.IsTuple l items /\
  R (.ok (.ret (.ref (s.heap.push (bo l)).objs.size))) { s with heap:=(s.heap.push (bo l)).push (Xa s.heap.objs.size) }) :=
 .of_wp λprog w A R s h=>by
  obtain⟨hp,g,d,tk,os⟩:=s;obtain⟨hL,h⟩:=h;have iQ:=sub_enumerate;obtain⟨o,hl,hc,n,hd⟩:=id hL;replace hL:Heap.IsTuple (Shared.heap ⟨hp,g,d,tk,os⟩) l items:=hL
  wp_walk using vN hl
  refine wpAny_stack_any λst=>zV ?_;split
  ·rename_i c _ _ _ _ _;cases(c==Value.type "enumerate")
   ·wp_walk using vN hl,vU hL;exact⟨_,rfl,h⟩
   ·wp_walk using vN hl,vU hL;exact⟨_,rfl,h⟩
  ·wp_walk using vN hl,vU hL;exact⟨_,rfl,h⟩
section
variable {prog:Program}{w:World}{A:Around}{E:Value->Shared->Prop}{s:Shared}
theorem W6{l:Addr}{items:Array Value}{Q:Value->Shared->Prop}(hL:s.heap.IsTuple l items)
  (h:∀h',IsEnum h' (s.heap.objs.size+1) s.heap.objs.size 0 .none->h'.IsTupleIter s.heap.objs.size l 0->(∀b o,s.heap.get? b=some o->h'.get? b=some o)->Q (.ref (s.heap.objs.size+1)) { s with heap:=h' }) :
  wpAny (model prog w) A (call (.type "enumerate") [.ref l]) Q E s:=by
 refine callType_new F.called_enumerate (by decide) (F.typeCall_enumerate_1 _) (F.newCall_enumerate_1 _) (λobj=>F.args_object_init_2 obj _) F.entry_enumerate_new (Ti l items) ⟨hL,?_⟩;have hz:(s.heap.push (bo l)).objs.size=s.heap.objs.size+1:=xX ..;show _/\_;rw[hz];have he:IsEnum ((s.heap.push (bo l)).push (Xa s.heap.objs.size)) (s.heap.objs.size+1) s.heap.objs.size 0 .none:=by
  have:=zR (s.heap.push (bo l)) (o:=Xa s.heap.objs.size) rfl;rw[hz]at this;exact this
 exact⟨⟨_,he,rfl⟩,h _ he ⟨_,zX _ (zR _ rfl),rfl,rfl⟩ λb o x=>zX _ (zX _ x)⟩
end
theorem jn{h:Heap}{a e it:Addr}{items:Array Value}{i:Int}{j:Nat}{old:Value}(ha:h.IsTuple a items)(he:IsEnum h e it i old)(hi:h.IsTupleIter it a j):∀b∈[e,it],a≠b:=λb hb z=>by
 obtain⟨o,e1,c1,_⟩:=ha;subst z;rcases zI.mp hb with z|z
 ·have he':h.get? e=some _:=he;rw[<-z,e1]at he';have:=yX he';rw[this]at c1;simp at c1
 ·have z:=zO.mp z;obtain⟨o2,e2,c2,_⟩:=hi;rw[<-z,e1]at e2;cases e2;rw[c1]at c2;simp at c2
def Ite(K:W.Frag)(a:Addr):It :=
 ⟨λi H=>∃xs x,SqT K H a xs/\xs[i]?=some x,λi H v H'=>∃p x,v = .ref p/\H p=none/\H'=upd H p (.tup [.int (i:Int),x])/\∀xs,SqT K H a xs->xs[i]?=some x,λi H=>∃xs,SqT K H a xs/\xs.length=i⟩
theorem Y8{P:Program}{w:World}{K:W.Frag}{iW:List Expr}{k:Nat}{pos:Pos}(a e it:Addr)(hei:e≠it):Zh P w K (.Tuple iW k pos) (Ite K a) [e,it] e (λi h=>(∃old,IsEnum h e it ((i:Nat):Int) old)/\h.IsTupleIter it a i)where
 mem:=by simp
 obj:=λi h st b hb=>by
  obtain⟨⟨old,he⟩,hi⟩:=st;rcases zI.mp hb with rfl|hb
  ·exact⟨_,he,λv z=>by cases(show Data.fields _=Data.cell v from z)⟩
  ·rw[zO.mp hb];obtain⟨o,e1,c,d⟩:=hi;exact⟨o,e1,λv z=>by rw[d]at z;cases z⟩
 keep:=λi h h' st kk=>⟨st.1.imp λold he=>kk e (by simp) _ he,st.2.at λo e1=>kk it (by simp) o e1⟩
 item:=by
  intro X hP hw hK hc i pins s σ H E I hf st hg;subst hP hw hK;obtain⟨xs,x,hq,hx⟩:=hg;obtain⟨aD,rv,p,hz⟩:=I.tuple hq;obtain⟨u,hu,ru⟩:=rv.get hx;obtain⟨⟨old,he⟩,hi⟩:=st;have fE:s.heap.IsTuple a aD.toArray:=p;have hilt:i<aD.toArray.size:=by
   have:=(zW.mp hu).1;simpa using this
  have hae:∀b∈[e,it],a≠b:=jn fE he hi;refine wpAny_pyNext_enum_itemD (o5 (A:=X.A.in1) (I.ok.hd hc) it a (hae it (by simp)) aD.toArray) he ⟨hi,fE⟩ hilt hei (λz=>by
   rcases zI.mp z with z|z
   ·exact hei z
   ·exact hae e (by simp) (zO.mp z).symm) λy h1 tk hy ho hs1 hT hsz hk=>?_
  have ey:y=u:=by
   have h1:aD.toArray[i]?=some y:=hy;have h2:aD.toArray[i]?=some u:=by simpa using hu
   rw[h2]at h1;exact(yX h1).symm
  subst ey;refine⟨_,rfl,wpAny_letOwnedTupleGo_enum (s:={ s with heap:=h1,toks:=tk+1 }) ho λh2 Bf fS=>?_⟩;have eA:e<s.heap.objs.size:=zQ he;have fr:H s.heap.objs.size=none:=I.hok.fresh (zU _);have I1:Inv X pins σ (upd H s.heap.objs.size (.tup [.int (i:Int),x])) { s with heap:=s.heap.push { cls:=.type "tuple",data:=.seq #[.int i tk,y] },toks:=tk } :=
   I.laid (λb o e1=>zX _ e1) (zU _) ⟨by simp only[yL,wW];rw[zM];decide,[.int i tk,y],.cons ⟨_,rfl⟩ (.cons ru .nil),⟨_,zR _ rfl,rfl,_,rfl⟩⟩
  have lt2:∀b∈[e,it],b<s.heap.objs.size:=λb hb=>by
   rcases zI.mp hb with rfl|hb
   ·exact eA
   ·rw[zO.mp hb];obtain⟨o,e1,_⟩:=hi;exact zQ e1
  have Bd:∀b∈[e,it],pi X pins (upd H s.heap.objs.size (.tup [.int (i:Int),x])) b:=λb hb=>⟨by rw[zh (zF (lt2 b hb))];exact(hf b hb).1,(hf b hb).2⟩
  have I2:Inv X pins σ (upd H s.heap.objs.size (.tup [.int (i:Int),x])) { s with heap:=h2,toks:=tk+1 }:=sx (s:={ s with heap:=s.heap.push { cls:=.type "tuple",data:=.seq #[.int i tk,y] },toks:=tk }) [e,it] I1 Bd λb o hb e1=>by
   have Ah:b≠e:=λz=>hb (by simp[z]);have hbi:b≠it:=λz=>hb (by simp[z]);refine(fS.2 b Ah).trans ?_;rcases Heap.get?_push_cases e1 with⟨rfl,rfl⟩|e1
   ·exact hT
   ·exact hk b o Ah hbi e1
  exact⟨.ref s.heap.objs.size,upd H s.heap.objs.size (.tup [.int (i:Int),x]),I2,rfl,⟨_,x,rfl,fr,rfl,λys pF=>by rw[I.tuple_inj pF hq];exact hx⟩,⟨⟨_,by simpa using Bf⟩,hs1.1.at λo e1=>(fS.2 it (wU hei)).trans e1⟩,λb hb=>(Bd b hb).1⟩
 done:=by
  intro X hP hw hK hc i pins s σ H E I hf st hg;subst hP hw hK;obtain⟨xs,hq,hx⟩:=hg;obtain⟨aD,rv,p,hz⟩:=I.tuple hq;obtain⟨⟨old,he⟩,hi⟩:=st;have fE:s.heap.IsTuple a aD.toArray:=p;have hae:∀b∈[e,it],a≠b:=jn fE he hi;have hl:aD.toArray.size=i:=by rw[zL,<-rv.length];exact hx
  refine wpAny_pyNext_enum_endD (o5 (A:=X.A.in1) (I.ok.hd hc) it a (hae it (by simp)) aD.toArray) he ⟨by rw[hl];exact hi,fE⟩ λh1 eb=>⟨rfl,sx (t':=s.toks) [e,it] I hf λb o hb e1=>eb b o (λz=>hb (by simp[z])) e1⟩
 self:=λ_ _ _ _ _ st h=>by
  obtain⟨⟨old,he⟩,_⟩:=st;exact wpAny_pyIter_enum he h
end My
namespace My
open PySem PySem.Spec PySem.W PySem.Calls L2
open PyProof.Rows hiding St
section
section
variable {X:Cx}
theorem Mf:bootBuiltins "enumerate"=some (.type "enumerate"):=by decide +kernel
def iEn(K:W.Frag)(ta:TA):TI:=fun σ H R=>ta σ H (on1 (kr λa H1=>(∃xs,SqT K H1 a xs)/\R (Ite K a) H1))
theorem Xv{iW:List Expr}{kk:Nat}{pt:Pos}{a:Expr}{ta:TA}{p pos:Pos}(hg:Gl X "enumerate")(hm:X.mg "enumerate"=none)(ha:PA X [a] ta)(hs:starEach [a] X.env=[(false,eval a X.env)]:=by rfl):
  PI X (.Tuple iW kk pt) (.Call (.Name "enumerate" p) [a] [] pos) (iEn X.K ta):=by
 intro pins s σ H R I h;refine Call_ (wg I hg hm Mf (xU (thn (ha pos pins s σ H _ I h) λus s1 ⟨vs,H1,I1,r1,q1⟩=>?_) hs rfl));rcases vs with _|⟨x,_|⟨y,rr⟩⟩
 ·exact(show False from q1).elim
 ·cases x with
  |ref b =>
   obtain⟨⟨xs,hq⟩,q⟩:=(show(∃xs,SqT X.K H1 b xs)/\R (Ite X.K b) H1 from q1)
   cases r1 with
   |cons r rr =>
    cases rr;cases r;obtain⟨aD,rv,p1,hz⟩:=I1.tuple hq;refine W6 (show s1.heap.IsTuple b aD.toArray from p1) λh' he hi hk=>?_;refine wpAny_pyIter_enum (s:={ s1 with heap:=h' }) he ?_;have I2:Inv X pins σ H1 { s1 with heap:=h' }:=I1.kept (t':=s1.toks) hk;refine⟨_,[s1.heap.objs.size+1,s1.heap.objs.size],_,_,H1,rfl,I2,Y8 b _ _ (Nat.succ_ne_self _),⟨⟨_,he⟩,hi⟩,λc hc=>?_,q⟩;have mC:s1.heap.objs.size<=c:=by
     rcases zI.mp hc with rfl|hc
     ·exact vQ _
     ·rw[zO.mp hc];exact zU _
    exact I1.fpOk mC (I1.hok.fresh mC)
  |_=>exact(show False from q1).elim
 ·exact(show False from q1).elim
end
theorem ft{K:W.Frag}{a:Addr}{xs:List V}{tt:TT}{te:TE}{ρ:St}{Q:VK}{H1:Hp}(Pv:Addr->Nat->List V->Hp->Prop)(hsz:xs.length<=sizeLine)
  (h0:∀D H2,H1 D=none->Same H1 H2->H2 D=some (.lst [])->Pv D 0 [] H2)
  (hl:∀D i ys H,Pv D i ys H->SqT K H a xs/\H D=some (.lst ys)/\ys.length<=i)
  (hs:∀D (i:Nat) v ys H H',xs[i]?=some v->Pv D i ys H->Same H H'->qz tt te (some (.int (i:Int))::some v :: ρ) D xs.length i ys (Pv D (i+1)) H')
  (hd:∀D ys H,Pv D xs.length ys H->Q (.ref D) H):vt 2 (mG2 K 0 1) tt te ρ (Ite K a) Q H1 :=
 vz Pv hsz h0 (λD i ys H _ p=>(hl D i ys H p).2) (λD i ys H hi p=>⟨xs,xs[i],(hl D i ys H p).1,by simp[hi]⟩) (λD ys H p=>⟨xs,(hl D _ ys H p).1,rfl⟩) (λD i v ys H H' τ hi hτ p y=>by
  obtain⟨t,u,rfl⟩:=fg hτ;obtain⟨b,x,rfl,hn,rfl,hx⟩:=y;refine⟨b,_,_,rfl,SqT.of zx,⟨[some (.int (i:Int)),some x],rfl,rfl⟩,?_⟩;exact hs D i x ys H _ (hx xs (hl D i ys _ p).1) p (w8 hn _)) hd
end
end My
namespace My
open PySem PySem.Spec L2
open PyProof.Rows hiding St
structure JudgesAt(K:W.Frag)(H:Hp)(a:Addr)(J:List (Addr×List Bool))(m:Nat):Prop where
 sq:SqT K H a (J.map λr=>V.ref r.1)
 row:∀r∈J,SqT K H r.1 (r.2.map V.bl)
 len:∀r∈J,r.2.length=m
 lo:1<=J.length
 hi:J.length<=100
theorem JudgesAt.mono{K:W.Frag}{H H':Hp}{a:Addr}{J:List (Addr×List Bool)}{m:Nat}(t:Tups H H')(h:JudgesAt K H a J m):JudgesAt K H' a J m:=⟨t.sqT h.sq,λr hr=>t.sqT (h.row r hr),h.len,h.lo,h.hi⟩
def yq(ks:List (List Bool))(j:Nat)(t:Bool)(i:Nat):List Nat:=(List.range i).filter λn=>(ks.getD n []).getD j false==t
theorem w9(ks:List (List Bool))(j:Nat)(t:Bool)(i:Nat):yq ks j t (i+1)=yq ks j t i++if((ks.getD i []).getD j false==t)=true then[i]else[]:=by
 unfold yq;rw[vY,wF,wQ,uG]
theorem wq(ks:List (List Bool))(j:Nat)(t:Bool)(i:Nat):(yq ks j t i).length<=i:=yT (xE _ _) (by rw[xY];exact zU _)
def we(ks:List (List Bool))(j:Nat):List (List Bool):=ks.filter λk=>k.getD j false
theorem li(ks:List (List Bool))(j:Nat):∀i,i<=ks.length->(yq ks j true i).length=(we (ks.take i) j).length
 |0,_=>by simp[yq,we]
 |i+1,h=>by
  have hi:i<ks.length:=h;rw[w9,zP,li ks j i (by lia)];have e:ks[i]?=some ks[i]:=zS hi;have e2:ks.getD i []=ks[i]:=by simp[hi]
  unfold we;rw[yY,e,e2,wF,zP,Option.toList_some,wQ,uG];cases(ks[i]).getD j false<;>rfl
theorem lg(ks:List (List Bool))(j:Nat):(yq ks j true ks.length).length=(we ks j).length:=by
 have:=li ks j ks.length (zU _)
 rwa [zB]at this
def zk(ks:List (List Bool))(j:Nat):Bool:=decide ((ks.length:Int)<2*((we ks j).length:Int))
def xk(ks:List (List Bool))(m:Nat):List Bool:=(List.range m).map (zk ks)
theorem xo(ks:List (List Bool))(m:Nat):(xk ks m).length=m:=by simp[xk]
theorem qe(ks:List (List Bool))(m:Nat):xk ks (m+1)=xk ks m++[zk ks m]:=by simp[xk,vY]
theorem uu{ks:List (List Bool)}{j i:Nat}{k:List Bool}(h:ks[i]?=some k):we (ks.take (i+1)) j=we (ks.take i) j++if k.getD j false=true then[k]else[]:=by
 unfold we;rw[yY,h,wF,Option.toList_some,wQ,uG]
theorem ir(ks:List (List Bool))(j i:Nat):(we (ks.take i) j).length<=i:=yT (xE _ _) (by rw[yS];exact Nat.min_le_left _ _)
end My
namespace My
open PySem PySem.Spec L2
open PyProof.Rows hiding St
section
variable {X:Cx}
def Gm(K:W.Frag):List V->Hp->VK->Prop:=λxs H Q=>match xs with
 |[.ref p]=>∃ns:List Int,SqL K H p (ns.map V.int)/\Q (.int ns.sum) H
 |_=>False
theorem Hw{K:W.Frag}{H:Hp}{Q:VK}{p:Addr}:Gm K [.ref p] H Q=(∃ns:List Int,SqL K H p (ns.map V.int)/\Q (.int ns.sum) H):=rfl
theorem Yn{ns:List Int}{aD:List Value}{xs:Array (Int×Tok)}(hi:IntsAre aD ns)(hx:aD.toArray=intItems xs):preSum (numAt xs) xs.size=ns.sum:=by
 have h1:numsOf aD.toArray.toList=ns:=hi.numsOf;rw[hx,nums_intItems]at h1;have h2:=preSum_eq xs xs.size;rw[h1]at h2;rw[h2]
 congr 1
 rw[<-h1];exact wY (vK (by simp))
theorem G0(hc:X.calm=true):ww X (.builtin "sum") (Gm X.K):=by
 intro pins s σ H xs us Q I r h
 match xs,h with
 |[.ref p],h =>
  obtain⟨ns,hq,q⟩:=(show∃ns:List Int,SqL X.K H p (ns.map V.int)/\Q (.int ns.sum) H from h)
  obtain⟨u,rfl,rx⟩:=wc r;cases rx;obtain⟨aD,rv,pl,hz⟩:=I.list hq;have hi:=jz rv;obtain⟨ys,hy⟩:=hi.allInts.items;have hl:s.heap.IsList p (intItems ys):=hy▸pl.isList;refine sum_intListG (I.ok.hd hc) hl λh' tk t' hk=>?_;rw[Yn hi hy];exact⟨.int ns.sum,H,I.kept hk,⟨t',rfl⟩,q⟩
theorem Jb:bootBuiltins "sum"=some (.builtin "sum"):=by decide +kernel
end
structure Ez(K:W.Frag)(x:Str)(st:Stmt)(f:Addr)(fd:FuncData):Prop where
 ex:∃(oc:Value)(od:Option Addr)(dV kV doc pm:Value)(an:Option Addr)(cdv ct:Value)(osl:Array (Option Value)),
  fd=W.fnOf x x (yt st) (zc st) (zr st) dV kV doc pm an cdv ct/\K.lookup f=some ⟨oc,od,.func fd,osl⟩/\W.codeIn K cdv x=true
 kp:W.keepIn K (.ref f)=true
structure DefD(K:W.Frag)(mg:Str->Option Value)(x:Str)(st:Stmt)(ps:List Str)(ds:List Value):Prop where
 ex:∃(f:Addr)(fd:FuncData),Ez K x st f fd/\Binds K fd ps []/\Binds K fd ps ds/\mg x=some (.ref f)
structure CalleeD(P:Program)(w:World)(K:W.Frag)(mg:Str->Option Value)(base:Heap)(k:Nat)(x:Str)(ps:List Str)(ds:List Value)(sp:Sp):Prop where
 ex:∃(f:Addr)(fd:FuncData),FnOk P w K mg base CX0 k f fd ps sp/\Binds K fd ps []/\Binds K fd ps ds/\W.keepIn K (.ref f)=true/\mg x=some (.ref f)
section
variable {P:Program}{w:World}{K:W.Frag}{mg:Str->Option Value}{base:Heap}
theorem CalleeD.full{k:Nat}{x:Str}{ps:List Str}{ds:List Value}{sp:Sp}(C:CalleeD P w K mg base k x ps ds sp):zy P w K mg base k x ps sp:=by
 obtain⟨f,fd,F,b,_,kp,hm⟩:=C.ex;exact⟨f,fd,F,b,kp,hm⟩
theorem DefD.callee{x:Str}{st:Stmt}{N ps:List Str}{ds:List Value}{k:Nat}{sp:Sp}(F:DefD K mg x st ps ds)(S:vo N ps (zr st))(len:∀vs H Q E,sp vs H Q E->vs.length=ps.length)
  (bI:∀(f:Addr)(cdv:Value)(A:Around)(outer:List Env)(s:Shared)(H:Hp)(vs:List V)(Q:VK)(E:XK),Room k (A.deeper (envOfC x (zr st) s.heap.objs.size f cdv))->N.Nodup->sp vs H Q E ->
   ∃σ t,u9 N vs=σ/\PSs (o4 CX0 P w K mg base N x (zr st) f cdv A outer s H E).nox (zc st) t/\t { nx:=λ_ H'=>Q .non H',rt:=Q } σ H):CalleeD P w K mg base (k+1) x ps ds sp:=by
 obtain⟨f,fd,F,b0,b1,hm⟩:=F.ex;obtain⟨oc,od,dV,kV,doc,pm,an,cdv,ct,osl,rfl,lk,kH⟩:=F.ex;refine⟨f,_,Vs lk kH S len λA outer s H vs Q E hr kT=>?_,b0,b1,F.kp,hm⟩;obtain⟨σ,t,e,ht,q⟩:=bI f cdv A outer s H vs Q E hr S.nd kT;exact⟨t,ht.nox,by rw[e];exact q⟩
theorem Vp{h:Heap}{x:Str}{st:Stmt}{ps:List Str}{ds:List Value}{f:Addr}{oc dV:Value}{od an:Option Addr}{osl:Array (Option Value)}{kV doc pm cdv ct:Value}(X:K.In h)(G:h.Ns mainGlobals mg)
  (a:W.nsIn K mainGlobals x=some (some (.ref f))) (l:K.lookup f=some ⟨oc,od,.func (W.fnOf x x (yt st) (zc st) (zr st) dV kV doc pm an cdv ct),osl⟩)
  (c:W.codeIn K cdv x=true) (k:W.keepIn K (.ref f)=true)
  (b0:Binds K (W.fnOf x x (yt st) (zc st) (zr st) dV kV doc pm an cdv ct) ps []) (b1:Binds K (W.fnOf x x (yt st) (zc st) (zr st) dV kV doc pm an cdv ct) ps ds):DefD K mg x st ps ds :=
 ⟨f,_,⟨⟨oc,od,dV,kV,doc,pm,an,cdv,ct,osl,rfl,l,c⟩,k⟩,b0,b1,uF X G a⟩
theorem r8{fd:FuncData}{ps:List Str}{ds:List Value}{T:Addr}{o:Obj}{items:Array Value}{n:Nat}(t:K.lookup T=some o)(hs:o.data = .seq items n)(hd:fd.defaults = .ref T)
  (h1:∀us:List Value,(us++ds).length=ps.length->∃k:Option (Array Value)->Sem (List (Str×Value)),bindArgs fd ⟨us,[]⟩=seqItems? fd.defaults >>= k/\k (some items)=pure (ps.zip (us++ds))):Binds K fd ps ds:=λs us KX hl=>by
 obtain⟨k,e1,e2⟩:=h1 us hl;exact BindsTo.of_defaults hd (KX _ _ t) hs e1 e2
end
section
variable {X:Cx}
end
theorem Z2{J:It}{n:Nat}{g:TG}{tb:TS}{D:rh}{σ:St}{H:Hp}(Pv:Nat->St->Hp->Prop)(h0:Pv 0 σ H)
  (hgo:∀i σ H,i<n->Pv i σ H->J.go i H) (fR:∀σ H,Pv n σ H->J.stop n H)
  (hs:∀i v σ H H',i<n->Pv i σ H->J.yld i H v H'->g v σ H' fun σ2 H2=>tb { D with nx:=Pv (i+1),ct:=Pv (i+1),bk:=D.nx } σ2 H2) (hd:∀σ H,Pv n σ H->D.nx σ H):Wz g tb J D σ H:=by
 refine⟨λi m σ H=>m=n-i/\i<=n/\Pv i σ H,⟨n,by simp,yR _,h0⟩,?_⟩;rintro i m σ H ⟨rfl,hi,p⟩
 by_cases aI:i<n
 ·exact .inr ⟨hgo i σ H aI p,Pv (i+1),fun σ' H' p'=>⟨n-(i+1),by lia,rfl,aI,p'⟩,λx H' y=>hs i x σ H H' aI p y⟩
 ·have e:i=n:=by lia
  subst e;exact .inl ⟨fR σ H p,hd σ H p⟩
theorem Xq{K:W.Frag}{a:Addr}{xs:List V}{j k:Nat}{tb:TS}{D:rh}{σ:St}{H:Hp}(Pv:Nat->St->Hp->Prop)(h0:Pv 0 σ H)(hl:∀i σ H,i<=xs.length->Pv i σ H->SqT K H a xs)
  (hs:∀(i:Nat) x σ H H',xs[i]?=some x->Pv i σ H->Same H H'->tb { D with nx:=Pv (i+1),ct:=Pv (i+1),bk:=D.nx } (sv (sv σ j (.int (i:Int))) k x) H') (hd:∀σ H,Pv xs.length σ H->D.nx σ H) :
  Wz (mG2 K j k) tb (Ite K a) D σ H :=
 Z2 (n:=xs.length) Pv h0 (λi σ H hi p=>⟨xs,xs[i],hl i σ H (xW hi) p,by simp[hi]⟩) (fun σ H p=>⟨xs,hl _ σ H (zU _) p,rfl⟩) (λi v σ H H' hi p y=>by
  obtain⟨b,x,rfl,hn,rfl,hx⟩:=y;exact⟨b,_,_,rfl,SqT.of zx,hs i x σ H _ (hx xs (hl i σ H (xW hi) p)) p (w8 hn _)⟩) hd
end My
namespace My
open PySem PySem.Spec PySem.W PySem.Calls L2
open PyProof.Rows hiding St
section
theorem zb{h:Heap}{a b:Addr}{oa ob:Obj}(ha:h.get? a=some oa)(hb:h.get? b=some ob)(hc:oa.cls≠ob.cls):a≠b:=λz=>by
 subst z;rw[ha]at hb;cases hb;exact hc rfl
def ZipSt(z tI tO i1 i2 l1 l2:Addr)(i:Nat)(h:Heap):Prop:=IsZip h z tI tO .none/\IsPair h tI (.ref i1) (.ref i2)/\(∃u v,IsPair h tO u v)/\h.IsListIter i1 l1 i/\h.IsListIter i2 l2 i
theorem iu{h:Heap}{z tI tO i1 i2 l1 l2:Addr}{i:Nat}{xs ys:Array Value}(t:tI≠tO)(ii:i1≠i2)(st:ZipSt z tI tO i1 i2 l1 l2 i h)(h1:h.IsList l1 xs)(h2:h.IsList l2 ys):ZipApart z tI tO i1 i2 l1 l2:=by
 obtain⟨hz,hI,⟨u,v,hO⟩,⟨oa,ea,ca,_⟩,⟨ob,eb,cb,_⟩⟩:=st;obtain⟨o1,e1,c1,_⟩:=h1;obtain⟨o2,e2,c2,_⟩:=h2;have gE:h.get? z=some _:=hz;have Bk:h.get? tI=some _:=hI;have pM:h.get? tO=some _:=hO;exact⟨zb Bk gE (by simp),zb pM gE (by simp),zb ea gE (by rw[ca];simp),zb eb gE (by rw[cb];simp),t,zb Bk ea (by rw[ca];simp),zb Bk eb (by rw[cb];simp),zb pM ea (by rw[ca];simp),zb pM eb (by rw[cb];simp),ii,
  zb e1 gE (by rw[c1];simp),zb e1 pM (by rw[c1];simp),zb e1 ea (by rw[c1,ca];simp),zb e1 eb (by rw[c1,cb];simp),zb e2 gE (by rw[c2];simp),zb e2 pM (by rw[c2];simp),zb e2 ea (by rw[c2,ca];simp),zb e2 eb (by rw[c2,cb];simp)⟩
theorem ZipSt.lt{z tI tO i1 i2 l1 l2:Addr}{i:Nat}{h:Heap}(st:ZipSt z tI tO i1 i2 l1 l2 i h):∀b∈[z,tI,tO,i1,i2],b<h.objs.size:=λb hb=>by
 obtain⟨hz,hI,⟨u,v,hO⟩,⟨oa,ea,_⟩,⟨ob,eb,_⟩⟩:=st;simp only[zI,vG,or_false]at hb;rcases hb with rfl|rfl|rfl|rfl|rfl
 ·exact zQ hz
 ·exact zQ hI
 ·exact zQ hO
 ·exact zQ ea
 ·exact zQ eb
def Itz(K:W.Frag)(a b:Addr):It :=
 ⟨λi H=>∃xs ys x y,SqL K H a xs/\SqL K H b ys/\xs[i]?=some x/\ys[i]?=some y,λi H v H'=>∃p x y,v = .ref p/\H p=none/\H'=upd H p (.tup [x,y])/\(∀xs,SqL K H a xs->xs[i]?=some x)/\∀ys,SqL K H b ys->ys[i]?=some y,λi H=>∃xs ys,SqL K H a xs/\SqL K H b ys/\xs.length=i/\ys.length=i⟩
theorem U8{P:Program}{w:World}{K:W.Frag}{iW:List Expr}{k:Nat}{pos:Pos}(l1 l2 z tI tO i1 i2:Addr)(t:tI≠tO)(ii:i1≠i2):
  Zh P w K (.Tuple iW k pos) (Itz K l1 l2) [z,tI,tO,i1,i2] z (ZipSt z tI tO i1 i2 l1 l2)where
 mem:=by simp
 obj:=λi h st b hb=>by
  obtain⟨hz,hI,⟨u,v,hO⟩,⟨oa,ea,ca,da⟩,⟨ob,eb,cb,db⟩⟩:=st;simp only[zI,vG,or_false]at hb;rcases hb with rfl|rfl|rfl|rfl|rfl
  ·exact⟨_,hz,λv z=>by cases(show Data.fields _=Data.cell v from z)⟩
  ·exact⟨_,hI,λv z=>by cases(show Data.seq _ _=Data.cell v from z)⟩
  ·exact⟨_,hO,λv z=>by cases(show Data.seq _ _=Data.cell v from z)⟩
  ·exact⟨oa,ea,λv z=>by rw[da]at z;cases z⟩
  ·exact⟨ob,eb,λv z=>by rw[db]at z;cases z⟩
 keep:=λi h h' st kk=>by
  obtain⟨hz,hI,⟨u,v,hO⟩,ha,hb⟩:=st;exact⟨kk z (by simp) _ hz,kk tI (by simp) _ hI,⟨u,v,kk tO (by simp) _ hO⟩,ha.at λo e=>kk i1 (by simp) o e,hb.at λo e=>kk i2 (by simp) o e⟩
 item:=by
  intro X hP hw hK hc i pins s σ H E I hf st hg;subst hP hw hK;obtain⟨xs,ys,x,y,nF,pG,hx,hy⟩:=hg;obtain⟨aD,rv,p,iP⟩:=I.list nF;obtain⟨AV,lG,p',oK⟩:=I.list pG;obtain⟨u,hu,ru⟩:=rv.get hx;obtain⟨v,hv,rv'⟩:=lG.get hy;have ap:=iu t ii st p.isList p'.isList;have fB:=st;obtain⟨hz,hI,⟨u0,v0,hO⟩,ha,hb⟩:=st;refine wpAny_pyNext_zip_item ap hz hI hO ha hb p.isList p'.isList (x:=u) (y:=v) (by simpa using hu) (by simpa using hv) λh1 a1 a2 a3 a4 a5 a6 hk=>?_;refine⟨_,rfl,wpAny_letOwnedTupleGo_zip (s:={ s with heap:=h1 }) a1 λh2 b1 fS=>?_⟩;have fr:H s.heap.objs.size=none:=I.hok.fresh (zU _);have I1:Inv X pins σ (upd H s.heap.objs.size (.tup [x,y])) { s with heap:=s.heap.push { cls:=.type "tuple",data:=.seq #[u,v] },toks:=s.toks } :=
   I.laid (λb o e1=>zX _ e1) (zU _) ⟨by simp only[yL,wW];rw[zM];decide,[u,v],.cons ru (.cons rv' .nil),⟨_,zR _ rfl,rfl,_,rfl⟩⟩
  have lt5:∀b∈[z,tI,tO,i1,i2],b<s.heap.objs.size:=λb bU=>by
   have:=ZipSt.lt fB b bU;exact this
  have Bd:∀b∈[z,tI,tO,i1,i2],pi X pins (upd H s.heap.objs.size (.tup [x,y])) b:=λb bU=>⟨by rw[zh (zF (lt5 b bU))];exact(hf b bU).1,(hf b bU).2⟩
  have I2:Inv X pins σ (upd H s.heap.objs.size (.tup [x,y])) { s with heap:=h2,toks:=s.toks }:=sx (s:={ s with heap:=s.heap.push { cls:=.type "tuple",data:=.seq #[u,v] },toks:=s.toks }) [z,tI,tO,i1,i2] I1 Bd λb o bU e1=>by
   have n1:b≠z:=λq=>bU (by simp[q]);have n2:b≠tO:=λq=>bU (by simp[q]);have n3:b≠i1:=λq=>bU (by simp[q]);have n4:b≠i2:=λq=>bU (by simp[q]);refine(fS.2 b n1).trans ?_;rcases Heap.get?_push_cases e1 with⟨rfl,rfl⟩|e1
   ·exact a5
   ·exact hk b o n1 n2 n3 n4 e1
  refine⟨.ref s.heap.objs.size,upd H s.heap.objs.size (.tup [x,y]),I2,rfl,⟨_,x,y,rfl,fr,rfl,λAO pF=>by rw[I.list_inj pF nF];exact hx,λAO pF=>by rw[I.list_inj pF pG];exact hy⟩,⟨b1,?_,⟨u,v,?_⟩,a3.at λo e1=>(fS.2 i1 ap.i1z).trans e1,a4.at λo e1=>(fS.2 i2 ap.i2z).trans e1⟩,λb bU=>(Bd b bU).1⟩
  ·exact(fS.2 tI ap.TIz).trans (hk tI _ ap.TIz ap.TITO ap.TIi1 ap.TIi2 hI)
  ·exact(fS.2 tO ap.TOz).trans a2
 done:=by
  intro X hP hw hK hc i pins s σ H E I hf st hg;subst hP hw hK;obtain⟨xs,ys,nF,pG,hx,hy⟩:=hg;obtain⟨aD,rv,p,iP⟩:=I.list nF;obtain⟨AV,lG,p',oK⟩:=I.list pG;have ap:=iu t ii st p.isList p'.isList;obtain⟨hz,hI,⟨u0,v0,hO⟩,ha,hb⟩:=st;refine wpAny_pyNext_zip_end (I.ok.hd hc) ap hz hI hO ha hb p.isList p'.isList (.inl ?_) λh1 hk=>⟨rfl,sx (t':=s.toks) [z,tI,tO,i1,i2] I hf λb o bU e1=>hk b o (λq=>bU (by simp[q])) (λq=>bU (by simp[q])) (λq=>bU (by simp[q])) (λq=>bU (by simp[q])) e1⟩
  have:aD.toArray.size=i:=by rw[zL,<-rv.length];exact hx
  exact sT (by lia)
 self:=λ_ _ _ _ _ st h=>sE st.1 h
section
variable {X:Cx}
theorem O4:bootBuiltins "zip"=some (.type "zip"):=by decide +kernel
def onZ(K:W.Frag)(R:It->Hp->Prop):List V->Hp->Prop:=λvs H=>match vs with
 |[.ref a,.ref b]=>((∃xs,SqL K H a xs)/\∃ys,SqL K H b ys)/\R (Itz K a b) H
 |_=>False
theorem Kc{K:W.Frag}{R:It->Hp->Prop}{a b:Addr}{H:Hp}:onZ K R [.ref a,.ref b] H=(((∃xs,SqL K H a xs)/\∃ys,SqL K H b ys)/\R (Itz K a b) H):=rfl
def iZp(K:W.Frag)(ta:TA):TI:=fun σ H R=>ta σ H (onZ K R)
theorem G1{iW:List Expr}{kk:Nat}{pt:Pos}{a b:Expr}{ta:TA}{p pos:Pos}(hg:Gl X "zip")(hm:X.mg "zip"=none)(ha:PA X [a,b] ta)(hs:starEach [a,b] X.env=[(false,eval a X.env),(false,eval b X.env)]:=by rfl)
  (fS:starEach [b] X.env=[(false,eval b X.env)]:=by rfl):PI X (.Tuple iW kk pt) (.Call (.Name "zip" p) [a,b] [] pos) (iZp X.K ta):=by
 intro pins s σ H R I h;refine Call_ (wg I hg hm O4 (xU (thn (ha pos pins s σ H _ I h) λus s1 ⟨vs,H1,I1,r1,q1⟩=>?_) (by rw[hs,fS]) (by rw[fS];rfl)))
 match vs,q1 with
 |[.ref a,.ref b],q1 =>
  obtain⟨⟨⟨xs,nF⟩,⟨ys,pG⟩⟩,q⟩:=(show((∃xs,SqL X.K H1 a xs)/\∃ys,SqL X.K H1 b ys)/\R (Itz X.K a b) H1 from q1)
  obtain⟨u,w',rfl,ru,lG⟩:=br r1;cases ru;cases lG;obtain⟨aD,rv,p1,iP⟩:=I1.list nF;obtain⟨AV,rv2,p2,oK⟩:=I1.list pG;refine call_zip_2 p1.isList p2.isList λh' hz hI hO ha hb hsz hk=>?_;refine sE (s:={ s1 with heap:=h' }) hz ?_;have I2:Inv X pins σ H1 { s1 with heap:=h' }:=I1.kept (t':=s1.toks) hk;refine⟨_,[s1.heap.objs.size+4,s1.heap.objs.size+2,s1.heap.objs.size+3,s1.heap.objs.size,s1.heap.objs.size+1],_,_,H1,rfl,I2,U8 a b _ _ _ _ _ (λq=>absurd (Nat.add_left_cancel q) (by decide)) (λq=>absurd q (zF (yB _))),⟨hz,hI,⟨_,_,hO⟩,ha,hb⟩,λc hc=>?_,q⟩;have mC:s1.heap.objs.size<=c:=by
   simp only[zI,vG,or_false]at hc;rcases hc with rfl|rfl|rfl|rfl|rfl
   ·exact wP _ _
   ·exact wP _ _
   ·exact wP _ _
   ·exact zU _
   ·exact vQ _
  exact I1.fpOk mC (I1.hok.fresh mC)
end
theorem Tf{K:W.Frag}{a b:Addr}{xs ys:List V}{tt:TT}{te:TE}{ρ:St}{Q:VK}{H1:Hp}(Pv:Addr->Nat->List V->Hp->Prop)(hsz:xs.length<=sizeLine)(oM:xs.length=ys.length)
  (h0:∀D H2,H1 D=none->Same H1 H2->H2 D=some (.lst [])->Pv D 0 [] H2)
  (hl:∀D i zs H,Pv D i zs H->SqL K H a xs/\SqL K H b ys/\H D=some (.lst zs)/\zs.length<=i)
  (hs:∀D (i:Nat) u v zs H H',xs[i]?=some u->ys[i]?=some v->Pv D i zs H->Same H H'->qz tt te (some u::some v :: ρ) D xs.length i zs (Pv D (i+1)) H')
  (hd:∀D zs H,Pv D xs.length zs H->Q (.ref D) H):vt 2 (mG2 K 0 1) tt te ρ (Itz K a b) Q H1 :=
 vz Pv hsz h0 (λD i zs H _ p=>(hl D i zs H p).2.2) (λD i zs H hi p=>⟨xs,ys,xs[i],ys[i],(hl D i zs H p).1,(hl D i zs H p).2.1,by simp[hi],by simp[oM▸hi]⟩) (λD zs H p=>⟨xs,ys,(hl D _ zs H p).1,(hl D _ zs H p).2.1,rfl,oM.symm⟩) (λD i v zs H H' τ hi hτ p y=>by
  obtain⟨t,u,rfl⟩:=fg hτ;obtain⟨c,x,y',rfl,hn,rfl,hx,hy⟩:=y;refine⟨c,_,_,rfl,SqT.of zx,⟨[some x,some y'],rfl,rfl⟩,?_⟩;exact hs D i x y' zs H _ (hx xs (hl D i zs _ p).1) (hy ys (hl D i zs _ p).2.1) p (w8 hn _)) hd
section
variable {X:Cx}
def Ls(K:W.Frag):List V->Hp->VK->Prop:=λxs H Q=>match xs with
 |[.ref p]=>∃ns:List Int,SqL K H p (ns.map V.int)/\0<ns.length/\∀M,M∈ns->(∀a∈ns,M<=a)->Q (.int M) H
 |_=>False
theorem K4{K:W.Frag}{H:Hp}{Q:VK}{p:Addr}:Ls K [.ref p] H Q=(∃ns:List Int,SqL K H p (ns.map V.int)/\0<ns.length/\∀M,M∈ns->(∀a∈ns,M<=a)->Q (.int M) H):=rfl
theorem Qh(hc:X.calm=true):ww X (.builtin "min") (Ls X.K):=by
 intro pins s σ H xs us Q I r h
 match xs,h with
 |[.ref p],h =>
  obtain⟨ns,hq,aZ,q⟩:=(show∃ns:List Int,SqL X.K H p (ns.map V.int)/\0<ns.length/\∀M,M∈ns->(∀a∈ns,M<=a)->Q (.int M) H from h)
  obtain⟨u,rfl,rx⟩:=wc r;cases rx;obtain⟨aD,rv,pl,hz⟩:=I.list hq;have hi:=jz rv;obtain⟨ys,hy⟩:=hi.allInts.items;have hl:s.heap.IsList p (intItems ys):=hy▸pl.isList;have en:ns=ys.toList.map (·.1):=by
   have h1:numsOf aD.toArray.toList=ns:=hi.numsOf;rw[hy,nums_intItems]at h1;exact h1.symm
  have hsz:ns.length=ys.size:=by rw[en];simp
  refine min_intList (I.ok.hd hc) hl (by lia) λv h' tk hv hk=>?_;obtain⟨t,rfl⟩:=intItems_at hv;obtain⟨b1,b2⟩:=argBest_lt (numAt ys) (ys.size-1);refine⟨.int _,H,I.kept hk,⟨t,rfl⟩,q _ ?_ λa ha=>?_⟩
  ·rw[numAt_eq,<-en];exact getD_mem (by lia)
  ·rw[en]at ha;obtain⟨j,hj,rfl⟩:=mem_getD ha;rw[<-en,hsz]at hj;have:=b2 j (by lia)
   rwa [numAt_eq ys j]at this
end
end
section
structure Mk0(K:W.Frag)(C:Addr):Prop where
 makes:W.makesIn K C=true
 init:W.findIn K (.ref C) "__init__"=some (some (.builtin "object.__init__"))
 kp:W.keepIn K (.ref C)=true
def Sq(C:Addr):TE:=λ_ H Q=>∀x dx,H x=none->H dx=none->dx≠x->Q (.ref x) (upd (upd H dx (.own x)) x (.ins C dx []))
section
variable {X:Cx}
theorem V4{C:Addr}{x:Str}{p pos:Pos}(M:Mk0 X.K C)(hm:X.mg x=some (.ref C))(hg:Gl X x:=by rfl)(pK:(x==("__debug__":Str))=false:=by decide):PE X (.Call (.Name x p) [] [] pos) (Sq C):=by
 intro pins s σ H Q I h;refine wL (cw I hg hm ?_ pK);refine W.callWith_K0 I.kIn M.kp ?_;refine wpAny_call (T8 I.kIn M.makes M.init (λself=>Looks.of_pure (oi_bind self)) ?_);have Y:=makes_of (M:=model X.prog X.w) I.kIn M.makes;have I2:=Inv.made (C:=C) I;have e2:((s.heap.push W.emptyDict).push (W.instObj C s.heap.objs.size)).get? (s.heap.objs.size+1)=some (W.instObj C s.heap.objs.size):=by
  have g:=zR (s.heap.push W.emptyDict) (o:=W.instObj C s.heap.objs.size) rfl;rwa [xX]at g
 have t1:Looks (model X.prog X.w) ((s.heap.push W.emptyDict).push (W.instObj C s.heap.objs.size)) (typeOf (.ref (s.heap.objs.size+1))) (.ref C):=(Looks.ld e2).andThen .now;have t2:Looks (model X.prog X.w) ((s.heap.push W.emptyDict).push (W.instObj C s.heap.objs.size)) (isInstance (.ref (s.heap.objs.size+1)) (.type "object")) true:=t1.andThen (Y.top.keeps λb o e=>zX _ (zX _ e));refine codeAny_call_builtin oi_plain entry_oi (@check_slot (model X.prog X.w) _ _ _ "object.__init__" "object" "__init__" (.ref (s.heap.objs.size+1)) [] [] _ oi_kind oi_split t2 (oi_args (.ref (s.heap.objs.size+1))) ?_);rw[oi_run];refine zV (And.intro rfl ?_);exact⟨.ref (s.heap.objs.size+1),_,I2,rfl,h _ _ (I.hok.fresh (vQ _)) (I.hok.fresh (zU _)) (zF (yB _))⟩
end
structure DefM(K:W.Frag)(C:Addr)(x qual:Str)(st:Stmt)(ps:List Str):Prop where
 ex:∃(f:Addr)(fd:FuncData),Fun K x qual st f fd/\(∀us:List Value,us.length=ps.length->bindArgs fd ⟨us,[]⟩=pure (ps.zip us))/\L8 K C x f/\Cls K C
structure y8(P:Program)(w:World)(K:W.Frag)(mg:Str->Option Value)(base:Heap)(k:Nat)(C:Addr)(x:Str)(ps:List Str)(sp:Sp):Prop where
 ex:∃(f:Addr)(fd:FuncData),FnOk P w K mg base CX0 k f fd ps sp/\Binds K fd ps []/\L8 K C x f/\Cls K C
section
variable {P:Program}{w:World}{K:W.Frag}{mg:Str->Option Value}{base:Heap}
theorem DefM.callee{C:Addr}{x qual:Str}{st:Stmt}{N ps:List Str}{k:Nat}{sp:Sp}(F:DefM K C x qual st ps)(S:vo N ps (zr st))(len:∀vs H Q E,sp vs H Q E->vs.length=ps.length)
  (bI:∀(f:Addr)(cdv:Value)(A:Around)(outer:List Env)(s:Shared)(H:Hp)(vs:List V)(Q:VK)(E:XK),Room k (A.deeper (envOfC qual (zr st) s.heap.objs.size f cdv))->N.Nodup->sp vs H Q E ->
   ∃σ t,u9 N vs=σ/\PSs (o4 CX0 P w K mg base N qual (zr st) f cdv A outer s H E).nox (zc st) t/\t { nx:=λ_ H'=>Q .non H',rt:=Q } σ H):y8 P w K mg base (k+1) C x ps sp:=by
 obtain⟨f,fd,F,b,hm,hc⟩:=F.ex;refine⟨f,fd,F.ok S len λcdv A outer s H vs Q E hr h=>?_,.all b,hm,hc⟩;obtain⟨σ,t,e,ht,q⟩:=bI f cdv A outer s H vs Q E hr S.nd h;exact⟨t,ht,by rw[e];exact q⟩
theorem dh{X:Cx}{C:Addr}{k k':Nat}{x:Str}{ps:List Str}{sp:Sp}{ta:TE}{t:TA}{o e:Expr}{es:List Expr}{pos apos:Pos}{pl:Sem Bool}(C':y8 X.prog X.w X.K X.mg X.base k C x ps sp)(hr:Room k' X.A)(hk:k<=k')(ho:PE X o ta)(ha:PA X (e::es) t)
  (fR:starEach (e::es) X.env=(false,eval e X.env)::starEach es X.env:=by rfl) (bL:(backTo pos (starEach es X.env)).any (·.1)=false:=by rfl)
  (ht:eval (.Call (.Attribute o x apos) (e::es) [] pos) X.env=(do
   let ov <-eval o X.env;standAt apos.atName
   let(f,first) <-holding [ov] (getMethod ov x pl);callWith pos f first (backTo pos (starEach (e::es) X.env)) (backToKw pos (keywordEach [] X.env))):=by rfl) :
  PE X (.Call (.Attribute o x apos) (e::es) [] pos) (L7 C x sp [] E0 ta t):=by
 obtain⟨f,fd,F,b,hm,hc⟩:=C'.ex;exact Nz (pl:=pl) ho hc hm F (hr.mono hk) b .nil Q5 ha fR bL ht
end
def xp(st:Stmt)(j:Nat):Stmt:=match st with
 | .ClassDef _ _ _ b _ _ _ _ _ _ _=>b.getD j (.Pass ⟨0,0,0,0⟩)
 |_=>.Pass ⟨0,0,0,0⟩
theorem defM_mk{K:W.Frag}{C:Addr}{x qual:Str}{st:Stmt}{ps:List Str}{f:Addr}{oc:Value}{od an:Option Addr}{osl:Array (Option Value)}{kV doc pm cdv ct:Value}
  (a:W.findIn K (.ref C) x=some (some (.ref f))) (l:K.lookup f=some ⟨oc,od,.func (W.fnOf x qual (yt st) (zc st) (zr st) .none kV doc pm an cdv ct),osl⟩)
  (c:W.codeIn K cdv qual=true) (k:W.keepIn K (.ref f)=true) (fn:W.isFn K (.ref f)=true) (cl:Cls K C)
  (hb:∀(kV doc pm:Value)(an:Option Addr)(cdv ct:Value)(us:List Value),us.length=ps.length->bindArgs (W.fnOf x qual (yt st) (zc st) (zr st) .none kV doc pm an cdv ct) ⟨us,[]⟩=pure (ps.zip us)):DefM K C x qual st ps :=
 ⟨f,_,Xf l c k,hb kV doc pm an cdv ct,⟨a,fn,k⟩,cl⟩
end
end My
namespace My
open PySem PySem.Spec PySem.W PySem.Calls
open PyProof.Rows hiding St
def pLt(a b:Int×Bool):Bool:=if a.1=b.1 then(!a.2&&b.2)else decide (a.1<b.1)
theorem Yg(a:Int×Bool):pLt a a=false:=by
 unfold pLt;rw[yV rfl];cases a.2<;>rfl
theorem Uv(a b c:Int×Bool)(h1:pLt a b=true)(h2:pLt b c=true):pLt a c=true:=by
 obtain⟨a,p⟩:=a;obtain⟨b,q⟩:=b;obtain⟨c,r⟩:=c;simp only[pLt]at h1 h2 ⊢;split at h1<;>split at h2
 ·subst_vars;rw[yV rfl];cases p<;>cases q<;>cases r<;>simp at h1 h2 ⊢
 ·subst_vars;have:=yQ h2;rw[zC (by lia)];exact h2
 ·subst_vars;have:=yQ h1;rw[zC (by lia)];exact h1
 ·have:=yQ h1;have:=yQ h2;rw[zC (by lia)];exact yU (by lia)
theorem Nv(a b c:Int×Bool)(h:pLt a c=true):pLt a b=true\/pLt b c=true:=by
 obtain⟨a,p⟩:=a;obtain⟨b,q⟩:=b;obtain⟨c,r⟩:=c;simp only[pLt]at h ⊢
 by_cases e1:a=b
 ·rw[yV e1];subst e1
  by_cases e2:a=c
  ·rw[yV e2]at h ⊢;cases p<;>cases q<;>cases r<;>simp at h ⊢
  ·rw[zC e2]at h ⊢;exact .inr h
 ·rw[zC e1]
  by_cases e2:b=c
  ·rw[yV e2];subst e2;rw[zC e1]at h;exact .inl h
  ·rw[zC e2]
   by_cases e3:a<b
   ·exact .inl (yU e3)
   ·refine .inr (yU ?_)
    by_cases e4:a=c
    ·lia
    ·rw[zC e4]at h;have:=yQ h;lia
theorem Uu(a b:Int×Bool)(h1:pLt a b=false)(h2:pLt b a=false):a=b:=by
 obtain⟨a,p⟩:=a;obtain⟨b,q⟩:=b;simp only[pLt]at h1 h2
 by_cases e:a=b
 ·subst e;rw[yV rfl]at h1 h2;cases p<;>cases q<;>simp at h1 h2 ⊢
 ·rw[zC e]at h1;rw[zC (λz=>e z.symm)]at h2;have:=sZ h1;have:=sZ h2;lia
def Fi:KeyOrd where
 α:=Int×Bool
 blt:=pLt
 irrefl:=Yg
 trans:=Uv
 negTrans:=Nv
 total:=Uu
def Zf(h:Heap)(a:Addr)(k:Int×Bool):Prop:=∃o t n,h.get? a=some o/\o.cls = .type "tuple"/\o.data = .seq #[.int k.1 t,.bool k.2] n
section
variable {prog:Program}{w:World}{A:Around}{E:Value->Shared->Prop}{s:Shared}
theorem V9{a b:Int}{t u:Tok}{Q:Bool->Shared->Prop}(h:Q (decide (a<b)) s):wpAny (model prog w) A (oneLt' true (.int a t) (.int b u)) Q E s:=by
 rw[oneLt'_eq];simp only[if_true];refine zZ (wpAny_cRoomFor_byValue rfl (zZ (wpAny_callSpecialIfBound?_slot (T:="int") rfl F.slot_int_lt (call_gives F.slot_int_lt rfl F.entry_int_lt (F.args_int_lt_2 _ _) (gives_int_lt a b t u) ?_))));exact vO h
theorem P7{x y:Addr}{kx ky:Int×Bool}{C:Bool->Shared->Prop}(hx:Zf s.heap x kx)(hy:Zf s.heap y ky)(h:C (pLt kx ky) s):wpAny (model prog w) A (keyLt' (tuples' true) (.ref x) (.ref y)) C E s:=by
 obtain⟨ox,tx,nx,e1,_,d1⟩:=hx;obtain⟨oy,ty,ny,e2,_,d2⟩:=hy;refine kat_lt e1 d1 e2 d2 ?_;refine kat_cons (tD _ _ _ _ _ _ _ _ ?_);unfold pLt at h
 by_cases e:kx.1=ky.1
 ·rw[yV e]at h;have e3:(kx.1==ky.1)=true:=by simpa using e
  rw[e3];refine kat_yes (kat_cons (tZ _ _ _ _ _ _ ?_))
  by_cases e4:kx.2=ky.2
  ·have e5:(kx.2==ky.2)=true:=by simpa using e4
   rw[e5];refine kat_yes (kat_nil ?_);have:(!kx.2&&ky.2)=false:=by rw[e4];cases ky.2<;>rfl
   rw[this]at h;exact h
  ·have e5:(kx.2==ky.2)=false:=by simpa using e4
   rw[e5];refine kat_no (kat_one _ _ (lt_bool ?_));rw[W4 e4];exact h
 ·rw[zC e]at h;have e3:(kx.1==ky.1)=false:=by simpa using e
  rw[e3];exact kat_no (V9 h)
theorem p9:∀(R:List (Addr×(Int×Bool))),(∀r∈R,Zf s.heap r.1 r.2)->∃fs:List Value,KatTups s.heap (R.map λr=>Value.ref r.1) fs/\fs.length=R.length/\∀v∈fs,∃b t,v = .int b t
 |[],_=>⟨[],.nil,rfl,λv hv=>by simp at hv⟩
 |r::R,h=>by
  obtain⟨fs,h1,h2,h3⟩:=p9 R λq hq=>h q (zH _ hq);obtain⟨o,t,n,ho,hc,hd⟩:=h r zG;refine⟨.int r.2.1 t::fs,KatTups.cons ho hc hd rfl h1,by simp[h2],λv hv=>?_⟩;rcases zI.mp hv with rfl|hv
  ·exact⟨_,_,rfl⟩
  ·exact h3 v hv
theorem Yu{D:Addr}{R:List (Addr×(Int×Bool))}{n0:Nat}{P:PySem.Fin->Shared->Prop}(ho:s.heap.get? D=some (seqObj "list" (R.map λr=>Value.ref r.1).toArray n0))(hR:∀r∈R,Zf s.heap r.1 r.2)(mD:R.length<64)
  (h:∀(R':List (Addr×(Int×Bool)))(h':Heap)(e:Nat),R'.Perm R->(R'.map (·.2)).Pairwise (λa b=>pLt b a=false)->(∀b o,b≠D->s.heap.get? b=some o->h'.get? b=some o)->h'.get? D=some (seqObj "list" (R'.map λr=>Value.ref r.1).toArray e)->P (.done (.ret .none)) { s with heap:=h' }) :
  wpAny (model prog w) A (Builtin.«list.sort» ⟨[.ref D],[]⟩) P E s:=by
 have hl:(R.map λr=>Value.ref r.1).length=R.length:=zY _;have tup:∀{h':Heap},(∀b o,b≠D->s.heap.get? b=some o->h'.get? b=some o)->∀r∈R,Zf h' r.1 r.2:=λ{h'} k r hr=>by
  obtain⟨o,t,n,e,hc,hd⟩:=hR r hr;refine⟨o,t,n,k _ _ (λz=>?_) e,hc,hd⟩;rw[z]at e;have:=xK Obj.cls (yX (e.symm.trans ho));rw[hc]at this;simp at this
 refine uk (O:=Fi) ho (by rw[hl];exact mD) (λi=>(R.getD i (0,(0,false))).2) (tuples' true) (λh2 s1 Q' E' k q=>?_) (λs1 i j C E' k hi hj q=>?_) λp h' e ha hu k eD=>?_
 ·obtain⟨fs,h1,fU,h3⟩:=p9 (s:=s1) R (tup k);refine kat_kind (T:=.type "int") h1 (by rw[fU];rw[hl]at h2;lia) (λv hv=>?_) rfl q;obtain⟨b,t,rfl⟩:=h3 v hv;exact Looks.of_pure rfl
 ·rw[hl]at hi hj;have e1:(R.map λr=>Value.ref r.1).getD i Value.none = .ref (R.getD i (0,(0,false))).1:=by simp[hi]
  have e2:(R.map λr=>Value.ref r.1).getD j Value.none = .ref (R.getD j (0,(0,false))).1:=by simp[hj]
  have m1:R.getD i (0,(0,false))∈R:=by simp[hi]
  have m2:R.getD j (0,(0,false))∈R:=by simp[hj]
  rw[e1,e2];exact P7 (tup k _ m1) (tup k _ m2) q
 ·rw[hl]at ha hu;have hp:(p.toList.map λi=>R.getD i (0,(0,false))).Perm R:=by
   have h1:=ha.pm.map λi=>R.getD i (0,(0,false));have h2:(List.range R.length).map (λi=>R.getD i (0,(0,false)))=R:=by
    apply vH
    ·simp
    ·intro i a1 a2;simp[a2]
   rw[h2]at h1;exact h1
  refine h (p.toList.map λi=>R.getD i (0,(0,false))) h' e hp ?_ k ?_
  ·rw[yF,yE];intro i j hi hj iU;have bT:i<p.size:=by simpa using hi
   have qD:j<p.size:=by simpa using hj
   have:=hu i j (xW iU) (by rw[<-ha.size];exact qD);have g1:p.getD i 0=p[i]:=by simp[Array.getD,bT]
   have g2:p.getD j 0=p[j]:=by simp[Array.getD,qD]
   unfold Srt.K at this;rw[g1,g2]at this;have h9:pLt (R.getD p[j] (0,(0,false))).2 (R.getD p[i] (0,(0,false))).2=false:=this;simpa using h9
  ·rw[eD,yF]
   congr 3
   apply tP;intro i hi;have bT:i<R.length:=yH.mp (ha.pm.mem_iff.mp hi);simp[bT]
end
end My
namespace My
open PySem PySem.Spec PySem.W PySem.Calls
open PyProof.Rows hiding St
def i5(c0 c1:Value)(d:Addr)(i n ep:Nat)(ok ov:Value):Obj :=
 { cls:=.type "dict_itemiterator",dict:=none,data:=.fields #[c0,c1,.ref d,.int i 0,.int n 0,.int ep 0,ok,ov],slots:=#[] }
section
variable {prog:Program}{w:World}{K:Type} [DecidableEq K] {knd:KeyKind prog w K}{A:Around}{E:Value->Shared->Prop}{s:Shared}
theorem Ov{a:Addr}{Q:Option Obj->Shared->Prop}(h:Q (s.heap.get? a) s):wpAny (model prog w) A (loadIfAlive a) Q E s:=by
 intro Γ p _;unfold loadIfAlive;rw[Sem.wp_loadIfAlive,Sem.wp_pure];exact h
theorem Xk{it d a:Addr}{i ep:Nat}{kvs:List (K×Value)}{k:K}{v c1 ok ov:Value}{Q:Option Value->Shared->Prop}(fE:s.heap.get? it=some (i5 (rawInt a) c1 d i kvs.length ep ok ov))
  (ha:∃o,s.heap.get? a=some o) (hai:a≠it)
  (hm:s.heap.DictAt knd d kvs ep) (hx:kvs[i]?=some (k,v))
  (hQ:∀key rG h',knd.is k key=true->h'.get? it=some (i5 (rawInt a) rG d (i+1) kvs.length ep ok ov) ->
   h'.get? s.heap.objs.size=some { cls:=.type "tuple",data:=.seq #[key,v] }->h'.objs.size=s.heap.objs.size+1 ->
   (∀b o,b≠it->s.heap.get? b=some o->h'.get? b=some o)->Q (some (.ref s.heap.objs.size)) { s with heap:=h' }) :
  wpAny (model prog w) A (pyNext (.ref it)) Q E s:=by
 obtain⟨hp,g,dr,tk,os⟩:=s;obtain⟨od,es,EE,kH,Bg,hk,CC,hn⟩:=id hm;have hT:Shared.TypeIs ⟨hp,g,dr,tk,os⟩ (.ref it) "dict_itemiterator":=⟨_,fE,rfl⟩
 unfold pyNext;refine zZ (uE (xQ (name:=Str.ofString "__next__") hT vR
  (xV vR hT F.entry_dict_itemiterator_next ?_ (F.args_dict_itemiterator_next_1 _))))
 refine zZ (zV ?_);refine zZ ?_;refine zZ ?_
 first|refine zZ (vV hT (zV ?_))|refine zZ (vA hT (zV ?_))
 refine zZ (wpAny_fieldsOf fE rfl ?_);have BS:Builtin.Dict_items.ownsTuple "dict_itemiterator"=true:=by decide
 simp only[BS,if_true];show wpAny _ _ (if(Value.ref d==Value.none)=true then _ else _) _ _ _;rw[zC (show¬((Value.ref d==Value.none)=true)from zE)];refine zZ (zV ?_);refine zZ (wpAny_dictEntries EE Bg ?_);have hsz:es.size=kvs.length:=by rw[<-CC.length];simp
 rw[zC (by rw[hsz];simp)];refine zZ (zV ?_);refine zZ (wpAny_dictEpoch EE Bg ?_);rw[zC (by simp)];refine zV ?_;have aI:i<kvs.length:=by
  rcases Nat.lt_or_ge i kvs.length with h|h
  ·exact h
  ·simp[xL h]at hx
 have nJ:i<es.size:=by rw[hsz];exact aI
 obtain⟨pI,hval⟩:=CC.get? (e:=es[i]) (by simp[nJ]) hx;simp only[show¬((i:Int)<0)from by lia,if_false,yW,Array.getElem?_eq_getElem nJ];refine zZ ?_
 first|refine zZ (vV hT (zV ?_))|refine zZ (vA hT (zV ?_))
 refine zZ (sS hT ?_);show wpAny _ _ (setField (.ref it) 3 (rawInt ((i:Int)+1)) >>= _) _ _ ⟨hp,g,dr,tk,os⟩;refine zZ (wG fE (by simp) λh₁ he₁ hs₁=>?_);replace hs₁:Heap.SameBut it hp h₁:=hs₁;replace he₁:h₁.get? it=some (i5 (rawInt a) c1 d (i+1) kvs.length ep ok ov):=by
  have e:((i+1:Nat):Int)=(i:Int)+1:=by lia
  unfold i5;rw[e];simpa[rawInt]using he₁
 have hT₁:Shared.TypeIs ⟨h₁,g,dr,tk,os⟩ (.ref it) "dict_itemiterator":=⟨_,he₁,rfl⟩
 refine zZ (xS ?_);refine zZ (sS hT₁ ?_);refine zZ (sS hT₁ ?_);show wpAny _ _ (Builtin.Dict_items.pairFromOwner (.ref it) 6 es[i].key es[i].val) _ _ ⟨h₁,g,dr,tk,os⟩;unfold Builtin.Dict_items.pairFromOwner;refine zZ (sK ?_);have he₂:(h₁.push { cls:=.type "tuple",data:=.seq #[es[i].key,es[i].val] }).get? it=some (i5 (rawInt a) c1 d (i+1) kvs.length ep ok ov):=zX _ he₁;generalize hh₂:h₁.push { cls:=.type "tuple",data:=.seq #[es[i].key,es[i].val] }=h₂ at he₂;have hz₁:h₁.objs.size=hp.objs.size:=hs₁.1;have Bb:it<hp.objs.size:=zQ fE;have ht₂:h₂.get? hp.objs.size=some { cls:=.type "tuple",data:=.seq #[es[i].key,es[i].val] }:=by rw[<-hh₂,<-hz₁];exact zR _ rfl
 have hz₂:h₂.objs.size=hp.objs.size+1:=by rw[<-hh₂,xX,hz₁]
 have hk₂:∀b o,b≠it->hp.get? b=some o->h₂.get? b=some o:=λb o hb e=>by rw[<-hh₂];exact zX _ (hs₁.extBut b o hb e)
 show wpAny _ _ (Builtin.Dict_items.ownedTupleIsFree (.ref it) >>= _) _ _ ⟨h₂,g,dr,tk,os⟩;rw[hz₁];clear hh₂ he₁ hs₁ hT₁ hz₁ h₁;obtain⟨oa,hoa⟩:=ha;have ha₂:h₂.get? a=some oa:=hk₂ a oa hai hoa;refine zZ ?_;unfold Builtin.Dict_items.ownedTupleIsFree;refine zZ (wN he₂ rfl (x:=rawInt a) rfl ?_);show wpAny _ _ (loadIfAlive ((a:Int)).toNat >>= _) _ _ _;refine zZ (Ov ?_);rw[show(Shared.heap ⟨h₂,g,dr,tk,os⟩).get? ((a:Int)).toNat=some oa from by rw[yW];exact ha₂];simp only[Option.isNone_some];refine zZ (wN he₂ rfl (x:=c1) rfl ?_);have aU:∀h₃ rG,h₃.get? it=some (i5 (rawInt a) rG d (i+1) kvs.length ep ok ov)->Heap.SameBut it h₂ h₃->Q (some (.ref hp.objs.size)) ⟨h₃,g,dr,tk,os⟩:=λh₃ rG he₃ hs₃ =>
  hQ es[i].key rG h₃ pI he₃ (by rw[<-hval];exact hs₃.extBut _ _ (wX Bb) ht₂) (by show h₃.objs.size=_;rw[hs₃.1,hz₂]) (λb o hb e=>hs₃.extBut b o hb (hk₂ b o hb e))
 by_cases hc:(c1 != Value.bool true)=true
 ·rw[yV hc];refine zZ (wG he₂ (by simp) λh₃ he₃ hs₃=>?_);refine zV ?_;rw[zC zE];exact zV (zV ⟨_,rfl,zV (aU h₃ (.bool true) he₃ hs₃)⟩)
 ·rw[zC hc];refine zV ?_;rw[zC zE];exact zV (zV ⟨_,rfl,zV (aU h₂ c1 he₂ (Heap.SameBut.refl ..))⟩)
theorem Tt{it d:Addr}{i ep:Nat}{kvs:List (K×Value)}{c0 c1 ok ov:Value}{Q:Option Value->Shared->Prop}(hh:A.handled=none)(fE:s.heap.get? it=some (i5 c0 c1 d i kvs.length ep ok ov))
  (hm:s.heap.DictAt knd d kvs ep) (hx:kvs[i]?=none)
  (hQ:∀h',Heap.ExtBut it s.heap h'->Q none { s with heap:=h' }):wpAny (model prog w) A (pyNext (.ref it)) Q E s:=by
 obtain⟨od,es,EE,kH,Bg,hk,CC,hn⟩:=id hm;have hT:s.TypeIs (.ref it) "dict_itemiterator":=⟨_,fE,rfl⟩
 unfold pyNext;refine zZ (uE (xQ (name:=Str.ofString "__next__") hT vR
  (xV vR hT F.entry_dict_itemiterator_next ?_ (F.args_dict_itemiterator_next_1 _))))
 refine zZ (zV ?_);refine zZ ?_;refine zZ ?_
 first|refine zZ (vV hT (zV ?_))|refine zZ (vA hT (zV ?_))
 refine zZ (wpAny_fieldsOf fE rfl ?_);have BS:Builtin.Dict_items.ownsTuple "dict_itemiterator"=true:=by decide
 simp only[BS,if_true];show wpAny _ _ (if(Value.ref d==Value.none)=true then _ else _) _ _ s;rw[zC (show¬((Value.ref d==Value.none)=true)from zE)];refine zZ (zV ?_);refine zZ (wpAny_dictEntries EE Bg ?_);have hsz:es.size=kvs.length:=by rw[<-CC.length];simp
 rw[zC (by rw[hsz];simp)];refine zZ (zV ?_);refine zZ (wpAny_dictEpoch EE Bg ?_);rw[zC (by simp)];refine zV ?_;have mC:es.size<=i:=by rw[hsz];simpa using hx
 simp only[show¬((i:Int)<0)from by lia,if_false,yW,sT mC];refine zZ ?_
 first|refine zZ (vV hT (zV ?_))|refine zZ (vA hT (zV ?_))
 show wpAny _ _ (setField (.ref it) 2 .none >>= _) _ _ s;refine zZ (wpAny_setField fE rfl (by simp) ?_);show wpAny _ _ (newExc (.type "StopIteration") [] >>= _) _ _ _;refine zZ ?_;simp only[newExc,newTuple];refine zZ (xZ ?_ (by size_fits));refine zZ (m:=firstArgMember _ _) (wpAny_of_eq (a:=Value.none) (by first|rfl|(simp only[firstArgMember];rfl)) ?_);refine xZ ?_ (by size_fits);simp only[raiseNew];refine zZ (wpAny_handled ?_);rw[show A.in1.handled=none from hh];refine zZ (zV (wpAny_throw ?_));refine zZ (tT (T:="StopIteration") (b:=true) ⟨_,zR _ rfl,rfl⟩ isSubtype_stop ?_);exact zV (hQ _ (((uT ..).extBut.push _).push _))
end
end My
namespace My
open PySem PySem.Spec PySem.W PySem.Calls
open PyProof.Rows hiding St
section
variable {prog:Program}{w:World}{K:Type} [DecidableEq K] {knd:KeyKind prog w K}{A:Around}{E:Value->Shared->Prop}{s:Shared}
theorem far{S b N:Nat}(h1:S<N)(h2:N<=b):b≠S:=λe=>absurd h2 (Nat.not_le_of_lt (e▸h1))
def Ym(key v:Value):Obj:={ cls:=.type "tuple",data:=.seq #[key,v] }
def PairsIn(knd:KeyKind prog w K)(h:Heap)(N:Nat)(aG:Array Value)(kvs:List (K×Value))(i:Nat):Prop :=
 aG.size=i/\∀j kv,j<i->kvs[j]?=some kv->∃b key,aG[j]?=some (.ref b)/\N<=b/\knd.is kv.1 key=true/\h.get? b=some (Ym key kv.2)
theorem PairsIn.keep{h h':Heap}{N:Nat}{aG:Array Value}{kvs:List (K×Value)}{i:Nat}(p:PairsIn knd h N aG kvs i)(k:∀b o,N<=b->h.get? b=some o->h'.get? b=some o):PairsIn knd h' N aG kvs i :=
 ⟨p.1,λj kv hj e=>let⟨b,key,a1,a2,a3,a4⟩:=p.2 j kv hj e;⟨b,key,a1,a2,a3,k b _ a2 a4⟩⟩
theorem PairsIn.push{h:Heap}{N:Nat}{aG:Array Value}{kvs:List (K×Value)}{i:Nat}{k:K}{v key:Value}{b:Addr}(p:PairsIn knd h N aG kvs i)(e:kvs[i]?=some (k,v))(hb:N<=b)(hk:knd.is k key=true)(ho:h.get? b=some (Ym key v)):PairsIn knd h N (aG.push (.ref b)) kvs (i+1):=by
 refine⟨by rw[Array.size_push,p.1],λj kv hj ej=>?_⟩;rcases Nat.lt_or_ge j i with h1|h1
 ·obtain⟨b',key',a1,a2,a3,a4⟩:=p.2 j kv h1 ej;exact⟨b',key',by rw[Array.getElem?_push,zC (by rw[p.1];lia)];exact a1,a2,a3,a4⟩
 ·have hji:j=i:=by lia
  subst hji;rw[e]at ej;cases ej;exact⟨b,key,by rw[Array.getElem?_push,yV p.1.symm],hb,hk,ho⟩
def T0(aG:Array Value)(c:Nat):Obj:={ cls:=.type "list",dict:=none,data:=.seq aG c,slots:=#[] }
theorem Xj{R:Result->Shared->Prop}(hh:A.in1.handled=none){kvs:List (K×Value)}{ep:Nat}(hn:kvs.length<=sizeLine)(S it d:Addr)(hdS:d≠S)(hdi:d≠it)(hSi:S≠it)(N:Nat)(hSN:S<N)(hiN:it<N)(res:Value):
  ∀(k i:Nat)(s:Shared)(aG:Array Value)(c:Nat)(c0 c1 ok ov:Value),kvs.length-i=k->i<=kvs.length->s.heap.get? it=some (i5 c0 c1 d i kvs.length ep ok ov)->((c0 = .none/\c1 = .bool false)\/∃a o,c0=rawInt (a:Nat)/\N<=a/\s.heap.get? a=some o) ->
  s.heap.DictAt knd d kvs ep->N<=s.heap.objs.size->s.heap.get? S=some (T0 aG c)->PairsIn knd s.heap N aG kvs i ->
  (∀h' bE c',(∀b o,b≠S->b≠it->s.heap.get? b=some o->h'.get? b=some o)->h'.get? S=some (T0 bE c')->PairsIn knd h' N bE kvs kvs.length->R (.ok (.ret res)) { s with heap:=h' }) ->
  codeAny (model prog w) A (.builtin "list.extend.loop" ⟨[.ref S,.ref it,res],[]⟩) R s:=by
 intro k
 induction k with
 |zero =>
  intro i s aG c c0 c1 ok ov hk hi fE h0 hm hN hS hP hR;have lZ:i=kvs.length:=by lia
  subst lZ;refine wV F.entry_extend_loop ?_;rw[xN F.plain_extend_loop _];show wpAny _ A.in1 (pyNext (.ref it) >>= _) _ _ s;refine zZ (Tt (knd:=knd) hh fE hm (xL (zU _)) λh' he=>?_);exact zV (hR h' aG c (λb o _ hb e=>he b o hb e) (he S _ hSi hS) (hP.keep λb o hb e=>he b o (far hiN hb) e))
 |succ k ih =>
  intro i s aG c c0 c1 ok ov hk hi fE h0 hm hN hS hP hR;have aI:i<kvs.length:=by lia
  obtain⟨⟨kk,v⟩,ES⟩:∃q,kvs[i]=q:=⟨_,rfl⟩
  have hx:kvs[i]?=some (kk,v):=by rw[zS aI,ES]
  refine wV F.entry_extend_loop ?_;rw[xN F.plain_extend_loop _];show wpAny _ A.in1 (pyNext (.ref it) >>= _) _ _ s;have go:∀key (FZ rG ok' ov':Value) h',knd.is kk key=true->h'.get? it=some (i5 FZ rG d (i+1) kvs.length ep ok' ov')->((FZ = .none/\rG = .bool false)\/∃a o,FZ=rawInt (a:Nat)/\N<=a/\h'.get? a=some o) ->
    h'.get? s.heap.objs.size=some (Ym key v)->h'.objs.size=s.heap.objs.size+1->(∀b o,b≠it->s.heap.get? b=some o->h'.get? b=some o) ->
    wpAny (model prog w) A.in1 (updateSeq S (·.push (.ref s.heap.objs.size)) >>=λ_=>again (.builtin "list.extend.loop" ⟨[.ref S,.ref it,res],[]⟩)) (λaU s'=>match aU with|.done f=>R (.ok f) s'|.again c'=>c'.quiet=true/\codeAny (model prog w) A c' R s') (λe s'=>R (.error e) s') { s with heap:=h' }:=by
   intro key FZ rG ok' ov' h' a1 a2 a3 a4 a5 a6;have CS:h'.get? S=some (T0 aG c):=a6 S _ hSi hS;have C2:∀b o,b≠S->h'.get? b=some o->(h'.update S (Obj.mapSeq (·.push (.ref s.heap.objs.size)))).get? b=some o:=λb o hb e=>(yN _ _ (wU hb)).trans e;refine zZ (uI CS rfl (zV ⟨vS F.plain_extend_loop _,ih (i+1) _ (aG.push (.ref s.heap.objs.size)) _ FZ rG ok' ov' (by lia) aI (C2 _ _ (wU hSi) a2) ?_ ((hm.at' λo e=>a6 d o hdi e).at' λo e=>C2 _ _ hdS e) ?_ (xG _ CS rfl) ?_ λBm bE c' k1 k2 k3=>?_⟩)
    (by rw[hP.1];lia) (by show(aG.push _).size<=sizeLine+1;rw[Array.size_push,hP.1];lia))
   ·rcases a3 with a3|⟨a,o,b1,b2,b3⟩
    ·exact .inl a3
    ·exact .inr ⟨a,o,b1,b2,C2 _ _ (far hSN b2) b3⟩
   ·show N<=(h'.update S _).objs.size;rw[tR];lia
   ·refine PairsIn.push ?_ hx hN a1 (C2 _ _ (far hSN hN) a4);exact hP.keep λb o hb e=>C2 _ _ (far hSN hb) (a6 b o (far hiN hb) e)
   ·exact hR Bm bE c' (λb o b1 b2 e=>k1 b o b1 b2 (C2 _ _ b1 (a6 b o b2 e))) k2 k3
  rcases h0 with⟨rfl,rfl⟩|⟨a,o,rfl,b2,b3⟩
  ·refine zZ (wpAny_pyNext_items_item (knd:=knd) fE hm hx λkey h' a1 a2 a3 a4 a5=>?_);exact go key _ _ _ _ h' a1 a2 (.inr ⟨_,_,rfl,hN,a3⟩) a3 a4 a5
  ·refine zZ (Xk (knd:=knd) fE ⟨o,b3⟩ (far hiN b2) hm hx λkey rG h' a1 a2 a3 a4 a5=>?_);exact go key _ _ _ _ h' a1 a2 (.inr ⟨a,o,rfl,b2,a5 a o (far hiN b2) b3⟩) a3 a4 a5
theorem Xi{r:Addr}{Q:Bool->Shared->Prop}(hT:s.TypeIs (.ref r) "dict_items")(h:Q false s):wpAny (model prog w) A (Builtin.List.listLengthHint (.ref r)) Q E s:=by
 unfold Builtin.List.listLengthHint;refine zZ (wpAny_specialOf hT F.slot_dict_items_len.lookup ?_);generalize A0:("dict_items.__len__":String)=id0
 wp_delta
 rw[show splitId id0=some ("dict_items","__len__")from by subst A0;decide +kernel];subst A0;refine zZ (tT (T:="dict_items") (b:=true) hT (by rw[sL];kernel_rfl) ?_);refine uJ (λkX=>absurd kX (by decide)) (λ_=>?_);refine uJ (λ_=>?_) (λkX=>absurd (by decide +kernel) kX);refine zZ (uY hT ?_);exact zV h
end
end My
namespace My
open PySem PySem.Spec PySem.W PySem.Calls L2
open PyProof.Rows hiding St
section
section
variable {prog:Program}{w:World}{K:Type} [DecidableEq K] {knd:KeyKind prog w K}{A:Around}{E:Value->Shared->Prop}{s:Shared}
theorem i6{v d:Addr}{kvs:List (K×Value)}{ep:Nat}{Q:List Value->Shared->Prop}(hh:A.handled=none)(hv:s.heap.IsItemsView v d)(hm:s.heap.DictAt knd d kvs ep)(hz:kvs.length<=sizeLine)
  (hQ:∀h' tk aG,(∀b o,s.heap.get? b=some o->h'.get? b=some o)->s.heap.objs.size<h'.objs.size->PairsIn knd h' (s.heap.objs.size+2) aG kvs kvs.length->Q aG.toList { s with heap:=h',toks:=tk }):wpAny (model prog w) A (collect (.ref v)) Q E s:=by
 have hvl:v<s.heap.objs.size:=let⟨_,e,_⟩:=hv;zQ e;have pJ:d<s.heap.objs.size:=hm.lt_size;unfold collect;refine zZ (wpAny_runValue (wV F.entry_proto_collect ?_));rw[xN uC _];refine(show wpAny _ A.in1 (newList [] >>=λl=>again (.builtin "list.__iadd__" ⟨[l,.ref v],[]⟩)) _ _ s from zZ (xZ ?_));refine zV ⟨vS wD _,wV F.entry_list_iadd ?_⟩;rw[xN wD _];generalize qX:s.heap.push { cls:=.type "list",data:=.seq ([]:List Value).toArray }=h1;have k1:∀b o,s.heap.get? b=some o->h1.get? b=some o:=λb o e=>qX▸zX _ e;have A4:h1.get? s.heap.objs.size=some (T0 #[] 0):=qX▸zR _ rfl;have iP:h1.objs.size=s.heap.objs.size+1:=by rw[<-qX,xX]
 have hv1:h1.IsItemsView v d:=let⟨o,e,x⟩:=hv;⟨o,k1 _ _ e,x⟩;have hm1:h1.DictAt knd d kvs ep:=hm.at' λo e=>k1 _ _ e;have hT1:Shared.TypeIs { s with heap:=h1 } (.ref v) "dict_items":=hv1.typeIs;refine(show wpAny _ A.in1 (Builtin.List.listExtendWith (.ref s.heap.objs.size) (.ref v) (.ref s.heap.objs.size)) _ _ { s with heap:=h1 }from ?_);unfold Builtin.List.listExtendWith;refine zZ (uY hT1 ?_);have n1:Builtin.List.listSameRef (.ref s.heap.objs.size) (.ref v)=false:=by simp[Builtin.List.listSameRef,wX hvl]
 have n2:(Value.type "dict_items"==Value.type "list")=false:=by decide
 have n3:(Value.type "dict_items"==Value.type "tuple")=false:=by decide
 simp only[n1,n2,n3,Bool.or_false,Bool.false_eq_true,if_false];refine zZ (wpAny_pyIter_items (s:={ s with heap:=h1 }) (knd:=knd) hv1 hm1 ?_);generalize hh2:Heap.push (Shared.heap { s with heap:=h1 }) { cls:=.type "dict_itemiterator",data:=.fields #[.none,.bool false,.ref d,.int 0 0,.int kvs.length 0,.int ep 0,.none,.none] }=h2;have BZ:h1.push { cls:=.type "dict_itemiterator",data:=.fields #[.none,.bool false,.ref d,.int 0 0,.int kvs.length 0,.int ep 0,.none,.none] }=h2:=hh2;have k2:∀b o,h1.get? b=some o->h2.get? b=some o:=λb o e=>BZ▸zX _ e;have hI2:h2.get? (s.heap.objs.size+1)=some (i5 .none (.bool false) d 0 kvs.length ep .none .none):=by
  rw[<-iP,<-BZ];exact zR _ rfl
 have oK:h2.objs.size=s.heap.objs.size+2:=by rw[<-BZ,xX,iP]
 have Bi:=k2 _ _ A4;have key:∀(R:Result->Shared->Prop)(h:Heap)(c₁ tk:Nat),(∀b o,b≠s.heap.objs.size->h2.get? b=some o->h.get? b=some o)->h.objs.size=s.heap.objs.size+2->h.get? s.heap.objs.size=some (T0 #[] c₁) ->
   (∀h' aG c',(∀b o,s.heap.get? b=some o->h'.get? b=some o)->s.heap.objs.size<h'.objs.size->h'.get? s.heap.objs.size=some (T0 aG c')->PairsIn knd h' (s.heap.objs.size+2) aG kvs kvs.length->R (.ok (.ret (.ref s.heap.objs.size))) { s with heap:=h',toks:=tk }) ->
   codeAny (model prog w) A (.builtin "list.extend.loop" ⟨[.ref s.heap.objs.size,.ref (s.heap.objs.size+1),.ref s.heap.objs.size],[]⟩) R { s with heap:=h,toks:=tk }:=by
  intro R h c₁ tk k e hS hR;refine Xj (knd:=knd) (R:=R) hh hz s.heap.objs.size (s.heap.objs.size+1) d (zF pJ) (zF (xI pJ)) (zF (yB _)) (s.heap.objs.size+2) (xI (yB _)) (yB _) (.ref s.heap.objs.size) kvs.length 0 _ #[] c₁ .none (.bool false) .none .none rfl (yR _)
   (k _ _ (wX (yB _)) hI2) (.inl ⟨rfl,rfl⟩) ((hm1.at' λo e=>k2 _ _ e).at' λo e=>k _ _ (zF pJ) e) (vK e.symm) hS ⟨rfl,λj _ hj=>absurd hj (Nat.not_lt_zero _)⟩ λh' bE c' a1 a2 a3=>?_
  exact hR h' bE c' (λb o e=>a1 b o (zF (zQ e)) (zF (xI (zQ e))) (k b o (zF (zQ e)) (k2 b o (k1 b o e)))) (zQ a2) a2 a3
 have hT2:Shared.TypeIs { s with heap:=h2 } (.ref v) "dict_items":=let⟨o,e,x⟩:=hv1;⟨o,k2 _ _ e,x.1⟩;refine zZ (xS (Xi hT2 ?_));rw[show Shared.heap { s with heap:=h1 }=h1 from rfl,iP];refine uJ (λ_=>?_) (λ_=>zV ⟨vS vB _,key _ h2 0 _ (λb o _ e=>e) oK Bi λh' aG c' a1 a2 a3 a4=>?_⟩)
 ·refine zZ (tU ?_);refine zZ ?_;show wpAny _ _ (updateSeq s.heap.objs.size (·.push .none) >>=λ_=>updateSeq s.heap.objs.size (·.pop)) _ _ _;refine zZ (uI Bi rfl ?_);have hS₂:=xG (Obj.mapSeq (·.push Value.none)) Bi rfl;refine uI (hz:=by seq_fits) hS₂ rfl ?_;have hS₃:=xG (Obj.mapSeq (·.pop)) hS₂ rfl;refine zV ⟨vS vB _,key _ _ _ _ (λb o hb e=>?_) (by rw[tR,tR,oK]) hS₃ λh' aG c' a1 a2 a3 a4=>?_⟩
  ·exact(yN _ _ (wU hb)).trans ((yN _ _ (wU hb)).trans e)
  ·exact(show wpAny _ A (load s.heap.objs.size >>= _) _ _ _ from zZ (rV a3 (zV (hQ h' _ aG a1 a2 a4))))
 ·exact(show wpAny _ A (load s.heap.objs.size >>= _) _ _ _ from zZ (rV a3 (zV (hQ h' _ aG a1 a2 a4))))
end
end
section
section
variable {X:Cx}{pins:List (Addr×Obj)}{σ:St}{H H':Hp}{s:Shared}{h':Heap}
theorem Inv.laids{t':Nat}(I:Inv X pins σ H s)(k:∀b u,s.heap.get? b=some u->h'.get? b=some u)(eq:∀b,b<s.heap.objs.size->H' b=H b)
  (new:∀a o,s.heap.objs.size<=a->H' a=some o->ObjOk X.prog X.w H' h' a o):Inv X pins σ H' { s with heap:=h',toks:=t' }:=by
 have sm:∀b o,H b=some o->H' b=some o:=λb o e=>(eq b (I.hok.lt e)).trans e;refine I.un ⟨λb u q _ _ _=>k b u q,λb u q _ _ _=>⟨u.slots,k b u q⟩,λb u q n _=>(eq b (zQ q)).trans n,λb u q _=>⟨u,k b u q⟩,λb xs q=>sm _ _ q,λb u xs q=>sm _ _ q,λb ps q=>⟨#[],by rw[sm _ _ q];simp⟩⟩ λa o e=>?_;rcases Nat.lt_or_ge a s.heap.objs.size with h1|h1
 ·exact(I.hok a o ((eq a h1).symm.trans e)).stay (λb u _ q=>k b u q) (λb q=>sm _ _ q) λb xs q=>sm _ _ q
 ·exact new a o h1 e
end
def vf(H:Hp):List (Addr×HO)->Hp
 |[]=>H
 |p::l=>upd (vf H l) p.1 p.2
theorem j8{H:Hp}{b:Addr}:∀{l:List (Addr×HO)},(∀p∈l,p.1≠b)->vf H l b=H b
 |[],_=>rfl
 |p::l,h=>by
  show upd (vf H l) p.1 p.2 b=H b;rw[zh (wU (h p zG))];exact j8 λq hq=>h q (zH _ hq)
theorem ge{H:Hp}{b:Addr}{o:HO}:∀{l:List (Addr×HO)},vf H l b=some o->(∃p∈l,p=(b,o))\/H b=some o
 |[],h=>.inr h
 |p::l,h=>by
  by_cases e:b=p.1
  ·subst e;have h2:upd (vf H l) p.1 p.2 p.1=some o:=h;rw[zx]at h2;cases h2;exact .inl ⟨p,zG,rfl⟩
  ·have h2:upd (vf H l) p.1 p.2 b=some o:=h;rw[zh e]at h2;rcases ge h2 with⟨q,hq,e2⟩|h3
   ·exact .inl ⟨q,zH _ hq,e2⟩
   ·exact .inr h3
theorem o7{H:Hp}{b:Addr}{o:HO}:∀{l:List (Addr×HO)},(b,o)∈l->(∀p∈l,p.1=b->p.2=o)->vf H l b=some o
 |p::l,h,u=>by
  show upd (vf H l) p.1 p.2 b=some o
  by_cases e:b=p.1
  ·subst e;rw[zx,u p zG rfl]
  ·rw[zh e];rcases zI.mp h with h1|h1
   ·subst h1;exact absurd rfl e
   ·exact o7 h1 λq hq=>u q (zH _ hq)
theorem Vz{α:Type}{P:Nat->α->Prop}:∀n,(∀j,j<n->∃x,P j x)->∃l:List α,l.length=n/\∀j x,l[j]?=some x->P j x
 |0,_=>⟨[],rfl,λj x e=>by simp at e⟩
 |n+1,h=>by
  obtain⟨l,h1,h2⟩:=Vz n λj hj=>h j (xI hj);obtain⟨x,hx⟩:=h n (yB n);refine⟨l++[x],by rw[zP,h1];rfl,λj y e=>?_⟩;rcases Nat.lt_or_ge j n with hj|hj
  ·rw[yK (by lia)]at e;exact h2 j y e
  ·rw[yI (by lia),h1]at e;have:j-n=0:=by
    rcases Nat.eq_zero_or_pos (j-n)with z|z
    ·exact z
    ·rw[xL (by simp;lia)]at e;cases e
   rw[this]at e;have hjn:j=n:=by lia
   subst hjn;cases e;exact hx
section
variable {X:Cx}
def kvI(kvs:List (Int×Bool)):List (Key×V):=kvs.map λp=>(Sum.inl p.1,V.bl p.2)
theorem Jp{kvs:List (Int×Bool)}{vs:List (Key×Value)}(r:KV (kvI kvs) vs):∀(j:Nat)(p:Int×Bool),kvs[j]?=some p->vs[j]?=some (Sum.inl p.1,Value.bool p.2):=by
 induction kvs generalizing vs with
 |nil=>intro j p e;simp at e
 |cons q l ih =>
  cases r with
  |cons h t =>
   intro j p e;cases j with
   |zero =>
    cases e;rename_i v Cw;obtain⟨v1,v2⟩:=v;obtain⟨h1,h2⟩:=h;have pN:Sum.inl q.1=v1:=h1;have fU:v2=Value.bool q.2:=h2;subst pN;subst fU
    rfl
   |succ j=>exact ih t j p (by simpa using e)
def tj(H:Hp)(kvs:List (Int×Bool))(Q:VK):Prop:=∀(r:Addr)(ps:List (Addr×(Int×Bool)))(H':Hp),Same H H'->(ps.map (·.2)).Perm kvs->(ps.map (·.2)).Pairwise (λa b=>pLt b a=false) ->
 (∀p∈ps,H' p.1=some (.tup [.int p.2.1,.bl p.2.2]))->H' r=some (.lst (ps.map λp=>V.ref p.1))->Q (.ref r) H'
theorem Od(hc:X.calm=true){pins:List (Addr×Obj)}{σ:St}{H:Hp}{s:Shared}(I:Inv X pins σ H s){d:Addr}{kvs:List (Int×Bool)}{Q:VK}(e:H d=some (.dK (kvI kvs)))(mD:kvs.length<64)(q:tj H kvs Q):
  wpAny (model X.prog X.w) X.A (call (.builtin "sorted") [.ref s.heap.objs.size]) (EP X pins σ Q) X.xe { s with heap:=s.heap.push { cls:=.type "dict_items",data:=.fields #[.ref d] } }:=by
 have hh:X.A.handled=none:=I.ok.hd hc;obtain⟨hz,lo,vs,ES,hD⟩:=O9 I.hok e;obtain⟨ep,FE⟩:=hD.dictAt;have aH:vs.length=kvs.length:=by
  have:=ES.length;rw[<-this,kvI,zY]
 generalize qX:s.heap.push { cls:=.type "dict_items",data:=.fields #[.ref d] }=h1;have k1:∀b o,s.heap.get? b=some o->h1.get? b=some o:=λb o e=>qX▸zX _ e;have hv:h1.IsItemsView s.heap.objs.size d:=qX▸⟨_,zR _ rfl,rfl,rfl⟩
 have iP:h1.objs.size=s.heap.objs.size+1:=by rw[<-qX,xX]
 refine call_function_entry kind_sorted plain_sorted entry_sorted (args_sorted1 _) (by
  unfold Builtin.«sorted»;refine zZ (m:=checkCount "sorted" 1 1 _) (zV (zZ (i6 (A:=X.A.in1) (knd:=xj X.prog X.w) (kvs:=vs) (ep:=ep) (s:={ s with heap:=h1 }) hh hv (FE.at' λo e=>k1 _ _ e) (by rw[aH,zM];lia) λh' tk aG keep fT hP=>?_)));have aI:s.heap.objs.size<h'.objs.size:=by
   have:h1.objs.size<h'.objs.size:=fT;lia
  obtain⟨R,oS,hR⟩:=Vz (α:=Addr×(Int×Bool)) (P:=λj r=>aG[j]?=some (.ref r.1)/\kvs[j]?=some r.2/\s.heap.objs.size<=r.1/\∃t,h'.get? r.1=some (Ym (.int r.2.1 t) (.bool r.2.2))) kvs.length λj hj=>by
   obtain⟨p,hp⟩:∃p,kvs[j]?=some p:=⟨_,zS hj⟩
   obtain⟨b,key,a1,a2,a3,a4⟩:=hP.2 j _ (by lia) (Jp ES j p hp);rcases ya (show j6 (Sum.inl p.1) key=true from a3)with⟨i,t,e1,e2⟩|⟨x,t,e1,e2⟩
   ·cases e1;subst e2;exact⟨(b,p),a1,hp,yT (by show s.heap.objs.size<=h1.objs.size+2;lia) a2,t,a4⟩
   ·cases e1
  have eacc:aG.toList=R.map λr=>Value.ref r.1:=by
   refine sP λj=>?_;rw[zT,vW];cases hj:R[j]? with
   |none =>
    have h2:R.length<=j:=tQ.mp hj;rw[sT (by rw[hP.1];lia)]
    rfl
   |some r=>rw[(hR j r hj).1];rfl
  have ekvs:R.map (·.2)=kvs:=by
   refine sP λj=>?_;rw[zT];cases hj:R[j]? with
   |none =>
    have h2:R.length<=j:=tQ.mp hj;rw[xL (by lia)]
    rfl
   |some r=>rw[(hR j r hj).2.1];rfl
  have iL:∀r∈R,s.heap.objs.size<=r.1/\∃t,h'.get? r.1=some (Ym (.int r.2.1 t) (.bool r.2.2)):=λr hr=>by
   obtain⟨j,hj⟩:=List.getElem?_of_mem hr;exact(hR j r hj).2.2
  rw[eacc];refine zZ (tJ ?_ (by rw[zY,oS,zM];lia));generalize hh2:Heap.push (Shared.heap { s with heap:=h',toks:=tk }) _=h2;have k2:∀b o,h'.get? b=some o->h2.get? b=some o:=λb o e=>hh2▸zX _ e;have eD:h2.get? h'.objs.size=some (seqObj "list" (R.map λr=>Value.ref r.1).toArray 0):=hh2▸zR _ rfl;refine zZ (xS ?_);refine xV (s:={ s with heap:=h2,toks:=tk }) sJ ⟨_,eD,rfl⟩ tF (Yu (prog:=X.prog) (w:=X.w) eD (λr hr=>by
   obtain⟨t,z⟩:=(iL r hr).2;exact⟨_,t,_,k2 _ _ z,rfl,rfl⟩) (by lia) λR2 h3 e3 pm up k3 eD3=>⟨_,rfl,zV ⟨_,rfl,?_⟩⟩) (args_list_sort _)
  have hD:s.heap.objs.size<=h'.objs.size:=xW aI;have mR:∀r∈R2,s.heap.objs.size<=r.1/\r.1≠h'.objs.size/\∃t,h3.get? r.1=some (Ym (.int r.2.1 t) (.bool r.2.2)):=λr hr=>by
   obtain⟨z1,t,z2⟩:=iL r (pm.mem_iff.mp hr);have ne:r.1≠h'.objs.size:=zF (zQ z2);exact⟨z1,ne,t,k3 _ _ ne (k2 _ _ z2)⟩
  have one:∀r∈R2,∀r'∈R2,r'.1=r.1->r'.2=r.2:=λr hr r' gH z=>by
   obtain⟨_,_,t,z2⟩:=mR r hr;obtain⟨_,_,t',z2'⟩:=mR r' gH;rw[z,z2]at z2';simp[Ym]at z2';exact(Prod.ext z2'.1.1 z2'.2).symm
  generalize hL:((h'.objs.size,HO.lst (R2.map λp=>V.ref p.1))::R2.map λp=>(p.1,HO.tup [V.int p.2.1,V.bl p.2.2]))=L;have mL:∀p∈L,s.heap.objs.size<=p.1:=λp hp=>by
   rw[<-hL]at hp;rcases zI.mp hp with z|z
   ·subst z;exact hD
   ·obtain⟨r,hr,z⟩:=zD.mp z;subst z;exact(mR r hr).1
  have DA:∀b,b<s.heap.objs.size->vf H L b=H b:=λb hb=>j8 λp hp z=>absurd (mL p hp) (by rw[z];exact Nat.not_le_of_lt hb);have qH:Vals (R2.map λp=>V.ref p.1) (R2.map λp=>Value.ref p.1):=by
   have h1:(R2.map λr=>V.ref r.1)=(R2.map (·.1)).map V.ref:=by rw[yF];rfl
   have h2:(R2.map λr=>Value.ref r.1)=(R2.map (·.1)).map Value.ref:=by rw[yF];rfl
   rw[h1,h2];exact sj _
  have I2:Inv X pins σ (vf H L) { s with heap:=h3,toks:=tk }:=by
   refine Inv.laids I (λb o eb=>k3 b o (zF (zA (zQ eb) hD)) (k2 _ _ (keep b o (k1 b o eb)))) DA λa o ha eo=>?_;rcases ge eo with⟨p,hp,z⟩|z
   ·rw[<-hL]at hp;rcases zI.mp hp with y|y
    ·rw[z]at y;cases y;exact⟨by rw[zY,pm.length_eq,zM];lia,_,e3,qH,eD3⟩
    ·obtain⟨r,hr,y⟩:=zD.mp y;rw[z]at y;cases y;obtain⟨_,_,t,z2⟩:=mR r hr;exact⟨by simp only[yL,wW];rw[zM];decide,[.int r.2.1 t,.bool r.2.2],.cons ⟨t,rfl⟩ (.cons rfl .nil),⟨_,z2,rfl,_,rfl⟩⟩
   ·exact absurd (I.hok.lt z) (Nat.not_lt_of_le ha)
  refine⟨.ref h'.objs.size,vf H L,I2,rfl,q _ R2 _ (λb o eb=>(DA b (I.hok.lt eb)).trans eb) (by rw[<-ekvs];exact pm.map _) up (λp hp=>?_) ?_⟩
  ·refine o7 (by rw[<-hL];exact zH _ (zD.mpr ⟨p,hp,rfl⟩)) λp' iB z=>?_;rw[<-hL]at iB;rcases zI.mp iB with y|y
   ·subst y;exact absurd z.symm (mR p hp).2.1
   ·obtain⟨r,hr,y⟩:=zD.mp y;subst y;show HO.tup [V.int r.2.1,V.bl r.2.2]=_;rw[one p hp r hr z]
  ·refine o7 (by rw[<-hL];exact zG) λp' iB z=>?_;rw[<-hL]at iB;rcases zI.mp iB with y|y
   ·subst y
    rfl
   ·obtain⟨r,hr,y⟩:=zD.mp y;subst y;exact absurd z (mR r hr).2.1)
def tSI(te:TE):TE:=fun σ H Q=>te σ H (kr λa H1=>∃kvs:List (Int×Bool),H1 a=some (.dK (kvI kvs))/\kvs.length<64/\tj H1 kvs Q)
theorem i7{e:Expr}{te:TE}{p1 p2 kJ bH:Pos}(hc:X.calm=true)(g1:Gl X "sorted")(m1:X.mg "sorted"=none)(ha:PE X e te)
  (eU:starEach [.Call (.Attribute e "items" p2) [] [] bH] X.env=[(false,eval (.Call (.Attribute e "items" p2) [] [] bH) X.env)]:=by rfl)
  (fF:attributeBase e "items" X.env (eval e X.env)=eval e X.env:=by rfl) (fD:(p2.endLine==bH.line)=true:=by rfl) :
  PE X (.Call (.Name "sorted" p1) [.Call (.Attribute e "items" p2) [] [] bH] [] kJ) (tSI te):=by
 intro pins s σ H Q I h;refine wL (wg I g1 m1 r9 (uS ?_ eU rfl));rw[eU];refine(show wpAny _ _ (spliced ((false,eval (.Call (.Attribute e "items" p2) [] [] bH) X.env)::[])) _ _ s from vD ?_);refine wpAny_Call_method (T:="dict") (id:="dict.items") fF rfl fD F.plainAttrs_dict F.slot_dict_items F.type_dict_items (thn (ha pins s σ H _ I h) λu s1 ⟨x,H1,I1,r1,q1⟩=>?_);cases x with
 |ref a =>
  cases r1;obtain⟨kvs,hd,mD,q⟩:=(show∃kvs:List (Int×Bool),H1 a=some (.dK (kvI kvs))/\kvs.length<64/\tj H1 kvs Q from q1)
  obtain⟨hz,lo,vs,ES,hD⟩:=O9 I1.hok hd;refine⟨hD.typeIs,hD.mapOf.noDict,?_⟩;show wpAny _ _ (callWith bH (.builtin "dict.items") [.ref a] [] []) _ _ s1;exact method_meetsIn F.slot_dict_items F.entry_dict_items rfl (PySem.evalArgs_none ⟨rfl,hD.typeIs,F.args_dict_items_1 _,_,meets_dict_items (xj X.prog X.w) a lo,⟨vs,hD⟩,vP (Od hc I1 hd mD q)⟩)
 |_=>exact(show False from q1).elim
end
end
section
section
variable {X:Cx}
def tDG(td ti:TE):TE:=fun σ H Q=>td σ H (kr λa H1=>ti σ H1 (gr λi H2=>∃kvs v,H2 a=some (.dK kvs)/\rq kvs (Sum.inl i)=some v/\Q v H2))
theorem Xu{o i:Expr}{td ti:TE}{pos:Pos}(hu:X.A.units+64<cLine)(ho:PE X o td)(hi:PE X i ti)(hs:Fy i):PE X (.Subscript o i pos) (tDG td ti):=by
 intro pins s σ H Q I h;refine Ol F.slot_dict_getitem.lookup hs (thn (ho pins s σ H _ I h) λu s1 ⟨x,H1,I1,rx,q1⟩=>?_);cases x with
 |ref a =>
  cases rx;refine thn (hi pins s1 σ H1 _ I1 q1) λiv s2 ⟨y,H2,I2,ry,q2⟩=>?_;cases y with
  |int n =>
   obtain⟨kvs,v,e,ev,q⟩:=(show∃kvs v,H2 a=some (.dK kvs)/\rq kvs (Sum.inl n)=some v/\Q v H2 from q2)
   have g:Ir H2 a (.int n) (some v):=.inl ⟨kvs,Sum.inl n,.inl e,rfl,ev.symm⟩;exact⟨Zp I2 g,Tg (by lia) I2 g ry λw' s3 I3 lG=>⟨v,H2,I3,lG,q⟩⟩
  |_=>exact(show False from q2).elim
 |_=>exact(show False from q1).elim
end
end
section
def ku(p:Int×Bool):PyData:=.tuple [.int p.1,.bool p.2]
theorem Zu{K:W.Frag}{H:Hp}{a:Addr}{n:Int}{b:Bool}(h:SqT K H a [.int n,.bl b]):Has K H (.ref a) (ku (n,b)):=by
 unfold ku Has;refine⟨a,_,rfl,h,?_⟩;unfold HasL;refine⟨_,_,rfl,by unfold Has;rfl,?_⟩;unfold HasL;refine⟨_,_,rfl,by unfold Has;rfl,?_⟩;simp[HasL]
theorem om(p:Int×Bool):SeqAt.shaped (ku p)=true:=by
 unfold SeqAt.shaped ku;simp[PyData.canLay0,PyData.canLayAll0,PyData.depth,PyData.depthAll]
theorem Pe(p q:Int×Bool):PyData.eqv (ku p) (ku q)=decide (p=q):=by
 obtain⟨a,u⟩:=p;obtain⟨b,v⟩:=q;unfold ku;simp only[PyData.eqv,PyData.eqvAll,Bool.and_true]
 by_cases e:a=b
 ·subst e;cases u<;>cases v<;>simp
 ·simp[e]
end
section
theorem Ou{k:List Bool}{ps qs:List (Nat×Bool)}(h:ps.Perm qs):agr k ps=agr k qs:=by
 unfold agr;rw[tG,yA,yA];exact⟨λz p hp=>z p (h.mem_iff.mpr hp),λz p hp=>z p (h.mem_iff.mp hp)⟩
def yl(R:List (List Bool))(said:Nat->Bool)(tk:List (Nat×Bool))(n:Nat):Bool :=
 if(R.any λk=>agr k (tk++[(n,said n)]))=true then said n else !said n
def zf(R:List (List Bool))(said:Nat->Bool)(ord:List Nat):List (Nat×Bool):=ord.foldl (λtk n=>tk++[(n,yl R said tk n)]) []
theorem va{R:List (List Bool)}{said:Nat->Bool}{ord:List Nat}{i n:Nat}(h:ord[i]?=some n):zf R said (ord.take (i+1))=zf R said (ord.take i)++[(n,yl R said (zf R said (ord.take i)) n)]:=by
 unfold zf;rw[yY,h,List.foldl_append]
 rfl
theorem jx(R:List (List Bool))(said:Nat->Bool):∀(ord:List Nat)(tk:List (Nat×Bool)),(ord.foldl (λtk n=>tk++[(n,yl R said tk n)]) tk).map (·.1)=tk.map (·.1)++ord
 |[],tk=>by simp
 |n::ord,tk=>by
  rw[uZ,jx R said ord];simp
theorem xw(R:List (List Bool))(said:Nat->Bool)(ord:List Nat):(zf R said ord).map (·.1)=ord:=by
 unfold zf;rw[jx];simp
theorem mm(R:List (List Bool))(said:Nat->Bool)(ord:List Nat):(zf R said ord).length=ord.length:=by
 have:=xK List.length (xw R said ord);simpa using this
def wm(tk:List (Nat×Bool)):List (Int×Bool):=tk.map λp=>(((p.1:Nat):Int),p.2)
theorem Wf{kvs:List (Key×V)}{k:Key}{v:V}(h:∀p∈kvs,p.1≠k):ud kvs k v=kvs++[(k,v)]:=by
 unfold ud;rw[zC];intro z;obtain⟨p,hp,e⟩:=yD.mp z;exact h p hp (yQ e)
theorem mr:∀{tk:List (Nat×Bool)}{n:Nat}{b:Bool},(tk.map (·.1)).Nodup->(n,b)∈tk->rq (kvI (wm tk)) (Sum.inl (n:Int))=some (V.bl b)
 |p::tk,n,b,hn,h=>by
  rw[List.map_cons,wK]at hn;show rq ((Sum.inl (p.1:Int),V.bl p.2)::kvI (wm tk)) (Sum.inl (n:Int))=some (V.bl b);rcases zI.mp h with e|e
  ·subst e;exact ub rfl
  ·rw[ua λz=>?_]
   ·exact mr hn.2 e
   ·have z2:((p.1:Nat):Int)=(n:Int):=Sum.inl.inj z;have z3:p.1=n:=Int.ofNat.inj z2;exact hn.1 (zD.mpr ⟨(n,b),e,z3.symm⟩)
theorem Rc{qs:List (Int×Bool)}{tk:List (Nat×Bool)}(h:qs.Perm (wm tk)):∃ps:List (Nat×Bool),qs=wm ps/\ps.Perm tk:=by
 refine⟨qs.map λq=>(q.1.toNat,q.2),?_,?_⟩
 ·unfold wm;rw[yF];refine(List.map_id qs).symm.trans (tP λq hq=>?_);obtain⟨p,_,e⟩:=zD.mp (h.mem_iff.mp hq);subst e;simp
 ·have:=h.map λq:Int×Bool=>(q.1.toNat,q.2)
  refine this.trans ?_;unfold wm;rw[yF];have:((λq:Int×Bool=>(q.1.toNat,q.2))∘λp:Nat×Bool=>(((p.1:Nat):Int),p.2))=id:=by funext p;simp
  rw[this,List.map_id]
end
section
theorem jr:bootBuiltins "str"=some (.type "str"):=by decide +kernel
section
variable {X:Cx}
def oi(k:Str->Hp->Prop):V->Hp->Prop:=λx H=>match x with
 | .str c=>k c H
 |_=>False
theorem Q1{k:Str->Hp->Prop}{c:Str}{H:Hp}:oi k (.str c) H=k c H:=rfl
def PF(X:Cx)(es:List Expr)(t:Str->TE):Prop:=∀(out:Str)(pins:List (Addr×Obj))(s:Shared)(σ:St)(H:Hp)(Q:VK),Inv X pins σ H s->t out σ H Q->wpAny (model X.prog X.w) X.A (joinParts out (evalEach es X.env)) (EP X pins σ Q) X.xe s
def tF0:Str->TE:=λout _ H Q=>out.length<=sizeLine/\Q (.str out) H
def tFC(te:TE)(t:Str->TE):Str->TE:=λout σ H Q=>te σ H (oi λy H1=>(out++y).length<=sizeLine/\t (out++y) σ H1 Q)
def tFv(te:TE):TE:=fun σ H Q=>te σ H (oi λy H1=>y.length<=sizeLine/\Q (.str y) H1)
theorem Yj:PF X [] tF0:=λout pins s σ H Q I h=>joinParts_nil ⟨.str out,H,I.tok _,⟨_,rfl⟩,h.2⟩ h.1
theorem xb{e:Expr}{es:List Expr}{te:TE}{t:Str->TE}(ha:PE X e te)(hr:PF X es t)(hs:evalEach (e::es) X.env=eval e X.env::evalEach es X.env:=by rfl):PF X (e::es) (tFC te t):=by
 intro out pins s σ H Q I h;rw[hs];refine joinParts_cons (thn (ha pins s σ H _ I h) λv s1 ⟨x,H1,I1,r1,q1⟩=>?_);cases x with
 |str y =>
  obtain⟨t1,rfl⟩:=r1;obtain⟨h2,h3⟩:=(show(out++y).length<=sizeLine/\t (out++y) σ H1 Q from q1)
  exact⟨h2,hr _ pins s1 σ H1 Q I1 h3⟩
 |_=>exact(show False from q1).elim
theorem ux{e:Expr}{te:TE}{pos:Pos}(ha:PE X e te):PE X (.FormattedValue e (-1) none pos) (tFv te):=by
 intro pins s σ H Q I h;refine FormattedValue_plain (thn (ha pins s σ H _ I h) λv s1 ⟨x,H1,I1,r1,q1⟩=>?_);cases x with
 |str y =>
  obtain⟨t1,rfl⟩:=r1;obtain⟨h2,h3⟩:=(show y.length<=sizeLine/\Q (.str y) H1 from q1)
  exact formatField_str (λt' tk=>⟨.str y,H1,I1.tok _,⟨_,rfl⟩,h3⟩) h2
 |_=>exact(show False from q1).elim
theorem Xx{e1 e2:Expr}{es:List Expr}{t:Str->TE}{pos:Pos}(h:PF X (e1::e2::es) t):PE X (.JoinedStr (e1::e2::es) pos) (t Str.empty):=λpins s σ H Q I q=>JoinedStr_many (h _ pins s σ H Q I q)
theorem bj:∀{ys:List Str}{us:List Value},Vals (ys.map V.str) us->StrsAre us ys
 |[],_,h=>by
  cases h;exact .nil
 |y::ys,_,h=>by
  cases h with
  |cons r rr =>
   obtain⟨t,rfl⟩:=r;exact .cons y t (bj rr)
def tJn(K:W.Frag)(to:TE)(t:TA):TE:=fun σ H Q=>to σ H (oi λx H1=>t σ H1 (on1 (kr λp H2=>∃ys:List Str,SqL K H2 p (ys.map V.str)/\(ys.map (·.length)).sum+ys.length*x.length<=16777216/\Q (.str (Txt.join x ys)) H2)))
theorem dg{o e:Expr}{to:TE}{t:TA}{apos cpos:Pos}(ho:PE X o to)(ha:PA X [e] t)
  (fF:attributeBase o "join" X.env (eval o X.env)=eval o X.env:=by rfl)
  (nL:((backTo cpos (starEach [e] X.env)).all (λx=>!x.1)&&(backToKw cpos (keywordEach [] X.env)).all (λx=>x.1.isSome)
  &&decide ([e].length+([]:List Keyword).length+(if([]:List Keyword).isEmpty then 0 else 1)<30))=true:=by rfl)
  (fD:(apos.endLine==cpos.line)=true:=by rfl) (hs:starEach [e] X.env=[(false,eval e X.env)]:=by rfl) :
  PE X (.Call (.Attribute o "join" apos) [e] [] cpos) (tJn X.K to t):=by
 intro pins s σ H Q I h;refine uP fF nL fD rfl (thn (ho pins s σ H _ I h) λv s1 ⟨x,H1,I1,r1,q1⟩=>?_);cases x with
 |str x =>
  obtain⟨t1,rfl⟩:=r1;refine⟨"str","str.join",sR,F.slot_str_join,F.type_str_join,tV _ _ _,(λ_ e=>nomatch e),?_⟩;have hA:=ha cpos pins s1 σ H1 _ I1 q1;rw[hs]at hA ⊢;refine uO rfl (tY ?_);refine thn hA λus s2 ⟨vs,H2,I2,r2,q2⟩=>?_;rcases vs with _|⟨y,_|⟨z,rr⟩⟩
  ·exact(show False from q2).elim
  ·cases y with
   |ref p =>
    obtain⟨ys,hq,hok,q⟩:=(show∃ys:List Str,SqL X.K H2 p (ys.map V.str)/\(ys.map (·.length)).sum+ys.length*x.length<=16777216/\Q (.str (Txt.join x ys)) H2 from q2)
    obtain⟨aD,rv,pl,_⟩:=I2.list hq;obtain⟨u,rfl,ru⟩:=wc r2;cases ru;exact join_list pl.isList (by simpa using bj rv) hok λt' k=>⟨.str _,H2,I2.tok _,⟨_,rfl⟩,q⟩
   |_=>exact(show False from q2).elim
  ·exact(show False from q2).elim
 |_=>exact(show False from q1).elim
def P9:List V->Hp->VK->Prop:=λxs H Q=>match xs with
 |[.bl k]=>Q (.int (if k=true then 1 else 0)) H
 |_=>False
theorem K1{k:Bool}{H:Hp}{Q:VK}:P9 [.bl k] H Q=Q (.int (if k=true then 1 else 0)) H:=rfl
theorem V3:ww X (.type "int") P9:=by
 intro pins s σ H xs us Q I r h
 match xs,h with
 |[.bl k],h=>exact S9 pins s σ H _ us Q I r (.inr ⟨k,rfl,h⟩)
end
theorem za(x y:Str):(x++y).length=x.length+y.length:=by
 show(x.cps++y.cps).size=_;exact Array.size_append
theorem fv(x:Str):Str.empty++x=x:=by
 show(⟨#[]++x.cps⟩:Str)=x;simp
def Say.text:Say->Str
 | .letter x=>x
 | .neg s=>Str.ofString "not "++s.text
 | .bin .con s t=>Str.ofString "("++s.text++Str.ofString " "++Str.ofString "and"++Str.ofString " "++t.text++Str.ofString ")"
 | .bin .dis s t=>Str.ofString "("++s.text++Str.ofString " "++Str.ofString "or"++Str.ofString " "++t.text++Str.ofString ")"
 | .bin .imp s t=>Str.ofString "(if "++s.text++Str.ofString " then "++t.text++Str.ofString ")"
theorem lu:(Str.ofString "not ").length=4:=by decide +kernel
theorem gw:(Str.ofString "(").length=1:=by decide +kernel
theorem lr:(Str.ofString ")").length=1:=by decide +kernel
theorem gu:(Str.ofString " ").length=1:=by decide +kernel
theorem lq:(Str.ofString "and").length=3:=by decide +kernel
theorem ax:(Str.ofString "or").length=2:=by decide +kernel
theorem aw:(Str.ofString "(if ").length=4:=by decide +kernel
theorem qh:(Str.ofString " then ").length=6:=by decide +kernel
theorem yh:∀s:Say,(∀x∈s.letters,Nm x)->s.text.length<=40*s.pieces
 | .letter x,h=>by
  have:=(h x (zO.mpr rfl)).1;simp only[Say.text,Say.pieces];lia
 | .neg s,h=>by
  have:=yh s h;simp only[Say.text,Say.pieces,za,lu];lia
 | .bin .con s t,h=>by
  have h1:=yh s λx hx=>h x (zK.mpr (.inl hx));have h2:=yh t λx hx=>h x (zK.mpr (.inr hx));simp only[Say.text,Say.pieces,za,gw,lr,gu,lq];lia
 | .bin .dis s t,h=>by
  have h1:=yh s λx hx=>h x (zK.mpr (.inl hx));have h2:=yh t λx hx=>h x (zK.mpr (.inr hx));simp only[Say.text,Say.pieces,za,gw,lr,gu,ax];lia
 | .bin .imp s t,h=>by
  have h1:=yh s λx hx=>h x (zK.mpr (.inl hx));have h2:=yh t λx hx=>h x (zK.mpr (.inr hx));simp only[Say.text,Say.pieces,za,aw,lr,qh];lia
end
section
section
variable {X:Cx}
def tLR(ta:TA):TE:=fun σ H Q=>ta σ H (on1 (gr λj H1=>(0<=j/\j<=1000)/\New H1 (.lst ((List.range j.toNat).map λn=>V.int ((n:Nat):Int))) Q))
theorem Zc{us:List Value}{n:Nat}(hl:us.length=n)(h:∀(i:Nat) v,us[i]?=some v->∃t,v=Value.int (i:Int) t):Vals ((List.range n).map λn=>V.int ((n:Nat):Int)) us:=by
 induction n generalizing us with
 |zero =>
  rw[wE.mp hl];exact .nil
 |succ n ih =>
  rw[vY,zJ];obtain⟨vs,v,rfl⟩:∃vs v,us=vs++[v]:=⟨us.dropLast,us.getLast (by intro z;rw[z]at hl;simp at hl),(List.dropLast_concat_getLast _).symm⟩
  have hvl:vs.length=n:=by simpa using hl
  refine(ih hvl λi u hu=>h i u ?_).append (.cons ?_ .nil)
  ·rw[yK (zW.mp hu).1];exact hu
  ·have:=h n v (by rw[yI (by lia),hvl,rX];rfl);exact this
theorem Z3{a:Expr}{ta:TA}{p1 p2 kJ bH:Pos}(hc:X.calm=true)(g1:Gl X "list")(m1:X.mg "list"=none)(g2:Gl X "range")(m2:X.mg "range"=none)(ha:PA X [a] ta)
  (hs:starEach [a] X.env=[(false,eval a X.env)]:=by rfl)
  (eU:starEach [.Call (.Name "range" p2) [a] [] bH] X.env=[(false,eval (.Call (.Name "range" p2) [a] [] bH) X.env)]:=by rfl) :
  PE X (.Call (.Name "list" p1) [.Call (.Name "range" p2) [a] [] bH] [] kJ) (tLR ta):=by
 intro pins s σ H Q I h;refine Call_ (wg I g1 m1 Vi (xU ?_ eU rfl));rw[eU];refine(show wpAny _ _ (spliced ((false,eval (.Call (.Name "range" p2) [a] [] bH) X.env)::[])) _ _ s from vD ?_);refine Call_ (wg I g2 m2 boot_range (xU (thn (ha bH pins s σ H _ I h) λus s1 ⟨vs,H1,I1,r1,q1⟩=>?_) hs rfl));rcases vs with _|⟨x,_|⟨y,rr⟩⟩
 ·exact(show False from q1).elim
 ·cases x with
  |int j =>
   obtain⟨⟨q0,q2⟩,q⟩:=(show(0<=j/\j<=1000)/\New H1 (.lst ((List.range j.toNat).map λn=>V.int ((n:Nat):Int))) Q from q1)
   cases r1 with
   |cons r rr =>
    cases rr;obtain⟨t,rfl⟩:=r;refine call_range_1 ?_;refine vP ?_;have I2:Inv X pins σ H1 { s1 with heap:=s1.heap.push { cls:=.type "range",data:=.fields #[.int 0 s1.toks,.int j t,.int 1 (s1.toks+1)] },toks:=s1.toks+1+1 }:=I1.kept λb o e=>zX _ e;have hn:Builtin.Range.rangeSize 0 j 1=((j.toNat:Nat):Int):=by
     rw[rangeSize_one];split<;>lia
    refine call_list_range (I2.ok.hd hc) (IsRange.new ..) (small_one (by decide) (by decide) (by lia) (by lia)) hn (by lia) λh' tk bE c' kp e dB=>?_;have hv:Vals ((List.range j.toNat).map λn=>V.int ((n:Nat):Int)) bE.toList:=by
     refine Zc (by simpa using dB.1) λi v hv=>?_;obtain⟨t,e⟩:=dB.2 i v (by rw[<-vW];exact hv);refine⟨t,?_⟩;rw[e]
     congr 1
     lia
    have hsz:((List.range j.toNat).map λn=>V.int ((n:Nat):Int)).length<=sizeLine:=by
     rw[zY,xY,zM];lia
    exact⟨.ref _,_,I2.laid (t':=tk) kp (zU _) (show ObjOk X.prog X.w _ h' _ (.lst _)from⟨hsz,bE.toList,c',hv,by simpa using e⟩),rfl,New.at q _ (I2.hok.fresh (zU _))⟩
  |_=>exact(show False from q1).elim
 ·exact(show False from q1).elim
end
end
end My
namespace My
open PySem
theorem len1{us:List Value}(h:us.length=1):∃a,us=[a]:=by
 cases us with
 |nil=>cases h
 |cons a us=>exact⟨a,by rw[wE.mp (rW h)]⟩
theorem len2{us:List Value}(h:us.length=2):∃a b,us=[a,b]:=by
 cases us with
 |nil=>cases h
 |cons a us=>obtain⟨b,e⟩:=len1 (rW h);exact⟨a,b,by rw[e]⟩
theorem len3{us:List Value}(h:us.length=3):∃a b c,us=[a,b,c]:=by
 cases us with
 |nil=>cases h
 |cons a us=>obtain⟨b,c,e⟩:=len2 (rW h);exact⟨a,b,c,by rw[e]⟩
theorem len4{us:List Value}(h:us.length=4):∃a b c d,us=[a,b,c,d]:=by
 cases us with
 |nil=>cases h
 |cons a us=>obtain⟨b,c,d,e⟩:=len3 (rW h);exact⟨a,b,c,d,by rw[e]⟩
theorem len5{us:List Value}(h:us.length=5):∃a b c d f,us=[a,b,c,d,f]:=by
 cases us with
 |nil=>cases h
 |cons a us=>obtain⟨b,c,d,f,e⟩:=len4 (rW h);exact⟨a,b,c,d,f,by rw[e]⟩
end My
namespace My
open PySem PySem.Spec PySem.W PySem.Calls L2
open PyProof.Rows hiding St
section
section
variable {X:Cx}
def Lp(K:W.Frag):R2:=λx y H Q=>match x,y with
 | .ref p,.ref r=>∃xs ys,SqT K H p xs/\SqT K H r ys/\xs.length+ys.length<=sizeLine/\∀(p:Addr)(H':Hp),Same H H'->SqT K H' p (xs++ys)->Q (.ref p) H'
 |_,_=>False
theorem Kt{K:W.Frag}{p r:Addr}{H:Hp}{Q:VK}:Lp K (.ref p) (.ref r) H Q=∃xs ys,SqT K H p xs/\SqT K H r ys/\xs.length+ys.length<=sizeLine/\∀(p:Addr)(H':Hp),Same H H'->SqT K H' p (xs++ys)->Q (.ref p) H':=rfl
theorem Jv:OpR X (binaryOp .Add) (Lp X.K):=by
 intro pins s σ H x y v u Q I rx ry h;cases x with
 |ref p=>cases y with
  |ref r=>exact zj pins s σ H _ _ v u Q I rx ry (.inr h)
  |_=>exact(show False from h).elim
 |_=>exact(show False from by cases y<;>exact h).elim
def Qa:Os:=λx y v H k=>match x with
 | .ref a=>∃kvs ky,H a=some (.dK kvs)/\y=kV ky/\kvs.length<sizeLine/\k (upd H a (.dK (ud kvs ky v)))
 |_=>False
theorem K5{a:Addr}{y v:V}{H:Hp}{k:Hp->Prop}:Qa (.ref a) y v H k=∃kvs ky,H a=some (.dK kvs)/\y=kV ky/\kvs.length<sizeLine/\k (upd H a (.dK (ud kvs ky v))):=rfl
theorem R7(hu:X.A.units+64<cLine):L9 X Qa:=by
 intro pins s σ H o i v ov iv u Q I ro ri rv h;cases o with
 |ref a=>exact Wl hu pins s σ H _ i v ov iv u Q I ro ri rv (.inl h)
 |_=>exact(show False from h).elim
def Lm(K:W.Frag)(tl:TE):TI:=fun σ H R=>tl σ H (kr λa H1=>(∃xs,SqT K H1 a xs)/\R (Itt K a) H1)
theorem N4{tg l:Expr}{tl:TE}(hl:PE X l tl):PI X tg l (Lm X.K tl):=by
 intro pins s σ H R I h;refine thn (hl pins s σ H _ I h) λv s1 ⟨x,H1,I1,r1,q1⟩=>?_;cases x with
 |ref a =>
  cases r1;obtain⟨⟨xs,hq⟩,q⟩:=(show(∃xs,SqT X.K H1 a xs)/\R (Itt X.K a) H1 from q1)
  obtain⟨aD,rv,p,hz⟩:=I1.tuple hq;refine vU (show s1.heap.IsTuple a aD.toArray from p) ?_;refine⟨s1.heap.objs.size,[s1.heap.objs.size],_,_,H1,rfl,I1.kept (t':=s1.toks) λb o e=>zX _ e,mn a _,⟨_,zR _ rfl,rfl,rfl⟩,λb hb=>?_,q⟩;have e:b=s1.heap.objs.size:=by simpa using hb
  subst e;exact I1.fpOk (zU _) (I1.hok.fresh (zU _))
 |_=>exact(show False from q1).elim
theorem dj{o i e:Expr}{to ti te:TE}{p1 p2:Pos}(hu:X.A.units+64<cLine)(ho:PE X o to)(hi:PE X i ti)(he:PE X e te)
  (ha:∀v,assign (.Subscript o i p1) X.env v=(do
   let ov <-holding [v] (eval o X.env)
   let iv <-holding [v,ov] (eval i X.env)
   standAt p1
   holding [v,ov,iv] (setItem ov iv v)
   release [v,ov,iv] []):=by intro _;rfl)
  (hs:swapsWithSole [.Subscript o i p1] e p2.line X.env=pure false:=by rfl) (hw:swappedStores [.Subscript o i p1] e X.env=pure none:=by rfl)
  (h1:(assignEach [.Subscript o i p1] X.env).map (·.2)=[assign (.Subscript o i p1) X.env]:=by rfl):PS X (.Assign [.Subscript o i p1] e p2) (U6 te (Mj to ti Qa)):=Rl he (Re ho hi (R7 hu) ha) hs hw h1
end
end
section
section
variable {X:Cx}
def Fw(K:W.Frag)(H:Hp)(T:List (Addr×List (Nat×Bool))):Prop:=∀t∈T,∃us,SqT K H t.1 us/\PairsAt K H us t.2
theorem Rb{α β:Type}{f:α->β}:∀{ws:List β}{T:List α},ws.Perm (T.map f)->∃T':List α,T'.Perm T/\ws=T'.map f:=by
 intro ws T h;generalize hg:T.map f=us at h
 induction h generalizing T with
 |nil =>
  cases T with
  |nil=>exact⟨[],.nil,rfl⟩
  |cons _ _=>simp at hg
 |cons x _ ih =>
  cases T with
  |nil=>simp at hg
  |cons t T =>
   rw[List.map_cons]at hg;injection hg with h1 h2;obtain⟨T',p,e⟩:=ih h2;exact⟨t::T',.cons t p,by rw[List.map_cons,h1,e]⟩
 |swap x y l =>
  match T,hg with
  |a::b::T,hg =>
   simp only[List.map_cons,List.cons.injEq]at hg;obtain⟨h1,h2,h3⟩:=hg;exact⟨b::a::T,.swap a b T,by simp[h1,h2,h3]⟩
 |trans _ _ ih1 ih2 =>
  obtain⟨T1,p1,e1⟩:=ih2 hg;obtain⟨T2,p2,e2⟩:=ih1 e1.symm;exact⟨T2,p2.trans p1,e2⟩
end
end
section
def xx(h:Heap)(T:Addr)(a b c:Value):Prop:=h.get? T=some { cls:=.type "tuple",data:=.seq #[a,b,c] }
structure ZA3(z tI tO i1 i2 i3:Addr)(f1 f2 f3:List Addr):Prop where
 tz:tI≠z
 oz:tO≠z
 az:i1≠z
 bz:i2≠z
 cz:i3≠z
 to:tI≠tO
 ta:tI≠i1
 tb:tI≠i2
 tc:tI≠i3
 oa:tO≠i1
 ob:tO≠i2
 oc:tO≠i3
 g1:∀b∈f1,b≠z/\b≠tO/\b≠i2/\b≠i3
 g2:∀b∈f2,b≠z/\b≠tO/\b≠i1/\b≠i3
 g3:∀b∈f3,b≠z/\b≠tO/\b≠i1/\b≠i2
section
variable {prog:Program}{w:World}{A:Around}{E:Value->Shared->Prop}{s:Shared}{z tI tO i1 i2 i3:Addr}{f1 f2 f3:List Addr}{n1 n2 n3 k1 k2 k3:Nat}{P1 P2 P3:Nat->Value->Prop}{S1 S2 S3:Nat->Heap->Prop}{u v v3:Value}
theorem xa{T:Addr}{a b c x:Value}{k:Nat}{Q:Unit->Shared->Prop}(hT:xx s.heap T a b c)
  (h:∀h',h'.get? T=some { cls:=.type "tuple",data:=.seq ((#[a,b,c]:Array Value).setIfInBounds k x) }->Heap.SameBut T s.heap h'->Q () { s with heap:=h' }) :
  wpAny (model prog w) A (updateSeq T (·.setIfInBounds k x)) Q E s:=by
 refine uI hT rfl (h _ ?_ (uT ..));rw[xG _ hT rfl];simp[Obj.mapSeq]
theorem Va{Q:Value->Shared->Prop}(D:ZA3 z tI tO i1 i2 i3 f1 f2 f3)(D1:Draws prog w A i1 f1 n1 P1 S1)(D2:Draws prog w A i2 f2 n2 P2 S2)(D3:Draws prog w A i3 f3 n3 P3 S3)
  (hz:IsZip s.heap z tI tO .none) (hI:xx s.heap tI (.ref i1) (.ref i2) (.ref i3)) (hO:xx s.heap tO u v v3) (h1:S1 k1 s.heap) (h2:S2 k2 s.heap) (h3:S3 k3 s.heap) (l1:k1<n1) (l2:k2<n2) (l3:k3<n3)
  (hQ:∀x y y3 h' tk,P1 k1 x->P2 k2 y->P3 k3 y3->IsZip h' z tI tO (rawInt s.heap.objs.size)->xx h' tO x y y3->S1 (k1+1) h'->S2 (k2+1) h'->S3 (k3+1) h'->xx h' s.heap.objs.size x y y3 ->
   (∀c o,c≠z->c≠tO->c≠i1->c≠i2->c≠i3->s.heap.get? c=some o->h'.get? c=some o)->Q (.ref s.heap.objs.size) { s with heap:=h',toks:=tk }) :
  wpAny (model prog w) A (Builtin.«zip.__next__» ⟨[.ref z],[]⟩) (λaU s'=>∃v,aU = .done (.ret v)/\Q v s') E s:=by
 refine(show wpAny _ _ (field (.ref z) 2 >>= _) _ _ _ from zZ (wN hz rfl (x:=.bool false) rfl ?_));refine(show wpAny _ _ (field (.ref z) 3 >>= _) _ _ _ from zZ (wN hz rfl (x:=.ref tI) rfl (zZ (wI hI rfl ?_))));refine(show wpAny _ _ (Builtin.SmallTypes.ownedTupleIsFree (.ref z) >>= _) _ _ _ from zZ ?_);unfold Builtin.SmallTypes.ownedTupleIsFree;refine zZ (wN hz rfl (x:=.none) rfl (zV ?_));simp only[if_true];refine zZ (tU (zZ (wN hz rfl (x:=.ref tO) rfl (zZ (wG hz (by simp) λg1 iP q1=>?_)))));replace iP:IsZip g1 z tI tO .ellipsis:=iP;have C3:∀c o,c≠z->s.heap.get? c=some o->g1.get? c=some o:=λc o h e=>q1.extBut c o h e;refine zZ ?_;simp only[List.zipIdx_cons,List.zipIdx_nil,List.forIn_cons,List.forIn_nil];refine zZ (zZ (wpAny_onRaise (show wpAny _ _ (Builtin.SmallTypes.nextOf (.ref i1) >>= _) _ _ _ from zZ ?_)));refine D1.item k1 { s with heap:=g1 } _ _ l1 (D1.frame _ _ _ h1 λb hb o e=>C3 b o (D.g1 b hb).1 e) λx g2 t2 hx pN q2=>zV ?_;have hO2:xx g2 tO u v v3:=q2.extBut _ _ D.oa (C3 _ _ D.oz hO);refine zZ (wI hO2 rfl (zZ (xa hO2 λg3 hO3 q3=>?_)));replace hO3:xx g3 tO x v v3:=hO3;have kp3:∀c o,c≠z->c≠tO->c≠i1->s.heap.get? c=some o->g3.get? c=some o:=λc o c1 c2 c3 e=>q3.extBut _ _ c2 (q2.extBut _ _ c3 (C3 c o c1 e));refine zZ (wpAny_letGo (zV (zZ (zZ (wpAny_onRaise (show wpAny _ _ (Builtin.SmallTypes.nextOf (.ref i2) >>= _) _ _ _ from zZ ?_))))));refine D2.item k2 { s with heap:=g3,toks:=t2 } _ _ l2 (D2.frame _ _ _ h2 λb hb o e=>kp3 b o (D.g2 b hb).1 (D.g2 b hb).2.1 (D.g2 b hb).2.2.1 e) λy g4 t4 hy fU q4=>zV ?_;have hO4:xx g4 tO x v v3:=q4.extBut _ _ D.ob hO3;refine zZ (wI hO4 rfl (zZ (xa hO4 λg5 hO5 q5=>?_)));replace hO5:xx g5 tO x y v3:=hO5;have kp5:∀c o,c≠z->c≠tO->c≠i1->c≠i2->s.heap.get? c=some o->g5.get? c=some o:=λc o c1 c2 c3 c4 e=>q5.extBut _ _ c2 (q4.extBut _ _ c4 (kp3 c o c1 c2 c3 e));refine zZ (wpAny_letGo (zV (zZ (zZ (wpAny_onRaise (show wpAny _ _ (Builtin.SmallTypes.nextOf (.ref i3) >>= _) _ _ _ from zZ ?_))))));refine D3.item k3 { s with heap:=g5,toks:=t4 } _ _ l3 (D3.frame _ _ _ h3 λb hb o e=>kp5 b o (D.g3 b hb).1 (D.g3 b hb).2.1 (D.g3 b hb).2.2.1 (D.g3 b hb).2.2.2 e) λy3 g6 t6 Ar h3' q6=>zV ?_;have hO6:xx g6 tO x y v3:=q6.extBut _ _ D.oc hO5;refine zZ (wI hO6 rfl (zZ (xa hO6 λg7 hO7 q7=>?_)));replace hO7:xx g7 tO x y y3:=hO7;have kp7:∀c o,c≠z->c≠tO->c≠i1->c≠i2->c≠i3->s.heap.get? c=some o->g7.get? c=some o:=λc o c1 c2 c3 c4 c5 e=>q7.extBut _ _ c2 (q6.extBut _ _ c5 (kp5 c o c1 c2 c3 c4 e));have hz7:IsZip g7 z tI tO .ellipsis:=q7.extBut _ _ D.oz.symm (q6.extBut _ _ D.cz.symm (q5.extBut _ _ D.oz.symm (q4.extBut _ _ D.bz.symm (q3.extBut _ _ D.oz.symm (q2.extBut _ _ D.az.symm iP)))));have sz7:g7.objs.size=s.heap.objs.size:=by rw[q7.1,q6.1,q5.1,q4.1,q3.1,q2.1,q1.1]
 have a7:S1 (k1+1) g7:=D1.frame _ _ _ pN λb hb o e=>q7.extBut _ _ (D.g1 b hb).2.1 (q6.extBut _ _ (D.g1 b hb).2.2.2 (q5.extBut _ _ (D.g1 b hb).2.1 (q4.extBut _ _ (D.g1 b hb).2.2.1 (q3.extBut _ _ (D.g1 b hb).2.1 e))));have b7:S2 (k2+1) g7:=D2.frame _ _ _ fU λb hb o e=>q7.extBut _ _ (D.g2 b hb).2.1 (q6.extBut _ _ (D.g2 b hb).2.2.2 (q5.extBut _ _ (D.g2 b hb).2.1 e));have c7:S3 (k3+1) g7:=D3.frame _ _ _ h3' λb hb o e=>q7.extBut _ _ (D.g3 b hb).2.1 e;refine zZ (wpAny_letGo (zV (zV (zZ (wI hO7 rfl (zZ (sK ?_)))))));have zl:z<g7.objs.size:=zQ hz7;refine(show wpAny _ _ (Builtin.SmallTypes.ownedTupleHandOut (.ref z) (.ref g7.objs.size) >>= _) _ _ _ from zZ ?_);unfold Builtin.SmallTypes.ownedTupleHandOut;have hz8:IsZip (g7.push { cls:=.type "tuple",data:=.seq #[x,y,y3] }) z tI tO .ellipsis:=zX _ hz7;refine zZ (wG hz8 (by simp) λg9 hz9 q9=>?_);replace hz9:IsZip g9 z tI tO (rawInt g7.objs.size):=hz9;refine wG hz9 (by simp) λga hza qa=>?_;replace hza:IsZip ga z tI tO (rawInt g7.objs.size):=hza;have up:∀c o,c≠z->g7.get? c=some o->ga.get? c=some o:=λc o c1 e=>qa.extBut _ _ c1 (q9.extBut _ _ c1 (zX _ e));have hTa:xx ga g7.objs.size x y y3:=qa.extBut _ _ (wX zl) (q9.extBut _ _ (wX zl) (zR _ rfl));rw[sz7]at hza hTa;refine zV ⟨_,rfl,(show Q (.ref g7.objs.size) _ from ?_)⟩;rw[sz7];exact hQ x y y3 ga _ hx hy Ar hza (up _ _ D.oz hO7) (D1.frame _ _ _ a7 λb hb o e=>up b o (D.g1 b hb).1 e) (D2.frame _ _ _ b7 λb hb o e=>up b o (D.g2 b hb).1 e) (D3.frame _ _ _ c7 λb hb o e=>up b o (D.g3 b hb).1 e) hTa λc o c1 c2 c3 c4 c5 e=>up c o c1 (kp7 c o c1 c2 c3 c4 c5 e)
theorem S4{Q:Fin->Shared->Prop}(D:ZA3 z tI tO i1 i2 i3 f1 f2 f3)(D1:Draws prog w A i1 f1 n1 P1 S1)
  (hz:IsZip s.heap z tI tO .none) (hI:xx s.heap tI (.ref i1) (.ref i2) (.ref i3)) (h1:S1 n1 s.heap)
  (hE:∀h' e,(∀c o,c≠z->c≠i1->s.heap.get? c=some o->h'.get? c=some o)->(∃o,h'.get? e=some o/\o.cls = .type "StopIteration")->E (.ref e) { s with heap:=h' }) :
  wpAny (model prog w) A (Builtin.«zip.__next__» ⟨[.ref z],[]⟩) Q E s:=by
 refine(show wpAny _ _ (field (.ref z) 2 >>= _) _ _ _ from zZ (wN hz rfl (x:=.bool false) rfl ?_));refine(show wpAny _ _ (field (.ref z) 3 >>= _) _ _ _ from zZ (wN hz rfl (x:=.ref tI) rfl (zZ (wI hI rfl ?_))));refine(show wpAny _ _ (Builtin.SmallTypes.ownedTupleIsFree (.ref z) >>= _) _ _ _ from zZ ?_);unfold Builtin.SmallTypes.ownedTupleIsFree;refine zZ (wN hz rfl (x:=.none) rfl (zV ?_));simp only[if_true];refine zZ (tU (zZ (wN hz rfl (x:=.ref tO) rfl (zZ (wG hz (by simp) λg1 iP q1=>?_)))));replace iP:IsZip g1 z tI tO .ellipsis:=iP;have C3:∀c o,c≠z->s.heap.get? c=some o->g1.get? c=some o:=λc o h e=>q1.extBut c o h e;refine zZ ?_;simp only[List.zipIdx_cons,List.zipIdx_nil,List.forIn_cons,List.forIn_nil];refine zZ (zZ (wpAny_onRaise (show wpAny _ _ (Builtin.SmallTypes.nextOf (.ref i1) >>= _) _ _ _ from zZ ?_)));refine D1.done { s with heap:=g1 } _ _ (D1.frame _ _ _ h1 λb hb o e=>C3 b o (D.g1 b hb).1 e) λg2 e q2 he=>?_;obtain⟨oe,ho,hc⟩:=he;have oK:IsZip g2 z tI tO .ellipsis:=q2 _ _ D.az.symm iP;have hez:e≠z:=λq=>by
  subst q;have hz2':g2.get? e=some _:=oK;rw[hz2']at ho;cases ho;simp at hc
 refine wG (s:={ s with heap:=g2 }) oK (by simp) λg3 _ q3=>hE g3 e (λc o c1 c2 x=>q3.extBut _ _ c1 (q2 _ _ c2 (C3 c o c1 x))) ⟨oe,q3.extBut _ _ hez ho,hc⟩
theorem bv{Q:Option Value->Shared->Prop}(D:ZA3 z tI tO i1 i2 i3 f1 f2 f3)(D1:Draws prog w A.in1 i1 f1 n1 P1 S1)(D2:Draws prog w A.in1 i2 f2 n2 P2 S2)(D3:Draws prog w A.in1 i3 f3 n3 P3 S3)
  (hz:IsZip s.heap z tI tO .none) (hI:xx s.heap tI (.ref i1) (.ref i2) (.ref i3)) (hO:xx s.heap tO u v v3) (h1:S1 k1 s.heap) (h2:S2 k2 s.heap) (h3:S3 k3 s.heap) (l1:k1<n1) (l2:k2<n2) (l3:k3<n3)
  (hQ:∀x y y3 h' tk,P1 k1 x->P2 k2 y->P3 k3 y3->IsZip h' z tI tO (rawInt s.heap.objs.size)->xx h' tO x y y3->S1 (k1+1) h'->S2 (k2+1) h'->S3 (k3+1) h'->xx h' s.heap.objs.size x y y3 ->
   (∀c o,c≠z->c≠tO->c≠i1->c≠i2->c≠i3->s.heap.get? c=some o->h'.get? c=some o)->Q (some (.ref s.heap.objs.size)) { s with heap:=h',toks:=tk }):wpAny (model prog w) A (pyNext (.ref z)) Q E s:=by
 have hT:s.TypeIs (.ref z) "zip":=⟨_,hz,rfl⟩
 unfold pyNext;exact zZ (uE (xQ (name:=Str.ofString "__next__") hT uD (xV uD hT F.entry_zip_next (Va D D1 D2 D3 hz hI hO h1 h2 h3 l1 l2 l3 λx y y3 h' tk p1 p2 p3 c1 c2 c3 c4 c5 c6 c7=>zV (hQ x y y3 h' tk p1 p2 p3 c1 c2 c3 c4 c5 c6 c7)) (F.args_zip_next_1 _))))
theorem Zd{Q:Option Value->Shared->Prop}(D:ZA3 z tI tO i1 i2 i3 f1 f2 f3)(D1:Draws prog w A.in1 i1 f1 n1 P1 S1)
  (hz:IsZip s.heap z tI tO .none) (hI:xx s.heap tI (.ref i1) (.ref i2) (.ref i3)) (h1:S1 n1 s.heap)
  (hQ:∀h',(∀c o,c≠z->c≠i1->s.heap.get? c=some o->h'.get? c=some o)->Q none { s with heap:=h' }):wpAny (model prog w) A (pyNext (.ref z)) Q E s:=by
 have hT:s.TypeIs (.ref z) "zip":=⟨_,hz,rfl⟩
 unfold pyNext;refine zZ (uE (xQ (name:=Str.ofString "__next__") hT uD (xV uD hT F.entry_zip_next (S4 D D1 hz hI h1 λh' e hk he=>?_) (F.args_zip_next_1 _))));obtain⟨o,ho,hc⟩:=he;exact zZ (tT (T:="StopIteration") (b:=true) ⟨o,ho,hc⟩ isSubtype_stop (zV (hQ _ hk)))
end
end
section
theorem mo(a b c:Value):checkTypeCall "zip" ⟨[a,b,c],[]⟩=pure ():=by kernel_rfl
theorem i8(a b c:Value):checkBuiltinCall "zip.__new__" ⟨[.type "zip",a,b,c],[]⟩=pure ():=by kernel_rfl
theorem qo(a b c d:Value):argsOk "object.__init__" ⟨[a,b,c,d],[]⟩:=by
 unfold argsOk;kernel_rfl
section
variable {prog:Program}{w:World}{A:Around}{E:Value->Shared->Prop}{s:Shared}
end
end
section
def mG3(K:W.Frag)(i j l:Nat):TG:=λv σ H Q=>∃a x y z,v = .ref a/\SqT K H a [x,y,z]/\Q (sv (sv (sv σ i x) j y) l z) H
theorem Sw{τ:St}(h:τ.length=3):∃t u v,τ=[t,u,v]:=by
 match τ,h with
 |[t,u,v],_=>exact⟨t,u,v,rfl⟩
section
variable {X:Cx}
theorem Ly(i j l:Nat){x y z:Str}{p p' Ap pos:Pos}{k:Nat}(hc:X.calm=true)(hN:X.N.Nodup)(hi:X.N[i]?=some x:=by rfl)(hj:X.N[j]?=some y:=by rfl)(hl:X.N[l]?=some z:=by rfl)(hx:Loc X.env.scope x:=by first|exact Or.inl rfl|exact Or.inr rfl)(hy:Loc X.env.scope y:=by first|exact Or.inl rfl|exact Or.inr rfl)(hz:Loc X.env.scope z:=by first|exact Or.inl rfl|exact Or.inr rfl)
  (hf:X.fn x=true\/X.env.scope.names.lookup x=some .local:=by first|exact .inl rfl|exact .inr rfl) (hf':X.fn y=true\/X.env.scope.names.lookup y=some .local:=by first|exact .inl rfl|exact .inr rfl) (hf'':X.fn z=true\/X.env.scope.names.lookup z=some .local:=by first|exact .inl rfl|exact .inr rfl)
  (hn:(assignEach [.Name x p,.Name y p',.Name z Ap] X.env).length=3:=by rfl) (fR:(assignEach [.Name x p,.Name y p',.Name z Ap] X.env).findIdx? (·.1)=none:=by rfl)
  (hs:(assignEach [.Name x p,.Name y p',.Name z Ap] X.env).map (·.2)=assign (.Name x p) X.env::(assignEach [.Name y p',.Name z Ap] X.env).map (·.2):=by rfl) (C8:(assignEach [.Name y p',.Name z Ap] X.env).map (·.2)=assign (.Name y p') X.env::(assignEach [.Name z Ap] X.env).map (·.2):=by rfl) (qO:(assignEach [.Name z Ap] X.env).map (·.2)=assign (.Name z Ap) X.env::(assignEach [] X.env).map (·.2):=by rfl) :
  PG X (.Tuple [.Name x p,.Name y p',.Name z Ap] k pos) (mG3 X.K i j l):=by
 intro pins s σ H v u Q I r h;obtain⟨a,x1,y1,z1,rfl,hq,q⟩:=h;exact Rf hc (tw (wo i hN hi hx hf) (tw (wo j hN hj hy hf') (tw (wo l hN hl hz hf'') Wd qO) C8) hs) hn fR pins s σ H _ u Q I r ⟨a,_,rfl,hq,rfl,x1,_,rfl,y1,_,rfl,z1,_,rfl,rfl,q⟩
variable {N:List Str}{scope:Scope}{cl:List (Str×Addr)}{eA iter:Expr}{dZ:List Expr}{ixs:List Nat}{wi:TI}{tt:Addr->Shared->Hp->List Addr->TT}{te:Addr->Shared->Hp->List Addr->TE}{pos px py pz pp pC pt:Pos}{x y z z0:Str}{kk:Nat}
theorem N3(k:CompOk X [x,y,z] N scope cl)(hc:X.calm=true)(C:Addr)(s₀:Shared)(H₀:Hp)(ex:List Addr):PG (yr X ([x,y,z]++N) scope cl C s₀ H₀ ex) (.Tuple [.Name x px,.Name y py,.Name z pz] kk pp) (mG3 X.K 0 1 2) :=
 Ly (X:=yr X ([x,y,z]++N) scope cl C s₀ H₀ ex) 0 1 2 hc k.nd rfl rfl rfl (.inl (xR (k.mine x (by simp)))) (.inl (xR (k.mine y (by simp)))) (.inl (xR (k.mine z (by simp)))) (.inr (xR (k.mine x (by simp)))) (.inr (xR (k.mine y (by simp)))) (.inr (xR (k.mine z (by simp))))
theorem Mw(k:CompOk X [x,y,z] N scope cl)(hc:X.calm=true)(hi:PI X (.Tuple [.Name x px,.Name y py,.Name z pz] kk pp) iter wi)(ht:∀(C:Addr)(s₀:Shared)(H₀:Hp)(ex:List Addr),PIf (yr X ([x,y,z]++N) scope cl C s₀ H₀ ex) dZ (tt C s₀ H₀ ex))
  (he:∀(C:Addr)(s₀:Shared)(H₀:Hp)(ex:List Addr),PE (yr X ([x,y,z]++N) scope cl C s₀ H₀ ex) eA (te C s₀ H₀ ex)) (hx:ixs.map (λi=>X.N[i]?)=N.map some) (hs:∀x,foldedSetIterable iter X.env x=pure x:=by intro _;rfl) :
  PE X (.ListComp eA [⟨.Tuple [.Name x px,.Name y py,.Name z pz] kk pp,iter,dZ,0⟩] scope pos) (mh 3 ixs wi (mG3 X.K 0 1 2) tt te):=Xt k hc hi (N3 k hc) ht he hx hs
end
end
section
open AutoSeq1 (wpAny_loadPart')
section
variable {prog:Program}{w:World}{A:Around}{E:Value->Shared->Prop}{s:Shared}
theorem iz{Q:List Value->Shared->Prop}{r:Addr}{a b c:Int}{t u v:Tok}{n:Nat}(hh:A.handled=none)(hr:IsRange s.heap r a b c t u v)(BN:Builtin.Range.small a b c=true)(hn:Builtin.Range.rangeSize a b c=n)(aH:n<=2 ^ 24)
  (hQ:∀h' tk (aG:Array Value),(∀b o',s.heap.get? b=some o'->h'.get? b=some o')->ItemsOf (λi v=>∃t,v = .int (a+i*c) t) aG n->Q aG.toList { s with heap:=h',toks:=tk }) :
  wpAny (model prog w) A (collect (.ref r)) Q E s:=by
 unfold collect;refine zZ (wpAny_runValue (wV F.entry_proto_collect ?_));rw[xN uC _];show wpAny _ A.in1 (newList [] >>=λl=>again (.builtin "list.__iadd__" ⟨[l,.ref r],[]⟩)) _ _ s;refine zZ (xZ ?_);refine zV ⟨vS wD _,wV F.entry_list_iadd ?_⟩;rw[xN wD _];show wpAny _ A.in1 (Builtin.List.listExtendWith (.ref s.heap.objs.size) (.ref r) (.ref s.heap.objs.size)) _ _ _;have hS:(s.heap.push { cls:=.type "list",data:=.seq ([]:List Value).toArray }).get? s.heap.objs.size=some { cls:=.type "list",data:=.seq #[] 0 }:=zR _ rfl;have aU:∀(h':Heap)(tk:Nat)(bE:Array Value)(c':Nat),(∀b o,b≠s.heap.objs.size->(s.heap.push { cls:=.type "list",data:=.seq ([]:List Value).toArray }).get? b=some o->h'.get? b=some o)->h'.get? s.heap.objs.size=some { cls:=.type "list",dict:=none,data:=.seq bE c',slots:=#[] } ->
   ItemsOf (λi v=>∃t,v = .int (a+i*c) t) bE n->wpAny (model prog w) A (match Value.ref s.heap.objs.size with
   |Value.ref a=>do
    match(<-load a).data with
     |Data.seq xs _=>pure xs.toList
     |_=>unsupported "internal:collect"
   |_=>unsupported "internal:collect") Q E { s with heap:=h',toks:=tk }:=λh' tk bE c' kp e dB=>by
  show wpAny _ A (load s.heap.objs.size >>= _) _ _ _;refine zZ (rV e ?_);refine zV ?_;exact hQ h' tk bE (λb o' hb=>kp b o' (zF (zQ hb)) (zX _ hb)) dB
 refine xT (wpAny_extend_range (A:=A) (R:=λr s'=>∃h' tk bE c',r = .ok (.ret (.ref s.heap.objs.size))/\s'={ s with heap:=h',toks:=tk }/\(∀b o,b≠s.heap.objs.size->(s.heap.push { cls:=.type "list",data:=.seq ([]:List Value).toArray }).get? b=some o->h'.get? b=some o)/\h'.get? s.heap.objs.size=some { cls:=.type "list",dict:=none,data:=.seq bE c',slots:=#[] }/\ItemsOf (λi v=>∃t,v = .int (a+i*c) t) bE n)
  (s:={ s with heap:=s.heap.push { cls:=.type "list",data:=.seq ([]:List Value).toArray } }) hh (zX _ hr) BN hn aH s.heap.objs.size _ 0 hS λh' tk bE c' kp e dB=>⟨h',tk,bE,c',rfl,rfl,kp,e,dB⟩) (λf s' h=>?_) λe s' h=>?_
 ·cases f with
  |done f =>
   obtain⟨h',tk,bE,c',er,rfl,kp,e,dB⟩:=h;cases er;exact aU h' tk bE c' kp e dB
  |again c'=>exact⟨h.1,uN h.2 λr s'' hr=>by obtain⟨h',tk,bE,c',rfl,rfl,kp,e,dB⟩:=hr;exact aU h' tk bE c' kp e dB⟩
 ·obtain⟨h',tk,bE,c',er,_⟩:=h;cases er
end
section
variable {prog:Program}{w:World}{A:Around}{E:Value->Shared->Prop}{s:Shared}
end
section
variable {X:Cx}
end
end
section
def Uz{α:Type}(lt:Nat->Nat->Bool):KasT α->α
 | .ret a=>a
 | .ask i j k=>Uz lt (k (lt i j))
abbrev Lg:=List (Nat×Nat×Bool)
def gh(l:Lg)(i j:Nat)(b:Bool):Bool:=l.any λx=>x.1==i&&x.2.1==j&&x.2.2==b
def le1(l:Lg)(x y:Nat):Bool:=gh l y x false||gh l x y true
def leC(l:Lg)(n:Nat):Nat->Nat->Nat->Bool
 |0,x,y=>le1 l x y
 |k+1,x,y=>le1 l x y||(List.range n).any λz=>le1 l x z&&leC l n k z y
def ltC(l:Lg)(n:Nat):Nat->Nat->Nat->Bool
 |0,x,y=>gh l x y true
 |k+1,x,y=>gh l x y true||(List.range n).any λz=>(gh l x z true&&leC l n k z y)||(le1 l x z&&ltC l n k z y)
def Vd(l:Lg)(n:Nat):List Nat->Bool
 |x::y::r=>(if x<y then leC l n n x y else ltC l n n x y)&&Vd l n (y::r)
 |_=>true
def Ra(n:Nat)(p:List Nat):Bool:=p.isPerm (List.range n)
def chk(n:Nat):KasT (Array Nat)->Lg->Bool
 | .ret p,l=>Ra n p.toList&&Vd l n p.toList
 | .ask i j k,l=>decide (i<n)&&decide (j<n)&&chk n (k true) ((i,j,true)::l)&&chk n (k false) ((i,j,false)::l)
theorem Mg:(List.range 7).all (λn=>chk n (kas_sort n) [])=true:=by decide +kernel
def u4(kz:Nat->Int)(x y:Nat):Prop:=kz x<kz y\/kz x=kz y/\x<y
section
variable {kz:Nat->Int}{l:Lg}{n:Nat}
def Wy(kz:Nat->Int)(l:Lg):Prop:=∀x∈l,x.2.2=decide (kz x.1<kz x.2.1)
theorem ke(h:Wy kz l){i j:Nat}{b:Bool}(e:gh l i j b=true):b=decide (kz i<kz j):=by
 obtain⟨x,hx,e⟩:=yD.mp e;simp only[yJ,uM]at e;have:=h x hx;rw[e.1.1,e.1.2,e.2]at this;exact this
theorem cx(h:Wy kz l){x y:Nat}(e:le1 l x y=true):kz x<=kz y:=by
 rcases tN.mp e with e|e
 ·have:=sZ (ke h e).symm;lia
 ·have:=yQ (ke h e).symm;lia
theorem Xp(h:Wy kz l):∀{k x y:Nat},leC l n k x y=true->kz x<=kz y
 |0,x,y,e=>cx h e
 |k+1,x,y,e=>by
  rcases tN.mp e with e|e
  ·exact cx h e
  ·obtain⟨z,_,e⟩:=yD.mp e;rw[yJ]at e;have h1:=cx h e.1;have h2:=Xp h e.2;lia
theorem P5(h:Wy kz l):∀{k x y:Nat},ltC l n k x y=true->kz x<kz y
 |0,x,y,e=>yQ (ke h e).symm
 |k+1,x,y,e=>by
  rcases tN.mp e with e|e
  ·exact yQ (ke h e).symm
  ·obtain⟨z,_,e⟩:=yD.mp e;rcases tN.mp e with e|e
   ·rw[yJ]at e;have h1:=yQ (ke h e.1).symm;have h2:=Xp h e.2;lia
   ·rw[yJ]at e;have h1:=cx h e.1;have h2:=P5 h e.2;lia
theorem Y5{x y z:Nat}(a:u4 kz x y)(b:u4 kz y z):u4 kz x z:=by
 unfold u4 at a b ⊢;lia
theorem Ot(h:Wy kz l):∀{p:List Nat},p.Nodup->Vd l n p=true->p.Pairwise (u4 kz)
 |[],_,_=>.nil
 |[x],_,_=>sW _ _
 |x::y::r,hn,e=>by
  rw[Vd,yJ]at e;have aZ:x≠y:=λz=>by rw[z]at hn;exact(wK.mp hn).1 zG
  have ih:=Ot h (wK.mp hn).2 e.2;have oM:u4 kz x y:=by
   have e1:=e.1;unfold u4;split at e1
   ·have:=Xp h e1;lia
   ·exact .inl (P5 h e1)
  refine xM.mpr ⟨λz hz=>?_,ih⟩;rcases zI.mp hz with rfl|hz
  ·exact oM
  ·exact Y5 oM ((xM.mp ih).1 z hz)
theorem N0{p:List Nat}(e:Ra n p=true):p.Perm (List.range n):=List.isPerm_iff.mp e
theorem dz:∀(t:KasT (Array Nat))(l:Lg),chk n t l=true->Wy kz l->(Uz (λi j=>decide (kz i<kz j)) t).toList.Perm (List.range n)/\(Uz (λi j=>decide (kz i<kz j)) t).toList.Pairwise (u4 kz)
 | .ret p,l,e,h=>by
  rw[chk,yJ]at e;have hp:=N0 e.1;exact⟨hp,Ot h (hp.nodup_iff.mpr vI) e.2⟩
 | .ask i j k,l,e,h=>by
  rw[chk,yJ,yJ]at e;have hl:∀b,b=decide (kz i<kz j)->Wy kz ((i,j,b)::l):=λb hb x hx=>by
   rcases zI.mp hx with rfl|hx
   ·exact hb
   ·exact h x hx
  rw[Uz];cases hd:decide (kz i<kz j)with
  |true=>exact dz (k true) _ e.1.2 (hl _ hd.symm)
  |false=>exact dz (k false) _ e.2 (hl _ hd.symm)
theorem d4{Bq:Nat->Nat->(Bool->Shared->Prop)->Shared->Prop}{Q:Array Nat->Shared->Prop}{s:Shared}(hc:∀i j C,i<n->j<n->C (decide (kz i<kz j)) s->Bq i j C s):∀(t:KasT (Array Nat))(l:Lg),chk n t l=true->Q (Uz (λi j=>decide (kz i<kz j)) t) s->t.kasWp Bq Q s
 | .ret p,l,_,h=>h
 | .ask i j k,l,e,h=>by
  rw[chk,yJ,yJ,yJ]at e;rw[Uz]at h;refine hc i j _ (yQ e.1.1.1) (yQ e.1.1.2) ?_;cases hd:decide (kz i<kz j)with
  |true=>rw[hd]at h;exact d4 hc (k true) _ e.1.2 h
  |false=>rw[hd]at h;exact d4 hc (k false) _ e.2 h
theorem E9{Bq:Nat->Nat->(Bool->Shared->Prop)->Shared->Prop}{Q:Array Nat->Shared->Prop}{s:Shared}(h6:n<=6)(hc:∀i j C,i<n->j<n->C (decide (kz i<kz j)) s->Bq i j C s)
  (h:∀p:Array Nat,p.toList.Perm (List.range n)->p.toList.Pairwise (u4 kz)->Q p s):(kas_sort n).kasWp Bq Q s:=by
 have e:=yA.mp Mg n (yH.mpr (by lia));obtain⟨h1,h2⟩:=dz (kz:=kz) _ [] e (λx hx=>by cases hx);exact d4 hc _ [] e (h _ h1 h2)
end
end
section
section
variable {prog:Program}{w:World}{A:Around}{E:Value->Shared->Prop}{s:Shared}
theorem j3{vs:List Value}{ns:List Int}:IntsAre vs ns->∀{i:Nat},i<vs.length->∃n t,ns[i]?=some n/\vs.getD i Value.none = .int n t
 | .nil,i,h=>absurd h (Nat.not_lt_zero _)
 | .cons n t r,0,_=>⟨n,t,rfl,rfl⟩
 | .cons n t r,i+1,h=>by
  obtain⟨a,b,e1,e2⟩:=j3 r (i:=i) (by simpa using h);exact⟨a,b,by simpa using e1,by simpa using e2⟩
structure Iu(prog:Program)(w:World)(A:Around)(s:Shared)(D:Addr)(vs:List Value)(f:Value)(kz:Nat->Int)(J:Addr->Nat->Shared->Prop):Prop where
 enter:∀kS h1,(∀b o,b≠D->s.heap.get? b=some o->h1.get? b=some o)->s.heap.objs.size<=kS->(∃o,h1.get? D=some o)->(∃o,h1.get? kS=some o)->J kS 0 { s with heap:=h1 }
 upd:∀kS i s1 h2,s.heap.objs.size<=kS->J kS i s1->(∀b o,b≠kS->b≠D->s1.heap.get? b=some o->h2.get? b=some o)->(∀b o,s1.heap.get? b=some o->∃o',h2.get? b=some o')->J kS i { s1 with heap:=h2 }
 call:∀kS i x s1,s.heap.objs.size<=kS->vs[i]?=some x->J kS i s1->wpAny (model prog w) A (call f [x]) (λk s2=>(∃t,k = .int (kz i) t)/\J kS (i+1) s2/\(∀o,s1.heap.get? kS=some o->s2.heap.get? kS=some o)/\∀o,s1.heap.get? D=some o->s2.heap.get? D=some o) (λ_ _=>False) s1
theorem Zb{h:Heap}{a:Addr}{xs:Array Value}{n:Nat}{g:Array Value->Array Value}(ha:h.get? a=some (seqObj "list" xs n)):∀b o,h.get? b=some o->∃o',(h.update a (Obj.mapSeq g)).get? b=some o':=λb o e=>by
 by_cases z:b=a
 ·subst z;exact⟨_,uH ha g⟩
 ·exact⟨o,(yN _ _ (wU z)).trans e⟩
theorem gy{D kS:Addr}{vs ks:List Value}{kz:Nat->Int}{e e1:Nat}{f:Value}{s0:Shared}{J:Addr->Nat->Shared->Prop}{P:PySem.Fin->Shared->Prop}{st:SortSt}{p:Array Nat}(KJ:Iu prog w A s0 D vs f kz J)(hz:s0.heap.objs.size<=kS)(EV:kS≠D)(hJ:J kS vs.length s)(h6:vs.length<=6)
  (hk:s.heap.get? kS=some (seqObj "list" ks.toArray e)) (lY:ks.length=vs.length) (hD:s.heap.get? D=some (seqObj "list" #[] e1)) (hout:(arrOf st).map (·.2)=List.toArray (p.toList.map λi=>vs.getD i Value.none)) (bL:p.toList.length=vs.length) (hf:failedOf st=none)
  (h:∀h2 c,J kS vs.length { s with heap:=h2 }->h2.get? D=some (seqObj "list" (p.toList.map λi=>vs.getD i Value.none).toArray c)->P (.done (.ret .none)) { s with heap:=h2 }) :
  wpAny (model prog w) A (ksk_tail D false e1 (.ref kS) st) P E s:=by
 unfold ksk_tail
 try dsimp only
 rw[hout];have hDk:(s.heap.update kS (Obj.mapSeq λ_=>(#[]:Array Value))).get? D=some (seqObj "list" #[] e1):=(yN _ _ EV).trans hD;refine zZ (uU hk rfl ?_ (by rw[zL,zM];lia) (yR _));refine zZ (wpAny_letGo ?_);refine zZ (seqEpoch_at hDk rfl ?_);refine zZ (uU hDk rfl ?_ (yR _) (by simp only[Bool.false_eq_true,if_false,zL,zY];rw[bL,zM];lia));rw[hf];simp only[bne_self_eq_false,Bool.false_eq_true,if_false];have J1:=KJ.upd kS vs.length s _ hz hJ (λb o b1 b2 e=>(yN (h:=s.heap) (f:=Obj.mapSeq λ_=>(#[]:Array Value)) (wU b1)).trans e) (Zb hk);have J2:=KJ.upd kS vs.length _ _ hz J1 (λb o b1 b2 e=>(yN (h:=s.heap.update kS (Obj.mapSeq λ_=>(#[]:Array Value))) (f:=Obj.mapSeq λ_=>List.toArray (p.toList.map λi=>vs.getD i Value.none)) (wU b2)).trans e) (Zb hDk);exact zV (h _ _ J2 (uH hDk λ_=>List.toArray (p.toList.map λi=>vs.getD i Value.none)))
theorem Ys{D:Addr}{vs:List Value}{n0:Nat}{f:Value}{kz:Nat->Int}{J:Addr->Nat->Shared->Prop}{P:PySem.Fin->Shared->Prop}(KJ:Iu prog w A s D vs f kz J)(h6:vs.length<=6)(ho:s.heap.get? D=some (seqObj "list" vs.toArray n0))
  (h:∀(kS:Addr)(s2:Shared)(p:List Nat)(c:Nat),s.heap.objs.size<=kS->J kS vs.length s2->p.Perm (List.range vs.length)->p.Pairwise (u4 kz)->s2.heap.get? D=some (seqObj "list" (p.map λi=>vs.getD i Value.none).toArray c)->P (.done (.ret .none)) s2) :
  wpAny (model prog w) A (ksk_tree D f false) P E s:=by
 have A5:D<s.heap.objs.size:=zQ ho;obtain⟨e1,EI⟩:∃e1,(s.heap.update D (Obj.mapSeq λ_=>(#[]:Array Value))).get? D=some (seqObj "list" #[] e1):=⟨_,uH ho λ_=>#[]⟩
 unfold ksk_tree;refine zZ (rY ho rfl (zZ (uU ho rfl (zZ (seqEpoch_at EI rfl (zZ (sK (zZ (tJ (xS ?_) (yR _))) (by show vs.length<=_;rw[zM];lia))))) (by rw[zL,zM];lia) (yR _))));generalize hH:((s.heap.update D (Obj.mapSeq λ_=>(#[]:Array Value))).push (seqObj "tuple" vs.toArray 0)).push (seqObj "list" #[] 0)=H3;have hkS:((s.heap.update D (Obj.mapSeq λ_=>(#[]:Array Value))).push (seqObj "tuple" vs.toArray 0)).objs.size=s.heap.objs.size+1:=by rw[size_push',tR]
 have qV:H3.get? (s.heap.objs.size+1)=some (seqObj "list" #[] 0):=by rw[<-hH,<-hkS];exact zR _ rfl
 have CV:H3.get? D=some (seqObj "list" #[] e1):=by rw[<-hH];exact zX _ (zX _ EI)
 have keep:∀b o,b≠D->s.heap.get? b=some o->H3.get? b=some o:=λb o hb e=>by
  rw[<-hH];exact zX _ (zX _ ((yN _ _ (wU hb)).trans e))
 have hz:s.heap.objs.size<=s.heap.objs.size+1:=vQ _;have EV:s.heap.objs.size+1≠D:=wX (xI A5);have J0:=KJ.enter (s.heap.objs.size+1) H3 keep hz ⟨_,CV⟩ ⟨_,qV⟩;show wpAny (model prog w) A (ksk_rest D f false vs.toArray e1 (.ref ((s.heap.update D (Obj.mapSeq λ_=>(#[]:Array Value))).push (seqObj "tuple" vs.toArray 0)).objs.size)) P E _;rw[hkS];generalize s.heap.objs.size+1=kS at *;refine(show wpAny (model prog w) A _ P E { s with heap:=H3 }from ?_);unfold ksk_rest;refine zZ (tU ?_)
 first
  |rw[List.forIn_toArray]
  |(rw[<-tB];simp only[List.toList_toArray])
  |rw[<-tB]
 refine zZ (ksk_fold (λi s1=>J kS i s1/\∃ks c,s1.heap.get? kS=some (seqObj "list" (List.toArray ks) c)/\s1.heap.get? D=some (seqObj "list" #[] e1)/\IntsAre ks ((List.range i).map kz)) vs 0 _ ⟨J0,[],0,qV,CV,.nil⟩ ?step ?done)
 case step =>
  rintro j x s1 hx ⟨hJ,ks,c,hk,hD,hi⟩;simp only[rZ]at hJ hi ⊢;have hj:j<vs.length:=(zW.mp hx).1;have lY:ks.length=j:=by have:=hi.length;rw[zY,xY]at this;exact this
  refine zZ (uE (xT (KJ.call kS j x s1 hz hx hJ) (λv s2 he=>?_) λ_ _ hF=>hF.elim));obtain⟨⟨t,rfl⟩,Ce,k1,k2⟩:=he
  try dsimp only
  have CK:=k1 _ hk;have ea:(List.toArray ks).push (Value.int (kz j) t)=List.toArray (ks++[.int (kz j) t]):=by simp
  obtain⟨c2,cT⟩:∃c2,(s2.heap.update kS (Obj.mapSeq (·.push (.int (kz j) t)))).get? kS=some (seqObj "list" (List.toArray (ks++[.int (kz j) t])) c2):=⟨_,by rw[<-ea];exact uH CK (·.push (.int (kz j) t))⟩
  refine zZ (uU CK rfl ?_ (by rw[zL,zM];lia) (yT (vK (Array.size_push ..)) (by rw[zL,zM];lia)));refine zV ⟨rfl,KJ.upd kS (j+1) s2 _ hz Ce (λb o b1 b2 e=>(yN (h:=s2.heap) (f:=Obj.mapSeq (·.push (.int (kz j) t))) (wU b1)).trans e) (Zb CK),ks++[.int (kz j) t],c2,cT,(yN _ _ EV).trans (k2 _ hD),?_⟩
  ·rw[vY,zJ];exact ksk_snoc hi
 case done =>
  rintro s1 ⟨hJ,ks,c,hk,hD,hi⟩;rw[rZ]at hJ hi;have lY:ks.length=vs.length:=by have:=hi.length;rw[zY,xY]at this;exact this
  try dsimp only
  refine zZ (rY hk rfl ?_);unfold ksk_end
  try dsimp only
  simp only[Bool.false_eq_true,if_false]
  by_cases h2:vs.toArray.size<2
  ·rw[yV h2,yV h2];refine zZ (zV ?_);rw[StateT.run_pure];refine zZ (zV ?_)
   try dsimp only
   have A0:(arrOf (SortSt.mk' general' ((List.toArray ks).zip vs.toArray) #[] 7 none)).map (·.2)=List.toArray ((List.toArray (List.range vs.length)).toList.map λi=>vs.getD i Value.none):=by
    show((List.toArray ks).zip vs.toArray).map (·.2)=_;apply wC.mp;apply vH
    ·simp[lY]
    ·intro i a1 a2;have hi:i<vs.length:=by simpa using a2
     simp[hi]
   rw[zL]at h2;refine gy (p:=List.toArray (List.range vs.length)) KJ hz EV hJ h6 hk lY hD A0 (by simp) rfl λfU c' CT hD'=>h kS _ (List.range vs.length) c' hz CT (.refl _) ?_ (by simpa using hD');refine yE.mpr λi j hi hj iU=>?_;rw[xY]at hj;lia
  ·rw[zC h2,zC h2];rw[zL]at h2;rw[ksk_kind (keys:=List.toArray ks) (kz:=(List.range vs.length).map kz) hi (by rw[zL];lia)];refine zZ (zV ?_);have ask:(kas_sort vs.length).kasWp (kas_ask prog w A oneType' ks) (λp s'=>s'=s1/\p.toList.Perm (List.range vs.length)/\p.toList.Pairwise (u4 kz)) s1:=by
    refine E9 (kz:=kz) h6 (λi j C bT qD hC=>?_) λp hp hs=>⟨rfl,hp,hs⟩
    unfold kas_ask;obtain⟨a,t,e3,e4⟩:=j3 hi (i:=i) (by lia);obtain⟨b,u,e5,e6⟩:=j3 hi (i:=j) (by lia);rw[zT,List.getElem?_range bT]at e3;rw[zT,List.getElem?_range qD]at e5;cases e3;cases e5;rw[e4,e6,keyLt'_oneType];exact oneLt_int hC
   refine zZ (xT (kat_run (Q:=λfB s'=>∃p:Array Nat,arrOf fB=p.map (kas_item ((List.toArray ks).zip vs.toArray))/\failedOf fB=none/\s'=s1/\p.toList.Perm (List.range vs.length)/\p.toList.Pairwise (u4 kz)) lY (by lia) (by lia) (λp fB s' _ a2 a3 a4=>⟨p,a2,a3,a4⟩) ask) ?_ λ_ _ e=>e);rintro⟨⟨⟩,fB⟩ s' ⟨p,har,hf,rfl,hp,hu⟩;dsimp only;exact gy (p:=p) KJ hz EV hJ h6 hk lY hD (kat_snds lY har) (by rw[hp.length_eq,xY]) hf λfU c' CT hD'=>h kS _ p.toList c' hz CT hp hu hD'
end
end
section
def re(X:Cx)(A:Around)(N':List Str)(qual:Str)(scope:Scope)(cl:List (Str×Addr))(q c':Addr)(s₀:Shared)(H₀:Hp):Cx where
 prog:=X.prog
 w:=X.w
 K:=X.K
 mg:=X.mg
 base:=X.base
 A:=A.deeper (envX qual scope s₀.heap.objs.size q (.ref c') cl)
 N:=N'
 s₀:=s₀
 H₀:=H₀
 env:=envX qual scope s₀.heap.objs.size q (.ref c') cl
 outer:=X.stack
 stack:=envX qual scope s₀.heap.objs.size q (.ref c') cl::X.stack
 ex:=[]
 fn:=λ_=>false
 calm:=true
 pn:=[]
 xe:=λ_ _=>False
section
variable {X:Cx}{N:List Str}{scope:Scope}{cl:List (Str×Addr)}{x:Str}
theorem Mt{pins:List (Addr×Obj)}{σ:St}{H:Hp}{s:Shared}{A:Around}{qual:Str}{q c':Addr}{h₁:Heap}{tk:Nat}{ixs:List Nat}{v:V}{u:Value}(k:CompOk X [x] N scope cl)(I:Inv X pins σ H s)(hA:A.frames=some X.stack)(hh:A.handled=none)
  (mS:∀(j:Nat)(i:Nat),ixs[j]?=some i->∃y,X.N[i]?=some y/\N[j]?=some y) (aH:ixs.length=N.length) (rv:RelV v u)
  (qC:h₁.Ns s.heap.objs.size λy=>([(x,u)]:List (Str×Value)).reverse.lookup y) (old:∀b o,s.heap.get? b=some o->h₁.get? b=some o) :
  Inv (re X A ([x]++N) qual scope cl q c' s H) [] (some v::ixs.map (gv σ)) H { s with heap:=h₁,toks:=tk }:=by
 have Ad:∀b:Addr,b∉(re X A ([x]++N) qual scope cl q c' s H).ex:=λb z=>absurd (show b∈([]:List Addr)from z) (by simp);refine⟨⟨I.ok.mod,k.kind,rfl,rfl,zU _,λy z c h1 h2=>I.ok.inj y z c (k.up h1) (k.up h2),λy hy=>?_,λy c h1=>absurd h1 (by simp[re]),λ_=>hh,Around.frames_deeper hA,.inr ⟨rfl,rfl⟩,λb z=>absurd z (Ad b),I.bs,yT I.ok.bsz I.sz,λb _ _=>Ad b,λb z=>absurd z (Ad b),I.stack,I.stkFree⟩,
  rfl,I.bare,Un.kept old,⟨_,qC,λi y v' h1 h2 h3=>?_⟩,λy c e=>?_,I.hok.fresh (zU _),λy c e=>I.freeC y c (k.up e),λp hp=>absurd hp (by simp[re]),I.hok.kept old,?_⟩
 ·have hy:scope.names.lookup y=some .cell\/scope.names.lookup y=some .free:=hy;rcases hy with hy|hy
  ·exact absurd rfl (k.nocell _ (xC hy))
  ·exact k.have_ _ (xC hy) rfl
 ·cases i with
  |zero =>
   have e1:x=y:=yX h1;have e2:v=v':=yX (yX h2);subst e1;subst e2;exact⟨u,rv,.inl ⟨k.mine x (by simp),by simp⟩⟩
  |succ i =>
   have pN:N[i]?=some y:=by simpa[re]using h1
   have fU:(ixs.map (gv σ))[i]?=some (some v'):=by simpa using h2
   rw[zT]at fU;cases e:ixs[i]? with
   |none=>rw[e]at fU;cases fU
   |some j =>
    rw[e]at fU;have Cg:gv σ j=some v':=by simpa using fU
    obtain⟨z,hz,gE⟩:=mS i j e;rw[pN]at gE;cases gE;have hm:=zN pN;obtain⟨m,hn,hl⟩:=I.loc;obtain⟨u',ru,l⟩:=hl j y v' hz (cr Cg) (.inr (k.cells y hm));refine⟨u',ru,?_⟩;rcases l with⟨l,_⟩|⟨_,c,ec,ic⟩
    ·exfalso;rcases k.cells y hm with z|z<;>(rw[l]at z;cases z)
    ·obtain⟨c2,FL⟩:=k.free y hm;have:c=c2:=yX (ec.symm.trans (k.up FL));subst this;refine .inr ⟨?_,c,FL,?_⟩
     ·rcases k.vis y hm with z|z
      ·exact wz (env:=X.env) z (.inl rfl)
      ·exact wz (env:=X.env) z (.inr rfl)
     ·obtain⟨o,ho,hd⟩:=ic;exact⟨o,old _ _ ho,hd⟩
 ·obtain⟨v,o,ho,hd⟩:=I.cell y c (k.up e);exact⟨v,o,old _ _ ho,hd⟩
 ·show(some v::ixs.map (gv σ)).length=([x]++N).length;simp[aH]
theorem Pw{pins:List (Addr×Obj)}{σ:St}{H:Hp}{s:Shared}{A:Around}{name qual:Str}{params:Arguments}{body:Expr}{pm mE:Value}{q c':Addr}{ixs:List Nat}{v:V}{u:Value}{Q:VK}{te:TE}(k:CompOk X [x] N scope cl)(I:Inv X pins σ H s)(hA:A.frames=some X.stack)(hh:A.handled=none)(Et:A.depth<recursionLimit)
  (mS:ixs.map (λi=>X.N[i]?)=N.map some) (hq:s.heap.get? q=some (kla_obj name qual params body scope cl pm c' mE)) (kH:s.heap.CodeRec (.ref c') qual) (hb:∀u,bindArgs (kla_fn name qual params body scope cl pm (.ref c') mE) ⟨[u],[]⟩=pure [(x,u)])
  (EZ:scope.isCoroutine=false) (qY:scope.isGenerator=false) (rv:RelV v u) (he:PE (re X A ([x]++N) qual scope cl q c' s H) body te) (h:te (some v::ixs.map (gv σ)) H Q) :
  wpAny (model X.prog X.w) A (call (.ref q) [u]) (λr s'=>CE X.stack X.prog X.w H s Q r s') (λ_ _=>False) s:=by
 refine wpAny_call (kla_callFunE Et hq rfl EZ qY rfl kH ?_);rw[hb];refine zV (wpAny_newFunctionEnv k.nocell (λy hy=>by rw[zO.mp hy];exact k.mine x (by simp)) (λh₁ qC C7=>⟨I.nolimit.fresh _ C7,?_⟩) k.kind);show codeAny _ _ (.expr body (envX qual scope s.heap.objs.size q (.ref c') cl)) _ _;have old:∀b o,s.heap.get? b=some o->h₁.get? b=some o:=λb o e=>C7.extBut b o (zF (zQ e)) (zX _ e);refine kla_codeExpr (xT (he [] _ _ H Q (Mt k I hA hh (Pn mS) (Xl mS) rv qC old) h) (λv' s' ⟨y,H',J,r,q'⟩=>?_) λ_ _ z=>False.elim z);exact⟨y,H',J.os,J.bare,J.base,J.hok,r,q'⟩
end
structure Ze(base:Heap)(mg:Str->Option Value)(c P:Addr):Prop where
 cd:CodeHd base c P
 bm:∃bm ob,mg "__builtins__"=some (.ref bm)/\bm≠builtinsNs/\base.get? bm=some ob/\ob.cls = .type "module"/\ob.dict=some builtinsNs/\ob.data = .plain
 np:base.get? P=none
def cdO(c':Addr)(qual:Str):HO:=.ext λh=>h.CodeRec (.ref c') qual
def fc(pos:Pos)(c':Addr):Array Value:=#[rawInt pos.line,rawInt pos.col,.ref c']
def TabAt(P:Addr)(pos:Pos)(qual:Str)(H:Hp):Prop:=H P=some (.tbl #[])\/∃c',H P=some (.tbl (fc pos c'))/\H c'=some (cdO c' qual)
def SameP(P:Addr)(H H':Hp):Prop:=∀b o,b≠P->H b=some o->H' b=some o
theorem Jc{Pr:Program}{w:World}{H:Hp}{h:Heap}{c':Addr}{qual:Str}(e:h.CodeRec (.ref c') qual):ObjOk Pr w H h c' (cdO c' qual):=by
 refine⟨e,?_,λh1 h2 ⟨c,o,vs,t,e1,e2,r⟩ k=>?_⟩
 ·obtain⟨c,o,vs,t,e1,e2,r⟩:=e;cases e1;exact⟨o,e2⟩
 ·cases e1;exact⟨c',o,vs,t,rfl,k _ e2,r⟩
theorem Iw(pos:Pos)(c':Addr):codeAmong pos (fc pos c').toList=some (.ref c'):=by
 show(if((pos.line:Int)==(pos.line:Int)&&(pos.col:Int)==(pos.col:Int))=true then some (Value.ref c')else _)=_;rw[yV (by simp)]
theorem Px{X:Cx}{pins:List (Addr×Obj)}{σ:St}{H:Hp}{s:Shared}{E:Value->Shared->Prop}{c P:Addr}{pos:Pos}{qual:Str}{params:Arguments}{body:Expr}{scope:Scope}{cl:List (Str×Addr)}{Q:Value->Shared->Prop}(I:Inv X pins σ H s)(oR:X.env.code = .ref c)(rA:closureFor scope X.env=pure cl)(Cb:defaultsOf params X.env=([],[]))
  (qQ:X.env.qual++"<lambda>"=qual) (L:Ze X.base X.mg c P) (hT:TabAt P pos qual H)
  (h:∀q c' mE H' s',Inv X pins σ H' s'->SameP P H H'->H' P=some (.tbl (fc pos c'))->H' c'=some (cdO c' qual)->H' q=none->s.heap.objs.size<=q->s'.heap.get? q=some (kla_obj "<lambda>" qual params body scope cl ((X.mg "__name__").getD .none) c' mE)->(∀b o,b≠P->s.heap.get? b=some o->s'.heap.get? b=some o)->s'.heap.objs.size=q+1->Q (.ref q) s') :
  wpAny (model X.prog X.w) X.A (eval (.Lambda params body scope pos) X.env) Q E s:=by
 refine kla_eval Cb ?_;rw[qQ];have hg:s.heap.Ns mainGlobals X.mg:=X.base |>λ_=>I.ok.mod.glob.keeps I.bk
 obtain⟨bm,ob,b1,b2,b3,b4,b5,b6⟩:=L.bm;have hbG:bm≠mainGlobals:=λz=>by
  obtain⟨o,es,ep,e,hd,_⟩:=I.ok.mod.glob;rw[z,e]at b3;cases b3;rw[hd]at b6;cases b6
 have hbP:bm≠P:=λz=>by rw[z,L.np]at b3;cases b3
 have hgP:mainGlobals≠P:=λz=>by
  obtain⟨o,es,ep,e,_⟩:=I.ok.mod.glob;rw[z,L.np]at e;cases e
 have hB:s.heap.BuiltinsAt X.mg P:=⟨bm,ob,b1,b2,hbG,hbP,I.bk _ _ b3,b4,b5,b6⟩
 rcases hT with hP|⟨c',hP,mT⟩
 ·have hm:s.heap.get? P=some (tabObj #[]):=I.hok P _ hP;refine kla_makeFunction (mg:=X.mg) rA I.ok.glob hg oR (L.cd.keeps I.bk) hm trivial rfl hgP hB λc' mE h' tk hx mC aI qP htb=>?_;have Ej:h'.get? P=some (tabObj (fc pos c')):=by simpa[fc]using htb
  have hPs:P<s.heap.objs.size:=zQ hm;have hcP:c'≠P:=wX (zA hPs mC);have hc0:H c'=none:=I.hok.fresh mC;have keep:∀b o,b≠P->s.heap.get? b=some o->(h'.push (kla_obj "<lambda>" qual params body scope cl ((X.mg "__name__").getD .none) c' mE)).get? b=some o:=λb o hb e=>zX _ (hx b o hb e);have Ex:H h'.objs.size=none:=I.hok.fresh (yT mC (xW aI));have at_:∀b o,b≠P->H b=some o->(upd (upd H c' (cdO c' qual)) P (.tbl (fc pos c'))) b=some o:=λb o hb e=>by rw[zh hb,zh (λz=>by rw[z,hc0]at e;cases e)];exact e
  have nP:∀b,H b=none->b≠P:=λb e z=>by rw[z,hP]at e;cases e
  refine h h'.objs.size c' mE (upd (upd H c' (cdO c' qual)) P (.tbl (fc pos c'))) _ (Inv.un (t':=tk) I ⟨λb o e n _ _=>keep b o (nP b n) e,λb o e n _ _=>⟨o.slots,keep b o (nP b n) e⟩,λb o e n _=>?_,λb o e _=>?_,λb xs e=>at_ b _ (λz=>?_) e,λb o u e=>at_ b _ (λz=>?_) e,λb ps e=>?_⟩ λb o e=>?_) (λb o hb e=>at_ b o hb e) zx (by rw[zh hcP,zx]) ?_ (yT mC (xW aI)) (zR _ rfl) keep (xX ..)
  ·rw[zh (nP b n),zh (zF (zA (zQ e) mC))];exact n
  ·by_cases z:b=P
   ·exact⟨_,zX _ (z▸Ej)⟩
   ·exact⟨o,keep b o z e⟩
  ·rw[z,hP]at e;cases e
  ·rw[z,hP]at e;cases e
  ·by_cases z:b=P
   ·subst z;rw[hP]at e;cases e;exact⟨fc pos c',by rw[zx];simp⟩
   ·exact⟨#[],by rw[at_ b _ z e];simp⟩
  ·by_cases z:b=P
   ·subst z;rw[zx]at e;cases e;exact zX _ Ej
   ·rw[zh z]at e
    by_cases z2:b=c'
    ·subst z2;rw[zx]at e;cases e;exact Jc (qP.push _)
    ·rw[zh z2]at e;refine(I.hok b o e).stay (λc u hc g=>keep c u (λy=>?_) g) (λc g=>at_ c _ (λy=>?_) g) λc xs g=>at_ c _ (λy=>?_) g
     ·rcases hc with y2|y2
      ·exact z (y2.symm.trans y)
      ·rw[y,hP]at y2;cases y2
     ·rw[y,hP]at g;cases g
     ·rw[y,hP]at g;cases g
  ·rw[zh (wX (zA hPs (yT mC (xW aI)))),zh (wX aI)];exact Ex
 ·have hm:s.heap.get? P=some (tabObj (fc pos c')):=I.hok P _ hP;refine kla_makeFunctionHit (mg:=X.mg) rA I.ok.glob hg oR (L.cd.keeps I.bk) hm trivial (Iw pos c') hB λmE h' tk hk hsz=>?_;exact h h'.objs.size c' mE H _ (I.kept (t':=tk) λb o e=>zX _ (hk b o e)) (λ_ _ _ e=>e) hP mT (I.hok.fresh hsz) hsz (zR _ rfl) (λb o _ e=>zX _ (hk b o e)) (xX ..)
end
section
structure S6(X:Cx)(pins:List (Addr×Obj))(D:Addr):Prop where
 lo:X.s₀.heap.objs.size<=D
 nl:D≠X.env.locals
 nc:∀x c,X.env.cells.lookup x=some c->c≠D
 np:∀p∈X.pn++pins,p.1≠D
 nf:D∉frs X.stack
section
variable {X:Cx}{pins:List (Addr×Obj)}{σ:St}{H:Hp}{s:Shared}{D:Addr}
theorem m7(I:Inv X pins σ H s)(h:s.heap.objs.size<=D):S6 X pins D:=by
 refine⟨yT I.sz h,wX (zA I.lt h),λx c e z=>?_,λp hp z=>?_,λhb=>?_⟩
 ·obtain⟨v,o,ho,_⟩:=I.cell x c e;exact absurd (zQ ho) (by rw[z];exact sY.mpr h)
 ·exact absurd (zQ (I.pin p hp).1) (by rw[z];exact sY.mpr h)
 ·obtain⟨_,o,ho,_⟩:=I.stack.mem hb;exact absurd (zQ ho) (sY.mpr h)
theorem Inv.turned2{a b:Addr}{h':Heap}{t':Nat}(I:Inv X pins σ H s)(oa:S6 X pins a)(ob:S6 X pins b)(ha:H a=none)(hb:H b=none)(k:∀c o,c≠a->c≠b->s.heap.get? c=some o->h'.get? c=some o):Inv X pins σ H { s with heap:=h',toks:=t' }:=by
 have n:∀c u,H c=some u->c≠a/\c≠b:=λc u e=>⟨(λz=>by rw[z,ha]at e;cases e),(λz=>by rw[z,hb]at e;cases e)⟩
 have nm:∀c,c∉[a,b]->c≠a/\c≠b:=λc hc=>⟨λz=>hc (by simp[z]),λz=>hc (by simp[z])⟩
 refine Inv.call (ch:=[a,b]) (g':=s.gens) (d':=s.drawn) I ⟨λc o e _ _ hx=>k c o (nm c hx).1 (nm c hx).2 e,λc o e _ _ hx=>⟨o.slots,k c o (nm c hx).1 (nm c hx).2 e⟩,λ_ _ _ e _=>e,λc o e hx=>⟨o,k c o (nm c hx).1 (nm c hx).2 e⟩,λ_ _ e=>e,λ_ _ _ e=>e,λc ps e=>⟨#[],by rw[e];simp⟩⟩ (λc u e=>?_) I.bare λc hc=>?_
 ·refine(I.hok c u e).stay (λd v hd q=>?_) (λ_ q=>q) λ_ _ q=>q;rcases hd with z|z
  ·rw[z]at q ⊢;exact k c v (n c u e).1 (n c u e).2 q
  ·exact k d v (n d _ z).1 (n d _ z).2 q
 ·rcases zI.mp hc with z|z
  ·rw[z];exact⟨.inr oa.lo,oa.nl,oa.nc,oa.np⟩
  ·rw[zO.mp z];exact⟨.inr ob.lo,ob.nl,ob.nc,ob.np⟩
theorem Inv.adopt{xs:List V}{aD:List Value}{n:Nat}(I:Inv X pins σ H s)(od:S6 X pins D)(hD:H D=none)(hz:xs.length<=sizeLine)(rv:Vals xs aD)(e:s.heap.get? D=some (seqObj "list" aD.toArray n)):Inv X pins σ (upd H D (.lst xs)) s:=by
 have nD:∀b u,H b=some u->b≠D:=λb u e z=>by rw[z,hD]at e;cases e
 have nm:∀c,c∉[D]->c≠D:=λc hc z=>hc (by simp[z]);have at_:∀b u,H b=some u->upd H D (.lst xs) b=some u:=λb u e=>by rw[zh (nD b u e)];exact e
 have:=Inv.call (ch:=[D]) (h':=s.heap) (g':=s.gens) (d':=s.drawn) (t':=s.toks) (H':=upd H D (.lst xs)) I ⟨λc o e _ _ _=>e,λc o e _ _ _=>⟨o.slots,e⟩,λc o e q hx=>by rw[zh (nm c hx)];exact q,λc o e _=>⟨o,e⟩,λb _ e=>at_ b _ e,λb _ _ e=>at_ b _ e,λb ps e=>⟨#[],by rw[at_ b _ e];simp⟩⟩ (λc u q=>?_) I.bare λc hc=>?_
 ·exact this
 ·by_cases z:c=D
  ·subst z;rw[zx]at q;cases q;exact⟨hz,aD,n,rv,e⟩
  ·rw[zh z]at q;exact(I.hok c u q).stay (λ_ _ _ g=>g) (λb g=>at_ b _ g) λb xs g=>at_ b _ g
 ·rw[zO.mp hc];exact⟨.inr od.lo,od.nl,od.nc,od.np⟩
end
def Su(P:Addr)(pos:Pos)(qual:Str)(ixs:List Nat)(te:TE)(ta:TA):TE:=fun σ H Q=>ta σ H (on1 (gr λj H1=>(0<=j/\j<=6)/\TabAt P pos qual H1/\∃kz:Nat->Int,(∀(i:Nat)(H2:Hp),i<j.toNat->SameP P H1 H2->te (some (.int (i:Int))::ixs.map (gv σ)) H2 λv H3=>v = .int (kz i)/\Same H2 H3) /\
 ∀(p:List Nat)(D:Addr)(H':Hp),p.Perm (List.range j.toNat)->p.Pairwise (u4 kz)->SameP P H1 H'->TabAt P pos qual H'->H1 D=none->H' D=some (.lst (p.map λn=>V.int ((n:Nat):Int)))->Q (.ref D) H'))
section
variable {X:Cx}{N:List Str}{scope:Scope}{cl:List (Str×Addr)}{x:Str}
theorem Mo{pins:List (Addr×Obj)}{σ:St}{H:Hp}{s:Shared}{A:Around}{qual:Str}{params:Arguments}{body:Expr}{pm mE:Value}{q c' D:Addr}{ixs:List Nat}{te:TE}{vs:List Value}{kz:Nat->Int}{kk:Nat}(k:CompOk X [x] N scope cl)(I:Inv X pins σ H s)(hA:A.frames=some X.stack)(hr:Room (kk+1) A)
  (mS:ixs.map (λi=>X.N[i]?)=N.map some) (hq:s.heap.get? q=some (kla_obj "<lambda>" qual params body scope cl pm c' mE)) (Ex:H q=none) (oq:S6 X pins q) (mT:H c'=some (cdO c' qual)) (hb:∀mE u,bindArgs (kla_fn "<lambda>" qual params body scope cl pm (.ref c') mE) ⟨[u],[]⟩=pure [(x,u)])
  (EZ:scope.isCoroutine=false) (qY:scope.isGenerator=false) (he:∀(A:Around)(q c':Addr)(s₀:Shared)(H₀:Hp),Room kk (re X A ([x]++N) qual scope cl q c' s₀ H₀).A->PE (re X A ([x]++N) qual scope cl q c' s₀ H₀) body te)
  (oD:S6 X pins D) (CV:H D=none) (hqD:q≠D) (BK:∀(i:Nat)(v:Value),vs[i]?=some v->∃t,v = .int (i:Int) t)
  (hk:∀(i:Nat)(H2:Hp),i<vs.length->Same H H2->te (some (.int (i:Int))::ixs.map (gv σ)) H2 λv H3=>v = .int (kz i)/\Same H2 H3) :
  Iu X.prog X.w A s D vs (.ref q) kz λkS i s1=>∃H2,Inv X pins σ H2 s1/\Same H H2/\H2 D=none/\H2 kS=none/\H2 q=none/\s1.heap.get? q=some (kla_obj "<lambda>" qual params body scope cl pm c' mE)/\(∃o,s1.heap.get? D=some o)/\∃o,s1.heap.get? kS=some o:=by
 have qlt:∀kS,s.heap.objs.size<=kS->q≠kS:=λkS h=>zF (zA (zQ hq) h);refine⟨λkS h1 nK hz hd hks=>?_,λkS i s1 h2 hz ⟨H2,I2,s2,d2,k2,q2,e2,od,ok⟩ nK ht=>?_,λkS i x' s1 hz hx ⟨H2,I2,s2,d2,k2,q2,e2,⟨o1,od⟩,⟨o2,ok⟩⟩=>?_⟩
 ·exact⟨H,Inv.turned2 (t':=s.toks) I oD oD CV CV λc o z _ e=>nK c o z e,Same.refl _,CV,I.hok.fresh hz,Ex,nK _ _ hqD hq,hd,hks⟩
 ·obtain⟨o1,od⟩:=od;obtain⟨o2,ok⟩:=ok;exact⟨H2,Inv.turned2 (t':=s1.toks) I2 (m7 I hz) oD k2 d2 nK,s2,d2,k2,q2,nK _ _ (qlt kS hz) hqD e2,ht _ _ od,ht _ _ ok⟩
 ·have hi:i<vs.length:=(zW.mp hx).1;obtain⟨t,rfl⟩:=BK i x' hx;have kH:s1.heap.CodeRec (.ref c') qual:=(I2.hok c' _ (s2 _ _ mT)).1;refine xT (Pw (v:=.int (i:Int)) k I2 hA hr.hd hr.depth mS e2 kH (hb _) EZ qY ⟨t,rfl⟩ (he A q c' s1 H2 (hr.deeper _)) (hk i H2 hi s2)) (λu s3 ⟨v,H3,os,bare,un,hok,r,ev,AQ⟩=>?_) λ_ _ z=>z;subst ev;have oks:=m7 I hz;refine⟨r,⟨H3,Inv.call' (ch:=[]) I2 os un hok bare (λb z=>absurd z (by simp)),s2.trans AQ,un.free _ _ od d2 (by simp),un.free _ _ ok k2 (by simp),un.free _ _ e2 q2 (by simp),un.keep _ _ e2 q2 oq.nf (by simp),un.there _ _ od (by simp),un.there _ _ ok (by simp)⟩,λo e=>un.keep _ _ e k2 oks.nf (by simp),λo e=>un.keep _ _ e d2 oD.nf (by simp)⟩
theorem Mx{a:Expr}{ta:TA}{params:Arguments}{body:Expr}{te:TE}{ixs:List Nat}{c P:Addr}{qual:Str}{kk k':Nat}{p1 p2 kJ bH kp lp:Pos}(hc:X.calm=true)(g1:Gl X "sorted")(m1:X.mg "sorted"=none)(g2:Gl X "range")(m2:X.mg "range"=none)(ha:PA X [a] ta)(k:CompOk X [x] N scope cl)(mS:ixs.map (λi=>X.N[i]?)=N.map some)(hr:Room k' X.A)(hkk:kk+3<=k')
  (oR:X.env.code = .ref c) (L:Ze X.base X.mg c P) (he:∀(A:Around)(q c':Addr)(s₀:Shared)(H₀:Hp),Room kk (re X A ([x]++N) qual scope cl q c' s₀ H₀).A->PE (re X A ([x]++N) qual scope cl q c' s₀ H₀) body te)
  (hb:∀(pm:Value)(c':Addr)(mE u:Value),bindArgs (kla_fn "<lambda>" qual params body scope cl pm (.ref c') mE) ⟨[u],[]⟩=pure [(x,u)]) (qQ:X.env.qual++"<lambda>"=qual:=by rfl) (Cb:defaultsOf params X.env=([],[]):=by rfl) (EZ:scope.isCoroutine=false:=by rfl) (qY:scope.isGenerator=false:=by rfl)
  (hs:starEach [a] X.env=[(false,eval a X.env)]:=by rfl) (eU:backTo kJ (starEach [.Call (.Name "range" p2) [a] [] bH] X.env)=(false,eval (.Call (.Name "range" p2) [a] [] bH) X.env)::backTo kJ (starEach [] X.env):=by rfl)
  (nG:(backTo kJ (starEach [.Call (.Name "range" p2) [a] [] bH] X.env)).any (·.1)=false:=by rfl) :
  PE X (.Call (.Name "sorted" p1) [.Call (.Name "range" p2) [a] [] bH] [⟨some "key",.Lambda params body scope lp,kp⟩] kJ) (Su P lp qual ixs te ta):=by
 intro pins s σ H Q I h;refine wL (wg I g1 m1 r9 ?_);refine callWith_kw ?_ eU nG;rw[eU];refine vD ?_;refine Call_ (wg I g2 m2 boot_range (xU (thn (ha bH pins s σ H _ I h) λus s1 ⟨vs,H1,I1,r1,q1⟩=>?_) hs rfl));rcases vs with _|⟨x1,_|⟨y,rr⟩⟩
 ·exact(show False from q1).elim
 ·cases x1 with
  |int j =>
   obtain⟨⟨q0,q2⟩,hT,kz,hkz,q⟩:=(show(0<=j/\j<=6)/\TabAt P lp qual H1/\∃kz:Nat->Int,(∀(i:Nat)(H2:Hp),i<j.toNat->SameP P H1 H2->te (some (.int (i:Int))::ixs.map (gv σ)) H2 λv H3=>v = .int (kz i)/\Same H2 H3) /\
    ∀(p:List Nat)(D:Addr)(H':Hp),p.Perm (List.range j.toNat)->p.Pairwise (u4 kz)->SameP P H1 H'->TabAt P lp qual H'->H1 D=none->H' D=some (.lst (p.map λn=>V.int ((n:Nat):Int)))->Q (.ref D) H' from q1)
   cases r1 with
   |cons r rr =>
    cases rr;obtain⟨t,rfl⟩:=r;refine call_range_1 ?_;refine vP ?_;have I2:Inv X pins σ H1 { s1 with heap:=s1.heap.push { cls:=.type "range",data:=.fields #[.int 0 s1.toks,.int j t,.int 1 (s1.toks+1)] },toks:=s1.toks+1+1 }:=I1.kept λb o e=>zX _ e;have hn:Builtin.Range.rangeSize 0 j 1=((j.toNat:Nat):Int):=by
     rw[rangeSize_one];split<;>lia
    refine kws_cons (Px I2 oR k.clos Cb qQ L hT λq' c' mE H2 s2 I3 sp hP mT Ex hqz hq keep nF=>kws_nil ?_);have hPr:P≠s1.heap.objs.size:=λz=>by
     have:H1 P=none:=I1.hok.fresh (vK z.symm);rcases hT with e|⟨_,e,_⟩<;>(rw[this]at e;cases e)
    have hrng:=keep _ _ (wU hPr) (zR s1.heap (o:={ cls:=.type "range",data:=.fields #[.int 0 s1.toks,.int j t,.int 1 (s1.toks+1)] }) rfl);show wpAny (model X.prog X.w) X.A (call (.builtin "sorted") [.ref s1.heap.objs.size] [(Str.ofString "key",.ref q')]) _ _ s2;refine call_function_entry_kw kind_sorted plain_sorted entry_sorted (ksk_s1 _ _) ?_;unfold Builtin.«sorted»;refine zZ (m:=checkCount "sorted" 1 1 _) (zV ?_);refine zZ (iz (A:=X.A.in1) (I2.ok.hd hc) hrng (small_one (by decide) (by decide) (by lia) (by lia)) hn (by lia) λh' tk aG kp' dB=>?_);have hal:aG.toList.length=j.toNat:=by have:=dB.1;simpa using this
    refine zZ (tJ ?_ (by rw[zM];lia));have fT:s2.heap.objs.size<=h'.objs.size:=by rw[nF];exact zQ (kp' _ _ hq)
    have kp2:∀b o,s2.heap.get? b=some o->(h'.push (seqObj "list" aG.toList.toArray 0)).get? b=some o:=λb o e=>zX _ (kp' b o e);have hoD:(h'.push (seqObj "list" aG.toList.toArray 0)).get? h'.objs.size=some (seqObj "list" aG.toList.toArray 0):=zR _ rfl;have I4:Inv X pins σ H2 { s2 with heap:=h'.push (seqObj "list" aG.toList.toArray 0),toks:=tk }:=I3.kept (t':=tk) kp2;have oD:=m7 I3 fT;have FI:H2 h'.objs.size=none:=I3.hok.fresh fT;have hD1:H1 h'.objs.size=none:=by
     cases e:H1 h'.objs.size with
     |none=>rfl
     |some o =>
      have:h'.objs.size≠P:=λz=>by
       rw[z,hP]at FI;cases FI
      rw[sp _ _ this e]at FI;cases FI
    have oq:=m7 I2 hqz;have hR:Room (kk+1) X.A.in1.in1:=(hr.mono (j:=kk+1+1+1) (by lia)).in1.in1;have BK:∀(i:Nat)(v:Value),aG.toList[i]?=some v->∃t,v = .int (i:Int) t:=λi v hv=>by
     obtain⟨t,e⟩:=dB.2 i v (by rw[<-vW];exact hv);refine⟨t,?_⟩;rw[e]
     congr 1
     lia
    refine zZ (xS (wpAny_call_entry_kw sJ ⟨_,hoD,rfl⟩ tF ?body (ksk_l1 _ _)))
    case body =>
     show wpAny (model X.prog X.w) X.A.in1.in1 (Builtin.«list.sort» ⟨[.ref h'.objs.size],[(Str.ofString "key",.ref q')]⟩) _ _ _;rw[ksk_t1];refine Ys (Mo (kz:=kz) k I4 I4.ok.frames hR mS (kp2 _ _ hq) Ex oq mT (hb _ _) EZ qY he oD FI (zF (zQ (kp' _ _ hq))) BK λi H5 hi s5=>hkz i H5 (by lia) λb o hb e=>s5 b o (sp b o hb e)) (by lia) hoD λkS s5 p cc hz ⟨H5,I5,s25,d5,_,_,_,_,_⟩ hp hs5 hD5=>⟨_,rfl,?_⟩
     rw[hal]at hp;have rv:Vals (p.map λn=>V.int ((n:Nat):Int)) (p.map λi=>aG.toList.getD i Value.none):=by
      have aI:∀i∈p,i<aG.toList.length:=λi hi=>by rw[hal];exact yH.mp (hp.mem_iff.mp hi)
      clear hp hs5 hD5
      induction p with
      |nil=>exact .nil
      |cons i p ih =>
       refine .cons ?_ (ih λz hz=>aI z (zH _ hz));have hi:=aI i zG;obtain⟨t,e⟩:=BK i aG.toList[i] (zS hi);refine⟨t,?_⟩;show aG.toList.getD i Value.none=_;rw[yZ,zS hi];exact e
     have bL:p.length=j.toNat:=by rw[hp.length_eq,xY]
     have I6:=Inv.adopt (xs:=p.map λn=>V.int ((n:Nat):Int)) I5 oD d5 (by rw[zY,zM];lia) rv hD5;refine zV ⟨_,rfl,.ref h'.objs.size,_,I6,rfl,q p h'.objs.size _ hp hs5 (λb o hb e=>?_) ?_ hD1 zx⟩
     ·have e2:=s25 b o (sp b o hb e);rw[zh λz=>by rw[z,d5]at e2;cases e2];exact e2
     ·have e1:=s25 _ _ hP;have e2:=s25 _ _ mT;refine .inr ⟨c',?_,?_⟩
      ·rw[zh λz=>by rw[z,d5]at e1;cases e1];exact e1
      ·rw[zh λz=>by rw[z,d5]at e2;cases e2];exact e2
  |_=>exact(show False from q1).elim
 ·exact(show False from q1).elim
end
end
section
theorem Tx{Pr:Program}{w:World}{K:Frag}{mg mb:Str->Option Value}{k:Nat}{fa a c P:Addr}{fd:FuncData}{x:Str}{sp:Sp}{s₁:Shared}{vs:List Value}{ns:List Int}
  (KX:K.In s₁.heap) (qC:s₁.heap.Ns mainGlobals mg) (hb:s₁.heap.Ns builtinsNs mb) (hbb:∀x:Str,x≠"__name__"->mb x=bootBuiltins x) (hlim:s₁.heap.NoLimit) (hg:s₁.gens=#[])
  (ha:s₁.heap.get? a=some { cls:=.type "list",data:=.seq vs.toArray }) (hi:IntsAre vs ns) (hl:ns.length<=sizeLine) (hr:Room k callerA)
  (hC:CodeHd s₁.heap c P) (hP:s₁.heap.get? P=some (tabObj #[])) (hKP:K.lookup P=none) (hbm:∃bm ob,mg "__builtins__"=some (.ref bm)/\bm≠builtinsNs/\s₁.heap.get? bm=some ob/\ob.cls = .type "module"/\ob.dict=some builtinsNs/\ob.data = .plain)
  (F:∀base:Heap,K.In base->base.Ns mainGlobals mg->Ze base mg c P->FnOk Pr w K mg base CX0 k fa fd [x] sp) (FD:∀(s:Shared)(u:Value),BindsTo s fd ⟨[u],[]⟩ [(x,u)])
  (kT:∀H:Hp,H P=some (.tbl #[])->SqL K H a (ns.map V.int)->sp [.ref a] H (λv _=>v = .bl true) λ_ _ _=>False) :
  codeAny (model Pr w) callerA (.call (.ref fa) ⟨[.ref a],[]⟩) (λr s'=>r = .ok (.ret (.bool true))/\OldK s₁.heap s'.heap/\s'.os=s₁.os/\AllBare s'.gens) s₁:=by
 have rv:=io hi;have lenV:=hi.length;have haP:a≠P:=λz=>by rw[z,hP]at ha;cases ha
 have FU:∀H:Hp,H P=some (.tbl #[])->(∀b,b≠P->H b=none\/∃o xs,H b=some (.frz o (.lst xs)))->SqL K H a (ns.map V.int)->HOk Pr w H s₁.heap->(∀b,H b≠none->b=a\/b=P)->(H a≠none->K.lookup a=none) ->
   codeAny (model Pr w) callerA (.call (.ref fa) ⟨[.ref a],[]⟩) (λr s'=>r = .ok (.ret (.bool true))/\OldK s₁.heap s'.heap/\s'.os=s₁.os/\AllBare s'.gens) s₁:=by
  intro H hHP hO hS hok hA hK;have iM:∀{b:Addr}{o:Obj},s₁.heap.get? b=some o->H b=none->(jy s₁.heap H).get? b=some o:=λe n=>Pk e n;have Ad:∀{b:Addr}{o:Obj},s₁.heap.get? b=some o->(∀xs n,o.data≠.seq xs n)->o.cls≠.none->H b=none:=λ{b o} e d d2=>by
   cases q:H b with
   |none=>rfl
   |some u =>
    rcases hA b (by rw[q];simp)with e'|e'
    ·subst e';rw[ha]at e;cases e;exact absurd rfl (d _ _)
    ·subst e';rw[hP]at e;cases e;exact absurd rfl d2
  have nsK:∀{b:Addr}{m:Str->Option Value},s₁.heap.Ns b m->(jy s₁.heap H).Ns b m:=λ{b m} ⟨o,es,ep,e,d,r⟩=>⟨o,es,ep,iM e (by
   cases q:H b with
   |none=>rfl
   |some u =>
    rcases hA b (by rw[q];simp)with e'|e'
    ·subst e';rw[ha]at e;cases e;cases d
    ·subst e';rw[hP]at e;cases e;cases d),d,r⟩
  have hKb:K.In (jy s₁.heap H):=λb o e=>iM (KX b o e) (by
   cases q:H b with
   |none=>rfl
   |some u =>
    rcases hA b (by rw[q];simp)with e'|e'
    ·subst e';rw[hK (by rw[q];simp)]at e;cases e
    ·subst e';rw[hKP]at e;cases e)
  have hM:Mod K mg (jy s₁.heap H):=⟨hKb,nsK qC,⟨mb,nsK hb,hbb⟩,let⟨mc,h1,h2⟩:=hlim;⟨mc,nsK h1,h2⟩⟩
  have hL:Ze (jy s₁.heap H) mg c P:=by
   refine⟨?_,?_,?_⟩
   ·obtain⟨o,vs,file,tf,FK,tg,inF,text,tt,e1,r1,r2,r⟩:=hC;exact⟨o,vs,file,tf,FK,tg,inF,text,tt,iM e1 (Ad e1 (λxs n z=>by rw[r2]at z;cases z) (λz=>by rw[r1]at z;cases z)),r1,r2,r⟩
   ·obtain⟨bm,ob,h1,h2,h3,h4,h5,h6⟩:=hbm;exact⟨bm,ob,h1,h2,iM h3 (Ad h3 (λxs n z=>by rw[h6]at z;cases z) (λz=>by rw[h4]at z;cases z)),h4,h5,h6⟩
   ·cases q:(jy s₁.heap H).get? P with
    |none=>rfl
    |some o=>have:=(V8 q).2;rw[hHP]at this;cases this
  have e0:Env0 Pr w K mg (jy s₁.heap H) callerA [] s₁ H:=⟨rfl,hM,λb o e=>V8 e,vK (To _ _),trivial,λb hb=>absurd (show b∈([]:List Addr)from hb) (by simp),hok,.of_eq hg⟩
  refine uN ((F _ hKb (nsK qC) hL).run callerA [] s₁ H ⟨[.ref a],[]⟩ [.ref a] [.ref a] _ _ hr e0 (FD s₁ (.ref a)) (.cons rfl .nil) (kT H hHP hS)) λr s' h=>?_;cases r with
  |error e=>exact False.elim h
  |ok fl =>
   cases fl with
   |next=>exact False.elim h
   |brk=>exact False.elim h
   |cont=>exact False.elim h
   |ret u =>
    obtain⟨v,H',os,bare,un,EB,r',q⟩:=h;have q':v = .bl true:=q;subst q';obtain rfl:u=Value.bool true:=r';obtain⟨more,eP⟩:=un.tbls P _ hHP;have hP':s'.heap.get? P=some (tabObj (#[]++more)):=EB P _ eP;have keep:∀b o,b≠P->s₁.heap.get? b=some o->s'.heap.get? b=some o:=λb o hb e=>by
     rcases hO b hb with z|⟨ob,xs,z⟩
     ·exact un.keep b o e z (by intro z;exact absurd (show b∈([]:List Addr)from z) (by simp)) (by simp)
     ·have z2:=un.frzs b ob _ z;obtain⟨e1,_⟩:=hok b _ z;obtain⟨e2,_⟩:=EB b _ z2;rw[e]at e1;cases e1;exact e2
    refine⟨rfl,⟨λb o e=>?_,λb o e=>?_⟩,os,bare⟩
    ·by_cases hb:b=P
     ·subst hb;rw[hP]at e;cases e;exact .inr (.inl ⟨(hC.tab hP).isCodeTable,rfl,#[],more,rfl,hP'⟩)
     ·exact .inl (keep b o hb e)
    ·by_cases hb:b=P
     ·subst hb;exact⟨_,hP'⟩
     ·exact⟨o,keep b o hb e⟩
 cases hk:K.lookup a with
 |some o =>
  have e:=KX a o hk;rw[ha]at e;cases e;refine FU (λb=>if b=P then some (.tbl #[])else none) (yV rfl) (λb hb=>.inl (zC hb)) (.inr ⟨_,vs.toArray,_,hk,rfl,rfl,rfl,by rw[zL,lenV];exact hl,by simpa using rv⟩) (λb u z=>?_) (λb z=>?_) λz=>absurd (zC haP) z
  ·by_cases hb:b=P
   ·have z':=(yV hb).symm.trans z;cases z';subst hb;exact hP
   ·have z':=(zC hb).symm.trans z;cases z'
  ·by_cases hb:b=P
   ·exact .inr hb
   ·exact absurd (zC hb) z
 |none =>
  obtain⟨H,g1,g2,g3⟩:∃H:Hp,H P=some (.tbl #[])/\H a=some (.frz { cls:=.type "list",data:=.seq vs.toArray } (.lst (ns.map V.int)))/\∀b,b≠P->b≠a->H b=none :=
   ⟨λb=>if b=P then some (.tbl #[])else if b=a then some (.frz { cls:=.type "list",data:=.seq vs.toArray } (.lst (ns.map V.int)))else none,yV rfl,(zC haP).trans (yV rfl),λb z y=>(zC z).trans (zC y)⟩
  refine FU H g1 (λb hb=>?_) (.inl (.inr ⟨_,g2⟩)) (λb u z=>?_) (λb z=>?_) λ_=>hk
  ·by_cases Ai:b=a
   ·exact .inr ⟨_,_,Ai▸g2⟩
   ·exact .inl (g3 b hb Ai)
  ·by_cases hb:b=P
   ·subst hb;rw[g1]at z;cases z;exact hP
   ·by_cases Ai:b=a
    ·subst Ai;rw[g2]at z;cases z;exact⟨ha,by rw[zY];exact hl,vs,_,rv,ha⟩
    ·rw[g3 b hb Ai]at z;cases z
  ·by_cases hb:b=P
   ·exact .inr hb
   ·by_cases Ai:b=a
    ·exact .inl Ai
    ·exact absurd (g3 b hb Ai) z
theorem Sz{l:OpenLaw}{n k:Nat}{q:Program}{kR:List Str}{XP:(Str->Option Value)->Heap->Prop}{YP:World->Heap->Prop}{d d':DefRec}{K:Params->Frag}{sp:World->Addr->Sp}{x y:Str}
  (hn:l.most=some n) (CD:n<=sizeLine) (EX:d.params.defaults=[]) (hr:Room k callerA)
  (hY:∀(w:World)(h:Heap),YP w h->(K w.params).In h) (qP:(recsOf q).find? (λe=>e.name==y)=some d')
  (F:∀(w:World)(mg:Str->Option Value)(fa:Addr)(h:Heap),(K w.params).In h->h.Ns mainGlobals mg->mg d.name=some (.ref fa) ->
   ∃(fd:FuncData)(c P:Addr),(∀(s:Shared)(u:Value),BindsTo s fd ⟨[u],[]⟩ [(x,u)])/\tabIn (K w.params) y=some (c,P)/\(K w.params).lookup P=none /\
    ∀base:Heap,(K w.params).In base->base.Ns mainGlobals mg->Ze base mg c P->FnOk l.prog w (K w.params) mg base CX0 k fa fd [x] (sp w P))
  (kT:∀(w:World)(P:Addr)(H:Hp)(a:Addr)(ns:List Int),ns.length<=n->H P=some (.tbl #[])->SqL (K w.params) H a (ns.map V.int)->sp w P [.ref a] H (λv _=>v = .bl true) λ_ _ _=>False) :
  WalkO q kR XP YP l.row.toRowW d [] (λf vs=>PySem.call f vs):=by
 refine Att.attach_call hn EX λw s₀ s₁ mg mb fa o pm cd doc a vs ns G Y ho hd kH EM BW qW aH hg=>?_;have KX:=hY w _ Y;obtain⟨fd,c,P,hb,ht,hKP,hF⟩:=F w mg fa _ KX G.T.g EM;obtain⟨hC,hP⟩:=tab_of G.T KX qP ht;exact Tx KX G.T.g G.T.b G.T.builtins G.T.nolimit hg BW qW (yT aH CD) hr hC hP hKP G.T.bmain hF hb λH hH hS=>kT w P H a ns aH hH hS
end
section
section
variable {K:Frag}{P:Addr}{pos:Pos}{qual:Str}{H H' H2:Hp}{b:Addr}{o:HO}
theorem TabAt.ne(t:TabAt P pos qual H)(e:H b=some o)(h:∀ps,o≠.tbl ps):b≠P:=λz=>by
 rcases t with t|⟨_,t,_⟩<;>(rw[z,t]at e;exact h _ (yX e).symm)
theorem wk(s:Same H H'):SameP P H H':=λb o _ e=>s b o e
theorem SameP.trans(a:SameP P H H')(c:SameP P H' H2):SameP P H H2:=λb o n e=>c b o n (a b o n e)
theorem TabAt.same(t:TabAt P pos qual H)(s:Same H H'):TabAt P pos qual H':=by
 rcases t with t|⟨c,t,u⟩
 ·exact .inl (s _ _ t)
 ·exact .inr ⟨c,s _ _ t,s _ _ u⟩
theorem qx(t:TabAt P pos qual H)(s:SameP P H H')(e:H b=some o)(h:∀ps,o≠.tbl ps:=by intro _ z;cases z):H' b=some o:=s b o (t.ne e h) e
theorem xt(t:TabAt P pos qual H)(s:SameP P H H'):Tups H H':=⟨λb xs e=>qx t s e,λb o u e=>qx t s e⟩
end
structure DefL(K:Frag)(mg:Str->Option Value)(x:Str)(st:Stmt)(ps:List Str)(c:Addr):Prop where
 ex:∃(f:Addr)(oc:Value)(od:Option Addr)(kV doc pm:Value)(an:Option Addr)(ct:Value)(osl:Array (Option Value)),K.lookup f=some ⟨oc,od,.func (fnOf x x (yt st) (zc st) (zr st) .none kV doc pm an (.ref c) ct),osl⟩/\codeIn K (.ref c) x=true/\keepIn K (.ref f)=true/\mg x=some (.ref f) /\
  ∀us:List Value,us.length=ps.length->bindArgs (fnOf x x (yt st) (zc st) (zr st) .none kV doc pm an (.ref c) ct) ⟨us,[]⟩=pure (ps.zip us)
theorem DefL.callee{P:Program}{w:World}{K:Frag}{mg:Str->Option Value}{base:Heap}{x:Str}{st:Stmt}{N ps:List Str}{k:Nat}{sp:Sp}{c:Addr}(F:DefL K mg x st ps c)(S:vo N ps (zr st))(len:∀vs H Q E,sp vs H Q E->vs.length=ps.length)
  (bI:∀(f:Addr)(A:Around)(outer:List Env)(s:Shared)(H:Hp)(vs:List V)(Q:VK)(E:XK),Room k (A.deeper (envOfC x (zr st) s.heap.objs.size f (.ref c)))->N.Nodup->sp vs H Q E ->
   ∃σ t,u9 N vs=σ/\PSs (o4 CX0 P w K mg base N x (zr st) f (.ref c) A outer s H E).nox (zc st) t/\t { nx:=λ_ H'=>Q .non H',rt:=Q } σ H):zy P w K mg base (k+1) x ps sp:=by
 obtain⟨f,oc,od,kV,doc,pm,an,ct,osl,lk,kH,kp,hm,hb⟩:=F.ex;refine⟨f,_,Vs lk kH S len λA outer s H vs Q E hr kT=>?_,.all hb,kp,hm⟩;obtain⟨σ,t,e,h,q⟩:=bI f A outer s H vs Q E hr S.nd kT;exact⟨t,h.nox,by rw[e];exact q⟩
theorem Mh{K:Frag}{mg:Str->Option Value}{h:Heap}{x:Str}{st:Stmt}{ps:List Str}{f c:Addr}{oc:Value}{od an:Option Addr}{osl:Array (Option Value)}{kV doc pm cdv ct:Value}(X:K.In h)(G:h.Ns mainGlobals mg)
  (a:nsIn K mainGlobals x=some (some (.ref f))) (l:K.lookup f=some ⟨oc,od,.func (fnOf x x (yt st) (zc st) (zr st) .none kV doc pm an cdv ct),osl⟩)
  (cc:codeIn K cdv x=true) (k:keepIn K (.ref f)=true) (hc:cdv = .ref c)
  (hb:∀(kV doc pm:Value)(an:Option Addr)(cdv ct:Value)(us:List Value),us.length=ps.length->bindArgs (fnOf x x (yt st) (zc st) (zr st) .none kV doc pm an cdv ct) ⟨us,[]⟩=pure (ps.zip us)):DefL K mg x st ps c:=by
 subst hc;exact⟨f,oc,od,kV,doc,pm,an,ct,osl,l,cc,k,mg_of X G a,hb kV doc pm an _ ct⟩
def Jq(st:Stmt):Pos:=match zc st with
 |[.Return (some (.Call _ [.Call _ _ [⟨_,.Lambda _ _ _ p,_⟩] _] _ _)) _]=>p
 |_=>⟨0,0,0,0⟩
end
section
structure DefN(K:Frag)(C:Addr)(qual:Str)(st:Stmt)(ps:List Str)(ds:List Value):Prop where
 ex:∃(f:Addr)(oc:Value)(od:Option Addr)(dV kV doc pm:Value)(an:Option Addr)(cdv ct:Value)(osl:Array (Option Value)),K.lookup f=some ⟨oc,od,.func (fnOf "__init__" qual (yt st) (zc st) (zr st) dV kV doc pm an cdv ct),osl⟩/\codeIn K cdv qual=true/\Mk K C f /\
  Binds K (fnOf "__init__" qual (yt st) (zc st) (zr st) dV kV doc pm an cdv ct) ps []/\Binds K (fnOf "__init__" qual (yt st) (zc st) (zr st) dV kV doc pm an cdv ct) ps ds
structure rz(P:Program)(w:World)(K:Frag)(mg:Str->Option Value)(base:Heap)(k:Nat)(C:Addr)(ps:List Str)(ds:List Value)(sp:Sp):Prop where
 ex:∃(f:Addr)(fd:FuncData),FnOk P w K mg base CX0 k f fd ps sp/\Binds K fd ps []/\Binds K fd ps ds/\Mk K C f
theorem DefN.callee{P:Program}{w:World}{K:Frag}{mg:Str->Option Value}{base:Heap}{C:Addr}{qual:Str}{st:Stmt}{N ps:List Str}{ds:List Value}{k:Nat}{sp:Sp}(F:DefN K C qual st ps ds)(S:vo N ps (zr st))(len:∀vs H Q E,sp vs H Q E->vs.length=ps.length)
  (bI:∀(f:Addr)(cdv:Value)(A:Around)(outer:List Env)(s:Shared)(H:Hp)(vs:List V)(Q:VK)(E:XK),Room k (A.deeper (envOfC qual (zr st) s.heap.objs.size f cdv))->N.Nodup->sp vs H Q E ->
   ∃σ t,u9 N vs=σ/\PSs (o4 CX0 P w K mg base N qual (zr st) f cdv A outer s H E).nox (zc st) t/\t { nx:=λ_ H'=>Q .non H',rt:=Q } σ H):rz P w K mg base (k+1) C ps ds sp:=by
 obtain⟨f,oc,od,dV,kV,doc,pm,an,cdv,ct,osl,lk,kH,M,b0,b1⟩:=F.ex;refine⟨f,_,Vs lk kH S len λA outer s H vs Q E hr kT=>?_,b0,b1,M⟩;obtain⟨σ,t,e,h,q⟩:=bI f cdv A outer s H vs Q E hr S.nd kT;exact⟨t,h.nox,by rw[e];exact q⟩
section
variable {X:Cx}{C:Addr}{x:Str}{k k':Nat}{ps:List Str}{ds:List Value}{kY:List V}{sp:Sp}{t:TA}{e:Expr}{es:List Expr}{p pos:Pos}
theorem V5(C':rz X.prog X.w X.K X.mg X.base k C ps ds sp)(hr:Room k' X.A)(hk:k+1<=k')(hm:X.mg x=some (.ref C))(ha:PA X (e::es) t)(hg:Gl X x:=by rfl)
  (pK:(x==("__debug__":Str))=false:=by decide) (he:starEach (e::es) X.env=(false,eval e X.env)::starEach es X.env:=by rfl) (bL:(backTo pos (starEach es X.env)).any (·.1)=false:=by rfl) :
  PE X (.Call (.Name x p) (e::es) [] pos) (So C sp [] E0 t):=by
 obtain⟨f,fd,F,b,_,M⟩:=C'.ex;exact Ny M F (hr.mono hk) hg hm b .nil Q5 ha pK he bL
end
theorem Vo{K:Frag}{C:Addr}{qual:Str}{st:Stmt}{ps:List Str}{ds:List Value}{f:Addr}{oc dV:Value}{od an:Option Addr}{osl:Array (Option Value)}{kV doc pm cdv ct:Value}
  (a:findIn K (.ref C) "__init__"=some (some (.ref f))) (l:K.lookup f=some ⟨oc,od,.func (fnOf "__init__" qual (yt st) (zc st) (zr st) dV kV doc pm an cdv ct),osl⟩)
  (c:codeIn K cdv qual=true) (fn:isFn K (.ref f)=true) (mk:makesIn K C=true) (kp:keepIn K (.ref C)=true)
  (b0:Binds K (fnOf "__init__" qual (yt st) (zc st) (zr st) dV kV doc pm an cdv ct) ps []) (b1:Binds K (fnOf "__init__" qual (yt st) (zc st) (zr st) dV kV doc pm an cdv ct) ps ds):DefN K C qual st ps ds :=
 ⟨f,oc,od,dV,kV,doc,pm,an,cdv,ct,osl,l,c,⟨mk,a,fn,kp⟩,b0,b1⟩
end
section
def iLt(a b:Int×Int):Bool:=if a.1=b.1 then decide (a.2<b.2)else decide (a.1<b.1)
theorem iLt_iff{a b:Int×Int}:iLt a b=true↔a.1<b.1\/a.1=b.1/\a.2<b.2:=by
 unfold iLt;split
 ·rw[decide_eq_true_iff];lia
 ·rw[decide_eq_true_iff];lia
def Fh:KeyOrd where
 α:=Int×Int
 blt:=iLt
 irrefl:=λa=>by
  cases h:iLt a a with
  |false=>rfl
  |true=>have:=iLt_iff.mp h;lia
 trans:=λa b c h1 h2=>iLt_iff.mpr (by have:=iLt_iff.mp h1;have:=iLt_iff.mp h2;lia)
 negTrans:=λa b c h=>by
  have:=iLt_iff.mp h
  by_cases h2:iLt a b=true
  ·exact .inl h2
  ·refine .inr (iLt_iff.mpr ?_);have h3:=mt iLt_iff.mpr h2;lia
 total:=λa b h1 h2=>by
  have h3:=mt iLt_iff.mpr (by rw[h1];decide);have h4:=mt iLt_iff.mpr (by rw[h2];decide);exact Prod.ext (by lia) (by lia)
def fh(h:Heap)(a:Addr)(k:Int×Int):Prop:=∃o t u n,h.get? a=some o/\o.cls = .type "tuple"/\o.data = .seq #[.int k.1 t,.int k.2 u] n
section
variable {prog:Program}{w:World}{A:Around}{E:Value->Shared->Prop}{s:Shared}
theorem P6{x y:Addr}{kx ky:Int×Int}{C:Bool->Shared->Prop}(hx:fh s.heap x kx)(hy:fh s.heap y ky)(h:C (iLt kx ky) s):wpAny (model prog w) A (keyLt' (tuples' true) (.ref x) (.ref y)) C E s:=by
 obtain⟨ox,tx,vx,nx,e1,_,d1⟩:=hx;obtain⟨oy,ty,vy,ny,e2,_,d2⟩:=hy;refine kat_lt e1 d1 e2 d2 ?_;refine kat_cons (tD _ _ _ _ _ _ _ _ ?_);unfold iLt at h
 by_cases e:kx.1=ky.1
 ·rw[yV e]at h;have e3:(kx.1==ky.1)=true:=by simpa using e
  rw[e3];refine kat_yes (kat_cons (tD _ _ _ _ _ _ _ _ ?_))
  by_cases e4:kx.2=ky.2
  ·have e5:(kx.2==ky.2)=true:=by simpa using e4
   rw[e5];refine kat_yes (kat_nil ?_);have:decide (kx.2<ky.2)=false:=yO (by lia);rw[this]at h;exact h
  ·have e5:(kx.2==ky.2)=false:=by simpa using e4
   rw[e5];exact kat_no (kat_one _ _ (lt_int h))
 ·rw[zC e]at h;have e3:(kx.1==ky.1)=false:=by simpa using e
  rw[e3];exact kat_no (V9 h)
theorem p8:∀(R:List (Addr×(Int×Int))),(∀r∈R,fh s.heap r.1 r.2)->∃fs:List Value,KatTups s.heap (R.map λr=>Value.ref r.1) fs/\fs.length=R.length/\∀v∈fs,∃b t,v = .int b t
 |[],_=>⟨[],.nil,rfl,λv hv=>by simp at hv⟩
 |r::R,h=>by
  obtain⟨fs,h1,h2,h3⟩:=p8 R λq hq=>h q (zH _ hq);obtain⟨o,t,u,n,ho,hc,hd⟩:=h r zG;refine⟨.int r.2.1 t::fs,KatTups.cons ho hc hd rfl h1,by simp[h2],λv hv=>?_⟩;rcases zI.mp hv with rfl|hv
  ·exact⟨_,_,rfl⟩
  ·exact h3 v hv
theorem Yt{D:Addr}{R:List (Addr×(Int×Int))}{n0:Nat}{P:PySem.Fin->Shared->Prop}(ho:s.heap.get? D=some (seqObj "list" (R.map λr=>Value.ref r.1).toArray n0))(hR:∀r∈R,fh s.heap r.1 r.2)(mD:R.length<64)
  (h:∀(R':List (Addr×(Int×Int)))(h':Heap)(e:Nat),R'.Perm R->(R'.map (·.2)).Pairwise (λa b=>iLt b a=false)->(∀b o,b≠D->s.heap.get? b=some o->h'.get? b=some o)->h'.get? D=some (seqObj "list" (R'.map λr=>Value.ref r.1).toArray e)->P (.done (.ret .none)) { s with heap:=h' }) :
  wpAny (model prog w) A (Builtin.«list.sort» ⟨[.ref D],[]⟩) P E s:=by
 have hl:(R.map λr=>Value.ref r.1).length=R.length:=zY _;have tup:∀{h':Heap},(∀b o,b≠D->s.heap.get? b=some o->h'.get? b=some o)->∀r∈R,fh h' r.1 r.2:=λ{h'} k r hr=>by
  obtain⟨o,t,u,n,e,hc,hd⟩:=hR r hr;refine⟨o,t,u,n,k _ _ (λz=>?_) e,hc,hd⟩;rw[z]at e;have:=xK Obj.cls (yX (e.symm.trans ho));rw[hc]at this;simp at this
 refine uk (O:=Fh) ho (by rw[hl];exact mD) (λi=>(R.getD i (0,(0,0))).2) (tuples' true) (λh2 s1 Q' E' k q=>?_) (λs1 i j C E' k hi hj q=>?_) λp h' e ha hu k eD=>?_
 ·obtain⟨fs,h1,fU,h3⟩:=p8 (s:=s1) R (tup k);refine kat_kind (T:=.type "int") h1 (by rw[fU];rw[hl]at h2;lia) (λv hv=>?_) rfl q;obtain⟨b,t,rfl⟩:=h3 v hv;exact Looks.of_pure rfl
 ·rw[hl]at hi hj;have e1:(R.map λr=>Value.ref r.1).getD i Value.none = .ref (R.getD i (0,(0,0))).1:=by simp[hi]
  have e2:(R.map λr=>Value.ref r.1).getD j Value.none = .ref (R.getD j (0,(0,0))).1:=by simp[hj]
  have m1:R.getD i (0,(0,0))∈R:=by simp[hi]
  have m2:R.getD j (0,(0,0))∈R:=by simp[hj]
  rw[e1,e2];exact P6 (tup k _ m1) (tup k _ m2) q
 ·rw[hl]at ha hu;have hp:(p.toList.map λi=>R.getD i (0,(0,0))).Perm R:=by
   have h1:=ha.pm.map λi=>R.getD i (0,(0,0));have h2:(List.range R.length).map (λi=>R.getD i (0,(0,0)))=R:=by
    apply vH
    ·simp
    ·intro i a1 a2;simp[a2]
   rw[h2]at h1;exact h1
  refine h (p.toList.map λi=>R.getD i (0,(0,0))) h' e hp ?_ k ?_
  ·rw[yF,yE];intro i j hi hj iU;have bT:i<p.size:=by simpa using hi
   have qD:j<p.size:=by simpa using hj
   have:=hu i j (xW iU) (by rw[<-ha.size];exact qD);have g1:p.getD i 0=p[i]:=by simp[Array.getD,bT]
   have g2:p.getD j 0=p[j]:=by simp[Array.getD,qD]
   unfold Srt.K at this;rw[g1,g2]at this;have h9:iLt (R.getD p[j] (0,(0,0))).2 (R.getD p[i] (0,(0,0))).2=false:=this;simpa using h9
  ·rw[eD,yF]
   congr 3
   apply tP;intro i hi;have bT:i<R.length:=yH.mp (ha.pm.mem_iff.mp hi);simp[bT]
end
def Oo(K:Frag)(H:Hp)(R:List (Addr×(Int×Int))):Prop:=∀r∈R,SqT K H r.1 [.int r.2.1,.int r.2.2]
section
variable {X:Cx}
theorem Q4{pins:List (Addr×Obj)}{σ:St}{H:Hp}{s:Shared}(I:Inv X pins σ H s){a:Addr}{m n:Int}(h:SqT X.K H a [.int m,.int n]):fh s.heap a (m,n):=by
 obtain⟨aD,rv,⟨o,e,hc,k,d⟩,_⟩:=I.tuple h;obtain⟨u1,u2,rfl,r1,r2⟩:=br rv;obtain⟨t,rfl⟩:=(show∃t,u1=Value.int m t from r1)
 obtain⟨t',rfl⟩:=(show∃t,u2=Value.int n t from r2)
 exact⟨o,t,t',k,e,hc,d⟩
def Gk(K:Frag):List V->Hp->VK->Prop:=λxs H Q=>∃(p:Addr)(R:List (Addr×(Int×Int))),xs=[.ref p]/\SqL K H p (R.map λt=>V.ref t.1)/\Oo K H R/\R.length<64/\∀R':List (Addr×(Int×Int)),R'.Perm R->(R'.map (·.2)).Pairwise (λa b=>iLt b a=false)->New H (.lst (R'.map λt=>V.ref t.1)) Q
theorem Jw:ww X (.builtin "sorted") (Gk X.K):=by
 intro pins s σ H xs us Q I r h;obtain⟨p,R,rfl,hq,hP,hz,q⟩:=h;obtain⟨u,rfl,rx⟩:=wc r;cases rx;obtain⟨aD,rv,pl,_⟩:=I.list hq;have A8:aD=(R.map (·.1)).map Value.ref:=ph (by rw[yF];exact rv);subst A8;have evs:(R.map (·.1)).map Value.ref=R.map λr=>Value.ref r.1:=by rw[yF];rfl
 rw[evs]at pl;generalize BK:(R.map λr=>Value.ref r.1)=vs at pl;have hl:vs.length=R.length:=by rw[<-BK,zY]
 refine call_function_entry kind_sorted plain_sorted entry_sorted (args_sorted1 _) ?_;unfold Builtin.«sorted»;refine zZ (m:=checkCount "sorted" 1 1 _) (zV ?_);refine zZ (collect_list pl.isList ?_ (by rw[zM];lia));refine zZ (tJ ?_ (by rw[zM];lia));have hsz:((s.heap.push (seqObj "list" #[] 0)).update s.heap.objs.size (Obj.mapSeq (·++vs.toArray))).objs.size=s.heap.objs.size+1:=by
  rw[tR,size_push']
 have EF:(((s.heap.push (seqObj "list" #[] 0)).update s.heap.objs.size (Obj.mapSeq (·++vs.toArray))).push (seqObj "list" vs.toArray 0)).get? (s.heap.objs.size+1)=some (seqObj "list" vs.toArray 0):=by
  rw[<-hsz];exact zR _ rfl
 have keep:∀b o,s.heap.get? b=some o->(((s.heap.push (seqObj "list" #[] 0)).update s.heap.objs.size (Obj.mapSeq (·++vs.toArray))).push (seqObj "list" vs.toArray 0)).get? b=some o:=λb o q=>by
  have aI:b<s.heap.objs.size:=zQ q;rw[Heap.get?_push_ne _ _ _ (by rw[hsz];exact zF (xI aI)),Heap.get?_update_ne _ _ _ _ (zF aI),Heap.get?_push_ne _ _ _ (zF aI)];exact q
 show wpAny _ _ _ _ _ { s with heap:=((s.heap.push (seqObj "list" #[] 0)).update s.heap.objs.size (Obj.mapSeq (·++vs.toArray))).push (seqObj "list" vs.toArray 0) };rw[hsz];generalize((s.heap.push (seqObj "list" #[] 0)).update s.heap.objs.size (Obj.mapSeq (·++vs.toArray))).push (seqObj "list" vs.toArray 0)=h2 at EF keep ⊢;refine zZ (xS (xV sJ ⟨_,EF,rfl⟩ tF ?_ (args_list_sort _)));refine Yt (R:=R) (s:={ s with heap:=h2 }) (by rw[BK];exact EF) (λr hr=>?_) hz λR' h' e pm hs k eD=>?_
 ·obtain⟨o,t,u,n,e,r⟩:=Q4 I (hP r hr);exact⟨o,t,u,n,keep _ _ e,r⟩
 have hn:H (s.heap.objs.size+1)=none:=I.hok.fresh (vQ _);refine⟨_,rfl,zV ⟨_,rfl,.ref (s.heap.objs.size+1),upd H (s.heap.objs.size+1) (.lst (R'.map λt=>V.ref t.1)),?_,rfl,(q R' pm hs).at _ hn⟩⟩;refine I.laid (t':=s.toks) (λb o eb=>k b o (zF (xI (zQ eb))) (keep b o eb)) (vQ _) ⟨?_,R'.map (λt=>Value.ref t.1),e,?_,?_⟩
 ·rw[zY,pm.length_eq,zM];lia
 ·have:=sj (R'.map (·.1));rw[yF,yF]at this;exact this
 ·exact eD
def Fc(K:Frag):V->List V->Hp->VK->Prop:=λx vs H Q=>∃(l:Addr)(ns:List Int)(k:Int),x = .ref l/\vs=[.int k]/\SqL K H l (ns.map V.int)/\k∈ns/\ns.length<=1000/\Q (.int (ns.idxOf k:Nat)) H
theorem ms:∀{ns:List Int}{aD:List Value},Vals (ns.map V.int) aD->IntsAre aD ns
 |[],_,r=>by cases r;exact .nil
 |n::ns,_,r=>by
  cases r with
  |cons r1 r2 =>
   obtain⟨t,rfl⟩:=r1;exact .cons n t (ms r2)
theorem Gp:MtR X "list.index" (Fc X.K):=λpins s σ H x xs v us Q I rx rs h=>by
 obtain⟨l,ns,k,rfl,rfl,hq,hk,hz,q⟩:=h;cases rx;obtain⟨u,rfl,ru⟩:=wc rs;obtain⟨t,rfl⟩:=(show∃t,u=Value.int k t from ru)
 obtain⟨aD,rv,pl,_⟩:=I.list hq;have hi:=ms rv;obtain⟨⟨cls,dd,data,sl⟩,ho,hc,n,hd⟩:=pl.isList;simp only at hc hd;subst hc hd;have aH:=hi.length;have hj:ns.idxOf k<ns.length:=List.idxOf_lt_length_iff.mpr hk;refine sD F.slot_list_index ⟨_,ho,rfl⟩ F.entry_list_index (F.args_list_index_2 _ _)
  (SeqAt.list_indexAt l aD.toArray n dd sl (.int k t) (isInt k) (ns.idxOf k) (by simpa[aH]using hj) (by lia) ?_ ?_) ⟨ho,λy hy=>(eq_isInt k t hi y (by simpa using hy)).at _ _,⟨.int _,H,I.tok _,⟨_,rfl⟩,q⟩⟩
 ·show isInt k aD[ns.idxOf k]=true;rw[isInt_at k hi _ (by lia) hj];simpa using List.getElem_idxOf hj
 ·intro j hjs aI;show isInt k aD[j]=false;rw[isInt_at k hi j (by simpa using hjs) (by lia)];exact ne_of_lt_idxOf aI _
end
end
section
section
variable {X:Cx}
end
theorem Og{P l:Addr}{pos:Pos}{qual:Str}{H H':Hp}(s:SameP P H H')(t:TabAt P pos qual H')(n:H' l=none):H l=none:=by
 cases z:H l with
 |none=>rfl
 |some u =>
  by_cases e:l=P
  ·subst e;rcases t with t|⟨_,t,_⟩<;>rw[t]at n<;>cases n
  ·have:=s l u e z;rw[n]at this;cases this
end
end My
namespace My
section
open PySem PySem.StrLaws PySem.Builtin PySem.Builtin.Str
def jl(y:List Nat):List (List Nat)->List Nat
 |[]=>[]
 |[p]=>p
 |p::q::r=>p++y++jl y (q::r)
theorem my(y:Str):∀ps:List Str,(Str.join y ps).cps.toList=jl y.cps.toList (ps.map λp=>p.cps.toList)
 |[]=>rfl
 |[p]=>rfl
 |p::q::r=>by
  have ih:=my y (q::r);show(p++y++Str.join y (q::r)).cps.toList=_;rw[sI,sI,vL,vL,ih]
  rfl
theorem Vg{x y:Str}{c k:Nat}{ys:List Nat}(hy:y.cps.toList=c::ys)(h:At x y x.length k):x.cps.toList[k]?=some c:=by
 have h2:=h.2;rw[subAt_eq]at h2;have h3:=eq_of_beq h2;rw[hy]at h3;have hl:y.length=ys.length+1:=by
  have:y.cps.toList.length=ys.length+1:=by rw[hy];rfl
  simpa[Str.length]using this
 rw[hl]at h3;have h4:((x.cps.toList.drop k).take (ys.length+1))[0]?=some c:=by rw[h3];rfl
 rw[uW (sH _),List.getElem?_drop]at h4;exact h4
theorem F1{x y:Str}{a:Nat}{p r:List Nat}(h:x.cps.toList.drop a=p++y.cps.toList++r)(ha:a<=x.length):At x y x.length (a+p.length):=by
 have hn:x.cps.toList.length=x.length:=by simp[Str.length]
 have hy:y.cps.toList.length=y.length:=by simp[Str.length]
 have hl:=xK List.length h;rw[wR,zP,zP,hn,hy]at hl;refine⟨by lia,?_⟩;rw[subAt_eq,<-List.drop_drop,h,wM,List.drop_left,<-hy,List.take_left];exact uQ _
theorem k7(x y:Str)(c:Nat)(ys:List Nat)(hy:y.cps.toList=c::ys):∀(ps:List Str)(p:Str)(pO:List Nat)(a f:Nat),ChainG x y x.length a pO f->(∀k,f<=k->¬At x y x.length k)->a<=x.length ->
  x.cps.toList.drop a=jl y.cps.toList ((p::ps).map λp=>p.cps.toList)->(∀q∈p::ps,c∉q.cps.toList)->partsFrom x y.length a pO=p::ps
 |[],p,pO,a,f,hG,hn,ha,hd,hf=>by
  have oQ:x.cps.toList.drop a=p.cps.toList:=hd;have eQ:∀k,a<=k->¬At x y x.length k:=λk hk hA=>by
   have h1:=Vg hy hA;have h2:(x.cps.toList.drop a)[k-a]?=some c:=by rw[List.getElem?_drop];rw[show a+(k-a)=k by lia];exact h1
   rw[oQ]at h2;exact hf p zG (zN h2)
  cases pO with
  |nil =>
   show[strSub x a x.length]=[p]
   congr 1
   apply Str.ext';apply wC.mp;rw[strSub_toList,oQ];have hn:x.cps.toList.length=x.length:=by simp[Str.length]
   have hl:=xK List.length oQ;rw[wR,hn]at hl;exact wY (by lia)
  |cons d r=>exact absurd hG.2.1 (eQ d hG.1)
 |q::ps,p,pO,a,f,hG,hn,ha,hd,hf=>by
  have oQ:x.cps.toList.drop a=p.cps.toList++y.cps.toList++jl y.cps.toList ((q::ps).map λp=>p.cps.toList):=hd;have hA:=F1 oQ ha;have bL:p.cps.toList.length=p.length:=by simp[Str.length]
  rw[bL]at hA;have eQ:∀k,a<=k->k<a+p.length->¬At x y x.length k:=λk hk CK hA=>by
   have h1:=Vg hy hA;have h2:(x.cps.toList.drop a)[k-a]?=some c:=by rw[List.getElem?_drop];rw[show a+(k-a)=k by lia];exact h1
   rw[oQ,wM,yK (by rw[bL];lia)]at h2;exact hf p zG (zN h2)
  cases pO with
  |nil =>
   have e:f=a:=hG;exact absurd hA (hn _ (by lia))
  |cons d r =>
   obtain⟨g1,g2,g3,g4⟩:=hG;have e:d=a+p.length:=by
    rcases Nat.lt_trichotomy d (a+p.length)with h|h|h
    ·exact absurd g2 (eQ d g1 h)
    ·exact h
    ·exact absurd hA (g3 _ (by lia) h)
   subst e;show strSub x a (a+p.length)::partsFrom x y.length (a+p.length+y.length) r=p::q::ps;have e1:strSub x a (a+p.length)=p:=by
    apply Str.ext';apply wC.mp;rw[strSub_toList,oQ,Nat.add_sub_cancel_left,wM,<-bL,List.take_left]
   have fQ:y.cps.toList.length=y.length:=by simp[Str.length]
   have e2:x.cps.toList.drop (a+p.length+y.length)=jl y.cps.toList ((q::ps).map λp=>p.cps.toList):=by
    rw[Nat.add_assoc,<-List.drop_drop,oQ,<-bL,<-fQ,<-zP,List.drop_left]
   rw[e1,k7 x y c ys hy ps q r _ f g4 hn (by have:=g2.1;lia) e2 λz hz=>hf z (zH _ hz)]
theorem Pq(x:Str):1<=Builtin.Str.strKind x:=by
 unfold Builtin.Str.strKind;split
 ·exact zU _
 ·split<;>decide
theorem md(y:Str)(c:Nat)(ys:List Nat)(hy:y.cps.toList=c::ys)(hk:Builtin.Str.strKind y=1)(p:Str)(ps:List Str)(hf:∀q∈p::ps,c∉q.cps.toList):Txt.split (Txt.join y (p::ps)) y=p::ps:=by
 have hj:Txt.join y (p::ps)=Str.join y (p::ps):=glued_eq_join y (p::ps);rw[hj];have fQ:1<=y.length:=by
  have:y.cps.toList.length=ys.length+1:=by rw[hy];rfl
  have:y.length=ys.length+1:=by simpa[Str.length]using this
  lia
 have hJ:=my y (p::ps);obtain⟨f,hG,hn⟩:=occ_tight (Str.join y (p::ps)) y fQ;have key:=k7 (Str.join y (p::ps)) y c ys hy ps p _ 0 f hG hn (yR _) (by rw[List.drop_zero];exact hJ) hf;unfold Txt.split;have one:ps=[]->Str.join y (p::ps)=p:=λe=>by rw[e];rfl
 split
 ·rename_i hc;rw[Bool.or_eq_true,decide_eq_true_eq,decide_eq_true_eq]at hc;rcases hc with h|h
  ·cases ps with
   |nil=>rw[one rfl]
   |cons q r =>
    exfalso;have hl:=xK List.length hJ;have e1:(Str.join y (p::q::r)).cps.toList.length=(Str.join y (p::q::r)).length:=by simp[Str.length]
    have e2:y.cps.toList.length=y.length:=by simp[Str.length]
    rw[e1]at hl;simp only[List.map_cons,jl,zP,e2]at hl;lia
  ·have:=Pq (Str.join y (p::ps));lia
 ·split
  ·rename_i h1 h2;rw[List.isEmpty_iff]at h2;rw[h2]at key;refine Eq.trans ?_ key;show[_]=[strSub _ 0 _]
   rw[sub_whole]
  ·rw[partsBetween_eq];exact key
theorem Xm{y:List Nat}{c:Nat}:∀{ps:List (List Nat)},c∈jl y ps->c∈y\/∃p∈ps,c∈p
 |[],h=>by cases h
 |[p],h=>.inr ⟨p,zO.mpr rfl,h⟩
 |p::q::r,h=>by
  have h':c∈p++y++jl y (q::r):=h;rcases zK.mp h' with h|h
  ·rcases zK.mp h with h|h
   ·exact .inr ⟨p,zG,h⟩
   ·exact .inl h
  ·rcases Xm h with h|⟨p',hp,h⟩
   ·exact .inl h
   ·exact .inr ⟨p',zH _ hp,h⟩
theorem gd{y:Str}{c:Nat}{ps:List Str}(hy:c∉y.cps.toList)(hp:∀p∈ps,c∉p.cps.toList):c∉(Txt.join y ps).cps.toList:=λh=>by
 rw[show Txt.join y ps=Str.join y ps from glued_eq_join y ps,my]at h;rcases Xm h with h|⟨p,iB,h⟩
 ·exact hy h
 ·obtain⟨q,hq,rfl⟩:=zD.mp iB;exact hp q hq h
theorem yx{x y:Str}{c:Nat}(hx:c∉x.cps.toList)(hy:c∉y.cps.toList):c∉(x++y).cps.toList:=by
 rw[sI,vL,zK];exact λh=>h.elim hx hy
end
end My
namespace My
open PySem PySem.Spec PySem.W PySem.Calls L2
open PyProof.Rows hiding St
section
section
variable {X:Cx}
def Lw:List V->Hp->VK->Prop:=λxs H Q=>match xs with
 |[.int i]=>i.natAbs.log2<1920/\Q (.str (toString i)) H
 |_=>False
theorem K6{i:Int}{H:Hp}{Q:VK}:Lw [.int i] H Q=(i.natAbs.log2<1920/\Q (.str (toString i)) H):=rfl
theorem dk:ww X (.type "str") Lw:=by
 intro pins s σ H xs us Q I r h
 match xs,h with
 |[.int i],h=>exact ck pins s σ H _ us Q I r ⟨i,rfl,h.1,h.2⟩
theorem W7{prog:Program}{w:World}{A:Around}{E:Value->Shared->Prop}{s:Shared}{x y:Str}{t u:Tok}{Q:Value->Shared->Prop}(hy:(y.length==0)=false)(hsz:x.length<=sizeLine)(nB:(Txt.split x y).length<=sizeLine)
  (hq:∀(l:List (Str×Tok)) k,l.map (·.1)=Txt.split x y->Q (.ref s.heap.objs.size) { s with heap:=s.heap.push { cls:=.type "list",data:=.seq (strValues l).toArray },toks:=k }) :
  wpAny (model prog w) A (call (.builtin "str.split") [.str x t,.str y u]) Q E s:=by
 cases h1:(decide (x.length<y.length)||decide (Builtin.Str.strKind x<Builtin.Str.strKind y))
 ·cases hf:(Builtin.Str.occurrences x y 0 x.length (x.length+1)).isEmpty
  ·have e:Txt.split x y=Builtin.Str.partsBetween x (Builtin.Str.occurrences x y 0 x.length (x.length+1)) y.length:=(zC (ne_true_of_eq_false h1)).trans (zC (ne_true_of_eq_false hf));rw[e]at nB;refine sD F.slot_str_split (tV _ _ _) F.entry_str_split (F.args_str_split_2 _ _) (meets_str_split_sep x y t u h1 hy hf hsz nB) ?_;show wants Q E _ { s with toks:=_,heap:=s.heap.push { cls:=.type "list",data:=.seq (strsFrom s.toks (Builtin.Str.partsBetween x (Builtin.Str.occurrences x y 0 x.length (x.length+1)) y.length)).toArray } };rw[strsFrom_eq];exact hq (numbered s.toks _) _ ((numbered_texts _ _).trans e.symm)
  ·exact sD F.slot_str_split (tV _ _ _) F.entry_str_split (F.args_str_split_2 _ _) (meets_str_split_not_found x y t u h1 hy hf)
    (hq [(x,t)] _ ((zC (ne_true_of_eq_false h1)).trans (yV hf)).symm)
 ·exact sD F.slot_str_split (tV _ _ _) F.entry_str_split (F.args_str_split_2 _ _) (meets_str_split_cannot_occur x y t u h1)
   (hq [(x,t)] _ (yV h1).symm)
theorem bt:∀(l:List (Str×Tok)),Vals ((l.map (·.1)).map V.str) (strValues l)
 |[]=>.nil
 |p::l=>.cons ⟨p.2,rfl⟩ (bt l)
def Io(to:TE)(t:TA):TE:=fun σ H Q=>to σ H (oi λx H1=>t σ H1 (on1 (oi λy H2=>(y.length==0)=false/\x.length<=sizeLine/\(Txt.split x y).length<=1000/\∀(D:Addr)(H3:Hp),H2 D=none->Same H2 H3->H3 D=some (.lst ((Txt.split x y).map V.str))->Q (.ref D) H3)))
theorem V6{o e:Expr}{to:TE}{t:TA}{apos cpos:Pos}(ho:PE X o to)(ha:PA X [e] t)
  (fF:attributeBase o "split" X.env (eval o X.env)=eval o X.env:=by rfl)
  (nL:((backTo cpos (starEach [e] X.env)).all (λx=>!x.1)&&(backToKw cpos (keywordEach [] X.env)).all (λx=>x.1.isSome)
  &&decide ([e].length+([]:List Keyword).length+(if([]:List Keyword).isEmpty then 0 else 1)<30))=true:=by rfl)
  (fD:(apos.endLine==cpos.line)=true:=by rfl) (hs:starEach [e] X.env=[(false,eval e X.env)]:=by rfl) :
  PE X (.Call (.Attribute o "split" apos) [e] [] cpos) (Io to t):=by
 intro pins s σ H Q I h;refine uP fF nL fD rfl (thn (ho pins s σ H _ I h) λv s1 ⟨x,H1,I1,r1,q1⟩=>?_);cases x with
 |str x =>
  obtain⟨t1,rfl⟩:=r1;refine⟨"str","str.split",sR,F.slot_str_split,F.type_str_split,tV _ _ _,(λ_ e=>nomatch e),?_⟩;have hA:=ha cpos pins s1 σ H1 _ I1 q1;rw[hs]at hA ⊢;refine uO rfl (tY ?_);refine thn hA λus s2 ⟨vs,H2,I2,r2,q2⟩=>?_;rcases vs with _|⟨y,_|⟨z,rr⟩⟩
  ·exact(show False from q2).elim
  ·cases y with
   |str y =>
    obtain⟨hy,hsz,nB,q⟩:=(show(y.length==0)=false/\x.length<=sizeLine/\(Txt.split x y).length<=1000/\∀(D:Addr)(H3:Hp),H2 D=none->Same H2 H3->H3 D=some (.lst ((Txt.split x y).map V.str))->Q (.ref D) H3 from q2)
    obtain⟨u,rfl,ru⟩:=wc r2;obtain⟨t2,rfl⟩:=ru;have fr:H2 s2.heap.objs.size=none:=I2.hok.fresh (zU _);refine W7 hy hsz (xW (vn nB)) λl k e=>?_;refine⟨.ref s2.heap.objs.size,upd H2 s2.heap.objs.size (.lst ((Txt.split x y).map V.str)),?_,rfl,q _ _ fr (w8 fr _) zx⟩;refine I2.laid (λb o e1=>zX _ e1) (zU _) ⟨?_,strValues l,0,?_,?_⟩
    ·rw[zY];exact xW (vn nB)
    ·rw[<-e];exact bt l
    ·exact zR _ rfl
   |_=>exact(show False from q2).elim
  ·exact(show False from q2).elim
 |_=>exact(show False from q1).elim
def Ip(to:TE)(t:TA):TE:=fun σ H Q=>to σ H (oi λx H1=>t σ H1 (on1 (oi λy H2=>Q (.bl (Txt.startswith x y)) H2)))
theorem Z5{o e:Expr}{to:TE}{t:TA}{apos cpos:Pos}(ho:PE X o to)(ha:PA X [e] t)
  (fF:attributeBase o "startswith" X.env (eval o X.env)=eval o X.env:=by rfl)
  (nL:((backTo cpos (starEach [e] X.env)).all (λx=>!x.1)&&(backToKw cpos (keywordEach [] X.env)).all (λx=>x.1.isSome)
  &&decide ([e].length+([]:List Keyword).length+(if([]:List Keyword).isEmpty then 0 else 1)<30))=true:=by rfl)
  (fD:(apos.endLine==cpos.line)=true:=by rfl) (hs:starEach [e] X.env=[(false,eval e X.env)]:=by rfl) :
  PE X (.Call (.Attribute o "startswith" apos) [e] [] cpos) (Ip to t):=by
 intro pins s σ H Q I h;refine uP fF nL fD rfl (thn (ho pins s σ H _ I h) λv s1 ⟨x,H1,I1,r1,q1⟩=>?_);cases x with
 |str x =>
  obtain⟨t1,rfl⟩:=r1;refine⟨"str","str.startswith",sR,F.slot_str_startswith,F.type_str_startswith,tV _ _ _,(λ_ e=>nomatch e),?_⟩;have hA:=ha cpos pins s1 σ H1 _ I1 q1;rw[hs]at hA ⊢;refine uO rfl (tY ?_);refine thn hA λus s2 ⟨vs,H2,I2,r2,q2⟩=>?_;rcases vs with _|⟨y,_|⟨z,rr⟩⟩
  ·exact(show False from q2).elim
  ·cases y with
   |str y =>
    have q:Q (.bl (Txt.startswith x y)) H2:=q2;obtain⟨u,rfl,ru⟩:=wc r2;obtain⟨t2,rfl⟩:=ru;exact SC.startswith ⟨.bl _,H2,I2,rfl,q⟩
   |_=>exact(show False from q2).elim
  ·exact(show False from q2).elim
 |_=>exact(show False from q1).elim
end
theorem mf(x y:Str):Txt.startswith (x++y) x=true:=by
 unfold Txt.startswith;have hl:(x++y).length=x.length+y.length:=za x y;rw[yJ];refine⟨yU (by rw[hl];lia),?_⟩;rw[StrLaws.subAt_eq,List.drop_zero,sI,vL];have hx:x.cps.toList.length=x.length:=by simp[Str.length]
 rw[<-hx,List.take_left];exact uQ _
theorem gx(x y:Str)(i:Int)(hi:i=x.length):Txt.slice (x++y) (some i) none=y:=by
 have hl:(x++y).length=x.length+y.length:=za x y;rw[slice_from_eq (by lia) (by rw[hl];lia) rfl];apply Str.ext';apply wC.mp;have hx:x.cps.toList.length=x.length:=by simp[Str.length]
 have hy:y.cps.toList.length=y.length:=by simp[Str.length]
 have e1:i.toNat=x.cps.toList.length:=by lia
 show List.take _ _=_;rw[sI,vL,e1,List.drop_left];exact wY (by rw[hy,hl];lia)
end
section
def sqC:Bool->String
 |true=>"tuple"
 |false=>"list"
def itC:Bool->String
 |true=>"tuple_iterator"
 |false=>"list_iterator"
def IsSq:Bool->Heap->Addr->Array Value->Prop
 |true,h,a,xs=>h.IsTuple a xs
 |false,h,a,xs=>h.IsList a xs
def IsSqIt(b:Bool)(h:Heap)(i l:Addr)(k:Nat):Prop:=∃o,h.get? i=some o/\o.cls = .type (itC b)/\o.data = .fields #[.ref l,.int k 0]
def SqK:Bool->W.Frag->Hp->Addr->List V->Prop
 |true,K,H,a,xs=>SqT K H a xs
 |false,K,H,a,xs=>SqL K H a xs
def Y4(b:Bool)(a:Addr):Obj:={ cls:=.type (itC b),data:=.fields #[.ref a,.int 0 0] }
theorem IsSqIt.at{b:Bool}{h h':Heap}{a l:Addr}{i:Nat}(x:IsSqIt b h a l i)(e:∀o,h.get? a=some o->h'.get? a=some o):IsSqIt b h' a l i:=let⟨o,ho,r⟩:=x;⟨o,e _ ho,r⟩
theorem IsSq.obj:∀{b:Bool}{h:Heap}{a:Addr}{xs:Array Value},IsSq b h a xs->∃o,h.get? a=some o/\o.cls = .type (sqC b)
 |true,_,_,_,⟨o,e,c,_⟩=>⟨o,e,c⟩
 |false,_,_,_,⟨o,e,c,_⟩=>⟨o,e,c⟩
theorem IsSq.up:∀{b:Bool}{h h':Heap}{a:Addr}{xs:Array Value},IsSq b h a xs->(∀o,h.get? a=some o->h'.get? a=some o)->IsSq b h' a xs
 |true,_,_,_,_,⟨o,e,c⟩,k=>⟨o,k o e,c⟩
 |false,_,_,_,_,⟨o,e,c⟩,k=>⟨o,k o e,c⟩
theorem vg:∀b b':Bool,sqC b≠itC b'
 |true,true=>by decide
 |true,false=>by decide
 |false,true=>by decide
 |false,false=>by decide
theorem pf:∀b:Bool,sqC b≠"zip"
 |true=>by decide
 |false=>by decide
theorem vk:∀b:Bool,itC b≠"zip"
 |true=>by decide
 |false=>by decide
theorem wx:∀b:Bool,itC b≠"tuple"
 |true=>by decide
 |false=>by decide
theorem pq{prog:Program}{w:World}{A:Around}(hh:A.handled=none)(it t:Addr)(aZ:t≠it)(items:Array Value):∀b:Bool,Draws prog w A it [it,t] items.size (λi v=>items[i]?=some v) (λi h=>IsSqIt b h it t i/\IsSq b h t items)
 |true=>o5 hh it t aZ items
 |false=>Draws.list hh it t aZ items
section
variable {X:Cx}{pins:List (Addr×Obj)}{σ:L2.St}{H:Hp}{s:Shared}
theorem uj(I:Inv X pins σ H s):∀{b:Bool}{a:Addr}{xs:List V},SqK b X.K H a xs->∃aD,Vals xs aD/\IsSq b s.heap a aD.toArray
 |true,a,xs,h=>by
  obtain⟨aD,rv,p,_⟩:=I.tuple h;exact⟨aD,rv,p⟩
 |false,a,xs,h=>by
  obtain⟨aD,rv,p,_⟩:=I.list h;exact⟨aD,rv,p.isList⟩
theorem qp(I:Inv X pins σ H s):∀{b:Bool}{a:Addr}{xs ys:List V},SqK b X.K H a xs->SqK b X.K H a ys->xs=ys
 |true,_,_,_,h,h'=>I.tuple_inj h h'
 |false,_,_,_,h,h'=>I.list_inj h h'
end
theorem vw{prog:Program}{w:World}{A:Around}{E:Value->Shared->Prop}{s:Shared}{l:Addr}{items:Array Value}{Q:Value->Shared->Prop}:∀{b:Bool},IsSq b s.heap l items->Q (.ref s.heap.objs.size) { s with heap:=s.heap.push (Y4 b l) }->wpAny (model prog w) A (pyIter (.ref l)) Q E s
 |true,h,q=>vU h q
 |false,h,q=>uA h q
def zk1(p:Bool)(h:Heap)(a:Addr):Heap:=h.push (Y4 p a)
def zk2(p q:Bool)(h:Heap)(a b:Addr):Heap:=(zk1 p h a).push (Y4 q b)
def zk3(p q r:Bool)(h:Heap)(a b c:Addr):Heap:=(zk2 p q h a b).push (Y4 r c)
def zk4(p q r:Bool)(h:Heap)(a b c:Addr):Heap:=(zk3 p q r h a b c).push { cls:=.type "tuple",data:=.seq #[.ref h.objs.size,.ref (zk1 p h a).objs.size,.ref (zk2 p q h a b).objs.size] }
def zk5(p q r:Bool)(h:Heap)(a b c:Addr):Heap:=(zk4 p q r h a b c).push { cls:=.type "tuple",data:=.seq #[.none,.none,.none] }
def zk6(p q r:Bool)(h:Heap)(a b c:Addr):Heap:=(zk5 p q r h a b c).push { cls:=.type "zip",data:=.fields #[.none,.bool false,.bool false,.ref (zk3 p q r h a b c).objs.size,.ref (zk4 p q r h a b c).objs.size] }
theorem Vb(p q r:Bool)(a b c:Addr)(xs ys zs:Array Value):Meets (Builtin.«zip.__new__» ⟨[.type "zip",.ref a,.ref b,.ref c],[]⟩) (λ_ R s=>IsSq p s.heap a xs/\IsSq q s.heap b ys/\IsSq r s.heap c zs /\
  R (.ok (.ret (.ref (zk5 p q r s.heap a b c).objs.size))) { s with heap:=zk6 p q r s.heap a b c }) :=
 .of_wp λprog w A R s h=>by
  obtain⟨hp,g,d,tk,os⟩:=s;obtain⟨ha,hb,hc,h⟩:=h;have iQ:=sub_zip;have hA:IsSq p (Shared.heap ⟨hp,g,d,tk,os⟩) a xs:=ha;have hB:IsSq q (Shared.heap ⟨hp.push (Y4 p a),g,d,tk,os⟩) b ys:=hb.up λo ho=>zX _ ho;have hC:IsSq r (Shared.heap ⟨(hp.push (Y4 p a)).push (Y4 q b),g,d,tk,os⟩) c zs:=hc.up λo ho=>zX _ (zX _ ho)
  wp_walk using vw hA,vw hB,vw hC
  exact⟨_,rfl,h⟩
section
variable {prog:Program}{w:World}{A:Around}{E:Value->Shared->Prop}{s:Shared}
theorem W8{p q r:Bool}{a b c:Addr}{xs ys zs:Array Value}{Q:Value->Shared->Prop}(ha:IsSq p s.heap a xs)(hb:IsSq q s.heap b ys)(hc:IsSq r s.heap c zs)
  (h:∀h',IsZip h' (s.heap.objs.size+5) (s.heap.objs.size+3) (s.heap.objs.size+4) .none->xx h' (s.heap.objs.size+3) (.ref s.heap.objs.size) (.ref (s.heap.objs.size+1)) (.ref (s.heap.objs.size+2))->xx h' (s.heap.objs.size+4) .none .none .none ->
   IsSqIt p h' s.heap.objs.size a 0->IsSqIt q h' (s.heap.objs.size+1) b 0->IsSqIt r h' (s.heap.objs.size+2) c 0->(∀c o,s.heap.get? c=some o->h'.get? c=some o)->Q (.ref (s.heap.objs.size+5)) { s with heap:=h' }):wpAny (model prog w) A (call (.type "zip") [.ref a,.ref b,.ref c]) Q E s:=by
 refine callType_new F.called_zip (by decide) (mo _ _ _) (i8 _ _ _) (λobj=>qo obj _ _ _) F.entry_zip_new (Vb p q r a b c xs ys zs) ⟨ha,hb,hc,?_⟩;have y1:(zk1 p s.heap a).objs.size=s.heap.objs.size+1:=xX ..;have y2:(zk2 p q s.heap a b).objs.size=s.heap.objs.size+2:=by unfold zk2;rw[xX,y1]
 have y3:(zk3 p q r s.heap a b c).objs.size=s.heap.objs.size+3:=by unfold zk3;rw[xX,y2]
 have y4:(zk4 p q r s.heap a b c).objs.size=s.heap.objs.size+4:=by unfold zk4;rw[xX,y3]
 have y5:(zk5 p q r s.heap a b c).objs.size=s.heap.objs.size+5:=by unfold zk5;rw[xX,y4]
 have p6:(zk6 p q r s.heap a b c).get? (zk5 p q r s.heap a b c).objs.size=some _:=zR _ rfl;have p5:(zk6 p q r s.heap a b c).get? (zk4 p q r s.heap a b c).objs.size=some _:=zX _ (zR _ rfl);have k4:∀d o,(zk4 p q r s.heap a b c).get? d=some o->(zk6 p q r s.heap a b c).get? d=some o:=λd o e=>zX _ (zX _ e);have p4:(zk6 p q r s.heap a b c).get? (zk3 p q r s.heap a b c).objs.size=some _:=k4 _ _ (zR _ rfl);have p3:(zk6 p q r s.heap a b c).get? (zk2 p q s.heap a b).objs.size=some _:=k4 _ _ (zX _ (zR _ rfl));have p2:(zk6 p q r s.heap a b c).get? (zk1 p s.heap a).objs.size=some _:=k4 _ _ (zX _ (zX _ (zR _ rfl)));have p1:(zk6 p q r s.heap a b c).get? s.heap.objs.size=some _:=k4 _ _ (zX _ (zX _ (zX _ (zR _ rfl))));show _/\_;rw[y3,y4,y5]at p6;rw[y1,y2,y3]at p4;rw[y4]at p5;rw[y2]at p3;rw[y1]at p2;rw[y5];exact⟨⟨_,p6,rfl⟩,h _ p6 p4 p5 ⟨_,p1,rfl,rfl⟩ ⟨_,p2,rfl,rfl⟩ ⟨_,p3,rfl,rfl⟩ λd o x=>k4 _ _ (zX _ (zX _ (zX _ (zX _ x))))⟩
end
def ZkSt(p q r:Bool)(z tI tO i1 i2 i3 l1 l2 l3:Addr)(i:Nat)(h:Heap):Prop:=IsZip h z tI tO .none/\xx h tI (.ref i1) (.ref i2) (.ref i3)/\(∃u v v3,xx h tO u v v3)/\IsSqIt p h i1 l1 i/\IsSqIt q h i2 l2 i/\IsSqIt r h i3 l3 i
theorem ZkSt.lt{p q r:Bool}{z tI tO i1 i2 i3 l1 l2 l3:Addr}{i:Nat}{h:Heap}(st:ZkSt p q r z tI tO i1 i2 i3 l1 l2 l3 i h):∀b∈[z,tI,tO,i1,i2,i3],b<h.objs.size:=λb hb=>by
 obtain⟨hz,hI,⟨u,v,v3,hO⟩,⟨oa,ea,_⟩,⟨ob,eb,_⟩,⟨oc,ec,_⟩⟩:=st;simp only[zI,vG,or_false]at hb;rcases hb with rfl|rfl|rfl|rfl|rfl|rfl
 ·exact zQ hz
 ·exact zQ hI
 ·exact zQ hO
 ·exact zQ ea
 ·exact zQ eb
 ·exact zQ ec
theorem xi{a b:String}(h:a≠b):(Value.type a:Value)≠.type b:=λe=>h (Value.type.inj e)
theorem bw{p q r:Bool}{h:Heap}{z tI tO i1 i2 i3 l1 l2 l3:Addr}{i:Nat}{xs ys zs:Array Value}(t:tI≠tO)(Ed:i1≠i2)(Ec:i1≠i3)(Eb:i2≠i3)(l1o:l1≠tO)(l2o:l2≠tO)(l3o:l3≠tO)(st:ZkSt p q r z tI tO i1 i2 i3 l1 l2 l3 i h)(h1:IsSq p h l1 xs)(h2:IsSq q h l2 ys)(h3:IsSq r h l3 zs):ZA3 z tI tO i1 i2 i3 [i1,l1] [i2,l2] [i3,l3]:=by
 obtain⟨hz,hI,⟨u,v,v3,hO⟩,⟨oa,ea,ca,_⟩,⟨ob,eb,cb,_⟩,⟨oc,ec,cc,_⟩⟩:=st;obtain⟨o1,e1,c1⟩:=h1.obj;obtain⟨o2,e2,c2⟩:=h2.obj;obtain⟨o3,e3,c3⟩:=h3.obj;have gE:h.get? z=some _:=hz;have Bk:h.get? tI=some _:=hI;have pM:h.get? tO=some _:=hO;refine⟨zb Bk gE (by simp),zb pM gE (by simp),zb ea gE (by rw[ca];exact xi (vk p)),zb eb gE (by rw[cb];exact xi (vk q)),zb ec gE (by rw[cc];exact xi (vk r)),t,(zb ea Bk (by rw[ca];exact xi (wx p))).symm,(zb eb Bk (by rw[cb];exact xi (wx q))).symm,(zb ec Bk (by rw[cc];exact xi (wx r))).symm,(zb ea pM (by rw[ca];exact xi (wx p))).symm,(zb eb pM (by rw[cb];exact xi (wx q))).symm,(zb ec pM (by rw[cc];exact xi (wx r))).symm,λb hb=>?_,λb hb=>?_,λb hb=>?_⟩
 ·rcases zI.mp hb with rfl|hb
  ·exact⟨zb ea gE (by rw[ca];exact xi (vk p)),zb ea pM (by rw[ca];exact xi (wx p)),Ed,Ec⟩
  ·rw[zO.mp hb];exact⟨zb e1 gE (by rw[c1];exact xi (pf p)),l1o,zb e1 eb (by rw[c1,cb];exact xi (vg p q)),zb e1 ec (by rw[c1,cc];exact xi (vg p r))⟩
 ·rcases zI.mp hb with rfl|hb
  ·exact⟨zb eb gE (by rw[cb];exact xi (vk q)),zb eb pM (by rw[cb];exact xi (wx q)),Ed.symm,Eb⟩
  ·rw[zO.mp hb];exact⟨zb e2 gE (by rw[c2];exact xi (pf q)),l2o,zb e2 ea (by rw[c2,ca];exact xi (vg q p)),zb e2 ec (by rw[c2,cc];exact xi (vg q r))⟩
 ·rcases zI.mp hb with rfl|hb
  ·exact⟨zb ec gE (by rw[cc];exact xi (vk r)),zb ec pM (by rw[cc];exact xi (wx r)),Ec.symm,Eb.symm⟩
  ·rw[zO.mp hb];exact⟨zb e3 gE (by rw[c3];exact xi (pf r)),l3o,zb e3 ea (by rw[c3,ca];exact xi (vg r p)),zb e3 eb (by rw[c3,cb];exact xi (vg r q))⟩
theorem cv{b:Bool}{h:Heap}{i l:Addr}{k:Nat}{xs:Array Value}(hp:IsSq b h l xs)(ha:IsSqIt b h i l k):l≠i:=by
 obtain⟨o1,e1,c1⟩:=hp.obj;obtain⟨o2,e2,c2,_⟩:=ha;exact zb e1 e2 (by rw[c1,c2];exact xi (vg b b))
def S5(K:W.Frag)(p q r:Bool)(a b c:Addr):It :=
 ⟨λi H=>∃xs ys zs x y z,SqK p K H a xs/\SqK q K H b ys/\SqK r K H c zs/\xs[i]?=some x/\ys[i]?=some y/\zs[i]?=some z,λi H v H'=>∃d x y z,v = .ref d/\H d=none/\H'=upd H d (.tup [x,y,z])/\(∀xs,SqK p K H a xs->xs[i]?=some x)/\(∀ys,SqK q K H b ys->ys[i]?=some y)/\∀zs,SqK r K H c zs->zs[i]?=some z,λi H=>∃xs ys zs,SqK p K H a xs/\SqK q K H b ys/\SqK r K H c zs/\xs.length=i/\ys.length=i/\zs.length=i⟩
theorem Za{P:Program}{w:World}{K:W.Frag}{iW:List Expr}{k:Nat}{pos:Pos}(p q r:Bool)(l1 l2 l3 z tI tO i1 i2 i3:Addr)(t:tI≠tO)(Ed:i1≠i2)(Ec:i1≠i3)(Eb:i2≠i3)(l1o:l1≠tO)(l2o:l2≠tO)(l3o:l3≠tO):
  Zh P w K (.Tuple iW k pos) (S5 K p q r l1 l2 l3) [z,tI,tO,i1,i2,i3] z (ZkSt p q r z tI tO i1 i2 i3 l1 l2 l3)where
 mem:=by simp
 obj:=λi h st b hb=>by
  obtain⟨hz,hI,⟨u,v,v3,hO⟩,⟨oa,ea,ca,da⟩,⟨ob,eb,cb,db⟩,⟨oc,ec,cc,dc⟩⟩:=st;simp only[zI,vG,or_false]at hb;rcases hb with rfl|rfl|rfl|rfl|rfl|rfl
  ·exact⟨_,hz,λv z=>by cases(show Data.fields _=Data.cell v from z)⟩
  ·exact⟨_,hI,λv z=>by cases(show Data.seq _ _=Data.cell v from z)⟩
  ·exact⟨_,hO,λv z=>by cases(show Data.seq _ _=Data.cell v from z)⟩
  ·exact⟨oa,ea,λv z=>by rw[da]at z;cases z⟩
  ·exact⟨ob,eb,λv z=>by rw[db]at z;cases z⟩
  ·exact⟨oc,ec,λv z=>by rw[dc]at z;cases z⟩
 keep:=λi h h' st kk=>by
  obtain⟨hz,hI,⟨u,v,v3,hO⟩,ha,hb,hc⟩:=st;exact⟨kk z (by simp) _ hz,kk tI (by simp) _ hI,⟨u,v,v3,kk tO (by simp) _ hO⟩,ha.at λo e=>kk i1 (by simp) o e,hb.at λo e=>kk i2 (by simp) o e,hc.at λo e=>kk i3 (by simp) o e⟩
 item:=by
  intro X hP hw hK hc i pins s σ H E I hf st hg;subst hP hw hK;obtain⟨xs,ys,zs,x,y,y3,nF,pG,CA,hx,hy,Ar⟩:=hg;obtain⟨aD,rv,mP⟩:=uj I nF;obtain⟨AV,lG,iK⟩:=uj I pG;obtain⟨DU,rw3,hp3⟩:=uj I CA;obtain⟨u,hu,ru⟩:=rv.get hx;obtain⟨v,hv,rv'⟩:=lG.get hy;obtain⟨v3,hv3,rv3⟩:=rw3.get Ar;have ap:=bw t Ed Ec Eb l1o l2o l3o st mP iK hp3;have fB:=st;obtain⟨hz,hI,⟨u0,v0,w0,hO⟩,ha,hb,hc3⟩:=st;have oO:i<aD.toArray.size:=by simpa using(zW.mp hu).1
  have kL:i<AV.toArray.size:=by simpa using(zW.mp hv).1
  have ER:i<DU.toArray.size:=by simpa using(zW.mp hv3).1
  refine bv ap (pq (A:=X.A.in1) (I.ok.hd hc) i1 l1 (cv mP ha) aD.toArray p) (pq (A:=X.A.in1) (I.ok.hd hc) i2 l2 (cv iK hb) AV.toArray q) (pq (A:=X.A.in1) (I.ok.hd hc) i3 l3 (cv hp3 hc3) DU.toArray r) hz hI hO ⟨ha,mP⟩ ⟨hb,iK⟩ ⟨hc3,hp3⟩ oO kL ER λx' y' z' h1 tk lU BJ gE a1 a2 a3 a4 a4' a5 hk=>?_;have ex:x'=u:=by
   have h2:aD.toArray[i]?=some u:=by simpa using hu
   exact yX (lU.symm.trans h2)
  have ey:y'=v:=by
   have h2:AV.toArray[i]?=some v:=by simpa using hv
   exact yX (BJ.symm.trans h2)
  have ez:z'=v3:=by
   have h2:DU.toArray[i]?=some v3:=by simpa using hv3
   exact yX (gE.symm.trans h2)
  subst ex ey ez;refine⟨_,rfl,wpAny_letOwnedTupleGo_zip (s:={ s with heap:=h1,toks:=tk }) a1 λh2 b1 fS=>?_⟩;have fr:H s.heap.objs.size=none:=I.hok.fresh (zU _);have I1:Inv X pins σ (upd H s.heap.objs.size (.tup [x,y,y3])) { s with heap:=s.heap.push { cls:=.type "tuple",data:=.seq #[x',y',z'] },toks:=tk } :=
   I.laid (λb o e1=>zX _ e1) (zU _) ⟨by simp only[yL,wW];rw[zM];decide,[x',y',z'],.cons ru (.cons rv' (.cons rv3 .nil)),⟨_,zR _ rfl,rfl,_,rfl⟩⟩
  have lt5:=ZkSt.lt fB;have Bd:∀b∈[z,tI,tO,i1,i2,i3],pi X pins (upd H s.heap.objs.size (.tup [x,y,y3])) b:=λb bU=>⟨by rw[zh (zF (lt5 b bU))];exact(hf b bU).1,(hf b bU).2⟩
  have I2:Inv X pins σ (upd H s.heap.objs.size (.tup [x,y,y3])) { s with heap:=h2,toks:=tk }:=sx (s:={ s with heap:=s.heap.push { cls:=.type "tuple",data:=.seq #[x',y',z'] },toks:=tk }) [z,tI,tO,i1,i2,i3] I1 Bd λb o bU e1=>by
   have n1:b≠z:=λq=>bU (by simp[q]);have n2:b≠tO:=λq=>bU (by simp[q]);have n3:b≠i1:=λq=>bU (by simp[q]);have n4:b≠i2:=λq=>bU (by simp[q]);have n5:b≠i3:=λq=>bU (by simp[q]);refine(fS.2 b n1).trans ?_;rcases Heap.get?_push_cases e1 with⟨rfl,rfl⟩|e1
   ·exact a5
   ·exact hk b o n1 n2 n3 n4 n5 e1
  refine⟨.ref s.heap.objs.size,upd H s.heap.objs.size (.tup [x,y,y3]),I2,rfl,⟨_,x,y,y3,rfl,fr,rfl,λAO pF=>by rw[qp I pF nF];exact hx,λAO pF=>by rw[qp I pF pG];exact hy,λAO pF=>by rw[qp I pF CA];exact Ar⟩,⟨b1,?_,⟨x',y',z',?_⟩,a3.1.at λo e1=>(fS.2 i1 ap.az).trans e1,a4.1.at λo e1=>(fS.2 i2 ap.bz).trans e1,a4'.1.at λo e1=>(fS.2 i3 ap.cz).trans e1⟩,λb bU=>(Bd b bU).1⟩
  ·exact(fS.2 tI ap.tz).trans (hk tI _ ap.tz ap.to ap.ta ap.tb ap.tc hI)
  ·exact(fS.2 tO ap.oz).trans a2
 done:=by
  intro X hP hw hK hc i pins s σ H E I hf st hg;subst hP hw hK;obtain⟨xs,ys,zs,nF,pG,CA,hx,hy,Ar⟩:=hg;obtain⟨aD,rv,mP⟩:=uj I nF;obtain⟨AV,lG,p'⟩:=uj I pG;obtain⟨DU,rw3,p3⟩:=uj I CA;have ap:=bw t Ed Ec Eb l1o l2o l3o st mP p' p3;obtain⟨hz,hI,⟨u0,v0,w0,hO⟩,ha,hb,hc3⟩:=st;have hs:aD.toArray.size=i:=by rw[zL,<-rv.length];exact hx
  refine Zd ap (pq (A:=X.A.in1) (I.ok.hd hc) i1 l1 (cv mP ha) aD.toArray p) hz hI ⟨by rw[hs];exact ha,mP⟩ λh1 hk=>⟨rfl,sx (t':=s.toks) [z,tI,tO,i1,i2,i3] I hf λb o bU e1=>hk b o (λq=>bU (by simp[q])) (λq=>bU (by simp[q])) e1⟩
 self:=λ_ _ _ _ _ st h=>sE st.1 h
section
variable {X:Cx}
def G4(K:W.Frag)(p q r:Bool)(R:It->Hp->Prop):List V->Hp->Prop:=λvs H=>match vs with
 |[.ref a,.ref b,.ref c]=>((∃xs,SqK p K H a xs)/\(∃ys,SqK q K H b ys)/\∃zs,SqK r K H c zs)/\R (S5 K p q r a b c) H
 |_=>False
theorem Np{K:W.Frag}{p q r:Bool}{R:It->Hp->Prop}{a b c:Addr}{H:Hp}:G4 K p q r R [.ref a,.ref b,.ref c] H=(((∃xs,SqK p K H a xs)/\(∃ys,SqK q K H b ys)/\∃zs,SqK r K H c zs)/\R (S5 K p q r a b c) H):=rfl
def iZK(K:W.Frag)(p q r:Bool)(ta:TA):TI:=fun σ H R=>ta σ H (G4 K p q r R)
theorem V7(p q r:Bool){iW:List Expr}{kk:Nat}{pt:Pos}{a b c:Expr}{ta:TA}{p0 pos:Pos}(hg:Gl X "zip")(hm:X.mg "zip"=none)(ha:PA X [a,b,c] ta)(hs:starEach [a,b,c] X.env=[(false,eval a X.env),(false,eval b X.env),(false,eval c X.env)]:=by rfl)
  (fS:starEach [b,c] X.env=[(false,eval b X.env),(false,eval c X.env)]:=by rfl):PI X (.Tuple iW kk pt) (.Call (.Name "zip" p0) [a,b,c] [] pos) (iZK X.K p q r ta):=by
 intro pins s σ H R I h;refine Call_ (wg I hg hm O4 (xU (thn (ha pos pins s σ H _ I h) λus s1 ⟨vs,H1,I1,r1,q1⟩=>?_) (by rw[hs,fS]) (by rw[fS];rfl)))
 match vs,q1 with
 |[.ref a,.ref b,.ref c],q1 =>
  obtain⟨⟨⟨xs,nF⟩,⟨ys,pG⟩,⟨zs,CA⟩⟩,qq⟩:=(show((∃xs,SqK p X.K H1 a xs)/\(∃ys,SqK q X.K H1 b ys)/\∃zs,SqK r X.K H1 c zs)/\R (S5 X.K p q r a b c) H1 from q1)
  cases r1 with
  |cons ru r2 =>
  cases r2 with
  |cons lG r3 =>
  cases r3 with
  |cons rx r4 =>
  cases r4;cases ru;cases lG;cases rx;obtain⟨aD,rv,p1⟩:=uj I1 nF;obtain⟨AV,rv2,p2⟩:=uj I1 pG;obtain⟨DU,rv3,p3⟩:=uj I1 CA;have la:a<s1.heap.objs.size:=by obtain⟨o,e,_⟩:=p1.obj;exact zQ e
  have lb:b<s1.heap.objs.size:=by obtain⟨o,e,_⟩:=p2.obj;exact zQ e
  have lc:c<s1.heap.objs.size:=by obtain⟨o,e,_⟩:=p3.obj;exact zQ e
  refine W8 p1 p2 p3 λh' hz hI hO ha hb hc hk=>?_;refine sE (s:={ s1 with heap:=h' }) hz ?_;have I2:Inv X pins σ H1 { s1 with heap:=h' }:=I1.kept (t':=s1.toks) hk;refine⟨_,[s1.heap.objs.size+5,s1.heap.objs.size+3,s1.heap.objs.size+4,s1.heap.objs.size,s1.heap.objs.size+1,s1.heap.objs.size+2],_,_,H1,rfl,I2,Za p q r a b c _ _ _ _ _ _ (λq=>absurd (Nat.add_left_cancel q) (by decide)) (zF (yB _)) (zF (Nat.lt_add_of_pos_right (by decide))) (λq=>absurd (Nat.add_left_cancel q) (by decide)) (zF (zA la (wP _ _))) (zF (zA lb (wP _ _))) (zF (zA lc (wP _ _))),⟨hz,hI,⟨_,_,_,hO⟩,ha,hb,hc⟩,λd hd=>?_,qq⟩;have mC:s1.heap.objs.size<=d:=by
   simp only[zI,vG,or_false]at hd;rcases hd with rfl|rfl|rfl|rfl|rfl|rfl
   ·exact wP _ _
   ·exact wP _ _
   ·exact wP _ _
   ·exact zU _
   ·exact wP _ _
   ·exact wP _ _
  exact I1.fpOk mC (I1.hok.fresh mC)
end
theorem Jd{K:W.Frag}{p q r:Bool}{a b c:Addr}{xs ys ws:List V}{tt:TT}{te:TE}{ρ:St}{Q:VK}{H1:Hp}(Pv:Addr->Nat->List V->Hp->Prop)(hsz:xs.length<=sizeLine)(oM:xs.length=ys.length)(C5:xs.length=ws.length)
  (h0:∀D H2,H1 D=none->Same H1 H2->H2 D=some (.lst [])->Pv D 0 [] H2)
  (hl:∀D i zs H,Pv D i zs H->(SqK p K H a xs/\SqK q K H b ys/\SqK r K H c ws)/\H D=some (.lst zs)/\zs.length<=i)
  (hs:∀D (i:Nat) u v w zs H H',xs[i]?=some u->ys[i]?=some v->ws[i]?=some w->Pv D i zs H->Same H H'->qz tt te (some u::some v::some w :: ρ) D xs.length i zs (Pv D (i+1)) H')
  (hd:∀D zs H,Pv D xs.length zs H->Q (.ref D) H):vt 3 (mG3 K 0 1 2) tt te ρ (S5 K p q r a b c) Q H1 :=
 vz Pv hsz h0 (λD i zs H _ p=>(hl D i zs H p).2) (λD i zs H hi p=>⟨xs,ys,ws,xs[i],ys[i],ws[i],(hl D i zs H p).1.1,(hl D i zs H p).1.2.1,(hl D i zs H p).1.2.2,by simp[hi],by simp[oM▸hi],by simp[C5▸hi]⟩) (λD zs H p=>⟨xs,ys,ws,(hl D _ zs H p).1.1,(hl D _ zs H p).1.2.1,(hl D _ zs H p).1.2.2,rfl,oM.symm,C5.symm⟩) (λD i v zs H H' τ hi hτ p y=>by
  obtain⟨t,u,t3,rfl⟩:=Sw hτ;obtain⟨c',x,y',w',rfl,hn,rfl,hx,hy,hw⟩:=y;refine⟨c',_,_,_,rfl,SqT.of zx,⟨[some x,some y',some w'],rfl,rfl⟩,?_⟩;exact hs D i x y' w' zs H _ (hx xs (hl D i zs _ p).1.1) (hy ys (hl D i zs _ p).1.2.1) (hw ws (hl D i zs _ p).1.2.2) p (w8 hn _)) hd
theorem T4{K:W.Frag}{p q r:Bool}{a b c:Addr}{xs ys ws:List V}{j k l:Nat}{tb:TS}{D:rh}{σ:St}{H:Hp}(Pv:Nat->St->Hp->Prop)(oM:xs.length=ys.length)(C5:xs.length=ws.length)(h0:Pv 0 σ H)(hl:∀i σ H,i<=xs.length->Pv i σ H->SqK p K H a xs/\SqK q K H b ys/\SqK r K H c ws)
  (hs:∀(i:Nat) x y w σ H H',xs[i]?=some x->ys[i]?=some y->ws[i]?=some w->Pv i σ H->Same H H'->tb { D with nx:=Pv (i+1),ct:=Pv (i+1),bk:=D.nx } (sv (sv (sv σ j x) k y) l w) H') (hd:∀σ H,Pv xs.length σ H->D.nx σ H) :
  Wz (mG3 K j k l) tb (S5 K p q r a b c) D σ H :=
 Z2 (n:=xs.length) Pv h0 (λi σ H hi p=>⟨xs,ys,ws,xs[i],ys[i]'(oM▸hi),ws[i]'(C5▸hi),(hl i σ H (xW hi) p).1,(hl i σ H (xW hi) p).2.1,(hl i σ H (xW hi) p).2.2,by simp[hi],by simp[oM▸hi],by simp[C5▸hi]⟩)
  (fun σ H p=>⟨xs,ys,ws,(hl _ σ H (zU _) p).1,(hl _ σ H (zU _) p).2.1,(hl _ σ H (zU _) p).2.2,rfl,oM.symm,C5.symm⟩) (λi v σ H H' hi p y=>by
  obtain⟨d,x,z,w,rfl,hn,rfl,hx,hz,hw⟩:=y;have CJ:=hl i σ H (xW hi) p;exact⟨d,_,_,_,rfl,SqT.of zx,hs i x z w σ H _ (hx xs CJ.1) (hz ys CJ.2.1) (hw ws CJ.2.2) p (w8 hn _)⟩) hd
end
end My
namespace Kx
open PySem PySem.Spec L2 My
open PyProof.Rows hiding St
def top(i:Nat):Stmt:=PySem.Challenge.pw_manyjudges_k64_reports.main.body.getD i (.Pass ⟨0,0,0,0⟩)
theorem Ig{t u:TS}{D:rh}{σ:L2.St}{H:Hp}(h:t { D with nx:=u D } σ H):Ss t u D σ H:=h
end Kx
namespace Kx
open PySem PySem.Spec L2 My
open PyProof.Rows hiding St
local macro_rules|`(tactic| walk_at "r1")=>`(tactic| first|dsimp only[Ij,Su,Ie,So,Sq,Im,L6,mV,gv,sv,Gj,mG,tOp,tC,L5,Ik,Sn,tCB,Lv,Ww,tSl,Gn,Gh,mB,Lq,Gi,Lu,Ii,tOr,Il,tIf,mBM,F9,iR1,iEn,Qb,Gd,mh,iZp,Kc,tSI,tDG,tLR,Kt,K5,Lm,Hw,K4,No,Qz,Q0,Ka,Kq,Ks,Kr,Fj,Hj,Hg,Hf,Hi,Kz,Kw,Ku,Ky,Kv,Hh,Hq,Ho,Fk,Hn,Hm,Hv,Hu,K3,K2,Ro,N5,Hl,He,K0,Hr,Hs,Hk,Gg,tSS,Fm,K1,tFC,tF0,tFv,tJn,Q1,Io,Ip,K6,iZK,Np,mG3,qz,mi,mDN,U6,Mj,Ht,mG2,List.map_cons,List.map_nil,id,E5,E4,decide_true,decide_false,Bool.not_true,Bool.not_false,if_true,if_false,ite_true,ite_false,reduceIte]|simp only[List.map_cons,List.map_nil,w01,w02,w03,w04,w10,w12,w13,w14,w20,w21,w23,w24,w30,w31,w32,w34,w40,w41,w42,w43,List.append_nil,decide_true,decide_false,Bool.not_true,Bool.not_false,if_true,if_false,Bool.false_eq_true,ite_true,ite_false,reduceIte])
local macro_rules|`(tactic| walk_at "sc")=>`(tactic| exact⟨rfl,rfl,rfl,by decide +kernel,rfl,by decide +kernel,by decide +kernel⟩)
local macro_rules|`(tactic| walk_at "ln")=>`(tactic| (intro _ _ _ _ h;(repeat(obtain⟨_,h⟩:=h));subst_vars;rfl))
local macro_rules|`(tactic| walk_at "rd")=>`(tactic| (repeat(first|dsimp only[Ss,Sr]|walk_at "r1"));try dsimp only)
local macro_rules|`(tactic| walk_at "rs")=>`(tactic| (repeat(walk_at "r1"));try dsimp only)
local macro_rules|`(tactic| walk_at "rp")=>`(tactic| (repeat(first|with_reducible refine Ig ?_|dsimp only[Sr]|walk_at "r1"));try dsimp only)
section
variable {P:Program}{w:World}{K:W.Frag}{mg:Str->Option Value}{base:Heap}
def Ih(K:W.Frag)(n:Nat):Sp:=λvs H Q _=>∃(v:V)(h:Addr)(s:Say)(hs:List Str),vs=[v,.ref h]/\SayAt K H v s/\s.pieces<=n/\SqT K H h (hs.map V.str)/\Q (.bl (s.so hs)) H
theorem af(D:Def K mg "is_so" (top 16) ["saying","held"]):∀n:Nat,zy P w K mg base n "is_so" ["saying","held"] (Ih K n)
 |0=>xm D λvs H Q E h=>by
  obtain⟨v,h,s,hs,_,_,hp,_⟩:=h;exact absurd s.pieces_pos (by lia)
 |n+1=>by
  have fN:=af D n;refine D.callee (N:=["saying","held","kind","one","other"]) (by walk_at"sc") (by walk_at"ln") λf cdv A outer s H vs Q E hr nd h=>?_;obtain⟨v,h,s,hs,rfl,hv,hp,hh,q⟩:=h;refine⟨[some v,some (.ref h),none,none,none],_,rfl,(z5 (zn 2 nd (zd (z8 0) zz (λ_ _=>rfl)))
  (z5 (y6 (zg (w6 hr.units) (z8 2) zp (zi _)) (z4 (zv (uq Gq (zd (z8 0) zz (λ_ _=>rfl)) (z8 1) (by with_unfolding_all rfl)))) zm)
  (z5 (y6 (zg (w6 hr.units) (z8 2) zp (zi _)) (z4 (zv (Z4 (zw fN hr (by lia) (z9 (zd (z8 0) zz (λ_ _=>rfl)) (z9 (z8 1) z6)))))) zm)
  (z5 (zn 3 nd (zw fN hr (by lia) (z9 (zd (z8 0) zz (λ_ _=>rfl)) (z9 (z8 1) z6))))
  (z5 (zn 4 nd (zw fN hr (by lia) (z9 (zd (z8 0) zz (λ_ _=>rfl)) (z9 (z8 1) z6))))
  (z5 (y6 (zg (w6 hr.units) (z8 2) zp (zi _)) (z4 (zv (Go (z8 3) (Yi (z8 4))))) zm)
  (z5 (y6 (zg (w6 hr.units) (z8 2) zp (zi _)) (z4 (zv (Gx (z8 3) (Yi (z8 4))))) zm)
  (z4 (zv (Gx (Z4 (z8 3)) (Yi (z8 4)))))))))))),?_⟩
  cases s with
  |letter x =>
   obtain⟨a,rfl,ha⟩:=hv;walk_at"rp";refine⟨_,_,.inr ha,rfl,?_⟩;walk_at"rp";refine⟨_,_,.inr ha,rfl,?_⟩;walk_at"rp";refine⟨_,.inr hh,rfl,Zi hs,?_⟩;rw[Vu];exact q
  |neg t =>
   obtain⟨a,u,rfl,ha,ht⟩:=hv;walk_at"rp";refine⟨_,_,.inr ha,rfl,?_⟩;walk_at"rp";refine⟨_,_,.inr ha,rfl,?_⟩;walk_at"rp";exact⟨u,h,t,hs,rfl,ht,by have:=hp;simp only[Say.pieces]at this;lia,hh,q⟩
  |bin o t t' =>
   obtain⟨a,u,u',rfl,ha,ht,As⟩:=hv;have p1:t.pieces<=n/\t'.pieces<=n:=by have:=hp;simp only[Say.pieces]at this;lia
   cases o <;>
   ·dsimp only[Op2.word]at ha;walk_at"rp";refine⟨_,_,.inr ha,rfl,?_⟩;walk_at"rp";refine⟨_,_,.inr ha,rfl,?_⟩;walk_at"rp";refine⟨u,h,t,hs,rfl,ht,p1.1,hh,?_⟩;refine⟨_,_,.inr ha,rfl,?_⟩;refine⟨u',h,t',hs,rfl,As,p1.2,hh,?_⟩;walk_at"rp";simp only[Say.so,Op2.so]at q;cases e:Say.so hs t<;>rw[e]at q<;>simpa using q
theorem Vf{ns:List Int}{k:Int}(h0:0<=k)(h:k<(ns.length:Int)):∃v:Int,atI (ns.map V.int) k=some (.int v):=by
 have hk:k.toNat<ns.length:=by lia
 have ek:k=((k.toNat:Nat):Int):=by lia
 have e:atI (ns.map V.int) ((k.toNat:Nat):Int)=some (.int ns[k.toNat]):=yf (by rw[zT,zS hk]<;>rfl);rw[<-ek]at e;exact⟨_,e⟩
theorem jo{α:Type}{xs:List α}{k:Int}(h0:0<=k)(h:k<(xs.length:Int)):∃v,v∈xs/\atI xs k=some v:=by
 have hk:k.toNat<xs.length:=by lia
 have ek:k=((k.toNat:Nat):Int):=by lia
 have e:atI xs ((k.toNat:Nat):Int)=some xs[k.toNat]:=yf (zS hk);rw[<-ek]at e;exact⟨_,vJ hk,e⟩
theorem cm{i j:Int}(h:-(2 ^ 64)<i/\i<2 ^ 64):CMul i j:=.inl h
theorem cm2{i j:Int}(h:-(2 ^ 64)<j/\j<2 ^ 64):CMul i j:=.inr h
def Yv(K:W.Frag):Sp:=λvs H Q _=>∃(a:Addr)(ns:List Int)(k:Int),vs=[.ref a,.int k]/\SqL K H a (ns.map V.int)/\ns.length<=5000/\0<=k/\k<=100000/\∀r:Int,Q (.int r) H
theorem M6(D:Def K mg "_law_cell" (top 49) ["_law_script","_law_k"])(aB:mg "len"=none):zy P w K mg base 1 "_law_cell" ["_law_script","_law_k"] (Yv K):=by
 refine D.callee (N:=["_law_script","_law_k","_law_number"]) (by walk_at"sc") (by walk_at"ln") λf cdv A outer s H vs Q E hr nd h=>?_;obtain⟨a,ns,k,rfl,hS,cI,h0,hk,q⟩:=h;refine⟨[some (.ref a),some (.int k),none],_,rfl,(z5 (y6 (zg Gv (z8 1) (zq yi rfl aB yy (z9 (z8 0) z6)) (zi _)) (z4 (zv (zd (z8 0) (z8 1) (λ_ _=>rfl)))) zm)
  (z5 (zn 2 nd (zt zj (zt wj (z8 1) zz) zz))
  (z5 (y6 (zg T6 (zq yi rfl aB yy (z9 (z8 0) z6)) zz (zi _)) (z4 (zn 2 nd (zt zj (zt zj (zt wj (zt ue (zd (z8 0) (zt ue (z8 1) (zq yi rfl aB yy (z9 (z8 0) z6))) (λ_ _=>rfl)) zz) zz) (zt wj (zt wj (z8 1) (z8 1)) zz)) zz))) zm)
  (z4 (zv (zt ue (zt wj (z8 2) (z8 2)) zz)))))),?_⟩
 walk_at"rp";refine⟨_,.inl hS,?_⟩;rw[zY];have hkk:k*k<=100000*100000:=Int.mul_le_mul hk hk h0 (by decide);have hkn:0<=k*k:=Int.mul_nonneg h0 h0;refine vp (λc=>?_) (λc=>?_)
 ·obtain⟨v,e⟩:=Vf h0 (yQ c);exact⟨_,_,.inl hS,e,q v⟩
 ·refine⟨cm2 (by lia),_,.inl hS,?_⟩;rw[zY];refine vp (λd=>?_) (λd=>?_)
  ·have d':(0:Int)<(ns.length:Int):=yQ d;refine⟨_,.inl hS,?_⟩;rw[zY];obtain⟨v,e⟩:=Vf (ns:=ns) (k:=k % (ns.length:Int)) (uK _ (by lia)) (vC _ d');refine⟨d',_,_,.inl hS,e,?_⟩;walk_at"rp";exact⟨by decide,cm2 (by lia),cm (by lia),cm (by lia),cm (by lia),by decide,q _⟩
  ·walk_at"rp";exact⟨cm (by lia),by decide,q _⟩
def ur(K:W.Frag):Sp:=λvs H Q _=>∃(a:Addr)(ns:List Int)(k m:Int),vs=[.ref a,.int k,.int m]/\SqL K H a (ns.map V.int)/\ns.length<=5000/\0<=k/\k<=100000/\0<m/\∀r:Int,0<=r->r<m->Q (.int r) H
theorem Nl(D:Def K mg "_law_pick" (top 50) ["_law_script","_law_k","_law_many"])(cE:zy P w K mg base 1 "_law_cell" ["_law_script","_law_k"] (Yv K)):zy P w K mg base 2 "_law_pick" ["_law_script","_law_k","_law_many"] (ur K):=by
 refine D.callee (N:=["_law_script","_law_k","_law_many","_law_number"]) (by walk_at"sc") (by walk_at"ln") λf cdv A outer s H vs Q E hr nd h=>?_;obtain⟨a,ns,k,m,rfl,hS,cI,h0,hk,hm,q⟩:=h;refine⟨[some (.ref a),some (.int k),some (.int m),none],_,rfl,(z5 (zn 3 nd (zt zj (zt wj (zt ue (zw cE hr (by lia) (z9 (z8 0) (z9 (z8 1) z6))) zz) (zt zj zz (zt wj zz (z8 1)))) (zt wj zz (z8 1))))
  (z4 (zv (zt ue (zt Xw (zt ue (z8 3) zz) zz) (z8 2))))),?_⟩
 walk_at"rp";refine⟨a,ns,k,rfl,hS,cI,h0,hk,λr=>?_⟩;walk_at"rp";exact⟨by decide,cm (by lia),cm (by lia),cm (by lia),by decide,⟨by decide,by decide⟩,hm,q _ (uK _ (by lia)) (vC _ hm)⟩
theorem xu{n:Nat}(h:n<=1000):n<=sizeLine:=xW (vn h)
def g0(K:W.Frag)(n:Nat):Sp:=λvs H Q _=>∃(v:V)(s:Say),vs=[v]/\SayAt K H v s/\s.pieces<=n/\s.pieces<=1000/\∀(p:Addr)(H':Hp),H p=none->Same H H'->H' p=some (.lst (s.letters.map V.str))->Q (.ref p) H'
theorem ko(D:Def K mg "letters_in" (top 14) ["saying"]):∀n:Nat,zy P w K mg base n "letters_in" ["saying"] (g0 K n)
 |0=>xm D λvs H Q E h=>by
  obtain⟨v,s,_,_,hp,_⟩:=h;exact absurd s.pieces_pos (by lia)
 |n+1=>by
  have cA:=ko D n;refine D.callee (N:=["saying","letters","inner"]) (by walk_at"sc") (by walk_at"ln") λf cdv A outer s H vs Q E hr nd h=>?_;obtain⟨v,s,rfl,hv,hp,iK,q⟩:=h;refine⟨[some v,none,none],_,rfl,(z5 (y6 (zg (w6 hr.units) (zd (z8 0) zz (λ_ _=>rfl)) zp (zi _)) (z4 (zv (wa (z9 (zd (z8 0) zz (λ_ _=>rfl)) z6)))) zm)
  (z5 (zn 1 nd (wa z6))
  (z5 (xq yM rfl (yw (xz (z8 0) (xf zz) x9)) (wo 2 nd) (z4 (v6 (kh tK F.type_list_extend Qe (z8 1) (z9 (zw cA hr (by lia) (z9 (z8 2) z6)) z6)))))
  (z4 (zv (z8 1)))))),?_⟩
  by_cases hs:s.subs=[]
  ·cases s with
   |letter x =>
    obtain⟨a,rfl,ha⟩:=hv;walk_at"rp";refine⟨_,_,.inr ha,rfl,?_⟩;walk_at"rp";refine⟨_,_,.inr ha,rfl,?_⟩;walk_at"rp";exact⟨xu (by simp),λp H1 n1 s1 e1=>q p H1 n1 s1 e1⟩
   |neg t=>simp[Say.subs]at hs
   |bin o t t'=>simp[Say.subs]at hs
  ·obtain⟨a,wd,us,rfl,ha,hw,hl,kL,hu⟩:=am hv hs;walk_at"rp";refine⟨_,_,.inr ha,ce _ _,?_⟩;walk_at"rp";rw[hw];walk_at"rp";refine⟨xu (by simp),λr H0 n0 s0 e0=>?_⟩;refine .inr ⟨_,(z7 s0).sqT ha,λp H1 s1 h1=>.inr ⟨⟨_,h1⟩,?_⟩⟩;rw[jt]at h1;refine xh (xs:=us) (λi σ H2=>∃iv,σ=[some (.ref a),some (.ref r),iv]/\H2 r=some (.lst ((((s.subs.take i).map Say.letters).flatten).map V.str))/\Same H H2/\SqT K H2 p us/\i<=us.length) ⟨none,rfl,s1 _ _ e0,s0.trans s1,h1,yR _⟩ ?_ ?_ ?_
   ·rintro i σ H2 _ ⟨iv,rfl,_,_,h2,_⟩;exact h2
   ·rintro i x σ H2 hx ⟨iv,rfl,e2,s2,h2,hi⟩;obtain⟨t,ht,sv,pc⟩:=hu i x hx;walk_at"rp";refine⟨⟨_,_,rfl,e2⟩,x,t,rfl,sv.mono (z7 s2),by lia,by lia,λz H3 n3 s3 e3=>?_⟩;have aZ:z≠r:=λe=>by rw[e,e2]at n3;cases n3
    walk_at"rp";have b1:=jw (s.subs.take i);have b2:=ml Say.pieces s.subs i;have b3:=ot s;have b4:=yb t;refine⟨_,_,s3 _ _ e2,.inl e3,?_,some x,rfl,?_,zu (s2.trans s3) n0 _,?_,(zW.mp hx).1⟩
    ·rw[zY,zY];rw[zM];lia
    ·rw[zx,yY,ht];simp
    ·exact(xr (s3 _ _ e2)).sqT ((z7 s3).sqT h2)
   ·rintro σ H2 ⟨iv,rfl,e2,s2,h2,_⟩;walk_at"rp";rw[hl,zB,<-qj hs]at e2;exact q r H2 n0 s2 e2
def ia(K:W.Frag):Sp:=λvs H Q _=>∃(v:V)(s:Say),vs=[v]/\SayAt K H v s/\s.pieces<=40/\∀(p:Addr)(H':Hp)(ss:List Str),Same H H'->SqT K H' p (ss.map V.str)->ss.Nodup->(∀x,x∈ss↔x∈s.letters)->sortedS ss=true->Q (.ref p) H'
theorem X9(D:Def K mg "names_in" (top 15) ["saying"])(cA:zy P w K mg base 40 "letters_in" ["saying"] (g0 K 40))(aF:mg "sorted"=none)(aQ:mg "set"=none)(aC:mg "tuple"=none):zy P w K mg base 41 "names_in" ["saying"] (ia K):=by
 refine D.callee (N:=["saying"]) (by walk_at"sc") (by walk_at"ln") λf cdv A outer s H vs Q E hr nd h=>?_;obtain⟨v,s,rfl,hv,hp,q⟩:=h;refine⟨[some v],_,rfl,(z4 (zv (ze yg rfl aC yo (z9 (v4 rfl hr.units rfl aF rfl aQ (zw cA hr (by lia) (z9 (z8 0) z6))) z6)))),?_⟩;walk_at"rp";have aH:=yb s;refine⟨v,s,rfl,hv,hp,by lia,λp H1 n1 s1 e1=>?_⟩;walk_at"rp";refine .inl ⟨_,.inl (SqL.of e1),by unfold scanBound;lia,λbS hn hs=>?_,λbS hn hm fR r H2 n2 s2 e2=>?_⟩
 ·have:=v9 hn hs;lia
 ·walk_at"rp";exact⟨_,.inl (SqL.of e2),λr' H3 s3 h3=>q r' H3 bS (s1.trans (s2.trans s3)) h3 hn hm fR⟩
theorem U5{xs:List Str}(i:Nat)(x:V)(hx:(xs.map V.str)[i]?=some x):∃y,x = .str y/\i<xs.length/\xs.drop i=y::xs.drop (i+1):=by
 rw[zT]at hx;cases e:xs[i]? with
 |none=>rw[e]at hx;cases hx
 |some y =>
  rw[e]at hx;obtain⟨hi,ey⟩:=zW.mp e;exact⟨y,(yX hx).symm,hi,by rw[List.drop_eq_getElem_cons hi,ey]⟩
def Sm(K:W.Frag):Sp:=λvs H Q _=>∃(b:Addr)(xs:List Str),vs=[.ref b]/\SqT K H b (xs.map V.str)/\xs.length<=10/\Q (.int ((2 ^ xs.length:Nat):Int)) H
theorem Nn(D:Def K mg "ways_to_hold" (top 18) ["names"]):zy P w K mg base 1 "ways_to_hold" ["names"] (Sm K):=by
 refine D.callee (N:=["names","ways","name"]) (by walk_at"sc") (by walk_at"ln") λf cdv A outer s H vs Q E hr nd h=>?_;obtain⟨b,xs,rfl,hb,hx,q⟩:=h;refine⟨[some (.ref b),none,none],_,rfl,(z5 (zn 1 nd zz)
  (z5 (xq yM rfl (yw (z8 0)) (wo 2 nd) (z4 (zn 1 nd (zt wj (z8 1) zz))))
  (z4 (zv (z8 1))))),?_⟩
 walk_at"rp";refine .inr ⟨⟨_,hb⟩,xh (xs:=xs.map V.str) (λi σ H2=>∃nv,σ=[some (.ref b),some (.int ((2 ^ i:Nat):Int)),nv]/\H2=H) ⟨none,rfl,rfl⟩ ?_ ?_ ?_⟩
 ·rintro i σ H2 _ ⟨nv,rfl,rfl⟩;exact hb
 ·rintro i x σ H2 lU ⟨nv,rfl,rfl⟩;walk_at"rp";refine⟨cm2 (by decide),some x,?_,trivial⟩;rw[Nat.pow_succ,Int.natCast_mul]
  rfl
 ·rintro σ H2 ⟨nv,rfl,rfl⟩;walk_at"rp";rw[zY];exact q
def a9(K:W.Frag):Sp:=λvs H Q _=>∃(n:Int)(b:Addr)(xs:List Str),vs=[.int n,.ref b]/\SqT K H b (xs.map V.str)/\xs.length<=100/\∀(r:Addr)(H':Hp),Same H H'->SqT K H' r ((yz n xs).map V.str)->Q (.ref r) H'
theorem Uf(D:Def K mg "held_by" (top 19) ["number","names"])(aC:mg "tuple"=none):zy P w K mg base 1 "held_by" ["number","names"] (a9 K):=by
 refine D.callee (N:=["number","names","held","rest","name"]) (by walk_at"sc") (by walk_at"ln") λf cdv A outer s H vs Q E hr nd h=>?_;obtain⟨n,b,xs,rfl,hb,hx,q⟩:=h;refine⟨[some (.int n),some (.ref b),none,none,none],_,rfl,(z5 (zn 2 nd (wa z6))
  (z5 (zn 3 nd (z8 0))
  (z5 (xq yM rfl (yw (z8 1)) (wo 4 nd) (z5 (y6 (zg (w6 hr.units) (zt ue (z8 3) zz) zz (zi _)) (z4 (v6 (kh wT wS kg (z8 2) (z9 (z8 4) z6)))) zm)
  (z4 (zn 3 nd (zt Xw (z8 3) zz)))))
  (z4 (zv (ze yg rfl aC yo (z9 (z8 2) z6))))))),?_⟩
 walk_at"rp";refine⟨xu (by simp),λp H1 n1 s1 e1=>?_⟩;have aH:(xs.map V.str).length=xs.length:=zY _;refine .inr ⟨⟨_,(z7 s1).sqT hb⟩,xh (xs:=xs.map V.str) (λi σ H2=>∃(m:Int)(aG:List Str)(nv:Option V),σ=[some (.int n),some (.ref b),some (.ref p),some (.int m),nv]/\aG++yz m (xs.drop i)=yz n xs/\H2 p=some (.lst (aG.map V.str))/\Same H H2/\aG.length<=i) ⟨n,[],none,rfl,rfl,e1,s1,zU _⟩ ?_ ?_ ?_⟩
 ·rintro i σ H2 _ ⟨m,aG,nv,rfl,e,ep,s2,_⟩;exact(z7 s2).sqT hb
 ·rintro i x σ H2 lU ⟨m,aG,nv,rfl,e,ep,s2,ha⟩;obtain⟨y,rfl,hi,ed⟩:=U5 i x lU;rw[ed]at e;walk_at"rp";refine⟨by decide,vp (λc=>?_) (λc=>?_)⟩
  ·have c':m % 2=1:=yQ c;rw[yz,yV c']at e;refine⟨⟨_,_,rfl,ep⟩,_,ep,by rw[zY];exact vn (by lia),⟨by decide,by decide⟩,m / 2,aG++[y],_,rfl,by rw[wM];exact e,by rw[zx,zJ];rfl,zu s2 n1 _,by rw[zP,xF];lia⟩
  ·have c':¬m % 2=1:=λz=>c (yU z);rw[yz,zC c']at e;exact⟨⟨by decide,by decide⟩,m / 2,aG,_,rfl,e,ep,s2,by lia⟩
 ·rintro σ H2 ⟨m,aG,nv,rfl,e,ep,s2,_⟩;rw[aH,sF]at e;have e':aG=yz n xs:=by simpa[yz]using e
  walk_at"rp";exact⟨_,.inl (SqL.of ep),λr H' s3 hr3=>q r H' (s2.trans s3) (by rw[<-e'];exact hr3)⟩
theorem y9{H H':Hp}{p:Addr}(s:Same H H')(n:H' p=none):H p=none:=by
 cases e:H p with
 |none=>rfl
 |some o=>rw[s _ _ e]at n;cases n
theorem fj{ts:List Say}{i:Nat}{t:Say}(h:ts[i]?=some t):rj (ts.take (i+1))=rj (ts.take i)++t.letters:=by
 rw[yY,h,Ow];simp[rj]
def ib(K:W.Frag):Sp:=λvs H Q _=>∃(a:Addr)(us:List V)(ts:List Say)(xs:List Str),vs=[.ref a]/\SqT K H a us/\SaysAt K H us ts/\Lst ts xs/\∀(p:Addr)(H':Hp)(ss:List Str),Same H H'->SqT K H' p (ss.map V.str)->NamesOf ts ss->Q (.ref p) H'
theorem Ya(D:Def K mg "names_of" (top 21) ["sayings"])(nS:zy P w K mg base 41 "names_in" ["saying"] (ia K))(aF:mg "sorted"=none)(aQ:mg "set"=none)(aC:mg "tuple"=none):zy P w K mg base 42 "names_of" ["sayings"] (ib K):=by
 refine D.callee (N:=["sayings","names","saying"]) (by walk_at"sc") (by walk_at"ln") λf cdv A outer s H vs Q E hr nd h=>?_;obtain⟨a,us,ts,xs,rfl,ha,hS,hL,q⟩:=h;have hl:=hS.len;refine⟨[some (.ref a),none,none],_,rfl,(z5 (zn 1 nd (wa z6))
  (z5 (xq yM rfl (yw (z8 0)) (wo 2 nd) (z4 (v6 (kh tK F.type_list_extend Qe (z8 1) (z9 (zw nS hr (by lia) (z9 (z8 2) z6)) z6)))))
  (z4 (zv (ze yg rfl aC yo (z9 (v4 rfl hr.units rfl aF rfl aQ (z8 1)) z6)))))),?_⟩
 walk_at"rp";refine⟨xu (by simp),λr H1 n1 s1 e1=>?_⟩;refine .inr ⟨⟨_,(z7 s1).sqT ha⟩,xh (xs:=us) (λi σ H2=>∃(aG:List Str)(iv:Option V),σ=[some (.ref a),some (.ref r),iv]/\H2 r=some (.lst (aG.map V.str))/\(∀x,x∈aG↔x∈rj (ts.take i))/\aG.length<=40*i/\Same H H2) ⟨[],none,rfl,e1,λx=>by simp[rj],zU _,s1⟩ ?_ ?_ ?_⟩
 ·rintro i σ H2 _ ⟨aG,iv,rfl,_,_,_,s2⟩;exact(z7 s2).sqT ha
 ·rintro i x σ H2 hx ⟨aG,iv,rfl,e2,hm,hc,s2⟩;obtain⟨t,ht,sv⟩:=hS.at i x hx;have AX:=zN ht;have hi:i<us.length:=(zW.mp hx).1;have h6:=hL.hi;walk_at"rp";refine⟨⟨_,_,rfl,e2⟩,x,t,rfl,sv.mono (z7 s2),hL.pc t AX,λp H3 ss s3 hp nds dA _=>?_⟩;walk_at"rp";have hsl:ss.length<=40:=yT (v9 nds λy hy=>(dA y).mp hy) (yT (yb t) (hL.pc t AX));refine⟨_,_,s3 _ _ e2,.inr hp,by rw[zY,zY,zM];lia,aG++ss,some x,rfl,by rw[zx,zJ],λy=>?_,by rw[zP];lia,zu (s2.trans s3) n1 _⟩;rw[zK,hm y,dA y,fj ht,zK]
 ·rintro σ H2 ⟨aG,iv,rfl,e2,hm,hc,s2⟩;rw[hl,zB]at hm;have h6:=hL.hi;walk_at"rp";refine .inl ⟨_,.inl (SqL.of e2),by unfold scanBound;lia,λbS hn hs=>?_,λbS hn hmm fR p H3 n3 s3 e3=>?_⟩
  ·have:=v9 hn λy hy=>hL.nm y ((hm y).mp (hs y hy));have:=hL.xl;lia
  ·walk_at"rp";exact⟨_,.inl (SqL.of e3),λp' H4 s4 h4=>q p' H4 bS (s2.trans (s3.trans s4)) h4 ⟨hn,λy=>(hmm y).trans (hm y),fR⟩⟩
def gz(K:W.Frag):Sp:=λvs H Q _=>∃(a:Addr)(us:List V)(ts:List Say)(xs:List Str),vs=[.ref a]/\SqT K H a us/\SaysAt K H us ts/\Lst ts xs/\∀(p:Addr)(H':Hp)(ss:List Str)(as:List Addr),H p=none->Same H H'->H' p=some (.lst (as.map V.ref))->NamesOf ts ss->as.length=2 ^ ss.length ->
 (∀(n:Nat) b,as[n]?=some b->SqT K H' b ((yz (n:Int) ss).map V.str))->Q (.ref p) H'
theorem Rk{n:Nat}(h:n<=5):2 ^ n<=32:=Nat.pow_le_pow_right (by decide) h
theorem X4(D:Def K mg "all_held" (top 22) ["sayings"])(nR:zy P w K mg base 42 "names_of" ["sayings"] (ib K))(pW:zy P w K mg base 1 "held_by" ["number","names"] (a9 K))(jX:zy P w K mg base 1 "ways_to_hold" ["names"] (Sm K))(aA:mg "range"=none):
  zy P w K mg base 43 "all_held" ["sayings"] (gz K):=by
 refine D.callee (N:=["sayings","names"]) (by walk_at"sc") (by walk_at"ln") λf cdv A outer s H vs Q E hr nd h=>?_;obtain⟨a,us,ts,xs,rfl,ha,hS,hL,q⟩:=h;refine⟨[some (.ref a),none],_,rfl,(z5 (zn 1 nd (zw nR hr (by lia) (z9 (z8 0) z6)))
  (z4 (zv (yc (ixs:=[1]) (zo (own:=["number"]) (N:=["names"]) rfl rfl rfl rfl rfl rfl rfl (by decide +kernel) rfl rfl rfl) rfl (yp rfl aA (z9 (zw jX hr (by lia) (z9 (z8 1) z6)) z6)) (λ_ _ _ _=>yu) (λ_ _ _ _=>(zw pW hr (by lia) (z9 (z8 0) (z9 (z8 1) z6)))) rfl)))),?_⟩
 walk_at"rp";refine⟨a,us,ts,xs,rfl,ha,hS,hL,λb H1 ss s1 hb hN=>?_⟩;obtain⟨Eo,BM⟩:=hL.names hN;have p5:=Rk Eo;have p5':((2 ^ ss.length:Nat):Int)<=32:=Int.ofNat_le.mpr p5;have p50:(0:Int)<=((2 ^ ss.length:Nat):Int):=Int.natCast_nonneg _;walk_at"rp";refine⟨b,ss,rfl,hb,by lia,?_⟩;walk_at"rp";refine⟨⟨by lia,by lia⟩,?_⟩;rw[yW];intro C s₀ H₀ ex;refine yd (λD i ys H2=>∃as:List Addr,ys=as.map V.ref/\as.length=i/\(∀(n:Nat) c,as[n]?=some c->SqT K H2 c ((yz (n:Int) ss).map V.str))/\H2 D=some (.lst ys)/\Same H1 H2/\H1 D=none) (by rw[zM];lia) ?_ ?_ ?_ ?_
 ·intro D H2 n2 s2 e2;exact⟨[],rfl,rfl,λn c hc=>by simp at hc,e2,s2,n2⟩
 ·rintro D i ys H2 ⟨as,rfl,hl,_,e2,_⟩;exact⟨e2,by simpa using hl⟩
 ·rintro D i ys H2 hi ⟨as,rfl,hl,hc,e2,s2,n2⟩;walk_at"rp";refine⟨_,b,ss,rfl,(z7 s2).sqT hb,by lia,λr H3 s3 h3=>⟨s3 _ _ e2,CN.mk hi ⟨as++[r],by rw[zJ];rfl,by rw[zP,hl];rfl,λn c hn=>?_,zx,zu (s2.trans s3) n2 _,n2⟩⟩⟩;have tl:=xr (o:=.lst (as.map V.ref++[V.ref r])) (s3 _ _ e2)
  by_cases aI:n<as.length
  ·rw[yK aI]at hn;exact tl.sqT ((z7 s3).sqT (hc n c hn))
  ·rw[yI (by lia)]at hn;have hnz:n-as.length=0:=by
    cases h9:n-as.length with
    |zero=>rfl
    |succ m=>rw[h9]at hn;simp at hn
   rw[hnz]at hn;cases hn;have:n=i:=by lia
   subst this;rw[wJ]at h3;exact tl.sqT h3
 ·rintro D ys H2 ⟨as,rfl,hl,hc,e2,s2,n2⟩;exact q D H2 ss as (y9 s1 n2) (s1.trans s2) e2 hN hl hc
def m9(K:W.Frag):Sp:=λvs H Q _=>∃(a h:Addr)(us:List V)(ts:List Say)(xs hs:List Str),vs=[.ref a,.ref h]/\SqT K H a us/\SaysAt K H us ts/\Lst ts xs/\SqT K H h (hs.map V.str)/\∀(p:Addr)(H':Hp),Same H H'->SqT K H' p ((rg ts hs).map V.bl)->Q (.ref p) H'
theorem Qw(D:Def K mg "row_of" (top 23) ["sayings","held"])(fN:zy P w K mg base 40 "is_so" ["saying","held"] (Ih K 40))(aC:mg "tuple"=none):zy P w K mg base 41 "row_of" ["sayings","held"] (m9 K):=by
 refine D.callee (N:=["sayings","held"]) (by walk_at"sc") (by walk_at"ln") λf cdv A outer s H vs Q E hr nd h=>?_;obtain⟨a,h,us,ts,xs,hs,rfl,ha,hS,hL,hh,q⟩:=h;have hl:=hS.len;have h6:=hL.hi;refine⟨[some (.ref a),some (.ref h)],_,rfl,(z4 (zv (ze yg rfl aC yo (z9 (yc (ixs:=[1]) (zo (own:=["saying"]) (N:=["held"]) rfl rfl rfl rfl rfl rfl rfl (by decide +kernel) rfl rfl rfl) rfl (yw (z8 0)) (λ_ _ _ _=>yu) (λ_ _ _ _=>(zw fN hr (by lia) (z9 (z8 0) (z9 (z8 1) z6)))) rfl) z6)))),?_⟩;walk_at"rp";refine .inr ⟨⟨_,ha⟩,λC s₀ H₀ ex=>?_⟩;refine vc (xs:=us) (λD i ys H2=>ys=((ts.take i).map λt=>t.so hs).map V.bl/\i<=us.length/\H2 D=some (.lst ys)/\Same H H2/\H D=none) (by rw[zM];lia) ?_ ?_ ?_ ?_
 ·intro D H2 n2 s2 e2;exact⟨rfl,yR _,e2,s2,n2⟩
 ·rintro D i ys H2 ⟨rfl,hi,e2,s2,_⟩;exact⟨(z7 s2).sqT ha,e2,by simp;lia⟩
 ·rintro D i v ys H2 hv ⟨rfl,hi,e2,s2,n2⟩;obtain⟨t,ht,sv⟩:=hS.at i v hv;walk_at"rp";refine⟨v,h,t,hs,rfl,sv.mono (z7 s2),hL.pc t (zN ht),(z7 s2).sqT hh,e2,CN.mk (zW.mp hv).1 ⟨?_,(zW.mp hv).1,zx,zu s2 n2 _,n2⟩⟩;rw[yY,ht];simp
 ·rintro D ys H2 ⟨rfl,hi,e2,s2,n2⟩;rw[hl,zB]at e2;exact⟨_,.inl (SqL.of e2),λp H3 s3 h3=>q p H3 (s2.trans s3) h3⟩
def uy(K:W.Frag):Sp:=λvs H Q _=>∃(a:Addr)(us:List V)(ts:List Say)(xs:List Str),vs=[.ref a]/\SqT K H a us/\SaysAt K H us ts/\Lst ts xs/\∀(p:Addr)(H':Hp)(ss:List Str)(R:List (Addr×List Bool)),H p=none->Same H H'->H' p=some (.lst (R.map λr=>V.ref r.1))->(∀r∈R,SqT K H' r.1 (r.2.map V.bl))->NamesOf ts ss->FitRows ts ss (R.map (·.2))->R.length<=32->Q (.ref p) H'
theorem X7(D:Def K mg "fit_rows" (top 24) ["sayings"])(nZ:zy P w K mg base 43 "all_held" ["sayings"] (gz K))(rN:zy P w K mg base 41 "row_of" ["sayings","held"] (m9 K))(aF:mg "sorted"=none)(aQ:mg "set"=none):
  zy P w K mg base 44 "fit_rows" ["sayings"] (uy K):=by
 refine D.callee (N:=["sayings"]) (by walk_at"sc") (by walk_at"ln") λf cdv A outer s H vs Q E hr nd h=>?_;obtain⟨a,us,ts,xs,rfl,ha,hS,hL,q⟩:=h;refine⟨[some (.ref a)],_,rfl,(z4 (zv (v4 rfl hr.units rfl aF rfl aQ (yc (ixs:=[0]) (zo (own:=["held"]) (N:=["sayings"]) rfl rfl rfl rfl rfl rfl rfl (by decide +kernel) rfl rfl rfl) rfl (yw (zw nZ hr (by lia) (z9 (z8 0) z6))) (λ_ _ _ _=>yu) (λ_ _ _ _=>(zw rN hr (by lia) (z9 (z8 1) (z9 (z8 0) z6)))) rfl)))),?_⟩;walk_at"rp";refine⟨a,us,ts,xs,rfl,ha,hS,hL,λb H1 ss as nb s1 hb hN has EW=>?_⟩;obtain⟨Eo,BM⟩:=hL.names hN;have p5:=Rk Eo;walk_at"rp";refine .inl ⟨⟨_,SqL.of hb⟩,λC s₀ H₀ ex=>?_⟩;refine tm (xs:=as.map V.ref) (λD i ys H2=>∃R:List (Addr×List Bool),ys=(R.map λr=>V.ref r.1)/\R.map (·.2)=(List.range i).map (λ(n:Nat)=>rg ts (yz (n:Int) ss))/\(∀r∈R,SqT K H2 r.1 (r.2.map V.bl))/\H2 D=some (.lst ys)/\Same H1 H2/\H1 D=none) (by rw[zY,zM];lia) ?_ ?_ ?_ ?_
 ·intro D H2 n2 s2 e2;exact⟨[],rfl,rfl,λr hr=>by simp at hr,e2,s2,n2⟩
 ·rintro D i ys H2 ⟨R,rfl,hR,_,e2,s2,_⟩;refine⟨SqL.of (s2 _ _ hb),e2,?_⟩;have:=xK List.length hR;simpa using this
 ·rintro D i v ys H2 hv ⟨R,rfl,hR,hT,e2,s2,n2⟩;rw[zT]at hv;cases hc:as[i]? with
  |none=>rw[hc]at hv;cases hv
  |some c =>
   rw[hc]at hv;cases hv;have hi:i<as.length:=(zW.mp hc).1;walk_at"rp";refine⟨a,c,us,ts,xs,_,rfl,(z7 (s1.trans s2)).sqT ha,hS.mono (z7 (s1.trans s2)),hL,(z7 s2).sqT (EW i c hc),λp H3 s3 h3=>⟨s3 _ _ e2,CN.mk (by rw[zY];exact hi) ⟨R++[(p,rg ts (yz (i:Int) ss))],by rw[zJ];rfl,?_,λr hr=>?_,zx,zu (s2.trans s3) n2 _,n2⟩⟩⟩
   ·rw[zJ,hR,vY,zJ]
    rfl
   ·have tl:=xr (o:=.lst ((R.map λr=>V.ref r.1)++[V.ref p])) (s3 _ _ e2);rcases zK.mp hr with hr|hr
    ·exact tl.sqT ((z7 s3).sqT (hT r hr))
    ·rw[zO.mp hr];exact tl.sqT h3
 ·rintro D ys H2 ⟨R,rfl,hR,hT,e2,s2,n2⟩;rw[zY,has]at hR;have oS:R.length=2 ^ ss.length:=by
   have:=xK List.length hR;simpa using this
  refine .inr ⟨R,SqL.of e2,λr hr=>⟨hT r hr,?_⟩,by lia,λR' iQ lX dA fR fT p H3 n3 s3 e3=>?_⟩
  ·have:r.2∈R.map (·.2):=yG hr;rw[hR]at this;obtain⟨n,_,e⟩:=zD.mp this;intro z;rw[<-e]at z;have h1:=pb ts (yz (n:Int) ss);rw[z]at h1;have:=hL.lo;simp at h1;lia
  ·refine q p H3 ss R' (y9 (s1.trans s2) n3) (s1.trans (s2.trans s3)) e3 (λr hr=>(z7 s3).sqT (hT r (iQ r hr))) hN ⟨lX,λk=>?_,fR⟩ (by lia);rw[dA k,hR,zD];constructor
   ·rintro⟨n,hn,rfl⟩;exact⟨n,yH.mp hn,rfl⟩
   ·rintro⟨n,hn,rfl⟩;exact⟨n,yH.mpr hn,rfl⟩
def ql(k r:List Bool)(ws:List Int):Nat->Int
 |0=>0
 |n+1=>ql k r ws n+(if k.getD n false=r.getD n false then 0 else ws.getD n 0)
theorem il{k r:List Bool}{ws:List Int}{n:Nat}(h:k.getD n false=r.getD n false):ql k r ws (n+1)=ql k r ws n:=by rw[ql,yV h,Int.add_zero]
theorem mq{k r:List Bool}{ws:List Int}{n:Nat}{x:Int}(h:¬k.getD n false=r.getD n false)(hx:ws[n]?=some x):ql k r ws (n+1)=ql k r ws n+x:=by
 rw[ql,zC h,yZ,hx]
 rfl
def xy(k:List Bool)(rs:List (List Bool))(ws:List Int)(m:Nat):Int:=(rs.map λr=>ql k r ws m).sum
theorem W9{k:List Bool}{rs:List (List Bool)}{ws:List Int}{m i:Nat}{r:List Bool}(h:rs[i]?=some r):xy k (rs.take (i+1)) ws m=xy k (rs.take i) ws m+ql k r ws m:=by
 unfold xy;rw[yY,h];simp
def WAt(K:W.Frag)(H:Hp)(v:V)(m:Nat)(ws:List Int):Prop:=(v = .non/\ws=List.replicate m 1)\/∃b,v = .ref b/\SqT K H b (ws.map V.int)/\ws.length=m
theorem WAt.mono{K:W.Frag}{H H':Hp}{v:V}{m:Nat}{ws:List Int}(t:Tups H H')(h:WAt K H v m ws):WAt K H' v m ws:=h.imp id λ⟨b,e,hb,hl⟩=>⟨b,e,t.sqT hb,hl⟩
theorem WAt.len{K:W.Frag}{H:Hp}{v:V}{m:Nat}{ws:List Int}(h:WAt K H v m ws):ws.length=m:=by
 rcases h with⟨_,rfl⟩|⟨_,_,_,e⟩
 ·simp
 ·exact e
def ig(K:W.Frag):Sp:=λvs H Q _=>∃(a:Addr)(k:List Bool)(wv:V)(ws:List Int),vs=[.ref a,wv]/\SqT K H a (k.map V.bl)/\k.length<=10/\WAt K H wv k.length ws /\
 ∀(b:Addr)(H':Hp),Same H H'->SqT K H' b (ws.map V.int)->Q (.ref b) H'
theorem Yc(D:Def K mg "weights_for" (top 28) ["row","weights"])(aC:mg "tuple"=none):zy P w K mg base 1 "weights_for" ["row","weights"] (ig K):=by
 refine D.callee (N:=["row","weights"]) (by walk_at"sc") (by walk_at"ln") λf cdv A outer s H vs Q E hr nd h=>?_;obtain⟨a,k,wv,ws,rfl,ha,hk,hw,q⟩:=h;refine⟨[some (.ref a),some wv],_,rfl,(z5 (y6 (zg Qf (z8 1) qu (zi _)) (z4 (zv (ze yg rfl aC yo (z9 (yc (ixs:=[]) (zo (own:=["truth"]) (N:=[]) rfl rfl rfl rfl rfl rfl rfl (by decide +kernel) rfl rfl rfl) rfl (yw (z8 0)) (λ_ _ _ _=>yu) (λ_ _ _ _=>zz) rfl) z6)))) zm)
  (z4 (zv (z8 1)))),?_⟩
 rcases hw with⟨rfl,rfl⟩|⟨b,rfl,hb,hl⟩
 ·walk_at"rp";refine⟨trivial,.inr ⟨⟨_,ha⟩,λC s₀ H₀ ex=>?_⟩⟩;refine vc (xs:=k.map V.bl) (λD i ys H2=>ys=(List.replicate i (1:Int)).map V.int/\i<=k.length/\H2 D=some (.lst ys)/\Same H H2/\H D=none) (by rw[zY,zM];lia) ?_ ?_ ?_ ?_
  ·intro D H2 n2 s2 e2;exact⟨rfl,yR _,e2,s2,n2⟩
  ·rintro D i ys H2 ⟨rfl,hi,e2,s2,_⟩;exact⟨(z7 s2).sqT ha,e2,by simp⟩
  ·rintro D i v ys H2 hv ⟨rfl,hi,e2,s2,n2⟩;have bT:i<(k.map V.bl).length:=(zW.mp hv).1;walk_at"rp";refine⟨e2,CN.mk bT ⟨?_,by rw[zY]at bT;exact bT,zx,zu s2 n2 _,n2⟩⟩;rw[List.replicate_succ',zJ]
   rfl
  ·rintro D ys H2 ⟨rfl,hi,e2,s2,n2⟩;rw[zY]at e2;exact⟨_,.inl (SqL.of e2),λp H3 s3 h3=>q p H3 (s2.trans s3) h3⟩
 ·walk_at"rp";refine⟨trivial,?_⟩
  try rw[yO (λz:V.ref b=V.non=>nomatch z)]
  walk_at"rp";exact q b H (Same.refl H) hb
def bg(K:W.Frag):Sp:=λvs H Q _=>∃(a b c:Addr)(k r:List Bool)(ws:List Int)(m:Nat),vs=[.ref a,.ref b,.ref c]/\SqT K H a (k.map V.bl)/\SqT K H b (r.map V.bl)/\SqT K H c (ws.map V.int)/\k.length=m/\r.length=m/\ws.length=m /\
 ∀H',Same H H'->Q (.int (ql k r ws m)) H'
theorem Us(D:Def K mg "unlike" (top 29) ["row","other","weights"])(aJ:mg "enumerate"=none):zy P w K mg base 1 "unlike" ["row","other","weights"] (bg K):=by
 refine D.callee (N:=["row","other","weights","total","number","weight"]) (by walk_at"sc") (by walk_at"ln") λf cdv A outer s H vs Q E hr nd h=>?_;obtain⟨a,b,c,k,r,ws,m,rfl,ha,hb,hc,hk,kK,hw,q⟩:=h;refine⟨[some (.ref a),some (.ref b),some (.ref c),none,none,none],_,rfl,(z5 (zn 3 nd zz)
  (z5 (xq yM rfl (Xv rfl aJ (z9 (z8 2) z6)) (Qi 4 5 rfl nd) (z4 (y6 (zg (di hr.units) (zd (z8 0) (z8 4) (λ_ _=>rfl)) (zd (z8 1) (z8 4) (λ_ _=>rfl)) (zi _)) (z4 (zn 3 nd (zt zj (z8 3) (z8 5)))) zm)))
  (z4 (zv (z8 3))))),?_⟩
 walk_at"rp";refine⟨⟨_,hc⟩,Xq (xs:=ws.map V.int) (λi σ H2=>∃x4 x5,σ=[some (.ref a),some (.ref b),some (.ref c),some (.int (ql k r ws i)),x4,x5]/\Same H H2) ⟨_,_,rfl,Same.refl H⟩ ?_ ?_ ?_⟩
 ·rintro i σ H2 _ ⟨x4,x5,rfl,s2⟩;exact(z7 s2).sqT hc
 ·rintro i v σ H2 H3 hv ⟨x4,x5,rfl,s2⟩ s3;rw[zT]at hv;cases hx:ws[i]? with
  |none=>rw[hx]at hv;cases hv
  |some x =>
  rw[hx]at hv;cases hv;have hi:i<ws.length:=(zW.mp hx).1;have t3:=z7 (s2.trans s3);walk_at"rp";refine⟨_,_,.inr (t3.sqT ha),wf (by lia),?_⟩;walk_at"rp";refine⟨_,_,.inr (t3.sqT hb),wf (by lia),?_⟩;walk_at"rp"
  by_cases he:k.getD i false=r.getD i false
  ·rw[yU he];walk_at"rp";exact⟨_,_,by rw[il he],s2.trans s3⟩
  ·rw[yO he];walk_at"rp";exact⟨_,_,by rw[mq he hx],s2.trans s3⟩
 ·rintro σ H2 ⟨x4,x5,rfl,s2⟩;walk_at"rp";rw[zY,hw];exact q H2 s2
def l7(K:W.Frag):Sp:=λvs H Q _=>∃(a j:Addr)(k:List Bool)(J:List (Addr×List Bool))(wv:V)(ws:List Int)(m:Nat),vs=[.ref a,.ref j,wv]/\SqT K H a (k.map V.bl)/\k.length=m/\m<=10/\JudgesAt K H j J m/\WAt K H wv m ws /\
 ∀H',Same H H'->Q (.int (xy k (J.map (·.2)) ws m)) H'
theorem ac(D:DefD K mg "distance" (top 30) ["row","judges","weights"] [.none])(kN:zy P w K mg base 1 "weights_for" ["row","weights"] (ig K))(rK:zy P w K mg base 1 "unlike" ["row","other","weights"] (bg K))(mY:mg "sum"=none):
  CalleeD P w K mg base 2 "distance" ["row","judges","weights"] [.none] (l7 K):=by
 refine D.callee (N:=["row","judges","weights","given"]) (by walk_at"sc") (by walk_at"ln") λf cdv A outer s H vs Q E hr nd h=>?_;obtain⟨a,j,k,J,wv,ws,m,rfl,ha,hk,hm,hJ,hw,q⟩:=h;have lK:=hJ.hi;have Eg:=hw.len;refine⟨[some (.ref a),some (.ref j),some wv,none],_,rfl,(z5 (zn 3 nd (zw kN hr (by lia) (z9 (z8 0) (z9 (z8 2) z6))))
  (z4 (zv (zq (G0 rfl) rfl mY Jb (z9 (yc (ixs:=[0,3]) (zo (own:=["judge"]) (N:=["row","given"]) rfl rfl rfl rfl rfl rfl rfl (by decide +kernel) rfl rfl rfl) rfl (yw (z8 1)) (λ_ _ _ _=>yu) (λ_ _ _ _=>(zw rK hr (by lia) (z9 (z8 1) (z9 (z8 0) (z9 (z8 2) z6))))) rfl) z6))))),?_⟩
 walk_at"rp";refine⟨a,k,wv,ws,rfl,ha,by lia,by rw[hk];exact hw,λb H1 s1 hb=>?_⟩;walk_at"rp";refine .inr ⟨⟨_,(z7 s1).sqT hJ.sq⟩,λC s₀ H₀ ex=>?_⟩;refine vc (xs:=J.map λr=>V.ref r.1) (λD i ys H2=>ys=(((J.map (·.2)).take i).map λr=>ql k r ws m).map V.int/\i<=J.length/\H2 D=some (.lst ys)/\Same H1 H2/\H1 D=none) (by rw[zY,zM];lia) ?_ ?_ ?_ ?_
 ·intro D H2 n2 s2 e2;exact⟨rfl,yR _,e2,s2,n2⟩
 ·rintro D i ys H2 ⟨rfl,hi,e2,s2,_⟩;exact⟨(z7 (s1.trans s2)).sqT hJ.sq,e2,by simp;lia⟩
 ·rintro D i v ys H2 hv ⟨rfl,hi,e2,s2,n2⟩;rw[zT]at hv;cases hc:J[i]? with
  |none=>rw[hc]at hv;cases hv
  |some r =>
  rw[hc]at hv;cases hv;have bT:i<J.length:=(zW.mp hc).1;have fC:=zN hc;have t2:=z7 (s1.trans s2);walk_at"rp";refine⟨a,r.1,b,k,r.2,ws,m,rfl,t2.sqT ha,t2.sqT (hJ.row r fC),(z7 s2).sqT hb,hk,hJ.len r fC,Eg,λH3 s3=>⟨s3 _ _ e2,CN.mk (by rw[zY];exact bT) ⟨?_,bT,zx,zu (s2.trans s3) n2 _,n2⟩⟩⟩;rw[yY,zT,hc];simp
 ·rintro D ys H2 ⟨rfl,hi,e2,s2,n2⟩;rw[zY]at e2;walk_at"rp";refine⟨_,SqL.of e2,?_⟩;have:=q H2 (s1.trans s2);unfold xy at this;rw[wY (by rw[zY];exact zU _)];exact this
def um(all rs:List (List Bool))(ws:List Int)(m:Nat):List (List Bool):=all.filter λk=>all.all λk'=>decide (xy k rs ws m<=xy k' rs ws m)
theorem km{all rs:List (List Bool)}{ws:List Int}{m:Nat}{M:Int}(hM:M∈all.map λk=>xy k rs ws m)(fT:∀x∈all.map λk=>xy k rs ws m,M<=x):(all.filter λk=>decide (xy k rs ws m=M))=um all rs ws m:=by
 unfold um;refine List.filter_congr λk hk=>?_;have h1:=fT _ (yG (f:=λk=>xy k rs ws m) hk)
 by_cases h:xy k rs ws m=M
 ·rw[yU h];refine(yA.mpr λk' aW=>yU ?_).symm;rw[h];exact fT _ (yG (f:=λk=>xy k rs ws m) aW)
 ·rw[yO h];refine sM.mpr (λz=>h ?_) |>.symm
  obtain⟨k',aW,e⟩:=zD.mp hM;have:=yQ (yA.mp z k' aW);rw[e]at this;exact Int.le_antisymm this h1
def ie(K:W.Frag):Sp:=λvs H Q _=>∃(a j:Addr)(us:List V)(ts:List Say)(xs:List Str)(J:List (Addr×List Bool))(wv:V)(ws:List Int),vs=[.ref a,.ref j,wv]/\SqT K H a us/\SaysAt K H us ts/\Lst ts xs/\JudgesAt K H j J ts.length/\WAt K H wv ts.length ws /\
 ∀(p:Addr)(H':Hp)(ss:List Str)(all:List (List Bool))(R:List (Addr×List Bool)),H p=none->Same H H'->H' p=some (.lst (R.map λr=>V.ref r.1))->(∀r∈R,SqT K H' r.1 (r.2.map V.bl))->NamesOf ts ss->FitRows ts ss all->R.map (·.2)=um all (J.map (·.2)) ws ts.length->R.length<=32->Q (.ref p) H'
theorem Yb(D:DefD K mg "nearest" (top 31) ["sayings","judges","weights"] [.none])(eV:zy P w K mg base 44 "fit_rows" ["sayings"] (uy K))(eW:CalleeD P w K mg base 2 "distance" ["row","judges","weights"] [.none] (l7 K))(bC:mg "zip"=none)(aV:mg "min"=none):
  CalleeD P w K mg base 45 "nearest" ["sayings","judges","weights"] [.none] (ie K):=by
 refine D.callee (N:=["sayings","judges","weights","rows","distances","least"]) (by walk_at"sc") (by walk_at"ln") λf cdv A outer s H vs Q E hr nd h=>?_;obtain⟨a,j,us,ts,xs,J,wv,ws,rfl,ha,hS,hL,hJ,hw,q⟩:=h;have h6:=hL.hi;refine⟨[some (.ref a),some (.ref j),some wv,none,none,none],_,rfl,(z5 (zn 3 nd (zw eV hr (by lia) (z9 (z8 0) z6)))
  (z5 (ye 4 nd (ixs:=[1,2]) (zo (own:=["row"]) (N:=["judges","weights"]) rfl rfl rfl rfl rfl rfl rfl (by decide +kernel) rfl rfl rfl) rfl (yw (z8 3)) (λ_ _ _ _=>yu) (λ_ _ _ _=>(zw eW.full hr (by lia) (z9 (z8 0) (z9 (z8 1) (z9 (z8 2) z6))))) rfl)
  (z5 (zn 5 nd (zq (Qh rfl) rfl aV cf (z9 (z8 4) z6)))
  (z4 (zv (qd (ixs:=[5]) (zo (own:=["row","far"]) (N:=["least"]) rfl rfl rfl rfl rfl rfl rfl (by decide +kernel) rfl rfl rfl) rfl (G1 rfl bC (z9 (z8 3) (z9 (z8 4) z6))) (λ_ _ _ _=>(vq (zg (w6 hr.units) (z8 1) (z8 2) (zi _)))) (λ_ _ _ _=>(z8 0)) rfl)))))),?_⟩
 walk_at"rp";refine⟨a,us,ts,xs,rfl,ha,hS,hL,λb H1 ss R nb s1 e1 hR hN hF oS=>?_⟩;have iL:∀r∈R,r.2.length=ts.length:=λr hr=>u8 hF (yG (f:=(·.2)) hr);have oU:=Vq hF;walk_at"rp";refine .inl ⟨⟨_,SqL.of e1⟩,λC s₀ H₀ ex=>?_⟩;refine tm (xs:=R.map λr=>V.ref r.1) (λD i ys H2=>ys=((R.take i).map λr=>xy r.2 (J.map (·.2)) ws ts.length).map V.int/\i<=R.length/\H2 D=some (.lst ys)/\Same H1 H2/\H1 D=none) (by rw[zY,zM];lia) ?_ ?_ ?_ ?_
 ·intro D H2 n2 s2 e2;exact⟨rfl,yR _,e2,s2,n2⟩
 ·rintro D i ys H2 ⟨rfl,hi,e2,s2,_⟩;exact⟨SqL.of (s2 _ _ e1),e2,by simp;lia⟩
 ·rintro D i v ys H2 hv ⟨rfl,hi,e2,s2,n2⟩;rw[zT]at hv;cases hc:R[i]? with
  |none=>rw[hc]at hv;cases hv
  |some r =>
  rw[hc]at hv;cases hv;have bT:i<R.length:=(zW.mp hc).1;have fC:=zN hc;have t2:=z7 (s1.trans s2);walk_at"rp";refine⟨r.1,j,r.2,J,wv,ws,ts.length,rfl,(z7 s2).sqT (hR r fC),iL r fC,by lia,hJ.mono t2,hw.mono t2,λH3 s3=>⟨s3 _ _ e2,CN.mk (by rw[zY];exact bT) ⟨?_,bT,zx,zu (s2.trans s3) n2 _,n2⟩⟩⟩;rw[yY,hc];simp
 rintro D2 ys H2 ⟨rfl,_,e2,s2,n2⟩;rw[zY,zB]at e2;walk_at"rp";refine⟨_,SqL.of e2,by rw[zY];lia,λM hM fT=>?_⟩;walk_at"rp";refine⟨⟨⟨_,SqL.of (s2 _ _ e1)⟩,⟨_,SqL.of e2⟩⟩,λC s₀ H₀ ex=>?_⟩;refine Tf (xs:=R.map λr=>V.ref r.1) (ys:=(R.map λr=>xy r.2 (J.map (·.2)) ws ts.length).map V.int) (λD i zs H3=>zs=(((R.take i).filter λr=>decide (xy r.2 (J.map (·.2)) ws ts.length=M)).map λr=>V.ref r.1)/\i<=R.length/\H3 D=some (.lst zs)/\Same H2 H3/\H2 D=none) (by rw[zY,zM];lia) (by simp) ?_ ?_ ?_ ?_
 ·intro D H3 n3 s3 e3;exact⟨rfl,yR _,e3,s3,n3⟩
 ·rintro D i zs H3 ⟨rfl,hi,e3,s3,_⟩;refine⟨SqL.of (s3 _ _ (s2 _ _ e1)),SqL.of (s3 _ _ e2),e3,?_⟩;rw[zY];exact yT (xE _ _) (by rw[yS];lia)
 ·rintro D i u v zs H3 H4 hu hv ⟨rfl,hi,e3,s3,n3⟩ s4;rw[zT]at hu hv;rw[zT]at hv;cases hc:R[i]? with
  |none=>rw[hc]at hu;cases hu
  |some r =>
  rw[hc]at hu hv;cases hu;cases hv;have bT:i<R.length:=(zW.mp hc).1;walk_at"rp";have et:R.take (i+1)=R.take i++[r]:=by rw[yY,hc];rfl
  by_cases hd:xy r.2 (J.map (·.2)) ws ts.length=M
  ·rw[yU hd];walk_at"rp";refine⟨s4 _ _ e3,CN.mk (by rw[zY];exact bT) ⟨?_,bT,zx,zu (s3.trans s4) n3 _,n3⟩⟩;rw[et,wF,zJ,List.filter_cons_of_pos (by simpa using hd)]
   rfl
  ·rw[yO hd];walk_at"rp";refine CN.mk (by rw[zY];exact bT) ⟨?_,bT,s4 _ _ e3,s3.trans s4,n3⟩;rw[et,wF,List.filter_cons_of_neg (by simpa using hd),uG,List.append_nil]
 ·rintro D zs H3 ⟨rfl,hi,e3,s3,n3⟩;rw[zY,zB]at e3;have AR:=s2.trans s3;refine q D H3 ss (R.map (·.2)) _ (y9 (s1.trans s2) n3) (s1.trans AR) e3 (λr hr=>(z7 AR).sqT (hR r (xP.mp hr).1)) hN hF ?_ (yT (xE _ _) oS);rw[<-km (M:=M) (by simpa using hM) (by simpa using fT),List.filter_map]
  rfl
def Wt(K:W.Frag):Sp:=λvs H Q _=>∃(a:Addr)(J:List (Addr×List Bool))(m j:Nat)(t:Bool),vs=[.ref a,.int (j:Int),.bl t]/\JudgesAt K H a J m/\j<m /\
 ∀(p:Addr)(H':Hp),H p=none->Same H H'->H' p=some (.lst ((yq (J.map (·.2)) j t J.length).map λ(n:Nat)=>V.int (n:Int)))->Q (.ref p) H'
theorem J9(D:Def K mg "who_say" (top 10) ["judges","number","truth"])(aJ:mg "enumerate"=none):zy P w K mg base 1 "who_say" ["judges","number","truth"] (Wt K):=by
 refine D.callee (N:=["judges","number","truth"]) (by walk_at"sc") (by walk_at"ln") λf cdv A outer s H vs Q E hr nd h=>?_;obtain⟨a,J,m,j,t,rfl,hJ,hj,q⟩:=h;have lK:=hJ.hi;refine⟨[some (.ref a),some (.int (j:Int)),some (.bl t)],_,rfl,(z4 (zv (qd (ixs:=[1,2]) (zo (own:=["judge","row"]) (N:=["number","truth"]) rfl rfl rfl rfl rfl rfl rfl (by decide +kernel) rfl rfl rfl) rfl (Xv rfl aJ (z9 (z8 0) z6)) (λ_ _ _ _=>(vq (zg (w6 hr.units) (zd (z8 1) (z8 2) (λ_ _=>rfl)) (z8 3) (zi _)))) (λ_ _ _ _=>(z8 0)) rfl))),?_⟩;walk_at"rp";refine⟨⟨_,hJ.sq⟩,λC s₀ H₀ ex=>?_⟩;refine ft (xs:=J.map λr=>V.ref r.1) (λD i ys H2=>ys=(yq (J.map (·.2)) j t i).map (λ(n:Nat)=>V.int (n:Int))/\H2 D=some (.lst ys)/\Same H H2/\H D=none) (by rw[zY,zM];lia) ?_ ?_ ?_ ?_
 ·intro D H2 n2 s2 e2;exact⟨rfl,e2,s2,n2⟩
 ·rintro D i ys H2 ⟨rfl,e2,s2,_⟩;exact⟨(z7 s2).sqT hJ.sq,e2,by rw[zY];exact wq _ _ _ _⟩
 ·rintro D i v ys H2 H3 hv ⟨rfl,e2,s2,n2⟩ s3;rw[zT]at hv;cases cT:J[i]? with
  |none=>rw[cT]at hv;cases hv
  |some r =>
   rw[cT]at hv;cases hv;have hi:i<J.length:=(zW.mp cT).1;have fC:=zN cT;have eg:(J.map (·.2)).getD i []=r.2:=by rw[yZ,zT,cT];rfl
   walk_at"rp";refine⟨_,_,.inr ((z7 (s2.trans s3)).sqT (hJ.row r fC)),wf (by rw[hJ.len r fC];exact hj),?_⟩;walk_at"rp";have he:decide (r.2.getD j false=t)=(r.2.getD j false==t):=by cases r.2.getD j false<;>cases t<;>rfl
   rw[he];cases hc:(r.2.getD j false==t)with
   |true =>
    walk_at"rp";refine⟨s3 _ _ e2,CN.mk (by rw[zY];exact hi) ⟨?_,zx,zu (s2.trans s3) n2 _,n2⟩⟩;rw[w9,eg,yV hc,zJ]
    rfl
   |false =>
    walk_at"rp";refine CN.mk (by rw[zY];exact hi) ⟨?_,s3 _ _ e2,s2.trans s3,n2⟩;rw[w9,eg,zC (by rw[hc];decide),List.append_nil]
 ·rintro D ys H2 ⟨rfl,e2,s2,n2⟩;rw[zY]at e2;exact q D H2 n2 s2 e2
def g8(K:W.Frag):Sp:=λvs H Q _=>∃(a:Addr)(J:List (Addr×List Bool))(m j:Nat),vs=[.ref a,.int (j:Int)]/\JudgesAt K H a J m/\j<m/\∀H',Same H H'->Q (.bl (zk (J.map (·.2)) j)) H'
theorem X8(D:Def K mg "most_say_yes" (top 11) ["judges","number"])(bF:zy P w K mg base 1 "who_say" ["judges","number","truth"] (Wt K))(aB:mg "len"=none):zy P w K mg base 2 "most_say_yes" ["judges","number"] (g8 K):=by
 refine D.callee (N:=["judges","number"]) (by walk_at"sc") (by walk_at"ln") λf cdv A outer s H vs Q E hr nd h=>?_;obtain⟨a,J,m,j,rfl,hJ,hj,q⟩:=h;have lK:=hJ.hi;refine⟨[some (.ref a),some (.int (j:Int))],_,rfl,(z4 (zv (uq T6 (zt wj zz (zq yi rfl aB yy (z9 (zw bF hr (by lia) (z9 (z8 0) (z9 (z8 1) (z9 wn z6)))) z6))) (zq yi rfl aB yy (z9 (z8 0) z6)) (zi _)))),?_⟩;walk_at"rp";refine⟨a,J,m,j,true,rfl,hJ,hj,λp H1 n1 s1 e1=>?_⟩;walk_at"rp";refine⟨_,.inl (SqL.of e1),?_⟩;have e:=lg (J.map (·.2)) j;rw[zY]at e;have fT:=wq (J.map (·.2)) j true J.length;rw[zY];refine⟨cm (by lia),_,.inr ((z7 s1).sqT hJ.sq),?_⟩;have:=q H1 s1;unfold zk at this;rw[zY]at this ⊢;rw[e];exact this
def Yx(K:W.Frag):Sp:=λvs H Q _=>∃(a:Addr)(J:List (Addr×List Bool))(m:Nat),vs=[.ref a]/\JudgesAt K H a J m/\m<=10/\∀(p:Addr)(H':Hp),Same H H'->SqT K H' p ((xk (J.map (·.2)) m).map V.bl)->Q (.ref p) H'
theorem tq{K:W.Frag}{H:Hp}{a:Addr}{J:List (Addr×List Bool)}{m:Nat}(h:JudgesAt K H a J m):∃r,r∈J/\atI (J.map λr=>V.ref r.1) 0=some (.ref r.1):=by
 have:=h.lo
 match J,this with
 |r::R,_=>exact⟨r,by simp,yf (j:=0) rfl⟩
theorem Nf(D:Def K mg "most" (top 12) ["judges"])(jZ:zy P w K mg base 2 "most_say_yes" ["judges","number"] (g8 K))(aB:mg "len"=none)(aA:mg "range"=none)(aC:mg "tuple"=none):zy P w K mg base 3 "most" ["judges"] (Yx K):=by
 refine D.callee (N:=["judges"]) (by walk_at"sc") (by walk_at"ln") λf cdv A outer s H vs Q E hr nd h=>?_;obtain⟨a,J,m,rfl,hJ,hm,q⟩:=h;obtain⟨r,nE,er⟩:=tq hJ;refine⟨[some (.ref a)],_,rfl,(z4 (zv (ze yg rfl aC yo (z9 (yc (ixs:=[0]) (zo (own:=["number"]) (N:=["judges"]) rfl rfl rfl rfl rfl rfl rfl (by decide +kernel) rfl rfl rfl) rfl (yp rfl aA (z9 (zq yi rfl aB yy (z9 (zd (z8 0) zz (λ_ _=>rfl)) z6)) z6)) (λ_ _ _ _=>yu) (λ_ _ _ _=>(zw jZ hr (by lia) (z9 (z8 1) (z9 (z8 0) z6)))) rfl) z6)))),?_⟩;walk_at"rp";refine⟨_,_,.inr hJ.sq,er,?_⟩;walk_at"rp";refine⟨_,.inr (hJ.row r nE),?_⟩;rw[zY,hJ.len r nE];refine⟨⟨by lia,by lia⟩,λC s₀ H₀ ex=>?_⟩;rw[yW];refine yd (λD i ys H2=>ys=(xk (J.map (·.2)) i).map V.bl/\H2 D=some (.lst ys)/\Same H H2/\H D=none) (xu (by lia)) ?_ ?_ ?_ ?_
 ·intro D H2 n2 s2 e2;exact⟨rfl,e2,s2,n2⟩
 ·rintro D i ys H2 ⟨rfl,e2,s2,_⟩;exact⟨e2,by rw[zY,xo]⟩
 ·rintro D i ys H2 hi ⟨rfl,e2,s2,n2⟩;walk_at"rp";rw[wJ];refine⟨a,J,m,i,rfl,hJ.mono (z7 s2),hi,λH3 s3=>⟨s3 _ _ e2,CN.mk hi ⟨?_,zx,zu (s2.trans s3) n2 _,n2⟩⟩⟩;rw[qe,zJ]
  rfl
 ·rintro D ys H2 ⟨rfl,e2,s2,n2⟩;exact⟨_,.inl (SqL.of e2),λp H3 s3 h3=>q p H3 (s2.trans s3) h3⟩
def ay(K:W.Frag):Sp:=λvs H Q _=>∃(r a:Addr)(k:List Bool)(us:List V)(ps:List (Nat×Bool)),vs=[.ref r,.ref a]/\SqT K H r (k.map V.bl)/\SqT K H a us/\PairsAt K H us ps/\(∀p∈ps,p.1<k.length)/\Q (.bl (agr k ps)) H
theorem Ue(D:Def K mg "agrees" (top 25) ["row","part"]):zy P w K mg base 1 "agrees" ["row","part"] (ay K):=by
 refine D.callee (N:=["row","part","number","truth"]) (by walk_at"sc") (by walk_at"ln") λf cdv A outer s H vs Q E hr nd h=>?_;obtain⟨r,a,k,us,ps,rfl,hk,ha,hP,aI,q⟩:=h;refine⟨[some (.ref r),some (.ref a),none,none],_,rfl,(z5 (xq yM rfl (yw (z8 1)) (Qi 2 3 rfl nd) (z4 (y6 (zg (di hr.units) (zd (z8 0) (z8 2) (λ_ _=>rfl)) (z8 3) (zi _)) (z4 (zv wn)) zm)))
  (z4 (zv wn))),?_⟩
 walk_at"rp";refine .inr ⟨⟨_,ha⟩,xh (xs:=us) (λi σ H2=>∃x2 x3,σ=[some (.ref r),some (.ref a),x2,x3]/\H2=H/\agr k (ps.take i)=true) ⟨none,none,rfl,rfl,rfl⟩ ?_ ?_ ?_⟩
 ·rintro i σ H2 _ ⟨x2,x3,rfl,rfl,_⟩;exact ha
 ·rintro i x σ H2 hx ⟨x2,x3,rfl,rfl,Aj⟩;obtain⟨b,p,hp,rfl,hb⟩:=hP.at i x hx;have Ae:=zN hp;walk_at"rp";refine⟨b,_,_,rfl,hb,?_⟩;walk_at"rp";refine⟨_,_,.inr hk,wf (aI p Ae),?_⟩;walk_at"rp";have he:decide (k.getD p.1 false=p.2)=(k.getD p.1 false==p.2):=by cases k.getD p.1 false<;>cases p.2<;>rfl
  rw[he];cases hc:(k.getD p.1 false==p.2)with
  |true =>
   walk_at"rp";exact⟨_,_,rfl,trivial,by rw[jk hp,Aj,hc];rfl⟩
  |false =>
   walk_at"rp";rw[Iv Ae hc]at q;exact q
 ·rintro σ H2 ⟨x2,x3,rfl,rfl,Aj⟩;walk_at"rp";rw[hP.len,zB]at Aj;rw[Aj]at q;exact q
def R9(K:W.Frag):Sp:=λvs H Q _=>∃(r a:Addr)(R:List (Addr×List Bool))(us:List V)(ps:List (Nat×Bool)),vs=[.ref r,.ref a]/\SqL K H r (R.map λq=>V.ref q.1)/\(∀q∈R,SqT K H q.1 (q.2.map V.bl))/\SqT K H a us/\PairsAt K H us ps/\(∀q∈R,∀p∈ps,p.1<q.2.length)/\Q (.bl (R.any λq=>agr q.2 ps)) H
theorem ja(D:Def K mg "any_agrees" (top 26) ["rows","part"])(rT:zy P w K mg base 1 "agrees" ["row","part"] (ay K)):zy P w K mg base 2 "any_agrees" ["rows","part"] (R9 K):=by
 refine D.callee (N:=["rows","part","row"]) (by walk_at"sc") (by walk_at"ln") λf cdv A outer s H vs Q E hr nd h=>?_;obtain⟨r,a,R,us,ps,rfl,nE,hR,ha,hP,aI,q⟩:=h;refine⟨[some (.ref r),some (.ref a),none],_,rfl,(z5 (xq yM rfl (yw (z8 0)) (wo 2 nd) (z4 (y6 (vv (zw rT hr (by lia) (z9 (z8 2) (z9 (z8 1) z6)))) (z4 (zv wn)) zm)))
  (z4 (zv wn))),?_⟩
 walk_at"rp";refine .inl ⟨⟨_,nE⟩,vm (xs:=R.map λq=>V.ref q.1) (λi σ H2=>∃x2,σ=[some (.ref r),some (.ref a),x2]/\H2=H/\((R.take i).any λq=>agr q.2 ps)=false) ⟨none,rfl,rfl,rfl⟩ ?_ ?_ ?_⟩
 ·rintro i σ H2 _ ⟨x2,rfl,rfl,_⟩;exact nE
 ·rintro i x σ H2 hx ⟨x2,rfl,rfl,eQ⟩;rw[zT]at hx;cases hi:R[i]? with
  |none=>rw[hi]at hx;cases hx
  |some e =>
   rw[hi]at hx;cases hx;have hm:=zN hi;walk_at"rp";refine⟨e.1,a,e.2,us,ps,rfl,hR e hm,ha,hP,aI e hm,?_⟩;walk_at"rp";refine vp (λc9=>?_) (λc9=>?_)
   ·have:(R.any λq=>agr q.2 ps)=true:=yD.mpr ⟨e,hm,c9⟩;rw[this]at q;exact q
   ·refine⟨_,rfl,trivial,?_⟩;rw[yY,hi,List.any_append,eQ];simpa using c9
 ·rintro σ H2 ⟨x2,rfl,rfl,eQ⟩;walk_at"rp";rw[zY,zB]at eQ;rw[eQ]at q;exact q
def wu(p:Nat×Bool)(ps:List (Nat×Bool)):List (Nat×Bool):=ps.filter λq=>decide (q≠p)
theorem ka{p q:Nat×Bool}{ps:List (Nat×Bool)}{i:Nat}(h:ps[i]?=some q):wu p (ps.take (i+1))=wu p (ps.take i)++(if q=p then[]else[q]):=by
 unfold wu;rw[yY,h,wF]
 by_cases e:q=p
 ·simp[e]
 ·simp[e]
def ij(K:W.Frag):Sp:=λvs H Q _=>∃(a b:Addr)(us:List V)(ps:List (Nat×Bool))(p:Nat×Bool),vs=[.ref a,.ref b]/\SqT K H a us/\PairsAt K H us ps/\ps.length<64/\SqT K H b [.int (p.1:Int),.bl p.2] /\
 ∀(r:Addr)(H':Hp)(oE:List V),Same H H'->SqT K H' r oE->PairsAt K H' oE (wu p ps)->Q (.ref r) H'
theorem Yd(D:Def K mg "without" (top 33) ["part","pair"])(aC:mg "tuple"=none):zy P w K mg base 1 "without" ["part","pair"] (ij K):=by
 refine D.callee (N:=["part","pair"]) (by walk_at"sc") (by walk_at"ln") λf cdv A outer s H vs Q E hr nd h=>?_;obtain⟨a,b,us,ps,p,rfl,ha,hP,mD,hb,q⟩:=h;refine⟨[some (.ref a),some (.ref b)],_,rfl,(z4 (zv (ze yg rfl aC yo (z9 (yc (ixs:=[1]) (zo (own:=["kept"]) (N:=["pair"]) rfl rfl rfl rfl rfl rfl rfl (by decide +kernel) rfl rfl rfl) rfl (yw (z8 0)) (λ_ _ _ _=>(vq (zg (di hr.units) (z8 0) (z8 1) (zi _)))) (λ_ _ _ _=>(z8 0)) rfl) z6)))),?_⟩;walk_at"rp";refine .inr ⟨⟨_,ha⟩,λC s₀ H₀ ex=>?_⟩;have hl:=hP.len;refine vh (xs:=us) (λD n ys H3=>PairsAt K H ys (wu p (ps.take n))/\ys.length<=n/\H3 D=some (.lst ys)/\Same H H3/\H D=none) (by rw[zM];lia) ?_ ?_ ?_ ?_
 ·intro D H3 n3 s3 e3;exact⟨trivial,zU _,e3,s3,n3⟩
 ·rintro D n ys H3 ⟨_,hy,e3,s3,_⟩;exact⟨(z7 s3).sqT ha,e3,hy⟩
 ·rintro D n v ys H3 hv ⟨hy,fQ,e3,s3,n3⟩;obtain⟨c,p2,iK,rfl,hc⟩:=hP.at n v hv;have hn:n<us.length:=(zW.mp hv).1;walk_at"rp";refine⟨_,_,Zu ((z7 s3).sqT hc),Zu ((z7 s3).sqT hb),om _,om _,?_⟩;rw[Pe]
  by_cases e:p2=p
  ·have:decide ((((p2.1:Nat):Int),p2.2)=(((p.1:Nat):Int),p.2))=true:=by rw[e];simp
   rw[this];walk_at"rp";refine CN.mk hn ⟨?_,by lia,e3,s3,n3⟩;rw[ka iK,yV e,List.append_nil];exact hy
  ·have:decide ((((p2.1:Nat):Int),p2.2)=(((p.1:Nat):Int),p.2))=false:=by
    refine yO λz=>e ?_;injection z with z1 z2;exact Prod.ext (Int.ofNat.inj z1) z2
   rw[this];walk_at"rp";refine⟨e3,CN.mk hn ⟨?_,by rw[zP];simp only[yL,wW];lia,zx,zu s3 n3 _,n3⟩⟩;rw[ka iK,zC e];exact PairsAt.app hy ⟨⟨c,rfl,hc⟩,trivial⟩
 ·rintro D ys H3 ⟨hy,fQ,e3,s3,n3⟩;walk_at"rp";rw[hl,zB]at hy;exact⟨_,.inl (SqL.of e3),λr H4 s4 h4=>q r H4 ys (s3.trans s4) h4 (hy.mono (z7 (s3.trans s4)))⟩
def yj(R:List (List Bool))(os:List (Nat×Bool))(l nd:List (Nat×Bool)):List (Nat×Bool):=l.foldl (λnd p=>if(R.any λk=>agr k (wu p nd++os))=true then nd else wu p nd) nd
theorem gf(p:Nat×Bool)(ps:List (Nat×Bool)):(wu p ps).length<=ps.length:=xE _ _
theorem gg{p q:Nat×Bool}{ps:List (Nat×Bool)}(h:q∈wu p ps):q∈ps:=(xP.mp h).1
theorem X1{R:List (List Bool)}{os l nd:List (Nat×Bool)}{i:Nat}{p:Nat×Bool}(h:l[i]?=some p):yj R os (l.take (i+1)) nd=if(R.any λk=>agr k (wu p (yj R os (l.take i) nd)++os))=true then yj R os (l.take i) nd else wu p (yj R os (l.take i) nd):=by
 unfold yj;rw[yY,h,List.foldl_append]
 rfl
theorem Ox{R:List (Addr×List Bool)}{f:List Bool->Bool}:(R.any λq=>f q.2)=((R.map (·.2)).any f):=by
 rw[List.any_map];rfl
def bd(K:W.Frag):Sp:=λvs H Q _=>∃(r a o:Addr)(R:List (Addr×List Bool))(us ws:List V)(ps os:List (Nat×Bool)),vs=[.ref r,.ref a,.ref o]/\SqL K H r (R.map λq=>V.ref q.1)/\(∀q∈R,SqT K H q.1 (q.2.map V.bl))/\SqT K H a us/\PairsAt K H us ps/\SqT K H o ws/\PairsAt K H ws os /\
 ps.length<64/\os.length<64/\(∀q∈R,∀p∈ps,p.1<q.2.length)/\(∀q∈R,∀p∈os,p.1<q.2.length) /\
 ∀(c:Addr)(H':Hp)(oE:List V),Same H H'->SqT K H' c oE->PairsAt K H' oE (yj (R.map (·.2)) os ps ps)->Q (.ref c) H'
theorem Um(D:Def K mg "needed_against" (top 34) ["rows","part","others"])(pR:zy P w K mg base 1 "without" ["part","pair"] (ij K))(cF:zy P w K mg base 2 "any_agrees" ["rows","part"] (R9 K)):zy P w K mg base 3 "needed_against" ["rows","part","others"] (bd K):=by
 refine D.callee (N:=["rows","part","others","needed","pair","less"]) (by walk_at"sc") (by walk_at"ln") λf cdv A outer s H vs Q E hr nd h=>?_;obtain⟨r,a,o,R,us,ws,ps,os,rfl,nE,hR,ha,hP,ho,hO,mD,h64',aI,nJ,q⟩:=h;refine⟨[some (.ref r),some (.ref a),some (.ref o),none,none,none],_,rfl,(z5 (zn 3 nd (z8 1))
  (z5 (xq yM rfl (yw (z8 1)) (wo 4 nd) (z5 (zn 5 nd (zw pR hr (by lia) (z9 (z8 3) (z9 (z8 4) z6))))
  (z4 (y6 (u5 (vv (zw cF hr (by lia) (z9 (z8 0) (z9 (zt zj (z8 5) (z8 2)) z6))))) (z4 (zn 3 nd (z8 5))) zm))))
  (z4 (zv (z8 3))))),?_⟩
 have hl:=hP.len;walk_at"rp";refine .inr ⟨⟨_,ha⟩,xh (xs:=us) (λi σ H2=>∃c cs x4 x5,σ=[some (.ref r),some (.ref a),some (.ref o),some (.ref c),x4,x5]/\Same H H2/\SqT K H2 c cs/\PairsAt K H2 cs (yj (R.map (·.2)) os (ps.take i) ps)/\(∀p∈yj (R.map (·.2)) os (ps.take i) ps,p∈ps)/\(yj (R.map (·.2)) os (ps.take i) ps).length<=ps.length) ⟨a,us,none,none,rfl,Same.refl _,ha,hP,λp hp=>hp,zU _⟩ ?_ ?_ ?_⟩
 ·rintro i σ H2 _ ⟨c,cs,x4,x5,rfl,s2,_⟩;exact(z7 s2).sqT ha
 ·rintro i x σ H2 hx ⟨c,cs,x4,x5,rfl,s2,hc,Af,lZ,fT⟩;obtain⟨b,p,hp,rfl,hb⟩:=hP.at i x hx;walk_at"rp";refine⟨c,b,cs,_,p,rfl,hc,Af,by lia,(z7 s2).sqT hb,λd H3 ds s3 hd A2=>?_⟩;walk_at"rp";have AQ:=s2.trans s3;have EO:=gf p (yj (R.map (·.2)) os (ps.take i) ps);refine .inr ⟨ds,ws,hd,(z7 AQ).sqT ho,by rw[A2.len,hO.len,zM];lia,λe H4 s4 he=>?_⟩;have qJ:=AQ.trans s4;refine⟨r,e,R,ds++ws,wu p (yj (R.map (·.2)) os (ps.take i) ps)++os,rfl,qJ.seq nE,λq hq=>(z7 qJ).sqT (hR q hq),he,PairsAt.app (A2.mono (z7 s4)) (hO.mono (z7 qJ)),λq hq y hy=>?_,?_⟩
  ·rcases zK.mp hy with z|z
   ·exact aI q hq y (lZ y (gg z))
   ·exact nJ q hq y z
  walk_at"rp";rw[X1 hp,Ox (f:=λk=>agr k (wu p (yj (R.map (·.2)) os (ps.take i) ps)++os))];cases hc9:((R.map (·.2)).any λk=>agr k (wu p (yj (R.map (·.2)) os (ps.take i) ps)++os))with
  |true =>
   walk_at"rp";exact⟨c,cs,_,_,rfl,qJ,(z7 (s3.trans s4)).sqT hc,Af.mono (z7 (s3.trans s4)),lZ,fT⟩
  |false =>
   walk_at"rp";exact⟨d,ds,_,_,rfl,qJ,(z7 s4).sqT hd,A2.mono (z7 s4),λy hy=>lZ y (gg hy),by lia⟩
 ·rintro σ H2 ⟨c,cs,x4,x5,rfl,s2,hc,Af,_⟩;walk_at"rp";rw[hl,zB]at Af;exact q c H2 cs s2 hc Af
theorem sz1{a:V}:[a].length<=sizeLine:=by simp only[yL,wW];rw[zM];decide
theorem sz2{a b:V}:[a,b].length<=sizeLine:=by simp only[yL,wW];rw[zM];decide
def ReasonAt(K:W.Frag)(H:Hp)(v:V)(word:Str)(xs:List V):Prop:=∃r c,v = .ref r/\SqT K H r [.str word,.ref c]/\SqT K H c xs
theorem ReasonAt.mono{K:W.Frag}{H H':Hp}{v:V}{word:Str}{xs:List V}(t:Tups H H')(h:ReasonAt K H v word xs):ReasonAt K H' v word xs :=
 let⟨r,c,e,a,b⟩:=h;⟨r,c,e,t.sqT a,t.sqT b⟩
def qw(K:W.Frag):Sp:=λvs H Q _=>∃(a:Addr)(J:List (Addr×List Bool))(m j:Nat)(t:Bool),vs=[.ref a,.int (j:Int),.bl t]/\JudgesAt K H a J m/\j<m /\
 ∀(v:V)(H':Hp),Same H H'->ReasonAt K H' v "judges" ((yq (J.map (·.2)) j t J.length).map λn=>V.int ((n:Nat):Int))->Q v H'
theorem qf(D:Def K mg "by_judges" (top 36) ["judges","number","truth"])(bF:zy P w K mg base 1 "who_say" ["judges","number","truth"] (Wt K))(aC:mg "tuple"=none):zy P w K mg base 2 "by_judges" ["judges","number","truth"] (qw K):=by
 refine D.callee (N:=["judges","number","truth"]) (by walk_at"sc") (by walk_at"ln") λf cdv A outer s H vs Q E hr nd h=>?_;obtain⟨a,J,m,j,t,rfl,hJ,hj,q⟩:=h;refine⟨[some (.ref a),some (.int (j:Int)),some (.bl t)],_,rfl,(z4 (zv (wb (z9 zp (z9 (ze yg rfl aC yo (z9 (zw bF hr (by lia) (z9 (z8 0) (z9 (z8 1) (z9 (z8 2) z6)))) z6)) z6))))),?_⟩;walk_at"rp";refine⟨a,J,m,j,t,rfl,hJ,hj,λp H1 n1 s1 e1=>?_⟩;walk_at"rp";refine⟨_,.inl (SqL.of e1),λc H2 s2 h2=>⟨sz2,λr H3 n3 s3 e3=>?_⟩⟩;exact q _ H3 (s1.trans (s2.trans s3)) ⟨r,c,rfl,SqT.of e3,(z7 s3).sqT h2⟩
def a8(K:W.Frag):Sp:=λvs H Q _=>∃(r a:Addr)(R:List (Addr×List Bool))(us:List V)(ps:List (Nat×Bool))(j:Nat)(t:Bool),vs=[.ref r,.ref a,.int (j:Int),.bl t]/\SqL K H r (R.map λq=>V.ref q.1)/\(∀q∈R,SqT K H q.1 (q.2.map V.bl))/\SqT K H a us/\PairsAt K H us ps/\ps.length<64/\(∀q∈R,∀p∈ps,p.1<q.2.length)/\(∀q∈R,j<q.2.length) /\
 ∀(v:V)(H':Hp)(oE:List V),Same H H'->ReasonAt K H' v "follows" oE->PairsAt K H' oE (yj (R.map (·.2)) [(j,!t)] ps ps)->Q v H'
theorem X6(D:Def K mg "by_part" (top 37) ["rows","part","number","truth"])(fY:zy P w K mg base 3 "needed_against" ["rows","part","others"] (bd K)):zy P w K mg base 4 "by_part" ["rows","part","number","truth"] (a8 K):=by
 refine D.callee (N:=["rows","part","number","truth"]) (by walk_at"sc") (by walk_at"ln") λf cdv A outer s H vs Q E hr nd h=>?_;obtain⟨r,a,R,us,ps,j,t,rfl,nE,hR,ha,hP,mD,aI,hj,q⟩:=h;refine⟨[some (.ref r),some (.ref a),some (.int (j:Int)),some (.bl t)],_,rfl,(z4 (zv (wb (z9 zp (z9 (zw fY hr (by lia) (z9 (z8 0) (z9 (z8 1) (z9 (wb (z9 (wb (z9 (z8 2) (z9 (Z4 (z8 3)) z6))) z6)) z6)))) z6))))),?_⟩;walk_at"rp";refine⟨sz2,λx H1 n1 s1 e1=>⟨sz1,λy H2 n2 s2 e2=>?_⟩⟩;have eZ:=s1.trans s2;refine⟨r,a,y,R,us,[.ref x],ps,[(j,!t)],rfl,eZ.seq nE,λq hq=>(z7 eZ).sqT (hR q hq),(z7 eZ).sqT ha,hP.mono (z7 eZ),SqT.of e2,⟨⟨x,rfl,(z7 s2).sqT (SqT.of e1)⟩,trivial⟩,mD,(by show 1<64;decide),aI,λq hq p hp=>?_,λc H3 oE s3 h3 h4=>?_⟩
 ·rw[zO.mp hp];exact hj q hq
 walk_at"rp";refine⟨sz2,λz H4 n4 s4 e4=>?_⟩;exact q _ H4 oE (eZ.trans (s3.trans s4)) ⟨z,c,rfl,SqT.of e4,(z7 s4).sqT h3⟩ (h4.mono (z7 s4))
def rsnOk(K:W.Frag)(H:Hp)(R J:List (List Bool))(said:Nat->Bool)(tk:List (Nat×Bool))(n:Nat)(v:V):Prop :=
 (yl R said tk n=said n/\ReasonAt K H v "judges" ((yq J n (said n) J.length).map λn=>V.int ((n:Nat):Int))) \/
 (yl R said tk n=!said n/\∃(ps:List (Nat×Bool))(us:List V),ps.Perm tk/\ps.Pairwise (λa b=>a.1<b.1)/\ReasonAt K H v "follows" us/\PairsAt K H us (yj R [(n,said n)] ps ps))
theorem rsnOk.mono{K:W.Frag}{H H':Hp}{R J:List (List Bool)}{said:Nat->Bool}{tk:List (Nat×Bool)}{n:Nat}{v:V}(t:Tups H H'):rsnOk K H R J said tk n v->rsnOk K H' R J said tk n v
 | .inl ⟨h,r⟩=>.inl ⟨h,r.mono t⟩
 | .inr ⟨h,ps,us,hp,hs,r,pr⟩=>.inr ⟨h,ps,us,hp,hs,r.mono t,pr.mono t⟩
def kvR(ns:List Nat)(rv:List V):List (Key×V):=(ns.zip rv).map λp=>(Sum.inl ((p.1:Nat):Int),p.2)
theorem Mr{ns:List Nat}{rv:List V}(n:Nat)(v:V)(h:ns.length=rv.length):kvR (ns++[n]) (rv++[v])=kvR ns rv++[(Sum.inl ((n:Nat):Int),v)]:=by
 unfold kvR;rw[List.zip_append h,zJ]
 rfl
theorem Ms{ns:List Nat}{rv:List V}{p:Key×V}(h:p∈kvR ns rv):∃n∈ns,p.1=Sum.inl ((n:Nat):Int):=by
 obtain⟨q,hq,rfl⟩:=zD.mp h;exact⟨q.1,(List.of_mem_zip hq).1,rfl⟩
theorem Vx:∀{ns:List Nat}{rv:List V}{j n:Nat}{v:V},ns.Nodup->ns[j]?=some n->rv[j]?=some v->rq (kvR ns rv) (Sum.inl ((n:Nat):Int))=some v
 |[],_,_,_,_,_,h,_=>by simp at h
 |_::_,[],_,_,_,_,_,h=>by simp at h
 |m::ns,u::rv,0,n,v,_,h1,h2=>by
  cases h1;cases h2;exact ub rfl
 |m::ns,u::rv,j+1,n,v,hn,h1,h2=>by
  rw[wK]at hn;have pN:ns[j]?=some n:=h1;show rq ((Sum.inl ((m:Nat):Int),u)::kvR ns rv) _=some v;rw[ua λz=>?_]
  ·exact Vx hn.2 pN h2
  ·have z2:((m:Nat):Int)=(n:Int):=Sum.inl.inj z;have z3:m=n:=Int.ofNat.inj z2;exact hn.1 (z3▸zN pN)
theorem Mq{tk:List (Nat×Bool)}{p:Key×V}(h:p∈kvI (wm tk)):∃n∈tk.map (·.1),p.1=Sum.inl ((n:Nat):Int):=by
 obtain⟨q,hq,rfl⟩:=zD.mp h;obtain⟨q',BO,rfl⟩:=zD.mp hq;exact⟨q'.1,yG BO,rfl⟩
theorem Mp(tk:List (Nat×Bool))(n:Nat)(b:Bool):kvI (wm (tk++[(n,b)]))=kvI (wm tk)++[(Sum.inl ((n:Nat):Int),V.bl b)]:=by
 unfold kvI wm;rw[zJ,zJ]
 rfl
theorem Pp{ns:List Nat}{n:Nat}(h:n∉ns){k:Key}(hk:∃m∈ns,k=Sum.inl ((m:Nat):Int)):k≠Sum.inl ((n:Nat):Int):=by
 rintro rfl;obtain⟨m,hm,e⟩:=hk;have e2:((n:Nat):Int)=(m:Int):=Sum.inl.inj e;have e3:n=m:=Int.ofNat.inj e2;exact h (e3▸hm)
theorem Qk{l:List Nat}(hN:l.Nodup){i j x:Nat}(a:l[i]?=some x)(b:l[j]?=some x):i=j:=by
 obtain⟨h1,e1⟩:=zW.mp a;obtain⟨h2,e2⟩:=zW.mp b;exact(List.getElem_inj hN).mp (e1.trans e2.symm)
theorem Sv{ord:List Nat}(hn:ord.Nodup){i n:Nat}(h:ord[i]?=some n):n∉ord.take i:=by
 intro z;obtain⟨j,hj,e⟩:=vZ z;rw[yS]at hj;rw[List.getElem_take]at e;have e1:ord[j]?=some n:=zW.mpr ⟨by lia,e⟩;have:=Qk hn e1 h;lia
theorem ak{K:W.Frag}{H:Hp}:∀{ps:List (Addr×(Int×Bool))}{qs:List (Nat×Bool)},ps.map (·.2)=wm qs->(∀p∈ps,SqT K H p.1 [.int p.2.1,.bl p.2.2])->PairsAt K H (ps.map λp=>V.ref p.1) qs
 |[],[],_,_=>trivial
 |[],_::_,h,_=>by simp[wm]at h
 |_::_,[],h,_=>by simp[wm]at h
 |p::ps,q::qs,h,hp=>by
  have h':p.2::ps.map (·.2)=(((q.1:Nat):Int),q.2)::wm qs:=h;obtain⟨h1,h2⟩:=List.cons.inj h';refine⟨⟨p.1,rfl,?_⟩,ak h2 λp' iB=>hp p' (zH _ iB)⟩;have:=hp p zG;rw[h1]at this;exact this
theorem Oy{R:List (Addr×List Bool)}{ps tk:List (Nat×Bool)}(h:ps.Perm tk)(x:Nat×Bool):(R.any λq=>agr q.2 (ps++[x]))=((R.map (·.2)).any λk=>agr k (tk++[x])):=by
 rw[List.any_map]
 congr 1
 funext q
 exact Ou (h.append_right [x])
theorem Nu{ps:List (Nat×Bool)}(hn:(ps.map (·.1)).Nodup)(h:(wm ps).Pairwise λa b=>pLt b a=false):ps.Pairwise λa b=>a.1<b.1:=by
 have h1:ps.Pairwise λa b=>pLt (((b.1:Nat):Int),b.2) (((a.1:Nat):Int),a.2)=false:=by
  unfold wm at h;exact wB.mp h
 have h2:ps.Pairwise λa b=>a.1≠b.1:=by
  have:=wB.mp hn;exact this
 refine(h1.and h2).imp λ{a b} kX=>?_;obtain⟨z1,z2⟩:=kX;simp only[pLt]at z1
 by_cases aI:b.1<a.1
 ·have:((b.1:Nat):Int)<(a.1:Int):=by lia
  simp[this]at z1;lia
 ·lia
theorem m4{ks:List (List Bool)}{m n:Nat}(h:n<m):atI ((xk ks m).map V.bl) ((n:Nat):Int)=some (V.bl (zk ks n)):=yf (by simp[xk,h])
def uz(K:W.Frag):Sp:=λvs H Q _=>∃(a jd o:Addr)(us:List V)(ts:List Say)(xs:List Str)(J:List (Addr×List Bool))(ord:List Nat),vs=[.ref a,.ref jd,.ref o]/\SqT K H a us/\SaysAt K H us ts/\Lst ts xs/\JudgesAt K H jd J ts.length/\SqT K H o (ord.map λn=>V.int ((n:Nat):Int))/\ord.Nodup/\(∀n,n∈ord↔n<ts.length) /\
 ∀(r c l:Addr)(H':Hp)(ss:List Str)(R:List (List Bool))(row:List Bool)(rs:List V),Same H H'->NamesOf ts ss->FitRows ts ss R->H r=none->SqT K H' r [.ref c,.ref l]->SqT K H' c (row.map V.bl)->row.length=ts.length ->
  (∀j b,row[j]?=some b->(j,b)∈zf R (zk (J.map (·.2))) ord)->H l=none->H' l=some (.lst rs)->rs.length=ts.length->(∀n v,rs[n]?=some v->∃j,ord[j]?=some n/\rsnOk K H' R (J.map (·.2)) (zk (J.map (·.2))) (zf R (zk (J.map (·.2))) (ord.take j)) n v)->Q (.ref r) H'
def IoInv(K:W.Frag)(R J:List (List Bool))(said:Nat->Bool)(ord:List Nat)(H2:Hp)(d1 d2:Addr)(pre:St)(i:Nat)(σ:St)(H5:Hp):Prop:=∃(x7 x8:Option V)(rv:List V),σ=pre++[x7,x8,none] /\
  H5 d1=some (.dK (kvI (wm (zf R said (ord.take i)))))/\rv.length=i/\H5 d2=some (.dK (kvR (ord.take i) rv))/\(∀(j n:Nat) v,ord[j]?=some n->rv[j]?=some v->rsnOk K H5 R J said (zf R said (ord.take j)) n v)/\Same H2 H5/\i<=ord.length
theorem IoInv.mk{K:W.Frag}{R J:List (List Bool)}{said:Nat->Bool}{ord:List Nat}{H2:Hp}{d1 d2:Addr}{pre:St}{i:Nat}{σ:St}{H5:Hp}(x7 x8:Option V)(rv:List V)(h0:σ=pre++[x7,x8,none])(h1:H5 d1=some (.dK (kvI (wm (zf R said (ord.take i))))))(h2:rv.length=i)(h3:H5 d2=some (.dK (kvR (ord.take i) rv)))
  (h4:∀(j n:Nat) v,ord[j]?=some n->rv[j]?=some v->rsnOk K H5 R J said (zf R said (ord.take j)) n v) (h5:Same H2 H5) (h6:i<=ord.length):IoInv K R J said ord H2 d1 d2 pre i σ H5:=⟨x7,x8,rv,h0,h1,h2,h3,h4,h5,h6⟩
theorem ae(D:Def K mg "in_order" (top 38) ["sayings","judges","order"])(eV:zy P w K mg base 44 "fit_rows" ["sayings"] (uy K))(gA:zy P w K mg base 3 "most" ["judges"] (Yx K))(cF:zy P w K mg base 2 "any_agrees" ["rows","part"] (R9 K))(dW:zy P w K mg base 2 "by_judges" ["judges","number","truth"] (qw K))(pX:zy P w K mg base 4 "by_part" ["rows","part","number","truth"] (a8 K))(aC:mg "tuple"=none)(aF:mg "sorted"=none)(aA:mg "range"=none)(aB:mg "len"=none):zy P w K mg base 45 "in_order" ["sayings","judges","order"] (uz K):=by
 refine D.callee (N:=["sayings","judges","order","rows","said","taken","reasons","number","ahead","row"]) (by walk_at"sc") (by walk_at"ln") λf cdv A outer s H vs Q E hr nd h=>?_;obtain⟨a,jd,o,us,ts,xs,J,ord,rfl,ha,hS,hL,hJ,ho,lX,dA,q⟩:=h;have h6:=hL.hi;have lW:ord.length<=6:=by
  have:=v9 (m:=List.range ts.length) lX λn hn=>yH.mpr ((dA n).mp hn);rw[xY]at this;lia
 refine⟨[some (.ref a),some (.ref jd),some (.ref o),none,none,none,none,none,none,none],_,rfl,(z5 (zn 3 nd (zw eV hr (by lia) (z9 (z8 0) z6)))
  (z5 (zn 4 nd (zw gA hr (by lia) (z9 (z8 1) z6)))
  (z5 (zn 5 nd Qd)
  (z5 (zn 6 nd Qd)
  (z5 (xq yM rfl (N4 (z8 2)) (wo 7 nd) (z5 (zn 8 nd (ze yg rfl aC yo (z9 (i7 rfl rfl aF (z8 5)) z6)))
  (z4 (y6 (vv (zw cF hr (by lia) (z9 (z8 3) (z9 (zt Jv (z8 8) (wb (z9 (wb (z9 (z8 7) (z9 (zd (z8 4) (z8 7) (λ_ _=>rfl)) z6))) z6))) z6)))) (z5 (dj hr.units (z8 5) (z8 7) (zd (z8 4) (z8 7) (λ_ _=>rfl)))
  (z4 (dj hr.units (z8 6) (z8 7) (zw dW hr (by lia) (z9 (z8 1) (z9 (z8 7) (z9 (zd (z8 4) (z8 7) (λ_ _=>rfl)) z6))))))) (z5 (dj hr.units (z8 5) (z8 7) (Z4 (zd (z8 4) (z8 7) (λ_ _=>rfl))))
  (z4 (dj hr.units (z8 6) (z8 7) (zw pX hr (by lia) (z9 (z8 3) (z9 (z8 8) (z9 (z8 7) (z9 (Xu hr.units (z8 5) (z8 7) (λ_ _=>rfl)) z6))))))))))))
  (z5 (zn 9 nd (ze yg rfl aC yo (z9 (yc (ixs:=[5]) (zo (own:=["number"]) (N:=["taken"]) rfl rfl rfl rfl rfl rfl rfl (by decide +kernel) rfl rfl rfl) rfl (yp rfl aA (z9 (zq yi rfl aB yy (z9 (z8 0) z6)) z6)) (λ_ _ _ _=>yu) (λ_ _ _ _=>(Xu hr.units (z8 1) (z8 0) (λ_ _=>rfl))) rfl) z6)))
  (z4 (zv (wb (z9 (z8 9) (z9 (yc (ixs:=[6]) (zo (own:=["number"]) (N:=["reasons"]) rfl rfl rfl rfl rfl rfl rfl (by decide +kernel) rfl rfl rfl) rfl (yp rfl aA (z9 (zq yi rfl aB yy (z9 (z8 0) z6)) z6)) (λ_ _ _ _=>yu) (λ_ _ _ _=>(Xu hr.units (z8 1) (z8 0) (λ_ _=>rfl))) rfl) z6))))))))))),?_⟩
 simp only[Ss];walk_at"rs";refine⟨a,us,ts,xs,rfl,ha,hS,hL,λr H1 ss R n1 s1 e1 hR hN hF hR32=>?_⟩;walk_at"rs";refine⟨jd,J,ts.length,rfl,hJ.mono (z7 s1),by lia,λsd H2 s2 hsd=>?_⟩;walk_at"rs";intro d1 H3 n3 s3 e3;walk_at"rs";intro d2 H4 n4 s4 e4;have n4':H2 d2=none:=y9 s3 n4;have Bg:d1≠d2:=λz=>by rw[<-z,e3]at n4;cases n4
 have oS:∀q∈R,q.2.length=ts.length:=λq hq=>u8 hF (yG hq);generalize hsaid:zk (J.map (·.2))=said at q;have BM:∀n,zk (J.map (·.2)) n=said n:=λn=>by rw[hsaid]
 simp only[Ss];walk_at"rs";refine⟨⟨_,(z7 (s1.trans (s2.trans (s3.trans s4)))).sqT ho⟩,xh (xs:=ord.map λn=>V.int ((n:Nat):Int)) (IoInv K (R.map (·.2)) (J.map (·.2)) said ord H2 d1 d2 [some (.ref a),some (.ref jd),some (.ref o),some (.ref r),some (.ref sd),some (.ref d1),some (.ref d2)])
  (IoInv.mk none none [] rfl (s4 _ _ e3) rfl e4 (λj n v _ h=>by simp at h) (s3.trans s4) (yR _)) ?_ ?_ ?_⟩
 ·rintro i σ H5 _ ⟨x7,x8,rv,rfl,_,_,_,_,s5,_⟩;exact(z7 (s1.trans (s2.trans s5))).sqT ho
 ·rintro i x σ H5 hx ⟨x7,x8,rv,rfl,hh⟩;have Cn:=hh.1;have C9:=hh.2.1;have FM:=hh.2.2.1;have gG:=hh.2.2.2.1;have s5:=hh.2.2.2.2.1;have hi:=hh.2.2.2.2.2;clear hh;rw[zT]at hx;cases hn:ord[i]? with
  |none=>rw[hn]at hx;cases hx
  |some n =>
  rw[hn]at hx;cases hx;have mQ:n<ts.length:=(dA n).mp (zN hn);have EK:=Sv lX hn;generalize htk:zf (R.map (·.2)) said (ord.take i)=tk at Cn;have Ei:=va (R:=R.map (·.2)) (said:=said) hn;rw[htk]at Ei;have gI:tk.map (·.1)=ord.take i:=by rw[<-htk];exact xw _ _ _
  have htl:tk.length=i:=by
   have:=xK List.length gI;rw[zY,yS]at this;lia
  have bT:i<ord.length:=(zW.mp hn).1;walk_at"rp";refine⟨wm tk,Cn,by unfold wm;rw[zY];lia,λl6 ps H6 s6 cH hsrt qR hl6=>?_⟩;walk_at"rp";refine⟨_,.inl (SqL.of hl6),λc H7 s7 hc=>?_⟩;obtain⟨qs,hqs,Ew⟩:=Rc cH;have hP7:PairsAt K H7 (ps.map λp=>V.ref p.1) qs:=ak hqs λp hp=>(z7 s7).sqT (SqT.of (qR p hp));have hqm:∀p∈qs,p.1<ts.length:=λp hp=>by
   have h1:p.1∈tk.map (·.1):=yG (Ew.mem_iff.mp hp);rw[gI]at h1;exact(dA p.1).mp (wZ h1)
  have hql:qs.length=i:=by rw[Ew.length_eq,htl]
  have BA:=s6.trans s7;walk_at"rp";refine⟨_,_,.inr ((z7 (s5.trans BA)).sqT hsd),m4 mQ,?_⟩;rw[BM];refine⟨sz2,λt1 H8 n8 s8 e8=>⟨sz1,λt2 H9 n9 s9 e9=>?_⟩⟩;walk_at"rp";refine⟨_,_,(z7 (s8.trans s9)).sqT hc,SqT.of e9,by rw[zY,zM];have:=xK List.length hqs;rw[zY]at this;unfold wm at this;rw[zY]at this;simp only[yL,wW];lia,λp bZ mX hp=>?_⟩;have Am:Same H5 bZ:=BA.trans (s8.trans (s9.trans mX));have pD:=s5.trans Am;have lF:=s2.trans pD;have B8:Same H7 bZ:=s8.trans (s9.trans mX);have qN:=(z7 pD).sqT hsd;have hP10:PairsAt K bZ ((ps.map λp=>V.ref p.1)++[V.ref t1]) (qs++[(n,said n)]):=(hP7.mono (z7 B8)).app ⟨⟨t1,rfl,(z7 (s9.trans mX)).sqT (SqT.of e8)⟩,trivial⟩;refine⟨r,p,R,_,qs++[(n,said n)],rfl,lF.seq (SqL.of e1),λq hq=>(z7 lF).sqT (hR q hq),hp,hP10,λq hq z hz=>?_,?_⟩
  ·rw[oS q hq];rcases zK.mp hz with hz|hz
   ·exact hqm z hz
   ·rw[zO.mp hz];exact mQ
  walk_at"rp";rw[Oy Ew];have FN:bZ d1=some (.dK (kvI (wm tk))):=Am _ _ Cn;have e2d:bZ d2=some (.dK (kvR (ord.take i) rv)):=Am _ _ FM;have Dy:∀b:Bool,ud (kvI (wm tk)) (Sum.inl ((n:Nat):Int)) (V.bl b)=kvI (wm (tk++[(n,b)])):=λb=>by
   rw[Mp];exact Wf λz hz=>Pp EK (gI▸Mq hz)
  have Dx:∀v:V,ud (kvR (ord.take i) rv) (Sum.inl ((n:Nat):Int)) v=kvR (ord.take (i+1)) (rv++[v]):=λv=>by
   rw[yY,hn];show _=kvR (ord.take i++[n]) (rv++[v]);rw[Mr n v (by rw[yS,C9];lia)];exact Wf λz hz=>Pp EK (Ms hz)
  have aU:∀(v:V)(mU:Hp),Same (upd bZ d1 (.dK (kvI (wm (tk++[(n,yl (R.map (·.2)) said tk n)]))))) mU->rsnOk K mU (R.map (·.2)) (J.map (·.2)) said tk n v ->
    upd mU d2 (.dK (kvR (ord.take (i+1)) (rv++[v]))) d1=some (.dK (kvI (wm (zf (R.map (·.2)) said (ord.take (i+1))))))/\(rv++[v]).length=i+1/\(∀(j m:Nat) v',ord[j]?=some m->(rv++[v])[j]?=some v'->rsnOk K (upd mU d2 (.dK (kvR (ord.take (i+1)) (rv++[v])))) (R.map (·.2)) (J.map (·.2)) said (zf (R.map (·.2)) said (ord.take j)) m v')/\Same H2 (upd mU d2 (.dK (kvR (ord.take (i+1)) (rv++[v]))))/\mU d2=some (.dK (kvR (ord.take i) rv)):=by
   intro v mU eZ hv;have e12:mU d2=some (.dK (kvR (ord.take i) rv)):=eZ _ _ ((zh Bg.symm).trans e2d);have Aa:Tups mU (upd mU d2 (.dK (kvR (ord.take (i+1)) (rv++[v])))):=ng e12;refine⟨?_,by rw[zP,C9];rfl,λj m v' hj mZ=>?_,zu ((zu pD n3 _).trans eZ) n4' _,e12⟩
   ·rw[zh Bg,Ei];exact eZ _ _ zx
   ·by_cases hji:j<i
    ·rw[yK (by lia)]at mZ;exact(gG j m v' hj mZ).mono ((((z7 Am).trans (ng FN)).trans (z7 eZ)).trans Aa)
    ·have Ba:=(zW.mp mZ).1;rw[zP,C9]at Ba;have hj2:j=i:=by simp at Ba;lia
     subst hj2;rw[yI (by lia),C9,rX]at mZ;cases mZ;rw[hn]at hj;cases hj;rw[htk];exact hv.mono Aa
  refine vp (λc1=>?_) (λc1=>?_)
  ·have Eh:yl (R.map (·.2)) said tk n=said n:=by
    unfold yl;rw[yV c1]
   rw[Eh]at aU;refine⟨_,_,.inr qN,m4 mQ,⟨_,Sum.inl ((n:Nat):Int),FN,rfl,?_,?_⟩⟩
   ·unfold kvI wm;rw[zY,zY,zM];lia
   rw[BM,Dy];have Ab:Tups bZ (upd bZ d1 (.dK (kvI (wm (tk++[(n,said n)]))))):=ng FN;refine⟨_,_,.inr (Ab.sqT qN),m4 mQ,?_⟩;rw[BM];refine⟨jd,J,ts.length,n,said n,rfl,hJ.mono ((z7 (s1.trans lF)).trans Ab),mQ,λv mU eZ hv=>?_⟩;have ff:=aU v mU eZ (.inl ⟨Eh,by rw[zY];exact hv⟩);walk_at"rp";refine⟨_,Sum.inl ((n:Nat):Int),ff.2.2.2.2,rfl,?_,?_⟩
   ·unfold kvR;rw[zY,List.length_zip,yS,zM];lia
   rw[Dx];exact IoInv.mk _ _ _ rfl ff.1 ff.2.1 zx ff.2.2.1 ff.2.2.2.1 bT
  ·have Eh:yl (R.map (·.2)) said tk n=!said n:=by
    unfold yl;rw[zC c1]
   rw[Eh]at aU;refine⟨_,_,.inr qN,m4 mQ,?_⟩;walk_at"rp";refine⟨_,Sum.inl ((n:Nat):Int),FN,rfl,?_,?_⟩
   ·unfold kvI wm;rw[zY,zY,zM];lia
   rw[BM,Dy];have Ab:Tups bZ (upd bZ d1 (.dK (kvI (wm (tk++[(n,!said n)]))))):=ng FN;have hrd:r≠d1:=λz=>by rw[<-z]at n3;rw[s2 _ _ e1]at n3;cases n3
   have hnk:(tk.map (·.1)).Nodup:=by rw[gI];exact lX.sublist (uB _ _)
   refine⟨_,_,zx,mr (tk:=tk++[(n,!said n)]) (b:=!said n) ?_ (zK.mpr (.inr (zO.mpr rfl))),?_⟩
   ·rw[zJ,gI];show(ord.take i++[n]).Nodup;have:ord.take i++[n]=ord.take (i+1):=by rw[yY,hn];rfl
    rw[this];exact lX.sublist (uB _ _)
   refine⟨r,c,R,_,qs,n,!said n,rfl,SqL.of ((zh hrd).trans (lF _ _ e1)),λq hq=>Ab.sqT ((z7 lF).sqT (hR q hq)),Ab.sqT ((z7 B8).sqT hc),(hP7.mono (z7 B8)).mono Ab,by lia,λq hq z hz=>by rw[oS q hq];exact hqm z hz,λq hq=>by rw[oS q hq];exact mQ,λv mU oE eZ hv hpv=>?_⟩;rw[Bool.not_not]at hpv;have hqn:(qs.map (·.1)).Nodup:=(Ew.map (·.1)).nodup_iff.mpr hnk;have ff:=aU v mU eZ (.inr ⟨Eh,qs,oE,Ew,Nu hqn (hqs▸hsrt),hv,hpv⟩);walk_at"rp";refine⟨_,Sum.inl ((n:Nat):Int),ff.2.2.2.2,rfl,?_,?_⟩
   ·unfold kvR;rw[zY,List.length_zip,yS,zM];lia
   rw[Dx];exact IoInv.mk _ _ _ rfl ff.1 ff.2.1 zx ff.2.2.1 ff.2.2.2.1 bT
 rintro σ H5 ⟨x7,x8,rv,rfl,hh⟩;have Cn:=hh.1;have C9:=hh.2.1;have FM:=hh.2.2.1;have gG:=hh.2.2.2.1;have s5:=hh.2.2.2.2.1;clear hh;rw[zY]at Cn C9 FM;rw[zB]at Cn FM;have hl:=hS.len;have Ao:=s1.trans (s2.trans s5);have gI:(zf (R.map (·.2)) said ord).map (·.1)=ord:=xw _ _ _;have hnk:((zf (R.map (·.2)) said ord).map (·.1)).Nodup:=by rw[gI];exact lX
 walk_at"rp";refine⟨_,.inr ((z7 Ao).sqT ha),⟨by lia,by lia⟩,λC s₀ H₀ ex=>?_⟩;rw[yW];refine yd (λD i ys H6=>∃row:List Bool,ys=row.map V.bl/\row.length=i/\(∀j b,row[j]?=some b->(j,b)∈zf (R.map (·.2)) said ord)/\H6 D=some (.lst ys)/\Same H5 H6/\H5 D=none) (by rw[zM];lia) ?_ ?_ ?_ ?_
 ·intro D H6 n6 s6 e6;exact⟨[],rfl,rfl,λj b h=>by simp at h,e6,s6,n6⟩
 ·rintro D i ys H6 ⟨row,rfl,kK,_,e6,s6,_⟩;exact⟨e6,by rw[zY,kK]⟩
 ·rintro D i ys H6 hi ⟨row,rfl,kK,iR,e6,s6,n6⟩;have him:i∈(zf (R.map (·.2)) said ord).map (·.1):=by rw[gI];exact(dA i).mpr (by lia)
  obtain⟨⟨i',b⟩,hb,rfl⟩:=zD.mp him;walk_at"rp";rw[wJ];refine⟨_,_,s6 _ _ Cn,mr hnk hb,e6,CN.mk hi ⟨row++[b],by rw[zJ];rfl,by rw[zP,kK];rfl,λj b' hj=>?_,zx,zu s6 n6 _,n6⟩⟩
  by_cases hji:j<row.length
  ·rw[yK hji]at hj;exact iR j b' hj
  ·have Ba:=(zW.mp hj).1;have hj2:j=row.length:=by simp at Ba;lia
   subst hj2;rw[yI (by lia),rX]at hj;cases hj;rw[kK];exact hb
 rintro D ys H6 ⟨row,rfl,kK,iR,e6,s6,n6⟩;walk_at"rp";refine⟨_,.inl (SqL.of e6),λc H7 s7 hc=>?_⟩;walk_at"rp";have BA:=s6.trans s7;refine⟨_,.inr ((z7 (Ao.trans BA)).sqT ha),⟨by lia,by lia⟩,λC s₀ H₀ ex=>?_⟩;rw[yW];refine yd (λD i ys H8=>ys.length=i/\(∀n v,ys[n]?=some v->∃j:Nat,ord[j]?=some n/\rv[j]?=some v)/\H8 D=some (.lst ys)/\Same H7 H8/\H7 D=none) (by rw[zM];lia) ?_ ?_ ?_ ?_
 ·intro D H8 n8 s8 e8;exact⟨rfl,λn v h=>by simp at h,e8,s8,n8⟩
 ·rintro D i ys H8 ⟨fQ,_,e8,s8,_⟩;exact⟨e8,fQ⟩
 ·rintro D i ys H8 hi ⟨fQ,pE,e8,s8,n8⟩;obtain⟨j,hj,ej⟩:=vZ ((dA i).mpr (by lia));have hoj:ord[j]?=some i:=zW.mpr ⟨hj,ej⟩;obtain⟨v,hv⟩:∃v,rv[j]?=some v:=⟨rv[j]'(by lia),zS (by lia)⟩
  walk_at"rp";rw[wJ];refine⟨_,_,(BA.trans s8) _ _ FM,Vx lX hoj hv,e8,CN.mk hi ⟨by rw[zP,fQ];rfl,λn v' iT=>?_,zx,zu s8 n8 _,n8⟩⟩
  by_cases nI:n<ys.length
  ·rw[yK nI]at iT;exact pE n v' iT
  ·have Ba:=(zW.mp iT).1;have CD:n=ys.length:=by simp at Ba;lia
   subst CD;rw[yI (by lia),rX]at iT;cases iT;rw[fQ];exact⟨j,hoj,hv⟩
 rintro D8 ys H8 ⟨fQ,pE,e8,s8,n8⟩;walk_at"rp";refine⟨sz2,λrr H9 n9 s9 e9=>?_⟩;have B9:=BA.trans s8;have s59:=B9.trans s9;refine q rr c D8 H9 ss (R.map (·.2)) row ys (Ao.trans s59) hN hF (y9 (Ao.trans B9) n9) (SqT.of e9) ((z7 (s8.trans s9)).sqT hc) (by rw[kK,hl]) iR (y9 (Ao.trans BA) n8) (s9 _ _ e8) (by rw[fQ,hl]) λn v hv=>?_;obtain⟨j,hj,hvj⟩:=pE n v hv;exact⟨j,hj,(gG j n v hj hvj).mono (z7 s59)⟩
theorem O2:bootBuiltins "abs"=some (.builtin "abs"):=PyProof.Rows.boot_abs
def ni(J:List (List Bool))(j:Nat):Int:=if((yq J j true J.length).length:Int)-((yq J j false J.length).length:Int)<0 then -(((yq J j true J.length).length:Int)-((yq J j false J.length).length:Int))else((yq J j true J.length).length:Int)-((yq J j false J.length).length:Int)
def ma(K:W.Frag):Sp:=λvs H Q _=>∃(a:Addr)(J:List (Addr×List Bool))(m j:Nat),vs=[.ref a,.int (j:Int)]/\JudgesAt K H a J m/\j<m/\∀H',Same H H'->Q (.int (ni (J.map (·.2)) j)) H'
theorem ai(D:Def K mg "strength" (top 41) ["judges","number"])(bF:zy P w K mg base 1 "who_say" ["judges","number","truth"] (Wt K))(aB:mg "len"=none)(fP:mg "abs"=none):zy P w K mg base 2 "strength" ["judges","number"] (ma K):=by
 refine D.callee (N:=["judges","number"]) (by walk_at"sc") (by walk_at"ln") λf cdv A outer s H vs Q E hr nd h=>?_;obtain⟨a,J,m,j,rfl,hJ,hj,q⟩:=h;refine⟨[some (.ref a),some (.int (j:Int))],_,rfl,(z4 (zv (zq Zl rfl fP O2 (z9 (zt ki (zq yi rfl aB yy (z9 (zw bF hr (by lia) (z9 (z8 0) (z9 (z8 1) (z9 wn z6)))) z6)) (zq yi rfl aB yy (z9 (zw bF hr (by lia) (z9 (z8 0) (z9 (z8 1) (z9 wn z6)))) z6))) z6)))),?_⟩;walk_at"rp";refine⟨a,J,m,j,true,rfl,hJ,hj,λp H1 n1 s1 e1=>?_⟩;walk_at"rp";refine⟨_,.inl (SqL.of e1),?_⟩;walk_at"rp";refine⟨a,J,m,j,false,rfl,hJ.mono (z7 s1),hj,λp2 H2 n2 s2 e2=>?_⟩;walk_at"rp";refine⟨_,.inl (SqL.of e2),?_⟩;rw[zY,zY];walk_at"rp";refine⟨_,rfl,?_⟩;have:=q H2 (s1.trans s2);unfold ni at this;rw[zY]at this;exact this
def ee(K:W.Frag):Sp:=λvs H Q _=>∃(a c:Addr)(J:List (Addr×List Bool))(row:List Bool),vs=[.ref a,.ref c]/\JudgesAt K H a J row.length/\SqT K H c (row.map V.bl)/\row.length<=10 /\
 ∀(l:Addr)(H':Hp)(rs:List V),H l=none->Same H H'->H' l=some (.lst rs)->rs.length=row.length->(∀n v t,rs[n]?=some v->row[n]?=some t->ReasonAt K H' v "judges" ((yq (J.map (·.2)) n t J.length).map λn=>V.int ((n:Nat):Int)))->Q (.ref l) H'
theorem Ql(D:Def K mg "all_by_judges" (top 40) ["judges","row"])(dW:zy P w K mg base 2 "by_judges" ["judges","number","truth"] (qw K))(aJ:mg "enumerate"=none):zy P w K mg base 3 "all_by_judges" ["judges","row"] (ee K):=by
 refine D.callee (N:=["judges","row"]) (by walk_at"sc") (by walk_at"ln") λf cdv A outer s H vs Q E hr nd h=>?_;obtain⟨a,c,J,row,rfl,hJ,hc,A6,q⟩:=h;refine⟨[some (.ref a),some (.ref c)],_,rfl,(z4 (zv (qd (ixs:=[0]) (zo (own:=["number","truth"]) (N:=["judges"]) rfl rfl rfl rfl rfl rfl rfl (by decide +kernel) rfl rfl rfl) rfl (Xv rfl aJ (z9 (z8 1) z6)) (λ_ _ _ _=>yu) (λ_ _ _ _=>(zw dW hr (by lia) (z9 (z8 2) (z9 (z8 0) (z9 (z8 1) z6))))) rfl))),?_⟩;walk_at"rp";refine⟨⟨_,hc⟩,λC s₀ H₀ ex=>?_⟩;refine ft (xs:=row.map V.bl) (λD i ys H2=>ys.length=i/\(∀(n:Nat)(v:V)(t:Bool),ys[n]?=some v->row[n]?=some t->ReasonAt K H2 v "judges" ((yq (J.map (·.2)) n t J.length).map λn=>V.int ((n:Nat):Int)))/\H2 D=some (.lst ys)/\Same H H2/\H D=none) (by rw[zY,zM];lia) ?_ ?_ ?_ ?_
 ·intro D H2 n2 s2 e2;exact⟨rfl,λn v t h=>by simp at h,e2,s2,n2⟩
 ·rintro D i ys H2 ⟨hl,_,e2,s2,_⟩;exact⟨(z7 s2).sqT hc,e2,vK hl⟩
 ·rintro D i v ys H2 H3 hv ⟨hl,gG,e2,s2,n2⟩ s3;rw[zT]at hv;cases hb:row[i]? with
  |none=>rw[hb]at hv;cases hv
  |some t =>
   rw[hb]at hv;cases hv;have hi:i<row.length:=(zW.mp hb).1;walk_at"rp";refine⟨a,J,row.length,i,t,rfl,hJ.mono (z7 (s2.trans s3)),hi,λv H4 s4 hv4=>?_⟩;walk_at"rp";have t5:=xr (o:=.lst (ys++[v])) ((s3.trans s4) _ _ e2);refine⟨(s3.trans s4) _ _ e2,CN.mk (by rw[zY];exact hi) ⟨by rw[zP,hl];rfl,λn u t' hu ht=>?_,zx,zu (s2.trans (s3.trans s4)) n2 _,n2⟩⟩
   by_cases hn:n<ys.length
   ·rw[yK hn]at hu;exact(gG n u t' hu ht).mono ((z7 (s3.trans s4)).trans t5)
   ·rw[yI (by lia)]at hu;have h0:n-ys.length=0:=by
     have:=(zW.mp hu).1;simp only[xF]at this;lia
    rw[h0]at hu;cases hu;obtain rfl:n=i:=by lia
    rw[hb]at ht;cases ht;exact hv4.mono t5
 ·rintro D ys H2 ⟨hl,gG,e2,s2,n2⟩;rw[zY]at hl;exact q D H2 ys n2 s2 e2 hl gG
abbrev Fb:Str:="order_of_strength.<locals>.<lambda>"
abbrev Tb(Pt:Addr)(H:Hp):Prop:=TabAt Pt (Jq (top 42)) Fb H
def Sk(K:W.Frag)(Pt:Addr):Sp:=λvs H Q _=>∃(a:Addr)(J:List (Addr×List Bool))(m:Nat),vs=[.ref a]/\JudgesAt K H a J m/\m<=6/\Tb Pt H/\∀(p:Addr)(H':Hp)(ord:List Nat),SameP Pt H H'->Tb Pt H'->SqT K H' p (ord.map λn=>V.int ((n:Nat):Int))->ord.Perm (List.range m)->ord.Pairwise (u4 λj=>-ni (J.map (·.2)) j)->Q (.ref p) H'
theorem J7{c Pt:Addr}(D:DefL K mg "order_of_strength" (top 42) ["judges"] c)(LT:Ze base mg c Pt)(nQ:zy P w K mg base 2 "strength" ["judges","number"] (ma K))(aB:mg "len"=none)(aA:mg "range"=none)(aF:mg "sorted"=none)(aC:mg "tuple"=none):zy P w K mg base 6 "order_of_strength" ["judges"] (Sk K Pt):=by
 refine D.callee (N:=["judges"]) (by walk_at"sc") (by walk_at"ln") λf A outer s H vs Q E hr nd h=>?_;obtain⟨a,J,m,rfl,hJ,hm,hT,q⟩:=h;refine⟨[some (.ref a)],_,rfl,(z4 (zv (ze yg rfl aC yo (z9 (Mx (ixs:=[0]) (kk:=2) rfl rfl aF rfl aA (z9 (zq yi rfl aB yy (z9 (zd (z8 0) zz (λ_ _=>rfl)) z6)) z6) (zo (own:=["number"]) (N:=["judges"]) rfl rfl rfl rfl rfl rfl rfl (by decide +kernel) rfl rfl rfl) rfl hr (by lia) rfl LT (λ_ _ _ _ _ hr=>(Lz Sx (zw nQ hr (by lia) (z9 (z8 1) (z9 (z8 0) z6))))) (λ_ _ _ _=>rfl)) z6)))),?_⟩;walk_at"rp";obtain⟨r,nE,FE⟩:=tq hJ;refine⟨_,_,.inr hJ.sq,FE,?_⟩;walk_at"rp";refine⟨_,.inr (hJ.row r nE),?_⟩;rw[zY,hJ.len r nE];refine⟨⟨by lia,by lia⟩,hT,(λj=>-ni (J.map (·.2)) j),λi H2 hi s2=>?_,λp D H' hp hs s' t' _ e'=>?_⟩
 ·rw[yW]at hi;walk_at"rp";refine⟨a,J,m,i,rfl,hJ.mono (xt hT s2),hi,λH3 s3=>?_⟩;walk_at"rp";exact⟨_,rfl,rfl,s3⟩
 ·rw[yW]at hp;walk_at"rp";exact⟨_,.inl (SqL.of e'),λz H4 s4 h4=>q z H4 p (s'.trans (wk s4)) (t'.same s4) h4 hp hs⟩
def Ld(K:W.Frag)(Pt C:Addr)(Fl:Hp->Nat->List (Str×V)->Prop)(RI:Nat->List (List Bool)->List (List Bool)->List Bool->Prop):Sp:=λvs H Q _=>∃(x dx b j:Addr)(fs:List (Str×V))(us:List V)(ts:List Say)(xs:List Str)(J:List (Addr×List Bool)),vs=[.ref x,.ref b,.ref j]/\H x=some (.ins C dx fs)/\Fl H ts.length fs/\SqT K H b us/\SaysAt K H us ts/\Lst ts xs/\JudgesAt K H j J ts.length/\Tb Pt H /\
 ∀(p:Addr)(H':Hp)(ss:List Str)(R:List (List Bool))(row:List Bool),SameP Pt H H'->Tb Pt H'->NamesOf ts ss->FitRows ts ss R->SqT K H' p (row.map V.bl)->row.length=ts.length->RI ts.length R (J.map (·.2)) row->Q (.ref p) H'
def pe(K:W.Frag)(Pt C:Addr){ι:Type}(Fl:ι->Hp->Nat->List (Str×V)->Prop)(RI:ι->Nat->List (List Bool)->List (List Bool)->List Bool->Prop):Sp:=λvs H Q E=>∃i:ι,Ld K Pt C (Fl i) (RI i) vs H Q E
def Fl0(K:W.Frag)(ord:List Nat)(H:Hp)(m:Nat)(fs:List (Str×V)):Prop:=∃o,fs=[((Str.ofString "order":Str),V.ref o)]/\SqT K H o (ord.map λn=>V.int ((n:Nat):Int))/\ord.Nodup/\∀n,n∈ord↔n<m
def Fl1(H:Hp)(m:Nat)(fs:List (Str×V)):Prop:=fs=[]
def Fl2(K:W.Frag)(ws:List Int)(H:Hp)(m:Nat)(fs:List (Str×V)):Prop:=∃v,fs=[((Str.ofString "weights":Str),v)]/\WAt K H v m ws
def RI0(ord:List Nat)(m:Nat)(R J:List (List Bool))(row:List Bool):Prop:=∀(i:Nat)(b:Bool),row[i]?=some b->(i,b)∈zf R (zk J) ord
def RI1(m:Nat)(R J:List (List Bool))(row:List Bool):Prop:=∃ord:List Nat,ord.Perm (List.range m)/\ord.Pairwise (u4 λi=>-ni J i)/\RI0 ord m R J row
def RI2(ws:List Int)(m:Nat)(R J:List (List Bool))(row:List Bool):Prop:=∃rest,um R J ws m=row::rest
theorem si{ord:List Nat}{m:Nat}(h:ord.Perm (List.range m)):ord.Nodup/\∀n,n∈ord↔n<m:=⟨h.nodup_iff.mpr vI,λn=>by rw[h.mem_iff,yH]⟩
theorem Qq{C Pt:Addr}(D:DefM K C "row" "InOrder.row" (xp (top 45) 1) ["self","sayings","judges"])(CL:Cls K C)(na:NoAttr K C "order")(aR:zy P w K mg base 45 "in_order" ["sayings","judges","order"] (uz K)):y8 P w K mg base 46 C "row" ["self","sayings","judges"] (pe K Pt C (Fl0 K) RI0):=by
 refine D.callee (N:=["self","sayings","judges"]) (by walk_at"sc") (by walk_at"ln") λf cdv A outer s H vs Q E hr nd h=>?_;obtain⟨ord,x,dx,b,j,fs,us,ts,xs,J,rfl,hx,⟨o,rfl,ho,cZ,iS⟩,hb,hT,hL,hJ,cU,q⟩:=h;refine⟨[some (.ref x),some (.ref b),some (.ref j)],_,rfl,(z4 (zv (zd (zw aR hr (by lia) (z9 (z8 1) (z9 (z8 2) (z9 (Yh (z8 0) rfl) z6)))) zz (λ_ _=>rfl)))),?_⟩;walk_at"rp";refine⟨x,C,dx,_,_,rfl,hx,CL,na,List.lookup_cons_self,?_⟩;walk_at"rp";refine⟨b,j,o,us,ts,xs,J,ord,rfl,hb,hT,hL,hJ,ho,cZ,iS,λr c l H' ss R row rs s' hN hF nr gH hc hl iR nl el gG nC=>?_⟩;walk_at"rp";refine⟨_,_,.inr gH,rfl,?_⟩;walk_at"rp";exact q c H' ss R row (wk s') (cU.same s') hN hF hc hl iR
theorem Qn{C Pt:Addr}(D:DefM K C "row" "ByStrength.row" (xp (top 46) 0) ["self","sayings","judges"])(aR:zy P w K mg base 45 "in_order" ["sayings","judges","order"] (uz K))(aM:zy P w K mg base 6 "order_of_strength" ["judges"] (Sk K Pt)):y8 P w K mg base 46 C "row" ["self","sayings","judges"] (pe K Pt C (λ_:Unit=>Fl1) λ_=>RI1):=by
 refine D.callee (N:=["self","sayings","judges"]) (by walk_at"sc") (by walk_at"ln") λf cdv A outer s H vs Q E hr nd h=>?_;obtain⟨_,x,dx,b,j,fs,us,ts,xs,J,rfl,hx,_,hb,hT,hL,hJ,cU,q⟩:=h;have lK:=hL.hi;refine⟨[some (.ref x),some (.ref b),some (.ref j)],_,rfl,(z4 (zv (zd (zw aR hr (by lia) (z9 (z8 1) (z9 (z8 2) (z9 (zw aM hr (by lia) (z9 (z8 2) z6)) z6)))) zz (λ_ _=>rfl)))),?_⟩;walk_at"rp";refine⟨j,J,ts.length,rfl,hJ,lK,cU,λo H1 ord s1 t1 ho hp fR=>?_⟩;walk_at"rp";have tu:=xt cU s1;refine⟨b,j,o,us,ts,xs,J,ord,rfl,tu.sqT hb,hT.mono tu,hL,hJ.mono tu,ho,(si hp).1,(si hp).2,λr c l H' ss R row rs s' hN hF nr gH hc hl iR nl el gG nC=>?_⟩;walk_at"rp";refine⟨_,_,.inr gH,rfl,?_⟩;walk_at"rp";exact q c H' ss R row (s1.trans (wk s')) (t1.same s') hN hF hc hl ⟨ord,hp,fR,iR⟩
theorem Mz{all rs:List (List Bool)}{ws:List Int}{m:Nat}(h:all≠[]):um all rs ws m≠[]:=by
 obtain⟨k,hk,fT⟩:∃k∈all,∀k'∈all,xy k rs ws m<=xy k' rs ws m:=by
  revert h
  induction all with
  |nil=>exact λh=>(h rfl).elim
  |cons a l ih =>
   intro _
   by_cases hl:l=[]
   ·subst hl;exact⟨a,by simp,λk' aW=>by rw[zO.mp aW];exact Int.le_refl _⟩
   ·obtain⟨k,hk,fT⟩:=ih hl
    by_cases hc:xy a rs ws m<=xy k rs ws m
    ·exact⟨a,by simp,λk' aW=>by rcases zI.mp aW with rfl|aW;exact Int.le_refl _;have:=fT k' aW;lia⟩
    ·exact⟨k,zH _ hk,λk' aW=>by rcases zI.mp aW with rfl|aW;lia;exact fT k' aW⟩
 intro z;have:k∈um all rs ws m:=xP.mpr ⟨hk,yA.mpr λk' aW=>yU (fT k' aW)⟩;rw[z]at this;cases this
theorem Qv{C Pt:Addr}(D:DefM K C "row" "Nearest.row" (xp (top 47) 1) ["self","sayings","judges"])(CL:Cls K C)(na:NoAttr K C "weights")(fZ:CalleeD P w K mg base 45 "nearest" ["sayings","judges","weights"] [.none] (ie K)):y8 P w K mg base 46 C "row" ["self","sayings","judges"] (pe K Pt C (Fl2 K) RI2):=by
 refine D.callee (N:=["self","sayings","judges"]) (by walk_at"sc") (by walk_at"ln") λf cdv A outer s H vs Q E hr nd h=>?_;obtain⟨ws,x,dx,b,j,fs,us,ts,xs,J,rfl,hx,⟨wv,rfl,hw⟩,hb,hT,hL,hJ,cU,q⟩:=h;refine⟨[some (.ref x),some (.ref b),some (.ref j)],_,rfl,(z4 (zv (zd (zw fZ.full hr (by lia) (z9 (z8 1) (z9 (z8 2) (z9 (Yh (z8 0) rfl) z6)))) zz (λ_ _=>rfl)))),?_⟩;walk_at"rp";refine⟨x,C,dx,_,_,rfl,hx,CL,na,List.lookup_cons_self,?_⟩;walk_at"rp";refine⟨b,j,us,ts,xs,J,wv,ws,rfl,hb,hT,hL,hJ,hw,λp H' ss all R np s' hp hR hN hF hRn oS=>?_⟩;have aZ:um all (J.map (·.2)) ws ts.length≠[]:=Mz λz=>by
  have h0:=(hF.2.1 (rg ts (yz ((0:Nat):Int) ss))).mpr ⟨0,Nat.two_pow_pos _,rfl⟩;rw[z]at h0;cases h0
 cases R with
 |nil=>exact(aZ hRn.symm).elim
 |cons r R =>
  walk_at"rp";refine⟨_,_,.inl (SqL.of hp),(show atI ((r::R).map λr=>V.ref r.1) ((0:Nat):Int)=some (V.ref r.1)from yf rfl),?_⟩;walk_at"rp";have hm:r.2∈all:=(xP.mp (show r.2∈um all (J.map (·.2)) ws ts.length from by rw[<-hRn];exact zG)).1;exact q r.1 H' ss all r.2 (wk s') (cU.same s') hN hF (hR r zG) (u8 hF hm) ⟨R.map λx:Addr×List Bool=>x.2,hRn.symm⟩
def Yw(K:W.Frag):Sp:=λvs H Q _=>∃(x y:V)(a:Addr)(J:List (Addr×List Bool))(m:Nat),vs=[x,y,.ref a]/\JudgesAt K H a J m/\m<=10/\∀(p:Addr)(H':Hp),Same H H'->SqT K H' p ((xk (J.map (·.2)) m).map V.bl)->Q (.ref p) H'
theorem Ng{C:Addr}(D:DefM K C "row" "Most.row" (xp (top 44) 0) ["self","sayings","judges"])(gA:zy P w K mg base 3 "most" ["judges"] (Yx K)):y8 P w K mg base 4 C "row" ["self","sayings","judges"] (Yw K):=by
 refine D.callee (N:=["self","sayings","judges"]) (by walk_at"sc") (by walk_at"ln") λf cdv A outer s H vs Q E hr nd h=>?_;obtain⟨x,y,a,J,m,rfl,hJ,hm,q⟩:=h;refine⟨[some x,some y,some (.ref a)],_,rfl,(z4 (zv (zw gA hr (by lia) (z9 (z8 2) z6)))),?_⟩;walk_at"rp";exact⟨a,J,m,rfl,hJ,hm,q⟩
theorem tp(xs:List V){j:Int}(h:0<=j):vb xs none (some j)=xs.take j.toNat:=by
 unfold vb;rw[HT.sIx_none];have e:HT.sIx xs.length xs.length (some j)=min j.toNat xs.length:=by
  show(if j<0 then(j+(xs.length:Int)).toNat else min j.toNat xs.length)=_;rw[zC (by lia)]
 rw[e,List.drop_zero,Nat.sub_zero]
 by_cases hj:j.toNat<=xs.length
 ·rw[Nat.min_eq_left hj]
 ·rw[Nat.min_eq_right (by lia),zB,wY (by lia)]
theorem Zo(xs:List V){j:Int}(h:0<=j):vb xs (some j) none=xs.drop j.toNat:=by
 unfold vb;have e:HT.sIx xs.length 0 (some j)=min j.toNat xs.length:=by
  show(if j<0 then(j+(xs.length:Int)).toNat else min j.toNat xs.length)=_;rw[zC (by lia)]
 rw[HT.sIx_none,e]
 by_cases hj:j.toNat<=xs.length
 ·rw[Nat.min_eq_left hj,wY (by rw[wR];exact zU _)]
 ·rw[Nat.min_eq_right (by lia),sF,List.take_nil,List.drop_eq_nil_of_le (by lia)]
def Fz(K:W.Frag)(H:Hp)(J R:List (List Bool))(ord:List Nat)(rs:List V):Prop:=∀n v,rs[n]?=some v->∃i,ord[i]?=some n/\rsnOk K H R J (zk J) (zf R (zk J) (ord.take i)) n v
def Y2(K:W.Frag)(Pt C:Addr)(Fl:Hp->Nat->List (Str×V)->Prop)(OI:Nat->List (List Bool)->List Nat->Prop):Sp:=λvs H Q _=>∃(x dx b j:Addr)(fs:List (Str×V))(us:List V)(ts:List Say)(xs:List Str)(J:List (Addr×List Bool)),vs=[.ref x,.ref b,.ref j]/\H x=some (.ins C dx fs)/\Fl H ts.length fs/\SqT K H b us/\SaysAt K H us ts/\Lst ts xs/\JudgesAt K H j J ts.length/\Tb Pt H /\
 ∀(l:Addr)(H':Hp)(ss:List Str)(R:List (List Bool))(ord:List Nat)(rs:List V),SameP Pt H H'->Tb Pt H'->H l=none->NamesOf ts ss->FitRows ts ss R->OI ts.length (J.map (·.2)) ord->H' l=some (.lst rs)->rs.length=ts.length->Fz K H' (J.map (·.2)) R ord rs->Q (.ref l) H'
theorem Qr{C Pt:Addr}(D:DefM K C "reasons" "InOrder.reasons" (xp (top 45) 2) ["self","sayings","judges"])(CL:Cls K C)(na:NoAttr K C "order")(aR:zy P w K mg base 45 "in_order" ["sayings","judges","order"] (uz K)):y8 P w K mg base 46 C "reasons" ["self","sayings","judges"] (λvs H Q E=>∃ord,Y2 K Pt C (Fl0 K ord) (λ_ _ o=>o=ord) vs H Q E):=by
 refine D.callee (N:=["self","sayings","judges"]) (by walk_at"sc") (by walk_at"ln") λf cdv A outer s H vs Q E hr nd h=>?_;obtain⟨ord,x,dx,b,j,fs,us,ts,xs,J,rfl,hx,⟨o,rfl,ho,cZ,iS⟩,hb,hT,hL,hJ,cU,q⟩:=h;refine⟨[some (.ref x),some (.ref b),some (.ref j)],_,rfl,(z4 (zv (zd (zw aR hr (by lia) (z9 (z8 1) (z9 (z8 2) (z9 (Yh (z8 0) rfl) z6)))) zz (λ_ _=>rfl)))),?_⟩;walk_at"rp";refine⟨x,C,dx,_,_,rfl,hx,CL,na,List.lookup_cons_self,?_⟩;walk_at"rp";refine⟨b,j,o,us,ts,xs,J,ord,rfl,hb,hT,hL,hJ,ho,cZ,iS,λr c l H' ss R row rs s' hN hF nr gH hc hl iR nl el gG nC=>?_⟩;walk_at"rp";refine⟨_,_,.inr gH,rfl,?_⟩;walk_at"rp";exact q l H' ss R ord rs (wk s') (cU.same s') nl hN hF rfl el gG nC
theorem Qo{C Pt:Addr}(D:DefM K C "reasons" "ByStrength.reasons" (xp (top 46) 1) ["self","sayings","judges"])(aR:zy P w K mg base 45 "in_order" ["sayings","judges","order"] (uz K))(aM:zy P w K mg base 6 "order_of_strength" ["judges"] (Sk K Pt)):y8 P w K mg base 46 C "reasons" ["self","sayings","judges"] (Y2 K Pt C Fl1 λm J o=>o.Perm (List.range m)/\o.Pairwise (u4 λi=>-ni J i)):=by
 refine D.callee (N:=["self","sayings","judges"]) (by walk_at"sc") (by walk_at"ln") λf cdv A outer s H vs Q E hr nd h=>?_;obtain⟨x,dx,b,j,fs,us,ts,xs,J,rfl,hx,_,hb,hT,hL,hJ,cU,q⟩:=h;have lK:=hL.hi;refine⟨[some (.ref x),some (.ref b),some (.ref j)],_,rfl,(z4 (zv (zd (zw aR hr (by lia) (z9 (z8 1) (z9 (z8 2) (z9 (zw aM hr (by lia) (z9 (z8 2) z6)) z6)))) zz (λ_ _=>rfl)))),?_⟩;walk_at"rp";refine⟨j,J,ts.length,rfl,hJ,lK,cU,λo H1 ord s1 t1 ho hp fR=>?_⟩;walk_at"rp";have tu:=xt cU s1;refine⟨b,j,o,us,ts,xs,J,ord,rfl,tu.sqT hb,hT.mono tu,hL,hJ.mono tu,ho,(si hp).1,(si hp).2,λr c l H' ss R row rs s' hN hF nr gH hc hl iR nl el gG nC=>?_⟩;walk_at"rp";refine⟨_,_,.inr gH,rfl,?_⟩;walk_at"rp";have nl0:H l=none:=by
  cases z:H l with
  |none=>rfl
  |some u =>
   by_cases e:l=Pt
   ·subst e;rcases t1 with t1|⟨_,t1,_⟩<;>rw[t1]at nl<;>cases nl
   ·have:=s1 l u e z;rw[nl]at this;cases this
 exact q l H' ss R ord rs (s1.trans (wk s')) (t1.same s') nl0 hN hF ⟨hp,fR⟩ el gG nC
theorem v7:∀{L:List Nat}{k:Nat}(hk:k<L.length),(L[k]::L.eraseIdx k).Perm L
 |x::L,0,_=>List.Perm.refl _
 |x::L,k+1,hk=>by
  have aW:k<L.length:=by simpa using hk
  have ih:=v7 (L:=L) (k:=k) aW;show(L[k]::x::L.eraseIdx k).Perm (x::L);exact(List.Perm.swap x _ _).trans (ih.cons x)
theorem Rj{O L:List Nat}{k:Nat}(hk:k<L.length):(O++[L[k]]++L.eraseIdx k).Perm (O++L):=by
 rw[wM];exact List.Perm.append_left O (v7 hk)
def bb(K:W.Frag):Sp:=λvs H Q _=>∃(a:Addr)(ns:List Int)(k m:Nat),vs=[.ref a,.int (k:Int),.int (m:Int)]/\SqL K H a (ns.map V.int)/\ns.length<=5000/\k<=1000/\m<=10 /\
 ∀(p:Addr)(H':Hp)(ord:List Nat),Same H H'->SqT K H' p (ord.map λn=>V.int ((n:Nat):Int))->ord.Nodup->(∀n,n∈ord↔n<m)->Q (.ref p) H'
theorem Ul(D:Def K mg "_law_order" (top 63) ["_law_script","_law_k","_law_many"])(aE:zy P w K mg base 2 "_law_pick" ["_law_script","_law_k","_law_many"] (ur K))(aB:mg "len"=none)(aA:mg "range"=none)(aC:mg "tuple"=none)(dX:mg "list"=none):zy P w K mg base 3 "_law_order" ["_law_script","_law_k","_law_many"] (bb K):=by
 refine D.callee (N:=["_law_script","_law_k","_law_many","_law_left","_law_order_here","_law_j","_law_at"]) (by walk_at"sc") (by walk_at"ln") λf cdv A outer s H vs Q E hr nd h=>?_;obtain⟨a,ns,k,m,rfl,hS,cI,hk,hm,q⟩:=h;refine⟨[some (.ref a),some (.int (k:Int)),some (.int (m:Int)),none,none,none,none],_,rfl,(z5 (zn 3 nd (Z3 rfl rfl dX rfl aA (z9 (z8 2) z6)))
  (z5 (zn 4 nd (wa z6))
  (z5 (xq yM rfl (yp rfl aA (z9 (z8 2) z6)) (wo 5 nd) (z5 (zn 6 nd (zw aE hr (by lia) (z9 (z8 0) (z9 (zt zj (z8 1) (z8 5)) (z9 (zq yi rfl aB yy (z9 (z8 3) z6)) z6)))))
  (z5 (v6 (kh wT wS kg (z8 4) (z9 (zd (z8 3) (z8 6) (λ_ _=>rfl)) z6)))
  (z4 (zn 3 nd (zt zj (xz (z8 3) x9 (xf (z8 6))) (xz (z8 3) (xf (zt zj (z8 6) zz)) x9)))))))
  (z4 (zv (ze yg rfl aC yo (z9 (z8 4) z6))))))),?_⟩
 walk_at"rp";refine⟨⟨by lia,by lia⟩,λl H1 n1 s1 e1=>?_⟩;rw[yW]at e1;walk_at"rp";refine⟨xu (by simp),λo H2 n2 s2 e2=>?_⟩;walk_at"rp";refine⟨⟨by lia,by lia⟩,?_⟩;rw[yW];have no:H o=none:=y9 s1 n2;refine w4 (λi σ H3=>∃(l:Addr)(L O:List Nat)(x5 x6:Option V),σ=[some (.ref a),some (.int (k:Int)),some (.int (m:Int)),some (.ref l),some (.ref o),x5,x6]/\l≠o/\H3 l=some (.lst (L.map λn=>V.int ((n:Nat):Int)))/\H3 o=some (.lst (O.map λn=>V.int ((n:Nat):Int)))/\(O++L).Perm (List.range m)/\O.length=i/\Same H H3) ⟨l,List.range m,[],none,none,rfl,(λz=>by rw[<-z,e1]at n2;cases n2),s2 _ _ e1,e2,List.Perm.refl _,rfl,s1.trans s2⟩ ?_ ?_
 ·rintro i σ H3 hi ⟨l,L,O,x5,x6,rfl,CG,el,eo,hp,lW,s3⟩;have bL:=hp.length_eq;rw[zP,xY]at bL;walk_at"rp";rw[wJ];refine⟨_,.inl (SqL.of el),?_⟩;rw[zY];refine⟨a,ns,_,_,rfl,s3.seq hS,cI,by lia,by lia,by lia,λr r0 r1=>?_⟩;walk_at"rp";obtain⟨k',rfl⟩:∃k:Nat,r=(k:Int):=⟨r.toNat,by lia⟩
  have aW:k'<L.length:=by lia
  refine⟨⟨_,_,rfl,eo⟩,?_⟩;walk_at"rp";refine⟨_,V.int ((L[k']:Nat):Int),.inl (SqL.of el),yf (by rw[zT,zS aW];rfl),?_⟩;walk_at"rp";refine⟨_,eo,by rw[zY,zM];lia,?_⟩;walk_at"rp";have el4:(upd H3 o (.lst (O.map (λn=>V.int ((n:Nat):Int))++[V.int ((L[k']:Nat):Int)]))) l=some (.lst (L.map λn=>V.int ((n:Nat):Int))):=(zh CG).trans el;refine .inl ⟨_,SqL.of el4,λp5 H5 n5 s5 e5=>?_⟩;walk_at"rp";refine .inl ⟨_,SqL.of (s5 _ _ el4),λp6 H6 n6 s6 e6=>?_⟩;rw[tp _ (by lia),yW]at e5;rw[Zo _ (by lia),show((k':Int)+1).toNat=k'+1 by lia]at e6;walk_at"rp";refine .inl ⟨_,_,s6 _ _ e5,e6,by rw[yS,wR,zY,zM];lia,λp7 H7 n7 s7 e7=>?_⟩;walk_at"rp";have eo4:(upd H3 o (.lst (O.map (λn=>V.int ((n:Nat):Int))++[V.int ((L[k']:Nat):Int)]))) o=some (.lst ((O++[L[k']]).map λn=>V.int ((n:Nat):Int))):=by
   rw[zx,zJ]
   rfl
  have eo7:=(s5.trans (s6.trans s7)) _ _ eo4;refine⟨p7,L.eraseIdx k',O++[L[k']],_,_,rfl,λz=>?_,?_,eo7,(Rj aW).trans hp,by rw[zP,lW];rfl,?_⟩
  ·have:=(s5.trans s6) _ _ eo4;rw[<-z,n7]at this;cases this
  ·rw[e7,List.eraseIdx_eq_take_drop_succ,zJ,List.map_take,List.map_drop]
  ·exact(zu s3 no _).trans (s5.trans (s6.trans s7))
 ·rintro σ H3 ⟨l,L,O,x5,x6,rfl,CG,el,eo,hp,lW,s3⟩;have bL:=hp.length_eq;rw[zP,xY]at bL;have hL0:L=[]:=wE.mp (by lia);subst hL0;rw[List.append_nil]at hp;walk_at"rp";refine⟨_,.inl (SqL.of eo),λp H4 s4 h4=>q p H4 O (s3.trans s4) h4 (hp.nodup_iff.mpr vI) λn=>?_⟩;rw[hp.mem_iff,yH]
def qi(K:W.Frag):Sp:=λvs H Q _=>∃(a:Addr)(J:List (Addr×List Bool))(m j:Nat),vs=[.ref a,.int (j:Int)]/\JudgesAt K H a J m/\j<m/\∀H',Same H H'->Q (.bl (zk (J.map (·.2)) j)) H'
theorem gn(D:Def K mg "_law_most_of" (top 64) ["_law_judges","_law_number"])(aB:mg "len"=none):zy P w K mg base 1 "_law_most_of" ["_law_judges","_law_number"] (qi K):=by
 refine D.callee (N:=["_law_judges","_law_number"]) (by walk_at"sc") (by walk_at"ln") λf cdv A outer s H vs Q E hr nd h=>?_;obtain⟨a,J,m,j,rfl,hJ,hj,q⟩:=h;have lK:=hJ.hi;refine⟨[some (.ref a),some (.int (j:Int))],_,rfl,(z4 (zv (uq T6 (zt wj zz (zq yi rfl aB yy (z9 (yc (ixs:=[1]) (zo (own:=["_law_row_here"]) (N:=["_law_number"]) rfl rfl rfl rfl rfl rfl rfl (by decide +kernel) rfl rfl rfl) rfl (yw (z8 0)) (λ_ _ _ _=>(vq (vv (zd (z8 0) (z8 1) (λ_ _=>rfl))))) (λ_ _ _ _=>(z8 0)) rfl) z6))) (zq yi rfl aB yy (z9 (z8 0) z6)) (zi _)))),?_⟩;walk_at"rp";refine .inr ⟨⟨_,hJ.sq⟩,λC s₀ H₀ ex=>?_⟩;refine vh (xs:=J.map λr=>V.ref r.1) (λD n ys H3=>ys.length=(we ((J.map (·.2)).take n) j).length/\H3 D=some (.lst ys)/\Same H H3/\H D=none) (by rw[zY,zM];lia) ?_ ?_ ?_ ?_
 ·intro D H3 n3 s3 e3;exact⟨rfl,e3,s3,n3⟩
 ·rintro D n ys H3 ⟨hy,e3,s3,_⟩;exact⟨(z7 s3).sqT hJ.sq,e3,by rw[hy];exact ir _ _ _⟩
 ·rintro D n v ys H3 hv ⟨hy,e3,s3,n3⟩;rw[zT]at hv;cases cT:J[n]? with
  |none=>rw[cT]at hv;cases hv
  |some r2 =>
   rw[cT]at hv;cases hv;have hn:n<J.length:=(zW.mp cT).1;have fC:=zN cT;have ek:(J.map (·.2))[n]?=some r2.2:=by rw[zT,cT];rfl
   walk_at"rp";refine⟨_,_,.inr ((z7 s3).sqT (hJ.row r2 fC)),wf (by rw[hJ.len r2 fC];exact hj),?_⟩;walk_at"rp";cases hc:r2.2.getD j false with
   |true =>
    walk_at"rp";refine⟨e3,CN.mk (by rw[zY];exact hn) ⟨?_,zx,zu s3 n3 _,n3⟩⟩;rw[uu ek,yV hc,zP,zP,hy]
    rfl
   |false =>
    walk_at"rp";refine CN.mk (by rw[zY];exact hn) ⟨?_,e3,s3,n3⟩;rw[uu ek,zC (by rw[hc];decide),List.append_nil];exact hy
 ·rintro D ys H3 ⟨hy,e3,s3,n3⟩;rw[zY,<-zY (f:=λr:Addr×List Bool=>r.2),zB]at hy;have fQ:ys.length<=J.length:=by rw[hy];exact yT (xE _ _) (by rw[zY];exact zU _)
  walk_at"rp";refine⟨_,.inl (SqL.of e3),?_⟩;walk_at"rp";refine⟨cm (by lia),_,.inr ((z7 s3).sqT hJ.sq),?_⟩;rw[hy,zY];have:=q H3 s3;unfold zk at this;rw[zY]at this;exact this
theorem jj{k:List Bool}{ps:List (Nat×Bool)}{n:Nat}{b:Bool}:agr k (ps++[(n,b)])=(agr k ps&&(k.getD n false==b)):=by
 unfold agr;rw[List.all_append];simp
theorem bn{R:List (Addr×List Bool)}{said:Nat->Bool}{tk:List (Nat×Bool)}{n:Nat}:(R.filter λr=>agr r.2 (tk++[(n,yl (R.map (·.2)) said tk n)]))=if((R.filter λr=>agr r.2 tk).filter λr=>r.2.getD n false==said n)=[]then(R.filter λr=>agr r.2 tk)else((R.filter λr=>agr r.2 tk).filter λr=>r.2.getD n false==said n):=by
 have e:((R.filter λr=>agr r.2 tk).filter λr=>r.2.getD n false==said n)=R.filter λr=>agr r.2 (tk++[(n,said n)]):=by
  rw[List.filter_filter]
  congr 1
  funext r
  rw[jj,Bool.and_comm]
 rw[e];unfold yl
 by_cases h:(R.map (·.2)).any (λk=>agr k (tk++[(n,said n)]))=true
 ·rw[yV h,zC];intro z;obtain⟨k,hk,ha⟩:=yD.mp h;obtain⟨r,hr,rfl⟩:=zD.mp hk;exact sQ.mp z r hr ha
 ·rw[zC h,yV (sQ.mpr λr hr ha=>h (yD.mpr ⟨r.2,zD.mpr ⟨r,hr,rfl⟩,ha⟩))];refine List.filter_congr λr hr=>?_;rw[jj];cases ha:agr r.2 tk with
  |false=>rfl
  |true =>
   have:¬(r.2.getD n false==said n)=true:=λz=>h (yD.mpr ⟨r.2,zD.mpr ⟨r,hr,rfl⟩,by rw[jj,ha,z];rfl⟩);cases h1:r.2.getD n false<;>cases h2:said n<;>rw[h1,h2]at this<;>first|rfl|exact absurd rfl this
def Ws(K:W.Frag):Sp:=λvs H Q _=>∃(d j o:Addr)(R J:List (Addr×List Bool))(m:Nat)(ord:List Nat),vs=[.ref d,.ref j,.ref o]/\H d=some (.lst (R.map λr=>V.ref r.1))/\(∀r∈R,SqT K H r.1 (r.2.map V.bl))/\(∀r∈R,r.2.length=m)/\1<=R.length/\R.length<=32/\JudgesAt K H j J m/\SqT K H o (ord.map λn=>V.int ((n:Nat):Int))/\(∀n∈ord,n<m) /\
 ∀(r:Addr×List Bool)(H':Hp),Same H H'->r∈R->agr r.2 (zf (R.map (·.2)) (zk (J.map (·.2))) ord)=true->Q (.ref r.1) H'
theorem Qx(D:Def K mg "_law_taken" (top 65) ["_law_fit","_law_judges","_law_order_here"])(aN:zy P w K mg base 1 "_law_most_of" ["_law_judges","_law_number"] (qi K))(aB:mg "len"=none)(dX:mg "list"=none):zy P w K mg base 2 "_law_taken" ["_law_fit","_law_judges","_law_order_here"] (Ws K):=by
 refine D.callee (N:=["_law_fit","_law_judges","_law_order_here","_law_left","_law_number","_law_truth","_law_some"]) (by walk_at"sc") (by walk_at"ln") λf cdv A outer s H vs Q E hr nd h=>?_;obtain⟨d,j,o,R,J,m,ord,rfl,hd,hR,iL,h1,Bl,hJ,ho,iS,q⟩:=h;generalize hsaid:zk (J.map (·.2))=said at *;refine⟨[some (.ref d),some (.ref j),some (.ref o),none,none,none,none],_,rfl,(z5 (zn 3 nd (ze Qg rfl dX Vi (z9 (z8 0) z6)))
  (z5 (xq yM rfl (yw (z8 2)) (wo 4 nd) (z5 (zn 5 nd (zw aN hr (by lia) (z9 (z8 1) (z9 (z8 4) z6))))
  (z5 (ye 6 nd (ixs:=[4,5]) (zo (own:=["_law_row_here"]) (N:=["_law_number","_law_truth"]) rfl rfl rfl rfl rfl rfl rfl (by decide +kernel) rfl rfl rfl) rfl (yw (z8 3)) (λ_ _ _ _=>(vq (zg (w6 hr.units) (zd (z8 0) (z8 1) (λ_ _=>rfl)) (z8 2) (zi _)))) (λ_ _ _ _=>(z8 0)) rfl)
  (z4 (y6 (zg T6 (zq yi rfl aB yy (z9 (z8 6) z6)) zz (zi _)) (z4 (zn 3 nd (z8 6))) zm)))))
  (z4 (zv (zd (z8 3) zz (λ_ _=>rfl)))))),?_⟩
 walk_at"rp";refine⟨_,.inl (SqL.of hd),λl H1 n1 s1 e1=>?_⟩;walk_at"rp";refine .inr ⟨⟨_,(z7 s1).sqT ho⟩,xh (xs:=ord.map λn=>V.int ((n:Nat):Int)) (λi σ H2=>∃(l:Addr)(x4 x5 x6:Option V),σ=[some (.ref d),some (.ref j),some (.ref o),some (.ref l),x4,x5,x6]/\H2 l=some (.lst ((R.filter λr=>agr r.2 (zf (R.map (·.2)) said (ord.take i))).map λr=>V.ref r.1))/\(R.filter λr=>agr r.2 (zf (R.map (·.2)) said (ord.take i)))≠[]/\Same H H2) ⟨l,none,none,none,rfl,?_,?_,s1⟩ ?_ ?_ ?_⟩
 ·rw[e1];have:(R.filter λr=>agr r.2 (zf (R.map (·.2)) said (ord.take 0)))=R:=tM.mpr λr _=>by simp[zf,agr]
  rw[this]
 ·have:(R.filter λr=>agr r.2 (zf (R.map (·.2)) said (ord.take 0)))=R:=tM.mpr λr _=>by simp[zf,agr]
  rw[this];exact List.ne_nil_of_length_pos (by lia)
 ·rintro i σ H2 _ ⟨l,x4,x5,x6,rfl,_,_,s2⟩;exact(z7 s2).sqT ho
 ·rintro i v σ H2 hv ⟨l,x4,x5,x6,rfl,e2,aZ,s2⟩;rw[zT]at hv;cases hc:ord[i]? with
  |none=>rw[hc]at hv;cases hv
  |some n =>
   rw[hc]at hv;cases hv;have mQ:=iS n (zN hc);have eF:=bn (R:=R) (said:=said) (tk:=zf (R.map (·.2)) said (ord.take i)) (n:=n);rw[<-va hc]at eF;generalize hF:(R.filter λr=>agr r.2 (zf (R.map (·.2)) said (ord.take i)))=F at *;have hFR:∀x∈F,x∈R:=λx hx=>by rw[<-hF]at hx;exact(xP.mp hx).1
   have CU:F.length<=32:=by rw[<-hF];exact yT (xE _ _) Bl
   walk_at"rp";refine⟨j,J,m,n,rfl,hJ.mono (z7 s2),mQ,λH3 s3=>?_⟩;rw[hsaid];walk_at"rp";have AQ:=s2.trans s3;refine .inl ⟨⟨_,SqL.of (s3 _ _ e2)⟩,λC s₀ H₀ ex=>?_⟩;refine fu (xs:=F.map λr=>V.ref r.1) (λD k ys H4=>ys=(((F.take k).filter λr=>r.2.getD n false==said n).map λr=>V.ref r.1)/\H4 D=some (.lst ys)/\Same H3 H4/\H3 D=none) (by rw[zY,zM];lia) ?_ ?_ ?_ ?_
   ·intro D H4 n4 s4 e4;exact⟨rfl,e4,s4,n4⟩
   ·rintro D k ys H4 ⟨rfl,e4,s4,_⟩;refine⟨SqL.of (s4 _ _ (s3 _ _ e2)),e4,?_⟩;rw[zY];exact yT (xE _ _) (List.length_take_le _ _)
   ·rintro D k v ys H4 hv ⟨rfl,e4,s4,n4⟩;rw[zT]at hv;cases cT:F[k]? with
    |none=>rw[cT]at hv;cases hv
    |some e =>
     rw[cT]at hv;cases hv;have hk:k<(F.map λr=>V.ref r.1).length:=by rw[zY];exact(zW.mp cT).1
     have hm:=hFR e (zN cT);have htk:((F.take (k+1)).filter λr=>r.2.getD n false==said n)=((F.take k).filter λr=>r.2.getD n false==said n)++(if(e.2.getD n false==said n)=true then[e]else[]):=by
      rw[yY,cT,wF,show(some e).toList=[e]from rfl,wQ,uG]
     walk_at"rp";refine⟨_,_,.inr ((z7 (AQ.trans s4)).sqT (hR e hm)),wf (by rw[iL e hm];exact mQ),?_⟩;walk_at"rp";have hee:decide (e.2.getD n false=said n)=(e.2.getD n false==said n):=by cases e.2.getD n false<;>cases said n<;>rfl
     rw[hee];refine vp (λc9=>⟨e4,CN.mk hk ⟨?_,zx,zu s4 n4 _,n4⟩⟩) λc9=>CN.mk hk ⟨?_,e4,s4,n4⟩
     ·rw[htk,yV c9,zJ]
      rfl
     ·rw[htk,zC c9,List.append_nil]
   ·rintro D ys H4 ⟨rfl,e4,s4,n4⟩;rw[zY,zB]at e4;walk_at"rp";refine⟨_,.inl (SqL.of e4),?_⟩;rw[zY];generalize hG:(F.filter λr=>r.2.getD n false==said n)=G at *;have qB:=s3.trans s4
    by_cases hG0:G=[]
    ·rw[yV hG0]at eF;subst hG0;walk_at"rp";exact⟨l,_,_,_,rfl,by rw[eF];exact qB _ _ e2,by rw[eF];exact aZ,s2.trans qB⟩
    ·rw[zC hG0]at eF;rw[yU (by have:=List.length_pos_iff.mpr hG0;lia)];walk_at"rp";exact⟨D,_,_,_,rfl,by rw[eF];exact e4,by rw[eF];exact hG0,s2.trans qB⟩
 ·rintro σ H2 ⟨l,x4,x5,x6,rfl,e2,aZ,s2⟩;rw[zY,zB]at e2 aZ;walk_at"rp";cases hF:(R.filter λr=>agr r.2 (zf (R.map (·.2)) said ord))with
  |nil=>exact(aZ hF).elim
  |cons r F =>
   rw[hF]at e2;refine⟨_,_,.inl (SqL.of e2),(show atI ((r::F).map λr=>V.ref r.1) ((0:Nat):Int)=some (V.ref r.1)from yf rfl),?_⟩;walk_at"rp";have hm:r∈R.filter λr=>agr r.2 (zf (R.map (·.2)) said ord):=by rw[hF];exact zG
   exact q r H2 s2 (xP.mp hm).1 (xP.mp hm).2
theorem lh(ks:List (List Bool))(j:Nat):∀i,(yq ks j true i).length+(yq ks j false i).length=i
 |0=>rfl
 |i+1=>by
  rw[w9,w9,zP,zP];have:=lh ks j i;cases h:(ks.getD i []).getD j false<;>simp<;>lia
theorem Oj(ks:List (List Bool))(j:Nat):0-(if 2*((we ks j).length:Int)-(ks.length:Int)<0 then -(2*((we ks j).length:Int)-(ks.length:Int))else 2*((we ks j).length:Int)-(ks.length:Int)) = -ni ks j:=by
 have h1:=lg ks j;have h2:=lh ks j ks.length;unfold ni;split<;>split<;>lia
def Tu(ks:List (List Bool))(j:Nat):Int×Int:=(-ni ks j,(j:Int))
def oo(K:W.Frag):Sp:=λvs H Q _=>∃(a:Addr)(J:List (Addr×List Bool))(m:Nat),vs=[.ref a]/\JudgesAt K H a J m/\m<=10/\∀(p:Addr)(H':Hp)(ord:List Nat),Same H H'->SqT K H' p (ord.map λn=>V.int ((n:Nat):Int))->ord.Perm (List.range m)->ord.Pairwise (u4 λj=>-ni (J.map (·.2)) j)->Q (.ref p) H'
theorem du(D:Def K mg "_law_strongest" (top 66) ["_law_judges"])(aB:mg "len"=none)(aA:mg "range"=none)(fP:mg "abs"=none)(aF:mg "sorted"=none)(aC:mg "tuple"=none):zy P w K mg base 1 "_law_strongest" ["_law_judges"] (oo K):=by
 refine D.callee (N:=["_law_judges","_law_found","_law_number","_law_yes"]) (by walk_at"sc") (by walk_at"ln") λf cdv A outer s H vs Q E hr nd h=>?_;obtain⟨a,J,m,rfl,hJ,hm,q⟩:=h;have lK:=hJ.hi;obtain⟨r,nE,FE⟩:=tq hJ;refine⟨[some (.ref a),none,none,none],_,rfl,(z5 (zn 1 nd (wa z6))
  (z5 (xq yM rfl (yp rfl aA (z9 (zq yi rfl aB yy (z9 (zd (z8 0) zz (λ_ _=>rfl)) z6)) z6)) (wo 2 nd) (z5 (zn 3 nd (zq yi rfl aB yy (z9 (yc (ixs:=[2]) (zo (own:=["_law_row_here"]) (N:=["_law_number"]) rfl rfl rfl rfl rfl rfl rfl (by decide +kernel) rfl rfl rfl) rfl (yw (z8 0)) (λ_ _ _ _=>(vq (vv (zd (z8 0) (z8 1) (λ_ _=>rfl))))) (λ_ _ _ _=>(z8 0)) rfl) z6)))
  (z4 (v6 (kh wT wS kg (z8 1) (z9 (wb (z9 (zt ki zz (zq Zl rfl fP O2 (z9 (zt ki (zt wj zz (z8 3)) (zq yi rfl aB yy (z9 (z8 0) z6))) z6))) (z9 (z8 2) z6))) z6))))))
  (z4 (zv (ze yg rfl aC yo (z9 (qd (ixs:=[]) (zo (own:=["_law_apart","_law_number"]) (N:=[]) rfl rfl rfl rfl rfl rfl rfl (by decide +kernel) rfl rfl rfl) rfl (yw (zq Jw rfl aF r9 (z9 (z8 1) z6))) (λ_ _ _ _=>yu) (λ_ _ _ _=>(z8 1)) rfl) z6)))))),?_⟩
 walk_at"rp";refine⟨xu (by simp),λl H1 n1 s1 e1=>?_⟩;walk_at"rp";refine⟨_,_,.inr ((z7 s1).sqT hJ.sq),FE,?_⟩;walk_at"rp";refine⟨_,.inr ((z7 s1).sqT (hJ.row r nE)),?_⟩;rw[zY,hJ.len r nE];refine⟨⟨by lia,by lia⟩,?_⟩;rw[yW];refine w4 (λi σ H2=>∃(x2 x3:Option V)(T:List (Addr×(Int×Int))),σ=[some (.ref a),some (.ref l),x2,x3]/\H2 l=some (.lst (T.map λt=>V.ref t.1))/\Oo K H2 T/\T.map (·.2)=(List.range i).map (Tu (J.map (·.2)))/\Same H H2) ⟨none,none,[],rfl,e1,(λx hx=>by cases hx),rfl,s1⟩ ?_ ?_
 ·rintro i σ H2 hi ⟨x2,x3,T,rfl,e2,hT,FF,s2⟩;have hTl:T.length=i:=by have:=xK List.length FF;simpa using this
  walk_at"rp";rw[wJ];have Ce:=hJ.mono (z7 s2);refine .inr ⟨⟨_,Ce.sq⟩,λC s₀ H₀ ex=>?_⟩;refine vh (xs:=J.map λr=>V.ref r.1) (λD n ys H3=>ys.length=(we ((J.map (·.2)).take n) i).length/\H3 D=some (.lst ys)/\Same H2 H3/\H2 D=none) (by rw[zY,zM];lia) ?_ ?_ ?_ ?_
  ·intro D H3 n3 s3 e3;exact⟨rfl,e3,s3,n3⟩
  ·rintro D n ys H3 ⟨hy,e3,s3,_⟩;exact⟨(z7 s3).sqT Ce.sq,e3,by rw[hy];exact ir _ _ _⟩
  ·rintro D n v ys H3 hv ⟨hy,e3,s3,n3⟩;rw[zT]at hv;cases cT:J[n]? with
   |none=>rw[cT]at hv;cases hv
   |some r2 =>
    rw[cT]at hv;cases hv;have hn:n<J.length:=(zW.mp cT).1;have fC:=zN cT;have ek:(J.map (·.2))[n]?=some r2.2:=by rw[zT,cT];rfl
    walk_at"rp";refine⟨_,_,.inr ((z7 s3).sqT (Ce.row r2 fC)),wf (by rw[Ce.len r2 fC];exact hi),?_⟩;walk_at"rp";cases hc:r2.2.getD i false with
    |true =>
     walk_at"rp";refine⟨e3,CN.mk (by rw[zY];exact hn) ⟨?_,zx,zu s3 n3 _,n3⟩⟩;rw[uu ek,yV hc,zP,zP,hy]
     rfl
    |false =>
     walk_at"rp";refine CN.mk (by rw[zY];exact hn) ⟨?_,e3,s3,n3⟩;rw[uu ek,zC (by rw[hc];decide),List.append_nil];exact hy
  ·rintro D ys H3 ⟨hy,e3,s3,n3⟩;rw[zY,<-zY (f:=λr:Addr×List Bool=>r.2),zB]at hy;have fQ:ys.length<=J.length:=by rw[hy];exact yT (xE _ _) (by rw[zY];exact zU _)
   walk_at"rp";refine⟨_,.inl (SqL.of e3),?_⟩;walk_at"rp";refine⟨⟨_,_,rfl,s3 _ _ e2⟩,?_⟩;walk_at"rp";refine⟨cm (by lia),_,.inr ((z7 s3).sqT Ce.sq),?_⟩;walk_at"rp";refine⟨_,rfl,?_⟩;walk_at"rp";refine⟨sz2,λz H4 n4 s4 e4=>?_⟩;walk_at"rp";have ek:(0-(if 2*(ys.length:Int)-((J.map λr=>V.ref r.1).length:Int)<0 then -(2*(ys.length:Int)-((J.map λr=>V.ref r.1).length:Int))else 2*(ys.length:Int)-((J.map λr=>V.ref r.1).length:Int))) = -ni (J.map (·.2)) i:=by
    rw[hy,zY,<-Oj,zY]
   have e34:=(s3.trans s4) _ _ e2;have t5:Tups H4 (upd H4 l (.lst (T.map (λt=>V.ref t.1)++[V.ref z]))):=xr e34;refine⟨_,e34,by rw[zY,zM];lia,_,_,T++[(z,Tu (J.map (·.2)) i)],rfl,?_,λx hx=>?_,?_,?_⟩
   ·rw[zx,zJ]
    rfl
   ·rcases zK.mp hx with hx|hx
    ·exact((z7 (s3.trans s4)).trans t5).sqT (hT x hx)
    ·rw[zO.mp hx];have:=t5.sqT (SqT.of (K:=K) e4);rw[ek]at this;exact this
   ·rw[zJ,FF,vY,zJ]
    rfl
   ·exact zu (s2.trans (s3.trans s4)) n1 _
 ·rintro σ H2 ⟨x2,x3,T,rfl,e2,hT,FF,s2⟩;have hTl:T.length=m:=by have:=xK List.length FF;simpa using this
  walk_at"rp";refine⟨l,T,rfl,SqL.of e2,hT,by lia,λT' pm hs l3 H3 n3 s3 e3=>?_⟩;walk_at"rp";have hT'l:T'.length=m:=by rw[pm.length_eq,hTl]
  obtain⟨ord,hp,eo⟩:∃ord:List Nat,ord.Perm (List.range m)/\T'.map (·.2)=ord.map (Tu (J.map (·.2))):=Rb (by rw[<-FF];exact pm.map _);refine .inl ⟨⟨_,SqL.of e3⟩,λC s₀ H₀ ex=>?_⟩;refine Td (xs:=T'.map λt=>V.ref t.1) (λD k ys H4=>ys=((T'.take k).map λt=>V.int t.2.2)/\k<=T'.length/\H4 D=some (.lst ys)/\Same H3 H4/\H3 D=none) (by rw[zY,zM];lia) ?_ ?_ ?_ ?_
  ·intro D H4 n4 s4 e4;exact⟨rfl,yR _,e4,s4,n4⟩
  ·rintro D k ys H4 ⟨rfl,hk,e4,s4,_⟩;exact⟨SqL.of (s4 _ _ e3),e4,by rw[zY,yS];exact Nat.min_le_left _ _⟩
  ·rintro D k v ys H4 hv ⟨rfl,hk,e4,s4,n4⟩;rw[zT]at hv;cases hc:T'[k]? with
   |none=>rw[hc]at hv;cases hv
   |some e =>
    rw[hc]at hv;cases hv;have lY:k<T'.length:=(zW.mp hc).1;have hem:=pm.mem_iff.mp (zN hc);refine⟨e.1,_,_,rfl,(z7 (s3.trans s4)).sqT (hT e hem),?_⟩;walk_at"rp";refine⟨e4,CN.mk (by rw[zY];exact lY) ⟨?_,lY,zx,zu s4 n4 _,n4⟩⟩;rw[yY,hc,zJ]
    rfl
  ·rintro D ys H4 ⟨rfl,hk,e4,s4,n4⟩;rw[zY,zB]at e4;walk_at"rp";refine⟨_,.inl (SqL.of e4),λp H5 s5 h5=>?_⟩;have eT:(T'.map λt=>V.int t.2.2)=ord.map λn=>V.int ((n:Nat):Int):=by
    have:=xK (List.map λk:Int×Int=>V.int k.2) eo;rw[yF,yF]at this;exact this
   rw[eT]at h5;refine q p H5 ord (s2.trans (s3.trans (s4.trans s5))) h5 hp ?_;rw[eo,wB]at hs;have lX:ord.Pairwise (·≠·):=hp.nodup_iff.mpr vI;refine(hs.and lX).imp λ{x y} h=>?_;have h1:¬iLt (Tu (J.map (·.2)) y) (Tu (J.map (·.2)) x)=true:=by rw[h.1];decide
   have h2:=mt iLt_iff.mpr h1;have h3:=h.2;unfold Tu at h2;unfold u4;dsimp only at h2 ⊢;lia
def L4(K:W.Frag):Sp:=λvs H Q _=>∃(a j b:Addr)(k:List Bool)(J:List (Addr×List Bool))(ws:List Int)(m:Nat),vs=[.ref a,.ref j,.ref b]/\SqT K H a (k.map V.bl)/\k.length=m/\m<=10/\JudgesAt K H j J m/\SqT K H b (ws.map V.int)/\ws.length=m/\∀H',Same H H'->Q (.int (xy k (J.map (·.2)) ws m)) H'
theorem J4(D:Def K mg "_law_far" (top 67) ["_law_row_here","_law_judges","_law_weights"])(aB:mg "len"=none)(aA:mg "range"=none):zy P w K mg base 1 "_law_far" ["_law_row_here","_law_judges","_law_weights"] (L4 K):=by
 refine D.callee (N:=["_law_row_here","_law_judges","_law_weights","_law_found","_law_judge","_law_k"]) (by walk_at"sc") (by walk_at"ln") λf cdv A outer s H vs Q E hr nd h=>?_;obtain⟨a,j,b,k,J,ws,m,rfl,ha,hk,hm,hJ,hb,hw,q⟩:=h;refine⟨[some (.ref a),some (.ref j),some (.ref b),none,none,none],_,rfl,(z5 (zn 3 nd zz)
  (z5 (xq yM rfl (yw (z8 1)) (wo 4 nd) (z4 (xq yM rfl (yp rfl aA (z9 (zq yi rfl aB yy (z9 (z8 0) z6)) z6)) (wo 5 nd) (z4 (y6 (zg (di hr.units) (zd (z8 4) (z8 5) (λ_ _=>rfl)) (zd (z8 0) (z8 5) (λ_ _=>rfl)) (zi _)) (z4 (zn 3 nd (zt zj (z8 3) (zd (z8 2) (z8 5) (λ_ _=>rfl))))) zm)))))
  (z4 (zv (z8 3))))),?_⟩
 walk_at"rp";refine .inr ⟨⟨_,hJ.sq⟩,xh (xs:=J.map λr=>V.ref r.1) (λi σ H2=>∃(x4 x5:Option V),σ=[some (.ref a),some (.ref j),some (.ref b),some (.int (xy k ((J.map (·.2)).take i) ws m)),x4,x5]/\H2=H) ⟨none,none,by simp[xy],rfl⟩ ?_ ?_ ?_⟩
 ·rintro i σ H2 _ ⟨x4,x5,rfl,rfl⟩;exact hJ.sq
 ·rintro i v σ H2 hv ⟨x4,x5,rfl,rfl⟩;rw[zT]at hv;cases hc:J[i]? with
  |none=>rw[hc]at hv;cases hv
  |some r =>
   rw[hc]at hv;cases hv;have fC:=zN hc;have ek:(J.map (·.2))[i]?=some r.2:=by rw[zT,hc];rfl
   walk_at"rp";refine⟨_,.inr ha,?_⟩;rw[zY,hk];refine⟨⟨by lia,by lia⟩,?_⟩;rw[yW];refine w4 (λn σ H3=>∃(x5:Option V),σ=[some (.ref a),some (.ref j),some (.ref b),some (.int (xy k ((J.map (·.2)).take i) ws m+ql k r.2 ws n)),some (.ref r.1),x5]/\H3=H2) ⟨_,by rw[show ql k r.2 ws 0=0 from rfl,Int.add_zero],rfl⟩ ?_ ?_
   ·rintro n σ H3 hn ⟨x5',rfl,rfl⟩;walk_at"rp";rw[wJ];refine⟨_,_,.inr (hJ.row r fC),wf (by rw[hJ.len r fC];exact hn),?_⟩;walk_at"rp";refine⟨_,_,.inr ha,wf (by lia),?_⟩;walk_at"rp"
    by_cases he:k.getD n false=r.2.getD n false
    ·rw[yU he.symm];walk_at"rp";exact⟨_,by rw[il he],trivial⟩
    ·rw[yO λz=>he z.symm];walk_at"rp";have hx:ws[n]?=some ws[n]:=zS (by lia);refine⟨_,_,.inr hb,yf (by rw[zT,hx];rfl),?_⟩;walk_at"rp";exact⟨_,by rw[mq he hx,Int.add_assoc],trivial⟩
   ·rintro σ H3 ⟨x5',rfl,rfl⟩;walk_at"rp";exact⟨_,_,by rw[W9 ek],trivial⟩
 ·rintro σ H2 ⟨x4,x5,rfl,rfl⟩;walk_at"rp";rw[zY,<-zY (f:=λr:Addr×List Bool=>r.2),zB];exact q _ (Same.refl _)
theorem pw{α:Type}(g:α->Int)(M:Int):∀(l:List α),M∈l.map g->∃x rest,l[(l.map g).idxOf M]?=some x/\(l.filter λk=>decide (g k=M))=x::rest
 |[],h=>by cases h
 |a::l,h=>by
  by_cases e:g a=M
  ·refine⟨a,l.filter λk=>decide (g k=M),?_,?_⟩
   ·rw[List.map_cons,List.idxOf_cons,show(g a==M)=true from uM.mpr e]
    rfl
   ·rw[wQ,yV (yU e)]
  ·obtain⟨x,rest,h1,h2⟩:=pw g M l (by
    rcases zI.mp h with z|z
    ·exact(e z.symm).elim
    ·exact z)
   refine⟨x,rest,?_,?_⟩
   ·rw[List.map_cons,List.idxOf_cons,show(g a==M)=false from wA.mpr e];simpa using h1
   ·rw[wQ,zC (by simpa using e)];exact h2
def on(K:W.Frag):Sp:=λvs H Q _=>∃(d j b:Addr)(R J:List (Addr×List Bool))(ws:List Int)(m:Nat),vs=[.ref d,.ref j,.ref b]/\H d=some (.lst (R.map λr=>V.ref r.1))/\(∀r∈R,SqT K H r.1 (r.2.map V.bl))/\(∀r∈R,r.2.length=m)/\1<=R.length/\R.length<=32/\m<=10/\JudgesAt K H j J m/\SqT K H b (ws.map V.int)/\ws.length=m /\
 ∀(r:Addr×List Bool)(H':Hp),Same H H'->r∈R->(∃rest,um (R.map (·.2)) (J.map (·.2)) ws m=r.2::rest)->Q (.ref r.1) H'
theorem dt(D:Def K mg "_law_first_near" (top 68) ["_law_fit","_law_judges","_law_weights"])(pV:zy P w K mg base 1 "_law_far" ["_law_row_here","_law_judges","_law_weights"] (L4 K))(aV:mg "min"=none):zy P w K mg base 2 "_law_first_near" ["_law_fit","_law_judges","_law_weights"] (on K):=by
 refine D.callee (N:=["_law_fit","_law_judges","_law_weights","_law_far_here"]) (by walk_at"sc") (by walk_at"ln") λf cdv A outer s H vs Q E hr nd h=>?_;obtain⟨d,j,b,R,J,ws,m,rfl,hd,hR,iL,h1,Bl,hm,hJ,hb,hw,q⟩:=h;refine⟨[some (.ref d),some (.ref j),some (.ref b),none],_,rfl,(z5 (ye 3 nd (ixs:=[1,2]) (zo (own:=["_law_row_here"]) (N:=["_law_judges","_law_weights"]) rfl rfl rfl rfl rfl rfl rfl (by decide +kernel) rfl rfl rfl) rfl (yw (z8 0)) (λ_ _ _ _=>yu) (λ_ _ _ _=>(zw pV hr (by lia) (z9 (z8 0) (z9 (z8 1) (z9 (z8 2) z6))))) rfl)
  (z4 (zv (zd (z8 0) (kh F.slot_list_index F.type_list_index Gp (z8 3) (z9 (zq (Qh rfl) rfl aV cf (z9 (z8 3) z6)) z6)) (λ_ _=>rfl))))),?_⟩
 walk_at"rp";refine .inl ⟨⟨_,SqL.of hd⟩,λC s₀ H₀ ex=>?_⟩;refine tm (xs:=R.map λr=>V.ref r.1) (λD i ys H2=>ys=((R.take i).map λr=>xy r.2 (J.map (·.2)) ws m).map V.int/\i<=R.length/\H2 D=some (.lst ys)/\Same H H2/\H D=none) (by rw[zY,zM];lia) ?_ ?_ ?_ ?_
 ·intro D H2 n2 s2 e2;exact⟨rfl,yR _,e2,s2,n2⟩
 ·rintro D i ys H2 ⟨rfl,hi,e2,s2,_⟩;exact⟨SqL.of (s2 _ _ hd),e2,by rw[zY,zY,yS];lia⟩
 ·rintro D i v ys H2 hv ⟨rfl,hi,e2,s2,n2⟩;rw[zT]at hv;cases hc:R[i]? with
  |none=>rw[hc]at hv;cases hv
  |some r =>
   rw[hc]at hv;cases hv;have fC:=zN hc;have Bb:i<R.length:=(zW.mp hc).1;walk_at"rp";refine⟨r.1,j,b,r.2,J,ws,m,rfl,(z7 s2).sqT (hR r fC),iL r fC,hm,hJ.mono (z7 s2),(z7 s2).sqT hb,hw,λH3 s3=>?_⟩;walk_at"rp";refine⟨s3 _ _ e2,CN.mk (by rw[zY];exact Bb) ⟨?_,Bb,zx,zu (s2.trans s3) n2 _,n2⟩⟩;rw[yY,hc,zJ,zJ]
   rfl
 ·rintro D ys H2 ⟨rfl,hi,e2,s2,n2⟩;rw[zY,zB]at e2;walk_at"rp";refine⟨⟨_,_,rfl,e2⟩,_,SqL.of e2,by rw[zY];exact h1,λM hM fT=>?_⟩;have hml:(R.map λr=>xy r.2 (J.map (·.2)) ws m)=(R.map (·.2)).map λk=>xy k (J.map (·.2)) ws m:=by rw[yF];rfl
  refine⟨D,_,M,rfl,rfl,SqL.of e2,hM,by rw[zY];lia,?_⟩;walk_at"rp";obtain⟨x,rest,hx,hf⟩:=pw (λr:Addr×List Bool=>xy r.2 (J.map (·.2)) ws m) M R hM;refine⟨_,_,.inl (SqL.of (s2 _ _ hd)),yf (by rw[zT,hx];rfl),?_⟩;walk_at"rp";refine q x H2 s2 (zN hx) ⟨rest.map λr:Addr×List Bool=>r.2,?_⟩;rw[<-km (M:=M) (by rw[<-hml];exact hM) (by rw[<-hml];exact fT),List.filter_map];have:(R.filter ((λk=>decide (xy k (J.map (·.2)) ws m=M))∘λx=>x.2))=x::rest:=hf;rw[this]
  rfl
def Yy:Sp:=λvs H Q _=>∃(k j:Int),vs=[.int k,.int j]/\0<=k/\k<=100000/\0<=j/\j<=100/\∀r:Int,0<=r->r<9973->Q (.int r) H
theorem Ni(D:Def K mg "_law_next" (top 51) ["_law_k","_law_j"]):zy P w K mg base 1 "_law_next" ["_law_k","_law_j"] Yy:=by
 refine D.callee (N:=["_law_k","_law_j"]) (by walk_at"sc") (by walk_at"ln") λf cdv A outer s H vs Q E hr nd h=>?_;obtain⟨k,j,rfl,h0,hk,hj0,hj,q⟩:=h;refine⟨[some (.int k),some (.int j)],_,rfl,(z4 (zv (zt ue (zt zj (zt zj (zt wj (z8 0) zz) (zt wj (z8 1) zz)) zz) zz))),?_⟩;walk_at"rp";exact⟨cm (by lia),cm (by lia),by decide,q _ (uK _ (by decide)) (vC _ (by decide))⟩
def Xe(R:List (List Bool))(ps:List (Nat×Bool))(n:Nat)(t:Bool):Bool:=R.all λk=>(k.getD n false==t)||!agr k ps
def Sd(K:W.Frag):Sp:=λvs H Q _=>∃(d a:Addr)(R:List (Addr×List Bool))(us:List V)(ps:List (Nat×Bool))(m n:Nat)(t:Bool),vs=[.ref d,.ref a,.int (n:Int),.bl t]/\H d=some (.lst (R.map λr=>V.ref r.1))/\(∀r∈R,SqT K H r.1 (r.2.map V.bl))/\(∀r∈R,r.2.length=m)/\R.length<=32/\SqT K H a us/\PairsAt K H us ps/\(∀p∈ps,p.1<m)/\ps.length<=10/\n<m/\∀H',Same H H'->Q (.bl (Xe (R.map (·.2)) ps n t)) H'
theorem M8(D:Def K mg "_law_goes" (top 70) ["_law_fit","_law_part_here","_law_number","_law_truth"])(aB:mg "len"=none):zy P w K mg base 1 "_law_goes" ["_law_fit","_law_part_here","_law_number","_law_truth"] (Sd K):=by
 refine D.callee (N:=["_law_fit","_law_part_here","_law_number","_law_truth","_law_row_here","_law_apart"]) (by walk_at"sc") (by walk_at"ln") λf cdv A outer s H vs Q E hr nd h=>?_;obtain⟨d,a,R,us,ps,m,n,t,rfl,hd,hR,iL,lK,ha,hP,Ae,bL,hn,q⟩:=h;refine⟨[some (.ref d),some (.ref a),some (.int (n:Int)),some (.bl t),none,none],_,rfl,(z5 (xq yM rfl (yw (z8 0)) (wo 4 nd) (z5 (ye 5 nd (ixs:=[4]) (zo (own:=["_law_pair"]) (N:=["_law_row_here"]) rfl rfl rfl rfl rfl rfl rfl (by decide +kernel) rfl rfl rfl) rfl (yw (z8 1)) (λ_ _ _ _=>(vq (zg (di hr.units) (zd (z8 1) (zd (z8 0) zz (λ_ _=>rfl)) (λ_ _=>rfl)) (zd (z8 0) zz (λ_ _=>rfl)) (zi _)))) (λ_ _ _ _=>(z8 0)) rfl)
  (z4 (y6 (PW.pt (Rn (zg (di hr.units) (zd (z8 4) (z8 2) (λ_ _=>rfl)) (z8 3) (zi _)) (Wg (zg (w6 hr.units) (zq yi rfl aB yy (z9 (z8 5) z6)) zz (zi _))))) (z4 (zv wn)) zm))))
  (z4 (zv wn))),?_⟩
 walk_at"rp";refine .inl ⟨⟨_,SqL.of hd⟩,vm (xs:=R.map λr=>V.ref r.1) (λi σ H1=>(∃x4 x5,σ=[some (.ref d),some (.ref a),some (.int (n:Int)),some (.bl t),x4,x5])/\Same H H1/\∀r∈R.take i,((r.2.getD n false==t)||!agr r.2 ps)=true) ⟨⟨_,_,rfl⟩,Same.refl _,λr hr=>by simp at hr⟩ ?_ ?_ ?_⟩
 ·rintro i σ H1 _ ⟨⟨x4,x5,rfl⟩,s1,_⟩;exact SqL.of (s1 _ _ hd)
 ·rintro i v σ H1 hv ⟨⟨x4,x5,rfl⟩,s1,bQ⟩;rw[zT]at hv;cases hc:R[i]? with
  |none=>rw[hc]at hv;cases hv
  |some r =>
   rw[hc]at hv;cases hv;have fC:=zN hc;have htk:R.take (i+1)=R.take i++[r]:=by rw[yY,hc];rfl
   walk_at"rp";refine .inr ⟨⟨_,(z7 s1).sqT ha⟩,λC' s₀ H₀ ex=>?_⟩;refine vh (xs:=us) (λD k ys H2=>ys.length<=k/\(decide (ys.length=0)=agr r.2 (ps.take k))/\H2 D=some (.lst ys)/\Same H1 H2/\H1 D=none) (by rw[hP.len,zM];lia) ?_ ?_ ?_ ?_
   ·intro D H2 n2 s2 e2;exact⟨zU _,rfl,e2,s2,n2⟩
   ·rintro D k ys H2 ⟨kL,_,e2,s2,_⟩;exact⟨(z7 (s1.trans s2)).sqT ha,e2,kL⟩
   ·rintro D k v ys H2 hv ⟨kL,h2,e2,s2,n2⟩;have eZ:=s1.trans s2;obtain⟨b,p,hp,rfl,hb⟩:=(hP.mono (z7 eZ)).at k v hv;have hk:k<us.length:=(zW.mp hv).1;have aI:=Ae p (zN hp);obtain⟨b1,Cm⟩:∃b1,r.2[p.1]?=some b1:=⟨_,zS (by rw[iL r fC];exact aI)⟩
    have g1:r.2.getD p.1 false=b1:=by rw[yZ,Cm];rfl
    walk_at"rp";refine⟨_,_,.inr hb,rfl,?_⟩;walk_at"rp";refine⟨_,_,.inr ((z7 eZ).sqT (hR r fC)),yf (by rw[zT,Cm];rfl),?_⟩;walk_at"rp";refine⟨_,_,.inr hb,rfl,?_⟩;walk_at"rp";refine vp (λc=>?_) λc=>?_
    ·refine⟨e2,CN.mk hk ⟨by rw[zP];exact Nat.succ_le_succ kL,?_,zx,zu s2 n2 _,n2⟩⟩;rw[jk hp,g1,zP];have:(b1==p.2)=false:=by cases rB:b1<;>cases iK:p.2<;>first|rfl|(rw[rB,iK]at c;cases c)
     rw[this,tW];exact yO (Nat.succ_ne_zero _)
    ·refine CN.mk hk ⟨by lia,?_,e2,s2,n2⟩;rw[jk hp,g1,h2];have:(b1==p.2)=true:=by cases rB:b1<;>cases iK:p.2<;>first|rfl|(rw[rB,iK]at c;exact absurd rfl c)
     rw[this,Bool.and_true]
   ·rintro D ys H2 ⟨kL,h2,e2,s2,n2⟩;rw[hP.len,zB]at h2;walk_at"rp";have eZ:=s1.trans s2;obtain⟨b1,Cm⟩:∃b1,r.2[n]?=some b1:=⟨_,zS (by rw[iL r fC];exact hn)⟩
    have g1:r.2.getD n false=b1:=by rw[yZ,Cm];rfl
    refine⟨_,_,.inr ((z7 eZ).sqT (hR r fC)),yf (by rw[zT,Cm];rfl),?_⟩;walk_at"rp";have next:((r.2.getD n false==t)||!agr r.2 ps)=true->∀r'∈R.take (i+1),((r'.2.getD n false==t)||!agr r'.2 ps)=true:=λh r' gH=>by
     rw[htk]at gH;rcases zK.mp gH with z|z
     ·exact bQ r' z
     ·rw[zO.mp z];exact h
    refine vp (λc=>?_) λc=>?_
    ·refine⟨_,.inl (SqL.of e2),?_⟩;have aZ:(b1==t)=false:=by cases rB:b1<;>cases ht:t<;>first|rfl|(rw[rB,ht]at c;cases c)
     refine vp (λc2=>?_) λc2=>?_
     ·have Aj:agr r.2 ps=true:=by rw[<-h2];exact yU (by have:=yQ c2;lia)
      have:Xe (R.map (·.2)) ps n t=false:=sM.mpr λz=>by
       have:=yA.mp z r.2 (yG (f:=(·.2)) fC);rw[g1,aZ,Aj]at this;cases this
      rw[this]at q;exact q H2 eZ
     ·refine⟨⟨_,_,rfl⟩,eZ,next ?_⟩;have Aj:agr r.2 ps=false:=by rw[<-h2];exact yO λz=>c2 (yU (by lia))
      rw[Aj,Bool.not_false,Bool.or_true]
    ·refine⟨⟨_,_,rfl⟩,eZ,next ?_⟩;have A1:(b1==t)=true:=by cases rB:b1<;>cases ht:t<;>first|rfl|(rw[rB,ht]at c;exact absurd rfl c)
     rw[g1,A1,Bool.true_or]
 ·rintro σ H1 ⟨⟨x4,x5,rfl⟩,s1,bQ⟩;walk_at"rp";rw[zY,zB]at bQ;have:Xe (R.map (·.2)) ps n t=true:=yA.mpr λk hk=>by
   obtain⟨r,hr,rfl⟩:=zD.mp hk;exact bQ r hr
  rw[this]at q;exact q H1 s1
def On(K:W.Frag)(H:Hp)(J:List (List Bool))(row:List Bool)(rs:List V):Prop:=∀n v t,rs[n]?=some v->row[n]?=some t->ReasonAt K H v "judges" ((yq J n t J.length).map λn=>V.int ((n:Nat):Int))
def Sj(K:W.Frag)(C:Addr):Sp:=λvs H Q _=>∃(x dx:Addr)(y:V)(a:Addr)(J:List (Addr×List Bool))(m:Nat),vs=[.ref x,y,.ref a]/\H x=some (.ins C dx [])/\JudgesAt K H a J m/\m<=10/\∀(l:Addr)(H':Hp)(rs:List V),Same H H'->H l=none->H' l=some (.lst rs)->rs.length=m->On K H' (J.map (·.2)) (xk (J.map (·.2)) m) rs->Q (.ref l) H'
theorem Nh{C:Addr}{ps:List Str}(D:DefM K C "reasons" "Most.reasons" (xp (top 44) 1) ["self","sayings","judges"])(eX:y8 P w K mg base 4 C "row" ps (Yw K))(bD:zy P w K mg base 3 "all_by_judges" ["judges","row"] (ee K)):y8 P w K mg base 5 C "reasons" ["self","sayings","judges"] (Sj K C):=by
 refine D.callee (N:=["self","sayings","judges"]) (by walk_at"sc") (by walk_at"ln") λf cdv A outer s H vs Q E hr nd h=>?_;obtain⟨x,dx,y,a,J,m,rfl,hx,hJ,hm,q⟩:=h;refine⟨[some (.ref x),some y,some (.ref a)],_,rfl,(z4 (zv (zw bD hr (by lia) (z9 (z8 2) (z9 (dh eX hr (by lia) (z8 0) (z9 (z8 1) (z9 (z8 2) z6))) z6))))),?_⟩;walk_at"rp";refine⟨x,dx,[],rfl,hx,rfl,?_⟩;refine⟨_,_,a,J,m,rfl,hJ,hm,λp H1 s1 hp=>?_⟩;walk_at"rp";refine⟨a,p,J,xk (J.map (·.2)) m,rfl,by rw[xo];exact hJ.mono (z7 s1),hp,by rw[xo];exact hm,λl H2 rs nl s2 el hl gG=>?_⟩;rw[xo]at hl;exact q l H2 rs (s1.trans s2) (y9 s1 nl) el hl λn v t hv ht=>by rw[zY];exact gG n v t hv ht
def Sl(K:W.Frag)(Pt C:Addr):Sp:=λvs H Q _=>∃(ws:List Int)(x dx b j:Addr)(fs:List (Str×V))(us:List V)(ts:List Say)(xs:List Str)(J:List (Addr×List Bool)),vs=[.ref x,.ref b,.ref j]/\H x=some (.ins C dx fs)/\Fl2 K ws H ts.length fs/\SqT K H b us/\SaysAt K H us ts/\Lst ts xs/\JudgesAt K H j J ts.length/\Tb Pt H /\
 ∀(l:Addr)(H':Hp)(ss:List Str)(R:List (List Bool))(row:List Bool)(rs:List V),SameP Pt H H'->Tb Pt H'->NamesOf ts ss->FitRows ts ss R->row.length=ts.length->RI2 ws ts.length R (J.map (·.2)) row->H l=none->H' l=some (.lst rs)->rs.length=ts.length->On K H' (J.map (·.2)) row rs->Q (.ref l) H'
theorem Nj{C Pt:Addr}{ps:List Str}(D:DefM K C "reasons" "Nearest.reasons" (xp (top 47) 2) ["self","sayings","judges"])(eX:y8 P w K mg base 46 C "row" ps (pe K Pt C (Fl2 K) RI2))(bD:zy P w K mg base 3 "all_by_judges" ["judges","row"] (ee K)):y8 P w K mg base 47 C "reasons" ["self","sayings","judges"] (Sl K Pt C):=by
 refine D.callee (N:=["self","sayings","judges"]) (by walk_at"sc") (by walk_at"ln") λf cdv A outer s H vs Q E hr nd h=>?_;obtain⟨ws,x,dx,b,j,fs,us,ts,xs,J,rfl,hx,CU,hb,hT,hL,hJ,cU,q⟩:=h;have lK:=hL.hi;have hlk:fs.lookup (Str.ofString "row")=none:=by obtain⟨v,rfl,_⟩:=CU;rfl
 refine⟨[some (.ref x),some (.ref b),some (.ref j)],_,rfl,(z4 (zv (zw bD hr (by lia) (z9 (z8 2) (z9 (dh eX hr (by lia) (z8 0) (z9 (z8 1) (z9 (z8 2) z6))) z6))))),?_⟩;walk_at"rp";refine⟨x,dx,fs,rfl,hx,hlk,?_⟩;refine⟨ws,x,dx,b,j,fs,us,ts,xs,J,rfl,hx,CU,hb,hT,hL,hJ,cU,λp H1 ss R row s1 T1 hN hF hp hl lV=>?_⟩;walk_at"rp";refine⟨j,p,J,row,rfl,by rw[hl];exact hJ.mono (xt cU s1),hp,by lia,λl H2 rs nl s2 el kK gG=>?_⟩;rw[hl]at kK;exact q l H2 ss R row rs (s1.trans (wk s2)) (T1.same s2) hN hF hl lV (Og s1 T1 nl) el kK λn v t hv ht=>by rw[zY];exact gG n v t hv ht
theorem Ve{k:List Bool}{ps qs:List (Nat×Bool)}:agr k (ps++qs)=(agr k ps&&agr k qs):=by
 unfold agr;rw[List.all_append]
theorem bx{k:List Bool}{ps qs:List (Nat×Bool)}(h:∀q∈qs,q∈ps)(ha:agr k ps=true):agr k qs=true:=by
 unfold agr at ha ⊢;rw[yA]at ha ⊢;exact λq hq=>ha q (h q hq)
theorem uw(R:List (List Bool))(os:List (Nat×Bool)):∀(l nd:List (Nat×Bool)),∀p∈yj R os l nd,p∈nd
 |[],nd,p,hp=>hp
 |x::l,nd,p,hp=>by
  unfold yj at hp;rw[uZ]at hp;have:=uw R os l _ p hp;split at this
  ·exact this
  ·exact(xP.mp this).1
theorem dn{R:List (List Bool)}{os:List (Nat×Bool)}:∀(l nd:List (Nat×Bool)),(R.any λk=>agr k (nd++os))=false->(R.any λk=>agr k (yj R os l nd++os))=false
 |[],nd,h=>h
 |x::l,nd,h=>by
  unfold yj;rw[uZ];refine dn l _ ?_;split
  ·exact h
  ·rename_i h1;cases h2:(R.any λk=>agr k (wu x nd++os))with
   |false=>rfl
   |true=>exact(h1 h2).elim
theorem gl{R:List (List Bool)}{os:List (Nat×Bool)}:∀(l nd:List (Nat×Bool)),∀p∈yj R os l nd,p∈l->(R.any λk=>agr k (wu p (yj R os l nd)++os))=true
 |[],_,_,_,hl=>by cases hl
 |x::l,nd,p,hp,hl=>by
  have e:yj R os (x::l) nd=yj R os l (if(R.any λk=>agr k (wu x nd++os))=true then nd else wu x nd):=by
   unfold yj;rw[uZ]
  rw[e]at hp ⊢
  by_cases bL:p∈l
  ·exact gl l _ p hp bL
  ·have epx:p=x:=by
    rcases zI.mp hl with e|e
    ·exact e
    ·exact(bL e).elim
   subst epx;have lZ:=uw R os l _ p hp
   by_cases h1:(R.any λk=>agr k (wu p nd++os))=true
   ·rw[yV h1]at hp lZ ⊢;obtain⟨k,hk,ha⟩:=yD.mp h1;refine yD.mpr ⟨k,hk,bx (λq hq=>?_) ha⟩;rcases zK.mp hq with hq|hq
    ·obtain⟨h2,h3⟩:=xP.mp hq;exact xO _ (xP.mpr ⟨uw R os l nd q h2,h3⟩)
    ·exact yP _ hq
   ·rw[zC h1]at lZ;have:=(xP.mp lZ).2;simp at this
theorem o9{R:List (List Bool)}{os:List (Nat×Bool)}:∀(l nd:List (Nat×Bool)),(nd.Pairwise λp q=>p.1<q.1)->(yj R os l nd).Pairwise λp q=>p.1<q.1
 |[],nd,h=>h
 |x::l,nd,h=>by
  unfold yj;rw[uZ];refine o9 l _ ?_;split
  ·exact h
  ·exact h.sublist List.filter_sublist
theorem kn(R:List (List Bool))(os:List (Nat×Bool)):∀(l nd:List (Nat×Bool)),(yj R os l nd).length<=nd.length
 |[],nd=>zU _
 |x::l,nd=>by
  unfold yj;rw[uZ];refine yT (kn R os l _) ?_;split
  ·exact zU _
  ·exact gf _ _
theorem Vy:∀{N:List (Nat×Bool)}{k:Nat}{p:Nat×Bool},(N.Pairwise λp q=>p.1<q.1)->N[k]?=some p->wu p N=N.take k++N.drop (k+1)
 |[],_,_,_,h=>by simp at h
 |x::N,0,p,hu,h=>by
  cases h;have h1:=(xM.mp hu).1;show(x::N).filter (λq=>decide (q≠x))=N;rw[wQ,zC (by simp)];exact tM.mpr λq hq=>yU (show q≠x from λz=>by have:=h1 q hq;rw[z]at this;lia)
 |x::N,k+1,p,hu,h=>by
  have h1:=(xM.mp hu).1;have hk:N[k]?=some p:=by simpa using h
  have ih:=Vy (xM.mp hu).2 hk;unfold wu at ih ⊢;rw[wQ,yV (yU (show x≠p from λz=>by have:=h1 p (zN hk);rw[z]at this;lia)),ih]
  rfl
theorem Ub{R:List (List Bool)}{said:Nat->Bool}{tk ps:List (Nat×Bool)}{n:Nat}(hp:ps.Perm tk)(hu:ps.Pairwise λp q=>p.1<q.1)(ht:yl R said tk n=!said n):Xe R (yj R [(n,said n)] ps ps) n (!said n)=true/\∀k,k<(yj R [(n,said n)] ps ps).length->Xe R ((yj R [(n,said n)] ps ps).take k++(yj R [(n,said n)] ps ps).drop (k+1)) n (!said n)=false:=by
 have BY:(R.any λk=>agr k (ps++[(n,said n)]))=false:=by
  unfold yl at ht;cases hb:(R.any λk=>agr k (ps++[(n,said n)]))with
  |false=>rfl
  |true =>
   obtain⟨k,hk,ha⟩:=yD.mp hb;have h1:(R.any λk=>agr k (tk++[(n,said n)]))=true:=yD.mpr ⟨k,hk,bx (λq hq=>by
    rcases zK.mp hq with hq|hq
    ·exact xO _ (hp.mem_iff.mpr hq)
    ·exact yP _ hq) ha⟩
   rw[yV h1]at ht;cases hs:said n<;>rw[hs]at ht<;>cases ht
 have eQ:=dn ps ps BY;have Be:=λp iB=>gl (R:=R) (os:=[(n,said n)]) ps ps p iB (uw _ _ ps ps p iB);have AZ:=o9 (R:=R) (os:=[(n,said n)]) ps ps hu;generalize yj R [(n,said n)] ps ps=N at eQ Be AZ ⊢;have one:∀k:List Bool,agr k [(n,said n)]=(k.getD n false==said n):=λk=>by simp[agr]
 refine⟨yA.mpr λk hk=>?_,λi hi=>?_⟩
 ·have:agr k (N++[(n,said n)])=false:=by
   cases h2:agr k (N++[(n,said n)])with
   |false=>rfl
   |true=>rw[yD.mpr ⟨k,hk,h2⟩]at eQ;cases eQ
  rw[Ve,one]at this;cases h1:agr k N<;>cases h3:k.getD n false<;>cases h4:said n<;>rw[h1,h3,h4]at this<;>first|rfl|cases this
 ·have hc:N[i]?=some N[i]:=zS hi;rw[<-Vy AZ hc];obtain⟨k1,nK,ha1⟩:=yD.mp (Be N[i] (vJ hi));rw[Ve,yJ,one]at ha1;refine sM.mpr λz=>?_;have h2:=yA.mp z k1 nK;rw[ha1.1,eq_of_beq ha1.2]at h2;cases h4:said n<;>rw[h4]at h2<;>cases h2
theorem qy{R:List (List Bool)}{said:Nat->Bool}{ord:List Nat}{i:Nat}:∀j,i<=j->j<=ord.length->∀p∈zf R said (ord.take i),p∈zf R said (ord.take j)
 |0,h,_,p,hp=>by
  have:i=0:=by lia
  rw[<-this];exact hp
 |j+1,h,hj,p,hp=>by
  by_cases e:i=j+1
  ·rw[<-e];exact hp
  ·have hc:ord[j]?=some ord[j]:=zS hj;rw[va hc];exact xO _ (qy j (by lia) (by lia) p hp)
theorem Y7{R:List (List Bool)}{said:Nat->Bool}{ord:List Nat}{i n:Nat}(h:ord[i]?=some n):(n,yl R said (zf R said (ord.take i)) n)∈zf R said ord:=by
 have hi:i<ord.length:=(zW.mp h).1;have h1:(n,yl R said (zf R said (ord.take i)) n)∈zf R said (ord.take (i+1)):=by rw[va h];exact yP _ (zO.mpr rfl)
 have:=qy ord.length (by lia) (zU _) _ h1
 rwa [zB]at this
theorem j7{tk:List (Nat×Bool)}(hn:(tk.map (·.1)).Nodup){n:Nat}{b c:Bool}(h1:(n,b)∈tk)(h2:(n,c)∈tk):b=c:=by
 have a1:=mr hn h1;rw[mr hn h2]at a1;exact(V.bl.inj (yX a1)).symm
theorem k6{H:Hp}:∀(n:Nat){us:List V}{ps:List (Nat×Bool)},PairsAt K H us ps->PairsAt K H (us.take n) (ps.take n)
 |0,_,_,_=>trivial
 |n+1,[],[],_=>trivial
 |n+1,v::us,p::ps,h=>⟨h.1,k6 n h.2⟩
 |n+1,[],_::_,h=>h.elim
 |n+1,_::_,[],h=>h.elim
theorem k5{H:Hp}:∀(n:Nat){us:List V}{ps:List (Nat×Bool)},PairsAt K H us ps->PairsAt K H (us.drop n) (ps.drop n)
 |0,_,_,h=>h
 |n+1,[],[],_=>trivial
 |n+1,v::us,p::ps,h=>k5 n h.2
 |n+1,[],_::_,h=>h.elim
 |n+1,_::_,[],h=>h.elim
def OI1(_:Unit)(m:Nat)(J:List (List Bool))(o:List Nat):Prop:=o.Perm (List.range m)/\o.Pairwise (u4 λi=>-ni J i)
def OI0(ord:List Nat)(_:Nat)(_:List (List Bool))(o:List Nat):Prop:=o=ord
theorem Wi{r:Nat->Nat->Prop}(as:∀x y,r x y->¬r y x):∀{l m:List Nat},l.Pairwise r->m.Pairwise r->(∀x,x∈l↔x∈m)->l=m
 |[],[],_,_,_=>rfl
 |[],b::m,_,_,h=>by have:=(h b).mpr zG;cases this
 |a::l,[],_,_,h=>by have:=(h a).mp zG;cases this
 |a::l,b::m,h1,h2,h=>by
  obtain⟨h3,h4⟩:=xM.mp h1;obtain⟨h5,h6⟩:=xM.mp h2;have e:a=b:=by
   rcases zI.mp ((h a).mp zG)with e|ha
   ·exact e
   ·rcases zI.mp ((h b).mpr zG)with e|hb
    ·exact e.symm
    ·exact(as _ _ (h3 b hb) (h5 a ha)).elim
  subst e;have irr:∀x,¬r x x:=λx hx=>as x x hx hx;rw[Wi as h4 h6 λx=>?_];constructor
  ·intro hx;rcases zI.mp ((h x).mp (zH _ hx))with e|hx2
   ·rw[e]at hx;exact(irr _ (h3 _ hx)).elim
   ·exact hx2
  ·intro hx;rcases zI.mp ((h x).mpr (zH _ hx))with e|hx2
   ·rw[e]at hx;exact(irr _ (h5 _ hx)).elim
   ·exact hx2
theorem aa{m:Nat}{J:List (List Bool)}{o o':List Nat}(h:OI1 () m J o)(h':OI1 () m J o'):o=o':=Wi (λx y=>by unfold u4;lia) h.2 h'.2 λx=>by rw[h.1.mem_iff,h'.1.mem_iff]
theorem K7{m:Nat}{R J:List (List Bool)}{row:List Bool}{ord:List Nat}(e:OI1 () m J ord)(h:RI1 m R J row):RI0 ord m R J row:=by
 obtain⟨o,p,s,r⟩:=h;rw[aa e ⟨p,s⟩];exact r
theorem Mb{R J:List (List Bool)}{ord:List Nat}{m:Nat}{row:List Bool}(h:agr row (zf R (zk J) ord)=true)(iS:∀n,n∈ord↔n<m)(hl:row.length=m):RI0 ord m R J row:=λi b hb=>by
 have hi:i<m:=by rw[<-hl];exact(zW.mp hb).1
 have h1:i∈(zf R (zk J) ord).map (·.1):=by rw[xw];exact(iS i).mpr hi
 obtain⟨p,hp,e⟩:=zD.mp h1;have h2:=yA.mp h p hp;have h3:row.getD p.1 false=p.2:=eq_of_beq h2;rw[e,yZ,hb]at h3;have h4:b=p.2:=h3;rw[h4,<-e];exact hp
theorem Oq{ord:List Nat}{m:Nat}{R J:List (List Bool)}{a b:List Bool}(hn:ord.Nodup)(h1:RI0 ord m R J a)(h2:RI0 ord m R J b)(la:a.length=m)(lb:b.length=m):a=b:=by
 apply vH (by rw[la,lb]);intro i CO hi2;exact j7 (by rw[xw];exact hn) (h1 i _ (zS CO)) (h2 i _ (zS hi2))
def Y0(K:W.Frag)(Pt C:Addr){ι:Type}(Fl:ι->Hp->Nat->List (Str×V)->Prop)(RT:ι->List Say->List (List Bool)->List Bool->Prop):Sp:=λvs H Q _=>∃(i:ι)(x dx b j:Addr)(fs:List (Str×V))(us:List V)(ts:List Say)(xs:List Str)(J:List (Addr×List Bool)),vs=[.ref x,.ref b,.ref j]/\H x=some (.ins C dx fs)/\Fl i H ts.length fs/\SqT K H b us/\SaysAt K H us ts/\Lst ts xs/\JudgesAt K H j J ts.length/\Tb Pt H /\
 ∀(p:Addr)(H':Hp)(row:List Bool),SameP Pt H H'->Tb Pt H'->SqT K H' p (row.map V.bl)->row.length=ts.length->RT i ts (J.map (·.2)) row->Q (.ref p) H'
def Y3(K:W.Frag)(Pt C:Addr){ι:Type}(Fl:ι->Hp->Nat->List (Str×V)->Prop)(RT:ι->List Say->List (List Bool)->List Bool->Prop):Sp:=λvs H Q _=>∃(i:ι)(x dx b j:Addr)(fs:List (Str×V))(us:List V)(ts:List Say)(xs:List Str)(J:List (Addr×List Bool)),vs=[.ref x,.ref b,.ref j]/\H x=some (.ins C dx fs)/\Fl i H ts.length fs/\SqT K H b us/\SaysAt K H us ts/\Lst ts xs/\JudgesAt K H j J ts.length/\Tb Pt H /\
 ∀(l:Addr)(H':Hp)(row:List Bool)(rs:List V),SameP Pt H H'->Tb Pt H'->H l=none->row.length=ts.length->RT i ts (J.map (·.2)) row->H' l=some (.lst rs)->rs.length=ts.length->On K H' (J.map (·.2)) row rs->Q (.ref l) H'
theorem xn{C:Addr}{k k':Nat}{x:Str}{ps:List Str}{sp Do:Sp}(c:y8 P w K mg base k C x ps sp)(hk:k<=k')(h:∀vs H Q E,Do vs H Q E->sp vs H Q E):y8 P w K mg base k' C x ps Do:=by
 obtain⟨f,fd,F,r⟩:=c.ex;exact⟨f,fd,(F.mono hk).imp h,r⟩
def RTm(_:Unit)(ts:List Say)(J:List (List Bool))(row:List Bool):Prop:=row=xk J ts.length
def RTn(ws:List Int)(ts:List Say)(J:List (List Bool))(row:List Bool):Prop:=∃ss R,NamesOf ts ss/\FitRows ts ss R/\RI2 ws ts.length R J row
theorem Jx{C Pt:Addr}{ps:List Str}(c:y8 P w K mg base 4 C "row" ps (Yw K)):y8 P w K mg base 46 C "row" ps (Y0 K Pt C (λ_=>Fl1) RTm):=xn c (by decide) λvs H Q E ⟨_,x,dx,b,j,fs,us,ts,xs,J,e,_,_,_,_,hL,hJ,cU,q⟩=>⟨_,_,j,J,ts.length,e,hJ,by have:=hL.hi;lia,λp H' s' h=>q p H' _ (wk s') (cU.same s') h (xo _ _) rfl⟩
theorem Jy{C Pt:Addr}{ps:List Str}(c:y8 P w K mg base 5 C "reasons" ps (Sj K C)):y8 P w K mg base 47 C "reasons" ps (Y3 K Pt C (λ_=>Fl1) RTm):=xn c (by decide) λvs H Q E ⟨_,x,dx,b,j,fs,us,ts,xs,J,e,hx,hf,_,_,hL,hJ,cU,q⟩=>by
 cases hf;exact⟨x,dx,_,j,J,ts.length,e,hx,hJ,by have:=hL.hi;lia,λl H' rs s' nl el gG bQ=>q l H' _ rs (wk s') (cU.same s') nl (xo _ _) rfl el gG bQ⟩
theorem Jz{C Pt:Addr}{ps:List Str}(c:y8 P w K mg base 46 C "row" ps (pe K Pt C (Fl2 K) RI2)):y8 P w K mg base 46 C "row" ps (Y0 K Pt C (Fl2 K) RTn):=xn c (zU _) λvs H Q E ⟨i,x,dx,b,j,fs,us,ts,xs,J,e,hx,hf,hb,hT,hL,hJ,cU,q⟩=>⟨i,x,dx,b,j,fs,us,ts,xs,J,e,hx,hf,hb,hT,hL,hJ,cU,λp H' ss R row s' T' hN hF hp hl lV=>q p H' row s' T' hp hl ⟨ss,R,hN,hF,lV⟩⟩
theorem J3{C Pt:Addr}{ps:List Str}(c:y8 P w K mg base 47 C "reasons" ps (Sl K Pt C)):y8 P w K mg base 47 C "reasons" ps (Y3 K Pt C (Fl2 K) RTn):=xn c (zU _) λvs H Q E ⟨i,x,dx,b,j,fs,us,ts,xs,J,e,hx,hf,hb,hT,hL,hJ,cU,q⟩=>⟨i,x,dx,b,j,fs,us,ts,xs,J,e,hx,hf,hb,hT,hL,hJ,cU,λl H' ss R row rs s' T' hN hF hl lV nl el gG bQ=>q l H' row rs s' T' nl hl ⟨ss,R,hN,hF,lV⟩ el gG bQ⟩
theorem Zg{ws:List Int}{ts:List Say}{J:List (List Bool)}{a c:List Bool}(h1:RTn ws ts J a)(h2:RTn ws ts J c):a=c:=by
 obtain⟨s1,R1,n1,f1,t1,e1⟩:=h1;obtain⟨s2,R2,n2,f2,t2,e2⟩:=h2;have es:=NamesOf.eq n1 n2;subst es;have eR:=FitRows.eq f1 f2;subst eR;rw[e1]at e2;exact(List.cons.inj e2).1
def NL(x:Str):Prop:=10∉x.cps.toList
def tOk(x:Str):Prop:=PyData.strOk x=true/\NL x
theorem qk{x y:Str}(h1:tOk x)(h2:tOk y):tOk (x++y):=⟨Wo h1.1 h2.1,yx h1.2 h2.2⟩
theorem fe{x:Str}{c:Nat}(h1:tOk x)(h:c∈x.cps.toList):tOk ⟨#[c]⟩:=⟨Of h1.1 h,λz=>h1.2 (by rw[show 10=c by simpa using z];exact h)⟩
theorem u3{x:Str}(h1:tOk x)(l u:Option Int):tOk (Txt.slice x l u):=⟨U1 h1.1 l u,λhc=>by
 unfold Txt.slice at hc;split at hc
 ·exact h1.2 hc
 ·have mT:10∈List.filterMap (λi=>x.cps[i]?) (Builtin.Str.strSliceIndices l u 1 x.length):=by simpa using hc
  obtain⟨i,_,hi⟩:=tE.mp mT;exact h1.2 (by have:=Array.mem_of_getElem? hi;simpa using this)⟩
theorem su(x y:Str):(x++y).length=x.length+y.length:=by
 show(x.cps++y.cps).size=_;exact Array.size_append
theorem kc:(Str.ofString "bcdfghjklmnpqrstvwxyz").cps.toList.length=21:=by decide +kernel
theorem lets_len':(Str.ofString "bcdfghjklmnpqrstvwxyz").length=21:=by decide +kernel
theorem mj:(Str.ofString "qzkxw").length=5:=by decide +kernel
theorem c8:tOk (Str.ofString "bcdfghjklmnpqrstvwxyz"):=⟨by decide +kernel,by unfold NL;decide +kernel⟩
theorem Om:tOk (Str.ofString "qzkxw"):=⟨by decide +kernel,by unfold NL;decide +kernel⟩
theorem M3:tOk (Str.ofString ""):=⟨by decide +kernel,by unfold NL;decide +kernel⟩
def Wp(K:W.Frag):Sp:=λvs H Q _=>∃(a:Addr)(ns:List Int)(k m:Int),vs=[.ref a,.int k,.int m]/\SqL K H a (ns.map V.int)/\ns.length<=5000/\0<=k/\k<=1000/\1<=m/\m<=5 /\
 ∀(p:Addr)(H':Hp)(xs:List Str),H p=none->Same H H'->H' p=some (.lst (xs.map V.str))->(xs.length:Int)=m->(∀x∈xs,Nm x)->(∀x∈xs,NL x)->Q (.ref p) H'
theorem Qu(D:Def K mg "_law_names" (top 52) ["_law_script","_law_k","_law_many"])(aE:zy P w K mg base 2 "_law_pick" ["_law_script","_law_k","_law_many"] (ur K))(aB:mg "len"=none)(aA:mg "range"=none):zy P w K mg base 3 "_law_names" ["_law_script","_law_k","_law_many"] (Wp K):=by
 refine D.callee (N:=["_law_script","_law_k","_law_many","_law_letters","_law_word","_law_j","_law_first","_law_at"]) (by walk_at"sc") (by walk_at"ln") λf cdv A outer s H vs Q E hr nd h=>?_;obtain⟨a,ns,k,m,rfl,hS,cI,h0,hk,hm,hm5,q⟩:=h;refine⟨[some (.ref a),some (.int k),some (.int m),none,none,none,none,none],_,rfl,(z5 (zn 3 nd zp)
  (z5 (zn 4 nd zp)
  (z5 (xq yM rfl (yp rfl aA (z9 (zw aE hr (by lia) (z9 (z8 0) (z9 (z8 1) (z9 zz z6)))) z6)) (wo 5 nd) (z4 (zn 4 nd (zt zj (z8 4) (zd (z8 3) (zw aE hr (by lia) (z9 (z8 0) (z9 (zt zj (zt zj (z8 1) (zt wj zz (z8 5))) zz) (z9 zz z6)))) (λ_ _=>rfl))))))
  (z5 (zn 6 nd (zw aE hr (by lia) (z9 (z8 0) (z9 (zt zj (z8 1) zz) (z9 zz z6)))))
  (z5 (y6 (zg (w6 hr.units) (zw aE hr (by lia) (z9 (z8 0) (z9 (zt zj (z8 1) zz) (z9 zz z6)))) zz (zi _)) (z5 (zn 4 nd (xz (zt zj (zt zj (z8 4) (zd (z8 3) (z8 6) (λ_ _=>rfl))) zp) x9 (xf zz)))
  (z4 (zv (yc (ixs:=[4]) (zo (own:=["_law_j"]) (N:=["_law_word"]) rfl rfl rfl rfl rfl rfl rfl (by decide +kernel) rfl rfl rfl) rfl (yp rfl aA (z9 (z8 2) z6)) (λ_ _ _ _=>yu) (λ_ _ _ _=>(xz (z8 1) x9 (xf (zt zj (z8 0) zz)))) rfl)))) zm)
  (z5 (zn 7 nd (zw aE hr (by lia) (z9 (z8 0) (z9 (zt zj (z8 1) zz) (z9 (zt zj (zq yi rfl aB yy (z9 (z8 4) z6)) zz) z6)))))
  (z4 (zv (yc (ixs:=[4,7,3,6]) (zo (own:=["_law_j"]) (N:=["_law_word","_law_at","_law_letters","_law_first"]) rfl rfl rfl rfl rfl rfl rfl (by decide +kernel) rfl rfl rfl) rfl (yp rfl aA (z9 (z8 2) z6)) (λ_ _ _ _=>yu) (λ_ _ _ _=>(zt zj (zt zj (xz (z8 1) x9 (xf (z8 2))) (zd (z8 3) (zt ue (zt zj (z8 4) (zt wj zz (z8 0))) zz) (λ_ _=>rfl))) (xz (z8 1) (xf (z8 2)) x9))) rfl))))))))),?_⟩
 walk_at"rp";refine⟨a,ns,k,6,rfl,hS,cI,h0,by lia,by decide,λr r0 r6=>?_⟩;walk_at"rp";refine⟨⟨by lia,by lia⟩,?_⟩;refine w4 (λi σ H'=>∃(word:Str)(jv:Option V),σ=[some (.ref a),some (.int k),some (.int m),some (.str "bcdfghjklmnpqrstvwxyz"),some (.str word),jv,none,none]/\H'=H/\word.length=i/\i<=5/\tOk word) ⟨_,none,rfl,rfl,rfl,by decide,M3⟩ ?_ ?_
 ·rintro i σ H' hi ⟨word,jv,rfl,rfl,hw,hi5,hok⟩;walk_at"rp";refine⟨cm (by lia),a,ns,_,21,rfl,hS,cI,by lia,by lia,by decide,λr' r0' r21=>?_⟩;walk_at"rp";obtain⟨c,hc,ec⟩:=jo (xs:=(Str.ofString "bcdfghjklmnpqrstvwxyz").cps.toList) r0' (by rw[kc];exact r21);refine⟨by rw[lets_len'];exact xu (by decide),c,ec,?_,?_⟩
  ·show word.length+1<=sizeLine;exact xu (by lia)
  ·refine⟨_,_,rfl,trivial,?_,by lia,qk hok (fe c8 hc)⟩;rw[su,hw]
   rfl
 ·rintro σ H' ⟨word,jv,rfl,rfl,hw,hw5,hok⟩;walk_at"rp";refine⟨a,ns,k+3,21,rfl,hS,cI,by lia,by lia,by decide,λfirst f0 f21=>?_⟩;walk_at"rp";refine⟨a,ns,k+4,3,rfl,hS,cI,by lia,by lia,by decide,λw3 _ _=>?_⟩;walk_at"rp";refine vp (λc=>?_) (λc=>?_)
  ·obtain⟨cc,hcc,ec⟩:=jo (xs:=(Str.ofString "bcdfghjklmnpqrstvwxyz").cps.toList) f0 (by rw[kc];exact f21);refine⟨by rw[lets_len'];exact xu (by decide),cc,ec,?_⟩;have l1:(word++(⟨#[cc]⟩:Str)).length<=6:=by
    rw[su];show word.length+1<=6;lia
   refine⟨xu (by show word.length+1<=1000;lia),xu (by rw[mj];lia),xu (by rw[su,mj];lia),⟨by lia,by lia⟩,?_⟩;have l2:(Txt.slice (word++{ cps:=#[cc] }++Str.ofString "qzkxw") none (some 6)).length<=11:=yT (sA _ _ _) (by rw[su,mj];lia);have o2:tOk (Txt.slice (word++{ cps:=#[cc] }++Str.ofString "qzkxw") none (some 6)):=u3 (qk (qk hok (fe c8 hcc)) Om) _ _;generalize Txt.slice (word++{ cps:=#[cc] }++Str.ofString "qzkxw") none (some 6)=word' at l2 o2;intro C s₀ H₀ ex;refine yd (λD i ys H1=>∃xs:List Str,ys=xs.map V.str/\xs.length=i/\(∀x∈xs,Nm x/\NL x)/\H1 D=some (.lst ys)/\Same H' H1/\H' D=none) (xu (by lia)) ?_ ?_ ?_ ?_
   ·intro D H2 n s2 e2;exact⟨[],rfl,rfl,(by simp),e2,s2,n⟩
   ·rintro D i ys H1 ⟨xs,rfl,hl,_,e,_⟩;exact⟨e,by simpa using hl⟩
   ·rintro D i ys H1 hi ⟨xs,rfl,hl,hx,e,s1,n1⟩;walk_at"rp";refine⟨xu (by lia),e,CN.mk hi ⟨xs++[_],(by rw[zJ];rfl),(by rw[zP,hl];rfl),λx lU=>?_,zx,zu s1 n1 _,n1⟩⟩;rcases zK.mp lU with z|z
    ·exact hx x z
    ·rw[zO.mp z];exact⟨⟨yT (sA _ _ _) (by lia),(u3 o2 _ _).1⟩,(u3 o2 _ _).2⟩
   ·rintro D ys H1 ⟨xs,rfl,hl,hx,e,s1,n1⟩;exact q D H1 xs n1 s1 e (by rw[hl];lia) (λx h=>(hx x h).1) λx h=>(hx x h).2
  ·refine⟨xu (by lia),a,ns,k+2,_,rfl,hS,cI,by lia,by lia,by lia,λat_ t0 tl=>?_⟩;walk_at"rp";refine⟨⟨by lia,by lia⟩,?_⟩;intro C s₀ H₀ ex;refine yd (λD i ys H1=>∃xs:List Str,ys=xs.map V.str/\xs.length=i/\(∀x∈xs,Nm x/\NL x)/\H1 D=some (.lst ys)/\Same H' H1/\H' D=none) (xu (by lia)) ?_ ?_ ?_ ?_
   ·intro D H2 n s2 e2;exact⟨[],rfl,rfl,(by simp),e2,s2,n⟩
   ·rintro D i ys H1 ⟨xs,rfl,hl,_,e,_⟩;exact⟨e,by simpa using hl⟩
   ·rintro D i ys H1 hi ⟨xs,rfl,hl,hx,e,s1,n1⟩;walk_at"rp";obtain⟨c2,cT,ec⟩:=jo (xs:=(Str.ofString "bcdfghjklmnpqrstvwxyz").cps.toList) (k:=(first+4*(0+(i:Int))) % 21) (uK _ (by decide)) (by rw[kc];exact vC _ (by decide));have b1:=sA word none (some at_);have b2:=sA word (some at_) none;have b3:(Txt.slice word none (some at_)++(⟨#[c2]⟩:Str)).length<=6:=by
     rw[su];show(Txt.slice word none (some at_)).length+1<=6;lia
    refine⟨xu (by lia),cm (by lia),(by decide),(by rw[lets_len'];exact xu (by decide)),c2,ec,xu (by show(Txt.slice word none (some at_)).length+1<=1000;lia),xu (by lia),xu (by lia),e,
     CN.mk hi ⟨xs++[_],(by rw[zJ];rfl),(by rw[zP,hl];rfl),λx lU=>?_,zx,zu s1 n1 _,n1⟩⟩
    rcases zK.mp lU with z|z
    ·exact hx x z
    ·rw[zO.mp z];have o3:=qk (qk (u3 hok none (some at_)) (fe c8 cT)) (u3 hok (some at_) none);exact⟨⟨by rw[su];lia,o3.1⟩,o3.2⟩
   ·rintro D ys H1 ⟨xs,rfl,hl,hx,e,s1,n1⟩;exact q D H1 xs n1 s1 e (by rw[hl];lia) (λx h=>(hx x h).1) λx h=>(hx x h).2
def SzT(s:Say):Prop:=s.pieces<=40/\∀x∈s.letters,Nm x
def Wr(K:W.Frag)(n:Nat):Sp:=λvs H Q _=>∃(v:V)(s:Say),vs=[v]/\SayAt K H v s/\s.pieces<=n/\SzT s/\Q (.str s.text) H
theorem szt{n:Nat}(h:n<=16000000):n<=sizeLine:=by rw[zM];lia
theorem ah(D:Def K mg "shown" (top 1) ["saying"]):∀n:Nat,zy P w K mg base n "shown" ["saying"] (Wr K n)
 |0=>xm D λvs H Q E h=>by
  obtain⟨v,s,_,_,hp,_⟩:=h;exact absurd s.pieces_pos (by lia)
 |n+1=>by
  have iO:=ah D n;refine D.callee (N:=["saying","kind","one","other"]) (by walk_at"sc") (by walk_at"ln") λf cdv A outer s H vs Q E hr nd h=>?_;obtain⟨v,s,rfl,hv,hp,hz,q⟩:=h;refine⟨[some v,none,none,none],_,rfl,(z5 (zn 1 nd (zd (z8 0) zz (λ_ _=>rfl)))
  (z5 (y6 (zg (w6 hr.units) (z8 1) zp (zi _)) (z4 (zv (zd (z8 0) zz (λ_ _=>rfl)))) zm)
  (z5 (zn 2 nd (zw iO hr (by lia) (z9 (zd (z8 0) zz (λ_ _=>rfl)) z6)))
  (z5 (y6 (zg (w6 hr.units) (z8 1) zp (zi _)) (z4 (zv (Xx (xb zp (xb (ux (z8 2)) Yj))))) zm)
  (z5 (zn 3 nd (zw iO hr (by lia) (z9 (zd (z8 0) zz (λ_ _=>rfl)) z6)))
  (z5 (y6 (zg (w6 hr.units) (z8 1) zp (zi _)) (z4 (zv (Xx (xb zp (xb (ux (z8 2)) (xb zp (xb (ux (z8 3)) (xb zp Yj)))))))) zm)
  (z4 (zv (Xx (xb zp (xb (ux (z8 2)) (xb zp (xb (ux (z8 1)) (xb zp (xb (ux (z8 3)) (xb zp Yj)))))))))))))))),?_⟩
  have hzz:=hz;obtain⟨z1,z2⟩:=hz;have tl:=yh s z2;cases s with
  |letter x =>
   obtain⟨a,rfl,ha⟩:=hv;walk_at"rd";refine⟨_,_,.inr ha,rfl,?_⟩;walk_at"rd";exact⟨_,_,.inr ha,rfl,q⟩
  |neg t =>
   obtain⟨a,u,rfl,ha,ht⟩:=hv;simp only[Say.pieces]at hp z1;have tl1:=yh t z2;walk_at"rd";refine⟨_,_,.inr ha,rfl,?_⟩;walk_at"rd";refine⟨_,_,.inr ha,rfl,?_⟩;walk_at"rd";refine⟨u,t,rfl,ht,by lia,⟨by lia,z2⟩,?_⟩;walk_at"rd";simp only[fv];refine⟨szt (by rw[lu];lia),szt (by lia),szt (by rw[za,lu];lia),szt (by rw[za,lu];lia),q⟩
  |bin o t t' =>
   obtain⟨a,u,u',rfl,ha,ht,As⟩:=hv;simp only[Say.pieces]at hp z1;have y1:∀x∈t.letters,Nm x:=λx hx=>z2 x (zK.mpr (.inl hx));have y2:∀x∈t'.letters,Nm x:=λx hx=>z2 x (zK.mpr (.inr hx));have tl1:=yh t y1;have tl2:=yh t' y2;cases o <;>
   ·dsimp only[Op2.word]at ha;walk_at"rd";refine⟨_,_,.inr ha,rfl,?_⟩;walk_at"rd";refine⟨_,_,.inr ha,rfl,?_⟩;walk_at"rd";refine⟨u,t,rfl,ht,by lia,⟨by lia,y1⟩,?_⟩;walk_at"rd";refine⟨_,_,.inr ha,rfl,?_⟩;walk_at"rd";refine⟨u',t',rfl,As,by lia,⟨by lia,y2⟩,?_⟩;walk_at"rd";simp only[fv,za,gw,lr,gu,lq,ax,aw,qh]
    repeat first
     |exact q
     |refine⟨szt (by lia),?_⟩
def l8(K:W.Frag)(n:Nat):Sp:=λvs H Q _=>∃(v:V)(s:Say),vs=[v]/\SayAt K H v s/\s.pieces<=n/\SzT s/\∀H',Same H H'->Q (.str s.text) H'
theorem gm(D:Def K mg "_law_shown" (top 69) ["_law_saying_here"]):∀n:Nat,zy P w K mg base n "_law_shown" ["_law_saying_here"] (l8 K n)
 |0=>xm D λvs H Q E h=>by
  obtain⟨v,s,_,_,hp,_⟩:=h;exact absurd s.pieces_pos (by lia)
 |n+1=>by
  have dR:=gm D n;refine D.callee (N:=["_law_saying_here","_law_parts"]) (by walk_at"sc") (by walk_at"ln") λf cdv A outer s H vs Q E hr nd h=>?_;obtain⟨v,s,rfl,hv,hp,⟨z1,z2⟩,q⟩:=h;refine⟨[some v,none],_,rfl,(z5 (y6 (zg (w6 hr.units) (zd (z8 0) zz (λ_ _=>rfl)) zp (zi _)) (z4 (zv (zd (z8 0) zz (λ_ _=>rfl)))) zm)
  (z5 (ye 1 nd (ixs:=[]) (zo (own:=["_law_part_here"]) (N:=[]) rfl rfl rfl rfl rfl rfl rfl (by decide +kernel) rfl rfl rfl) rfl (yw (xz (z8 0) (xf zz) x9)) (λ_ _ _ _=>yu) (λ_ _ _ _=>(zw dR hr (by lia) (z9 (z8 0) z6))) rfl)
  (z5 (y6 (zg (w6 hr.units) (zd (z8 0) zz (λ_ _=>rfl)) zp (zi _)) (z4 (zv (zt zj zp (zd (z8 1) zz (λ_ _=>rfl))))) zm)
  (z5 (y6 (zg (w6 hr.units) (zd (z8 0) zz (λ_ _=>rfl)) zp (zi _)) (z4 (zv (zt zj (zt zj (zt zj (zt zj zp (zd (z8 1) zz (λ_ _=>rfl))) zp) (zd (z8 1) zz (λ_ _=>rfl))) zp))) zm)
  (z4 (zv (zt zj (zt zj (zt zj (zt zj (zt zj (zt zj zp (zd (z8 1) zz (λ_ _=>rfl))) zp) (zd (z8 0) zz (λ_ _=>rfl))) zp) (zd (z8 1) zz (λ_ _=>rfl))) zp))))))),?_⟩
  have nM:∀{te:TE}{p:Addr}{H1:Hp}{us:List V}{ts:List Say}{Q':VK},(∀v H Q,te [some v] H Q=l8 K n [v] H Q E0)->Same H H1->SqT K H1 p us->us.length=ts.length->us.length<=10->(∀(i:Nat) u,us[i]?=some u->∃t,ts[i]?=some t/\SayAt K H1 u t/\t.pieces<=n/\SzT t) ->
    (∀D H2,Same H H2->H2 D=some (.lst ((ts.map λt=>t.text).map V.str))->Q' (.ref D) H2)->vt 1 (mG 0) mi te [] (Itt K p) Q' H1:=by
   intro te p H1 us ts Q' hte s1 mP hl hl10 hu q';refine vc (xs:=us) (λD i ys H'=>ys=((ts.take i).map λt=>t.text).map V.str/\i<=us.length/\H' D=some (.lst ys)/\Same H1 H'/\H1 D=none) (xu (by lia)) ?_ ?_ ?_ ?_
   ·intro D H2 nn s2 e2;exact⟨rfl,yR _,e2,s2,nn⟩
   ·rintro D i ys H' ⟨rfl,hi,e,s2,_⟩;exact⟨(z7 s2).sqT mP,e,by simp;lia⟩
   ·rintro D i v ys H' hv ⟨rfl,hi,e,s2,n2⟩;obtain⟨t,ht,sv,pc,hz⟩:=hu i v hv;rw[hte];refine⟨v,t,rfl,sv.mono (z7 s2),pc,hz,λH3 s3=>⟨s3 _ _ e,CN.mk ?_ ⟨?_,?_,zx,zu (s2.trans s3) n2 _,n2⟩⟩⟩
    ·exact(zW.mp hv).1
    ·rw[yY,ht];simp
    ·exact(zW.mp hv).1
   ·rintro D ys H' ⟨rfl,hi,e,s2,n2⟩;rw[hl,zB]at e;exact q' D H' (s1.trans s2) e
  cases s with
  |letter x =>
   obtain⟨a,rfl,ha⟩:=hv;walk_at"rd";refine⟨_,_,.inr ha,rfl,?_⟩;walk_at"rd";exact⟨_,_,.inr ha,rfl,q H (Same.refl H)⟩
  |neg t =>
   obtain⟨a,u,rfl,ha,ht⟩:=hv;simp only[Say.pieces]at hp z1;have tl1:=yh t z2;walk_at"rd";refine⟨_,_,.inr ha,rfl,?_⟩;walk_at"rd";refine .inr ⟨_,ha,λp H1 s1 h1=>.inr ⟨⟨_,h1⟩,λC s₀ H₀ ex=>?_⟩⟩;refine nM (us:=[u]) (ts:=[t]) (λ_ _ _=>rfl) s1 h1 rfl (by simp) (λi x hx=>?_) λD H2 s2 e2=>?_
   ·match i,hx with
    |0,hx =>
     cases hx;exact⟨t,rfl,ht.mono (z7 s1),by lia,by lia,z2⟩
    |i+1,hx=>simp at hx
   ·have lQ:=(z7 s2).sqT ha;refine⟨_,_,.inr lQ,rfl,?_⟩;walk_at"rd";refine⟨_,_,.inl (SqL.of e2),rfl,?_⟩;walk_at"rd";exact⟨szt (by rw[lu];lia),q H2 s2⟩
  |bin o t t' =>
   obtain⟨a,u,u',rfl,ha,ht,As⟩:=hv;simp only[Say.pieces]at hp z1;have y1:∀x∈t.letters,Nm x:=λx hx=>z2 x (zK.mpr (.inl hx));have y2:∀x∈t'.letters,Nm x:=λx hx=>z2 x (zK.mpr (.inr hx));have tl1:=yh t y1;have tl2:=yh t' y2;have hu:∀{H1:Hp},Same H H1->∀(i:Nat) x,[u,u'][i]?=some x->∃r,[t,t'][i]?=some r/\SayAt K H1 x r/\r.pieces<=n/\SzT r:=λs1 i x hx=>by
    match i,hx with
    |0,hx =>
     cases hx;exact⟨t,rfl,ht.mono (z7 s1),by lia,by lia,y1⟩
    |1,hx =>
     cases hx;exact⟨t',rfl,As.mono (z7 s1),by lia,by lia,y2⟩
    |i+2,hx=>simp at hx
   cases o <;>
   ·dsimp only[Op2.word]at ha;walk_at"rd";refine⟨_,_,.inr ha,rfl,?_⟩;walk_at"rd";refine .inr ⟨_,ha,λp H1 s1 h1=>.inr ⟨⟨_,h1⟩,λC s₀ H₀ ex=>?_⟩⟩;refine nM (us:=[u,u']) (ts:=[t,t']) (λ_ _ _=>rfl) s1 h1 rfl (by simp) (hu s1) λD H2 s2 e2=>?_;have lQ:=(z7 s2).sqT ha;have q2:=q H2 s2;refine⟨_,_,.inr lQ,rfl,?_⟩;walk_at"rd";refine⟨_,_,.inr lQ,rfl,?_⟩;walk_at"rd";refine⟨_,_,.inl (SqL.of e2),rfl,?_⟩;walk_at"rd";simp only[za,gw,lr,gu,lq,ax,aw,qh]
    repeat first
     |exact q2
     |refine⟨szt (by lia),?_⟩
     |(refine⟨_,_,.inr lQ,rfl,?_⟩;walk_at"rd";simp only[za,gw,lr,gu,lq,ax,aw,qh])
     |(refine⟨_,_,.inl (SqL.of e2),rfl,?_⟩;walk_at"rd";simp only[za,gw,lr,gu,lq,ax,aw,qh])
def yn(t:Bool):Str:=if t=true then Str.ofString "yes" else Str.ofString "no"
def hdT(t:Bool):Str:=if t=true then Str.ofString "yes " else Str.ofString "no "
def sN(n:Nat):Str:=Str.ofString (toString ((n:Nat):Int))
def jTx(ns:List Nat):Str:=if ns.length=0 then Str.ofString "judges none" else Str.ofString "judges "++Txt.join (Str.ofString " ") (ns.map sN)
def wTx(p:Nat×Bool):Str:=yn p.2++Str.ofString " "++sN p.1
def pTx(ps:List (Nat×Bool)):Str:=Str.ofString "from "++Txt.join (Str.ofString ", ") (ps.map wTx)
def lTx(t:Bool)(s:Say)(x:Str):Str:=yn t++Str.ofString " "++s.text++Str.ofString ": "++x
theorem al:∀n,n<100->(sN n).length<=3/\10∉(sN n).cps.toList:=by decide +kernel
theorem Iq:∀n,n<10->∀k,k<10->∀t b:Bool,wTx (n,t)=hdT b++sN k->n=k/\t=b:=by decide +kernel
theorem Fv:∀n,n<10->∀t:Bool,wTx (n,t)=hdT t++sN n:=by decide +kernel
theorem Lj:∀n,n<10->∀t:Bool,(wTx (n,t)).length<=7/\(10∉(wTx (n,t)).cps.toList)/\44∉(wTx (n,t)).cps.toList:=by decide +kernel
theorem Wx:∀t,(yn t).length<=3/\10∉(yn t).cps.toList:=by decide +kernel
theorem F8:∀t,yn t++Str.ofString " "=hdT t:=by decide +kernel
theorem lj:(Str.ofString "\n").cps.toList=[10]/\Builtin.Str.strKind (Str.ofString "\n")=1/\(Str.ofString "\n").length=1:=by decide +kernel
theorem qv:(Str.ofString ", ").cps.toList=[44,32]/\Builtin.Str.strKind (Str.ofString ", ")=1/\(Str.ofString ", ").length=2:=by decide +kernel
theorem uc:10∉(Str.ofString "judges none").cps.toList/\10∉(Str.ofString "judges ").cps.toList/\10∉(Str.ofString "from ").cps.toList/\10∉(Str.ofString " ").cps.toList/\10∉(Str.ofString ", ").cps.toList/\10∉(Str.ofString ": ").cps.toList:=by decide +kernel
theorem u6:(Str.ofString "judges none").length=11/\(Str.ofString "judges ").length=7/\(Str.ofString "from ").length=5/\(Str.ofString " ").length=1/\(Str.ofString ": ").length=2:=by decide +kernel
theorem u7:10∉(Str.ofString "not ").cps.toList/\10∉(Str.ofString "(").cps.toList/\10∉(Str.ofString ")").cps.toList/\10∉(Str.ofString "and").cps.toList/\10∉(Str.ofString "or").cps.toList/\10∉(Str.ofString "(if ").cps.toList/\10∉(Str.ofString " then ").cps.toList:=by decide +kernel
theorem F6:decide (Str.ofString "follows"=Str.ofString "judges")=false:=by decide +kernel
theorem sw{B:Nat}:∀{ys:List Str},(∀y∈ys,y.length<=B)->(ys.map (·.length)).sum<=ys.length*B
 |[],_=>by simp
 |y::ys,h=>by
  have h1:=sw (ys:=ys) λz hz=>h z (zH _ hz);have h2:=h y zG;rw[List.map_cons,List.sum_cons,yL,Nat.succ_mul];lia
theorem ve{y:Str}{ys:List Str}{B:Nat}(h:∀x∈ys,x.length<=B):(Txt.join y ys).length<=ys.length*B+ys.length*y.length:=by
 rw[show Txt.join y ys=Str.join y ys from StrLaws.glued_eq_join y ys];have:=StrLaws.join_length_le y ys;have:=sw h;lia
theorem Ln{ns:List Nat}(h:ns.length<=100)(hn:∀n∈ns,n<100):(jTx ns).length<=1000/\NL (jTx ns):=by
 obtain⟨l1,l2,l3,l4,_⟩:=u6;unfold jTx;split
 ·exact⟨by rw[l1];decide,uc.1⟩
 ·have hp:∀y∈ns.map sN,y.length<=3/\10∉y.cps.toList:=λy hy=>by
   obtain⟨n,iT,rfl⟩:=zD.mp hy;exact al n (hn n iT)
  have h1:=ve (y:=Str.ofString " ") λy hy=>(hp y hy).1;rw[zY,l4]at h1;refine⟨?_,yx uc.2.1 (gd uc.2.2.2.1 λy hy=>(hp y hy).2)⟩;rw[za,l2];lia
theorem L0{ps:List (Nat×Bool)}(h:ps.length<=10)(hn:∀p∈ps,p.1<10):(pTx ps).length<=1000/\NL (pTx ps):=by
 obtain⟨l1,l2,l3,l4,_⟩:=u6;unfold pTx;have hp:∀y∈ps.map wTx,y.length<=7/\10∉y.cps.toList:=λy hy=>by
  obtain⟨p,iB,rfl⟩:=zD.mp hy;have:=Lj p.1 (hn p iB) p.2;exact⟨this.1,this.2.1⟩
 have h1:=ve (y:=Str.ofString ", ") λy hy=>(hp y hy).1;rw[zY,qv.2.2]at h1;refine⟨?_,yx uc.2.2.1 (gd uc.2.2.2.2.1 λy hy=>(hp y hy).2)⟩;rw[za,l3];lia
theorem t8:∀s:Say,(∀x∈s.letters,NL x)->NL s.text
 | .letter x,h=>h x (zO.mpr rfl)
 | .neg s,h=>yx u7.1 (t8 s h)
 | .bin .con s t,h=>by
  have h1:=t8 s λx hx=>h x (zK.mpr (.inl hx));have h2:=t8 t λx hx=>h x (zK.mpr (.inr hx));exact yx (yx (yx (yx (yx (yx u7.2.1 h1) uc.2.2.2.1) u7.2.2.2.1) uc.2.2.2.1) h2) u7.2.2.1
 | .bin .dis s t,h=>by
  have h1:=t8 s λx hx=>h x (zK.mpr (.inl hx));have h2:=t8 t λx hx=>h x (zK.mpr (.inr hx));exact yx (yx (yx (yx (yx (yx u7.2.1 h1) uc.2.2.2.1) u7.2.2.2.2.1) uc.2.2.2.1) h2) u7.2.2.1
 | .bin .imp s t,h=>by
  have h1:=t8 s λx hx=>h x (zK.mpr (.inl hx));have h2:=t8 t λx hx=>h x (zK.mpr (.inr hx));exact yx (yx (yx (yx u7.2.2.2.2.2.1 h1) u7.2.2.2.2.2.2) h2) u7.2.2.1
def RTx(K:W.Frag)(H:Hp)(v:V)(x:Str):Prop:=(∃ns:List Nat,ReasonAt K H v "judges" (ns.map λn=>V.int ((n:Nat):Int))/\ns.length<=100/\(∀n∈ns,n<100)/\x=jTx ns)\/∃(us:List V)(ps:List (Nat×Bool)),ReasonAt K H v "follows" us/\PairsAt K H us ps/\ps.length<=10/\(∀p∈ps,p.1<10)/\x=pTx ps
theorem RTx.mono{K:W.Frag}{H H':Hp}{v:V}{x:Str}(t:Tups H H'):RTx K H v x->RTx K H' v x
 | .inl ⟨ns,h,a,b,c⟩=>.inl ⟨ns,h.mono t,a,b,c⟩
 | .inr ⟨us,ps,h,g,a,b,c⟩=>.inr ⟨us,ps,h.mono t,g.mono t,a,b,c⟩
theorem RTx.ok{K:W.Frag}{H:Hp}{v:V}{x:Str}:RTx K H v x->x.length<=1000/\NL x
 | .inl ⟨ns,_,a,b,c⟩=>c▸Ln a b
 | .inr ⟨us,ps,_,_,a,b,c⟩=>c▸L0 a b
theorem de{n:Nat}(h:n<100):((n:Int)).natAbs.log2<1920:=by
 rw[Int.natAbs_natCast];exact Nat.lt_of_le_of_lt (Nat.log2_le_self n) (by lia)
def Le:Sp:=λvs H Q _=>∃t:Bool,vs=[.bl t]/\Q (.str (yn t)) H
theorem G3(D:Def K mg "yes_or_no" (top 3) ["truth"]):zy P w K mg base 1 "yes_or_no" ["truth"] Le:=by
 refine D.callee (N:=["truth"]) (by walk_at"sc") (by walk_at"ln") λf cdv A outer s H vs Q E hr nd h=>?_;obtain⟨t,rfl,q⟩:=h;refine⟨[some (.bl t)],_,rfl,(z4 (zv (Q7 (vv (z8 0)) zp zp))),?_⟩;walk_at"rp";cases t with
 |true=>exact q
 |false=>exact q
theorem nt{H:Hp}:∀ns:List Nat,HasL K H (ns.map λn=>V.int ((n:Nat):Int)) (ns.map λn=>PyData.int ((n:Nat):Int))
 |[]=>by simp[HasL]
 |n::ns=>by
  have ih:=nt (H:=H) ns;rw[List.map_cons,List.map_cons];unfold HasL;exact⟨_,_,rfl,by unfold Has;rfl,ih⟩
theorem j9:∀ns:List Nat,PyData.canLayAll0 (ns.map λn=>PyData.int ((n:Nat):Int))=true/\PyData.depthAll (ns.map λn=>PyData.int ((n:Nat):Int))<=1
 |[]=>by simp[PyData.canLayAll0,PyData.depthAll]
 |n::ns=>by
  obtain⟨h1,h2⟩:=j9 ns;rw[List.map_cons];refine⟨?_,?_⟩
  ·rw[PyData.canLayAll0,h1];simp[PyData.canLay0]
  ·rw[PyData.depthAll];simp[PyData.depth];lia
theorem jc(ns:List Nat):SeqAt.shaped (.tuple (ns.map λn=>PyData.int ((n:Nat):Int)))=true:=by
 obtain⟨h1,h2⟩:=j9 ns;unfold SeqAt.shaped;rw[yJ];refine⟨by rw[PyData.canLay0,h1],yU ?_⟩;rw[PyData.depth];lia
theorem Xb:∀ns:List Nat,PyData.eqv (.tuple (ns.map λn=>PyData.int ((n:Nat):Int))) (.tuple [])=decide (ns.length=0)
 |[]=>by decide +kernel
 |n::ns=>by
  rw[List.map_cons];simp[PyData.eqv,PyData.eqvAll]
def ba(K:W.Frag):Sp:=λvs H Q _=>∃(c:Addr)(ns:List Nat),vs=[.ref c]/\SqT K H c (ns.map λn=>V.int ((n:Nat):Int))/\ns.length<=100/\(∀n∈ns,n<100)/\∀H',Same H H'->Q (.str (jTx ns)) H'
theorem Uh(D:Def K mg "judges_shown" (top 4) ["numbers"])(aP:mg "str"=none):zy P w K mg base 1 "judges_shown" ["numbers"] (ba K):=by
 refine D.callee (N:=["numbers"]) (by walk_at"sc") (by walk_at"ln") λf cdv A outer s H vs Q E hr nd h=>?_;obtain⟨c,ns,rfl,hc,hl,hn,q⟩:=h;refine⟨[some (.ref c)],_,rfl,(z5 (y6 (zg (w6 hr.units) (z8 0) (wb z6) (zi _)) (z4 (zv zp)) zm)
  (z4 (zv (zt zj zp (dg zp (z9 (yc (ixs:=[]) (zo (own:=["number"]) (N:=[]) rfl rfl rfl rfl rfl rfl rfl (by decide +kernel) rfl rfl rfl) rfl (yw (z8 0)) (λ_ _ _ _=>yu) (λ_ _ _ _=>(ze dk rfl aP jr (z9 (z8 0) z6))) rfl) z6)))))),?_⟩
 walk_at"rp";refine⟨by simp only[wW];rw[zM];decide,λz H1 n1 s1 e1=>?_⟩;have hc1:=(z7 s1).sqT hc;refine⟨_,_,(by unfold Has;exact⟨c,_,rfl,hc1,nt ns⟩:Has K H1 (.ref c) (.tuple (ns.map λn=>PyData.int ((n:Nat):Int)))),(by unfold Has;exact⟨z,_,rfl,SqT.of e1,by simp[HasL]⟩:Has K H1 (.ref z) (.tuple [])),jc ns,by decide +kernel,?_⟩;rw[Xb];have hJ:jTx ns=if ns.length=0 then Str.ofString "judges none" else Str.ofString "judges "++Txt.join (Str.ofString " ") (ns.map sN):=rfl
 refine vp (λc'=>?_) λc'=>?_
 ·rw[hJ,yV (yQ c')]at q;exact q H1 s1
 rw[hJ,zC (λz=>c' (yU z))]at q;walk_at"rp";refine .inr ⟨⟨_,hc1⟩,λC s₀ H₀ ex=>?_⟩;refine vc (xs:=ns.map λn=>V.int ((n:Nat):Int)) (λD i ys H2=>ys=((ns.take i).map sN).map V.str/\i<=ns.length/\H2 D=some (.lst ys)/\Same H1 H2/\H1 D=none) (by rw[zY,zM];lia) ?_ ?_ ?_ ?_
 ·intro D H2 n2 s2 e2;exact⟨rfl,yR _,e2,s2,n2⟩
 ·rintro D i ys H2 ⟨rfl,hi,e2,s2,_⟩;exact⟨(z7 s2).sqT hc1,e2,by simp;lia⟩
 ·rintro D i v ys H2 hv ⟨rfl,hi,e2,s2,n2⟩;rw[zT]at hv;cases iT:ns[i]? with
  |none=>rw[iT]at hv;cases hv
  |some n =>
   rw[iT]at hv;cases hv;have aI:i<ns.length:=(zW.mp iT).1;walk_at"rp";refine⟨de (hn n (zN iT)),e2,CN.mk (by rw[zY];exact aI) ⟨?_,aI,zx,zu s2 n2 _,n2⟩⟩;rw[yY,iT,zJ,zJ]
   rfl
 ·rintro D ys H2 ⟨rfl,hi,e2,s2,n2⟩;rw[zY,zB]at e2;have hp:∀y∈ns.map sN,y.length<=3:=λy hy=>by
   obtain⟨n,iT,rfl⟩:=zD.mp hy;exact(al n (hn n iT)).1
  have h1:=sw hp;have h2:=ve (y:=Str.ofString " ") hp;obtain⟨l1,l2,l3,l4,_⟩:=u6;rw[zY]at h1 h2;rw[l4]at h2;refine⟨_,SqL.of e2,by rw[zY,l4];lia,?_⟩;walk_at"rp";exact⟨szt (by rw[l2];lia),q H2 (s1.trans s2)⟩
def be(K:W.Frag):Sp:=λvs H Q _=>∃(c:Addr)(us:List V)(ps:List (Nat×Bool)),vs=[.ref c]/\SqT K H c us/\PairsAt K H us ps/\ps.length<=10/\(∀p∈ps,p.1<10)/\∀H',Same H H'->Q (.str (pTx ps)) H'
theorem Uq(D:Def K mg "part_shown" (top 5) ["part"])(dQ:zy P w K mg base 1 "yes_or_no" ["truth"] Le)(aP:mg "str"=none):zy P w K mg base 2 "part_shown" ["part"] (be K):=by
 refine D.callee (N:=["part"]) (by walk_at"sc") (by walk_at"ln") λf cdv A outer s H vs Q E hr nd h=>?_;obtain⟨c,us,ps,rfl,hc,hP,hl,hn,q⟩:=h;have BL:=hP.len;obtain⟨l1,l2,l3,l4,_⟩:=u6;refine⟨[some (.ref c)],_,rfl,(z4 (zv (zt zj zp (dg zp (z9 (qd (ixs:=[]) (zo (own:=["number","truth"]) (N:=[]) rfl rfl rfl rfl rfl rfl rfl (by decide +kernel) rfl rfl rfl) rfl (yw (z8 0)) (λ_ _ _ _=>yu) (λ_ _ _ _=>(zt zj (zt zj (zw dQ hr (by lia) (z9 (z8 1) z6)) zp) (ze dk rfl aP jr (z9 (z8 0) z6)))) rfl) z6))))),?_⟩;walk_at"rp";refine .inr ⟨⟨_,hc⟩,λC s₀ H₀ ex=>?_⟩;refine Te (xs:=us) (λD i ys H2=>ys=((ps.take i).map wTx).map V.str/\i<=ps.length/\H2 D=some (.lst ys)/\Same H H2/\H D=none) (by rw[zM];lia) ?_ ?_ ?_ ?_
 ·intro D H2 n2 s2 e2;exact⟨rfl,yR _,e2,s2,n2⟩
 ·rintro D i ys H2 ⟨rfl,hi,e2,s2,_⟩;exact⟨(z7 s2).sqT hc,e2,by simp;lia⟩
 ·rintro D i v ys H2 hv ⟨rfl,hi,e2,s2,n2⟩;obtain⟨b,p,hp,rfl,hb⟩:=(hP.mono (z7 s2)).at i v hv;have aI:i<ps.length:=(zW.mp hp).1;have BR:=hn p (zN hp);have hs1:=(al p.1 (by lia)).1;have C4:=(Wx p.2).1;refine⟨b,_,_,rfl,hb,?_⟩;walk_at"rp";refine⟨p.2,rfl,?_⟩;walk_at"rp";refine⟨szt (by rw[l4];lia),de (by lia),szt ?_,e2,CN.mk (by lia) ⟨?_,aI,zx,zu s2 n2 _,n2⟩⟩
  ·show(yn p.2++Str.ofString " ").length+(sN p.1).length<=_;rw[za,l4];lia
  ·rw[yY,hp,zJ,zJ]
   rfl
 ·rintro D ys H2 ⟨rfl,hi,e2,s2,n2⟩;rw[BL,zB]at e2;have hp:∀y∈ps.map wTx,y.length<=7:=λy hy=>by
   obtain⟨p,iB,rfl⟩:=zD.mp hy;exact(Lj p.1 (hn p iB) p.2).1
  have h1:=sw hp;have h2:=ve (y:=Str.ofString ", ") hp;rw[zY]at h1 h2;rw[qv.2.2]at h2;refine⟨_,SqL.of e2,by rw[zY,qv.2.2];lia,?_⟩;walk_at"rp";exact⟨szt (by rw[l3];lia),q H2 s2⟩
def bf(K:W.Frag):Sp:=λvs H Q _=>∃(v:V)(x:Str),vs=[v]/\RTx K H v x/\∀H',Same H H'->Q (.str x) H'
theorem Ur(D:Def K mg "reason_shown" (top 6) ["reason"])(kD:zy P w K mg base 1 "judges_shown" ["numbers"] (ba K))(lM:zy P w K mg base 2 "part_shown" ["part"] (be K)):zy P w K mg base 3 "reason_shown" ["reason"] (bf K):=by
 refine D.callee (N:=["reason"]) (by walk_at"sc") (by walk_at"ln") λf cdv A outer s H vs Q E hr nd h=>?_;obtain⟨v,x,rfl,hx,q⟩:=h;refine⟨[some v],_,rfl,(z5 (y6 (zg (w6 hr.units) (zd (z8 0) zz (λ_ _=>rfl)) zp (zi _)) (z4 (zv (zw kD hr (by lia) (z9 (zd (z8 0) zz (λ_ _=>rfl)) z6)))) zm)
  (z4 (zv (zw lM hr (by lia) (z9 (zd (z8 0) zz (λ_ _=>rfl)) z6))))),?_⟩
 rcases hx with⟨ns,⟨r,c,rfl,gH,hc⟩,hl,hn,rfl⟩|⟨us,ps,⟨r,c,rfl,gH,hc⟩,hP,hl,hn,rfl⟩
 ·walk_at"rp";refine⟨_,_,.inr gH,rfl,?_⟩;walk_at"rp"
  try rw[yU rfl]
  walk_at"rp";refine⟨_,_,.inr gH,rfl,?_⟩;walk_at"rp";exact⟨c,ns,rfl,hc,hl,hn,λH1 s1=>q H1 s1⟩
 ·walk_at"rp";refine⟨_,_,.inr gH,rfl,?_⟩;walk_at"rp";rw[F6];walk_at"rp";refine⟨_,_,.inr gH,rfl,?_⟩;walk_at"rp";exact⟨c,us,ps,rfl,hc,hP,hl,hn,λH1 s1=>q H1 s1⟩
def Sh(K:W.Frag):Sp:=λvs H Q _=>∃(t:Bool)(u v:V)(s:Say)(x:Str),vs=[.bl t,u,v]/\SayAt K H u s/\SzT s/\RTx K H v x/\∀H',Same H H'->Q (.str (lTx t s x)) H'
theorem Nc(D:Def K mg "line_for" (top 7) ["truth","saying","reason"])(dQ:zy P w K mg base 1 "yes_or_no" ["truth"] Le)(iO:zy P w K mg base 40 "shown" ["saying"] (Wr K 40))(jY:zy P w K mg base 3 "reason_shown" ["reason"] (bf K)):zy P w K mg base 41 "line_for" ["truth","saying","reason"] (Sh K):=by
 refine D.callee (N:=["truth","saying","reason"]) (by walk_at"sc") (by walk_at"ln") λf cdv A outer s H vs Q E hr nd h=>?_;obtain⟨t,u,v,sy,x,rfl,hu,hz,hx,q⟩:=h;obtain⟨l1,l2,l3,l4,l5⟩:=u6;have C4:=(Wx t).1;have ht1:=yh sy hz.2;have iP:=hz.1;have hx1:=hx.ok.1;refine⟨[some (.bl t),some u,some v],_,rfl,(z4 (zv (zt zj (zt zj (zt zj (zt zj (zw dQ hr (by lia) (z9 (z8 0) z6)) zp) (zw iO hr (by lia) (z9 (z8 1) z6))) zp) (zw jY hr (by lia) (z9 (z8 2) z6))))),?_⟩;walk_at"rp";refine⟨t,rfl,?_⟩;walk_at"rp";refine⟨szt (by rw[l4];lia),?_⟩;refine⟨u,sy,rfl,hu,hz.1,hz,?_⟩;walk_at"rp";refine⟨szt (by rw[za,l4];lia),szt (by rw[za,za,l4,l5];lia),?_⟩;refine⟨v,x,rfl,hx,λH1 s1=>?_⟩;walk_at"rp";exact⟨szt (by rw[za,za,za,l4,l5];lia),q H1 s1⟩
def pj(row:List Bool)(ts:List Say)(xs ls:List Str):Prop:=ls.length=ts.length/\∀(n:Nat) t s x,row[n]?=some t->ts[n]?=some s->xs[n]?=some x->ls[n]?=some (lTx t s x)
def Yz(K:W.Frag)(Pt C:Addr){ι:Type}(Fl:ι->Hp->Nat->List (Str×V)->Prop)(RR:ι->List Say->List (List Bool)->List Bool->Prop):Sp:=λvs H Q _=>∃(i:ι)(x dx b j:Addr)(fs:List (Str×V))(us:List V)(ts:List Say)(xs:List Str)(J:List (Addr×List Bool)),vs=[.ref x,.ref b,.ref j]/\H x=some (.ins C dx fs)/\Fl i H ts.length fs/\SqT K H b us/\SaysAt K H us ts/\Lst ts xs/\JudgesAt K H j J ts.length/\Tb Pt H /\
 ∀(p:Addr)(H':Hp)(row:List Bool),SameP Pt H H'->Tb Pt H'->SqT K H' p (row.map V.bl)->row.length=ts.length->RR i ts (J.map (·.2)) row->Q (.ref p) H'
def Y1(K:W.Frag)(Pt C:Addr){ι:Type}(Fl:ι->Hp->Nat->List (Str×V)->Prop)(TT:ι->List Say->List (List Bool)->Nat->Str->Prop):Sp:=λvs H Q _=>∃(i:ι)(x dx b j:Addr)(fs:List (Str×V))(us:List V)(ts:List Say)(xs:List Str)(J:List (Addr×List Bool)),vs=[.ref x,.ref b,.ref j]/\H x=some (.ins C dx fs)/\Fl i H ts.length fs/\SqT K H b us/\SaysAt K H us ts/\Lst ts xs/\JudgesAt K H j J ts.length/\Tb Pt H /\
 ∀(l:Addr)(H':Hp)(rs:List V),SameP Pt H H'->Tb Pt H'->H l=none->H' l=some (.lst rs)->rs.length=ts.length->(∀n v,rs[n]?=some v->∃x,RTx K H' v x/\TT i ts (J.map (·.2)) n x)->Q (.ref l) H'
def t9(K:W.Frag)(Pt C:Addr){ι:Type}(Fl:ι->Hp->Nat->List (Str×V)->Prop)(RR:ι->List Say->List (List Bool)->List Bool->Prop)(TT:ι->List Say->List (List Bool)->Nat->Str->Prop):Sp:=λvs H Q _=>∃(i:ι)(x dx b j:Addr)(fs:List (Str×V))(us:List V)(ts:List Say)(xs:List Str)(J:List (Addr×List Bool)),vs=[.ref x,.ref b,.ref j]/\H x=some (.ins C dx fs)/\Fl i H ts.length fs/\fs.lookup (Str.ofString "row")=none/\fs.lookup (Str.ofString "reasons")=none/\SqT K H b us/\SaysAt K H us ts/\Lst ts xs/\JudgesAt K H j J ts.length/\Tb Pt H /\
 ∀(H':Hp)(row:List Bool)(ls zs:List Str),SameP Pt H H'->Tb Pt H'->row.length=ts.length->RR i ts (J.map (·.2)) row->zs.length=ts.length->(∀n z,zs[n]?=some z->TT i ts (J.map (·.2)) n z/\z.length<=1000/\NL z)->pj row ts zs ls->Q (.str (Txt.join (Str.ofString "\n") ls)) H'
theorem V0{ts:List Say}{xs:List Str}(h:Lst ts xs):∀t∈ts,SzT t:=λt ht=>⟨h.pc t ht,λx hx=>h.ok x (h.nm x (mem_allL.mpr ⟨t,ht,hx⟩))⟩
theorem V1{t:Bool}{s:Say}{x:Str}(h:SzT s)(hx:x.length<=1000):(lTx t s x).length<=3000:=by
 obtain⟨l1,l2,l3,l4,l5⟩:=u6;have C4:=(Wx t).1;have ht1:=yh s h.2;have iP:=h.1;unfold lTx;rw[za,za,za,za,l4,l5];lia
theorem sg{C Pt:Addr}{ι:Type}{Fl:ι->Hp->Nat->List (Str×V)->Prop}{RR:ι->List Say->List (List Bool)->List Bool->Prop}{TT:ι->List Say->List (List Bool)->Nat->Str->Prop}{ps1 ps2:List Str}(mono:∀i H H' m fs,Tups H H'->Fl i H m fs->Fl i H' m fs)
  (D:Def K mg "report" (top 8) ["way","sayings","judges"]) (pZ:y8 P w K mg base 46 C "row" ps1 (Yz K Pt C Fl RR)) (kP:y8 P w K mg base 47 C "reasons" ps2 (Y1 K Pt C Fl TT)) (nT:zy P w K mg base 41 "line_for" ["truth","saying","reason"] (Sh K)) (bC:mg "zip"=none):zy P w K mg base 48 "report" ["way","sayings","judges"] (t9 K Pt C Fl RR TT):=by
 refine D.callee (N:=["way","sayings","judges","row","reasons"]) (by walk_at"sc") (by walk_at"ln") λf cdv A outer s H vs Q E hr nd h=>?_;obtain⟨i,x,dx,b,j,fs,us,ts,xs,J,rfl,hx,CU,nK,CK,hb,hT,hL,hJ,cU,q⟩:=h;have lK:=hL.hi;have hsz:=V0 hL;have BL:=hT.len;refine⟨[some (.ref x),some (.ref b),some (.ref j),none,none],_,rfl,(z5 (zn 3 nd (dh pZ hr (by lia) (z8 0) (z9 (z8 1) (z9 (z8 2) z6))))
  (z5 (zn 4 nd (dh kP hr (by lia) (z8 0) (z9 (z8 1) (z9 (z8 2) z6))))
  (z4 (zv (dg zp (z9 (Mw (ixs:=[]) (zo (own:=["truth","saying","reason"]) (N:=[]) rfl rfl rfl rfl rfl rfl rfl (by decide +kernel) rfl rfl rfl) rfl (V7 true true false rfl bC (z9 (z8 3) (z9 (z8 1) (z9 (z8 4) z6)))) (λ_ _ _ _=>yu) (λ_ _ _ _=>(zw nT hr (by lia) (z9 (z8 0) (z9 (z8 1) (z9 (z8 2) z6))))) rfl) z6)))))),?_⟩
 walk_at"rp";refine⟨x,dx,fs,rfl,hx,nK,?_⟩;refine⟨i,x,dx,b,j,fs,us,ts,xs,J,rfl,hx,CU,hb,hT,hL,hJ,cU,λp H1 row s1 T1 hp hl hrr=>?_⟩;have t1:=xt cU s1;walk_at"rp";refine⟨x,dx,fs,rfl,qx cU s1 hx,CK,?_⟩;refine⟨i,x,dx,b,j,fs,us,ts,xs,J,rfl,qx cU s1 hx,mono _ _ _ _ _ t1 CU,t1.sqT hb,hT.mono t1,hL,hJ.mono t1,T1,λl H2 rs s2 T2 nl el gG htt=>?_⟩;have oH:=s1.trans s2;have t2:=xt cU oH;have Aa:=xt T1 s2;walk_at"rp";refine⟨⟨⟨_,Aa.sqT hp⟩,⟨_,t2.sqT hb⟩,_,SqL.of el⟩,λC' s₀ H₀ ex=>?_⟩;refine Jd (p:=true) (q:=true) (r:=false) (xs:=row.map V.bl) (ys:=us) (ws:=rs) (λD k ys H3=>∃ls zs:List Str,ys=ls.map V.str/\ls.length=k/\zs.length=k/\(∀n z,zs[n]?=some z->TT i ts (J.map (·.2)) n z/\z.length<=1000/\NL z)/\(∀(n:Nat) t s z,row[n]?=some t->ts[n]?=some s->zs[n]?=some z->ls[n]?=some (lTx t s z))/\(∀y∈ls,y.length<=3000)/\k<=ts.length/\H3 D=some (.lst ys)/\Same H2 H3/\H2 D=none) (by rw[zY,zM];lia) (by rw[zY];lia) (by rw[zY];lia) ?_ ?_ ?_ ?_
 ·intro D H3 n3 s3 e3;exact⟨[],[],rfl,rfl,rfl,λn z h=>by simp at h,λn t s z _ _ h=>by simp at h,λy hy=>by simp at hy,yR _,e3,s3,n3⟩
 ·rintro D k ys H3 ⟨ls,zs,rfl,hk,_,_,_,_,_,e3,s3,_⟩;exact⟨⟨(z7 s3).sqT (Aa.sqT hp),(z7 s3).sqT (t2.sqT hb),SqL.of (s3 _ _ el)⟩,e3,by rw[zY];lia⟩
 ·rintro D k u v w' ys H3 H4 hu hv hw' ⟨ls,zs,rfl,hk,hzk,hz,qT,Ar,hkm,e3,s3,n3⟩ s4;rw[zT]at hu;cases hc:row[k]? with
  |none=>rw[hc]at hu;cases hu
  |some t =>
   rw[hc]at hu;cases hu;have lY:k<row.length:=(zW.mp hc).1;have Ac:=s3.trans s4;obtain⟨sy,hsy,hvt⟩:=(hT.mono (t2.trans (z7 Ac))).at k v hv;obtain⟨z,hrz,htz⟩:=htt k w' hw';have Ee:=hrz.ok;have El:=hsz sy (zN hsy);walk_at"rp";refine⟨t,v,w',sy,z,rfl,hvt,El,hrz.mono (z7 Ac),λH5 s5=>?_⟩;walk_at"rp";have e5:=(s4.trans s5) _ _ e3;refine⟨e5,CN.mk (by rw[zY];exact lY) ⟨ls++[lTx t sy z],zs++[z],by rw[zJ];rfl,by rw[zP,hk];rfl,by rw[zP,hzk];rfl,λn z' h=>?_,λn t' s' z' h1 h2 h3=>?_,λy hy=>?_,by lia,zx,zu (Ac.trans s5) n3 _,n3⟩⟩
   ·by_cases hn:n<zs.length
    ·rw[yK hn]at h;exact hz n z' h
    ·rw[yI (by lia)]at h;have h0:n-zs.length=0:=by
      have:=(zW.mp h).1;simp only[xF]at this;lia
     rw[h0]at h;cases h;obtain rfl:n=k:=by lia
     exact⟨htz,Ee⟩
   ·by_cases hn:n<zs.length
    ·rw[yK hn]at h3;rw[yK (by lia)];exact qT n t' s' z' h1 h2 h3
    ·rw[yI (by lia)]at h3;have h0:n-zs.length=0:=by
      have:=(zW.mp h3).1;simp only[xF]at this;lia
     rw[h0]at h3;cases h3;obtain rfl:n=k:=by lia
     rw[hc]at h1;cases h1;rw[hsy]at h2;cases h2;rw[yI (by lia),hk,rX]
     rfl
   ·rcases zK.mp hy with hy|hy
    ·exact Ar y hy
    ·rw[zO.mp hy];exact V1 El Ee.1
 ·rintro D ys H3 ⟨ls,zs,rfl,hk,hzk,hz,qT,Ar,hkm,e3,s3,n3⟩;rw[zY]at hk hzk;have h1:=sw Ar;refine⟨ls,SqL.of e3,by rw[lj.2.2];lia,?_⟩;exact q H3 row ls zs (oH.trans (wk s3)) (T2.same s3) hl hrr (by lia) hz ⟨by lia,qT⟩
theorem sk{J:List (List Bool)}{n:Nat}{t:Bool}{i:Nat}:∀k∈yq J n t i,k<i:=λk hk=>yH.mp (xP.mp hk).1
def TTt{ι:Type}(RT:ι->List Say->List (List Bool)->List Bool->Prop)(i:ι)(ts:List Say)(J:List (List Bool))(n:Nat)(x:Str):Prop:=∃row,row.length=ts.length/\RT i ts J row/\∀t,row[n]?=some t->x=jTx (yq J n t J.length)
def ROt{ι:Type}(RI:ι->Nat->List (List Bool)->List (List Bool)->List Bool->Prop)(i:ι)(ts:List Say)(J:List (List Bool))(row:List Bool):Prop:=∃ss R,NamesOf ts ss/\FitRows ts ss R/\RI i ts.length R J row
def TTo{ι:Type}(OI:ι->Nat->List (List Bool)->List Nat->Prop)(i:ι)(ts:List Say)(J:List (List Bool))(n:Nat)(x:Str):Prop:=∃ss R ord k,NamesOf ts ss/\FitRows ts ss R/\OI i ts.length J ord/\ord[k]?=some n /\
 ((yl R (zk J) (zf R (zk J) (ord.take k)) n=zk J n/\x=jTx (yq J n (zk J n) J.length)) \/(yl R (zk J) (zf R (zk J) (ord.take k)) n=!zk J n/\∃ps:List (Nat×Bool),ps.Perm (zf R (zk J) (ord.take k))/\ps.Pairwise (λa b=>a.1<b.1)/\x=pTx (yj R [(n,zk J n)] ps ps)))
theorem Rr{C Pt:Addr}{ps:List Str}{ι:Type}{Fl:ι->Hp->Nat->List (Str×V)->Prop}{RT:ι->List Say->List (List Bool)->List Bool->Prop}(c:y8 P w K mg base 46 C "row" ps (Y0 K Pt C Fl RT)):y8 P w K mg base 46 C "row" ps (Yz K Pt C Fl RT):=c
theorem Ru{C Pt:Addr}{ps:List Str}{ι:Type}{Fl:ι->Hp->Nat->List (Str×V)->Prop}{RT:ι->List Say->List (List Bool)->List Bool->Prop}(c:y8 P w K mg base 47 C "reasons" ps (Y3 K Pt C Fl RT)):y8 P w K mg base 47 C "reasons" ps (Y1 K Pt C Fl (TTt RT)) :=
 xn c (zU _) λvs H Q E ⟨i,x,dx,b,j,fs,us,ts,xs,J,e,hx,hf,hb,hT,hL,hJ,cU,q⟩=>⟨i,x,dx,b,j,fs,us,ts,xs,J,e,hx,hf,hb,hT,hL,hJ,cU,λl H' row rs s' T' nl hl hrt el gG bQ=>q l H' rs s' T' nl el gG λn v hv=>by
  have hn:n<row.length:=by have:=(zW.mp hv).1;lia
  have ht:row[n]?=some row[n]:=zS hn;have Bj:=hJ.hi;refine⟨_,.inl ⟨_,bQ n v _ hv ht,?_,?_,rfl⟩,row,hl,hrt,λt h=>?_⟩
  ·exact yT (wq _ _ _ _) (by rw[zY];exact Bj)
  ·exact λk hk=>zA (sk k hk) (by rw[zY];exact Bj)
  ·rw[ht]at h;cases h
   rfl⟩
theorem Rs{C Pt:Addr}{ps:List Str}{ι:Type}{Fl:ι->Hp->Nat->List (Str×V)->Prop}{RI:ι->Nat->List (List Bool)->List (List Bool)->List Bool->Prop}(c:y8 P w K mg base 46 C "row" ps (pe K Pt C Fl RI)):y8 P w K mg base 46 C "row" ps (Yz K Pt C Fl (ROt RI)) :=
 xn c (zU _) λvs H Q E ⟨i,x,dx,b,j,fs,us,ts,xs,J,e,hx,hf,hb,hT,hL,hJ,cU,q⟩=>⟨i,x,dx,b,j,fs,us,ts,xs,J,e,hx,hf,hb,hT,hL,hJ,cU,λp H' ss R row s' T' hN hF hp hl lV=>q p H' row s' T' hp hl ⟨ss,R,hN,hF,lV⟩⟩
theorem Rt{C Pt:Addr}{ps:List Str}{ι:Type}{Fl:ι->Hp->Nat->List (Str×V)->Prop}{OI:ι->Nat->List (List Bool)->List Nat->Prop}(hOI:∀i H m J fs o,Fl i H m fs->OI i m J o->o.Perm (List.range m))(c:y8 P w K mg base 46 C "reasons" ps (λvs H Q E=>∃i,Y2 K Pt C (Fl i) (OI i) vs H Q E)):y8 P w K mg base 47 C "reasons" ps (Y1 K Pt C Fl (TTo OI)) :=
 xn c (by decide) λvs H Q E ⟨i,x,dx,b,j,fs,us,ts,xs,J,e,hx,hf,hb,hT,hL,hJ,cU,q⟩=>⟨i,x,dx,b,j,fs,us,ts,xs,J,e,hx,hf,hb,hT,hL,hJ,cU,λl H' ss R ord rs s' T' nl hN hF ED el gG nC=>q l H' rs s' T' nl el gG λn v hv=>by
  have Bj:=hJ.hi;have lK:=hL.hi;have Ae:=hOI _ _ _ _ _ _ hf ED;have lW:ord.length=ts.length:=by rw[Ae.length_eq,xY]
  obtain⟨k,hk,hrk⟩:=nC n v hv;rcases hrk with⟨htk,hrea⟩|⟨htk,ps,oE,hpp,qR,hrea,hpn⟩
  ·refine⟨_,.inl ⟨_,hrea,?_,?_,rfl⟩,ss,R,ord,k,hN,hF,ED,hk,.inl ⟨htk,rfl⟩⟩
   ·exact yT (wq _ _ _ _) (by rw[zY];exact Bj)
   ·exact λk hk=>zA (sk k hk) (by rw[zY];exact Bj)
  ·refine⟨_,.inr ⟨oE,_,hrea,hpn,?_,?_,rfl⟩,ss,R,ord,k,hN,hF,ED,hk,.inr ⟨htk,ps,hpp,qR,rfl⟩⟩
   ·refine yT (kn _ _ _ _) ?_;rw[hpp.length_eq,mm,yS];lia
   ·intro p hp;have h1:=hpp.mem_iff.mp (uw _ _ _ _ p hp);have h2:p.1∈(zf R (zk (J.map (·.2))) (ord.take k)).map (·.1):=zD.mpr ⟨p,h1,rfl⟩;rw[xw]at h2;have h3:=Ae.mem_iff.mp (wZ h2);have:=yH.mp h3;lia⟩
theorem Ps(c:String):W.kitOne K (.type c) (.type c)=some true:=by
 unfold W.kitOne;rw[yV (uQ _)]
def hTx(t:Bool)(s:Say):Str:=hdT t++s.text++Str.ofString ": "
theorem cu:∀t,(hdT t).length<=4:=by decide +kernel
theorem P8(t:Bool)(s:Say)(x:Str):lTx t s x=hTx t s++x:=by
 unfold lTx hTx;rw[F8]
theorem Mn{t:Bool}{s:Say}(h:SzT s):(hTx t s).length<=2000:=by
 obtain⟨l1,l2,l3,l4,l5⟩:=u6;have C4:=cu t;have ht1:=yh s h.2;have iP:=h.1;unfold hTx;rw[za,za,l5];lia
theorem Jr{t:Bool}{s:Say}{x:Str}(hs:∀y∈s.letters,NL y)(hx:NL x):NL (lTx t s x):=yx (yx (yx (yx (Wx t).2 uc.2.2.2.1) (t8 s hs)) uc.2.2.2.2.2) hx
def Se(K:W.Frag):Sp:=λvs H Q _=>∃(u:V)(t:Bool)(s:Say),vs=[u,.bl t]/\SayAt K H u s/\SzT s/\∀H',Same H H'->Q (.str (hTx t s)) H'
theorem M9(D:Def K mg "_law_head" (top 71) ["_law_saying_here","_law_truth"])(dR:zy P w K mg base 40 "_law_shown" ["_law_saying_here"] (l8 K 40))(fO:mg "int"=none):zy P w K mg base 41 "_law_head" ["_law_saying_here","_law_truth"] (Se K):=by
 refine D.callee (N:=["_law_saying_here","_law_truth"]) (by walk_at"sc") (by walk_at"ln") λf cdv A outer s H vs Q E hr nd h=>?_;obtain⟨u,t,sy,rfl,hu,hz,q⟩:=h;obtain⟨l1,l2,l3,l4,l5⟩:=u6;have hh:=cu t;have ht1:=yh sy hz.2;have iP:=hz.1;refine⟨[some u,some (.bl t)],_,rfl,(z4 (zv (zt zj (zt zj (zd (wa (z9 zp (z9 zp z6))) (ze V3 rfl fO O3 (z9 (z8 1) z6)) (λ_ _=>rfl)) (zw dR hr (by lia) (z9 (z8 0) z6))) zp))),?_⟩;walk_at"rp";refine⟨sz2,λz H1 n1 s1 e1=>?_⟩;have mS:atI [V.str (Str.ofString "no "),V.str (Str.ofString "yes ")] (if t=true then 1 else 0)=some (V.str (hdT t)):=by cases t<;>rfl
 refine⟨_,_,.inl (SqL.of e1),mS,?_⟩;walk_at"rp";refine⟨u,sy,rfl,hu.mono (z7 s1),hz.1,hz,λH2 s2=>?_⟩;walk_at"rp";exact⟨szt (by lia),szt (by rw[za,l5];lia),q H2 (s1.trans s2)⟩
def fb(K:W.Frag):Sp:=λvs H Q _=>∃(b r:Addr)(us:List V)(ts:List Say)(xs zs ls:List Str)(row:List Bool),vs=[.str (Txt.join (Str.ofString "\n") ls),.ref b,.ref r]/\SqT K H b us/\SaysAt K H us ts/\Lst ts xs/\(∀x∈xs,NL x)/\SqT K H r (row.map V.bl)/\row.length=ts.length/\zs.length=ts.length/\(∀(n:Nat) z,zs[n]?=some z->z.length<=1000/\NL z)/\pj row ts zs ls /\
 ∀(D:Addr)(H':Hp),Same H H'->H D=none->H' D=some (.lst (zs.map V.str))->Q (.ref D) H'
theorem Z1{row:List Bool}{ts:List Say}{zs ls:List Str}(h:pj row ts zs ls)(h1:row.length=ts.length)(h2:zs.length=ts.length){n:Nat}(hn:n<ts.length):∃t s z,row[n]?=some t/\ts[n]?=some s/\zs[n]?=some z/\ls[n]?=some (lTx t s z):=by
 refine⟨row[n],ts[n],zs[n],zS _,zS _,zS _,?_⟩;exact h.2 n _ _ _ (zS _) (zS _) (zS _)
theorem Qs(D:Def K mg "_law_lines" (top 75) ["_law_found","_law_sayings","_law_row_here"])(nY:zy P w K mg base 41 "_law_head" ["_law_saying_here","_law_truth"] (Se K))(bO:mg "isinstance"=none)(aP:mg "str"=none)(aB:mg "len"=none)(bC:mg "zip"=none):zy P w K mg base 42 "_law_lines" ["_law_found","_law_sayings","_law_row_here"] (fb K):=by
 refine D.callee (N:=["_law_found","_law_sayings","_law_row_here","_law_lines_here","_law_rest","_law_line","_law_saying_here","_law_truth","_law_head_here"]) (by walk_at"sc") (by walk_at"ln") λf cdv A outer s H vs Q E hr nd h=>?_;obtain⟨b,r,us,ts,xs,zs,ls,row,rfl,hb,hT,hL,nI,lP,kK,BH,hz,qT,q⟩:=h;have lK:=hL.hi;have CG:=hL.lo;have BL:=hT.len;have hsz:=V0 hL;have EO:=qT.1;have hlnl:∀t∈ts,∀x∈t.letters,NL x:=λt ht x hx=>nI x (hL.nm x (mem_allL.mpr ⟨t,ht,hx⟩));have fQ:∀y∈ls,y.length<=3000/\NL y:=λy hy=>by
  obtain⟨n,hn⟩:=List.getElem?_of_mem hy;have iT:n<ts.length:=by have:=(zW.mp hn).1;lia
  obtain⟨t,sy,z,h1,h2,h3,h4⟩:=Z1 qT kK BH iT;rw[hn]at h4;cases h4;have hm:=zN h2;exact⟨V1 (hsz sy hm) (hz n z h3).1,Jr (hlnl sy hm) (hz n z h3).2⟩
 have kT:Txt.split (Txt.join (Str.ofString "\n") ls) (Str.ofString "\n")=ls:=by
  cases hc:ls with
  |nil=>rw[hc]at EO;simp at EO;lia
  |cons y ys =>
   refine md _ 10 [] lj.1 lj.2.1 y ys λq hq=>?_;rw[<-hc]at hq;exact(fQ q hq).2
 have Ba:(Txt.join (Str.ofString "\n") ls).length<=100000:=by
  have:=ve (y:=Str.ofString "\n") λy hy=>(fQ y hy).1;rw[lj.2.2]at this;lia
 refine⟨[some (.str (Txt.join (Str.ofString "\n") ls)),some (.ref b),some (.ref r),none,none,none,none,none,none],_,rfl,(z5 (y6 (u5 (vv (zq Gs rfl bO iw (z9 (z8 0) (z9 (Nw (v:=.ty "str") rfl aP jr rfl) z6))))) (z4 (zv qu)) zm)
  (z5 (zn 3 nd (V6 (z8 0) (z9 zp z6)))
  (z5 (y6 (zg (di hr.units) (zq yi rfl aB yy (z9 (z8 3) z6)) (zq yi rfl aB yy (z9 (z8 1) z6)) (zi _)) (z4 (zv qu)) zm)
  (z5 (zn 4 nd (wa z6))
  (z5 (xq yM rfl (V7 false true true rfl bC (z9 (z8 3) (z9 (z8 1) (z9 (z8 2) z6)))) (Ly 5 6 7 rfl nd) (z5 (zn 8 nd (zw nY hr (by lia) (z9 (z8 6) (z9 (z8 7) z6))))
  (z5 (y6 (u5 (vv (Z5 (z8 5) (z9 (z8 8) z6)))) (z4 (zv qu)) zm)
  (z4 (v6 (kh wT wS kg (z8 4) (z9 (xz (z8 5) (xf (zq yi rfl aB yy (z9 (z8 8) z6))) x9) z6)))))))
  (z4 (zv (z8 4)))))))),?_⟩
 walk_at"rp";refine⟨_,true,.of (.str _),Ps _,?_⟩;walk_at"rp";refine⟨by rw[lj.2.2];rfl,szt (by lia),by rw[kT];lia,λD1 H1 n1 s1 e1=>?_⟩;rw[kT]at e1;generalize Txt.join (Str.ofString "\n") ls=tx at *;walk_at"rp";refine⟨_,.inl (SqL.of e1),_,.inr ((z7 s1).sqT hb),?_⟩;rw[zY,EO,BL]
 try rw[yU rfl]
 walk_at"rp";refine⟨by simp only[wW];rw[zM];decide,λD2 H2 n2 s2 e2=>?_⟩;have oH:=s1.trans s2;have n02:H D2=none:=y9 s1 n2;have aZ:D1≠D2:=λz=>by rw[<-z,e1]at n2;cases n2
 walk_at"rp";refine⟨⟨⟨_,SqL.of (s2 _ _ e1)⟩,⟨_,(z7 oH).sqT hb⟩,_,(z7 oH).sqT lP⟩,?_⟩;refine T4 (p:=false) (q:=true) (r:=true) (xs:=ls.map V.str) (ys:=us) (ws:=row.map V.bl) (λi σ H3=>(∃x5 x6 x7 x8,σ=[some (.str tx),some (.ref b),some (.ref r),some (.ref D1),some (.ref D2),x5,x6,x7,x8])/\Same H H3/\H3 D1=some (.lst (ls.map V.str))/\H3 D2=some (.lst ((zs.take i).map V.str))) (by rw[zY];lia) (by rw[zY,zY];lia) ⟨⟨_,_,_,_,rfl⟩,oH,s2 _ _ e1,e2⟩ ?_ ?_ ?_
 ·rintro i σ H3 _ ⟨_,s3,e3,_⟩;exact⟨SqL.of e3,(z7 s3).sqT hb,(z7 s3).sqT lP⟩
 ·rintro i x y w' σ H3 H4 hx hy hw' ⟨⟨x5,x6,x7,x8,rfl⟩,s3,e3,f3⟩ s4;have hi:i<ts.length:=by have:=(zW.mp hx).1;rw[zY]at this;lia
  obtain⟨t,sy,z,h1,h2,h3,h4⟩:=Z1 qT kK BH hi;rw[zT,h4]at hx;cases hx;rw[zT,h1]at hw';cases hw';have Ac:=s3.trans s4;obtain⟨sy',Em,hvt⟩:=(hT.mono (z7 Ac)).at i y hy;rw[h2]at Em;cases Em;have hm:=zN h2;have aI:=(fQ _ (zN h4)).1;walk_at"rp";refine⟨y,t,sy,rfl,hvt,hsz sy hm,λH5 s5=>?_⟩;walk_at"rp";rw[P8,mf];walk_at"rp";have hhl:=Mn (t:=t) (hsz sy hm);have e5:=(s4.trans s5) _ _ f3;refine⟨⟨_,_,rfl,e5⟩,?_⟩;rw[P8]at aI;refine⟨szt (by lia),szt (by lia),?_⟩;rw[gx _ _ _ rfl];refine⟨_,e5,by rw[zY,yS,zM];lia,⟨_,_,_,_,rfl⟩,zu (Ac.trans s5) n02 _,?_,?_⟩
  ·rw[zh aZ];exact(s4.trans s5) _ _ e3
  ·rw[zx,yY,h3,zJ]
   rfl
 ·rintro σ H3 ⟨⟨x5,x6,x7,x8,rfl⟩,s3,e3,f3⟩;walk_at"rp";rw[zY,EO,<-BH,zB]at f3;exact q D2 H3 s3 n02 f3
def ef(K:W.Frag):Sp:=λvs H Q _=>∃(j:Addr)(J:List (Addr×List Bool))(m n:Nat)(t:Bool),vs=[.ref j,.int (n:Int),.bl t]/\JudgesAt K H j J m/\n<m/\∀H',Same H H'->Q (.str (jTx (yq (J.map (·.2)) n t (J.map (·.2)).length))) H'
theorem Qt(D:Def K mg "_law_sayers" (top 72) ["_law_judges","_law_number","_law_truth"])(aB:mg "len"=none)(aA:mg "range"=none)(aP:mg "str"=none):zy P w K mg base 1 "_law_sayers" ["_law_judges","_law_number","_law_truth"] (ef K):=by
 refine D.callee (N:=["_law_judges","_law_number","_law_truth","_law_some"]) (by walk_at"sc") (by walk_at"ln") λf cdv A outer s H vs Q E hr nd h=>?_;obtain⟨j,J,m,n,t,rfl,hJ,hn,q⟩:=h;rw[zY]at q;have lK:=hJ.hi;refine⟨[some (.ref j),some (.int (n:Int)),some (.bl t),none],_,rfl,(z5 (ye 3 nd (ixs:=[0,1,2]) (zo (own:=["_law_k"]) (N:=["_law_judges","_law_number","_law_truth"]) rfl rfl rfl rfl rfl rfl rfl (by decide +kernel) rfl rfl rfl) rfl (yp rfl aA (z9 (zq yi rfl aB yy (z9 (z8 0) z6)) z6)) (λ_ _ _ _=>(vq (zg (w6 hr.units) (zd (zd (z8 1) (z8 0) (λ_ _=>rfl)) (z8 2) (λ_ _=>rfl)) (z8 3) (zi _)))) (λ_ _ _ _=>(ze dk rfl aP jr (z9 (z8 0) z6))) rfl)
  (z5 (y6 (zg (w6 hr.units) (zq yi rfl aB yy (z9 (z8 3) z6)) zz (zi _)) (z4 (zv zp)) zm)
  (z4 (zv (zt zj zp (dg zp (z9 (z8 3) z6))))))),?_⟩
 walk_at"rp";refine⟨_,.inr hJ.sq,?_⟩;rw[zY];refine⟨⟨by lia,by lia⟩,λC' s₀ H₀ ex=>?_⟩;rw[yW];refine nj (λD i ys H1=>ys=((yq (J.map (·.2)) n t i).map sN).map V.str/\H1 D=some (.lst ys)/\Same H H1/\H D=none) (by rw[zM];lia) ?_ ?_ ?_ ?_
 ·intro D H1 n1 s1 e1;exact⟨rfl,e1,s1,n1⟩
 ·rintro D i ys H1 ⟨rfl,e1,s1,_⟩;exact⟨e1,by rw[zY,zY];exact wq _ _ _ _⟩
 ·rintro D i ys H1 hi ⟨rfl,e1,s1,n1⟩;rw[wJ];obtain⟨r,er⟩:∃r,J[i]?=some r:=⟨_,zS hi⟩
  have fC:=zN er;obtain⟨b,eb⟩:∃b,r.2[n]?=some b:=⟨_,zS (by rw[hJ.len r fC];exact hn)⟩
  have hJ1:=hJ.mono (z7 s1);have eg:((J.map (·.2)).getD i []).getD n false=b:=by
   rw[yZ (l:=J.map (·.2)),zT,er];show r.2.getD n false=b;rw[yZ,eb]
   rfl
  walk_at"rp";refine⟨_,_,.inr hJ1.sq,yf (by rw[zT,er];rfl),?_⟩;walk_at"rp";refine⟨_,_,.inr (hJ1.row r fC),yf (by rw[zT,eb];rfl),?_⟩;walk_at"rp";refine vp (λc=>?_) λc=>?_
  ·refine⟨de (by lia),e1,CN.mk hi ⟨?_,zx,zu s1 n1 _,n1⟩⟩;rw[w9,eg,yV (uM.mpr (yQ c)),zJ,zJ]
   rfl
  ·refine CN.mk hi ⟨?_,e1,s1,n1⟩;rw[w9,eg,zC (λz=>c (yU (uM.mp z))),List.append_nil]
 rintro D1 ys H1 ⟨rfl,e1,s1,n1⟩;walk_at"rp";refine⟨_,.inl (SqL.of e1),?_⟩;rw[zY,zY];have hl:=wq (J.map (·.2)) n t J.length;have aI:∀k∈yq (J.map (·.2)) n t J.length,k<J.length:=sk;generalize yq (J.map (·.2)) n t J.length=ns at *;have CT:jTx ns=if ns.length=0 then Str.ofString "judges none" else Str.ofString "judges "++Txt.join (Str.ofString " ") (ns.map sN):=rfl
 refine vp (λc'=>?_) λc'=>?_
 ·have c2:=yQ c';rw[CT,yV (by lia)]at q;exact q H1 s1
 have c2:¬ns.length=0:=λz=>c' (yU (by rw[z];rfl));rw[CT,zC c2]at q;walk_at"rp";have hp:∀y∈ns.map sN,y.length<=3:=λy hy=>by
  obtain⟨n,iT,rfl⟩:=zD.mp hy;have:=aI n iT;exact(al n (by lia)).1
 have h1:=sw hp;have h2:=ve (y:=Str.ofString " ") hp;obtain⟨l1,l2,l3,l4,_⟩:=u6;rw[zY]at h1 h2;rw[l4]at h2;refine⟨_,SqL.of e1,by rw[zY,l4];lia,?_⟩;walk_at"rp";exact⟨szt (by rw[l2];lia),q H1 s1⟩
theorem Yp{ps:List (Nat×Bool)}(h:ps.Pairwise λp q=>p.1<q.1){i:Nat}{p:Nat×Bool}(hp:ps[i]?=some p):∀q∈ps.take i,q.1<p.1:=λq hq=>by
 obtain⟨k,hk⟩:=List.getElem?_of_mem hq;have hki:k<i:=by
  have:=(zW.mp hk).1;rw[yS]at this;lia
 rw[uW hki]at hk;obtain⟨h1,e1⟩:=zW.mp hk;obtain⟨h2,e2⟩:=zW.mp hp;have:=yE.mp h k i h1 h2 hki;rw[e1,e2]at this;exact this
theorem Xc{os:List Nat}{n:Nat}(h:os.Nodup)(hn:n∈os):os.filter (λk=>k==n)=[n]:=by
 induction os with
 |nil=>cases hn
 |cons x os ih =>
  have h1:=wK.mp h;rw[wQ]
  by_cases hx:x=n
  ·subst hx;rw[yV (uQ _)]
   congr 1
   exact sQ.mpr λk hk z=>h1.1 (by rw[<-eq_of_beq z];exact hk)
  ·rw[zC (λz=>hx (eq_of_beq z))];exact ih h1.2 ((zI.mp hn).resolve_left λz=>hx z.symm)
theorem Uw{H:Hp}{zs:List V}{p:Nat×Bool}(h:PairsAt K H zs [p]):∃a,zs=[V.ref a]/\SqT K H a [V.int ((p.1:Nat):Int),V.bl p.2]:=by
 cases zs with
 |nil=>exact h.elim
 |cons v r =>
  obtain⟨⟨b,e,hb⟩,hr⟩:=h;cases r with
  |nil=>exact⟨b,by rw[e],hb⟩
  |cons _ _=>exact hr.elim
def Wq(K:W.Frag):Sp:=λvs H Q _=>∃(r o:Addr)(ps:List (Nat×Bool))(row:List Bool)(os:List Nat),vs=[.str (Txt.join (Str.ofString ", ") (ps.map wTx)),.ref r,.ref o]/\SqT K H r (row.map V.bl)/\SqT K H o (os.map λn=>V.int ((n:Nat):Int))/\1<=ps.length/\ps.length<=10/\row.length<=10/\os.length<=10/\os.Nodup/\(∀n∈os,n<row.length)/\(ps.Pairwise λp q=>p.1<q.1)/\(∀p∈ps,p.1∈os/\row[p.1]?=some p.2) /\
 ∀(c:Addr)(H':Hp)(us:List V),Same H H'->SqT K H' c us->PairsAt K H' us ps->Q (.ref c) H'
theorem Nk(D:Def K mg "_law_part" (top 73) ["_law_line","_law_row_here","_law_ahead"])(aB:mg "len"=none)(fO:mg "int"=none)(aP:mg "str"=none)(aC:mg "tuple"=none):zy P w K mg base 1 "_law_part" ["_law_line","_law_row_here","_law_ahead"] (Wq K):=by
 refine D.callee (N:=["_law_line","_law_row_here","_law_ahead","_law_part_here","_law_heads","_law_word","_law_found"]) (by walk_at"sc") (by walk_at"ln") λf cdv A outer s H vs Q E hr nd h=>?_;obtain⟨r,o,ps,row,os,rfl,lP,ho,h1,A6,Au,EH,cZ,iS,nA,lZ,q⟩:=h;have BR:∀p∈ps,p.1<10:=λp hp=>zA (iS _ (lZ p hp).1) Au;have fQ:∀y∈ps.map wTx,y.length<=7/\44∉y.cps.toList:=λy hy=>by
  obtain⟨p,iB,rfl⟩:=zD.mp hy;have:=Lj p.1 (BR p iB) p.2;exact⟨this.1,this.2.2⟩
 have kT:Txt.split (Txt.join (Str.ofString ", ") (ps.map wTx)) (Str.ofString ", ")=ps.map wTx:=by
  cases hc:ps with
  |nil=>rw[hc]at h1;simp at h1
  |cons y ys =>
   rw[List.map_cons];refine md _ 44 [32] qv.1 qv.2.1 _ _ λq hq=>?_;rw[<-List.map_cons (f:=wTx),<-hc]at hq;exact(fQ q hq).2
 have Ba:(Txt.join (Str.ofString ", ") (ps.map wTx)).length<=100000:=by
  have:=ve (y:=Str.ofString ", ") λy hy=>(fQ y hy).1;rw[qv.2.2,zY]at this;lia
 refine⟨[some (.str (Txt.join (Str.ofString ", ") (ps.map wTx))),some (.ref r),some (.ref o),none,none,none,none],_,rfl,(z5 (zn 3 nd (wa z6))
  (z5 (zn 4 nd (wa (z9 zp (z9 zp z6))))
  (z5 (xq yM rfl (yw (V6 (z8 0) (z9 zp z6))) (wo 5 nd) (z5 (ye 6 nd (ixs:=[1,5,4]) (zo (own:=["_law_k"]) (N:=["_law_row_here","_law_word","_law_heads"]) rfl rfl rfl rfl rfl rfl rfl (by decide +kernel) rfl rfl rfl) rfl (yw (z8 2)) (λ_ _ _ _=>(vq (zg (w6 hr.units) (z8 2) (zt zj (zd (z8 3) (ze V3 rfl fO O3 (z9 (zd (z8 1) (z8 0) (λ_ _=>rfl)) z6)) (λ_ _=>rfl)) (ze dk rfl aP jr (z9 (z8 0) z6))) (zi _)))) (λ_ _ _ _=>(wb (z9 (z8 0) (z9 (zd (z8 1) (z8 0) (λ_ _=>rfl)) z6)))) rfl)
  (z5 (y6 (PW.pt (Wh (zg (di hr.units) (zq yi rfl aB yy (z9 (z8 6) z6)) zz (zi _)) (dv (PW.pt (Rn (zg T6 (zq yi rfl aB yy (z9 (z8 3) z6)) zz (zi _)) (Wg (zg Fd (zd (zd (z8 3) (Lz Sx zz) (λ_ _=>rfl)) zz (λ_ _=>rfl)) (zd (zd (z8 6) zz (λ_ _=>rfl)) zz (λ_ _=>rfl)) (zi _)))))))) (z4 (zv qu)) zm)
  (z4 (v6 (kh wT wS kg (z8 3) (z9 (zd (z8 6) zz (λ_ _=>rfl)) z6)))))))
  (z4 (zv (ze yg rfl aC yo (z9 (z8 3) z6))))))),?_⟩
 walk_at"rp";refine⟨by simp only[wW];rw[zM];decide,λD1 H1 n1 s1 e1=>?_⟩;walk_at"rp";refine⟨sz2,λD2 H2 n2 s2 e2=>?_⟩;walk_at"rp";refine⟨by rw[qv.2.2];rfl,szt (by lia),by rw[kT,zY];lia,λD3 H3 n3 s3 e3=>?_⟩;rw[kT]at e3;generalize Txt.join (Str.ofString ", ") (ps.map wTx)=tx at *;have C1:=s1.trans (s2.trans s3);have e23:=s3 _ _ e2;have e13:=(s2.trans s3) _ _ e1;have DN:D2≠D1:=λz=>by rw[z,e1]at n2;cases n2
 have DM:D3≠D1:=λz=>by rw[z,s2 _ _ e1]at n3;cases n3
 refine .inl ⟨⟨_,SqL.of e3⟩,vm (xs:=(ps.map wTx).map V.str) (λi σ H4=>(∃x5 x6,σ=[some (.str tx),some (.ref r),some (.ref o),some (.ref D1),some (.ref D2),x5,x6])/\Same H H4/\H4 D3=some (.lst ((ps.map wTx).map V.str))/\H4 D2=some (.lst [V.str (Str.ofString "no "),V.str (Str.ofString "yes ")])/\∃ys,H4 D1=some (.lst ys)/\PairsAt K H4 ys (ps.take i)) ⟨⟨_,_,rfl⟩,C1,e3,e23,[],e13,trivial⟩ ?_ ?_ ?_⟩
 ·rintro i σ H4 _ ⟨_,s4,e4,_⟩;exact SqL.of e4
 ·rintro i v σ H4 hv ⟨⟨x5,x6,rfl⟩,s4,e4,f4,ys,g4,pE⟩;rw[zT,zT]at hv;cases hc:ps[i]? with
  |none=>rw[hc]at hv;cases hv
  |some p =>
   rw[hc]at hv;cases hv;have Ae:=zN hc;have hip:i<ps.length:=(zW.mp hc).1;obtain⟨hpo,CC⟩:=lZ p Ae;have bL:=BR p Ae;walk_at"rp";refine .inr ⟨⟨_,(z7 s4).sqT ho⟩,λC' s₀ H₀ ex=>?_⟩;refine vh (xs:=os.map λn=>V.int ((n:Nat):Int)) (λD k zs H5=>PairsAt K H5 zs (((os.take k).filter λn=>n==p.1).map λn=>(n,p.2))/\zs.length<=k/\k<=os.length/\H5 D=some (.lst zs)/\Same H4 H5/\H4 D=none) (by rw[zY,zM];lia) ?_ ?_ ?_ ?_
   ·intro D H5 n5 s5 e5;exact⟨trivial,zU _,yR _,e5,s5,n5⟩
   ·rintro D k zs H5 ⟨_,hl,_,e5,s5,_⟩;exact⟨(z7 (s4.trans s5)).sqT ho,e5,hl⟩
   ·rintro D k v zs H5 hv ⟨hz,hl,hko,e5,s5,n5⟩;rw[zT]at hv;cases hk:os[k]? with
    |none=>rw[hk]at hv;cases hv
    |some n =>
     rw[hk]at hv;cases hv;have mQ:=iS n (zN hk);have lY:k<os.length:=(zW.mp hk).1;have Ds:=s4.trans s5;walk_at"rp";refine⟨_,_,.inr ((z7 Ds).sqT lP),wf mQ,?_⟩;walk_at"rp";have mS:atI [V.str (Str.ofString "no "),V.str (Str.ofString "yes ")] (if row.getD n false=true then 1 else 0)=some (V.str (hdT (row.getD n false))):=by cases row.getD n false<;>rfl
     refine⟨_,_,.inl (SqL.of (s5 _ _ f4)),mS,?_⟩;walk_at"rp";have hhl:=cu (row.getD n false);have hsl:=(al n (by lia)).1;refine⟨de (by lia),szt (by show(hdT _).length+(sN n).length<=_;lia),?_⟩;have hfl:(os.take (k+1)).filter (λn=>n==p.1)=(os.take k).filter (λn=>n==p.1)++if n=p.1 then[n]else[]:=by
      rw[yY,hk,wF,Option.toList_some,wQ,uG]
      congr 1
      by_cases z:n=p.1
      ·rw[yV z,yV (uM.mpr z)]
      ·rw[zC z,zC (λy=>z (eq_of_beq y))]
     refine vp (λc=>?_) λc=>?_
     ·have c2:=yQ c;obtain⟨c3,c4⟩:=Iq p.1 bL n (by lia) p.2 (row.getD n false) c2;refine⟨_,_,.inr ((z7 Ds).sqT lP),wf mQ,sz2,λa H6 n6 s6 e6=>?_⟩;walk_at"rp";have e56:=s6 _ _ e5;have t7:Tups H6 (upd H6 D (.lst (zs++[V.ref a]))):=xr e56;refine⟨e56,CN.mk (by rw[zY];exact lY) ⟨?_,by rw[zP];exact Nat.succ_le_succ hl,lY,zx,zu (s5.trans s6) n5 _,n5⟩⟩;rw[hfl,yV c3.symm,zJ];refine(hz.mono ((z7 s6).trans t7)).app ⟨⟨a,rfl,t7.sqT ?_⟩,trivial⟩;have e6':=SqT.of (K:=K) e6;rw[<-c4]at e6';exact e6'
     ·refine CN.mk (by rw[zY];exact lY) ⟨?_,by lia,lY,e5,s5,n5⟩;have aZ:¬n=p.1:=λz=>by
       subst z;refine c (yU ?_);have:row.getD p.1 false=p.2:=by rw[yZ,CC];rfl
       rw[this];exact Fv p.1 bL p.2
      rw[hfl,zC aZ,List.append_nil];exact hz
   ·rintro D zs H5 ⟨hz,hl,_,e5,s5,n5⟩;rw[zY,zB,Xc cZ hpo]at hz;have Ds:=s4.trans s5;have nD1:D≠D1:=λz=>by rw[z,g4]at n5;cases n5
    obtain⟨a,rfl,ha⟩:=Uw (p:=p) hz;walk_at"rp";refine⟨_,.inl (SqL.of e5),?_⟩;rw[show(([V.ref a]:List V).length:Int)=1 from rfl];walk_at"rp";refine⟨_,.inl (SqL.of (s5 _ _ g4)),?_⟩;have Aq:=pE.len;have qL:∀H6,Same H5 H6->H6=H5->PairsAt K (upd H6 D1 (.lst (ys++[V.ref a]))) (ys++[V.ref a]) (ps.take (i+1)):=λH6 s6 e6=>by
     subst e6;have t7:Tups H6 (upd H6 D1 (.lst (ys++[V.ref a]))):=xr (s5 _ _ g4);rw[yY,hc];exact(pE.mono ((z7 s5).trans t7)).app ⟨⟨a,rfl,t7.sqT ha⟩,trivial⟩
    have n01:H D1=none:=n1;refine vp (λc=>?_) λc=>?_
    ·have hi0:0<i:=by
      have:=yQ c;rw[Aq,yS]at this;lia
     obtain⟨p',iB⟩:∃p',ps[i-1]?=some p':=⟨_,zS (by lia)⟩
     have htk:ps.take i=ps.take (i-1)++[p']:=by
      have:i=(i-1)+1:=by lia
      rw[this,yY,Nat.add_sub_cancel,iB]
      rfl
     have aI:p'.1<p.1:=Yp nA hc p' (by rw[htk];exact yP _ (zO.mpr rfl));have hys5:=pE.mono (z7 s5);rw[htk]at hys5;obtain⟨ys1,y1,rfl,b1,rfl,rB⟩:∃ys1 y1,ys=ys1++[y1]/\∃b1,y1 = .ref b1/\SqT K H5 b1 [V.int ((p'.1:Nat):Int),V.bl p'.2]:=by
      have kL:ys.length=i:=by rw[Aq,yS];lia
      obtain⟨y1,C4⟩:∃y1,ys[i-1]?=some y1:=⟨_,zS (by lia)⟩
      have eys:ys=ys.take (i-1)++[y1]:=by
       have h0:ys.take ((i-1)+1)=ys:=wY (by lia);rw[yY,C4]at h0;exact h0.symm
      refine⟨_,_,eys,?_⟩;obtain⟨b,p2,iK,e,hb⟩:=(pE.mono (z7 s5)).at (i-1) _ C4;rw[uW (by lia),iB]at iK;cases iK;exact⟨b,e,hb⟩
     refine(show∃i,V.int 1=V.int i/\_ from⟨1,rfl,?_⟩);walk_at"rp";refine⟨_,_,.inl (SqL.of (s5 _ _ g4)),Oz _ _,?_⟩;walk_at"rp";refine⟨_,_,.inr rB,rfl,?_⟩;walk_at"rp";refine⟨_,_,.inl (SqL.of e5),rfl,?_⟩;walk_at"rp";refine⟨_,_,.inr ha,rfl,?_⟩;walk_at"rp";rw[yO (by lia)];walk_at"rp";refine⟨⟨_,_,rfl,s5 _ _ g4⟩,_,_,.inl (SqL.of e5),rfl,_,s5 _ _ g4,by rw[Aq,yS,zM];lia,⟨_,_,rfl⟩,zu Ds n01 _,?_,?_,_,zx,qL _ (Same.refl _) rfl⟩
     ·rw[zh DM];exact s5 _ _ e4
     ·rw[zh DN];exact s5 _ _ f4
    ·refine⟨⟨_,_,rfl,s5 _ _ g4⟩,_,_,.inl (SqL.of e5),rfl,_,s5 _ _ g4,by rw[Aq,yS,zM];lia,⟨_,_,rfl⟩,zu Ds n01 _,?_,?_,_,zx,qL _ (Same.refl _) rfl⟩
     ·rw[zh DM];exact s5 _ _ e4
     ·rw[zh DN];exact s5 _ _ f4
 ·rintro σ H4 ⟨⟨x5,x6,rfl⟩,s4,e4,f4,ys,g4,pE⟩;rw[zY,zY,zB]at pE;walk_at"rp";exact⟨_,.inl (SqL.of g4),λc H5 s5 h5=>q c H5 ys (s4.trans s5) h5 (pE.mono (z7 s5))⟩
def Sc(K:W.Frag):Sp:=λvs H Q _=>∃(d r o:Addr)(ps:List (Nat×Bool))(R:List (Addr×List Bool))(row:List Bool)(os:List Nat)(n:Nat)(t:Bool),vs=[.str (pTx ps),.ref d,.ref r,.int (n:Int),.ref o]/\H d=some (.lst (R.map λr=>V.ref r.1))/\(∀r∈R,SqT K H r.1 (r.2.map V.bl))/\(∀r∈R,r.2.length=row.length)/\R.length<=32/\SqT K H r (row.map V.bl)/\SqT K H o (os.map λn=>V.int ((n:Nat):Int))/\n<row.length/\row[n]?=some t/\1<=ps.length/\ps.length<=10/\row.length<=10/\os.length<=10/\os.Nodup/\(∀n∈os,n<row.length) /\
 (ps.Pairwise λp q=>p.1<q.1)/\(∀p∈ps,p.1∈os/\row[p.1]?=some p.2)/\Xe (R.map (·.2)) ps n t=true/\(∀k,k<ps.length->Xe (R.map (·.2)) (ps.take k++ps.drop (k+1)) n t=false)/\∀H',Same H H'->Q (.bl true) H'
theorem M7(D:Def K mg "_law_follows_so" (top 74) ["_law_line","_law_fit","_law_row_here","_law_number","_law_ahead"])(nU:zy P w K mg base 1 "_law_part" ["_law_line","_law_row_here","_law_ahead"] (Wq K))(kB:zy P w K mg base 1 "_law_goes" ["_law_fit","_law_part_here","_law_number","_law_truth"] (Sd K))(aB:mg "len"=none)(aA:mg "range"=none):zy P w K mg base 2 "_law_follows_so" ["_law_line","_law_fit","_law_row_here","_law_number","_law_ahead"] (Sc K):=by
 refine D.callee (N:=["_law_line","_law_fit","_law_row_here","_law_number","_law_ahead","_law_part_here","_law_k"]) (by walk_at"sc") (by walk_at"ln") λf cdv A outer s H vs Q E hr nd h=>?_;obtain⟨d,r,o,ps,R,row,os,n,t,rfl,hd,hR,iL,Bl,lP,ho,hn,hnt,h1,A6,Au,EH,cZ,iS,nA,lZ,BI,eQ,q⟩:=h;have aI:∀p∈ps,p.1<row.length:=λp hp=>iS _ (lZ p hp).1;have hpt:=(L0 A6 λp hp=>zA (aI p hp) Au).1;refine⟨[some (.str (pTx ps)),some (.ref d),some (.ref r),some (.int (n:Int)),some (.ref o),none,none],_,rfl,(z5 (y6 (u5 (vv (Z5 (z8 0) (z9 zp z6)))) (z4 (zv wn)) zm)
  (z5 (zn 5 nd (zw nU hr (by lia) (z9 (xz (z8 0) (xf zz) x9) (z9 (z8 2) (z9 (z8 4) z6)))))
  (z5 (y6 (PW.pt (Wh (zg Qf (z8 5) qu (zi _)) (dv (u5 (vv (zw kB hr (by lia) (z9 (z8 1) (z9 (z8 5) (z9 (z8 3) (z9 (zd (z8 2) (z8 3) (λ_ _=>rfl)) z6)))))))))) (z4 (zv wn)) zm)
  (z5 (xq yM rfl (yp rfl aA (z9 (zq yi rfl aB yy (z9 (z8 5) z6)) z6)) (wo 6 nd) (z4 (y6 (vv (zw kB hr (by lia) (z9 (z8 1) (z9 (zt zj (xz (z8 5) x9 (xf (z8 6))) (xz (z8 5) (xf (zt zj (z8 6) zz)) x9)) (z9 (z8 3) (z9 (zd (z8 2) (z8 3) (λ_ _=>rfl)) z6)))))) (z4 (zv wn)) zm)))
  (z4 (zv wn)))))),?_⟩
 walk_at"rp";rw[show Txt.startswith (pTx ps) (Str.ofString "from ")=true from mf _ _];walk_at"rp";refine⟨szt (by lia),?_⟩;rw[show Txt.slice (pTx ps) (some 5) none=Txt.join (Str.ofString ", ") (ps.map wTx)from gx _ _ _ (by rw[u6.2.2.1];rfl)];refine⟨r,o,ps,row,os,rfl,lP,ho,h1,A6,Au,EH,cZ,iS,nA,lZ,λc H1 us s1 hc hP=>?_⟩;have BL:=hP.len;walk_at"rp";refine⟨trivial,?_⟩
 try rw[yO (λz:V.ref c=V.non=>by cases z)]
 walk_at"rp";refine⟨_,_,.inr ((z7 s1).sqT lP),yf (by rw[zT,hnt];rfl),?_⟩;walk_at"rp";refine⟨d,c,R,us,ps,row.length,n,t,rfl,s1 _ _ hd,λx hx=>(z7 s1).sqT (hR x hx),iL,Bl,hc,hP,aI,A6,hn,λH2 s2=>?_⟩;have oH:=s1.trans s2;rw[BI];walk_at"rp";refine⟨_,.inr ((z7 s2).sqT hc),?_⟩;refine⟨⟨by lia,by lia⟩,?_⟩;rw[yW];refine w4 (λi σ H3=>(∃x6,σ=[some (.str (pTx ps)),some (.ref d),some (.ref r),some (.int (n:Int)),some (.ref o),some (.ref c),x6])/\Same H1 H3) ⟨⟨none,rfl⟩,s2⟩ ?_ ?_
 ·rintro i σ H3 hi ⟨⟨x6,rfl⟩,s3⟩;have bT:i<ps.length:=by lia
  walk_at"rp";rw[wJ];refine .inr ⟨_,(z7 s3).sqT hc,λp1 H4 s4 h4=>?_⟩;rw[tp _ (by lia),yW]at h4;walk_at"rp";refine .inr ⟨_,(z7 (s3.trans s4)).sqT hc,λp2 H5 s5 h5=>?_⟩;rw[Zo _ (by lia),show((i:Int)+1).toNat=i+1 by lia]at h5;walk_at"rp";refine .inr ⟨_,_,(z7 s5).sqT h4,h5,by rw[yS,wR,zM];lia,λp3 H6 s6 h6=>?_⟩;have An:=s3.trans (s4.trans (s5.trans s6));have s06:=s1.trans An;walk_at"rp";refine⟨_,_,.inr ((z7 s06).sqT lP),yf (by rw[zT,hnt];rfl),?_⟩;walk_at"rp";have hP6:=hP.mono (z7 An);refine⟨d,p3,R,_,ps.take i++ps.drop (i+1),row.length,n,t,rfl,s06 _ _ hd,λx hx=>(z7 s06).sqT (hR x hx),iL,Bl,h6,(k6 i hP6).app (k5 (i+1) hP6),λp hp=>?_,by rw[zP,yS,wR];lia,hn,λH7 s7=>?_⟩
  ·rcases zK.mp hp with z|z
   ·exact aI p (wZ z)
   ·exact aI p (tX z)
  rw[eQ i bT];walk_at"rp";exact⟨⟨_,rfl⟩,An.trans s7⟩
 ·rintro σ H3 ⟨⟨x6,rfl⟩,s3⟩;walk_at"rp";exact q H3 (s1.trans s3)
theorem Jk{ns:List Nat}(hn:∀n∈ns,n<100):PyData.strOk (jTx ns)=true:=by
 have hs:∀n,n<100->PyData.strOk (sN n)=true:=by decide +kernel
 unfold jTx;split
 ·decide +kernel
 ·refine Wo (by decide +kernel) ?_;rw[sn];intro c hc;rw[show Txt.join (Str.ofString " ") (ns.map sN)=Str.join (Str.ofString " ") (ns.map sN)from StrLaws.glued_eq_join _ _,my]at hc;rcases Xm hc with h|⟨p,iB,h⟩
  ·exact(sn _).mp (by decide +kernel:PyData.strOk (Str.ofString " ")=true) c h
  ·obtain⟨q,hq,rfl⟩:=zD.mp iB;obtain⟨n,iT,rfl⟩:=zD.mp hq;exact(sn _).mp (hs n (hn n iT)) c h
def ju(J:List (List Bool))(row:List Bool)(m:Nat):List Str:=(List.range m).map λn=>jTx (yq J n (row.getD n false) J.length)
theorem Jf{J:List (List Bool)}{row:List Bool}{m:Nat}(hJ:J.length<=100):∀z∈ju J row m,z.length<=1000/\NL z/\PyData.strOk z=true:=λz hz=>by
 obtain⟨n,_,rfl⟩:=zD.mp hz;have h1:∀k∈yq J n (row.getD n false) J.length,k<100:=λk hk=>zA (sk k hk) hJ;have h2:=Ln (yT (wq _ _ _ _) hJ) h1;exact⟨h2.1,h2.2,Jk h1⟩
def Sa(K:W.Frag):Sp:=λvs H Q _=>∃(b j r:Addr)(us:List V)(ts:List Say)(xs ls:List Str)(row:List Bool)(J:List (Addr×List Bool)),vs=[.str (Txt.join (Str.ofString "\n") ls),.ref b,.ref j,.ref r]/\SqT K H b us/\SaysAt K H us ts/\Lst ts xs/\(∀x∈xs,NL x)/\JudgesAt K H j J ts.length/\SqT K H r (row.map V.bl)/\row.length=ts.length/\pj row ts (ju (J.map (·.2)) row ts.length) ls/\∀H',Same H H'->Q (.bl true) H'
theorem M4(D:Def K mg "_law_by_judges" (top 76) ["_law_found","_law_sayings","_law_judges","_law_row_here"])(cC:zy P w K mg base 1 "_law_sayers" ["_law_judges","_law_number","_law_truth"] (ef K))(dS:zy P w K mg base 42 "_law_lines" ["_law_found","_law_sayings","_law_row_here"] (fb K))(aB:mg "len"=none)(aA:mg "range"=none):zy P w K mg base 43 "_law_by_judges" ["_law_found","_law_sayings","_law_judges","_law_row_here"] (Sa K):=by
 refine D.callee (N:=["_law_found","_law_sayings","_law_judges","_law_row_here","_law_due"]) (by walk_at"sc") (by walk_at"ln") λf cdv A outer s H vs Q E hr nd h=>?_;obtain⟨b,j,r,us,ts,xs,ls,row,J,rfl,hb,hT,hL,nI,hJ,lP,kK,qT,q⟩:=h;have lK:=hL.hi;have Bj:=hJ.hi;have pJ:(ju (J.map (·.2)) row ts.length).length=ts.length:=by simp[ju]
 have hdo:=Jf (J:=J.map (·.2)) (row:=row) (m:=ts.length) (by rw[zY];exact Bj);refine⟨[some (.str (Txt.join (Str.ofString "\n") ls)),some (.ref b),some (.ref j),some (.ref r),none],_,rfl,(z5 (ye 4 nd (ixs:=[2,3]) (zo (own:=["_law_k"]) (N:=["_law_judges","_law_row_here"]) rfl rfl rfl rfl rfl rfl rfl (by decide +kernel) rfl rfl rfl) rfl (yp rfl aA (z9 (zq yi rfl aB yy (z9 (z8 3) z6)) z6)) (λ_ _ _ _=>yu) (λ_ _ _ _=>(zw cC hr (by lia) (z9 (z8 1) (z9 (z8 0) (z9 (zd (z8 2) (z8 0) (λ_ _=>rfl)) z6))))) rfl)
  (z4 (zv (uq (w6 hr.units) (zw dS hr (by lia) (z9 (z8 0) (z9 (z8 1) (z9 (z8 3) z6)))) (z8 4) (zi _))))),?_⟩
 walk_at"rp";refine⟨_,.inr lP,?_⟩;rw[zY,kK];refine⟨⟨by lia,by lia⟩,λC' s₀ H₀ ex=>?_⟩;rw[yW];refine yd (λD i ys H3=>ys=(ju (J.map (·.2)) row i).map V.str/\H3 D=some (.lst ys)/\Same H H3/\H D=none) (by rw[zM];lia) ?_ ?_ ?_ ?_
 ·intro D H3 n3 s3 e3;exact⟨rfl,e3,s3,n3⟩
 ·rintro D i ys H3 ⟨rfl,e3,s3,_⟩;exact⟨e3,by simp[ju]⟩
 ·rintro D i ys H3 hi ⟨rfl,e3,s3,n3⟩;walk_at"rp";rw[wJ];refine⟨_,_,.inr ((z7 s3).sqT lP),wf (by lia),?_⟩;walk_at"rp";refine⟨j,J,ts.length,i,_,rfl,hJ.mono (z7 s3),hi,λH4 s4=>?_⟩;walk_at"rp";refine⟨s4 _ _ e3,CN.mk hi ⟨?_,zx,zu (s3.trans s4) n3 _,n3⟩⟩;simp[ju,vY]
 ·rintro D ys H3 ⟨rfl,e3,s3,n3⟩;walk_at"rp";refine⟨b,r,us,ts,xs,_,ls,row,rfl,(z7 s3).sqT hb,hT.mono (z7 s3),hL,nI,(z7 s3).sqT lP,kK,pJ,λn z hz=>?_,qT,λD4 H4 s4 n4 e4=>?_⟩
  ·have:=hdo z (zN hz);exact⟨this.1,this.2.1⟩
  walk_at"rp";have sh:=d7 (ss:=ju (J.map (·.2)) row ts.length) λx hx=>(hdo x hx).2.2;refine⟨_,_,f8 (SqL.of e4),f8 (SqL.of (s4 _ _ e3)),sh,sh,?_⟩;rw[Pf sh];exact q H4 (s3.trans s4)
theorem T9{J:List (List Bool)}(h:1<=J.length)(n:Nat):∃k∈J,k.getD n false=zk J n:=by
 cases hm:zk J n with
 |true =>
  have h1:(J.length:Int)<2*((we J n).length:Int):=yQ hm;have h2:0<(we J n).length:=by lia
  obtain⟨k,hk⟩:=List.exists_mem_of_length_pos h2;exact⟨k,(xP.mp hk).1,(xP.mp hk).2⟩
 |false =>
  have h1:¬(J.length:Int)<2*((we J n).length:Int):=sZ hm;refine xJ λeQ=>?_;have h2:we J n=J:=tM.mpr λk hk=>by
   cases aW:k.getD n false with
   |true=>rfl
   |false=>exact absurd ⟨k,hk,aW⟩ eQ
  rw[h2]at h1;lia
theorem M0{R J:List (List Bool)}{tk ps:List (Nat×Bool)}{n:Nat}(hJ:1<=J.length)(Cd:∀k∈J,k∈R)(hp:ps.Perm tk)(ht:yl R (zk J) tk n=!zk J n):1<=(yj R [(n,zk J n)] ps ps).length:=by
 obtain⟨k0,qV,e0⟩:=T9 hJ n;have BY:(R.any λk=>agr k (ps++[(n,zk J n)]))=false:=by
  unfold yl at ht;cases hb:(R.any λk=>agr k (ps++[(n,zk J n)]))with
  |false=>rfl
  |true =>
   obtain⟨k,hk,ha⟩:=yD.mp hb;have h1:(R.any λk=>agr k (tk++[(n,zk J n)]))=true:=yD.mpr ⟨k,hk,bx (λq hq=>by
    rcases zK.mp hq with hq|hq
    ·exact xO _ (hp.mem_iff.mpr hq)
    ·exact yP _ hq) ha⟩
   rw[yV h1]at ht;cases hs:zk J n<;>rw[hs]at ht<;>cases ht
 have eQ:=dn ps ps BY;generalize yj R [(n,zk J n)] ps ps=N at eQ;cases N with
 |nil =>
  have:(R.any λk=>agr k ([]++[(n,zk J n)]))=true:=yD.mpr ⟨k0,Cd k0 qV,by
   show(k0.getD n false==zk J n&&true)=true;rw[e0,uQ]
   rfl⟩
  rw[this]at eQ;cases eQ
 |cons p N=>exact Nat.succ_le_succ (yR _)
def Hc(R J:List (List Bool))(ord:List Nat)(n:Nat)(x:Str):Prop:=∃k,ord[k]?=some n /\
 ((yl R (zk J) (zf R (zk J) (ord.take k)) n=zk J n/\x=jTx (yq J n (zk J n) J.length)) \/(yl R (zk J) (zf R (zk J) (ord.take k)) n=!zk J n/\∃ps:List (Nat×Bool),ps.Perm (zf R (zk J) (ord.take k))/\ps.Pairwise (λa b=>a.1<b.1)/\x=pTx (yj R [(n,zk J n)] ps ps)))
def Sb(K:W.Frag):Sp:=λvs H Q _=>∃(b j d o:Addr)(us:List V)(ts:List Say)(xs ls zs:List Str)(row:List Bool)(R J:List (Addr×List Bool))(ord:List Nat),vs=[.str (Txt.join (Str.ofString "\n") ls),.ref b,.ref j,.ref d,.ref o]/\SqT K H b us/\SaysAt K H us ts/\Lst ts xs/\(∀x∈xs,NL x)/\JudgesAt K H j J ts.length/\(∀r∈J,r.2∈R.map (·.2))/\H d=some (.lst (R.map λr=>V.ref r.1))/\(∀r∈R,SqT K H r.1 (r.2.map V.bl))/\(∀r∈R,r.2.length=ts.length)/\1<=R.length/\R.length<=32/\SqT K H o (ord.map λn=>V.int ((n:Nat):Int))/\ord.Nodup/\(∀n,n∈ord↔n<ts.length)/\row.length=ts.length/\RI0 ord ts.length (R.map (·.2)) (J.map (·.2)) row /\
 zs.length=ts.length/\(∀(n:Nat) z,zs[n]?=some z->Hc (R.map (·.2)) (J.map (·.2)) ord n z/\z.length<=1000/\NL z)/\pj row ts zs ls/\∀H',Same H H'->Q (.bl true) H'
theorem M5(D:Def K mg "_law_by_order" (top 77) ["_law_found","_law_sayings","_law_judges","_law_fit","_law_order_here"])(mM:zy P w K mg base 2 "_law_taken" ["_law_fit","_law_judges","_law_order_here"] (Ws K))(dS:zy P w K mg base 42 "_law_lines" ["_law_found","_law_sayings","_law_row_here"] (fb K))(aN:zy P w K mg base 1 "_law_most_of" ["_law_judges","_law_number"] (qi K))(cC:zy P w K mg base 1 "_law_sayers" ["_law_judges","_law_number","_law_truth"] (ef K))(gB:zy P w K mg base 2 "_law_follows_so" ["_law_line","_law_fit","_law_row_here","_law_number","_law_ahead"] (Sc K))(aB:mg "len"=none)(aA:mg "range"=none):zy P w K mg base 43 "_law_by_order" ["_law_found","_law_sayings","_law_judges","_law_fit","_law_order_here"] (Sb K):=by
 refine D.callee (N:=["_law_found","_law_sayings","_law_judges","_law_fit","_law_order_here","_law_row_here","_law_lines_here","_law_at","_law_number"]) (by walk_at"sc") (by walk_at"ln") λf cdv A outer s H vs Q E hr nd h=>?_;obtain⟨b,j,d,o,us,ts,xs,ls,zs,row,R,J,ord,rfl,hb,hT,hL,nI,hJ,Cd,hd,hR,iL,oU,Bl,ho,cZ,iS,kK,lV,BH,hz,qT,q⟩:=h;have lK:=hL.hi;have Bj:=hJ.hi;have lW:ord.length=ts.length:=by
  have h1:ord.Perm (List.range ts.length):=(vF cZ vI).mpr λn=>by rw[iS,yH]
  rw[h1.length_eq,xY]
 refine⟨[some (.str (Txt.join (Str.ofString "\n") ls)),some (.ref b),some (.ref j),some (.ref d),some (.ref o),none,none,none,none],_,rfl,(z5 (zn 5 nd (zw mM hr (by lia) (z9 (z8 3) (z9 (z8 2) (z9 (z8 4) z6)))))
  (z5 (zn 6 nd (zw dS hr (by lia) (z9 (z8 0) (z9 (z8 1) (z9 (z8 5) z6)))))
  (z5 (y6 (zg Qf (z8 6) qu (zi _)) (z4 (zv wn)) zm)
  (z5 (xq yM rfl (yp rfl aA (z9 (zq yi rfl aB yy (z9 (z8 4) z6)) z6)) (wo 7 nd) (z5 (zn 8 nd (zd (z8 4) (z8 7) (λ_ _=>rfl)))
  (z4 (y6 (zg (w6 hr.units) (zd (z8 5) (z8 8) (λ_ _=>rfl)) (zw aN hr (by lia) (z9 (z8 2) (z9 (z8 8) z6))) (zi _)) (z4 (y6 (zg (di hr.units) (zd (z8 6) (z8 8) (λ_ _=>rfl)) (zw cC hr (by lia) (z9 (z8 2) (z9 (z8 8) (z9 (zd (z8 5) (z8 8) (λ_ _=>rfl)) z6)))) (zi _)) (z4 (zv wn)) zm)) (z4 (y6 (u5 (vv (zw gB hr (by lia) (z9 (zd (z8 6) (z8 8) (λ_ _=>rfl)) (z9 (z8 3) (z9 (z8 5) (z9 (z8 8) (z9 (xz (z8 4) x9 (xf (z8 7))) z6)))))))) (z4 (zv wn)) zm))))))
  (z4 (zv wn)))))),?_⟩
 walk_at"rp";refine⟨d,j,o,R,J,ts.length,ord,rfl,hd,hR,iL,oU,Bl,hJ,ho,λn hn=>(iS n).mp hn,λr H1 s1 gH Aj=>?_⟩;have hri':=Mb Aj iS (iL r gH);have er:=Oq cZ hri' lV (iL r gH) kK;have lP:SqT K H r.1 (row.map V.bl):=by rw[<-er];exact hR r gH
 walk_at"rp";refine⟨b,r.1,us,ts,xs,zs,ls,row,rfl,(z7 s1).sqT hb,hT.mono (z7 s1),hL,nI,(z7 s1).sqT lP,kK,BH,λn z h=>(hz n z h).2,qT,λD2 H2 s2 n2 e2=>?_⟩;generalize Txt.join (Str.ofString "\n") ls=tx at *;have oH:=s1.trans s2;walk_at"rp";refine⟨trivial,?_⟩
 try rw[yO (λz:V.ref D2=V.non=>by cases z)]
 walk_at"rp";refine⟨_,.inr ((z7 oH).sqT ho),?_⟩;rw[zY,lW];refine⟨⟨by lia,by lia⟩,?_⟩;rw[yW];refine w4 (λi σ H3=>(∃x7 x8,σ=[some (.str tx),some (.ref b),some (.ref j),some (.ref d),some (.ref o),some (.ref r.1),some (.ref D2),x7,x8])/\Same H2 H3) ⟨⟨none,none,rfl⟩,Same.refl _⟩ ?_ ?_
 ·rintro i σ H3 hi ⟨⟨x7,x8,rfl⟩,s3⟩;have C1:=oH.trans s3;have hc:ord[i]?=some ord[i]:=zS (by lia);generalize ord[i]=n at hc;have mQ:n<ts.length:=(iS n).mp (zN hc);have hbn:row.getD n false=yl (R.map (·.2)) (zk (J.map (·.2))) (zf (R.map (·.2)) (zk (J.map (·.2))) (ord.take i)) n:=by
   refine j7 (by rw[xw];exact cZ) (lV n _ ?_) (Y7 hc);rw[zS (by lia:n<row.length)];simp[show n<row.length by lia]
  have hrn:row[n]?=some (row.getD n false):=by rw[yZ,zS (by lia:n<row.length)];rfl
  have hzn:zs[n]?=some zs[n]:=zS (by lia);obtain⟨⟨k,hk,hrk⟩,iP,oK⟩:=hz n _ hzn;generalize zs[n]=z at hzn hrk iP oK;have eik:k=i:=Qk cZ hk hc;subst eik;have Ef:atI (zs.map V.str) (n:Int)=some (V.str z):=yf (by rw[zT,hzn];rfl);walk_at"rp";rw[wJ];refine⟨_,_,.inr ((z7 C1).sqT ho),yf (by rw[zT,hc];rfl),?_⟩;walk_at"rp";refine⟨_,_,.inr ((z7 C1).sqT lP),wf (by lia),?_⟩;walk_at"rp";refine⟨j,J,ts.length,n,rfl,hJ.mono (z7 C1),mQ,λH4 s4=>?_⟩;have qB:=s3.trans s4;have s04:=C1.trans s4;walk_at"rp";rcases hrk with⟨htk,rfl⟩|⟨htk,ps,hpp,qR,rfl⟩
  ·rw[yU (hbn.trans htk)];walk_at"rp";refine⟨_,_,.inl (SqL.of (qB _ _ e2)),Ef,?_⟩;walk_at"rp";refine⟨_,_,.inr ((z7 s04).sqT lP),wf (by lia),?_⟩;walk_at"rp";refine⟨j,J,ts.length,n,_,rfl,hJ.mono (z7 s04),mQ,λH5 s5=>?_⟩;walk_at"rp";rw[hbn.trans htk,yU rfl];walk_at"rp";exact⟨⟨_,_,rfl⟩,qB.trans s5⟩
  ·have aZ:¬row.getD n false=zk (J.map (·.2)) n:=λz=>by
    rw[hbn,htk]at z;cases hs:zk (J.map (·.2)) n<;>rw[hs]at z<;>cases z
   rw[yO aZ];walk_at"rp";refine⟨_,_,.inl (SqL.of (qB _ _ e2)),Ef,?_⟩;walk_at"rp";refine .inr ⟨_,(z7 s04).sqT ho,λp1 H5 s5 h5=>?_⟩;rw[tp _ (by lia),yW,<-List.map_take]at h5;have Ao:=s04.trans s5;obtain⟨hy,eQ⟩:=Ub hpp qR htk;have hnl':=kn (R.map (·.2)) [(n,zk (J.map (·.2)) n)] ps ps;have hne1:=M0 (R:=R.map (·.2)) (J:=J.map (·.2)) (by rw[zY];exact hJ.lo) (λk hk=>by
    obtain⟨r,hr,rfl⟩:=zD.mp hk;exact Cd r hr) hpp htk
   have bL:ps.length<=10:=by
    rw[hpp.length_eq,mm,yS];lia
   have hnb:=uw (R.map (·.2)) [(n,zk (J.map (·.2)) n)] ps ps;have lZ:∀p∈yj (R.map (·.2)) [(n,zk (J.map (·.2)) n)] ps ps,p.1∈ord.take k/\row[p.1]?=some p.2:=λp hp=>by
    have h1:=hpp.mem_iff.mp (hnb p hp);have h2:p.1∈(zf (R.map (·.2)) (zk (J.map (·.2))) (ord.take k)).map (·.1):=zD.mpr ⟨p,h1,rfl⟩;rw[xw]at h2;have h3:=(iS p.1).mp (wZ h2);have h4:row[p.1]?=some row[p.1]:=zS (by lia);have h5:=qy ord.length (by lia) (zU _) _ h1;rw[zB]at h5;refine⟨h2,h4.trans (xK some (j7 (by rw[xw];exact cZ) (lV p.1 _ h4) h5))⟩
   walk_at"rp";refine⟨d,r.1,p1,_,R,row,ord.take k,n,!zk (J.map (·.2)) n,rfl,Ao _ _ hd,λx hx=>(z7 Ao).sqT (hR x hx),λx hx=>by rw[iL x hx,kK],Bl,(z7 Ao).sqT lP,h5,by lia,by rw[hrn,hbn,htk],hne1,by lia,by lia,by rw[yS];lia,cZ.sublist (uB _ _),λm hm=>by rw[kK];exact(iS m).mp (wZ hm),o9 ps ps qR,lZ,hy,eQ,λH6 s6=>?_⟩;walk_at"rp";exact⟨⟨_,_,rfl⟩,qB.trans (s5.trans s6)⟩
 ·rintro σ H3 ⟨⟨x7,x8,rfl⟩,s3⟩;walk_at"rp";exact q H3 (oH.trans s3)
def eh(K:W.Frag)(n:Nat):Sp:=λvs H Q _=>∃(v:V)(h:Addr)(s:Say)(hs:List Str),vs=[v,.ref h]/\SayAt K H v s/\s.pieces<=n/\SqT K H h (hs.map V.str)/\∀H',Same H H'->Q (.bl (s.so hs)) H'
theorem ag(D:Def K mg "_law_so" (top 54) ["_law_saying_here","_law_held_here"])(aV:mg "min"=none)(lI:mg "max"=none):∀n:Nat,zy P w K mg base n "_law_so" ["_law_saying_here","_law_held_here"] (eh K n)
 |0=>xm D λvs H Q E h=>by
  obtain⟨v,h,s,hs,_,_,hp,_⟩:=h;exact absurd s.pieces_pos (by lia)
 |n+1=>by
  have kA:=ag D aV lI n;refine D.callee (N:=["_law_saying_here","_law_held_here","_law_truths"]) (by walk_at"sc") (by walk_at"ln") λf cdv A outer s H vs Q E hr nd h=>?_;obtain⟨v,h,s,hs,rfl,hv,hp,hh,q⟩:=h;refine⟨[some v,some (.ref h),none],_,rfl,(z5 (y6 (zg (w6 hr.units) (zd (z8 0) zz (λ_ _=>rfl)) zp (zi _)) (z4 (zv (uq Gq (zd (z8 0) zz (λ_ _=>rfl)) (z8 1) (by with_unfolding_all rfl)))) zm)
  (z5 (ye 2 nd (ixs:=[1]) (zo (own:=["_law_part_here"]) (N:=["_law_held_here"]) rfl rfl rfl rfl rfl rfl rfl (by decide +kernel) rfl rfl rfl) rfl (yw (xz (z8 0) (xf zz) x9)) (λ_ _ _ _=>yu) (λ_ _ _ _=>(zw kA hr (by lia) (z9 (z8 0) (z9 (z8 1) z6)))) rfl)
  (z5 (y6 (zg (w6 hr.units) (zd (z8 0) zz (λ_ _=>rfl)) zp (zi _)) (z4 (zv (Z4 (zd (z8 2) zz (λ_ _=>rfl))))) zm)
  (z5 (y6 (zg (w6 hr.units) (zd (z8 0) zz (λ_ _=>rfl)) zp (zi _)) (z4 (zv (zq (Lx rfl) rfl aV cf (z9 (z8 2) z6)))) zm)
  (z5 (y6 (zg (w6 hr.units) (zd (z8 0) zz (λ_ _=>rfl)) zp (zi _)) (z4 (zv (zq (Gw rfl) rfl lI I0 (z9 (z8 2) z6)))) zm)
  (z4 (zv (uq Fe (zd (z8 2) zz (λ_ _=>rfl)) (zd (z8 2) zz (λ_ _=>rfl)) (zi _))))))))),?_⟩
  have nM:∀{te:TE}{p:Addr}{H1:Hp}{us:List V}{ts:List Say}{Q':VK},(∀v H Q,te [some v,some (.ref h)] H Q=eh K n [v,.ref h] H Q E0)->Same H H1->SqT K H1 p us->us.length=ts.length->us.length<=10->(∀(i:Nat) u,us[i]?=some u->∃t,ts[i]?=some t/\SayAt K H1 u t/\t.pieces<=n) ->
    (∀D H2,Same H H2->H2 D=some (.lst ((ts.map λt=>t.so hs).map V.bl))->Q' (.ref D) H2)->vt 1 (mG 0) mi te [some (.ref h)] (Itt K p) Q' H1:=by
   intro te p H1 us ts Q' hte s1 mP hl hl10 hu q';refine vc (xs:=us) (λD i ys H'=>ys=((ts.take i).map λt=>t.so hs).map V.bl/\i<=us.length/\H' D=some (.lst ys)/\Same H1 H'/\H1 D=none) (xu (by lia)) ?_ ?_ ?_ ?_
   ·intro D H2 nn s2 e2;exact⟨rfl,yR _,e2,s2,nn⟩
   ·rintro D i ys H' ⟨rfl,hi,e,s2,_⟩;exact⟨(z7 s2).sqT mP,e,by simp;lia⟩
   ·rintro D i v ys H' hv ⟨rfl,hi,e,s2,n2⟩;obtain⟨t,ht,sv,pc⟩:=hu i v hv;rw[hte];refine⟨v,h,t,hs,rfl,sv.mono (z7 s2),pc,(z7 (s1.trans s2)).sqT hh,λH3 s3=>⟨s3 _ _ e,CN.mk ?_ ⟨?_,?_,zx,zu (s2.trans s3) n2 _,n2⟩⟩⟩
    ·exact(zW.mp hv).1
    ·rw[yY,ht];simp
    ·exact(zW.mp hv).1
   ·rintro D ys H' ⟨rfl,hi,e,s2,n2⟩;rw[hl,zB]at e;exact q' D H' (s1.trans s2) e
  cases s with
  |letter x =>
   obtain⟨a,rfl,ha⟩:=hv;walk_at"rp";refine⟨_,_,.inr ha,rfl,?_⟩;walk_at"rp";refine⟨_,_,.inr ha,rfl,?_⟩;refine⟨_,.inr hh,rfl,Zi hs,?_⟩;rw[Vu];exact q H (Same.refl H)
  |neg t =>
   obtain⟨a,u,rfl,ha,ht⟩:=hv;walk_at"rp";refine⟨_,_,.inr ha,rfl,?_⟩;walk_at"rp";refine .inr ⟨_,ha,λp H1 s1 h1=>.inr ⟨⟨_,h1⟩,λC s₀ H₀ ex=>?_⟩⟩;refine nM (us:=[u]) (ts:=[t]) (λ_ _ _=>rfl) s1 h1 rfl (by simp) (λi x hx=>?_) λD H2 s2 e2=>?_
   ·match i,hx with
    |0,hx =>
     cases hx;exact⟨t,rfl,ht.mono (z7 s1),by have:=hp;simp only[Say.pieces]at this;lia⟩
    |i+1,hx=>simp at hx
   ·have lQ:=(z7 s2).sqT ha;refine⟨_,_,.inr lQ,rfl,?_⟩;walk_at"rp";refine⟨_,_,.inl (SqL.of e2),rfl,?_⟩;exact q H2 s2
  |bin o t t' =>
   obtain⟨a,u,u',rfl,ha,ht,As⟩:=hv;have p1:t.pieces<=n/\t'.pieces<=n:=by have:=hp;simp only[Say.pieces]at this;lia
   have hu:∀{H1:Hp},Same H H1->∀(i:Nat) x,[u,u'][i]?=some x->∃r,[t,t'][i]?=some r/\SayAt K H1 x r/\r.pieces<=n:=λs1 i x hx=>by
    match i,hx with
    |0,hx =>
     cases hx;exact⟨t,rfl,ht.mono (z7 s1),p1.1⟩
    |1,hx =>
     cases hx;exact⟨t',rfl,As.mono (z7 s1),p1.2⟩
    |i+2,hx=>simp at hx
   cases o with
   |con =>
    dsimp only[Op2.word]at ha;walk_at"rp";refine⟨_,_,.inr ha,rfl,?_⟩;walk_at"rp";refine .inr ⟨_,ha,λp H1 s1 h1=>.inr ⟨⟨_,h1⟩,λC s₀ H₀ ex=>?_⟩⟩;refine nM (us:=[u,u']) (ts:=[t,t']) (λ_ _ _=>rfl) s1 h1 rfl (by simp) (hu s1) λD H2 s2 e2=>?_;have lQ:=(z7 s2).sqT ha;refine⟨_,_,.inr lQ,rfl,?_⟩;walk_at"rp";refine⟨_,_,.inr lQ,rfl,?_⟩;walk_at"rp";refine⟨_,SqL.of e2,by simp,?_⟩;have:=q H2 s2;simpa[Say.so,Op2.so]using this
   |dis =>
    dsimp only[Op2.word]at ha;walk_at"rp";refine⟨_,_,.inr ha,rfl,?_⟩;walk_at"rp";refine .inr ⟨_,ha,λp H1 s1 h1=>.inr ⟨⟨_,h1⟩,λC s₀ H₀ ex=>?_⟩⟩;refine nM (us:=[u,u']) (ts:=[t,t']) (λ_ _ _=>rfl) s1 h1 rfl (by simp) (hu s1) λD H2 s2 e2=>?_;have lQ:=(z7 s2).sqT ha;refine⟨_,_,.inr lQ,rfl,?_⟩;walk_at"rp";refine⟨_,_,.inr lQ,rfl,?_⟩;walk_at"rp";refine⟨_,_,.inr lQ,rfl,?_⟩;walk_at"rp";refine⟨_,SqL.of e2,by simp,?_⟩;have:=q H2 s2;simpa[Say.so,Op2.so]using this
   |imp =>
    dsimp only[Op2.word]at ha;walk_at"rp";refine⟨_,_,.inr ha,rfl,?_⟩;walk_at"rp";refine .inr ⟨_,ha,λp H1 s1 h1=>.inr ⟨⟨_,h1⟩,λC s₀ H₀ ex=>?_⟩⟩;refine nM (us:=[u,u']) (ts:=[t,t']) (λ_ _ _=>rfl) s1 h1 rfl (by simp) (hu s1) λD H2 s2 e2=>?_;have lQ:=(z7 s2).sqT ha;refine⟨_,_,.inr lQ,rfl,?_⟩;walk_at"rp";refine⟨_,_,.inr lQ,rfl,?_⟩;walk_at"rp";refine⟨_,_,.inr lQ,rfl,?_⟩;walk_at"rp";refine⟨_,_,.inl (SqL.of e2),rfl,?_⟩;refine⟨_,_,.inl (SqL.of e2),rfl,?_⟩;exact q H2 s2
def Sf(K:W.Frag):Sp:=λvs H Q _=>∃(n:Int)(b:Addr)(xs:List Str),vs=[.int n,.ref b]/\(SqL K H b (xs.map V.str)\/SqT K H b (xs.map V.str))/\xs.length<=100/\∀(r:Addr)(H':Hp),Same H H'->SqT K H' r ((yz n xs).map V.str)->Q (.ref r) H'
theorem Na(D:Def K mg "_law_held" (top 55) ["_law_number","_law_names_here"])(aC:mg "tuple"=none):zy P w K mg base 1 "_law_held" ["_law_number","_law_names_here"] (Sf K):=by
 refine D.callee (N:=["_law_number","_law_names_here","_law_held_here","_law_name"]) (by walk_at"sc") (by walk_at"ln") λf cdv A outer s H vs Q E hr nd h=>?_;obtain⟨n,b,xs,rfl,hb,hx,q⟩:=h;refine⟨[some (.int n),some (.ref b),none,none],_,rfl,(z5 (zn 2 nd (wa z6))
  (z5 (xq yM rfl (yw (z8 1)) (wo 3 nd) (z5 (y6 (zg (w6 hr.units) (zt ue (z8 0) zz) zz (zi _)) (z4 (v6 (kh wT wS kg (z8 2) (z9 (z8 3) z6)))) zm)
  (z4 (zn 0 nd (zt Xw (z8 0) zz)))))
  (z4 (zv (ze yg rfl aC yo (z9 (z8 2) z6)))))),?_⟩
 walk_at"rp";refine⟨xu (by simp),λp H1 n1 s1 e1=>?_⟩;have aH:(xs.map V.str).length=xs.length:=zY _;have Ea:∃(m:Int)(aG:List Str)(nv:Option V),([some (V.int n),some (V.ref b),some (V.ref p),none]:List (Option V))=[some (.int m),some (.ref b),some (.ref p),nv]/\aG++yz m (xs.drop 0)=yz n xs/\H1 p=some (.lst (aG.map V.str))/\Same H H1/\aG.length<=0 :=
  ⟨n,[],none,rfl,rfl,e1,s1,zU _⟩
 have aU:∀(σ:L2.St)(H2:Hp),(∃(m:Int)(aG:List Str)(nv:Option V),σ=[some (.int m),some (.ref b),some (.ref p),nv]/\aG++yz m (xs.drop (xs.map V.str).length)=yz n xs/\H2 p=some (.lst (aG.map V.str))/\Same H H2/\aG.length<=(xs.map V.str).length) ->
   H2 p=some (.lst ((yz n xs).map V.str))/\Same H H2/\gv σ 2=some (.ref p):=by
  rintro σ H2 ⟨m,aG,nv,rfl,e,ep,s2,_⟩;rw[aH,sF]at e;have e':aG=yz n xs:=by simpa[yz]using e
  rw[<-e'];exact⟨ep,s2,rfl⟩
 have qL:∀(σ:L2.St)(H2:Hp),(∃(m:Int)(aG:List Str)(nv:Option V),σ=[some (.int m),some (.ref b),some (.ref p),nv]/\aG++yz m (xs.drop (xs.map V.str).length)=yz n xs/\H2 p=some (.lst (aG.map V.str))/\Same H H2/\aG.length<=(xs.map V.str).length) ->
   ∃ys,(SqL K H2 p ys\/SqT K H2 p ys)/\∀(r:Addr)(H':Hp),Same H2 H'->SqT K H' r ys->Q (.ref r) H':=by
  intro σ H2 h;obtain⟨ep,s2,_⟩:=aU σ H2 h;exact⟨_,.inl (SqL.of ep),λr H' s3 hr=>q r H' (s2.trans s3) hr⟩
 have step:∀(i:Nat)(x:V),(xs.map V.str)[i]?=some x->∃y,x = .str y/\i<xs.length/\xs.drop i=y::xs.drop (i+1):=by
  intro i x hx;rw[zT]at hx;cases e:xs[i]? with
  |none=>rw[e]at hx;cases hx
  |some y =>
   rw[e]at hx;obtain⟨hi,ey⟩:=zW.mp e;exact⟨y,(yX hx).symm,hi,by rw[List.drop_eq_getElem_cons hi,ey]⟩
 rcases hb with hb|hb
 ·refine .inl ⟨⟨_,s1.seq hb⟩,vm (xs:=xs.map V.str) (λi σ H2=>∃(m:Int)(aG:List Str)(nv:Option V),σ=[some (.int m),some (.ref b),some (.ref p),nv]/\aG++yz m (xs.drop i)=yz n xs/\H2 p=some (.lst (aG.map V.str))/\Same H H2/\aG.length<=i) Ea ?_ ?_ ?_⟩
  ·rintro i σ H2 _ ⟨m,aG,nv,rfl,e,ep,s2,_⟩;exact s2.seq hb
  ·rintro i x σ H2 lU ⟨m,aG,nv,rfl,e,ep,s2,ha⟩;obtain⟨y,rfl,hi,ed⟩:=step i x lU;rw[ed]at e;walk_at"rp";refine⟨by decide,vp (λc=>?_) (λc=>?_)⟩
   ·have c':m % 2=1:=yQ c;rw[yz,yV c']at e;refine⟨⟨_,_,rfl,ep⟩,_,ep,by rw[zY];exact vn (by lia),⟨by decide,by decide⟩,m / 2,aG++[y],_,rfl,by rw[wM];exact e,by rw[zx,zJ];rfl,zu s2 n1 _,by rw[zP,xF];lia⟩
   ·have c':¬m % 2=1:=λz=>c (yU z);rw[yz,zC c']at e;exact⟨⟨by decide,by decide⟩,m / 2,aG,_,rfl,e,ep,s2,by lia⟩
  ·intro σ H2 h;obtain⟨m,aG,nv,rfl,_⟩:=id h;walk_at"rp";exact qL _ H2 h
 ·refine .inr ⟨⟨_,(z7 s1).sqT hb⟩,xh (xs:=xs.map V.str) (λi σ H2=>∃(m:Int)(aG:List Str)(nv:Option V),σ=[some (.int m),some (.ref b),some (.ref p),nv]/\aG++yz m (xs.drop i)=yz n xs/\H2 p=some (.lst (aG.map V.str))/\Same H H2/\aG.length<=i) Ea ?_ ?_ ?_⟩
  ·rintro i σ H2 _ ⟨m,aG,nv,rfl,e,ep,s2,_⟩;exact(z7 s2).sqT hb
  ·rintro i x σ H2 lU ⟨m,aG,nv,rfl,e,ep,s2,ha⟩;obtain⟨y,rfl,hi,ed⟩:=step i x lU;rw[ed]at e;walk_at"rp";refine⟨by decide,vp (λc=>?_) (λc=>?_)⟩
   ·have c':m % 2=1:=yQ c;rw[yz,yV c']at e;refine⟨⟨_,_,rfl,ep⟩,_,ep,by rw[zY];exact vn (by lia),⟨by decide,by decide⟩,m / 2,aG++[y],_,rfl,by rw[wM];exact e,by rw[zx,zJ];rfl,zu s2 n1 _,by rw[zP,xF];lia⟩
   ·have c':¬m % 2=1:=λz=>c (yU z);rw[yz,zC c']at e;exact⟨⟨by decide,by decide⟩,m / 2,aG,_,rfl,e,ep,s2,by lia⟩
  ·intro σ H2 h;obtain⟨m,aG,nv,rfl,_⟩:=id h;walk_at"rp";exact qL _ H2 h
def bh(K:W.Frag)(n:Nat):Sp:=λvs H Q _=>∃(v:V)(s:Say),vs=[v]/\SayAt K H v s/\s.pieces<=n/\s.pieces<=1000/\∀(p:Addr)(H':Hp),H p=none->Same H H'->H' p=some (.lst (s.letters.map V.str))->Q (.ref p) H'
theorem gq(D:Def K mg "_law_within" (top 56) ["_law_saying_here"]):∀n:Nat,zy P w K mg base n "_law_within" ["_law_saying_here"] (bh K n)
 |0=>xm D λvs H Q E h=>by
  obtain⟨v,s,_,_,hp,_⟩:=h;exact absurd s.pieces_pos (by lia)
 |n+1=>by
  have cB:=gq D n;refine D.callee (N:=["_law_saying_here","_law_found","_law_part_here"]) (by walk_at"sc") (by walk_at"ln") λf cdv A outer s H vs Q E hr nd h=>?_;obtain⟨v,s,rfl,hv,hp,iK,q⟩:=h;refine⟨[some v,none,none],_,rfl,(z5 (y6 (zg (w6 hr.units) (zd (z8 0) zz (λ_ _=>rfl)) zp (zi _)) (z4 (zv (wa (z9 (zd (z8 0) zz (λ_ _=>rfl)) z6)))) zm)
  (z5 (zn 1 nd (wa z6))
  (z5 (xq yM rfl (yw (xz (z8 0) (xf zz) x9)) (wo 2 nd) (z4 (zn 1 nd (zt zj (z8 1) (zw cB hr (by lia) (z9 (z8 2) z6))))))
  (z4 (zv (z8 1)))))),?_⟩
  by_cases hs:s.subs=[]
  ·cases s with
   |letter x =>
    obtain⟨a,rfl,ha⟩:=hv;walk_at"rp";refine⟨_,_,.inr ha,rfl,?_⟩;walk_at"rp";refine⟨_,_,.inr ha,rfl,?_⟩;walk_at"rp";exact⟨xu (by simp),λp H1 n1 s1 e1=>q p H1 n1 s1 e1⟩
   |neg t=>simp[Say.subs]at hs
   |bin o t t'=>simp[Say.subs]at hs
  ·obtain⟨a,wd,us,rfl,ha,hw,hl,kL,hu⟩:=am hv hs;walk_at"rp";refine⟨_,_,.inr ha,ce _ _,?_⟩;walk_at"rp";rw[hw];walk_at"rp";refine⟨xu (by simp),λr H0 n0 s0 e0=>?_⟩;refine .inr ⟨_,(z7 s0).sqT ha,λp H1 s1 h1=>.inr ⟨⟨_,h1⟩,?_⟩⟩;rw[jt]at h1;refine xh (xs:=us) (λi σ H2=>∃(r:Addr)(iv:Option V),σ=[some (.ref a),some (.ref r),iv]/\H r=none/\H2 r=some (.lst ((((s.subs.take i).map Say.letters).flatten).map V.str))/\Same H H2/\Same H1 H2/\i<=us.length) ⟨r,none,rfl,n0,s1 _ _ e0,s0.trans s1,Same.refl _,yR _⟩ ?_ ?_ ?_
   ·rintro i σ H2 _ ⟨r,iv,rfl,_,_,_,s2,_⟩;exact(z7 s2).sqT h1
   ·rintro i x σ H2 hx ⟨r,iv,rfl,nr,e2,s2,s2',hi⟩;obtain⟨t,ht,sv,pc⟩:=hu i x hx;walk_at"rp";refine⟨x,t,rfl,sv.mono (z7 s2),by lia,by lia,λz H3 n3 s3 e3=>?_⟩;walk_at"rp";have b1:=jw (s.subs.take i);have b2:=ml Say.pieces s.subs i;have b3:=ot s;have b4:=yb t;refine .inl ⟨_,_,s3 _ _ e2,e3,by rw[zY,zY,zM];lia,λr2 H4 n4 s4 e4=>⟨r2,some x,rfl,y9 (s2.trans s3) n4,?_,s2.trans (s3.trans s4),s2'.trans (s3.trans s4),(zW.mp hx).1⟩⟩;rw[e4,yY,ht];simp
   ·rintro σ H2 ⟨r,iv,rfl,nr,e2,s2,_,_⟩;walk_at"rp";rw[hl,zB,<-qj hs]at e2;exact q r H2 nr s2 e2
def lz(K:W.Frag):Sp:=λvs H Q _=>∃(a:Addr)(us:List V)(ts:List Say)(xs:List Str),vs=[.ref a]/\SqT K H a us/\SaysAt K H us ts/\Lst ts xs/\∀(p:Addr)(H':Hp)(ss:List Str),H p=none->Same H H'->H' p=some (.lst (ss.map V.str))->NamesOf ts ss->Q (.ref p) H'
theorem ab(D:Def K mg "_law_all_names" (top 57) ["_law_sayings"])(cB:zy P w K mg base 40 "_law_within" ["_law_saying_here"] (bh K 40))(aF:mg "sorted"=none)(aQ:mg "set"=none):zy P w K mg base 41 "_law_all_names" ["_law_sayings"] (lz K):=by
 refine D.callee (N:=["_law_sayings","_law_found","_law_saying_here"]) (by walk_at"sc") (by walk_at"ln") λf cdv A outer s H vs Q E hr nd h=>?_;obtain⟨a,us,ts,xs,rfl,ha,hS,hL,q⟩:=h;have hl:=hS.len;refine⟨[some (.ref a),none,none],_,rfl,(z5 (zn 1 nd (wa z6))
  (z5 (xq yM rfl (yw (z8 0)) (wo 2 nd) (z4 (zn 1 nd (zt zj (z8 1) (zw cB hr (by lia) (z9 (z8 2) z6))))))
  (z4 (zv (v4 rfl hr.units rfl aF rfl aQ (z8 1)))))),?_⟩
 walk_at"rp";refine⟨xu (by simp),λr H1 n1 s1 e1=>?_⟩;refine .inr ⟨⟨_,(z7 s1).sqT ha⟩,xh (xs:=us) (λi σ H2=>∃(r:Addr)(iv:Option V),σ=[some (.ref a),some (.ref r),iv]/\H2 r=some (.lst ((rj (ts.take i)).map V.str))/\Same H H2) ⟨r,none,rfl,e1,s1⟩ ?_ ?_ ?_⟩
 ·rintro i σ H2 _ ⟨r,iv,rfl,_,s2⟩;exact(z7 s2).sqT ha
 ·rintro i x σ H2 hx ⟨r,iv,rfl,e2,s2⟩;obtain⟨t,ht,sv⟩:=hS.at i x hx;have AX:=zN ht;have hi:i<us.length:=(zW.mp hx).1;have h6:=hL.hi;walk_at"rp";refine⟨x,t,rfl,sv.mono (z7 s2),hL.pc t AX,by have:=hL.pc t AX;lia,λp H3 n3 s3 e3=>?_⟩;walk_at"rp";have h1:=jm (ts.take i) λu hu=>hL.pc u (wZ hu);have h2:=yb t;have h3:=hL.pc t AX;have h4:(ts.take i).length<=6:=by rw[yS];lia
  refine .inl ⟨_,_,s3 _ _ e2,e3,by rw[zY,zY,zM];lia,λr2 H4 n4 s4 e4=>⟨r2,some x,rfl,?_,s2.trans (s3.trans s4)⟩⟩;rw[e4,fj ht,zJ]
 ·rintro σ H2 ⟨r,iv,rfl,e2,s2⟩;rw[hl,zB]at e2;have h6:=hL.hi;have h1:=jm ts hL.pc;walk_at"rp";refine .inl ⟨_,.inl (SqL.of e2),by unfold scanBound;lia,λbS hn hs=>?_,λbS hn hmm fR p H3 n3 s3 e3=>?_⟩
  ·have:=v9 hn λy hy=>hL.nm y (hs y hy);have:=hL.xl;lia
  ·exact q p H3 bS (y9 s2 n3) (s2.trans s3) e3 ⟨hn,hmm,fR⟩
def l9(K:W.Frag)(n:Nat):Sp:=λvs H Q _=>∃(a:Addr)(ns:List Int)(k m:Int)(b:Addr)(xs:List Str),vs=[.ref a,.int k,.int m,.ref b]/\SqL K H a (ns.map V.int)/\ns.length<=5000/\0<=k/\k<=10000/\1<=m/\m<=n /\
 (SqL K H b (xs.map V.str)\/SqT K H b (xs.map V.str))/\0<xs.length/\xs.length<=100/\∀(v:V)(H':Hp)(s:Say),Same H H'->SayAt K H' v s->(s.pieces:Int)<=m->(∀x∈s.letters,x∈xs)->Q v H'
theorem Rz{H H':Hp}{b:Addr}{xs:List V}(s:Same H H')(h:SqL K H b xs\/SqT K H b xs):SqL K H' b xs\/SqT K H' b xs:=h.imp s.seq (z7 s).sqT
theorem Md{xs:List Str}{k:Int}(h0:0<=k)(h:k<(xs.length:Int)):∃x:Str,x∈xs/\atI (xs.map V.str) k=some (.str x):=by
 obtain⟨v,hv,e⟩:=jo (xs:=xs.map V.str) h0 (by rw[zY];exact h);obtain⟨x,hx,rfl⟩:=zD.mp hv;exact⟨x,hx,e⟩
theorem gp(D:Def K mg "_law_saying" (top 53) ["_law_script","_law_k","_law_room","_law_names_here"])(aE:zy P w K mg base 2 "_law_pick" ["_law_script","_law_k","_law_many"] (ur K))(cD:zy P w K mg base 1 "_law_next" ["_law_k","_law_j"] Yy)(aB:mg "len"=none):
  ∀n:Nat,zy P w K mg base (n+3) "_law_saying" ["_law_script","_law_k","_law_room","_law_names_here"] (l9 K n)
 |0=>Zm (xm D λvs H Q E h=>by
  obtain⟨a,ns,k,m,b,xs,_,_,_,_,_,h1,h2,_⟩:=h;lia) (yR _)
 |n+1=>by
  have aT:=gp D aE cD aB n;refine D.callee (N:=["_law_script","_law_k","_law_room","_law_names_here","_law_way","_law_left","_law_one","_law_other"]) (by walk_at"sc") (by walk_at"ln") λf cdv A outer s H vs Q E hr nd h=>?_;obtain⟨a,ns,k,m,b,xs,rfl,hS,cI,h0,hk,hm1,hm,hb,hx0,hx,q⟩:=h;refine⟨[some (.ref a),some (.int k),some (.int m),some (.ref b),none,none,none,none],_,rfl,(z5 (zn 4 nd (zw aE hr (by lia) (z9 (z8 0) (z9 (z8 1) (z9 zz z6)))))
  (z5 (y6 (PW.pt (Wh (zg Gv (z8 2) zz (zi _)) (dv (zg (w6 hr.units) (z8 4) zz (zi _))))) (z4 (zv (wb (z9 zp (z9 (zd (z8 3) (zw aE hr (by lia) (z9 (z8 0) (z9 (zt zj (z8 1) zz) (z9 (zq yi rfl aB yy (z9 (z8 3) z6)) z6)))) (λ_ _=>rfl)) z6))))) zm)
  (z5 (y6 (PW.pt (Wh (zg (w6 hr.units) (z8 2) zz (zi _)) (dv (zg (w6 hr.units) (z8 4) zz (zi _))))) (z4 (zv (wb (z9 zp (z9 (zw aT hr (by lia) (z9 (z8 0) (z9 (zw cD hr (by lia) (z9 (z8 1) (z9 zz z6))) (z9 (zt ki (z8 2) zz) (z9 (z8 3) z6))))) z6))))) zm)
  (z5 (zn 5 nd (zt zj zz (zw aE hr (by lia) (z9 (z8 0) (z9 (zt zj (z8 1) zz) (z9 (zt ki (z8 2) zz) z6))))))
  (z5 (zn 6 nd (zw aT hr (by lia) (z9 (z8 0) (z9 (zw cD hr (by lia) (z9 (z8 1) (z9 zz z6))) (z9 (z8 5) (z9 (z8 3) z6))))))
  (z5 (zn 7 nd (zw aT hr (by lia) (z9 (z8 0) (z9 (zw cD hr (by lia) (z9 (z8 1) (z9 zz z6))) (z9 (zt ki (zt ki (z8 2) zz) (z8 5)) (z9 (z8 3) z6))))))
  (z4 (zv (wb (z9 (zd (wa (z9 zp (z9 zp (z9 zp z6)))) (zw aE hr (by lia) (z9 (z8 0) (z9 (zt zj (z8 1) zz) (z9 zz z6)))) (λ_ _=>rfl)) (z9 (z8 6) (z9 (z8 7) z6)))))))))))),?_⟩
  walk_at"rp";refine⟨a,ns,k,9,rfl,hS,cI,h0,by lia,by decide,λway _ _=>?_⟩;walk_at"rp";have letter:∃ys,(SqL K H b ys\/SqT K H b ys)/\ur K [V.ref a,V.int (k+1),V.int (ys.length:Int)] H (λy H2=>match V.ref b,y with
    |V.str z,V.int i=>z.length<=sizeLine/\∃c,atI z.cps.toList i=some c/\[V.str (Str.ofString "letter"),V.str { cps:=#[c] }].length<=sizeLine/\New H2 (HO.tup [V.str (Str.ofString "letter"),V.str { cps:=#[c] }]) Q
    |V.ref p,V.int i=>∃xs v,(SqL K H2 p xs\/SqT K H2 p xs)/\atI xs i=some v/\[V.str (Str.ofString "letter"),v].length<=sizeLine/\New H2 (HO.tup [V.str (Str.ofString "letter"),v]) Q
    |x,x_1=>False) E0:=by
   refine⟨_,hb,a,ns,k+1,_,rfl,hS,cI,by lia,by lia,by rw[zY];lia,λr r0 r1=>?_⟩;rw[zY]at r1;obtain⟨x,hx1,ex⟩:=Md (xs:=xs) r0 r1;refine⟨_,_,hb,ex,xu (by simp),λp H' n1 s1 e1=>?_⟩;refine q _ H' (.letter x) s1 ⟨p,rfl,SqT.of e1⟩ (by show((1:Nat):Int)<=m;lia) λy hy=>?_;rw[zO.mp hy];exact hx1
  have neg:2<=m->Yy [V.int k,V.int 0] H (λx H1=>l9 K n [V.ref a,x,V.int (m-1),V.ref b] H1 (λx H1=>[V.str (Str.ofString "not"),x].length<=sizeLine/\New H1 (HO.tup [V.str (Str.ofString "not"),x]) Q) E0) E0:=by
   intro CF;refine⟨k,0,rfl,h0,by lia,by decide,by decide,λr r0 r1=>?_⟩;refine⟨a,ns,r,m-1,b,xs,rfl,hS,cI,r0,by lia,by lia,by lia,hb,hx0,hx,λv H' s s1 sv pc lt=>?_⟩;refine⟨xu (by simp),λp H2 n2 s2 e2=>?_⟩;exact q _ H2 (.neg s) (s1.trans s2) ⟨p,v,rfl,SqT.of e2,sv.mono (z7 s2)⟩ (by show((s.pieces+1:Nat):Int)<=m;lia) lt
  refine vp (λ_=>letter) (λc1=>?_);refine vp (λ_=>letter) (λc2=>?_);have CF:2<=m:=by
   have:¬m<2:=λz=>c1 (yU z);lia
  refine vp (λ_=>neg CF) (λc3=>?_);refine vp (λ_=>neg CF) (λc4=>?_);have hm3:3<=m:=by
   have:¬m=2:=λz=>c3 (yU z);lia
  refine⟨a,ns,k+1,m-2,rfl,hS,cI,by lia,by lia,by lia,λl l0 l1=>?_⟩;walk_at"rp";refine⟨k,1,rfl,h0,by lia,by decide,by decide,λr r0 r1=>?_⟩;refine⟨a,ns,r,1+l,b,xs,rfl,hS,cI,r0,by lia,by lia,by lia,hb,hx0,hx,λv H1 t s1 sv pc lt=>?_⟩;refine⟨k,2,rfl,h0,by lia,by decide,by decide,λr' r0' r1'=>?_⟩;refine⟨a,ns,r',m-1-(1+l),b,xs,rfl,s1.seq hS,cI,r0',by lia,by lia,by lia,Rz s1 hb,hx0,hx,λv' H2 t' s2 sv' pc' lt'=>?_⟩;refine⟨xu (by simp),λp H3 n3 s3 e3=>?_⟩;refine⟨a,ns,k+2,3,rfl,(s1.trans (s2.trans s3)).seq hS,cI,by lia,by lia,by decide,λo o0 o3=>?_⟩;walk_at"rp";have aU:∀(op:Op2),New H3 (HO.tup [V.str op.word,v,v']) Q:=λop p4 H4 n4 s4 e4=>by
   refine q _ H4 (.bin op t t') (s1.trans (s2.trans (s3.trans s4))) ⟨p4,v,v',rfl,SqT.of e4,sv.mono (z7 (s2.trans (s3.trans s4))),sv'.mono (z7 (s3.trans s4))⟩ ?_ λx hx=>?_
   ·show((t.pieces+t'.pieces+1:Nat):Int)<=m;lia
   ·rcases zK.mp hx with z|z
    ·exact lt x z
    ·exact lt' x z
  have o':o=0\/o=1\/o=2:=by lia
  rcases o' with rfl|rfl|rfl
  ·exact⟨_,_,.inl (SqL.of e3),rfl,xu (by simp),aU .con⟩
  ·exact⟨_,_,.inl (SqL.of e3),rfl,xu (by simp),aU .dis⟩
  ·exact⟨_,_,.inl (SqL.of e3),rfl,xu (by simp),aU .imp⟩
theorem Ry{H:Hp}{b l:Addr}{xs:List V}{o:HO}(aZ:b≠l)(h:SqL K H b xs):SqL K (upd H l o) b xs:=by
 rcases h with(h|⟨o',h⟩)|h
 ·exact .inl (.inl (by rw[zh aZ];exact h))
 ·exact .inl (.inr ⟨o',by rw[zh aZ];exact h⟩)
 ·exact .inr h
theorem SaysAt.set{K:W.Frag}{H:Hp}:∀{us:List V}{ts:List Say},SaysAt K H us ts->∀(i:Nat){v:V}{t:Say},SayAt K H v t->SaysAt K H (us.set i v) (ts.set i t)
 |[],[],_,i,v,t,h=>by simp[SaysAt]
 |u::us,s::ts,hs,0,v,t,h=>⟨h,hs.2⟩
 |u::us,s::ts,hs,i+1,v,t,h=>⟨hs.1,SaysAt.set hs.2 i h⟩
 |[],_::_,h,_,_,_,_=>h.elim
 |_::_,[],h,_,_,_,_=>h.elim
def F0(ns:List Str)(ts:List Say):Prop:=∀t∈ts,t.pieces<=2/\∀x∈t.letters,x∈ns
def Sg(K:W.Frag):Sp:=λvs H Q _=>∃(a b:Addr)(ns:List Str)(bs:List Bool)(o:Op2),vs=[.ref a,.ref b,.str o.word]/\SqL K H a (ns.map V.str)/\SqL K H b (bs.map V.bl)/\bs.length=ns.length/\1<=ns.length/\ns.length<=5 /\
 ∀(v:V)(H':Hp)(t:Say),Same H H'->SayAt K H' v t->t.pieces<=15->(∀x∈t.letters,x∈ns)->Q v H'
theorem Iy{bs:List Bool}{i:Nat}(h:i<bs.length):atI (bs.map V.bl) (i:Int)=some (.bl bs[i]):=yf (by rw[zT,zS h];rfl)
theorem Nb(D:Def K mg "_law_knit" (top 58) ["_law_names_here","_law_truths","_law_word"])(aB:mg "len"=none)(aA:mg "range"=none):zy P w K mg base 1 "_law_knit" ["_law_names_here","_law_truths","_law_word"] (Sg K):=by
 refine D.callee (N:=["_law_names_here","_law_truths","_law_word","_law_parts","_law_k","_law_saying_here","_law_part_here"]) (by walk_at"sc") (by walk_at"ln") λf cdv A outer s H vs Q E hr nd h=>?_;obtain⟨a,b,ns,bs,o,rfl,ha,hb,FC,hn1,hn5,q⟩:=h;refine⟨[some (.ref a),some (.ref b),some (.str o.word),none,none,none,none],_,rfl,(z5 (ye 3 nd (ixs:=[]) (zo (own:=["_law_name"]) (N:=[]) rfl rfl rfl rfl rfl rfl rfl (by decide +kernel) rfl rfl rfl) rfl (yw (z8 0)) (λ_ _ _ _=>yu) (λ_ _ _ _=>(wb (z9 zp (z9 (z8 0) z6)))) rfl)
  (z5 (xq yM rfl (yp rfl aA (z9 (zq yi rfl aB yy (z9 (z8 3) z6)) z6)) (wo 4 nd) (z4 (y6 (u5 (vv (zd (z8 1) (z8 4) (λ_ _=>rfl)))) (z4 (Gy hr.units (z8 3) (z8 4) (wb (z9 zp (z9 (zd (z8 3) (z8 4) (λ_ _=>rfl)) z6))))) zm)))
  (z5 (zn 5 nd (zd (z8 3) zz (λ_ _=>rfl)))
  (z5 (xq yM rfl (yw (xz (z8 3) (xf zz) x9)) (wo 6 nd) (z4 (zn 5 nd (wb (z9 (z8 2) (z9 (z8 5) (z9 (z8 6) z6)))))))
  (z4 (zv (z8 5))))))),?_⟩
 walk_at"rp";refine .inl ⟨⟨_,ha⟩,λC s₀ H₀ ex=>?_⟩;refine tm (xs:=ns.map V.str) (λD i ys H2=>∃ts:List Say,SaysAt K H2 ys ts/\ts.length=i/\(∀t∈ts,t.pieces<=1/\∀x∈t.letters,x∈ns)/\H2 D=some (.lst ys)/\Same H H2/\H D=none) (by rw[zY,zM];lia) ?_ ?_ ?_ ?_
 ·intro D H2 n2 s2 e2;exact⟨[],trivial,rfl,λt ht=>by simp at ht,e2,s2,n2⟩
 ·rintro D i ys H2 ⟨ts,hS,hl,_,e2,s2,_⟩;exact⟨s2.seq ha,e2,by rw[hS.len,hl]⟩
 ·rintro D i v ys H2 hv ⟨ts,hS,hl,kU,e2,s2,n2⟩;rw[zT]at hv;cases hc:ns[i]? with
  |none=>rw[hc]at hv;cases hv
  |some x =>
   rw[hc]at hv;cases hv;walk_at"rp";refine⟨xu (by simp),λp H3 n3 s3 e3=>⟨s3 _ _ e2,CN.mk (by rw[zY];exact(zW.mp hc).1) ⟨ts++[.letter x],?_,by rw[zP,hl];rfl,λt ht=>?_,zx,zu (s2.trans s3) n2 _,n2⟩⟩⟩
   ·have tl:=xr (o:=.lst (ys++[V.ref p])) (s3 _ _ e2);exact SaysAt.app (hS.mono ((z7 s3).trans tl)) ⟨⟨p,rfl,tl.sqT (SqT.of e3)⟩,trivial⟩
   ·rcases zK.mp ht with ht|ht
    ·exact kU t ht
    ·rw[zO.mp ht];exact⟨zU 1,λy hy=>by rw[zO.mp hy];exact zN hc⟩
 rintro p ys H1 ⟨ts,hS,hl,kU,e1,s1,n1⟩;rw[zY]at hl;have fQ:=hS.len;walk_at"rp";refine⟨_,.inl (SqL.of e1),⟨by lia,by lia⟩,?_⟩;rw[show((ys.length:Nat):Int).toNat=ys.length from yW _];refine w4 (λi σ H2=>∃(us:List V)(ts:List Say)(kv:Option V),σ=[some (.ref a),some (.ref b),some (.str o.word),some (.ref p),kv,none,none]/\H2 p=some (.lst us)/\SaysAt K H2 us ts/\ts.length=ns.length/\F0 ns ts/\(∀j t,i<=j->ts[j]?=some t->t.pieces<=1)/\Same H H2) ⟨ys,ts,none,rfl,e1,hS,hl,λt ht=>⟨Nat.le_succ_of_le (kU t ht).1,(kU t ht).2⟩,λj t _ ht=>(kU t (zN ht)).1,s1⟩ ?_ ?_
 ·rintro i σ H2 hi ⟨us,ts,kv,rfl,e2,hS,hl,kU,BV,s2⟩;have BL:=hS.len;walk_at"rp";have hib:i<bs.length:=by lia
  rw[wJ];refine⟨_,_,.inl (s2.seq hb),Iy hib,?_⟩;walk_at"rp";have hiu:i<us.length:=by lia
  obtain⟨t,ht,sv⟩:=hS.at i us[i] (zS hiu);have AX:=zN ht;refine vp (λc=>?_) (λc=>?_)
  ·refine⟨_,_,.inl (SqL.of e2),yf (zS hiu),xu (by simp),λr H3 n3 s3 e3=>?_⟩;refine .inr ⟨us,_,i,s3 _ _ e2,rfl,rfl,hiu,?_⟩;have tl:=xr (o:=.lst (us.set i (.ref r))) (s3 _ _ e2);have t0:=(z7 s3).trans tl;refine⟨us.set i (.ref r),ts.set i (.neg t),_,rfl,zx,SaysAt.set (hS.mono t0) i ⟨r,us[i],rfl,tl.sqT (SqT.of e3),sv.mono t0⟩,by rw[List.length_set];exact hl,λu hu=>?_,λj u hj hu=>?_,zu (s2.trans s3) n1 _⟩
   ·rcases List.mem_or_eq_of_mem_set hu with h|h
    ·exact kU u h
    ·rw[h];refine⟨?_,(kU t AX).2⟩;have:=BV i t (zU _) ht;simp only[Say.pieces];lia
   ·rw[List.getElem?_set_ne (by lia)]at hu;exact BV j u (by lia) hu
  ·exact⟨us,ts,_,rfl,e2,hS,hl,kU,λj u hj hu=>BV j u (by lia) hu,s2⟩
 ·rintro σ H2 ⟨us,ts,kv,rfl,e2,hS,hl,kU,_,s2⟩;have BL:=hS.len
  match us,ts,hS,hl,e2 with
  |[],[],_,hl,_=>simp at hl;lia
  |u::us,t::ts,hS,hl,e2 =>
   walk_at"rp";refine⟨_,_,.inl (SqL.of e2),ce _ _,?_⟩;refine .inl ⟨_,SqL.of e2,λr H3 n3 s3 e3=>?_⟩;rw[jt]at e3;refine .inl ⟨⟨_,SqL.of e3⟩,vm (xs:=us) (λi σ H4=>∃(v:V)(t:Say)(pv:Option V),σ=[some (.ref a),some (.ref b),some (.str o.word),some (.ref p),kv,some v,pv]/\SayAt K H4 v t/\t.pieces<=2+3*i/\(∀x∈t.letters,x∈ns)/\Same H3 H4) ⟨u,t,none,rfl,hS.1.mono (z7 s3),(kU t zG).1,(kU t zG).2,Same.refl _⟩ ?_ ?_ ?_⟩
   ·rintro i σ H4 _ ⟨v,t',pv,rfl,_,_,_,s4⟩;exact s4.seq (SqL.of e3)
   ·rintro i x σ H4 hx ⟨v,t',pv,rfl,sv,pc,lt,s4⟩;obtain⟨t2,ht2,sv2⟩:=hS.2.at i x hx;have CF:=kU t2 (zH _ (zN ht2));walk_at"rp";refine⟨xu (by simp),λc H5 n5 s5 e5=>⟨.ref c,.bin o t' t2,some x,rfl,⟨c,v,x,rfl,SqT.of e5,sv.mono (z7 s5),sv2.mono (z7 (s3.trans (s4.trans s5)))⟩,?_,λy hy=>?_,s4.trans s5⟩⟩
    ·have:=CF.1;simp only[Say.pieces];lia
    ·rcases zK.mp hy with z|z
     ·exact lt y z
     ·exact CF.2 y z
   ·rintro σ H4 ⟨v,t',pv,rfl,sv,pc,lt,s4⟩;walk_at"rp";have:us.length+1=ns.length:=by rw[<-hl,<-hS.len];rfl
    exact q v H4 t' (s2.trans (s3.trans s4)) sv (by lia) lt
theorem SaysAt.take{K:W.Frag}{H:Hp}:∀{us:List V}{ts:List Say}(n:Nat),SaysAt K H us ts->SaysAt K H (us.take n) (ts.take n)
 |[],[],n,_=>by simp[SaysAt]
 |_::_,_::_,0,_=>trivial
 |_::_,_::_,n+1,h=>⟨h.1,SaysAt.take n h.2⟩
 |[],_::_,_,h=>h.elim
 |_::_,[],_,h=>h.elim
theorem SaysAt.drop{K:W.Frag}{H:Hp}:∀{us:List V}{ts:List Say}(n:Nat),SaysAt K H us ts->SaysAt K H (us.drop n) (ts.drop n)
 |[],[],n,_=>by simp[SaysAt]
 |_::_,_::_,0,h=>h
 |_::_,_::_,n+1,h=>SaysAt.drop n h.2
 |[],_::_,_,h=>h.elim
 |_::_,[],_,h=>h.elim
theorem kl{α:Type}{ts:List α}{n:Nat}{t u:α}(h:u∈ts.take n++t::ts.drop n):u=t\/u∈ts:=by
 rcases zK.mp h with z|z
 ·exact .inr (wZ z)
 ·rcases zI.mp z with z|z
  ·exact .inl z
  ·exact .inr (tX z)
def bc(K:W.Frag):Sp:=λvs H Q _=>∃(a:Addr)(ns:List Int)(k:Int)(b:Addr)(xs:List Str),vs=[.ref a,.int k,.ref b]/\SqL K H a (ns.map V.int)/\ns.length<=5000/\0<=k/\k<=1000/\SqL K H b (xs.map V.str)/\1<=xs.length/\xs.length<=5 /\
 ∀(p:Addr)(H':Hp)(us:List V)(ts:List Say),Same H H'->H' p=some (.lst us)->SaysAt K H' us ts->1<=ts.length->ts.length<=6->(∀t∈ts,t.pieces<=39)->(∀t∈ts,∀x∈t.letters,x∈xs)->Q (.ref p) H'
theorem Uk(D:Def K mg "_law_linked" (top 59) ["_law_script","_law_k","_law_names_here"])(aE:zy P w K mg base 2 "_law_pick" ["_law_script","_law_k","_law_many"] (ur K))(nW:zy P w K mg base 1 "_law_knit" ["_law_names_here","_law_truths","_law_word"] (Sg K))(aB:mg "len"=none)(aA:mg "range"=none)(aV:mg "min"=none):
  zy P w K mg base 3 "_law_linked" ["_law_script","_law_k","_law_names_here"] (bc K):=by
 refine D.callee (N:=["_law_script","_law_k","_law_names_here","_law_many","_law_sayings","_law_truths","_law_last"]) (by walk_at"sc") (by walk_at"ln") λf cdv A outer s H vs Q E hr nd h=>?_;obtain⟨a,ns,k,b,xs,rfl,hS,cI,qV,hk,hb,hx1,hx5,q⟩:=h;refine⟨[some (.ref a),some (.int k),some (.ref b),none,none,none,none],_,rfl,(z5 (zn 3 nd (zt zj (zw aE hr (by lia) (z9 (z8 0) (z9 (z8 1) (z9 (zq (Lx rfl) rfl aV cf (z9 zz (z9 (zq yi rfl aB yy (z9 (z8 2) z6)) z6))) z6)))) zz))
  (z5 (ye 4 nd (ixs:=[]) (zo (own:=["_law_name"]) (N:=[]) rfl rfl rfl rfl rfl rfl rfl (by decide +kernel) rfl rfl rfl) rfl (yw (xz (z8 2) x9 (xf (z8 3)))) (λ_ _ _ _=>yu) (λ_ _ _ _=>(wb (z9 zp (z9 (z8 0) z6)))) rfl)
  (z5 (ye 5 nd (ixs:=[0,1]) (zo (own:=["_law_j"]) (N:=["_law_script","_law_k"]) rfl rfl rfl rfl rfl rfl rfl (by decide +kernel) rfl rfl rfl) rfl (yp rfl aA (z9 (z8 3) z6)) (λ_ _ _ _=>yu) (λ_ _ _ _=>(uq T6 (zw aE hr (by lia) (z9 (z8 1) (z9 (zt zj (zt zj (z8 2) zz) (z8 0)) (z9 zz z6)))) zz (zi _))) rfl)
  (z5 (zn 6 nd (zw nW hr (by lia) (z9 (xz (z8 2) x9 (xf (z8 3))) (z9 (z8 5) (z9 (zd (wa (z9 zp (z9 zp (z9 zp z6)))) (zw aE hr (by lia) (z9 (z8 0) (z9 (zt zj (z8 1) zz) (z9 zz z6)))) (λ_ _=>rfl)) z6)))))
  (z5 (y6 (zg (w6 hr.units) (zw aE hr (by lia) (z9 (z8 0) (z9 (zt zj (z8 1) zz) (z9 zz z6)))) zz (zi _)) (z4 (zn 6 nd (wb (z9 zp (z9 (z8 6) z6))))) zm)
  (z5 (v6 (kh F.slot_list_insert F.type_list_insert Gr (z8 4) (z9 (zw aE hr (by lia) (z9 (z8 0) (z9 (zt zj (z8 1) zz) (z9 (zt zj (z8 3) zz) z6)))) (z9 (z8 6) z6))))
  (z4 (zv (z8 4))))))))),?_⟩
 walk_at"rp";refine⟨_,.inl hb,?_⟩;rw[zY];have hmin:(if(xs.length:Int)<5 then(xs.length:Int)else 5)=(xs.length:Int):=by split<;>lia
 rw[hmin];refine⟨a,ns,k,_,rfl,hS,cI,qV,by lia,by lia,λr r0 r1=>?_⟩;walk_at"rp";have EY:∀{z:V},z=V.int (r+1)->vb (xs.map V.str) none (some (r+1))=(xs.take (r+1).toNat).map V.str:=λ_=>by rw[tp _ (by lia),List.map_take]
 have htl:(xs.take (r+1).toNat).length=(r+1).toNat:=by rw[yS];lia
 have iQ:∀x∈xs.take (r+1).toNat,x∈xs:=λx hx=>wZ hx;refine .inl ⟨_,hb,λp1 H1 n1 s1 e1=>?_⟩;rw[EY rfl]at e1;generalize pE:xs.take (r+1).toNat=ys at e1 htl iQ EY;refine .inl ⟨⟨_,SqL.of e1⟩,λC s₀ H₀ ex=>?_⟩;refine tm (xs:=ys.map V.str) (λD i vs H2=>∃ts:List Say,SaysAt K H2 vs ts/\ts.length=i/\(∀t∈ts,t.pieces<=1/\∀x∈t.letters,x∈xs)/\H2 D=some (.lst vs)/\Same H1 H2/\H1 D=none) (by rw[zY,zM];lia) ?_ ?_ ?_ ?_
 ·intro D H2 n2 s2 e2;exact⟨[],trivial,rfl,λt ht=>by simp at ht,e2,s2,n2⟩
 ·rintro D i vs H2 ⟨ts,qE,hl,_,e2,s2,_⟩;exact⟨s2.seq (SqL.of e1),e2,by rw[qE.len,hl]⟩
 ·rintro D i v vs H2 hv ⟨ts,qE,hl,kU,e2,s2,n2⟩;rw[zT]at hv;cases hc:ys[i]? with
  |none=>rw[hc]at hv;cases hv
  |some x =>
   rw[hc]at hv;cases hv;walk_at"rp";refine⟨xu (by simp),λp H3 n3 s3 e3=>⟨s3 _ _ e2,CN.mk (by rw[zY];exact(zW.mp hc).1) ⟨ts++[.letter x],?_,by rw[zP,hl];rfl,λt ht=>?_,zx,zu (s2.trans s3) n2 _,n2⟩⟩⟩
   ·have tl:=xr (o:=.lst (vs++[V.ref p])) (s3 _ _ e2);exact SaysAt.app (qE.mono ((z7 s3).trans tl)) ⟨⟨p,rfl,tl.sqT (SqT.of e3)⟩,trivial⟩
   ·rcases zK.mp ht with ht|ht
    ·exact kU t ht
    ·rw[zO.mp ht];exact⟨zU 1,λy hy=>by rw[zO.mp hy];exact iQ x (zN hc)⟩
 rintro l us H2 ⟨ts,qE,hl,kU,e2,s2,n2⟩;rw[zY,htl]at hl;have nl:H l=none:=y9 s1 n2;walk_at"rp";refine⟨⟨by lia,by lia⟩,λC s₀ H₀ ex=>?_⟩;have eZ:Same H H2:=s1.trans s2;refine yd (λD i vs H3=>∃bs:List Bool,vs=bs.map V.bl/\bs.length=i/\H3 D=some (.lst vs)/\Same H2 H3/\H2 D=none) (by rw[zM];lia) ?_ ?_ ?_ ?_
 ·intro D H3 n3 s3 e3;exact⟨[],rfl,rfl,e3,s3,n3⟩
 ·rintro D i vs H3 ⟨bs,rfl,FC,e3,_⟩;exact⟨e3,by simpa using FC⟩
 ·rintro D i vs H3 hi ⟨bs,rfl,FC,e3,s3,n3⟩;walk_at"rp";refine⟨a,ns,_,3,rfl,(eZ.trans s3).seq hS,cI,by lia,by lia,by decide,λz _ _=>?_⟩;walk_at"rp";exact⟨e3,CN.mk hi ⟨bs++[_],by rw[zJ];rfl,by rw[zP,FC];rfl,zx,zu s3 n3 _,n3⟩⟩
 rintro tb vs H3 ⟨bs,rfl,FC,e3,s3,n3⟩;walk_at"rp";have AR:Same H H3:=eZ.trans s3;refine .inl ⟨_,AR.seq hb,λp2 H4 n4 s4 e4=>?_⟩;rw[tp _ (by lia),<-List.map_take,pE]at e4;refine⟨xu (by simp),λwl H5 n5 s5 e5=>?_⟩;have C0:Same H H5:=AR.trans (s4.trans s5);refine⟨a,ns,_,3,rfl,C0.seq hS,cI,by lia,by lia,by decide,λo o0 o3=>?_⟩;walk_at"rp";obtain⟨op,eo⟩:∃op:Op2,atI [V.str (Str.ofString "and"),V.str (Str.ofString "or"),V.str (Str.ofString "if")] o=some (.str op.word):=by
  have o':o=0\/o=1\/o=2:=by lia
  rcases o' with rfl|rfl|rfl
  ·exact⟨.con,rfl⟩
  ·exact⟨.dis,rfl⟩
  ·exact⟨.imp,rfl⟩
 refine⟨_,_,.inl (SqL.of e5),eo,?_⟩;refine⟨p2,tb,ys,bs,op,rfl,SqL.of (s5 _ _ e4),SqL.of ((s4.trans s5) _ _ e3),by lia,by lia,by lia,λv H6 t s6 sv pc lt=>?_⟩;walk_at"rp";have An:Same H H6:=C0.trans s6;have el6:H6 l=some (.lst us):=(s3.trans (s4.trans (s5.trans s6))) _ _ e2;have hS6:SaysAt K H6 us ts:=qE.mono (z7 (s3.trans (s4.trans (s5.trans s6))));refine⟨a,ns,_,3,rfl,An.seq hS,cI,by lia,by lia,by decide,λz _ _=>?_⟩;walk_at"rp";have aU:∀(v:V)(H7:Hp)(t:Say)(lv:Option V),Same H6 H7->SayAt K H7 v t->t.pieces<=16->(∀x∈t.letters,x∈xs)->ur K [V.ref a,V.int (k+8),V.int (r+1+1)] H7 (λx H2=>Js (V.ref l) [x,v] H2 (λx H1=>Q (V.ref l) H1)) E0:=by
  intro v H7 t lv s7 sv pc lt;refine⟨a,ns,_,_,rfl,(An.trans s7).seq hS,cI,by lia,by lia,by lia,λj j0 j1=>?_⟩;walk_at"rp";refine⟨us,s7 _ _ el6,by rw[hS6.len,zM];lia,j0,by lia,?_⟩;have tl:=xr (o:=.lst (us.take j.toNat++v::us.drop j.toNat)) (s7 _ _ el6);refine q l _ _ (ts.take j.toNat++t::ts.drop j.toNat) (zu (An.trans s7) nl _) zx ?_ (by simp;lia) ?_ (λu hu=>?_) (λu hu x hx=>?_)
  ·have h7:=hS6.mono ((z7 s7).trans tl);exact SaysAt.app (SaysAt.take _ h7) ⟨sv.mono tl,SaysAt.drop _ h7⟩
  ·rw[zP,yL,yS,wR];lia
  ·rcases kl hu with z|z
   ·rw[z];lia
   ·have:=(kU u z).1;lia
  ·rcases kl hu with z|z
   ·rw[z]at hx;exact lt x hx
   ·exact(kU u z).2 x hx
 have AY:∀x∈t.letters,x∈xs:=λx hx=>iQ x (lt x hx);refine vp (λc=>?_) (λc=>?_)
 ·refine⟨xu (by simp),λc2 H7 n7 s7 e7=>⟨⟨_,_,rfl,s7 _ _ el6⟩,?_⟩⟩;exact aU _ H7 (.neg t) none s7 ⟨c2,v,rfl,SqT.of e7,sv.mono (z7 s7)⟩ (by simp only[Say.pieces];lia) AY
 ·exact⟨⟨_,_,rfl,el6⟩,aU v H6 t none (Same.refl _) sv (by lia) AY⟩
def Si(K:W.Frag):Sp:=λvs H Q _=>∃(a:Addr)(ns:List Int),vs=[.ref a,.int 0]/\SqL K H a (ns.map V.int)/\ns.length<=5000/\∀(p:Addr)(H':Hp)(us:List V)(ts:List Say)(xs:List Str),Same H H'->SqT K H' p us->SaysAt K H' us ts->Lst ts xs->(∀t∈ts,t.pieces<=39)->(∀x∈xs,NL x)->Q (.ref p) H'
theorem Nd(D:Def K mg "_law_list" (top 60) ["_law_script","_law_k"])(aE:zy P w K mg base 2 "_law_pick" ["_law_script","_law_k","_law_many"] (ur K))(mO:zy P w K mg base 3 "_law_names" ["_law_script","_law_k","_law_many"] (Wp K))(lO:zy P w K mg base 3 "_law_linked" ["_law_script","_law_k","_law_names_here"] (bc K))
  (aT:zy P w K mg base 12 "_law_saying" ["_law_script","_law_k","_law_room","_law_names_here"] (l9 K 9)) (aA:mg "range"=none) (aC:mg "tuple"=none):zy P w K mg base 13 "_law_list" ["_law_script","_law_k"] (Si K):=by
 refine D.callee (N:=["_law_script","_law_k","_law_names_here","_law_sayings","_law_j","_law_room"]) (by walk_at"sc") (by walk_at"ln") λf cdv A outer s H vs Q E hr nd h=>?_;obtain⟨a,ns,rfl,hS,cI,q⟩:=h;refine⟨[some (.ref a),some (.int 0),none,none,none,none],_,rfl,(z5 (zn 2 nd (zw mO hr (by lia) (z9 (z8 0) (z9 (z8 1) (z9 (zt zj zz (zw aE hr (by lia) (z9 (z8 0) (z9 (zt zj (z8 1) zz) (z9 zz z6))))) z6)))))
  (z5 (y6 (zg (w6 hr.units) (zw aE hr (by lia) (z9 (z8 0) (z9 (zt zj (z8 1) zz) (z9 zz z6)))) zz (zi _)) (z4 (zv (ze yg rfl aC yo (z9 (zw lO hr (by lia) (z9 (z8 0) (z9 (zt zj (z8 1) zz) (z9 (z8 2) z6)))) z6)))) zm)
  (z5 (zn 3 nd (wa z6))
  (z5 (xq yM rfl (yp rfl aA (z9 (zt zj zz (zw aE hr (by lia) (z9 (z8 0) (z9 (zt zj (z8 1) zz) (z9 zz z6))))) z6)) (wo 4 nd) (z5 (zn 5 nd (zd (wa (z9 zz (z9 zz (z9 zz (z9 zz (z9 zz z6)))))) (zw aE hr (by lia) (z9 (z8 0) (z9 (zt zj (zt zj (z8 1) zz) (z8 4)) (z9 zz z6)))) (λ_ _=>rfl)))
  (z4 (v6 (kh wT wS kg (z8 3) (z9 (zw aT hr (by lia) (z9 (z8 0) (z9 (zt zj (zt zj (z8 1) zz) (zt wj zz (z8 4))) (z9 (z8 5) (z9 (z8 2) z6))))) z6))))))
  (z4 (zv (ze yg rfl aC yo (z9 (z8 3) z6)))))))),?_⟩
 walk_at"rp";refine⟨a,ns,_,5,rfl,hS,cI,by decide,by decide,by decide,λr r0 r1=>?_⟩;walk_at"rp";refine⟨a,ns,0,_,rfl,hS,cI,by decide,by decide,by lia,by lia,λb H1 xs nb s1 eb lb hx nI=>?_⟩;walk_at"rp";refine⟨a,ns,_,2,rfl,s1.seq hS,cI,by decide,by decide,by decide,λz _ _=>?_⟩;walk_at"rp";refine vp (λc=>?_) (λc=>?_)
 ·refine⟨a,ns,_,b,xs,rfl,s1.seq hS,cI,by decide,by decide,SqL.of eb,by lia,by lia,λp H2 us ts s2 e2 qE h1 h6 Ax aI=>?_⟩;walk_at"rp";refine⟨_,.inl (SqL.of e2),λp' H3 s3 h3=>q p' H3 us ts xs (s1.trans (s2.trans s3)) h3 (qE.mono (z7 s3)) ⟨h1,h6,λt ht=>Nat.le_succ_of_le (Ax t ht),λx lU=>?_,by lia,hx⟩ Ax nI⟩;obtain⟨t,ht,hxt⟩:=mem_allL.mp lU;exact aI t ht x hxt
 ·refine⟨xu (by simp),λl H2 n2 s2 e2=>?_⟩;have eZ:Same H H2:=s1.trans s2;refine⟨a,ns,_,6,rfl,eZ.seq hS,cI,by decide,by decide,by decide,λm m0 m6=>?_⟩;walk_at"rp";refine⟨⟨by lia,by lia⟩,?_⟩;have nl:H l=none:=y9 s1 n2;refine w4 (λi σ H3=>∃(us:List V)(ts:List Say)(x4 x5:Option V),σ=[some (.ref a),some (.int 0),some (.ref b),some (.ref l),x4,x5]/\H3 l=some (.lst us)/\SaysAt K H3 us ts/\ts.length=i/\(∀t∈ts,t.pieces<=9/\∀x∈t.letters,x∈xs)/\Same H H3/\SqL K H3 b (xs.map V.str)) ⟨[],[],none,none,rfl,e2,trivial,rfl,λt ht=>by simp at ht,eZ,s2.seq (SqL.of eb)⟩ ?_ ?_
  ·rintro i σ H3 hi ⟨us,ts,x4,x5,rfl,e3,qE,hl,Ax,s3,hb3⟩;walk_at"rp";refine⟨xu (by simp),λrl H4 n4 s4 e4=>?_⟩;have Ac:Same H H4:=s3.trans s4;refine⟨a,ns,_,5,rfl,Ac.seq hS,cI,by lia,by lia,by decide,λj j0 j5=>?_⟩;walk_at"rp";obtain⟨rm,erm,rm1,rm9⟩:∃rm:Int,atI [V.int 1,V.int 1,V.int 3,V.int 4,V.int 9] j=some (.int rm)/\1<=rm/\rm<=9:=by
    have o':j=0\/j=1\/j=2\/j=3\/j=4:=by lia
    rcases o' with rfl|rfl|rfl|rfl|rfl
    ·exact⟨1,rfl,by decide,by decide⟩
    ·exact⟨1,rfl,by decide,by decide⟩
    ·exact⟨3,rfl,by decide,by decide⟩
    ·exact⟨4,rfl,by decide,by decide⟩
    ·exact⟨9,rfl,by decide,by decide⟩
   refine⟨_,_,.inl (SqL.of e4),erm,?_⟩;walk_at"rp";refine⟨⟨_,_,rfl,s4 _ _ e3⟩,cm (by decide),a,ns,_,rm,b,xs,rfl,Ac.seq hS,cI,by lia,by lia,rm1,by lia,.inl (s4.seq hb3),by lia,by lia,λv H5 t s5 sv pc lt=>?_⟩;walk_at"rp";have e5:=(s4.trans s5) _ _ e3;have tl:=xr (o:=.lst (us++[v])) e5;refine⟨us,e5,by rw[qE.len,hl,zM];lia,us++[v],ts++[t],_,_,rfl,zx,SaysAt.app (qE.mono ((z7 (s4.trans s5)).trans tl)) ⟨sv.mono tl,trivial⟩,by rw[zP,hl];rfl,λu hu=>?_,zu (Ac.trans s5) nl _,?_⟩
   ·rcases zK.mp hu with hu|hu
    ·exact Ax u hu
    ·rw[zO.mp hu];exact⟨by lia,lt⟩
   ·have aZ:b≠l:=λz=>by rw[<-z,eb]at n2;cases n2
    have hb5:=(s4.trans s5).seq hb3;exact Ry aZ hb5
  ·rintro σ H3 ⟨us,ts,x4,x5,rfl,e3,qE,hl,Ax,s3,hb3⟩;walk_at"rp";refine⟨_,.inl (SqL.of e3),λp' H4 s4 h4=>q p' H4 us ts xs (s3.trans s4) h4 (qE.mono (z7 s4)) ⟨by lia,by lia,λt ht=>by have:=(Ax t ht).1;lia,λx lU=>?_,by lia,hx⟩ (λt ht=>by have:=(Ax t ht).1;lia) nI⟩;obtain⟨t,ht,hxt⟩:=mem_allL.mp lU;exact(Ax t ht).2 x hxt
theorem Uj(D:Def K mg "_law_row" (top 61) ["_law_sayings","_law_held_here"])(kA:zy P w K mg base 40 "_law_so" ["_law_saying_here","_law_held_here"] (eh K 40))(aC:mg "tuple"=none):zy P w K mg base 41 "_law_row" ["_law_sayings","_law_held_here"] (m9 K):=by
 refine D.callee (N:=["_law_sayings","_law_held_here"]) (by walk_at"sc") (by walk_at"ln") λf cdv A outer s H vs Q E hr nd h=>?_;obtain⟨a,h,us,ts,xs,hs,rfl,ha,hS,hL,hh,q⟩:=h;have hl:=hS.len;have h6:=hL.hi;refine⟨[some (.ref a),some (.ref h)],_,rfl,(z4 (zv (ze yg rfl aC yo (z9 (yc (ixs:=[1]) (zo (own:=["_law_saying_here"]) (N:=["_law_held_here"]) rfl rfl rfl rfl rfl rfl rfl (by decide +kernel) rfl rfl rfl) rfl (yw (z8 0)) (λ_ _ _ _=>yu) (λ_ _ _ _=>(zw kA hr (by lia) (z9 (z8 0) (z9 (z8 1) z6)))) rfl) z6)))),?_⟩;walk_at"rp";refine .inr ⟨⟨_,ha⟩,λC s₀ H₀ ex=>?_⟩;refine vc (xs:=us) (λD i ys H2=>ys=((ts.take i).map λt=>t.so hs).map V.bl/\i<=us.length/\H2 D=some (.lst ys)/\Same H H2/\H D=none) (by rw[zM];lia) ?_ ?_ ?_ ?_
 ·intro D H2 n2 s2 e2;exact⟨rfl,yR _,e2,s2,n2⟩
 ·rintro D i ys H2 ⟨rfl,hi,e2,s2,_⟩;exact⟨(z7 s2).sqT ha,e2,by simp;lia⟩
 ·rintro D i v ys H2 hv ⟨rfl,hi,e2,s2,n2⟩;obtain⟨t,ht,sv⟩:=hS.at i v hv;walk_at"rp";refine⟨v,h,t,hs,rfl,sv.mono (z7 s2),hL.pc t (zN ht),(z7 s2).sqT hh,λH3 s3=>⟨s3 _ _ e2,CN.mk (zW.mp hv).1 ⟨?_,(zW.mp hv).1,zx,zu (s2.trans s3) n2 _,n2⟩⟩⟩;rw[yY,ht];simp
 ·rintro D ys H2 ⟨rfl,hi,e2,s2,n2⟩;rw[hl,zB]at e2;exact⟨_,.inl (SqL.of e2),λp H3 s3 h3=>q p H3 (s2.trans s3) h3⟩
theorem Ui(D:Def K mg "_law_fit_rows" (top 62) ["_law_sayings"])(iJ:zy P w K mg base 41 "_law_all_names" ["_law_sayings"] (lz K))(pU:zy P w K mg base 41 "_law_row" ["_law_sayings","_law_held_here"] (m9 K))(nX:zy P w K mg base 1 "_law_held" ["_law_number","_law_names_here"] (Sf K))
  (aF:mg "sorted"=none) (aQ:mg "set"=none) (aA:mg "range"=none):zy P w K mg base 42 "_law_fit_rows" ["_law_sayings"] (uy K):=by
 refine D.callee (N:=["_law_sayings","_law_names_here","_law_number","_law_name"]) (by walk_at"sc") (by walk_at"ln") λf cdv A outer s H vs Q E hr nd h=>?_;obtain⟨a,us,ts,xs,rfl,ha,hS,hL,q⟩:=h;refine⟨[some (.ref a),none,none,none],_,rfl,(z5 (zn 1 nd (zw iJ hr (by lia) (z9 (z8 0) z6)))
  (z5 (zn 2 nd zz)
  (z5 (xq yM rfl (yw (z8 1)) (wo 3 nd) (z4 (zn 2 nd (zt wj zz (z8 2)))))
  (z4 (zv (v4 rfl hr.units rfl aF rfl aQ (yc (ixs:=[0,1]) (zo (own:=["_law_k"]) (N:=["_law_sayings","_law_names_here"]) rfl rfl rfl rfl rfl rfl rfl (by decide +kernel) rfl rfl rfl) rfl (yp rfl aA (z9 (z8 2) z6)) (λ_ _ _ _=>yu) (λ_ _ _ _=>(zw pU hr (by lia) (z9 (z8 1) (z9 (zw nX hr (by lia) (z9 (z8 0) (z9 (z8 2) z6))) z6)))) rfl))))))),?_⟩
 walk_at"rp";refine⟨a,us,ts,xs,rfl,ha,hS,hL,λb H1 ss nb s1 hb hN=>?_⟩;obtain⟨Eo,BM⟩:=hL.names hN;have p5:=Rk Eo;walk_at"rp";refine .inl ⟨⟨_,SqL.of hb⟩,vm (xs:=ss.map V.str) (λi σ H2=>∃nv,σ=[some (.ref a),some (.ref b),some (.int ((2 ^ i:Nat):Int)),nv]/\H2=H1) ⟨none,rfl,rfl⟩ ?_ ?_ ?_⟩
 ·rintro i σ H2 _ ⟨nv,rfl,rfl⟩;exact SqL.of hb
 ·rintro i x σ H2 lU ⟨nv,rfl,rfl⟩;walk_at"rp";refine⟨cm (by decide),some x,?_,trivial⟩;rw[Nat.pow_succ,Int.natCast_mul,Int.mul_comm]
  rfl
 rintro σ H2 ⟨nv,rfl,rfl⟩;walk_at"rp";rw[zY];have p5':((2 ^ ss.length:Nat):Int)<=32:=Int.ofNat_le.mpr p5;have p50:(0:Int)<=((2 ^ ss.length:Nat):Int):=Int.natCast_nonneg _;refine⟨⟨by lia,by lia⟩,?_⟩;rw[yW];intro C s₀ H₀ ex;refine yd (λD i ys H3=>∃R:List (Addr×List Bool),ys=(R.map λr=>V.ref r.1)/\R.map (·.2)=(List.range i).map (λ(n:Nat)=>rg ts (yz (n:Int) ss))/\(∀r∈R,SqT K H3 r.1 (r.2.map V.bl))/\H3 D=some (.lst ys)/\Same H2 H3/\H2 D=none) (by rw[zM];lia) ?_ ?_ ?_ ?_
 ·intro D H3 n3 s3 e3;exact⟨[],rfl,rfl,λr hr=>by simp at hr,e3,s3,n3⟩
 ·rintro D i ys H3 ⟨R,rfl,hR,_,e3,s3,_⟩;refine⟨e3,?_⟩;have:=xK List.length hR;simpa using this
 ·rintro D i ys H3 hi ⟨R,rfl,hR,hT,e3,s3,n3⟩;walk_at"rp";rw[wJ];refine⟨_,b,ss,rfl,.inl (s3.seq (SqL.of hb)),by lia,λc H4 s4 h4=>?_⟩;refine⟨a,c,us,ts,xs,_,rfl,(z7 (s1.trans (s3.trans s4))).sqT ha,hS.mono (z7 (s1.trans (s3.trans s4))),hL,h4,λp H5 s5 h5=>⟨(s4.trans s5) _ _ e3,CN.mk hi ⟨R++[(p,rg ts (yz (i:Int) ss))],by rw[zJ];rfl,?_,λr hr=>?_,zx,zu (s3.trans (s4.trans s5)) n3 _,n3⟩⟩⟩
  ·rw[zJ,hR,vY,zJ]
   rfl
  ·have tl:=xr (o:=.lst ((R.map λr=>V.ref r.1)++[V.ref p])) ((s4.trans s5) _ _ e3);rcases zK.mp hr with hr|hr
   ·exact tl.sqT ((z7 (s4.trans s5)).sqT (hT r hr))
   ·rw[zO.mp hr];exact tl.sqT h5
 ·rintro D ys H3 ⟨R,rfl,hR,hT,e3,s3,n3⟩;have oS:R.length=2 ^ ss.length:=by
   have:=xK List.length hR;simpa using this
  refine .inr ⟨R,SqL.of e3,λr hr=>⟨hT r hr,?_⟩,by lia,λR' iQ lX dA fR fT p H4 n4 s4 e4=>?_⟩
  ·have:r.2∈R.map (·.2):=yG hr;rw[hR]at this;obtain⟨n,_,e⟩:=zD.mp this;intro z;rw[<-e]at z;have h1:=pb ts (yz (n:Int) ss);rw[z]at h1;have:=hL.lo;simp at h1;lia
  ·refine q p H4 ss R' (y9 (s1.trans s3) n4) (s1.trans (s3.trans s4)) e4 (λr hr=>(z7 s4).sqT (hT r (iQ r hr))) hN ⟨lX,λk=>?_,fR⟩ (by lia);rw[dA k,hR,zD];constructor
   ·rintro⟨n,hn,rfl⟩;exact⟨n,yH.mp hn,rfl⟩
   ·rintro⟨n,hn,rfl⟩;exact⟨n,yH.mpr hn,rfl⟩
def m8(K:W.Frag)(C:Addr)(f:Str):Sp:=λvs H Q _=>∃(x dx:Addr)(v:V),vs=[.ref x,v]/\H x=some (.ins C dx [])/\Q .non (upd H x (.ins C dx [(f,v)]))
theorem Ug{C:Addr}{ds:List Value}(D:DefN K C "InOrder.__init__" (xp (top 45) 0) ["self","order"] ds)(CL:Cls K C)(na:NoAttr K C "order"):rz P w K mg base 1 C ["self","order"] ds (m8 K C "order"):=by
 refine D.callee (N:=["self","order"]) (by walk_at"sc") (by walk_at"ln") λf cdv A outer s H vs Q E hr nd h=>?_;obtain⟨x,dx,v,rfl,hx,q⟩:=h;refine⟨[some (.ref x),some v],_,rfl,(z4 (Rm (z8 0) (z8 1) rfl)),?_⟩;walk_at"rp";exact⟨x,C,dx,[],rfl,hx,CL,na,by decide,q⟩
theorem Uo{C:Addr}{ds:List Value}(D:DefN K C "Nearest.__init__" (xp (top 47) 0) ["self","weights"] ds)(CL:Cls K C)(na:NoAttr K C "weights"):rz P w K mg base 1 C ["self","weights"] ds (m8 K C "weights"):=by
 refine D.callee (N:=["self","weights"]) (by walk_at"sc") (by walk_at"ln") λf cdv A outer s H vs Q E hr nd h=>?_;obtain⟨x,dx,v,rfl,hx,q⟩:=h;refine⟨[some (.ref x),some v],_,rfl,(z4 (Rm (z8 0) (z8 1) rfl)),?_⟩;walk_at"rp";exact⟨x,C,dx,[],rfl,hx,CL,na,by decide,q⟩
theorem Pc{ι:Type}{RT:ι->List Say->List (List Bool)->List Bool->Prop}{i:ι}{ts:List Say}{J:List (List Bool)}{row:List Bool}{zs:List Str}(hu:∀a c,RT i ts J a->RT i ts J c->a=c)(hr:RT i ts J row)(hl:row.length=ts.length)(hz:zs.length=ts.length)(h:∀n z,zs[n]?=some z->TTt RT i ts J n z/\z.length<=1000/\NL z):zs=ju J row ts.length:=by
 apply sP;intro n
 by_cases hn:n<ts.length
 ·have h1:zs[n]?=some zs[n]:=zS (by lia);obtain⟨⟨Dv,CJ,gH,ht⟩,_⟩:=h n _ h1;have e:=hu _ _ gH hr;subst e;have h2:=ht (Dv.getD n false) (by rw[yZ,zS (by lia:n<Dv.length)];rfl);rw[h1,h2];simp[ju,hn]
 ·rw[xL (by lia),xL (by simp[ju];lia)]
theorem Q3{ι:Type}{OI:ι->Nat->List (List Bool)->List Nat->Prop}{i:ι}{ts:List Say}{ss:List Str}{R J:List (List Bool)}{ord:List Nat}{zs:List Str}(hN:NamesOf ts ss)(hF:FitRows ts ss R)(hu:∀o,OI i ts.length J o->o=ord)(h:∀n z,zs[n]?=some z->TTo OI i ts J n z/\z.length<=1000/\NL z):∀n z,zs[n]?=some z->Hc R J ord n z/\z.length<=1000/\NL z:=λn z hz=>by
 obtain⟨⟨bS,R',ord',k,hN',hF',ED,hk,hc⟩,h2⟩:=h n z hz;have es:=NamesOf.eq hN' hN;subst es;have eR:=FitRows.eq hF' hF;subst eR;have eo:=hu _ ED;subst eo;exact⟨⟨k,hk,hc⟩,h2⟩
def eu(K:W.Frag)(Pt:Addr):Sp:=λvs H Q _=>∃(a:Addr)(ns:List Int),vs=[.ref a]/\SqL K H a (ns.map V.int)/\ns.length<=63/\Tb Pt H/\∀H',Q (.bl true) H'
theorem J5{f Pt CM CI CB CZ:Addr}{fd:FuncData}{ds0:List Value}(D:Fun K "law" "law" (top 78) f fd)(nV:zy P w K mg base 13 "_law_list" ["_law_script","_law_k"] (Si K))(kC:zy P w K mg base 42 "_law_fit_rows" ["_law_sayings"] (uy K))(cE:zy P w K mg base 1 "_law_cell" ["_law_script","_law_k"] (Yv K))(aE:zy P w K mg base 2 "_law_pick" ["_law_script","_law_k","_law_many"] (ur K))(mN:zy P w K mg base 3 "_law_order" ["_law_script","_law_k","_law_many"] (bb K))(aN:zy P w K mg base 1 "_law_most_of" ["_law_judges","_law_number"] (qi K))(gC:zy P w K mg base 2 "_law_first_near" ["_law_fit","_law_judges","_law_weights"] (on K))(iI:zy P w K mg base 1 "_law_strongest" ["_law_judges"] (oo K))
  (kO:zy P w K mg base 48 "report" ["way","sayings","judges"] (t9 K Pt CM (λ_:Unit=>Fl1) RTm (TTt RTm))) (fV:zy P w K mg base 48 "report" ["way","sayings","judges"] (t9 K Pt CZ (Fl2 K) RTn (TTt RTn))) (fW:zy P w K mg base 48 "report" ["way","sayings","judges"] (t9 K Pt CI (Fl0 K) (ROt RI0) (TTo OI0))) (eE:zy P w K mg base 48 "report" ["way","sayings","judges"] (t9 K Pt CB (λ_:Unit=>Fl1) (ROt λ_=>RI1) (TTo OI1)))
  (cS:zy P w K mg base 43 "_law_by_judges" ["_law_found","_law_sayings","_law_judges","_law_row_here"] (Sa K)) (dU:zy P w K mg base 43 "_law_by_order" ["_law_found","_law_sayings","_law_judges","_law_fit","_law_order_here"] (Sb K))
  (iN:Mk0 K CM) (lJ:mg "Most"=some (.ref CM)) (kF:rz P w K mg base 1 CI ["self","order"] ds0 (m8 K CI "order")) (eO:mg "InOrder"=some (.ref CI)) (aX:Mk0 K CB) (bP:mg "ByStrength"=some (.ref CB)) (kE:rz P w K mg base 1 CZ ["self","weights"] [.none] (m8 K CZ "weights")) (eN:mg "Nearest"=some (.ref CZ))
  (aB:mg "len"=none) (aA:mg "range"=none) (aC:mg "tuple"=none):FnOk P w K mg base CX0 50 f fd ["_law_script"] (eu K Pt):=by
 refine Ph D (N:=["_law_script","_law_sayings","_law_fit","_law_many","_law_judges","_law_order_here","_law_weights","_law_row_here","_law_near"]) (by walk_at"sc") (by walk_at"ln") λf cdv A outer s H vs Q E hr nd h=>?_;obtain⟨a,ns,rfl,hS,h63',cU,q⟩:=h;have cI:ns.length<=5000:=yT h63' (by decide);refine⟨[some (.ref a),none,none,none,none,none,none,none,none],_,rfl,(z5 (zn 1 nd (zw nV hr (by lia) (z9 (z8 0) (z9 zz z6))))
  (z5 (zn 2 nd (zw kC hr (by lia) (z9 (z8 1) z6)))
  (z5 (zn 3 nd (zt zj zz (zt wj zz (zw aE hr (by lia) (z9 (z8 0) (z9 zz (z9 zz z6)))))))
  (z5 (zn 4 nd (ze yg rfl aC yo (z9 (yc (ixs:=[2,0]) (zo (own:=["_law_j"]) (N:=["_law_fit","_law_script"]) rfl rfl rfl rfl rfl rfl rfl (by decide +kernel) rfl rfl rfl) rfl (yp rfl aA (z9 (z8 3) z6)) (λ_ _ _ _=>yu) (λ_ _ _ _=>(zd (z8 1) (zt ue (zw cE hr (by lia) (z9 (z8 2) (z9 (zt zj zz (z8 0)) z6))) (zq yi rfl aB yy (z9 (z8 1) z6))) (λ_ _=>rfl))) rfl) z6)))
  (z5 (zn 5 nd (zw mN hr (by lia) (z9 (z8 0) (z9 zz (z9 (zq yi rfl aB yy (z9 (z8 1) z6)) z6)))))
  (z5 (zn 6 nd (ze yg rfl aC yo (z9 (yc (ixs:=[0]) (zo (own:=["_law_k"]) (N:=["_law_script"]) rfl rfl rfl rfl rfl rfl rfl (by decide +kernel) rfl rfl rfl) rfl (yp rfl aA (z9 (zq yi rfl aB yy (z9 (z8 1) z6)) z6)) (λ_ _ _ _=>yu) (λ_ _ _ _=>(zt zj zz (zt ue (zw cE hr (by lia) (z9 (z8 1) (z9 (zt zj zz (z8 0)) z6))) zz))) rfl) z6)))
  (z5 (zn 7 nd (ze yg rfl aC yo (z9 (yc (ixs:=[4]) (zo (own:=["_law_number"]) (N:=["_law_judges"]) rfl rfl rfl rfl rfl rfl rfl (by decide +kernel) rfl rfl rfl) rfl (yp rfl aA (z9 (zq yi rfl aB yy (z9 (z8 1) z6)) z6)) (λ_ _ _ _=>yu) (λ_ _ _ _=>(zw aN hr (by lia) (z9 (z8 1) (z9 (z8 0) z6)))) rfl) z6)))
  (z5 (y6 (u5 (vv (zw cS hr (by lia) (z9 (zw kO hr (by lia) (z9 (V4 iN lJ) (z9 (z8 1) (z9 (z8 4) z6)))) (z9 (z8 1) (z9 (z8 4) (z9 (z8 7) z6))))))) (z4 (zv wn)) zm)
  (z5 (zn 8 nd (zw gC hr (by lia) (z9 (z8 2) (z9 (z8 4) (z9 (z8 6) z6)))))
  (z5 (y6 (u5 (vv (zw cS hr (by lia) (z9 (zw fV hr (by lia) (z9 (V5 kE hr (by lia) eN (z9 (z8 6) z6)) (z9 (z8 1) (z9 (z8 4) z6)))) (z9 (z8 1) (z9 (z8 4) (z9 (z8 8) z6))))))) (z4 (zv wn)) zm)
  (z5 (y6 (u5 (vv (zw dU hr (by lia) (z9 (zw fW hr (by lia) (z9 (V5 kF hr (by lia) eO (z9 (z8 5) z6)) (z9 (z8 1) (z9 (z8 4) z6)))) (z9 (z8 1) (z9 (z8 4) (z9 (z8 2) (z9 (z8 5) z6)))))))) (z4 (zv wn)) zm)
  (z4 (zv (zw dU hr (by lia) (z9 (zw eE hr (by lia) (z9 (V4 aX bP) (z9 (z8 1) (z9 (z8 4) z6)))) (z9 (z8 1) (z9 (z8 4) (z9 (z8 2) (z9 (zw iI hr (by lia) (z9 (z8 4) z6)) z6))))))))))))))))))),?_⟩
 walk_at"rp";refine⟨a,ns,rfl,hS,cI,λb H1 us ts xs s1 hb hT hL Ax nI=>?_⟩;have lK:=hL.hi;have aH:=hT.len;walk_at"rp";refine⟨b,us,ts,xs,rfl,hb,hT,hL,λd H2 ss R n2 s2 e2 hR hN hF oS=>?_⟩;have oU:=Vq hF;have iL:∀r∈R,r.2.length=ts.length:=λr hr=>u8 hF (yG (f:=(·.2)) hr);have oH:=s1.trans s2;walk_at"rp";refine⟨a,ns,_,11,rfl,oH.seq hS,cI,by decide,by decide,by decide,λy y0 y5=>?_⟩;walk_at"rp";obtain⟨n,en,hn1,hn21⟩:∃n:Nat,1+2*y=(n:Int)/\1<=n/\n<=21:=⟨(1+2*y).toNat,by lia,by lia,by lia⟩
 rw[en];refine⟨cm (by decide),?_⟩;walk_at"rp";refine⟨⟨by lia,by lia⟩,λC' s₀ H₀ ex=>?_⟩;rw[yW];refine yd (λD i ys H3=>∃J:List (Addr×List Bool),ys=(J.map λr=>V.ref r.1)/\J.length=i/\(∀r∈J,r∈R)/\H3 D=some (.lst ys)/\Same H2 H3/\H2 D=none) (by rw[zM];lia) ?_ ?_ ?_ ?_
 ·intro D H3 n3 s3 e3;exact⟨[],rfl,rfl,λr hr=>(by simp at hr),e3,s3,n3⟩
 ·rintro D i ys H3 ⟨J,rfl,hl,_,e3,s3,_⟩;exact⟨e3,by rw[zY,hl]⟩
 ·rintro D i ys H3 hi ⟨J,rfl,hl,hJ,e3,s3,n3⟩;walk_at"rp";refine⟨a,ns,_,rfl,(oH.trans s3).seq hS,cI,by lia,by lia,λcc=>?_⟩;walk_at"rp";refine⟨_,.inl (SqL.of (s3 _ _ e2)),?_⟩;rw[zY];have Aw:(0:Int)<(R.length:Int):=by lia
  obtain⟨v,hv,ev⟩:=jo (xs:=R.map λr=>V.ref r.1) (k:=cc % (R.length:Int)) (uK _ (by lia)) (by rw[zY];exact vC _ Aw);obtain⟨r',gH,rfl⟩:=zD.mp hv;refine⟨Aw,?_⟩;walk_at"rp";refine⟨_,_,.inl (SqL.of (s3 _ _ e2)),ev,?_⟩;walk_at"rp";refine⟨e3,CN.mk hi ⟨J++[r'],by rw[zJ];rfl,by rw[zP,hl];rfl,λx hx=>?_,zx,zu s3 n3 _,n3⟩⟩;rcases zK.mp hx with z|z
  ·exact hJ x z
  ·rw[zO.mp z];exact gH
 rintro D3 ys H3 ⟨J,rfl,hl,Cd,e3,s3,n3⟩;walk_at"rp";refine⟨_,.inl (SqL.of e3),λj H4 s4 h4=>?_⟩;have qB:=s3.trans s4;have hJ4:JudgesAt K H4 j J ts.length:=⟨h4,λr hr=>(z7 qB).sqT (hR r (Cd r hr)),λr hr=>iL r (Cd r hr),by lia,by lia⟩
 walk_at"rp";have s14:=s2.trans qB;refine⟨_,.inr ((z7 s14).sqT hb),?_⟩;rw[aH];refine⟨a,ns,20,ts.length,rfl,(s1.trans s14).seq hS,cI,by decide,by lia,λo H5 ord s5 ho cZ iS=>?_⟩;walk_at"rp";have C0:=s14.trans s5;refine⟨_,.inr ((z7 C0).sqT hb),?_⟩;rw[aH];refine⟨⟨by lia,by lia⟩,λC' s₀ H₀ ex=>?_⟩;rw[yW];refine yd (λD i ys H7=>∃ws:List Int,ys=ws.map V.int/\ws.length=i/\H7 D=some (.lst ys)/\Same H5 H7/\H5 D=none) (by rw[zM];lia) ?_ ?_ ?_ ?_
 ·intro D H7 n7 s7 e7;exact⟨[],rfl,rfl,e7,s7,n7⟩
 ·rintro D i ys H7 ⟨ws,rfl,CH,e7,s7,_⟩;exact⟨e7,by rw[zY,CH]⟩
 ·rintro D i ys H7 hi ⟨ws,rfl,CH,e7,s7,n7⟩;walk_at"rp";refine⟨a,ns,_,rfl,(s1.trans (C0.trans s7)).seq hS,cI,by lia,by lia,λcc=>?_⟩;walk_at"rp";refine⟨by decide,?_⟩;walk_at"rp";exact⟨e7,CN.mk hi ⟨ws++[1+cc % 3],by rw[zJ];rfl,by rw[zP,CH];rfl,zx,zu s7 n7 _,n7⟩⟩
 rintro D7 ys7 H7 ⟨ws,rfl,CH,e7,s7,n7⟩;walk_at"rp";refine⟨_,.inl (SqL.of e7),λwt H8 s8 h8=>?_⟩;have B9:=s7.trans s8;have s18:=C0.trans B9;have J8:=hJ4.mono (z7 (s5.trans B9));walk_at"rp";refine⟨_,.inr ((z7 s18).sqT hb),?_⟩;rw[aH];refine⟨⟨by lia,by lia⟩,λC' s₀ H₀ ex=>?_⟩;rw[yW];refine yd (λD i ys H9=>ys=(xk (J.map (·.2)) i).map V.bl/\H9 D=some (.lst ys)/\Same H8 H9/\H8 D=none) (by rw[zM];lia) ?_ ?_ ?_ ?_
 ·intro D H9 n9 s9 e9;exact⟨rfl,e9,s9,n9⟩
 ·rintro D i ys H9 ⟨rfl,e9,s9,_⟩;exact⟨e9,by rw[zY,xo]⟩
 ·rintro D i ys H9 hi ⟨rfl,e9,s9,n9⟩;walk_at"rp";rw[wJ];refine⟨j,J,ts.length,i,rfl,J8.mono (z7 s9),hi,λbZ mX=>?_⟩;walk_at"rp";refine⟨mX _ _ e9,CN.mk hi ⟨?_,zx,zu (s9.trans mX) n9 _,n9⟩⟩;rw[qe,zJ]
  rfl
 rintro D9 ys9 H9 ⟨rfl,e9,s9,n9⟩;walk_at"rp";refine⟨_,.inl (SqL.of e9),λrm bZ mX A6=>?_⟩;have qI:=s9.trans mX;have lF:=s18.trans qI;have pP:Tb Pt bZ:=cU.same (s1.trans lF);have Bx:=(z7 lF).sqT hb;have Bz:=hT.mono (z7 lF);have Al:=J8.mono (z7 qI);have pD:Same H2 bZ:=qB.trans (s5.trans (B9.trans qI));have d10:=pD _ _ e2;have R10:∀r∈R,SqT K bZ r.1 (r.2.map V.bl):=λr hr=>(z7 pD).sqT (hR r hr);have o10:=(z7 (B9.trans qI)).sqT ho;have w10:=(z7 qI).sqT h8;have hmr:=xo (J.map (·.2)) ts.length;have FH:∀r∈J,r.2∈R.map (·.2):=λr hr=>yG (f:=(·.2)) (Cd r hr);clear s₀ H₀ ex C' e9 n9 e7 n7 e3 n3;walk_at"rp";intro x0 d0 nx0 nd0 ne0;have Du:Same bZ (upd (upd bZ d0 (.own x0)) x0 (.ins CM d0 [])):=zu (zu (Same.refl _) nd0 _) nx0 _;have i0:(upd (upd bZ d0 (.own x0)) x0 (.ins CM d0 [])) x0=some (.ins CM d0 []):=zx;generalize(upd (upd bZ d0 (.own x0)) x0 (.ins CM d0 []))=H11 at Du i0 ⊢;have Ab:=z7 Du;refine⟨(),x0,d0,b,j,[],us,ts,xs,J,rfl,i0,rfl,rfl,rfl,Ab.sqT Bx,Bz.mono Ab,hL,Al.mono Ab,pP.same Du,λmU row1 ls1 zs1 eZ T12 oO Er iP hzz1 hls1=>?_⟩;have S12:SameP Pt bZ mU:=(wk Du).trans eZ;have Aa:=xt pP S12;have ez:=Pc (RT:=RTm) (λa c h1 h2=>Eq.trans h1 (Eq.symm h2)) Er oO iP hzz1;subst ez;have er:row1=xk (J.map (·.2)) ts.length:=Er;subst er;walk_at"rp";refine⟨b,j,rm,us,ts,xs,ls1,_,J,rfl,Aa.sqT Bx,Bz.mono Aa,hL,nI,Al.mono Aa,Aa.sqT A6,oO,hls1,λH13 AR=>?_⟩;have S13:SameP Pt bZ H13:=S12.trans (wk AR);have t13:=xt pP S13;have T13:=T12.same AR;walk_at"rp";refine⟨d,j,wt,R,J,ws,ts.length,rfl,qx pP S13 d10,λr hr=>t13.sqT (R10 r hr),iL,oU,oS,by lia,Al.mono t13,t13.sqT w10,CH,λrn GJ Dt hrn EL=>?_⟩;have S14:SameP Pt bZ GJ:=S13.trans (wk Dt);have T14:=T13.same Dt;walk_at"rp";intro x3 d3 nx3 nd3 ne3;refine⟨x3,d3,V.ref wt,rfl,zx,rfl,?_⟩;have BC:Same GJ (upd (upd (upd GJ d3 (.own x3)) x3 (.ins CZ d3 [])) x3 (.ins CZ d3 [((Str.ofString "weights":Str),.ref wt)])):=zu (zu (zu (Same.refl _) nd3 _) nx3 _) nx3 _;have i3:(upd (upd (upd GJ d3 (.own x3)) x3 (.ins CZ d3 [])) x3 (.ins CZ d3 [((Str.ofString "weights":Str),.ref wt)])) x3=some (.ins CZ d3 [((Str.ofString "weights":Str),.ref wt)]):=zx;generalize(upd (upd (upd GJ d3 (.own x3)) x3 (.ins CZ d3 [])) x3 (.ins CZ d3 [((Str.ofString "weights":Str),.ref wt)]))=H15 at BC i3 ⊢;have S15:SameP Pt bZ H15:=S14.trans (wk BC);have t15:=xt pP S15;have T15:=T14.same BC;have hrt:RTn ws ts (J.map (·.2)) rn.2:=⟨ss,_,hN,hF,EL⟩
 refine⟨ws,x3,d3,b,j,_,us,ts,xs,J,rfl,i3,⟨_,rfl,.inr ⟨wt,rfl,t15.sqT w10,CH⟩⟩,rfl,rfl,t15.sqT Bx,Bz.mono t15,hL,Al.mono t15,T15,λH16 row2 ls2 zs2 An T16 kL Ep oK hzz2 hls2=>?_⟩;have S16:SameP Pt bZ H16:=S15.trans An;have t16:=xt pP S16;have ez:=Pc (RT:=RTn) (λa c h1 h2=>Zg h1 h2) Ep kL oK hzz2;subst ez;have er:=Zg Ep hrt;subst er;walk_at"rp";refine⟨b,j,rn.1,us,ts,xs,ls2,_,J,rfl,t16.sqT Bx,Bz.mono t16,hL,nI,Al.mono t16,t16.sqT (R10 rn hrn),kL,hls2,λGI s17=>?_⟩;have S17:SameP Pt bZ GI:=S16.trans (wk s17);have T17:=T16.same s17;walk_at"rp";intro x1 d1 nx1 nd1 ne1;refine⟨x1,d1,V.ref o,rfl,zx,rfl,?_⟩;have BB:Same GI (upd (upd (upd GI d1 (.own x1)) x1 (.ins CI d1 [])) x1 (.ins CI d1 [((Str.ofString "order":Str),.ref o)])):=zu (zu (zu (Same.refl _) nd1 _) nx1 _) nx1 _;have i1:(upd (upd (upd GI d1 (.own x1)) x1 (.ins CI d1 [])) x1 (.ins CI d1 [((Str.ofString "order":Str),.ref o)])) x1=some (.ins CI d1 [((Str.ofString "order":Str),.ref o)]):=zx;generalize(upd (upd (upd GI d1 (.own x1)) x1 (.ins CI d1 [])) x1 (.ins CI d1 [((Str.ofString "order":Str),.ref o)]))=H18 at BB i1 ⊢;have S18:SameP Pt bZ H18:=S17.trans (wk BB);have t18:=xt pP S18;have T18:=T17.same BB;refine⟨ord,x1,d1,b,j,_,us,ts,xs,J,rfl,i1,⟨o,rfl,t18.sqT o10,cZ,iS⟩,rfl,rfl,t18.sqT Bx,Bz.mono t18,hL,Al.mono t18,T18,λH19 row3 ls3 zs3 s19 T19 ER hrr3 hz3 hzz3 hls3=>?_⟩;have S19:SameP Pt bZ H19:=S18.trans s19;have Dl:=xt pP S19;have hoz:=Q3 (OI:=OI0) hN hF (λo' h=>h) hzz3;obtain⟨ss3,R3,hN3,hF3,hri3⟩:=hrr3;have es:=NamesOf.eq hN3 hN;subst es;have eR:=FitRows.eq hF3 hF;subst eR;walk_at"rp";refine⟨b,j,d,o,us,ts,xs,ls3,zs3,row3,R,J,ord,rfl,Dl.sqT Bx,Bz.mono Dl,hL,nI,Al.mono Dl,FH,qx pP S19 d10,λr hr=>Dl.sqT (R10 r hr),iL,oU,oS,Dl.sqT o10,cZ,iS,ER,hri3,hz3,hoz,hls3,λGH s20=>?_⟩;have S20:SameP Pt bZ GH:=S19.trans (wk s20);have T20:=T19.same s20;walk_at"rp";intro x2 d2 nx2 nd2 ne2;have s21:Same GH (upd (upd GH d2 (.own x2)) x2 (.ins CB d2 [])):=zu (zu (Same.refl _) nd2 _) nx2 _;have i2:(upd (upd GH d2 (.own x2)) x2 (.ins CB d2 [])) x2=some (.ins CB d2 []):=zx;generalize(upd (upd GH d2 (.own x2)) x2 (.ins CB d2 []))=H21 at s21 i2 ⊢;have S21:SameP Pt bZ H21:=S20.trans (wk s21);have t21:=xt pP S21;have T21:=T20.same s21;refine⟨(),x2,d2,b,j,[],us,ts,xs,J,rfl,i2,rfl,rfl,rfl,t21.sqT Bx,Bz.mono t21,hL,Al.mono t21,T21,λH22 row4 ls4 zs4 s22 T22 hl4 hrr4 hz4 hzz4 hls4=>?_⟩;have S22:SameP Pt bZ H22:=S21.trans s22;have t22:=xt pP S22;walk_at"rp";refine⟨j,J,ts.length,rfl,Al.mono t22,by lia,λo2 H23 DB AQ Ay iK hst2=>?_⟩;have S23:SameP Pt bZ H23:=S22.trans (wk AQ);have t23:=xt pP S23;have EC:OI1 () ts.length (J.map (·.2)) DB:=⟨iK,hst2⟩
 have hoz4:=Q3 (OI:=OI1) hN3 hF3 (λo' h=>aa h EC) hzz4;obtain⟨ss4,R4,hN4,hF4,hri4⟩:=hrr4;have es:=NamesOf.eq hN4 hN3;subst es;have eR:=FitRows.eq hF4 hF3;subst eR;have Eu:=K7 EC hri4;walk_at"rp";exact⟨b,j,d,o2,us,ts,xs,ls4,zs4,row4,R,J,DB,rfl,t23.sqT Bx,Bz.mono t23,hL,nI,Al.mono t23,FH,qx pP S23 d10,λr hr=>t23.sqT (R10 r hr),iL,oU,oS,Ay,(si iK).1,(si iK).2,hl4,Eu,hz4,hoz4,hls4,λH24 _=>q H24⟩
end
end Kx
namespace Kx
open PySem PySem.Spec L2 My
open PyProof.Rows hiding St
theorem Lh{K:W.Frag}{x:Str}{f c P:Addr}{oc oc2:Value}{od od2:Option Addr}{fd:FuncData}{sl Cz:Array (Option Value)}{vs:Array Value}(a:W.nsIn K mainGlobals x=some (some (.ref f)))(l:K.lookup f=some ⟨oc,od,.func fd,sl⟩)(hc:fd.code = .ref c)(lc:K.lookup c=some ⟨oc2,od2,.fields vs,Cz⟩)(hv:(vs[11]?:Option Value)=some (.ref P)):W.tabIn K x=some (c,P):=by
 unfold W.tabIn;rw[a];dsimp only;rw[l];dsimp only;rw[hc];dsimp only;rw[lc];dsimp only;rw[hv]
theorem all_mk{l:W.OpenLaw}{w:World}{K:W.Frag}{h:Heap}{mg:Str->Option Value}{fa:Addr}(X:K.In h)(G:h.Ns mainGlobals mg)(hfa:mg "law"=some (.ref fa))
  {Cj:Addr}{DG GC:Option Addr}{Dr:Array (Option Value)}{DJ D' FQ D6 Bu FT:Value}
  {Bp:Addr}{Dd:Value}{Dj:Option Addr}{Df:Nat}{Dh:Array (Option Value)}
  {Ci:Addr}{DF GB:Option Addr}{Dq:Array (Option Value)}{DI DZ FP D5 Bs FS:Value}
  {Bo:Addr}{Dc:Value}{Di:Option Addr}{De:Nat}{Dg:Array (Option Value)}
  {Ch:Addr}{DE GA:Option Addr}{Dp:Array (Option Value)}{DH DY FO D0 rF FR:Value}
  {cL pL:Addr}{lo_L:Value}{ld_L:Option Addr}{CY:Array Value}{ls_L:Array (Option Value)}
  {rC:Addr}{BE rH:Option Addr}{B6:Array (Option Value)}{BF qM rD qK nN rE:Value}
  {jD:Addr}
  {aL:Addr}
  {bK:Addr}{gZ iH:Option Addr}{gU:Array (Option Value)}{hV hX iD gX cN iF:Value}
  {aS:Addr}
  {aK:Addr}
  {bJ:Addr}{gY iG:Option Addr}{gT:Array (Option Value)}{hU hW iC gW cM iE:Value}
  {cK:Addr}{gP:Value}{gS:Option Addr}{gQ:Nat}{gR:Array (Option Value)}
  (oW:Def K mg "shown" (top 1) ["saying"])
  (gJ:Def K mg "yes_or_no" (top 3) ["truth"])
  (dN:Def K mg "judges_shown" (top 4) ["numbers"])
  (fG:Def K mg "part_shown" (top 5) ["part"])
  (dI:Def K mg "reason_shown" (top 6) ["reason"])
  (jH:Def K mg "line_for" (top 7) ["truth","saying","reason"])
  (dH:Def K mg "report" (top 8) ["way","sayings","judges"])
  (lA:Def K mg "who_say" (top 10) ["judges","number","truth"])
  (dJ:Def K mg "most_say_yes" (top 11) ["judges","number"])
  (rJ:Def K mg "most" (top 12) ["judges"])
  (fH:Def K mg "letters_in" (top 14) ["saying"])
  (jG:Def K mg "names_in" (top 15) ["saying"])
  (oX:Def K mg "is_so" (top 16) ["saying","held"])
  (dG:Def K mg "ways_to_hold" (top 18) ["names"])
  (lD:Def K mg "held_by" (top 19) ["number","names"])
  (jF:Def K mg "names_of" (top 21) ["sayings"])
  (jT:Def K mg "all_held" (top 22) ["sayings"])
  (mI:Def K mg "row_of" (top 23) ["sayings","held"])
  (jS:Def K mg "fit_rows" (top 24) ["sayings"])
  (mK:Def K mg "agrees" (top 25) ["row","part"])
  (fM:Def K mg "any_agrees" (top 26) ["rows","part"])
  (eJ:Def K mg "weights_for" (top 28) ["row","weights"])
  (mH:Def K mg "unlike" (top 29) ["row","other","weights"])
  (GF:W.nsIn K mainGlobals "distance"=some (some (.ref Cj))) (DT:K.lookup Cj=some ⟨DJ,DG,.func (W.fnOf "distance" "distance" (yt (top 30)) (zc (top 30)) (zr (top 30)) (.ref Bp) D' FQ D6 GC Bu FT),Dr⟩) (FY:W.codeIn K Bu "distance"=true) (DX:W.keepIn K (.ref Cj)=true) (B4:K.lookup Bp=some ⟨Dd,Dj,.seq #[.none] Df,Dh⟩)
  (GD:W.nsIn K mainGlobals "nearest"=some (some (.ref Ci))) (DS:K.lookup Ci=some ⟨DI,DF,.func (W.fnOf "nearest" "nearest" (yt (top 31)) (zc (top 31)) (zr (top 31)) (.ref Bo) DZ FP D5 GB Bs FS),Dq⟩) (FX:W.codeIn K Bs "nearest"=true) (DW:W.keepIn K (.ref Ci)=true) (B3:K.lookup Bo=some ⟨Dc,Di,.seq #[.none] De,Dg⟩)
  (kZ:Def K mg "without" (top 33) ["part","pair"])
  (bV:Def K mg "needed_against" (top 34) ["rows","part","others"])
  (dO:Def K mg "by_judges" (top 36) ["judges","number","truth"])
  (lE:Def K mg "by_part" (top 37) ["rows","part","number","truth"])
  (jR:Def K mg "in_order" (top 38) ["sayings","judges","order"])
  (cR:Def K mg "all_by_judges" (top 40) ["judges","row"])
  (jE:Def K mg "strength" (top 41) ["judges","number"])
  (Cp:W.nsIn K mainGlobals "order_of_strength"=some (some (.ref Ch))) (BG:K.lookup Ch=some ⟨DH,DE,.func (W.fnOf "order_of_strength" "order_of_strength" (yt (top 42)) (zc (top 42)) (zr (top 42)) .none DY FO D0 GA rF FR),Dp⟩) (FW:W.codeIn K rF "order_of_strength"=true) (DV:W.keepIn K (.ref Ch)=true)
  (Co:rF = .ref cL) (DQ:K.lookup cL=some ⟨lo_L,ld_L,.fields CY,ls_L⟩) (Dw:(CY[11]?:Option Value)=some (.ref pL)) (Dz:K.lookup pL=none)
  (jQ:Def K mg "_law_cell" (top 49) ["_law_script","_law_k"])
  (jI:Def K mg "_law_pick" (top 50) ["_law_script","_law_k","_law_many"])
  (jK:Def K mg "_law_next" (top 51) ["_law_k","_law_j"])
  (gN:Def K mg "_law_names" (top 52) ["_law_script","_law_k","_law_many"])
  (fJ:Def K mg "_law_saying" (top 53) ["_law_script","_law_k","_law_room","_law_names_here"])
  (mJ:Def K mg "_law_so" (top 54) ["_law_saying_here","_law_held_here"])
  (jN:Def K mg "_law_held" (top 55) ["_law_number","_law_names_here"])
  (fI:Def K mg "_law_within" (top 56) ["_law_saying_here"])
  (cQ:Def K mg "_law_all_names" (top 57) ["_law_sayings"])
  (jM:Def K mg "_law_knit" (top 58) ["_law_names_here","_law_truths","_law_word"])
  (fL:Def K mg "_law_linked" (top 59) ["_law_script","_law_k","_law_names_here"])
  (jL:Def K mg "_law_list" (top 60) ["_law_script","_law_k"])
  (lB:Def K mg "_law_row" (top 61) ["_law_sayings","_law_held_here"])
  (dL:Def K mg "_law_fit_rows" (top 62) ["_law_sayings"])
  (gM:Def K mg "_law_order" (top 63) ["_law_script","_law_k","_law_many"])
  (bR:Def K mg "_law_most_of" (top 64) ["_law_judges","_law_number"])
  (gK:Def K mg "_law_taken" (top 65) ["_law_fit","_law_judges","_law_order_here"])
  (cO:Def K mg "_law_strongest" (top 66) ["_law_judges"])
  (lC:Def K mg "_law_far" (top 67) ["_law_row_here","_law_judges","_law_weights"])
  (bX:Def K mg "_law_first_near" (top 68) ["_law_fit","_law_judges","_law_weights"])
  (gL:Def K mg "_law_shown" (top 69) ["_law_saying_here"])
  (jP:Def K mg "_law_goes" (top 70) ["_law_fit","_law_part_here","_law_number","_law_truth"])
  (jO:Def K mg "_law_head" (top 71) ["_law_saying_here","_law_truth"])
  (fK:Def K mg "_law_sayers" (top 72) ["_law_judges","_law_number","_law_truth"])
  (jJ:Def K mg "_law_part" (top 73) ["_law_line","_law_row_here","_law_ahead"])
  (bW:Def K mg "_law_follows_so" (top 74) ["_law_line","_law_fit","_law_row_here","_law_number","_law_ahead"])
  (gO:Def K mg "_law_lines" (top 75) ["_law_found","_law_sayings","_law_row_here"])
  (cP:Def K mg "_law_by_judges" (top 76) ["_law_found","_law_sayings","_law_judges","_law_row_here"])
  (dM:Def K mg "_law_by_order" (top 77) ["_law_found","_law_sayings","_law_judges","_law_fit","_law_order_here"])
  (By:W.nsIn K mainGlobals "law"=some (some (.ref rC))) (AT:K.lookup rC=some ⟨BF,BE,.func (W.fnOf "law" "law" (yt (top 78)) (zc (top 78)) (zr (top 78)) .none qM rD qK rH nN rE),B6⟩) (Bv:W.codeIn K nN "law"=true) (AU:W.keepIn K (.ref rC)=true)
  (oV:W.nsIn K mainGlobals "Most"=some (some (.ref jD))) (AE:Cls K jD) (iN:Mk0 K jD)
  (jV:DefM K jD "row" "Most.row" (xp (top 44) 0) ["self","sayings","judges"])
  (dP:DefM K jD "reasons" "Most.reasons" (xp (top 44) 1) ["self","sayings","judges"])
  (jC:W.nsIn K mainGlobals "InOrder"=some (some (.ref aL))) (cG:Cls K aL) (iY:W.makesIn K aL=true) (jA:W.keepIn K (.ref aL)=true)
  (dF:W.findIn K (.ref aL) "__init__"=some (some (.ref bK))) (cY:K.lookup bK=some ⟨hV,gZ,.func (W.fnOf "__init__" "InOrder.__init__" (yt (xp (top 45) 0)) (zc (xp (top 45) 0)) (zr (xp (top 45) 0)) .none hX iD gX iH cN iF),gU⟩) (dD:W.codeIn K cN "InOrder.__init__"=true) (cW:W.isFn K (.ref bK)=true) (aO:NoAttr K aL "order")
  (eM:DefM K aL "row" "InOrder.row" (xp (top 45) 1) ["self","sayings","judges"])
  (bN:DefM K aL "reasons" "InOrder.reasons" (xp (top 45) 2) ["self","sayings","judges"])
  (eG:W.nsIn K mainGlobals "ByStrength"=some (some (.ref aS))) (kQ:Cls K aS) (aX:Mk0 K aS)
  (bY:DefM K aS "row" "ByStrength.row" (xp (top 46) 0) ["self","sayings","judges"])
  (aY:DefM K aS "reasons" "ByStrength.reasons" (xp (top 46) 1) ["self","sayings","judges"])
  (jB:W.nsIn K mainGlobals "Nearest"=some (some (.ref aK))) (eY:Cls K aK) (iX:W.makesIn K aK=true) (iZ:W.keepIn K (.ref aK)=true)
  (dE:W.findIn K (.ref aK) "__init__"=some (some (.ref bJ))) (cX:K.lookup bJ=some ⟨hU,gY,.func (W.fnOf "__init__" "Nearest.__init__" (yt (xp (top 47) 0)) (zc (xp (top 47) 0)) (zr (xp (top 47) 0)) (.ref cK) hW iC gW iG cM iE),gT⟩) (dC:W.codeIn K cM "Nearest.__init__"=true) (cV:W.isFn K (.ref bJ)=true) (bB:NoAttr K aK "weights") (bG:K.lookup cK=some ⟨gP,gS,.seq #[.none] gQ,gR⟩)
  (eL:DefM K aK "row" "Nearest.row" (xp (top 47) 1) ["self","sayings","judges"])
  (bM:DefM K aK "reasons" "Nearest.reasons" (xp (top 47) 2) ["self","sayings","judges"])
  (AL:W.nsIn K mainGlobals "len"=some none)
  (oB:W.nsIn K mainGlobals "range"=some none)
  (AK:W.nsIn K mainGlobals "max"=some none)
  (AJ:W.nsIn K mainGlobals "min"=some none)
  (fA:W.nsIn K mainGlobals "isinstance"=some none)
  (oA:W.nsIn K mainGlobals "tuple"=some none)
  (qF:W.nsIn K mainGlobals "list"=some none)
  (lR:W.nsIn K mainGlobals "sorted"=some none)
  (AI:W.nsIn K mainGlobals "set"=some none)
  (qG:W.nsIn K mainGlobals "bool"=some none)
  (AG:W.nsIn K mainGlobals "sum"=some none)
  (AF:W.nsIn K mainGlobals "zip"=some none)
  (gD:W.nsIn K mainGlobals "enumerate"=some none)
  (AN:W.nsIn K mainGlobals "abs"=some none)
  (AM:W.nsIn K mainGlobals "int"=some none)
  (AH:W.nsIn K mainGlobals "str"=some none) :
  ∃(fd:FuncData)(c P:Addr),(∀(s:Shared)(v:Value),BindsTo s fd ⟨[v],[]⟩ [("_law_script",v)])/\W.tabIn K "order_of_strength"=some (c,P)/\K.lookup P=none/\∀base:Heap,K.In base->base.Ns mainGlobals mg->Ze base mg c P->FnOk l.prog w K mg base CX0 50 fa fd ["_law_script"] (eu K P):=by
 have e:=hfa.symm.trans (uF X G By);cases e;have nO:DefD K mg "distance" (top 30) ["row","judges","weights"] [.none]:=Vp X G GF DT FY DX (r8 B4 rfl rfl λus hl=>match us,hl with|[_,_,_],_=>⟨_,rfl,rfl⟩) (r8 B4 rfl rfl λus hl=>match us,(show us.length=2 by simpa using hl)with|[_,_],_=>⟨_,rfl,rfl⟩);have pQ:DefD K mg "nearest" (top 31) ["sayings","judges","weights"] [.none]:=Vp X G GD DS FX DW (r8 B3 rfl rfl λus hl=>match us,hl with|[_,_,_],_=>⟨_,rfl,rfl⟩) (r8 B3 rfl rfl λus hl=>match us,(show us.length=2 by simpa using hl)with|[_,_],_=>⟨_,rfl,rfl⟩);have eC:DefL K mg "order_of_strength" (top 42) ["judges"] cL:=Mh X G Cp BG FW DV Co λ_ _ _ _ _ _ us hl=>by obtain⟨_,e⟩:=len1 hl;rw[e];rfl
 have eB:W.tabIn K "order_of_strength"=some (cL,pL):=Lh Cp BG Co DQ Dw;have lJ:=uF X G oV;have eO:=uF X G jC;have jW:DefN K aL "InOrder.__init__" (xp (top 45) 0) ["self","order"] []:=Vo dF cY dD cW iY jA (.all λus hl=>by obtain⟨_,_,e⟩:=len2 hl;rw[e];rfl) (.all λus hl=>by obtain⟨_,_,e⟩:=len2 hl;rw[e];rfl);have bP:=uF X G eG;have eN:=uF X G jB;have jU:DefN K aK "Nearest.__init__" (xp (top 47) 0) ["self","weights"] [.none]:=Vo dE cX dC cV iX iZ (r8 bG rfl rfl λus hl=>match us,hl with|[_,_],_=>⟨_,rfl,rfl⟩) (r8 bG rfl rfl λus hl=>match us,(show us.length=1 by simpa using hl)with|[_],_=>⟨_,rfl,rfl⟩);have aB:=yC X G AL;have aA:=yC X G oB;have lI:=yC X G AK;have aV:=yC X G AJ;have bO:=yC X G fA;have aC:=yC X G oA;have dX:=yC X G qF;have aF:=yC X G lR;have aQ:=yC X G AI;have mg_bool:=yC X G qG;have mY:=yC X G AG;have bC:=yC X G AF;have aJ:=yC X G gD;have fP:=yC X G AN;have fO:=yC X G AM;have aP:=yC X G AH;have GK:=Xf (st:=top 78) AT Bv AU;refine⟨W.fnOf "law" "law" (yt (top 78)) (zc (top 78)) (zr (top 78)) .none qM rD qK rH nN rE,cL,pL,λs v=>.of_eq rfl,eB,Dz,λbase _ _ LT=>?_⟩;have rS:=M6 (P:=l.prog) (w:=w) (base:=base) jQ aB;have fX:=Nl jI rS;have Cq:=Ni (P:=l.prog) (w:=w) (base:=base) jK;have AC:=Qu gN fX aB aA;have C_so:=af (P:=l.prog) (w:=w) (base:=base) oX 40;have pT:=X9 (P:=l.prog) (w:=w) (base:=base) jG (ko fH 40) aF aQ aC;have pS:=Ya jF pT aF aQ aC;have rR:=Uf (P:=l.prog) (w:=w) (base:=base) lD aC;have pY:=X4 jT pS rR (Nn dG) aA;have AA:=Qw mI C_so aC;have B2:=X7 jS pY AA aF aQ;have eW:=ac (P:=l.prog) (w:=w) (base:=base) nO (Yc eJ aC) (Us mH aJ) mY;have fZ:=Yb pQ B2 eW bC aV;have oY:=J9 (P:=l.prog) (w:=w) (base:=base) lA aJ;have gA:=Nf rJ (X8 dJ oY aB) aB aA aC;have pA:=ja fM (Ue (P:=l.prog) (w:=w) (base:=base) mK);have rO:=Um bV (Yd (P:=l.prog) (w:=w) (base:=base) kZ aC) pA;have dY:=ae jR B2 gA pA (qf dO oY aC) (X6 lE rO) aC aF aA aB;have B0:=J7 eC LT (ai jE oY aB fP) aB aA aF aC;have Ct:=Na (P:=l.prog) (w:=w) (base:=base) jN aC;have Cv:=ab (P:=l.prog) (w:=w) (base:=base) cQ (gq fI 40) aF aQ;have GO:=Uj (P:=l.prog) (w:=w) (base:=base) lB (ag mJ aV lI 40) aC;have Cs:=Ui dL Cv GO Ct aF aQ aA;have rM:=gp (P:=l.prog) (w:=w) (base:=base) fJ fX Cq aB 9;have rQ:=Uk fL fX (Nb jM aB aA) aB aA aV;have Cr:=Nd jL fX AC rQ rM aA aC;have AB:=Ul gM fX aB aA aC dX;have A9:=Qx gK (gn (P:=l.prog) (w:=w) (base:=base) bR aB) aB dX;have AD:=dt bX (J4 (P:=l.prog) (w:=w) (base:=base) lC aB aA) aV;have C_i0:=Ug (P:=l.prog) (w:=w) (mg:=mg) (base:=base) jW cG aO;have C_i2:=Uo (P:=l.prog) (w:=w) (mg:=mg) (base:=base) jU eY bB;have C_io:=Qq (Pt:=pL) eM cG aO dY;have GU:=Qr (Pt:=pL) bN cG aO dY;have C_bs:=Qn bY dY B0;have GX:=Qo aY dY B0;have GS:=Ng jV gA;have pB:=Ql cR (qf dO oY aC) aJ;have GR:=Nh dP GS pB;have GQ:=Qv (Pt:=pL) eL eY bB fZ;have GP:=Nj bM GQ pB;have B1:=gn (P:=l.prog) (w:=w) (base:=base) bR aB;have Cu:=M8 (P:=l.prog) (w:=w) (base:=base) jP aB;have GN:=G3 (P:=l.prog) (w:=w) (mg:=mg) (base:=base) gJ;have lN:=Nc jH GN (ah (P:=l.prog) (w:=w) (base:=base) oW 40) (Ur dI (Uh (P:=l.prog) (w:=w) (base:=base) dN aP) (Uq fG GN aP));have C_r0:=sg (Pt:=pL) (Fl:=λ_:Unit=>Fl1) (RR:=RTm) (TT:=TTt RTm) (λi H H' m fs t h=>h) dH (Rr (Jx GS)) (Ru (Jy GR)) lN bC;have C_r1:=sg (Fl:=Fl2 K) (RR:=RTn) (TT:=TTt RTn) (λi H H' m fs t h=>by obtain⟨v,e,hw⟩:=h;exact⟨v,e,hw.mono t⟩) dH (Rr (Jz GQ)) (Ru (J3 GP)) lN bC;have C_r2:=sg (Fl:=Fl0 K) (RR:=ROt RI0) (TT:=TTo OI0) (λi H H' m fs t h=>by obtain⟨o,e,ho,r⟩:=h;exact⟨o,e,t.sqT ho,r⟩) dH (Rs C_io) (Rt (λi H m J fs o h e=>by obtain⟨o',_,_,h3,h4⟩:=h;rw[show o=i from e];exact(vF h3 vI).mpr λn=>by rw[h4,yH]) GU) lN bC;have C_r3:=sg (Fl:=λ_:Unit=>Fl1) (RR:=ROt λ_=>RI1) (TT:=TTo OI1) (λi H H' m fs t h=>h) dH (Rs C_bs) (Rt (λi H m J fs o h e=>e.1) (xn GX (zU _) λvs H Q E ⟨_,h⟩=>h)) lN bC;have rP:=Qt (P:=l.prog) (w:=w) (base:=base) fK aB aA aP;have oZ:=Qs gO (M9 jO (gm (P:=l.prog) (w:=w) (base:=base) gL 40) fO) bO aP aB bC;have GW:=M4 cP rP oZ aB aA;have GV:=M5 dM A9 oZ B1 rP (M7 bW (Nk (P:=l.prog) (w:=w) (base:=base) jJ aB fO aP aC) Cu aB aA) aB aA;have rL:=du (P:=l.prog) (w:=w) (base:=base) cO aB aA fP aF aC;exact J5 GK Cr Cs rS fX AB B1 AD rL C_r0 C_r1 C_r2 C_r3 GW GV iN lJ C_i0 eO aX bP C_i2 eN aB aA aC
theorem walk{l:W.OpenLaw}{q:Program}{kR:List Str}{XP:(Str->Option Value)->Heap->Prop}{YP:World->Heap->Prop}{d:DefRec}{K:Params->W.Frag}(hn:l.most=some 63)(EX:d.params.defaults=[])
  (hY:∀(w:World)(h:Heap),YP w h->(K w.params).In h) (qP:((recsOf q).find? (λe=>e.name==("order_of_strength":Str))).isSome=true)
  (F:∀(w:World)(mg:Str->Option Value)(fa:Addr)(h:Heap),(K w.params).In h->h.Ns mainGlobals mg->mg d.name=some (.ref fa) ->
   ∃(fd:FuncData)(c P:Addr),(∀(s:Shared)(u:Value),BindsTo s fd ⟨[u],[]⟩ [("_law_script",u)])/\W.tabIn (K w.params) "order_of_strength"=some (c,P)/\(K w.params).lookup P=none/\∀base:Heap,(K w.params).In base->base.Ns mainGlobals mg->Ze base mg c P->FnOk l.prog w (K w.params) mg base CX0 50 fa fd ["_law_script"] (eu (K w.params) P)) :
  W.WalkO q kR XP YP l.row.toRowW d [] (λf vs=>PySem.call f vs):=by
 obtain⟨d',oQ⟩:=uX.mp qP;exact Sz (n:=63) (k:=50) (x:="_law_script") (sp:=λw P=>eu (K w.params) P) hn (by decide) EX ⟨rfl,by decide,by decide⟩ hY oQ F λ_ P H a ns hl hP hS=>⟨a,ns,rfl,hS,hl,.inl hP,λ_=>rfl⟩
end Kx
open PySem PySem.W PyProof.Rows
local macro_rules|`(tactic| walk_at "zfd1")=>`(tactic| (refine' My.def_mk (by assumption) (by assumption) ?a ?l ?c ?k (fun _ _ _ _ _ _ us hl=>by obtain⟨_,e⟩:=My.len1 hl;rw[e];rfl);(case a=>k_is);(case l=>k_is);(case c=>k_is);(case k=>k_is)))
local macro_rules|`(tactic| walk_at "zfd2")=>`(tactic| (refine' My.def_mk (by assumption) (by assumption) ?a ?l ?c ?k (fun _ _ _ _ _ _ us hl=>by obtain⟨_,_,e⟩:=My.len2 hl;rw[e];rfl);(case a=>k_is);(case l=>k_is);(case c=>k_is);(case k=>k_is)))
local macro_rules|`(tactic| walk_at "zfd3")=>`(tactic| (refine' My.def_mk (by assumption) (by assumption) ?a ?l ?c ?k (fun _ _ _ _ _ _ us hl=>by obtain⟨_,_,_,e⟩:=My.len3 hl;rw[e];rfl);(case a=>k_is);(case l=>k_is);(case c=>k_is);(case k=>k_is)))
local macro_rules|`(tactic| walk_at "zfd4")=>`(tactic| (refine' My.def_mk (by assumption) (by assumption) ?a ?l ?c ?k (fun _ _ _ _ _ _ us hl=>by obtain⟨_,_,_,_,e⟩:=My.len4 hl;rw[e];rfl);(case a=>k_is);(case l=>k_is);(case c=>k_is);(case k=>k_is)))
local macro_rules|`(tactic| walk_at "zfd5")=>`(tactic| (refine' My.def_mk (by assumption) (by assumption) ?a ?l ?c ?k (fun _ _ _ _ _ _ us hl=>by obtain⟨_,_,_,_,_,e⟩:=My.len5 hl;rw[e];rfl);(case a=>k_is);(case l=>k_is);(case c=>k_is);(case k=>k_is)))
local macro_rules|`(tactic| walk_at "zfm3")=>`(tactic| (refine' My.defM_mk ?a ?l ?c ?k ?n (by walk_at "zfc") (fun _ _ _ _ _ _ us hl=>by obtain⟨_,_,_,e⟩:=My.len3 hl;rw[e];rfl);(case a=>k_is);(case l=>k_is);(case c=>k_is);(case k=>k_is);(case n=>k_is)))
local macro_rules|`(tactic| walk_at "zfc")=>`(tactic| (refine'⟨?g,?h,?o,?s⟩;(case g=>k_is);(case h=>k_is);(case o=>k_is);(case s=>k_is)))
local macro_rules|`(tactic| walk_at "zfk")=>`(tactic| (refine'⟨?m,?i,?k⟩;(case m=>k_is);(case i=>k_is);(case k=>k_is)))
set_option maxRecDepth 100000 in
set_option maxHeartbeats 0 in
theorem PySem.Challenge.cw_manyjudges_k64_reports_holds : PySem.Challenge.rw_manyjudges_k64_reports.Holds := by
 w_on;o_law;k_head;(case hw=>w_witness2)
 k_fill
 refine Kx.walk (l:=PySem.Challenge.rw_manyjudges_k64_reports) rfl rfl (λw h Y=>W.km_in_of Y) ?R ?F
 case R=>kernel_rfl
 case F =>
  intro w mg fa h KX G EM;refine' Kx.all_mk KX G EM ?oW ?gJ ?dN ?fG ?dI ?jH ?dH ?lA ?dJ ?rJ ?fH ?jG ?oX ?dG ?lD ?jF ?jT ?mI ?jS ?mK ?fM ?eJ ?mH ?GF ?DT ?B4 ?FY ?DX ?GD ?DS ?B3 ?FX ?DW ?kZ ?bV ?dO ?lE ?jR ?cR ?jE ?Cp ?BG ?FW ?DV ?Co ?DQ ?Dw ?Dz ?jQ ?jI ?jK ?gN ?fJ ?mJ ?jN ?fI ?cQ ?jM ?fL ?jL ?lB ?dL ?gM ?bR ?gK ?cO ?lC ?bX ?gL ?jP ?jO ?fK ?jJ ?bW ?gO ?cP ?dM ?By ?AT ?Bv ?AU ?oV ?AE ?iN ?jV ?dP ?jC ?cG ?iY ?jA ?dF ?cY ?dD ?cW ?aO ?eM ?bN ?eG ?kQ ?aX ?bY ?aY ?jB ?eY ?iX ?iZ ?dE ?cX ?dC ?cV ?bB ?bG ?eL ?bM ?AL ?oB ?AK ?AJ ?fA ?oA ?qF ?lR ?AI ?qG ?AG ?AF ?gD ?AN ?AM ?AH
  (case oW=>walk_at"zfd1")
  (case gJ=>walk_at"zfd1")
  (case dN=>walk_at"zfd1")
  (case fG=>walk_at"zfd1")
  (case dI=>walk_at"zfd1")
  (case jH=>walk_at"zfd3")
  (case dH=>walk_at"zfd3")
  (case lA=>walk_at"zfd3")
  (case dJ=>walk_at"zfd2")
  (case rJ=>walk_at"zfd1")
  (case fH=>walk_at"zfd1")
  (case jG=>walk_at"zfd1")
  (case oX=>walk_at"zfd2")
  (case dG=>walk_at"zfd1")
  (case lD=>walk_at"zfd2")
  (case jF=>walk_at"zfd1")
  (case jT=>walk_at"zfd1")
  (case mI=>walk_at"zfd2")
  (case jS=>walk_at"zfd1")
  (case mK=>walk_at"zfd2")
  (case fM=>walk_at"zfd2")
  (case eJ=>walk_at"zfd2")
  (case mH=>walk_at"zfd3")
  (case GF=>k_is);(case DT=>k_is);(case B4=>k_is);(case FY=>k_is);(case DX=>k_is)
  (case GD=>k_is);(case DS=>k_is);(case B3=>k_is);(case FX=>k_is);(case DW=>k_is)
  (case kZ=>walk_at"zfd2")
  (case bV=>walk_at"zfd3")
  (case dO=>walk_at"zfd3")
  (case lE=>walk_at"zfd4")
  (case jR=>walk_at"zfd3")
  (case cR=>walk_at"zfd2")
  (case jE=>walk_at"zfd2")
  (case Cp=>k_is);(case BG=>k_is);(case FW=>k_is);(case DV=>k_is)
  (case Co=>rfl);(case DQ=>k_is);(case Dw=>rfl);(case Dz=>kernel_rfl)
  (case jQ=>walk_at"zfd2")
  (case jI=>walk_at"zfd3")
  (case jK=>walk_at"zfd2")
  (case gN=>walk_at"zfd3")
  (case fJ=>walk_at"zfd4")
  (case mJ=>walk_at"zfd2")
  (case jN=>walk_at"zfd2")
  (case fI=>walk_at"zfd1")
  (case cQ=>walk_at"zfd1")
  (case jM=>walk_at"zfd3")
  (case fL=>walk_at"zfd3")
  (case jL=>walk_at"zfd2")
  (case lB=>walk_at"zfd2")
  (case dL=>walk_at"zfd1")
  (case gM=>walk_at"zfd3")
  (case bR=>walk_at"zfd2")
  (case gK=>walk_at"zfd3")
  (case cO=>walk_at"zfd1")
  (case lC=>walk_at"zfd3")
  (case bX=>walk_at"zfd3")
  (case gL=>walk_at"zfd1")
  (case jP=>walk_at"zfd4")
  (case jO=>walk_at"zfd2")
  (case fK=>walk_at"zfd3")
  (case jJ=>walk_at"zfd3")
  (case bW=>walk_at"zfd5")
  (case gO=>walk_at"zfd3")
  (case cP=>walk_at"zfd4")
  (case dM=>walk_at"zfd5")
  (case By=>k_is);(case AT=>k_is);(case Bv=>k_is);(case AU=>k_is)
  (case oV=>k_is);(case AE=>walk_at"zfc");(case iN=>walk_at"zfk")
  (case jV=>walk_at"zfm3")
  (case dP=>walk_at"zfm3")
  (case jC=>k_is);(case cG=>walk_at"zfc");(case iY=>k_is);(case jA=>k_is)
  (case dF=>k_is);(case cY=>k_is);(case dD=>k_is);(case cW=>k_is);(case aO=>(show W.findIn _ _ _=_;k_is))
  (case eM=>walk_at"zfm3")
  (case bN=>walk_at"zfm3")
  (case eG=>k_is);(case kQ=>walk_at"zfc");(case aX=>walk_at"zfk")
  (case bY=>walk_at"zfm3")
  (case aY=>walk_at"zfm3")
  (case jB=>k_is);(case eY=>walk_at"zfc");(case iX=>k_is);(case iZ=>k_is)
  (case dE=>k_is);(case cX=>k_is);(case dC=>k_is);(case cV=>k_is);(case bB=>(show W.findIn _ _ _=_;k_is));(case bG=>k_is)
  (case eL=>walk_at"zfm3")
  (case bM=>walk_at"zfm3")
  (case AL=>k_is)
  (case oB=>k_is)
  (case AK=>k_is)
  (case AJ=>k_is)
  (case fA=>k_is)
  (case oA=>k_is)
  (case qF=>k_is)
  (case lR=>k_is)
  (case AI=>k_is)
  (case qG=>k_is)
  (case AG=>k_is)
  (case AF=>k_is)
  (case gD=>k_is)
  (case AN=>k_is)
  (case AM=>k_is)
  (case AH=>k_is)
#print axioms PySem.Challenge.cw_manyjudges_k64_reports_holds
