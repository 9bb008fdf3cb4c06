import PyProof.Rows.All
import Wide.All
import OpenK.AllK
import Wide.FinOn
import Lean
import PyProof.EqAt
import PyProof.EqKinds
import PyProof.TupleCall
import PySem.Challenge.RW_manyjudges_k50_ways_rows
set_option compiler.extract_closed false
set_option genSizeOfSpec false
set_option Elab.async false
set_option linter.all false
set_option maxRecDepth 100000
namespace PySem.W.Fast
theorem tw4959191910355000613:True:=trivial
theorem tw14592652492196929317:True:=trivial
theorem tw7001588712995887621:True:=trivial
theorem tw98379578116603356:True:=trivial
theorem tw7017471263031177906:True:=trivial
theorem tw14066687804358476768:True:=trivial
theorem tw6469759538868303135:True:=trivial
theorem tw577707861565496974:True:=trivial
theorem tw4639494506262947460:True:=trivial
theorem tw17929914312352570696:True:=trivial
theorem tw12075677666775470383:True:=trivial
theorem tw6049791048337640888:True:=trivial
theorem tw3516128019731422974:True:=trivial
theorem tw9492149414117486987:True:=trivial
theorem tw11960282861387459687:True:=trivial
theorem tw8184609887862063425:True:=trivial
theorem tw3677234631930227301:True:=trivial
theorem tw15023407289175098194:True:=trivial
theorem tw13359124960210059223:True:=trivial
theorem tw5390361166417785572:True:=trivial
theorem tw10303142381795830660:True:=trivial
theorem tw4805208067232308346:True:=trivial
theorem tw15717525780471397270:True:=trivial
theorem tw12028305715230790362:True:=trivial
theorem tw9048956828172637498:True:=trivial
theorem tw6135106873322580614:True:=trivial
theorem tw9764570357953476490:True:=trivial
theorem tw7860213209576085859:True:=trivial
theorem tw13742639496682615043:True:=trivial
theorem tw18441148262525935734:True:=trivial
theorem tw8522218817241575895:True:=trivial
theorem tw13388191437822199016:True:=trivial
theorem tw8116579651831710706:True:=trivial
theorem tw7122761946959559333:True:=trivial
theorem tw329455039844315689:True:=trivial
theorem tw15064206920272747043:True:=trivial
theorem tw1609925391807969949:True:=trivial
theorem tw13908117410607974870:True:=trivial
theorem tw7261986585419723321:True:=trivial
theorem tw6176773943622458716:True:=trivial
theorem tw7249667221816728921:True:=trivial
theorem tw11556416541337248531:True:=trivial
theorem tw2611152788389503597:True:=trivial
theorem tw7677610800342018064:True:=trivial
theorem tw379222897316805977:True:=trivial
theorem tw16390891808050044869:True:=trivial
theorem tw6311097426027131540:True:=trivial
theorem tw14131838783584724609:True:=trivial
theorem tw3031991553480229736:True:=trivial
theorem tw13651013102585977196:True:=trivial
theorem tw17953840523503895683:True:=trivial
theorem tw4338897013439264307:True:=trivial
theorem tw15813012237915196952:True:=trivial
theorem tw2070322249205036120:True:=trivial
theorem tw15967424140922787280:True:=trivial
theorem tw4272317044709352600:True:=trivial
theorem tw10869922191041195980:True:=trivial
theorem tw1403916295606663281:True:=trivial
theorem tw15881015128299384558:True:=trivial
theorem tw6910644954731046478:True:=trivial
theorem tw17510344765916789191:True:=trivial
theorem tw8097721624044770791:True:=trivial
theorem tw2242625334063402670:True:=trivial
theorem tw8747964220326512349:True:=trivial
theorem tw14777234114156340876:True:=trivial
theorem tw8327470016510350720:True:=trivial
theorem tw1841723449419392425:True:=trivial
theorem tw16302846771073718825:True:=trivial
theorem tw14423448943724246856:True:=trivial
theorem tw16777771338470404617:True:=trivial
theorem tw3289733299498514522:True:=trivial
theorem tw15330335370963459911:True:=trivial
theorem tw15425341650177184993:True:=trivial
theorem tw16547767695291595034:True:=trivial
theorem tw15513196071359824208:True:=trivial
theorem tw5909116273362371007:True:=trivial
theorem tw7188966182059338619:True:=trivial
theorem tw13709530892918810097:True:=trivial
theorem tw9473976258436386760:True:=trivial
theorem tw3774006267355921892:True:=trivial
theorem tw13404298114309501785:True:=trivial
theorem tw3114084267532968647:True:=trivial
theorem tw14507031352300514489:True:=trivial
theorem tw17268297534959107142:True:=trivial
theorem tw2360649843953134621:True:=trivial
theorem tw10051235408946760403:True:=trivial
theorem tw11334040673969417225:True:=trivial
theorem tw1100750346004145550:True:=trivial
theorem tw2216595027228353980:True:=trivial
theorem tw13166195741812558867:True:=trivial
theorem tw5099729511341144224:True:=trivial
theorem tw461786317378655112:True:=trivial
theorem tw568558285628897250:True:=trivial
theorem tw17491143373048976980:True:=trivial
theorem tw17758705970572366025:True:=trivial
theorem tw10697463439132522800:True:=trivial
theorem tw3271545428764218243:True:=trivial
theorem tw2150102945269885325:True:=trivial
theorem tw4020141656645261711:True:=trivial
theorem tw10160965669766519579:True:=trivial
theorem tw13916961539907398125:True:=trivial
theorem tw5336555209672576189:True:=trivial
theorem tw8749584435956521049:True:=trivial
theorem tw5278439277903759044:True:=trivial
theorem tw11085672038287405330:True:=trivial
theorem tw12317943197842425320:True:=trivial
theorem tw13617384713886968746:True:=trivial
theorem tw5106905977575430646:True:=trivial
theorem tw10126174650735693633:True:=trivial
theorem tw13737680984406805287:True:=trivial
theorem tw18137287269095492857:True:=trivial
theorem tw17436387417164743080:True:=trivial
theorem tw11122224340393682901:True:=trivial
theorem tw1354167140420189367:True:=trivial
theorem tw16188892298555381787:True:=trivial
theorem tw9085146355088135790:True:=trivial
theorem tw10897147987628232828:True:=trivial
theorem tw4626133814965531406:True:=trivial
theorem tw14439277528985214566:True:=trivial
theorem tw8680821414721811711:True:=trivial
theorem tw13035952653760150768:True:=trivial
theorem tw15861604932508461000:True:=trivial
theorem tw6757736686283795416:True:=trivial
theorem tw17988152706792929000:True:=trivial
theorem tw8356485498982232250:True:=trivial
theorem tw2536478108042263537:True:=trivial
theorem tw1575584300689537220:True:=trivial
theorem tw8302208908528296390:True:=trivial
theorem tw13065428959792604917:True:=trivial
theorem tw10499877184247454024:True:=trivial
theorem tw14285584086705695738:True:=trivial
theorem tw12596209588656028841:True:=trivial
theorem tw6936273323603487749:True:=trivial
theorem tw3440600655841284242:True:=trivial
theorem tw5954535582018735428:True:=trivial
theorem tw5029153080846676593:True:=trivial
theorem tw9659498400689799974:True:=trivial
theorem tw14990278348417450027:True:=trivial
theorem tw15003624947603216180:True:=trivial
theorem tw1338615346685344105:True:=trivial
theorem tw15394827049502402241:True:=trivial
theorem tw286195189806732768:True:=trivial
theorem tw2449224689119398259:True:=trivial
theorem tw5334596256146736237:True:=trivial
theorem tw10120472569752987288:True:=trivial
theorem tw2179592507658512062:True:=trivial
theorem tw3701370722027423501:True:=trivial
theorem tw6798726529264271178:True:=trivial
theorem tw8776161067758495554:True:=trivial
theorem tw17750384058467421271:True:=trivial
theorem tw8809332375330871158:True:=trivial
theorem tw7394985860886562391:True:=trivial
theorem tw6604226477174057724:True:=trivial
theorem tw13088572627749699779:True:=trivial
theorem tw3356760578380973157:True:=trivial
theorem tw601803195121271371:True:=trivial
theorem tw12721136379745671056:True:=trivial
theorem tw11965509694554853924:True:=trivial
theorem tw3180369663937023074:True:=trivial
theorem tw11091576236421559291:True:=trivial
theorem tw2876214745793579385:True:=trivial
theorem tw13557255873333855317:True:=trivial
theorem tw14366640912644059915:True:=trivial
theorem tw8824435904388007960:True:=trivial
theorem tw14281960774778946951:True:=trivial
theorem tw17669536947297328846:True:=trivial
theorem tw12619150724240058384:True:=trivial
theorem tw13529212833984818069:True:=trivial
theorem tw14020241733210529406:True:=trivial
theorem tw11897135724724241854:True:=trivial
theorem tw5854139666749377474:True:=trivial
theorem tw5875003140337359837:True:=trivial
theorem tw343001528064673994:True:=trivial
theorem tw8867934821354054832:True:=trivial
theorem tw11390230792923659494:True:=trivial
theorem tw13766487617731585699:True:=trivial
theorem tw1885214010359860167:True:=trivial
theorem tw7128597040661978257:True:=trivial
theorem tw6436038397449147122:True:=trivial
theorem tw572452776778621378:True:=trivial
theorem tw12301750730507901807:True:=trivial
theorem tw8990451163469770654:True:=trivial
theorem tw9934227864951429113:True:=trivial
theorem tw8150792751630026668:True:=trivial
theorem tw6255593883156791513:True:=trivial
theorem tw14491853131643695940:True:=trivial
theorem tw5167326729269643826:True:=trivial
theorem tw1727148763505308302:True:=trivial
theorem tw2179044194169331680:True:=trivial
theorem tw5673832486849499302:True:=trivial
end PySem.W.Fast
section
open PySem
def zZ:=@PySem.wpAny_bind
def zY:=@List.length_map
def zX:=@PySem.Heap.get?_push_of_some
def zW:=@PySem.wpAny_pure
def zV:=@List.getElem?_eq_some_iff
def zU:=@Nat.le_refl
def zT:=@PySem.Heap.get?_push_size
def zS:=@List.length_append
def zR:=@PySem.Heap.lt_size
def zQ:=@List.getElem?_map
def zP:=@PySem.sizeLine_eq
def zO:=@List.size_toArray
def zN:=@List.mem_singleton
def zM:=@List.getElem?_eq_getElem
def zL:=@List.mem_cons
def zK:=@List.mem_of_getElem?
def zJ:=@List.map_append
def zI:=@List.mem_cons_of_mem
def zH:=@List.mem_cons_self
def zG:=@Nat.ne_of_lt
def zF:=@Bool.false_ne_true
def zE:=@List.mem_append
def zD:=@List.mem_map
def zC:=@if_neg
def zB:=@List.getD_eq_getElem?_getD
def zA:=@decide_eq_true
def yZ:=@Int.toNat_natCast
def yY:=@Option.some.inj
def yX:=@List.take_length
def yW:=@Nat.lt_of_lt_of_le
def yV:=@List.take_add_one
def yU:=@List.length_take
def yT:=@if_pos
def yS:=@Nat.le_trans
def yR:=@List.length_cons
def yQ:=@Nat.zero_le
def yP:=@List.mem_append_right
def yO:=@PySem.Heap.get?_update_other
def yN:=@List.mem_map_of_mem
def yM:=@PySem.PassesOwn.never
def yL:=@decide_eq_false
def yK:=@of_decide_eq_true
def yJ:=@Bool.and_eq_true
def yI:=@List.map_map
def yH:=@List.getElem?_append_right
def yG:=@List.getElem?_append_left
def yF:=@List.mem_range
def yE:=@Nat.lt_succ_self
def yD:=@List.all_eq_true
def yC:=@Nat.le_of_lt
def yB:=@W.mg_none_of
def yA:=@List.pairwise_iff_getElem
def xZ:=@PySem.wpAny_call_entry
def xY:=@PyProof.Rows.callWith_type1
def xX:=@PySem.wpAny_holding
def xW:=@List.pairwise_cons
def xV:=@PySem.wpAny_newObj_type
def xU:=@List.any_eq_true
def xT:=@PySem.Heap.size_push
def xS:=@List.length_range
def xR:=@List.length_drop
def xQ:=@PySem.wpAny_mono
def xP:=@List.mem_append_left
def xO:=@PySem.wpAny_callSpecial?_slot
def xN:=@List.mem_of_mem_take
def xM:=@PySem.Around.under_plainId
def xL:=@PySem.wpAny_loadPart'
def xK:=@PySem.wpAny_Call_Name_kw
def xJ:=@Nat.lt_succ_of_lt
def xI:=@PySem.wpAny_setState_of
def xH:=@PyProof.Rows.slot_tuple_getitem
def xG:=@List.length_singleton
def xF:=@List.length_filter_le
def xE:=@Array.length_toList
def xD:=@PySem.mem_of_lookup
def xC:=@List.mem_filter
def xB:=@W.kia_one
def xA:=@List.length_nil
def wZ:=@congrArg
def wY:=@List.pairwise_map
def wX:=@Classical.byContradiction
def wW:=@Nat.ne_of_gt
def wV:=@PySem.codeAny_builtin
def wU:=@Ne.symm
def wT:=@List.filterMap_cons
def wS:=@PySem.wpAny_field
def wR:=@PySem.Heap.get?_update_self
def wQ:=@List.getElem?_eq_none
def wP:=@List.length_eq_zero_iff
def wO:=@List.nodup_cons
def wN:=@Int.zero_add
def wM:=@Calls.spliced_nil
def wL:=@Array.getElem?_toList
def wK:=@F.slot_list_append
def wJ:=@F.type_list_append
def wI:=@Calls.spliced_cons
def wH:=@PySem.wpAny_pyIter_tuple
def wG:=@F.called_set
def wF:=@PySem.wpAny_setField_rec
def wE:=@F.plain_list_iadd
def wD:=@List.mem_of_mem_drop
def wC:=@List.filter_cons
def wB:=@Nat.le_succ
def wA:=@List.append_assoc
def vZ:=@PySem.wpAny_seqItems
def vY:=@beq_eq_false_iff_ne
def vX:=@List.getElem_of_mem
def vW:=@PyProof.Rows.KeyOrd.kle_refl
def vV:=@PyProof.Rows.callWith_builtin1
def vU:=@PySem.wpAny_typeNameOfWhole_itemiter
def vT:=@List.filter_append
def vS:=@List.getElem_mem
def vR:=@Nat.le_add_right
def vQ:=@List.Pairwise.imp_of_mem
def vP:=@Nat.lt_irrefl
def vO:=@PySem.plainId_quiet
def vN:=@Nat.le_of_eq
def vM:=@F.slot_dict_itemiterator_next
def vL:=@PySem.lookup_relabel_local
def vK:=@PySem.wpAny_truthy_bool
def vJ:=@List.foldl_cons
def vI:=@List.range_succ
def vH:=@PyProof.Rows.F.plain_set_update_loop
def vG:=@List.take_of_length_le
def vF:=@List.ext_getElem
def vE:=@List.not_mem_nil
def vD:=@F.slot_tuple_iterator_next
def vC:=@Int.emod_lt_of_pos
def vB:=@F.plain_extend_loop
def vA:=@PySem.wpAny_typeNameOf_itemiter
def uZ:=@Array.toArray_toList
def uY:=@List.flatten_cons
def uX:=@PySem.fits_of_scanBound
def uW:=@PySem.wpAny_typeOf
def uV:=@Option.isSome_iff_exists
def uU:=@W.mg_of
def uT:=@PyProof.Rows.listUpdate_at
def uS:=@PySem.wpAny_rule
def uR:=@List.replicate_succ
def uQ:=@Array.toList_inj
def uP:=@List.nodup_range
def uO:=@PySem.wpAny_askSetting
def uN:=@PySem.codeAny_mono
def uM:=@List.find?_cons
def uL:=@Int.emod_nonneg
def uK:=@PySem.wpAny_ite_split
def uJ:=@PyProof.Rows.get?_update_seq
def uI:=@PyProof.Rows.entry_list_sort
def uH:=@PySem.wpAny_attempt
def uG:=@F.slot_zip_next
def uF:=@F.plain_proto_collect
def uE:=@List.perm_append_singleton
def uD:=@List.perm_ext_iff_of_nodup
def uC:=@PySem.SeqAt.EqAt.bool_bool
def uB:=@Bool.and_false
def uA:=@PyProof.Rows.slot_list_sort
def tY:=@beq_iff_eq
def tX:=@PySem.wpAny_isInstance
def tW:=@PyProof.Rows.KeyOrd.kle_trans
def tV:=@PySem.Heap.size_update
def tU:=@List.getElem?_eq_none_iff
def tT:=@PySem.Heap.SameBut.update
def tS:=@List.map_congr_left
def tR:=@Bool.or_eq_true_iff
def tQ:=@F.args_tuple_add_2
def tP:=@F.slot_list_extend
def tN:=@PySem.wpAny_newList
def tL:=@PySem.wpAny_passesOwn
def tK:=@Bool.eq_iff_iff
def tJ:=@PySem.wpAny_updateSeq
def tH:=@List.filter_nil
def tG:=@PySem.SeqAt.EqAt.int_int
def tF:=@Array.forIn_toList
def tE:=@PySem.call_meets
def tD:=@Nat.not_lt
def sZ:=@F.entry_tuple_add
def sY:=@List.pairwise_singleton
def sX:=@F.slot_tuple_add
def sW:=@List.length_pos_of_mem
def sV:=@Array.getElem?_eq_none
def sU:=@PySem.wpAny_isOneOf_itemiter
def sT:=@List.take_sublist
def sS:=@PySem.wpAny_pyIter_list
def sR:=@PySem.Heap.SameBut.refl
def sQ:=@PyProof.Rows.KeyOrd.kle_of_klt
def sP:=@Bool.eq_false_iff
def sO:=@PySem.isSubtype_type
def sN:=@PySem.wpAny_newTuple
def sM:=@PyProof.Rows.args_list_sort
def sL:=@Nat.lt_trans
def sK:=@List.lookup_cons
def sJ:=@List.drop_length
def sI:=@PySem.wpAny_pyIter_zip
def sH:=@List.any_cons
def sG:=@Bool.and_true
def sF:=@List.map_take
def sE:=@PySem.Txt.slice_le
def sD:=@Nat.succ_pos
def sC:=@Nat.zero_add
def sB:=@PyProof.Rows.listItems_at
def sA:=@Nat.succ.inj
def rZ:=@PySem.wpAny_load
end
namespace L2
open PySem PySem.Spec PyProof.Rows
abbrev Key:=Sum Int Str
def kl:Key->Value->Bool
 | .inl k,v=>Value.isInt k v
 | .inr x,v=>Value.isStrOf x v
def Fy(w:World):Key->Int
 | .inl k=>hashInt k
 | .inr x=>hashStr w x
theorem xy:∀{k:Key}{v:Value},kl k v=true->(∃i t,k=Sum.inl i/\v=Value.int i t)\/(∃x t,k=Sum.inr x/\v=Value.str x t)
 | .inl i,v,h=>by
  obtain⟨t,e⟩:=Value.isInt_shape (k:=i) (v:=v) h;exact .inl ⟨i,t,rfl,e⟩
 | .inr x,v,h=>by
  obtain⟨t,e⟩:=Value.isStrOf_shape (x:=x) (v:=v) h;exact .inr ⟨x,t,rfl,e⟩
theorem Ui(i:Int)(t:Tok):kl (.inl i) (.int i t)=true:=by simp[kl,Value.isInt]
theorem Uj(x:Str)(t:Tok):kl (.inr x) (.str x t)=true:=by simp[kl,Value.isStrOf]
theorem J4(a b:Int):decide ((Sum.inl a:Key)=Sum.inl b)=(a==b):=by
 by_cases e:a=b
 ·subst e;simp
 ·have h:¬(Sum.inl a:Key)=Sum.inl b:=λq=>e (Sum.inl.inj q);rw[yL h];exact(vY.mpr e).symm
theorem J8(a b:Str):decide ((Sum.inr a:Key)=Sum.inr b)=decide (a=b):=by
 by_cases e:a=b
 ·subst e;simp
 ·have h:¬(Sum.inr a:Key)=Sum.inr b:=λq=>e (Sum.inr.inj q);rw[yL h,yL e]
theorem J5(a:Int)(b:Str):decide ((Sum.inl a:Key)=Sum.inr b)=false:=yL (λq=>nomatch q)
theorem J7(a:Str)(b:Int):decide ((Sum.inr a:Key)=Sum.inl b)=false:=yL (λq=>nomatch q)
def xh(prog:Program)(w:World):PySem.KeyKind prog w Key where
 is:=kl
 hash:=Fy w
 inj:=λv a b ha hb=>by
  rcases xy ha with⟨i,t,rfl,rfl⟩|⟨x,t,rfl,rfl⟩
  ·rcases xy hb with⟨j,u,rfl,e⟩|⟨y,u,rfl,e⟩
   ·injection e with e1 _;rw[e1]
   ·exact nomatch e
  ·rcases xy hb with⟨j,u,rfl,e⟩|⟨y,u,rfl,e⟩
   ·exact nomatch e
   ·injection e with e1 _;rw[e1]
 byValue:=λk v h=>by
  rcases xy h with⟨i,t,rfl,rfl⟩|⟨x,t,rfl,rfl⟩<;>rfl
 pyHash:=λhv h=>by
  rcases xy hv with⟨i,t,rfl,rfl⟩|⟨x,t,rfl,rfl⟩
  ·exact wpAny_pyHash_int h
  ·exact wpAny_pyHash_str h
 eqBool:=λhu hv h=>by
  rcases xy hu with⟨i,t,rfl,rfl⟩|⟨x,t,rfl,rfl⟩
  ·rcases xy hv with⟨j,u,rfl,rfl⟩|⟨y,u,rfl,rfl⟩
   ·rw[J4]at h;exact wpAny_eqBool_int h
   ·rw[J5]at h;exact SeqAt.EqAt.int_str i t y u _ _ _ _ h
  ·rcases xy hv with⟨j,u,rfl,rfl⟩|⟨y,u,rfl,rfl⟩
   ·rw[J7]at h;exact SeqAt.EqAt.str_int x t j u _ _ _ _ h
   ·rw[J8]at h;exact wpAny_eqBool_str h
 «strs»:=λk x t v h=>by
  rcases xy h with⟨i,u,rfl,e⟩|⟨y,u,rfl,e⟩
  ·exact nomatch e
  ·injection e with e1 _;subst e1;cases v<;>rfl
theorem ak(prog:Program)(w:World)(i:Int)(t:Tok):(xh prog w).is (.inl i) (.int i t)=true:=Ui i t
theorem al(prog:Program)(w:World)(x:Str)(t:Tok):(xh prog w).is (.inr x) (.str x t)=true:=Uj x t
end L2
namespace L2
open PySem PySem.Spec PyProof.Rows
inductive V where
 |non|bl (b:Bool)|int (i:Int)|str (x:Str)|byt (b:Array UInt8)|flt (b:UInt64)|ref (a:Addr)|ty (n:String)
 deriving DecidableEq
def RelV:V->Value->Prop
 | .non,u=>u=Value.none
 | .bl b,u=>u=Value.bool b
 | .int i,u=>∃t,u=Value.int i t
 | .str x,u=>∃t,u=Value.str x t
 | .byt b,u=>∃t,u=Value.bytes b t
 | .flt b,u=>∃t,u=Value.float b t
 | .ref a,u=>u=Value.ref a
 | .ty n,u=>u=Value.type n
abbrev Vals:List V->List Value->Prop:=Paired RelV
theorem Vals.length{xs:List V}{us:List Value}(r:Vals xs us):xs.length=us.length:=Paired.length r
theorem Vals.get:∀{xs:List V}{us:List Value}{i:Nat}{x:V},Vals xs us->xs[i]?=some x->∃u,us[i]?=some u/\RelV x u
 |_,_,_,_,.nil,e=>by simp at e
 |_,_,0,_,.cons r _,e=>by simp at e;subst e;exact⟨_,rfl,r⟩
 |_,_,i+1,x,.cons _ t,e=>by
  obtain⟨u,h1,h2⟩:=Vals.get (i:=i) (x:=x) t (by simpa using e);exact⟨u,by simpa using h1,h2⟩
theorem Vals.set{x:V}{u:Value}(r:RelV x u):∀{xs:List V}{us:List Value}(i:Nat),Vals xs us->Vals (xs.set i x) (us.set i u)
 |_,_,_,.nil=>.nil
 |_,_,0,.cons _ t=>.cons r t
 |_,_,i+1,.cons q t=>.cons q (Vals.set r i t)
theorem Vals.append:∀{xs ys:List V}{us ws:List Value},Vals xs us->Vals ys ws->Vals (xs++ys) (us++ws)
 |_,_,_,_,.nil,s=>s
 |_,_,_,_,.cons r t,s=>.cons r (Vals.append t s)
theorem Vals.take:∀{xs:List V}{us:List Value}(n:Nat),Vals xs us->Vals (xs.take n) (us.take n)
 |_,_,0,_=>.nil
 |_,_,_+1,.nil=>.nil
 |_,_,n+1,.cons r t=>.cons r (Vals.take n t)
theorem Vals.drop:∀{xs:List V}{us:List Value}(n:Nat),Vals xs us->Vals (xs.drop n) (us.drop n)
 |_,_,0,r=>r
 |_,_,_+1,.nil=>.nil
 |_,_,n+1,.cons _ t=>Vals.drop n t
def RelO:Option V->Option Value->Prop
 |some v,some u=>RelV v u
 |none,none=>True
 |_,_=>False
def KV{κ:Type}:List (κ×V)->List (κ×Value)->Prop:=Paired λ(p:κ×V)(q:κ×Value)=>p.1=q.1/\RelV p.2 q.2
def kV:Key->V
 | .inl i=>.int i
 | .inr x=>.str x
inductive HO where
 |lst (xs:List V)
 |tup (xs:List V)
 |dK (kvs:List (Key×V))|dT (kvs:List (List Key×V))
 |set (S:Int->Bool) (n:Nat)
 |ins (C dx:Addr) (fs:List (Str×V))
 |own (x:Addr)
 |xd (fs:List (Str×V))
 |met (f x:Addr)
 |rng (lo hi:Int)
 |frz (o:Obj) (u:HO)
 |tbl (ps:Array Value)
 |ext (φ:Heap->Prop)
abbrev Hp:=Addr->Option HO
def upd(H:Hp)(a:Addr)(o:HO):Hp:=λb=>if b=a then some o else H b
theorem zx{H:Hp}{a:Addr}{o:HO}:upd H a o a=some o:=by unfold upd;rw[yT rfl]
theorem zk{H:Hp}{a b:Addr}{o:HO}(h:b≠a):upd H a o b=H b:=by unfold upd;rw[zC h]
theorem Hm{H:Hp}{a b:Addr}{o u:HO}(h:H a=some o)(h':H b=some u)(d:o≠u):a≠b:=by
 intro e;subst e;rw[h]at h';exact d (yY h')
theorem wf{H:Hp}{a b:Addr}{o:HO}(h:H a=some o)(h':H b=none):a≠b:=by
 intro e;subst e;rw[h]at h';cases h'
section
variable (P:Program) (w:World)
def ObjOk(H:Hp)(h:Heap)(a:Addr):HO->Prop
 | .lst xs=>xs.length<=sizeLine/\∃(aE:List Value)(n:Nat),Vals xs aE/\h.get? a=some { cls:=.type "list",data:=.seq aE.toArray n }
 | .tup xs=>xs.length<=sizeLine/\∃aE:List Value,Vals xs aE/\IsTup h a aE.toArray
 | .dK kvs=>kvs.length<=sizeLine/\(a==sysModules)=false/\∃vs,KV kvs vs/\h.DictOf (xh P w) a vs
 | .dT kvs=>kvs.length<=sizeLine/\(a==sysModules)=false/\∃xs:List (List Key×Addr×Value),
   Paired (λ(p:List Key×V)(q:List Key×Addr×Value)=>p.1=q.1/\H q.2.1=some (.tup (p.1.map kV))/\RelV p.2 q.2.2) kvs xs /\
   ∃o es ep,h.get? a=some o/\o.ExactDict/\o.data = .dict es ep/\es.toList=xs.map (entryOfKey (tupleKind (xh P w)))/\(xs.map (·.1)).Nodup
 | .set S n=>h.SetOf (intKind P w) a S n
 | .ins C dx fs=>H dx=some (.own a)/\fs.length<=1000/\dx≠a/\h.get? a=some (W.instObj C dx) /\
   ∃mA,h.Ns1 dx mA/\(∀f,RelO (fs.lookup f) (mA f))/\PySem.Within mA (fs.map (·.1))
 | .own _=>∃o,h.get? a=some o
 | .xd fs=>∃mA,h.Ns1 a mA/\∀f,RelO (fs.lookup f) (mA f)
 | .rng lo hi=>∃t u v,h.get? a=some { cls:=.type "range",data:=.fields #[.int lo t,.int hi u,.int 1 v] }
 | .frz o u=>h.get? a=some o/\ObjOk H h a u
 | .tbl ps=>h.get? a=some { cls:=.none,data:=.fields ps }
 | .met f x=>h.get? a=some (W.methodObj (.ref f) (.ref x))
 | .ext φ=>φ h/\(∃o,h.get? a=some o)/\∀h1 h2:Heap,φ h1->(∀o,h1.get? a=some o->h2.get? a=some o)->φ h2
def HOk(H:Hp)(h:Heap):Prop:=∀a o,H a=some o->ObjOk P w H h a o
end
section
variable {P:Program}{w:World}{H H':Hp}{h h':Heap}{a:Addr}{o:HO}
theorem ObjOk.lt(x:ObjOk P w H h a o):a<h.objs.size:=by
 cases o with
 |lst xs=>obtain⟨_,_,_,_,e⟩:=x;exact zR e
 |tup xs=>obtain⟨_,_,_,p⟩:=x;exact p.lt
 |dK kvs=>obtain⟨_,_,_,_,o,_,_,e,_⟩:=x;exact zR e
 |dT kvs=>obtain⟨_,_,_,_,o,_,_,e,_⟩:=x;exact zR e
 |set S n=>obtain⟨o,_,_,_,e,_⟩:=x;exact zR e
 |ins C dx fs=>obtain⟨_,_,_,e,_⟩:=x;exact zR e
 |own y=>obtain⟨_,e⟩:=x;exact zR e
 |xd fs=>obtain⟨_,⟨_,_,_,e,_⟩,_⟩:=x;exact zR e
 |rng lo hi=>obtain⟨_,_,_,e⟩:=x;exact zR e
 |frz ob u=>obtain⟨e,_⟩:=x;exact zR e
 |tbl ps=>exact zR (show h.get? a=some _ from x)
 |met f y=>exact zR (show h.get? a=some _ from x)
 |ext φ=>obtain⟨_,⟨_,e⟩,_⟩:=x;exact zR e
theorem Paired.mapP{α β:Type}{F G:α->β->Prop}:∀{l₁:List α}{l₂:List β},Paired F l₁ l₂->(∀a b,F a b->G a b)->Paired G l₁ l₂
 |_,_,.nil,_=>.nil
 |_,_,.cons r t,f=>.cons (f _ _ r) (Paired.mapP t f)
theorem ObjOk.stay(x:ObjOk P w H h a o)(k:∀b u,(b=a\/H b=some (.own a))->h.get? b=some u->h'.get? b=some u)
  (ho:∀b,H b=some (.own a)->H' b=some (.own a)) (ht:∀b xs,H b=some (.tup xs)->H' b=some (.tup xs)):ObjOk P w H' h' a o:=by
 induction o with
 |lst xs=>obtain⟨z,aE,n,r,e⟩:=x;exact⟨z,aE,n,r,k _ _ (.inl rfl) e⟩
 |tup xs=>obtain⟨z,aE,r,ob,e,c⟩:=x;exact⟨z,aE,r,ob,k _ _ (.inl rfl) e,c⟩
 |dK kvs=>obtain⟨z,y,vs,r,ob,es,ep,e,c⟩:=x;exact⟨z,y,vs,r,ob,es,ep,k _ _ (.inl rfl) e,c⟩
 |dT kvs =>
  obtain⟨z,y,xs,r,ob,es,ep,e,c⟩:=x;exact⟨z,y,xs,Paired.mapP r λp q z=>⟨z.1,ht _ _ z.2.1,z.2.2⟩,ob,es,ep,k _ _ (.inl rfl) e,c⟩
 |set S n=>obtain⟨ob,es,ep,t,e,c⟩:=x;exact⟨ob,es,ep,t,k _ _ (.inl rfl) e,c⟩
 |ins C dx fs =>
  obtain⟨d,z,ne,e,mA,⟨od,es,ep,e2,c⟩,r⟩:=x;exact⟨ho _ d,z,ne,k _ _ (.inl rfl) e,mA,⟨od,es,ep,k _ _ (.inr d) e2,c⟩,r⟩
 |own y=>obtain⟨ob,e⟩:=x;exact⟨ob,k _ _ (.inl rfl) e⟩
 |xd fs=>obtain⟨mA,⟨od,es,ep,e,c⟩,r⟩:=x;exact⟨mA,⟨od,es,ep,k _ _ (.inl rfl) e,c⟩,r⟩
 |rng lo hi=>obtain⟨t,u,v,e⟩:=x;exact⟨t,u,v,k _ _ (.inl rfl) e⟩
 |frz ob u ih=>obtain⟨e,q⟩:=x;exact⟨k _ _ (.inl rfl) e,ih q⟩
 |tbl ps =>
  have e:h.get? a=some { cls:=.none,data:=.fields ps }:=x;show h'.get? a=some { cls:=.none,data:=.fields ps };exact k a _ (.inl rfl) e
 |met f y =>
  have e:h.get? a=some (W.methodObj (.ref f) (.ref y)):=x;show h'.get? a=some (W.methodObj (.ref f) (.ref y));exact k a _ (.inl rfl) e
 |ext φ=>obtain⟨p,⟨o,e⟩,st⟩:=x;exact⟨st _ _ p λo q=>k _ _ (.inl rfl) q,⟨o,k _ _ (.inl rfl) e⟩,st⟩
theorem HOk.lt(x:HOk P w H h)(e:H a=some o):a<h.objs.size:=(x a o e).lt
theorem HOk.fresh(x:HOk P w H h)(e:h.objs.size<=a):H a=none:=by
 cases q:H a with
 |none=>rfl
 |some u=>exact absurd (yW (x.lt q) e) (vP _)
theorem HOk.kept(x:HOk P w H h)(k:∀b u,h.get? b=some u->h'.get? b=some u):HOk P w H h':=λa o e =>
 (x a o e).stay (λb u _ q=>k b u q) (λ_ q=>q) λ_ _ q=>q
theorem HOk.laid(x:HOk P w H h)(k:∀b u,h.get? b=some u->h'.get? b=some u)(hp:h.objs.size<=a)(new:ObjOk P w (upd H a o) h' a o):HOk P w (upd H a o) h':=λb u e=>by
 have hn:=x.fresh hp
 by_cases hb:b=a
 ·subst hb;rw[zx]at e;cases e;exact new
 ·rw[zk hb]at e;exact(x b u e).stay (λc v _ q=>k c v q) (λc q=>by rw[zk (wf q hn)];exact q) λc xs q=>by rw[zk (wf q hn)];exact q
end
def Rd(H:Hp)(a:Addr)(u:HO):Prop:=H a=some u\/∃o,H a=some (.frz o u)
theorem Rd.ok{P:Program}{w:World}{H:Hp}{h:Heap}{a:Addr}{u:HO}(r:Rd H a u)(x:HOk P w H h):ObjOk P w H h a u:=by
 rcases r with r|⟨o,r⟩
 ·exact x a u r
 ·obtain⟨_,q⟩:=x a _ r;exact q
def Mut:Option HO->Prop
 |some (.lst _)=>True
 |some (.dK _)=>True
 |some (.dT _)=>True
 |some (.set _ _)=>True
 |some (.ins _ _ _)=>True
 |some (.ext _)=>True
 |_=>False
section
variable {P:Program}{w:World}{H:Hp}{h h':Heap}{x e:Addr}{o':HO}
theorem HOk.write(ok:HOk P w H h)(mu:Mut (H x))(he:e=x\/H e=some (.own x))(k:∀b u,b≠e->h.get? b=some u->h'.get? b=some u)(DU:∃u,h'.get? e=some u)
  (new:ObjOk P w (upd H x o') h' x o'):HOk P w (upd H x o') h':=λb u q=>by
 have ES:∀c y,H c=some (.own y)->c≠x:=λc y r z=>by subst z;rw[r]at mu;exact mu
 have ntup:∀c xs,H c=some (.tup xs)->c≠x:=λc xs r z=>by subst z;rw[r]at mu;exact mu
 by_cases hb:b=x
 ·subst hb;rw[zx]at q;cases q;exact new
 ·rw[zk hb]at q
  by_cases AV:b=e
  ·have q':H b=some (.own x):=by
    rcases he with z|z
    ·exact absurd (AV.trans z) hb
    ·rw[AV];exact z
   rw[q]at q';cases q';obtain⟨v,hv⟩:=DU;exact⟨v,by rw[AV];exact hv⟩
  ·refine(ok b u q).stay (λc v hc r=>k c v ?_ r) (λc r=>by rw[zk (ES c b r)];exact r) λc xs r=>by rw[zk (ntup c xs r)];exact r
   rcases hc with rfl|hc
   ·exact AV
   ·rintro rfl;rcases he with z|z
    ·exact ES c b hc z
    ·rw[hc]at z;cases z;exact hb rfl
end
structure Un(fs ex:List Addr)(H H':Hp)(h h':Heap):Prop where
 keep:∀b o,h.get? b=some o->H b=none->b∉fs->b∉ex->h'.get? b=some o
 slot:∀b o,h.get? b=some o->H b=none->b∈fs->b∉ex->∃sl,h'.get? b=some { o with slots:=sl }
 free:∀b o,h.get? b=some o->H b=none->b∉ex->H' b=none
 there:∀b o,h.get? b=some o->b∉ex->∃o',h'.get? b=some o'
 tups:∀b xs,H b=some (.tup xs)->H' b=some (.tup xs)
 frzs:∀b o u,H b=some (.frz o u)->H' b=some (.frz o u)
 tbls:∀b ps,H b=some (.tbl ps)->∃more,H' b=some (.tbl (ps++more))
section
variable {fs fs' ex ex':List Addr}{H H1 H2:Hp}{h h1 h2 h':Heap}{a x e:Addr}{o:HO}
theorem Un.any(u:Un fs ex H H1 h h1){b:Addr}{ob:Obj}(q:h.get? b=some ob)(n:H b=none)(hx:b∉ex):∃sl,h1.get? b=some { ob with slots:=sl }:=by
 by_cases hb:b∈fs
 ·exact u.slot b ob q n hb hx
 ·exact⟨ob.slots,u.keep b ob q n hb hx⟩
theorem Un.kept(k:∀b u,h.get? b=some u->h'.get? b=some u):Un fs ex H H h h' :=
 ⟨λb ob q _ _ _=>k b ob q,λb ob q _ _ _=>⟨ob.slots,k b ob q⟩,λ_ _ _ n _=>n,λb ob q _=>⟨ob,k b ob q⟩,λ_ _ q=>q,λ_ _ _ q=>q,λ_ ps q=>⟨#[],by rw[q];simp⟩⟩
theorem Un.refl:Un fs ex H H h h:=Un.kept λ_ _ q=>q
theorem Un.laid(k:∀b u,h.get? b=some u->h'.get? b=some u)(hp:h.objs.size<=a)(hn:H a=none):Un fs ex H (upd H a o) h h' where
 keep:=λb u q _ _ _=>k b u q
 slot:=λb u q _ _ _=>⟨u.slots,k b u q⟩
 free:=λb u q n _=>by rw[zk (zG (yW (zR q) hp))];exact n
 there:=λb u q _=>⟨u,k b u q⟩
 tups:=λb xs q=>by rw[zk (wf q hn)];exact q
 frzs:=λb u xs q=>by rw[zk (wf q hn)];exact q
 tbls:=λb ps q=>⟨#[],by rw[zk (wf q hn),q];simp⟩
theorem Un.write(mu:Mut (H x))(he:e=x\/H e=some (.own x))(k:∀b u,b≠e->h.get? b=some u->h'.get? b=some u)(DU:∃u,h'.get? e=some u):Un fs ex H (upd H x o) h h':=by
 have hx:∀b,H b=none->b≠x:=λb n z=>by subst z;rw[n]at mu;exact mu
 have hb:∀b,H b=none->b≠e:=λb n z=>by
  subst z;rcases he with r|r
  ·exact hx b n r
  ·rw[n]at r;cases r
 have hm:∀b u,H b=some u->¬Mut (some u)->b≠x:=λb u q nm z=>by subst z;rw[q]at mu;exact nm mu
 refine⟨λb u q n _ _=>k b u (hb b n) q,λb u q n _ _=>⟨u.slots,k b u (hb b n) q⟩,λb u q n _=>by rw[zk (hx b n)];exact n,λb u q _=>?_,
  λb xs q=>by rw[zk (hm b _ q λz=>z)];exact q,λb u xs q=>by rw[zk (hm b _ q λz=>z)];exact q,λb ps q=>⟨#[],by rw[zk (hm b _ q λz=>z),q];simp⟩⟩
 by_cases AV:b=e
 ·subst AV;exact DU
 ·exact⟨u,k b u AV q⟩
end
def trk(h:Heap)(H:Hp):List Addr:=(List.range h.objs.size).filter λa=>(H a).isSome
def kg(h:Heap)(H:Hp):Heap:=W.hideAll h (trk h H)
theorem Uc(h:Heap)(H:Hp):(kg h H).objs.size=h.objs.size:=W.hideAll_size _ _
theorem Qc{h:Heap}{H:Hp}{b:Addr}{o:Obj}(e:h.get? b=some o)(n:H b=none):(kg h H).get? b=some o :=
 W.hideAll_get _ e λhm=>by
  have q:(H b).isSome=true:=(xC.mp hm).2;rw[n]at q;simp at q
theorem Wu{h:Heap}{H:Hp}{b:Addr}{o:Obj}(e:(kg h H).get? b=some o):h.get? b=some o/\H b=none:=by
 have e':h.get? b=some o:=W.of_hideAll (trk h H) e;refine⟨e',?_⟩;cases q:H b with
 |none=>rfl
 |some x =>
  have hm:b∈trk h H:=xC.mpr ⟨yF.mpr (zR e'),by simp[q]⟩;have z:(kg h H).get? b=none:=W.hideAll_none (trk h H) hm;rw[z]at e;cases e
def M5(g h:Heap)(L:Addr):List (Addr×Obj):=(List.range h.objs.size).filterMap λa=>if a=L\/(g.get? a).isSome=true then none else(h.get? a).map λo=>(a,o)
def rest(g h:Heap)(L d:Addr):List (Addr×Obj):=(M5 g h L).filter λp=>decide (p.1≠d)
end L2
namespace L2
open PySem PySem.Spec PyProof.Rows
structure Mod(K:W.Frag)(mg:Str->Option Value)(base:Heap):Prop where
 kin:K.In base
 glob:base.Ns mainGlobals mg
 blt:∃mb,base.Ns builtinsNs mb/\∀x:Str,x≠"__name__"->mb x=bootBuiltins x
 nolimit:base.NoLimit
structure Cx where
 prog:Program
 w:World
 K:W.Frag
 mg:Str->Option Value
 base:Heap
 A:Around
 N:List Str
 s₀:Shared
 H₀:Hp
 env:Env
 outer:List Env
 stack:List Env
 ex:List Addr
 fn:Str->Bool
 calm:Bool
 pn:List (Addr×Obj)
 xe:Value->Shared->Prop
def frs(l:List Env):List Addr:=l.filterMap (·.frame)
abbrev Cx.fs(X:Cx):List Addr:=frs X.outer
def Vis(sc:Scope)(x:Str):Prop:=sc.names.lookup x=some .local\/sc.names.lookup x=some .cell\/sc.names.lookup x=some .free
def Loc(sc:Scope)(x:Str):Prop:=sc.names.lookup x=some .local\/sc.names.lookup x=some .cell
def Fp(env:Env)(h:Heap)(m:Str->Option Value)(x:Str)(u:Value):Prop :=
 (env.kindOf x=some .local/\m x=some u)\/((env.kindOf x=some .cell\/env.kindOf x=some .free)/\∃c,env.cells.lookup x=some c/\h.IsCell c (some u))
structure Cx.Ok(X:Cx):Prop where
 mod:Mod X.K X.mg X.base
 kind:X.env.scope.kind = .function
 glob:X.env.globals=mainGlobals
 blt:X.env.builtins=builtinsNs
 above:X.s₀.heap.objs.size<=X.env.locals
 inj:∀x y c,X.env.cells.lookup x=some c->X.env.cells.lookup y=some c->x=y
 has:∀x,(X.env.kindOf x=some .cell\/X.env.kindOf x=some .free)->∃c,X.env.cells.lookup x=some c
 cab:∀x c,X.fn x=true->X.env.cells.lookup x=some c->X.s₀.heap.objs.size<=c
 hd:X.calm=true->X.A.handled=none
 frames:X.A.frames=some X.stack
 stk:X.stack=X.outer\/(X.stack=X.env::X.outer/\X.env.frame=some X.env.locals)
 exf:∀b∈X.ex,b≠X.env.locals/\∀x c,X.env.cells.lookup x=some c->c≠b
 bs:∀b o,X.base.get? b=some o->X.s₀.heap.get? b=some o/\X.H₀ b=none
 bsz:X.base.objs.size<=X.s₀.heap.objs.size
 noex:∀b o,X.base.get? b=some o->b∉X.ex
 exfs:∀b∈X.ex,b∉X.fs
 funs:X.s₀.heap.FunFrames X.base X.outer
 frf:∀b∈X.fs,X.H₀ b=none
structure Inv(X:Cx)(pins:List (Addr×Obj))(σ:List (Option V))(H:Hp)(s:Shared):Prop where
 ok:X.Ok
 os:s.os=X.s₀.os
 bare:AllBare s.gens
 base:Un X.fs X.ex X.H₀ H X.s₀.heap s.heap
 loc:∃m,s.heap.Ns X.env.locals m/\∀(i:Nat)(x:Str)(v:V),X.N[i]?=some x->σ[i]?=some (some v)->Vis X.env.scope x->∃u,RelV v u/\Fp X.env s.heap m x u
 cell:∀x c,X.env.cells.lookup x=some c->∃v,s.heap.IsCell c v
 free:H X.env.locals=none
 freeC:∀x c,X.env.cells.lookup x=some c->H c=none
 pin:∀p∈X.pn++pins,s.heap.get? p.1=some p.2/\H p.1=none/\p.1≠X.env.locals/\p.1∉X.fs/\∀v,p.2.data≠.cell v
 hok:HOk X.prog X.w H s.heap
 len:σ.length=X.N.length
section
variable {X:Cx}{pins:List (Addr×Obj)}{σ:List (Option V)}{H H':Hp}{s:Shared}{h':Heap}
theorem Cx.Ok.nofr(ok:X.Ok){b:Addr}{o:Obj}(e:X.base.get? b=some o):b∉X.fs:=λhb=>by
 have:=(ok.funs.mem hb).1;rw[e]at this;cases this
theorem Inv.bs(I:Inv X pins σ H s):∀b o,X.base.get? b=some o->s.heap.get? b=some o/\H b=none:=λb o e =>
 ⟨I.base.keep b o (I.ok.bs b o e).1 (I.ok.bs b o e).2 (I.ok.nofr e) (I.ok.noex b o e),I.base.free b o (I.ok.bs b o e).1 (I.ok.bs b o e).2 (I.ok.noex b o e)⟩
theorem Inv.bk(I:Inv X pins σ H s):∀b o,X.base.get? b=some o->s.heap.get? b=some o:=λb o e=>(I.bs b o e).1
theorem Inv.mod(I:Inv X pins σ H s):Mod X.K X.mg X.base:=I.ok.mod
theorem Inv.kIn(I:Inv X pins σ H s):X.K.In s.heap:=I.ok.mod.kin.keeps I.bk
theorem Inv.nolimit(I:Inv X pins σ H s):s.heap.NoLimit:=I.ok.mod.nolimit.keeps I.bk
theorem Inv.lt(I:Inv X pins σ H s):X.env.locals<s.heap.objs.size:=let⟨_,hn,_⟩:=I.loc;hn.lt
theorem Inv.sz(I:Inv X pins σ H s):X.s₀.heap.objs.size<=s.heap.objs.size:=yS I.ok.above (yC I.lt)
theorem Inv.nofs(I:Inv X pins σ H s){a:Addr}(h:s.heap.objs.size<=a):a∉X.fs:=λhb=>by
 obtain⟨_,o,ho,_⟩:=I.ok.funs.mem hb;exact absurd (yW (zR ho) (yS I.sz h)) (vP _)
theorem Inv.cne(I:Inv X pins σ H s):∀x c,X.env.cells.lookup x=some c->c≠X.env.locals:=λx c e z=>by
 obtain⟨v,o,ho,hd⟩:=I.cell x c e;obtain⟨m,⟨o',es,ep,CY,GG,_⟩,_⟩:=I.loc;rw[z,CY]at ho;cases ho;rw[GG]at hd;cases hd
theorem Inv.funs(I:Inv X pins σ H s):s.heap.FunFrames X.base X.outer:=by
 have all:∀(l:List Env),(∀b∈frs l,b∈X.fs)->X.s₀.heap.FunFrames X.base l->s.heap.FunFrames X.base l:=by
  intro l
  induction l with
  |nil=>intro _ _;trivial
  |cons env r ih =>
   intro hs hl;obtain⟨hk,⟨L,o,hf,hn,ho,hd⟩,hr⟩:=hl;have hL:L∈X.fs:=hs L (by unfold frs;rw[wT,hf];exact zH);obtain⟨sl,e⟩:=I.base.slot L o ho (I.ok.frf L hL) hL λz=>I.ok.exfs L z hL;exact⟨hk,⟨L,_,hf,hn,e,hd⟩,ih (λb hb=>hs b (by unfold frs;rw[wT,hf];exact zI _ hb)) hr⟩
 exact all X.outer (λ_ hb=>hb) I.ok.funs
theorem Inv.stack(I:Inv X pins σ H s):s.heap.FunFrames X.base X.stack:=by
 rcases I.ok.stk with e|⟨e,hf⟩
 ·rw[e];exact I.funs
 ·rw[e];obtain⟨m,hn,_⟩:=I.loc;refine .cons (by rw[I.ok.kind];decide) hf hn ?_ I.funs;exact Heap.get?_none_of_le (yS I.ok.bsz I.ok.above)
theorem Inv.stkSub(I:Inv X pins σ H s):∀b∈frs X.stack,b∈X.env.locals::X.fs:=λb hb=>by
 rcases I.ok.stk with e|⟨e,hf⟩
 ·rw[e]at hb;exact zI _ hb
 ·rw[e]at hb;unfold frs at hb;rw[wT,hf]at hb;exact hb
theorem Inv.stkFree(I:Inv X pins σ H s):∀b∈frs X.stack,H b=none:=λb hb=>by
 rcases zL.mp (I.stkSub b hb)with e|hb
 ·rw[e];exact I.free
 ·obtain⟨_,o,ho,_⟩:=I.ok.funs.mem hb;exact I.base.free b o ho (I.ok.frf b hb) λz=>I.ok.exfs b z hb
theorem Inv.step{g':Array GenState}{t':Nat}{d':Drawn}{ch:List Addr}(I:Inv X pins σ H s)
  (AU:∀b∈ch,(b∈X.ex\/X.s₀.heap.objs.size<=b)/\b≠X.env.locals/\(∀x c,X.env.cells.lookup x=some c->c≠b)/\∀p∈X.pn++pins,p.1≠b)
  (keep:∀b o,b≠X.env.locals->b∉X.fs->b∉ch->s.heap.get? b=some o->H b=none->h'.get? b=some o)
  (slot:∀b o,b≠X.env.locals->b∈X.fs->b∉ch->s.heap.get? b=some o->H b=none->∃sl,h'.get? b=some { o with slots:=sl }) (free:∀b o,b∉ch->s.heap.get? b=some o->H b=none->H' b=none)
  (there:∀b o,b∉ch->s.heap.get? b=some o->∃o',h'.get? b=some o')
  (tups:∀b xs,H b=some (.tup xs)->H' b=some (.tup xs)) (frzs:∀b o u,H b=some (.frz o u)->H' b=some (.frz o u)) (tbls:∀b ps,H b=some (.tbl ps)->∃more,H' b=some (.tbl (ps++more)))
  (ns:∀m,s.heap.Ns X.env.locals m->h'.Ns X.env.locals m) (hok:HOk X.prog X.w H' h') (hg:AllBare g') :
  Inv X pins σ H' { s with heap:=h',gens:=g',drawn:=d',toks:=t' }:=by
 have neL:∀b o,X.s₀.heap.get? b=some o->b≠X.env.locals:=λb o e=>zG (yW (zR e) I.ok.above);have neC:∀b o,X.s₀.heap.get? b=some o->b∉X.ex->b∉ch:=λb o e hx hb=>by
  rcases(AU b hb).1 with z|z
  ·exact hx z
  ·exact absurd (yW (zR e) z) (vP _)
 have Ci:∀x c,X.env.cells.lookup x=some c->∀v,s.heap.IsCell c v->h'.IsCell c v:=λx c e v ⟨o,ho,hd⟩=>by
  have EU:c∉ch:=λz=>(AU c z).2.2.1 x c e rfl
  by_cases hc:c∈X.fs
  ·obtain⟨sl,q⟩:=slot c o (I.cne x c e) hc EU ho (I.freeC x c e);exact⟨_,q,hd⟩
  ·exact⟨o,keep c o (I.cne x c e) hc EU ho (I.freeC x c e),hd⟩
 refine⟨I.ok,I.os,hg,⟨λb o e n hb hx=>?_,λb o e n hb hx=>?_,λb o e n hx=>?_,λb o e hx=>?_,λb xs e=>tups b xs (I.base.tups b xs e),λb o xs e=>frzs b o xs (I.base.frzs b o xs e),λb ps e=>?_⟩,?_,λx c e=>?_,?_,λx c e=>?_,λp hp=>?_,hok,I.len⟩
 ·exact keep b o (neL b o e) hb (neC b o e hx) (I.base.keep b o e n hb hx) (I.base.free b o e n hx)
 ·obtain⟨sl,e1⟩:=I.base.slot b o e n hb hx;obtain⟨sl',e2⟩:=slot b _ (neL b o e) hb (neC b o e hx) e1 (I.base.free b o e n hx);exact⟨sl',e2⟩
 ·obtain⟨o',e1⟩:=I.base.there b o e hx;exact free b o' (neC b o e hx) e1 (I.base.free b o e n hx)
 ·obtain⟨o',e1⟩:=I.base.there b o e hx;exact there b o' (neC b o e hx) e1
 ·obtain⟨m1,e1⟩:=I.base.tbls b ps e;obtain⟨m2,e2⟩:=tbls b _ e1;exact⟨m1++m2,by rw[e2,Array.append_assoc]⟩
 ·obtain⟨m,hn,hl⟩:=I.loc;refine⟨m,ns m hn,λi x v e1 e2 e3=>?_⟩;obtain⟨u,r,l⟩:=hl i x v e1 e2 e3;refine⟨u,r,?_⟩;rcases l with l|⟨k,c,e,z⟩
  ·exact .inl l
  ·exact .inr ⟨k,c,e,Ci x c e _ z⟩
 ·obtain⟨v,z⟩:=I.cell x c e;exact⟨v,Ci x c e v z⟩
 ·obtain⟨m,⟨o,_,_,ho,_⟩,_⟩:=I.loc;exact free _ o (λz=>(AU _ z).2.1 rfl) ho I.free
 ·obtain⟨v,o,ho,hd⟩:=I.cell x c e;exact free c o (λz=>(AU c z).2.2.1 x c e rfl) ho (I.freeC x c e)
 ·obtain⟨e,n,ne,nf,d⟩:=I.pin p hp;have EU:p.1∉ch:=λz=>(AU p.1 z).2.2.2 p hp rfl;exact⟨keep p.1 p.2 ne nf EU e n,free p.1 p.2 EU e n,ne,nf,d⟩
theorem Inv.un{t':Nat}(I:Inv X pins σ H s)(u:Un X.fs [] H H' s.heap h')(hok:HOk X.prog X.w H' h'):Inv X pins σ H' { s with heap:=h',toks:=t' }:=by
 obtain⟨m,⟨o,es,ep,ho,r⟩,_⟩:=id I.loc;obtain⟨sl,hL⟩:=u.any ho I.free (by simp);exact I.step (g':=s.gens) (d':=s.drawn) (ch:=[]) (λ_ z=>nomatch z) (λb o _ hb _ e n=>u.keep b o e n hb (by simp)) (λb o _ hb _ e n=>u.slot b o e n hb (by simp)) (λb o _ e n=>u.free b o e n (by simp)) (λb o _ e=>u.there b o e (by simp)) u.tups u.frzs u.tbls (λm' hm=>by
  obtain⟨o',bE,fA,CY,r'⟩:=hm;rw[ho]at CY;cases CY;exact⟨_,bE,fA,hL,r'⟩) hok I.bare
theorem Inv.call{g':Array GenState}{t':Nat}{d':Drawn}{ch:List Addr}(I:Inv X pins σ H s)(u:Un (frs X.stack) ch H H' s.heap h')(hok:HOk X.prog X.w H' h')(hg:AllBare g')
  (AU:∀b∈ch,(b∈X.ex\/X.s₀.heap.objs.size<=b)/\b≠X.env.locals/\(∀x c,X.env.cells.lookup x=some c->c≠b)/\∀p∈X.pn++pins,p.1≠b) :
  Inv X pins σ H' { s with heap:=h',gens:=g',drawn:=d',toks:=t' }:=by
 obtain⟨m,⟨o,es,ep,ho,r⟩,_⟩:=id I.loc;obtain⟨sl,hL⟩:=u.any ho I.free λz=>(AU _ z).2.1 rfl;exact I.step (ch:=ch) AU (λb o hL hb hc e n=>u.keep b o e n (λz=>(zL.mp (I.stkSub b z)).elim hL hb) hc) (λb o _ _ hc e n=>u.any e n hc) (λb o hc e n=>u.free b o e n hc) (λb o hc e=>u.there b o e hc) u.tups u.frzs u.tbls (λm' hm=>by
  obtain⟨o',bE,fA,CY,r'⟩:=hm;rw[ho]at CY;cases CY;exact⟨_,bE,fA,hL,r'⟩) hok hg
theorem Inv.turned{t':Nat}{it:Addr}(I:Inv X pins σ H s)(k:∀b o,b≠it->s.heap.get? b=some o->h'.get? b=some o)(hn:H it=none)(hL:it≠X.env.locals)
  (h1:it∈X.ex\/X.s₀.heap.objs.size<=it) (h2:∀x c,X.env.cells.lookup x=some c->c≠it) (h3:∀p∈X.pn++pins,p.1≠it):Inv X pins σ H { s with heap:=h',toks:=t' }:=by
 have ET:∀b u,H b=some u->b≠it:=λb u e z=>by rw[z,hn]at e;cases e
 refine I.step (g':=s.gens) (d':=s.drawn) (ch:=[it]) (λb hb=>?_) (λb o _ _ hc e _=>k b o (λz=>hc (by simp[z])) e) (λb o _ _ hc e _=>⟨o.slots,k b o (λz=>hc (by simp[z])) e⟩) (λ_ _ _ _ n=>n)
  (λb o hc e=>⟨o,k b o (λz=>hc (by simp[z])) e⟩) (λ_ _ e=>e) (λ_ _ _ e=>e) (λb ps e=>⟨#[],by rw[e];simp⟩) (λm hm=>?_) (λb u e=>?_) I.bare
 ·have e:b=it:=by simpa using hb
  subst e;exact⟨h1,hL,h2,h3⟩
 ·obtain⟨o,es,ep,ho,r⟩:=hm;exact⟨o,es,ep,k _ o (wU hL) ho,r⟩
 ·refine(I.hok b u e).stay (λc v hc q=>k c v ?_ q) (λ_ q=>q) λ_ _ q=>q;rcases hc with z|z
  ·rw[z];exact ET b u e
  ·exact ET c _ z
theorem Inv.tok(I:Inv X pins σ H s)(t:Nat):Inv X pins σ H { s with toks:=t }:=I.un (h':=s.heap) (t':=t) Un.refl I.hok
theorem Inv.kept{t':Nat}(I:Inv X pins σ H s)(k:∀b u,s.heap.get? b=some u->h'.get? b=some u):Inv X pins σ H { s with heap:=h',toks:=t' }:=I.un (Un.kept k) (I.hok.kept k)
theorem Inv.laid{a:Addr}{o:HO}{t':Nat}(I:Inv X pins σ H s)(k:∀b u,s.heap.get? b=some u->h'.get? b=some u)(hp:s.heap.objs.size<=a)(new:ObjOk X.prog X.w (upd H a o) h' a o):
  Inv X pins σ (upd H a o) { s with heap:=h',toks:=t' }:=I.un (Un.laid k hp (I.hok.fresh hp)) (I.hok.laid k hp new)
theorem Inv.write{x e:Addr}{o:HO}{t':Nat}(I:Inv X pins σ H s)(mu:Mut (H x))(he:e=x\/H e=some (.own x))(k:∀b u,b≠e->s.heap.get? b=some u->h'.get? b=some u)(DU:∃u,h'.get? e=some u)
  (new:ObjOk X.prog X.w (upd H x o) h' x o):Inv X pins σ (upd H x o) { s with heap:=h',toks:=t' }:=I.un (Un.write mu he k DU) (I.hok.write mu he k DU new)
theorem Inv.pins_of{BR:List (Addr×Obj)}(I:Inv X pins σ H s)(h:∀p∈BR,s.heap.get? p.1=some p.2/\H p.1=none/\p.1≠X.env.locals/\p.1∉X.fs/\∀v,p.2.data≠.cell v):Inv X BR σ H s :=
 ⟨I.ok,I.os,I.bare,I.base,I.loc,I.cell,I.free,I.freeC,λp hp=>(zE.mp hp).elim (λz=>I.pin p (xP _ z)) (h p),I.hok,I.len⟩
theorem aq{N:List Str}(hN:N.Nodup){i j:Nat}{x:Str}(a:N[i]?=some x)(b:N[j]?=some x):i=j:=by
 obtain⟨h1,e1⟩:=zV.mp a;obtain⟨h2,e2⟩:=zV.mp b;exact(List.getElem_inj hN).mp (e1.trans e2.symm)
theorem Vq{M:Model}{A:Around}{E:Value->Shared->Prop}{i:Nat}{x:Str}{v:V}{u:Value}{Q:Unit->Shared->Prop}(I:Inv X pins σ H s)(hN:X.N.Nodup)(hi:X.N[i]?=some x)(hx:Loc X.env.scope x)(r:RelV v u)
  (h:∀s',Inv X pins (σ.set i (some v)) H s'->(∃a,Heap.SameBut a s.heap s'.heap/\(a=X.env.locals\/X.env.cells.lookup x=some a))->Q () s') (hf:X.fn x=true\/X.env.scope.names.lookup x=some .local:=by first|exact .inl rfl|exact .inr rfl|assumption):wpAny M A (storeName X.env x u) Q E s:=by
 obtain⟨m,hn,hl⟩:=id I.loc;have hcls:(X.env.scope.kind == .class||(X.env.scope.kind == .module&&X.env.locals != X.env.globals))=false:=by rw[I.ok.kind];rfl
 have hiσ:i<σ.length:=by rw[I.len];exact(zV.mp hi).1
 have cne:=I.cne;have qD:∀{a:Addr}{h':Heap},(∃o,s.heap.get? a=some o/\H a=none)->Heap.SameBut a s.heap h'->HOk X.prog X.w H h':=λ{a h'} ha hs b ob e=>by
  obtain⟨_,_,B'⟩:=ha;refine(I.hok b ob e).stay (λc w' hc q=>(hs.2 c ?_).trans q) (λ_ q=>q) λ_ _ q=>q;rintro rfl;rcases hc with rfl|hc
  ·rw[B']at e;cases e
  ·rw[B']at hc;cases hc
 rcases hx with hk|hk
 ·refine wpAny_storeName_local hk hn (λh' Dd hs=>?_) hcls;obtain⟨oL,_,_,FR,_⟩:=id hn;refine h _ ⟨I.ok,I.os,I.bare,⟨λb o e n hb hx=>?_,λb o e n hb hx=>?_,I.base.free,λb o e hx=>?_,I.base.tups,I.base.frzs,I.base.tbls⟩,⟨_,Dd,λj y v' e1 e2 e3=>?_⟩,λy c e=>?_,I.free,I.freeC,λp hp=>?_,qD ⟨oL,FR,I.free⟩ hs,by simpa using I.len⟩ ⟨_,hs,.inl rfl⟩
  ·exact(hs.2 b (zG (yW (zR e) I.ok.above))).trans (I.base.keep b o e n hb hx)
  ·obtain⟨sl,e1⟩:=I.base.slot b o e n hb hx;exact⟨sl,(hs.2 b (zG (yW (zR e) I.ok.above))).trans e1⟩
  ·obtain⟨o',e1⟩:=I.base.there b o e hx;exact⟨o',(hs.2 b (zG (yW (zR e) I.ok.above))).trans e1⟩
  ·by_cases hj:j=i
   ·subst hj;rw[hi]at e1;cases e1;rw[List.getElem?_set_self hiσ]at e2;cases e2;exact⟨u,r,.inl ⟨hk,by simp⟩⟩
   ·rw[List.getElem?_set_ne (wU hj)]at e2;obtain⟨u',r',q⟩:=hl j y v' e1 e2 e3;refine⟨u',r',?_⟩;rcases q with⟨k,e⟩|⟨k,c,e,z⟩
    ·refine .inl ⟨k,?_⟩;have:y≠x:=λe=>hj (aq hN e1 (e▸hi));simp[this,e]
    ·exact .inr ⟨k,c,e,z.sameBut hs (cne y c e)⟩
  ·obtain⟨w',z⟩:=I.cell y c e;exact⟨w',z.sameBut hs (cne y c e)⟩
  ·obtain⟨e,n,ne,nf,d⟩:=I.pin p hp;exact⟨(hs.2 p.1 ne).trans e,n,ne,nf,d⟩
 ·have hfn:X.fn x=true:=by
   rcases hf with z|z
   ·exact z
   ·rw[z]at hk;cases hk
  obtain⟨c,hc⟩:=I.ok.has x (.inl hk);obtain⟨w',z⟩:=I.cell x c hc;refine wpAny_storeName_cell I.ok.kind hk hc z (λh' oS hs=>?_);obtain⟨oc,hoc,hocd⟩:=id z;refine h { s with heap:=h' } ⟨I.ok,I.os,I.bare,⟨λb o e n hb hx=>?_,λb o e n hb hx=>?_,I.base.free,λb o e hx=>?_,I.base.tups,I.base.frzs,I.base.tbls⟩,⟨m,hn.sameBut hs (wU (cne x c hc)),λj y v' e1 e2 e3=>?_⟩,λy c' e=>?_,I.free,I.freeC,λp hp=>?_,qD ⟨oc,hoc,I.freeC x c hc⟩ hs,by simpa using I.len⟩ ⟨c,hs,.inr hc⟩
  ·exact(hs.2 b (zG (yW (zR e) (I.ok.cab x c hfn hc)))).trans (I.base.keep b o e n hb hx)
  ·obtain⟨sl,e1⟩:=I.base.slot b o e n hb hx;exact⟨sl,(hs.2 b (zG (yW (zR e) (I.ok.cab x c hfn hc)))).trans e1⟩
  ·obtain⟨o',e1⟩:=I.base.there b o e hx;exact⟨o',(hs.2 b (zG (yW (zR e) (I.ok.cab x c hfn hc)))).trans e1⟩
  ·by_cases hj:j=i
   ·subst hj;rw[hi]at e1;cases e1;rw[List.getElem?_set_self hiσ]at e2;cases e2;exact⟨u,r,.inr ⟨.inl hk,c,hc,oS⟩⟩
   ·rw[List.getElem?_set_ne (wU hj)]at e2;obtain⟨u',r',q⟩:=hl j y v' e1 e2 e3;refine⟨u',r',?_⟩;rcases q with q|⟨k,c',e,z'⟩
    ·exact .inl q
    ·refine .inr ⟨k,c',e,z'.sameBut hs ?_⟩;rintro rfl;exact hj (aq hN e1 (I.ok.inj _ _ _ e hc▸hi))
  ·by_cases hcc:c'=c
   ·subst hcc;exact⟨_,oS⟩
   ·obtain⟨w2,z2⟩:=I.cell y c' e;exact⟨w2,z2.sameBut hs hcc⟩
  ·obtain⟨e,n,ne,nf,d⟩:=I.pin p hp;refine⟨(hs.2 p.1 ?_).trans e,n,ne,nf,d⟩;intro q;rw[q,hoc]at e;have q':oc=p.2:=yY e;exact d w' (by rw[<-q'];exact hocd)
theorem cf{M:Model}{A:Around}{E:Value->Shared->Prop}{i:Nat}{x:Str}{v:V}{u:Value}{Q:Unit->Shared->Prop}(I:Inv X pins σ H s)(hN:X.N.Nodup)(hi:X.N[i]?=some x)(hx:Loc X.env.scope x)(r:RelV v u)
  (h:∀s',Inv X pins (σ.set i (some v)) H s'->Q () s') (hf:X.fn x=true\/X.env.scope.names.lookup x=some .local:=by first|exact .inl rfl|exact .inr rfl|assumption):wpAny M A (storeName X.env x u) Q E s :=
 Vq I hN hi hx r (λs' I' _=>h s' I') hf
theorem Inv.call'{s':Shared}{ch:List Addr}(I:Inv X pins σ H s)(ho:s'.os=s.os)(u:Un (frs X.stack) ch H H' s.heap s'.heap)(hok:HOk X.prog X.w H' s'.heap)(hg:AllBare s'.gens)
  (AU:∀b∈ch,(b∈X.ex\/X.s₀.heap.objs.size<=b)/\b≠X.env.locals/\(∀x c,X.env.cells.lookup x=some c->c≠b)/\∀p∈X.pn++pins,p.1≠b):Inv X pins σ H' s':=by
 obtain⟨h',g',d',t',o'⟩:=s';have e:o'=s.os:=ho;subst e;exact I.call (g':=g') (t':=t') (d':=d') u hok hg AU
end
abbrev XK:=Value->Option Addr->Hp->Prop
abbrev St:=List (Option V)
abbrev VK:=V->Hp->Prop
abbrev TE:=St->Hp->VK->Prop
abbrev TT:=St->Hp->(Bool->Hp->Prop)->Prop
abbrev TA:=St->Hp->(List V->Hp->Prop)->Prop
structure tp where
 nx:St->Hp->Prop
 rt:VK
 bk:St->Hp->Prop:=λ_ _=>False
 ct:St->Hp->Prop:=λ_ _=>False
abbrev TS:=tp->St->Hp->Prop
def EP(X:Cx)(pins:List (Addr×Obj))(σ:St)(Q:VK)(u:Value)(s':Shared):Prop:=∃v H',Inv X pins σ H' s'/\RelV v u/\Q v H'
def TP(X:Cx)(pins:List (Addr×Obj))(σ:St)(Q:Bool->Hp->Prop)(b:Bool)(s':Shared):Prop:=∃H',Inv X pins σ H' s'/\Q b H'
def AP(X:Cx)(pins:List (Addr×Obj))(σ:St)(Q:List V->Hp->Prop)(us:List Value)(s':Shared):Prop:=∃vs H',Inv X pins σ H' s'/\Vals vs us/\Q vs H'
def SP(X:Cx)(pins:List (Addr×Obj))(D:tp)(f:Flow)(s':Shared):Prop :=
 match f with
 | .next=>∃σ' H',Inv X pins σ' H' s'/\D.nx σ' H'
 | .brk=>∃σ' H',Inv X pins σ' H' s'/\D.bk σ' H'
 | .cont=>∃σ' H',Inv X pins σ' H' s'/\D.ct σ' H'
 | .ret u=>∃v σ' H',Inv X pins σ' H' s'/\RelV v u/\D.rt v H'
def PE(X:Cx)(e:Expr)(t:TE):Prop :=
 ∀(pins:List (Addr×Obj))(s:Shared)(σ:St)(H:Hp)(Q:VK),Inv X pins σ H s->t σ H Q->wpAny (model X.prog X.w) X.A (eval e X.env) (EP X pins σ Q) X.xe s
def PT(X:Cx)(e:Expr)(t:TT):Prop :=
 ∀(pins:List (Addr×Obj))(s:Shared)(σ:St)(H:Hp)(Q:Bool->Hp->Prop),Inv X pins σ H s->t σ H Q->wpAny (model X.prog X.w) X.A (isTrue e X.env (eval e X.env)) (TP X pins σ Q) X.xe s
def PW(X:Cx)(e:Expr)(t:TT):Prop :=
 ∀(qC:Sem Value)(pins:List (Addr×Obj))(s:Shared)(σ:St)(H:Hp)(Q:Bool->Hp->Prop),Inv X pins σ H s->t σ H Q->wpAny (model X.prog X.w) X.A (isTrue e X.env qC) (TP X pins σ Q) X.xe s
theorem PW.pt{X:Cx}{e:Expr}{t:TT}(h:PW X e t):PT X e t:=h _
def PA(X:Cx)(es:List Expr)(t:TA):Prop :=
 ∀(pos:Pos)(pins:List (Addr×Obj))(s:Shared)(σ:St)(H:Hp)(Q:List V->Hp->Prop),Inv X pins σ H s->t σ H Q->wpAny (model X.prog X.w) X.A (spliced (backTo pos (starEach es X.env))) (AP X pins σ Q) X.xe s
def PS(X:Cx)(st:Stmt)(t:TS):Prop :=
 ∀(pins:List (Addr×Obj))(s:Shared)(σ:St)(H:Hp)(D:tp),Inv X pins σ H s->t D σ H->wpAny (model X.prog X.w) X.A (exec st X.env) (SP X pins D) X.xe s
def PSs(X:Cx)(st:List Stmt)(t:TS):Prop :=
 ∀(pins:List (Addr×Obj))(s:Shared)(σ:St)(H:Hp)(D:tp),Inv X pins σ H s->t D σ H->wpAny (model X.prog X.w) X.A (execs st X.env) (SP X pins D) X.xe s
theorem thn{α:Type}{t:Sem α}{Q Q':α->Shared->Prop}{M:Model}{A:Around}{E:Value->Shared->Prop}{s:Shared}(h:wpAny M A t Q E s)(hQ:∀a s,Q a s->Q' a s):wpAny M A t Q' E s:=xQ h hQ λ_ _ x=>x
end L2
namespace L2
open PySem PySem.Spec PyProof.Rows
section
variable {X:Cx}
def Gh(i:Nat):TE:=fun σ H Q=>∃v,σ[i]?=some (some v)/\Q v H
def tC(v:V):TE:=λ_ H Q=>Q v H
theorem K7{i:Nat}{x:Str}{pos:Pos}(hN:X.N[i]?=some x)(hv:Vis X.env.scope x)(hd:(x==("__debug__":Str))=false:=by decide)(lY:(x==("__classdict__":Str))=false:=by decide):PE X (.Name x pos) (Gh i):=by
 intro pins s σ H Q I h;obtain⟨v,e,h⟩:=h;obtain⟨m,hn,hl⟩:=I.loc;obtain⟨u,r,l⟩:=hl i x v hN e hv;have bC:EP X pins σ Q u s:=⟨v,H,I,r,h⟩
 rcases l with⟨hk,hm⟩|⟨hk,c,hc,hcell⟩
 ·exact wpAny_Name (wpAny_loadName_local I.ok.kind hk hn hm bC) hd
 ·rcases hk with hk|hk
  ·exact wpAny_Name (wpAny_loadName_cell I.ok.kind hk hc hcell bC) hd
  ·exact wpAny_Name (wpAny_loadName_free I.ok.kind hk hc hcell bC lY) hd
theorem z0{i j pos}:PE X (.Constant (.int i) j pos) (tC (.int i)):=λ_ _ _ H _ I h=>wpAny_Constant_int ⟨.int i,H,I.tok _,⟨_,rfl⟩,h⟩
theorem yg{b j pos}:PE X (.Constant (.bool b) j pos) (tC (.bl b)):=λ_ _ _ H _ I h=>Constant_bool ⟨.bl b,H,I,rfl,h⟩
theorem Rx{j pos}:PE X (.Constant .none j pos) (tC .non):=λ_ _ _ H _ I h=>Constant_none ⟨.non,H,I,rfl,h⟩
theorem yn{x j pos}:PE X (.Constant (.str x) j pos) (tC (.str x)):=λ_ _ _ H _ I h=>Calls.Constant_str ⟨.str x,H,I.tok _,⟨_,rfl⟩,h⟩
def Gl(X:Cx)(x:Str):Prop:=X.env.kindOf x=some .globalImplicit
theorem qj{E:Value->Shared->Prop}{pins:List (Addr×Obj)}{s:Shared}{σ:St}{H:Hp}{x:Str}{u:Value}{pos:Pos}{Q:Value->Shared->Prop}(I:Inv X pins σ H s)(hg:Gl X x)(hm:X.mg x=some u)(h:Q u s)
  (hd:(x==("__debug__":Str))=false:=by decide):wpAny (model X.prog X.w) X.A (eval (.Name x pos) X.env) Q E s :=
 Calls.Name_function_global I.ok.kind hg (Calls.loadGlobal_global (by rw[I.ok.glob];exact I.mod.glob.keeps I.bk) hm h) hd
theorem ww{E:Value->Shared->Prop}{pins:List (Addr×Obj)}{s:Shared}{σ:St}{H:Hp}{x:Str}{u:Value}{pos:Pos}{Q:Value->Shared->Prop}(I:Inv X pins σ H s)(hg:Gl X x)(hm:X.mg x=none)(hv:bootBuiltins x=some u)(h:Q u s)
  (hn:x≠"__name__":=by decide) (hd:(x==("__debug__":Str))=false:=by decide):wpAny (model X.prog X.w) X.A (eval (.Name x pos) X.env) Q E s:=by
 obtain⟨mb,h1,h2⟩:=I.mod.blt;exact Calls.Name_function_global I.ok.kind hg (Calls.loadGlobal_builtin (by rw[I.ok.glob];exact I.mod.glob.keeps I.bk) hm (by rw[I.ok.blt];exact h1.keeps I.bk) ((h2 x hn).trans hv) h) hd
theorem xt{x:Str}{v:V}{u:Value}{pos:Pos}(hg:Gl X x)(hm:X.mg x=none)(hv:bootBuiltins x=some u)(r:RelV v u)(hn:x≠"__name__":=by decide)(hd:(x==("__debug__":Str))=false:=by decide):PE X (.Name x pos) (tC v) :=
 λ_ _ _ H _ I h=>ww I hg hm hv ⟨v,H,I,r,h⟩ hn hd
variable {a b:Expr}{ta tb:TE}{pos:Pos}
def tB(t:TE):TT:=fun σ H Q=>t σ H λx H1=>∃c,x = .bl c/\Q c H1
variable {tA tB':TT}{rest:List Expr}
def Jg(t u:TT):TT:=fun σ H Q=>t σ H λc H1=>if c=true then u σ H1 Q else Q false H1
def tOr(t u:TT):TT:=fun σ H Q=>t σ H λc H1=>if c=true then Q true H1 else u σ H1 Q
def Ji(t:TT):TT:=fun σ H Q=>t σ H λc H1=>Q (!c) H1
theorem Os(ha:PT X a tA):PW X (.BoolOp .And [a] pos) tA:=by
 intro wh pins s σ H Q I h;refine isTrue_and (thn (ha pins s σ H Q I h) λc s1 e=>?_);cases c with
 |true=>exact isTrue_and_nil e
 |false=>exact e
theorem vv(ha:PT X a tA):PW X (.BoolOp .Or [a] pos) tA:=by
 intro wh pins s σ H Q I h;refine isTrue_or (thn (ha pins s σ H Q I h) λc s1 e=>?_);cases c with
 |false=>exact isTrue_or_nil e
 |true=>exact e
theorem Ld(ha:PT X a tA)(hb:PW X (.BoolOp .And (b::rest) pos) tB'):PW X (.BoolOp .And (a::b::rest) pos) (Jg tA tB'):=by
 intro wh pins s σ H Q I h;refine isTrue_and (thn (ha pins s σ H _ I h) λc s1 ⟨H1,I1,q1⟩=>?_);cases c with
 |true=>exact hb wh pins s1 σ H1 Q I1 q1
 |false=>exact⟨H1,I1,q1⟩
theorem vf(ha:PT X a tA)(hb:PW X (.BoolOp .Or (b::rest) pos) tB'):PW X (.BoolOp .Or (a::b::rest) pos) (tOr tA tB'):=by
 intro wh pins s σ H Q I h;refine isTrue_or (thn (ha pins s σ H _ I h) λc s1 ⟨H1,I1,q1⟩=>?_);cases c with
 |true=>exact⟨H1,I1,q1⟩
 |false=>exact hb wh pins s1 σ H1 Q I1 q1
theorem yd(ha:PT X a tA):PT X (.UnaryOp .Not a pos) (Ji tA):=by
 intro pins s σ H Q I h;exact isTrue_not (ha pins s σ H (λc H1=>Q (!c) H1) I h)
theorem rf{op}{t:TE}(h:PE X a t):PE X (.BoolOp op [a] pos) t:=λpins s σ H Q I hw=>BoolOp_one (h pins s σ H Q I hw)
def tIf(t:TT)(ta tb:TE):TE:=fun σ H Q=>t σ H λc H1=>if c=true then ta σ H1 Q else tb σ H1 Q
end
end L2
namespace L2
open PySem PySem.Spec PyProof.Rows
def SqL(K:W.Frag)(H:Hp)(a:Addr)(xs:List V):Prop :=
 Rd H a (.lst xs) \/
  ∃(o:Obj)(aE:Array Value)(n:Nat),K.lookup a=some o/\o.cls = .type "list"/\o.dict=none/\o.data = .seq aE n/\aE.size<=sizeLine/\Vals xs aE.toList
def SqT(K:W.Frag)(H:Hp)(a:Addr)(xs:List V):Prop :=
 Rd H a (.tup xs) \/
  ∃(o:Obj)(aE:Array Value)(n:Nat),K.lookup a=some o/\o.cls = .type "tuple"/\o.data = .seq aE n/\aE.size<=sizeLine/\Vals xs aE.toList
def Fq:Value->Option V
 | .none=>some .non
 | .bool b=>some (.bl b)
 | .int i _=>some (.int i)
 | .str x _=>some (.str x)
 | .bytes b _=>some (.byt b)
 | .float b _=>some (.flt b)
 | .ref a=>some (.ref a)
 | .type n=>some (.ty n)
 |_=>none
theorem RelV.abs{x:V}{u:Value}(r:RelV x u):Fq u=some x:=by
 cases x with
 |non=>cases r;rfl
 |bl _=>cases r;rfl
 |int _=>obtain⟨t,rfl⟩:=r;rfl
 |str _=>obtain⟨t,rfl⟩:=r;rfl
 |byt _=>obtain⟨t,rfl⟩:=r;rfl
 |flt _=>obtain⟨t,rfl⟩:=r;rfl
 |ref _=>cases r;rfl
 |ty _=>cases r;rfl
theorem RelV.inj{x y:V}{u:Value}(r:RelV x u)(q:RelV y u):x=y:=yY (r.abs.symm.trans q.abs)
theorem Vals.inj:∀{xs ys:List V}{us:List Value},Vals xs us->Vals ys us->xs=ys
 |_,_,_,.nil,.nil=>rfl
 |_,_,_,.cons r t,.cons r' t'=>by rw[r.inj r',Vals.inj t t']
section
variable {X:Cx}{pins:List (Addr×Obj)}{σ:St}{H:Hp}{s:Shared}{a:Addr}{xs ys:List V}
theorem SqL.of{K:W.Frag}(h:H a=some (.lst xs)):SqL K H a xs:=.inl (.inl h)
theorem SqT.of{K:W.Frag}(h:H a=some (.tup xs)):SqT K H a xs:=.inl (.inl h)
theorem Inv.list(I:Inv X pins σ H s)(h:SqL X.K H a xs):∃aE:List Value,Vals xs aE/\PlainL s.heap a aE.toArray/\xs.length<=sizeLine:=by
 rcases h with h|⟨o,aE,n,hk,hc,hd,hs,hz,r⟩
 ·obtain⟨z,aE,n,r,e⟩:=h.ok I.hok;exact⟨aE,r,⟨_,n,e,rfl,rfl,rfl⟩,z⟩
 ·refine⟨aE.toList,r,⟨o,n,I.kIn a o hk,hc,hd,by simpa using hs⟩,?_⟩;have e:=r.length;simp only[xE]at e;lia
theorem Inv.tuple(I:Inv X pins σ H s)(h:SqT X.K H a xs):∃aE:List Value,Vals xs aE/\IsTup s.heap a aE.toArray/\xs.length<=sizeLine:=by
 rcases h with h|⟨o,aE,n,hk,hc,hs,hz,r⟩
 ·obtain⟨z,aE,r,p⟩:=h.ok I.hok;exact⟨aE,r,p,z⟩
 ·refine⟨aE.toList,r,⟨o,I.kIn a o hk,hc,n,by simpa using hs⟩,?_⟩;have e:=r.length;simp only[xE]at e;lia
theorem Inv.list_inj(I:Inv X pins σ H s)(h:SqL X.K H a xs)(h':SqL X.K H a ys):xs=ys:=by
 obtain⟨aE,r,⟨o,n,e,_,_,d⟩,_⟩:=I.list h;obtain⟨its',r',⟨o',n',e',_,_,d'⟩,_⟩:=I.list h';rw[e]at e';cases e';rw[d]at d';injection d' with d1 _;have:aE=its':=by simpa using wZ Array.toList d1
 subst this;exact r.inj r'
theorem Inv.tuple_inj(I:Inv X pins σ H s)(h:SqT X.K H a xs)(h':SqT X.K H a ys):xs=ys:=by
 obtain⟨aE,r,⟨o,e,_,n,d⟩,_⟩:=I.tuple h;obtain⟨its',r',⟨o',e',_,n',d'⟩,_⟩:=I.tuple h';rw[e]at e';cases e';rw[d]at d';injection d' with d1 _;have:aE=its':=by simpa using wZ Array.toList d1
 subst this;exact r.inj r'
end
abbrev Cx.wish(X:Cx)(E:Value->Shared->Prop):Cx:={ X with xe:=E }
abbrev Cx.nox(X:Cx):Cx:=X.wish λ_ _=>False
theorem Cx.Ok.wish{X:Cx}(ok:X.Ok)(E:Value->Shared->Prop):(X.wish E).Ok :=
 ⟨ok.mod,ok.kind,ok.glob,ok.blt,ok.above,ok.inj,ok.has,ok.cab,ok.hd,ok.frames,ok.stk,ok.exf,ok.bs,ok.bsz,ok.noex,ok.exfs,ok.funs,ok.frf⟩
theorem Cx.Ok.unwish{X:Cx}{E:Value->Shared->Prop}(ok:(X.wish E).Ok):X.Ok :=
 ⟨ok.mod,ok.kind,ok.glob,ok.blt,ok.above,ok.inj,ok.has,ok.cab,ok.hd,ok.frames,ok.stk,ok.exf,ok.bs,ok.bsz,ok.noex,ok.exfs,ok.funs,ok.frf⟩
section
variable {X:Cx}{pins:List (Addr×Obj)}{σ:St}{H:Hp}{s:Shared}{E:Value->Shared->Prop}
theorem Inv.wish(I:Inv X pins σ H s)(E:Value->Shared->Prop):Inv (X.wish E) pins σ H s:=⟨I.ok.wish E,I.os,I.bare,I.base,I.loc,I.cell,I.free,I.freeC,I.pin,I.hok,I.len⟩
theorem Inv.unwish(I:Inv (X.wish E) pins σ H s):Inv X pins σ H s:=⟨I.ok.unwish,I.os,I.bare,I.base,I.loc,I.cell,I.free,I.freeC,I.pin,I.hok,I.len⟩
theorem SP.unwish{D:tp}{f:Flow}{s':Shared}(h:SP (X.wish E) pins D f s'):SP X pins D f s':=by
 cases f with
 |next=>obtain⟨σ',H',I,q⟩:=h;exact⟨σ',H',I.unwish,q⟩
 |brk=>obtain⟨σ',H',I,q⟩:=h;exact⟨σ',H',I.unwish,q⟩
 |cont=>obtain⟨σ',H',I,q⟩:=h;exact⟨σ',H',I.unwish,q⟩
 |ret u=>obtain⟨v,σ',H',I,r,q⟩:=h;exact⟨v,σ',H',I.unwish,r,q⟩
theorem PSs.nox{st:List Stmt}{t:TS}(h:PSs X.nox st t):PSs X st t:=λpins s σ H D I hw =>
 xQ (h pins s σ H D (I.wish _) hw) (λ_ _ q=>q.unwish) λ_ _ z=>False.elim z
end
section
variable {X:Cx}{st:Stmt}{rest:List Stmt}{t u:TS}{e:Expr}{te:TE}{pos:Pos}
def Ta:TS:=λD σ H=>D.nx σ H
def Tc(t u:TS):TS:=λD σ H=>t { D with nx:=u D } σ H
theorem zp:PSs X [] Ta:=λ_ _ σ H _ I h=>wpAny_execs_nil ⟨σ,H,I,h⟩
theorem z5(h1:PS X st t)(h2:PSs X rest u):PSs X (st::rest) (Tc t u):=by
 intro pins s σ H D I h;refine wpAny_execs_cons (thn (h1 pins s σ H { D with nx:=u D } I h) λf s1 q=>?_);cases f with
 |next =>
  obtain⟨σ',H',I',q⟩:=q;exact h2 pins s1 σ' H' D I' q
 |ret v=>exact q
 |brk=>exact q
 |cont=>exact q
theorem z4(h1:PS X st t):PSs X [st] t:=by
 intro pins s σ H D I h;refine wpAny_execs_cons (thn (h1 pins s σ H D I h) λf s1 q=>?_);cases f with
 |next=>exact wpAny_execs_nil q
 |ret v=>exact q
 |brk=>exact q
 |cont=>exact q
theorem Inv.quiet{pins:List (Addr×Obj)}{σ:St}{H:Hp}{s:Shared}(I:Inv X pins σ H s):interactive X.env=false:=by simp[interactive,I.ok.kind]
def Mw(te:TE):TS:=λD σ H=>te σ H λ_ H1=>D.nx σ H1
theorem wc(he:PE X e te)(hs:swapsWith e none pos.line X.env=pure false:=by rfl):PS X (.Expr e pos) (Mw te):=by
 intro pins s σ H D I h;exact wpAny_Expr_any (thn (he pins s σ H _ I h) λv s1 ⟨x,H1,I1,r1,q1⟩=>⟨σ,H1,I1,q1⟩) I.quiet hs
def Jj(te:TE):TS:=λD σ H=>te σ H D.rt
theorem zw(he:PE X e te):PS X (.Return (some e) pos) (Jj te):=by
 intro pins s σ H D I h;exact wpAny_Return_some (thn (he pins s σ H _ I h) λv s1 ⟨x,H1,I1,r1,q1⟩=>⟨x,σ,H1,I1,r1,q1⟩)
def Jh(c:TT)(t u:TS):TS:=λD σ H=>c σ H λb H1=>if b=true then t D σ H1 else u D σ H1
theorem za{c:Expr}{a b:List Stmt}{tc:TT}(hc:PT X c tc)(ha:PSs X a t)(hb:PSs X b u):PS X (.If c a b pos) (Jh tc t u):=by
 intro pins s σ H D I h;refine wpAny_If (thn (hc pins s σ H _ I h) λd s1 ⟨H1,I1,q1⟩=>?_);cases d with
 |true=>exact ha pins s1 σ H1 D I1 q1
 |false=>exact hb pins s1 σ H1 D I1 q1
end
abbrev TG:=V->St->Hp->(St->Hp->Prop)->Prop
abbrev TGs:=List V->St->Hp->(St->Hp->Prop)->Prop
def PG(X:Cx)(bW:Expr)(t:TG):Prop :=
 ∀(pins:List (Addr×Obj))(s:Shared)(σ:St)(H:Hp)(v:V)(u:Value)(Q:St->Hp->Prop),Inv X pins σ H s->RelV v u->t v σ H Q ->
  wpAny (model X.prog X.w) X.A (assign bW X.env u) (λ_ s'=>∃σ' H',Inv X pins σ' H' s'/\Q σ' H') X.xe s
def PGs(X:Cx)(ts:List Expr)(t:TGs):Prop :=
 ∀(pins:List (Addr×Obj))(s:Shared)(σ:St)(H:Hp)(vs:List V)(us:List Value)(Q:St->Hp->Prop),Inv X pins σ H s->Vals vs us->t vs σ H Q ->
  wpAny (model X.prog X.w) X.A (assignInOrder ((assignEach ts X.env).map (·.2)) us) (λ_ s'=>∃σ' H',Inv X pins σ' H' s'/\Q σ' H') X.xe s
abbrev Pg:=V->V->V->Hp->(Hp->Prop)->Prop
def M0(X:Cx)(t:Pg):Prop :=
 ∀(pins:List (Addr×Obj))(s:Shared)(σ:St)(H:Hp)(o i v:V)(ov iv u:Value)(Q:Hp->Prop),Inv X pins σ H s->RelV o ov->RelV i iv->RelV v u->t o i v H Q ->
  wpAny (model X.prog X.w) X.A (setItem ov iv u) (λ_ s'=>∃H',Inv X pins σ H' s'/\Q H') X.xe s
section
variable {X:Cx}{pos:Pos}
def f9(i:Nat):TG:=λv σ H Q=>Q (σ.set i (some v)) H
theorem On{i:Nat}{x:Str}(hN:X.N.Nodup)(hi:X.N[i]?=some x)(hx:Loc X.env.scope x)(hf:X.fn x=true\/X.env.scope.names.lookup x=some .local:=by first|exact .inl rfl|exact .inr rfl|assumption):PG X (.Name x pos) (f9 i):=by
 intro pins s σ H v u Q I r h;exact wpAny_assign_Name (cf I hN hi hx r (λs' I'=>⟨_,H,I',h⟩) hf)
def Fv:TGs:=λvs σ H Q=>vs=[]/\Q σ H
def Gr(t:TG)(u:TGs):TGs:=λvs σ H Q=>∃v r,vs=v::r/\t v σ H fun σ' H'=>u r σ' H' Q
theorem Op:PGs X [] Fv:=by
 intro pins s σ H vs us Q I r h;obtain⟨e,h⟩:=h;subst e;cases r;exact assignInOrder_nil ⟨σ,H,I,h⟩
theorem be{e:Expr}{es:List Expr}{t:TG}{u:TGs}(h1:PG X e t)(h2:PGs X es u)
  (hs:(assignEach (e::es) X.env).map (·.2)=assign e X.env::(assignEach es X.env).map (·.2):=by rfl):PGs X (e::es) (Gr t u):=by
 intro pins s σ H vs us Q I r h;obtain⟨v,vr,e1,h⟩:=h;subst e1;cases r with
 |cons r rr =>
  rw[hs];refine assignInOrder_cons (thn (h1 pins s σ H _ _ _ I r h) λ_ s1 ⟨σ1,H1,I1,q1⟩=>?_);exact h2 pins s1 σ1 H1 _ _ Q I1 rr q1
def Fw(K:W.Frag)(n:Nat)(t:TGs):TG:=λv σ H Q=>∃a xs,v = .ref a/\SqT K H a xs/\xs.length=n/\t xs σ H Q
theorem K8{es:List Expr}{k:Nat}{t:TGs}{n:Nat}(hc:X.calm=true)(h:PGs X es t)
  (hn:(assignEach es X.env).length=n:=by rfl) (iD:(assignEach es X.env).findIdx? (·.1)=none:=by rfl):PG X (.Tuple es k pos) (Fw X.K n t):=by
 intro pins s σ H v u Q I r hw;obtain⟨a,xs,e1,hq,hl,hw⟩:=hw;subst e1;cases r;obtain⟨aE,rv,ht,hz⟩:=I.tuple hq;refine assign_Tuple_tuple (I.ok.hd hc) ht (by simp[hn,<-hl,rv.length]) iD λh' hx=>?_;have I1:Inv X pins σ H { s with heap:=h' }:=I.kept (t':=s.toks) λb o e=>hx b o (zG (zR e)) e;exact h pins _ σ H xs _ Q I1 (by simpa using rv) hw
def Nc(to ti:TE)(t:Pg):TG:=λv σ H Q=>to σ H λo H1=>ti σ H1 λi H2=>t o i v H2 λH3=>Q σ H3
theorem R6{o i:Expr}{to ti:TE}{t:Pg}(ho:PE X o to)(hi:PE X i ti)(hs:M0 X t)
  (ha:∀v,assign (.Subscript o i pos) X.env v=(do
   let ov <-holding [v] (eval o X.env)
   let iv <-holding [v,ov] (eval i X.env)
   standAt pos
   holding [v,ov,iv] (setItem ov iv v)
   release [v,ov,iv] []):=by intro _;rfl):PG X (.Subscript o i pos) (Nc to ti t):=by
 intro pins s σ H v u Q I r h;rw[ha];refine zZ (xX (thn (ho pins s σ H _ I h) λov s1 ⟨x,H1,I1,r1,q1⟩=>?_));refine zZ (xX (thn (hi pins s1 σ H1 _ I1 q1) λiv s2 ⟨y,H2,I2,r2,q2⟩=>?_));refine zZ (wpAny_standAt (zZ (xX (thn (hs pins s2 σ H2 x y v ov iv u _ I2 r1 r2 r q2) λ_ s3 ⟨H3,I3,q3⟩=>?_))));exact wpAny_release ⟨σ,H3,I3,q3⟩
def Vs(te:TE)(g:TG):TS:=λD σ H=>te σ H λx H1=>g x σ H1 D.nx
theorem Sd{tg e:Expr}{te:TE}{g:TG}(he:PE X e te)(hg:PG X tg g)(hs:swapsWithSole [tg] e pos.line X.env=pure false:=by rfl)(hw:swappedStores [tg] e X.env=pure none:=by rfl)
  (h1:(assignEach [tg] X.env).map (·.2)=[assign tg X.env]:=by rfl):PS X (.Assign [tg] e pos) (Vs te g):=by
 intro pins s σ H D I h;refine wpAny_Assign_stores (thn (he pins s σ H _ I h) λv s1 ⟨x,H1,I1,r1,q1⟩=>?_) hs hw;rw[h1];exact thn (hg pins s1 σ H1 x v _ I1 r1 q1) λ_ s2 q=>q
theorem Lc{i:Nat}{x:Str}{e:Expr}{te:TE}{nC:Pos}(hN:X.N.Nodup)(hi:X.N[i]?=some x)(hx:Loc X.env.scope x)(he:PE X e te)(hs:swapsWith e (some (.Name x nC)) pos.line X.env=pure false:=by rfl)(hf:X.fn x=true\/X.env.scope.names.lookup x=some .local:=by first|exact .inl rfl|exact .inr rfl|assumption):
  PS X (.Assign [.Name x nC] e pos) (Vs te (f9 i)):=by
 intro pins s σ H D I h;refine wpAny_Assign_Name (thn (he pins s σ H _ I h) λv s1 ⟨y,H1,I1,r1,q1⟩=>?_) hs;exact cf I1 hN hi hx r1 (λs2 I2=>⟨_,H1,I2,q1⟩) hf
end
section
variable {X:Cx}{pos:Pos}
end
structure It where
 go:Nat->Hp->Prop
 yld:Nat->Hp->V->Hp->Prop
 stop:Nat->Hp->Prop
def p8(X:Cx)(pins:List (Addr×Obj))(H:Hp)(b:Addr):Prop :=
 H b=none/\b≠X.env.locals/\b∉X.fs/\(b∈X.ex\/X.s₀.heap.objs.size<=b)/\(∀x c,X.env.cells.lookup x=some c->c≠b)/\∀p∈X.pn++pins,p.1≠b
theorem Inv.fpOk{X:Cx}{pins:List (Addr×Obj)}{σ:St}{H H':Hp}{s:Shared}{b:Addr}(I:Inv X pins σ H s)(hb:s.heap.objs.size<=b)(hn:H' b=none):p8 X pins H' b:=by
 refine⟨hn,wW (yW I.lt hb),I.nofs hb,.inr (yS I.sz hb),λx c e z=>?_,λp hp z=>?_⟩
 ·obtain⟨v,q⟩:=I.cell x c e;exact absurd (yW q.lt (by rw[z];exact hb)) (vP _)
 ·exact absurd (yW (zR (I.pin p hp).1) (by rw[z];exact hb)) (vP _)
structure Zu(P:Program)(w:World)(K:W.Frag)(tg:Expr)(J:It)(fp:List Addr)(it:Addr)(tn:Nat->Heap->Prop):Prop where
 mem:it∈fp
 obj:∀i h,tn i h->∀b∈fp,∃o,h.get? b=some o/\∀v,o.data≠.cell v
 keep:∀i h h',tn i h->(∀b∈fp,∀o,h.get? b=some o->h'.get? b=some o)->tn i h'
 item:∀(X:Cx),X.prog=P->X.w=w->X.K=K->X.calm=true->∀(i:Nat)(pins:List (Addr×Obj))(s:Shared)(σ:St)(H:Hp)(E:Value->Shared->Prop),Inv X pins σ H s->(∀b∈fp,p8 X pins H b)->tn i s.heap->J.go i H ->
  wpAny (model P w) X.A (pyNext (.ref it)) (λr s1=>∃u,r=some u /\
   wpAny (model P w) X.A (letOwnedTupleGo tg (.ref it) u) (λ_ s2=>∃x H',Inv X pins σ H' s2/\RelV x u/\J.yld i H x H'/\tn (i+1) s2.heap/\∀b∈fp,H' b=none) E s1) E s
 done:∀(X:Cx),X.prog=P->X.w=w->X.K=K->X.calm=true->∀(i:Nat)(pins:List (Addr×Obj))(s:Shared)(σ:St)(H:Hp)(E:Value->Shared->Prop),Inv X pins σ H s->(∀b∈fp,p8 X pins H b)->tn i s.heap->J.stop i H ->
  wpAny (model P w) X.A (pyNext (.ref it)) (λr s1=>r=none/\Inv X pins σ H s1) E s
 self:∀(A:Around)(i:Nat)(s:Shared)(Q:Value->Shared->Prop)(E:Value->Shared->Prop),tn i s.heap->Q (.ref it) s->wpAny (model P w) A (pyIter (.ref it)) Q E s
abbrev TI:=St->Hp->(It->Hp->Prop)->Prop
def PIE(X:Cx)(pins:List (Addr×Obj))(σ:St)(tg:Expr)(R:It->Hp->Prop)(itv:Value)(s2:Shared):Prop :=
 ∃(it:Addr)(fp:List Addr)(tn:Nat->Heap->Prop)(J:It)(H':Hp),itv = .ref it/\Inv X pins σ H' s2/\Zu X.prog X.w X.K tg J fp it tn/\tn 0 s2.heap/\(∀b∈fp,p8 X pins H' b)/\R J H'
def PI(X:Cx)(tg iter:Expr)(wi:TI):Prop :=
 ∀(pins:List (Addr×Obj))(s:Shared)(σ:St)(H:Hp)(R:It->Hp->Prop),Inv X pins σ H s->wi σ H R ->
  wpAny (model X.prog X.w) X.A (eval iter X.env) (λv s1=>wpAny (model X.prog X.w) X.A (pyIter v) (PIE X pins σ tg R) X.xe s1) X.xe s
theorem Qb{M:Model}{A:Around}{E:Value->Shared->Prop}{s:Shared}{tg:Expr}{it:Addr}{u:Value}{o:Obj}{n:String}{vs:Array Value}{Q:Unit->Shared->Prop}(ho:s.heap.get? it=some o)(hc:o.cls = .type n)(hd:o.data = .fields vs)
  (hn:["enumerate","zip","dict_itemiterator","dict_reverseitemiterator","odict_iterator","itertools.zip_longest","itertools.pairwise"].contains n=false) (hQ:Q () s):wpAny M A (letOwnedTupleGo tg (.ref it) u) Q E s:=by
 unfold letOwnedTupleGo;cases tg<;>first
  |exact zW hQ
  |(cases u<;>first
    |exact zW hQ
    |(refine zZ (rZ ho ?_);rw[hc,hd];show wpAny M A (if(["enumerate","zip","dict_itemiterator","dict_reverseitemiterator","odict_iterator","itertools.zip_longest","itertools.pairwise"].contains n&&vs[0]?==some (rawInt _))=true then _ else _) Q E s;rw[zC (by intro h;rw[hn,Bool.false_and]at h;cases h)];exact zW hQ))
def Itl(K:W.Frag)(a:Addr):It :=
 ⟨λi H=>∃xs x,SqL K H a xs/\xs[i]?=some x,λi H x H'=>H'=H/\∀xs,SqL K H a xs->xs[i]?=some x,λi H=>∃xs,SqL K H a xs/\xs.length<=i⟩
def Itt(K:W.Frag)(a:Addr):It :=
 ⟨λi H=>∃xs x,SqT K H a xs/\xs[i]?=some x,λi H x H'=>H'=H/\∀xs,SqT K H a xs->xs[i]?=some x,λi H=>∃xs,SqT K H a xs/\xs.length<=i⟩
def Itr(lo:Int)(n:Nat):It:=⟨λi _=>i<n,λi H x H'=>H'=H/\x = .int (lo+i),λi _=>n<=i⟩
theorem Vt{P:Program}{w:World}{K:W.Frag}{tg:Expr}(a it:Addr):Zu P w K tg (Itl K a) [it] it (λi h=>h.IsListIter it a i)where
 mem:=by simp
 obj:=λi h st b hb=>by
  have e:b=it:=by simpa using hb
  subst e;obtain⟨o,e,c,d⟩:=st;exact⟨o,e,λv z=>by rw[d]at z;cases z⟩
 keep:=λi h h' st k=>st.at λo e=>k it (by simp) o e
 item:=by
  intro X hP hw hK hc i pins s σ H E I hf st hg;subst hP hw hK;obtain⟨xs,x,hq,hx⟩:=hg;obtain⟨aE,rv,p,hz⟩:=I.list hq;obtain⟨u,hu,ru⟩:=rv.get hx;obtain⟨f0,f1,f2,f3,f4,f5⟩:=hf it (by simp);refine wpAny_pyNext_list_item st p.isList (x:=u) (by simpa using hu) λh' gL sb=>?_;have I1:Inv X pins σ H { s with heap:=h' }:=I.turned (t':=s.toks) (λb o hb e=>(sb.2 b hb).trans e) f0 f1 f3 f4 f5;obtain⟨o,e,c,d⟩:=id gL;exact⟨u,rfl,Qb (s:={ s with heap:=h' }) e c d (by decide) ⟨x,H,I1,ru,⟨rfl,λys hy=>by rw[I.list_inj hy hq];exact hx⟩,gL,λb hb=>(hf b hb).1⟩⟩
 done:=by
  intro X hP hw hK hc i pins s σ H E I hf st hg;subst hP hw hK;obtain⟨xs,hq,hx⟩:=hg;obtain⟨aE,rv,p,hz⟩:=I.list hq;obtain⟨f0,f1,f2,f3,f4,f5⟩:=hf it (by simp);have hl:=rv.length;exact wpAny_pyNext_list_end (I.ok.hd hc) st p.isList (by simp;lia) λh' eb=>⟨rfl,I.turned (t':=s.toks) (λb o hb e=>eb b o hb e) f0 f1 f3 f4 f5⟩
 self:=λ_ _ _ _ _ st h=>wpAny_pyIter_listiter st h
theorem mw{P:Program}{w:World}{K:W.Frag}{tg:Expr}(a it:Addr):Zu P w K tg (Itt K a) [it] it (λi h=>h.IsTupleIter it a i)where
 mem:=by simp
 obj:=λi h st b hb=>by
  have e:b=it:=by simpa using hb
  subst e;obtain⟨o,e,c,d⟩:=st;exact⟨o,e,λv z=>by rw[d]at z;cases z⟩
 keep:=λi h h' st k=>st.at λo e=>k it (by simp) o e
 item:=by
  intro X hP hw hK hc i pins s σ H E I hf st hg;subst hP hw hK;obtain⟨xs,x,hq,hx⟩:=hg;obtain⟨aE,rv,p,hz⟩:=I.tuple hq;obtain⟨u,hu,ru⟩:=rv.get hx;obtain⟨f0,f1,f2,f3,f4,f5⟩:=hf it (by simp);refine wpAny_pyNext_tuple_item st (show s.heap.IsTuple a aE.toArray from p) (x:=u) (by simpa using hu) λh' gL sb=>?_;have I1:Inv X pins σ H { s with heap:=h' }:=I.turned (t':=s.toks) (λb o hb e=>(sb.2 b hb).trans e) f0 f1 f3 f4 f5;obtain⟨o,e,c,d⟩:=id gL;exact⟨u,rfl,Qb (s:={ s with heap:=h' }) e c d (by decide) ⟨x,H,I1,ru,⟨rfl,λys hy=>by rw[I.tuple_inj hy hq];exact hx⟩,gL,λb hb=>(hf b hb).1⟩⟩
 done:=by
  intro X hP hw hK hc i pins s σ H E I hf st hg;subst hP hw hK;obtain⟨xs,hq,hx⟩:=hg;obtain⟨aE,rv,p,hz⟩:=I.tuple hq;obtain⟨f0,f1,f2,f3,f4,f5⟩:=hf it (by simp);have hl:=rv.length;exact wpAny_pyNext_tuple_end (I.ok.hd hc) st (show s.heap.IsTuple a aE.toArray from p) (by simp;lia) λh' eb=>⟨rfl,I.turned (t':=s.toks) (λb o hb e=>eb b o hb e) f0 f1 f3 f4 f5⟩
 self:=λ_ _ _ _ _ st h=>wpAny_pyIter_tupleiter st h
theorem Zl{P:Program}{w:World}{K:W.Frag}{tg:Expr}(it:Addr)(lo:Int)(n:Nat):Zu P w K tg (Itr lo n) [it] it (λi h=>IsRangeIter h it (lo+(i:Nat)*1) ((n:Int)-(i:Nat)) 1)where
 mem:=by simp
 obj:=λi h st b hb=>by
  have e:b=it:=by simpa using hb
  subst e;exact⟨_,st,λv z=>by
   have z':Data.fields _=Data.cell v:=z;cases z'⟩
 keep:=λi h h' st k=>k it (by simp) _ st
 item:=by
  intro X hP hw hK hc i pins s σ H E I hf st hg;subst hP hw hK;obtain⟨f0,f1,f2,f3,f4,f5⟩:=hf it (by simp);have W:=Walks.range (prog:=X.prog) (w:=X.w) (I.ok.hd hc) it lo 1 n;refine W.item i s _ _ hg st λv h' tk hv gL kk=>?_;obtain⟨t,rfl⟩:=hv;have I1:Inv X pins σ H { s with heap:=h',toks:=tk }:=I.turned (λb o hb e=>kk b o (by simpa using hb) e) f0 f1 f3 f4 f5;refine⟨_,rfl,Qb (s:={ s with heap:=h',toks:=tk }) (n:="range_iterator") gL rfl rfl (by decide) ⟨.int (lo+i),H,I1,⟨t,?_⟩,⟨rfl,rfl⟩,gL,λb hb=>(hf b hb).1⟩⟩;rw[Int.mul_one]
 done:=by
  intro X hP hw hK hc i pins s σ H E I hf st hg;subst hP hw hK;obtain⟨f0,f1,f2,f3,f4,f5⟩:=hf it (by simp);exact wpAny_pyNext_range_end (I.ok.hd hc) st (by have:n<=i:=hg;lia) λh' eb=>⟨rfl,I.turned (t':=s.toks) (λb o hb e=>eb b o hb e) f0 f1 f3 f4 f5⟩
 self:=λ_ _ _ _ _ st h=>wpAny_pyIter_rangeiter st h
end L2
namespace L2
open PySem PySem.Spec PyProof.Rows
section
variable {X:Cx}{tg:Expr}
theorem Sg{pins:List (Addr×Obj)}{σ:St}{H:Hp}{s:Shared}{R:It->Hp->Prop}{E:Value->Shared->Prop}{lo hi:Int}{t u v:Tok}{tk:Nat}(I:Inv X pins σ H s)(h1:-(2 ^ 62)<=lo)(h2:lo<2 ^ 62)(h3:-(2 ^ 62)<=hi)(h4:hi<2 ^ 62)
  (q:R (Itr lo (hi-lo).toNat) H):wpAny (model X.prog X.w) X.A (pyIter (.ref s.heap.objs.size)) (PIE X pins σ tg R) E { s with heap:=s.heap.push { cls:=.type "range",data:=.fields #[.int lo t,.int hi u,.int 1 v] },toks:=tk }:=by
 refine wpAny_pyIter_range (IsRange.new ..) (small_one h1 h2 h3 h4) ?_;have I1:Inv X pins σ H { s with heap:=s.heap.push { cls:=.type "range",data:=.fields #[.int lo t,.int hi u,.int 1 v] },toks:=tk }:=I.kept λb o e=>zX _ e;refine⟨(s.heap.push { cls:=.type "range",data:=.fields #[.int lo t,.int hi u,.int 1 v] }).objs.size,[(s.heap.push { cls:=.type "range",data:=.fields #[.int lo t,.int hi u,.int 1 v] }).objs.size],_,_,H,rfl,
  I1.kept (t':=tk) λb o e=>zX _ e,Zl _ lo (hi-lo).toNat,?_,λb hb=>?_,q⟩
 ·have e1:lo+((0:Nat):Int)*1=lo:=by simp
  have e2:(((hi-lo).toNat:Nat):Int)-((0:Nat):Int)=Builtin.Range.rangeSize lo hi 1:=by rw[rangeSize_one];split<;>lia
  show IsRangeIter _ _ (lo+((0:Nat):Int)*1) ((((hi-lo).toNat:Nat):Int)-((0:Nat):Int)) 1;rw[e1,e2];exact zT _ rfl
 ·have e:b=(s.heap.push { cls:=.type "range",data:=.fields #[.int lo t,.int hi u,.int 1 v] }).objs.size:=by simpa using hb
  subst e;exact I1.fpOk (zU _) (I1.hok.fresh (zU _))
def Gg(wi:TI)(g:TG)(tb:TS):TS:=λD σ H=>wi σ H λJ H1=>∃W:Nat->Nat->St->Hp->Prop,(∃m,W 0 m σ H1)/\∀i m σ H,W i m σ H ->
 (J.stop i H/\D.nx σ H)\/(J.go i H/\∃N:St->Hp->Prop,(∀σ' H',N σ' H'->∃m',m'<m/\W (i+1) m' σ' H')/\∀x H',J.yld i H x H'->g x σ H' fun σ2 H2=>tb { D with nx:=N,ct:=N,bk:=D.nx } σ2 H2)
def ls(fp:List Addr)(h:Heap):List (Addr×Obj):=fp.filterMap λb=>(h.get? b).map λo=>(b,o)
theorem uq{fp:List Addr}{h:Heap}{b:Addr}{o:Obj}(hb:b∈fp)(e:h.get? b=some o):(b,o)∈ls fp h:=List.mem_filterMap.mpr ⟨b,hb,by rw[e];rfl⟩
theorem U3{fp:List Addr}{h:Heap}{p:Addr×Obj}(hp:p∈ls fp h):p.1∈fp/\h.get? p.1=some p.2:=by
 obtain⟨b,hb,e⟩:=List.mem_filterMap.mp hp;cases q:h.get? b with
 |none=>rw[q]at e;cases e
 |some o =>
  rw[q]at e;have e':(b,o)=p:=yY e;subst e';exact⟨hb,q⟩
theorem Inv.pinned{pins:List (Addr×Obj)}{σ:St}{H:Hp}{s:Shared}{fp:List Addr}(I:Inv X pins σ H s)(hf:∀b∈fp,p8 X pins H b)(ho:∀b∈fp,∃o,s.heap.get? b=some o/\∀v,o.data≠.cell v):Inv X (pins++ls fp s.heap) σ H s :=
 I.pins_of λp hp=>(zE.mp hp).elim (λz=>I.pin p (yP _ z)) λz=>by
  obtain⟨hb,e⟩:=U3 z;obtain⟨f0,f1,f2,_⟩:=hf p.1 hb;obtain⟨o,e',d⟩:=ho p.1 hb;rw[e]at e';cases e';exact⟨e,f0,f1,f2,d⟩
theorem Inv.unpinned{pins pl:List (Addr×Obj)}{σ:St}{H:Hp}{s:Shared}(I:Inv X (pins++pl) σ H s):Inv X pins σ H s:=I.pins_of λp hp=>I.pin p (yP _ (xP _ hp))
theorem La{iter:Expr}{body:List Stmt}{wi:TI}{g:TG}{tb:TS}{pos:Pos}(hp:PassesOwn (model X.prog X.w) X.A X.env X.xe)(hc:X.calm=true)(hi:PI X tg iter wi)(hg:PG X tg g)(hb:PSs X body tb)
  (hs:∀x,foldedSetIterable iter X.env x=pure x:=by intro _;rfl):PS X (.For tg iter body [] pos) (Gg wi g tb):=by
 intro pins s σ H D I h;refine wpAny_For (thn (hi pins s σ H _ I h) λv s1 h1=>thn h1 λitv s2 h2=>?_) hs;obtain⟨it,fp,tn,J,H2,e,I2,T,Eo,f2,W,⟨m0,w0⟩,oV⟩:=h2;subst e;have Cy:∀{H':Hp},(∀b∈fp,H' b=none)->∀b∈fp,p8 X pins H' b:=λhn b hb=>⟨hn b hb,(f2 b hb).2⟩
 refine codeAny_forLoop_any (λn s'=>∃i σ' H',Inv X pins σ' H' s'/\tn i s'.heap/\(∀b∈fp,H' b=none)/\W i n σ' H') ?_ m0 ⟨0,σ,H2,I2,Eo,λb hb=>(f2 b hb).1,w0⟩;rintro n s3 ⟨i,σ3,H3,I3,st3,fr3,w3⟩;rcases oV i n σ3 H3 w3 with⟨stop,qn⟩|⟨go,N,hN,step⟩
 ·refine tL hp (thn (T.done X rfl rfl rfl hc i pins s3 σ3 H3 X.xe I3 (Cy fr3) st3 stop) λr s4 ⟨hr,I4⟩=>?_);subst hr;exact wpAny_execs_nil ⟨σ3,H3,I4,qn⟩
 ·refine tL hp (thn (T.item X rfl rfl rfl hc i pins s3 σ3 H3 X.xe I3 (Cy fr3) st3 go) λr s4 ⟨u,hr,h4⟩=>?_);subst hr;refine tL hp (thn h4 λ_ s5 ⟨x,H5,I5,r5,y5,DD,fr5⟩=>?_);have I5':=I5.pinned (Cy fr5) (T.obj _ _ DD);refine tL hp (thn (hg _ s5 σ3 H5 x u _ I5' r5 (step x H5 y5)) λ_ s6 ⟨σ6,H6,I6,q6⟩=>?_);refine tL hp (thn (hb _ s6 σ6 H6 _ I6 q6) λf s7 q7=>?_);have again:∀{σ7:St}{H7:Hp},Inv X (pins++ls fp s5.heap) σ7 H7 s7->N σ7 H7->∃m,m<n/\∃i σ' H',Inv X pins σ' H' s7/\tn i s7.heap/\(∀b∈fp,H' b=none)/\W i m σ' H':=λ{σ7 H7} I7 n7=>by
   obtain⟨m',hm,w7⟩:=hN σ7 H7 n7;refine⟨m',hm,i+1,σ7,H7,I7.unpinned,T.keep _ _ _ DD λb hb o e=>(I7.pin (b,o) (yP _ (yP _ (uq hb e)))).1,λb hb=>?_,w7⟩;obtain⟨o,e,d⟩:=T.obj _ _ DD b hb;exact(I7.pin (b,o) (yP _ (yP _ (uq hb e)))).2.1
  cases f with
  |next=>obtain⟨σ7,H7,I7,n7⟩:=q7;exact again I7 n7
  |cont=>obtain⟨σ7,H7,I7,n7⟩:=q7;exact again I7 n7
  |brk=>obtain⟨σ7,H7,I7,q7⟩:=q7;exact⟨σ7,H7,I7.unpinned,q7⟩
  |ret v=>obtain⟨x7,σ7,H7,I7,r7,q7⟩:=q7;exact⟨x7,σ7,H7,I7.unpinned,r7,q7⟩
end
theorem P8{K:W.Frag}{a:Addr}{xs:List V}{g:TG}{tb:TS}{D:tp}{σ:St}{H:Hp}(Pv:Nat->St->Hp->Prop)(h0:Pv 0 σ H)(hl:∀i σ H,i<=xs.length->Pv i σ H->SqL K H a xs)
  (hs:∀i x σ H,xs[i]?=some x->Pv i σ H->g x σ H fun σ2 H2=>tb { D with nx:=Pv (i+1),ct:=Pv (i+1),bk:=D.nx } σ2 H2) (hd:∀σ H,Pv xs.length σ H->D.nx σ H) :
  ∃W:Nat->Nat->St->Hp->Prop,(∃m,W 0 m σ H)/\∀i m σ H,W i m σ H ->
   ((Itl K a).stop i H/\D.nx σ H)\/((Itl K a).go i H/\∃N:St->Hp->Prop,(∀σ' H',N σ' H'->∃m',m'<m/\W (i+1) m' σ' H')/\∀x H',(Itl K a).yld i H x H'->g x σ H' fun σ2 H2=>tb { D with nx:=N,ct:=N,bk:=D.nx } σ2 H2):=by
 refine⟨λi m σ H=>m=xs.length-i/\i<=xs.length/\Pv i σ H,⟨xs.length,by simp,yQ _,h0⟩,?_⟩;rintro i m σ H ⟨rfl,hi,p⟩;have q:=hl i σ H hi p
 by_cases aO:i<xs.length
 ·refine .inr ⟨⟨xs,xs[i],q,by simp[aO]⟩,Pv (i+1),fun σ' H' p'=>⟨xs.length-(i+1),by lia,rfl,aO,p'⟩,λx H' y=>?_⟩;obtain⟨e,y⟩:=y;subst e;exact hs i x σ _ (y xs q) p
 ·have e:i=xs.length:=by lia
  subst e;exact .inl ⟨⟨xs,q,zU _⟩,hd σ H p⟩
theorem Nb{K:W.Frag}{a:Addr}{xs:List V}{g:TG}{tb:TS}{D:tp}{σ:St}{H:Hp}(Pv:Nat->St->Hp->Prop)(h0:Pv 0 σ H)(hl:∀i σ H,i<=xs.length->Pv i σ H->SqT K H a xs)
  (hs:∀i x σ H,xs[i]?=some x->Pv i σ H->g x σ H fun σ2 H2=>tb { D with nx:=Pv (i+1),ct:=Pv (i+1),bk:=D.nx } σ2 H2) (hd:∀σ H,Pv xs.length σ H->D.nx σ H) :
  ∃W:Nat->Nat->St->Hp->Prop,(∃m,W 0 m σ H)/\∀i m σ H,W i m σ H ->
   ((Itt K a).stop i H/\D.nx σ H)\/((Itt K a).go i H/\∃N:St->Hp->Prop,(∀σ' H',N σ' H'->∃m',m'<m/\W (i+1) m' σ' H')/\∀x H',(Itt K a).yld i H x H'->g x σ H' fun σ2 H2=>tb { D with nx:=N,ct:=N,bk:=D.nx } σ2 H2):=by
 refine⟨λi m σ H=>m=xs.length-i/\i<=xs.length/\Pv i σ H,⟨xs.length,by simp,yQ _,h0⟩,?_⟩;rintro i m σ H ⟨rfl,hi,p⟩;have q:=hl i σ H hi p
 by_cases aO:i<xs.length
 ·refine .inr ⟨⟨xs,xs[i],q,by simp[aO]⟩,Pv (i+1),fun σ' H' p'=>⟨xs.length-(i+1),by lia,rfl,aO,p'⟩,λx H' y=>?_⟩;obtain⟨e,y⟩:=y;subst e;exact hs i x σ _ (y xs q) p
 ·have e:i=xs.length:=by lia
  subst e;exact .inl ⟨⟨xs,q,zU _⟩,hd σ H p⟩
theorem Ua{lo:Int}{n:Nat}{g:TG}{tb:TS}{D:tp}{σ:St}{H:Hp}(Pv:Nat->St->Hp->Prop)(h0:Pv 0 σ H)
  (hs:∀i σ H,i<n->Pv i σ H->g (.int (lo+i)) σ H fun σ2 H2=>tb { D with nx:=Pv (i+1),ct:=Pv (i+1),bk:=D.nx } σ2 H2) (hd:∀σ H,Pv n σ H->D.nx σ H) :
  ∃W:Nat->Nat->St->Hp->Prop,(∃m,W 0 m σ H)/\∀i m σ H,W i m σ H ->
   ((Itr lo n).stop i H/\D.nx σ H)\/((Itr lo n).go i H/\∃N:St->Hp->Prop,(∀σ' H',N σ' H'->∃m',m'<m/\W (i+1) m' σ' H')/\∀x H',(Itr lo n).yld i H x H'->g x σ H' fun σ2 H2=>tb { D with nx:=N,ct:=N,bk:=D.nx } σ2 H2):=by
 refine⟨λi m σ H=>m=n-i/\i<=n/\Pv i σ H,⟨n,by simp,yQ _,h0⟩,?_⟩;rintro i m σ H ⟨rfl,hi,p⟩
 by_cases aO:i<n
 ·refine .inr ⟨aO,Pv (i+1),fun σ' H' p'=>⟨n-(i+1),by lia,rfl,aO,p'⟩,λx H' y=>?_⟩;obtain⟨e,y⟩:=y;subst e y;exact hs i σ _ aO p
 ·have e:i=n:=by lia
  subst e;exact .inl ⟨zU _,hd σ H p⟩
end L2
namespace L2
open PySem PySem.Spec PyProof.Rows
abbrev R2:=V->V->Hp->VK->Prop
def OpR(X:Cx)(f:Value->Value->Sem Value)(r:R2):Prop :=
 ∀(pins:List (Addr×Obj))(s:Shared)(σ:St)(H:Hp)(x y:V)(v u:Value)(Q:VK),Inv X pins σ H s->RelV x v->RelV y u->r x y H Q ->
  wpAny (model X.prog X.w) X.A (f v u) (EP X pins σ Q) X.xe s
def UnR(X:Cx)(f:Value->Sem Value)(r:V->Hp->VK->Prop):Prop :=
 ∀(pins:List (Addr×Obj))(s:Shared)(σ:St)(H:Hp)(x:V)(v:Value)(Q:VK),Inv X pins σ H s->RelV x v->r x H Q ->
  wpAny (model X.prog X.w) X.A (f v) (EP X pins σ Q) X.xe s
def wo(X:Cx)(f:Value)(r:List V->Hp->VK->Prop):Prop :=
 ∀(pins:List (Addr×Obj))(s:Shared)(σ:St)(H:Hp)(xs:List V)(us:List Value)(Q:VK),Inv X pins σ H s->Vals xs us->r xs H Q ->
  wpAny (model X.prog X.w) X.A (call f us) (EP X pins σ Q) X.xe s
def tOp(r:R2)(ta tb:TE):TE:=fun σ H Q=>ta σ H λx H1=>tb σ H1 λy H2=>r x y H2 Q
def tUn(r:V->Hp->VK->Prop)(ta:TE):TE:=fun σ H Q=>ta σ H λx H1=>r x H1 Q
def rI(C:Int->Int->Prop)(g:Int->Int->V):R2:=λx y H Q=>∃i j,x = .int i/\y = .int j/\C i j/\Q (g i j) H
def rI0(g:Int->Int->V):R2:=λx y H Q=>∃i j,x = .int i/\y = .int j/\Q (g i j) H
def rU(g:Int->V):V->Hp->VK->Prop:=λx H Q=>∃i,x = .int i/\Q (g i) H
section
variable {X:Cx}{a b c:Expr}{ta tb tc:TE}{pos:Pos}
theorem Jr(ha:PE X a ta)(hb:PE X b tb){pins:List (Addr×Obj)}{s:Shared}{σ:St}{H:Hp}{R:V->V->Hp->Prop}(I:Inv X pins σ H s)
  (h:ta σ H λx H1=>tb σ H1 λy H2=>R x y H2) {Q:Value->Shared->Prop}{f:Value->Value->Sem Value}
  (hf:∀v u s2 x y H2,Inv X pins σ H2 s2->RelV x v->RelV y u->R x y H2->wpAny (model X.prog X.w) X.A (f v u) Q X.xe s2) :
  wpAny (model X.prog X.w) X.A (eval a X.env) (λv s₁=>wpAny (model X.prog X.w) X.A (eval b X.env) (λu s₂=>wpAny (model X.prog X.w) X.A (f v u) Q X.xe s₂) X.xe s₁) X.xe s:=by
 refine thn (ha pins s σ H _ I h) λv s1 ⟨x,H1,I1,r1,q1⟩=>?_;refine thn (hb pins s1 σ H1 _ I1 q1) λu s2 ⟨y,H2,I2,r2,q2⟩=>?_;exact hf v u s2 x y H2 I2 r1 r2 q2
theorem zt{op:Operator}{r:R2}(ho:OpR X (binaryOp op) r)(ha:PE X a ta)(hb:PE X b tb):PE X (.BinOp a op b pos) (tOp r ta tb):=by
 intro pins s σ H Q I h;exact wpAny_BinOp (Jr ha hb I h λv u s2 x y H2 I2 rx ry q=>ho pins s2 σ H2 x y v u Q I2 rx ry q)
theorem Hx{op:UnaryOp}{r:V->Hp->VK->Prop}(ho:UnR X (unaryOp op) r)(ha:PE X a ta):PE X (.UnaryOp op a pos) (tUn r ta):=by
 intro pins s σ H Q I h;exact UnaryOp_ (thn (ha pins s σ H _ I h) λv s1 ⟨x,H1,I1,r1,q1⟩=>ho pins s1 σ H1 x v Q I1 r1 q1)
theorem opI{f:Value->Value->Sem Value}{C:Int->Int->Prop}{g:Int->Int->Int}
  (rule:∀(i j:Int)(t u:Tok)(s:Shared)(Q:Value->Shared->Prop)(E:Value->Shared->Prop),C i j->Q (.int (g i j) s.toks) { s with toks:=s.toks+1 }->wpAny (model X.prog X.w) X.A (f (.int i t) (.int j u)) Q E s) :
  OpR X f (rI C λi j=>.int (g i j)):=by
 intro pins s σ H x y v u Q I rx ry h;obtain⟨i,j,rfl,rfl,hc,q⟩:=h;obtain⟨t,rfl⟩:=rx;obtain⟨t',rfl⟩:=ry;exact rule i j t t' s _ _ hc ⟨.int (g i j),H,I.tok _,⟨_,rfl⟩,q⟩
theorem Hq{f:Value->Value->Sem Value}{g:Int->Int->Int}
  (rule:∀(i j:Int)(t u:Tok)(s:Shared)(Q:Value->Shared->Prop)(E:Value->Shared->Prop),Q (.int (g i j) s.toks) { s with toks:=s.toks+1 }->wpAny (model X.prog X.w) X.A (f (.int i t) (.int j u)) Q E s) :
  OpR X f (rI0 λi j=>.int (g i j)):=by
 intro pins s σ H x y v u Q I rx ry h;obtain⟨i,j,rfl,rfl,q⟩:=h;obtain⟨t,rfl⟩:=rx;obtain⟨t',rfl⟩:=ry;exact rule i j t t' s _ _ ⟨.int (g i j),H,I.tok _,⟨_,rfl⟩,q⟩
theorem Ky{f:Value->Value->Sem Value}{g:Int->Int->Bool}
  (rule:∀(i j:Int)(t u:Tok)(s:Shared)(Q:Value->Shared->Prop)(E:Value->Shared->Prop),Q (.bool (g i j)) s->wpAny (model X.prog X.w) X.A (f (.int i t) (.int j u)) Q E s) :
  OpR X f (rI0 λi j=>.bl (g i j)):=by
 intro pins s σ H x y v u Q I rx ry h;obtain⟨i,j,rfl,rfl,q⟩:=h;obtain⟨t,rfl⟩:=rx;obtain⟨t',rfl⟩:=ry;exact rule i j t t' s _ _ ⟨.bl (g i j),H,I,rfl,q⟩
def Gi(i j:Int):Prop:=0<j/\j<1073741824
def Gj(i j:Int):Prop:=0<=j/\j<=1000000/\i.natAbs<2 ^ 64
def CMul(i j:Int):Prop:=(-(2 ^ 64)<i/\i<2 ^ 64)\/(-(2 ^ 64)<j/\j<2 ^ 64)
theorem CMul.ok{i j:Int}(h:CMul i j):IntMulOk i j:=by
 rcases h with⟨h1,h2⟩|⟨h1,h2⟩
 ·exact .of_left (intBits_le_64 h1 h2)
 ·exact .of_right (intBits_le_64 h1 h2)
theorem Kz:OpR X (binaryOp .Add) (rI0 λi j=>.int (i+j)):=Hq λ_ _ _ _ _ _ _ q=>add_int q
theorem K5:OpR X (binaryOp .Sub) (rI0 λi j=>.int (i-j)):=Hq λ_ _ _ _ _ _ _ q=>sub_int q
theorem K3:OpR X (binaryOp .Mult) (rI CMul λi j=>.int (i*j)):=opI λ_ _ _ _ _ _ _ hc q=>mul_int q hc.ok
theorem Of:OpR X (binaryOp .FloorDiv) (rI Gi λi j=>.int (i / j)):=opI λi j _ _ _ _ _ hc q=>by
 have h1:(0:Int)<j:=hc.1;have h2:j<1073741824:=hc.2;exact floordiv_int (by lia) (by rw[Int.fdiv_eq_ediv_of_nonneg i (by lia)];exact q) (.inl (PyProof.noPylong_small (by lia)))
theorem K2:OpR X (binaryOp .Mod) (rI (λ_ j=>0<j) λi j=>.int (i % j)):=opI λi j _ _ _ _ _ hc q=>by
 have h1:(0:Int)<j:=hc;exact mod_int' (by lia) (by rw[Int.fmod_eq_emod_of_nonneg i (by lia)];exact q)
theorem K4:OpR X (binaryOp .Pow) (rI Gj λi j=>.int (i ^ j.toNat)):=opI λ_ _ _ _ _ _ _ hc q=>pow_int_small hc.1 hc.2.1 hc.2.2 q
theorem unI{f:Value->Sem Value}{g:Int->Int}
  (rule:∀(i:Int)(t:Tok)(s:Shared)(Q:Value->Shared->Prop)(E:Value->Shared->Prop),Q (.int (g i) s.toks) { s with toks:=s.toks+1 }->wpAny (model X.prog X.w) X.A (f (.int i t)) Q E s) :
  UnR X f (rU λi=>.int (g i)):=by
 intro pins s σ H x v Q I rx h;obtain⟨i,rfl,q⟩:=h;obtain⟨t,rfl⟩:=rx;exact rule i t s _ _ ⟨.int (g i),H,I.tok _,⟨_,rfl⟩,q⟩
theorem L9:UnR X (unaryOp .USub) (rU λi=>.int (-i)):=unI λ_ _ _ _ _ q=>neg_int q
end
def Lz:V->V->Bool
 | .non,.non=>true|.non,.int _=>true|.int _,.non=>true|.non,.bl _=>true|.bl _,.non=>true|.non,.str _=>true|.str _,.non=>true
 | .int _,.int _=>true|.bl _,.bl _=>true|.str _,.str _=>true|.byt _,.byt _=>true
 | .int _,.str _=>true|.str _,.int _=>true|.bl _,.str _=>true|.str _,.bl _=>true
 |_,_=>false
def rEq:R2:=λx y H Q=>Lz x y=true/\Q (.bl (decide (x=y))) H
def rNe:R2:=λx y H Q=>Lz x y=true/\Q (.bl (!decide (x=y))) H
theorem V7{i j:Int}:decide (V.int i=V.int j)=(i==j):=by
 rw[tK];simp
theorem Pz{i j:Bool}:decide (V.bl i=V.bl j)=(i==j):=by
 rw[tK];simp
theorem V8{i j:Str}:decide (V.str i=V.str j)=(i==j):=by
 rw[tK];simp
theorem V6{i j:Array UInt8}:decide (V.byt i=V.byt j)=(i.toList==j.toList):=by
 rw[tK];cases i;cases j;simp
section
variable {X:Cx}{a b c:Expr}{ta tb tc:TE}{pos:Pos}
theorem yo{pins:List (Addr×Obj)}{σ:St}{H:Hp}{s:Shared}{Q:VK}{k k':Bool}(I:Inv X pins σ H s)(q:Q (.bl k) H)(e:k=k'):EP X pins σ Q (.bool k') s:=by
 subst e;exact⟨.bl k,H,I,rfl,q⟩
theorem Hr:OpR X (compareOp .Eq) rEq:=by
 intro pins s σ H x y v u Q I rx ry h;obtain⟨hs,q⟩:=h;cases x with
 |non =>
  cases rx;cases y with
  |non=>cases ry;exact PySem.EqNone.eq_none_none (yo I q (by simp))
  |bl j=>cases ry;exact PySem.EqNone.eq_none_bool (yo I q (by simp))
  |int j=>obtain⟨t',rfl⟩:=ry;exact PySem.EqNone.eq_none_int (yo I q (by simp))
  |str j=>obtain⟨t',rfl⟩:=ry;exact PySem.EqNone.eq_none_str (yo I q (by simp))
  |_=>exact absurd (show false=true from hs) zF
 |bl i =>
  cases rx;cases y with
  |non=>cases ry;exact PySem.EqNone.eq_bool_none (yo I q (by simp))
  |bl j=>cases ry;exact eq_bool (yo I q Pz)
  |str j=>obtain⟨t',rfl⟩:=ry;exact PySem.EqMixed.eq_bool_str (yo I q (by simp))
  |_=>exact absurd (show false=true from hs) zF
 |int i =>
  obtain⟨t,rfl⟩:=rx;cases y with
  |non=>cases ry;exact PySem.EqNone.eq_int_none (yo I q (by simp))
  |int j=>obtain⟨t',rfl⟩:=ry;exact eq_int (yo I q V7)
  |str j=>obtain⟨t',rfl⟩:=ry;exact PySem.EqMixed.eq_int_str (yo I q (by simp))
  |_=>exact absurd (show false=true from hs) zF
 |str i =>
  obtain⟨t,rfl⟩:=rx;cases y with
  |non=>cases ry;exact PySem.EqNone.eq_str_none (yo I q (by simp))
  |bl j=>cases ry;exact PySem.EqMixed.eq_str_bool (yo I q (by simp))
  |int j=>obtain⟨t',rfl⟩:=ry;exact PySem.EqMixed.eq_str_int (yo I q (by simp))
  |str j=>obtain⟨t',rfl⟩:=ry;exact eq_str (yo I q V8)
  |_=>exact absurd (show false=true from hs) zF
 |byt i =>
  obtain⟨t,rfl⟩:=rx;cases y with
  |byt j=>obtain⟨t',rfl⟩:=ry;exact W.eq_bytes (yo I q V6)
  |_=>exact absurd (show false=true from hs) zF
 |_=>cases y<;>exact absurd (show false=true from hs) zF
theorem Hv:OpR X (compareOp .NotEq) rNe:=by
 intro pins s σ H x y v u Q I rx ry h;obtain⟨hs,q⟩:=h;cases x with
 |non =>
  cases rx;cases y with
  |non=>cases ry;exact PySem.EqNone.ne_none_none (yo I q (by simp))
  |bl j=>cases ry;exact PySem.EqNone.ne_none_bool (yo I q (by simp))
  |int j=>obtain⟨t',rfl⟩:=ry;exact PySem.EqNone.ne_none_int (yo I q (by simp))
  |str j=>obtain⟨t',rfl⟩:=ry;exact PySem.EqNone.ne_none_str (yo I q (by simp))
  |_=>exact absurd (show false=true from hs) zF
 |bl i =>
  cases rx;cases y with
  |non=>cases ry;exact PySem.EqNone.ne_bool_none (yo I q (by simp))
  |bl j=>cases ry;exact ne_bool (yo I q (wZ not Pz))
  |str j=>obtain⟨t',rfl⟩:=ry;exact PySem.EqMixed.ne_bool_str (yo I q (by simp))
  |_=>exact absurd (show false=true from hs) zF
 |int i =>
  obtain⟨t,rfl⟩:=rx;cases y with
  |non=>cases ry;exact PySem.EqNone.ne_int_none (yo I q (by simp))
  |int j=>obtain⟨t',rfl⟩:=ry;exact ne_int (yo I q (wZ not V7))
  |str j=>obtain⟨t',rfl⟩:=ry;exact PySem.EqMixed.ne_int_str (yo I q (by simp))
  |_=>exact absurd (show false=true from hs) zF
 |str i =>
  obtain⟨t,rfl⟩:=rx;cases y with
  |non=>cases ry;exact PySem.EqNone.ne_str_none (yo I q (by simp))
  |bl j=>cases ry;exact PySem.EqMixed.ne_str_bool (yo I q (by simp))
  |int j=>obtain⟨t',rfl⟩:=ry;exact PySem.EqMixed.ne_str_int (yo I q (by simp))
  |str j=>obtain⟨t',rfl⟩:=ry;exact ne_str (yo I q (wZ not V8))
  |_=>exact absurd (show false=true from hs) zF
 |byt i =>
  obtain⟨t,rfl⟩:=rx;cases y with
  |byt j=>obtain⟨t',rfl⟩:=ry;exact W.ne_bytes (yo I q (wZ not V6))
  |_=>exact absurd (show false=true from hs) zF
 |_=>cases y<;>exact absurd (show false=true from hs) zF
theorem Hu:OpR X (compareOp .Lt) (rI0 λi j=>.bl (decide (i<j))):=Ky λ_ _ _ _ _ _ _ q=>lt_int q
theorem Ht:OpR X (compareOp .LtE) (rI0 λi j=>.bl (decide (i<=j))):=Ky λ_ _ _ _ _ _ _ q=>le_int q
theorem Hs:OpR X (compareOp .Gt) (rI0 λi j=>.bl (decide (j<i))):=Ky λ_ _ _ _ _ _ _ q=>gt_int q
theorem K1:OpR X (compareOp .Is) (λx y H Q=>y = .non/\Q (.bl (decide (x = .non))) H):=by
 intro pins s σ H x y v u Q I rx ry h;obtain⟨rfl,q⟩:=h;cases ry;refine is_none_gen (yo I q ?_);cases x<;>first
  |(cases rx;rfl)
  |(obtain⟨t,rfl⟩:=rx;rfl)
theorem zm(b:Expr){op:CmpOp}(h:op≠.In:=by decide)(h2:op≠.NotIn:=by decide):behindInMarks op b=false:=by
 have e1:(op==CmpOp.In)=false:=by cases op<;>first|rfl|exact absurd rfl h
 have e2:(op==CmpOp.NotIn)=false:=by cases op<;>first|rfl|exact absurd rfl h2
 cases b<;>simp[behindInMarks,e1,e2]
theorem wy{op:CmpOp}{r:R2}(ho:OpR X (compareOp op) r)(ha:PE X a ta)(hb:PE X b tb)(hm:behindInMarks op b=false):PE X (.Compare a [op] [b] pos) (tOp r ta tb):=by
 intro pins s σ H Q I h;exact wpAny_Compare1 (Jr ha hb I h λv u s2 x y H2 I2 rx ry q=>ho pins s2 σ H2 x y v u Q I2 rx ry q) hm
theorem pf:(sizeLine:Nat)<2 ^ 63:=by rw[zP];decide
theorem Yu:OpR X (binaryOp .Add) (λx y H Q=>∃i j,x = .str i/\y = .str j/\i.length+j.length<=sizeLine/\Q (.str (i++j)) H):=by
 intro pins s σ H x y v u Q I rx ry h;obtain⟨i,j,rfl,rfl,hz,q⟩:=h;obtain⟨t,rfl⟩:=rx;obtain⟨t',rfl⟩:=ry;exact add_str (λt' tk=>⟨.str (i++j),H,I.tok _,⟨_,rfl⟩,q⟩) hz
theorem vk{x:V}{us:List Value}(r:Vals [x] us):∃u,us=[u]/\RelV x u:=by
 cases r with
 |cons r1 r2=>cases r2;exact⟨_,rfl,r1⟩
theorem m3{x y:V}{us:List Value}(r:Vals [x,y] us):∃u w',us=[u,w']/\RelV x u/\RelV y w':=by
 cases r with
 |cons r1 r2 =>
  cases r2 with
  |cons r3 r4=>cases r4;exact⟨_,_,rfl,r1,r3⟩
theorem Zy:wo X (.builtin "abs") (λxs H Q=>∃i,xs=[.int i]/\Q (.int (if i<0 then -i else i)) H):=by
 intro pins s σ H xs us Q I r h;obtain⟨i,rfl,q⟩:=h;obtain⟨u,rfl,t,rfl⟩:=vk r;exact call_abs_int λu tk=>⟨.int (if i<0 then -i else i),H,I.tok _,⟨_,rfl⟩,q⟩
theorem Tp(hc:X.calm=true):wo X (.builtin "max") (λxs H Q=>∃i j,xs=[.int i,.int j]/\Q (.int (if j>i then j else i)) H):=by
 intro pins s σ H xs us Q I r h;obtain⟨i,j,rfl,q⟩:=h;obtain⟨u,w',rfl,⟨t,rfl⟩,⟨t',rfl⟩⟩:=m3 r;refine max_two_ints (I.ok.hd hc) λh' tk k=>⟨_,H,I.kept k,?_,q⟩
 by_cases hj:j>i
 ·rw[yT hj,yT hj];exact⟨_,rfl⟩
 ·rw[zC hj,zC hj];exact⟨_,rfl⟩
theorem Tq(hc:X.calm=true):wo X (.builtin "min") (λxs H Q=>∃i j,xs=[.int i,.int j]/\Q (.int (if j<i then j else i)) H):=by
 intro pins s σ H xs us Q I r h;obtain⟨i,j,rfl,q⟩:=h;obtain⟨u,w',rfl,⟨t,rfl⟩,⟨t',rfl⟩⟩:=m3 r;refine min_two_ints (I.ok.hd hc) λh' tk k=>⟨_,H,I.kept k,?_,q⟩
 by_cases hj:j<i
 ·rw[yT hj,yT hj];exact⟨_,rfl⟩
 ·rw[zC hj,zC hj];exact⟨_,rfl⟩
theorem To:wo X (.type "int") (λxs H Q=>(∃i,xs=[.int i]/\Q (.int i) H)\/∃k,xs=[.bl k]/\Q (.int (if k then 1 else 0)) H):=by
 intro pins s σ H xs us Q I r h;rcases h with⟨i,rfl,q⟩|⟨k,rfl,q⟩
 ·obtain⟨u,rfl,t,rfl⟩:=vk r;exact call_int_int ⟨.int i,H,I,⟨_,rfl⟩,q⟩
 ·obtain⟨u,rfl,r1⟩:=vk r;cases r1;exact call_int_bool ⟨.int (if k then 1 else 0),H,I.tok _,⟨_,rfl⟩,q⟩
end
end L2
namespace L2
open PySem PySem.Spec PyProof.Rows
structure ObjM(h:Heap)(x dx C:Addr)(mA:Str->Option Value):Prop where
 obj:h.get? x=some (W.instObj C dx)
 ns:h.Ns1 dx mA
 ne:dx≠x
theorem Uv{h:Heap}{dx:Addr}{mA:Str->Option Value}(n:h.Ns1 dx mA):∃od,h.get? dx=some od/\∀name,W.lookIn name od=some (mA name):=by
 obtain⟨o,es,ep,ho,hd,hk,_,hm⟩:=n;refine⟨o,ho,λname=>?_⟩;have e:=hm name;unfold nsFind findBy at e;rw[<-Array.find?_toList]at e;unfold W.lookIn;rw[hd];dsimp only;split
 ·rename_i y q;rw[q]at e;exact wZ some e
 ·rename_i q;rw[q]at e;have a:es.toList.any (·.refKey)=false:=by
   rw[List.any_eq_false];intro y hy;obtain⟨z,t,nG⟩:=hk y (Array.mem_toList_iff.mp hy);simp[DictEntry.refKey,nG]
  have a':¬es.toList.any (·.refKey)=true:=by rw[a];exact zF
  rw[zC a'];exact wZ some e
theorem ObjM.look{h:Heap}{x dx C:Addr}{mA:Str->Option Value}(I:ObjM h x dx C mA):∃od,W.InstAt h x (W.instObj C dx) C (some od)/\∀name,W.lookIn name od=some (mA name) :=
 let⟨od,ho,hl⟩:=Uv I.ns
 ⟨od,⟨I.obj,rfl,rfl,ho⟩,hl⟩
section
variable {prog:Program}{w:World}{A:Around}{E:Value->Shared->Prop}{s:Shared}{K:W.Frag}{x dx C f:Addr}{mA:Str->Option Value}{name:Str}{v:Value}
theorem Nd{expr:Bool}{Q:Value->Shared->Prop}(X:K.In s.heap)(I:ObjM s.heap x dx C mA)(hg:W.plainGet K C name=true)(hh:W.hasDictIn K C=true)
  (ha:W.findIn K (.ref C) name=some none) (hv:mA name=some v) (mM:W.handedIn v=true) (h:Q v { s with toks:=s.toks+1 }) :
  wpAny (model prog w) A (getAttr (.ref x) name expr) Q E s:=by
 obtain⟨od,J,hl⟩:=I.look;exact W.get_value X J (W.plainGet_of hg).1 (W.findObj_own hh ha rfl (by rw[hl,hv])) mM h
theorem Qa{pl:Sem Bool}{Q:Value×List Value->Shared->Prop}(X:K.In s.heap)(I:ObjM s.heap x dx C mA)(hg:W.plainGet K C name=true)
  (hf:W.findIn K (.ref C) name=some (some (.ref f))) (ht:W.isFn K (.ref f)=true) (hv:mA name=none) (h:Q (.ref f,[.ref x]) s) :
  wpAny (model prog w) A (getMethod (.ref x) name pl) Q E s:=by
 obtain⟨od,J,hl⟩:=I.look;exact W.method_fn X J (W.plainGet_of hg).1 (W.plainGet_of hg).2 hf (tY.mp ht) (by show(W.lookIn name od).map (·.isSome)=some false;rw[hl,hv];rfl) h
theorem Oz{ns:List Str}{Q:Unit->Shared->Prop}(X:K.In s.heap)(I:ObjM s.heap x dx C mA)
  (hs:W.findIn K (.ref C) "__setattr__"=some (some (.builtin "object.__setattr__"))) (hp:W.plainOver K C=true) (ht:W.takerIn K C name=some none) (hh:W.hasDictIn K C=true)
  (hw:PySem.Within mA ns) (hsz:ns.length<=sizeLine)
  (h:∀h',ObjM h' x dx C (λy=>if y=name then some v else mA y)->Heap.SameBut dx s.heap h'->Q () { s with heap:=h',toks:=s.toks+2 }) :
  wpAny (model prog w) A (setAttr (.ref x) name v) Q E s:=by
 obtain⟨od,J,hl⟩:=I.look;refine W.set_plain X J hs (W.osa_open (s:={ s with toks:=s.toks+1 }) (r:=none) X J hp ht λb=>?_);obtain⟨cd,hc,GG⟩:=W.any_some hh;have hx:s.heap.get? x=some ⟨.ref C,some dx,.plain,#[]⟩:=I.obj;refine zZ (zW (zZ (zZ (wpAny_loadPart hx (zZ (W.Looks.here (s:={ s with toks:=s.toks+1 }) (W.looks_clsIn X hc) ?_))))));rw[GG];refine zW (a:=some dx) (zZ (zW (zZ ?_)));refine wpAny_nsSet1 (s:={ s with toks:=s.toks+1 }) I.ns λh' Dc iN=>?_;obtain⟨oD,esD,epD,hoD,hdD,hcD⟩:=Dc.count (PySem.Within.cons name v hw);refine zZ (wpAny_lookBehind hoD (by rw[hdD];exact pastItsLine_dict (yS hcD (by rw[yR];lia))) ?_);exact zW (h _ ⟨(iN.2 _ (wU I.ne)).trans I.obj,Dc,I.ne⟩ iN)
theorem Q5{R:Result->Shared->Prop}{vs:List Value}{kw:List (Str×Value)}(X:K.In s.heap)(hm:W.makesIn K C=true)
  (hi:W.findIn K (.ref C) "__init__"=some (some (.ref f))) (hf:W.typeIn K (.ref f)=some (.type "function"))
  (h:codeAny (model prog w) (A.under (.builtin "type.__call__" ⟨.ref C::vs,kw⟩)) (.call (.ref f) ⟨.ref (s.heap.objs.size+1)::vs,kw⟩) (W.InitBack (s.heap.objs.size+1) R)
   { s with heap:=(s.heap.push W.emptyDict).push (W.instObj C s.heap.objs.size) }) :
  codeAny (model prog w) A (.call (.ref C) ⟨vs,kw⟩) R s:=by
 obtain⟨hh,g,d,t,os⟩:=s;exact W.make_core (W.makes_of X hm) (W.looks_findIn X hi) (λself=>W.bind_fn X self hf) (.inl rfl) h
theorem Uz{R:Result->Shared->Prop}(X:K.In s.heap)(hm:W.makesIn K C=true)
  (hi:W.findIn K (.ref C) "__init__"=some (some (.builtin "object.__init__")))
  (hb:∀self,W.Looks (model prog w) s.heap (bindSpecial (.builtin "object.__init__") self) (.builtin "object.__init__",[self]))
  (h:codeAny (model prog w) (A.under (.builtin "type.__call__" ⟨[.ref C],[]⟩)) (.call (.builtin "object.__init__") ⟨[.ref (s.heap.objs.size+1)],[]⟩) (W.InitBack (s.heap.objs.size+1) R)
   { s with heap:=(s.heap.push W.emptyDict).push (W.instObj C s.heap.objs.size) }) :
  codeAny (model prog w) A (.call (.ref C) ⟨[],[]⟩) R s:=by
 obtain⟨hh,g,d,t,os⟩:=s;exact W.make_core (W.makes_of X hm) (W.looks_findIn X hi) hb (.inr ⟨rfl,rfl⟩) h
end
def sg(f:Str)(v:V):List (Str×V)->List (Str×V)
 |[]=>[(f,v)]
 |(g,x)::r=>if g=f then(g,v)::r else(g,x)::sg f v r
theorem ou(f g:Str)(v:V):∀fs:List (Str×V),(sg f v fs).lookup g=if g=f then some v else fs.lookup g
 |[]=>by
  show List.lookup g [(f,v)]=_
  by_cases h:g=f
  ·have hb:(g==f)=true:=tY.mpr h;simp only[List.lookup,hb,yT h]
  ·have hb:(g==f)=false:=vY.mpr h;simp only[List.lookup,hb,zC h]
 |(k,x)::r=>by
  have ih:=ou f g v r;rw[show sg f v ((k,x)::r)=(if k=f then(k,v)::r else(k,x)::sg f v r)from rfl]
  by_cases hk:k=f
  ·rw[yT hk]
   by_cases h:g=k
   ·have hb:(g==k)=true:=tY.mpr h;simp only[List.lookup,hb,yT (h.trans hk)]
   ·have hb:(g==k)=false:=vY.mpr h;simp only[List.lookup,hb,zC (λe:g=f=>h (e.trans hk.symm))]
  ·rw[zC hk]
   by_cases h:g=k
   ·have hb:(g==k)=true:=tY.mpr h;simp only[List.lookup,hb,zC (λe:g=f=>hk (h.symm.trans e))]
   ·have hb:(g==k)=false:=vY.mpr h;simp only[List.lookup,hb];exact ih
theorem pd(f:Str)(v:V):∀fs:List (Str×V),f∈(sg f v fs).map (·.1)/\∀g,g∈fs.map (·.1)->g∈(sg f v fs).map (·.1)
 |[]=>⟨by simp[sg],λg h=>by simp at h⟩
 |(k,x)::r=>by
  obtain⟨i1,i2⟩:=pd f v r;rw[show sg f v ((k,x)::r)=(if k=f then(k,v)::r else(k,x)::sg f v r)from rfl]
  by_cases hk:k=f
  ·rw[yT hk];subst hk;exact⟨by simp,λg h=>by simpa using h⟩
  ·rw[zC hk];refine⟨?_,λg h=>?_⟩
   ·rw[List.map_cons];exact zI _ i1
   ·rw[List.map_cons]at h ⊢;rcases zL.mp h with e|e
    ·exact zL.mpr (.inl e)
    ·exact zI _ (i2 g e)
theorem on(f:Str)(v:V):∀fs:List (Str×V),(sg f v fs).length<=fs.length+1
 |[]=>by simp[sg]
 |(k,x)::r=>by
  have ih:=on f v r;rw[show sg f v ((k,x)::r)=(if k=f then(k,v)::r else(k,x)::sg f v r)from rfl]
  by_cases hk:k=f
  ·rw[yT hk,yR,yR];lia
  ·rw[zC hk,yR,yR];lia
theorem RelO.some_of{v:V}{o:Option Value}(r:RelO (some v) o):∃u,o=some u/\RelV v u:=by
 cases o with
 |none=>exact(show False from r).elim
 |some u=>exact⟨u,rfl,r⟩
theorem RelO.none_of{o:Option Value}(r:RelO none o):o=none:=by
 cases o with
 |none=>rfl
 |some u=>exact(show False from r).elim
theorem Ub{v:V}{u:Value}(r:RelV v u):W.handedIn u=true:=by
 cases v with
 |non=>cases(show u=Value.none from r);rfl
 |bl b=>cases(show u=Value.bool b from r);rfl
 |int i=>obtain⟨t,e⟩:=(show∃t,u=Value.int i t from r);cases e;rfl
 |str x=>obtain⟨t,e⟩:=(show∃t,u=Value.str x t from r);cases e;rfl
 |byt b=>obtain⟨t,e⟩:=(show∃t,u=Value.bytes b t from r);cases e;rfl
 |flt b=>obtain⟨t,e⟩:=(show∃t,u=Value.float b t from r);cases e;rfl
 |ref a=>cases(show u=Value.ref a from r);rfl
 |ty n=>cases(show u=Value.type n from r);rfl
section
variable {P:Program}{w:World}{H H':Hp}{h h':Heap}{a C dx:Addr}{fs fs':List (Str×V)}
theorem m8(hok:HOk P w H h)(e:H a=some (.ins C dx fs)):∃mA,ObjM h a dx C mA/\(∀f,RelO (fs.lookup f) (mA f))/\PySem.Within mA (fs.map (·.1))/\fs.length<=1000/\H dx=some (.own a):=by
 obtain⟨d,z,ne,ob,mA,n,r,q⟩:=(show ObjOk P w H h a (.ins C dx fs)from hok a _ e)
 exact⟨mA,⟨ob,n,ne⟩,r,q,z,d⟩
end
structure Cls(K:W.Frag)(C:Addr):Prop where
 pg:W.plainGet K C Str.empty=true
 hd:W.hasDictIn K C=true
 po:W.plainOver K C=true
 sa:W.findIn K (.ref C) "__setattr__"=some (some (.builtin "object.__setattr__"))
theorem Cls.get{K:W.Frag}{C:Addr}(c:Cls K C)(f:Str):W.plainGet K C f=true:=c.pg
def NoAttr(K:W.Frag)(C:Addr)(f:Str):Prop:=W.findIn K (.ref C) f=some none
theorem NoAttr.taker{K:W.Frag}{C:Addr}{f:Str}(n:NoAttr K C f):W.takerIn K C f=some none:=by
 unfold W.takerIn;rw[show W.findIn K (.ref C) f=some none from n]
 rfl
structure Con(K:W.Frag)(C:Addr)(f:Str)(v:V)(u:Value):Prop where
 at_:W.findIn K (.ref C) f=some (some u)
 rel:RelV v u
 get:W.specialIn K u "__get__"=some none
 cp:W.copiedNames.contains f=false
structure Mz(K:W.Frag)(C:Addr)(m:Str)(f:Addr):Prop where
 at_:W.findIn K (.ref C) m=some (some (.ref f))
 fn:W.isFn K (.ref f)=true
 kp:W.keepIn K (.ref f)=true
section
variable {X:Cx}{pins:List (Addr×Obj)}{σ:St}{H:Hp}{s:Shared}{a C dx:Addr}{fs:List (Str×V)}{f:Str}{v:V}{A:Around}{E:Value->Shared->Prop}
theorem Xz{b:Bool}{Q:Value->Shared->Prop}(I:Inv X pins σ H s)(e:H a=some (.ins C dx fs))(c:Cls X.K C)(n:NoAttr X.K C f)(l:fs.lookup f=some v)
  (h:∀u s',Inv X pins σ H s'->RelV v u->Q u s'):wpAny (model X.prog X.w) A (getAttr (.ref a) f b) Q E s:=by
 obtain⟨mA,O,r,_,_,_⟩:=m8 I.hok e;obtain⟨u,hu,ru⟩:=RelO.some_of (v:=v) (o:=mA f) (by rw[<-l];exact r f);exact Nd I.kIn O (c.get f) c.hd n hu (Ub ru) (h u _ (I.tok _) ru)
theorem X0{m:Str}{g:Addr}{pl:Sem Bool}{Q:Value×List Value->Shared->Prop}(I:Inv X pins σ H s)(e:H a=some (.ins C dx fs))(c:Cls X.K C)(k:Mz X.K C m g)(l:fs.lookup m=none)
  (h:Q (.ref g,[.ref a]) s):wpAny (model X.prog X.w) A (getMethod (.ref a) m pl) Q E s:=by
 obtain⟨mA,O,r,_,_,_⟩:=m8 I.hok e;have hn:mA m=none:=RelO.none_of (by rw[<-l];exact r m);exact Qa I.kIn O (c.get m) k.at_ k.fn hn h
theorem Y4{y:V}{u:Value}{Q:Unit->Shared->Prop}(I:Inv X pins σ H s)(e:H a=some (.ins C dx fs))(c:Cls X.K C)(n:NoAttr X.K C f)(hl:fs.length<1000)(ry:RelV y u)
  (h:∀s',Inv X pins σ (upd H a (.ins C dx (sg f y fs))) s'->Q () s'):wpAny (model X.prog X.w) A (setAttr (.ref a) f u) Q E s:=by
 obtain⟨mA,O,r,wi,_,ho⟩:=m8 I.hok e;have hz:(fs.map (·.1)).length<=sizeLine:=by rw[zY,zP];lia
 refine Oz I.kIn O c.sa c.po n.taker c.hd wi hz λh' O' sb=>h _ ?_;have hd:∃o,h'.get? dx=some o:=let⟨o,_,_,e',_⟩:=O'.ns;⟨o,e'⟩;refine I.write (x:=a) (e:=dx) (by rw[e];exact True.intro) (.inr ho) (λb q hb z=>(sb.2 b hb).trans z) hd ?_;refine⟨by rw[zk O.ne];exact ho,?_,O.ne,O'.obj,_,O'.ns,λg=>?_,λg hg=>?_⟩
 ·have:=on f y fs;lia
 ·show RelO ((sg f y fs).lookup g) (if g=f then some u else mA g);rw[ou]
  by_cases q:g=f
  ·rw[yT q,yT q];exact ry
  ·rw[zC q,zC q];exact r g
 ·by_cases q:g=f
  ·rw[q];exact(pd f y fs).1
  ·refine(pd f y fs).2 g (wi g λz=>hg ?_);show(if g=f then some u else mA g)=none;rw[zC q];exact z
theorem Inv.made(I:Inv X pins σ H s):Inv X pins σ (upd (upd H s.heap.objs.size (.own (s.heap.objs.size+1))) (s.heap.objs.size+1) (.ins C s.heap.objs.size []))
  { s with heap:=(s.heap.push W.emptyDict).push (W.instObj C s.heap.objs.size) }:=by
 have e1:(s.heap.push W.emptyDict).get? s.heap.objs.size=some W.emptyDict:=zT s.heap rfl;have e2:((s.heap.push W.emptyDict).push (W.instObj C s.heap.objs.size)).get? (s.heap.objs.size+1)=some (W.instObj C s.heap.objs.size):=by
  have:=zT (s.heap.push W.emptyDict) (o:=W.instObj C s.heap.objs.size) rfl
  rwa [xT]at this
 have e3:(s.heap.push W.emptyDict).Ns s.heap.objs.size (λ_=>none):=⟨W.emptyDict,#[],_,e1,rfl,(λe he=>absurd he (by simp)),λ_=>rfl⟩
 have I1:=I.laid (a:=s.heap.objs.size) (o:=.own (s.heap.objs.size+1)) (h':=s.heap.push W.emptyDict) (t':=s.toks) (λb u q=>zX _ q) (zU _) ⟨_,e1⟩;refine I1.laid (a:=s.heap.objs.size+1) (o:=.ins C s.heap.objs.size []) (t':=s.toks) (λb u q=>zX _ q) (vN (xT _ _)) ?_;have ne:s.heap.objs.size≠s.heap.objs.size+1:=zG (yE _);refine⟨by rw[zk ne,zx],yQ _,ne,e2,λ_=>none,(Heap.Ns1.of_empty e3).at λo q=>zX _ q,λ_=>True.intro,λy hy=>absurd rfl hy⟩
theorem M7{prog:Program}{w:World}{env:Env}{e:Expr}{f:Str}{pos:Pos}{s:Shared}{Q:Value->Shared->Prop}(hb:attributeBase e f env (eval e env)=eval e env)
  (h:wpAny (model prog w) A (eval e env) (λo s₁=>wpAny (model prog w) A (getAttr o f true) Q E s₁) E s):wpAny (model prog w) A (eval (.Attribute e f pos) env) Q E s :=
 Attribute_any_ h (by rw[arm_eval_Attribute,hb])
end
def Gf(K:W.Frag)(ta:TE)(f:Str):TE:=fun σ H Q=>ta σ H λx H1=>∃a C dx fs v,x = .ref a/\H1 a=some (.ins C dx fs)/\Cls K C/\NoAttr K C f/\fs.lookup f=some v/\Q v H1
def Jd(K:W.Frag)(ta tv:TE)(f:Str):TS:=λD σ H=>tv σ H λy H1=>ta σ H1 λx H2=>∃a C dx fs,x = .ref a/\H2 a=some (.ins C dx fs)/\Cls K C/\NoAttr K C f/\fs.length<1000 /\
 D.nx σ (upd H2 a (.ins C dx (sg f y fs)))
section
variable {X:Cx}{o e value:Expr}{f:Str}{pos nC tpos:Pos}{ta tv:TE}
theorem Yw(he:PE X e ta)(hb:attributeBase e f X.env (eval e X.env)=eval e X.env):PE X (.Attribute e f pos) (Gf X.K ta f):=by
 intro pins s σ H Q I h;refine M7 hb (thn (he pins s σ H _ I h) λu s1 ⟨x,H1,I1,rx,a,C,dx,fs,v,ex,ea,c,n,l,q⟩=>?_);subst ex;obtain rfl:u=Value.ref a:=rx;exact Xz I1 ea c n l λu' s2 I2 ru=>⟨v,H1,I2,ru,q⟩
theorem Se(ha:PE X o ta)(hv:PE X value tv)(hs:swapsWith value (some (.Attribute o f nC)) pos.line X.env=pure false):PS X (.Assign [.Attribute o f nC] value pos) (Jd X.K ta tv f):=by
 intro pins s σ H D I h;refine plainObj_wpAny_Assign_Attribute (thn (hv pins s σ H _ I h) λu s1 ⟨y,H1,I1,ry,q⟩=>thn (ha pins s1 σ H1 _ I1 q) λov s2 ⟨x,H2,I2,rx,a,C,dx,fs,ex,ea,c,n,l,q2⟩=>?_) hs;subst ex;obtain rfl:ov=Value.ref a:=rx;exact Y4 I2 ea c n l ry λs3 I3=>⟨σ,_,I3,q2⟩
end
section
variable {X:Cx}{pins:List (Addr×Obj)}{σ:St}{H:Hp}{s:Shared}{A:Around}{E:Value->Shared->Prop}{Q:Value->Shared->Prop}{c:Value}{b:Bool}
inductive TyOf (K:W.Frag) (H:Hp):V->Value->Prop where
 |non:TyOf K H .non (.type "NoneType")
 |bl (x:Bool):TyOf K H (.bl x) (.type "bool")
 |int (i:Int):TyOf K H (.int i) (.type "int")
 |str (x:Str):TyOf K H (.str x) (.type "str")
 |flt (x:UInt64):TyOf K H (.flt x) (.type "float")
 |lst {a:Addr}{xs:List V} (e:H a=some (.lst xs)):TyOf K H (.ref a) (.type "list")
 |frz {a:Addr}{o:Obj}{xs:List V} (e:H a=some (.frz o (.lst xs))):TyOf K H (.ref a) (.type "list")
 |tup {a:Addr}{xs:List V} (e:H a=some (.tup xs)):TyOf K H (.ref a) (.type "tuple")
 |dK {a:Addr}{kvs:List (Key×V)} (e:H a=some (.dK kvs)):TyOf K H (.ref a) (.type "dict")
 |dT {a:Addr}{kvs:List (List Key×V)} (e:H a=some (.dT kvs)):TyOf K H (.ref a) (.type "dict")
 |ins {a C dx:Addr}{fs:List (Str×V)} (e:H a=some (.ins C dx fs)) (cl:Cls K C) (ha:W.findIn K (.ref C) "__class__"=some (some (.builtin "object.__class__")))
   (hn:W.specialIn K (.builtin "object.__class__") "__get__"=some (some (.builtin "getset_descriptor.__get__"))) (htk:W.takesIn K (.builtin "object.__class__")=some true)
   (hm:W.mroIn K C (.type "object")=some true):TyOf K H (.ref a) (.ref C)
theorem gg{x:V}{u t:Value}(I:Inv X pins σ H s)(rx:RelV x u)(ty:TyOf X.K H x t)(e:W.kitOne X.K t c=some b)(h:∀tk,Q (.bool b) { s with toks:=tk }):
  wpAny (model X.prog X.w) A (call (.builtin "isinstance") [u,c]) Q E s:=by
 cases ty with
 |non=>cases(show u=Value.none from rx);exact xB W.kitx_none I.kIn True.intro e (λz=>nomatch z) h
 |bl y=>cases(show u=Value.bool y from rx);exact xB W.kitx_bool I.kIn True.intro e (λz=>nomatch z) h
 |int i=>obtain⟨t,q⟩:=(show∃t,u=Value.int i t from rx);cases q;exact xB W.kitx_int I.kIn True.intro e (λz=>nomatch z) h
 |str y=>obtain⟨t,q⟩:=(show∃t,u=Value.str y t from rx);cases q;exact xB W.kitx_str I.kIn True.intro e (λz=>nomatch z) h
 |flt y=>obtain⟨t,q⟩:=(show∃t,u=Value.float y t from rx);cases q;exact xB W.kitx_float I.kIn True.intro e (λz=>nomatch z) h
 | @lst a xs ea =>
  cases(show u=Value.ref a from rx);obtain⟨_,_,n,_,h1⟩:=(show ObjOk X.prog X.w H s.heap a (.lst xs)from I.hok a _ ea)
  exact xB W.kitx_list I.kIn ⟨_,h1,rfl⟩ e (λz=>nomatch z) h
 | @frz a ob xs ea =>
  cases(show u=Value.ref a from rx);obtain⟨_,_,_,n,_,h1⟩:=(show ObjOk X.prog X.w H s.heap a (.frz ob (.lst xs))from I.hok a _ ea)
  exact xB W.kitx_list I.kIn ⟨_,h1,rfl⟩ e (λz=>nomatch z) h
 | @tup a xs ea =>
  cases(show u=Value.ref a from rx);obtain⟨_,_,_,p⟩:=(show ObjOk X.prog X.w H s.heap a (.tup xs)from I.hok a _ ea)
  obtain⟨o,h1,h2,_⟩:=p;exact xB W.kitx_tuple I.kIn ⟨o,h1,h2⟩ e (λz=>nomatch z) h
 | @dK a kvs ea =>
  cases(show u=Value.ref a from rx);obtain⟨_,_,vs,_,p⟩:=(show ObjOk X.prog X.w H s.heap a (.dK kvs)from I.hok a _ ea)
  obtain⟨o,es,ep,h1,h2,_⟩:=p;exact xB W.kitx_dict I.kIn ⟨o,h1,h2.1⟩ e (λz=>nomatch z) h
 | @dT a kvs ea =>
  cases(show u=Value.ref a from rx);obtain⟨_,_,xs,_,o,es,ep,h1,h2,_⟩:=(show ObjOk X.prog X.w H s.heap a (.dT kvs)from I.hok a _ ea)
  exact xB W.kitx_dict I.kIn ⟨o,h1,h2.1⟩ e (λz=>nomatch z) h
 | @ins a C dx fs ea cl ha hn htk hm =>
  cases(show u=Value.ref a from rx);obtain⟨mA,O,_⟩:=m8 I.hok ea;obtain⟨od,J,_⟩:=O.look;exact xB (W.kitx_own (cl.get _) cl.hd ha hn htk hm) I.kIn J e (λz=>nomatch z) h
end
end L2
namespace L2
open PySem PySem.Spec PyProof.Rows
structure Room(k:Nat)(A:Around):Prop where
 hd:A.handled=none
 dp:A.depth+3*k+5<recursionLimit
 un:A.units+16*k+200<cLine
theorem Room.mono{j k:Nat}{A:Around}(r:Room k A)(h:j<=k):Room j A:=⟨r.hd,by have:=r.dp;lia,by have:=r.un;lia⟩
theorem Room.deeper{k:Nat}{A:Around}(r:Room (k+1) A)(env:Env):Room k (A.deeper env) :=
 ⟨r.hd,by have:=r.dp;show A.depth+1+3*k+5<_;lia,by have:=r.un;show A.units+3+16*k+200<_;lia⟩
theorem Room.in1{k:Nat}{A:Around}(r:Room (k+1) A):Room k A.in1 :=
 ⟨r.hd,by have:=r.dp;show A.depth+3*k+5<_;lia,by have:=r.un;show A.units+1+16*k+200<_;lia⟩
theorem Yc{A:Around}{C:Addr}{us:List Value}{kw:List (Str×Value)}:(A.under (.builtin "type.__call__" ⟨.ref C::us,kw⟩)).depth=A.depth+1:=by
 first|rfl|simp[Around.under,Code.weight,Code.isCreation,Code.isGuard,Code.isCaller,Code.frames,Code.isFrame,guardIds]
theorem Yd{A:Around}{C:Addr}{us:List Value}{kw:List (Str×Value)}:(A.under (.builtin "type.__call__" ⟨.ref C::us,kw⟩)).units=A.units+1:=by
 first|rfl|simp[Around.under,Code.cUnits,Code.frames,Code.isFrame]
theorem Room.make{k:Nat}{A:Around}(r:Room (k+1) A)(C:Addr)(us:List Value)(kw:List (Str×Value)):Room k (A.under (.builtin "type.__call__" ⟨.ref C::us,kw⟩)) :=
 ⟨r.hd,by have:=r.dp;rw[Yc];lia,by have:=r.un;rw[Yd];lia⟩
theorem Room.depth{k:Nat}{A:Around}(r:Room k A):A.depth<recursionLimit:=by have:=r.dp;lia
theorem Room.units{k:Nat}{A:Around}(r:Room k A):A.units+64<cLine:=by have:=r.un;lia
def O8:TA:=λ_ H Q=>Q [] H
def Mv(ta:TE)(tr:TA):TA:=fun σ H Q=>ta σ H λx H1=>tr σ H1 λxs H2=>Q (x::xs) H2
section
variable {X:Cx}{e:Expr}{es:List Expr}{te:TE}{t:TA}{pos:Pos}
theorem z6:PA X [] O8:=λ_ _ _ _ H Q I h=>wM ⟨[],H,I,.nil,h⟩
theorem z9(ha:PE X e te)(hr:PA X es t)(hs:starEach (e::es) X.env=(false,eval e X.env)::starEach es X.env:=by rfl):PA X (e::es) (Mv te t):=by
 intro pos pins s σ H Q I h;rw[hs];show wpAny _ _ (spliced ((false,eval e X.env)::backTo pos (starEach es X.env))) _ _ s;refine wI (thn (ha pins s σ H _ I h) λu s1 ⟨x,H1,I1,r1,q1⟩=>?_);exact thn (hr pos pins s1 σ H1 _ I1 q1) λus s2 ⟨xs,H2,I2,r2,q2⟩=>⟨x::xs,H2,I2,.cons r1 r2,q2⟩
end
abbrev Sp:=List V->Hp->VK->XK->Prop
abbrev CXT:=List Env->Hp->Shared->XK->Value->Shared->Prop
structure Env0(P:Program)(w:World)(K:W.Frag)(mg:Str->Option Value)(base:Heap)(A:Around)(outer:List Env)(s:Shared)(H:Hp):Prop where
 frames:A.frames=some outer
 mod:Mod K mg base
 bs:∀b o,base.get? b=some o->s.heap.get? b=some o/\H b=none
 bsz:base.objs.size<=s.heap.objs.size
 funs:s.heap.FunFrames base outer
 frf:∀b∈frs outer,H b=none
 hok:HOk P w H s.heap
 bare:AllBare s.gens
def CE(outer:List Env)(P:Program)(w:World)(H:Hp)(s:Shared)(Q:VK)(u:Value)(s':Shared):Prop :=
 ∃v H',s'.os=s.os/\AllBare s'.gens/\Un (frs outer) [] H H' s.heap s'.heap/\HOk P w H' s'.heap/\RelV v u/\Q v H'
def CR(CX:CXT)(outer:List Env)(P:Program)(w:World)(H:Hp)(s:Shared)(Q:VK)(E:XK)(r:Result)(s':Shared):Prop :=
 match r with
 | .ok (.ret u)=>CE outer P w H s Q u s'
 | .ok _=>False
 | .error e=>CX outer H s E e s'
structure FnOk(P:Program)(w:World)(K:W.Frag)(mg:Str->Option Value)(base:Heap)(CX:CXT)(k:Nat)(f:Addr)(fd:FuncData)(ps:List Str)(sp:Sp):Prop where
 len:∀vs H Q E,sp vs H Q E->vs.length=ps.length
 run:∀(A:Around)(outer:List Env)(s:Shared)(H:Hp)(args:Args)(us:List Value)(vs:List V)(Q:VK)(E:XK),Room k A->Env0 P w K mg base A outer s H->BindsTo s fd args (ps.zip us)->Vals vs us->sp vs H Q E ->
  codeAny (model P w) A (.call (.ref f) args) (CR CX outer P w H s Q E) s
theorem FnOk.mono{P:Program}{w:World}{K:W.Frag}{mg:Str->Option Value}{base:Heap}{CX:CXT}{j k:Nat}{f:Addr}{fd:FuncData}{ps:List Str}{sp:Sp}(F:FnOk P w K mg base CX j f fd ps sp)(h:j<=k):
  FnOk P w K mg base CX k f fd ps sp:=⟨F.len,λA outer s H args us vs Q E hr=>F.run A outer s H args us vs Q E (hr.mono h)⟩
theorem FnOk.imp{P:Program}{w:World}{K:W.Frag}{mg:Str->Option Value}{base:Heap}{CX:CXT}{k:Nat}{f:Addr}{fd:FuncData}{ps:List Str}{sp Ep:Sp}(F:FnOk P w K mg base CX k f fd ps sp)
  (h:∀vs H Q E,Ep vs H Q E->sp vs H Q E):FnOk P w K mg base CX k f fd ps Ep :=
 ⟨λvs H Q E q=>F.len vs H Q E (h _ _ _ _ q),λA outer s H args us vs Q E hr he hb hv hs=>F.run A outer s H args us vs Q E hr he hb hv (h _ _ _ _ hs)⟩
theorem Env0.make{P:Program}{w:World}{K:W.Frag}{mg:Str->Option Value}{base:Heap}{A:Around}{outer:List Env}{s:Shared}{H:Hp}(e:Env0 P w K mg base A outer s H)(C:Addr)(us:List Value)(kw:List (Str×Value)):
  Env0 P w K mg base (A.under (.builtin "type.__call__" ⟨.ref C::us,kw⟩)) outer s H:=⟨by first|exact e.frames|(simpa[Around.under,Code.envs,Code.isFrame,pushEnvs]using e.frames),e.mod,e.bs,e.bsz,e.funs,e.frf,e.hok,e.bare⟩
section
variable {X:Cx}{pins:List (Addr×Obj)}{σ:St}{H:Hp}{s s':Shared}
theorem Inv.env0(I:Inv X pins σ H s):Env0 X.prog X.w X.K X.mg X.base X.A X.stack s H :=
 ⟨I.ok.frames,I.ok.mod,I.bs,yS I.ok.bsz I.sz,I.stack,I.stkFree,I.hok,I.bare⟩
theorem Inv.after{Q:VK}{u:Value}(I:Inv X pins σ H s)(h:CE X.stack X.prog X.w H s Q u s'):EP X pins σ Q u s':=by
 obtain⟨v,H',os,bare,un,hok,r,q⟩:=h;obtain⟨hh,g,d,t,os'⟩:=s';obtain rfl:os'=s.os:=os;exact⟨v,H',I.call (h':=hh) (g':=g) (d':=d) (t':=t) (ch:=[]) un hok bare (λb z=>absurd z (by simp)),r,q⟩
end
def S8(sp:Sp)(dvs:List V)(E:XK)(t:TA):TE:=fun σ H Q=>t σ H λvs H1=>sp (vs++dvs) H1 Q E
def Mx(C:Addr)(m:Str)(sp:Sp)(dvs:List V)(E:XK)(ta:TE)(t:TA):TE:=fun σ H Q=>ta σ H λx H1=>∃a dx fs,x = .ref a/\H1 a=some (.ins C dx fs)/\fs.lookup m=none /\
 t σ H1 λvs H2=>sp (x::(vs++dvs)) H2 Q E
def cg(C:Addr)(sp:Sp)(dvs:List V)(E:XK)(t:TA):TE:=fun σ H Q=>t σ H λvs H1=>∀x dx,H1 x=none->H1 dx=none->dx≠x ->
 sp (.ref x::(vs++dvs)) (upd (upd H1 dx (.own x)) x (.ins C dx [])) (λv H2=>v = .non/\Q (.ref x) H2) E
def Binds(K:W.Frag)(fd:FuncData)(ps:List Str)(ds:List Value):Prop :=
 ∀(s:Shared)(us:List Value),K.In s.heap->(us++ds).length=ps.length->BindsTo s fd ⟨us,[]⟩ (ps.zip (us++ds))
theorem Binds.all{K:W.Frag}{fd:FuncData}{ps:List Str}(h:∀us:List Value,us.length=ps.length->bindArgs fd ⟨us,[]⟩=pure (ps.zip us)):Binds K fd ps []:=λs us _ hl=>by
 rw[List.append_nil]at hl ⊢;exact .of_eq (h us hl)
def qx(CX:CXT)(X:Cx)(E:XK):Prop:=∀(pins:List (Addr×Obj))(σ:St)(H:Hp)(s:Shared)(e:Value)(s':Shared),Inv X pins σ H s->CX X.stack H s E e s'->X.xe e s'
section
variable {X:Cx}{CX:CXT}{k:Nat}{f C:Addr}{fd:FuncData}{ps:List Str}{sp:Sp}{dvs:List V}{ds:List Value}{E:XK}{x m:Str}{p pos apos:Pos}{e o:Expr}{es:List Expr}{ta:TE}{t:TA}
theorem Si{pins:List (Addr×Obj)}{σ:St}{H:Hp}{s:Shared}{Q:VK}{us:List Value}{vs:List V}(F:FnOk X.prog X.w X.K X.mg X.base CX k f fd ps sp)(hr:Room k X.A)(hb:Binds X.K fd ps ds)(hd:Vals dvs ds)(hx:qx CX X E)
  (I:Inv X pins σ H s) (r:Vals vs us) (h:sp (vs++dvs) H Q E):wpAny (model X.prog X.w) X.A (call (.ref f) us) (EP X pins σ Q) X.xe s:=by
 have r2:Vals (vs++dvs) (us++ds):=r.append hd;have hl:(us++ds).length=ps.length:=by rw[<-r2.length];exact F.len _ _ _ _ h
 refine wpAny_call (uN (F.run X.A X.stack s H ⟨us,[]⟩ (us++ds) (vs++dvs) Q E hr I.env0 (hb s us I.kIn hl) r2 h) λr s' hq=>?_);cases r with
 |error e=>exact hx pins σ H s e s' I hq
 |ok fl =>
  cases fl with
  |ret u=>exact I.after hq
  |next=>exact False.elim hq
  |brk=>exact False.elim hq
  |cont=>exact False.elim hq
theorem Oi(F:FnOk X.prog X.w X.K X.mg X.base CX k f fd ps sp)(hr:Room k X.A)(hg:Gl X x)(hm:X.mg x=some (.ref f))(hk:W.keepIn X.K (.ref f)=true)(hb:Binds X.K fd ps ds)(hd:Vals dvs ds)(hx:qx CX X E)
  (ha:PA X (e::es) t) (nH:(x==("__debug__":Str))=false:=by decide) (he:starEach (e::es) X.env=(false,eval e X.env)::starEach es X.env:=by rfl) (cZ:(backTo pos (starEach es X.env)).any (·.1)=false:=by rfl) :
  PE X (.Call (.Name x p) (e::es) [] pos) (S8 sp dvs E t):=by
 intro pins s σ H Q I h;refine xK (qj I hg hm ?_ nH);refine W.callWith_K (h₀:=X.base) I.ok.mod.kin hk (thn (ha pos pins s σ H _ I h) λus s1 ⟨vs,H1,I1,r,q⟩=>⟨I1.kIn,?_⟩) he cZ;exact Si F hr hb hd hx I1 r q
theorem Ol{pl:Sem Bool}(he:PE X o ta)(c:Cls X.K C)(hm:Mz X.K C m f)(F:FnOk X.prog X.w X.K X.mg X.base CX k f fd ps sp)(hr:Room k X.A)(hb:Binds X.K fd ps ds)(hd:Vals dvs ds)(hx:qx CX X E)(ha:PA X (e::es) t)
  (iD:starEach (e::es) X.env=(false,eval e X.env)::starEach es X.env:=by rfl) (cZ:(backTo pos (starEach es X.env)).any (·.1)=false:=by rfl)
  (ht:eval (.Call (.Attribute o m apos) (e::es) [] pos) X.env=(do
   let ov <-eval o X.env
   standAt apos.atName
   let(f,first) <-holding [ov] (getMethod ov m pl)
   callWith pos f first (backTo pos (starEach (e::es) X.env)) (backToKw pos (keywordEach [] X.env))):=by rfl) :
  PE X (.Call (.Attribute o m apos) (e::es) [] pos) (Mx C m sp dvs E ta t):=by
 intro pins s σ H Q I h;refine W.methodCall_KW (pl:=pl) (thn (he pins s σ H _ I h) λu s1 ⟨x,H1,I1,rx,a,dx,fs,ex,ea,l,q⟩=>?_) ht;subst ex;obtain rfl:u=Value.ref a:=rx;refine X0 I1 ea c hm l ?_;refine W.callWith_K (first:=[.ref a]) (h₀:=X.base) I.ok.mod.kin hm.kp (thn (ha pos pins s1 σ H1 _ I1 q) λus s2 ⟨vs,H2,I2,r,q2⟩=>⟨I2.kIn,?_⟩) iD cZ;exact Si (us:=.ref a::us) (vs:=.ref a::vs) F hr hb hd hx I2 (.cons rfl r) q2
structure Mk(K:W.Frag)(C f:Addr):Prop where
 makes:W.makesIn K C=true
 init:W.findIn K (.ref C) "__init__"=some (some (.ref f))
 fn:W.isFn K (.ref f)=true
 kp:W.keepIn K (.ref C)=true
theorem bi{pins:List (Addr×Obj)}{σ:St}{H:Hp}{s:Shared}{Q:VK}{us:List Value}{vs:List V}(M:Mk X.K C f)(F:FnOk X.prog X.w X.K X.mg X.base CX k f fd ps sp)(hr:Room (k+1) X.A)(hb:Binds X.K fd ps ds)(hd:Vals dvs ds)
  (hx:qx CX X E) (I:Inv X pins σ H s) (r:Vals vs us)
  (h:∀x dx,H x=none->H dx=none->dx≠x->sp (.ref x::(vs++dvs)) (upd (upd H dx (.own x)) x (.ins C dx [])) (λv H2=>v = .non/\Q (.ref x) H2) E) :
  wpAny (model X.prog X.w) X.A (call (.ref C) us) (EP X pins σ Q) X.xe s:=by
 have hq:=h (s.heap.objs.size+1) s.heap.objs.size (I.hok.fresh (wB _)) (I.hok.fresh (zU _)) (zG (yE _));have I2:=Inv.made (C:=C) I;have r2:Vals (V.ref (s.heap.objs.size+1)::(vs++dvs)) (Value.ref (s.heap.objs.size+1)::(us++ds)):=.cons rfl (r.append hd);have hl:(Value.ref (s.heap.objs.size+1)::us++ds).length=ps.length:=by
  have e:=r2.length;rw[F.len _ _ _ _ hq]at e;exact e.symm
 refine wpAny_call (Q5 (f:=f) I.kIn M.makes M.init (tY.mp M.fn) (uN (F.run _ X.stack _ _ ⟨Value.ref (s.heap.objs.size+1)::us,[]⟩ (Value.ref (s.heap.objs.size+1)::(us++ds)) _ _ E (hr.make C us [])
  (I2.env0.make C us []) (hb _ (Value.ref (s.heap.objs.size+1)::us) I2.kIn hl) r2 hq) λr s' CO=>?_))
 cases r with
 |error e=>exact hx pins σ _ _ e s' I2 CO
 |ok fl =>
  cases fl with
  |ret u =>
   obtain⟨v,H',I3,rv,ev,q3⟩:=I2.after CO;subst ev;exact⟨rv,⟨V.ref (s.heap.objs.size+1),H',I3,rfl,q3⟩⟩
  |next=>exact False.elim CO
  |brk=>exact False.elim CO
  |cont=>exact False.elim CO
theorem Oj(M:Mk X.K C f)(F:FnOk X.prog X.w X.K X.mg X.base CX k f fd ps sp)(hr:Room (k+1) X.A)(hg:Gl X x)(hm:X.mg x=some (.ref C))(hb:Binds X.K fd ps ds)(hd:Vals dvs ds)(hx:qx CX X E)
  (ha:PA X (e::es) t) (nH:(x==("__debug__":Str))=false:=by decide) (he:starEach (e::es) X.env=(false,eval e X.env)::starEach es X.env:=by rfl) (cZ:(backTo pos (starEach es X.env)).any (·.1)=false:=by rfl) :
  PE X (.Call (.Name x p) (e::es) [] pos) (cg C sp dvs E t):=by
 intro pins s σ H Q I h;refine xK (qj I hg hm ?_ nH);refine W.callWith_K (h₀:=X.base) I.ok.mod.kin M.kp (thn (ha pos pins s σ H _ I h) λus s1 ⟨vs,H1,I1,r,q⟩=>⟨I1.kIn,?_⟩) he cZ;exact bi M F hr hb hd hx I1 r q
theorem Rw(M:Mk X.K C f)(F:FnOk X.prog X.w X.K X.mg X.base CX k f fd ps sp)(hr:Room (k+1) X.A)(hg:Gl X x)(hm:X.mg x=some (.ref C))(hb:Binds X.K fd ps ds)(hd:Vals dvs ds)(hx:qx CX X E)
  (nH:(x==("__debug__":Str))=false:=by decide):PE X (.Call (.Name x p) [] [] pos) (cg C sp dvs E O8):=by
 intro pins s σ H Q I h;refine xK (qj I hg hm ?_ nH);exact W.callWith_K0 I.kIn M.kp (bi (us:=[]) M F hr hb hd hx I .nil h)
end
section
variable {X:Cx}{CX:CXT}{k:Nat}{f C:Addr}{fd:FuncData}{ps ks:List Str}{sp:Sp}{E:XK}{x m:Str}{p pos apos kpos:Pos}{e o:Expr}{es:List Expr}{kws:List Keyword}{te ta:TE}{t tk:TA}{nm:Option Str}
structure Fo(K:W.Frag)(fd:FuncData)(ps ks:List Str)(g:List Value->List Value->List Value)(gV:List V->List V->List V):Prop where
 to:∀(s:Shared)(us ws:List Value),K.In s.heap->(g us ws).length=ps.length->BindsTo s fd ⟨us,ks.zip ws⟩ (ps.zip (g us ws))
 rel:∀{vs:List V}{us:List Value}{zs:List V}{ws:List Value},Vals vs us->Vals zs ws->Vals (gV vs zs) (g us ws)
variable {g:List Value->List Value->List Value}{gV:List V->List V->List V}
end
structure v4(N P:List Str)(sc:Scope):Prop where
 kind:sc.kind = .function
 co:sc.isCoroutine=false
 gen:sc.isGenerator=false
 nd:N.Nodup
 pre:N.take P.length=P
 par:∀x∈P,sc.names.lookup x=some .local\/sc.names.lookup x=some .cell
 nofree:∀y∈sc.names,y.2≠.free
theorem fv{kindOf:Str->Option NameKind}{x:Str}:∀{oE:List (Str×Value)}{m:Str->Option Value},(∀v,(x,v)∉oE)->bindL kindOf oE m x=m x
 |[],_,_=>rfl
 |(n,v)::r,m,h=>by
  unfold bindL;rw[fv λw hw=>h w (zI _ hw)];split
  ·have:x≠n:=by rintro rfl;exact h v zH
   simp[this]
  ·rfl
theorem ft{kindOf:Str->Option NameKind}{x:Str}:∀{oE:List (Str×Value)}{m:Str->Option Value},(∀v,(x,v)∉oE)->bindC kindOf oE m x=m x
 |[],_,_=>rfl
 |(n,v)::r,m,h=>by
  unfold bindC;rw[ft λw hw=>h w (zI _ hw)];split
  ·rfl
  ·have:x≠n:=by rintro rfl;exact h v zH
   simp[this]
theorem fu{kindOf:Str->Option NameKind}{x:Str}{v:Value}:∀{P:List Str}{vs:List Value}{i:Nat}{m:Str->Option Value},P.Nodup->P[i]?=some x->vs[i]?=some v->kindOf x=some .local ->
  bindL kindOf (P.zip vs) m x=some v
 |[],_,_,_,_,h,_,_=>by simp at h
 |_::_,[],_,_,_,_,h,_=>by simp at h
 |p::P,w::vs,0,m,nd,h1,h2,hk=>by
  simp at h1 h2;subst h1;subst h2;show bindL kindOf ((p,w)::P.zip vs) m p=_;unfold bindL;rw[fv λv hv=>(wO.mp nd).1 (List.of_mem_zip hv).1,yT hk];simp
 |p::P,w::vs,i+1,m,nd,h1,h2,hk=>by
  show bindL kindOf ((p,w)::P.zip vs) m x=_;unfold bindL;exact fu (i:=i) (wO.mp nd).2 (by simpa using h1) (by simpa using h2) hk
theorem fq{kindOf:Str->Option NameKind}{x:Str}{v:Value}:∀{P:List Str}{vs:List Value}{i:Nat}{m:Str->Option Value},P.Nodup->P[i]?=some x->vs[i]?=some v->kindOf x≠some .local ->
  bindC kindOf (P.zip vs) m x=some v
 |[],_,_,_,_,h,_,_=>by simp at h
 |_::_,[],_,_,_,_,h,_=>by simp at h
 |p::P,w::vs,0,m,nd,h1,h2,hk=>by
  simp at h1 h2;subst h1;subst h2;show bindC kindOf ((p,w)::P.zip vs) m p=_;unfold bindC;rw[ft λv hv=>(wO.mp nd).1 (List.of_mem_zip hv).1,zC hk];simp
 |p::P,w::vs,i+1,m,nd,h1,h2,hk=>by
  show bindC kindOf ((p,w)::P.zip vs) m x=_;unfold bindC;exact fq (i:=i) (wO.mp nd).2 (by simpa using h1) (by simpa using h2) hk
def vg(N:List Str)(vs:List V):St:=vs.map some++List.replicate (N.length-vs.length) none
def pb(CX:CXT)(P:Program)(w:World)(K:W.Frag)(mg:Str->Option Value)(base:Heap)(N:List Str)(qual:Str)(scope:Scope)(f:Addr)(cd:Value)(A:Around)(outer:List Env)(s:Shared)(H:Hp)(E:XK):Cx where
 prog:=P
 w:=w
 K:=K
 mg:=mg
 base:=base
 A:=A.deeper (envOfC qual scope s.heap.objs.size f cd)
 N:=N
 s₀:=s
 H₀:=H
 env:=envOfC qual scope s.heap.objs.size f cd
 outer:=outer
 stack:=envOfC qual scope s.heap.objs.size f cd::outer
 ex:=[]
 calm:=true
 fn:=λ_=>true
 pn:=[]
 xe:=λe s'=>wpAny (model P w) (A.deeper (envOfC qual scope s.heap.objs.size f cd)) (leaving (envOfC qual scope s.heap.objs.size f cd) e) (λ_ s''=>CX outer H s E e s'') (λe' s''=>CX outer H s E e' s'') s'
theorem Z0{sc:Scope}{n:Nat}{x:Str}(h:sc.names.lookup x=some .cell):∃c,(cellsFrom n sc.names []).lookup x=some c:=by
 have q:=W.cellsFrom_some sc.names n [] (.inl h);exact uV.mp q
theorem Ud{CX:CXT}{P:Program}{w:World}{K:W.Frag}{mg:Str->Option Value}{base:Heap}{N ps:List Str}{qual:Str}{scope:Scope}{f:Addr}{cd:Value}{A:Around}{outer:List Env}{s s1:Shared}{H:Hp}{E:XK}{us:List Value}{vs:List V}
  (S:v4 N ps scope) (hd:A.handled=none) (e0:Env0 P w K mg base A outer s H) (hl:vs.length=ps.length) (r:Vals vs us)
  (x:InCallC s s.heap.objs.size (bindL (envOfC qual scope s.heap.objs.size f cd).kindOf (ps.zip us) λ_=>none) (cellsFrom (s.heap.objs.size+1) scope.names []) (bindC (envOfC qual scope s.heap.objs.size f cd).kindOf (ps.zip us) λ_=>none) s1) :
  Inv (pb CX P w K mg base N qual scope f cd A outer s H E) [] (vg N vs) H s1:=by
 have cZ:ps.length<=N.length:=by have:=wZ List.length S.pre;rw[yU]at this;lia
 obtain⟨h1,tk,rfl,hk⟩:=x.done;have AN:∀b:Addr,b∉(pb CX P w K mg base N qual scope f cd A outer s H E).ex:=λb z=>absurd (show b∈([]:List Addr)from z) (by simp);refine⟨⟨e0.mod,S.kind,rfl,rfl,zU _,λy z c h1 h2=>?_,λy hy=>?_,λy c _ h=>?_,λ_=>hd,Around.frames_deeper e0.frames,.inr ⟨rfl,rfl⟩,λb z=>absurd z (AN b),e0.bs,e0.bsz,λb _ _=>AN b,λb z=>absurd z (AN b),e0.funs,e0.frf⟩,
  rfl,e0.bare,Un.kept hk,⟨_,x.toInCall.ns,λi y v h1 h2 h3=>?_⟩,λy c h=>⟨_,x.cell y c h⟩,e0.hok.fresh (zU _),λy c h=>?_,λp hp=>absurd (show p∈([]:List (Addr×Obj))from hp) (by simp),e0.hok.kept hk,?_⟩
 ·exact name_of_addr x.apart (xD h1) (xD h2)
 ·have hy:scope.names.lookup y=some .cell\/scope.names.lookup y=some .free:=hy;rcases hy with hy|hy
  ·exact Z0 hy
  ·exact absurd rfl (S.nofree _ (xD hy))
 ·exact yC (x.above y c (xD h))
 ·have hi:i<vs.length:=by
   unfold vg at h2
   by_cases hi:i<vs.length
   ·exact hi
   ·rw[yH (by simpa using hi)]at h2;rw[List.getElem?_replicate]at h2;split at h2<;>cases h2
  have ha:vs[i]?=some v:=by
   unfold vg at h2;rw[yG (by simpa using hi),zQ]at h2;cases e:vs[i]? with
   |none=>rw[e]at h2;cases h2
   |some a=>rw[e]at h2;cases h2;rfl
  obtain⟨u,hu,rv⟩:=r.get ha;have hp:ps[i]?=some y:=by
   rw[<-S.pre,List.getElem?_take_of_lt (by lia)];exact h1
  have ndP:ps.Nodup:=by rw[<-S.pre];exact S.nd.sublist (sT _ _)
  refine⟨u,rv,?_⟩;rcases S.par y (zK hp)with k|k
  ·exact .inl ⟨k,fu ndP hp hu k⟩
  ·obtain⟨c,e⟩:=Z0 (n:=s.heap.objs.size+1) k;refine .inr ⟨.inl k,c,e,?_⟩;have q:=x.cell y c e;rw[fq ndP hp hu (by show scope.names.lookup y≠_;rw[k];decide)]at q;exact q
 ·exact e0.hok.fresh (yC (x.above y c (xD h)))
 ·unfold vg;show _=N.length;rw[zS,zY,List.length_replicate];lia
theorem Wc{CX:CXT}{P:Program}{w:World}{K:W.Frag}{mg:Str->Option Value}{base:Heap}{k:Nat}{f:Addr}{name qual:Str}{params:Arguments}{body:List Stmt}{scope:Scope}{dV kV doc pm cdv ct oc:Value}{an od:Option Addr}
  {osl:Array (Option Value)}{N ps:List Str}{sp:Sp} (lk:K.lookup f=some ⟨oc,od,.func (W.fnOf name qual params body scope dV kV doc pm an cdv ct),osl⟩) (lY:W.codeIn K cdv qual=true) (S:v4 N ps scope)
  (len:∀vs H Q E,sp vs H Q E->vs.length=ps.length)
  (cM:∀(A:Around)(outer:List Env)(s:Shared)(H:Hp)(vs:List V)(Q:VK)(E:XK),Room k (A.deeper (envOfC qual scope s.heap.objs.size f cdv))->sp vs H Q E ->
   ∃t,PSs (pb CX P w K mg base N qual scope f cdv A outer s H E) body t/\t { nx:=λ_ H'=>Q .non H',rt:=Q } (vg N vs) H) :
  FnOk P w K mg base CX (k+1) f (W.fnOf name qual params body scope dV kV doc pm an cdv ct) ps sp:=by
 refine⟨len,λA outer s H args us vs Q E hr e0 hb r qH=>?_⟩;have hl:=len _ _ _ _ qH;have KX:K.In s.heap:=e0.mod.kin.keeps λb o e=>(e0.bs b o e).1;have lim:s.heap.NoLimit:=e0.mod.nolimit.keeps λb o e=>(e0.bs b o e).1;have F':∀y∈ps.zip us,scope.names.lookup y.1=some .local\/(scope.names.lookup y.1=some .cell/\((cellsFrom (s.heap.objs.size+1) scope.names []).lookup y.1).isSome=true):=λ⟨n,v⟩ hy=>by
  rcases S.par n (List.of_mem_zip hy).1 with q|q
  ·exact .inl q
  ·exact .inr ⟨q,W.cellsFrom_some _ _ _ (.inl q)⟩
 refine codeAny_call_function hr.depth (KX _ _ lk) rfl S.co S.gen rfl (W.codeRec_of KX lY) (hb _ _ _ _ ?_);refine wpAny_newFunctionEnv_cells S.kind F' λenv he s1 x=>?_;subst he;refine⟨lim.keeps x.toInCall.keep,codeAny_func ?_⟩;obtain⟨t,ht,hq⟩:=cM A outer s H vs Q E (hr.deeper _) qH;have I:Inv (pb CX P w K mg base N qual scope f cdv A outer s H E) [] (vg N vs) H s1:=Ud S hr.hd e0 hl r x;refine xQ (ht [] s1 (vg N vs) H _ I hq) (λfl s' hs=>?_) λe s' hs=>hs;have bC:∀{σ':St}{H':Hp}{v:V}{u:Value},Inv (pb CX P w K mg base N qual scope f cdv A outer s H E) [] σ' H' s'->RelV v u->Q v H'->CE outer P w H s Q u s' :=
  λ{σ' H' v u} J rv q=>⟨v,H',J.os,J.bare,J.base,J.hok,rv,q⟩
 cases fl with
 |ret u =>
  obtain⟨v,σ',H',J,rv,q⟩:=hs;exact bC J rv q
 |next =>
  obtain⟨σ',H',J,q⟩:=hs;exact bC (v:=V.non) (u:=Value.none) J rfl q
 |brk =>
  obtain⟨_,_,_,q⟩:=hs;exact False.elim q
 |cont =>
  obtain⟨_,_,_,q⟩:=hs;exact False.elim q
end L2
namespace L2
open PySem PySem.Spec PyProof.Rows
section
variable {X:Cx}{x:Str}{p pos:Pos}{e:Expr}{es:List Expr}{t:TA}{id T:String}{r:List V->Hp->VK->Prop}
def tCB(r:List V->Hp->VK->Prop)(t:TA):TE:=fun σ H Q=>t σ H λvs H1=>r vs H1 Q
theorem zv(hc:wo X (.builtin id) r)(hg:Gl X x)(hm:X.mg x=none)(hv:bootBuiltins x=some (.builtin id))(ha:PA X (e::es) t)(hn:x≠"__name__":=by decide)(nH:(x==("__debug__":Str))=false:=by decide)
  (he:starEach (e::es) X.env=(false,eval e X.env)::starEach es X.env:=by rfl) (cZ:(backTo pos (starEach es X.env)).any (·.1)=false:=by rfl):PE X (.Call (.Name x p) (e::es) [] pos) (tCB r t):=by
 intro pins s σ H Q I h;refine xK (ww I hg hm hv ?_ hn nH);exact vV (thn (ha pos pins s σ H _ I h) λus s1 ⟨vs,H1,I1,r1,q1⟩=>hc pins s1 σ H1 vs us Q I1 r1 q1) he cZ
theorem zd(hc:wo X (.type T) r)(hg:Gl X x)(hm:X.mg x=none)(hv:bootBuiltins x=some (.type T))(ha:PA X (e::es) t)(hn:x≠"__name__":=by decide)(nH:(x==("__debug__":Str))=false:=by decide)
  (he:starEach (e::es) X.env=(false,eval e X.env)::starEach es X.env:=by rfl) (cZ:(backTo pos (starEach es X.env)).any (·.1)=false:=by rfl):PE X (.Call (.Name x p) (e::es) [] pos) (tCB r t):=by
 intro pins s σ H Q I h;refine xK (ww I hg hm hv ?_ hn nH);exact xY (thn (ha pos pins s σ H _ I h) λus s1 ⟨vs,H1,I1,r1,q1⟩=>hc pins s1 σ H1 vs us Q I1 r1 q1) he cZ
end
end L2
namespace HT
open PySem PyProof.Rows
section
open PySem.SeqAt
open PySem.AutoSeq1 (wpAny_loadPart')
open PySem.MeetsSeq PySem.MeetsSeq2 PySem.MeetsSeq3
end
section
variable {prog:Program}{w:World}{A:Around}{E:Value->Shared->Prop}{s:Shared}
theorem cat_tup{t b:Addr}{vs ws:List Value}{Q:Value->Shared->Prop}(ht:IsTup s.heap t vs.toArray)(hb:IsTup s.heap b ws.toArray)(hv:vs≠[])
  (h1:ws=[]->Q (.ref t) s) (h2:ws≠[]->Q (.ref s.heap.objs.size) { s with heap:=s.heap.push { cls:=.type "tuple",data:=.seq (vs++ws).toArray } })
  (hsz:vs.length+ws.length<=sizeLine):wpAny (model prog w) A (binaryOp .Add (.ref t) (.ref b)) Q E s:=by
 obtain⟨⟨cls,dd,data,sl⟩,ho,hc,n,hd⟩:=id ht;obtain⟨⟨cls2,qK,data2,DE⟩,Bl,dD,n2,Dj⟩:=id hb;simp only at hc hd dD Dj;subst hc hd dD Dj;have e:vs.toArray++ws.toArray=(vs++ws).toArray:=by simp
 by_cases hw:ws=[]
 ·exact concat_meets ⟨_,ho,rfl⟩ ⟨_,Bl,rfl⟩ noFill_tuple_add seq_tuple_add sX sZ (tQ _ _)
   (tuple_addW1 t b vs.toArray ws.toArray n n2 dd qK sl DE (by simpa using hv) (by simp[hw])) ⟨ho,Bl,h1 hw⟩
 ·refine concat_meets ⟨_,ho,rfl⟩ ⟨_,Bl,rfl⟩ noFill_tuple_add seq_tuple_add sX sZ (tQ _ _)
   (tuple_addW2 t b vs.toArray ws.toArray n n2 dd qK sl DE (by simpa using hv) (by simpa using hw) (by rw[zO,zO];exact hsz)) ⟨ho,Bl,?_⟩
  rw[e];exact h2 hw
def sIx(n d:Nat):Option Int->Nat
 |none=>d
 |some v=>if v<0 then(v+(n:Int)).toNat else min v.toNat n
theorem sIx_none(n d:Nat):sIx n d none=d:=rfl
theorem Ly(n d:Nat)(hd:d<=n)(o:Option Int):sIx n d o<=n:=by
 cases o with
 |none=>exact hd
 |some v =>
  show(if v<0 then(v+(n:Int)).toNat else min v.toNat n)<=n
  by_cases hv:v<0
  ·rw[yT hv];lia
  ·rw[zC hv];exact Nat.min_le_right _ _
theorem V4(v:Int)(n d:Nat):(if v<0 then max (v+(n:Int)) 0 else min v (n:Int))=((sIx n d (some v):Nat):Int):=by
 show(if v<0 then max (v+(n:Int)) 0 else min v (n:Int))=(((if v<0 then(v+(n:Int)).toNat else min v.toNat n):Nat):Int)
 by_cases hv:v<0
 ·simp only[yT hv];lia
 ·simp only[zC hv];lia
theorem Xm(lo hi:Option Int)(n:Nat):Builtin.Slice.sliceAdjust lo hi 1 (n:Int)=(((sIx n 0 lo:Nat):Int),((sIx n n hi:Nat):Int)):=by
 have h1:¬((1:Int)<0):=by lia
 unfold Builtin.Slice.sliceAdjust;simp only[h1,if_false];refine Prod.ext ?_ ?_
 ·cases lo with
  |none=>rfl
  |some v=>exact V4 v n 0
 ·cases hi with
  |none=>rfl
  |some v=>exact V4 v n n
theorem Yy(i j:Nat):Builtin.Slice.slicePlaces (i:Int) (j:Int) 1=j-i:=by
 unfold Builtin.Slice.slicePlaces;have h1:(1:Int)>0:=by lia
 simp only[h1,if_true,Int.ediv_one];split<;>lia
theorem mf{v:Value}{o:Option Int}{Q:Option Int->Shared->Prop}(p:IsPart v o)(h:Q o s):wpAny (model prog w) A (Builtin.Slice.slicePartIndex v) Q E s:=by
 cases p with
 |none=>exact slicePart_none h
 |int i t=>exact slicePart_int h
theorem sliceApplied_gen{sl:Addr}{vl vu:Value}{lo hi:Option Int}{n:Nat}{Q:Int×Int×Nat->Shared->Prop}(hs:s.heap.IsSliceOf sl vl vu .none)(pl:IsPart vl lo)(pu:IsPart vu hi)
  (h:Q (((sIx n 0 lo:Nat):Int),1,sIx n n hi-sIx n 0 lo) s):wpAny (model prog w) A (Builtin.Slice.sliceApplied (.ref sl) (pure (n:Int))) Q E s:=by
 obtain⟨os,CT,AT,Br⟩:=id hs;unfold Builtin.Slice.sliceApplied Builtin.Slice.sliceFields;refine zZ (zZ (wS CT Br (x:=vl) rfl (zZ (wS CT Br (x:=vu) rfl (zZ (wS CT Br (x:=.none) rfl (zW ?_)))))));refine zZ (slicePart_none ?_);show wpAny _ _ (if((1:Int)==0)=true then _ else _) _ _ s;rw[zC (by decide)];refine zZ (mf pl (zZ (mf pu (zZ (zW ?_)))));show wpAny _ _ (match Builtin.Slice.sliceAdjust lo hi 1 (n:Int)with|(lo,hi)=>pure (lo,(1:Int),Builtin.Slice.slicePlaces lo hi 1)) _ _ s;rw[Xm lo hi n];show wpAny _ _ (pure (((sIx n 0 lo:Nat):Int),(1:Int),Builtin.Slice.slicePlaces ((sIx n 0 lo:Nat):Int) ((sIx n n hi:Nat):Int) 1)) _ _ s;rw[Yy];exact zW h
theorem R8(xs:Array Value)(i k:Nat):((List.range k).filterMap λ(m:Nat)=>xs[((i:Int)+(m:Int)*1).toNat]?).toArray=((xs.toList.drop i).take k).toArray:=by
 have e:(λ(m:Nat)=>xs[((i:Int)+(m:Int)*1).toNat]?)=λm=>xs[i+m]?:=by
  funext m
  have:((i:Int)+(m:Int)*1).toNat=i+m:=by lia
  rw[this]
 rw[e];have:=pick_run xs i k;rw[List.filterMap_map]at this;have e2:((λx=>xs[x]?)∘λx=>i+x)=λm=>xs[i+m]?:=rfl;rw[e2]at this;rw[this]
theorem getItem_tuple_cut{t sl:Addr}{items:Array Value}{vl vu:Value}{lo hi:Option Int}{Q:Value->Shared->Prop}(ht:IsTup s.heap t items)(hs:s.heap.IsSliceOf sl vl vu .none)(pl:IsPart vl lo)(pu:IsPart vu hi)
  (hw:¬(sIx items.size 0 lo=0/\sIx items.size items.size hi=items.size))
  (h:Q (.ref s.heap.objs.size) { s with heap:=s.heap.push { cls:=.type "tuple",data:=.seq ((items.toList.drop (sIx items.size 0 lo)).take (sIx items.size items.size hi-sIx items.size 0 lo)).toArray } })
  (hsz:items.size<=sizeLine):wpAny (model prog w) A (getItem (.ref t) (.ref sl)) Q E s:=by
 have qG:sizeOk (.seq ((items.toList.drop (sIx items.size 0 lo)).take (sIx items.size items.size hi-sIx items.size 0 lo)).toArray):=by
  show((items.toList.drop (sIx items.size 0 lo)).take (sIx items.size items.size hi-sIx items.size 0 lo)).toArray.size<=sizeLine;rw[zO,yU,xR,xE];lia
 have hj:sIx items.size items.size hi<=items.size:=Ly _ _ (zU _) hi;obtain⟨os,CT,AT,Br⟩:=id hs;have hTs:s.TypeIs (.ref sl) "slice":=⟨os,CT,AT⟩
 unfold getItem
 try with_reducible refine xX ?_
 first|refine zZ (zW ?_)|skip
 refine zZ (wpAny_sequenceKey ht.typeIs (by decide) ?_);refine zZ (xO (name:=Str.ofString "__getitem__") ht.typeIs xH
  (xZ xH ht.typeIs entry_tuple_getitem ?_ (args_tuple_getitem _ _)))
 show wpAny _ _ (Builtin.Tuple.tupleItemsOf (.ref t) >>= _) _ _ s;refine zZ (tupleItemsOf_ ht ?_);refine zZ (uW hTs ?_);rw[yT (by decide)];refine zZ (sliceApplied_gen hs pl pu ?_);have kK:¬((((sIx items.size 0 lo:Nat):Int)==0&&(1:Int)==1&&(sIx items.size items.size hi-sIx items.size 0 lo)==items.size)=true):=by
  intro q;rw[yJ,yJ]at q;have q1:((sIx items.size 0 lo:Nat):Int)=0:=eq_of_beq q.1.1;have q2:sIx items.size items.size hi-sIx items.size 0 lo=items.size:=eq_of_beq q.2;exact hw ⟨by lia,by lia⟩
 show wpAny _ _ (if(((sIx items.size 0 lo:Nat):Int)==0&&(1:Int)==1&&(sIx items.size items.size hi-sIx items.size 0 lo)==items.size)=true then _ else _) _ _ s;rw[zC kK,R8]
 first
  |exact zZ (m:=Builtin.Tuple.tupleExact _) (xV (zW ⟨_,rfl,zW h⟩) qG)
  |exact zZ (m:=Builtin.Tuple.tupleExact _) (xV (zZ (zW (zW ⟨_,rfl,zW h⟩))) qG)
  |exact zZ (zZ (m:=Builtin.Tuple.tupleExact _) (xV (zW (zW ⟨_,rfl,zW h⟩)) qG))
  |exact zZ (zZ (m:=Builtin.Tuple.tupleExact _) (xV (zW ⟨_,rfl,zW h⟩) qG))
end
end HT
namespace L2
open PySem PySem.Spec PyProof.Rows
abbrev TO:=St->Hp->(Option Int->Hp->Prop)->Prop
def PO(X:Cx)(e:Option Expr)(t:TO):Prop :=
 ∀(pins:List (Addr×Obj))(s:Shared)(σ:St)(H:Hp)(Q:Option Int->Hp->Prop),Inv X pins σ H s->t σ H Q ->
  wpAny (model X.prog X.w) X.A (evalPart e X.env) (λu s'=>∃o H',Inv X pins σ H' s'/\IsPart u o/\Q o H') X.xe s
def Xj:TO:=λ_ H Q=>Q none H
theorem qy{ns:List Int}:∀{us:List Value},Vals (ns.map V.int) us->IntsAre us ns:=by
 induction ns with
 |nil=>intro us r;rw[List.map_nil]at r;cases r;exact .nil
 |cons n ns ih =>
  intro us r;rw[List.map_cons]at r;cases r with
  |cons r1 r2 =>
   obtain⟨t,e⟩:=r1;subst e;exact .cons n t (ih r2)
section
variable {X:Cx}{e:Expr}{te:TE}{lo hi:Option Expr}{tl th:TO}{pos p2:Pos}
theorem ya:PO X none Xj:=by
 intro pins s σ H Q I h;rw[evalPart_none];exact zW ⟨none,H,I,.none,h⟩
def SlR(X:Cx)(r:V->Option Int->Option Int->Hp->VK->Prop):Prop :=
 ∀(pins:List (Addr×Obj))(s:Shared)(σ:St)(H:Hp)(x:V)(v vl vu:Value)(lo hi:Option Int)(sl:Addr)(Q:VK),Inv X pins σ H s->RelV x v->s.heap.IsSliceOf sl vl vu .none->IsPart vl lo->IsPart vu hi->r x lo hi H Q ->
  ∃T id,typeLookup (.type T) "__getitem__"=pure (some (.builtin id))/\s.TypeIs v T/\wpAny (model X.prog X.w) X.A (getItem v (.ref sl)) (EP X pins σ Q) X.xe s
theorem SlR.or{r r':V->Option Int->Option Int->Hp->VK->Prop}(h:SlR X r)(h':SlR X r'):SlR X (λx lo hi H Q=>r x lo hi H Q\/r' x lo hi H Q):=by
 intro pins s σ H x v vl vu lo hi sl Q I rx hs pl pu q;rcases q with q|q
 ·exact h pins s σ H x v vl vu lo hi sl Q I rx hs pl pu q
 ·exact h' pins s σ H x v vl vu lo hi sl Q I rx hs pl pu q
def tSl(r:V->Option Int->Option Int->Hp->VK->Prop)(te:TE)(tl th:TO):TE:=fun σ H Q=>te σ H λx H1=>tl σ H1 λl H2=>th σ H2 λu H3=>r x l u H3 Q
theorem Ry{r:V->Option Int->Option Int->Hp->VK->Prop}(hr:SlR X r)(he:PE X e te)(hl:PO X lo tl)(hu:PO X hi th):PE X (.Subscript e (.Slice lo hi none p2) pos) (tSl r te tl th):=by
 intro pins s σ H Q I h;refine Subscript_ (thn (he pins s σ H _ I h) λv s1 ⟨x,H1,I1,r1,q1⟩=>?_);refine wpAny_Slice (thn (hl pins s1 σ H1 _ I1 q1) λvl s2 ⟨l,H2,I2,pl,q2⟩=>thn (hu pins s2 σ H2 _ I2 q2) λvu s3 ⟨u,H3,I3,pu,q3⟩=>?_);rw[evalPart_none];refine zW ?_;have I4:Inv X pins σ H3 { s3 with heap:=s3.heap.push { cls:=.type "slice",data:=.fields #[vl,vu,.none] } }:=I3.kept (t':=s3.toks) λb ob q=>zX _ q;obtain⟨T,id,hT,ht,hg⟩:=hr pins { s3 with heap:=s3.heap.push { cls:=.type "slice",data:=.fields #[vl,vu,.none] } } σ H3 x v vl vu l u s3.heap.objs.size Q I4 r1 (Heap.IsSliceOf.new ..) pl pu q3;show wpAny (model X.prog X.w) X.A (subscriptTail e (.Slice lo hi none p2) v (.ref s3.heap.objs.size)) (EP X pins σ Q) X.xe { s3 with heap:=s3.heap.push { cls:=.type "slice",data:=.fields #[vl,vu,.none] } };exact tail_any (ops:=[.ref s3.heap.objs.size,v]) ht hT hg (by with_unfolding_all rfl)
def vn(xs:List V)(lo hi:Option Int):List V:=(xs.drop (HT.sIx xs.length 0 lo)).take (HT.sIx xs.length xs.length hi-HT.sIx xs.length 0 lo)
theorem oj(xs:List V)(lo hi:Option Int):(vn xs lo hi).length<=xs.length:=by
 unfold vn;rw[yU,xR];lia
def Gc(K:W.Frag):V->Option Int->Option Int->Hp->VK->Prop:=λx lo hi H Q=>∃a xs,x = .ref a/\SqT K H a xs /\
 ¬(HT.sIx xs.length 0 lo=0/\HT.sIx xs.length xs.length hi=xs.length)/\∀p,H p=none->Q (.ref p) (upd H p (.tup (vn xs lo hi)))
theorem L3:SlR X (Gc X.K):=by
 intro pins s σ H x v vl vu lo hi sl Q I rx hs pl pu h;obtain⟨a,xs,rfl,hx,hw,q⟩:=h;cases rx;obtain⟨aE,r,ht,hz⟩:=I.tuple hx;have aL:aE.toArray.size=xs.length:=by rw[zO];exact r.length.symm
 refine⟨"tuple",_,xH.lookup,ht.typeIs,?_⟩;refine HT.getItem_tuple_cut ht hs pl pu (by rw[aL];exact hw) ?_ (by rw[aL];exact hz);rw[aL];refine⟨.ref s.heap.objs.size,_,I.laid (t':=s.toks) (o:=.tup (vn xs lo hi)) (λb ob q=>zX _ q) (zU _) ?_,rfl,q _ (I.hok.fresh (zU _))⟩;exact⟨yS (oj xs lo hi) hz,_,(r.drop (HT.sIx xs.length 0 lo)).take (HT.sIx xs.length xs.length hi-HT.sIx xs.length 0 lo),IsTup.new _ _⟩
def Iy(K:W.Frag):R2:=λx y H Q=>∃a b xs ys,x = .ref a/\y = .ref b/\SqT K H a xs/\SqT K H b ys/\xs≠[]/\xs.length+ys.length<=sizeLine /\
 (ys=[]->Q (.ref a) H)/\(ys≠[]->∀p,H p=none->Q (.ref p) (upd H p (.tup (xs++ys))))
theorem Vals.nil_iff{xs:List V}{us:List Value}(r:Vals xs us):us=[]↔xs=[]:=by
 cases r with
 |nil=>simp
 |cons _ _=>simp
theorem Oe:OpR X (binaryOp .Add) (Iy X.K):=by
 intro pins s σ H x y v u Q I rx ry h;obtain⟨a,b,xs,ys,rfl,rfl,ha,hb,hx,hz,q1,q2⟩:=h;cases rx;cases ry;obtain⟨aE,r1,p1,_⟩:=I.tuple ha;obtain⟨jM,r2,p2,_⟩:=I.tuple hb;refine HT.cat_tup p1 p2 (λz=>hx (r1.nil_iff.mp z)) (λz=>⟨.ref a,H,I,rfl,q1 (r2.nil_iff.mp z)⟩) (λz=>?_) (by rw[<-r1.length,<-r2.length];exact hz);refine⟨.ref s.heap.objs.size,_,I.laid (t':=s.toks) (o:=.tup (xs++ys)) (λb ob q=>zX _ q) (zU _) ?_,rfl,q2 (λw=>z (r2.nil_iff.mpr w)) _ (I.hok.fresh (zU _))⟩;exact⟨by rw[zS];exact hz,_,r1.append r2,IsTup.new _ _⟩
end
end L2
namespace L2
open PySem PySem.Spec PyProof.Rows
def ixN(n:Nat)(i:Int):Option Nat:=if 0<=i then(if i<n then some i.toNat else none)else if -(n:Int)<=i then some (i+n).toNat else none
def atI{α:Type}(xs:List α)(i:Int):Option α:=(ixN xs.length i).bind λj=>xs[j]?
theorem Wi{n:Nat}{i:Int}{j:Nat}(h:ixN n i=some j):seqIndex? i n=some j/\j<n/\-(n:Int)<=i/\i<n:=by
 unfold ixN at h
 by_cases h0:0<=i
 ·rw[yT h0]at h
  by_cases h1:i<n
  ·rw[yT h1]at h;have e:i.toNat=j:=yY h;exact⟨by rw[seqIndex_of h0 h1,e],by lia,by lia,h1⟩
  ·rw[zC h1]at h;cases h
 ·rw[zC h0]at h
  by_cases h1:-(n:Int)<=i
  ·rw[yT h1]at h;have e:(i+n).toNat=j:=yY h;exact⟨by rw[seqIndex_neg (by lia) h1,e],by lia,h1,by lia⟩
  ·rw[zC h1]at h;cases h
theorem cr{α:Type}{xs:List α}{i:Int}{v:α}(h:atI xs i=some v):∃j,seqIndex? i xs.length=some j/\xs[j]?=some v/\j<xs.length/\-(xs.length:Int)<=i/\i<xs.length:=by
 unfold atI at h;cases e:ixN xs.length i with
 |none=>rw[e]at h;cases h
 |some j =>
  rw[e]at h;obtain⟨h1,h2,h3,h4⟩:=Wi e;exact⟨j,h1,h,h2,h3,h4⟩
theorem yk{α:Type}{xs:List α}{j:Nat}{v:α}(h:xs[j]?=some v):atI xs (j:Int)=some v:=by
 have hj:j<xs.length:=(zV.mp h).1;have e:ixN xs.length (j:Int)=some j:=by
  unfold ixN;rw[yT (by lia),yT (by lia)];simp
 unfold atI;rw[e];exact h
def Vx(b:Expr):Prop:=∀o i,subscripted b false o i=operate [o,i] (getItem o i)
def IxR(X:Cx)(r:R2):Prop :=
 ∀(value slice:Expr)(pins:List (Addr×Obj))(s:Shared)(σ:St)(H:Hp)(x y:V)(v u:Value)(Q:VK),Inv X pins σ H s->RelV x v->RelV y u->r x y H Q ->
  subscripted slice false v u=operate [v,u] (getItem v u)->wpAny (model X.prog X.w) X.A (subscriptTail value slice v u) (EP X pins σ Q) X.xe s
def MtR(X:Cx)(id:String)(r:V->List V->Hp->VK->Prop):Prop :=
 ∀(pins:List (Addr×Obj))(s:Shared)(σ:St)(H:Hp)(x:V)(xs:List V)(v:Value)(us:List Value)(Q:VK),Inv X pins σ H s->RelV x v->Vals xs us->r x xs H Q ->
  wpAny (model X.prog X.w) X.A (call (.builtin id) (v::us)) (EP X pins σ Q) X.xe s
section
variable {X:Cx}{a b:Expr}{ta tb:TE}{pos:Pos}
theorem IxR.or{r r':R2}(h:IxR X r)(h':IxR X r'):IxR X (λx y H Q=>r x y H Q\/r' x y H Q):=by
 intro value slice pins s σ H x y v u Q I rx ry q hs;rcases q with q|q
 ·exact h value slice pins s σ H x y v u Q I rx ry q hs
 ·exact h' value slice pins s σ H x y v u Q I rx ry q hs
theorem Hw{r:R2}(hr:IxR X r)(ha:PE X a ta)(hb:PE X b tb)(hs:Vx b):PE X (.Subscript a b pos) (tOp r ta tb):=by
 intro pins s σ H Q I h;exact Subscript_ (Jr ha hb I h λv u s2 x y H2 I2 rx ry q=>hr a b pins s2 σ H2 x y v u Q I2 rx ry q (hs _ _))
def Iz(K:W.Frag):R2:=λx y H Q=>∃p xs i v,x = .ref p/\y = .int i/\SqL K H p xs/\atI xs i=some v/\Q v H
def Ja(K:W.Frag):R2:=λx y H Q=>∃p xs i v,x = .ref p/\y = .int i/\SqT K H p xs/\atI xs i=some v/\Q v H
def I0:R2:=λx y H Q=>∃z i c,x = .str z/\y = .int i/\z.length<=sizeLine/\atI z.cps.toList i=some c/\Q (.str ⟨#[c]⟩) H
theorem ix_list:IxR X (Iz X.K):=by
 intro value slice pins s σ H x y v u Q I rx ry h hs;obtain⟨p,xs,i,z,rfl,rfl,hq,he,q⟩:=h;cases rx;obtain⟨t,rfl⟩:=ry;obtain⟨aE,r,pl,hz⟩:=I.list hq;obtain⟨j,h1,h2,h3,h4,h5⟩:=cr he;obtain⟨w,ew,nB⟩:=r.get h2;have hl:=r.length;have hn:=pf;have bC:EP X pins σ Q w s:=⟨z,H,I,nB,q⟩
 by_cases h0:0<=i
 ·have hj:i.toNat=j:=by
   rw[seqIndex_of h0 h5]at h1;exact yY h1
  exact item_listR pl.isList h0 (by lia) (by rw[hj];simpa using ew) bC hs
 ·have hj:(i+(aE.toArray.size:Int)).toNat=j:=by
   rw[seqIndex_neg (by lia) h4]at h1;rw[zO,<-hl];exact yY h1
  exact subscriptTail_builtinR (x:=w) pl.isList.typeIs slot_list_getitem.lookup
   (wpAny_getItem_list_neg (Q:=λr s'=>r=w/\EP X pins σ Q r s') pl.isList (by lia) (by rw[zO]<;>lia) (by lia) (by rw[hj];simpa using ew) ⟨rfl,bC⟩) hs
theorem ix_tup:IxR X (Ja X.K):=by
 intro value slice pins s σ H x y v u Q I rx ry h hs;obtain⟨p,xs,i,z,rfl,rfl,hq,he,q⟩:=h;cases rx;obtain⟨t,rfl⟩:=ry;obtain⟨aE,r,pl,hz⟩:=I.tuple hq;obtain⟨j,h1,h2,h3,h4,h5⟩:=cr he;obtain⟨w,ew,nB⟩:=r.get h2;have hl:=r.length;have hn:=pf;have bC:EP X pins σ Q w s:=⟨z,H,I,nB,q⟩
 exact subscriptTail_builtinR (x:=w) pl.typeIs slot_tuple_getitem.lookup
  (getItem_tuple (j:=j) (Q:=λr s'=>r=w/\EP X pins σ Q r s') pl (by lia) (by lia) (by rw[zO,<-hl];exact h1) (by simpa using ew) ⟨rfl,bC⟩) hs
theorem Jz:IxR X I0:=by
 intro value slice pins s σ H x y v u Q I rx ry h hs;obtain⟨z,i,c,rfl,rfl,hz,he,q⟩:=h;obtain⟨t,rfl⟩:=rx;obtain⟨t',rfl⟩:=ry;obtain⟨j,h1,h2,h3,h4,h5⟩:=cr he;have hl:z.cps.toList.length=z.length:=by simp[Str.length]
 rw[hl]at h1 h4 h5;have hn:=pf;exact tail_any (typeIs_str s z t) slot_str_getitem.lookup (getItem_str (c:=c) (by
  have e1:decide (i < -(2 ^ 63:Int))=false:=yL (by lia);have e2:decide (i≥2 ^ 63)=false:=yL (by lia);rw[e1,e2,Bool.or_false]) (by rw[h1];simpa using h2) ⟨.str ⟨#[c]⟩,H,I.tok _,⟨_,rfl⟩,q⟩) hs
def rIx(K:W.Frag):R2:=λx y H Q=>Iz K x y H Q\/Ja K x y H Q\/I0 x y H Q
theorem Jy:IxR X (rIx X.K):=ix_list.or (ix_tup.or Jz)
theorem Ye(aE:List Value)(n j:Nat)(u:Value):Obj.mapSeq (·.setIfInBounds j u) { cls:=.type "list",data:=.seq aE.toArray n }={ cls:=.type "list",data:=.seq (aE.set j u).toArray n }:=by
 simp[Obj.mapSeq]
theorem Inv.lst{pins:List (Addr×Obj)}{σ:St}{H:Hp}{s:Shared}{p:Addr}{xs:List V}(I:Inv X pins σ H s)(h:H p=some (.lst xs)):
  ∃(aE:List Value)(n:Nat),Vals xs aE/\s.heap.get? p=some { cls:=.type "list",data:=.seq aE.toArray n }/\xs.length<=sizeLine:=by
 obtain⟨z,aE,n,r,e⟩:=I.hok p _ h;exact⟨aE,n,r,e,z⟩
theorem Inv.lstUpd{pins:List (Addr×Obj)}{σ:St}{H:Hp}{s:Shared}{p:Addr}{xs ys:List V}{aE its':List Value}{n n':Nat}{f:Obj->Obj}(I:Inv X pins σ H s)(h:H p=some (.lst xs))
  (ho:s.heap.get? p=some { cls:=.type "list",data:=.seq aE.toArray n }) (hf:f { cls:=.type "list",data:=.seq aE.toArray n }={ cls:=.type "list",data:=.seq its'.toArray n' }) (r:Vals ys its') (hz:ys.length<=sizeLine) (t:Nat) :
  Inv X pins σ (upd H p (.lst ys)) { s with heap:=s.heap.update p f,toks:=t }:=by
 have e:(s.heap.update p f).get? p=some { cls:=.type "list",data:=.seq its'.toArray n' }:=by
  rw[wR f ho (by rw[hf]<;>rfl),hf]
 refine I.write (x:=p) (e:=p) (by rw[h];trivial) (.inl rfl) (λb u hb q=>(yO _ _ (wU hb)).trans q) ⟨_,e⟩ ?_;exact⟨hz,its',n',r,e⟩
def Jb:V->V->V->Hp->(Hp->Prop)->Prop:=λo i v H Q=>∃p xs k j,o = .ref p/\i = .int k/\H p=some (.lst xs)/\ixN xs.length k=some j/\Q (upd H p (.lst (xs.set j v)))
theorem So:M0 X Jb:=by
 intro pins s σ H o i v ov iv u Q I ro ri rv h;obtain⟨p,xs,k,j,rfl,rfl,hp,hj,q⟩:=h;cases ro;obtain⟨t,rfl⟩:=ri;obtain⟨aE,n,r,ho,hz⟩:=I.lst hp;obtain⟨h1,h2,h3,h4⟩:=Wi hj;have hl:=r.length;have hn:=pf;have I':Inv X pins σ (upd H p (.lst (xs.set j v))) { s with heap:=s.heap.update p (Obj.mapSeq (·.setIfInBounds j u)) } :=
  I.lstUpd hp ho (Ye aE n j u) (r.set rv j) (by rw[List.length_set];exact hz) s.toks
 by_cases h0:0<=k
 ·have hk:k.toNat=j:=by
   rw[seqIndex_of h0 h4]at h1;exact yY h1
  exact W.ki_setAt ho h0 (by lia) (by rw[zO,<-hl];exact h4) (by rw[hk];exact⟨_,I',q⟩)
 ·have hk:(k+(aE.toArray.size:Int)).toNat=j:=by
   rw[seqIndex_neg (by lia) h3]at h1;rw[zO,<-hl];exact yY h1
  exact W.ki_setBack ho (by lia) (by rw[zO,<-hl];exact h3) (by lia) (by rw[hk];exact⟨_,I',q⟩)
theorem eh(lo hi:Option Int)(n:Nat):(sliceBounds lo hi none n).1=((HT.sIx n 0 lo:Nat):Int)/\(sliceBounds lo hi none n).2.1=((HT.sIx n n hi:Nat):Int)/\(sliceBounds lo hi none n).2.2=1:=by
 refine⟨?_,?_,rfl⟩
 ·cases lo with
  |none=>simp[sliceBounds,HT.sIx]
  |some i =>
   simp only[sliceBounds,HT.sIx,Option.getD_none,show(1:Int)>0 by decide,if_true]
   by_cases h:i<0
   ·simp only[h,if_true]<;>lia
   ·simp only[h,if_false]<;>lia
 ·cases hi with
  |none=>simp[sliceBounds,HT.sIx]
  |some i =>
   simp only[sliceBounds,HT.sIx,Option.getD_none,show(1:Int)>0 by decide,if_true]
   by_cases h:i<0
   ·simp only[h,if_true]<;>lia
   ·simp only[h,if_false]<;>lia
theorem jr(aE:List Value)(lo hi:Option Int):slicePick aE.toArray lo hi none=((aE.drop (HT.sIx aE.length 0 lo)).take (HT.sIx aE.length aE.length hi-HT.sIx aE.length 0 lo)).toArray:=by
 obtain⟨h1,h2,h3⟩:=eh lo hi aE.toArray.size;unfold slicePick;rw[h1,h2,h3];simp only[sliceRange_one,pick_run,zO]<;>rfl
def Gb(K:W.Frag):V->Option Int->Option Int->Hp->VK->Prop:=λx lo hi H Q=>∃a xs,x = .ref a/\SqL K H a xs/\∀p,H p=none->Q (.ref p) (upd H p (.lst (vn xs lo hi)))
theorem O2:SlR X (Gb X.K):=by
 intro pins s σ H x v vl vu lo hi sl Q I rx hs pl pu h;obtain⟨a,xs,rfl,hx,q⟩:=h;cases rx;obtain⟨aE,r,ht,hz⟩:=I.list hx;have aL:=r.length;refine⟨"list",_,slot_list_getitem.lookup,ht.isList.typeIs,?_⟩;refine wpAny_getItem_list_slice ht.isList hs pl pu .none (by simp) ?_ (by rw[zO]<;>lia);rw[jr,<-aL];refine⟨.ref s.heap.objs.size,_,I.laid (t':=s.toks) (o:=.lst (vn xs lo hi)) (λb ob q=>zX _ q) (zU _) ?_,rfl,q _ (I.hok.fresh (zU _))⟩;exact⟨yS (oj xs lo hi) hz,_,0,(r.drop (HT.sIx xs.length 0 lo)).take (HT.sIx xs.length xs.length hi-HT.sIx xs.length 0 lo),zT _ rfl⟩
def v6:V->Bool
 | .non=>true
 | .bl _=>true
 | .int _=>true
 | .str _=>true
 |_=>false
def eqV:V->V->Bool
 | .non,.non=>true
 | .bl a,.bl b=>a==b
 | .bl a,.int b=>(if a then 1 else 0)==b
 | .int a,.bl b=>a==(if b then 1 else 0)
 | .int a,.int b=>a==b
 | .str a,.str b=>a==b
 |_,_=>false
theorem Jw{A:Around}{s:Shared}{y x:V}{u v:Value}(ry:RelV y u)(rx:RelV x v)(fy:v6 y=true)(fx:v6 x=true):SeqAt.EqAt A s u v (eqV y x):=by
 cases y with
 |non =>
  cases ry;cases x with
  |non=>cases rx;exact SeqAt.EqAt.same _
  |bl b=>cases rx;exact SeqAt.EqAt.none_bool b
  |int b=>obtain⟨t,rfl⟩:=rx;exact SeqAt.EqAt.none_int b t
  |str b=>obtain⟨t,rfl⟩:=rx;exact SeqAt.EqAt.none_str b t
  |_=>exact absurd (show false=true from fx) zF
 |bl a =>
  cases ry;cases x with
  |non=>cases rx;exact SeqAt.EqAt.bool_none a
  |bl b=>cases rx;exact uC a b
  |int b=>obtain⟨t,rfl⟩:=rx;exact SeqAt.EqAt.bool_int a b t
  |str b=>obtain⟨t,rfl⟩:=rx;exact SeqAt.EqAt.bool_str a b t
  |_=>exact absurd (show false=true from fx) zF
 |int a =>
  obtain⟨t',rfl⟩:=ry;cases x with
  |non=>cases rx;exact SeqAt.EqAt.int_none a t'
  |bl b=>cases rx;exact SeqAt.EqAt.int_bool a t' b
  |int b=>obtain⟨t,rfl⟩:=rx;exact tG a t' b t
  |str b=>obtain⟨t,rfl⟩:=rx;exact SeqAt.EqAt.int_str a t' b t
  |_=>exact absurd (show false=true from fx) zF
 |str a =>
  obtain⟨t',rfl⟩:=ry;cases x with
  |non=>cases rx;exact SeqAt.EqAt.str_none a t'
  |bl b=>cases rx;exact SeqAt.EqAt.str_bool a t' b
  |int b=>obtain⟨t,rfl⟩:=rx;exact SeqAt.EqAt.str_int a t' b t
  |str b=>obtain⟨t,rfl⟩:=rx;exact SeqAt.EqAt.str_str a t' b t
  |_=>exact absurd (show false=true from fx) zF
 |_=>exact absurd (show false=true from fy) zF
def eqU(x:V)(u:Value):Bool:=match u with
 | .none=>eqV .non x
 | .bool b=>eqV (.bl b) x
 | .int i _=>eqV (.int i) x
 | .str z _=>eqV (.str z) x
 |_=>false
theorem P6{x y:V}{u:Value}(r:RelV y u)(f:v6 y=true):eqU x u=eqV y x:=by
 cases y with
 |non=>cases r;rfl
 |bl b=>cases r;rfl
 |int i=>obtain⟨t,rfl⟩:=r;rfl
 |str z=>obtain⟨t,rfl⟩:=r;rfl
 |_=>exact absurd (show false=true from f) zF
theorem qa{x:V}:∀{xs:List V}{us:List Value},Vals xs us->xs.all v6=true->us.any (eqU x)=xs.any λy=>eqV y x
 |_,_,.nil,_=>rfl
 |y::xs,u::us,.cons r t,f=>by
  rw[List.all_cons,yJ]at f;rw[sH,sH,P6 r f.1,qa t f.2]
theorem ub{A:Around}{s:Shared}{x:V}{v:Value}(rx:RelV x v)(fx:v6 x=true):∀{xs:List V}{us:List Value},Vals xs us->xs.all v6=true->∀u∈us,SeqAt.EqAt A s u v (eqU x u)
 |_,_,.nil,_=>λu hu=>by cases hu
 |y::xs,u::us,.cons r t,f=>λu' hu=>by
  rw[List.all_cons,yJ]at f;rcases zL.mp hu with rfl|hu
  ·rw[P6 r f.1];exact Jw r rx f.1 fx
  ·exact ub rx fx t f.2 u' hu
def inV(x:V)(xs:List V):Bool:=xs.any λy=>eqV y x
def rIn(K:W.Frag)(neg:Bool):R2:=λx y H Q=>∃p xs,y = .ref p/\(SqL K H p xs\/SqT K H p xs)/\v6 x=true/\xs.all v6=true/\Q (.bl (if neg then !inV x xs else inV x xs)) H
theorem Vh:OpR X (compareOp .In) (rIn X.K false):=by
 intro pins s σ H x y v u Q I rx ry h;obtain⟨p,xs,rfl,hq,fx,fs,q⟩:=h;cases ry;rcases hq with hq|hq
 ·obtain⟨aE,r,pl,hz⟩:=I.list hq;refine SeqAt.in_listAt (eqU x) pl.isList (λw hw=>ub rx fx r fs w (by simpa using hw)) ⟨.bl _,H,I,rfl,?_⟩;rw[show aE.toArray.any (eqU x)=aE.any (eqU x)by simp,qa r fs];exact q
 ·obtain⟨aE,r,pl,hz⟩:=I.tuple hq;refine SeqAt.in_tupleAt (eqU x) pl (λw hw=>ub rx fx r fs w (by simpa using hw)) ⟨.bl _,H,I,rfl,?_⟩;rw[show aE.toArray.any (eqU x)=aE.any (eqU x)by simp,qa r fs];exact q
theorem dz:OpR X (compareOp .NotIn) (rIn X.K true):=by
 intro pins s σ H x y v u Q I rx ry h;obtain⟨p,xs,rfl,hq,fx,fs,q⟩:=h;cases ry;rcases hq with hq|hq
 ·obtain⟨aE,r,pl,hz⟩:=I.list hq;refine SeqAt.notIn_listAt (eqU x) pl.isList (λw hw=>ub rx fx r fs w (by simpa using hw)) ⟨.bl _,H,I,rfl,?_⟩;rw[show aE.toArray.any (eqU x)=aE.any (eqU x)by simp,qa r fs];exact q
 ·obtain⟨aE,r,pl,hz⟩:=I.tuple hq;refine SeqAt.notIn_tupleAt (eqU x) pl (λw hw=>ub rx fx r fs w (by simpa using hw)) ⟨.bl _,H,I,rfl,?_⟩;rw[show aE.toArray.any (eqU x)=aE.any (eqU x)by simp,qa r fs];exact q
theorem cw:wo X (.builtin "len") (λxs H Q=>∃p ys,xs=[.ref p]/\(SqL X.K H p ys\/SqT X.K H p ys)/\Q (.int ys.length) H):=by
 intro pins s σ H xs us Q I r h;obtain⟨p,ys,rfl,hq,q⟩:=h;obtain⟨u,rfl,rx⟩:=vk r;cases rx;have hn:=pf;rcases hq with hq|hq
 ·obtain⟨aE,r',pl,hz⟩:=I.list hq;have aL:=r'.length;exact Calls.call_len_list pl.isList (by simp only[zO]<;>lia) ⟨.int ys.length,H,I.tok _,⟨s.toks+1,by rw[zO,aL]⟩,q⟩
 ·obtain⟨aE,r',pl,hz⟩:=I.tuple hq;have aL:=r'.length;exact len_tuple pl (by simp only[zO]<;>lia) ⟨.int ys.length,H,I.tok _,⟨s.toks+1,by rw[zO,aL]⟩,q⟩
theorem cx:wo X (.builtin "len") (λxs H Q=>∃z,xs=[.str z]/\z.length<=sizeLine/\Q (.int z.length) H):=by
 intro pins s σ H xs us Q I r h;obtain⟨z,rfl,hz,q⟩:=h;obtain⟨u,rfl,t,rfl⟩:=vk r;have hn:=pf;exact len_str (by lia) ⟨.int z.length,H,I.tok _,⟨_,rfl⟩,q⟩
theorem cz:wo X (.type "list") (λxs H Q=>∃p ys,xs=[.ref p]/\(SqL X.K H p ys\/SqT X.K H p ys)/\∀l,H l=none->Q (.ref l) (upd H l (.lst ys))):=by
 intro pins s σ H xs us Q I r h;obtain⟨p,ys,rfl,hq,q⟩:=h;obtain⟨u,rfl,rx⟩:=vk r;cases rx;have bC:∀(aE:List Value),Vals ys aE->ys.length<=sizeLine->∀(h':Heap)(c':Nat),(∀b o',s.heap.get? b=some o'->h'.get? b=some o') ->
   h'.get? s.heap.objs.size=some { cls:=.type "list",dict:=none,data:=.seq aE.toArray c',slots:=#[] }->EP X pins σ Q (.ref s.heap.objs.size) { s with heap:=h' }:=λaE r' hz h' c' kp e =>
  ⟨.ref s.heap.objs.size,_,I.laid (t':=s.toks) kp (zU _) (show ObjOk X.prog X.w _ h' _ (.lst ys)from⟨hz,aE,c',r',e⟩),rfl,q _ (I.hok.fresh (zU _))⟩
 rcases hq with hq|hq
 ·obtain⟨aE,r',pl,hz⟩:=I.list hq;have aL:=r'.length;obtain⟨o,ho,hc,n,hd⟩:=pl.isList;exact call_list_seq p (.inl rfl) ho hc hd (λh' c' kp e=>bC aE r' hz h' c' kp e) (by simp only[zO]<;>lia)
 ·obtain⟨aE,r',pl,hz⟩:=I.tuple hq;have aL:=r'.length;obtain⟨o,ho,hc,n,hd⟩:=pl;exact call_list_seq p (.inr rfl) ho hc hd (λh' c' kp e=>bC aE r' hz h' c' kp e) (by simp only[zO]<;>lia)
theorem rq:wo X (.type "tuple") (λxs H Q=>∃p ys,xs=[.ref p]/\((SqL X.K H p ys/\∀l,H l=none->Q (.ref l) (upd H l (.tup ys)))\/(SqT X.K H p ys/\Q (.ref p) H))):=by
 intro pins s σ H xs us Q I r h;obtain⟨p,ys,rfl,h⟩:=h;obtain⟨u,rfl,rx⟩:=vk r;cases rx;rcases h with⟨hq,q⟩|⟨hq,q⟩
 ·obtain⟨aE,r',pl,hz⟩:=I.list hq;have aL:=r'.length;refine call_tuple_list pl.isList (λh' kp=>?_) (by simp only[zO]<;>lia);have I1:Inv X pins σ H { s with heap:=h' }:=I.kept (t':=s.toks) kp;have I2:Inv X pins σ (upd H h'.objs.size (.tup ys)) { s with heap:=h'.push { cls:=.type "tuple",data:=.seq aE.toArray } } :=
   I1.laid (t':=s.toks) (λb o e=>zX _ e) (zU _) (show ObjOk X.prog X.w _ _ _ (.tup ys)from⟨hz,aE,r',IsTup.new _ _⟩)
  exact⟨.ref h'.objs.size,_,I2,rfl,q _ (I1.hok.fresh (zU _))⟩
 ·obtain⟨aE,r',pl,hz⟩:=I.tuple hq;exact call_tuple_same pl ⟨.ref p,H,I,rfl,q⟩
def tyV(K:W.Frag)(T:String)(x:V)(H:Hp):Prop:=match x with
 | .str _=>T="str"
 | .int _=>T="int"
 | .ref p=>(T="list"/\∃xs,SqL K H p xs)\/(T="tuple"/\∃o,K.lookup p=some o/\o.cls = .type "tuple"/\o.dict=none) \/
   (T="dict"/\((∃kvs,H p=some (.dK kvs))\/∃kvs,H p=some (.dT kvs)))\/(T="set"/\∃S n,H p=some (.set S n))
 |_=>False
theorem Tf{pins:List (Addr×Obj)}{σ:St}{H:Hp}{s:Shared}{T:String}{x:V}{v:Value}(I:Inv X pins σ H s)(r:RelV x v)(ty:tyV X.K T x H):
  s.TypeIs v T/\∀a,v = .ref a->∃ob,s.heap.get? a=some ob/\ob.dict=none:=by
 cases x with
 |str z =>
  obtain⟨t,rfl⟩:=r;cases(show T="str" from ty);exact⟨typeIs_str s z t,λ_ e=>nomatch e⟩
 |int i =>
  obtain⟨t,rfl⟩:=r;cases(show T="int" from ty);exact⟨typeIs_int s i t,λ_ e=>nomatch e⟩
 |ref p =>
  cases r;rcases ty with⟨rfl,xs,hq⟩|⟨rfl,o,hk,hc,hd⟩|⟨rfl,hk⟩|⟨rfl,S,n,hk⟩
  ·obtain⟨aE,_,pl,_⟩:=I.list hq;refine⟨pl.isList.typeIs,λa e=>?_⟩;cases e;obtain⟨o,n,e,c,hd,_⟩:=pl;exact⟨o,e,hd⟩
  ·refine⟨⟨o,I.kIn p o hk,hc⟩,λa e=>?_⟩;cases e;exact⟨o,I.kIn _ o hk,hd⟩
  ·have z:∃o,s.heap.get? p=some o/\o.ExactDict:=by
    rcases hk with⟨kvs,hk⟩|⟨kvs,hk⟩
    ·obtain⟨_,_,_,_,o,_,_,e,ex,_⟩:=I.hok p _ hk;exact⟨o,e,ex⟩
    ·obtain⟨_,_,_,_,o,_,_,e,ex,_⟩:=I.hok p _ hk;exact⟨o,e,ex⟩
   obtain⟨o,e,ex⟩:=z;refine⟨⟨o,e,ex.1⟩,λa e2=>?_⟩;cases e2;exact⟨o,e,ex.2.1⟩
  ·obtain⟨o,_,_,_,e,ex,_⟩:=I.hok p _ hk;refine⟨⟨o,e,ex.1⟩,λa e2=>?_⟩;cases e2;exact⟨o,e,ex.2.1⟩
 |_=>exact False.elim ty
variable {o e:Expr}{es:List Expr}{to:TE}{t:TA}{name:Str}{apos cpos:Pos}{T id:String}{r:V->List V->Hp->VK->Prop}
end
end L2
namespace L2
open PySem PySem.Spec PyProof.Rows
def MtM(X:Cx)(id:String)(r:V->List V->Hp->VK->Prop):Prop :=
 ∀(pins:List (Addr×Obj))(s:Shared)(σ:St)(H:Hp)(x:V)(xs:List V)(v:Value)(us:List Value)(Q:VK),Inv X pins σ H s->RelV x v->Vals xs us->r x xs H Q ->
  wpAny (model X.prog X.w) X.A (call (.builtin id) (v::us)) (EP X pins σ Q) X.xe s
theorem Vals.one:∀{x:V}{us:List Value},Vals [x] us->∃u,us=[u]/\RelV x u
 |_,_,.cons r .nil=>⟨_,rfl,r⟩
theorem Vals.zero:∀{us:List Value},Vals [] us->us=[]
 |_,.nil=>rfl
theorem Vals.rep{xs:List V}{us:List Value}(h:Vals xs us):∀k:Nat,Vals (List.replicate k xs).flatten (List.replicate k us).flatten
 |0=>.nil
 |k+1=>by
  rw[uR,uR,uY,uY];exact Vals.append h (Vals.rep h k)
theorem f7(aE:List Value):∀(k:Nat)(aK:List Value),
  List.foldl (λx1 x2=>x1++x2) aK.toArray (List.replicate k aE.toArray)=(aK++(List.replicate k aE).flatten).toArray
 |0,aK=>by simp
 |k+1,aK=>by
  have e:aK.toArray++aE.toArray=(aK++aE).toArray:=by simp
  have e2:(aK++aE)++(List.replicate k aE).flatten=aK++(List.replicate (k+1) aE).flatten:=by
   rw[uR,uY,wA]
  rw[<-e2,<-f7 aE k (aK++aE),<-e,uR,vJ]
section
variable {X:Cx}{pins:List (Addr×Obj)}{σ:St}{H:Hp}{s:Shared}{l b:Addr}{xs ys zs:List V}
theorem Inv.lset{aE its':List Value}{n:Nat}{f:Array Value->Array Value}{t':Nat}(I:Inv X pins σ H s)(hH:H l=some (.lst xs))
  (e:s.heap.get? l=some { cls:=.type "list",data:=.seq aE.toArray n }) (hf:f aE.toArray=its'.toArray) (hv:Vals ys its') (hz:ys.length<=sizeLine) :
  Inv X pins σ (upd H l (.lst ys)) { s with heap:=s.heap.update l (Obj.mapSeq f),toks:=t' }:=by
 have q:=PySem.IsL.update e f;rw[hf]at q;refine I.write (x:=l) (e:=l) (by rw[hH];exact trivial) (.inl rfl) (λb' u hb hu=>(yO s.heap (Obj.mapSeq f) (wU hb)).trans hu) ⟨_,q⟩ ?_;exact⟨hz,its',_,hv,q⟩
theorem Inv.lnew{aE:List Value}{t':Nat}(I:Inv X pins σ H s)(hv:Vals ys aE)(hz:ys.length<=sizeLine):
  Inv X pins σ (upd H s.heap.objs.size (.lst ys)) { s with heap:=s.heap.push { cls:=.type "list",data:=.seq aE.toArray },toks:=t' } :=
 I.laid (λ_ _ q=>zX _ q) (zU _) ⟨hz,aE,0,hv,zT _ rfl⟩
theorem Inv.fresh(I:Inv X pins σ H s):H s.heap.objs.size=none:=I.hok.fresh (zU _)
theorem Inv.lstM(I:Inv X pins σ H s)(hH:H l=some (.lst xs)):xs.length<=sizeLine/\∃(aE:List Value)(n:Nat),Vals xs aE/\xs.length=aE.length/\s.heap.get? l=some { cls:=.type "list",data:=.seq aE.toArray n }:=by
 obtain⟨z,aE,n,r,e⟩:=I.hok l _ hH;exact⟨z,aE,n,r,r.length,e⟩
theorem ar{n:Nat}(h:n<=sizeLine):Builtin.List.listTooLong n=false:=by
 unfold Builtin.List.listTooLong;exact yL (by lia)
end
section
variable {X:Cx}
def Ou:V->List V->Hp->VK->Prop:=λx vs H Q=>∃l xs y,x = .ref l/\vs=[y]/\H l=some (.lst xs)/\xs.length<sizeLine/\Q .non (upd H l (.lst (xs++[y])))
theorem gx:MtM X "list.append" Ou:=by
 intro pins s σ H x vs v us Q I rx rv h;obtain⟨l,xs,y,rfl,rfl,hH,hz,q⟩:=h;cases rx;obtain⟨u,rfl,ru⟩:=rv.one;obtain⟨z,aE,n,r,hl,e⟩:=I.lstM hH;refine tE F.slot_list_append ⟨_,e,rfl⟩ F.entry_list_append (F.args_list_append_2 _ _) (PySem.list_append l aE.toArray n u (by rw[zO];lia)) ⟨e,?_⟩;refine⟨.non,_,I.lset (its':=aE++[u]) hH e (by simp) (r.append (.cons ru .nil)) ?_,rfl,q⟩;rw[zS,xG];lia
def Ov:V->List V->Hp->VK->Prop:=λx vs H Q=>∃l b xs zs,x = .ref l/\vs=[.ref b]/\H l=some (.lst xs)/\H b=some (.lst zs)/\xs.length+zs.length<=sizeLine/\Q .non (upd H l (.lst (xs++zs)))
theorem U0:MtM X "list.extend" Ov:=by
 intro pins s σ H x vs v us Q I rx rv h;obtain⟨l,b,xs,zs,rfl,rfl,hH,hB,hz,q⟩:=h;cases rx;obtain⟨u,rfl,ru⟩:=rv.one;cases ru;obtain⟨z,aE,n,r,hl,e⟩:=I.lstM hH;obtain⟨z2,jM,n2,r2,mP,e2⟩:=I.lstM hB;have hsz:aE.toArray.size+jM.toArray.size<=sizeLine:=by rw[zO,zO];lia
 have FX:¬(!aE.toArray.isEmpty&&Builtin.List.listTooLong (aE.toArray.size+jM.toArray.size))=true:=by
  rw[ar hsz,uB];exact zF
 refine tE F.slot_list_extend ⟨_,e,rfl⟩ F.entry_list_extend (F.args_list_extend_2 _ _)
  (AutoSeq1.list_extend_list_list_0 l aE.toArray n b jM.toArray n2 FX (by rw[zO];lia) (by lia)) ⟨e,e2,?_⟩
 refine⟨.non,_,I.lset (its':=aE++jM) hH e (by simp) (r.append r2) ?_,rfl,q⟩;rw[zS];lia
def Lw:V->List V->Hp->VK->Prop:=λx vs H Q=>∃l xs,x = .ref l/\vs=[]/\H l=some (.lst xs)/\Q .non (upd H l (.lst []))
theorem Q6:MtM X "list.clear" Lw:=by
 intro pins s σ H x vs v us Q I rx rv h;obtain⟨l,xs,rfl,rfl,hH,q⟩:=h;cases rx;have hus:=rv.zero;subst hus;obtain⟨z,aE,n,r,hl,e⟩:=I.lstM hH;refine tE F.slot_list_clear ⟨_,e,rfl⟩ F.entry_list_clear (F.args_list_clear_1 _) (AutoSeq1.list_clear_list_0 l aE.toArray n (by rw[zO];lia)) ⟨e,?_⟩;exact⟨.non,_,I.lset (its':=[]) (ys:=[]) hH e rfl .nil (yQ _),rfl,q⟩
def Ga:R2:=λx y H Q=>∃l b xs zs,x = .ref l/\y = .ref b/\H l=some (.lst xs)/\H b=some (.lst zs)/\xs.length+zs.length<=sizeLine/\∀p,H p=none->Q (.ref p) (upd H p (.lst (xs++zs)))
theorem K0:OpR X (binaryOp .Add) Ga:=by
 intro pins s σ H x y v u Q I rx ry h;obtain⟨l,b,xs,zs,rfl,rfl,hH,hB,hz,q⟩:=h;cases rx;cases ry;obtain⟨z,aE,n,r,hl,e⟩:=I.lstM hH;obtain⟨z2,jM,n2,r2,mP,e2⟩:=I.lstM hB;refine PySem.P.add_list e e2 ?_ (by rw[zO,zO];lia);have ea:aE.toArray++jM.toArray=(aE++jM).toArray:=by simp
 rw[ea];exact⟨.ref _,_,I.lnew (t':=s.toks) (r.append r2) (by rw[zS];lia),rfl,q _ I.fresh⟩
theorem Wm{α:Type}(xs:List α)(k:Nat):(List.replicate k xs).flatten.length=k*xs.length:=by
 induction k with
 |zero=>simp
 |succ k ih=>rw[uR,uY,zS,ih,Nat.succ_mul,Nat.add_comm]
end
section
variable {prog:Program}{w:World}{A:Around}{E:Value->Shared->Prop}{s:Shared}
end
section
variable {X:Cx}
end
end L2
namespace Att
open PySem PySem.W PySem.Calls PyProof.Rows
theorem nz{P:Params}{h:Heap}:∀(ns:List Int)(vs:List Value),WellAll P h vs (ns.map WData.int)->IntsAre vs ns:=by
 intro ns
 induction ns with
 |nil =>
  intro vs w;rw[List.map_nil]at w;cases w;exact .nil
 |cons n ns ih =>
  intro vs w;rw[List.map_cons]at w;cases w with
  |cons a b =>
   cases a;exact .cons _ _ (ih _ b)
theorem Vn{l:OpenLaw}{n:Nat}(hn:l.most=some n){P:Params}{h:Heap}{args:List WData}{rX:List Value}
  (Bj:l.row.toRowW.claim.pre args=true) (AQ:WellAll P h rX args) :
  ∃a vs ns,rX=[Value.ref a]/\args=[WData.list (ns.map WData.int)]/\h.get? a=some { cls:=.type "list",data:=.seq vs.toArray }/\IntsAre vs ns/\ns.length<=n:=by
 have hsh:WShape.hasAll [] args [.list .int]=true:=(pre_splitW Bj).1;have hc:l.pre.holds [] { args:=args }=true:=(pre_splitW Bj).2;obtain⟨d,r,rfl,h1,h2⟩:=hasAllW_cons hsh;obtain rfl:=hasAllW_nil h2;obtain⟨xs,rfl,h3⟩:=hasW_list h1;obtain⟨ns,rfl⟩:=items_int h3;have aL:ns.length<=n:=by
  unfold OpenLaw.pre at hc;have h4:(WTm.not (.lt (.lit (.int (n:Int))) (.len (.arg 0)))).holds [] { args:=[.list (ns.map .int)] }=true:=by
   have h4:=(holds_andW hc).1;rw[hn]at h4;exact h4
  have h5:=condW_of h4 (w_not (w_lt w_lit (w_len_list (w_arg rfl))));rw[zY]at h5;refine Nat.le_of_not_lt λq=>?_;have q':(n:Int)<((ns.length:Nat):Int):=by lia
  first
   |(rw[zA q']at h5;exact absurd h5 (by decide))
   |(simp at h5;lia)
 cases AQ with
 |cons w1 w2 =>
  cases w2;cases w1 with
  |list ho bQ=>exact⟨_,_,ns,rfl,rfl,ho,nz ns _ bQ,aL⟩
theorem Vl(l:OpenLaw)(args:List WData):l.row.toRowW.claim.post args (.bool true) args=true :=
 postW_of (r:=l.row.toRowW) (X:=(true==true))
  (show WShape.has [] (.bool true) .bool=true by first|rfl|decide|simp[WShape.has,WShape.arms,WShape.armsAll])
  (show(WTm.eq .res (.lit (.bool true))).value [] { args:=args,res:=some (.bool true),after:=args }=some (.bool (true==true))from w_eq_bool (w_res rfl) w_lit) rfl
theorem attach_call{l:OpenLaw}{n:Nat}{q:Program}{mJ:List Str}{XP:(Str->Option Value)->Heap->Prop}{YP:World->Heap->Prop}{d:DefRec}
  (hn:l.most=some n) (GF:d.params.defaults=[])
  (call:∀(w:World)(s₀ s₁:Shared)(mg mb:Str->Option Value)(fa:Addr)(o:Obj)(pm cd doc:Value)(a:Addr)(vs:List Value)(ns:List Int),
   Ground q mJ [] XP w s₀ mg mb s₁.heap->YP w s₁.heap ->
   s₁.heap.get? fa=some o->o.data = .func (docDef d.name d.params d.body d.scope pm cd doc)->s₁.heap.CodeRec cd d.name->mg d.name=some (.ref fa) ->
   s₁.heap.get? a=some { cls:=.type "list",data:=.seq vs.toArray }->IntsAre vs ns->ns.length<=n->s₁.gens=#[] ->
   codeAny (model l.prog w) callerA (.call (.ref fa) ⟨[.ref a],[]⟩) (λr s'=>r = .ok (.ret (.bool true))/\OldK s₁.heap s'.heap/\s'.os=s₁.os/\AllBare s'.gens) s₁) :
  WalkO q mJ XP YP l.row.toRowW d [] (λf vs=>PySem.call f vs):=by
 intro w s₀ s₁ mg mb G Y fa o pm cd doc dV kV ho hd lY hD FW hg args rX as Bj hlay hrd AQ BY;obtain rfl:dV = .none:=Dflts.none hD GF;obtain rfl:kV = .none:=Dflts.noKw hD;obtain⟨a,vs,ns,rfl,rfl,CV,Ar,aL⟩:=Vn hn Bj AQ;refine enter_call (uN (call w s₀ s₁ mg mb fa o pm cd doc a vs ns G Y ho (fd_plain hd) lY FW CV Ar aL hg) λr s' hq=>?_);obtain⟨rfl,h2,h3,h4⟩:=hq;exact⟨.inl ⟨.bool true,.bool true,[],rfl,λ_=>rfl,.bool true,Vl l _,λ_=>⟨List.Pairwise.nil,λ_ hm=>(nomatch hm)⟩⟩,h2,h3,h4⟩
section
variable {prog:Program}{w:World}{A:Around}{E:Value->Shared->Prop}{s:Shared}{K:Frag}
end
end Att
namespace L2
open PySem PySem.Spec PyProof.Rows
theorem pz:∀{vs:List Value}{ns:List Int},IntsAre vs ns->Vals (ns.map V.int) vs
 |_,_,.nil=>.nil
 |_,_,.cons n t h=>.cons ⟨t,rfl⟩ (pz h)
end L2
namespace L2
open PySem PySem.Spec PyProof.Rows
end L2
namespace L2
open PySem PySem.Spec PyProof.Rows
def yx(s:Stmt):Arguments:=match s with
 | .FunctionDef _ a _ _ _ _ _ _ _ _=>a
 |_=>{ posonlyargs:=[],args:=[],vararg:=none,kwonlyargs:=[],kw_defaults:=[],kwarg:=none,defaults:=[] }
def zi(s:Stmt):List Stmt:=match s with
 | .FunctionDef _ _ b _ _ _ _ _ _ _=>b
 |_=>[]
def zr(s:Stmt):Scope:=match s with
 | .FunctionDef _ _ _ _ _ _ sc _ _ _=>sc
 |_=>{ kind:=.function,names:=[],isGenerator:=false,isCoroutine:=false }
abbrev CX0:CXT:=λ_ _ _ _ _ _=>False
abbrev E0:XK:=λ_ _ _=>False
theorem Wz{X:Cx}:qx CX0 X E0:=λ_ _ _ _ _ _ _ h=>h.elim
structure Fun(K:W.Frag)(x qual:Str)(st:Stmt)(f:Addr)(fd:FuncData):Prop where
 ex:∃(oc:Value)(od:Option Addr)(kV doc pm:Value)(an:Option Addr)(cdv ct:Value)(osl:Array (Option Value)),
  fd=W.fnOf x qual (yx st) (zi st) (zr st) .none kV doc pm an cdv ct/\K.lookup f=some ⟨oc,od,.func fd,osl⟩/\W.codeIn K cdv qual=true
 kp:W.keepIn K (.ref f)=true
section
variable {P:Program}{w:World}{K:W.Frag}{mg:Str->Option Value}{base:Heap}
theorem Fun.ok{x qual:Str}{st:Stmt}{f:Addr}{fd:FuncData}{N ps:List Str}{k:Nat}{sp:Sp}(F:Fun K x qual st f fd)(S:v4 N ps (zr st))(len:∀vs H Q E,sp vs H Q E->vs.length=ps.length)
  (cM:∀(cdv:Value)(A:Around)(outer:List Env)(s:Shared)(H:Hp)(vs:List V)(Q:VK)(E:XK),Room k (A.deeper (envOfC qual (zr st) s.heap.objs.size f cdv))->sp vs H Q E ->
   ∃t,PSs (pb CX0 P w K mg base N qual (zr st) f cdv A outer s H E).nox (zi st) t/\t { nx:=λ_ H'=>Q .non H',rt:=Q } (vg N vs) H):FnOk P w K mg base CX0 (k+1) f fd ps sp:=by
 obtain⟨oc,od,kV,doc,pm,an,cdv,ct,osl,rfl,lk,lY⟩:=F.ex;refine Wc lk lY S len λA outer s H vs Q E hr qH=>?_;obtain⟨t,h,q⟩:=cM cdv A outer s H vs Q E hr qH;exact⟨t,h.nox,q⟩
theorem Xy{x qual:Str}{st:Stmt}{f:Addr}{oc:Value}{od an:Option Addr}{osl:Array (Option Value)}{kV doc pm cdv ct:Value}(l:K.lookup f=some ⟨oc,od,.func (W.fnOf x qual (yx st) (zi st) (zr st) .none kV doc pm an cdv ct),osl⟩)
  (c:W.codeIn K cdv qual=true) (k:W.keepIn K (.ref f)=true):Fun K x qual st f (W.fnOf x qual (yx st) (zi st) (zr st) .none kV doc pm an cdv ct):=⟨⟨oc,od,kV,doc,pm,an,cdv,ct,osl,rfl,l,c⟩,k⟩
end
theorem sx{n:Nat}(h:n<=1000):n<sizeLine:=Nat.lt_of_le_of_lt h (by decide)
section
variable {X:Cx}
end
theorem u4{c A B:Prop}[Decidable c](h1:c->A)(h2:¬c->B):if c then A else B:=by
 by_cases h:c
 ·rw[yT h];exact h1 h
 ·rw[zC h];exact h2 h
def Same(H H':Hp):Prop:=∀b o,H b=some o->H' b=some o
theorem Same.refl(H:Hp):Same H H:=λ_ _ h=>h
theorem Same.trans{H H1 H2:Hp}(a:Same H H1)(b:Same H1 H2):Same H H2:=λc o h=>b c o (a c o h)
theorem Same.seq{K:W.Frag}{H H':Hp}{a:Addr}{xs:List V}(e:Same H H')(h:SqL K H a xs):SqL K H' a xs:=by
 rcases h with(h|⟨o,h⟩)|h
 ·exact .inl (.inl (e _ _ h))
 ·exact .inl (.inr ⟨o,e _ _ h⟩)
 ·exact .inr h
end L2
namespace L2
open PySem PySem.Spec PyProof.Rows
section
variable {κ:Type} [DecidableEq κ]
def si(kvs:List (κ×V))(k:κ):Option V:=(kvs.find? λkv=>decide (kv.1=k)).map (·.2)
def ug(kvs:List (κ×V))(k:κ)(v:V):List (κ×V) :=
 if(kvs.any λkv=>decide (kv.1=k))=true then kvs.map (λkv=>if kv.1=k then(kv.1,v)else kv)else kvs++[(k,v)]
theorem uf{p:κ×V}{r:List (κ×V)}{k:κ}(e:p.1=k):si (p::r) k=some p.2:=by simp[si,uM,e]
theorem ue{p:κ×V}{r:List (κ×V)}{k:κ}(e:¬p.1=k):si (p::r) k=si r k:=by simp[si,uM,e]
theorem ck(k:κ):∀kvs:List (κ×V),(kvs.any λkv=>decide (kv.1=k))=(si kvs k).isSome
 |[]=>rfl
 |p::r=>by
  rw[sH]
  by_cases e:p.1=k
  ·simp only[uf e,zA e,Bool.true_or,Option.isSome_some]
  ·rw[ue e,yL e,Bool.false_or];exact ck k r
theorem oo(kvs:List (κ×V))(k:κ)(v:V):(ug kvs k v).length<=kvs.length+1:=by
 unfold ug;split
 ·rw[zY];lia
 ·rw[zS,yR,xA];lia
theorem RelO.isSome_eq{o:Option V}{u:Option Value}(r:RelO o u):o.isSome=u.isSome:=by
 cases o with
 |none=>cases u with
  |none=>rfl
  |some _=>exact(show False from r).elim
 |some _=>cases u with
  |none=>exact(show False from r).elim
  |some _=>rfl
theorem KV.val{kvs:List (κ×V)}{vs:List (κ×Value)}(r:KV kvs vs)(k:κ):RelO (si kvs k) (valueAt vs k):=by
 unfold KV at r
 induction r with
 |nil=>exact True.intro
 | @cons p q ps qs h t ih =>
  obtain⟨h1,h2⟩:=h
  by_cases e:p.1=k
  ·have e':q.1=k:=h1.symm.trans e;have b:valueAt (q::qs) k=some q.2:=by simp[valueAt,uM,e']
   rw[uf e,b];exact h2
  ·have e':¬q.1=k:=λz=>e (h1.trans z);have b:valueAt (q::qs) k=valueAt qs k:=by simp[valueAt,uM,e']
   rw[ue e,b];exact ih
theorem KV.any{kvs:List (κ×V)}{vs:List (κ×Value)}(r:KV kvs vs)(k:κ):(kvs.any λkv=>decide (kv.1=k))=vs.any λkv=>decide (kv.1=k):=by
 unfold KV at r
 induction r with
 |nil=>rfl
 |cons h t ih=>rw[sH,sH,ih,h.1]
theorem KV.repl{kvs:List (κ×V)}{vs:List (κ×Value)}(r:KV kvs vs)(k:κ){y:V}{u:Value}(ry:RelV y u):
  KV (kvs.map λkv=>if kv.1=k then(kv.1,y)else kv) (vs.map λkv=>if kv.1=k then(kv.1,u)else kv):=by
 unfold KV at r ⊢
 induction r with
 |nil=>exact .nil
 | @cons p q ps qs h t ih =>
  rw[List.map_cons,List.map_cons];refine .cons ?_ ih;obtain⟨h1,h2⟩:=h
  by_cases e:p.1=k
  ·rw[yT e,yT (h1.symm.trans e)];exact⟨h1,ry⟩
  ·rw[zC e,zC (λz=>e (h1.trans z))];exact⟨h1,h2⟩
theorem KV.put{kvs:List (κ×V)}{vs:List (κ×Value)}(r:KV kvs vs)(k:κ){y:V}{u:Value}(ry:RelV y u):KV (ug kvs k y) (stored vs k u):=by
 unfold ug stored;rw[r.any k]
 by_cases e:(vs.any λkv=>decide (kv.1=k))=true
 ·rw[yT e,yT e];exact r.repl k ry
 ·rw[zC e,zC e];exact Paired.snoc r ⟨rfl,ry⟩
theorem KV.length{kvs:List (κ×V)}{vs:List (κ×Value)}(r:KV kvs vs):kvs.length=vs.length:=Paired.length r
end
theorem Qg{P:Program}{w:World}{k:Key}{u:Value}(r:RelV (kV k) u):(xh P w).is k u=true:=by
 cases k with
 |inl i=>obtain⟨t,e⟩:=(show∃t,u=Value.int i t from r);subst e;exact ak P w i t
 |inr x=>obtain⟨t,e⟩:=(show∃t,u=Value.str x t from r);subst e;exact al P w x t
theorem gh{P:Program}{w:World}:∀{ks:List Key}{us:List Value},Vals (ks.map kV) us->ItemsAre (xh P w) ks us
 |[],_,r=>by rw[List.map_nil]at r;cases r;exact .nil
 |k::ks,_,r=>by
  rw[List.map_cons]at r;cases r with
  |cons h t=>exact .cons (Qg h) (gh t)
abbrev KT(H:Hp):List (List Key×V)->List (List Key×Addr×Value)->Prop:=Paired λp q=>p.1=q.1/\H q.2.1=some (.tup (p.1.map kV))/\RelV p.2 q.2.2
theorem KT.val{H:Hp}{kvs:List (List Key×V)}{xs:List (List Key×Addr×Value)}(r:KT H kvs xs)(k:List Key):RelO (si kvs k) ((atKey xs k).map (·.2)):=by
 induction r with
 |nil=>exact True.intro
 | @cons p q ps qs h t ih =>
  obtain⟨h1,_,h2⟩:=h
  by_cases e:p.1=k
  ·have e':q.1=k:=h1.symm.trans e;have b:atKey (q::qs) k=some q.2:=by simp[atKey,uM,e']
   rw[uf e,b];exact h2
  ·have e':¬q.1=k:=λz=>e (h1.trans z);have b:atKey (q::qs) k=atKey qs k:=by simp[atKey,uM,e']
   rw[ue e,b];exact ih
theorem KT.repl{H:Hp}{kvs:List (List Key×V)}{xs:List (List Key×Addr×Value)}(r:KT H kvs xs)(k:List Key){y:V}{u:Value}(ry:RelV y u):
  KT H (kvs.map λkv=>if kv.1=k then(kv.1,y)else kv) (xs.map (putAt k u)):=by
 induction r with
 |nil=>exact .nil
 | @cons p q ps qs h t ih =>
  rw[List.map_cons,List.map_cons];refine .cons ?_ ih;obtain⟨h1,h2,h3⟩:=h;unfold putAt
  by_cases e:p.1=k
  ·rw[yT e,yT (h1.symm.trans e)];exact⟨h1,h2,ry⟩
  ·rw[zC e,zC (λz=>e (h1.trans z))];exact⟨h1,h2,h3⟩
theorem KT.put{H:Hp}{kvs:List (List Key×V)}{xs:List (List Key×Addr×Value)}(r:KT H kvs xs)(k:List Key){b:Addr}{y:V}{u:Value}(hb:H b=some (.tup (k.map kV)))(ry:RelV y u):
  KT H (ug kvs k y) (storedH xs k b u):=by
 have e:(kvs.any λkv=>decide (kv.1=k))=(atKey xs k).isSome:=by
  rw[ck,(r.val k).isSome_eq,Option.isSome_map]
 unfold ug storedH;rw[e]
 by_cases q:(atKey xs k).isSome=true
 ·rw[yT q,yT q];exact r.repl k ry
 ·rw[zC q,zC q];exact Paired.snoc r ⟨rfl,hb,ry⟩
theorem KT.keeps{H H':Hp}{kvs:List (List Key×V)}{xs:List (List Key×Addr×Value)}(r:KT H kvs xs)(ht:∀b ys,H b=some (.tup ys)->H' b=some (.tup ys)):KT H' kvs xs :=
 Paired.mapP r λ_ _ z=>⟨z.1,ht _ _ z.2.1,z.2.2⟩
section
variable {P:Program}{w:World}{H:Hp}{h:Heap}{a:Addr}
theorem Mr{u:HO}(ok:HOk P w H h)(e:Rd H a u):ObjOk P w H h a u:=e.ok ok
theorem P4{kvs:List (Key×V)}(ok:HOk P w H h)(e:Rd H a (.dK kvs)):kvs.length<=sizeLine/\(a==sysModules)=false/\∃vs,KV kvs vs/\h.DictOf (xh P w) a vs :=
 show ObjOk P w H h a (.dK kvs)from Mr ok e
theorem P3{kvs:List (Key×V)}(ok:HOk P w H h)(e:H a=some (.dK kvs)):kvs.length<=sizeLine/\(a==sysModules)=false/\∃vs,KV kvs vs/\h.DictOf (xh P w) a vs:=P4 ok (.inl e)
theorem X5{ks:List Key}(ok:HOk P w H h)(e:H a=some (.tup (ks.map kV))):(tupleKind (xh P w)).is h ks a:=by
 obtain⟨_,aE,r,o,h1,h2,n,h3⟩:=(show ObjOk P w H h a (.tup (ks.map kV))from ok a _ e)
 exact⟨o,aE.toArray,n,h1,h2,h3,by simpa using gh r⟩
theorem P5{kvs:List (List Key×V)}(ok:HOk P w H h)(e:Rd H a (.dT kvs)):kvs.length<=sizeLine/\(a==sysModules)=false /\
  ∃xs,KT H kvs xs/\h.DictOfH (tupleKind (xh P w)) a xs:=by
 obtain⟨z,y,xs,r,o,es,ep,h1,h2,h3,h4,h5⟩:=(show ObjOk P w H h a (.dT kvs)from Mr ok e)
 refine⟨z,y,xs,r,o,es,ep,h1,h2,h3,h4,λx hx=>?_,h5⟩;have all:∀{l:List (List Key×V)}{m:List (List Key×Addr×Value)},KT H l m->∀x∈m,(tupleKind (xh P w)).is h x.1 x.2.1:=by
  intro l m q
  induction q with
  |nil=>intro x hx;exact nomatch hx
  | @cons p q ps qs hq t ih =>
   intro x hx;rcases zL.mp hx with e|hx
   ·subst e;exact X5 ok (by rw[<-hq.1];exact hq.2.1)
   ·exact ih x hx
 exact all r x hx
theorem Gq{kvs:List (List Key×V)}(ok:HOk P w H h)(e:H a=some (.dT kvs)):kvs.length<=sizeLine/\(a==sysModules)=false /\
  ∃xs,KT H kvs xs/\h.DictOfH (tupleKind (xh P w)) a xs:=P5 ok (.inl e)
end
def Jl(H:Hp)(a:Addr)(y:V)(r:Option V):Prop :=
 (∃kvs k,Rd H a (.dK kvs)/\y=kV k/\r=si kvs k)\/∃kvs k b,Rd H a (.dT kvs)/\y = .ref b/\H b=some (.tup (k.map kV))/\r=si kvs k
def Fm(H:Hp)(a:Addr)(y v:V)(H':Hp):Prop :=
 (∃kvs k,H a=some (.dK kvs)/\y=kV k/\kvs.length<sizeLine/\H'=upd H a (.dK (ug kvs k v))) \/
 ∃kvs k b,H a=some (.dT kvs)/\y = .ref b/\H b=some (.tup (k.map kV))/\kvs.length<sizeLine/\H'=upd H a (.dT (ug kvs k v))
section
variable {X:Cx}{pins:List (Addr×Obj)}{σ:St}{H:Hp}{s:Shared}{a:Addr}{y v:V}{u r:Value}{o:Option V}{A:Around}{E:Value->Shared->Prop}
theorem Inv.big(I:Inv X pins σ H s):sysModules<s.heap.objs.size:=by
 have h:mainGlobals<s.heap.objs.size:=(I.mod.glob.keeps I.bk).lt;exact sL (by decide) h
theorem Tu{Q:Value->Shared->Prop}(hu:A.units+1<cLine)(I:Inv X pins σ H s)(g:Jl H a y (some v))(ry:RelV y u)(h:∀w' s',Inv X pins σ H s'->RelV v w'->Q w' s'):
  wpAny (model X.prog X.w) A (getItem (.ref a) u) Q E s:=by
 rcases g with⟨kvs,k,e,ey,l⟩|⟨kvs,k,b,e,ey,eb,l⟩
 ·subst ey;obtain⟨z,hd,vs,rel,dd⟩:=P4 I.hok e;obtain⟨w',hw,nB⟩:=RelO.some_of (v:=v) (o:=valueAt vs k) (by rw[l];exact rel.val k);exact wpAny_getItem_of (Qg ry) dd.mapOf hw (h w' _ (I.tok _) nB)
 ·subst ey;cases(show u=Value.ref b from ry);obtain⟨z,hd,xs,rel,dd⟩:=P5 I.hok e;obtain⟨w',hw,nB⟩:=RelO.some_of (v:=v) (o:=(atKey xs k).map (·.2)) (by rw[l];exact rel.val k);obtain⟨p,hp,jV⟩:=Option.map_eq_some_iff.mp hw;refine wpAny_getItem_heap (tupleKind_room_in1 hu) (X5 I.hok eb) dd hp ?_;rw[jV];exact h w' _ (I.tok _) nB
theorem V5{h':Heap}{t':Nat}{ob:HO}(I:Inv X pins σ H s)(mu:Mut (H a))(hs:Heap.SameBut a s.heap h')(he:∃q,h'.get? a=some q)(new:ObjOk X.prog X.w (upd H a ob) h' a ob):
  Inv X pins σ (upd H a ob) { s with heap:=h',toks:=t' } :=
 I.write (x:=a) (e:=a) mu (.inl rfl) (λb q hb z=>(hs.2 b hb).trans z) he new
theorem Jv{P:Program}{w:World}{H':Hp}{h':Heap}{kvs:List (Key×V)}{vs:List (Key×Value)}(z:kvs.length<=sizeLine)(hd:(a==sysModules)=false)(rel:KV kvs vs)(dd:h'.DictOf (xh P w) a vs):
  ObjOk P w H' h' a (.dK kvs):=⟨z,hd,vs,rel,dd⟩
theorem Tv{H':Hp}{Q:Unit->Shared->Prop}(hu:A.units+1<cLine)(I:Inv X pins σ H s)(g:Fm H a y v H')(ry:RelV y u)(rv:RelV v r)(h:∀s',Inv X pins σ H' s'->Q () s'):
  wpAny (model X.prog X.w) A (setItem (.ref a) u r) Q E s:=by
 rcases g with⟨kvs,k,e,ey,l,eH⟩|⟨kvs,k,b,e,ey,eb,l,eH⟩
 ·subst ey eH;obtain⟨z,hd,vs,rel,dd⟩:=P3 I.hok e;have hz:vs.length<=sizeLine:=by rw[<-rel.length];exact z
  have hl:(ug kvs k v).length<=sizeLine:=by have:=oo kvs k v;lia
  refine wpAny_setItem_pairs (hsz:=hz) (Qg ry) dd λh' dd' hs=>h _ ?_;have he:∃q,h'.get? a=some q:=let⟨q,_,_,hq,_⟩:=dd';⟨q,hq⟩;exact V5 I (by rw[e];exact True.intro) hs he (Jv hl hd (rel.put k rv) dd')
 ·subst ey eH;cases(show u=Value.ref b from ry);obtain⟨z,hd,xs,rel,dd⟩:=Gq I.hok e;have hz:xs.length<=sizeLine:=by rw[<-Paired.length rel];exact z
  have hl:(ug kvs k v).length<=sizeLine:=by have:=oo kvs k v;lia
  refine wpAny_setItem_heap (hsz:=hz) (tupleKind_room_in1 hu) (X5 I.hok eb) dd λh' dd' hs=>h _ ?_;obtain⟨q,es,ep,hq,h2,h3,h4,_,h5⟩:=dd';refine V5 I (by rw[e];exact True.intro) hs ⟨q,hq⟩ ⟨hl,hd,_,(rel.put k eb rv).keeps λc ys ec=>?_,q,es,ep,hq,h2,h3,h4,h5⟩;rw[zk (Hm ec e (λz=>nomatch z))];exact ec
end
section
variable {X:Cx}{pins:List (Addr×Obj)}{σ:St}{H:Hp}{s:Shared}{a:Addr}{kvs:List (Key×V)}{k:Key}{u:Value}{A:Around}{E:Value->Shared->Prop}
end
def Gk(i:Expr):Prop:=∀ov iv,subscripted i false ov iv=operate [ov,iv] (getItem ov iv)
theorem O7{prog:Program}{w:World}{A:Around}{E:Value->Shared->Prop}{s:Shared}{env:Env}{value slice:Expr}{pos:Pos}{T id:String}{Q:Value->Shared->Prop}
  (hl:typeLookup (.type T) "__getitem__"=pure (some (.builtin id))) (hs:Gk slice)
  (h:wpAny (model prog w) A (eval value env) (λo s₁=>wpAny (model prog w) A (eval slice env) (λi s₂=>s₂.TypeIs o T/\wpAny (model prog w) A (getItem o i) Q E s₂) E s₁) E s) :
  wpAny (model prog w) A (eval (.Subscript value slice pos) env) Q E s:=by
 refine Subscript_ (xQ h (λo s₁ h₁=>xQ h₁ (λi s₂ h₂=>?_) λ_ _ x=>x) λ_ _ x=>x);obtain⟨hT,h₂⟩:=h₂;unfold subscriptTail;refine zZ ?_;rw[getitemInPython_of_ne hT.not_modules];refine zZ (wpAny_specialOf hT hl ?_);have bC:wpAny (model prog w) A (subscripted slice false o i) (λr s₃=>wpAny (model prog w) A (letTemporaryGo value o r >>=λ_=>pure r) Q E s₃) E s₂:=by
  rw[hs o i];exact wpAny_operating (xQ h₂ (λr s₃ h₃=>zZ (wpAny_letTemporaryGo (zW h₃))) λ_ _ x=>x)
 first
  |exact zW (zZ bC)
  |exact zZ (zW (zZ bC))
  |exact zZ bC
theorem Z1{X:Cx}{pins:List (Addr×Obj)}{σ:St}{H:Hp}{s:Shared}{a:Addr}{y:V}{o:Option V}(I:Inv X pins σ H s)(g:Jl H a y o):s.TypeIs (.ref a) "dict":=by
 rcases g with⟨kvs,k,e,_,_⟩|⟨kvs,k,b,e,_,_,_⟩
 ·obtain⟨_,_,vs,_,dd⟩:=P4 I.hok e;exact dd.typeIs
 ·obtain⟨_,_,xs,_,dd⟩:=P5 I.hok e;exact dd.typeIs
section
variable {X:Cx}{o i e value:Expr}{pos nC tpos:Pos}{td ty tv:TE}
end
theorem P0{P:Program}{w:World}{H:Hp}(h:Heap)(hb:sysModules<h.objs.size):ObjOk P w H (h.push { cls:=.type "dict",data:=.dict #[] }) h.objs.size (.dK []) :=
 ⟨yQ _,vY.mpr (wU (zG hb)),[],.nil,Heap.DictOf.new h⟩
def L7:TE:=λ_ H Q=>∀p,H p=none->Q (.ref p) (upd H p (.dK []))
section
variable {X:Cx}{pos:Pos}
theorem Ru:PE X (.Dict [] [] pos) L7:=λpins s σ H Q I h =>
 wpAny_Dict_empty ⟨.ref s.heap.objs.size,_,I.laid (a:=s.heap.objs.size) (o:=.dK []) (t':=s.toks) (λ_ _ q=>zX _ q) (zU _) (P0 s.heap I.big),rfl,h _ (I.hok.fresh (zU _))⟩
end
structure M1(X:Cx)(o:Expr)(m:Str)(apos:Pos)(e:Expr)(cpos:Pos):Prop where
 base:attributeBase o m X.env (eval o X.env)=eval o X.env
 few:((backTo cpos (starEach [e] X.env)).all (λx=>!x.1)&&(backToKw cpos (keywordEach [] X.env)).all (λx=>x.1.isSome)
 &&decide (([e]:List Expr).length+([]:List Keyword).length+(if([]:List Keyword).isEmpty then 0 else 1)<30))=true
 line:(apos.endLine==cpos.line)=true
 trees:backTo cpos (starEach [e] X.env)=[(false,eval e X.env)]
structure M2(X:Cx)(o:Expr)(m:Str)(apos:Pos)(e f:Expr)(cpos:Pos):Prop where
 base:attributeBase o m X.env (eval o X.env)=eval o X.env
 few:((backTo cpos (starEach [e,f] X.env)).all (λx=>!x.1)&&(backToKw cpos (keywordEach [] X.env)).all (λx=>x.1.isSome)
 &&decide (([e,f]:List Expr).length+([]:List Keyword).length+(if([]:List Keyword).isEmpty then 0 else 1)<30))=true
 line:(apos.endLine==cpos.line)=true
 trees:backTo cpos (starEach [e,f] X.env)=[(false,eval e X.env),(false,eval f X.env)]
section
variable {X:Cx}{pins:List (Addr×Obj)}{σ:St}{H:Hp}{s:Shared}{a:Addr}{y d:V}{u r:Value}{o:Option V}{A:Around}{E:Value->Shared->Prop}
end
section
variable {X:Cx}{o e f:Expr}{apos cpos:Pos}{td ty tx:TE}
end
section
variable {X:Cx}{pins:List (Addr×Obj)}{σ:St}{H:Hp}{s:Shared}{a:Addr}{kvs:List (Key×V)}{A:Around}{E:Value->Shared->Prop}
end
section
variable {X:Cx}{pins:List (Addr×Obj)}{σ:St}{H:Hp}{s:Shared}{a:Addr}{y:V}{u:Value}{A:Around}{E:Value->Shared->Prop}
end
end L2
namespace L2
open PySem PySem.Spec PyProof.Rows
section
variable {X:Cx}
end
section
variable {κ:Type} [DecidableEq κ]
end
end L2
set_option maxHeartbeats 4000000
namespace My
open PySem PySem.Spec L2
open PyProof.Rows hiding St
theorem Ft{CX:CXT}{P:Program}{w:World}{K:W.Frag}{mg:Str->Option Value}{base:Heap}{N:List Str}{qual:Str}{scope:Scope}{f:Addr}{cd:Value}{A:Around}{outer:List Env}{s:Shared}{H:Hp}{E:XK}:(pb CX P w K mg base N qual scope f cd A outer s H E).K=K:=rfl
section
variable {X:Cx}
theorem Rv{e:Expr}{t t':TE}(h:PE X e t)(i:∀σ H Q,t' σ H Q->t σ H Q):PE X e t':=λpins s σ H Q I q=>h pins s σ H Q I (i σ H Q q)
theorem Lb{e:Stmt}{t t':TS}(h:PS X e t)(i:∀D σ H,t' D σ H->t D σ H):PS X e t':=λpins s σ H D I q=>h pins s σ H D I (i D σ H q)
theorem vd{f:Value->Value->Sem Value}{r r':R2}(h:OpR X f r)(i:∀x y H Q,r' x y H Q->r x y H Q):OpR X f r':=λpins s σ H x y v u Q I rx ry q=>h pins s σ H x y v u Q I rx ry (i x y H Q q)
theorem Jx{r r':R2}(h:IxR X r)(i:∀x y H Q,r' x y H Q->r x y H Q):IxR X r':=λvalue slice pins s σ H x y v u Q I rx ry q hs=>h value slice pins s σ H x y v u Q I rx ry (i x y H Q q) hs
theorem L0{r r':V->Option Int->Option Int->Hp->VK->Prop}(h:SlR X r)(i:∀x lo hi H Q,r' x lo hi H Q->r x lo hi H Q):SlR X r':=λpins s σ H x v vl vu lo hi sl Q I rx hs pl pu q=>h pins s σ H x v vl vu lo hi sl Q I rx hs pl pu (i x lo hi H Q q)
end
def New(H:Hp)(o:HO)(Q:VK):Prop:=∀(p:Addr)(H':Hp),H p=none->Same H H'->H' p=some o->Q (.ref p) H'
theorem zu{H H1:Hp}{p:Addr}(h:Same H H1)(n:H p=none)(o:HO):Same H (upd H1 p o):=λb u q=>by
 rw[zk (wf q n)];exact h b u q
theorem w8{H:Hp}{p:Addr}(n:H p=none)(o:HO):Same H (upd H p o):=zu (Same.refl H) n o
theorem New.at{H:Hp}{o:HO}{Q:VK}(h:New H o Q):∀p,H p=none->Q (.ref p) (upd H p o):=λp n=>h p _ n (w8 n o) zx
def Tups(H H':Hp):Prop:=(∀b xs,H b=some (.tup xs)->H' b=some (.tup xs))/\∀b o u,H b=some (.frz o u)->H' b=some (.frz o u)
theorem Tups.trans{H H1 H2:Hp}(a:Tups H H1)(b:Tups H1 H2):Tups H H2:=⟨λc xs h=>b.1 c xs (a.1 c xs h),λc o u h=>b.2 c o u (a.2 c o u h)⟩
theorem z7{H H':Hp}(a:Same H H'):Tups H H':=⟨λb xs h=>a b _ h,λb o u h=>a b _ h⟩
theorem cj{H:Hp}{p:Addr}{o:HO}(n:(∀xs,H p≠some (.tup xs))/\∀ob u,H p≠some (.frz ob u)):Tups H (upd H p o) :=
 ⟨λb xs h=>by rw[zk (by rintro rfl;exact n.1 xs h)];exact h,λb ob u h=>by rw[zk (by rintro rfl;exact n.2 ob u h)];exact h⟩
theorem xq{H:Hp}{p:Addr}{xs:List V}{o:HO}(h:H p=some (.lst xs)):Tups H (upd H p o):=cj ⟨λys z=>(by rw[h]at z;cases z),λob u z=>(by rw[h]at z;cases z)⟩
theorem nw{H:Hp}{p:Addr}{kvs:List (Key×V)}{o:HO}(h:H p=some (.dK kvs)):Tups H (upd H p o):=cj ⟨λys z=>(by rw[h]at z;cases z),λob u z=>(by rw[h]at z;cases z)⟩
theorem Tups.sqT{K:W.Frag}{H H':Hp}{a:Addr}{xs:List V}(t:Tups H H')(h:SqT K H a xs):SqT K H' a xs:=by
 rcases h with(h|⟨o,h⟩)|h
 ·exact .inl (.inl (t.1 _ _ h))
 ·exact .inl (.inr ⟨o,t.2 _ _ _ h⟩)
 ·exact .inr h
mutual
def Has(K:W.Frag)(H:Hp):V->PyData->Prop
 |v,.none=>v = .non
 |v,.bool b=>v = .bl b
 |v,.int i=>v = .int i
 |v,.str x=>v = .str x
 |v,.tuple ds=>∃a xs,v = .ref a/\SqT K H a xs/\HasL K H xs ds
 |v,.list ds=>∃a xs,v = .ref a/\SqL K H a xs/\HasL K H xs ds
 |_,.dict _=>False
def HasL(K:W.Frag)(H:Hp):List V->List PyData->Prop
 |xs,[]=>xs=[]
 |xs,d::ds=>∃y ys,xs=y::ys/\Has K H y d/\HasL K H ys ds
end
def gv:St->Nat->Option V
 |[],_=>none
 |x::_,0=>x
 |_::r,n+1=>gv r n
def sv:St->Nat->V->St
 |[],_,_=>[]
 |_::r,0,v=>some v::r
 |x::r,n+1,v=>x::sv r n v
theorem dc:∀{σ:St}{i:Nat}{v:V},gv σ i=some v->σ[i]?=some (some v)
 |[],_,_,h=>by simp[gv]at h
 |x::_,0,v,h=>by have h':x=some v:=h;simp[h']
 |_::r,n+1,v,h=>by
  have:=dc (σ:=r) (i:=n) (v:=v) h;simpa using this
theorem Zh:∀(σ:St)(i:Nat)(v:V),σ.set i (some v)=sv σ i v
 |[],_,_=>rfl
 |_::_,0,_=>rfl
 |x::r,n+1,v=>by
  show x::r.set n (some v)=x::sv r n v;rw[Zh r n v]
section
variable {X:Cx}
def mV(i:Nat):TE:=fun σ H Q=>match gv σ i with
 |some v=>Q v H
 |none=>False
theorem z8(i:Nat){x:Str}{pos:Pos}(hN:X.N[i]?=some x:=by rfl)(hv:Vis X.env.scope x:=by first|exact Or.inl rfl|exact Or.inr (Or.inl rfl)|exact Or.inr (Or.inr rfl))(hd:(x==("__debug__":Str))=false:=by decide)
  (lY:(x==("__classdict__":Str))=false:=by decide):PE X (.Name x pos) (mV i):=Rv (K7 hN hv hd lY) fun σ H Q q=>by
 unfold mV at q;split at q
 ·rename_i v e;exact⟨v,dc e,q⟩
 ·exact q.elim
def G4(i:Nat)(te:TE):TS:=λD σ H=>te σ H λx H1=>D.nx (sv σ i x) H1
theorem zo(i:Nat){x:Str}{e:Expr}{te:TE}{pos nC:Pos}(hN:X.N.Nodup)(he:PE X e te)(hi:X.N[i]?=some x:=by rfl)(hx:Loc X.env.scope x:=by first|exact Or.inl rfl|exact Or.inr rfl)
  (hs:swapsWith e (some (.Name x nC)) pos.line X.env=pure false:=by rfl) (hf:X.fn x=true\/X.env.scope.names.lookup x=some .local:=by first|exact .inl rfl|exact .inr rfl):PS X (.Assign [.Name x nC] e pos) (G4 i te) :=
 Lb (Lc (i:=i) hN hi hx he hs hf) λD σ H q=>by
  refine(?_:Vs te (f9 i) D σ H);have e:(λx H1=>D.nx (sv σ i x) H1)=λx H1=>f9 i x σ H1 D.nx:=by
   funext x H1
   show D.nx (sv σ i x) H1=D.nx (σ.set i (some x)) H1;rw[Zh]
  show te σ H λx H1=>f9 i x σ H1 D.nx;rw[<-e];exact q
def mG(i:Nat):TG:=λv σ H Q=>Q (sv σ i v) H
theorem wg(i:Nat){x:Str}{pos:Pos}(hN:X.N.Nodup)(hi:X.N[i]?=some x:=by rfl)(hx:Loc X.env.scope x:=by first|exact Or.inl rfl|exact Or.inr rfl)
  (hf:X.fn x=true\/X.env.scope.names.lookup x=some .local:=by first|exact .inl rfl|exact .inr rfl):PG X (.Name x pos) (mG i):=by
 have h:=On (pos:=pos) (X:=X) hN hi hx hf;have e:mG i=f9 i:=by
  funext v σ H Q
  show Q (sv σ i v) H=Q (σ.set i (some v)) H;rw[Zh]
 rw[e];exact h
def Rp(k:Bool->Hp->Prop):V->Hp->Prop:=λx H=>match x with
 | .bl c=>k c H
 |_=>False
theorem Oc{k:Bool->Hp->Prop}{c:Bool}{H:Hp}:Rp k (.bl c) H=k c H:=rfl
def g9(k:Int->Hp->Prop):V->Hp->Prop:=λx H=>match x with
 | .int c=>k c H
 |_=>False
theorem Rq{k:Int->Hp->Prop}{c:Int}{H:Hp}:g9 k (.int c) H=k c H:=rfl
def ia(k:Addr->Hp->Prop):V->Hp->Prop:=λx H=>match x with
 | .ref c=>k c H
 |_=>False
theorem Rr{k:Addr->Hp->Prop}{c:Addr}{H:Hp}:ia k (.ref c) H=k c H:=rfl
def on1(k:V->Hp->Prop):List V->Hp->Prop:=λx H=>match x with
 |[c]=>k c H
 |_=>False
theorem Ku{k:V->Hp->Prop}{c:V}{H:Hp}:on1 k [c] H=k c H:=rfl
def Nq(K:W.Frag):R2:=λx y H Q=>match x,y with
 | .int i,.int j=>Q (.int (i+j)) H
 | .str a,.str b=>a.length+b.length<=sizeLine/\Q (.str (a++b)) H
 | .ref a,.ref b=>(∃xs ys,H a=some (.lst xs)/\H b=some (.lst ys)/\xs.length+ys.length<=sizeLine/\New H (.lst (xs++ys)) Q) \/
   ∃xs ys,SqT K H a xs/\SqT K H b ys/\xs.length+ys.length<=sizeLine/\∀(p:Addr)(H':Hp),Same H H'->SqT K H' p (xs++ys)->Q (.ref p) H'
 |_,_=>False
theorem Px{prog:Program}{w:World}{A:Around}{E:Value->Shared->Prop}{s:Shared}{t b:Addr}{ws:List Value}{Q:Value->Shared->Prop}(ht:IsTup s.heap t #[])(hb:IsTup s.heap b ws.toArray)(h:Q (.ref b) s):
  wpAny (model prog w) A (binaryOp .Add (.ref t) (.ref b)) Q E s:=by
 obtain⟨⟨cls,dd,data,sl⟩,ho,hc,n,hd⟩:=id ht;obtain⟨⟨cls2,qK,data2,DE⟩,Bl,dD,n2,Dj⟩:=id hb;simp only at hc hd dD Dj;subst hc hd dD Dj;exact concat_meets ⟨_,ho,rfl⟩ ⟨_,Bl,rfl⟩ noFill_tuple_add seq_tuple_add sX sZ (tQ _ _)
   (tuple_addW0 t b #[] ws.toArray n n2 dd qK sl DE (by simp)) ⟨ho,Bl,h⟩
theorem Rs:OpR X (binaryOp .Add) (λx y H Q=>∃a b xs ys,x = .ref a/\y = .ref b/\SqT X.K H a xs/\SqT X.K H b ys/\xs.length+ys.length<=sizeLine/\∀(p:Addr)(H':Hp),Same H H'->SqT X.K H' p (xs++ys)->Q (.ref p) H'):=by
 intro pins s σ H x y v u Q I rx ry h;obtain⟨a,b,xs,ys,rfl,rfl,ha,hb,hz,q⟩:=h
 by_cases e:xs=[]
 ·subst e;cases rx;cases ry;obtain⟨aE,r1,p1,_⟩:=I.tuple ha;obtain⟨jM,r2,p2,_⟩:=I.tuple hb;cases r1;exact Px p1 p2 ⟨.ref b,H,I,rfl,q b H (Same.refl H) hb⟩
 ·refine Oe pins s σ H _ _ v u Q I rx ry ⟨a,b,xs,ys,rfl,rfl,ha,hb,e,hz,λz=>?_,λ_ p n=>?_⟩
  ·subst z;exact q a H (Same.refl H) (by rw[List.append_nil];exact ha)
  ·exact q p _ (w8 n _) (SqT.of zx)
theorem zg:OpR X (binaryOp .Add) (Nq X.K):=by
 intro pins s σ H x y v u Q I rx ry h;cases x with
 |int i=>cases y with
  |int j=>exact Kz pins s σ H _ _ v u Q I rx ry ⟨i,j,rfl,rfl,h⟩
  |_=>exact(show False from h).elim
 |str i=>cases y with
  |str j=>exact Yu pins s σ H _ _ v u Q I rx ry ⟨i,j,rfl,rfl,h.1,h.2⟩
  |_=>exact(show False from h).elim
 |ref a=>cases y with
  |ref b =>
   have h':(∃xs ys,H a=some (.lst xs)/\H b=some (.lst ys)/\xs.length+ys.length<=sizeLine/\New H (.lst (xs++ys)) Q) \/
    ∃xs ys,SqT X.K H a xs/\SqT X.K H b ys/\xs.length+ys.length<=sizeLine/\∀(p:Addr)(H':Hp),Same H H'->SqT X.K H' p (xs++ys)->Q (.ref p) H':=h
   rcases h' with⟨xs,ys,ha,hb,hz,q⟩|⟨xs,ys,ha,hb,hz,q⟩
   ·exact K0 pins s σ H _ _ v u Q I rx ry ⟨a,b,xs,ys,rfl,rfl,ha,hb,hz,q.at⟩
   ·exact Rs pins s σ H _ _ v u Q I rx ry ⟨a,b,xs,ys,rfl,rfl,ha,hb,hz,q⟩
  |_=>exact(show False from h).elim
 |_=>exact(show False from by cases y<;>exact h).elim
def mII(C:Int->Int->Prop)(g:Int->Int->V):R2:=λx y H Q=>match x,y with
 | .int i,.int j=>C i j/\Q (g i j) H
 |_,_=>False
def Qu(g:Int->Int->V):R2:=λx y H Q=>match x,y with
 | .int i,.int j=>Q (g i j) H
 |_,_=>False
theorem dj{C:Int->Int->Prop}{g:Int->Int->V}(x y:V)(H:Hp)(Q:VK)(h:mII C g x y H Q):rI C g x y H Q:=by
 cases x with
 |int i=>cases y with
  |int j=>exact⟨i,j,rfl,rfl,h.1,h.2⟩
  |_=>exact(show False from h).elim
 |_=>exact(show False from by cases y<;>exact h).elim
theorem di{g:Int->Int->V}(x y:V)(H:Hp)(Q:VK)(h:Qu g x y H Q):rI0 g x y H Q:=by
 cases x with
 |int i=>cases y with
  |int j=>exact⟨i,j,rfl,rfl,h⟩
  |_=>exact(show False from h).elim
 |_=>exact(show False from by cases y<;>exact h).elim
theorem lf:OpR X (binaryOp .Sub) (Qu λi j=>.int (i-j)):=vd K5 di
theorem wj:OpR X (binaryOp .Mult) (mII CMul λi j=>.int (i*j)):=vd K3 dj
theorem uh:OpR X (binaryOp .Mod) (mII (λ_ j=>0<j) λi j=>.int (i % j)):=vd K2 dj
theorem Yb:OpR X (binaryOp .FloorDiv) (mII Gi λi j=>.int (i / j)):=vd Of dj
theorem Hf:OpR X (compareOp .Lt) (Qu λi j=>.bl (decide (i<j))):=vd Hu di
theorem Q2:OpR X (compareOp .Gt) (Qu λi j=>.bl (decide (j<i))):=vd Hs di
def mEq(g:Bool->Bool):R2:=λx y H Q=>match x,y with
 | .int i,.int j=>Q (.bl (g (decide (i=j)))) H
 | .bl i,.bl j=>Q (.bl (g (decide (i=j)))) H
 | .str i,.str j=>Q (.bl (g (decide (i=j)))) H
 | .non,.non=>Q (.bl (g true)) H
 | .non,.bl _=>Q (.bl (g false)) H
 | .bl _,.non=>Q (.bl (g false)) H
 | .non,.int _=>Q (.bl (g false)) H
 | .int _,.non=>Q (.bl (g false)) H
 |_,_=>False
theorem Go(i j:Int):decide (V.int i=V.int j)=decide (i=j):=by simp
theorem Fu(i j:Bool):decide (V.bl i=V.bl j)=decide (i=j):=by simp
theorem Gp(i j:Str):decide (V.str i=V.str j)=decide (i=j):=by simp
theorem Mi{g:Bool->Bool}{x y:V}{H:Hp}{Q:VK}(h:mEq g x y H Q):Lz x y=true/\Q (.bl (g (decide (x=y)))) H:=by
 cases x with
 |int i=>cases y with
  |int j=>exact⟨rfl,by rw[Go];exact h⟩
  |non=>exact⟨rfl,by rw[yL (by intro z;cases z)];exact h⟩
  |_=>exact(show False from h).elim
 |bl i=>cases y with
  |bl j=>exact⟨rfl,by rw[Fu];exact h⟩
  |non=>exact⟨rfl,by rw[yL (by intro z;cases z)];exact h⟩
  |_=>exact(show False from h).elim
 |str i=>cases y with
  |str j=>exact⟨rfl,by rw[Gp];exact h⟩
  |_=>exact(show False from h).elim
 |non=>cases y with
  |non=>exact⟨rfl,by rw[zA rfl];exact h⟩
  |bl j=>exact⟨rfl,by rw[yL (by intro z;cases z)];exact h⟩
  |int j=>exact⟨rfl,by rw[yL (by intro z;cases z)];exact h⟩
  |_=>exact(show False from h).elim
 |_=>exact(show False from by cases y<;>exact h).elim
mutual
theorem u3{pins:List (Addr×Obj)}{σ:St}{H:Hp}{s:Shared}(I:Inv X pins σ H s):∀(d:PyData)(v:V)(u:Value),Has X.K H v d->RelV v u->∃as,Reads s.heap u d as
 | .none,v,u,h,r=>by
  have h':v = .non:=by simpa[Has]using h
  subst h';cases r;exact⟨_,.none⟩
 | .bool b,v,u,h,r=>by
  have h':v = .bl b:=by simpa[Has]using h
  subst h';cases r;exact⟨_,.bool b⟩
 | .int i,v,u,h,r=>by
  have h':v = .int i:=by simpa[Has]using h
  subst h';obtain⟨t,rfl⟩:=r;exact⟨_,.int i t⟩
 | .str x,v,u,h,r=>by
  have h':v = .str x:=by simpa[Has]using h
  subst h';obtain⟨t,rfl⟩:=r;exact⟨_,.str x t⟩
 | .tuple ds,v,u,h,r=>by
  have h':∃a xs,v = .ref a/\SqT X.K H a xs/\HasL X.K H xs ds:=by simpa[Has]using h
  obtain⟨a,xs,rfl,hq,hl⟩:=h';cases r;obtain⟨aE,rv,⟨o,e,c,n,dd⟩,_⟩:=I.tuple hq;obtain⟨as,ra⟩:=hasL_reads I ds xs aE hl rv;exact⟨_,.tuple e c dd ra⟩
 | .list ds,v,u,h,r=>by
  have h':∃a xs,v = .ref a/\SqL X.K H a xs/\HasL X.K H xs ds:=by simpa[Has]using h
  obtain⟨a,xs,rfl,hq,hl⟩:=h';cases r;obtain⟨aE,rv,pl,_⟩:=I.list hq;obtain⟨o,e,c,n,dd⟩:=pl.isList;obtain⟨as,ra⟩:=hasL_reads I ds xs aE hl rv;exact⟨_,.list e c dd ra⟩
 | .dict _,v,u,h,r=>by
  have h':False:=by simpa[Has]using h
  exact h'.elim
theorem hasL_reads{pins:List (Addr×Obj)}{σ:St}{H:Hp}{s:Shared}(I:Inv X pins σ H s):∀(ds:List PyData)(xs:List V)(us:List Value),HasL X.K H xs ds->Vals xs us->∃as,ReadsAll s.heap us ds as
 |[],xs,us,h,r=>by
  have h':xs=[]:=by simpa[HasL]using h
  subst h';cases r;exact⟨_,.nil⟩
 |d::ds,xs,us,h,r=>by
  have h':∃y ys,xs=y::ys/\Has X.K H y d/\HasL X.K H ys ds:=by simpa[HasL]using h
  obtain⟨y,ys,rfl,h1,h2⟩:=h';cases r with
  |cons r1 r2 =>
   obtain⟨as,ra⟩:=u3 I d y _ h1 r1;obtain⟨bs,rb⟩:=hasL_reads I ds ys _ h2 r2;exact⟨_,.cons ra rb⟩
end
def k8(K:W.Frag)(g:Bool->Bool):R2:=λx y H Q=>match x,y with
 | .ref a,.ref b=>∃da db,Has K H (.ref a) da/\Has K H (.ref b) db/\SeqAt.shaped da=true/\SeqAt.shaped db=true/\Q (.bl (g (PyData.eqv da db))) H
 |x,y=>mEq g x y H Q
theorem wn(hu:X.A.units+64<cLine):OpR X (compareOp .Eq) (k8 X.K id):=by
 intro pins s σ H x y v u Q I rx ry h;have sc:mEq id x y H Q->wpAny (model X.prog X.w) X.A (compareOp .Eq v u) (EP X pins σ Q) X.xe s:=λh=>Hr pins s σ H x y v u Q I rx ry (Mi h);cases x with
 |ref a=>cases y with
  |ref b =>
   obtain⟨da,db,h1,h2,s1,s2,q⟩:=(show∃da db,Has X.K H (.ref a) da/\Has X.K H (.ref b) db/\SeqAt.shaped da=true/\SeqAt.shaped db=true/\Q (.bl (PyData.eqv da db)) H from h)
   obtain⟨as,ra⟩:=u3 I da _ _ h1 rx;obtain⟨bs,rb⟩:=u3 I db _ _ h2 ry;exact eq_dataH ra rb s1 s2 hu ⟨.bl _,H,I,rfl,q⟩
  |_=>exact sc h
 |_=>exact sc (by cases y<;>exact h)
theorem rc(hu:X.A.units+64<cLine):OpR X (compareOp .NotEq) (k8 X.K not):=by
 intro pins s σ H x y v u Q I rx ry h;have sc:mEq not x y H Q->wpAny (model X.prog X.w) X.A (compareOp .NotEq v u) (EP X pins σ Q) X.xe s:=λh=>Hv pins s σ H x y v u Q I rx ry (Mi h);cases x with
 |ref a=>cases y with
  |ref b =>
   obtain⟨da,db,h1,h2,s1,s2,q⟩:=(show∃da db,Has X.K H (.ref a) da/\Has X.K H (.ref b) db/\SeqAt.shaped da=true/\SeqAt.shaped db=true/\Q (.bl (!PyData.eqv da db)) H from h)
   obtain⟨as,ra⟩:=u3 I da _ _ h1 rx;obtain⟨bs,rb⟩:=u3 I db _ _ h2 ry;exact ne_dataH ra rb s1 s2 hu ⟨.bl _,H,I,rfl,q⟩
  |_=>exact sc h
 |_=>exact sc (by cases y<;>exact h)
def mLe:R2:=λx y H Q=>match x,y with
 | .int i,.int j=>Q (.bl (decide (i<=j))) H
 | .bl i,.bl j=>Q (.bl (!i||j)) H
 |_,_=>False
theorem F2:OpR X (compareOp .LtE) mLe:=by
 intro pins s σ H x y v u Q I rx ry h
 match x,y,h with
 | .int i,.int j,h=>exact Ht pins s σ H _ _ v u Q I rx ry ⟨i,j,rfl,rfl,h⟩
 | .bl i,.bl j,h =>
  cases rx;cases ry;exact le_bool ⟨.bl (!i||j),H,I,by cases i<;>cases j<;>rfl,h⟩
def mIn(K:W.Frag)(neg:Bool):R2:=λx y H Q=>match y with
 | .ref p=>∃xs,(SqL K H p xs\/SqT K H p xs)/\v6 x=true/\xs.all v6=true/\Q (.bl (if neg then !inV x xs else inV x xs)) H
 |_=>False
theorem Mj{K:W.Frag}{neg:Bool}(x y:V)(H:Hp)(Q:VK)(h:mIn K neg x y H Q):rIn K neg x y H Q:=by
 cases y with
 |ref p =>
  obtain⟨xs,q⟩:=(show∃xs,(SqL K H p xs\/SqT K H p xs)/\v6 x=true/\xs.all v6=true/\Q (.bl (if neg then !inV x xs else inV x xs)) H from h)
  exact⟨p,xs,rfl,q⟩
 |_=>exact(show False from h).elim
theorem Hb:OpR X (compareOp .In) (mIn X.K false):=vd Vh Mj
theorem Nu:OpR X (compareOp .NotIn) (mIn X.K true):=vd dz Mj
def mIx(K:W.Frag):R2:=λx y H Q=>match x,y with
 | .str z,.int i=>z.length<=sizeLine/\∃c,atI z.cps.toList i=some c/\Q (.str ⟨#[c]⟩) H
 | .ref p,.int i=>∃xs v,(SqL K H p xs\/SqT K H p xs)/\atI xs i=some v/\Q v H
 |_,_=>False
theorem He:IxR X (mIx X.K):=Jx Jy λx y H Q h=>by
 cases x with
 |str z=>cases y with
  |int i=>exact .inr (.inr ⟨z,i,h.2.choose,rfl,rfl,h.1,h.2.choose_spec.1,h.2.choose_spec.2⟩)
  |_=>exact(show False from h).elim
 |ref p=>cases y with
  |int i =>
   obtain⟨xs,v,hs,e,q⟩:=(show∃xs v,(SqL X.K H p xs\/SqT X.K H p xs)/\atI xs i=some v/\Q v H from h)
   rcases hs with hs|hs
   ·exact .inl ⟨p,xs,i,v,rfl,rfl,hs,e,q⟩
   ·exact .inr (.inl ⟨p,xs,i,v,rfl,rfl,hs,e,q⟩)
  |_=>exact(show False from h).elim
 |_=>exact(show False from by cases y<;>exact h).elim
theorem zb{a b:Expr}{ta tb:TE}{pos:Pos}(ha:PE X a ta)(hb:PE X b tb)(hs:Vx b):PE X (.Subscript a b pos) (tOp (mIx X.K) ta tb):=Hw He ha hb hs
theorem qh{prog:Program}{w:World}{A:Around}{E:Value->Shared->Prop}{s:Shared}{t sl:Addr}{items:Array Value}{vl vu:Value}{lo hi:Option Int}{Q:Value->Shared->Prop}(ht:IsTup s.heap t items)(hs:s.heap.IsSliceOf sl vl vu .none)(pl:IsPart vl lo)(pu:IsPart vu hi)
  (hw:HT.sIx items.size 0 lo=0/\HT.sIx items.size items.size hi=items.size) (h:Q (.ref t) s):wpAny (model prog w) A (getItem (.ref t) (.ref sl)) Q E s:=by
 obtain⟨os,CT,AT,Br⟩:=id hs;have hTs:s.TypeIs (.ref sl) "slice":=⟨os,CT,AT⟩
 unfold getItem
 try with_reducible refine xX ?_
 first|refine zZ (zW ?_)|skip
 refine zZ (wpAny_sequenceKey ht.typeIs (by decide) ?_);refine zZ (xO (name:=Str.ofString "__getitem__") ht.typeIs xH
  (xZ xH ht.typeIs entry_tuple_getitem ?_ (args_tuple_getitem _ _)))
 show wpAny _ _ (Builtin.Tuple.tupleItemsOf (.ref t) >>= _) _ _ s;refine zZ (tupleItemsOf_ ht ?_);refine zZ (uW hTs ?_);rw[yT (by decide)];refine zZ (HT.sliceApplied_gen hs pl pu ?_);have CC:(((HT.sIx items.size 0 lo:Nat):Int)==0&&(1:Int)==1&&(HT.sIx items.size items.size hi-HT.sIx items.size 0 lo)==items.size)=true:=by
  rw[hw.1,hw.2];simp
 show wpAny _ _ (if(((HT.sIx items.size 0 lo:Nat):Int)==0&&(1:Int)==1&&(HT.sIx items.size items.size hi-HT.sIx items.size 0 lo)==items.size)=true then _ else _) _ _ s;rw[yT CC];have hex:∀{A':Around}{Q':Bool->Shared->Prop}{E':Value->Shared->Prop},Q' true s->wpAny (model prog w) A' (Builtin.Tuple.tupleIsExact (.ref t)) Q' E' s:=λq=>by
  unfold Builtin.Tuple.tupleIsExact;exact zZ (uW ht.typeIs (zW q))
 refine zZ (hex ?_);rw[yT rfl];exact zZ (uS (zW ⟨_,rfl,zW h⟩))
theorem sl_tupA:SlR X (λx lo hi H Q=>∃a xs,x = .ref a/\SqT X.K H a xs/\∀(p:Addr)(H':Hp),Same H H'->SqT X.K H' p (vn xs lo hi)->Q (.ref p) H'):=by
 intro pins s σ H x v vl vu lo hi sl Q I rx hs pl pu h;obtain⟨a,xs,rfl,hx,q⟩:=h
 by_cases hw:HT.sIx xs.length 0 lo=0/\HT.sIx xs.length xs.length hi=xs.length
 ·cases rx;obtain⟨aE,r,ht,hz⟩:=I.tuple hx;have aL:aE.toArray.size=xs.length:=by rw[zO];exact r.length.symm
  refine⟨"tuple",_,xH.lookup,ht.typeIs,?_⟩;refine qh ht hs pl pu (by rw[aL];exact hw) ⟨.ref a,H,I,rfl,q a H (Same.refl H) ?_⟩;have e:vn xs lo hi=xs:=by
   unfold vn;rw[hw.1,hw.2];simp
  rw[e];exact hx
 ·exact L3 pins s σ H _ v vl vu lo hi sl Q I rx hs pl pu ⟨a,xs,rfl,hx,hw,λp n=>q p _ (w8 n _) (SqT.of zx)⟩
theorem Wy{v:Value}{o:Option Int}(p:IsPart v o):∃l:Option (Int×Tok),v=partValue l/\l.map (·.1)=o:=by
 cases p with
 |none=>exact⟨none,rfl,rfl⟩
 |int i t=>exact⟨some (i,t),rfl,rfl⟩
theorem sl_strA:SlR X (λx lo hi H Q=>∃z,x = .str z/\z.length<=sizeLine/\Q (.str (Txt.slice z lo hi)) H):=by
 intro pins s σ H x v vl vu lo hi sl Q I rx hs pl pu h;obtain⟨z,rfl,hz,q⟩:=h;obtain⟨t,rfl⟩:=rx;obtain⟨l,rfl,rfl⟩:=Wy pl;obtain⟨u,rfl,rfl⟩:=Wy pu;refine⟨"str",_,F.slot_str_getitem.lookup,typeIs_str _ _ _,?_⟩;refine wpAny_getItem_str_slice (l:=l) (u:=u) (st:=none) hs rfl (post_val_or_str ⟨yS (sE z _ _) hz,λt' k=>⟨.str (Txt.slice z (l.map (·.1)) (u.map (·.1))),H,I.tok k,⟨t',rfl⟩,q⟩⟩)
def mSl(K:W.Frag):V->Option Int->Option Int->Hp->VK->Prop:=λx lo hi H Q=>match x with
 | .str z=>z.length<=sizeLine/\Q (.str (Txt.slice z lo hi)) H
 | .ref a=>(∃xs,SqL K H a xs/\New H (.lst (vn xs lo hi)) Q)\/∃xs,SqT K H a xs/\∀(p:Addr)(H':Hp),Same H H'->SqT K H' p (vn xs lo hi)->Q (.ref p) H'
 |_=>False
theorem Hk:SlR X (mSl X.K):=L0 (sl_strA.or (sl_tupA.or O2)) λx lo hi H Q h=>by
 cases x with
 |str z=>exact .inl ⟨z,rfl,h.1,h.2⟩
 |ref a =>
  have h':(∃xs,SqL X.K H a xs/\New H (.lst (vn xs lo hi)) Q)\/∃xs,SqT X.K H a xs/\∀(p:Addr)(H':Hp),Same H H'->SqT X.K H' p (vn xs lo hi)->Q (.ref p) H':=h;rcases h' with⟨xs,hx,q⟩|⟨xs,hx,q⟩
  ·exact .inr (.inr ⟨a,xs,rfl,hx,q.at⟩)
  ·exact .inr (.inl ⟨a,xs,rfl,hx,q⟩)
 |_=>exact(show False from h).elim
def Mn(t:TE):TO:=fun σ H Q=>t σ H (g9 λi H1=>Q (some i) H1)
theorem xg{e:Expr}{te:TE}(h:PE X e te):PO X (some e) (Mn te):=by
 intro pins s σ H Q I hw;rw[evalPart_some];refine thn (h pins s σ H _ I hw) λu s1 ⟨x,H1,I1,r1,q1⟩=>?_;cases x with
 |int i =>
  obtain⟨t,rfl⟩:=r1;exact⟨some i,H1,I1,.int i t,q1⟩
 |_=>exact(show False from q1).elim
theorem x9{e:Expr}{te:TE}{lo hi:Option Expr}{tl th:TO}{pos p2:Pos}(he:PE X e te)(hl:PO X lo tl)(hu:PO X hi th):PE X (.Subscript e (.Slice lo hi none p2) pos) (tSl (mSl X.K) te tl th):=Ry Hk he hl hu
def G7(t:TA):TE:=fun σ H Q=>t σ H λxs H1=>xs.length<=sizeLine/\New H1 (.tup xs) Q
def G1(t:TA):TE:=fun σ H Q=>t σ H λxs H1=>xs.length<=sizeLine/\New H1 (.lst xs) Q
theorem wu{es:List Expr}{t:TA}{pos:Pos}{x1}(h:PA X es t):PE X (.Tuple es x1 pos) (G7 t):=by
 intro pins s σ H Q I hq;refine wpAny_Tuple_spliced (thn (h pos pins s σ H _ I hq) λus s1 ⟨xs,H1,I1,r,z,q⟩=>⟨by rw[<-r.length];exact z,?_⟩);have hf:H1 s1.heap.objs.size=none:=I1.hok.fresh (zU _);refine⟨.ref s1.heap.objs.size,upd H1 s1.heap.objs.size (.tup xs),I1.laid (t':=s1.toks) (λb u e=>zX _ e) (zU _) ?_,rfl,q.at _ hf⟩;exact⟨z,us,r,⟨_,zT _ rfl,rfl,_,rfl⟩⟩
theorem xa{es:List Expr}{t:TA}{pos:Pos}(h:PA X es t):PE X (.List es pos) (G1 t):=by
 intro pins s σ H Q I hq;refine wpAny_List_spliced (thn (h pos pins s σ H _ I hq) λus s1 ⟨xs,H1,I1,r,z,q⟩=>⟨by rw[<-r.length];exact z,?_⟩);have hf:H1 s1.heap.objs.size=none:=I1.hok.fresh (zU _);refine⟨.ref s1.heap.objs.size,upd H1 s1.heap.objs.size (.lst xs),I1.laid (t':=s1.toks) (λb u e=>zX _ e) (zU _) ?_,rfl,q.at _ hf⟩;exact⟨z,us,0,r,zT _ rfl⟩
def mB(t:TE):TT:=fun σ H Q=>t σ H (Rp Q)
theorem zh{a b:Expr}{op:CmpOp}{r:R2}{ta tb:TE}{pos:Pos}(ho:OpR X (compareOp op) r)(ha:PE X a ta)(hb:PE X b tb)(hm:behindInMarks op b=false):PT X (.Compare a [op] [b] pos) (mB (tOp r ta tb)):=by
 intro pins s σ H Q I h;refine wpAny_isTrue_Compare1 (thn (ha pins s σ H _ I h) λv s1 ⟨x,H1,I1,r1,q1⟩=>thn (hb pins s1 σ H1 _ I1 q1) λu s2 ⟨y,H2,I2,r2,q2⟩ =>
  thn (ho pins s2 σ H2 x y v u _ I2 r1 r2 q2) λc s3 ⟨z,H3,I3,r3,q3⟩=>?_) hm
 cases z with
 |bl k =>
  cases r3;exact vK ⟨H3,I3,q3⟩
 |_=>exact(show False from q3).elim
theorem ye{e:Expr}{t:TE}(h:PE X e t)(he:∀qC,isTrue e X.env qC=(do let v <-qC;standAt e.pos;holding [v] (truthy v)):=by intro _;rfl):PT X e (mB t):=by
 intro pins s σ H Q I hw;refine isTrue_plain (thn (h pins s σ H _ I hw) λv s1 ⟨x,H1,I1,r1,q1⟩=>?_) (he _);cases x with
 |bl k =>
  cases r1;exact vK ⟨H1,I1,q1⟩
 |_=>exact(show False from q1).elim
def Mh(ta tb:TE):TE:=fun σ H Q=>ta σ H (Rp λc H1=>if c=true then tb σ H1 Q else Q (.bl false) H1)
def G2(ta tb:TE):TE:=fun σ H Q=>ta σ H (Rp λc H1=>if c=true then Q (.bl true) H1 else tb σ H1 Q)
def Mm(ta:TE):TE:=fun σ H Q=>ta σ H (Rp λc H1=>Q (.bl (!c)) H1)
theorem gs{a b:Expr}{rest:List Expr}{ta tb:TE}{pos:Pos}(ha:PE X a ta)(hb:PE X (.BoolOp .And (b::rest) pos) tb):PE X (.BoolOp .And (a::b::rest) pos) (Mh ta tb):=by
 intro pins s σ H Q I h;refine BoolOp_and (thn (ha pins s σ H _ I h) λv s1 ⟨x,H1,I1,r1,q1⟩=>?_);cases x with
 |bl c =>
  cases r1;refine vK ?_;cases c with
  |true=>exact hb pins s1 σ H1 Q I1 q1
  |false=>exact⟨.bl false,H1,I1,rfl,q1⟩
 |_=>exact(show False from q1).elim
theorem Hh{a b:Expr}{rest:List Expr}{ta tb:TE}{pos:Pos}(ha:PE X a ta)(hb:PE X (.BoolOp .Or (b::rest) pos) tb):PE X (.BoolOp .Or (a::b::rest) pos) (G2 ta tb):=by
 intro pins s σ H Q I h;refine BoolOp_or (thn (ha pins s σ H _ I h) λv s1 ⟨x,H1,I1,r1,q1⟩=>?_);cases x with
 |bl c =>
  cases r1;refine vK ?_;cases c with
  |false=>exact hb pins s1 σ H1 Q I1 q1
  |true=>exact⟨.bl true,H1,I1,rfl,q1⟩
 |_=>exact(show False from q1).elim
theorem gu{a:Expr}{ta:TE}{pos:Pos}(ha:PE X a ta):PE X (.UnaryOp .Not a pos) (Mm ta):=by
 intro pins s σ H Q I h;refine UnaryOp_ (thn (ha pins s σ H _ I h) λv s1 ⟨x,H1,I1,r1,q1⟩=>?_);cases x with
 |bl c =>
  cases r1;exact not_of (vK ⟨.bl (!c),H1,I1,rfl,q1⟩)
 |_=>exact(show False from q1).elim
def Kd(K:W.Frag):List V->Hp->VK->Prop:=λxs H Q=>match xs with
 |[.str z]=>z.length<=sizeLine/\Q (.int z.length) H
 |[.ref p]=>∃ys,(SqL K H p ys\/SqT K H p ys)/\Q (.int ys.length) H
 |_=>False
theorem yp:wo X (.builtin "len") (Kd X.K):=by
 intro pins s σ H xs us Q I r h
 match xs,h with
 |[.str z],h=>exact cx pins s σ H _ us Q I r ⟨z,rfl,h.1,h.2⟩
 |[.ref p],h =>
  obtain⟨ys,hs,q⟩:=(show∃ys,(SqL X.K H p ys\/SqT X.K H p ys)/\Q (.int ys.length) H from h)
  exact cw pins s σ H _ us Q I r ⟨p,ys,rfl,hs,q⟩
theorem Wx{C:Addr->Prop}{xs:List V}(h:match xs with|[.ref p]=>C p|_=>False):∃p,xs=[.ref p]/\C p:=by
 rcases xs with _|⟨x,_|⟨_,_⟩⟩
 ·exact(show False from h).elim
 ·cases x with
  |ref p=>exact⟨p,rfl,h⟩
  |_=>exact(show False from h).elim
 ·exact(show False from by cases x<;>exact h).elim
def Wp(K:W.Frag):List V->Hp->VK->Prop:=λxs H Q=>match xs with
 |[.ref p]=>∃ys,(SqL K H p ys\/SqT K H p ys)/\New H (.lst ys) Q
 |_=>False
theorem Q3:wo X (.type "list") (Wp X.K):=by
 intro pins s σ H xs us Q I r h;obtain⟨p,rfl,ys,hs,q⟩:=Wx (C:=λp=>∃ys,(SqL X.K H p ys\/SqT X.K H p ys)/\New H (.lst ys) Q) h;exact cz pins s σ H _ us Q I r ⟨p,ys,rfl,hs,q.at⟩
def Qy(K:W.Frag):List V->Hp->VK->Prop:=λxs H Q=>match xs with
 |[.ref p]=>∃ys,(SqL K H p ys\/SqT K H p ys)/\∀(r:Addr)(H':Hp),Same H H'->SqT K H' r ys->Q (.ref r) H'
 |_=>False
theorem yi:wo X (.type "tuple") (Qy X.K):=by
 intro pins s σ H xs us Q I r h;obtain⟨p,rfl,ys,hs,q⟩:=Wx (C:=λp=>∃ys,(SqL X.K H p ys\/SqT X.K H p ys)/\∀(r:Addr)(H':Hp),Same H H'->SqT X.K H' r ys->Q (.ref r) H') h;rcases hs with hs|hs
 ·exact rq pins s σ H _ us Q I r ⟨p,ys,rfl,.inl ⟨hs,λl n=>q l _ (w8 n _) (SqT.of zx)⟩⟩
 ·exact rq pins s σ H _ us Q I r ⟨p,ys,rfl,.inr ⟨hs,q p H (Same.refl H) hs⟩⟩
inductive TyX (K:W.Frag) (H:Hp):V->Value->Prop where
 |of {x:V}{t:Value} (h:TyOf K H x t):TyX K H x t
 |tup {a:Addr}{xs:List V} (h:SqT K H a xs):TyX K H (.ref a) (.type "tuple")
 |lst {a:Addr}{xs:List V} (h:SqL K H a xs):TyX K H (.ref a) (.type "list")
def Gz(K:W.Frag):List V->Hp->VK->Prop:=λxs H Q=>match xs with
 |[x,.ty c]=>∃t b,TyX K H x t/\W.kitOne K t (.type c)=some b/\Q (.bl b) H
 |_=>False
theorem Jp{C:V->String->Prop}{xs:List V}(h:match xs with|[x,.ty c]=>C x c|_=>False):∃x c,xs=[x,.ty c]/\C x c:=by
 rcases xs with _|⟨x,_|⟨y,_|⟨_,_⟩⟩⟩
 ·exact(show False from h).elim
 ·exact(show False from h).elim
 ·cases y with
  |ty c=>exact⟨x,c,rfl,h⟩
  |_=>exact(show False from h).elim
 ·exact(show False from by cases y<;>exact h).elim
theorem v9:wo X (.builtin "isinstance") (Gz X.K):=by
 intro pins s σ H xs us Q I r h;obtain⟨x,c,rfl,t,b,ty,e,q⟩:=Jp (C:=λx c=>∃t b,TyX X.K H x t/\W.kitOne X.K t (.type c)=some b/\Q (.bl b) H) h;obtain⟨u,w',rfl,r1,r2⟩:=m3 r;cases r2;cases ty with
 |of ty=>exact gg I r1 ty e λtk=>⟨.bl b,H,I.tok tk,rfl,q⟩
 |tup hq =>
  cases r1;obtain⟨aE,_,⟨o,h1,h2,_⟩,_⟩:=I.tuple hq;exact xB W.kitx_tuple I.kIn ⟨o,h1,h2⟩ e (λz=>nomatch z) λtk=>⟨.bl b,H,I.tok tk,rfl,q⟩
 |lst hq =>
  cases r1;obtain⟨aE,_,pl,_⟩:=I.list hq;obtain⟨o,h1,h2,_⟩:=pl.isList;exact xB W.kitx_list I.kIn ⟨o,h1,h2⟩ e (λz=>nomatch z) λtk=>⟨.bl b,H,I.tok tk,rfl,q⟩
def Gu:V->List V->Hp->VK->Prop:=λx vs H Q=>match x,vs with
 | .ref l,[y]=>∃xs,H l=some (.lst xs)/\xs.length<sizeLine/\Q .non (upd H l (.lst (xs++[y])))
 |_,_=>False
theorem Ow{C:Addr->V->Prop}{x:V}{vs:List V}(h:match x,vs with|.ref l,[y]=>C l y|_,_=>False):∃l y,x = .ref l/\vs=[y]/\C l y:=by
 cases x with
 |ref l =>
  rcases vs with _|⟨y,_|⟨_,_⟩⟩
  ·exact(show False from h).elim
  ·exact⟨l,y,rfl,rfl,h⟩
  ·exact(show False from h).elim
 |_=>exact(show False from by rcases vs with _|⟨y,_|⟨_,_⟩⟩<;>exact h).elim
theorem gt:MtR X "list.append" Gu:=λpins s σ H x xs v us Q I rx rs h=>by
 obtain⟨l,y,rfl,rfl,ys,e,z,q⟩:=Ow (C:=λl y=>∃ys,H l=some (.lst ys)/\ys.length<sizeLine/\Q .non (upd H l (.lst (ys++[y])))) h;exact gx pins s σ H _ _ v us Q I rx rs ⟨l,ys,y,rfl,rfl,e,z,q⟩
def mBM(r:V->List V->Hp->VK->Prop)(to:TE)(t:TA):TE:=fun σ H Q=>to σ H λx H1=>(∃p xs,x = .ref p/\H1 p=some (.lst xs))/\t σ H1 λxs H2=>r x xs H2 Q
def Gv(r:V->List V->Hp->VK->Prop)(to:TE):TE:=fun σ H Q=>to σ H λx H1=>(∃p xs,x = .ref p/\H1 p=some (.lst xs))/\r x [] H1 Q
theorem jl{o e:Expr}{es:List Expr}{to:TE}{t:TA}{name:Str}{apos cpos:Pos}{id:String}{r:V->List V->Hp->VK->Prop}(slot:Slot "list" name id)(hty:typeOf (.builtin id)=pure (.type "method_descriptor"))(hm:MtR X id r)(ho:PE X o to)(ha:PA X (e::es) t)
  (oA:attributeBase o name X.env (eval o X.env)=eval o X.env:=by rfl)
  (hfew:((backTo cpos (starEach (e::es) X.env)).all (λx=>!x.1)&&(backToKw cpos (keywordEach [] X.env)).all (λx=>x.1.isSome)
  &&decide ((e::es).length+([]:List Keyword).length+(if([]:List Keyword).isEmpty then 0 else 1)<30))=true:=by rfl)
  (nX:(apos.endLine==cpos.line)=true:=by rfl) (hs:starEach (e::es) X.env=(false,eval e X.env)::starEach es X.env:=by rfl) (pH:(backTo cpos (starEach es X.env)).any (·.1)=false:=by rfl) :
  PE X (.Call (.Attribute o name apos) (e::es) [] cpos) (mBM r to t):=by
 intro pins s σ H Q I h;refine wpAny_Call_method_late oA hfew nX rfl (thn (ho pins s σ H _ I h) λv s1 ⟨x,H1,I1,r1,⟨p,xs,e,hp⟩,q1⟩=>?_);subst e;obtain⟨h1,h2⟩:=Tf (T:="list") I1 r1 (.inl ⟨rfl,xs,SqL.of hp⟩);refine⟨"list",id,F.plainAttrs_list,slot,hty,h1,h2,?_⟩;have hA:=ha cpos pins s1 σ H1 _ I1 q1;rw[hs]at hA ⊢;refine Calls.callWith_builtin (by show(false||(backTo cpos (starEach es X.env)).any (·.1))=false;rw[pH]<;>rfl) (Calls.evalArgs_plain ?_);exact thn hA λus s2 ⟨vs,H2,I2,r2,q2⟩=>hm pins s2 σ H2 _ vs v us Q I2 r1 r2 q2
theorem G8{o:Expr}{to:TE}{name:Str}{apos cpos:Pos}{id:String}{r:V->List V->Hp->VK->Prop}(slot:Slot "list" name id)(hty:typeOf (.builtin id)=pure (.type "method_descriptor"))(hm:MtR X id r)(ho:PE X o to)
  (oA:attributeBase o name X.env (eval o X.env)=eval o X.env:=by rfl) (nX:(apos.endLine==cpos.line)=true:=by rfl):PE X (.Call (.Attribute o name apos) [] [] cpos) (Gv r to):=by
 intro pins s σ H Q I h;refine wpAny_Call_method0_late oA nX (thn (ho pins s σ H _ I h) λv s1 ⟨x,H1,I1,r1,⟨p,xs,e,hp⟩,q1⟩=>?_);subst e;obtain⟨h1,h2⟩:=Tf (T:="list") I1 r1 (.inl ⟨rfl,xs,SqL.of hp⟩);exact⟨"list",id,F.plainAttrs_list,slot,hty,h1,h2,Calls.callWith_builtin rfl (PySem.evalArgs_none (hm pins s1 σ H1 _ [] v [] Q I1 r1 .nil q1))⟩
def Gs(K:W.Frag)(tl:TE):TI:=fun σ H R=>tl σ H (ia λa H1=>((∃xs,SqL K H1 a xs)/\R (Itl K a) H1)\/((∃xs,SqT K H1 a xs)/\R (Itt K a) H1))
theorem y6{tg l:Expr}{tl:TE}(hl:PE X l tl):PI X tg l (Gs X.K tl):=by
 intro pins s σ H R I h;refine thn (hl pins s σ H _ I h) λv s1 ⟨x,H1,I1,r1,q1⟩=>?_;cases x with
 |ref a =>
  cases r1;rcases(show((∃xs,SqL X.K H1 a xs)/\R (Itl X.K a) H1)\/((∃xs,SqT X.K H1 a xs)/\R (Itt X.K a) H1)from q1)with⟨⟨xs,hq⟩,q⟩|⟨⟨xs,hq⟩,q⟩
  ·obtain⟨aE,rv,p,hz⟩:=I1.list hq;refine sS p.isList ?_;refine⟨s1.heap.objs.size,[s1.heap.objs.size],_,_,H1,rfl,I1.kept (t':=s1.toks) λb o e=>zX _ e,Vt a _,⟨_,zT _ rfl,rfl,rfl⟩,λb hb=>?_,q⟩;have e:b=s1.heap.objs.size:=by simpa using hb
   subst e;exact I1.fpOk (zU _) (I1.hok.fresh (zU _))
  ·obtain⟨aE,rv,p,hz⟩:=I1.tuple hq;refine wH (show s1.heap.IsTuple a aE.toArray from p) ?_;refine⟨s1.heap.objs.size,[s1.heap.objs.size],_,_,H1,rfl,I1.kept (t':=s1.toks) λb o e=>zX _ e,mw a _,⟨_,zT _ rfl,rfl,rfl⟩,λb hb=>?_,q⟩;have e:b=s1.heap.objs.size:=by simpa using hb
   subst e;exact I1.fpOk (zU _) (I1.hok.fresh (zU _))
 |_=>exact(show False from q1).elim
def iR1(ta:TA):TI:=fun σ H R=>ta σ H (on1 (g9 λj H1=>(-(2 ^ 62)<=j/\j<2 ^ 62)/\R (Itr 0 j.toNat) H1))
theorem yq{tg a:Expr}{ta:TA}{p pos:Pos}(hg:Gl X "range")(hm:X.mg "range"=none)(ha:PA X [a] ta)(hs:starEach [a] X.env=[(false,eval a X.env)]:=by rfl):PI X tg (.Call (.Name "range" p) [a] [] pos) (iR1 ta):=by
 intro pins s σ H R I h;refine Call_ (ww I hg hm boot_range (xY (thn (ha pos pins s σ H _ I h) λus s1 ⟨vs,H1,I1,r1,q1⟩=>?_) hs rfl));rcases vs with _|⟨x,_|⟨y,rr⟩⟩
 ·exact(show False from q1).elim
 ·cases x with
  |int j =>
   obtain⟨⟨q1,q2⟩,q⟩:=(show(-(2 ^ 62)<=j/\j<2 ^ 62)/\R (Itr 0 j.toNat) H1 from q1)
   cases r1 with
   |cons r rr =>
    cases rr;obtain⟨t,rfl⟩:=r;exact call_range_1 (Sg I1 (by lia) (by lia) q1 q2 (by simpa using q))
  |_=>exact(show False from q1).elim
 ·exact(show False from q1).elim
def Zs(g:TG)(tb:TS)(J:It)(D:tp)(σ:St)(H1:Hp):Prop:=∃W:Nat->Nat->St->Hp->Prop,(∃m,W 0 m σ H1)/\∀i m σ H,W i m σ H ->
 (J.stop i H/\D.nx σ H)\/(J.go i H/\∃N:St->Hp->Prop,(∀σ' H',N σ' H'->∃m',m'<m/\W (i+1) m' σ' H')/\∀x H',J.yld i H x H'->g x σ H' fun σ2 H2=>tb { D with nx:=N,ct:=N,bk:=D.nx } σ2 H2)
def Gy(wi:TI)(g:TG)(tb:TS):TS:=λD σ H=>wi σ H λJ H1=>Zs g tb J D σ H1
theorem xo{tg iter:Expr}{body:List Stmt}{wi:TI}{g:TG}{tb:TS}{pos:Pos}(hp:PassesOwn (model X.prog X.w) X.A X.env X.xe)(hc:X.calm=true)(hi:PI X tg iter wi)(hg:PG X tg g)(hb:PSs X body tb)
  (hs:∀x,foldedSetIterable iter X.env x=pure x:=by intro _;rfl):PS X (.For tg iter body [] pos) (Gy wi g tb):=La hp hc hi hg hb hs
theorem u6{K:W.Frag}{a:Addr}{xs:List V}{g:TG}{tb:TS}{D:tp}{σ:St}{H:Hp}(Pv:Nat->St->Hp->Prop)(h0:Pv 0 σ H)(hl:∀i σ H,i<=xs.length->Pv i σ H->SqL K H a xs)
  (hs:∀i x σ H,xs[i]?=some x->Pv i σ H->g x σ H fun σ2 H2=>tb { D with nx:=Pv (i+1),ct:=Pv (i+1),bk:=D.nx } σ2 H2) (hd:∀σ H,Pv xs.length σ H->D.nx σ H):Zs g tb (Itl K a) D σ H:=P8 Pv h0 hl hs hd
theorem xn{K:W.Frag}{a:Addr}{xs:List V}{g:TG}{tb:TS}{D:tp}{σ:St}{H:Hp}(Pv:Nat->St->Hp->Prop)(h0:Pv 0 σ H)(hl:∀i σ H,i<=xs.length->Pv i σ H->SqT K H a xs)
  (hs:∀i x σ H,xs[i]?=some x->Pv i σ H->g x σ H fun σ2 H2=>tb { D with nx:=Pv (i+1),ct:=Pv (i+1),bk:=D.nx } σ2 H2) (hd:∀σ H,Pv xs.length σ H->D.nx σ H):Zs g tb (Itt K a) D σ H:=Nb Pv h0 hl hs hd
theorem w6{n:Nat}{g:TG}{tb:TS}{D:tp}{σ:St}{H:Hp}(Pv:Nat->St->Hp->Prop)(h0:Pv 0 σ H)
  (hs:∀i σ H,i<n->Pv i σ H->g (.int (0+(i:Int))) σ H fun σ2 H2=>tb { D with nx:=Pv (i+1),ct:=Pv (i+1),bk:=D.nx } σ2 H2) (hd:∀σ H,Pv n σ H->D.nx σ H):Zs g tb (Itr 0 n) D σ H:=Ua Pv h0 hs hd
end
section
variable {K:W.Frag}{H:Hp}{Q:VK}{i j:Int}{x y:Str}{p r:Addr}{c d:Bool}{g:Bool->Bool}{v:V}{neg:Bool}
theorem Le:Nq K (.int i) (.int j) H Q=Q (.int (i+j)) H:=rfl
theorem Lh:Nq K (.str x) (.str y) H Q=(x.length+y.length<=sizeLine/\Q (.str (x++y)) H):=rfl
theorem Lf:Nq K (.ref p) (.ref r) H Q=((∃xs ys,H p=some (.lst xs)/\H r=some (.lst ys)/\xs.length+ys.length<=sizeLine/\New H (.lst (xs++ys)) Q) \/
   ∃xs ys,SqT K H p xs/\SqT K H r ys/\xs.length+ys.length<=sizeLine/\∀(p:Addr)(H':Hp),Same H H'->SqT K H' p (xs++ys)->Q (.ref p) H'):=rfl
theorem F7{C:Int->Int->Prop}{f:Int->Int->V}:mII C f (.int i) (.int j) H Q=(C i j/\Q (f i j) H):=rfl
theorem Ih{f:Int->Int->V}:Qu f (.int i) (.int j) H Q=Q (f i j) H:=rfl
theorem Ic:k8 K g (.int i) (.int j) H Q=Q (.bl (g (decide (i=j)))) H:=rfl
theorem Ib:k8 K g (.bl c) (.bl d) H Q=Q (.bl (g (decide (c=d)))) H:=rfl
theorem Ig:k8 K g (.str x) (.str y) H Q=Q (.bl (g (decide (x=y)))) H:=rfl
theorem Ln:k8 K g .non .non H Q=Q (.bl (g true)) H:=rfl
theorem Ll:k8 K g .non (.bl c) H Q=Q (.bl (g false)) H:=rfl
theorem Lj:k8 K g (.bl c) .non H Q=Q (.bl (g false)) H:=rfl
theorem Lm:k8 K g .non (.int i) H Q=Q (.bl (g false)) H:=rfl
theorem Lk:k8 K g (.int i) .non H Q=Q (.bl (g false)) H:=rfl
theorem Ie:k8 K g (.ref p) (.ref r) H Q=(∃da db,Has K H (.ref p) da/\Has K H (.ref r) db/\SeqAt.shaped da=true/\SeqAt.shaped db=true/\Q (.bl (g (PyData.eqv da db))) H):=rfl
theorem Io:mLe (.int i) (.int j) H Q=Q (.bl (decide (i<=j))) H:=rfl
theorem Im:mLe (.bl c) (.bl d) H Q=Q (.bl (!c||d)) H:=rfl
theorem F8:mIn K neg v (.ref p) H Q=(∃xs,(SqL K H p xs\/SqT K H p xs)/\v6 v=true/\xs.all v6=true/\Q (.bl (if neg then !inV v xs else inV v xs)) H):=rfl
theorem Il:mIx K (.str x) (.int i) H Q=(x.length<=sizeLine/\∃c,atI x.cps.toList i=some c/\Q (.str ⟨#[c]⟩) H):=rfl
theorem Ik:mIx K (.ref p) (.int i) H Q=(∃xs v,(SqL K H p xs\/SqT K H p xs)/\atI xs i=some v/\Q v H):=rfl
theorem Iv{lo hi:Option Int}:mSl K (.str x) lo hi H Q=(x.length<=sizeLine/\Q (.str (Txt.slice x lo hi)) H):=rfl
theorem Iu{lo hi:Option Int}:mSl K (.ref p) lo hi H Q=((∃xs,SqL K H p xs/\New H (.lst (vn xs lo hi)) Q)\/∃xs,SqT K H p xs/\∀(p:Addr)(H':Hp),Same H H'->SqT K H' p (vn xs lo hi)->Q (.ref p) H'):=rfl
theorem Lr:Kd K [.str x] H Q=(x.length<=sizeLine/\Q (.int x.length) H):=rfl
theorem Lq:Kd K [.ref p] H Q=(∃ys,(SqL K H p ys\/SqT K H p ys)/\Q (.int ys.length) H):=rfl
theorem Sf:Wp K [.ref p] H Q=(∃ys,(SqL K H p ys\/SqT K H p ys)/\New H (.lst ys) Q):=rfl
theorem Ot:Qy K [.ref p] H Q=(∃ys,(SqL K H p ys\/SqT K H p ys)/\∀(r:Addr)(H':Hp),Same H H'->SqT K H' r ys->Q (.ref r) H'):=rfl
theorem Ij{T:String}:Gz K [v,.ty T] H Q=(∃t b,TyX K H v t/\W.kitOne K t (.type T)=some b/\Q (.bl b) H):=rfl
theorem Hz:Gu (.ref p) [v] H Q=(∃xs,H p=some (.lst xs)/\xs.length<sizeLine/\Q .non (upd H p (.lst (xs++[v])))):=rfl
end
structure zz(P:Program)(w:World)(K:W.Frag)(mg:Str->Option Value)(base:Heap)(k:Nat)(x:Str)(ps:List Str)(sp:Sp):Prop where
 ex:∃(f:Addr)(fd:FuncData),FnOk P w K mg base CX0 k f fd ps sp/\Binds K fd ps []/\W.keepIn K (.ref f)=true/\mg x=some (.ref f)
theorem zy{X:Cx}{k k':Nat}{x:Str}{ps:List Str}{sp:Sp}{t:TA}{e:Expr}{es:List Expr}{p pos:Pos}(C:zz X.prog X.w X.K X.mg X.base k x ps sp)(hr:Room k' X.A)(hk:k<=k')(ha:PA X (e::es) t)(hg:Gl X x:=by rfl)
  (nH:(x==("__debug__":Str))=false:=by decide) (he:starEach (e::es) X.env=(false,eval e X.env)::starEach es X.env:=by rfl) (cZ:(backTo pos (starEach es X.env)).any (·.1)=false:=by rfl) :
  PE X (.Call (.Name x p) (e::es) [] pos) (S8 sp [] E0 t):=by
 obtain⟨f,fd,F,b,kp,hm⟩:=C.ex;exact Oi F (hr.mono hk) hg hm kp b .nil Wz ha nH he cZ
theorem Zz{P:Program}{w:World}{K:W.Frag}{mg:Str->Option Value}{base:Heap}{k k':Nat}{x:Str}{ps:List Str}{sp:Sp}(C:zz P w K mg base k x ps sp)(h:k<=k'):zz P w K mg base k' x ps sp:=by
 obtain⟨f,fd,F,b,kp,hm⟩:=C.ex;exact⟨f,fd,F.mono h,b,kp,hm⟩
structure Def(K:W.Frag)(mg:Str->Option Value)(x:Str)(st:Stmt)(ps:List Str):Prop where
 ex:∃(f:Addr)(fd:FuncData),Fun K x x st f fd/\(∀us:List Value,us.length=ps.length->bindArgs fd ⟨us,[]⟩=pure (ps.zip us))/\mg x=some (.ref f)
section
variable {P:Program}{w:World}{K:W.Frag}{mg:Str->Option Value}{base:Heap}
theorem P9{x:Str}{st:Stmt}{f:Addr}{fd:FuncData}{N ps:List Str}{k:Nat}{sp:Sp}(F:Fun K x x st f fd)(S:v4 N ps (zr st))(len:∀vs H Q E,sp vs H Q E->vs.length=ps.length)
  (cM:∀(f:Addr)(cdv:Value)(A:Around)(outer:List Env)(s:Shared)(H:Hp)(vs:List V)(Q:VK)(E:XK),Room k (A.deeper (envOfC x (zr st) s.heap.objs.size f cdv))->N.Nodup->sp vs H Q E ->
   ∃σ t,vg N vs=σ/\PSs (pb CX0 P w K mg base N x (zr st) f cdv A outer s H E).nox (zi st) t/\t { nx:=λ_ H'=>Q .non H',rt:=Q } σ H):FnOk P w K mg base CX0 (k+1) f fd ps sp :=
 F.ok S len λcdv A outer s H vs Q E hr h=>by
  obtain⟨σ,t,e,ht,q⟩:=cM f cdv A outer s H vs Q E hr S.nd h;exact⟨t,ht,by rw[e];exact q⟩
theorem Def.callee{x:Str}{st:Stmt}{N ps:List Str}{k:Nat}{sp:Sp}(F:Def K mg x st ps)(S:v4 N ps (zr st))(len:∀vs H Q E,sp vs H Q E->vs.length=ps.length)
  (cM:∀(f:Addr)(cdv:Value)(A:Around)(outer:List Env)(s:Shared)(H:Hp)(vs:List V)(Q:VK)(E:XK),Room k (A.deeper (envOfC x (zr st) s.heap.objs.size f cdv))->N.Nodup->sp vs H Q E ->
   ∃σ t,vg N vs=σ/\PSs (pb CX0 P w K mg base N x (zr st) f cdv A outer s H E).nox (zi st) t/\t { nx:=λ_ H'=>Q .non H',rt:=Q } σ H):zz P w K mg base (k+1) x ps sp:=by
 obtain⟨f,fd,F,b,hm⟩:=F.ex;exact⟨f,fd,P9 F S len cM,.all b,F.kp,hm⟩
theorem def_mk{h:Heap}{x:Str}{st:Stmt}{ps:List Str}{f:Addr}{oc:Value}{od an:Option Addr}{osl:Array (Option Value)}{kV doc pm cdv ct:Value}(X:K.In h)(G:h.Ns mainGlobals mg)
  (a:W.nsIn K mainGlobals x=some (some (.ref f))) (l:K.lookup f=some ⟨oc,od,.func (W.fnOf x x (yx st) (zi st) (zr st) .none kV doc pm an cdv ct),osl⟩)
  (c:W.codeIn K cdv x=true) (k:W.keepIn K (.ref f)=true)
  (hb:∀(kV doc pm:Value)(an:Option Addr)(cdv ct:Value)(us:List Value),us.length=ps.length->bindArgs (W.fnOf x x (yx st) (zi st) (zr st) .none kV doc pm an cdv ct) ⟨us,[]⟩=pure (ps.zip us)):Def K mg x st ps :=
 ⟨f,_,Xy l c k,hb kV doc pm an cdv ct,uU X G a⟩
end
end My
namespace My
open PySem PySem.Spec L2
open PyProof.Rows hiding St
def ym(X:Cx)(N':List Str)(scope:Scope)(cl:List (Str×Addr))(C:Addr)(s₀:Shared)(H₀:Hp)(ex:List Addr):Cx where
 prog:=X.prog
 w:=X.w
 K:=X.K
 mg:=X.mg
 base:=X.base
 A:=X.A
 N:=N'
 s₀:=s₀
 H₀:=H₀
 env:=compEnvC scope cl C X.env
 outer:=X.stack
 stack:=X.stack
 ex:=ex
 fn:=λ_=>false
 calm:=X.calm
 pn:=[]
 xe:=λ_ _=>False
structure CompOk(X:Cx)(own N:List Str)(scope:Scope)(cl:List (Str×Addr)):Prop where
 clos:closureFor scope X.env=pure cl
 sub:∀p∈cl,X.env.cells.lookup p.1=some p.2
 have_:∀p∈scope.names,p.2 = .free->∃c,cl.lookup p.1=some c
 nocell:∀y∈scope.names,y.2≠.cell
 kind:scope.kind = .function
 names:∀y∈scope.names,y.2 = .local->scope.names.lookup y.1=some .local
 mine:∀x∈own,scope.names.lookup x=some .local
 nd:(own++N).Nodup
 cells:∀y∈N,X.env.kindOf y=some .cell\/X.env.kindOf y=some .free
 free:∀y∈N,∃c,cl.lookup y=some c
 vis:∀y∈N,(relabel scope X.env).names.lookup y=some .cell\/(relabel scope X.env).names.lookup y=some .free
theorem w4{env:Env}:∀{names:List (Str×NameKind)}{x:Str}{k:NameKind},
  (names.map λ(n,k)=>if(k==NameKind.free&&env.scope.kind == .function&&env.kindOf n==some .cell)then(n,NameKind.cell)else(n,k)).lookup x=some k ->
  (k = .cell\/k = .free)->names.lookup x=some .cell\/names.lookup x=some .free
 |[],_,_,h,_=>by simp at h
 |(n,k')::r,x,k,h,hk=>by
  have ih:=@w4 env r x k;have h':List.lookup x ((if(k'==NameKind.free&&env.scope.kind == .function&&env.kindOf n==some .cell)=true then(n,NameKind.cell)else(n,k'))::(r.map λ(n,k)=>if(k==NameKind.free&&env.scope.kind == .function&&env.kindOf n==some .cell)then(n,NameKind.cell)else(n,k)))=some k:=h
  by_cases hc:(k'==NameKind.free&&env.scope.kind == .function&&env.kindOf n==some .cell)=true
  ·rw[yT hc]at h';have bU:k' = .free:=by
    rw[yJ,yJ]at hc;exact eq_of_beq hc.1.1
   cases hx:x==n with
   |true=>right;simp only[sK,hx,bU]
   |false =>
    simp only[sK,hx]at h' ⊢;exact ih h' hk
  ·rw[zC hc]at h';cases hx:x==n with
   |true =>
    simp only[sK,hx]at h' ⊢;cases h';rcases hk with rfl|rfl
    ·left;rfl
    ·right;rfl
   |false =>
    simp only[sK,hx]at h' ⊢;exact ih h' hk
section
variable {X:Cx}{own N:List Str}{scope:Scope}{cl:List (Str×Addr)}
theorem CompOk.up(k:CompOk X own N scope cl){y:Str}{c:Addr}(h:cl.lookup y=some c):X.env.cells.lookup y=some c:=k.sub (y,c) (xD h)
theorem X4{NX:List Str}{ixs:List Nat}{N:List Str}(h:ixs.map (λi=>NX[i]?)=N.map some):ixs.length=N.length:=by
 have:=wZ List.length h;simpa using this
theorem Qf{NX:List Str}{ixs:List Nat}{N:List Str}(h:ixs.map (λi=>NX[i]?)=N.map some):∀(j:Nat)(i:Nat),ixs[j]?=some i->∃y,NX[i]?=some y/\N[j]?=some y:=λj i e=>by
 have h1:(ixs.map (λi=>NX[i]?))[j]?=(N.map some)[j]?:=by rw[h]
 rw[zQ,zQ,e]at h1;cases e2:N[j]? with
 |none=>rw[e2]at h1;cases h1
 |some y=>rw[e2]at h1;exact⟨y,yY h1,rfl⟩
theorem zq(clos:closureFor scope X.env=pure cl)(sub:cl.map (λp=>X.env.cells.lookup p.1)=cl.map (λp=>some p.2))
  (b1:(scope.names.all λp=>!(p.2 == .free)||(cl.lookup p.1).isSome)=true) (b2:(scope.names.all λp=>!(p.2 == .cell))=true) (kind:scope.kind = .function)
  (b3:(scope.names.all λp=>!(p.2 == .local)||scope.names.lookup p.1==some .local)=true) (ow:own.map (λx=>scope.names.lookup x)=own.map (λ_=>some .local)) (nd:(own++N).Nodup)
  (b4:(N.all λy=>X.env.kindOf y==some .cell||X.env.kindOf y==some .free)=true) (b5:(N.all λy=>(cl.lookup y).isSome)=true)
  (b6:(N.all λy=>(relabel scope X.env).names.lookup y==some .cell||(relabel scope X.env).names.lookup y==some .free)=true):CompOk X own N scope cl:=by
 rw[yD]at b1 b2 b3 b4 b5 b6;refine⟨clos,List.map_inj_left.mp sub,λp hp hf=>?_,λp hp hc=>?_,kind,λp hp hl=>?_,List.map_inj_left.mp ow,nd,λy hy=>?_,λy hy=>uV.mp (b5 y hy),λy hy=>?_⟩
 ·have h:=b1 p hp;rw[hf]at h;exact uV.mp (by simpa using h)
 ·have h:=b2 p hp;rw[hc]at h;simp at h
 ·have h:=b3 p hp;rw[hl]at h;simpa using h
 ·have h:=b4 y hy;rw[Bool.or_eq_true]at h;exact h.imp eq_of_beq eq_of_beq
 ·have h:=b6 y hy;rw[Bool.or_eq_true]at h;exact h.imp eq_of_beq eq_of_beq
theorem Py{pins:List (Addr×Obj)}{σ:St}{H:Hp}{s:Shared}{fp:List Addr}{h₁:Heap}{tk:Nat}{ixs:List Nat}(k:CompOk X own N scope cl)(I:Inv X pins σ H s)(hf:∀b∈fp,p8 X pins H b)(hfp:∀b∈fp,b<s.heap.objs.size)
  (rQ:∀(j:Nat)(i:Nat),ixs[j]?=some i->∃y,X.N[i]?=some y/\N[j]?=some y) (aL:ixs.length=N.length)
  (rN:h₁.Ns s.heap.objs.size λ_=>none) (GA:∀b o,b≠s.heap.objs.size->s.heap.get? b=some o->h₁.get? b=some o) :
  Inv (ym X (own++N) scope cl s.heap.objs.size s H fp) [] (own.map (λ_=>none)++ixs.map (gv σ)) H { s with heap:=h₁,toks:=tk }:=by
 have old:∀b o,s.heap.get? b=some o->h₁.get? b=some o:=λb o e=>GA b o (zG (zR e)) e;have nfs:∀b∈fp,b∉frs X.stack:=λb hb z=>by
  rcases zL.mp (I.stkSub b z)with e|e
  ·exact(hf b hb).2.1 e
  ·exact(hf b hb).2.2.1 e
 refine⟨⟨I.ok.mod,?_,I.ok.glob,I.ok.blt,zU _,?_,?_,?_,I.ok.hd,I.ok.frames,.inl rfl,?_,I.bs,yS I.ok.bsz I.sz,?_,nfs,I.stack,I.stkFree⟩,
  rfl,I.bare,Un.kept old,⟨λ_=>none,rN,?_⟩,?_,I.hok.fresh (zU _),?_,λp hp=>absurd hp (by simp[ym]),I.hok.kept old,?_⟩
 ·exact k.kind
 ·exact λy z c h1 h2=>I.ok.inj y z c (k.up h1) (k.up h2)
 ·intro y hy;have Be:scope.names.lookup y=some .cell\/scope.names.lookup y=some .free:=by
   rcases hy with hy|hy
   ·exact w4 (env:=X.env) hy (.inl rfl)
   ·exact w4 (env:=X.env) hy (.inr rfl)
  rcases Be with Be|Be
  ·exact absurd rfl (k.nocell _ (xD Be))
  ·exact k.have_ _ (xD Be) rfl
 ·intro y c h1;exact absurd h1 (by simp[ym])
 ·intro b hb;exact⟨zG (hfp b hb),λy c e=>(hf b hb).2.2.2.2.1 y c (k.up e)⟩
 ·intro b o e hb;rcases(hf b hb).2.2.2.1 with z|z
  ·exact I.ok.noex b o e z
  ·exact absurd (yW (zR e) (yS I.ok.bsz z)) (vP _)
 ·intro i y v h1 h2 h3;have h1:(own++N)[i]?=some y:=h1
  by_cases hio:i<own.length
  ·rw[yG (by simpa using hio)]at h2;simp[hio]at h2
  ·have gR:(ixs.map (gv σ))[i-own.length]?=some (some v):=by rw[yH (by simpa using hio)]at h2;simpa using h2
   have pP:N[i-own.length]?=some y:=by rw[yH (by lia)]at h1;exact h1
   generalize i-own.length=i at pP gR;rw[zQ]at gR;cases e:ixs[i]? with
   |none=>rw[e]at gR;cases gR
   |some j =>
    rw[e]at gR;have Do:gv σ j=some v:=by simpa using gR
    obtain⟨z,hz,mE⟩:=rQ i j e;rw[pP]at mE;cases mE;have hm:=zK pP;obtain⟨m,hn,hl⟩:=I.loc;have hvis:Vis X.env.scope y:=.inr (k.cells y hm);obtain⟨u,ru,l⟩:=hl j y v hz (dc Do) hvis;refine⟨u,ru,?_⟩;rcases l with⟨l,_⟩|⟨_,c,ec,ic⟩
    ·exfalso;rcases k.cells y hm with z|z<;>(rw[l]at z;cases z)
    ·obtain⟨c',GW⟩:=k.free y hm;have:c=c':=yY (ec.symm.trans (k.up GW));subst this;refine .inr ⟨?_,c,GW,?_⟩
     ·exact k.vis y hm
     ·obtain⟨o,ho,hd⟩:=ic;exact⟨o,old _ _ ho,hd⟩
 ·intro y c e;obtain⟨v,o,ho,hd⟩:=I.cell y c (k.up e);exact⟨v,o,old _ _ ho,hd⟩
 ·intro y c e;exact I.freeC y c (k.up e)
 ·show(own.map (λ_=>none)++ixs.map (gv σ)).length=(own++N).length;simp[aL]
def PIf(X:Cx)(gI:List Expr)(t:TT):Prop:=∀(pins:List (Addr×Obj))(s:Shared)(σ:St)(H:Hp)(Q:Bool->Hp->Prop),Inv X pins σ H s->t σ H Q ->
 wpAny (model X.prog X.w) X.A (forIn gI true λc r=>if r=true then do let ok <-isTrue c X.env (eval c X.env);pure (ForInStep.yield ok)else pure (ForInStep.yield r)) (TP X pins σ Q) X.xe s
def i7:TT:=λ_ H Q=>Q true H
theorem yz:PIf X [] i7:=λpins s σ H Q I h=>by
 rw[List.forIn_nil];exact zW ⟨H,I,h⟩
theorem v5{c:Expr}{tc:TT}(hc:PT X c tc):PIf X [c] tc:=λpins s σ H Q I h=>by
 rw[List.forIn_cons];simp only[if_true];refine zZ (zZ (thn (hc pins s σ H Q I h) λb s1 h1=>zW ?_));dsimp only;rw[List.forIn_nil];exact zW h1
theorem c7(gJ bW iter:Expr)(gI:List Expr)(scope:Scope)(pos:Pos)(it aK:Value)(env:Env):
  compTurn (.ListComp gJ [⟨bW,iter,gI,0⟩] scope pos) 0 it aK env=(standAt iter.pos >>=λ_=>pyNext it >>=λr=>match r with
   |none=>pure (.done .next)
   |some v=>letOwnedTupleGo bW it v >>=λ_=>assign bW env v >>=λ_ =>
    (forIn gI true λc r=>if r=true then do let ok <-isTrue c env (eval c env);pure (ForInStep.yield ok)else pure (ForInStep.yield r)) >>=λok =>
     if ok=true then(eval gJ env >>=λx=>call (.builtin "list.append") [aK,x] >>=λ_=>pure ()) >>=λ_=>again (.compLoop (.ListComp gJ [⟨bW,iter,gI,0⟩] scope pos) 0 it aK env)
     else again (.compLoop (.ListComp gJ [⟨bW,iter,gI,0⟩] scope pos) 0 it aK env)):=by rfl
theorem ji{prog:Program}{w:World}{A:Around}{R:Result->Shared->Prop}{s:Shared}{gJ bW iter:Expr}{gI:List Expr}{scope:Scope}{pos:Pos}{it aK:Value}{env:Env}(I:Nat->Shared->Prop)
  (oV:∀n s,I n s->∀E:Value->Shared->Prop,wpAny (model prog w) A (pyNext it) (λr s₁=>match r with
   |none=>R (.ok .next) s₁
   |some v=>wpAny (model prog w) A (letOwnedTupleGo bW it v) (λ_ s₁'=>wpAny (model prog w) A (assign bW env v) (λ_ s₂ =>
     wpAny (model prog w) A (forIn gI true λc r=>if r=true then do let ok <-isTrue c env (eval c env);pure (ForInStep.yield ok)else pure (ForInStep.yield r)) (λok s₂'=>if ok=true then wpAny (model prog w) A (eval gJ env) (λx s₃ =>
      wpAny (model prog w) A (call (.builtin "list.append") [aK,x]) (λ_ s₄=>∃m,m<n/\I m s₄) E s₃) E s₂' else∃m,m<n/\I m s₂') E s₂) E s₁') E s₁) E s)
  (n:Nat) (h:I n s) :
  codeAny (model prog w) A (.compLoop (.ListComp gJ [⟨bW,iter,gI,0⟩] scope pos) 0 it aK env) R s:=by
 refine codeAny_loop rfl I (λn s hI=>?_) n h;show wpAny _ _ ((compTurn (.ListComp gJ [⟨bW,iter,gI,0⟩] scope pos) 0 it aK env).onRaise (λx=>do noteFrame x env;theTreesLotGoes x)) _ _ s;refine wpAny_noted ?_;rw[c7];refine zZ (wpAny_standAt (zZ (xQ (oV n s hI _) (λr s₁ h₁=>?_) λ_ _ h'=>h')));cases r with
 |none=>exact zW h₁
 |some v =>
  refine zZ (xQ h₁ (λ_ s₁' h₁'=>zZ (xQ h₁' (λ_ s₂ h₂=>zZ (xQ h₂ (λok s₂' h₂'=>?_) λ_ _ h'=>h')) λ_ _ h'=>h')) λ_ _ h'=>h');cases ok with
  |true =>
   simp only[if_true]at h₂' ⊢;exact zZ (zZ (xQ h₂' (λx s₃ h₃=>zZ (xQ h₃ (λ_ s₄ h₄=>zW (zW ⟨rfl,h₄⟩)) λ_ _ h'=>h')) λ_ _ h'=>h'))
  |false =>
   simp only[Bool.false_eq_true,if_false]at h₂' ⊢;exact zW ⟨rfl,h₂'⟩
def uw(no:Nat)(g:TG)(tt:TT)(te:TE)(ρ:St)(J:It)(Q:VK)(H1:Hp):Prop:=∀(D:Addr)(H2:Hp),H1 D=none->Same H1 H2->H2 D=some (.lst []) ->
 ∃W:Nat->Nat->List V->Hp->Prop,(∃m,W 0 m [] H2)/\∀i m ys H',W i m ys H'->H' D=some (.lst ys) /\
  ((J.stop i H'/\Q (.ref D) H')\/(J.go i H'/\ys.length<sizeLine/\∀(τ:St) v H'',τ.length=no->J.yld i H' v H''->g v (τ++ρ) H'' fun σ2 H3=>(∃τ':St,σ2=τ'++ρ/\τ'.length=no)/\tt σ2 H3 λb H4 =>
   if b=true then te σ2 H4 λy H5=>H5 D=some (.lst ys)/\∃m',m'<m/\W (i+1) m' (ys++[y]) (upd H5 D (.lst (ys++[y])))else∃m',m'<m/\W (i+1) m' ys H4))
def i6(no:Nat)(ixs:List Nat)(wi:TI)(g:TG)(tt:Addr->Shared->Hp->List Addr->TT)(te:Addr->Shared->Hp->List Addr->TE):TE:=fun σ H Q=>wi σ H λJ H1=>∀(C:Addr)(s₀:Shared)(H₀:Hp)(ex:List Addr),uw no g (tt C s₀ H₀ ex) (te C s₀ H₀ ex) (ixs.map (gv σ)) J Q H1
theorem Fs{X:Cx}{N':List Str}{scope:Scope}{cl:List (Str×Addr)}{C:Addr}{s₀:Shared}{H₀:Hp}{ex:List Addr}:(ym X N' scope cl C s₀ H₀ ex).K=X.K:=rfl
theorem ka{gJ iter tg:Expr}{gI:List Expr}{ixs:List Nat}{g:TG}{tt:Addr->Shared->Hp->List Addr->TT}{te:Addr->Shared->Hp->List Addr->TE}{pos:Pos}{pins:List (Addr×Obj)}{σ:St}{H:Hp}{s₂:Shared}{it:Addr}{fp:List Addr}{tn:Nat->Heap->Prop}{J:It}{Q:VK}{RR:Value->Addr->Result->Shared->Prop}{E:Value->Shared->Prop}
  (k:CompOk X own N scope cl) (mQ:X.calm=true) (rQ:∀(j:Nat)(i:Nat),ixs[j]?=some i->∃y,X.N[i]?=some y/\N[j]?=some y) (aL:ixs.length=N.length)
  (hg:∀(C:Addr)(s₀:Shared)(H₀:Hp)(ex:List Addr),PG (ym X (own++N) scope cl C s₀ H₀ ex) tg g)
  (ht:∀(C:Addr)(s₀:Shared)(H₀:Hp)(ex:List Addr),PIf (ym X (own++N) scope cl C s₀ H₀ ex) gI (tt C s₀ H₀ ex))
  (he:∀(C:Addr)(s₀:Shared)(H₀:Hp)(ex:List Addr),PE (ym X (own++N) scope cl C s₀ H₀ ex) gJ (te C s₀ H₀ ex))
  (I:Inv X pins σ H s₂) (T:Zu X.prog X.w X.K tg J fp it tn) (st:tn 0 s₂.heap) (hf:∀b∈fp,p8 X pins H b)
  (q:∀(C:Addr)(s₀:Shared)(H₀:Hp)(ex:List Addr),uw own.length g (tt C s₀ H₀ ex) (te C s₀ H₀ ex) (ixs.map (gv σ)) J Q H)
  (hRR:∀(D C:Addr)(H':Hp)(s':Shared)(m:Str->Option Value),Inv X pins σ H' s'->s'.heap.Ns C m->H' C=none->C≠X.env.locals->C∉X.fs->(∀p∈X.pn++pins,p.1≠C)->(∀y c,X.env.cells.lookup y=some c->c≠C)->X.s₀.heap.objs.size<=C->Q (.ref D) H'->RR (.ref D) C (.ok .next) s') :
  wpAny (model X.prog X.w) X.A (newList []) (λaK s₃=>wpAny (model X.prog X.w) X.A (newFunctionEnv scope X.env.globals cl [] X.env.qual none .none (some X.env)) (λHH s₄ =>
   codeAny (model X.prog X.w) X.A (.compStart (.ListComp gJ [⟨tg,iter,gI,0⟩] scope pos) 0 (.ref it) aK { HH with scope:=relabel scope X.env }) (RR aK HH.locals) s₄) E s₃) E s₂:=by
 refine xV (wpAny_newFunctionEnv k.nocell (by intro y hy;simp at hy) (λh₁ rN₁ DO₁=>?_) k.kind);dsimp only at rN₁ DO₁ ⊢;have Av:H s₂.heap.objs.size=none:=I.hok.fresh (zU _);have I3:Inv X pins σ (upd H s₂.heap.objs.size (.lst [])) { s₂ with heap:=s₂.heap.push { cls:=.type "list",dict:=none,data:=.seq ([]:List Value).toArray } } :=
  I.laid (t':=s₂.toks) (λb o e=>zX _ e) (zU _) ⟨yQ _,[],0,.nil,zT _ rfl⟩
 obtain⟨W,⟨m0,w0⟩,oV⟩:=q (s₂.heap.push { cls:=.type "list",dict:=none,data:=.seq ([]:List Value).toArray }).objs.size { s₂ with heap:=s₂.heap.push { cls:=.type "list",dict:=none,data:=.seq ([]:List Value).toArray } } (upd H s₂.heap.objs.size (.lst [])) fp s₂.heap.objs.size _ Av (w8 Av _) zx;have nS:∀b o,s₂.heap.get? b=some o->(s₂.heap.push { cls:=.type "list",dict:=none,data:=.seq ([]:List Value).toArray }).get? b=some o:=λb o e=>zX _ e;have Ce:∀b∈fp,b<s₂.heap.objs.size:=λb hb=>by
  obtain⟨o,e,_⟩:=T.obj _ _ st b hb;exact zR e
 have hf3:∀b∈fp,p8 X pins (upd H s₂.heap.objs.size (.lst [])) b:=λb hb=>⟨by rw[zk (zG (Ce b hb))];exact(hf b hb).1,(hf b hb).2⟩
 generalize hH3:upd H s₂.heap.objs.size (.lst [])=H3 at I3 w0 hf3 oV;generalize hh2:s₂.heap.push { cls:=.type "list",dict:=none,data:=.seq ([]:List Value).toArray }=h2 at I3 rN₁ DO₁ nS oV ⊢;have FF:h2.objs.size=s₂.heap.objs.size+1:=by rw[<-hh2,xT]
 have fp2:∀b∈fp,b<h2.objs.size:=λb hb=>by rw[FF];exact xJ (Ce b hb)
 have nY:∀b o,b≠h2.objs.size->h2.get? b=some o->h₁.get? b=some o:=λb o hb e=>DO₁.extBut b o hb (zX _ e);have I4:=Py (fp:=fp) (h₁:=h₁) (tk:=s₂.toks+([]:List (Str×Value)).length) (s:={ s₂ with heap:=h2 }) k I3 hf3 fp2 rQ aL (by simpa using rN₁) nY;have st4:tn 0 h₁:=T.keep _ _ _ st λb hb o e=>nY b o (zG (fp2 b hb)) (nS b o e);have fr4:∀b∈fp,H3 b=none:=λb hb=>(hf3 b hb).1;have blk:∀{H':Hp},(∀b∈fp,H' b=none)->∀b∈fp,p8 (ym X (own++N) scope cl h2.objs.size { s₂ with heap:=h2 } H3 fp) [] H' b:=λhn b hb =>
  ⟨hn b hb,(I4.ok.exf b hb).1,I4.ok.exfs b hb,.inl hb,(I4.ok.exf b hb).2,λp hp=>absurd hp (by simp[ym])⟩
 have loop:∀s₃:Shared,s₃={ s₂ with heap:=h₁,toks:=s₂.toks+([]:List (Str×Value)).length } ->
   codeAny (model X.prog X.w) X.A (.compLoop (.ListComp gJ [⟨tg,iter,gI,0⟩] scope pos) 0 (.ref it) (.ref s₂.heap.objs.size) (compEnvC scope cl h2.objs.size X.env)) (RR (.ref s₂.heap.objs.size) h2.objs.size) s₃:=by
  rintro s₃ rfl;refine ji (λn s'=>∃i τ ys H',τ.length=own.length/\Inv (ym X (own++N) scope cl h2.objs.size { s₂ with heap:=h2 } H3 fp) [] (τ++ixs.map (gv σ)) H' s'/\tn i s'.heap/\(∀b∈fp,H' b=none)/\W i n ys H') ?_ m0 ⟨0,own.map (λ_=>none),[],H3,by simp,I4,st4,fr4,w0⟩;rintro n s5 ⟨i,τ,ys,H5,hτ,I5,DD,fr5,w5⟩ E';obtain⟨hD,alt⟩:=oV i n ys H5 w5;rcases alt with⟨stop,qn⟩|⟨go,hz,step⟩
  ·refine xQ (T.done (ym X (own++N) scope cl h2.objs.size { s₂ with heap:=h2 } H3 fp) rfl rfl rfl mQ i [] s5 _ H5 E' I5 (blk fr5) DD stop) (λr s6 hr=>?_) λ_ _ e=>e;obtain⟨rfl,I6⟩:=hr;obtain⟨m6,hn6,_⟩:=I6.loc;have J6:Inv X pins σ H5 s6:=by
    refine I3.call' (ch:=fp) I6.os I6.base I6.hok I6.bare λb hb=>?_;obtain⟨_,f1,f2,f3,f4,f5⟩:=hf3 b hb;exact⟨f3,f1,f4,f5⟩
   have szle:X.s₀.heap.objs.size<=h2.objs.size:=I3.sz;refine hRR s₂.heap.objs.size h2.objs.size H5 s6 m6 J6 hn6 I6.free (wW I3.lt) (I3.nofs (zU _)) (λp hp z=>?_) (λy c e z=>?_) szle qn
   ·exact absurd (zR (I3.pin p hp).1) (by rw[z];exact vP _)
   ·obtain⟨u,ic⟩:=I3.cell y c e;exact absurd ic.lt (by rw[z];exact vP _)
  ·refine xQ (T.item (ym X (own++N) scope cl h2.objs.size { s₂ with heap:=h2 } H3 fp) rfl rfl rfl mQ i [] s5 _ H5 E' I5 (blk fr5) DD go) (λr s6 hr=>?_) λ_ _ e=>e;obtain⟨u,rfl,h6⟩:=hr;refine xQ h6 (λ_ s7 h7=>?_) λ_ _ e=>e;obtain⟨xv,H7,I7,r7,y7,st7,fr7⟩:=h7;have I7':=I7.pinned (blk fr7) (T.obj _ _ st7);refine xQ (hg _ _ _ _ _ s7 _ H7 xv u _ I7' r7 (step τ xv H7 hτ y7)) (λ_ s8 h8=>?_) λ_ _ e=>e.elim;obtain⟨σ8,H8,I8,⟨τ',rfl,hτ'⟩,q8⟩:=h8;refine xQ (ht _ _ _ _ _ s8 _ H8 _ I8 q8) (λok s9 h9=>?_) λ_ _ e=>e.elim;obtain⟨H9,I9,q9⟩:=h9;have HM:∀(mT:Hp)(oP:Shared)(Cu:List V)(m':Nat),Inv (ym X (own++N) scope cl h2.objs.size { s₂ with heap:=h2 } H3 fp) ([]++ls fp s7.heap) (τ'++ixs.map (gv σ)) mT oP->m'<n->W (i+1) m' Cu mT ->
     ∃m,m<n/\∃i τ ys H',τ.length=own.length/\Inv (ym X (own++N) scope cl h2.objs.size { s₂ with heap:=h2 } H3 fp) [] (τ++ixs.map (gv σ)) H' oP/\tn i oP.heap/\(∀b∈fp,H' b=none)/\W i m ys H':=λmT oP Cu m' HU qU w10=>by
    refine⟨m',qU,i+1,τ',Cu,mT,hτ',HU.unpinned (pins:=[]),T.keep _ _ _ st7 λb hb o e=>(HU.pin (b,o) (yP _ (yP _ (uq hb e)))).1,λb hb=>?_,w10⟩;obtain⟨o,e,d⟩:=T.obj _ _ st7 b hb;exact(HU.pin (b,o) (yP _ (yP _ (uq hb e)))).2.1
   cases ok with
   |true =>
    simp only[if_true]at q9 ⊢;refine xQ (he _ _ _ _ _ s9 _ H9 _ I9 q9) (λy oP DY=>?_) λ_ _ e=>e.elim;obtain⟨yv,mT,HU,r10,hD10,m',qU,w10⟩:=DY;refine xQ (gx (X:=ym X (own++N) scope cl h2.objs.size { s₂ with heap:=h2 } H3 fp) _ oP _ mT (.ref s₂.heap.objs.size) [yv] (.ref s₂.heap.objs.size) [y] (λv' H'=>H'=upd mT s₂.heap.objs.size (.lst (ys++[yv]))) HU rfl (.cons r10 .nil) ⟨_,ys,yv,rfl,rfl,hD10,hz,rfl⟩) (λ_ BO h11=>?_) λ_ _ e=>e.elim;obtain⟨_,H11,I11,_,rfl⟩:=h11;exact HM _ _ _ m' I11 qU w10
   |false =>
    simp only[Bool.false_eq_true,if_false]at q9 ⊢;obtain⟨m',qU,w10⟩:=q9;exact HM _ _ _ m' I9 qU w10
 exact codeAny_compStart_list (loop _ rfl) (T.self _ 0 _ _ _ st4 (loop _ rfl))
theorem Wh{pins:List (Addr×Obj)}{σ:St}{H:Hp}{s:Shared}{C:Addr}{Cd:Heap}(I:Inv X pins σ H s)(hC:H C=none)(hL:C≠X.env.locals)(hp:∀p∈X.pn++pins,p.1≠C)(hc:∀y c,X.env.cells.lookup y=some c->c≠C)(h0:X.s₀.heap.objs.size<=C)
  (hs:∀b o,b≠C->s.heap.get? b=some o->Cd.get? b=some o):Inv X pins σ H { s with heap:=Cd } :=
 I.turned (t':=s.toks) hs hC hL (.inr h0) hc hp
theorem Qz{gJ iter tg:Expr}{gI:List Expr}{ixs:List Nat}{wi:TI}{g:TG}{tt:Addr->Shared->Hp->List Addr->TT}{te:Addr->Shared->Hp->List Addr->TE}{pos:Pos}
  (k:CompOk X own N scope cl) (mQ:X.calm=true) (hi:PI X tg iter wi)
  (hg:∀(C:Addr)(s₀:Shared)(H₀:Hp)(ex:List Addr),PG (ym X (own++N) scope cl C s₀ H₀ ex) tg g) (ht:∀(C:Addr)(s₀:Shared)(H₀:Hp)(ex:List Addr),PIf (ym X (own++N) scope cl C s₀ H₀ ex) gI (tt C s₀ H₀ ex))
  (he:∀(C:Addr)(s₀:Shared)(H₀:Hp)(ex:List Addr),PE (ym X (own++N) scope cl C s₀ H₀ ex) gJ (te C s₀ H₀ ex))
  (hx:ixs.map (λi=>X.N[i]?)=N.map some)
  (hs:∀x,foldedSetIterable iter X.env x=pure x:=by intro _;rfl):PE X (.ListComp gJ [⟨tg,iter,gI,0⟩] scope pos) (i6 own.length ixs wi g tt te):=by
 intro pins s σ H Q I h;rw[eval_ListComp];refine wpAny_comprehension_free (use:=none) rfl hs k.clos k.kind k.names (thn (hi pins s σ H _ I h) λv s1 h1=>thn h1 λitv s2 h2=>?_);obtain⟨it,fp,tn,J,H2,rfl,I2,T,Eo,f2,q⟩:=h2;refine ka (RR:=λaK C=>compPost (model X.prog X.w) X.A X.xe none (EP X pins σ Q) aK C) k mQ (Qf hx) (X4 hx) hg ht he I2 T Eo f2 q ?_;intro D C H' s' m J' hn hC hL hfs hp hc h0 q';exact⟨m,hn,λCd CJ=>⟨.ref D,H',Wh J' hC hL hp hc h0 (λb o hb e=>CJ.extBut b o hb e),rfl,q'⟩⟩
def Qx(i:Nat)(t:TE):TS:=λD σ H=>t σ H λx H1=>D.nx (sv σ i x) H1
theorem Uy(i:Nat){gJ iter tg:Expr}{gI:List Expr}{y:Str}{py:Pos}{ixs:List Nat}{wi:TI}{g:TG}{tt:Addr->Shared->Hp->List Addr->TT}{te:Addr->Shared->Hp->List Addr->TE}{pos Aa:Pos}(hN:X.N.Nodup)
  (k:CompOk X own N scope cl) (mQ:X.calm=true) (hi:PI X tg iter wi)
  (hg:∀(C:Addr)(s₀:Shared)(H₀:Hp)(ex:List Addr),PG (ym X (own++N) scope cl C s₀ H₀ ex) tg g) (ht:∀(C:Addr)(s₀:Shared)(H₀:Hp)(ex:List Addr),PIf (ym X (own++N) scope cl C s₀ H₀ ex) gI (tt C s₀ H₀ ex))
  (he:∀(C:Addr)(s₀:Shared)(H₀:Hp)(ex:List Addr),PE (ym X (own++N) scope cl C s₀ H₀ ex) gJ (te C s₀ H₀ ex))
  (hx:ixs.map (λi=>X.N[i]?)=N.map some)
  (hy:X.N[i]?=some y:=by rfl) (oQ:X.env.scope.names.lookup y=some .local:=by rfl)
  (hsw:swapsWith (.ListComp gJ [⟨tg,iter,gI,0⟩] scope pos) (some (.Name y py)) Aa.line X.env=pure true:=by rfl)
  (hs:∀x,foldedSetIterable iter X.env x=pure x:=by intro _;rfl):PS X (.Assign [.Name y py] (.ListComp gJ [⟨tg,iter,gI,0⟩] scope pos) Aa) (Qx i (i6 own.length ixs wi g tt te)):=by
 intro pins s σ H D I h;rw[exec_Assign_Name_used _ _ _ _ hsw];refine zZ (wpAny_standAt (zZ ?_));show wpAny _ X.A (do let _ <-comprehension (.ListComp gJ [⟨tg,iter,gI,0⟩] scope pos) scope X.env _ (newList []) false (eval iter X.env) (some (assign (.Name y py) X.env))) _ _ s;refine zZ (xQ (wpAny_comprehension_free (use:=some (assign (.Name y py) X.env)) (Q:=λ_ s'=>SP X pins D .next s') rfl hs k.clos k.kind k.names (thn (hi pins s σ H _ I h) λv s1 h1=>thn h1 λitv s2 h2=>?_)) (λ_ s' hq=>zW (zW hq)) λ_ _ e=>e);obtain⟨it,fp,tn,J,H2,rfl,I2,T,Eo,f2,q⟩:=h2;refine ka (Q:=λx H1=>D.nx (sv σ i x) H1) (RR:=λaK C=>compPost (model X.prog X.w) X.A X.xe (some (assign (.Name y py) X.env)) (λ_ s'=>SP X pins D .next s') aK C) k mQ (Qf hx) (X4 hx) hg ht he I2 T Eo f2 q ?_;intro L C H' s' m J' hn hC hL hfs hp hc h0 q';obtain⟨o,es,ep,ho,hd,hk,hm⟩:=id hn;have J2:Inv X (pins++[(C,o)]) σ H' s':=J'.pins_of λp rM=>(zE.mp rM).elim (λz=>J'.pin p (yP _ z)) λz=>by
  have e:p=(C,o):=by simpa using z
  subst e;exact⟨ho,hC,hL,hfs,λv z=>by rw[hd]at z;cases z⟩
 have hg:PG X (.Name y py) (mG i):=wg i hN hy (.inl oQ) (.inr oQ);show wpAny (model X.prog X.w) X.A (assign (.Name y py) X.env (.ref L)) _ _ s';refine thn (hg _ s' σ H' (.ref L) (.ref L) D.nx J2 rfl q') λ_ s3 h3=>?_;obtain⟨σ3,H3,I3,q3⟩:=h3;have pc:=I3.pin (C,o) (yP _ (yP _ (zN.mpr rfl)));refine⟨m,⟨o,es,ep,pc.1,hd,hk,hm⟩,λCd CJ=>⟨σ3,H3,?_,q3⟩⟩;exact Wh (I3.unpinned) pc.2.1 hL hp hc h0 (λb ob hb e=>CJ.extBut b ob hb e)
end
def CN(n i:Nat)(P:Prop):Prop:=∃m':Nat,m'<n-i/\m'=n-(i+1)/\i+1<=n/\P
theorem CN.mk{n i:Nat}{P:Prop}(h:i<n)(p:P):CN n i P:=⟨n-(i+1),by lia,rfl,h,p⟩
theorem Yt{τ:St}(h:τ.length=1):∃t,τ=[t]:=by
 match τ,h with
 |[t],_=>exact⟨t,rfl⟩
theorem Zm{τ:St}(h:τ.length=2):∃t u,τ=[t,u]:=by
 match τ,h with
 |[t,u],_=>exact⟨t,u,rfl⟩
def mG2(K:W.Frag)(i j:Nat):TG:=λv σ H Q=>∃a x y,v = .ref a/\SqT K H a [x,y]/\Q (sv (sv σ i x) j y) H
def oh(tt:TT)(te:TE)(σ:St)(D:Addr)(n i:Nat)(ys:List V)(P:List V->Hp->Prop)(H:Hp):Prop :=
 tt σ H λb H4=>if b=true then te σ H4 λy H5=>H5 D=some (.lst ys)/\CN n i (P (ys++[y]) (upd H5 D (.lst (ys++[y]))))else CN n i (P ys H4)
theorem uy{J:It}{n:Nat}{no:Nat}{g:TG}{tt:TT}{te:TE}{ρ:St}{Q:VK}{H1:Hp}(Pv:Addr->Nat->List V->Hp->Prop)(hsz:n<=sizeLine)
  (h0:∀D H2,H1 D=none->Same H1 H2->H2 D=some (.lst [])->Pv D 0 [] H2)
  (hl:∀D i ys H,i<=n->Pv D i ys H->H D=some (.lst ys)/\ys.length<=i)
  (hgo:∀D i ys H,i<n->Pv D i ys H->J.go i H) (FG:∀D ys H,Pv D n ys H->J.stop n H)
  (hs:∀D i v ys H H' (τ:St),i<n->τ.length=no->Pv D i ys H->J.yld i H v H'->g v (τ++ρ) H' fun σ2 H3=>(∃τ':St,σ2=τ'++ρ/\τ'.length=no)/\oh tt te σ2 D n i ys (Pv D (i+1)) H3)
  (hd:∀D ys H,Pv D n ys H->Q (.ref D) H):uw no g tt te ρ J Q H1:=by
 intro D H2 n2 s2 e2;refine⟨λi m ys H=>m=n-i/\i<=n/\Pv D i ys H,⟨n,by simp,yQ _,h0 D H2 n2 s2 e2⟩,?_⟩;rintro i m ys H ⟨rfl,hi,p⟩;obtain⟨eD,ly⟩:=hl D i ys H hi p;refine⟨eD,?_⟩
 by_cases aO:i<n
 ·refine .inr ⟨hgo D i ys H aO p,by lia,fun τ v H'' hτ y=>?_⟩;exact hs D i v ys H H'' τ aO hτ p y
 ·have e:i=n:=by lia
  subst e;exact .inl ⟨FG D ys H p,hd D ys H p⟩
theorem vw{K:W.Frag}{a:Addr}{xs:List V}{tt:TT}{te:TE}{ρ:St}{Q:VK}{H1:Hp}(Pv:Addr->Nat->List V->Hp->Prop)(hsz:xs.length<=sizeLine)
  (h0:∀D H2,H1 D=none->Same H1 H2->H2 D=some (.lst [])->Pv D 0 [] H2)
  (hl:∀D i ys H,Pv D i ys H->SqT K H a xs/\H D=some (.lst ys)/\ys.length<=i)
  (hs:∀D i v ys H,xs[i]?=some v->Pv D i ys H->oh tt te (some v :: ρ) D xs.length i ys (Pv D (i+1)) H)
  (hd:∀D ys H,Pv D xs.length ys H->Q (.ref D) H):uw 1 (mG 0) tt te ρ (Itt K a) Q H1 :=
 uy Pv hsz h0 (λD i ys H _ p=>(hl D i ys H p).2) (λD i ys H hi p=>⟨xs,xs[i],(hl D i ys H p).1,by simp[hi]⟩) (λD ys H p=>⟨xs,(hl D _ ys H p).1,zU _⟩) (λD i v ys H H' τ hi hτ p y=>by
  obtain⟨t,rfl⟩:=Yt hτ;obtain⟨e,y⟩:=y;subst e;exact⟨⟨[some v],rfl,rfl⟩,hs D i v ys _ (y xs (hl D i ys _ p).1) p⟩) hd
theorem fz{K:W.Frag}{a:Addr}{xs:List V}{tt:TT}{te:TE}{ρ:St}{Q:VK}{H1:Hp}(Pv:Addr->Nat->List V->Hp->Prop)(hsz:xs.length<=sizeLine)
  (h0:∀D H2,H1 D=none->Same H1 H2->H2 D=some (.lst [])->Pv D 0 [] H2)
  (hl:∀D i ys H,Pv D i ys H->SqL K H a xs/\H D=some (.lst ys)/\ys.length<=i)
  (hs:∀D i v ys H,xs[i]?=some v->Pv D i ys H->oh tt te (some v :: ρ) D xs.length i ys (Pv D (i+1)) H)
  (hd:∀D ys H,Pv D xs.length ys H->Q (.ref D) H):uw 1 (mG 0) tt te ρ (Itl K a) Q H1 :=
 uy Pv hsz h0 (λD i ys H _ p=>(hl D i ys H p).2) (λD i ys H hi p=>⟨xs,xs[i],(hl D i ys H p).1,by simp[hi]⟩) (λD ys H p=>⟨xs,(hl D _ ys H p).1,zU _⟩) (λD i v ys H H' τ hi hτ p y=>by
  obtain⟨t,rfl⟩:=Yt hτ;obtain⟨e,y⟩:=y;subst e;exact⟨⟨[some v],rfl,rfl⟩,hs D i v ys _ (y xs (hl D i ys _ p).1) p⟩) hd
theorem oi{lo:Int}{n:Nat}{tt:TT}{te:TE}{ρ:St}{Q:VK}{H1:Hp}(Pv:Addr->Nat->List V->Hp->Prop)(hsz:n<=sizeLine)
  (h0:∀D H2,H1 D=none->Same H1 H2->H2 D=some (.lst [])->Pv D 0 [] H2)
  (hl:∀D i ys H,Pv D i ys H->H D=some (.lst ys)/\ys.length<=i)
  (hs:∀D i ys H,i<n->Pv D i ys H->oh tt te (some (.int (lo+i)) :: ρ) D n i ys (Pv D (i+1)) H)
  (hd:∀D ys H,Pv D n ys H->Q (.ref D) H):uw 1 (mG 0) tt te ρ (Itr lo n) Q H1 :=
 uy Pv hsz h0 (λD i ys H _ p=>hl D i ys H p) (λD i ys H hi p=>hi) (λD ys H p=>zU _) (λD i v ys H H' τ hi hτ p y=>by
  obtain⟨t,rfl⟩:=Yt hτ;obtain⟨e,y⟩:=y;subst e y;exact⟨⟨[_],rfl,rfl⟩,hs D i ys _ hi p⟩) hd
theorem Ts{K:W.Frag}{a:Addr}{xs:List V}{tt:TT}{te:TE}{ρ:St}{Q:VK}{H1:Hp}(Pv:Addr->Nat->List V->Hp->Prop)(hsz:xs.length<=sizeLine)
  (h0:∀D H2,H1 D=none->Same H1 H2->H2 D=some (.lst [])->Pv D 0 [] H2)
  (hl:∀D i ys H,Pv D i ys H->SqL K H a xs/\H D=some (.lst ys)/\ys.length<=i)
  (hs:∀D i v ys H,xs[i]?=some v->Pv D i ys H->∃b x y,v = .ref b/\SqT K H b [x,y]/\oh tt te (some x::some y :: ρ) D xs.length i ys (Pv D (i+1)) H)
  (hd:∀D ys H,Pv D xs.length ys H->Q (.ref D) H):uw 2 (mG2 K 0 1) tt te ρ (Itl K a) Q H1 :=
 uy Pv hsz h0 (λD i ys H _ p=>(hl D i ys H p).2) (λD i ys H hi p=>⟨xs,xs[i],(hl D i ys H p).1,by simp[hi]⟩) (λD ys H p=>⟨xs,(hl D _ ys H p).1,zU _⟩) (λD i v ys H H' τ hi hτ p y=>by
  obtain⟨t,u,rfl⟩:=Zm hτ;obtain⟨e,y⟩:=y;subst e;obtain⟨b,x1,y1,e1,h1,h2⟩:=hs D i v ys _ (y xs (hl D i ys _ p).1) p;exact⟨b,x1,y1,e1,h1,⟨[some x1,some y1],rfl,rfl⟩,h2⟩) hd
theorem vp{K:W.Frag}{a:Addr}{xs:List V}{te:TE}{ρ:St}{Q:VK}{H1:Hp}(Pv:Addr->Nat->List V->Hp->Prop)(hsz:xs.length<=sizeLine)
  (h0:∀D H2,H1 D=none->Same H1 H2->H2 D=some (.lst [])->Pv D 0 [] H2)
  (hl:∀D i ys H,Pv D i ys H->SqT K H a xs/\H D=some (.lst ys)/\ys.length=i)
  (hs:∀D i v ys H,xs[i]?=some v->Pv D i ys H->te (some v :: ρ) H λy H3=>H3 D=some (.lst ys)/\CN xs.length i (Pv D (i+1) (ys++[y]) (upd H3 D (.lst (ys++[y])))))
  (hd:∀D ys H,Pv D xs.length ys H->Q (.ref D) H):uw 1 (mG 0) i7 te ρ (Itt K a) Q H1:=vw Pv hsz h0 (λD i ys H p=>let⟨a1,a2,a3⟩:=hl D i ys H p;⟨a1,a2,vN a3⟩) hs hd
theorem vo{K:W.Frag}{a:Addr}{xs:List V}{te:TE}{ρ:St}{Q:VK}{H1:Hp}(Pv:Addr->Nat->List V->Hp->Prop)(hsz:xs.length<=sizeLine)
  (h0:∀D H2,H1 D=none->Same H1 H2->H2 D=some (.lst [])->Pv D 0 [] H2)
  (hl:∀D i ys H,Pv D i ys H->SqL K H a xs/\H D=some (.lst ys)/\ys.length=i)
  (hs:∀D i v ys H,xs[i]?=some v->Pv D i ys H->te (some v :: ρ) H λy H3=>H3 D=some (.lst ys)/\CN xs.length i (Pv D (i+1) (ys++[y]) (upd H3 D (.lst (ys++[y])))))
  (hd:∀D ys H,Pv D xs.length ys H->Q (.ref D) H):uw 1 (mG 0) i7 te ρ (Itl K a) Q H1:=fz Pv hsz h0 (λD i ys H p=>let⟨a1,a2,a3⟩:=hl D i ys H p;⟨a1,a2,vN a3⟩) hs hd
theorem yc{lo:Int}{n:Nat}{te:TE}{ρ:St}{Q:VK}{H1:Hp}(Pv:Addr->Nat->List V->Hp->Prop)(hsz:n<=sizeLine)
  (h0:∀D H2,H1 D=none->Same H1 H2->H2 D=some (.lst [])->Pv D 0 [] H2)
  (hl:∀D i ys H,Pv D i ys H->H D=some (.lst ys)/\ys.length=i)
  (hs:∀D i ys H,i<n->Pv D i ys H->te (some (.int (lo+i)) :: ρ) H λy H3=>H3 D=some (.lst ys)/\CN n i (Pv D (i+1) (ys++[y]) (upd H3 D (.lst (ys++[y])))))
  (hd:∀D ys H,Pv D n ys H->Q (.ref D) H):uw 1 (mG 0) i7 te ρ (Itr lo n) Q H1:=oi Pv hsz h0 (λD i ys H p=>let⟨a1,a2⟩:=hl D i ys H p;⟨a1,vN a2⟩) hs hd
section
variable {X:Cx}{N:List Str}{scope:Scope}{cl:List (Str×Addr)}
theorem W0{x:Str}{px:Pos}(k:CompOk X [x] N scope cl)(C:Addr)(s₀:Shared)(H₀:Hp)(ex:List Addr):PG (ym X ([x]++N) scope cl C s₀ H₀ ex) (.Name x px) (mG 0) :=
 wg 0 k.nd rfl (.inl (vL (k.mine x (zN.mpr rfl)))) (.inr (vL (k.mine x (zN.mpr rfl))))
end
section
variable {X:Cx}
theorem Ws(i j:Nat){x y:Str}{p p' pos:Pos}{k:Nat}(hc:X.calm=true)(hN:X.N.Nodup)(hi:X.N[i]?=some x:=by rfl)(hj:X.N[j]?=some y:=by rfl)(hx:Loc X.env.scope x:=by first|exact Or.inl rfl|exact Or.inr rfl)(hy:Loc X.env.scope y:=by first|exact Or.inl rfl|exact Or.inr rfl)
  (hf:X.fn x=true\/X.env.scope.names.lookup x=some .local:=by first|exact .inl rfl|exact .inr rfl) (hf':X.fn y=true\/X.env.scope.names.lookup y=some .local:=by first|exact .inl rfl|exact .inr rfl)
  (hn:(assignEach [.Name x p,.Name y p'] X.env).length=2:=by rfl) (iD:(assignEach [.Name x p,.Name y p'] X.env).findIdx? (·.1)=none:=by rfl)
  (hs:(assignEach [.Name x p,.Name y p'] X.env).map (·.2)=assign (.Name x p) X.env::(assignEach [.Name y p'] X.env).map (·.2):=by rfl) (hs':(assignEach [.Name y p'] X.env).map (·.2)=assign (.Name y p') X.env::(assignEach [] X.env).map (·.2):=by rfl) :
  PG X (.Tuple [.Name x p,.Name y p'] k pos) (mG2 X.K i j):=by
 intro pins s σ H v u Q I r h;obtain⟨a,x1,y1,rfl,hq,q⟩:=h;exact K8 hc (be (wg i hN hi hx hf) (be (wg j hN hj hy hf') Op hs') hs) hn iD pins s σ H _ u Q I r ⟨a,_,rfl,hq,rfl,x1,_,rfl,y1,_,rfl,rfl,q⟩
variable {N:List Str}{scope:Scope}{cl:List (Str×Addr)}{gJ iter:Expr}{gI:List Expr}{ixs:List Nat}{wi:TI}{tt:Addr->Shared->Hp->List Addr->TT}{te:Addr->Shared->Hp->List Addr->TE}{pos px py pp Aa pt:Pos}{x y z:Str}{kk:Nat}
theorem Oo(k:CompOk X [x,y] N scope cl)(hc:X.calm=true)(C:Addr)(s₀:Shared)(H₀:Hp)(ex:List Addr):PG (ym X ([x,y]++N) scope cl C s₀ H₀ ex) (.Tuple [.Name x px,.Name y py] kk pp) (mG2 X.K 0 1) :=
 Ws (X:=ym X ([x,y]++N) scope cl C s₀ H₀ ex) 0 1 hc k.nd rfl rfl (.inl (vL (k.mine x (by simp)))) (.inl (vL (k.mine y (by simp)))) (.inr (vL (k.mine x (by simp)))) (.inr (vL (k.mine y (by simp))))
theorem yl(k:CompOk X [x] N scope cl)(hc:X.calm=true)(hi:PI X (.Name x px) iter wi)(ht:∀(C:Addr)(s₀:Shared)(H₀:Hp)(ex:List Addr),PIf (ym X ([x]++N) scope cl C s₀ H₀ ex) gI (tt C s₀ H₀ ex))
  (he:∀(C:Addr)(s₀:Shared)(H₀:Hp)(ex:List Addr),PE (ym X ([x]++N) scope cl C s₀ H₀ ex) gJ (te C s₀ H₀ ex)) (hx:ixs.map (λi=>X.N[i]?)=N.map some) (hs:∀x,foldedSetIterable iter X.env x=pure x:=by intro _;rfl) :
  PE X (.ListComp gJ [⟨.Name x px,iter,gI,0⟩] scope pos) (i6 1 ixs wi (mG 0) tt te):=Qz k hc hi (W0 k) ht he hx hs
theorem nh(k:CompOk X [x,y] N scope cl)(hc:X.calm=true)(hi:PI X (.Tuple [.Name x px,.Name y py] kk pp) iter wi)(ht:∀(C:Addr)(s₀:Shared)(H₀:Hp)(ex:List Addr),PIf (ym X ([x,y]++N) scope cl C s₀ H₀ ex) gI (tt C s₀ H₀ ex))
  (he:∀(C:Addr)(s₀:Shared)(H₀:Hp)(ex:List Addr),PE (ym X ([x,y]++N) scope cl C s₀ H₀ ex) gJ (te C s₀ H₀ ex)) (hx:ixs.map (λi=>X.N[i]?)=N.map some) (hs:∀x,foldedSetIterable iter X.env x=pure x:=by intro _;rfl) :
  PE X (.ListComp gJ [⟨.Tuple [.Name x px,.Name y py] kk pp,iter,gI,0⟩] scope pos) (i6 2 ixs wi (mG2 X.K 0 1) tt te):=Qz k hc hi (Oo k hc) ht he hx hs
theorem xr(i:Nat)(hN:X.N.Nodup)(k:CompOk X [x] N scope cl)(hc:X.calm=true)(hi:PI X (.Name x px) iter wi)(ht:∀(C:Addr)(s₀:Shared)(H₀:Hp)(ex:List Addr),PIf (ym X ([x]++N) scope cl C s₀ H₀ ex) gI (tt C s₀ H₀ ex))
  (he:∀(C:Addr)(s₀:Shared)(H₀:Hp)(ex:List Addr),PE (ym X ([x]++N) scope cl C s₀ H₀ ex) gJ (te C s₀ H₀ ex)) (hx:ixs.map (λi=>X.N[i]?)=N.map some) (hy:X.N[i]?=some z:=by rfl) (oQ:X.env.scope.names.lookup z=some .local:=by rfl)
  (hsw:swapsWith (.ListComp gJ [⟨.Name x px,iter,gI,0⟩] scope pos) (some (.Name z pt)) Aa.line X.env=pure true:=by rfl) (hs:∀x,foldedSetIterable iter X.env x=pure x:=by intro _;rfl) :
  PS X (.Assign [.Name z pt] (.ListComp gJ [⟨.Name x px,iter,gI,0⟩] scope pos) Aa) (Qx i (i6 1 ixs wi (mG 0) tt te)):=Uy i hN k hc hi (W0 k) ht he hx hy oQ hsw hs
end
end My
namespace My
open PySem PySem.Spec L2
open PyProof.Rows hiding St
section
variable {X:Cx}
theorem uu:∀{bs:List Bool}{us:List Value},Vals (bs.map V.bl) us->us=bs.map Value.bool
 |[],us,r=>by cases r;rfl
 |b::bs,us,r=>by
  rw[List.map_cons]at r;cases r with
  |cons r1 r2 =>
   have e:_=Value.bool b:=r1;rw[e,uu r2]
   rfl
theorem Po{bs:List Bool}{i:Nat}(hi:i<bs.length)(h:∀j,j<=bs.length-1->b2i (bs.getD i false)<=b2i (bs.getD j false)):bs.getD i false=bs.all id:=by
 cases e:bs.all id with
 |true =>
  rw[yD]at e;have:=e (bs[i]) (vS hi);simpa[zB,hi]using this
 |false =>
  rw[List.all_eq_false]at e;obtain⟨x,hx,hn⟩:=e;obtain⟨j,hj,rfl⟩:=List.mem_iff_getElem.mp hx;have h1:=h j (by lia);have e2:bs.getD j false=false:=by simpa[zB,hj]using hn
  rw[e2]at h1;cases e3:bs.getD i false with
  |false=>rfl
  |true=>rw[e3]at h1;exact absurd h1 (by decide)
theorem Pp{bs:List Bool}{i:Nat}(hi:i<bs.length)(h:∀j,j<=bs.length-1->b2i (bs.getD j false)<=b2i (bs.getD i false)):bs.getD i false=bs.any id:=by
 cases e:bs.any id with
 |false =>
  rw[List.any_eq_false]at e;have:=e (bs[i]) (vS hi);simpa[zB,hi]using this
 |true =>
  rw[xU]at e;obtain⟨x,hx,hn⟩:=e;obtain⟨j,hj,rfl⟩:=List.mem_iff_getElem.mp hx;have h1:=h j (by lia);have e2:bs.getD j false=true:=by simpa[zB,hj]using hn
  rw[e2]at h1;cases e3:bs.getD i false with
  |true=>rfl
  |false=>rw[e3]at h1;exact absurd h1 (by decide)
def mMM(gi:Int->Int->Int)(gb:List Bool->Bool)(K:W.Frag):List V->Hp->VK->Prop:=λxs H Q=>match xs with
 |[.int i,.int j]=>Q (.int (gi i j)) H
 |[.ref p]=>∃bs:List Bool,SqL K H p (bs.map V.bl)/\0<bs.length/\Q (.bl (gb bs)) H
 |_=>False
theorem Mp(hc:X.calm=true):wo X (.builtin "min") (mMM (λi j=>if j<i then j else i) (λbs=>bs.all id) X.K):=by
 intro pins s σ H xs us Q I r h
 match xs,h with
 |[.int i,.int j],h=>exact Tq hc pins s σ H _ us Q I r ⟨i,j,rfl,h⟩
 |[.ref p],h =>
  obtain⟨bs,hq,bZ,q⟩:=(show∃bs:List Bool,SqL X.K H p (bs.map V.bl)/\0<bs.length/\Q (.bl (bs.all id)) H from h)
  obtain⟨u,rfl,rx⟩:=vk r;cases rx;obtain⟨aE,rv,pl,hz⟩:=I.list hq;have e:=uu rv;subst e;have aO:p<s.heap.objs.size:=by obtain⟨o,e,_⟩:=pl.isList;exact zR e
  refine call_min_walk (sS pl.isList ?_);refine⟨s.heap.objs.size,_,_,_,_,_,λi j=>decide (b2i (bs.getD i false)<b2i (bs.getD j false)),rfl,Walks.list (A:=X.A.in1) (I.ok.hd hc) _ p (zG aO) (bs.map Value.bool).toArray,⟨⟨_,zT _ rfl,rfl,rfl⟩,pl.isList.push _⟩,λb hb=>?_,by simpa using bZ,?_,λv h' tk hP hk=>?_⟩
  ·show b<(s.heap.push _).objs.size;rw[xT];rcases zL.mp hb with rfl|hb
   ·exact yE _
   ·rw[zN.mp hb];exact xJ aO
  ·intro i j vi vj s' Q' E' hi hj hQ;have ei:vi = .bool (bs.getD i false):=by
    have:(bs[i]?).map Value.bool=some vi:=by simpa using hi
    cases e:bs[i]? with
    |none=>rw[e]at this;cases this
    |some b=>rw[e]at this;rw[zB,e];exact(yY this).symm
   have ej:vj = .bool (bs.getD j false):=by
    have:(bs[j]?).map Value.bool=some vj:=by simpa using hj
    cases e:bs[j]? with
    |none=>rw[e]at this;cases this
    |some b=>rw[e]at this;rw[zB,e];exact(yY this).symm
   subst ei ej;exact lt_bool hQ
  ·obtain⟨h1,h2⟩:=argBest_lt (λi=>b2i (bs.getD i false)) ((bs.map Value.bool).toArray.size-1);have hsz:(bs.map Value.bool).toArray.size=bs.length:=by simp
   rw[hsz]at h1 h2 hP;have hb:=Po (bs:=bs) (i:=argBest (λi j=>decide (b2i (bs.getD i false)<b2i (bs.getD j false))) (bs.length-1)) (by lia) (λj hj=>h2 j hj);have ev:v = .bool (bs.all id):=by
    have h3:(bs[argBest (λi j=>decide (b2i (bs.getD i false)<b2i (bs.getD j false))) (bs.length-1)]?).map Value.bool=some v:=by simpa using hP
    rw[zB]at hb;cases e:bs[argBest (λi j=>decide (b2i (bs.getD i false)<b2i (bs.getD j false))) (bs.length-1)]? with
    |none=>rw[e]at h3;cases h3
    |some b=>rw[e]at h3 hb;rw[<-hb];exact(yY h3).symm
   subst ev;refine⟨.bl (bs.all id),H,?_,rfl,q⟩;exact I.kept λb o e=>hk b o (λz=>absurd (zR e) (by rw[zN.mp z];exact vP _)) (zX _ e)
theorem Hg(hc:X.calm=true):wo X (.builtin "max") (mMM (λi j=>if j>i then j else i) (λbs=>bs.any id) X.K):=by
 intro pins s σ H xs us Q I r h
 match xs,h with
 |[.int i,.int j],h=>exact Tp hc pins s σ H _ us Q I r ⟨i,j,rfl,h⟩
 |[.ref p],h =>
  obtain⟨bs,hq,bZ,q⟩:=(show∃bs:List Bool,SqL X.K H p (bs.map V.bl)/\0<bs.length/\Q (.bl (bs.any id)) H from h)
  obtain⟨u,rfl,rx⟩:=vk r;cases rx;obtain⟨aE,rv,pl,hz⟩:=I.list hq;have e:=uu rv;subst e;have aO:p<s.heap.objs.size:=by obtain⟨o,e,_⟩:=pl.isList;exact zR e
  refine call_max_walk (sS pl.isList ?_);refine⟨s.heap.objs.size,_,_,_,_,_,λi j=>decide (b2i (bs.getD i false)>b2i (bs.getD j false)),rfl,Walks.list (A:=X.A.in1) (I.ok.hd hc) _ p (zG aO) (bs.map Value.bool).toArray,⟨⟨_,zT _ rfl,rfl,rfl⟩,pl.isList.push _⟩,λb hb=>?_,by simpa using bZ,?_,λv h' tk hP hk=>?_⟩
  ·show b<(s.heap.push _).objs.size;rw[xT];rcases zL.mp hb with rfl|hb
   ·exact yE _
   ·rw[zN.mp hb];exact xJ aO
  ·intro i j vi vj s' Q' E' hi hj hQ;have ei:vi = .bool (bs.getD i false):=by
    have:(bs[i]?).map Value.bool=some vi:=by simpa using hi
    cases e:bs[i]? with
    |none=>rw[e]at this;cases this
    |some b=>rw[e]at this;rw[zB,e];exact(yY this).symm
   have ej:vj = .bool (bs.getD j false):=by
    have:(bs[j]?).map Value.bool=some vj:=by simpa using hj
    cases e:bs[j]? with
    |none=>rw[e]at this;cases this
    |some b=>rw[e]at this;rw[zB,e];exact(yY this).symm
   subst ei ej;exact gt_bool hQ
  ·obtain⟨h1,h2⟩:=argBest_gt (λi=>b2i (bs.getD i false)) ((bs.map Value.bool).toArray.size-1);have hsz:(bs.map Value.bool).toArray.size=bs.length:=by simp
   rw[hsz]at h1 h2 hP;have hb:=Pp (bs:=bs) (i:=argBest (λi j=>decide (b2i (bs.getD i false)>b2i (bs.getD j false))) (bs.length-1)) (by lia) (λj hj=>h2 j hj);have ev:v = .bool (bs.any id):=by
    have h3:(bs[argBest (λi j=>decide (b2i (bs.getD i false)>b2i (bs.getD j false))) (bs.length-1)]?).map Value.bool=some v:=by simpa using hP
    rw[zB]at hb;cases e:bs[argBest (λi j=>decide (b2i (bs.getD i false)>b2i (bs.getD j false))) (bs.length-1)]? with
    |none=>rw[e]at h3;cases h3
    |some b=>rw[e]at h3 hb;rw[<-hb];exact(yY h3).symm
   subst ev;refine⟨.bl (bs.any id),H,?_,rfl,q⟩;exact I.kept λb o e=>hk b o (λz=>absurd (zR e) (by rw[zN.mp z];exact vP _)) (zX _ e)
theorem Ip{gi:Int->Int->Int}{gb:List Bool->Bool}{K:W.Frag}{H:Hp}{Q:VK}{i j:Int}:mMM gi gb K [.int i,.int j] H Q=Q (.int (gi i j)) H:=rfl
theorem Iq{gi:Int->Int->Int}{gb:List Bool->Bool}{K:W.Frag}{H:Hp}{Q:VK}{p:Addr}:mMM gi gb K [.ref p] H Q=(∃bs:List Bool,SqL K H p (bs.map V.bl)/\0<bs.length/\Q (.bl (gb bs)) H):=rfl
theorem jb:∀{ss:List Str}{us:List Value},Vals (ss.map V.str) us->StrsAre us ss
 |[],us,r=>by cases r;exact .nil
 |x::ss,us,r=>by
  rw[List.map_cons]at r;cases r with
  |cons r1 r2 =>
   obtain⟨t,rfl⟩:=r1;exact .cons x t (jb r2)
theorem i5:∀{us:List Value}{ss:List Str},StrsAre us ss->Vals (ss.map V.str) us
 |_,_,.nil=>.nil
 |_,_,.cons x t h=>.cons ⟨t,rfl⟩ (i5 h)
end
end My
namespace My
open PySem PySem.Spec L2
open PyProof.Rows hiding St
theorem ze:bootBuiltins "len"=some (.builtin "len"):=by decide +kernel
theorem Js:bootBuiltins "max"=some (.builtin "max"):=by decide +kernel
theorem cv:bootBuiltins "min"=some (.builtin "min"):=by decide +kernel
theorem ux:bootBuiltins "sorted"=some (.builtin "sorted"):=by decide +kernel
theorem zn:bootBuiltins "isinstance"=some (.builtin "isinstance"):=by decide +kernel
theorem qb:bootBuiltins "list"=some (.type "list"):=by decide +kernel
theorem zc:bootBuiltins "tuple"=some (.type "tuple"):=by decide +kernel
theorem Ps:bootBuiltins "set"=some (.type "set"):=by decide +kernel
theorem Xs:bootBuiltins "int"=some (.type "int"):=by decide +kernel
theorem m5:bootBuiltins "bool"=some (.type "bool"):=by decide +kernel
theorem w01:decide (Str.ofString "letter"=Str.ofString "not")=false:=by decide +kernel
theorem w02:decide (Str.ofString "letter"=Str.ofString "and")=false:=by decide +kernel
theorem w03:decide (Str.ofString "letter"=Str.ofString "or")=false:=by decide +kernel
theorem w04:decide (Str.ofString "letter"=Str.ofString "if")=false:=by decide +kernel
theorem w10:decide (Str.ofString "not"=Str.ofString "letter")=false:=by decide +kernel
theorem w12:decide (Str.ofString "not"=Str.ofString "and")=false:=by decide +kernel
theorem w13:decide (Str.ofString "not"=Str.ofString "or")=false:=by decide +kernel
theorem w14:decide (Str.ofString "not"=Str.ofString "if")=false:=by decide +kernel
theorem w20:decide (Str.ofString "and"=Str.ofString "letter")=false:=by decide +kernel
theorem w21:decide (Str.ofString "and"=Str.ofString "not")=false:=by decide +kernel
theorem w23:decide (Str.ofString "and"=Str.ofString "or")=false:=by decide +kernel
theorem w24:decide (Str.ofString "and"=Str.ofString "if")=false:=by decide +kernel
theorem w30:decide (Str.ofString "or"=Str.ofString "letter")=false:=by decide +kernel
theorem w31:decide (Str.ofString "or"=Str.ofString "not")=false:=by decide +kernel
theorem w32:decide (Str.ofString "or"=Str.ofString "and")=false:=by decide +kernel
theorem w34:decide (Str.ofString "or"=Str.ofString "if")=false:=by decide +kernel
theorem w40:decide (Str.ofString "if"=Str.ofString "letter")=false:=by decide +kernel
theorem w41:decide (Str.ofString "if"=Str.ofString "not")=false:=by decide +kernel
theorem w42:decide (Str.ofString "if"=Str.ofString "and")=false:=by decide +kernel
theorem w43:decide (Str.ofString "if"=Str.ofString "or")=false:=by decide +kernel
inductive Op2|con|dis|imp
def Op2.word:Op2->Str
 | .con=>"and"
 | .dis=>"or"
 | .imp=>"if"
def Op2.so:Op2->Bool->Bool->Bool
 | .con,a,b=>a&&b
 | .dis,a,b=>a||b
 | .imp,a,b=>!a||b
inductive Say
 |letter (x:Str)
 |neg (s:Say)
 |bin (o:Op2) (s t:Say)
def Say.pieces:Say->Nat
 | .letter _=>1
 | .neg s=>s.pieces+1
 | .bin _ s t=>s.pieces+t.pieces+1
theorem Say.pieces_pos:∀s:Say,0<s.pieces
 | .letter _=>Nat.one_pos
 | .neg _=>sD _
 | .bin _ _ _=>sD _
def Say.letters:Say->List Str
 | .letter x=>[x]
 | .neg s=>s.letters
 | .bin _ s t=>s.letters++t.letters
def Say.so(hs:List Str):Say->Bool
 | .letter x=>hs.any λy=>y==x
 | .neg s=>!s.so hs
 | .bin o s t=>o.so (s.so hs) (t.so hs)
def SayAt(K:W.Frag)(H:Hp):V->Say->Prop
 |v,.letter x=>∃a,v = .ref a/\SqT K H a [.str "letter",.str x]
 |v,.neg s=>∃a u,v = .ref a/\SqT K H a [.str "not",u]/\SayAt K H u s
 |v,.bin o s t=>∃a u u',v = .ref a/\SqT K H a [.str o.word,u,u']/\SayAt K H u s/\SayAt K H u' t
theorem SayAt.mono{K:W.Frag}{H H':Hp}(t:Tups H H'):∀{s:Say}{v:V},SayAt K H v s->SayAt K H' v s
 | .letter x,v,⟨a,e,h⟩=>⟨a,e,t.sqT h⟩
 | .neg s,v,⟨a,u,e,h,h1⟩=>⟨a,u,e,t.sqT h,SayAt.mono t h1⟩
 | .bin o s r,v,⟨a,u,u',e,h,h1,h2⟩=>⟨a,u,u',e,t.sqT h,SayAt.mono t h1,SayAt.mono t h2⟩
theorem Zv(hs:List Str):(hs.map V.str).all v6=true:=by
 rw[yD];intro x hx;obtain⟨y,_,rfl⟩:=zD.mp hx
 rfl
theorem Wf(x:Str)(hs:List Str):inV (.str x) (hs.map V.str)=hs.any λy=>y==x:=by
 unfold inV;rw[List.any_map]
 rfl
theorem eu(x:Str):PyData.strOk x=true↔∀c∈x.cps.toList,c<0x110000:=by
 unfold PyData.strOk;rw[<-Array.all_toList,yD];exact⟨λh c hc=>yK (h c hc),λh c hc=>zA (h c hc)⟩
theorem qr{x y:Str}(h1:PyData.strOk x=true)(h2:PyData.strOk y=true):PyData.strOk (x++y)=true:=by
 rw[eu]at h1 h2 ⊢;intro c hc;have oS:c∈(x.cps++y.cps).toList:=hc;rw[Array.toList_append]at oS;rcases zE.mp oS with z|z
 ·exact h1 c z
 ·exact h2 c z
theorem ez{x:Str}{c:Nat}(h1:PyData.strOk x=true)(h:c∈x.cps.toList):PyData.strOk ⟨#[c]⟩=true:=by
 rw[eu]at h1 ⊢;intro d hd;have:d=c:=by simpa using hd
 rw[this];exact h1 c h
theorem sy{x:Str}(h1:PyData.strOk x=true)(l u:Option Int):PyData.strOk (Txt.slice x l u)=true:=by
 unfold Txt.slice;split
 ·exact h1
 ·rw[eu]at h1 ⊢;intro c hc;have oS:c∈List.filterMap (λi=>x.cps[i]?) (Builtin.Str.strSliceIndices l u 1 x.length):=by simpa using hc
  obtain⟨i,_,hi⟩:=List.mem_filterMap.mp oS;exact h1 c (by
   have:=Array.mem_of_getElem? hi;simpa using this)
def Nm(x:Str):Prop:=x.length<=20/\PyData.strOk x=true
theorem ge(K:W.Frag)(H:Hp):∀ss:List Str,HasL K H (ss.map V.str) (ss.map PyData.str)
 |[]=>by simp[HasL]
 |x::ss=>by
  have ih:=ge K H ss;rw[List.map_cons,List.map_cons];unfold HasL;exact⟨_,_,rfl,by unfold Has;rfl,ih⟩
theorem qd{d:PyData}(h:SeqAt.shaped d=true):PyData.eqv d d=true:=SeqAt.eqv_refl d (SeqAt.canLay_of_shaped h)
def y8:Int->List Str->List Str
 |_,[]=>[]
 |n,x::r=>if n % 2=1 then x::y8 (n / 2) r else y8 (n / 2) r
theorem wx{P:Program}{w:World}{K:W.Frag}{mg:Str->Option Value}{base:Heap}{x:Str}{st:Stmt}{ps:List Str}{sp:Sp}(F:Def K mg x st ps)(no:∀vs H Q E,¬sp vs H Q E):zz P w K mg base 0 x ps sp:=by
 obtain⟨f,fd,F,b,hm⟩:=F.ex;exact⟨f,fd,⟨λvs H Q E h=>absurd h (no vs H Q E),λA outer s H args us vs Q E _ _ _ _ h=>absurd h (no vs H Q E)⟩,.all b,F.kp,hm⟩
end My
namespace My
open PySem
namespace Tb
open PySem.SetTable
def av(m:Nat)(p:Probe):Probe :=
 if p.more>0 then{ p with j:=p.j+1,more:=p.more-1 }else
 { p with j:=(leap m p.i p.perturb).1,more:=runEnd m (leap m p.i p.perturb).1-(leap m p.i p.perturb).1,i:=(leap m p.i p.perturb).1,perturb:=(leap m p.i p.perturb).2 }
theorem jw(t:SetTable)(p:Probe):t.advance p=av t.mask p:=rfl
def itr(m:Nat):Nat->Probe->Probe
 |0,p=>p
 |k+1,p=>itr m k (av m p)
theorem m9(m:Nat):∀(a b:Nat)(p:Probe),itr m (a+b) p=itr m b (itr m a p)
 |0,b,p=>by rw[sC];rfl
 |a+1,b,p=>by
  rw[show a+1+b=(a+b)+1 by lia];exact m9 m a b (av m p)
theorem kj(m k:Nat)(p:Probe):itr m (k+1) p=av m (itr m k p):=m9 m k 1 p
def hd(m i p:Nat):Probe:={ j:=i,more:=runEnd m i-i,i:=i,perturb:=p,dummy:=none }
def st0(m:Nat)(h:Int):Probe:=hd m (bits h % (m+1)) (bits h)
theorem Sj(m:Nat):∀(r j i p:Nat)(d:Option Nat),itr m r { j:=j,more:=r,i:=i,perturb:=p,dummy:=d }={ j:=j+r,more:=0,i:=i,perturb:=p,dummy:=d }
 |0,_,_,_,_=>rfl
 |r+1,j,i,p,d=>by
  show itr m r (av m { j:=j,more:=r+1,i:=i,perturb:=p,dummy:=d })=_;have e:av m { j:=j,more:=r+1,i:=i,perturb:=p,dummy:=d }={ j:=j+1,more:=r,i:=i,perturb:=p,dummy:=d }:=by
   unfold av;simp
  rw[e,Sj m r,show j+1+r=j+(r+1)by lia]
theorem W5(m i p:Nat):itr m (runEnd m i-i+1) (hd m i p)=hd m (leap m i p).1 (leap m i p).2:=by
 rw[kj];unfold hd;rw[Sj]
 rfl
theorem Oy(m i:Nat):runEnd m i-i+1<=10:=by
 unfold runEnd;split<;>lia
def lp(m:Nat):Nat->Nat×Nat->Nat×Nat
 |0,x=>x
 |n+1,x=>lp m n (leap m x.1 x.2)
theorem Qp(m:Nat):∀(n:Nat)(x:Nat×Nat),∃k,k<=10*n/\itr m k (hd m x.1 x.2)=hd m (lp m n x).1 (lp m n x).2
 |0,x=>⟨0,zU _,rfl⟩
 |n+1,x=>by
  obtain⟨k,hk,e⟩:=Qp m n (leap m x.1 x.2);refine⟨runEnd m x.1-x.1+1+k,by have:=Oy m x.1;lia,?_⟩;rw[m9,W5];exact e
theorem dh(m:Nat):∀(a b:Nat)(x:Nat×Nat),lp m (a+b) x=lp m b (lp m a x)
 |0,b,x=>by rw[sC];rfl
 |a+1,b,x=>by
  rw[show a+1+b=(a+b)+1 by lia];exact dh m a b (leap m x.1 x.2)
theorem X8(m:Nat):∀(n:Nat)(x:Nat×Nat),(lp m n x).2=x.2 / 32 ^ n
 |0,x=>by simp[lp]
 |n+1,x=>by
  show(lp m n (leap m x.1 x.2)).2=_;rw[X8 m n];show x.2 / 32 / 32 ^ n=_;rw[Nat.div_div_eq_div_mul,Nat.pow_succ,Nat.mul_comm]
theorem V2(h:Int):bits h<2 ^ 64:=by
 unfold bits;have h1:0<=h % (2 ^ 64:Int):=uL _ (by decide);have h2:h % (2 ^ 64:Int)<2 ^ 64:=vC _ (by decide);lia
def cy(m:Nat):Nat->Nat->Nat
 |0,i=>i
 |n+1,i=>cy m n ((i*5+1) % (m+1))
theorem c8(m:Nat):∀(a b i:Nat),cy m (a+b) i=cy m b (cy m a i)
 |0,b,i=>by rw[sC];rfl
 |a+1,b,i=>by
  rw[show a+1+b=(a+b)+1 by lia];exact c8 m a b _
theorem Qo(m:Nat):∀(n i:Nat),lp m n (i,0)=(cy m n i,0)
 |0,_=>rfl
 |n+1,i=>by
  show lp m n (leap m i 0)=_;have e:leap m i 0=((i*5+1) % (m+1),0):=by unfold leap;simp
  rw[e,Qo m n]
  rfl
theorem Me(m:Nat)(n:Nat)(x:Nat×Nat):(lp m (n+1) x).1<=m:=by
 rw[dh];show(leap m (lp m n x).1 (lp m n x).2).1<=m;unfold leap;exact Nat.le_of_lt_succ (Nat.mod_lt _ (sD m))
def Mk(m:Nat):Prop:=m=7\/m=31\/m=127
def K6(m:Nat):Bool:=(cy m (m+1) 0==0)&&(List.range (m+1)).all λe=>(List.range (m+1)).any λa=>cy m a 0==e
theorem F3:K6 7=true:=by decide +kernel
theorem orb{m:Nat}(hm:Mk m):cy m (m+1) 0=0/\∀e,e<=m->∃a,a<=m/\cy m a 0=e:=by
 have h:K6 m=true:=by rcases hm with rfl|rfl|rfl<;>first|exact F3|exact orb31|exact orb127
 unfold K6 at h;rw[yJ,yD]at h;refine⟨by simpa using h.1,λe he=>?_⟩;have:=h.2 e (yF.mpr (by lia));rw[xU]at this;obtain⟨a,ha,e'⟩:=this;exact⟨a,by have:=yF.mp ha;lia,by simpa using e'⟩
theorem Mc{m:Nat}(hm:Mk m){i e:Nat}(hi:i<=m)(he:e<=m):∃k,k<=m/\cy m k i=e:=by
 obtain⟨h0,h1⟩:=orb hm;obtain⟨a,ha,rfl⟩:=h1 i hi;obtain⟨b,hb,rfl⟩:=h1 e he
 by_cases iP:a<=b
 ·refine⟨b-a,by lia,?_⟩;rw[<-c8,show a+(b-a)=b by lia]
 ·refine⟨b+(m+1)-a,by lia,?_⟩;rw[<-c8,show a+(b+(m+1)-a)=(m+1)+b by lia,c8,h0]
def pos(m:Nat)(h:Int)(k:Nat):Nat:=(itr m k (st0 m h)).j
theorem Jc{m:Nat}(hm:Mk m)(h:Int){e:Nat}(he:e<=m):∃k,k<=10*(m+13)/\pos m h k=e:=by
 have h13:lp m 13 (bits h % (m+1),bits h)=((lp m 13 (bits h % (m+1),bits h)).1,0):=by
  have:(lp m 13 (bits h % (m+1),bits h)).2=0:=by
   rw[X8];exact Nat.div_eq_of_lt (sL (V2 h) (by decide))
  exact Prod.ext rfl this
 obtain⟨k,hk,ek⟩:=Mc hm (Me m 12 (bits h % (m+1),bits h)) he;obtain⟨r,hr,er⟩:=Qp m (13+k) (bits h % (m+1),bits h);refine⟨r,by lia,?_⟩;unfold pos st0;rw[er,dh,h13,Qo];exact ek
theorem least{P:Nat->Prop}:∀n:Nat,P n->∃k,k<=n/\P k/\∀k',k'<k->¬P k':=by
 intro n
 induction n using Nat.strongRecOn with
 |_ n ih =>
  intro h
  by_cases hc:∃k',k'<n/\P k'
  ·obtain⟨k',hk,hp⟩:=hc;obtain⟨k,h1,h2,h3⟩:=ih k' hk hp;exact⟨k,by lia,h2,h3⟩
  ·exact⟨n,zU _,h,λk' hk hp=>hc ⟨k',hk,hp⟩⟩
theorem Yx:∀(n:Nat)(l:List Nat),(∀e,e<n->e∈l)->n<=l.length
 |0,_,_=>yQ _
 |n+1,l,h=>by
  have hn:=h n (yE n);have h1:=Yx n (l.erase n) λe he=>(List.mem_erase_of_ne (by lia)).mpr (h e (by lia));rw[List.length_erase_of_mem hn]at h1;have:=sW hn;lia
theorem Xw{m:Nat}(hm:Mk m)(h:Int){l:List Nat}(hl:l.length<=m):∃K,K<=10*(m+13)/\pos m h K∉l/\∀k,k<K->pos m h k∈l:=by
 have hex:∃e,e<=m/\e∉l:=by
  by_cases hc:∃e,e<=m/\e∉l
  ·exact hc
  ·exfalso;have:=Yx (m+1) l λe he=>wX λhn=>hc ⟨e,by lia,hn⟩;lia
 obtain⟨e,he,hn⟩:=hex;obtain⟨k,hk,ek⟩:=Jc hm h he;obtain⟨K,h1,h2,h3⟩:=least (P:=λk=>pos m h k∉l) k (by rw[ek];exact hn);exact⟨K,by lia,h2,λk' bU=>wX λhc=>h3 k' bU hc⟩
theorem sr{l:List Nat}(hr:l.Pairwise (·<·)){i i' d:Nat}(h:i<i')(h':i'<l.length):l.toArray.getD i d<l.toArray.getD i' d:=by
 have:=yA.mp hr i i' (by lia) h' h;simpa[Array.getD,h',show i<l.length by lia]using this
theorem j8{l:List Nat}(hr:l.Pairwise (·<·))(j:Nat):∀(kO lo hi:Nat),hi<=l.length->lo<=hi->hi-lo<=kO->(∀i,i<lo->l.toArray.getD i j<j)->(∀i,hi<=i->i<l.length->j<=l.toArray.getD i j) ->
  below.go l.toArray j kO lo hi<=l.length/\(∀i,i<below.go l.toArray j kO lo hi->l.toArray.getD i j<j)/\(∀i,below.go l.toArray j kO lo hi<=i->i<l.length->j<=l.toArray.getD i j)
 |0,lo,hi,h1,h2,h3,h4,h5=>by
  unfold below.go;exact⟨by lia,h4,λi cV=>h5 i (by lia)⟩
 |f+1,lo,hi,h1,h2,h3,h4,h5=>by
  unfold below.go
  by_cases aO:lo<hi
  ·rw[yT aO];dsimp only
   by_cases hc:l.toArray.getD ((lo+hi) / 2) j<j
   ·rw[yT hc];refine j8 hr j f _ _ h1 (by lia) (by lia) (λi cV=>?_) h5
    by_cases e:i=(lo+hi) / 2
    ·rw[e];exact hc
    ·exact sL (sr hr (by lia) (by lia)) hc
   ·rw[zC hc];refine j8 hr j f _ _ (by lia) (by lia) (by lia) h4 (λi cV hl=>?_)
    by_cases e:i=(lo+hi) / 2
    ·rw[e];exact tD.mp hc
    ·exact yS (tD.mp hc) (yC (sr hr (by lia) hl))
  ·rw[zC aO];exact⟨by lia,h4,λi cV=>h5 i (by lia)⟩
theorem ul{l:List Nat}(hr:l.Pairwise (·<·))(j:Nat):below l.toArray j<=l.length/\(∀i,i<below l.toArray j->l.toArray.getD i j<j)/\(∀i,below l.toArray j<=i->i<l.length->j<=l.toArray.getD i j):=by
 unfold below;have hs:l.toArray.size=l.length:=zO;rw[hs];exact j8 hr j l.length 0 l.length (zU _) (yQ _) (by lia) (λi hi=>by lia) (λi h1 h2=>by lia)
theorem sn{l:List Nat}{i d:Nat}(h:i<l.length):l.toArray.getD i d=l[i]:=by simp[Array.getD,h]
theorem fo{l:List Nat}(hr:l.Pairwise (·<·)){j:Nat}(h:j∈l):l[below l.toArray j]?=some j:=by
 obtain⟨b1,b2,b3⟩:=ul hr j;obtain⟨i,hi,e⟩:=vX h;have h1:¬i<below l.toArray j:=λz=>by
  have:=b2 i z;rw[sn hi,e]at this;lia
 have h2:¬below l.toArray j<i:=λz=>by
  have h3:=b3 (below l.toArray j) (zU _) (by lia);have h4:=sr (d:=j) hr z hi;rw[sn hi,e]at h4;lia
 have:below l.toArray j=i:=by lia
 rw[this,zM hi,e]
theorem Xo{l:List Nat}(hr:l.Pairwise (·<·)){j:Nat}:(∀x∈l.take (below l.toArray j),x<j)/\(∀x∈l.drop (below l.toArray j),j<=x):=by
 obtain⟨b1,b2,b3⟩:=ul hr j;constructor
 ·intro x hx;obtain⟨i,hi,e⟩:=vX hx;rw[yU]at hi;have:=b2 i (by lia);rw[sn (by lia)]at this;rw[List.getElem_take]at e;lia
 ·intro x hx;obtain⟨i,hi,e⟩:=vX hx;rw[xR]at hi;have:=b3 (below l.toArray j+i) (by lia) (by lia);rw[sn (by lia)]at this;rw[List.getElem_drop]at e;lia
theorem i9{l:List Nat}(hr:l.Pairwise (·<·)){j:Nat}(hj:j∉l):(l.take (below l.toArray j)++j::l.drop (below l.toArray j)).Pairwise (·<·):=by
 obtain⟨h1,h2⟩:=Xo hr (j:=j);have hd:∀x∈l.drop (below l.toArray j),j<x:=λx hx=>by
  have:=h2 x hx;have bZ:x≠j:=λe=>hj (e▸wD hx);lia
 refine List.pairwise_append.mpr ⟨hr.sublist (sT _ _),xW.mpr ⟨hd,hr.sublist (List.drop_sublist _ _)⟩,λa ha b hb=>?_⟩;rcases zL.mp hb with rfl|hb
 ·exact h1 a ha
 ·exact sL (h1 a ha) (hd b hb)
end Tb
end My
namespace My
open PySem
namespace Tb
open PySem.SetTable
structure Rep(L:List (Nat×(Int×Value)))(es:Array (Int×Value))(t:SetTable):Prop where
 es:es=(L.map (·.2)).toArray
 pl:t.place=(L.map (·.1)).toArray
 dm:t.dummies=#[]
 up:(L.map (·.1)).Pairwise (·<·)
 pa:∀x∈L,∃k,pos t.mask x.2.1 k=x.1/\∀k',k'<k->pos t.mask x.2.1 k'∈L.map (·.1)
 mz:Mk t.mask
 fl:L.length<=t.mask
variable {L:List (Nat×(Int×Value))}{es:Array (Int×Value)}{t:SetTable}
theorem Rep.fits(r:Rep L es t):t.fits es.size=true:=by
 unfold SetTable.fits SetTable.fill;rw[r.pl,r.es,r.dm];simpa using r.fl
theorem Rep.odd(r:Rep L es t):t.gaveWay=false:=by
 unfold SetTable.gaveWay;rcases r.mz with e|e|e<;>rw[e]<;>rfl
theorem We(j:Nat):has #[] j=false:=by unfold has;simp
theorem Rep.slot_live(r:Rep L es t){j:Nat}(h:j∈L.map (·.1)):∃i e,t.slot j = .live i/\L[i]?=some (j,e)/\es[i]?=some e:=by
 have hb:=fo r.up h;have hp:t.place[below t.place j]?=some j:=by rw[r.pl];simpa using hb
 rw[zQ]at hb;cases hx:L[below (L.map (·.1)).toArray j]? with
 |none=>rw[hx]at hb;cases hb
 |some x =>
  rw[hx]at hb;have e1:x.1=j:=by simpa using hb
  refine⟨below t.place j,x.2,?_,?_,?_⟩
  ·unfold SetTable.slot;dsimp only;rw[hp];simp
  ·rw[r.pl,hx,<-e1]
  ·rw[r.es,r.pl];simp[hx]
theorem Rep.slot_free(r:Rep L es t){j:Nat}(h:j∉L.map (·.1)):t.slot j = .empty:=by
 unfold SetTable.slot;dsimp only;have hp:(t.place[below t.place j]?==some j)=false:=by
  rw[vY];intro e;rw[r.pl]at e;exact h (by
   have:=Array.mem_of_getElem? e;simpa using this)
 rw[hp,r.dm,We];simp
theorem gj(m:Nat):∀(k:Nat)(p:Probe),(itr m k p).dummy=p.dummy
 |0,_=>rfl
 |k+1,p=>by
  rw[itr,gj m k];unfold av;split<;>rfl
theorem Rep.probe_go(r:Rep L es t){hashAt:Nat->Int}(hh:∀i e,es[i]?=some e->hashAt i=e.1)(h:Int){K:Nat}(hK:pos t.mask h K∉L.map (·.1))(hk:∀k,k<K->pos t.mask h k∈L.map (·.1)):∀(kO m:Nat),m<=K->K-m<kO ->
  (probe.go t hashAt h kO (itr t.mask m (st0 t.mask h))=some (.empty (pos t.mask h K) none)/\∀k e,m<=k->k<K->(pos t.mask h k,e)∈L->e.1≠h) \/
  ∃k i v,m<=k/\k<K/\probe.go t hashAt h kO (itr t.mask m (st0 t.mask h))=some (.candidate (pos t.mask h k) i (itr t.mask (k+1) (st0 t.mask h)))/\t.slot (pos t.mask h k) = .live i/\es[i]?=some (h,v)/\(pos t.mask h k,(h,v))∈L/\∀k' e,m<=k'->k'<k->(pos t.mask h k',e)∈L->e.1≠h
 |0,m,hm,hf=>by lia
 |f+1,m,hm,hf=>by
  unfold probe.go;have hj:(itr t.mask m (st0 t.mask h)).j=pos t.mask h m:=rfl;have hd:(itr t.mask m (st0 t.mask h)).dummy=none:=by rw[gj];rfl
  by_cases eK:m=K
  ·subst eK;rw[hj,r.slot_free hK];dsimp only;rw[hd];exact .inl ⟨rfl,λk e h1 h2=>by lia⟩
  ·have aO:m<K:=by lia
   obtain⟨i,el,hs,hL,he⟩:=r.slot_live (hk m aO);rw[hj,hs];dsimp only;have Ed:∀e',(pos t.mask h m,e')∈L->e'=el:=λe' he'=>by
    obtain⟨i',cV,e2⟩:=vX he';have hL':=(zV.mp hL)
    obtain⟨hi,e3⟩:=hL';have:i'=i:=by
     rcases Nat.lt_trichotomy i' i with z|z|z
     ·have:=yA.mp r.up i' i (by simpa using cV) (by simpa using hi) z;simp[e2,e3]at this
     ·exact z
     ·have:=yA.mp r.up i i' (by simpa using hi) (by simpa using cV) z;simp[e2,e3]at this
    subst this;rw[e2]at e3;exact(Prod.mk.inj e3).2
   by_cases hc:(hashAt i==h)=true
   ·rw[yT hc];have Dh:el.1=h:=by rw[<-hh i el he];exact eq_of_beq hc
    refine .inr ⟨m,i,el.2,zU _,aO,?_,hs,?_,?_,λk' e h1 h2=>by lia⟩
    ·rw[jw,<-kj]
    ·rw[he,<-Dh]
    ·have e5:((h,el.2):Int×Value)=el:=Prod.ext Dh.symm rfl;rw[e5];exact zK hL
   ·rw[zC hc,jw,<-kj];have Dh:el.1≠h:=λz=>hc (by rw[hh i el he,z];simp);rcases Rep.probe_go r hh h hK hk f (m+1) (by lia) (by lia)with⟨a,b⟩|⟨k,i',v,a1,a2,a3,a4,a5,a6,a7⟩
    ·refine .inl ⟨a,λk e h1 h2 qU=>?_⟩
     by_cases z:k=m
     ·subst z;rw[Ed e qU];exact Dh
     ·exact b k e (by lia) h2 qU
    ·refine .inr ⟨k,i',v,by lia,a2,a3,a4,a5,a6,λk' e h1 h2 qU=>?_⟩
     by_cases z:k'=m
     ·subst z;rw[Ed e qU];exact Dh
     ·exact a7 k' e (by lia) h2 qU
theorem re{α β:Type}(f:α->β)(l:List α)(p:Nat)(x:α):(l.take p++x::l.drop p).map f=(l.map f).take p++f x::(l.map f).drop p:=by simp
theorem vc{α:Type}(l:List α)(p:Nat)(x:α):insertAt l.toArray p x=(l.take p++x::l.drop p).toArray:=by
 apply uQ.mp;rw[SetTable.toList_insertAt]
def ins(L:List (Nat×(Int×Value)))(j:Nat)(e:Int×Value):List (Nat×(Int×Value)):=L.take (below (L.map (·.1)).toArray j)++(j,e)::L.drop (below (L.map (·.1)).toArray j)
theorem mem_ins{j:Nat}{e:Int×Value}{x:Nat×(Int×Value)}:x∈ins L j e↔x=(j,e)\/x∈L:=by
 unfold ins;rw[zE,zL];constructor
 ·rintro(h|h|h)
  ·exact .inr (xN h)
  ·exact .inl h
  ·exact .inr (wD h)
 ·rintro(h|h)
  ·exact .inr (.inl h)
  ·have:x∈L.take (below (L.map (·.1)).toArray j)++L.drop (below (L.map (·.1)).toArray j):=by rw[List.take_append_drop];exact h
   rcases zE.mp this with z|z
   ·exact .inl z
   ·exact .inr (.inr z)
theorem Z9(j:Nat)(e:Int×Value):(ins L j e).Perm ((j,e)::L):=by
 unfold ins;refine List.perm_middle.trans ?_;rw[List.take_append_drop]
theorem Rep.put(r:Rep L es t){h:Int}{x:Value}{K:Nat}(hK:pos t.mask h K∉L.map (·.1))(hk:∀k,k<K->pos t.mask h k∈L.map (·.1))(hl:L.length+1<=t.mask):
  Rep (ins L (pos t.mask h K) (h,x)) (insertAt es (t.put (pos t.mask h K)).2 (h,x)) (t.put (pos t.mask h K)).1:=by
 have e1:(t.put (pos t.mask h K)).2=below (L.map (·.1)).toArray (pos t.mask h K):=by unfold SetTable.put;dsimp only;rw[r.pl]
 have e2:(t.put (pos t.mask h K)).1.mask=t.mask:=rfl;refine⟨?_,?_,?_,?_,?_,r.mz,?_⟩
 ·rw[e1,r.es,vc];unfold ins;rw[re]
 ·unfold SetTable.put;dsimp only;rw[r.pl,vc];unfold ins;rw[re]
 ·unfold SetTable.put;dsimp only;rw[r.dm,We];simp
 ·unfold ins;rw[re];exact i9 r.up hK
 ·intro y hy;rw[e2];have sub:∀j,j∈L.map (·.1)->j∈(ins L (pos t.mask h K) (h,x)).map (·.1):=λj hj=>by
   obtain⟨z,hz,rfl⟩:=zD.mp hj;exact zD.mpr ⟨z,mem_ins.mpr (.inr hz),rfl⟩
  rcases mem_ins.mp hy with rfl|hy
  ·exact⟨K,rfl,λk' bU=>sub _ (hk k' bU)⟩
  ·obtain⟨k,h1,h2⟩:=r.pa y hy;exact⟨k,h1,λk' bU=>sub _ (h2 k' bU)⟩
 ·have:=(Z9 (L:=L) (pos t.mask h K) (h,x)).length_eq;rw[this];exact hl
end Tb
end My
namespace My
open PySem
namespace Tb
open PySem.SetTable
theorem ib{m i:Nat}(h:i<=m):runEnd m i<=m:=by unfold runEnd;split<;>lia
theorem pj(m i:Nat):i<=runEnd m i:=by unfold runEnd;split<;>lia
theorem Qe(m:Nat):∀(k:Nat)(p:Probe),p.j+p.more<=m->(itr m k p).j+(itr m k p).more<=m
 |0,_,h=>h
 |k+1,p,h=>by
  refine Qe m k (av m p) ?_;unfold av;split
  ·show p.j+1+(p.more-1)<=m;lia
  ·have h1:(leap m p.i p.perturb).1<=m:=by unfold leap;exact Nat.le_of_lt_succ (Nat.mod_lt _ (sD m))
   have h2:=ib h1;have h3:=pj m (leap m p.i p.perturb).1;show(leap m p.i p.perturb).1+(runEnd m (leap m p.i p.perturb).1-(leap m p.i p.perturb).1)<=m;lia
theorem K9(m:Nat)(h:Int)(k:Nat):pos m h k<=m:=by
 have h1:bits h % (m+1)<=m:=Nat.le_of_lt_succ (Nat.mod_lt _ (sD m));have h2:=ib h1;have h3:=pj m (bits h % (m+1));have:=Qe m k (st0 m h) (by show bits h % (m+1)+(runEnd m (bits h % (m+1))-bits h % (m+1))<=m;lia);unfold pos;lia
theorem lw(m:Nat):∀(k r j i p:Nat)(d:Option Nat),k<=r->(itr m k { j:=j,more:=r,i:=i,perturb:=p,dummy:=d }).j=j+k
 |0,_,_,_,_,_,_=>rfl
 |k+1,r,j,i,p,d,h=>by
  show(itr m k (av m { j:=j,more:=r,i:=i,perturb:=p,dummy:=d })).j=_;have e:av m { j:=j,more:=r,i:=i,perturb:=p,dummy:=d }={ j:=j+1,more:=r-1,i:=i,perturb:=p,dummy:=d }:=by
   unfold av;rw[yT (by show r>0;lia)]
  rw[e,lw m k (r-1) (j+1) i p d (by lia)];lia
theorem Tz{n:Nat}{p:Nat->Bool}(h:(List.range n).find? p=none):∀k,k<n->p k=false:=λk hk=>by
 have:=List.find?_eq_none.mp h k (yF.mpr hk);simpa using this
theorem T0{n k:Nat}{p:Nat->Bool}(h:(List.range n).find? p=some k):k<n/\p k=true/\∀k',k'<k->p k'=false:=by
 have h1:=List.find?_range_eq_some.mp h;refine⟨by simpa using h1.2.1,h1.1,λk' bU=>by simpa using h1.2.2 k' bU⟩
def fr(o:Array (Option Nat))(j:Nat):Bool:=(o.getD j (some 0)).isNone
theorem f8(m:Nat)(o:Array (Option Nat)):∀(f:Nat)(x:Nat×Nat)(n:Nat),n<f->fr o (lp m n x).1=true ->
  ∃k,layClean.free m o f x.1 x.2=some (itr m k (hd m x.1 x.2)).j/\fr o (itr m k (hd m x.1 x.2)).j=true/\∀k',k'<k->fr o (itr m k' (hd m x.1 x.2)).j=false
 |0,_,_,h,_=>by lia
 |f+1,x,n,hn,hfr=>by
  unfold layClean.free;have hre:=pj m x.1;cases hc:(List.range (runEnd m x.1+1-x.1)).find? λk=>(o.getD (x.1+k) (some 0)).isNone with
  |some k =>
   obtain⟨h1,h2,h3⟩:=T0 hc;have ep:∀k',k'<=k->(itr m k' (hd m x.1 x.2)).j=x.1+k':=λk' bU=>lw m k' _ _ _ _ _ (by lia);refine⟨k,?_,?_,λk' bU=>?_⟩
   ·dsimp only;rw[ep k (zU _)]
   ·rw[ep k (zU _)];exact h2
   ·rw[ep k' (by lia)];exact h3 k' bU
  |none =>
   have h1:=Tz hc;have ep:∀k',k'<=runEnd m x.1-x.1->(itr m k' (hd m x.1 x.2)).j=x.1+k':=λk' bU=>lw m k' _ _ _ _ _ bU;cases n with
   |zero =>
    exfalso;have:=h1 0 (by lia);have h2:fr o x.1=true:=hfr;unfold fr at h2;rw[Nat.add_zero]at this;rw[this]at h2;cases h2
   |succ n =>
    obtain⟨k,e,a1,a2⟩:=f8 m o f (leap m x.1 x.2) n (by lia) hfr;have er:∀k',itr m (runEnd m x.1-x.1+1+k') (hd m x.1 x.2)=itr m k' (hd m (leap m x.1 x.2).1 (leap m x.1 x.2).2):=λk'=>by rw[m9,W5]
    refine⟨runEnd m x.1-x.1+1+k,?_,?_,λk' bU=>?_⟩
    ·rw[er];exact e
    ·rw[er];exact a1
    ·by_cases z:k'<runEnd m x.1-x.1+1
     ·rw[ep k' (by lia)];exact h1 k' (by lia)
     ·have:=a2 (k'-(runEnd m x.1-x.1+1)) (by lia);rw[<-er,show runEnd m x.1-x.1+1+(k'-(runEnd m x.1-x.1+1))=k' by lia]at this;exact this
theorem Sh{m:Nat}(hm:Mk m)(h:Int){e:Nat}(he:e<=m):∃n,n<turns m/\(lp m n (bits h % (m+1),bits h)).1=e:=by
 have h13:lp m 13 (bits h % (m+1),bits h)=((lp m 13 (bits h % (m+1),bits h)).1,0):=by
  have:(lp m 13 (bits h % (m+1),bits h)).2=0:=by
   rw[X8];exact Nat.div_eq_of_lt (sL (V2 h) (by decide))
  exact Prod.ext rfl this
 obtain⟨k,hk,ek⟩:=Mc hm (Me m 12 (bits h % (m+1),bits h)) he;refine⟨13+k,by unfold turns;lia,?_⟩;rw[dh,h13,Qo];exact ek
def lv(m:Nat)(o:Array (Option Nat)):List (Nat×Nat):=(List.range (m+1)).filterMap λj=>(o.getD j none).map (j,·)
theorem Z3{α β:Type}{g g':α->Option β}:∀{l:List α},(∀a∈l,g' a=g a)->l.filterMap g'=l.filterMap g
 |[],_=>rfl
 |a::l,h=>by
  rw[wT,wT,h a zH,Z3 λb hb=>h b (zI _ hb)]
theorem Wb{β:Type}{g g':Nat->Option β}{j:Nat}{b:β}(hg:g j=none)(hg':g' j=some b)(bZ:∀a,a≠j->g' a=g a):∀{l:List Nat},l.Nodup->j∈l->(l.filterMap g').Perm (b::l.filterMap g)
 |[],_,h=>by simp at h
 |a::l,hn,h=>by
  rw[wO]at hn;rw[wT,wT]
  by_cases e:a=j
  ·subst e;rw[hg,hg'];dsimp only;rw[Z3 λc hc=>bZ c λz=>hn.1 (z▸hc)]
  ·rw[bZ a e];have hj:j∈l:=by
    rcases zL.mp h with z|z
    ·exact absurd z.symm e
    ·exact z
   have ih:=Wb hg hg' bZ hn.2 hj;cases g a with
   |none=>exact ih
   |some c=>exact(ih.cons c).trans (.swap _ _ _)
structure Laid(m:Nat)(hs:List Int)(o:Array (Option Nat))(Z:List (Nat×Nat)):Prop where
 sz:o.size=m+1
 pm:(lv m o).Perm Z
 ix:Z.map (·.2)=List.range hs.length
 fr:∀j,fr o j=true↔j<=m/\j∉Z.map (·.1)
 pa:∀z∈Z,∀h,hs[z.2]?=some h->∃k,pos m h k=z.1/\∀k',k'<k->pos m h k'∈Z.map (·.1)
theorem Laid.zero(m:Nat):Laid m [] (Array.replicate (m+1) none) []:=by
 refine⟨by simp,?_,rfl,λj=>?_,λz hz=>by simp at hz⟩
 ·unfold lv;have:(List.range (m+1)).filterMap (λj=>((Array.replicate (m+1) (none:Option Nat)).getD j none).map (j,·))=[]:=by
   rw[List.filterMap_eq_nil_iff];intro j hj;have rP:j<m+1:=yF.mp hj;simp[Array.getD,rP]
  rw[this]
 ·unfold Tb.fr
  by_cases hj:j<m+1
  ·simp[Array.getD,hj];lia
  ·simp[Array.getD,hj];lia
theorem Laid.step{m:Nat}{hs:List Int}{o:Array (Option Nat)}{Z:List (Nat×Nat)}(hm:Mk m)(la:Laid m hs o Z)(h:Int)(hl:hs.length+1<=m):
  ∃j,layClean.free m o (turns m) (bits h % (m+1)) (bits h)=some j/\Laid m (hs++[h]) (o.setIfInBounds j (some hs.length)) (Z++[(j,hs.length)]):=by
 have hZ:Z.length=hs.length:=by
  have:=wZ List.length la.ix;simpa using this
 have hex:∃e,e<=m/\e∉Z.map (·.1):=by
  by_cases hc:∃e,e<=m/\e∉Z.map (·.1)
  ·exact hc
  ·exfalso;have:=Yx (m+1) (Z.map (·.1)) λe he=>wX λhn=>hc ⟨e,by lia,hn⟩;rw[zY]at this;lia
 obtain⟨e,he,hen⟩:=hex;obtain⟨n,hn,en⟩:=Sh hm h he;obtain⟨k,e1,e2,e3⟩:=f8 m o (turns m) (bits h % (m+1),bits h) n hn (by rw[en];exact(la.fr e).mpr ⟨he,hen⟩);have Bk:(itr m k (hd m (bits h % (m+1)) (bits h))).j=pos m h k:=rfl;rw[Bk]at e1 e2;obtain⟨j1,j2⟩:=(la.fr _).mp e2;refine⟨pos m h k,e1,?_,?_,?_,λj=>?_,λz hz h' hh=>?_⟩
 ·rw[Array.size_setIfInBounds];exact la.sz
 ·have aO:pos m h k<o.size:=by rw[la.sz];lia
  have FU:o.getD (pos m h k) none=none:=by
   unfold Tb.fr at e2;simp only[Array.getD,aO,dif_pos]at e2 ⊢;simpa using e2
  have key:(lv m (o.setIfInBounds (pos m h k) (some hs.length))).Perm ((pos m h k,hs.length)::lv m o):=by
   unfold lv;refine Wb (j:=pos m h k) ?_ ?_ ?_ uP (yF.mpr (by lia))
   ·rw[FU];rfl
   ·have:(o.setIfInBounds (pos m h k) (some hs.length)).getD (pos m h k) none=some hs.length:=by simp[Array.getD,aO]
    rw[this];rfl
   ·intro a ha;have:(o.setIfInBounds (pos m h k) (some hs.length)).getD a none=o.getD a none:=by
     by_cases hz:a<o.size
     ·simp[Array.getD,hz,Array.getElem_setIfInBounds,wU ha]
     ·simp[Array.getD,hz]
    rw[this]
  refine key.trans ((la.pm.cons _).trans ?_);exact(uE _ _).symm
 ·rw[zJ,la.ix,zS,xG,vI];rfl
 ·have aO:pos m h k<o.size:=by rw[la.sz];lia
  rw[zJ,zE]
  by_cases ej:j=pos m h k
  ·subst ej;have:Tb.fr (o.setIfInBounds (pos m h k) (some hs.length)) (pos m h k)=false:=by unfold Tb.fr;simp[Array.getD,aO]
   rw[this];simp
  ·have:Tb.fr (o.setIfInBounds (pos m h k) (some hs.length)) j=Tb.fr o j:=by
    unfold Tb.fr
    by_cases hz:j<o.size
    ·simp[Array.getD,hz,Array.getElem_setIfInBounds,wU ej]
    ·simp[Array.getD,hz]
   rw[this,la.fr];simp[ej]
 ·have sub:∀q,q∈Z.map (·.1)->q∈(Z++[(pos m h k,hs.length)]).map (·.1):=λq hq=>by rw[zJ];exact xP _ hq
  rcases zE.mp hz with hz|hz
  ·have aO:z.2<hs.length:=by
    have:z.2∈Z.map (·.2):=yN hz;rw[la.ix]at this;exact yF.mp this
   rw[yG aO]at hh;obtain⟨k2,a1,a2⟩:=la.pa z hz h' hh;exact⟨k2,a1,λk' bU=>sub _ (a2 k' bU)⟩
  ·rw[zN]at hz;subst hz;have:h'=h:=by simpa using hh.symm
   subst this;refine⟨k,rfl,λk' bU=>sub _ ?_⟩;have hb:=e3 k' bU;have FN:(itr m k' (hd m (bits h' % (m+1)) (bits h'))).j=pos m h' k':=rfl;rw[FN]at hb;have iE:pos m h' k'<=m:=K9 m h' k';refine wX λhn=>?_;have:=(la.fr _).mpr ⟨iE,hn⟩;rw[this]at hb;cases hb
end Tb
end My
namespace My
open PySem
namespace Tb
open PySem.SetTable
def Z5(m:Nat)(aK:Option (Array (Option Nat)×Nat))(h:Int):Option (Array (Option Nat)×Nat):=do
 let(owner,k) <-aK
 let j <-layClean.free m owner (turns m) (bits h % (m+1)) (bits h)
 pure (owner.setIfInBounds j (some k),k+1)
theorem ae(m:Nat)(hs:Array Int):layClean m hs=(hs.foldl (Z5 m) (some (Array.replicate (m+1) none,0))).map (·.1):=rfl
theorem f6{m:Nat}(hm:Mk m):∀(rest done:List Int)(o:Array (Option Nat))(Z:List (Nat×Nat)),Laid m done o Z->done.length+rest.length<=m ->
  ∃o' Z',rest.foldl (Z5 m) (some (o,done.length))=some (o',(done++rest).length)/\Laid m (done++rest) o' Z'
 |[],done,o,Z,la,_=>⟨o,Z,by simp,by rw[List.append_nil];exact la⟩
 |h::rest,done,o,Z,la,hl=>by
  rw[yR]at hl;obtain⟨j,e,la'⟩:=la.step hm h (by lia);obtain⟨o',Z',e',EY⟩:=f6 hm rest (done++[h]) _ _ la' (by rw[zS,xG];lia);refine⟨o',Z',?_,by rw[wA]at EY;exact EY⟩;rw[vJ];have e2:Z5 m (some (o,done.length)) h=some (o.setIfInBounds j (some done.length),(done++[h]).length):=by
   unfold Z5;show(layClean.free m o (turns m) (bits h % (m+1)) (bits h)).bind _=_;rw[e];simp
  rw[e2,e',wA]
  rfl
theorem Z4(es:Array (Int×Value)):∀l:List (Nat×Nat),(∀z∈l,z.2<es.size)->(l.map (·.2)).filterMap (λi=>es[i]?)=l.map λz=>es.getD z.2 (0,Value.none)
 |[],_=>rfl
 |z::l,h=>by
  have hz:=h z zH;rw[List.map_cons,wT,List.map_cons,Z4 es l λy hy=>h y (zI _ hy)];have e:es[z.2]?=some (es.getD z.2 (0,Value.none)):=by simp[Array.getD,hz]
  rw[e]
theorem gw(es:Array (Int×Value)):(List.range es.size).map (λk=>es.getD k (0,Value.none))=es.toList:=by
 apply vF
 ·simp
 ·intro i h1 h2;have hi:i<es.size:=by simpa using h1
  simp[Array.getD,hi]
theorem Mf(m:Nat)(o:Array (Option Nat)):((lv m o).map (·.1)).Pairwise (·<·):=by
 have e:∀l:List Nat,((l.filterMap λj=>(o.getD j none).map (j,·)).map (·.1))=l.filter λj=>(o.getD j none).isSome:=by
  intro l
  induction l with
  |nil=>rfl
  |cons a l ih =>
   rw[wT,wC];cases hg:o.getD a none with
   |none=>simpa using ih
   |some c=>simpa using ih
 unfold lv;rw[e];exact List.Pairwise.sublist List.filter_sublist List.pairwise_lt_range
theorem Qi{m:Nat}(hm:Mk m)(es:Array (Int×Value))(hn:es.size<=m)(fi mv:Nat)(led plain:Bool):
  ∃t' order,laid m fi mv led plain (es.map (·.1))=some (t',order)/\t'.mask=m/\t'.led=led/\t'.plain=plain/\∃L',Rep L' (order.filterMap (es[·]?)) t'/\(L'.map (·.2)).Perm es.toList:=by
 obtain⟨o,Z,e,la⟩:=f6 hm (es.map (·.1)).toList [] _ _ (Laid.zero m) (by simpa using hn);rw[List.nil_append]at e la;have aL:((es.map (·.1)).toList).length=es.size:=by simp
 have ec:layClean m (es.map (·.1))=some o:=by
  rw[ae,<-Array.foldl_toList];show Option.map _ (List.foldl (Z5 m) (some (Array.replicate (m+1) none,([]:List Int).length)) _)=_;rw[e]
  rfl
 have hv:∀z∈lv m o,z.2<es.size:=λz hz=>by
  have:z.2∈Z.map (·.2):=yN (la.pm.mem_iff.mp hz);rw[la.ix,aL]at this;exact yF.mp this
 refine⟨_,_,by
  unfold laid;rw[ec]
  rfl,rfl,rfl,rfl,(lv m o).map (λz=>(z.1,es.getD z.2 (0,Value.none))),⟨?_,?_,rfl,?_,?_,hm,?_⟩,?_⟩
 ·show Array.filterMap _ ((lv m o).map (·.2)).toArray=_;apply uQ.mp;rw[Array.toList_filterMap];show List.filterMap _ ((lv m o).map (·.2))=_;rw[Z4 es _ hv,yI]
  rfl
 ·show((lv m o).map (·.1)).toArray=_;rw[yI]
  rfl
 ·rw[yI];exact Mf m o
 ·intro x hx;obtain⟨z,hz,rfl⟩:=zD.mp hx;have qS:=hv z hz;have hh:((es.map (·.1)).toList)[z.2]?=some (es.getD z.2 (0,Value.none)).1:=by simp[Array.getD,qS]
  obtain⟨k,a1,a2⟩:=la.pa z (la.pm.mem_iff.mp hz) _ hh;refine⟨k,a1,λk' bU=>?_⟩;rw[yI];have:=a2 k' bU;exact(la.pm.map (·.1)).mem_iff.mpr this
 ·have:(lv m o).length=es.size:=by
   rw[la.pm.length_eq];have:=wZ List.length la.ix;simpa using this
  rw[zY,this];exact hn
 ·rw[yI];have h1:((lv m o).map λz=>es.getD z.2 (0,Value.none)).Perm (Z.map λz=>es.getD z.2 (0,Value.none)):=la.pm.map _;have h2:(Z.map λz=>es.getD z.2 (0,Value.none))=es.toList:=by
   have:(Z.map λz=>es.getD z.2 (0,Value.none))=(Z.map (·.2)).map λk=>es.getD k (0,Value.none):=by rw[yI];rfl
   rw[this,la.ix,aL,gw]
  rw[<-h2];exact h1
def p9(L:List (Nat×(Int×Value)))(t:SetTable):Prop:=L.length*5<t.mask*3
theorem Y1{L:List (Nat×(Int×Value))}{es:Array (Int×Value)}{t:SetTable}(r:Rep L es t)(hb:L.length<=76)(h0:(L.length-1)*5<t.mask*3)(h1:t.mask*3<=L.length*5):
  sizeAbove (grown L.length)<=4096/\∃t' order L',t.relaid (es.map (·.1)) (grown L.length)=some (t',order)/\t'.led=t.led/\t'.plain=t.plain/\Rep L' (order.filterMap (es[·]?)) t'/\(L'.map (·.2)).Perm (L.map (·.2))/\p9 L' t':=by
 have DT:es.size=L.length:=by rw[r.es];simp
 have key:∀m',Mk m'->L.length<=m'->sizeAbove (grown L.length)-1=m'->L.length*5<m'*3->∃t' order L',t.relaid (es.map (·.1)) (grown L.length)=some (t',order)/\t'.led=t.led/\t'.plain=t.plain/\Rep L' (order.filterMap (es[·]?)) t'/\(L'.map (·.2)).Perm (L.map (·.2))/\p9 L' t':=by
  intro m' qU hl hs hr;obtain⟨t',order,e1,e2,e3,e4,L',rp,pm⟩:=Qi qU es (by lia) t.finger (t.movedTo m') t.led t.plain;have el:es.toList=L.map (·.2):=by rw[r.es]
  refine⟨t',order,L',?_,e3,e4,rp,by rw[<-el];exact pm,?_⟩
  ·unfold SetTable.relaid;rw[hs];exact e1
  ·unfold p9;have h5:L'.length=L.length:=by
    have:=pm.length_eq;rw[el]at this;simpa using this
   rw[h5,e2];exact hr
 rcases r.mz with e|e|e
 ·rw[e]at h0 h1;have hL:L.length=5:=by lia
  rw[hL]at key ⊢;exact⟨by decide,key 31 (.inr (.inl rfl)) (by decide) (by decide) (by decide)⟩
 ·rw[e]at h0 h1;have hL:L.length=19:=by lia
  rw[hL]at key ⊢;exact⟨by decide,key 127 (.inr (.inr rfl)) (by decide) (by decide) (by decide)⟩
 ·rw[e]at h0 h1;lia
end Tb
end My
namespace My
open PySem PySem.Spec PySem.W
section
variable {prog:Program}{w:World}{A:Around}{E:Value->Shared->Prop}{s:Shared}
def Ue:Bool->Value->Bool
 |b,.bool c=>c==b
 |_,_=>false
theorem wz{b:Bool}{v:Value}(h:Ue b v=true):v = .bool b:=by
 cases v<;>simp_all [Ue]
theorem Nf{b:Bool}{Q:Int->Shared->Prop}(h:Q (if b=true then 1 else 0) { s with toks:=s.toks+1 }):wpAny (model prog w) A (pyHash (.bool b)) Q E s:=by
 show wpAny _ _ (pyHashByItsType (.bool b)) _ _ _;refine pyHash_slot (T:="bool") rfl F.slot_bool_hash entry_int_hash (args_int_hash _) (beq_builtin_none _) (.inl rfl) ?_;cases b
 ·exact(show wpAny _ _ (do ret (<-mkInt 0)) _ _ s from zZ (wpAny_mkInt (zW ⟨_,_,rfl,h⟩)))
 ·exact(show wpAny _ _ (do ret (<-mkInt 1)) _ _ s from zZ (wpAny_mkInt (zW ⟨_,_,rfl,h⟩)))
def j9(prog:Program)(w:World):PySem.KeyKind prog w Bool where
 is:=Ue
 hash:=λb=>if b=true then 1 else 0
 inj:=λv a b h1 h2=>by
  have e1:=wz h1;have e2:=wz h2;rw[e1]at e2;exact Value.bool.inj e2
 byValue:=λk v h=>by rw[wz h];rfl
 pyHash:=λhv h=>by rw[wz hv];exact Nf h
 eqBool:=λ{A E s a b u v Q} hu hv h=>by
  rw[wz hu,wz hv];refine uC a b _ _ _ _ ?_;have e:(a==b)=decide (a=b):=by cases a<;>cases b<;>rfl
  rw[e];exact h
 «strs»:=λk x t v h=>by simp[Ue]at h
abbrev Bt(prog:Program)(w:World)(h:Heap)(k:List Bool)(a:Addr):Prop:=IsTupleKey (j9 prog w) h k a
abbrev Bh(prog:Program)(w:World)(k:List Bool):Int:=tupleKeyHash (j9 prog w) k
theorem Zx{h:Heap}{k:List Bool}{vs:List Value}(x:ItemsAre (j9 prog w) k vs):∀v∈vs,∃b,v = .bool b:=by
 induction x with
 |nil=>intro v hv;simp at hv
 |cons h1 _ ih =>
  intro v hv;rcases zL.mp hv with rfl|hv
  ·exact⟨_,wz h1⟩
  ·exact ih v hv
theorem Xr{k:List Bool}{a:Addr}{Q:Bool->Shared->Prop}(hk:Bt prog w s.heap k a)(h:Q true s):wpAny (model prog w) A (hashByValue 8 (.ref a)) Q E s:=by
 have hT:=hk.typeIs;obtain⟨o,items,n,ho,hc,hd,hi⟩:=hk;unfold hashByValue;refine zZ (wpAny_specialOf hT F.slot_tuple_hash.lookup ?_);show wpAny _ _ (seqItems? (.ref a) >>= _) _ _ s;refine zZ (vZ ho hd ?_);refine zZ ?_;show wpAny _ _ (forIn items _ _) _ _ s;rw[<-tF];refine wpAny_forIn_list _ (λrest r s'=>r.1=none/\s'=s/\∀v∈rest,∃b,v = .bool b) _ ?_ ?_ _ _ ⟨rfl,rfl,Zx (h:=s.heap) hi⟩
 ·rintro v rest r s' ⟨hr,rfl,bQ⟩;obtain⟨b,rfl⟩:=bQ v zH;refine zZ (zW ?_);simp only[Bool.not_true,Bool.false_eq_true,if_false];exact zW ⟨rfl,rfl,λu DN=>bQ u (zI _ DN)⟩
 ·rintro⟨r1,r2⟩ s' ⟨hr,rfl,_⟩;simp only at hr;subst hr;exact zW h
theorem Zw{k:List Bool}{a:Addr}{Q:Bool->Shared->Prop}(hk:Bt prog w s.heap k a)(h:Q false s):wpAny (model prog w) A (ofAClassStatement 8 (.ref a)) Q E s:=by
 have hT:=hk.typeIs;obtain⟨o,items,n,ho,hc,hd,hi⟩:=hk;unfold ofAClassStatement;refine zZ (uW hT ?_);show wpAny _ _ (pure true >>= _) _ _ s;refine zZ (zW ?_);simp only[Bool.not_true,Bool.false_eq_true,if_false];refine zZ (vZ ho hd ?_);refine zZ ?_;show wpAny _ _ (forIn items _ _) _ _ s;rw[<-tF];refine wpAny_forIn_list _ (λrest r s'=>r.1=none/\s'=s/\∀v∈rest,∃b,v = .bool b) _ ?_ ?_ _ _ ⟨rfl,rfl,Zx (h:=s.heap) hi⟩
 ·rintro v rest r s' ⟨hr,rfl,bQ⟩;obtain⟨b,rfl⟩:=bQ v zH;refine zZ (zW ?_);simp only[Bool.false_eq_true,if_false];exact zW ⟨rfl,rfl,λu DN=>bQ u (zI _ DN)⟩
 ·rintro⟨r1,r2⟩ s' ⟨hr,rfl,_⟩;simp only at hr;subst hr;exact zW h
theorem Tn{k:List Bool}{a:Addr}{ys:List Value}{Q:Bool->Shared->Prop}(hk:Bt prog w s.heap k a)(hy:∀y∈ys,∃k' b,y = .ref b/\Bt prog w s.heap k' b)(h:Q false s):
  wpAny (model prog w) A (searchCouldBeSeen (.ref a) ys) Q E s:=by
 unfold searchCouldBeSeen;refine zZ ?_;refine wpAny_forIn_list _ (λrest r s'=>r.1=none/\s'=s/\∀y∈rest,∃k' b,y = .ref b/\Bt prog w s.heap k' b) _ ?_ ?_ _ _ ⟨rfl,rfl,hy⟩
 ·rintro v rest r s' ⟨hr,rfl,bQ⟩;obtain⟨k',b,rfl,hb⟩:=bQ v zH;have nx:∀u∈rest,∃k' b,u = .ref b/\Bt prog w s'.heap k' b:=λu DN=>bQ u (zI _ DN);dsimp only;split
  ·exact zW ⟨rfl,rfl,nx⟩
  ·refine zZ (wpAny_eqIsQuiet_tuple hk ?_);simp only[Bool.not_true,Bool.false_eq_true,if_false];refine zZ (wpAny_eqIsQuiet_tuple hb ?_);simp only[Bool.not_true,Bool.false_eq_true,if_false];refine zZ (Zw hk ?_);simp only[Bool.false_eq_true,if_false];refine zZ (Zw hb ?_);simp only[Bool.false_eq_true,if_false];exact zW ⟨rfl,rfl,nx⟩
 ·rintro⟨r1,r2⟩ s' ⟨hr,rfl,_⟩;simp only at hr;subst hr;exact zW h
end
end My
namespace My
open PySem PySem.Spec PySem.W
open Tb
section
variable {prog:Program}{w:World}{A:Around}{E:Value->Shared->Prop}{s:Shared}
def Elem(prog:Program)(w:World)(h:Heap)(e:Int×Value)(k:List Bool):Prop:=∃b,e.2 = .ref b/\Bt prog w h k b/\e.1=Bh prog w k
theorem Elem.inj{h:Heap}{e:Int×Value}{k k':List Bool}(x:Elem prog w h e k)(y:Elem prog w h e k'):k=k':=by
 obtain⟨b,e1,h1,_⟩:=x;obtain⟨b',e2,h2,_⟩:=y;rw[e1]at e2;cases e2;exact h1.inj h2
structure Good(prog:Program)(w:World)(h:Heap)(Es:List (Int×Value))(D:List (List Bool)):Prop where
 in1:∀e∈Es,∃k,k∈D/\Elem prog w h e k
 in2:∀k∈D,∃e∈Es,Elem prog w h e k
 one:Es.Pairwise λe e'=>∀k,Elem prog w h e k->¬Elem prog w h e' k
theorem Good.perm{h:Heap}{Es Cp:List (Int×Value)}{D:List (List Bool)}(g:Good prog w h Es D)(p:Cp.Perm Es):Good prog w h Cp D :=
 ⟨λe he=>g.in1 e (p.mem_iff.mp he),λk hk=>let⟨e,he,x⟩:=g.in2 k hk;⟨e,p.mem_iff.mpr he,x⟩,(p.pairwise_iff (λ{x y} pE k h1 h2=>pE k h2 h1)).mpr g.one⟩
theorem Bt.mono{h h':Heap}{k:List Bool}{a:Addr}(x:Bt prog w h k a)(hk:∀o,h.get? a=some o->h'.get? a=some o):Bt prog w h' k a:=by
 obtain⟨o,items,n,ho,r⟩:=x;exact⟨o,items,n,hk o ho,r⟩
theorem Good.mono{h h':Heap}{Es:List (Int×Value)}{D:List (List Bool)}(g:Good prog w h Es D)(hk:∀a o,o.cls = .type "tuple"->h.get? a=some o->h'.get? a=some o):Good prog w h' Es D:=by
 have up:∀e k,Elem prog w h e k->Elem prog w h' e k:=λe k ⟨b,e1,⟨o,items,n,ho,hc,r⟩,h2⟩=>⟨b,e1,⟨o,items,n,hk b o hc ho,hc,r⟩,h2⟩
 refine⟨λe he=>let⟨k,h1,h2⟩:=g.in1 e he;⟨k,h1,up e k h2⟩,λk bU=>let⟨e,h1,h2⟩:=g.in2 k bU;⟨e,h1,up e k h2⟩,?_⟩;refine(yA.mpr λi j hi hj kL=>?_);intro k h1 h2;obtain⟨k1,_,x1⟩:=g.in1 _ (vS hi);obtain⟨k2,_,x2⟩:=g.in1 _ (vS hj);have e1:=(up _ _ x1).inj h1;have e2:=(up _ _ x2).inj h2;subst e1;subst e2;exact yA.mp g.one i j hi hj kL _ x1 x2
abbrev yw(es:Array (Int×Value))(ep:Nat)(t:SetTable):Obj:={ cls:=.type "set",dict:=none,data:=.set es ep t,slots:=#[] }
theorem ij(hu:A.units<cLine){S:Addr}{ep:Nat}{es:Array (Int×Value)}{t:SetTable}{L:List (Nat×(Int×Value))}{D:List (List Bool)}(r:Rep L es t)(hS:s.heap.get? S=some (yw es ep t))(g:Good prog w s.heap (L.map (·.2)) D)
  {x:Addr}{kx:List Bool} (hx:Bt prog w s.heap kx x) {K:Nat} (hK:pos t.mask (Bh prog w kx) K∉L.map (·.1)) (GR:∀k,k<K->pos t.mask (Bh prog w kx) k∈L.map (·.1)) (Kb:K<=10*(t.mask+13)) {Q:SetFound->Shared->Prop}
  (q1:(∃e∈L.map (·.2),Elem prog w s.heap e kx)->Q (.there none) s) (q2:(∀e∈L.map (·.2),¬Elem prog w s.heap e kx)->Q (.free (pos t.mask (Bh prog w kx) K) false) s) :
  ∀(f m:Nat)(stand:Option SetTable.Probe),m<=K->K-m<f->(∀y∈L,∀k,k<m->pos t.mask (Bh prog w kx) k=y.1->¬Elem prog w s.heap y.2 kx)->stand.getD (t.probeStart (Bh prog w kx))=itr t.mask m (st0 t.mask (Bh prog w kx)) ->
   wpAny (model prog w) A (setSearchFrom S (.ref x) (Bh prog w kx) true f stand) Q E s
 |0,m,stand,_,hf,_,_=>by lia
 |f+1,m,stand,hm,hf,kK,est=>by
  unfold setSearchFrom;refine zZ (xI hS rfl r.fits ?_);dsimp only;rw[r.odd];simp only[Bool.false_eq_true,if_false];rw[est];have CQ:t.probe (λi=>(es[i]?.map (·.1)).getD 0) (Bh prog w kx) (itr t.mask m (st0 t.mask (Bh prog w kx)))=SetTable.probe.go t (λi=>(es[i]?.map (·.1)).getD 0) (Bh prog w kx) (10*SetTable.turns t.mask) (itr t.mask m (st0 t.mask (Bh prog w kx))):=rfl;have Bu:∀(i:Nat)(e:Int×Value),es[i]?=some e->(λ(i:Nat)=>(es[i]?.map (·.1)).getD 0) i=e.1:=λi e he=>by simp[he]
  have hpg:=r.probe_go Bu (Bh prog w kx) hK GR (10*SetTable.turns t.mask) m hm (by unfold SetTable.turns;lia);rw[<-CQ]at hpg;split
  case h_2 Ao =>
   exfalso;rcases hpg with⟨e,_⟩|⟨k,i,v,_,_,e,_⟩
   ·exact Ao _ e
   ·exact Ao _ e
  rename_i met Ao;rcases hpg with⟨e,bZ⟩|⟨k,i,v,h1,h2,e,hsl,DT,hL,bZ⟩
  ·have em:=yY (Ao.symm.trans e);subst em;dsimp only;refine zW (q2 λel Dh hE=>?_);obtain⟨y,hy,rfl⟩:=zD.mp Dh;obtain⟨k0,Bo,nY⟩:=r.pa y hy;have hh:y.2.1=Bh prog w kx:=by obtain⟨b,_,_,h2⟩:=hE;exact h2
   rw[hh]at Bo nY;have aO:k0<K:=by
    refine wX λhn=>?_
    by_cases e0:k0=K
    ·subst e0;exact hK (by rw[Bo];exact yN hy)
    ·exact hK (nY K (by lia))
   by_cases hlm:k0<m
   ·exact kK y hy k0 hlm Bo hE
   ·exact bZ k0 y.2 (by lia) aO (by rw[Bo];exact hy) hh
  ·have em:=yY (Ao.symm.trans e);subst em;dsimp only;obtain⟨kb,_,hE⟩:=g.in1 (Bh prog w kx,v) (zD.mpr ⟨_,hL,rfl⟩);obtain⟨b,eb,hb,hbh⟩:=id hE;dsimp only at eb hbh;subst eb;have rest:wpAny (model prog w) A (do
     let some (_,y):=es[i]?|unsupported "internal:set-entry"
     let equal <-holding [y] (eqBool y (.ref x))
     let(bE,_,t') <-setState S
     if true&&equal then return SetFound.there none
     let some sam:=t'.sameMemory t.moves t.mask|unsupported "set.changed-during-lookup:is-the-new-block-at-the-old-address"
     let still <-match(if sam then t'.slot (pos t.mask (Bh prog w kx) k)else .empty)with
      | .live i'=>match bE[i']? with
       |some (_,y')=>do pure (if <-isSame y' y then some i' else none)
       |none=>pure none
      |_=>pure none
     match still with
     |none=>rule "set.search.anew";setSearchFrom S (.ref x) (Bh prog w kx) true f none
     |some i'=>if equal then return SetFound.there (some i')else setSearchFrom S (.ref x) (Bh prog w kx) true f (some (itr t.mask (k+1) (st0 t.mask (Bh prog w kx))))) Q E s:=by
    rw[DT];dsimp only;refine zZ (xX (wpAny_eqBool_tuple hu hb hx ?_));refine zZ (xI hS rfl r.fits ?_);dsimp only
    by_cases hk:kb=kx
    ·rw[zA hk];simp only[Bool.and_self,if_true];exact zW (q1 ⟨(Bh prog w kx,.ref b),zD.mpr ⟨_,hL,rfl⟩,hk▸hE⟩)
    ·rw[yL hk];simp only[uB,Bool.false_eq_true,if_false];have mN:t.sameMemory t.moves t.mask=some true:=by unfold SetTable.sameMemory;simp
     rw[mN];dsimp only;simp only[if_true];rw[hsl];dsimp only;rw[DT];dsimp only;refine zZ (wpAny_isSame_ref_self (zZ (zW ?_)));simp only[if_true];refine ij hu r hS g hx hK GR Kb q1 q2 f (k+1) _ (by lia) (by lia) (λy hy k' bU ek' hEy=>?_) rfl;have hh:y.2.1=Bh prog w kx:=by obtain⟨b,_,_,h2⟩:=hEy;exact h2
     by_cases z1:k'<m
     ·exact kK y hy k' z1 ek' hEy
     ·by_cases z2:k'=k
      ·subst z2;obtain⟨i1,e1,s1,L1,s2⟩:=r.slot_live (yN (f:=(·.1)) hy);rw[<-ek',hsl]at s1;cases s1;have Ak:y.2=e1:=by
        obtain⟨i2,hi2,e2⟩:=vX hy;obtain⟨DS,e3⟩:=zV.mp L1;have:i2=i:=by
         rcases Nat.lt_trichotomy i2 i with z|z|z
         ·have:=yA.mp r.up i2 i (by simpa using hi2) (by simpa using DS) z;simp[e2,e3]at this
         ·exact z
         ·have:=yA.mp r.up i i2 (by simpa using DS) (by simpa using hi2) z;simp[e2,e3]at this
        subst this;rw[e2]at e3;rw[e3]
       rw[DT]at s2;cases s2;rw[Ak]at hEy;exact hk (hE.inj hEy)
      ·exact bZ k' y.2 (by lia) (by lia) (by rw[ek'];exact hy) hh
   by_cases dC:t.led=true
   ·rw[dC];simp only[Bool.not_true,Bool.false_eq_true,if_false];exact rest
   ·have Ap:t.led=false:=by simpa using dC
    rw[Ap];simp only[Bool.not_false,if_true];refine zZ (Tn hx (λy hy=>?_) ?_)
    ·obtain⟨e1,dX,rfl⟩:=zD.mp hy;have qW:e1∈L.map (·.2):=by
      have h3:e1∈es.toList:=by
       have:=(Array.mem_filter.mp (Array.mem_toList_iff.mp dX)).1;exact Array.mem_toList_iff.mpr this
      rw[r.es]at h3;exact h3
     obtain⟨k1,_,b1,Dt,Bs,_⟩:=g.in1 e1 qW;exact⟨k1,b1,Dt,Bs⟩
    ·simp only[Bool.false_eq_true,if_false];exact rest
end
end My
namespace My
open PySem PySem.Spec PySem.W
open Tb
section
variable {prog:Program}{w:World}{A:Around}{E:Value->Shared->Prop}{s:Shared}
theorem v3{S:Addr}{es bE:Array (Int×Value)}{ep:Nat}{t t':SetTable}{Q:Unit->Shared->Prop}(hS:s.heap.get? S=some (yw es ep t))(hz:bE.size<=sizeLine)
  (h:∀h',h'.get? S=some (yw bE (ep+1) t')->Heap.SameBut S s.heap h'->Q () { s with heap:=h' }):wpAny (model prog w) A (storeSet S bE t') Q E s:=by
 refine wpAny_storeSet_of hS rfl (h _ ?_ (tT s.heap S (Obj.putSet bE t'))) hz;have e:=wR (Obj.putSet bE t') hS (by rfl);exact e
theorem bn{S:Addr}{es:Array (Int×Value)}{ep:Nat}{t:SetTable}{h h':Heap}(hS:h.get? S=some (yw es ep t))(sb:Heap.SameBut S h h'):∀a o,o.cls = .type "tuple"->h.get? a=some o->h'.get? a=some o:=λa o hc ho=>by
 have bZ:a≠S:=by
  rintro rfl;rw[hS]at ho;cases ho;simp at hc
 exact(sb.2 a bZ).trans ho
theorem M3(hu:A.units+1<cLine){S:Addr}{ep:Nat}{es:Array (Int×Value)}{t:SetTable}{L:List (Nat×(Int×Value))}{D:List (List Bool)}(r:Rep L es t)(r5:p9 L t)(hb:L.length<76)(hS:s.heap.get? S=some (yw es ep t))(g:Good prog w s.heap (L.map (·.2)) D)
  {x:Addr}{kx:List Bool} (hx:Bt prog w s.heap kx x) {Q:Bool->Shared->Prop}
  (q:∀(b:Bool)(h':Heap)(tk:Nat)(L':List (Nat×(Int×Value)))(bE:Array (Int×Value))(fA:Nat)(t':SetTable),h'.get? S=some (yw bE fA t')->Heap.SameBut S s.heap h'->Rep L' bE t'->p9 L' t'->t'.led=t.led->t'.plain=t.plain ->
   Good prog w h' (L'.map (·.2)) (D++[kx])->L'.length<=L.length+1->(∀e∈L'.map (·.2),e∈L.map (·.2)\/e.2 = .ref x)->Q b { s with heap:=h',toks:=tk }):wpAny (model prog w) A (setAdd S (.ref x)) Q E s:=by
 unfold setAdd;refine xX (zZ (wpAny_pyHash_tuple (by lia) hx ?_));unfold setAddHashed setAddHashedIn;refine xX (zZ (xI (s:={ s with toks:=s.toks+(kx.length+1) }) hS rfl r.fits ?_));dsimp only;have Dk:byScan (.ref x) es=false:=by unfold byScan;rfl
 rw[Dk];simp only[Bool.false_eq_true,if_false];have hm:t.mask<=127:=by rcases r.mz with e|e|e<;>rw[e]<;>decide
 obtain⟨K,Kb,hK,GR⟩:=Xw r.mz (Bh prog w kx) (l:=L.map (·.1)) (by rw[zY];exact r.fl);unfold setSearch;refine zZ (ij (s:={ s with toks:=s.toks+(kx.length+1) }) (by lia) r hS g hx hK GR Kb (λhex=>?_) (λkK=>?_) 100000 0 none (yQ _) (by lia) (λy _ k hk=>absurd hk (Nat.not_lt_zero _)) rfl)
 ·dsimp only;refine zW (q false s.heap _ L es ep t hS (sR S s.heap) r r5 rfl rfl ⟨λe he=>?_,λk hk=>?_,g.one⟩ (wB _) λe he=>.inl he)
  ·obtain⟨k,h1,h2⟩:=g.in1 e he;exact⟨k,xP _ h1,h2⟩
  ·rcases zE.mp hk with hk|hk
   ·exact g.in2 k hk
   ·rw[zN.mp hk];exact hex
 ·dsimp only;refine zZ (xI (s:={ s with toks:=s.toks+(kx.length+1) }) hS rfl r.fits ?_);dsimp only;have Dg:es.size=L.length:=by rw[r.es];simp
  have r':=r.put (x:=.ref x) hK GR (by unfold p9 at r5;lia);have CP:(t.put (pos t.mask (Bh prog w kx) K)).1.plain=t.plain/\(t.put (pos t.mask (Bh prog w kx) K)).1.led=t.led/\(t.put (pos t.mask (Bh prog w kx) K)).1.mask=t.mask:=⟨rfl,rfl,rfl⟩
  generalize hT:t.put (pos t.mask (Bh prog w kx) K)=T at r' CP ⊢;obtain⟨t1,p⟩:=T;dsimp only at r' CP ⊢;obtain⟨cZ,hld,hmk⟩:=CP;have bM:=Z9 (L:=L) (pos t.mask (Bh prog w kx) K) (Bh prog w kx,Value.ref x);generalize hL':ins L (pos t.mask (Bh prog w kx) K) (Bh prog w kx,Value.ref x)=L1 at r' bM;have aL:L1.length=L.length+1:=by rw[bM.length_eq];rfl
  have hsz:(SetTable.insertAt es p (Bh prog w kx,Value.ref x)).size=L1.length:=by rw[r'.es];simp
  have qZ:∀h',Heap.SameBut S s.heap h'->Good prog w h' (L1.map (·.2)) (D++[kx]):=λh' sb=>by
   refine Good.mono ?_ (bn hS sb);refine Good.perm (Es:=(Bh prog w kx,Value.ref x)::L.map (·.2)) ⟨λe he=>?_,λk hk=>?_,xW.mpr ⟨λe he k h1 h2=>?_,g.one⟩⟩ (bM.map (·.2))
   ·rcases zL.mp he with rfl|he
    ·exact⟨kx,yP _ (zN.mpr rfl),x,rfl,hx,rfl⟩
    ·obtain⟨k,h1,h2⟩:=g.in1 e he;exact⟨k,xP _ h1,h2⟩
   ·rcases zE.mp hk with hk|hk
    ·obtain⟨e,h1,h2⟩:=g.in2 k hk;exact⟨e,zI _ h1,h2⟩
    ·rw[zN.mp hk];exact⟨_,zH,x,rfl,hx,rfl⟩
   ·have:k=kx:=h1.inj ⟨x,rfl,hx,rfl⟩;subst this;exact kK e he h2
  have EV:∀e∈L1.map (·.2),e∈L.map (·.2)\/e.2 = .ref x:=λe he=>by
   have:=(bM.map (·.2)).mem_iff.mp he;rcases zL.mp this with z|z
   ·exact .inr (by rw[z])
   ·exact .inl z
  have body:wpAny (model prog w) A (do
    storeSet S (SetTable.insertAt es p (Bh prog w kx,Value.ref x)) t1
    if(!false&&t1.tooFull)=true then do
     setRelay S (SetTable.grown (es.size+1))
     pure true
    else pure true) Q E { s with toks:=s.toks+(kx.length+1) }:=by
   refine zZ (v3 (s:={ s with toks:=s.toks+(kx.length+1) }) hS (by rw[hsz,zP];lia) λh1 qX AM=>?_);have htf:t1.tooFull=decide (t1.mask*3<=L1.length*5):=by
    unfold SetTable.tooFull SetTable.fill;rw[r'.pl,r'.dm];simp
   by_cases hfull:t1.mask*3<=L1.length*5
   ·rw[htf,zA hfull];simp only[Bool.not_false,Bool.and_self,if_true];obtain⟨hsa,t2,order,L2,e1,e2,e3,r2,pm,r52⟩:=Y1 r' (by lia) (by unfold p9 at r5;rw[hmk,aL];lia) hfull;have hgr:SetTable.grown (es.size+1)=SetTable.grown L1.length:=by rw[Dg,aL]
    rw[hgr];unfold setRelay;refine zZ (zZ (xI (s:={ s with heap:=h1,toks:=s.toks+(kx.length+1) }) qX rfl r'.fits ?_));dsimp only;rw[zC (by rw[zP];lia),e1];have iN:(order.filterMap ((SetTable.insertAt es p (Bh prog w kx,Value.ref x))[·]?)).size=L1.length:=by
     rw[r2.es];have h6:=pm.length_eq;simpa using h6
    refine zZ (show wpAny _ _ (if((order.filterMap ((SetTable.insertAt es p (Bh prog w kx,Value.ref x))[·]?)).size != (SetTable.insertAt es p (Bh prog w kx,Value.ref x)).size)=true then _ else pure (order.filterMap ((SetTable.insertAt es p (Bh prog w kx,Value.ref x))[·]?),t2)) _ _ _ from ?_);rw[zC (by rw[iN,hsz];simp)];refine zW ?_;dsimp only;refine v3 (s:={ s with heap:=h1,toks:=s.toks+(kx.length+1) }) qX (by rw[iN,zP];lia) λh2 Az DF=>?_;refine zW (q true h2 _ L2 _ _ t2 Az (AM.trans DF) r2 r52 (e2.trans hld) (e3.trans cZ) ((qZ h2 (AM.trans DF)).perm pm) ?_ λe he=>EV e (pm.mem_iff.mp he));have h6:=pm.length_eq;simp at h6;lia
   ·rw[htf,yL hfull];simp only[uB,Bool.false_eq_true,if_false];exact zW (q true h1 _ L1 _ _ t1 qX AM r' (by unfold p9;lia) hld cZ (qZ h1 AM) (by lia) EV)
  split
  ·refine zZ (Xr (s:={ s with toks:=s.toks+(kx.length+1) }) hx ?_);simp only[if_true];exact body
  ·refine zZ (zW ?_);simp only[if_true];exact body
end
end My
namespace My
open PySem PySem.Spec PySem.W
open Tb
section
variable {prog:Program}{w:World}{A:Around}{E:Value->Shared->Prop}{s:Shared}
abbrev byT(w:World):Bool:=w.params.followText "set-order"
abbrev xf(w:World):Obj:=yw #[] 0 (.fresh 0 0 (!byT w))
theorem O0(a:Value){Q₁:Value->Shared->Prop}(h:Q₁ (.ref s.heap.objs.size) { s with heap:=s.heap.push (xf w) }):
  codeAny (model prog w) A (.call (.builtin "set.__new__") ⟨[.type "set",a],[]⟩) (wants Q₁ E) s:=by
 refine codeAny_of_tree (show wpAny _ A.in1 (do checkBuiltinCall "set.__new__" ⟨[.type "set",a],[]⟩;again (.builtin "set.__new__" ⟨[.type "set",a],[]⟩)) _ _ s from ?_);refine zZ (wpAny_of_eq (F.newCall_set_1 a) (zW ⟨vO F.plain_set_new _,?_⟩));refine wV F.entry_set_new (by
  rw[xM F.plain_set_new _];unfold Builtin.«set.__new__» Builtin.Frozenset.newClass;have kH:=sub_set_self;obtain⟨hp,g,d,tk,os⟩:=s;dsimp only
  wp_walk
  refine uO (zW ?_);dsimp only;simp only[newObj];exact zZ (wpAny_alloc (zW (zW h))))
theorem Sm{I S:Addr}{fp wr:List Addr}{n:Nat}{P:Nat->Value->Prop}{St:Nat->Heap->Prop}(W:Walks prog w A.in1 I fp wr n P St)(hSf:S∉fp)(J:Nat->Heap->Prop)(hJ:∀i h h',J i h->(∀b o,b∉wr->h.get? b=some o->h'.get? b=some o)->J i h')
  (AX:∀i v (s':Shared) (Q:Bool->Shared->Prop) (E':Value->Shared->Prop),i<n->P i v->J i s'.heap->(∀b h' tk,Heap.SameBut S s'.heap h'->J (i+1) h'->Q b { s' with heap:=h',toks:=tk })->wpAny (model prog w) A.in1 (setAdd S v) Q E' s')
  {R:Result->Shared->Prop} (h₀:Heap) (hR:∀(s':Shared) h' tk,J n h'->(∀b o,b≠S->b∉wr->h₀.get? b=some o->h'.get? b=some o)->s'={ s with heap:=h',toks:=tk }->R (.ok (.ret .none)) s') :
  ∀(k i:Nat)(h:Heap)(tk:Nat),n-i=k->i<=n->St i h->J i h->(∀b o,b≠S->b∉wr->h₀.get? b=some o->h.get? b=some o)->codeAny (model prog w) A (.builtin "set.update.loop" ⟨[.ref S,.ref I],[]⟩) R { s with heap:=h,toks:=tk }:=by
 intro k
 induction k with
 |zero =>
  intro i h tk hk hi st j keep;have e:i=n:=by lia
  subst e;refine wV PyProof.Rows.F.entry_set_update_loop ?_;rw[xM vH _];refine(show wpAny _ A.in1 (pyNext (.ref I) >>= _) _ _ _ from zZ (W.done { s with heap:=h,toks:=tk } _ _ st λh' tk' bU=>?_));exact(show wpAny _ A.in1 (ret Value.none) _ _ _ from zW (hR _ h' tk' (hJ _ _ _ j bU) (λb o h1 h2 h3=>bU b o h2 (keep b o h1 h2 h3)) rfl))
 |succ k ih =>
  intro i h tk hk hi st j keep;have aO:i<n:=by lia
  refine wV PyProof.Rows.F.entry_set_update_loop ?_;rw[xM vH _];refine(show wpAny _ A.in1 (pyNext (.ref I) >>= _) _ _ _ from zZ (W.item i { s with heap:=h,toks:=tk } _ _ aO st λv h' tk' hP gL bU=>?_));refine(show wpAny _ A.in1 (holding [v] (setAdd S v) >>= _) _ _ _ from zZ (xX (AX i v { s with heap:=h',toks:=tk' } _ _ aO hP (hJ _ _ _ j bU) λb Cd tk'' sb j'=>?_)));refine zW ⟨vO vH _,ih (i+1) Cd tk'' (by lia) aO ?_ j' λb o h1 h2 h3=>?_⟩
  ·exact W.frame _ _ _ gL λb hb o e=>(sb.2 b λz=>hSf (z▸hb)).trans e
  ·exact(sb.2 b h1).trans (bU b o h2 (keep b o h1 h2 h3))
set_option maxHeartbeats 3200000 in
theorem md{T:String}{l:Addr}{items:Array Value}{Q:Value->Shared->Prop}(n1:isSubtype (.type T) (.type "set")=pure false)(n2:isSubtype (.type T) (.type "frozenset")=pure false)(n3:(Value.type T==Value.type "dict")=false)(hh:A.handled=none)(ol:Obj)(pK:s.heap.get? l=some ol)(Ax:ol.cls = .type T)
  (gP:∀(A':Around)(s':Shared)(E':Value->Shared->Prop)(Q':Value->Shared->Prop),A'.handled=none->s'.heap.get? l=some ol->(∀(oI:Obj)(St:Nat->Heap->Prop),(∀A'':Around,A''.handled=none->Walks prog w A'' s'.heap.objs.size [s'.heap.objs.size,l] [s'.heap.objs.size] items.size (λi v=>items[i]?=some v) St)->St 0 (s'.heap.push oI)->Q' (.ref s'.heap.objs.size) { s' with heap:=s'.heap.push oI })->wpAny (model prog w) A' (pyIter (.ref l)) Q' E' s') (J:Nat->Heap->Prop) (hJ:∀i h h',J i h->(∀b o,b≠s.heap.objs.size+1->h.get? b=some o->h'.get? b=some o)->J i h')
  (j0:J 0 (s.heap.push (xf w)))
  (AX:∀i v (A':Around) (s':Shared) (Q:Bool->Shared->Prop) (E':Value->Shared->Prop),A'.units<=A.units+8->items[i]?=some v->J i s'.heap->(∀b h' tk,Heap.SameBut s.heap.objs.size s'.heap h'->J (i+1) h'->Q b { s' with heap:=h',toks:=tk })->wpAny (model prog w) A' (setAdd s.heap.objs.size v) Q E' s')
  (h:∀(h':Heap)(tk:Nat),J items.size h'->(∀b o,s.heap.get? b=some o->h'.get? b=some o)->Q (.ref s.heap.objs.size) { s with heap:=h',toks:=tk }) :
  wpAny (model prog w) A (call (.type "set") [.ref l]) Q E s:=by
 obtain⟨c,tl,hmro⟩:=wG.mro;have hmade:=wG.made;have kH:=wG.sub;refine wpAny_call (codeAny_of_tree (show wpAny _ _ (callAny (.type "set") _) _ _ _ from zW ⟨Code.quiet_builtin _ (by decide +kernel),wV F.entry_type_call ?_⟩));rw[Around.under_plain (weight_type_call_type "set" [.ref l] []) rfl];have t1:=wG.notType;have t2:=wG.canCreate;have t3:=F.typeCall_set_1 (.ref l)
 repeat any_goals first|assumption|wp_step
 refine uN (O0 (.ref l) (E:=E) (Q₁:=λobj s₁=>obj = .ref s.heap.objs.size/\s₁={ s with heap:=s.heap.push (xf w) }) ⟨rfl,rfl⟩) λr s₁ hr=>?_;cases r with
 |error e=>exact hr
 |ok fl =>
  cases fl with
  |ret obj =>
   obtain⟨rfl,rfl⟩:=hr;have hS:(s.heap.push (xf w)).get? s.heap.objs.size=some (xf w):=zT _ rfl;have hT:Shared.TypeIs { s with heap:=s.heap.push (xf w) } (.ref s.heap.objs.size) "set":=⟨_,hS,rfl⟩
   have i1:=wG.init.lookup;have i2:=wG.init.bind (.ref s.heap.objs.size)
   repeat any_goals first|assumption|wp_step
   refine uN (codeAny_call_builtin (R:=wants (λr s₂=>r = .none/\∃h' tk,s₂={ s with heap:=h',toks:=tk }/\J items.size h'/\∀b o,s.heap.get? b=some o->h'.get? b=some o) E) wG.init.plain F.entry_set_init (check_set_init_1 hT ?_)) λr₂ s₂ hr₂=>?_
   ·obtain⟨ocls,EJ,EK,C7⟩:=ol;simp only at Ax;subst Ax;have pJ:(s.heap.push (xf w)).get? l=some { cls:=.type T,dict:=EJ,data:=EK,slots:=C7 }:=zX _ pK;unfold Builtin.«set.__init__» noKeywords Builtin.Frozenset.updateFrom;generalize hPI:pyIter=PI
    wp_walk
    subst hPI;refine gP _ _ _ _ (by simp[hh]) pJ λoI St W st=>(zZ (wpAny_runValue ?_))
    have lS:l<s.heap.objs.size:=zR pK;have Ds:(s.heap.push (xf w)).objs.size=s.heap.objs.size+1:=xT _ _;have hSf:s.heap.objs.size∉[(s.heap.push (xf w)).objs.size,l]:=by
     rw[Ds];simp only[zL,vE,or_false,not_or];exact⟨zG (yE _),wW lS⟩
    refine Sm (s:=s) (W _ (by simp[hh])) hSf J (λi h h' j k=>hJ i h h' j λb o hb e=>k b o (by rw[Ds];simpa using hb) e)
     (λi v s' Q' E' hi hv j q=>AX i v _ s' Q' E' (by simp only[Around.in1_units];lia) hv j q) s.heap ?_ (items.size-0) 0 _ s.toks (by lia) (yQ _) st (hJ 0 _ _ j0 λb o _ e=>zX _ e) λb o _ _ e=>zX _ (zX _ e)
    rintro s' h' tk j keep rfl;refine(show wpAny _ _ _ _ _ _ from zW (show wpAny _ _ (ret Value.none) _ _ _ from zW ⟨rfl,h',tk,rfl,j,λb o e=>keep b o (zG (zR e)) ?_ e⟩));rw[Ds];have:=zR e;simp only[zN];exact zG (xJ this)
   ·cases r₂ with
    |error e=>exact hr₂
    |ok fl₂ =>
     cases fl₂ with
     |ret r =>
      obtain⟨rfl,h',tk,rfl,j,bU⟩:=hr₂
      repeat any_goals first|assumption|wp_step
      exact h _ _ j bU
     |_=>exact hr₂.elim
  |_=>exact hr.elim
theorem o5{l:Addr}{items:Array Value}{Q:Value->Shared->Prop}(hh:A.handled=none)(hl:s.heap.IsList l items)(J:Nat->Heap->Prop)(hJ:∀i h h',J i h->(∀b o,b≠s.heap.objs.size+1->h.get? b=some o->h'.get? b=some o)->J i h')
  (j0:J 0 (s.heap.push (xf w)))
  (AX:∀i v (A':Around) (s':Shared) (Q:Bool->Shared->Prop) (E':Value->Shared->Prop),A'.units<=A.units+8->items[i]?=some v->J i s'.heap->(∀b h' tk,Heap.SameBut s.heap.objs.size s'.heap h'->J (i+1) h'->Q b { s' with heap:=h',toks:=tk })->wpAny (model prog w) A' (setAdd s.heap.objs.size v) Q E' s')
  (h:∀(h':Heap)(tk:Nat),J items.size h'->(∀b o,s.heap.get? b=some o->h'.get? b=some o)->Q (.ref s.heap.objs.size) { s with heap:=h',toks:=tk }) :
  wpAny (model prog w) A (call (.type "set") [.ref l]) Q E s:=by
 obtain⟨ol,pK,Ax,nl,Aw⟩:=hl;refine md (T:="list") F.sub_list_set F.sub_list_frozenset (by decide) hh ol pK Ax (λA' s' E' Q' GU pJ k=>?_) J hJ j0 AX h;have rO:s'.heap.IsList l items:=⟨ol,pJ,Ax,nl,Aw⟩
 exact sS rO (k _ _ (λA'' Dm=>Walks.list Dm _ l (zG (zR pJ)) items) ⟨⟨_,zT _ rfl,rfl,rfl⟩,rO.push _⟩)
theorem ju:isSubtype (.type "tuple") (.type "set")=pure false:=by rw[sO];kernel_rfl
theorem jt:isSubtype (.type "tuple") (.type "frozenset")=pure false:=by rw[sO];kernel_rfl
theorem ee{l:Addr}{items:Array Value}{Q:Value->Shared->Prop}(hh:A.handled=none)(hl:s.heap.IsTuple l items)(J:Nat->Heap->Prop)(hJ:∀i h h',J i h->(∀b o,b≠s.heap.objs.size+1->h.get? b=some o->h'.get? b=some o)->J i h')
  (j0:J 0 (s.heap.push (xf w)))
  (AX:∀i v (A':Around) (s':Shared) (Q:Bool->Shared->Prop) (E':Value->Shared->Prop),A'.units<=A.units+8->items[i]?=some v->J i s'.heap->(∀b h' tk,Heap.SameBut s.heap.objs.size s'.heap h'->J (i+1) h'->Q b { s' with heap:=h',toks:=tk })->wpAny (model prog w) A' (setAdd s.heap.objs.size v) Q E' s')
  (h:∀(h':Heap)(tk:Nat),J items.size h'->(∀b o,s.heap.get? b=some o->h'.get? b=some o)->Q (.ref s.heap.objs.size) { s with heap:=h',toks:=tk }) :
  wpAny (model prog w) A (call (.type "set") [.ref l]) Q E s:=by
 obtain⟨ol,pK,Ax,nl,Aw⟩:=hl;refine md (T:="tuple") ju jt (by decide) hh ol pK Ax (λA' s' E' Q' GU pJ k=>?_) J hJ j0 AX h;have rO:s'.heap.IsTuple l items:=⟨ol,pJ,Ax,nl,Aw⟩
 exact wH rO (k _ _ (λA'' Dm=>Walks.tuple Dm _ l (zG (zR pJ)) items) ⟨⟨_,zT _ rfl,rfl,rfl⟩,rO.push _⟩)
theorem Sq{l:Addr}{items:Array Value}{Q:Value->Shared->Prop}(hh:A.handled=none)(hl:s.heap.IsList l items\/s.heap.IsTuple l items)(J:Nat->Heap->Prop)(hJ:∀i h h',J i h->(∀b o,b≠s.heap.objs.size+1->h.get? b=some o->h'.get? b=some o)->J i h')
  (j0:J 0 (s.heap.push (xf w)))
  (AX:∀i v (A':Around) (s':Shared) (Q:Bool->Shared->Prop) (E':Value->Shared->Prop),A'.units<=A.units+8->items[i]?=some v->J i s'.heap->(∀b h' tk,Heap.SameBut s.heap.objs.size s'.heap h'->J (i+1) h'->Q b { s' with heap:=h',toks:=tk })->wpAny (model prog w) A' (setAdd s.heap.objs.size v) Q E' s')
  (h:∀(h':Heap)(tk:Nat),J items.size h'->(∀b o,s.heap.get? b=some o->h'.get? b=some o)->Q (.ref s.heap.objs.size) { s with heap:=h',toks:=tk }) :
  wpAny (model prog w) A (call (.type "set") [.ref l]) Q E s:=by
 rcases hl with hl|hl
 ·exact o5 hh hl J hJ j0 AX h
 ·exact ee hh hl J hJ j0 AX h
end
end My
namespace My
open PySem PySem.Spec PySem.W
open Tb
theorem si_next:Slot "set_iterator" "__next__" "set_iterator.__next__" :=
 Slot.of (n:="__next__") (owner:="set_iterator") (by rw[typeLookup_type,builtinLookup_eq_fast];kernel_rfl)
  (by decide +kernel) (by decide +kernel) (by decide +kernel) (by first|exact Or.inl (by decide +kernel)|exact Or.inr (by decide +kernel)) (by rw[sO];kernel_rfl)
theorem bq:entryFor table "set_iterator.__next__"=some Builtin.«set_iterator.__next__»:=entryFor_of_tree (by kernel_rfl)
theorem br:Manifest.owners.lookup (String.ofList "rotareti_tes".toList.reverse)=some Manifest.sig_set_iterator:=by kernel_rfl
theorem W8(a:Value):argsOk "set_iterator.__next__" ⟨[a],[]⟩:=by
 unfold argsOk;rw[signature?_of (id:="set_iterator.__next__") (n:="__txen__".toList) (o:="rotareti_tes".toList) (by kernel_rfl) br]
 kernel_rfl
theorem ma:entryFor table "set.__iter__"=some Builtin.«frozenset.__iter__»:=entryFor_alias (id':="frozenset.__iter__") (by kernel_rfl) rfl (by decide +kernel) (by kernel_rfl)
section
variable {prog:Program}{w:World}{A:Around}{E:Value->Shared->Prop}{s:Shared}
abbrev wb(first:Value)(i:Nat)(S:Addr)(n ep:Nat):Obj:={ cls:=.type "set_iterator",dict:=none,data:=.fields #[first,.int i 0,.ref S,.int n 0,.int ep 0],slots:=#[] }
theorem U2{S:Addr}{es:Array (Int×Value)}{ep:Nat}{t:SetTable}{slot given:Nat}{Q:Option (Value×Nat)->Shared->Prop}(hS:s.heap.get? S=some (yw es ep t))(hf:t.fits es.size=true)(hb:byT w=true)
  (h:Q (((pickOrder (w.params.setOrder S ep) es)[given]?).map λe=>(e.2,slot)) s):wpAny (model prog w) A (setNext S slot given ep) Q E s:=by
 unfold setNext;refine zZ (xI hS rfl hf ?_);unfold setsByText;refine zZ (zZ (uO (zW ?_)));show wpAny _ _ (if byT w=true then _ else _) _ _ _;rw[yT hb];dsimp only;rw[zC (by simp)];unfold setWalk setsByText;refine zZ (zZ (xI hS rfl hf ?_));refine zZ (zZ (uO (zW ?_)));show wpAny _ _ (if byT w=true then _ else _) _ _ _;rw[yT hb];refine zZ (uO (zW (zW h)))
theorem Yh{S:Addr}{es:Array (Int×Value)}{ep:Nat}{t:SetTable}{slot given:Nat}{Q:Option (Value×Nat)->Shared->Prop}(hS:s.heap.get? S=some (yw es ep t))(hf:t.fits es.size=true)(hb:byT w=false)(hd:(!t.plain&&decide (es.size>1))=false)(hl:t.led=true)
  (h:Q (match es[SetTable.below t.place slot]?,t.place[SetTable.below t.place slot]? with|some (_,x),some j=>some (x,j+1)|_,_=>none) s):wpAny (model prog w) A (setNext S slot given ep) Q E s:=by
 unfold setNext;refine zZ (xI hS rfl hf ?_);unfold setsByText;refine zZ (zZ (uO (zW ?_)));show wpAny _ _ (if byT w=true then _ else _) _ _ _;rw[zC (by rw[hb];exact zF)];show wpAny _ _ (if(!t.plain&&decide (es.size>1))=true then _ else _) _ _ _;rw[hd,zC zF];refine zZ (show wpAny _ _ (if(!t.led&&!es.isEmpty)=true then _ else pure ()) _ _ _ from ?_);rw[hl,zC (by simp)];refine zW (zW h)
theorem Yg{S:Addr}{es:Array (Int×Value)}{ep:Nat}{t:SetTable}{place:Nat}{x:Int×Value}{Q:Value->Shared->Prop}(hS:s.heap.get? S=some (yw es ep t))(hf:t.fits es.size=true)(hx:es[place]?=some x)(h:Q x.2 s):
  wpAny (model prog w) A (setNextDrawn S place ep) Q E s:=by
 unfold setNextDrawn;refine zZ (xI hS rfl hf ?_);dsimp only;rw[zC (by simp),hx];exact zW h
theorem Xh{I:Addr}{h1:Heap}{Q:Option Value->Shared->Prop}(hh:A.handled=none)(hQ:∀h',(∀b o,h1.get? b=some o->h'.get? b=some o)->Q none { s with heap:=h' }){Q':PySem.Fin->Shared->Prop}:
  wpAny (model prog w) A.in1 (do raiseNew (<-newExc (.type "StopIteration") []):Sem PySem.Fin) Q' (λe s'=>wpAny (model prog w) A (do if <-isInstance e (.type "StopIteration")then pure none else throw e) Q E s') { s with heap:=h1 }:=by
 refine zZ ?_;simp only[newExc,newTuple];refine zZ (xV ?_ (by size_fits));refine zZ (m:=firstArgMember _ _) (wpAny_of_eq (a:=Value.none) (by first|rfl|(simp only[firstArgMember];rfl)) (xV ?_ (by size_fits)));simp only[raiseNew];refine zZ (wpAny_handled ?_);rw[show A.in1.handled=none from hh];refine zZ (zW (wpAny_throw ?_));refine zZ (tX (b:=true) (T:="StopIteration") ⟨_,zT _ rfl,rfl⟩ isSubtype_stop ?_);exact zW (hQ _ λb o e=>zX _ (zX _ e))
end
end My
namespace My
open PySem PySem.Spec PySem.W
open Tb
section
variable {prog:Program}{w:World}{A:Around}{E:Value->Shared->Prop}{s:Shared}
theorem fld{I:Addr}{vs:Array Value}{k:Nat}{x:Value}{Q:Unit->Shared->Prop}(ho:s.heap.get? I=some { cls:=.type "set_iterator",dict:=none,data:=.fields vs,slots:=#[] })(hk:k<vs.size)
  (h:∀h',h'.get? I=some { cls:=.type "set_iterator",dict:=none,data:=.fields (vs.setIfInBounds k x),slots:=#[] }->Heap.SameBut I s.heap h'->Q () { s with heap:=h' }):wpAny (model prog w) A (setField (.ref I) k x) Q E s:=wF ho hk h
theorem R9{I S:Addr}{es:Array (Int×Value)}{ep slot i:Nat}{t:SetTable}{Q:Option Value->Shared->Prop}(hh:A.handled=none)(hI:s.heap.get? I=some (wb (.int slot 0) i S es.size ep))(hS:s.heap.get? S=some (yw es ep t))(hf:t.fits es.size=true)
  {r:Option (Value×Nat)} (hn:∀(A':Around)(E':Value->Shared->Prop)(Q':Option (Value×Nat)->Shared->Prop),Q' r s->wpAny (model prog w) A' (setNext S slot i ep) Q' E' s)
  (q1:∀x nx h',r=some (x,nx)->h'.get? I=some (wb (.int nx 0) (i+1) S es.size ep)->Heap.SameBut I s.heap h'->Q (some x) { s with heap:=h' })
  (q2:∀h',r=none->(∀b o,b≠I->s.heap.get? b=some o->h'.get? b=some o)->Q none { s with heap:=h' }):wpAny (model prog w) A (pyNext (.ref I)) Q E s:=by
 have hT:s.TypeIs (.ref I) "set_iterator":=⟨_,hI,rfl⟩
 unfold pyNext;refine zZ (uH (xO (name:=Str.ofString "__next__") hT si_next (xZ si_next hT bq ?_ (W8 _))));unfold Builtin.«set_iterator.__next__»;refine zZ (zW (zZ (wpAny_fieldsOf hI rfl ?_)));dsimp only;refine zZ (wpAny_setEntries_of hS rfl hf ?_);rw[zC (by simp)];simp only[yZ];refine zZ (hn _ _ _ ?_);cases r with
 |some y =>
  obtain⟨x,nx⟩:=y;dsimp only;refine zZ (fld hI (by simp) λh1 e1 s1=>?_);refine zZ (fld (s:={ s with heap:=h1 }) e1 (by simp) λh2 e2 s2=>?_);exact zW ⟨_,rfl,zW (q1 x nx h2 rfl (by unfold wb;simpa[rawInt]using e2) (s1.trans s2))⟩
 |none =>
  dsimp only;refine zZ (fld hI (by simp) λh1 e1 s1=>?_);exact Xh (I:=I) hh λh' k=>q2 h' rfl λb o hb e=>k b o ((s1.2 b hb).trans e)
theorem Sa{I S T:Addr}{es:Array (Int×Value)}{ep i:Nat}{t:SetTable}{ps:List Nat}{c:Nat}{Q:Option Value->Shared->Prop}(hh:A.handled=none)(hI:s.heap.get? I=some (wb (.ref T) i S es.size ep))(hS:s.heap.get? S=some (yw es ep t))(hf:t.fits es.size=true)
  (hT':∃o,s.heap.get? T=some o/\o.data = .seq (ps.map λ(i:Nat)=>rawInt i).toArray c)
  (q1:∀p x h',ps[i]?=some p->es[p]?=some x->h'.get? I=some (wb (.ref T) (i+1) S es.size ep)->Heap.SameBut I s.heap h'->Q (some x.2) { s with heap:=h' }) (hp:∀p,ps[i]?=some p->∃x,es[p]?=some x)
  (q2:∀h',ps[i]?=none->(∀b o,b≠I->s.heap.get? b=some o->h'.get? b=some o)->Q none { s with heap:=h' }):wpAny (model prog w) A (pyNext (.ref I)) Q E s:=by
 have hT:s.TypeIs (.ref I) "set_iterator":=⟨_,hI,rfl⟩
 obtain⟨oT,eT,dT⟩:=hT';unfold pyNext;refine zZ (uH (xO (name:=Str.ofString "__next__") hT si_next (xZ si_next hT bq ?_ (W8 _))));unfold Builtin.«set_iterator.__next__»;refine zZ (zW (zZ (wpAny_fieldsOf hI rfl ?_)));dsimp only;refine zZ (wpAny_setEntries_of hS rfl hf ?_);rw[zC (by simp)];simp only[yZ];refine zZ (vZ eT dT ?_);dsimp only;cases hpi:ps[i]? with
 |some p =>
  have e:((ps.map λ(i:Nat)=>rawInt i).toArray)[i]?=some (rawInt p):=by simp[hpi]
  rw[e];obtain⟨x,hx⟩:=hp p hpi;show wpAny _ _ (setNextDrawn S (Int.toNat (p:Int)) ep >>= _) _ _ _;rw[yZ];refine zZ (Yg hS hf hx ?_);refine zZ (fld hI (by simp) λh1 e1 s1=>?_);exact zW ⟨_,rfl,zW (q1 p x h1 hpi hx (by unfold wb;simpa[rawInt]using e1) s1)⟩
 |none =>
  have e:((ps.map λ(i:Nat)=>rawInt i).toArray)[i]?=none:=by simpa using hpi
  rw[e];dsimp only;refine zZ (fld hI (by simp) λh1 e1 s1=>?_);refine zZ (fld (s:={ s with heap:=h1 }) e1 (by simp) λh2 e2 s2=>?_);exact Xh (I:=I) hh λh' k=>q2 h' hpi λb o hb e=>k b o ((s2.2 b hb).trans ((s1.2 b hb).trans e))
theorem W9:Slot "set_iterator" "__iter__" "set_iterator.__iter__" :=
 Slot.of (n:="__iter__") (owner:="set_iterator") (by rw[typeLookup_type,builtinLookup_eq_fast];kernel_rfl)
  (by decide +kernel) (by decide +kernel) (by decide +kernel) (by first|exact Or.inl (by decide +kernel)|exact Or.inr (by decide +kernel)) (by rw[sO];kernel_rfl)
theorem jq:entryFor table "set_iterator.__iter__"=some Builtin.«dict_keyiterator.__iter__»:=entryFor_alias (id':="dict_keyiterator.__iter__") (by kernel_rfl) rfl (by decide +kernel) (by kernel_rfl)
theorem ef(a:Value):argsOk "set_iterator.__iter__" ⟨[a],[]⟩:=by
 unfold argsOk;rw[signature?_of (id:="set_iterator.__iter__") (n:="__reti__".toList) (o:="rotareti_tes".toList) (by kernel_rfl) br]
 kernel_rfl
theorem W6{I:Addr}{fs:Array Value}{Q:Value->Shared->Prop}(hI:s.heap.get? I=some { cls:=.type "set_iterator",dict:=none,data:=.fields fs,slots:=#[] })(h:Q (.ref I) s):wpAny (model prog w) A (pyIter (.ref I)) Q E s:=by
 have hT:s.TypeIs (.ref I) "set_iterator":=⟨_,hI,rfl⟩
 refine wpAny_pyIter_slot hT W9 (xZ W9 hT jq ?_ (ef _));refine(show wpAny _ _ (ret (.ref I)) _ _ s from ?_);exact zW ⟨_,rfl,"set_iterator",_,hT,si_next.lookup,h⟩
end
end My
namespace My
open PySem PySem.Spec PySem.W
open Tb
theorem we{α:Type}:∀{l:List α}{i:Nat}(hi:i<l.length),(l[i]::l.eraseIdx i).Perm l
 |a::l,0,_=>.rfl
 |a::l,i+1,hi=>by
  have cV:i<l.length:=by simpa using hi
  have ih:=we cV;show(l[i]::a::l.eraseIdx i).Perm (a::l);exact(List.Perm.swap _ _ _).trans (ih.cons a)
theorem W1{α:Type}(next:Nat->Nat):∀(kO k:Nat)(left:List α)(out:Array α),left.length<=kO->(pickOrder.go next kO k left out).toList.Perm (out.toList++left)
 |0,k,left,out,h=>by
  have:left=[]:=wP.mp (by lia);subst this;unfold pickOrder.go;simp
 |f+1,k,left,out,h=>by
  unfold pickOrder.go;cases hc:left[next k % left.length]? with
  |none =>
   dsimp only;have:left=[]:=by
    rcases left with _|⟨a,l⟩
    ·rfl
    ·exfalso;rw[tU]at hc;have:=Nat.mod_lt (next k) (show 0<(a::l).length by simp);lia
   subst this;simp
  |some x =>
   dsimp only;obtain⟨hi,e⟩:=zV.mp hc;have ih:=W1 next f (k+1) (left.eraseIdx (next k % left.length)) (out.push x) (by rw[List.length_eraseIdx_of_lt hi];lia)
   refine ih.trans ?_;rw[Array.toList_push,wA];refine List.Perm.append_left _ ?_;have:=we hi;rw[e]at this;exact this
theorem Vk{α:Type}(next:Nat->Nat)(xs:Array α):(pickOrder next xs).toList.Perm xs.toList:=by
 have:=W1 next xs.size 0 xs.toList #[] (by simp)
 simpa[pickOrder]using this
section
variable {prog:Program}{w:World}{A:Around}{E:Value->Shared->Prop}{s:Shared}
theorem wp_choose'{rK:Source}{n:Nat}{Q:Nat->Shared->Prop}(hn:n≠0)(h:∀i d,i<n->Q i { s with drawn:=d }):wpAny (model prog w) A (choose rK n) Q E s:=fun Γ p hΓ=>by
 unfold choose;rw[Sem.wp_choose];exact⟨hn,h _ _ (Nat.mod_lt _ (Nat.pos_of_ne_zero hn))⟩
theorem qw{α:Type}:∀(n:Nat)(xs:List α)(s:Shared)(Q:List α->Shared->Prop),xs.length<=n->(∀ys d,ys.Perm xs->Q ys { s with drawn:=d })->wpAny (model prog w) A (drawOrder n xs) Q E s
 |0,xs,s,Q,hn,h=>by
  have:xs=[]:=wP.mp (by lia);subst this;unfold drawOrder;exact zW (h [] s.drawn .rfl)
 |n+1,[],s,Q,_,h=>by
  unfold drawOrder;exact zW (h [] s.drawn .rfl)
 |n+1,x::xs,s,Q,hn,h=>by
  unfold drawOrder;refine zZ (wp_choose' (by simp) λi d hi=>?_);have e:(x::xs)[i]?=some (x::xs)[i]:=zM hi;rw[e];dsimp only;refine zZ (qw n ((x::xs).eraseIdx i) { s with drawn:=d } _ (by rw[List.length_eraseIdx_of_lt hi];simp at hn ⊢;lia) λys d' p=>?_);exact zW (h _ d' ((p.cons _).trans (we hi)))
theorem Tg{I S:Addr}{es:Array (Int×Value)}{ep:Nat}{t:SetTable}(hh:A.handled=none)(hf:t.fits es.size=true)(bZ:I≠S)(vs:List Value)(aL:vs.length=es.size)(sl:Nat->Nat)
  (hr:∀i (s':Shared) (A':Around) (E':Value->Shared->Prop) (Q':Option (Value×Nat)->Shared->Prop),i<=es.size->s'.heap.get? S=some (yw es ep t)->Q' ((vs[i]?).map λv=>(v,sl (i+1))) s'->wpAny (model prog w) A' (setNext S (sl i) i ep) Q' E' s') :
  Walks prog w A I [I,S] [I] es.size (λi v=>vs[i]?=some v) (λi h=>h.get? I=some (wb (.int (sl i) 0) i S es.size ep)/\h.get? S=some (yw es ep t))where
 sub:=λb hb=>by simp at hb;simp[hb]
 frame:=λi h h' st k=>⟨k I (by simp) _ st.1,k S (by simp) _ st.2⟩
 item:=λi s Q E hi st hQ=>by
  refine R9 (t:=t) hh st.1 st.2 hf (λA' E' Q' q=>hr i s A' E' Q' (by lia) st.2 q) (λx nx h' e eI sb=>?_) (λh' e=>?_)
  ·cases hv:vs[i]? with
   |none=>rw[hv]at e;cases e
   |some v =>
    rw[hv]at e;cases e;refine hQ _ h' s.toks hv ⟨eI,(sb.2 S (wU bZ)).trans st.2⟩ λb o hb e=>(sb.2 b λz=>hb (by simp[z])).trans e
  ·have:vs[i]?=some vs[i]:=zM (by lia);rw[this]at e;cases e
 done:=λs Q E st hQ=>by
  refine R9 (t:=t) hh st.1 st.2 hf (λA' E' Q' q=>hr _ s A' E' Q' (zU _) st.2 q) (λx nx h' e eI sb=>?_) (λh' e k=>?_)
  ·have:vs[es.size]?=none:=wQ (by lia);rw[this]at e;cases e
  ·exact hQ h' s.toks λb o hb e=>k b o (λz=>hb (by simp[z])) e
 self:=λi s Q E st hQ=>W6 st.1 hQ
theorem Ti{I S T:Addr}{es:Array (Int×Value)}{ep:Nat}{t:SetTable}{ps:List Nat}{c:Nat}(hh:A.handled=none)(hf:t.fits es.size=true)(bZ:I≠S)(hnT:I≠T)(hp:ps.Perm (List.range es.size)):
  Walks prog w A I [I,S,T] [I] es.size (λi v=>(ps.map λp=>(es.getD p (0,Value.none)).2)[i]?=some v) (λi h=>h.get? I=some (wb (.ref T) i S es.size ep)/\h.get? S=some (yw es ep t)/\∃o,h.get? T=some o/\o.data = .seq (ps.map λ(i:Nat)=>rawInt i).toArray c)where
 sub:=λb hb=>by simp at hb;simp[hb]
 frame:=λi h h' st k=>⟨k I (by simp) _ st.1,k S (by simp) _ st.2.1,let⟨o,e,d⟩:=st.2.2;⟨o,k T (by simp) _ e,d⟩⟩
 item:=λi s Q E hi st hQ=>by
  have aL:ps.length=es.size:=by rw[hp.length_eq,xS]
  refine Sa (t:=t) hh st.1 st.2.1 hf st.2.2 (λp x h' e1 e2 eI sb=>?_) (λp e=>?_) (λh' e=>?_)
  ·refine hQ _ h' s.toks ?_ ⟨eI,(sb.2 S (wU bZ)).trans st.2.1,let⟨o,e,d⟩:=st.2.2;⟨o,(sb.2 T (wU hnT)).trans e,d⟩⟩ λb o hb e=>(sb.2 b λz=>hb (by simp[z])).trans e;have Bi:p<es.size:=(Array.getElem?_eq_some_iff.mp e2).1;have e3:es.getD p (0,Value.none)=x:=by
    have:=(Array.getElem?_eq_some_iff.mp e2).2;simp[Array.getD,Bi,this]
   show(ps.map λp=>(es.getD p (0,Value.none)).2)[i]?=some x.2;rw[zQ,e1];show some (es.getD p (0,Value.none)).2=some x.2;rw[e3]
  ·have hm:=yF.mp (hp.mem_iff.mp (zK e));exact⟨es[p],by simp[hm]⟩
  ·have:ps[i]?=some ps[i]:=zM (by lia);rw[this]at e;cases e
 done:=λs Q E st hQ=>by
  have aL:ps.length=es.size:=by rw[hp.length_eq,xS]
  have hn:ps[es.size]?=none:=wQ (by lia);refine Sa (t:=t) hh st.1 st.2.1 hf st.2.2 (λp x h' e1=>by rw[hn]at e1;cases e1) (λp e=>by rw[hn]at e;cases e) (λh' e k=>?_);exact hQ h' s.toks λb o hb e=>k b o (λz=>hb (by simp[z])) e
 self:=λi s Q E st hQ=>W6 st.1 hQ
end
theorem Xp{pl:List Nat}(hr:pl.Pairwise (·<·)):SetTable.below pl.toArray 0=0:=by
 obtain⟨b1,b2,b3⟩:=ul hr 0;rcases Nat.eq_zero_or_pos (SetTable.below pl.toArray 0)with e|e
 ·exact e
 ·have:=b2 0 e;lia
theorem Xn{pl:List Nat}(hr:pl.Pairwise (·<·)){i:Nat}(hi:i<pl.length):SetTable.below pl.toArray (pl[i]+1)=i+1:=by
 obtain⟨b1,b2,b3⟩:=ul hr (pl[i]+1);have h1:i<SetTable.below pl.toArray (pl[i]+1):=by
  refine wX λhn=>?_;have:=b3 i (by lia) hi;rw[sn hi]at this;lia
 have h2:¬i+1<SetTable.below pl.toArray (pl[i]+1):=λz=>by
  have h3:=b2 (i+1) z;have h4:i+1<pl.length:=by lia
  have h5:=sr (d:=pl[i]+1) hr (show i<i+1 by lia) h4;rw[sn hi]at h5;lia
 lia
end My
namespace My
open PySem PySem.Spec PySem.W
open Tb
section
variable {prog:Program}{w:World}{A:Around}{E:Value->Shared->Prop}{s:Shared}
theorem Ss(a:Addr):Builtin.Frozenset.slot0 "__iter__" ⟨[.ref a],[]⟩=pure a:=rfl
theorem cn{S:Addr}{es:Array (Int×Value)}{ep:Nat}{t:SetTable}{Q:Bool->Shared->Prop}(hS:s.heap.get? S=some (yw es ep t))(hf:t.fits es.size=true)(h:Q (!byT w&&(!t.plain&&decide (es.size>1))) s):wpAny (model prog w) A (setDrawn S) Q E s:=by
 unfold setDrawn;refine zZ (xI hS rfl hf ?_);unfold setsByText;refine zZ (zZ (uO (zW ?_)));exact zW h
theorem Z2{t:SetTable}{n:Nat}(hf:t.fits n=true):t.place.size=n:=by
 unfold SetTable.fits at hf;rw[yJ]at hf;exact eq_of_beq hf.1
theorem Qd{S:Addr}{es:Array (Int×Value)}{ep:Nat}{t:SetTable}{Q:Value->Shared->Prop}(hS:s.heap.get? S=some (yw es ep t))(hf:t.fits es.size=true)(dC:t.led=!byT w)(nU:t.plain=true->t.place.toList.Pairwise (·<·))(hz:es.size<=sizeLine)
  (h:∀(I:Addr)(h1:Heap)(d:Drawn)(fp:List Addr)(ws:List Value)(St:Nat->Heap->Prop),ws.Perm (es.toList.map (·.2))->(∀A':Around,A'.handled=none->Walks prog w A' I fp [I] es.size (λi v=>ws[i]?=some v) St)->St 0 h1->(∀b∈fp,b=S\/s.heap.objs.size<=b) ->
   (∀b o,s.heap.get? b=some o->h1.get? b=some o)->s.heap.objs.size<=I->Q (.ref I) { s with heap:=h1,drawn:=d }):wpAny (model prog w) A (pyIter (.ref S)) Q E s:=by
 have hT:s.TypeIs (.ref S) "set":=⟨_,hS,rfl⟩
 have aO:S<s.heap.objs.size:=zR hS;refine wpAny_pyIter_slot hT F.slot_set_iter (xZ F.slot_set_iter hT ma ?_ (F.args_set_iter_1 _));unfold Builtin.«frozenset.__iter__»;refine zZ (wpAny_of_eq (Ss S) ?_);unfold Builtin.Frozenset.sizeOf;refine zZ (zZ (wpAny_setEntries_of hS rfl hf (zW ?_)));refine zZ (cn hS hf ?_);have Cn:∀(ws:List Value)(sl:Nat->Nat),sl 0=0->ws.Perm (es.toList.map (·.2)) ->
   (∀i (s':Shared) (A':Around) (E':Value->Shared->Prop) (Q':Option (Value×Nat)->Shared->Prop),i<=es.size->s'.heap.get? S=some (yw es ep t)->Q' ((ws[i]?).map λv=>(v,sl (i+1))) s'->wpAny (model prog w) A' (setNext S (sl i) i ep) Q' E' s') ->
   wpAny (model prog w) A.in1 (do let first <-pure (rawInt 0);ret (<-newFields "set_iterator" [first,rawInt 0,.ref S,rawInt es.size,rawInt (<-setEpoch S)]))
    (λbC s'=>∃r,bC = .done (.ret r)/\∃T' r',s'.TypeIs r T'/\typeLookup (.type T') "__next__"=pure (some r')/\Q r s') E s:=by
  intro ws sl h0 hp hr;have hl:ws.length=es.size:=by rw[hp.length_eq];simp
  refine zZ (zW (zZ (wpAny_setEpoch_of hS rfl hf (zZ ?_))));unfold newFields;refine xV (zW ⟨_,rfl,"set_iterator",_,⟨_,zT _ rfl,rfl⟩,si_next.lookup,?_⟩);refine h _ _ s.drawn [s.heap.objs.size,S] ws _ hp (λA' GU=>Tg GU hf (wW aO) ws hl sl hr) ⟨?_,zX _ hS⟩ (λb hb=>?_) (λb o e=>zX _ e) (zU _)
  ·rw[h0];exact zT _ rfl
  ·rcases zL.mp hb with rfl|hb
   ·exact .inr (zU _)
   ·exact .inl (zN.mp hb)
 cases hb:byT w with
 |true =>
  simp only[Bool.not_true,Bool.false_and,Bool.false_eq_true,if_false];refine Cn ((pickOrder (w.params.setOrder S ep) es).toList.map (·.2)) (λ_=>0) rfl ((Vk _ es).map _) λi s' A' E' Q' hi DV q=>U2 DV hf hb ?_;rw[zQ,wL,Option.map_map]at q;exact q
 |false =>
  have Ap:t.led=true:=by rw[dC,hb];rfl
  cases hd:(!t.plain&&decide (es.size>1))with
  |true =>
   simp only[Bool.not_false,Bool.and_self,if_true];refine zZ (qw es.size (List.range es.size) s _ (by simp) λps d hp=>?_);have cZ:ps.length=es.size:=by rw[hp.length_eq,xS]
   refine zZ (sN ?_ (by rw[zY,cZ];exact hz));refine zZ (wpAny_setEpoch_of (s:={ s with heap:=_,drawn:=d }) (zX _ hS) rfl hf (zZ ?_));unfold newFields;refine xV (zW ⟨_,rfl,"set_iterator",_,⟨_,zT _ rfl,rfl⟩,si_next.lookup,?_⟩);have Ds:(s.heap.push (PyProof.Rows.seqObj "tuple" (ps.map λ(i:Nat)=>rawInt i).toArray 0)).objs.size=s.heap.objs.size+1:=xT _ _;refine h _ _ d [s.heap.objs.size+1,S,s.heap.objs.size] (ps.map λp=>(es.getD p (0,Value.none)).2) (λi h=>h.get? (s.heap.objs.size+1)=some (wb (.ref s.heap.objs.size) i S es.size ep)/\h.get? S=some (yw es ep t)/\∃o,h.get? s.heap.objs.size=some o/\o.data = .seq (ps.map λ(i:Nat)=>rawInt i).toArray 0) ?_ (λA' GU=>?_) ⟨?_,?_,?_⟩ (λb bN=>?_) (λb o e=>zX _ (zX _ e)) (by rw[Ds];exact wB _)
   ·have h1:=hp.map λp=>(es.getD p (0,Value.none)).2;have h2:(List.range es.size).map (λp=>(es.getD p (0,Value.none)).2)=es.toList.map (·.2):=by
     have:=wZ (List.map (·.2)) (gw es);rw[yI]at this;exact this
    rw[h2]at h1;exact h1
   ·have e1:(s.heap.push (PyProof.Rows.seqObj "tuple" (ps.map λ(i:Nat)=>rawInt i).toArray 0)).objs.size=s.heap.objs.size+1:=Ds;have:=Ti (A:=A') (I:=s.heap.objs.size+1) (S:=S) (T:=s.heap.objs.size) (ep:=ep) (c:=0) (prog:=prog) (w:=w) GU hf (wW (xJ aO)) (wW (yE _)) hp;show Walks prog w A' (s.heap.push (PyProof.Rows.seqObj "tuple" (ps.map λ(i:Nat)=>rawInt i).toArray 0)).objs.size _ [(s.heap.push (PyProof.Rows.seqObj "tuple" (ps.map λ(i:Nat)=>rawInt i).toArray 0)).objs.size] _ _ _;rw[e1];exact this
   ·have e2:=zT (s.heap.push (PyProof.Rows.seqObj "tuple" (ps.map λ(i:Nat)=>rawInt i).toArray 0)) (o:=wb (.ref s.heap.objs.size) 0 S es.size ep) rfl;rw[Ds]at e2;exact e2
   ·exact zX _ (zX _ hS)
   ·exact⟨_,zX _ (zT _ rfl),rfl⟩
   ·rcases zL.mp bN with rfl|bN
    ·exact .inr (wB _)
    ·rcases zL.mp bN with rfl|bN
     ·exact .inl rfl
     ·rw[zN.mp bN];exact .inr (zU _)
  |false =>
   simp only[uB,Bool.false_eq_true,if_false];have Bi:=Z2 hf;have up:t.place.toList.Pairwise (·<·):=by
    cases cZ:t.plain with
    |true=>exact nU cZ
    |false =>
     rw[cZ]at hd;have iE:t.place.toList.length<=1:=by
      rw[xE,Bi];simpa using hd
     match t.place.toList,iE with
     |[],_=>exact .nil
     |[a],_=>exact sY _ _
   refine Cn (es.toList.map (·.2)) (λi=>if i=0 then 0 else t.place.getD (i-1) 0+1) rfl .rfl λi s' A' E' Q' hi DV q=>Yh DV hf hb hd Ap ?_;have kN:SetTable.below t.place (if i=0 then 0 else t.place.getD (i-1) 0+1)=i:=by
    have e0:t.place=t.place.toList.toArray:=by simp
    by_cases hi0:i=0
    ·subst hi0;rw[yT rfl,e0];exact Xp up
    ·rw[zC hi0];have DS:i-1<t.place.toList.length:=by rw[xE,Bi];lia
     have:=Xn up DS;have e1:t.place.toList[i-1]=t.place.getD (i-1) 0:=by
      have:i-1<t.place.size:=by lia
      simp[Array.getD,this]
     rw[e1]at this;have e2:t.place.toList.toArray=t.place:=by simp
     rw[e2]at this;rw[this];lia
   show Q' (match es[SetTable.below t.place (if i=0 then 0 else t.place.getD (i-1) 0+1)]?,t.place[SetTable.below t.place (if i=0 then 0 else t.place.getD (i-1) 0+1)]? with|some (_,x),some j=>some (x,j+1)|_,_=>none) s';rw[kN]
   by_cases pM:i<es.size
   ·have e1:es[i]?=some es[i]:=by simp[pM]
    have pI:i<t.place.size:=by lia
    have e2:t.place[i]?=some t.place[i]:=by simp[pI]
    rw[e1,e2];have e3:(es.toList.map (·.2))[i]?=some es[i].2:=by simp[pM]
    rw[e3]at q;have e4:t.place.getD i 0=t.place[i]:=by simp[Array.getD,pI]
    have q':Q' (some (es[i].2,t.place.getD i 0+1)) s':=q;rw[e4]at q';exact q'
   ·have e1:es[i]?=none:=by simp;lia
    rw[e1];have e3:(es.toList.map (·.2))[i]?=none:=by simp;lia
    rw[e3]at q;exact q
end
end My
namespace My
open PySem PySem.Spec PySem.W PySem.Calls
open PyProof.Rows hiding St
open Tb
section
variable {prog:Program}{w:World}{A:Around}{E:Value->Shared->Prop}{s:Shared}
theorem Sn{S:Addr}{Q:Bool->Shared->Prop}(hT:s.TypeIs (.ref S) "set")(h:Q false s):wpAny (model prog w) A (Builtin.List.listLengthHint (.ref S)) Q E s:=by
 unfold Builtin.List.listLengthHint;refine zZ (wpAny_specialOf hT F.slot_set_len.lookup ?_);generalize Bp:("set.__len__":String)=id0
 wp_delta
 rw[show splitId id0=some ("set","__len__")from by subst Bp;decide +kernel];subst Bp;refine zZ (tX (b:=true) (T:="set") hT sub_set_self (uK (λz=>absurd z (by decide)) λ_=>?_));exact uK (λ_=>zZ (uW hT (zW h))) λz=>absurd (by decide +kernel) z
theorem Y3{S l:Addr}{c:Nat}{es:Array (Int×Value)}{ep:Nat}{t:SetTable}{R:Result->Shared->Prop}{res:Value}(hh:A.handled=none)(hS:s.heap.get? S=some (yw es ep t))(hf:t.fits es.size=true)(dC:t.led=!byT w)(nU:t.plain=true->t.place.toList.Pairwise (·<·))(hz:es.size<=sizeLine)
  (hl:s.heap.get? l=some { cls:=.type "list",data:=.seq #[] c }) (hR:∀h' d tk (ws:List Value) c',ws.Perm (es.toList.map (·.2))->(∀b o,b≠l->s.heap.get? b=some o->h'.get? b=some o)->h'.get? l=some { cls:=.type "list",dict:=none,data:=.seq ws.toArray c',slots:=#[] }->R (.ok (.ret res)) { s with heap:=h',drawn:=d,toks:=tk }) :
  wpAny (model prog w) A.in1 (Builtin.List.listExtendWith (.ref l) (.ref S) res) (λbC s'=>match bC with|.done f=>R (.ok f) s'|.again c'=>c'.quiet=true/\codeAny (model prog w) A c' R s') (λe s'=>R (.error e) s') s:=by
 have hT:s.TypeIs (.ref S) "set":=⟨_,hS,rfl⟩
 have hlS:l≠S:=by
  rintro rfl;have:=wZ Obj.cls (yY (hS.symm.trans hl));simp at this
 unfold Builtin.List.listExtendWith;refine zZ (uW hT ?_);have n1:Builtin.List.listSameRef (.ref l) (.ref S)=false:=by simp[Builtin.List.listSameRef,hlS]
 have n2:(Value.type "set"==Value.type "list")=false:=by decide
 have n3:(Value.type "set"==Value.type "tuple")=false:=by decide
 simp only[n1,n2,n3,Bool.or_false,Bool.false_eq_true,if_false];refine zZ (Qd hS hf dC nU hz λI h1 d fp ws St hp W st hfp keep hI=>?_);have aO:l<s.heap.objs.size:=zR hl;have hlf:l∉fp:=λz=>by
  rcases hfp l z with e|e
  ·exact hlS e
  ·exact absurd aO (tD.mpr e)
 have key:∀(h:Heap)(c₁:Nat),St 0 h->(∀b o,b≠l->s.heap.get? b=some o->h.get? b=some o)->h.get? l=some { cls:=.type "list",data:=.seq #[] c₁ } ->
   codeAny (model prog w) A (.builtin "list.extend.loop" ⟨[.ref l,.ref I,res],[]⟩) R { s with heap:=h,drawn:=d }:=by
  intro h c₁ gL k' hl';refine codeAny_extend_loopS (W A.in1 hh).toS hz l hlf res es.size 0 { s with heap:=h,drawn:=d } #[] c₁ rfl (yQ _) gL hl' (ItemsOf.nil _) λs' aK c' hm he eZ=>?_;rw[Moved.eq_with hm];have rL:aK=ws.toArray:=by
   apply uQ.mp;have mP:ws.length=es.size:=by rw[hp.length_eq];simp
   apply List.ext_getElem?;intro i
   by_cases hi:i<es.size
   ·have hsz:i<aK.size:=by rw[eZ.1];exact hi
    have h3:aK[i]?=some aK[i]:=Array.getElem?_eq_getElem hsz;have h4:=eZ.2 i _ h3;rw[wL,h3];exact h4.symm
   ·rw[wQ (by rw[xE,eZ.1];lia)];exact(wQ (by show ws.length<=i;lia)).symm
  rw[rL]at he;refine hR s'.heap d s'.toks ws c' hp (λb o hb e=>hm.heap b o (λz=>?_) (k' b o hb e)) he;rcases zL.mp z with e'|z
  ·exact hb e'
  ·rw[zN.mp z]at e;exact absurd (zR e) (tD.mpr hI)
 have hT1:Shared.TypeIs { s with heap:=h1,drawn:=d } (.ref S) "set":=⟨_,keep _ _ hS,rfl⟩
 refine zZ (xX (Sn hT1 ?_));have rO:=keep _ _ hl;refine uK (λ_=>?_) (λ_=>zW ⟨vO vB _,key h1 c st (λb o _ e=>keep b o e) rO⟩);refine zZ (uS (zZ (show wpAny _ _ (updateSeq l (·.push .none) >>=λ_=>updateSeq l (·.pop)) _ _ _ from ?_)));refine zZ (tJ rO rfl ?_);have mP:=wR (Obj.mapSeq (·.push Value.none)) rO rfl;refine tJ (hz:=by seq_fits) mP rfl ?_;have hl3:=wR (Obj.mapSeq (·.pop)) mP rfl;refine zW ⟨vO vB _,key _ _ ?_ (λb o hb e=>?_) hl3⟩
 ·refine(W A.in1 hh).frame 0 _ _ st λb hb o e=>?_;have bN:b≠l:=λz=>hlf (z▸hb);exact(yO _ _ (wU bN)).trans ((yO _ _ (wU bN)).trans e)
 ·exact(yO _ _ (wU hb)).trans ((yO _ _ (wU hb)).trans (keep b o e))
theorem bo{S:Addr}{es:Array (Int×Value)}{ep:Nat}{t:SetTable}{R:List Value->Shared->Prop}(hh:A.handled=none)(hS:s.heap.get? S=some (yw es ep t))(hf:t.fits es.size=true)(dC:t.led=!byT w)(nU:t.plain=true->t.place.toList.Pairwise (·<·))(hz:es.size<=sizeLine)
  (h:∀h' d tk (ws:List Value),ws.Perm (es.toList.map (·.2))->(∀b o,s.heap.get? b=some o->h'.get? b=some o)->s.heap.objs.size<h'.objs.size->R ws { s with heap:=h',drawn:=d,toks:=tk }):wpAny (model prog w) A (collect (.ref S)) R E s:=by
 unfold collect;refine zZ (wpAny_runValue (wV entry_proto_collect' (by
  rw[xM uF _];refine(show wpAny _ A.in1 (newList [] >>=λl=>again (.builtin "list.__iadd__" ⟨[l,.ref S],[]⟩)) _ _ s from zZ (xV ?_));refine zW ⟨vO wE _,wV entry_list_iadd' ?_⟩;rw[xM wE _];refine(show wpAny _ A.in1 (Builtin.List.listExtendWith (.ref s.heap.objs.size) (.ref S) (.ref s.heap.objs.size)) _ _ _ from ?_);have hl:(s.heap.push { cls:=.type "list",data:=.seq ([]:List Value).toArray }).get? s.heap.objs.size=some { cls:=.type "list",data:=.seq #[] }:=zT _ rfl;have key:=Y3 (prog:=prog) (A:=A) (s:={ s with heap:=s.heap.push { cls:=.type "list",data:=.seq ([]:List Value).toArray } }) (res:=.ref s.heap.objs.size)
   (R:=λq s'=>∃(h':Heap)(d:Drawn)(tk:Nat)(ws:List Value)(c':Nat),q = .ok (.ret (.ref s.heap.objs.size))/\s'={ s with heap:=h',drawn:=d,toks:=tk }/\ws.Perm (es.toList.map (·.2))/\(∀b o,s.heap.get? b=some o->h'.get? b=some o)/\h'.get? s.heap.objs.size=some { cls:=.type "list",dict:=none,data:=.seq ws.toArray c',slots:=#[] })
   hh (zX _ hS) hf dC nU hz hl λh' d tk ws c' hp k e=>⟨h',d,tk,ws,c',rfl,rfl,hp,λb o e'=>k b o (zG (zR e')) (zX _ e'),e⟩
  refine xQ key (λbC s' x=>?_) λe s' x=>?_
  ·cases bC with
   |done f =>
    obtain⟨h',d,tk,ws,c',e,rfl,hp,k,el⟩:=x;cases e;exact(show wpAny _ A (load s.heap.objs.size >>= _) _ _ _ from zZ (rZ el (zW (h h' d tk ws hp k (zR el)))))
   |again c₁ =>
    refine⟨x.1,uN x.2 λq s₂ y=>?_⟩;obtain⟨h',d,tk,ws,c',rfl,rfl,hp,k,el⟩:=y;exact(show wpAny _ A (load s.heap.objs.size >>= _) _ _ _ from zZ (rZ el (zW (h h' d tk ws hp k (zR el)))))
  ·obtain⟨_,_,_,_,_,e',_⟩:=x;cases e')))
theorem rj{S:Addr}{es:Array (Int×Value)}{ep:Nat}{t:SetTable}{Q:Value->Shared->Prop}(hh:A.handled=none)(hS:s.heap.get? S=some (yw es ep t))(hf:t.fits es.size=true)(dC:t.led=!byT w)(nU:t.plain=true->t.place.toList.Pairwise (·<·))(hz:es.size<=sizeLine)
  (h:∀D h' d tk (ws:List Value),ws.Perm (es.toList.map (·.2))->(∀b o,s.heap.get? b=some o->h'.get? b=some o)->s.heap.objs.size<=D->h'.get? D=some (seqObj "list" ws.toArray 0) ->
   wpAny (model prog w) A.in1 (call (.builtin "list.sort") [.ref D]) (λ_ s'=>Q (.ref D) s') E { s with heap:=h',drawn:=d,toks:=tk }):wpAny (model prog w) A (call (.builtin "sorted") [.ref S]) Q E s:=by
 refine call_function_entry kind_sorted plain_sorted entry_sorted (args_sorted1 _) (by
  unfold Builtin.«sorted»;refine zZ (m:=checkCount "sorted" 1 1 _) (zW (zZ (bo (A:=A.in1) hh hS hf dC nU hz λh' d tk ws hp k iE=>?_)));have hl:ws.length=es.size:=by rw[hp.length_eq];simp
  refine zZ (tN ?_ (by rw[hl];exact hz));have g:=h h'.objs.size (h'.push (seqObj "list" ws.toArray 0)) d tk ws hp (λb o e=>zX _ (k b o e)) (yC iE) (zT _ rfl);exact zZ (xX (xQ g (λ_ s' x=>zW ⟨_,rfl,x⟩) λ_ _ e=>e)))
end
end My
namespace My
open PySem PySem.Spec PySem.W PySem.Calls
open Tb
theorem jp(t:SetTable)(n:Nat):(t.orStandIn n).led=t.led:=by unfold SetTable.orStandIn SetTable.standIn;split<;>rfl
theorem ko(t:SetTable)(es:Array (Int×Value))(h:Int)(x:Value):(layNew t es h x).2.1.led=t.led:=by
 unfold layNew;split
 ·exact jp _ _
 ·rfl
theorem d6{t t':SetTable}{hs:Array Int}{n:Nat}{o:Array Nat}(h:t.relaid hs n=some (t',o)):t'.led=t.led/\t'.plain=t.plain:=by
 unfold SetTable.relaid SetTable.laid at h;cases hc:SetTable.layClean (SetTable.sizeAbove n-1) hs with
 |none=>rw[hc]at h;cases h
 |some ow =>
  rw[hc]at h;have h':=(Prod.mk.inj (yY h)).1;rw[<-h'];exact⟨rfl,rfl⟩
theorem qo(t:SetTable)(es:Array (Int×Value))(n:Nat):(relayAll t es n).2.1.led=t.led/\(t.plain=false->(relayAll t es n).2.1.plain=false):=by
 unfold relayAll;split
 ·rename_i t' o e;dsimp only;have:=d6 e;split
  ·exact⟨this.1,λh=>this.2.trans h⟩
  ·exact⟨rfl,λ_=>rfl⟩
 ·exact⟨rfl,λ_=>rfl⟩
section
variable {prog:Program}{w:World}{A:Around}{E:Value->Shared->Prop}{s:Shared}
structure GoodS(w:World)(Es:List (Int×Value))(D:List Str):Prop where
 in1:∀e∈Es,∃x t,x∈D/\e=(hashStr w x,.str x t)
 in2:∀x∈D,∃t,(hashStr w x,.str x t)∈Es
 one:Es.Pairwise λe e'=>∀x t t',e.2 = .str x t->e'.2≠.str x t'
theorem GoodS.perm{Es Cp:List (Int×Value)}{D:List Str}(g:GoodS w Es D)(p:Cp.Perm Es):GoodS w Cp D :=
 ⟨λe he=>g.in1 e (p.mem_iff.mp he),λx hx=>let⟨t,h⟩:=g.in2 x hx;⟨t,p.mem_iff.mpr h⟩,(p.pairwise_iff (λ{a b} iP x t t' h1 h2=>iP x t' t h2 h1)).mpr g.one⟩
theorem GoodS.elems{Es:List (Int×Value)}{D:List Str}(g:GoodS w Es D):ElemsOf (PySem.strKind prog w) Es:=λe he=>by
 obtain⟨x,t,_,rfl⟩:=g.in1 e he;exact⟨⟨x,by show Value.isStrOf x (.str x t)=true;simp[Value.isStrOf],rfl⟩,rfl⟩
theorem add_str{S:Addr}{ep:Nat}{es:Array (Int×Value)}{t:SetTable}{D:List Str}{x:Str}{tok:Tok}(hS:s.heap.get? S=some (yw es ep t))(hf:t.fits es.size=true)(g:GoodS w es.toList D)(hb:es.size+1<scanBound)(cZ:es.size≠0->t.plain=false){Q:Bool->Shared->Prop}
  (q:∀(b:Bool)(h':Heap)(tk:Nat)(bE:Array (Int×Value))(fA:Nat)(t':SetTable),h'.get? S=some (yw bE fA t')->Heap.SameBut S s.heap h'->t'.fits bE.size=true->t'.led=t.led->(bE.size≠0->t'.plain=false)->GoodS w bE.toList (D++[x])->bE.size<=es.size+1->Q b { s with heap:=h',toks:=tk }) :
  wpAny (model prog w) A (setAdd S (.str x tok)) Q E s:=by
 have nG:(PySem.strKind prog w).is x (.str x tok)=true:=by show Value.isStrOf x (.str x tok)=true;simp[Value.isStrOf]
 unfold setAdd;refine xX (zZ ((PySem.strKind prog w).pyHash nG ?_));have qX:({ s with toks:=s.toks+1 }:Shared).heap.get? S=some (yw es ep t):=hS;unfold setAddHashed setAddHashedIn;refine xX (zZ (xI qX rfl hf ?_));dsimp only;rw[byScan_of (knd:=PySem.strKind prog w) rfl (by lia) g.elems];simp only[if_true];unfold setAddByScan;refine zZ (zZ (uS (zZ (wpAny_setScan_of (knd:=PySem.strKind prog w) nG qX rfl hf g.elems ?_))));cases hr:List.findIdx? (λe=>(PySem.strKind prog w).is x e.2) es.toList with
 |some j =>
  dsimp only;obtain⟨hj,FO,_⟩:=List.findIdx?_eq_some_iff_getElem.mp hr;refine zW (zW (q false s.heap _ es ep t hS (sR S s.heap) hf rfl cZ ⟨λe he=>?_,λy hy=>?_,g.one⟩ (wB _)))
  ·obtain⟨y,t',h1,h2⟩:=g.in1 e he;exact⟨y,t',xP _ h1,h2⟩
  ·rcases zE.mp hy with hy|hy
   ·exact g.in2 y hy
   ·rw[zN.mp hy];have hm:=vS hj;obtain⟨y',t',_,e⟩:=g.in1 _ hm;rw[e]at FO;have:y'=x:=by
     have h5:Value.isStrOf x (.str y' t')=true:=FO;simpa[Value.isStrOf]using h5
    subst this;exact⟨t',by rw[<-e];exact hm⟩
 |none =>
  dsimp only;have kK:∀e∈es.toList,∀t',e.2≠.str x t':=λe he t' z=>by
   have:=List.findIdx?_eq_none_iff.mp hr e he;rw[z]at this;have h5:Value.isStrOf x (.str x t')=false:=this;simp[Value.isStrOf]at h5
  have bM:=layNew_perm t es (hashStr w x) (.str x tok);have gQ:=layNew_fits t es (hashStr w x) (.str x tok);have dC:=ko t es (hashStr w x) (.str x tok);have hh:(PySem.strKind prog w).hash x=hashStr w x:=rfl;rw[hh];generalize hL:layNew t es (hashStr w x) (.str x tok)=L at bM gQ dC ⊢;obtain⟨cT,t1,rW,gave⟩:=L;dsimp only at bM gQ dC ⊢;rw[Array.toList_push]at bM;have hsz:cT.size=es.size+1:=by
   have:=bM.length_eq;simpa using this
  have qZ:GoodS w cT.toList (D++[x]):=by
   refine GoodS.perm (Es:=(hashStr w x,Value.str x tok)::es.toList) ⟨λe he=>?_,λy hy=>?_,xW.mpr ⟨λe he y t1 t2 h1 h2=>?_,g.one⟩⟩ (bM.trans (uE _ _))
   ·rcases zL.mp he with rfl|he
    ·exact⟨x,tok,yP _ (zN.mpr rfl),rfl⟩
    ·obtain⟨y,t',h1,h2⟩:=g.in1 e he;exact⟨y,t',xP _ h1,h2⟩
   ·rcases zE.mp hy with hy|hy
    ·obtain⟨t',h⟩:=g.in2 y hy;exact⟨t',zI _ h⟩
    ·rw[zN.mp hy];exact⟨tok,zH⟩
   ·cases h1;exact kK e he t2 h2
  have GD:∀(b:Bool)(s₁:Shared)(Q':Unit->Shared->Prop),Q' () s₁->wpAny (model prog w) A (match b with|true=>rule "set.scan.the-table-gave-way" | false=>pure ()) Q' E s₁:=λb s₁ Q' hq=>by
   cases b
   ·exact zW hq
   ·exact uS hq
  have rY:∀t2:SetTable,t2.fits cT.size=true->t2.led=t.led->t2.plain=false->∀(R:Option Bool->Shared->Prop),(∀h' bE fA t',h'.get? S=some (yw bE fA t')->Heap.SameBut S s.heap h'->t'.fits bE.size=true->t'.led=t.led->t'.plain=false->bE.toList.Perm cT.toList->R (some true) { s with heap:=h',toks:=s.toks+1 }) ->
    wpAny (model prog w) A (do
     storeSet S cT t2
     if(!rW&&t2.tooFull)=true then do
      (match(relayAll t2 cT (SetTable.grown cT.size)).2.2 with|true=>rule "set.scan.the-table-gave-way" | false=>pure ())
      storeSet S (relayAll t2 cT (SetTable.grown cT.size)).1 (relayAll t2 cT (SetTable.grown cT.size)).2.1
      pure (some true)
     else pure (some true)) R E { s with toks:=s.toks+1 }:=by
   intro t2 f2 l2 p2 R hR;refine zZ (v3 qX (uX (by rw[hsz];exact hb)) λh1 Az AM=>?_);split
   ·have jV:=relayAll_perm t2 cT (SetTable.grown cT.size);have hf2:=relayAll_fits t2 cT (SetTable.grown cT.size);obtain⟨mP,hpl2⟩:=qo t2 cT (SetTable.grown cT.size);have CF:(relayAll t2 cT (SetTable.grown cT.size)).1.size=cT.size:=by
     have:=jV.length_eq;simpa using this
    refine zZ (GD _ _ _ (zZ (v3 (s:={ s with heap:=h1,toks:=s.toks+1 }) Az (uX (by rw[CF,hsz];exact hb)) λh2 hS3 DF=>zW ?_)));exact hR h2 _ _ _ hS3 (AM.trans DF) hf2 (mP.trans l2) (hpl2 p2) jV
   ·exact zW (hR h1 cT _ t2 Az AM f2 l2 p2 .rfl)
  have bC:∀h' bE fA t',h'.get? S=some (yw bE fA t')->Heap.SameBut S s.heap h'->t'.fits bE.size=true->t'.led=t.led->t'.plain=false->bE.toList.Perm cT.toList->Q true { s with heap:=h',toks:=s.toks+1 }:=λh' bE fA t' e1 e2 e3 e4 e5 e6=>by
   refine q true h' _ bE fA t' e1 e2 e3 e4 (λ_=>e5) (qZ.perm e6) ?_;have:=e6.length_eq;simp at this;lia
  refine zZ (GD _ _ _ ?_);split
  ·rw[hashByValue_scannable 8 (x:=.str x tok) rfl];refine zZ (zW ?_);simp only[plainKind,Bool.false_eq_true,if_false];exact rY { t1 with plain:=false } (SetTable.fits_plain_off gQ) dC rfl _ λh' bE fA t' e1 e2 e3 e4 e5 e6=>zW (bC h' bE fA t' e1 e2 e3 e4 e5 e6)
  ·rename_i pI;refine zZ (zW ?_);simp only[if_true];exact rY t1 gQ dC (by simpa using pI) _ λh' bE fA t' e1 e2 e3 e4 e5 e6=>zW (bC h' bE fA t' e1 e2 e3 e4 e5 e6)
end
end My
namespace My
open PySem PySem.Spec PySem.W PySem.Calls
open PyProof.Rows hiding St
namespace Srt
variable {O:KeyOrd}{key:Nat->O.α}{n:Nat}
def Ok{α:Type}(key:Nat->O.α)(n:Nat):KasT α->(α->Prop)->Prop
 | .ret a,P=>P a
 | .ask i j k,P=>i<n/\j<n/\Ok key n (k (O.blt (key i) (key j))) P
theorem Ok.mono{α:Type}{P P':α->Prop}(hp:∀a,P a->P' a):∀{t:KasT α},Ok key n t P->Ok key n t P'
 | .ret a,h=>hp a h
 | .ask i j k,h=>⟨h.1,h.2.1,Ok.mono hp h.2.2⟩
theorem Ok.bind{α β:Type}{f:α->KasT β}{P:β->Prop}:∀{t:KasT α},Ok key n t (λa=>Ok key n (f a) P)->Ok key n (t.bind f) P
 | .ret a,h=>h
 | .ask i j k,h=>⟨h.1,h.2.1,Ok.bind h.2.2⟩
theorem Ok.wp{α:Type}{Ch:Nat->Nat->(Bool->Shared->Prop)->Shared->Prop}{P:α->Prop}{Q:α->Shared->Prop}{s:Shared}(hc:∀i j C,i<n->j<n->C (O.blt (key i) (key j)) s->Ch i j C s)(hq:∀a,P a->Q a s):∀{t:KasT α},Ok key n t P->t.kasWp Ch Q s
 | .ret a,h=>hq a h
 | .ask i j k,h=>hc i j _ h.1 h.2.1 (Ok.wp hc hq h.2.2)
def K(key:Nat->O.α)(p:Array Nat)(i:Nat):O.α:=key (p.getD i 0)
structure All(n:Nat)(p:Array Nat):Prop where
 pm:p.toList.Perm (List.range n)
theorem All.size{p:Array Nat}(a:All n p):p.size=n:=by
 have:=a.pm.length_eq;simpa using this
theorem All.lt{p:Array Nat}(a:All n p)(hn:0<n)(i:Nat):p.getD i 0<n:=by
 by_cases hi:i<p.size
 ·have e:p.getD i 0=p[i]:=by simp[Array.getD,hi]
  rw[e];have:p[i]∈p.toList:=by simp
  exact yF.mp (a.pm.mem_iff.mp this)
 ·have e:p.getD i 0=0:=by simp[Array.getD,hi]
  rw[e];exact hn
theorem All.of{p p':Array Nat}(a:All n p)(h:p'.Perm p):All n p':=⟨(Array.perm_iff_toList_perm.mp h).trans a.pm⟩
theorem um{p:Array Nat}{i:Nat}:p.getD i 0=(p[i]?).getD 0:=by
 by_cases hi:i<p.size
 ·simp[Array.getD,hi]
 ·simp[Array.getD,hi]
theorem Pd{p:Array Nat}{i j:Nat}(hj:j<=p.size)(k:Nat):K key (kas_rev p i j) k=if i<=k/\k<j then K key p (i+j-1-k)else K key p k:=by
 have e:=getElem?_mirror_all (xs:=p) (i:=i) hj k;unfold K kas_rev;rw[um,e];split
 ·rw[<-um]
 ·rw[<-um]
theorem Ma{p:Array Nat}{rK d:Nat}(hs:rK<p.size)(hd:d<=rK)(k:Nat):K key (bubble p rK d) k=if k=rK-d then K key p rK else if rK-d<k/\k<=rK then K key p (k-1)else K key p k:=by
 have e:=getElem?_bubble hs d hd k;unfold K;rw[um,e]
 by_cases h1:k=rK-d
 ·rw[yT h1,yT h1,<-um]
 ·rw[zC h1,zC h1]
  by_cases h2:rK-d<k/\k<=rK
  ·rw[yT h2,yT h2,<-um]
  ·rw[zC h2,zC h2,<-um]
def Up(key:Nat->O.α)(p:Array Nat)(m:Nat):Prop:=∀i j,i<=j->j<m->O.kle (K key p i) (K key p j)
def Dn(key:Nat->O.α)(p:Array Nat)(m:Nat):Prop:=∀i j,i<=j->j<m->O.kle (K key p j) (K key p i)
theorem Up.step{p:Array Nat}{m:Nat}(h:Up key p m)(h1:1<=m)(hc:O.kle (K key p (m-1)) (K key p m)):Up key p (m+1):=λi j kL hj=>by
 by_cases e:j=m
 ·subst e
  by_cases e2:i=j
  ·subst e2;exact vW _
  ·exact tW (h i (j-1) (by lia) (by lia)) hc
 ·exact h i j kL (by lia)
theorem Dn.step{p:Array Nat}{m:Nat}(h:Dn key p m)(h1:1<=m)(hc:O.kle (K key p m) (K key p (m-1))):Dn key p (m+1):=λi j kL hj=>by
 by_cases e:j=m
 ·subst e
  by_cases e2:i=j
  ·subst e2;exact vW _
  ·exact tW hc (h i (j-1) (by lia) (by lia))
 ·exact h i j kL (by lia)
theorem Yj{p:Array Nat}(a:All n p)(hn:0<n):∀(f m:Nat),1<=m->Up key p m->Ok key n (kas_asc p f m) λr=>m<=r/\r<=m+f/\Up key p r/\(r=m+f\/O.klt (K key p r) (K key p (r-1)))
 |0,m,h1,h=>⟨zU _,zU _,h,.inl rfl⟩
 |f+1,m,h1,h=>by
  refine⟨a.lt hn _,a.lt hn _,?_⟩;cases hc:O.blt (key (p.getD m 0)) (key (p.getD (m-1) 0))with
  |true=>exact⟨zU _,by lia,h,.inr hc⟩
  |false =>
   (try dsimp only);rw[zC zF]
   refine Ok.mono (λr hr=>?_) (Yj a hn f (m+1) (by lia) (h.step h1 hc));exact⟨by lia,by lia,hr.2.2.1,hr.2.2.2.imp (λe=>by lia) id⟩
theorem lx{p:Array Nat}{i j:Nat}(hj:j<=p.size)(he:∀k,i<=k->k<j->K key p k=K key p (j-1))(k:Nat):K key (kas_rev p i j) k=K key p k:=by
 rw[Pd hj];split
 ·rw[he _ (by lia) (by lia),he k (by lia) (by lia)]
 ·rfl
theorem qp{p:Array Nat}(a:All n p)(i j:Nat):All n (kas_rev p i j):=a.of (mirror_perm _ _ _ _)
theorem nj(hn:0<n):∀(f:Nat)(p:Array Nat)(m q:Nat),All n p->1<=m->m+f<=n->q+1<=m->Dn key p m->(∀k,m-(q+1)<=k->k<m->K key p k=K key p (m-1)) ->
  Ok key n (kas_desc f p m q) λr=>All n r.1/\m<=r.2.1/\r.2.1<=m+f/\r.2.2+1<=r.2.1/\Dn key r.1 r.2.1/\∀k,r.2.1-(r.2.2+1)<=k->k<r.2.1->K key r.1 k=K key r.1 (r.2.1-1)
 |0,p,m,q,a,h1,hf,hq,hd,he=>⟨a,zU _,zU _,hq,hd,he⟩
 |f+1,p,m,q,a,h1,hf,hq,hd,he=>by
  refine⟨a.lt hn _,a.lt hn _,?_⟩;cases hc:O.blt (key (p.getD m 0)) (key (p.getD (m-1) 0))with
  |true =>
   (try dsimp only);rw[yT rfl]
   have fU:Dn key p (m+1):=hd.step h1 (sQ hc);split
   ·have iM:=lx (key:=key) (p:=p) (i:=m-(q+1)) (j:=m) (by rw[a.size];lia) he;refine Ok.mono (λr hr=>⟨hr.1,by lia,by lia,hr.2.2.2⟩) (nj hn f (kas_rev p (m-(q+1)) m) (m+1) 0 (qp a _ _) (by lia) (by lia) (by lia) (λi j kL hj=>?_) λk h1 h2=>?_)
    ·rw[iM,iM];exact fU i j kL hj
    ·have:k=m+1-1:=by lia
     rw[this]
   ·refine Ok.mono (λr hr=>⟨hr.1,by lia,by lia,hr.2.2.2⟩) (nj hn f p (m+1) 0 a (by lia) (by lia) (by lia) fU λk h1 h2=>?_);have:k=m+1-1:=by lia
    rw[this]
  |false =>
   (try dsimp only);rw[zC zF]
   refine⟨a.lt hn _,a.lt hn _,?_⟩;cases dD:O.blt (key (p.getD (m-1) 0)) (key (p.getD m 0))with
   |true =>
    (try dsimp only);rw[yT rfl]
    exact⟨a,zU _,(by show m<=m+(f+1);lia),hq,hd,he⟩
   |false =>
    (try dsimp only);rw[zC zF]
    have Bq:K key p m=K key p (m-1):=O.total _ _ hc dD;refine Ok.mono (λr hr=>⟨hr.1,by lia,by lia,hr.2.2.2⟩) (nj hn f p (m+1) (q+1) a (by lia) (by lia) (by lia) (hd.step h1 (by rw[Bq];exact vW _)) λk h1 h2=>?_);rw[show m+1-1=m by lia]
    by_cases e:k=m
    ·rw[e]
    ·rw[he k (by lia) (by lia),Bq]
def Run(key:Nat->O.α)(n:Nat)(r:Nat×Array Nat):Prop:=All n r.2/\1<=r.1/\r.1<=n/\Up key r.2 r.1
theorem bc(hn:0<n){p:Array Nat}{m:Nat}(a:All n p)(h1:1<=m)(hm:m<=n)(hd:Dn key p m):Ok key n (kas_tail3 m n p) (Run key n):=by
 unfold kas_tail3;refine Ok.bind (Ok.mono (λr hr=>?_) (Yj (qp a 0 m) hn (n-m) m h1 λi j kL hj=>?_))
 ·exact⟨qp a 0 m,by lia,by lia,hr.2.2.1⟩
 ·have hs:m<=p.size:=by rw[a.size];exact hm
  rw[Pd hs,Pd hs,yT ⟨by lia,by lia⟩,yT ⟨by lia,by lia⟩];exact hd _ _ (by lia) (by lia)
theorem o4(hn:0<n){p:Array Nat}{m:Nat}(a:All n p)(h1:1<=m)(hm:m<n)(hd:Dn key p (m+1)):Ok key n (kas_descPart m n p) (Run key n):=by
 unfold kas_descPart;refine Ok.bind (Ok.mono (λr hr=>?_) (nj hn (n-(m+1)) p (m+1) 0 a (by lia) (by lia) (by lia) hd λk h1 h2=>by rw[show k=m+1-1 by lia]));obtain⟨r1,r2,r3⟩:=r;obtain⟨a',b1,b2,b3,b4,b5⟩:=hr;dsimp only at a' b1 b2 b3 b4 b5 ⊢;split
 ·have iM:=lx (key:=key) (p:=r1) (i:=r2-(r3+1)) (j:=r2) (by rw[a'.size];lia) b5;exact bc hn (qp a' _ _) (by lia) (by lia) λi j kL hj=>by rw[iM,iM];exact b4 i j kL hj
 ·exact bc hn a' (by lia) (by lia) b4
theorem Re{p:Array Nat}(a:All n p)(hn:0<n):Ok key n (kas_count n p) (Run key n):=by
 unfold kas_count;refine Ok.bind (Ok.mono (λr hr=>?_) (Yj a hn (n-1) 1 (zU _) λi j kL hj=>by
  have:i=j:=by lia
  subst this;exact vW _))
 obtain⟨h1,h2,h3,h4⟩:=hr
 by_cases e:r=n
 ·subst e;simp only[beq_self_eq_true,if_true];exact⟨a,h1,zU _,h3⟩
 ·have e':(r==n)=false:=by simpa using e
  simp only[e',Bool.false_eq_true,if_false];have aO:r<n:=by lia
  have hdn:O.klt (K key p r) (K key p (r-1)):=by
   rcases h4 with h4|h4
   ·lia
   ·exact h4
  split
  ·refine⟨a.lt hn _,a.lt hn _,?_⟩;cases hc:O.blt (key (p.getD 0 0)) (key (p.getD (r-1) 0))with
   |true =>
    (try dsimp only);rw[yT rfl]
    exact⟨a,h1,by lia,h3⟩
   |false =>
    (try dsimp only);rw[zC zF]
    have Bq:∀k,0<=k->k<r->K key p k=K key p (r-1):=λk _ hk=>by
     refine KeyOrd.kle_antisymm (h3 k (r-1) (by lia) (by lia)) ?_;exact tW (show O.kle (K key p (r-1)) (K key p 0)from hc) (h3 0 k (by lia) hk)
    have iM:=lx (key:=key) (p:=p) (i:=0) (j:=r) (by rw[a.size];lia) Bq;refine o4 hn (qp a 0 r) h1 aO λi j kL hj=>?_;rw[iM,iM]
    by_cases ej:j=r
    ·subst ej
     by_cases ei:i=j
     ·subst ei;exact vW _
     ·rw[Bq i (by lia) (by lia)];exact sQ hdn
    ·rw[Bq i (by lia) (by lia),Bq j (by lia) (by lia)];exact vW _
  ·have lW:r=1:=by lia
   subst lW;refine o4 hn a (zU _) aO λi j kL hj=>?_
   by_cases ei:i=j
   ·subst ei;exact vW _
   ·have hi:i=0:=by lia
    have hj:j=1:=by lia
    subst hi hj;exact sQ hdn
theorem ll{p:Array Nat}(a:All n p)(hn:0<n)(k:Nat)(hk:k<n)(hu:Up key p k):∀(f l r:Nat),l<=r->r<=k->r-l<=f->(∀i,i<l->O.kle (K key p i) (K key p k))->(∀i,r<=i->i<k->O.klt (K key p k) (K key p i)) ->
  Ok key n (kas_place p k f l r) λl'=>l'<=k/\(∀i,i<l'->O.kle (K key p i) (K key p k))/\(∀i,l'<=i->i<k->O.klt (K key p k) (K key p i))
 |0,l,r,h1,h2,h3,h4,h5=>⟨by lia,h4,λi hi=>h5 i (by lia)⟩
 |f+1,l,r,h1,h2,h3,h4,h5=>by
  unfold kas_place;split
  ·exact⟨by lia,h4,λi hi=>h5 i (by lia)⟩
  ·refine⟨a.lt hn _,a.lt hn _,?_⟩;cases hc:O.blt (key (p.getD k 0)) (key (p.getD ((l+r) / 2) 0))with
   |true =>
    (try dsimp only);rw[yT rfl]
    exact ll a hn k hk hu f l ((l+r) / 2) (by lia) (by lia) (by lia) h4 λi hi hik=>KeyOrd.klt_of_klt_of_kle hc (hu _ _ hi hik)
   |false =>
    (try dsimp only);rw[zC zF]
    exact ll a hn k hk hu f ((l+r) / 2+1) r (by lia) h2 (by lia) (λi hi=>tW (hu i ((l+r) / 2) (by lia) (by lia)) (show O.kle (K key p ((l+r) / 2)) (K key p k)from hc)) h5
theorem Ra(hn:0<n):∀(f:Nat)(p:Array Nat)(k:Nat),All n p->k+f=n->Up key p k->Ok key n (kas_bin f p k) λr=>All n r/\Up key r n
 |0,p,k,a,hk,hu=>⟨a,by rw[<-hk];exact hu⟩
 |f+1,p,k,a,hk,hu=>by
  have hkn:k<n:=by lia
  refine Ok.bind (Ok.mono (λl hl=>?_) (ll a hn k hkn hu k 0 k (yQ _) (zU _) (by lia) (λi hi=>by lia) (λi h1 h2=>by lia)));obtain⟨hlk,BY,nO⟩:=hl;have hs:k<p.size:=by rw[a.size];exact hkn
  refine Ra hn f (bubble p k (k-l)) (k+1) (a.of (bubble_perm _ _ _)) (by lia) λi j kL hj=>?_;rw[Ma hs (by lia),Ma hs (by lia),show k-(k-l)=l by lia]
  by_cases ei:i=l
  ·rw[yT ei]
   by_cases ej:j=l
   ·rw[yT ej];exact vW _
   ·rw[zC ej,yT ⟨by lia,by lia⟩];exact sQ (nO _ (by lia) (by lia))
  ·rw[zC ei]
   by_cases ei2:l<i/\i<=k
   ·rw[yT ei2,zC (by lia),yT ⟨by lia,by lia⟩];exact hu _ _ (by lia) (by lia)
   ·rw[zC ei2];have AS:i<l:=by lia
    by_cases ej:j=l
    ·rw[yT ej];exact BY i AS
    ·rw[zC ej]
     by_cases ej2:l<j/\j<=k
     ·rw[yT ej2];exact hu _ _ (by lia) (by lia)
     ·rw[zC ej2];exact hu _ _ kL (by lia)
theorem ok_sort(hn:0<n):Ok key n (kas_sort n) λr=>All n r/\Up key r n:=by
 unfold kas_sort;have a0:All n (List.toArray (List.range n)):=⟨.rfl⟩
 refine Ok.bind (Ok.mono (λr hr=>?_) (Re a0 hn));obtain⟨m,p⟩:=r;obtain⟨a,h1,h2,h3⟩:=hr;dsimp only at a h1 h2 h3 ⊢;split
 ·rw[show max m 1=m by lia];exact Ra hn (n-m) p m a (by lia) h3
 ·have:m=n:=by lia
  subst this;exact⟨a,h3⟩
end Srt
end My
namespace My
open PySem PySem.Spec PySem.W PySem.Calls
open PyProof.Rows hiding St
section
variable {prog:Program}{w:World}{A:Around}{E:Value->Shared->Prop}{s:Shared}
theorem uo{D:Addr}{vs:List Value}{n0:Nat}{P:PySem.Fin->Shared->Prop}(ho:s.heap.get? D=some (seqObj "list" vs.toArray n0))(nI:vs.length<64){O:KeyOrd}(key:Nat->O.α)(κ:SortKind)
  (hk:2<=vs.length->∀(s1:Shared)(Q':SortKind->Shared->Prop)(E':Value->Shared->Prop),(∀b o,b≠D->s.heap.get? b=some o->s1.heap.get? b=some o)->Q' κ s1->wpAny (model prog w) A (keyKind' vs.toArray) Q' E' s1)
  (hc:∀(s1:Shared)(i j:Nat)(C:Bool->Shared->Prop)(E':Value->Shared->Prop),(∀b o,b≠D->s.heap.get? b=some o->s1.heap.get? b=some o)->i<vs.length->j<vs.length->C (O.blt (key i) (key j)) s1->wpAny (model prog w) A (keyLt' κ (vs.getD i Value.none) (vs.getD j Value.none)) C E' s1)
  (h:∀(p:Array Nat)(h':Heap)(e:Nat),Srt.All vs.length p->Srt.Up key p vs.length->(∀b o,b≠D->s.heap.get? b=some o->h'.get? b=some o)->h'.get? D=some (seqObj "list" (p.toList.map λi=>vs.getD i Value.none).toArray e)->P (.done (.ret .none)) { s with heap:=h' }) :
  wpAny (model prog w) A (Builtin.«list.sort» ⟨[.ref D],[]⟩) P E s:=by
 have hD:D<s.heap.objs.size:=zR ho;obtain⟨e1,FT⟩:∃e1,(s.heap.update D (Obj.mapSeq λ_=>(#[]:Array Value))).get? D=some (seqObj "list" #[] e1):=⟨_,uJ ho λ_=>#[]⟩
 rw[list_sort_plain];refine zZ (sB ho rfl (zZ (uT ho rfl (zZ (seqEpoch_at FT rfl (zZ (sN (zZ (tN (xX ?_) (yQ _))) (by show vs.length<=_;rw[zP];lia))))) (by rw[zO,zP];lia) (yQ _))));generalize hH:((s.heap.update D (Obj.mapSeq λ_=>(#[]:Array Value))).push (seqObj "tuple" vs.toArray 0)).push (seqObj "list" #[] 0)=H3;have keep:∀b o,b≠D->s.heap.get? b=some o->H3.get? b=some o:=λb o hb e=>by
  rw[<-hH];exact zX _ (zX _ ((yO _ _ (wU hb)).trans e))
 have FS:H3.get? D=some (seqObj "list" #[] e1):=by
  rw[<-hH];exact zX _ (zX _ FT)
 have bC:∀(p:Array Nat),Srt.All vs.length p->Srt.Up key p vs.length->P (.done (.ret .none)) { s with heap:=H3.update D (Obj.mapSeq λ_=>List.toArray (p.toList.map λi=>vs.getD i Value.none)) }:=λp hp hu =>
  h p _ _ hp hu (λb o hb e=>(yO _ _ (wU hb)).trans (keep b o hb e)) (uJ FS λ_=>List.toArray (p.toList.map λi=>vs.getD i Value.none))
 refine(show wpAny (model prog w) A _ P E { s with heap:=H3 }from ?_);dsimp only;have hsz:vs.toArray.size=vs.length:=zO
 by_cases h2:vs.toArray.size<2
 ·rw[yT h2,yT h2];refine zZ (zW ?_);rw[StateT.run_pure];refine zZ (zW ?_);dsimp only;have Bp:(arrOf (SortSt.mk' general' (vs.toArray.zip vs.toArray) #[] 7 none)).map (·.2)=List.toArray ((List.range vs.length).map λi=>vs.getD i Value.none):=by
   show(vs.toArray.zip vs.toArray).map (·.2)=_;apply uQ.mp;apply vF
   ·simp
   ·intro i a1 a2;have hi:i<vs.length:=by simpa using a2
    simp[hi]
  refine zZ (seqEpoch_at FS rfl ?_);rw[Bp];refine zZ (uT FS rfl ?_ (yQ _) (by rw[zO,zY,xS,zP];lia));simp only[bne_self_eq_false,Bool.false_eq_true,if_false];refine zW ?_;have:=bC (List.toArray (List.range vs.length)) ⟨.rfl⟩ λi j kL hj=>by
   have:i=j:=by lia
   subst this;exact vW _
  exact this
 ·rw[zC h2,zC h2];have gR:2<=vs.length:=by lia
  refine zZ (hk gR { s with heap:=H3 } _ _ keep ?_);have ask:(kas_sort vs.length).kasWp (kas_ask prog w A κ vs) (λp s'=>s'={ s with heap:=H3 }/\Srt.All vs.length p/\Srt.Up key p vs.length) { s with heap:=H3 } :=
   Srt.Ok.wp (λi j C hi hj q=>hc { s with heap:=H3 } i j C _ keep hi hj q) (λp hp=>⟨rfl,hp.1,hp.2⟩) (Srt.ok_sort (by lia))
  refine zZ (xQ (kat_run (Q:=λgL s'=>∃p:Array Nat,arrOf gL=p.map (kas_item (vs.toArray.zip vs.toArray))/\failedOf gL=none/\s'={ s with heap:=H3 }/\Srt.All vs.length p/\Srt.Up key p vs.length) rfl gR nI (λp gL s' _ a2 a3 a4=>⟨p,a2,a3,a4⟩) ask) ?_ λ_ _ e=>e);rintro⟨⟨⟩,gL⟩ s' ⟨p,har,hf,rfl,hp,hu⟩;dsimp only;rw[kat_snds rfl har];refine zZ (seqEpoch_at FS rfl (zZ (uT FS rfl ?_ (yQ _) ?_)))
  ·rw[hf];simp only[bne_self_eq_false,Bool.false_eq_true,if_false];exact zW (bC p hp hu)
  ·have:=hp.size;rw[zO,zY,xE,this,zP];lia
end
end My
namespace My
open PySem PySem.Spec PySem.W PySem.Calls
open PyProof.Rows hiding St
def xc:List Bool->List Bool->Bool
 |[],[]=>false
 |[],_::_=>true
 |_::_,[]=>false
 |a::x,b::y=>if a=b then xc x y else !a&&b
theorem ot:∀a,xc a a=false
 |[]=>rfl
 |a::x=>by rw[xc,yT rfl];exact ot x
theorem k5:∀a b c,xc a b=true->xc b c=true->xc a c=true
 |[],[],_,h,_=>by simp[xc]at h
 |[],_::_,[],_,h=>by simp[xc]at h
 |[],_::_,_::_,_,_=>rfl
 |_::_,[],_,h,_=>by simp[xc]at h
 |_::_,_::_,[],_,h=>by simp[xc]at h
 |a::x,b::y,c::z,h1,h2=>by
  have ih:=k5 x y z;cases a<;>cases b<;>cases c<;>simp[xc]at h1 h2 ⊢<;>exact ih h1 h2
theorem ah:∀a b c,xc a c=true->xc a b=true\/xc b c=true
 |[],[],[],h=>by simp[xc]at h
 |[],[],_::_,_=>.inr rfl
 |[],_::_,_,_=>.inl rfl
 |_::_,_,[],h=>by simp[xc]at h
 |_::_,[],_::_,_=>.inr rfl
 |a::x,b::y,c::z,h=>by
  have ih:=ah x y z;cases a<;>cases b<;>cases c<;>simp[xc]at h ⊢<;>exact ih h
theorem qz:∀a b,xc a b=false->xc b a=false->a=b
 |[],[],_,_=>rfl
 |[],_::_,h,_=>by simp[xc]at h
 |_::_,[],_,h=>by simp[xc]at h
 |a::x,b::y,h1,h2=>by
  have ih:=qz x y;cases a<;>cases b<;>simp[xc]at h1 h2 ⊢<;>exact ih h1 h2
def F4:KeyOrd where
 α:=List Bool
 blt:=xc
 irrefl:=ot
 trans:=k5
 negTrans:=ah
 total:=qz
section
variable {prog:Program}{w:World}{A:Around}{E:Value->Shared->Prop}{s:Shared}
theorem Kw{a b:Bool}{Q:Bool->Shared->Prop}(h:Q (decide (b2i a<b2i b)) s):wpAny (model prog w) A (oneLt' true (.bool a) (.bool b)) Q E s:=by
 rw[oneLt'_eq];simp only[if_true];refine zZ (wpAny_cRoomFor_byValue rfl (zZ (wpAny_callSpecialIfBound?_slot (T:="bool") rfl F.slot_bool_lt (call_gives F.slot_bool_lt rfl F.entry_int_lt (F.args_int_lt_2 _ _) (gives_int_lt_bools a b) ?_))));exact vK h
theorem Xq{a b:Bool}(h:a≠b):decide (b2i a<b2i b)=(!a&&b):=by cases a<;>cases b<;>first|rfl|exact absurd rfl h
theorem qi:∀{k:List Bool}{vs:List Value},ItemsAre (j9 prog w) k vs->vs=k.map Value.bool
 |_,_,.nil=>rfl
 |_,_,.cons h r=>by rw[wz h,qi r];rfl
theorem Qn(b bC:Bool){Q:Bool->Shared->Prop}:∀(x y:List Bool)(i:Nat),bC=decide (x.length<y.length)->Q (xc x y) s->KatLex prog w A b bC Q ((x.map Value.bool).zip (y.map Value.bool)) i s
 |[],[],i,hf,h=>kat_nil (by rw[hf];exact h)
 |[],_::_,i,hf,h=>kat_nil (by rw[hf];simpa[xc]using h)
 |_::_,[],i,hf,h=>kat_nil (by rw[hf];simpa[xc]using h)
 |a::x,c::y,i,hf,h=>by
  refine kat_cons (uC a c _ _ _ _ ?_)
  by_cases e:a=c
  ·subst e;have e2:(a==a)=true:=by simp
   rw[e2];refine kat_yes (Qn b bC x y (i+1) (by rw[hf];simp) ?_);rw[xc,yT rfl]at h;exact h
  ·have e2:(a==c)=false:=by simpa using e
   rw[e2];refine kat_no ?_;rw[xc,zC e]at h;cases hb:(b&&i==0)with
   |true=>exact Kw (by rw[Xq e];exact h)
   |false=>exact kat_one _ _ (lt_bool (by rw[Xq e];exact h))
theorem Np{x y:Addr}{kx ky:List Bool}(b:Bool){C:Bool->Shared->Prop}(hx:Bt prog w s.heap kx x)(hy:Bt prog w s.heap ky y)(h:C (xc kx ky) s):wpAny (model prog w) A (keyLt' (tuples' b) (.ref x) (.ref y)) C E s:=by
 obtain⟨ox,ix,nx,e1,_,d1,i1⟩:=hx;obtain⟨oy,iy,ny,e2,_,d2,i2⟩:=hy;refine kat_lt e1 d1 e2 d2 ?_;have h1:=qi i1;have h2:=qi i2;have l1:ix.size=kx.length:=by rw[<-xE,h1,zY]
 have l2:iy.size=ky.length:=by rw[<-xE,h2,zY]
 rw[h1,h2,l1,l2];exact Qn b _ kx ky 0 rfl h
theorem om:∀(R:List (Addr×List Bool)),(∀r∈R,Bt prog w s.heap r.2 r.1/\r.2≠[])->∃fs:List Value,KatTups s.heap (R.map λr=>Value.ref r.1) fs/\fs.length=R.length/\∀v∈fs,∃b,v = .bool b
 |[],_=>⟨[],.nil,rfl,λv hv=>by simp at hv⟩
 |r::R,h=>by
  obtain⟨fs,h1,h2,h3⟩:=om R λq hq=>h q (zI _ hq);obtain⟨⟨o,aE,n,ho,hc,hd,hi⟩,bZ⟩:=h r zH;have e:=qi hi;cases hk:r.2 with
  |nil=>exact absurd hk bZ
  |cons b k =>
   rw[hk,List.map_cons]at e;refine⟨.bool b::fs,KatTups.cons ho hc hd (by rw[<-wL,e];rfl) h1,by simp[h2],λv hv=>?_⟩;rcases zL.mp hv with rfl|hv
   ·exact⟨b,rfl⟩
   ·exact h3 v hv
theorem Vo{D:Addr}{R:List (Addr×List Bool)}{n0:Nat}{P:PySem.Fin->Shared->Prop}(ho:s.heap.get? D=some (seqObj "list" (R.map λr=>Value.ref r.1).toArray n0))(hR:∀r∈R,Bt prog w s.heap r.2 r.1/\r.2≠[])(nI:R.length<64)
  (h:∀(R':List (Addr×List Bool))(h':Heap)(e:Nat),R'.Perm R->(R'.map (·.2)).Pairwise (λa b=>xc b a=false)->(∀b o,b≠D->s.heap.get? b=some o->h'.get? b=some o)->h'.get? D=some (seqObj "list" (R'.map λr=>Value.ref r.1).toArray e)->P (.done (.ret .none)) { s with heap:=h' }) :
  wpAny (model prog w) A (Builtin.«list.sort» ⟨[.ref D],[]⟩) P E s:=by
 have hl:(R.map λr=>Value.ref r.1).length=R.length:=zY _;have tup:∀{h':Heap},(∀b o,b≠D->s.heap.get? b=some o->h'.get? b=some o)->∀r∈R,Bt prog w h' r.2 r.1/\r.2≠[]:=λ{h'} k r hr=>by
  obtain⟨⟨o,aE,n,e,hc,hd,hi⟩,bZ⟩:=hR r hr;refine⟨⟨o,aE,n,k _ _ (λz=>?_) e,hc,hd,hi⟩,bZ⟩;rw[z]at e;have:=wZ Obj.cls (yY (e.symm.trans ho));rw[hc]at this;simp at this
 refine uo (O:=F4) ho (by rw[hl];exact nI) (λi=>(R.getD i (0,[])).2) (tuples' true) (λh2 s1 Q' E' k q=>?_) (λs1 i j C E' k hi hj q=>?_) λp h' e ha hu k eD=>?_
 ·obtain⟨fs,h1,gR,h3⟩:=om (s:=s1) R (tup k);refine kat_kind (T:=.type "bool") h1 (by rw[gR];rw[hl]at h2;lia) (λv hv=>?_) rfl q;obtain⟨b,rfl⟩:=h3 v hv;exact Looks.of_pure rfl
 ·rw[hl]at hi hj;have e1:(R.map λr=>Value.ref r.1).getD i Value.none = .ref (R.getD i (0,[])).1:=by simp[hi]
  have e2:(R.map λr=>Value.ref r.1).getD j Value.none = .ref (R.getD j (0,[])).1:=by simp[hj]
  have m1:R.getD i (0,[])∈R:=by simp[hi]
  have m2:R.getD j (0,[])∈R:=by simp[hj]
  rw[e1,e2];exact Np true (tup k _ m1).1 (tup k _ m2).1 q
 ·rw[hl]at ha hu;have hp:(p.toList.map λi=>R.getD i (0,[])).Perm R:=by
   have h1:=ha.pm.map λi=>R.getD i (0,[]);have h2:(List.range R.length).map (λi=>R.getD i (0,[]))=R:=by
    apply vF
    ·simp
    ·intro i a1 a2;simp[a2]
   rw[h2]at h1;exact h1
  refine h (p.toList.map λi=>R.getD i (0,[])) h' e hp ?_ k ?_
  ·rw[yI,yA];intro i j hi hj kL;have cV:i<p.size:=by simpa using hi
   have rP:j<p.size:=by simpa using hj
   have:=hu i j (yC kL) (by rw[<-ha.size];exact rP);have g1:p.getD i 0=p[i]:=by simp[Array.getD,cV]
   have g2:p.getD j 0=p[j]:=by simp[Array.getD,rP]
   unfold Srt.K at this;rw[g1,g2]at this;have h9:xc (R.getD p[j] (0,[])).2 (R.getD p[i] (0,[])).2=false:=this;simpa using h9
  ·rw[eD,yI]
   congr 3
   apply tS;intro i hi;have cV:i<R.length:=yF.mp (ha.pm.mem_iff.mp hi);simp[cV]
end
end My
namespace My
open PySem PySem.Spec PySem.W PySem.Calls L2
open PyProof.Rows hiding St
section
open Tb
theorem Xi:∀{vs:List Value}{ss:List Str},StrsAre vs ss->∀(i:Nat)(v:Value),vs[i]?=some v->∃x t,ss[i]?=some x/\v = .str x t
 |_,_,.nil,i,v,h=>by simp at h
 |_,_,.cons x t r,0,v,h=>⟨x,t,rfl,by simpa using h.symm⟩
 |_,_,.cons x t r,i+1,v,h=>by
  obtain⟨y,u,h1,h2⟩:=Xi r i v (by simpa using h);exact⟨y,u,by simpa using h1,h2⟩
section
variable {X:Cx}
theorem ki{pins:List (Addr×Obj)}{σ:St}{H:Hp}{s:Shared}(I:Inv X pins σ H s)(d:Drawn):Inv X pins σ H { s with drawn:=d }:=⟨I.ok,I.os,I.bare,I.base,I.loc,I.cell,I.free,I.freeC,I.pin,I.hok,I.len⟩
theorem O5(hc:X.calm=true){pins:List (Addr×Obj)}{σ:St}{H:Hp}{s:Shared}(I:Inv X pins σ H s){p:Addr}{ss:List Str}{Q:VK}(hq:SqL X.K H p (ss.map V.str)\/SqT X.K H p (ss.map V.str))(aL:ss.length+1<scanBound)(nI:∀bS:List Str,bS.Nodup->(∀x∈bS,x∈ss)->bS.length<64)
  (q:∀bS:List Str,bS.Nodup->(∀x,x∈bS↔x∈ss)->sortedS bS=true->New H (.lst (bS.map V.str)) Q) :
  wpAny (model X.prog X.w) X.A (call (.type "set") [.ref p]) (λu s'=>wpAny (model X.prog X.w) X.A (call (.builtin "sorted") [u]) (EP X pins σ Q) X.xe s') X.xe s:=by
 obtain⟨aE,rv,pl⟩:∃aE:List Value,Vals (ss.map V.str) aE/\(s.heap.IsList p aE.toArray\/s.heap.IsTuple p aE.toArray):=by
  rcases hq with hq|hq
  ·obtain⟨aE,rv,pl,_⟩:=I.list hq;exact⟨aE,rv,.inl pl.isList⟩
  ·obtain⟨aE,rv,pl,_⟩:=I.tuple hq;exact⟨aE,rv,.inr pl⟩
 have iD:=jb rv;have AS:aE.length=ss.length:=by rw[<-rv.length,zY]
 have hh:X.A.handled=none:=I.ok.hd hc;refine Sq hh pl (λi h=>∃es ep t,h.get? s.heap.objs.size=some (yw es ep t)/\t.fits es.size=true/\t.led=!byT X.w/\(es.size≠0->t.plain=false)/\GoodS X.w es.toList (ss.take i)/\es.size<=i) ?_ ?_ ?_ ?_
 ·rintro i h h' ⟨es,ep,t,e,r⟩ k;exact⟨es,ep,t,k _ _ (zG (yE _)) e,r⟩
 ·refine⟨#[],0,_,zT _ rfl,rfl,rfl,λz=>absurd rfl z,⟨λe he=>by simp at he,λx hx=>by simp at hx,.nil⟩,zU _⟩
 ·rintro i v A' s' Q' E' hu hv ⟨es,ep,t,e,f,l,pn,g,le⟩ qq;have mM:aE[i]?=some v:=by simpa using hv
  obtain⟨x,tok,hx,rfl⟩:=Xi iD i v mM;have hi:i<ss.length:=(zV.mp hx).1;refine add_str e f g (by lia) pn λb h' tk bE fA t' e' sb f' l' pn' g' le'=>qq b h' tk sb ⟨bE,fA,t',e',f',l'.trans l,pn',?_,by lia⟩;rw[yV,hx];exact g'
 ·rintro h' tk ⟨es,ep,t,e,f,l,pn,g,le⟩ keep;have pN:aE.toArray.size=ss.length:=by rw[zO,AS]
  rw[pN,yX]at g;rw[pN]at le;have nU:t.plain=true->t.place.toList.Pairwise (·<·):=λhp=>by
   have h0:es.size=0:=wX λz=>by rw[pn z]at hp;cases hp
   have:=Z2 f;have h1:t.place.toList=[]:=wP.mp (by rw[xE,this,h0]);rw[h1];exact .nil
  have hzl:es.size<=sizeLine:=uX (by lia);refine rj (s:={ s with heap:=h',toks:=tk }) hh e f l nU hzl λD h2 d Ek ws hp mK hD eD=>?_;have rL:∀v,v∈ws->∃x t,v = .str x t:=λv hv=>by
   obtain⟨e1,dX,rfl⟩:=zD.mp (hp.mem_iff.mp hv);obtain⟨x,t,_,rfl⟩:=g.in1 e1 dX;exact⟨x,t,rfl⟩
  have hS:=strsAre_map ws rL;have dB:∀x,x∈ws.map strOf↔x∈ss:=λx=>by
   constructor
   ·intro hx;obtain⟨v,hv,rfl⟩:=zD.mp hx;obtain⟨e1,dX,rfl⟩:=zD.mp (hp.mem_iff.mp hv);obtain⟨y,t,hy,rfl⟩:=g.in1 e1 dX;exact hy
   ·intro hx;obtain⟨t,ht⟩:=g.in2 x hx;exact zD.mpr ⟨.str x t,hp.mem_iff.mpr (zD.mpr ⟨_,ht,rfl⟩),rfl⟩
  have mO:(ws.map strOf).Nodup:=by
   have h1:(es.toList.map (·.2)).Pairwise λv v'=>∀x t t',v = .str x t->v'≠.str x t':=wY.mpr g.one;have h2:=(hp.pairwise_iff (λ{a b} iP x t t' z1 z2=>iP x t' t z2 z1)).mpr h1;refine wY.mpr (vQ (λ{a b} ha hb iP=>?_) h2);obtain⟨x,t,rfl⟩:=rL a ha;obtain⟨y,t',rfl⟩:=rL b hb;intro z;have z':x=y:=z;subst z';exact iP x t t' rfl rfl
  have Aq:ws.length<64:=by
   have:=nI _ mO λx hx=>(dB x).mp hx
   rwa [zY]at this
  refine xZ uA ⟨_,eD,rfl⟩ uI (list_sort_treeK strKind_oneLt eD hS.keysOf (λv₁ v₂ rest e=>keyKind_strs (by rw[<-e];exact hS)) Aq λgL a1 a2=>⟨_,rfl,?_⟩) (sM _);obtain⟨bS,b1,b2,b3⟩:=sorted_out_str hS a1 a2;have qY:s.heap.objs.size<=D:=yS (yC (zR e)) hD;obtain⟨e2,qW⟩:=sortedHeap_at (out:=(arrOf gL).map (·.2)) eD;have hn:H D=none:=I.hok.fresh qY;refine⟨.ref D,upd H D (.lst (bS.map V.str)),?_,rfl,(q bS (b2.nodup_iff.mpr mO) (λx=>(b2.mem_iff).trans (dB x)) b3).at D hn⟩;refine(ki I d).laid (t':=Ek) (λb o eb=>?_) qY ⟨?_,((arrOf gL).map (·.2)).toList,e2,i5 b1,by rw[uZ];exact qW⟩
  ·have Dk:b<s.heap.objs.size:=zR eb;have GX:=mK b o (keep b o eb);rw[sortedHeap_old (zG (yW Dk qY)) (zR GX)];exact GX
  ·rw[zY,b2.length_eq,zY];exact yC (yW Aq (by decide))
end
end
section
open Tb
theorem ac{prog:Program}{w:World}:∀k:List Bool,ItemsAre (j9 prog w) k (k.map Value.bool)
 |[]=>.nil
 |b::k=>.cons (by show Ue b (.bool b)=true;simp[Ue]) (ac k)
section
variable {X:Cx}
theorem Gn{pins:List (Addr×Obj)}{σ:St}{H:Hp}{s:Shared}(I:Inv X pins σ H s){a:Addr}{k:List Bool}(h:SqT X.K H a (k.map V.bl)):Bt X.prog X.w s.heap k a:=by
 obtain⟨aE,rv,⟨o,e,hc,n,d⟩,_⟩:=I.tuple h;have:=uu rv;subst this;exact⟨o,_,n,e,hc,d,ac k⟩
theorem p0:∀{as:List Addr}{us:List Value},Vals (as.map V.ref) us->us=as.map Value.ref
 |[],us,r=>by cases r;rfl
 |a::as,us,r=>by
  rw[List.map_cons]at r;cases r with
  |cons r1 r2 =>
   cases r1;rw[p0 r2]
   rfl
theorem sw:∀(as:List Addr),Vals (as.map V.ref) (as.map Value.ref)
 |[]=>.nil
 |a::as=>.cons rfl (sw as)
theorem O4(hc:X.calm=true)(hu:X.A.units+64<cLine){pins:List (Addr×Obj)}{σ:St}{H:Hp}{s:Shared}(I:Inv X pins σ H s){p:Addr}{R:List (Addr×List Bool)}{Q:VK}(hq:SqL X.K H p (R.map λr=>V.ref r.1))(hR:∀r∈R,SqT X.K H r.1 (r.2.map V.bl)/\r.2≠[])(nI:R.length<64)
  (q:∀R':List (Addr×List Bool),(∀r∈R',r∈R)->(R'.map (·.2)).Nodup->(∀k,k∈R'.map (·.2)↔k∈R.map (·.2))->(R'.map (·.2)).Pairwise (λa b=>xc b a=false)->R'.length<=R.length->New H (.lst (R'.map λr=>V.ref r.1)) Q) :
  wpAny (model X.prog X.w) X.A (call (.type "set") [.ref p]) (λu s'=>wpAny (model X.prog X.w) X.A (call (.builtin "sorted") [u]) (EP X pins σ Q) X.xe s') X.xe s:=by
 obtain⟨aE,rv,pl,hz⟩:=I.list hq;have Bw:aE=R.map λr=>Value.ref r.1:=by
  have h1:(R.map λr=>V.ref r.1)=(R.map (·.1)).map V.ref:=by rw[yI];rfl
  rw[h1]at rv;rw[p0 rv,yI]
  rfl
 have hBt:∀r∈R,Bt X.prog X.w s.heap r.2 r.1:=λr hr=>Gn I (hR r hr).1;have hh:X.A.handled=none:=I.ok.hd hc;have old:∀{h:Heap},(∀b o,s.heap.get? b=some o->h.get? b=some o)->∀r∈R,Bt X.prog X.w h r.2 r.1:=λ{h} k r hr=>(hBt r hr).mono λo ho=>k _ o ho;refine o5 hh pl.isList (λi h=>∃L es ep t,h.get? s.heap.objs.size=some (yw es ep t)/\Rep L es t/\p9 L t/\t.led=!byT X.w/\Good X.prog X.w h (L.map (·.2)) ((R.take i).map (·.2))/\L.length<=i/\(∀e∈L.map (·.2),∃r∈R,e.2 = .ref r.1)/\∀r∈R,Bt X.prog X.w h r.2 r.1) ?_ ?_ ?_ ?_
 ·rintro i h h' ⟨L,es,ep,t,e,r,r5,l,g,le,me,ob⟩ k;have kt:∀r∈R,Bt X.prog X.w h' r.2 r.1:=λr hr=>(ob r hr).mono λo ho=>k _ o (λz=>by
   obtain⟨o2,_,_,e2,_⟩:=hBt r hr;have:=zR e2;rw[z]at this;exact absurd this (tD.mpr (wB _))) ho
  refine⟨L,es,ep,t,k _ _ (zG (yE _)) e,r,r5,l,?_,le,me,kt⟩;have upE:∀e1 k1,e1∈L.map (·.2)->Elem X.prog X.w h e1 k1->Elem X.prog X.w h' e1 k1:=λe1 k1 dX x=>by
   obtain⟨r1,lW,er1⟩:=me e1 dX;obtain⟨b,eb,hb,As⟩:=x;rw[er1]at eb;cases eb;exact⟨r1.1,er1,by
    have e3:=(ob r1 lW).inj hb;subst e3;exact kt r1 lW,As⟩
  have dnE:∀e1 k1,e1∈L.map (·.2)->Elem X.prog X.w h' e1 k1->Elem X.prog X.w h e1 k1:=λe1 k1 dX x=>by
   obtain⟨k2,_,x2⟩:=g.in1 e1 dX;have:=(upE e1 k2 dX x2).inj x;subst this;exact x2
  exact⟨λe1 h1=>let⟨k1,a1,a2⟩:=g.in1 e1 h1;⟨k1,a1,upE e1 k1 h1 a2⟩,λk1 h1=>let⟨e1,a1,a2⟩:=g.in2 k1 h1;⟨e1,a1,upE e1 k1 a1 a2⟩,
   vQ (λ{a b} ha hb iP k1 x1 x2=>iP k1 (dnE a k1 ha x1) (dnE b k1 hb x2)) g.one⟩
 ·refine⟨[],#[],0,_,zT _ rfl,⟨rfl,rfl,rfl,.nil,λx hx=>by simp at hx,.inl rfl,by simp⟩,(show 0*5<7*3 by decide),rfl,⟨λe he=>by simp at he,λk hk=>by simp at hk,.nil⟩,zU _,λe he=>by simp at he,old λb o e=>zX _ e⟩
 ·rintro i v A' s' Q' E' DN hv ⟨L,es,ep,t,e,r,r5,l,g,le,me,ob⟩ qq;rw[Bw]at hv;have mM:(R.map λr=>Value.ref r.1)[i]?=some v:=by simpa using hv
  rw[zQ]at mM;cases nM:R[i]? with
  |none=>rw[nM]at mM;cases mM
  |some r1 =>
   rw[nM]at mM;cases mM;have hm:=zK nM;have hi:i<R.length:=(zV.mp nM).1;refine M3 (by lia) r r5 (by lia) e g (ob r1 hm) λb h' tk L' bE fA t' e' sb r' r5' l' pl' g' le' me'=>qq b h' tk sb ⟨L',bE,fA,t',e',r',r5',l'.trans l,?_,by lia,λe1 dX=>?_,λr2 CK=>?_⟩
   ·rw[yV,nM,zJ];exact g'
   ·rcases me' e1 dX with z|z
    ·exact me e1 z
    ·exact⟨r1,hm,z⟩
   ·obtain⟨o2,i2,n2,e2,c2,rest⟩:=ob r2 CK;exact⟨o2,i2,n2,bn e sb _ _ c2 e2,c2,rest⟩
 ·rintro h' tk ⟨L,es,ep,t,e,r,r5,l,g,le,me,ob⟩ keep;have pN:aE.toArray.size=R.length:=by rw[Bw,zO,zY]
  rw[pN]at g le;rw[yX]at g;have DT:es.toList=L.map (·.2):=by rw[r.es]
  have Dg:es.size=L.length:=by rw[r.es];simp
  have nU:t.plain=true->t.place.toList.Pairwise (·<·):=λ_=>by rw[r.pl];exact r.up
  refine rj (s:={ s with heap:=h',toks:=tk }) hh e r.fits l nU (by rw[Dg,zP];lia) λD h2 d Ek ws hp mK hD eD=>?_;rw[DT]at hp;have kJ:∀v∈ws,∃r1∈R,v = .ref r1.1:=λv hv=>by
   obtain⟨e1,dX,rfl⟩:=zD.mp (hp.mem_iff.mp hv);exact me e1 dX
  have pick:∀ws:List Value,(∀v∈ws,∃r1∈R,v = .ref r1.1)->∃R1:List (Addr×List Bool),(∀r1∈R1,r1∈R)/\ws=R1.map λr1=>Value.ref r1.1:=by
   intro ws
   induction ws with
   |nil=>exact λ_=>⟨[],by simp,rfl⟩
   |cons v ws ih =>
    intro rL;obtain⟨R1,h1,h2⟩:=ih λv hv=>rL v (zI _ hv);obtain⟨r1,lW,e1⟩:=rL v zH;refine⟨r1::R1,λy hy=>?_,by rw[e1,h2];rfl⟩;rcases zL.mp hy with rfl|hy
    ·exact lW
    ·exact h1 y hy
  obtain⟨R1,pO,ews⟩:=pick ws kJ;have nJ:∀r1∈R,∀e1∈L.map (·.2),e1.2 = .ref r1.1->Elem X.prog X.w h' e1 r1.2:=λr1 lW e1 dX z=>by
   obtain⟨k1,_,b,eb,hb,As⟩:=g.in1 e1 dX;rw[z]at eb;cases eb;have:=(ob r1 lW).inj hb;subst this;exact⟨r1.1,z,hb,As⟩
  have dB:∀k,k∈R1.map (·.2)↔k∈R.map (·.2):=λk=>by
   constructor
   ·intro hk;obtain⟨r1,lW,rfl⟩:=zD.mp hk;exact yN (pO r1 lW)
   ·intro hk;obtain⟨e1,dX,hE⟩:=g.in2 k hk;have hv:e1.2∈ws:=hp.mem_iff.mpr (yN dX);rw[ews]at hv;obtain⟨r1,lW,er1⟩:=zD.mp hv;have:=(nJ r1 (pO r1 lW) e1 dX er1.symm).inj hE;exact zD.mpr ⟨r1,lW,this⟩
  have mO:(R1.map (·.2)).Nodup:=by
   have h1:((L.map (·.2)).map (·.2)).Pairwise λv v'=>∀r1∈R,∀r2∈R,v = .ref r1.1->v' = .ref r2.1->r1.2≠r2.2 :=
    wY.mpr (vQ (λ{a b} ha hb iP r1 lW r2 CK z1 z2 z3=>iP r1.2 (nJ r1 lW a ha z1) (z3▸nJ r2 CK b hb z2)) g.one)
   have h2:=(hp.pairwise_iff (λ{a b} iP r1 lW r2 CK z1 z2 z3=>iP r2 CK r1 lW z2 z1 z3.symm)).mpr h1;rw[ews]at h2;exact wY.mpr (vQ (λ{a b} ha hb iP z=>iP a (pO a ha) b (pO b hb) rfl rfl z) (wY.mp h2))
  have hR1l:R1.length=L.length:=by
   have:=hp.length_eq;rw[ews]at this;simpa using this
  rw[ews]at eD;refine xZ uA ⟨_,eD,rfl⟩ uI (Vo (prog:=X.prog) (w:=X.w) eD (λr1 lW=>⟨(ob r1 (pO r1 lW)).mono λo ho=>mK _ o ho,(hR r1 (pO r1 lW)).2⟩) (by lia) λR2 h3 e3 pm up k3 eD3=>⟨_,rfl,?_⟩) (sM _);have qY:s.heap.objs.size<=D:=yS (yC (zR e)) hD;have hn:H D=none:=I.hok.fresh qY;have q2:=q R2 (λr1 lW=>pO r1 (pm.mem_iff.mp lW)) ((pm.map (·.2)).nodup_iff.mpr mO) (λk=>((pm.map (·.2)).mem_iff).trans (dB k)) up (by rw[pm.length_eq];lia);refine⟨.ref D,upd H D (.lst (R2.map λr1=>V.ref r1.1)),?_,rfl,q2.at D hn⟩;refine(ki I d).laid (t':=Ek) (λb o eb=>?_) qY ⟨?_,R2.map (λr1=>Value.ref r1.1),e3,?_,eD3⟩
  ·have Dk:b<s.heap.objs.size:=zR eb;exact k3 b o (zG (yW Dk qY)) (mK b o (keep b o eb))
  ·rw[zY,pm.length_eq,zP];lia
  ·have h1:(R2.map λr=>V.ref r.1)=(R2.map (·.1)).map V.ref:=by rw[yI];rfl
   have h2:(R2.map λr=>Value.ref r.1)=(R2.map (·.1)).map Value.ref:=by rw[yI];rfl
   rw[h1,h2];exact sw _
def mSS(K:W.Frag):V->Hp->VK->Prop:=λv H Q=>match v with
 | .ref p=>(∃ss:List Str,(SqL K H p (ss.map V.str)\/SqT K H p (ss.map V.str))/\ss.length+1<scanBound/\(∀bS:List Str,bS.Nodup->(∀x∈bS,x∈ss)->bS.length<64)/\∀bS:List Str,bS.Nodup->(∀x,x∈bS↔x∈ss)->sortedS bS=true->New H (.lst (bS.map V.str)) Q) \/
  ∃R:List (Addr×List Bool),SqL K H p (R.map λr=>V.ref r.1)/\(∀r∈R,SqT K H r.1 (r.2.map V.bl)/\r.2≠[])/\R.length<64 /\
   ∀R':List (Addr×List Bool),(∀r∈R',r∈R)->(R'.map (·.2)).Nodup->(∀k,k∈R'.map (·.2)↔k∈R.map (·.2))->(R'.map (·.2)).Pairwise (λa b=>xc b a=false)->R'.length<=R.length->New H (.lst (R'.map λr=>V.ref r.1)) Q
 |_=>False
theorem F9{K:W.Frag}{H:Hp}{Q:VK}{p:Addr}:mSS K (.ref p) H Q=((∃ss:List Str,(SqL K H p (ss.map V.str)\/SqT K H p (ss.map V.str))/\ss.length+1<scanBound/\(∀bS:List Str,bS.Nodup->(∀x∈bS,x∈ss)->bS.length<64)/\∀bS:List Str,bS.Nodup->(∀x,x∈bS↔x∈ss)->sortedS bS=true->New H (.lst (bS.map V.str)) Q) \/
  ∃R:List (Addr×List Bool),SqL K H p (R.map λr=>V.ref r.1)/\(∀r∈R,SqT K H r.1 (r.2.map V.bl)/\r.2≠[])/\R.length<64 /\
   ∀R':List (Addr×List Bool),(∀r∈R',r∈R)->(R'.map (·.2)).Nodup->(∀k,k∈R'.map (·.2)↔k∈R.map (·.2))->(R'.map (·.2)).Pairwise (λa b=>xc b a=false)->R'.length<=R.length->New H (.lst (R'.map λr=>V.ref r.1)) Q):=rfl
def tSS(K:W.Frag)(te:TE):TE:=fun σ H Q=>te σ H λv H1=>mSS K v H1 Q
theorem wa{e:Expr}{te:TE}{p1 p2 jD bH:Pos}(hc:X.calm=true)(hu:X.A.units+64<cLine)(g1:Gl X "sorted")(m1:X.mg "sorted"=none)(g2:Gl X "set")(m2:X.mg "set"=none)(ha:PE X e te)
  (dX:starEach [.Call (.Name "set" p2) [e] [] bH] X.env=[(false,eval (.Call (.Name "set" p2) [e] [] bH) X.env)]:=by rfl) (qW:starEach [e] X.env=[(false,eval e X.env)]:=by rfl) :
  PE X (.Call (.Name "sorted" p1) [.Call (.Name "set" p2) [e] [] bH] [] jD) (tSS X.K te):=by
 intro pins s σ H Q I h;refine xK (ww I g1 m1 ux (vV ?_ dX rfl));rw[dX];refine(show wpAny _ _ (spliced ((false,eval (.Call (.Name "set" p2) [e] [] bH) X.env)::[])) _ _ s from wI ?_);refine xK (ww I g2 m2 Ps (xY ?_ qW rfl));rw[qW];refine(show wpAny _ _ (spliced ((false,eval e X.env)::[])) _ _ s from wI (thn (ha pins s σ H _ I h) λu s1 ⟨x,H1,I1,r1,q1⟩=>wM ?_));cases x with
 |ref a =>
  cases r1;rcases(show _\/_ from q1)with⟨ss,b1,b2,b3,b4⟩|⟨R,b1,b2,b3,b4⟩
  ·exact thn (O5 hc I1 b1 b2 b3 b4) λu2 s2 h2=>wM h2
  ·exact thn (O4 hc hu I1 b1 b2 b3 b4) λu2 s2 h2=>wM h2
 |_=>exact(show False from q1).elim
end
end
section
section
variable {X:Cx}
def mDN:TE:=λ_ H Q=>New H (.dK []) Q
theorem Q0{pos:Pos}:PE X (.Dict [] [] pos) mDN:=Rv Ru fun σ H Q q p n=>New.at q p n
def Ke:Pg:=λx y v H k=>match x with
 | .ref a=>(∃kvs ky,H a=some (.dK kvs)/\y=kV ky/\kvs.length<sizeLine/\k (upd H a (.dK (ug kvs ky v))))\/(∃xs i,∃j:Nat,H a=some (.lst xs)/\y = .int i/\i=(j:Int)/\j<xs.length/\k (upd H a (.lst (xs.set j v))))
 |_=>False
theorem Ir{a:Addr}{y v:V}{H:Hp}{k:Hp->Prop}:Ke (.ref a) y v H k=((∃kvs ky,H a=some (.dK kvs)/\y=kV ky/\kvs.length<sizeLine/\k (upd H a (.dK (ug kvs ky v))))\/(∃xs i,∃j:Nat,H a=some (.lst xs)/\y = .int i/\i=(j:Int)/\j<xs.length/\k (upd H a (.lst (xs.set j v))))):=rfl
theorem W7(hu:X.A.units+64<cLine):M0 X Ke:=by
 intro pins s σ H o i v ov iv u Q I ro ri rv h;cases o with
 |ref a =>
  cases ro;rcases(show _\/_ from h)with⟨kvs,ky,e,rfl,hl,q⟩|⟨xs,i',j,e,rfl,rfl,hj,q⟩
  ·exact Tv (by lia) I (.inl ⟨kvs,ky,e,rfl,hl,rfl⟩) ri rv λs' I'=>⟨_,I',q⟩
  ·exact So pins s σ H (.ref a) _ v _ iv u Q I rfl ri rv ⟨a,xs,(j:Int),j,rfl,rfl,e,by unfold ixN;rw[yT (Int.natCast_nonneg j),yT (Int.ofNat_lt.mpr hj),yZ],q⟩
 |_=>exact(show False from h).elim
theorem Hj{o i e:Expr}{to ti te:TE}{p1 p2:Pos}(hu:X.A.units+64<cLine)(ho:PE X o to)(hi:PE X i ti)(he:PE X e te)
  (ha:∀v,assign (.Subscript o i p1) X.env v=(do
   let ov <-holding [v] (eval o X.env)
   let iv <-holding [v,ov] (eval i X.env)
   standAt p1
   holding [v,ov,iv] (setItem ov iv v)
   release [v,ov,iv] []):=by intro _;rfl)
  (hs:swapsWithSole [.Subscript o i p1] e p2.line X.env=pure false:=by rfl) (hw:swappedStores [.Subscript o i p1] e X.env=pure none:=by rfl)
  (h1:(assignEach [.Subscript o i p1] X.env).map (·.2)=[assign (.Subscript o i p1) X.env]:=by rfl):PS X (.Assign [.Subscript o i p1] e p2) (Vs te (Nc to ti Ke)):=Sd he (R6 ho hi (W7 hu) ha) hs hw h1
end
end
section
theorem wm{α:Type}[DecidableEq α]:∀{l m:List α},l.Nodup->(∀x∈l,x∈m)->l.length<=m.length
 |[],_,_,_=>yQ _
 |a::l,m,hn,hs=>by
  rw[wO]at hn;have ha:=hs a zH;have ih:=wm (l:=l) (m:=m.erase a) hn.2 λx hx=>(List.mem_erase_of_ne (by intro z;subst z;exact hn.1 hx)).mpr (hs x (zI _ hx));rw[List.length_erase_of_mem ha]at ih;have:=sW ha;rw[yR];lia
def leS(a b:Str):Prop:=ltCps b.cps.toList a.cps.toList=false
theorem leS_iff{a b:Str}:leS a b↔strKind.kle a.cps.toList b.cps.toList:=by
 unfold leS;rw[ltCps_eq];exact Iff.rfl
theorem Ut{a b c:Str}(h1:leS a b)(h2:leS b c):leS a c:=leS_iff.mpr (tW (leS_iff.mp h1) (leS_iff.mp h2))
theorem Qm{a b:Str}(h1:leS a b)(h2:leS b a):a=b:=by
 have:=KeyOrd.kle_antisymm (leS_iff.mp h1) (leS_iff.mp h2);cases a;cases b
 congr 1
 exact uQ.mp this
theorem ui:∀(p:Str)(l:List Str),risingS p l=true->(p::l).Pairwise leS
 |p,[],_=>sY _ _
 |p,x::r,h=>by
  have h':(!ltCps x.cps.toList p.cps.toList&&risingS x r)=true:=h;rw[yJ]at h';have hpx:leS p x:=by unfold leS;simpa using h'.1
  have ih:=ui x r h'.2;refine xW.mpr ⟨λy hy=>?_,ih⟩;rcases zL.mp hy with rfl|hy
  ·exact hpx
  ·exact Ut hpx ((xW.mp ih).1 y hy)
theorem uj:∀(l:List Str),sortedS l=true->l.Pairwise leS
 |[],_=>.nil
 |x::r,h=>ui x r h
theorem Vp{a b:List Str}(h1:sortedS a=true)(h2:sortedS b=true)(n1:a.Nodup)(n2:b.Nodup)(he:∀x,x∈a↔x∈b):a=b :=
 List.Perm.eq_of_pairwise (λ_ _ _ _ x y=>Qm x y) (uj a h1) (uj b h2) ((uD n1 n2).mpr he)
theorem Ox{a b:List (List Bool)}(h1:a.Pairwise λx y=>xc y x=false)(h2:b.Pairwise λx y=>xc y x=false)(n1:a.Nodup)(n2:b.Nodup)(he:∀x,x∈a↔x∈b):a=b :=
 List.Perm.eq_of_pairwise (λ_ _ _ _ x y=>qz _ _ y x) h1 h2 ((uD n1 n2).mpr he)
open Classical in
end
end My
namespace My
open PySem PySem.Spec L2
open PyProof.Rows hiding St
def Say.subs:Say->List Say
 | .letter _=>[]
 | .neg s=>[s]
 | .bin _ s t=>[s,t]
theorem o9(s:Say):s.pieces=1+(s.subs.map Say.pieces).sum:=by
 cases s<;>simp[Say.subs,Say.pieces]<;>lia
theorem qu{s:Say}(h:s.subs≠[]):s.letters=(s.subs.map Say.letters).flatten:=by
 cases s<;>simp[Say.subs,Say.letters]at h ⊢
theorem xz:∀s:Say,s.letters.length<=s.pieces
 | .letter _=>zU _
 | .neg s=>Nat.le_succ_of_le (xz s)
 | .bin _ s t=>by
  have h1:=xz s;have h2:=xz t;simp only[Say.letters,Say.pieces,zS];lia
theorem bj{K:W.Frag}{H:Hp}{v:V}{s:Say}(h:SayAt K H v s)(hn:s.subs≠[]):∃a wd us,v = .ref a/\SqT K H a (.str wd::us)/\decide (wd=Str.ofString "letter")=false/\us.length=s.subs.length/\us.length<=2/\∀(i:Nat) u,us[i]?=some u->∃t,s.subs[i]?=some t/\SayAt K H u t/\t.pieces<s.pieces:=by
 cases s with
 |letter x=>exact absurd rfl hn
 |neg t =>
  obtain⟨a,u,rfl,ha,ht⟩:=h;refine⟨a,_,[u],rfl,ha,w10,rfl,by simp,λi x hx=>?_⟩
  match i,hx with
  |0,hx =>
   cases hx;exact⟨t,rfl,ht,yE _⟩
  |i+1,hx=>simp at hx
 |bin o t t' =>
  obtain⟨a,u,u',rfl,ha,ht,Bg⟩:=h;refine⟨a,_,[u,u'],rfl,ha,by cases o<;>first|exact w20|exact w30|exact w40,rfl,by simp,λi x hx=>?_⟩
  match i,hx with
  |0,hx =>
   cases hx;exact⟨t,rfl,ht,by simp only[Say.pieces];lia⟩
  |1,hx =>
   cases hx;exact⟨t',rfl,Bg,by simp only[Say.pieces];lia⟩
  |i+2,hx=>simp at hx
theorem cu{α:Type}(x:α)(us:List α):atI (x::us) 0=some x:=yk (xs:=x::us) (j:=0) rfl
theorem kc(x:V)(us:List V):vn (x::us) (some 1) none=us:=by
 unfold vn;have e1:HT.sIx (x::us).length 0 (some 1)=1:=by
  show(if(1:Int)<0 then((1:Int)+((x::us).length:Int)).toNat else min (1:Int).toNat (x::us).length)=1;rw[zC (by decide)];show min 1 (us.length+1)=1;lia
 rw[e1,HT.sIx_none];show(us.take (us.length+1-1))=us;rw[Nat.add_sub_cancel,yX]
theorem kd:∀(ts:List Say),((ts.map Say.letters).flatten).length<=(ts.map Say.pieces).sum
 |[]=>zU _
 |t::ts=>by
  have h1:=xz t;have h2:=kd ts;simp only[List.map_cons,uY,zS,List.sum_cons];lia
theorem mq(f:Say->Nat):∀(ts:List Say)(i:Nat),((ts.take i).map f).sum<=(ts.map f).sum
 |[],i=>by simp
 |t::ts,0=>by simp
 |t::ts,i+1=>by
  have:=mq f ts i;simp only[List.take_succ_cons,List.map_cons,List.sum_cons];lia
end My
namespace My
open PySem PySem.Spec PySem.W PySem.Calls L2
open PyProof.Rows hiding St
section
section
variable {X:Cx}
theorem Hi:OpR X (binaryOp .Pow) (mII Gj λi j=>.int (i ^ j.toNat)):=vd K4 dj
def G0(neg:Bool):R2:=λx y H Q=>y = .non/\Q (.bl (if neg then !decide (x = .non)else decide (x = .non))) H
theorem Hd:OpR X (compareOp .Is) (G0 false):=vd K1 λ_ _ _ _ h=>h
def Kc:V->List V->Hp->VK->Prop:=λx vs H Q=>match x,vs with
 | .ref l,[.int i,y]=>∃xs,H l=some (.lst xs)/\xs.length<sizeLine/\0<=i/\i<2 ^ 62/\Q .non (upd H l (.lst (xs.take i.toNat++y::xs.drop i.toNat)))
 |_,_=>False
theorem Ii{l:Addr}{i:Int}{y:V}{H:Hp}{Q:VK}:Kc (.ref l) [.int i,y] H Q=∃xs,H l=some (.lst xs)/\xs.length<sizeLine/\0<=i/\i<2 ^ 62/\Q .non (upd H l (.lst (xs.take i.toNat++y::xs.drop i.toNat))):=rfl
theorem jc:∀{xs:List V}{us:List Value}(n:Nat),Vals xs us->Vals (xs.take n) (us.take n)
 |_,_,0,_=>.nil
 |_,_,n+1,.nil=>.nil
 |_,_,n+1,.cons h r=>.cons h (jc n r)
theorem ja:∀{xs:List V}{us:List Value}(n:Nat),Vals xs us->Vals (xs.drop n) (us.drop n)
 |_,_,0,h=>h
 |_,_,n+1,.nil=>.nil
 |_,_,n+1,.cons h r=>ja n r
theorem Hc:MtR X "list.insert" Kc:=λpins s σ H x xs v us Q I rx rs h=>by
 match x,xs,h with
 | .ref l,[.int i,y],h =>
  obtain⟨ys,hH,hz,h0,h1,q⟩:=(show∃ys,H l=some (.lst ys)/\ys.length<sizeLine/\0<=i/\i<2 ^ 62/\Q .non (upd H l (.lst (ys.take i.toNat++y::ys.drop i.toNat)))from h)
  cases rx;cases rs with
  |cons r1 rs =>
   cases rs with
   |cons r2 rs =>
    cases rs;obtain⟨t,rfl⟩:=r1;rename_i u;obtain⟨z,aE,n,r,hl,e⟩:=I.lstM hH;refine tE F.slot_list_insert ⟨_,e,rfl⟩ F.entry_list_insert (F.args_list_insert_3 _ _ _) (AutoSeq1.list_insert_list_int_val_1 l aE.toArray n i t u (by rw[fitsIndex_both (by lia) (by lia)];simp) (by rw[zO];lia)) ⟨e,?_⟩;refine⟨.non,_,I.lset (its':=aE.take i.toNat++u::aE.drop i.toNat) hH e ?_ ((jc _ r).append (.cons r2 (ja _ r))) ?_,rfl,q⟩
    ·have e1:(if i<0 then(i+(aE.toArray.size:Int)).toNat else min i.toNat aE.toArray.size)=min i.toNat aE.length:=by rw[zC (by lia),zO]
     show(aE.toArray.extract 0 (if i<0 then(i+(aE.toArray.size:Int)).toNat else min i.toNat aE.toArray.size)).push u++aE.toArray.extract (if i<0 then(i+(aE.toArray.size:Int)).toNat else min i.toNat aE.toArray.size)=_;rw[e1,kl_ins_eq]
     by_cases hm:i.toNat<=aE.length
     ·rw[Nat.min_eq_left hm]
     ·rw[Nat.min_eq_right (by lia),yX,sJ,vG (by lia),List.drop_eq_nil_of_le (by lia)]
    ·rw[zS,yR,yU,xR];lia
def Gw:V->List V->Hp->VK->Prop:=λx vs H Q=>match x,vs with
 | .ref l,[]=>∃xs,H l=some (.lst xs)/\Q .non (upd H l (.lst []))
 |_,_=>False
theorem Ia{l:Addr}{H:Hp}{Q:VK}:Gw (.ref l) [] H Q=∃xs,H l=some (.lst xs)/\Q .non (upd H l (.lst [])):=rfl
theorem G9:MtR X "list.clear" Gw:=λpins s σ H x xs v us Q I rx rs h=>by
 match x,xs,h with
 | .ref l,[],h =>
  obtain⟨ys,e,q⟩:=(show∃xs,H l=some (.lst xs)/\Q .non (upd H l (.lst []))from h)
  exact Q6 pins s σ H _ _ v us Q I rx rs ⟨l,ys,rfl,rfl,e,q⟩
end
end
end My
namespace My
open PySem PySem.Spec L2
open PyProof.Rows hiding St
def SaysAt(K:W.Frag)(H:Hp):List V->List Say->Prop
 |[],[]=>True
 |v::vs,s::ss=>SayAt K H v s/\SaysAt K H vs ss
 |_,_=>False
theorem SaysAt.mono{K:W.Frag}{H H':Hp}(t:Tups H H'):∀{vs:List V}{ss:List Say},SaysAt K H vs ss->SaysAt K H' vs ss
 |[],[],_=>trivial
 |v::vs,s::ss,h=>⟨h.1.mono t,SaysAt.mono t h.2⟩
 |[],_::_,h=>h.elim
 |_::_,[],h=>h.elim
theorem SaysAt.app{K:W.Frag}{H:Hp}:∀{vs:List V}{ss:List Say}{DA:List V}{bS:List Say},SaysAt K H vs ss->SaysAt K H DA bS->SaysAt K H (vs++DA) (ss++bS)
 |[],[],_,_,_,h=>h
 |v::vs,s::ss,_,_,h,h'=>⟨h.1,SaysAt.app h.2 h'⟩
 |[],_::_,_,_,h,_=>h.elim
 |_::_,[],_,_,h,_=>h.elim
theorem SaysAt.len{K:W.Frag}{H:Hp}:∀{vs:List V}{ss:List Say},SaysAt K H vs ss->vs.length=ss.length
 |[],[],_=>rfl
 |v::vs,s::ss,h=>by rw[yR,yR,SaysAt.len h.2]
 |[],_::_,h=>h.elim
 |_::_,[],h=>h.elim
def sf(ts:List Say):List Str:=(ts.map Say.letters).flatten
theorem Pk(a b:List Say):sf (a++b)=sf a++sf b:=by simp[sf]
def lu(k:List Bool):PyData:=.tuple (k.map PyData.bool)
def W4(ks:List (List Bool)):PyData:=.list (ks.map lu)
theorem Z6(K:W.Frag)(H:Hp):∀k:List Bool,HasL K H (k.map V.bl) (k.map PyData.bool)
 |[]=>by simp[HasL]
 |x::k=>by
  have ih:=Z6 K H k;rw[List.map_cons,List.map_cons];unfold HasL;exact⟨_,_,rfl,by unfold Has;rfl,ih⟩
theorem de{K:W.Frag}{H:Hp}{a:Addr}{k:List Bool}(h:SqT K H a (k.map V.bl)):Has K H (.ref a) (lu k):=by
 unfold lu Has;exact⟨a,_,rfl,h,Z6 K H k⟩
theorem gc{K:W.Frag}{H:Hp}:∀{R:List (Addr×List Bool)},(∀r∈R,SqT K H r.1 (r.2.map V.bl))->HasL K H (R.map λr=>V.ref r.1) ((R.map (·.2)).map lu)
 |[],_=>by simp[HasL]
 |r::R,h=>by
  have ih:=gc (R:=R) λq hq=>h q (zI _ hq);rw[List.map_cons,List.map_cons,List.map_cons];unfold HasL;exact⟨_,_,rfl,de (h r zH),ih⟩
theorem Wk:∀k:List Bool,PyData.canLayAll0 (k.map PyData.bool)=true/\PyData.depthAll (k.map PyData.bool)=0
 |[]=>by simp[PyData.canLayAll0,PyData.depthAll]
 |x::k=>by
  obtain⟨h1,h2⟩:=Wk k;rw[List.map_cons];refine⟨?_,?_⟩
  ·rw[PyData.canLayAll0,h1,sG,PyData.canLay0]
  ·rw[PyData.depthAll,h2,PyData.depth]
   rfl
theorem Wl(k:List Bool):PyData.canLay0 (lu k)=true/\PyData.depth (lu k)=1:=by
 obtain⟨h1,h2⟩:=Wk k;unfold lu;exact⟨by rw[PyData.canLay0];exact h1,by rw[PyData.depth,h2]⟩
theorem rh(k:List Bool):SeqAt.shaped (lu k)=true:=by
 obtain⟨h1,h2⟩:=Wl k;unfold SeqAt.shaped;rw[h1,h2]
 rfl
theorem af:∀ks:List (List Bool),PyData.canLayAll0 (ks.map lu)=true/\PyData.depthAll (ks.map lu)<=1
 |[]=>by simp[PyData.canLayAll0,PyData.depthAll]
 |k::ks=>by
  obtain⟨h1,h2⟩:=af ks;obtain⟨a1,a2⟩:=Wl k;rw[List.map_cons];refine⟨?_,?_⟩
  ·rw[PyData.canLayAll0,h1,sG,a1]
  ·rw[PyData.depthAll,a2];lia
def NamesOf(ts:List Say)(ss:List Str):Prop:=ss.Nodup/\(∀x,x∈ss↔x∈sf ts)/\sortedS ss=true
theorem NamesOf.eq{ts:List Say}{a b:List Str}(h1:NamesOf ts a)(h2:NamesOf ts b):a=b:=Vp h1.2.2 h2.2.2 h1.1 h2.1 λx=>(h1.2.1 x).trans (h2.2.1 x).symm
def se(ts:List Say)(hs:List Str):List Bool:=ts.map λt=>t.so hs
theorem pi(ts:List Say)(hs:List Str):(se ts hs).length=ts.length:=by simp[se]
def FitRows(ts:List Say)(ss:List Str)(ks:List (List Bool)):Prop:=ks.Nodup/\(∀k,k∈ks↔∃n,n<2 ^ ss.length/\k=se ts (y8 (n:Nat) ss))/\ks.Pairwise (λa b=>xc b a=false)
theorem FitRows.eq{ts:List Say}{ss:List Str}{a b:List (List Bool)}(h1:FitRows ts ss a)(h2:FitRows ts ss b):a=b:=Ox h1.2.2 h2.2.2 h1.1 h2.1 λx=>(h1.2.1 x).trans (h2.2.1 x).symm
theorem mem_allL{x:Str}{ts:List Say}:x∈sf ts↔∃t∈ts,x∈t.letters:=by
 unfold sf;rw[List.mem_flatten];constructor
 ·rintro⟨l,hl,hx⟩;obtain⟨t,ht,rfl⟩:=zD.mp hl;exact⟨t,ht,hx⟩
 ·rintro⟨t,ht,hx⟩;exact⟨t.letters,yN ht,hx⟩
theorem SaysAt.at{K:W.Frag}{H:Hp}:∀{vs:List V}{ts:List Say},SaysAt K H vs ts->∀(i:Nat) v,vs[i]?=some v->∃t,ts[i]?=some t/\SayAt K H v t
 |[],[],_,i,v,h=>by simp at h
 |v::vs,t::ts,h,0,u,e=>by
  cases e;exact⟨t,rfl,h.1⟩
 |v::vs,t::ts,h,i+1,u,e=>by simpa using SaysAt.at h.2 i u (by simpa using e)
 |[],_::_,h,_,_,_=>h.elim
 |_::_,[],h,_,_,_=>h.elim
structure Lst(ts:List Say)(xs:List Str):Prop where
 lo:1<=ts.length
 hi:ts.length<=6
 pc:∀t∈ts,t.pieces<=40
 nm:∀x∈sf ts,x∈xs
 xl:xs.length<=5
 ok:∀x∈xs,Nm x
theorem Lst.names{ts:List Say}{xs ss:List Str}(l:Lst ts xs)(h:NamesOf ts ss):ss.length<=5/\∀x∈ss,Nm x :=
 ⟨yS (wm h.1 λx hx=>l.nm x ((h.2.1 x).mp hx)) l.xl,λx hx=>l.ok x (l.nm x ((h.2.1 x).mp hx))⟩
theorem jz:∀ts:List Say,(∀t∈ts,t.pieces<=40)->(sf ts).length<=40*ts.length
 |[],_=>zU _
 |t::ts,h=>by
  have h1:=xz t;have h2:=h t zH;have h3:=jz ts λu hu=>h u (zI _ hu);simp only[sf,List.map_cons,uY,zS,yR]at h3 ⊢;lia
end My
namespace My
open PySem PySem.Spec PySem.W PySem.Calls L2
open PyProof.Rows hiding St
section
section
variable {X:Cx}
def Gx(K:W.Frag):V->List V->Hp->VK->Prop:=λx vs H Q=>match x,vs with
 | .ref l,[.ref b]=>∃xs zs,H l=some (.lst xs)/\(H b=some (.lst zs)\/SqT K H b zs)/\xs.length+zs.length<=sizeLine/\Q .non (upd H l (.lst (xs++zs)))
 |_,_=>False
theorem Lo{K:W.Frag}{l b:Addr}{H:Hp}{Q:VK}:Gx K (.ref l) [.ref b] H Q=∃xs zs,H l=some (.lst xs)/\(H b=some (.lst zs)\/SqT K H b zs)/\xs.length+zs.length<=sizeLine/\Q .non (upd H l (.lst (xs++zs))):=rfl
theorem Ge{C:Addr->Addr->Prop}{x:V}{vs:List V}(h:match x,vs with|.ref l,[.ref b]=>C l b|_,_=>False):∃l b,x = .ref l/\vs=[.ref b]/\C l b:=by
 cases x with
 |ref l =>
  cases vs with
  |nil=>exact(show False from h).elim
  |cons y t =>
   cases t with
   |nil =>
    cases y with
    |ref b=>exact⟨l,b,rfl,rfl,h⟩
    |_=>exact(show False from h).elim
   |cons _ _=>exact(show False from by cases y<;>exact h).elim
 |_=>exact(show False from by rcases vs with _|⟨y,_|⟨_,_⟩⟩<;>first|exact h|(cases y<;>exact h)).elim
theorem Q1:MtR X "list.extend" (Gx X.K):=λpins s σ H x xs v us Q I rx rs h=>by
 obtain⟨l,b,rfl,rfl,ys,zs,e,e2,z,q⟩:=Ge (C:=λl b=>∃xs zs,H l=some (.lst xs)/\(H b=some (.lst zs)\/SqT X.K H b zs)/\xs.length+zs.length<=sizeLine/\Q .non (upd H l (.lst (xs++zs)))) h;rcases e2 with e2|e2
 ·exact U0 pins s σ H _ _ v us Q I rx rs ⟨l,b,ys,zs,rfl,rfl,e,e2,z,q⟩
 ·cases rx;obtain⟨u,rfl,ru⟩:=vk rs;cases ru;obtain⟨hz,aE,n,r,hl,el⟩:=I.lstM e;obtain⟨jM,r2,⟨o2,eb,dD,n2,Dj⟩,_⟩:=I.tuple e2;have mP:=r2.length;refine xZ tP ⟨_,el,rfl⟩ F.entry_list_extend ?_ (F.args_list_extend_2 _ _);refine(show wpAny _ _ (Builtin.List.listExtendWith (.ref l) (.ref b) .none) _ _ s from ?_);unfold Builtin.List.listExtendWith;refine zZ (uW (T:="tuple") ⟨_,eb,dD⟩ ?_);simp only[show(Value.type "tuple"==Value.type "tuple")=true from by decide,Bool.or_true,if_true];refine zZ (sB eb Dj (zZ (sB el rfl ?_)));have hsz:aE.toArray.size+jM.toArray.size<=sizeLine:=by rw[zO,zO];lia
  rw[zC (by rw[ar hsz,uB];exact zF)];refine zZ (uT el rfl ?_ (by rw[zO];lia) (by rw[Array.size_append];lia));refine zZ (zW (zW ⟨_,rfl,?_⟩));refine⟨.non,_,I.lset (its':=aE++jM) e el (by simp) (r.append r2) ?_,rfl,q⟩;rw[zS];lia
end
end
end My
namespace My
open PySem PySem.Spec L2
open PyProof.Rows hiding St
def PairsAt(K:W.Frag)(H:Hp):List V->List (Nat×Bool)->Prop
 |[],[]=>True
 |v::vs,p::ps=>(∃b,v = .ref b/\SqT K H b [.int (p.1:Int),.bl p.2])/\PairsAt K H vs ps
 |_,_=>False
theorem PairsAt.mono{K:W.Frag}{H H':Hp}(t:Tups H H'):∀{vs:List V}{ps:List (Nat×Bool)},PairsAt K H vs ps->PairsAt K H' vs ps
 |[],[],_=>trivial
 |v::vs,p::ps,⟨⟨b,e,h⟩,r⟩=>⟨⟨b,e,t.sqT h⟩,PairsAt.mono t r⟩
 |[],_::_,h=>h.elim
 |_::_,[],h=>h.elim
theorem PairsAt.app{K:W.Frag}{H:Hp}:∀{vs:List V}{ps:List (Nat×Bool)}{DA:List V}{ps':List (Nat×Bool)},PairsAt K H vs ps->PairsAt K H DA ps'->PairsAt K H (vs++DA) (ps++ps')
 |[],[],_,_,_,h=>h
 |v::vs,s::ss,_,_,h,h'=>⟨h.1,PairsAt.app h.2 h'⟩
 |[],_::_,_,_,h,_=>h.elim
 |_::_,[],_,_,h,_=>h.elim
theorem PairsAt.len{K:W.Frag}{H:Hp}:∀{vs:List V}{ps:List (Nat×Bool)},PairsAt K H vs ps->vs.length=ps.length
 |[],[],_=>rfl
 |v::vs,s::ss,h=>by rw[yR,yR,PairsAt.len h.2]
 |[],_::_,h=>h.elim
 |_::_,[],h=>h.elim
theorem PairsAt.at{K:W.Frag}{H:Hp}:∀{vs:List V}{ps:List (Nat×Bool)},PairsAt K H vs ps->∀(i:Nat) v,vs[i]?=some v->∃b p,ps[i]?=some p/\v = .ref b/\SqT K H b [.int (p.1:Int),.bl p.2]
 |[],[],_,i,v,h=>by simp at h
 |v::vs,p::ps,h,0,u,e=>by
  cases e;obtain⟨b,e1,h1⟩:=h.1;exact⟨b,p,rfl,e1,h1⟩
 |v::vs,p::ps,h,i+1,u,e=>by simpa using PairsAt.at h.2 i u (by simpa using e)
 |[],_::_,h,_,_,_=>h.elim
 |_::_,[],h,_,_,_=>h.elim
def agr(k:List Bool)(ps:List (Nat×Bool)):Bool:=ps.all λp=>k.getD p.1 false==p.2
theorem jy{k:List Bool}{ps:List (Nat×Bool)}{i:Nat}{p:Nat×Bool}(h:ps[i]?=some p):agr k (ps.take (i+1))=(agr k (ps.take i)&&(k.getD p.1 false==p.2)):=by
 rw[yV,h];simp[agr]
theorem Jn{k:List Bool}{ps:List (Nat×Bool)}{p:Nat×Bool}(hm:p∈ps)(h:(k.getD p.1 false==p.2)=false):agr k ps=false:=by
 unfold agr;rw[sP];intro z;rw[yD]at z;rw[z p hm]at h;cases h
theorem v7{k:List Bool}{n:Nat}(h:n<k.length):atI (k.map V.bl) (n:Int)=some (.bl (k.getD n false)):=yk (by rw[zQ,zM h];simp[h])
end My
namespace My
open PySem PySem.Spec L2
open PyProof.Rows hiding St
theorem xi{ts:List Say}{ss:List Str}{ks:List (List Bool)}(h:FitRows ts ss ks){k:List Bool}(hk:k∈ks):k.length=ts.length:=by
 obtain⟨n,_,e⟩:=(h.2.1 k).mp hk;rw[e];exact pi _ _
theorem sk{ts:List Say}{ss:List Str}{R:List (Addr×List Bool)}(h:FitRows ts ss (R.map (·.2))):1<=R.length:=by
 have:se ts (y8 ((0:Nat):Int) ss)∈R.map (·.2):=(h.2.1 _).mpr ⟨0,Nat.two_pow_pos _,rfl⟩;have:=sW this;rw[zY]at this;exact this
def col(ks:List (List Bool))(ps:List (Nat×Bool))(j:Nat):List Bool:=(ks.filter λk=>agr k ps).map λk=>k.getD j false
end My
namespace My
open PySem PySem.Spec PySem.W PySem.Calls L2
open AutoSeq1 (wpAny_loadPart')
open PyProof.Rows hiding St
section
variable {X:Cx}{pins:List (Addr×Obj)}{σ:St}{H:Hp}{s:Shared}{h':Heap}
theorem tm{t':Nat}(L:List Addr)(I:Inv X pins σ H s)(hf:∀b∈L,p8 X pins H b)(k:∀b o,b∉L->s.heap.get? b=some o->h'.get? b=some o):Inv X pins σ H { s with heap:=h',toks:=t' }:=by
 have ET:∀b u,H b=some u->b∉L:=λb u e z=>by rw[(hf b z).1]at e;cases e
 refine I.step (g':=s.gens) (d':=s.drawn) (ch:=L) (λb hb=>⟨(hf b hb).2.2.2.1,(hf b hb).2.1,(hf b hb).2.2.2.2.1,(hf b hb).2.2.2.2.2⟩) (λb o _ _ hc e _=>k b o hc e) (λb o _ _ hc e _=>⟨o.slots,k b o hc e⟩) (λ_ _ _ _ n=>n)
  (λb o hc e=>⟨o,k b o hc e⟩) (λ_ _ e=>e) (λ_ _ _ e=>e) (λb ps e=>⟨#[],by rw[e];simp⟩) (λm hm=>?_) (λb u e=>?_) I.bare
 ·obtain⟨o,es,ep,ho,r⟩:=hm;exact⟨o,es,ep,k _ o (λz=>(hf _ z).2.1 rfl) ho,r⟩
 ·refine(I.hok b u e).stay (λc v hc q=>k c v (hc.elim (λz=>by rw[z];exact ET b u e) λz=>ET c _ z) q) (λ_ q=>q) λ_ _ q=>q
end
section
variable {prog:Program}{w:World}{A:Around}{E:Value->Shared->Prop}{s:Shared}
theorem jn{it t:Addr}{i:Nat}{items:Array Value}{x:Value}{Q:Value->Shared->Prop}(gP:s.heap.IsTupleIter it t i)(ht:s.heap.IsTuple t items)(hx:items[i]?=some x)
  (hQ:∀h',h'.IsTupleIter it t (i+1)->Heap.SameBut it s.heap h'->Q x { s with heap:=h' }):wpAny (model prog w) A (Builtin.SmallTypes.nextOf (.ref it)) Q E s:=by
 obtain⟨o,ho,hc,hd⟩:=id gP;obtain⟨ol,pK,_,nl,Aw⟩:=ht;unfold Builtin.SmallTypes.nextOf;refine zZ (xO (name:=Str.ofString "__next__") gP.typeIs vD (xZ vD gP.typeIs F.entry_tuple_iterator_next ?_ (F.args_tuple_iterator_next_1 _)));show wpAny _ _ (field (.ref it) 0 >>= _) _ _ s;refine zZ (wS ho hd (x:=.ref t) rfl ?_);show wpAny _ _ (if(Value.ref t==Value.none)=true then _ else _) _ _ s;rw[zC (show¬((Value.ref t==Value.none)=true)from zF)];show wpAny _ _ (field (.ref it) 1 >>= _) _ _ s;refine zZ (wS ho hd (x:=.int i 0) rfl ?_);show wpAny _ _ (seqItems? (.ref t) >>= _) _ _ s;refine zZ (vZ pK Aw ?_);simp only[yZ,hx];refine zZ (wpAny_setField ho hd (by simp) (zW ⟨x,rfl,zW (hQ _ ⟨_,wR _ ho (Obj.isFreed_of_fields (Obj.data_mapFields hd _)),(Obj.cls_mapFields ..).trans hc,by rw[Obj.data_mapFields hd];simp[rawInt]⟩ (tT ..))⟩))
theorem dv{it t:Addr}{i:Nat}{items:Array Value}{Q:Value->Shared->Prop}(hh:A.handled=none)(gP:s.heap.IsTupleIter it t i)(ht:s.heap.IsTuple t items)(hx:items[i]?=none)
  (hE:∀h' e,Heap.ExtBut it s.heap h'->(∃o,h'.get? e=some o/\o.cls = .type "StopIteration")->E (.ref e) { s with heap:=h' }):wpAny (model prog w) A (Builtin.SmallTypes.nextOf (.ref it)) Q E s:=by
 obtain⟨o,ho,hc,hd⟩:=id gP;obtain⟨ol,pK,_,nl,Aw⟩:=ht;unfold Builtin.SmallTypes.nextOf;refine zZ (xO (name:=Str.ofString "__next__") gP.typeIs vD (xZ vD gP.typeIs F.entry_tuple_iterator_next ?_ (F.args_tuple_iterator_next_1 _)));show wpAny _ _ (field (.ref it) 0 >>= _) _ _ s;refine zZ (wS ho hd (x:=.ref t) rfl ?_);show wpAny _ _ (if(Value.ref t==Value.none)=true then _ else _) _ _ s;rw[zC (show¬((Value.ref t==Value.none)=true)from zF)];show wpAny _ _ (field (.ref it) 1 >>= _) _ _ s;refine zZ (wS ho hd (x:=.int i 0) rfl ?_);show wpAny _ _ (seqItems? (.ref t) >>= _) _ _ s;refine zZ (vZ pK Aw ?_);simp only[yZ,hx];refine zZ (uS (zZ (wpAny_setField ho hd (by simp) ?_)));show wpAny _ _ (newExc (.type "StopIteration") [] >>= _) _ _ _;refine zZ ?_;simp only[newExc,newTuple];refine zZ (xV ?_ (by size_fits));refine zZ (m:=firstArgMember _ _) (wpAny_of_eq (a:=Value.none) (by first|rfl|(simp only[firstArgMember];rfl)) ?_);refine xV ?_ (by size_fits);simp only[raiseNew];refine zZ (wpAny_handled ?_);first|rw[show A.in1.handled=none from hh]|rw[hh]
 refine zZ (zW (wpAny_throw (hE _ _ (((tT ..).extBut.push _).push _) ⟨_,zT _ rfl,rfl⟩)))
end
theorem Uf{h h':Heap}{t it:Addr}{items:Array Value}(x:h.IsTuple t items)(hs:Heap.ExtBut it h h')(bZ:t≠it):h'.IsTuple t items:=let⟨o,ho,r⟩:=x;⟨o,hs t o bZ ho,r⟩
theorem uz{prog:Program}{w:World}{A:Around}(hh:A.handled=none)(it t:Addr)(bZ:t≠it)(items:Array Value):Draws prog w A it [it,t] items.size (λi v=>items[i]?=some v) (λi h=>h.IsTupleIter it t i/\h.IsTuple t items)where
 live:=λ_ _ st=>st.1.elim λo ho=>⟨o,ho.1⟩
 frame:=λ_ _ _ st hk=>⟨st.1.at λo e=>hk it (by simp) o e,st.2.elim λo ho=>⟨o,hk t (by simp) o ho.1,ho.2⟩⟩
 item:=λi s Q E hi st hQ=>jn st.1 st.2 (x:=items[i]) (by simp[hi]) λh' hit' hs'=>hQ _ h' s.toks (by simp[hi]) ⟨hit',Uf st.2 hs'.extBut bZ⟩ hs'
 done:=λs Q E st hE=>dv hh st.1 st.2 (by simp) hE
end My
namespace My
open PySem PySem.Spec PySem.W PySem.Calls L2
open AutoSeq1 (wpAny_loadPart')
open PyProof.Rows hiding St
def mr(t:Addr):Obj:={ cls:=.type "tuple_iterator",data:=.fields #[.ref t,.int 0 0] }
def Xv(it:Addr):Obj:={ cls:=.type "enumerate",data:=.fields #[.none,.bool false,.ref it,rawInt 0,.none,.none] }
theorem Tx(l:Addr)(items:Array Value):Meets (Builtin.«enumerate.__new__» ⟨[.type "enumerate",.ref l],[]⟩) (λ_ R s=>s.heap.IsTuple l items /\
  R (.ok (.ret (.ref (s.heap.push (mr l)).objs.size))) { s with heap:=(s.heap.push (mr l)).push (Xv s.heap.objs.size) }) :=
 .of_wp λprog w A R s h=>by
  obtain⟨hp,g,d,tk,os⟩:=s;obtain⟨hL,h⟩:=h;have kH:=sub_enumerate;obtain⟨o,hl,hc,n,hd⟩:=id hL;replace hL:Heap.IsTuple (Shared.heap ⟨hp,g,d,tk,os⟩) l items:=hL
  wp_walk using xL hl
  refine wpAny_stack_any λst=>zW ?_;split
  ·rename_i c _ _ _ _ _;cases(c==Value.type "enumerate")
   ·wp_walk using xL hl,wH hL;exact⟨_,rfl,h⟩
   ·wp_walk using xL hl,wH hL;exact⟨_,rfl,h⟩
  ·wp_walk using xL hl,wH hL;exact⟨_,rfl,h⟩
section
variable {prog:Program}{w:World}{A:Around}{E:Value->Shared->Prop}{s:Shared}
theorem Xt{l:Addr}{items:Array Value}{Q:Value->Shared->Prop}(hL:s.heap.IsTuple l items)
  (h:∀h',IsEnum h' (s.heap.objs.size+1) s.heap.objs.size 0 .none->h'.IsTupleIter s.heap.objs.size l 0->(∀b o,s.heap.get? b=some o->h'.get? b=some o)->Q (.ref (s.heap.objs.size+1)) { s with heap:=h' }) :
  wpAny (model prog w) A (call (.type "enumerate") [.ref l]) Q E s:=by
 refine callType_new F.called_enumerate (by decide) (F.typeCall_enumerate_1 _) (F.newCall_enumerate_1 _) (λobj=>F.args_object_init_2 obj _) F.entry_enumerate_new (Tx l items) ⟨hL,?_⟩;have hz:(s.heap.push (mr l)).objs.size=s.heap.objs.size+1:=xT ..;show _/\_;rw[hz];have he:IsEnum ((s.heap.push (mr l)).push (Xv s.heap.objs.size)) (s.heap.objs.size+1) s.heap.objs.size 0 .none:=by
  have:=zT (s.heap.push (mr l)) (o:=Xv s.heap.objs.size) rfl;rw[hz]at this;exact this
 exact⟨⟨_,he,rfl⟩,h _ he ⟨_,zX _ (zT _ rfl),rfl,rfl⟩ λb o x=>zX _ (zX _ x)⟩
end
theorem j6{h:Heap}{a e it:Addr}{items:Array Value}{i:Int}{j:Nat}{old:Value}(ha:h.IsTuple a items)(he:IsEnum h e it i old)(hi:h.IsTupleIter it a j):∀b∈[e,it],a≠b:=λb hb z=>by
 obtain⟨o,e1,c1,_⟩:=ha;subst z;rcases zL.mp hb with z|z
 ·have he':h.get? e=some _:=he;rw[<-z,e1]at he';have:=yY he';rw[this]at c1;simp at c1
 ·have z:=zN.mp z;obtain⟨o2,e2,c2,_⟩:=hi;rw[<-z,e1]at e2;cases e2;rw[c1]at c2;simp at c2
def Ite(K:W.Frag)(a:Addr):It :=
 ⟨λi H=>∃xs x,SqT K H a xs/\xs[i]?=some x,λi H v H'=>∃p x,v = .ref p/\H p=none/\H'=upd H p (.tup [.int (i:Int),x])/\∀xs,SqT K H a xs->xs[i]?=some x,λi H=>∃xs,SqT K H a xs/\xs.length=i⟩
theorem Zk{P:Program}{w:World}{K:W.Frag}{kP:List Expr}{k:Nat}{pos:Pos}(a e it:Addr)(hei:e≠it):Zu P w K (.Tuple kP k pos) (Ite K a) [e,it] e (λi h=>(∃old,IsEnum h e it ((i:Nat):Int) old)/\h.IsTupleIter it a i)where
 mem:=by simp
 obj:=λi h st b hb=>by
  obtain⟨⟨old,he⟩,hi⟩:=st;rcases zL.mp hb with rfl|hb
  ·exact⟨_,he,λv z=>by cases(show Data.fields _=Data.cell v from z)⟩
  ·rw[zN.mp hb];obtain⟨o,e1,c,d⟩:=hi;exact⟨o,e1,λv z=>by rw[d]at z;cases z⟩
 keep:=λi h h' st kk=>⟨st.1.imp λold he=>kk e (by simp) _ he,st.2.at λo e1=>kk it (by simp) o e1⟩
 item:=by
  intro X hP hw hK hc i pins s σ H E I hf st hg;subst hP hw hK;obtain⟨xs,x,hq,hx⟩:=hg;obtain⟨aE,rv,p,hz⟩:=I.tuple hq;obtain⟨u,hu,ru⟩:=rv.get hx;obtain⟨⟨old,he⟩,hi⟩:=st;have gP:s.heap.IsTuple a aE.toArray:=p;have hilt:i<aE.toArray.size:=by
   have:=(zV.mp hu).1;simpa using this
  have hae:∀b∈[e,it],a≠b:=j6 gP he hi;refine wpAny_pyNext_enum_itemD (uz (A:=X.A.in1) (I.ok.hd hc) it a (hae it (by simp)) aE.toArray) he ⟨hi,gP⟩ hilt hei (λz=>by
   rcases zL.mp z with z|z
   ·exact hei z
   ·exact hae e (by simp) (zN.mp z).symm) λy h1 tk hy ho hs1 hT hsz hk=>?_
  have ey:y=u:=by
   have h1:aE.toArray[i]?=some y:=hy;have h2:aE.toArray[i]?=some u:=by simpa using hu
   rw[h2]at h1;exact(yY h1).symm
  subst ey;refine⟨_,rfl,wpAny_letOwnedTupleGo_enum (s:={ s with heap:=h1,toks:=tk+1 }) ho λh2 qW iN=>?_⟩;have gJ:e<s.heap.objs.size:=zR he;have fr:H s.heap.objs.size=none:=I.hok.fresh (zU _);have I1:Inv X pins σ (upd H s.heap.objs.size (.tup [.int (i:Int),x])) { s with heap:=s.heap.push { cls:=.type "tuple",data:=.seq #[.int i tk,y] },toks:=tk } :=
   I.laid (λb o e1=>zX _ e1) (zU _) ⟨by simp only[yR,xA];rw[zP];decide,[.int i tk,y],.cons ⟨_,rfl⟩ (.cons ru .nil),⟨_,zT _ rfl,rfl,_,rfl⟩⟩
  have lt2:∀b∈[e,it],b<s.heap.objs.size:=λb hb=>by
   rcases zL.mp hb with rfl|hb
   ·exact gJ
   ·rw[zN.mp hb];obtain⟨o,e1,_⟩:=hi;exact zR e1
  have Ca:∀b∈[e,it],p8 X pins (upd H s.heap.objs.size (.tup [.int (i:Int),x])) b:=λb hb=>⟨by rw[zk (zG (lt2 b hb))];exact(hf b hb).1,(hf b hb).2⟩
  have I2:Inv X pins σ (upd H s.heap.objs.size (.tup [.int (i:Int),x])) { s with heap:=h2,toks:=tk+1 }:=tm (s:={ s with heap:=s.heap.push { cls:=.type "tuple",data:=.seq #[.int i tk,y] },toks:=tk }) [e,it] I1 Ca λb o hb e1=>by
   have AV:b≠e:=λz=>hb (by simp[z]);have hbi:b≠it:=λz=>hb (by simp[z]);refine(iN.2 b AV).trans ?_;rcases Heap.get?_push_cases e1 with⟨rfl,rfl⟩|e1
   ·exact hT
   ·exact hk b o AV hbi e1
  exact⟨.ref s.heap.objs.size,upd H s.heap.objs.size (.tup [.int (i:Int),x]),I2,rfl,⟨_,x,rfl,fr,rfl,λys Ak=>by rw[I.tuple_inj Ak hq];exact hx⟩,⟨⟨_,by simpa using qW⟩,hs1.1.at λo e1=>(iN.2 it (wU hei)).trans e1⟩,λb hb=>(Ca b hb).1⟩
 done:=by
  intro X hP hw hK hc i pins s σ H E I hf st hg;subst hP hw hK;obtain⟨xs,hq,hx⟩:=hg;obtain⟨aE,rv,p,hz⟩:=I.tuple hq;obtain⟨⟨old,he⟩,hi⟩:=st;have gP:s.heap.IsTuple a aE.toArray:=p;have hae:∀b∈[e,it],a≠b:=j6 gP he hi;have hl:aE.toArray.size=i:=by rw[zO,<-rv.length];exact hx
  refine wpAny_pyNext_enum_endD (uz (A:=X.A.in1) (I.ok.hd hc) it a (hae it (by simp)) aE.toArray) he ⟨by rw[hl];exact hi,gP⟩ λh1 eb=>⟨rfl,tm (t':=s.toks) [e,it] I hf λb o hb e1=>eb b o (λz=>hb (by simp[z])) e1⟩
 self:=λ_ _ _ _ _ st h=>by
  obtain⟨⟨old,he⟩,_⟩:=st;exact wpAny_pyIter_enum he h
end My
namespace My
open PySem PySem.Spec PySem.W PySem.Calls L2
open PyProof.Rows hiding St
section
section
variable {X:Cx}
theorem M8:bootBuiltins "enumerate"=some (.type "enumerate"):=by decide +kernel
def iEn(K:W.Frag)(ta:TA):TI:=fun σ H R=>ta σ H (on1 (ia λa H1=>(∃xs,SqT K H1 a xs)/\R (Ite K a) H1))
theorem Ya{kP:List Expr}{kk:Nat}{pt:Pos}{a:Expr}{ta:TA}{p pos:Pos}(hg:Gl X "enumerate")(hm:X.mg "enumerate"=none)(ha:PA X [a] ta)(hs:starEach [a] X.env=[(false,eval a X.env)]:=by rfl):
  PI X (.Tuple kP kk pt) (.Call (.Name "enumerate" p) [a] [] pos) (iEn X.K ta):=by
 intro pins s σ H R I h;refine Call_ (ww I hg hm M8 (xY (thn (ha pos pins s σ H _ I h) λus s1 ⟨vs,H1,I1,r1,q1⟩=>?_) hs rfl));rcases vs with _|⟨x,_|⟨y,rr⟩⟩
 ·exact(show False from q1).elim
 ·cases x with
  |ref b =>
   obtain⟨⟨xs,hq⟩,q⟩:=(show(∃xs,SqT X.K H1 b xs)/\R (Ite X.K b) H1 from q1)
   cases r1 with
   |cons r rr =>
    cases rr;cases r;obtain⟨aE,rv,p1,hz⟩:=I1.tuple hq;refine Xt (show s1.heap.IsTuple b aE.toArray from p1) λh' he hi hk=>?_;refine wpAny_pyIter_enum (s:={ s1 with heap:=h' }) he ?_;have I2:Inv X pins σ H1 { s1 with heap:=h' }:=I1.kept (t':=s1.toks) hk;refine⟨_,[s1.heap.objs.size+1,s1.heap.objs.size],_,_,H1,rfl,I2,Zk b _ _ (Nat.succ_ne_self _),⟨⟨_,he⟩,hi⟩,λc hc=>?_,q⟩;have nZ:s1.heap.objs.size<=c:=by
     rcases zL.mp hc with rfl|hc
     ·exact wB _
     ·rw[zN.mp hc];exact zU _
    exact I1.fpOk nZ (I1.hok.fresh nZ)
  |_=>exact(show False from q1).elim
 ·exact(show False from q1).elim
end
theorem fw{K:W.Frag}{a:Addr}{xs:List V}{tt:TT}{te:TE}{ρ:St}{Q:VK}{H1:Hp}(Pv:Addr->Nat->List V->Hp->Prop)(hsz:xs.length<=sizeLine)
  (h0:∀D H2,H1 D=none->Same H1 H2->H2 D=some (.lst [])->Pv D 0 [] H2)
  (hl:∀D i ys H,Pv D i ys H->SqT K H a xs/\H D=some (.lst ys)/\ys.length<=i)
  (hs:∀D (i:Nat) v ys H H',xs[i]?=some v->Pv D i ys H->Same H H'->oh tt te (some (.int (i:Int))::some v :: ρ) D xs.length i ys (Pv D (i+1)) H')
  (hd:∀D ys H,Pv D xs.length ys H->Q (.ref D) H):uw 2 (mG2 K 0 1) tt te ρ (Ite K a) Q H1 :=
 uy Pv hsz h0 (λD i ys H _ p=>(hl D i ys H p).2) (λD i ys H hi p=>⟨xs,xs[i],(hl D i ys H p).1,by simp[hi]⟩) (λD ys H p=>⟨xs,(hl D _ ys H p).1,rfl⟩) (λD i v ys H H' τ hi hτ p y=>by
  obtain⟨t,u,rfl⟩:=Zm hτ;obtain⟨b,x,rfl,hn,rfl,hx⟩:=y;refine⟨b,_,_,rfl,SqT.of zx,⟨[some (.int (i:Int)),some x],rfl,rfl⟩,?_⟩;exact hs D i x ys H _ (hx xs (hl D i ys _ p).1) p (w8 hn _)) hd
end
end My
namespace My
open PySem PySem.Spec L2
open PyProof.Rows hiding St
structure JudgesAt(K:W.Frag)(H:Hp)(a:Addr)(J:List (Addr×List Bool))(m:Nat):Prop where
 sq:SqT K H a (J.map λr=>V.ref r.1)
 row:∀r∈J,SqT K H r.1 (r.2.map V.bl)
 len:∀r∈J,r.2.length=m
 lo:1<=J.length
 hi:J.length<=100
theorem JudgesAt.mono{K:W.Frag}{H H':Hp}{a:Addr}{J:List (Addr×List Bool)}{m:Nat}(t:Tups H H')(h:JudgesAt K H a J m):JudgesAt K H' a J m:=⟨t.sqT h.sq,λr hr=>t.sqT (h.row r hr),h.len,h.lo,h.hi⟩
def yb(ks:List (List Bool))(j:Nat)(t:Bool)(i:Nat):List Nat:=(List.range i).filter λn=>(ks.getD n []).getD j false==t
theorem w9(ks:List (List Bool))(j:Nat)(t:Bool)(i:Nat):yb ks j t (i+1)=yb ks j t i++if((ks.getD i []).getD j false==t)=true then[i]else[]:=by
 unfold yb;rw[vI,vT,wC,tH]
theorem rg(ks:List (List Bool))(j:Nat)(t:Bool)(i:Nat):(yb ks j t i).length<=i:=yS (xF _ _) (by rw[xS];exact zU _)
def vm(ks:List (List Bool))(j:Nat):List (List Bool):=ks.filter λk=>k.getD j false
theorem l9(ks:List (List Bool))(j:Nat):∀i,i<=ks.length->(yb ks j true i).length=(vm (ks.take i) j).length
 |0,_=>by simp[yb,vm]
 |i+1,h=>by
  have hi:i<ks.length:=h;rw[w9,zS,l9 ks j i (by lia)];have e:ks[i]?=some ks[i]:=zM hi;have e2:ks.getD i []=ks[i]:=by simp[hi]
  unfold vm;rw[yV,e,e2,vT,zS,Option.toList_some,wC,tH];cases(ks[i]).getD j false<;>rfl
theorem lz(ks:List (List Bool))(j:Nat):(yb ks j true ks.length).length=(vm ks j).length:=by
 have:=l9 ks j ks.length (zU _)
 rwa [yX]at this
def yj(ks:List (List Bool))(j:Nat):Bool:=decide ((ks.length:Int)<2*((vm ks j).length:Int))
def xb(ks:List (List Bool))(m:Nat):List Bool:=(List.range m).map (yj ks)
theorem xj(ks:List (List Bool))(m:Nat):(xb ks m).length=m:=by simp[xb]
theorem qk(ks:List (List Bool))(m:Nat):xb ks (m+1)=xb ks m++[yj ks m]:=by simp[xb,vI]
theorem uv{ks:List (List Bool)}{j i:Nat}{k:List Bool}(h:ks[i]?=some k):vm (ks.take (i+1)) j=vm (ks.take i) j++if k.getD j false=true then[k]else[]:=by
 unfold vm;rw[yV,h,vT,Option.toList_some,wC,tH]
theorem je(ks:List (List Bool))(j i:Nat):(vm (ks.take i) j).length<=i:=yS (xF _ _) (by rw[yU];exact Nat.min_le_left _ _)
end My
namespace My
open PySem PySem.Spec PySem.W PySem.Calls L2
open AutoSeq1 (wpAny_loadPart')
open PyProof.Rows hiding St
theorem li:fillsNumberSlot (.type "tuple") "mul"=pure false:=PySem.fillsNumberSlot_seq (id:="tuple.__mul__") (r:=some (.builtin "tuple.__rmul__")) F.slot_tuple_mul.lookup (by decide +kernel) F.slot_tuple_rmul.lookup (by decide +kernel)
theorem Y2:seqRepeat? (.type "tuple")=pure (some (.builtin "tuple.__mul__")):=by
 unfold seqRepeat?;rw[PySem.seqSlot_of (T:="tuple") (name:="__mul__") (id:="tuple.__mul__") F.slot_tuple_mul.lookup (by decide +kernel),PySem.seqSlot_of (T:="tuple") (name:="__rmul__") (id:="tuple.__rmul__") F.slot_tuple_rmul.lookup (by decide +kernel)];rfl
theorem d7(a:Int)(t:Tok)(l:Addr)(items:Array Value)(n:Nat)(Bx:Option Addr)(sl:Array (Option Value)):Meets (Builtin.«int.__rmul__» ⟨[.int a t,.ref l],[]⟩) (λ_ R s=>s.heap.get? l=some { cls:=.type "tuple",dict:=Bx,data:=.seq items n,slots:=sl }/\R (.ok (.ret Value.notImplemented)) s) :=
 .of_wp λprog w A R s h=>by obtain⟨hp,g,d,tk,os⟩:=s;obtain⟨hl,h⟩:=h;wp_walk;exact⟨_,rfl,h⟩
theorem du(l:Addr)(items:Array Value)(n:Nat)(Bx:Option Addr)(sl:Array (Option Value))(x:Int)(u:Tok)(h1:-(2 ^ 63)<=x)(h2:x<2 ^ 63)(hc:(items.isEmpty||x==1)=true):Meets (Builtin.«tuple.__mul__» ⟨[.ref l,.int x u],[]⟩) (λ_ R s=>s.heap.get? l=some { cls:=.type "tuple",dict:=Bx,data:=.seq items n,slots:=sl }/\R (.ok (.ret (.ref l))) s) :=
 .of_wp λprog w A R s h=>by
  obtain⟨hp,g,d,tk,os⟩:=s;obtain⟨hl,h⟩:=h;have f2:=AutoSeq1.sub_tuple_tuple;have hb:¬(decide (x < -(2 ^ 63))||decide (x≥2 ^ 63))=true:=by simp;lia
  wp_walk using xL hl
  rw[zC hb]
  wp_walk using xL hl
  exact⟨_,rfl,h⟩
theorem am(l:Addr)(items:Array Value)(n:Nat)(Bx:Option Addr)(sl:Array (Option Value))(x:Int)(u:Tok)(h1:2<=x)(h2:x<2 ^ 60)(h0:¬(items.isEmpty||x==1)=true)(hsz:items.size*x.toNat<=1000)(hz:(List.foldl (λx1 x2=>x1++x2) #[] (List.replicate x.toNat items)).size<=sizeLine):Meets (Builtin.«tuple.__mul__» ⟨[.ref l,.int x u],[]⟩) (λ_ R s=>s.heap.get? l=some { cls:=.type "tuple",dict:=Bx,data:=.seq items n,slots:=sl }/\R (.ok (.ret (.ref s.heap.objs.size))) { s with heap:=s.heap.push { cls:=.type "tuple",data:=.seq (List.foldl (λx1 x2=>x1++x2) #[] (List.replicate x.toNat items)) } }) :=
 .of_wp λprog w A R s h=>by
  obtain⟨hp,g,d,tk,os⟩:=s;obtain⟨hl,h⟩:=h;have f2:=AutoSeq1.sub_tuple_tuple;have hb:¬(decide (x < -(2 ^ 63))||decide (x≥2 ^ 63))=true:=by simp;lia
  wp_walk using xL hl
  rw[zC hb]
  wp_walk using xL hl
  have kN:¬(decide (x<=0)||items.isEmpty)=true:=by
   rw[Bool.or_eq_true,decide_eq_true_eq];rintro(z|z)
   ·lia
   ·exact h0 (by rw[z];rfl)
  have hsz':(items.size:Int)*x<=1000:=by
   have e:x=((x.toNat:Nat):Int):=by lia
   rw[e]
   exact_mod_cast hsz
  rw[zC kN];dsimp only;rw[zC (show¬(items.size:Int)*x>(2 ^ 63-1) / 8 by lia)];have GL:¬Builtin.Tuple.tupleTooMany ((items.size:Int)*x)=true:=by
   unfold Builtin.Tuple.tupleTooMany;rw[zP,decide_eq_true_eq];lia
  rw[zC GL]
  wp_walk using xL hl
  exact⟨_,rfl,h⟩
section
variable {X:Cx}
def Mo(K:W.Frag):R2:=λx y H Q=>match x,y with
 | .ref a,.int k=>∃xs,SqT K H a xs/\1<=k/\k<2 ^ 60/\xs.length*k.toNat<=1000/\∀(p:Addr)(H':Hp),Same H H'->SqT K H' p (List.replicate k.toNat xs).flatten->Q (.ref p) H'
 |_,_=>False
theorem Lv{K:W.Frag}{a:Addr}{k:Int}{H:Hp}{Q:VK}:Mo K (.ref a) (.int k) H Q=∃xs,SqT K H a xs/\1<=k/\k<2 ^ 60/\xs.length*k.toNat<=1000/\∀(p:Addr)(H':Hp),Same H H'->SqT K H' p (List.replicate k.toNat xs).flatten->Q (.ref p) H':=rfl
theorem Gd{C:Addr->Int->Prop}{x y:V}(h:match x,y with|.ref r,.int p=>C r p|_,_=>False):∃r p,x = .ref r/\y = .int p/\C r p:=by
 cases x with
 |ref r =>
  cases y with
  |int p=>exact⟨r,p,rfl,rfl,h⟩
  |_=>exact(show False from h).elim
 |_=>exact(show False from by cases y<;>exact h).elim
theorem Kg:OpR X (binaryOp .Mult) (Mo X.K):=by
 intro pins s σ H x y v u Q I rx ry h;obtain⟨a,k,rfl,rfl,xs,hq,h1,h2,hsz,q⟩:=Gd (C:=λa k=>∃xs,SqT X.K H a xs/\1<=k/\k<2 ^ 60/\xs.length*k.toNat<=1000/\∀(p:Addr)(H':Hp),Same H H'->SqT X.K H' p (List.replicate k.toNat xs).flatten->Q (.ref p) H') h;cases rx;obtain⟨t,rfl⟩:=ry;obtain⟨aE,r,p1,hz⟩:=I.tuple hq;have hl:=r.length;obtain⟨⟨cls,Bx,dt,sl⟩,e,hc,n,hd⟩:=(show s.heap.IsTuple a aE.toArray from p1)
 replace hc:cls = .type "tuple":=hc;replace hd:dt = .seq aE.toArray n:=hd;subst hc hd;refine wpAny_binaryOp_repeat_ref (T:="tuple") (U:="int") (by decide) ⟨_,e,rfl⟩ (λs'=>typeIs_int s' k t) li F.fills_int_mul F.slot_int_rmul Y2 F.slot_int_index.lookup
  (tE F.slot_int_rmul (typeIs_int s k t) F.entry_int_rmul (F.args_int_rmul_2 _ _) (d7 k t a aE.toArray n Bx sl) ⟨e,rfl,⟨_,e,rfl⟩,?_⟩)
 have f0:List.foldl (λx1 x2=>x1++x2) #[] (List.replicate k.toNat aE.toArray)=(List.replicate k.toNat aE).flatten.toArray:=by
  have:=f7 aE k.toNat [];rw[List.nil_append]at this;exact this
 have aL:(List.replicate k.toNat aE).flatten.length=k.toNat*aE.length:=Wm _ _
 by_cases hc:(aE.toArray.isEmpty||k==1)=true
 ·refine tE F.slot_tuple_mul ⟨_,e,rfl⟩ F.entry_tuple_mul (F.args_tuple_mul_2 _ _) (du a aE.toArray n Bx sl k t (by lia) (by lia) hc) ⟨e,?_⟩;refine⟨.ref a,H,I,rfl,q a H (Same.refl _) ?_⟩;rw[Bool.or_eq_true]at hc;rcases hc with hc|hc
  ·have:aE=[]:=by simpa using hc
   have hx:xs=[]:=wP.mp (by rw[hl,this];rfl);have e0:(List.replicate k.toNat xs).flatten=xs:=by rw[hx];simp
   rw[e0];exact hq
  ·have:k=1:=by simpa using hc
   subst this;have e0:(List.replicate (1:Int).toNat xs).flatten=xs:=by simp
   rw[e0];exact hq
 ·have h2k:2<=k:=by
   have:¬k=1:=λz=>hc (by rw[z];simp);lia
  refine tE F.slot_tuple_mul ⟨_,e,rfl⟩ F.entry_tuple_mul (F.args_tuple_mul_2 _ _) (am a aE.toArray n Bx sl k t h2k h2 hc (by rw[zO,<-hl];exact hsz) (by rw[f0,zO,aL,zP,<-hl,Nat.mul_comm];lia)) ⟨e,?_⟩;rw[f0];have hf:H s.heap.objs.size=none:=I.hok.fresh (zU _);refine⟨.ref s.heap.objs.size,upd H s.heap.objs.size (.tup (List.replicate k.toNat xs).flatten),I.laid (t':=s.toks) (λb u e=>zX _ e) (zU _) ?_,rfl,q _ _ (w8 hf _) (SqT.of zx)⟩;exact⟨by rw[Wm,zP,Nat.mul_comm];lia,_,r.rep k.toNat,⟨_,zT _ rfl,rfl,_,rfl⟩⟩
end
end My
namespace My
open PySem PySem.Spec L2
open PyProof.Rows hiding St
section
variable {X:Cx}
def G6(K:W.Frag):List V->Hp->VK->Prop:=λxs H Q=>match xs with
 |[.ref p]=>∃ns:List Int,SqL K H p (ns.map V.int)/\Q (.int ns.sum) H
 |_=>False
theorem Ix{K:W.Frag}{H:Hp}{Q:VK}{p:Addr}:G6 K [.ref p] H Q=(∃ns:List Int,SqL K H p (ns.map V.int)/\Q (.int ns.sum) H):=rfl
theorem Y0{ns:List Int}{aE:List Value}{xs:Array (Int×Tok)}(hi:IntsAre aE ns)(hx:aE.toArray=intItems xs):preSum (numAt xs) xs.size=ns.sum:=by
 have h1:numsOf aE.toArray.toList=ns:=hi.numsOf;rw[hx,nums_intItems]at h1;have h2:=preSum_eq xs xs.size;rw[h1]at h2;rw[h2]
 congr 1
 rw[<-h1];exact vG (vN (by simp))
theorem Hl(hc:X.calm=true):wo X (.builtin "sum") (G6 X.K):=by
 intro pins s σ H xs us Q I r h
 match xs,h with
 |[.ref p],h =>
  obtain⟨ns,hq,q⟩:=(show∃ns:List Int,SqL X.K H p (ns.map V.int)/\Q (.int ns.sum) H from h)
  obtain⟨u,rfl,rx⟩:=vk r;cases rx;obtain⟨aE,rv,pl,hz⟩:=I.list hq;have hi:=qy rv;obtain⟨ys,hy⟩:=hi.allInts.items;have hl:s.heap.IsList p (intItems ys):=hy▸pl.isList;refine sum_intListG (I.ok.hd hc) hl λh' tk t' hk=>?_;rw[Y0 hi hy];exact⟨.int ns.sum,H,I.kept hk,⟨t',rfl⟩,q⟩
theorem Jt:bootBuiltins "sum"=some (.builtin "sum"):=by decide +kernel
end
structure Fn(K:W.Frag)(x:Str)(st:Stmt)(f:Addr)(fd:FuncData):Prop where
 ex:∃(oc:Value)(od:Option Addr)(dV kV doc pm:Value)(an:Option Addr)(cdv ct:Value)(osl:Array (Option Value)),
  fd=W.fnOf x x (yx st) (zi st) (zr st) dV kV doc pm an cdv ct/\K.lookup f=some ⟨oc,od,.func fd,osl⟩/\W.codeIn K cdv x=true
 kp:W.keepIn K (.ref f)=true
structure DefD(K:W.Frag)(mg:Str->Option Value)(x:Str)(st:Stmt)(ps:List Str)(ds:List Value):Prop where
 ex:∃(f:Addr)(fd:FuncData),Fn K x st f fd/\Binds K fd ps []/\Binds K fd ps ds/\mg x=some (.ref f)
structure CalleeD(P:Program)(w:World)(K:W.Frag)(mg:Str->Option Value)(base:Heap)(k:Nat)(x:Str)(ps:List Str)(ds:List Value)(sp:Sp):Prop where
 ex:∃(f:Addr)(fd:FuncData),FnOk P w K mg base CX0 k f fd ps sp/\Binds K fd ps []/\Binds K fd ps ds/\W.keepIn K (.ref f)=true/\mg x=some (.ref f)
section
variable {P:Program}{w:World}{K:W.Frag}{mg:Str->Option Value}{base:Heap}
theorem CalleeD.full{k:Nat}{x:Str}{ps:List Str}{ds:List Value}{sp:Sp}(C:CalleeD P w K mg base k x ps ds sp):zz P w K mg base k x ps sp:=by
 obtain⟨f,fd,F,b,_,kp,hm⟩:=C.ex;exact⟨f,fd,F,b,kp,hm⟩
theorem DefD.callee{x:Str}{st:Stmt}{N ps:List Str}{ds:List Value}{k:Nat}{sp:Sp}(F:DefD K mg x st ps ds)(S:v4 N ps (zr st))(len:∀vs H Q E,sp vs H Q E->vs.length=ps.length)
  (cM:∀(f:Addr)(cdv:Value)(A:Around)(outer:List Env)(s:Shared)(H:Hp)(vs:List V)(Q:VK)(E:XK),Room k (A.deeper (envOfC x (zr st) s.heap.objs.size f cdv))->N.Nodup->sp vs H Q E ->
   ∃σ t,vg N vs=σ/\PSs (pb CX0 P w K mg base N x (zr st) f cdv A outer s H E).nox (zi st) t/\t { nx:=λ_ H'=>Q .non H',rt:=Q } σ H):CalleeD P w K mg base (k+1) x ps ds sp:=by
 obtain⟨f,fd,F,b0,b1,hm⟩:=F.ex;obtain⟨oc,od,dV,kV,doc,pm,an,cdv,ct,osl,rfl,lk,lY⟩:=F.ex;refine⟨f,_,Wc lk lY S len λA outer s H vs Q E hr qH=>?_,b0,b1,F.kp,hm⟩;obtain⟨σ,t,e,ht,q⟩:=cM f cdv A outer s H vs Q E hr S.nd qH;exact⟨t,ht.nox,by rw[e];exact q⟩
theorem Wa{h:Heap}{x:Str}{st:Stmt}{ps:List Str}{ds:List Value}{f:Addr}{oc dV:Value}{od an:Option Addr}{osl:Array (Option Value)}{kV doc pm cdv ct:Value}(X:K.In h)(G:h.Ns mainGlobals mg)
  (a:W.nsIn K mainGlobals x=some (some (.ref f))) (l:K.lookup f=some ⟨oc,od,.func (W.fnOf x x (yx st) (zi st) (zr st) dV kV doc pm an cdv ct),osl⟩)
  (c:W.codeIn K cdv x=true) (k:W.keepIn K (.ref f)=true)
  (b0:Binds K (W.fnOf x x (yx st) (zi st) (zr st) dV kV doc pm an cdv ct) ps []) (b1:Binds K (W.fnOf x x (yx st) (zi st) (zr st) dV kV doc pm an cdv ct) ps ds):DefD K mg x st ps ds :=
 ⟨f,_,⟨⟨oc,od,dV,kV,doc,pm,an,cdv,ct,osl,rfl,l,c⟩,k⟩,b0,b1,uU X G a⟩
theorem sj{fd:FuncData}{ps:List Str}{ds:List Value}{T:Addr}{o:Obj}{items:Array Value}{n:Nat}(t:K.lookup T=some o)(hs:o.data = .seq items n)(hd:fd.defaults = .ref T)
  (h1:∀us:List Value,(us++ds).length=ps.length->∃k:Option (Array Value)->Sem (List (Str×Value)),bindArgs fd ⟨us,[]⟩=seqItems? fd.defaults >>= k/\k (some items)=pure (ps.zip (us++ds))):Binds K fd ps ds:=λs us KX hl=>by
 obtain⟨k,e1,e2⟩:=h1 us hl;exact BindsTo.of_defaults hd (KX _ _ t) hs e1 e2
end
section
variable {X:Cx}
end
theorem k7{J:It}{n:Nat}{g:TG}{tb:TS}{D:tp}{σ:St}{H:Hp}(Pv:Nat->St->Hp->Prop)(h0:Pv 0 σ H)
  (hgo:∀i σ H,i<n->Pv i σ H->J.go i H) (iD:∀σ H,Pv n σ H->J.stop n H)
  (hs:∀i v σ H H',i<n->Pv i σ H->J.yld i H v H'->g v σ H' fun σ2 H2=>tb { D with nx:=Pv (i+1),ct:=Pv (i+1),bk:=D.nx } σ2 H2) (hd:∀σ H,Pv n σ H->D.nx σ H):Zs g tb J D σ H:=by
 refine⟨λi m σ H=>m=n-i/\i<=n/\Pv i σ H,⟨n,by simp,yQ _,h0⟩,?_⟩;rintro i m σ H ⟨rfl,hi,p⟩
 by_cases aO:i<n
 ·exact .inr ⟨hgo i σ H aO p,Pv (i+1),fun σ' H' p'=>⟨n-(i+1),by lia,rfl,aO,p'⟩,λx H' y=>hs i x σ H H' aO p y⟩
 ·have e:i=n:=by lia
  subst e;exact .inl ⟨iD σ H p,hd σ H p⟩
theorem X7{K:W.Frag}{a:Addr}{xs:List V}{j k:Nat}{tb:TS}{D:tp}{σ:St}{H:Hp}(Pv:Nat->St->Hp->Prop)(h0:Pv 0 σ H)(hl:∀i σ H,i<=xs.length->Pv i σ H->SqT K H a xs)
  (hs:∀(i:Nat) x σ H H',xs[i]?=some x->Pv i σ H->Same H H'->tb { D with nx:=Pv (i+1),ct:=Pv (i+1),bk:=D.nx } (sv (sv σ j (.int (i:Int))) k x) H') (hd:∀σ H,Pv xs.length σ H->D.nx σ H) :
  Zs (mG2 K j k) tb (Ite K a) D σ H :=
 k7 (n:=xs.length) Pv h0 (λi σ H hi p=>⟨xs,xs[i],hl i σ H (yC hi) p,by simp[hi]⟩) (fun σ H p=>⟨xs,hl _ σ H (zU _) p,rfl⟩) (λi v σ H H' hi p y=>by
  obtain⟨b,x,rfl,hn,rfl,hx⟩:=y;exact⟨b,_,_,rfl,SqT.of zx,hs i x σ H _ (hx xs (hl i σ H (yC hi) p)) p (w8 hn _)⟩) hd
end My
namespace My
open PySem PySem.Spec PySem.W PySem.Calls L2
open PyProof.Rows hiding St
section
theorem yr{h:Heap}{a b:Addr}{oa ob:Obj}(ha:h.get? a=some oa)(hb:h.get? b=some ob)(hc:oa.cls≠ob.cls):a≠b:=λz=>by
 subst z;rw[ha]at hb;cases hb;exact hc rfl
def ZipSt(z tI tO i1 i2 l1 l2:Addr)(i:Nat)(h:Heap):Prop:=IsZip h z tI tO .none/\IsPair h tI (.ref i1) (.ref i2)/\(∃u v,IsPair h tO u v)/\h.IsListIter i1 l1 i/\h.IsListIter i2 l2 i
theorem jf{h:Heap}{z tI tO i1 i2 l1 l2:Addr}{i:Nat}{xs ys:Array Value}(t:tI≠tO)(ii:i1≠i2)(st:ZipSt z tI tO i1 i2 l1 l2 i h)(h1:h.IsList l1 xs)(h2:h.IsList l2 ys):ZipApart z tI tO i1 i2 l1 l2:=by
 obtain⟨hz,hI,⟨u,v,hO⟩,⟨oa,ea,ca,_⟩,⟨ob,eb,cb,_⟩⟩:=st;obtain⟨o1,e1,c1,_⟩:=h1;obtain⟨o2,e2,c2,_⟩:=h2;have mE:h.get? z=some _:=hz;have Dl:h.get? tI=some _:=hI;have A0:h.get? tO=some _:=hO;exact⟨yr Dl mE (by simp),yr A0 mE (by simp),yr ea mE (by rw[ca];simp),yr eb mE (by rw[cb];simp),t,yr Dl ea (by rw[ca];simp),yr Dl eb (by rw[cb];simp),yr A0 ea (by rw[ca];simp),yr A0 eb (by rw[cb];simp),ii,
  yr e1 mE (by rw[c1];simp),yr e1 A0 (by rw[c1];simp),yr e1 ea (by rw[c1,ca];simp),yr e1 eb (by rw[c1,cb];simp),yr e2 mE (by rw[c2];simp),yr e2 A0 (by rw[c2];simp),yr e2 ea (by rw[c2,ca];simp),yr e2 eb (by rw[c2,cb];simp)⟩
theorem ZipSt.lt{z tI tO i1 i2 l1 l2:Addr}{i:Nat}{h:Heap}(st:ZipSt z tI tO i1 i2 l1 l2 i h):∀b∈[z,tI,tO,i1,i2],b<h.objs.size:=λb hb=>by
 obtain⟨hz,hI,⟨u,v,hO⟩,⟨oa,ea,_⟩,⟨ob,eb,_⟩⟩:=st;simp only[zL,vE,or_false]at hb;rcases hb with rfl|rfl|rfl|rfl|rfl
 ·exact zR hz
 ·exact zR hI
 ·exact zR hO
 ·exact zR ea
 ·exact zR eb
def Itz(K:W.Frag)(a b:Addr):It :=
 ⟨λi H=>∃xs ys x y,SqL K H a xs/\SqL K H b ys/\xs[i]?=some x/\ys[i]?=some y,λi H v H'=>∃p x y,v = .ref p/\H p=none/\H'=upd H p (.tup [x,y])/\(∀xs,SqL K H a xs->xs[i]?=some x)/\∀ys,SqL K H b ys->ys[i]?=some y,λi H=>∃xs ys,SqL K H a xs/\SqL K H b ys/\xs.length=i/\ys.length=i⟩
theorem Vu{P:Program}{w:World}{K:W.Frag}{kP:List Expr}{k:Nat}{pos:Pos}(l1 l2 z tI tO i1 i2:Addr)(t:tI≠tO)(ii:i1≠i2):
  Zu P w K (.Tuple kP k pos) (Itz K l1 l2) [z,tI,tO,i1,i2] z (ZipSt z tI tO i1 i2 l1 l2)where
 mem:=by simp
 obj:=λi h st b hb=>by
  obtain⟨hz,hI,⟨u,v,hO⟩,⟨oa,ea,ca,da⟩,⟨ob,eb,cb,db⟩⟩:=st;simp only[zL,vE,or_false]at hb;rcases hb with rfl|rfl|rfl|rfl|rfl
  ·exact⟨_,hz,λv z=>by cases(show Data.fields _=Data.cell v from z)⟩
  ·exact⟨_,hI,λv z=>by cases(show Data.seq _ _=Data.cell v from z)⟩
  ·exact⟨_,hO,λv z=>by cases(show Data.seq _ _=Data.cell v from z)⟩
  ·exact⟨oa,ea,λv z=>by rw[da]at z;cases z⟩
  ·exact⟨ob,eb,λv z=>by rw[db]at z;cases z⟩
 keep:=λi h h' st kk=>by
  obtain⟨hz,hI,⟨u,v,hO⟩,ha,hb⟩:=st;exact⟨kk z (by simp) _ hz,kk tI (by simp) _ hI,⟨u,v,kk tO (by simp) _ hO⟩,ha.at λo e=>kk i1 (by simp) o e,hb.at λo e=>kk i2 (by simp) o e⟩
 item:=by
  intro X hP hw hK hc i pins s σ H E I hf st hg;subst hP hw hK;obtain⟨xs,ys,x,y,pG,qT,hx,hy⟩:=hg;obtain⟨aE,rv,p,nL⟩:=I.list pG;obtain⟨AO,nB,p',qS⟩:=I.list qT;obtain⟨u,hu,ru⟩:=rv.get hx;obtain⟨v,hv,rv'⟩:=nB.get hy;have ap:=jf t ii st p.isList p'.isList;have gL:=st;obtain⟨hz,hI,⟨u0,v0,hO⟩,ha,hb⟩:=st;refine wpAny_pyNext_zip_item ap hz hI hO ha hb p.isList p'.isList (x:=u) (y:=v) (by simpa using hu) (by simpa using hv) λh1 a1 a2 a3 a4 a5 a6 hk=>?_;refine⟨_,rfl,wpAny_letOwnedTupleGo_zip (s:={ s with heap:=h1 }) a1 λh2 b1 iN=>?_⟩;have fr:H s.heap.objs.size=none:=I.hok.fresh (zU _);have I1:Inv X pins σ (upd H s.heap.objs.size (.tup [x,y])) { s with heap:=s.heap.push { cls:=.type "tuple",data:=.seq #[u,v] },toks:=s.toks } :=
   I.laid (λb o e1=>zX _ e1) (zU _) ⟨by simp only[yR,xA];rw[zP];decide,[u,v],.cons ru (.cons rv' .nil),⟨_,zT _ rfl,rfl,_,rfl⟩⟩
  have lt5:∀b∈[z,tI,tO,i1,i2],b<s.heap.objs.size:=λb bN=>by
   have:=ZipSt.lt gL b bN;exact this
  have Ca:∀b∈[z,tI,tO,i1,i2],p8 X pins (upd H s.heap.objs.size (.tup [x,y])) b:=λb bN=>⟨by rw[zk (zG (lt5 b bN))];exact(hf b bN).1,(hf b bN).2⟩
  have I2:Inv X pins σ (upd H s.heap.objs.size (.tup [x,y])) { s with heap:=h2,toks:=s.toks }:=tm (s:={ s with heap:=s.heap.push { cls:=.type "tuple",data:=.seq #[u,v] },toks:=s.toks }) [z,tI,tO,i1,i2] I1 Ca λb o bN e1=>by
   have n1:b≠z:=λq=>bN (by simp[q]);have n2:b≠tO:=λq=>bN (by simp[q]);have n3:b≠i1:=λq=>bN (by simp[q]);have n4:b≠i2:=λq=>bN (by simp[q]);refine(iN.2 b n1).trans ?_;rcases Heap.get?_push_cases e1 with⟨rfl,rfl⟩|e1
   ·exact a5
   ·exact hk b o n1 n2 n3 n4 e1
  refine⟨.ref s.heap.objs.size,upd H s.heap.objs.size (.tup [x,y]),I2,rfl,⟨_,x,y,rfl,fr,rfl,λCu Ak=>by rw[I.list_inj Ak pG];exact hx,λCu Ak=>by rw[I.list_inj Ak qT];exact hy⟩,⟨b1,?_,⟨u,v,?_⟩,a3.at λo e1=>(iN.2 i1 ap.i1z).trans e1,a4.at λo e1=>(iN.2 i2 ap.i2z).trans e1⟩,λb bN=>(Ca b bN).1⟩
  ·exact(iN.2 tI ap.TIz).trans (hk tI _ ap.TIz ap.TITO ap.TIi1 ap.TIi2 hI)
  ·exact(iN.2 tO ap.TOz).trans a2
 done:=by
  intro X hP hw hK hc i pins s σ H E I hf st hg;subst hP hw hK;obtain⟨xs,ys,pG,qT,hx,hy⟩:=hg;obtain⟨aE,rv,p,nL⟩:=I.list pG;obtain⟨AO,nB,p',qS⟩:=I.list qT;have ap:=jf t ii st p.isList p'.isList;obtain⟨hz,hI,⟨u0,v0,hO⟩,ha,hb⟩:=st;refine wpAny_pyNext_zip_end (I.ok.hd hc) ap hz hI hO ha hb p.isList p'.isList (.inl ?_) λh1 hk=>⟨rfl,tm (t':=s.toks) [z,tI,tO,i1,i2] I hf λb o bN e1=>hk b o (λq=>bN (by simp[q])) (λq=>bN (by simp[q])) (λq=>bN (by simp[q])) (λq=>bN (by simp[q])) e1⟩
  have:aE.toArray.size=i:=by rw[zO,<-rv.length];exact hx
  exact sV (by lia)
 self:=λ_ _ _ _ _ st h=>sI st.1 h
section
variable {X:Cx}
theorem Pw:bootBuiltins "zip"=some (.type "zip"):=by decide +kernel
def onZ(K:W.Frag)(R:It->Hp->Prop):List V->Hp->Prop:=λvs H=>match vs with
 |[.ref a,.ref b]=>((∃xs,SqL K H a xs)/\∃ys,SqL K H b ys)/\R (Itz K a b) H
 |_=>False
theorem Kv{K:W.Frag}{R:It->Hp->Prop}{a b:Addr}{H:Hp}:onZ K R [.ref a,.ref b] H=(((∃xs,SqL K H a xs)/\∃ys,SqL K H b ys)/\R (Itz K a b) H):=rfl
def iZp(K:W.Frag)(ta:TA):TI:=fun σ H R=>ta σ H (onZ K R)
theorem Mq{kP:List Expr}{kk:Nat}{pt:Pos}{a b:Expr}{ta:TA}{p pos:Pos}(hg:Gl X "zip")(hm:X.mg "zip"=none)(ha:PA X [a,b] ta)(hs:starEach [a,b] X.env=[(false,eval a X.env),(false,eval b X.env)]:=by rfl)
  (iN:starEach [b] X.env=[(false,eval b X.env)]:=by rfl):PI X (.Tuple kP kk pt) (.Call (.Name "zip" p) [a,b] [] pos) (iZp X.K ta):=by
 intro pins s σ H R I h;refine Call_ (ww I hg hm Pw (xY (thn (ha pos pins s σ H _ I h) λus s1 ⟨vs,H1,I1,r1,q1⟩=>?_) (by rw[hs,iN]) (by rw[iN];rfl)))
 match vs,q1 with
 |[.ref a,.ref b],q1 =>
  obtain⟨⟨⟨xs,pG⟩,⟨ys,qT⟩⟩,q⟩:=(show((∃xs,SqL X.K H1 a xs)/\∃ys,SqL X.K H1 b ys)/\R (Itz X.K a b) H1 from q1)
  obtain⟨u,w',rfl,ru,nB⟩:=m3 r1;cases ru;cases nB;obtain⟨aE,rv,p1,nL⟩:=I1.list pG;obtain⟨AO,rv2,p2,qS⟩:=I1.list qT;refine call_zip_2 p1.isList p2.isList λh' hz hI hO ha hb hsz hk=>?_;refine sI (s:={ s1 with heap:=h' }) hz ?_;have I2:Inv X pins σ H1 { s1 with heap:=h' }:=I1.kept (t':=s1.toks) hk;refine⟨_,[s1.heap.objs.size+4,s1.heap.objs.size+2,s1.heap.objs.size+3,s1.heap.objs.size,s1.heap.objs.size+1],_,_,H1,rfl,I2,Vu a b _ _ _ _ _ (λq=>absurd (Nat.add_left_cancel q) (by decide)) (λq=>absurd q (zG (yE _))),⟨hz,hI,⟨_,_,hO⟩,ha,hb⟩,λc hc=>?_,q⟩;have nZ:s1.heap.objs.size<=c:=by
   simp only[zL,vE,or_false]at hc;rcases hc with rfl|rfl|rfl|rfl|rfl
   ·exact vR _ _
   ·exact vR _ _
   ·exact vR _ _
   ·exact zU _
   ·exact wB _
  exact I1.fpOk nZ (I1.hok.fresh nZ)
end
theorem Tt{K:W.Frag}{a b:Addr}{xs ys:List V}{tt:TT}{te:TE}{ρ:St}{Q:VK}{H1:Hp}(Pv:Addr->Nat->List V->Hp->Prop)(hsz:xs.length<=sizeLine)(pE:xs.length=ys.length)
  (h0:∀D H2,H1 D=none->Same H1 H2->H2 D=some (.lst [])->Pv D 0 [] H2)
  (hl:∀D i zs H,Pv D i zs H->SqL K H a xs/\SqL K H b ys/\H D=some (.lst zs)/\zs.length<=i)
  (hs:∀D (i:Nat) u v zs H H',xs[i]?=some u->ys[i]?=some v->Pv D i zs H->Same H H'->oh tt te (some u::some v :: ρ) D xs.length i zs (Pv D (i+1)) H')
  (hd:∀D zs H,Pv D xs.length zs H->Q (.ref D) H):uw 2 (mG2 K 0 1) tt te ρ (Itz K a b) Q H1 :=
 uy Pv hsz h0 (λD i zs H _ p=>(hl D i zs H p).2.2) (λD i zs H hi p=>⟨xs,ys,xs[i],ys[i],(hl D i zs H p).1,(hl D i zs H p).2.1,by simp[hi],by simp[pE▸hi]⟩) (λD zs H p=>⟨xs,ys,(hl D _ zs H p).1,(hl D _ zs H p).2.1,rfl,pE.symm⟩) (λD i v zs H H' τ hi hτ p y=>by
  obtain⟨t,u,rfl⟩:=Zm hτ;obtain⟨c,x,y',rfl,hn,rfl,hx,hy⟩:=y;refine⟨c,_,_,rfl,SqT.of zx,⟨[some x,some y'],rfl,rfl⟩,?_⟩;exact hs D i x y' zs H _ (hx xs (hl D i zs _ p).1) (hy ys (hl D i zs _ p).2.1) p (w8 hn _)) hd
section
variable {X:Cx}
def Ml(K:W.Frag):List V->Hp->VK->Prop:=λxs H Q=>match xs with
 |[.ref p]=>∃ns:List Int,SqL K H p (ns.map V.int)/\0<ns.length/\∀M,M∈ns->(∀a∈ns,M<=a)->Q (.int M) H
 |_=>False
theorem Ls{K:W.Frag}{H:Hp}{Q:VK}{p:Addr}:Ml K [.ref p] H Q=(∃ns:List Int,SqL K H p (ns.map V.int)/\0<ns.length/\∀M,M∈ns->(∀a∈ns,M<=a)->Q (.int M) H):=rfl
theorem Q4(hc:X.calm=true):wo X (.builtin "min") (Ml X.K):=by
 intro pins s σ H xs us Q I r h
 match xs,h with
 |[.ref p],h =>
  obtain⟨ns,hq,bZ,q⟩:=(show∃ns:List Int,SqL X.K H p (ns.map V.int)/\0<ns.length/\∀M,M∈ns->(∀a∈ns,M<=a)->Q (.int M) H from h)
  obtain⟨u,rfl,rx⟩:=vk r;cases rx;obtain⟨aE,rv,pl,hz⟩:=I.list hq;have hi:=qy rv;obtain⟨ys,hy⟩:=hi.allInts.items;have hl:s.heap.IsList p (intItems ys):=hy▸pl.isList;have en:ns=ys.toList.map (·.1):=by
   have h1:numsOf aE.toArray.toList=ns:=hi.numsOf;rw[hy,nums_intItems]at h1;exact h1.symm
  have hsz:ns.length=ys.size:=by rw[en];simp
  refine min_intList (I.ok.hd hc) hl (by lia) λv h' tk hv hk=>?_;obtain⟨t,rfl⟩:=intItems_at hv;obtain⟨b1,b2⟩:=argBest_lt (numAt ys) (ys.size-1);refine⟨.int _,H,I.kept hk,⟨t,rfl⟩,q _ ?_ λa ha=>?_⟩
  ·rw[numAt_eq,<-en];exact getD_mem (by lia)
  ·rw[en]at ha;obtain⟨j,hj,rfl⟩:=mem_getD ha;rw[<-en,hsz]at hj;have:=b2 j (by lia)
   rwa [numAt_eq ys j]at this
end
end
section
structure ZA(z tI tO i1 i2:Addr)(f1 f2:List Addr):Prop where
 tz:tI≠z
 oz:tO≠z
 az:i1≠z
 bz:i2≠z
 to:tI≠tO
 ta:tI≠i1
 tb:tI≠i2
 oa:tO≠i1
 ob:tO≠i2
 ab:i1≠i2
 g1:∀b∈f1,b≠z/\b≠tO/\b≠i2
 g2:∀b∈f2,b≠z/\b≠tO/\b≠i1
section
variable {prog:Program}{w:World}{A:Around}{E:Value->Shared->Prop}{s:Shared}{z tI tO i1 i2:Addr}{f1 f2:List Addr}{n1 n2 k1 k2:Nat}{P1 P2:Nat->Value->Prop}{S1 S2:Nat->Heap->Prop}{u v:Value}
theorem Tj{Q:Value->Shared->Prop}(D:ZA z tI tO i1 i2 f1 f2)(D1:Draws prog w A i1 f1 n1 P1 S1)(D2:Draws prog w A i2 f2 n2 P2 S2)
  (hz:IsZip s.heap z tI tO .none) (hI:IsPair s.heap tI (.ref i1) (.ref i2)) (hO:IsPair s.heap tO u v) (h1:S1 k1 s.heap) (h2:S2 k2 s.heap) (l1:k1<n1) (l2:k2<n2)
  (hQ:∀x y h' tk,P1 k1 x->P2 k2 y->IsZip h' z tI tO (rawInt s.heap.objs.size)->IsPair h' tO x y->S1 (k1+1) h'->S2 (k2+1) h'->IsPair h' s.heap.objs.size x y ->
   (∀c o,c≠z->c≠tO->c≠i1->c≠i2->s.heap.get? c=some o->h'.get? c=some o)->Q (.ref s.heap.objs.size) { s with heap:=h',toks:=tk }) :
  wpAny (model prog w) A (Builtin.«zip.__next__» ⟨[.ref z],[]⟩) (λbC s'=>∃v,bC = .done (.ret v)/\Q v s') E s:=by
 refine(show wpAny _ _ (field (.ref z) 2 >>= _) _ _ _ from zZ (wS hz rfl (x:=.bool false) rfl ?_));refine(show wpAny _ _ (field (.ref z) 3 >>= _) _ _ _ from zZ (wS hz rfl (x:=.ref tI) rfl (zZ (vZ hI rfl ?_))));refine(show wpAny _ _ (Builtin.SmallTypes.ownedTupleIsFree (.ref z) >>= _) _ _ _ from zZ ?_);unfold Builtin.SmallTypes.ownedTupleIsFree;refine zZ (wS hz rfl (x:=.none) rfl (zW ?_));simp only[if_true];refine zZ (uS (zZ (wS hz rfl (x:=.ref tO) rfl (zZ (wF hz (by simp) λg1 nL q1=>?_)))));replace nL:IsZip g1 z tI tO .ellipsis:=nL;have DM:∀c o,c≠z->s.heap.get? c=some o->g1.get? c=some o:=λc o h e=>q1.extBut c o h e;refine zZ ?_;simp only[List.zipIdx_cons,List.zipIdx_nil,List.forIn_cons,List.forIn_nil];refine zZ (zZ (wpAny_onRaise (show wpAny _ _ (Builtin.SmallTypes.nextOf (.ref i1) >>= _) _ _ _ from zZ ?_)));refine D1.item k1 { s with heap:=g1 } _ _ l1 (D1.frame _ _ _ h1 λb hb o e=>DM b o (D.g1 b hb).1 e) λx g2 t2 hx pP q2=>zW ?_;have hO2:IsPair g2 tO u v:=q2.extBut _ _ D.oa (DM _ _ D.oz hO);refine zZ (vZ hO2 rfl (zZ (wpAny_updateSeq_pair hO2 λg3 hO3 q3=>?_)));replace hO3:IsPair g3 tO x v:=hO3;have kp3:∀c o,c≠z->c≠tO->c≠i1->s.heap.get? c=some o->g3.get? c=some o:=λc o c1 c2 c3 e=>q3.extBut _ _ c2 (q2.extBut _ _ c3 (DM c o c1 e));refine zZ (wpAny_letGo (zW (zZ (zZ (wpAny_onRaise (show wpAny _ _ (Builtin.SmallTypes.nextOf (.ref i2) >>= _) _ _ _ from zZ ?_))))));refine D2.item k2 { s with heap:=g3,toks:=t2 } _ _ l2 (D2.frame _ _ _ h2 λb hb o e=>kp3 b o (D.g2 b hb).1 (D.g2 b hb).2.1 (D.g2 b hb).2.2 e) λy g4 t4 hy gR q4=>zW ?_;have hO4:IsPair g4 tO x v:=q4.extBut _ _ D.ob hO3;refine zZ (vZ hO4 rfl (zZ (wpAny_updateSeq_pair hO4 λg5 hO5 q5=>?_)));replace hO5:IsPair g5 tO x y:=hO5;have kp5:∀c o,c≠z->c≠tO->c≠i1->c≠i2->s.heap.get? c=some o->g5.get? c=some o:=λc o c1 c2 c3 c4 e=>q5.extBut _ _ c2 (q4.extBut _ _ c4 (kp3 c o c1 c2 c3 e));have hz5:IsZip g5 z tI tO .ellipsis:=q5.extBut _ _ D.oz.symm (q4.extBut _ _ D.bz.symm (q3.extBut _ _ D.oz.symm (q2.extBut _ _ D.az.symm nL)));have sz5:g5.objs.size=s.heap.objs.size:=by rw[q5.1,q4.1,q3.1,q2.1,q1.1]
 have a5:S1 (k1+1) g5:=D1.frame _ _ _ pP λb hb o e=>q5.extBut _ _ (D.g1 b hb).2.1 (q4.extBut _ _ (D.g1 b hb).2.2 (q3.extBut _ _ (D.g1 b hb).2.1 e));have b5:S2 (k2+1) g5:=D2.frame _ _ _ gR λb hb o e=>q5.extBut _ _ (D.g2 b hb).2.1 e;refine zZ (wpAny_letGo (zW (zW (zZ (vZ hO5 rfl (zZ (sN ?_)))))));have zl:z<g5.objs.size:=zR hz5;refine(show wpAny _ _ (Builtin.SmallTypes.ownedTupleHandOut (.ref z) (.ref g5.objs.size) >>= _) _ _ _ from zZ ?_);unfold Builtin.SmallTypes.ownedTupleHandOut;have hz6:IsZip (g5.push { cls:=.type "tuple",data:=.seq #[x,y] }) z tI tO .ellipsis:=zX _ hz5;refine zZ (wF hz6 (by simp) λg7 hz7 q7=>?_);replace hz7:IsZip g7 z tI tO (rawInt g5.objs.size):=hz7;refine wF hz7 (by simp) λg8 hz8 q8=>?_;replace hz8:IsZip g8 z tI tO (rawInt g5.objs.size):=hz8;have up:∀c o,c≠z->g5.get? c=some o->g8.get? c=some o:=λc o c1 e=>q8.extBut _ _ c1 (q7.extBut _ _ c1 (zX _ e));have hT8:IsPair g8 g5.objs.size x y:=q8.extBut _ _ (wW zl) (q7.extBut _ _ (wW zl) (zT _ rfl));rw[sz5]at hz8 hT8;refine zW ⟨_,rfl,(show Q (.ref g5.objs.size) _ from ?_)⟩;rw[sz5];exact hQ x y g8 _ hx hy hz8 (up _ _ D.oz hO5) (D1.frame _ _ _ a5 λb hb o e=>up b o (D.g1 b hb).1 e) (D2.frame _ _ _ b5 λb hb o e=>up b o (D.g2 b hb).1 e) hT8 λc o c1 c2 c3 c4 e=>up c o c1 (kp5 c o c1 c2 c3 c4 e)
theorem Pa{Q:Fin->Shared->Prop}(D:ZA z tI tO i1 i2 f1 f2)(D1:Draws prog w A i1 f1 n1 P1 S1)
  (hz:IsZip s.heap z tI tO .none) (hI:IsPair s.heap tI (.ref i1) (.ref i2)) (hO:IsPair s.heap tO u v) (h1:S1 n1 s.heap)
  (hE:∀h' e,(∀c o,c≠z->c≠i1->s.heap.get? c=some o->h'.get? c=some o)->(∃o,h'.get? e=some o/\o.cls = .type "StopIteration")->E (.ref e) { s with heap:=h' }) :
  wpAny (model prog w) A (Builtin.«zip.__next__» ⟨[.ref z],[]⟩) Q E s:=by
 refine(show wpAny _ _ (field (.ref z) 2 >>= _) _ _ _ from zZ (wS hz rfl (x:=.bool false) rfl ?_));refine(show wpAny _ _ (field (.ref z) 3 >>= _) _ _ _ from zZ (wS hz rfl (x:=.ref tI) rfl (zZ (vZ hI rfl ?_))));refine(show wpAny _ _ (Builtin.SmallTypes.ownedTupleIsFree (.ref z) >>= _) _ _ _ from zZ ?_);unfold Builtin.SmallTypes.ownedTupleIsFree;refine zZ (wS hz rfl (x:=.none) rfl (zW ?_));simp only[if_true];refine zZ (uS (zZ (wS hz rfl (x:=.ref tO) rfl (zZ (wF hz (by simp) λg1 nL q1=>?_)))));replace nL:IsZip g1 z tI tO .ellipsis:=nL;have DM:∀c o,c≠z->s.heap.get? c=some o->g1.get? c=some o:=λc o h e=>q1.extBut c o h e;refine zZ ?_;simp only[List.zipIdx_cons,List.zipIdx_nil,List.forIn_cons,List.forIn_nil];refine zZ (zZ (wpAny_onRaise (show wpAny _ _ (Builtin.SmallTypes.nextOf (.ref i1) >>= _) _ _ _ from zZ ?_)));refine D1.done { s with heap:=g1 } _ _ (D1.frame _ _ _ h1 λb hb o e=>DM b o (D.g1 b hb).1 e) λg2 e q2 he=>?_;obtain⟨oe,ho,hc⟩:=he;have qS:IsZip g2 z tI tO .ellipsis:=q2 _ _ D.az.symm nL;have hez:e≠z:=λq=>by
  subst q;have hz2':g2.get? e=some _:=qS;rw[hz2']at ho;cases ho;simp at hc
 refine wF (s:={ s with heap:=g2 }) qS (by simp) λg3 _ q3=>hE g3 e (λc o c1 c2 x=>q3.extBut _ _ c1 (q2 _ _ c2 (DM c o c1 x))) ⟨oe,q3.extBut _ _ hez ho,hc⟩
theorem Zp{Q:Option Value->Shared->Prop}(D:ZA z tI tO i1 i2 f1 f2)(D1:Draws prog w A.in1 i1 f1 n1 P1 S1)(D2:Draws prog w A.in1 i2 f2 n2 P2 S2)
  (hz:IsZip s.heap z tI tO .none) (hI:IsPair s.heap tI (.ref i1) (.ref i2)) (hO:IsPair s.heap tO u v) (h1:S1 k1 s.heap) (h2:S2 k2 s.heap) (l1:k1<n1) (l2:k2<n2)
  (hQ:∀x y h' tk,P1 k1 x->P2 k2 y->IsZip h' z tI tO (rawInt s.heap.objs.size)->IsPair h' tO x y->S1 (k1+1) h'->S2 (k2+1) h'->IsPair h' s.heap.objs.size x y ->
   (∀c o,c≠z->c≠tO->c≠i1->c≠i2->s.heap.get? c=some o->h'.get? c=some o)->Q (some (.ref s.heap.objs.size)) { s with heap:=h',toks:=tk }):wpAny (model prog w) A (pyNext (.ref z)) Q E s:=by
 have hT:s.TypeIs (.ref z) "zip":=⟨_,hz,rfl⟩
 unfold pyNext;exact zZ (uH (xO (name:=Str.ofString "__next__") hT uG (xZ uG hT F.entry_zip_next (Tj D D1 D2 hz hI hO h1 h2 l1 l2 λx y h' tk p1 p2 c1 c2 c3 c4 c5 c6=>zW (hQ x y h' tk p1 p2 c1 c2 c3 c4 c5 c6)) (F.args_zip_next_1 _))))
theorem Vw{Q:Option Value->Shared->Prop}(D:ZA z tI tO i1 i2 f1 f2)(D1:Draws prog w A.in1 i1 f1 n1 P1 S1)
  (hz:IsZip s.heap z tI tO .none) (hI:IsPair s.heap tI (.ref i1) (.ref i2)) (hO:IsPair s.heap tO u v) (h1:S1 n1 s.heap)
  (hQ:∀h',(∀c o,c≠z->c≠i1->s.heap.get? c=some o->h'.get? c=some o)->Q none { s with heap:=h' }):wpAny (model prog w) A (pyNext (.ref z)) Q E s:=by
 have hT:s.TypeIs (.ref z) "zip":=⟨_,hz,rfl⟩
 unfold pyNext;refine zZ (uH (xO (name:=Str.ofString "__next__") hT uG (xZ uG hT F.entry_zip_next (Pa D D1 hz hI hO h1 λh' e hk he=>?_) (F.args_zip_next_1 _))));obtain⟨o,ho,hc⟩:=he;exact zZ (tX (T:="StopIteration") (b:=true) ⟨o,ho,hc⟩ isSubtype_stop (zW (hQ _ hk)))
end
def zt1(h:Heap)(a:Addr):Heap:=h.push (mr a)
def zt2(h:Heap)(a b:Addr):Heap:=(zt1 h a).push (mr b)
def zt3(h:Heap)(a b:Addr):Heap:=(zt2 h a b).push { cls:=.type "tuple",data:=.seq #[.ref h.objs.size,.ref (zt1 h a).objs.size] }
def zt4(h:Heap)(a b:Addr):Heap:=(zt3 h a b).push { cls:=.type "tuple",data:=.seq #[.none,.none] }
def zt5(h:Heap)(a b:Addr):Heap:=(zt4 h a b).push { cls:=.type "zip",data:=.fields #[.none,.bool false,.bool false,.ref (zt2 h a b).objs.size,.ref (zt3 h a b).objs.size] }
theorem Tk(a b:Addr)(xs ys:Array Value):Meets (Builtin.«zip.__new__» ⟨[.type "zip",.ref a,.ref b],[]⟩) (λ_ R s=>s.heap.IsTuple a xs/\s.heap.IsTuple b ys /\
  R (.ok (.ret (.ref (zt4 s.heap a b).objs.size))) { s with heap:=zt5 s.heap a b }) :=
 .of_wp λprog w A R s h=>by
  obtain⟨hp,g,d,tk,os⟩:=s;obtain⟨ha,hb,h⟩:=h;have kH:=sub_zip;have hA:Heap.IsTuple (Shared.heap ⟨hp,g,d,tk,os⟩) a xs:=ha;have hB:Heap.IsTuple (Shared.heap ⟨hp.push { cls:=.type "tuple_iterator",data:=.fields #[.ref a,.int 0 0] },g,d,tk,os⟩) b ys:=hb.elim λo ho=>⟨o,zX _ ho.1,ho.2⟩
  wp_walk using wH hA,wH hB
  exact⟨_,rfl,h⟩
section
variable {prog:Program}{w:World}{A:Around}{E:Value->Shared->Prop}{s:Shared}
theorem Tr{a b:Addr}{xs ys:Array Value}{Q:Value->Shared->Prop}(ha:s.heap.IsTuple a xs)(hb:s.heap.IsTuple b ys)
  (h:∀h',IsZip h' (s.heap.objs.size+4) (s.heap.objs.size+2) (s.heap.objs.size+3) .none->IsPair h' (s.heap.objs.size+2) (.ref s.heap.objs.size) (.ref (s.heap.objs.size+1))->IsPair h' (s.heap.objs.size+3) .none .none ->
   h'.IsTupleIter s.heap.objs.size a 0->h'.IsTupleIter (s.heap.objs.size+1) b 0->(∀c o,s.heap.get? c=some o->h'.get? c=some o)->Q (.ref (s.heap.objs.size+4)) { s with heap:=h' }):wpAny (model prog w) A (call (.type "zip") [.ref a,.ref b]) Q E s:=by
 refine callType_new F.called_zip (by decide) (F.typeCall_zip_2 _ _) (F.newCall_zip_2 _ _) (λobj=>F.args_object_init_3 obj _ _) F.entry_zip_new (Tk a b xs ys) ⟨ha,hb,?_⟩;have y1:(zt1 s.heap a).objs.size=s.heap.objs.size+1:=xT ..;have y2:(zt2 s.heap a b).objs.size=s.heap.objs.size+2:=by unfold zt2;rw[xT,y1]
 have y3:(zt3 s.heap a b).objs.size=s.heap.objs.size+3:=by unfold zt3;rw[xT,y2]
 have y4:(zt4 s.heap a b).objs.size=s.heap.objs.size+4:=by unfold zt4;rw[xT,y3]
 have p5:(zt5 s.heap a b).get? (zt4 s.heap a b).objs.size=some _:=zT _ rfl;have p4:(zt5 s.heap a b).get? (zt3 s.heap a b).objs.size=some _:=zX _ (zT _ rfl);have k3:∀c o,(zt3 s.heap a b).get? c=some o->(zt5 s.heap a b).get? c=some o:=λc o e=>zX _ (zX _ e);have p3:(zt5 s.heap a b).get? (zt2 s.heap a b).objs.size=some _:=k3 _ _ (zT _ rfl);have p2:(zt5 s.heap a b).get? (zt1 s.heap a).objs.size=some _:=k3 _ _ (zX _ (zT _ rfl));have p1:(zt5 s.heap a b).get? s.heap.objs.size=some _:=k3 _ _ (zX _ (zX _ (zT _ rfl)));show _/\_;rw[y2,y3,y4]at p5;rw[y1,y2]at p3;rw[y3]at p4;rw[y1]at p2;rw[y4];exact⟨⟨_,p5,rfl⟩,h _ p5 p3 p4 ⟨_,p1,rfl,rfl⟩ ⟨_,p2,rfl,rfl⟩ λc o x=>k3 _ _ (zX _ (zX _ (zX _ x)))⟩
end
def ZtSt(z tI tO i1 i2 l1 l2:Addr)(i:Nat)(h:Heap):Prop:=IsZip h z tI tO .none/\IsPair h tI (.ref i1) (.ref i2)/\(∃u v,IsPair h tO u v)/\h.IsTupleIter i1 l1 i/\h.IsTupleIter i2 l2 i
theorem ZtSt.lt{z tI tO i1 i2 l1 l2:Addr}{i:Nat}{h:Heap}(st:ZtSt z tI tO i1 i2 l1 l2 i h):∀b∈[z,tI,tO,i1,i2],b<h.objs.size:=λb hb=>by
 obtain⟨hz,hI,⟨u,v,hO⟩,⟨oa,ea,_⟩,⟨ob,eb,_⟩⟩:=st;simp only[zL,vE,or_false]at hb;rcases hb with rfl|rfl|rfl|rfl|rfl
 ·exact zR hz
 ·exact zR hI
 ·exact zR hO
 ·exact zR ea
 ·exact zR eb
theorem cq{h:Heap}{z tI tO i1 i2 l1 l2:Addr}{i:Nat}{xs ys:Array Value}(t:tI≠tO)(ii:i1≠i2)(l1o:l1≠tO)(l2o:l2≠tO)(st:ZtSt z tI tO i1 i2 l1 l2 i h)(h1:h.IsTuple l1 xs)(h2:h.IsTuple l2 ys):ZA z tI tO i1 i2 [i1,l1] [i2,l2]:=by
 obtain⟨hz,hI,⟨u,v,hO⟩,⟨oa,ea,ca,_⟩,⟨ob,eb,cb,_⟩⟩:=st;obtain⟨o1,e1,c1,_⟩:=h1;obtain⟨o2,e2,c2,_⟩:=h2;have mE:h.get? z=some _:=hz;have Dl:h.get? tI=some _:=hI;have A0:h.get? tO=some _:=hO;refine⟨yr Dl mE (by simp),yr A0 mE (by simp),yr ea mE (by rw[ca];simp),yr eb mE (by rw[cb];simp),t,yr Dl ea (by rw[ca];simp),yr Dl eb (by rw[cb];simp),yr A0 ea (by rw[ca];simp),yr A0 eb (by rw[cb];simp),ii,λb hb=>?_,λb hb=>?_⟩
 ·rcases zL.mp hb with rfl|hb
  ·exact⟨yr ea mE (by rw[ca];simp),(yr A0 ea (by rw[ca];simp)).symm,ii⟩
  ·rw[zN.mp hb];exact⟨yr e1 mE (by rw[c1];simp),l1o,yr e1 eb (by rw[c1,cb];simp)⟩
 ·rcases zL.mp hb with rfl|hb
  ·exact⟨yr eb mE (by rw[cb];simp),(yr A0 eb (by rw[cb];simp)).symm,ii.symm⟩
  ·rw[zN.mp hb];exact⟨yr e2 mE (by rw[c2];simp),l2o,yr e2 ea (by rw[c2,ca];simp)⟩
def Pc(K:W.Frag)(a b:Addr):It :=
 ⟨λi H=>∃xs ys x y,SqT K H a xs/\SqT K H b ys/\xs[i]?=some x/\ys[i]?=some y,λi H v H'=>∃p x y,v = .ref p/\H p=none/\H'=upd H p (.tup [x,y])/\(∀xs,SqT K H a xs->xs[i]?=some x)/\∀ys,SqT K H b ys->ys[i]?=some y,λi H=>∃xs ys,SqT K H a xs/\SqT K H b ys/\xs.length=i/\ys.length=i⟩
theorem Vv{P:Program}{w:World}{K:W.Frag}{kP:List Expr}{k:Nat}{pos:Pos}(l1 l2 z tI tO i1 i2:Addr)(t:tI≠tO)(ii:i1≠i2)(l1o:l1≠tO)(l2o:l2≠tO):
  Zu P w K (.Tuple kP k pos) (Pc K l1 l2) [z,tI,tO,i1,i2] z (ZtSt z tI tO i1 i2 l1 l2)where
 mem:=by simp
 obj:=λi h st b hb=>by
  obtain⟨hz,hI,⟨u,v,hO⟩,⟨oa,ea,ca,da⟩,⟨ob,eb,cb,db⟩⟩:=st;simp only[zL,vE,or_false]at hb;rcases hb with rfl|rfl|rfl|rfl|rfl
  ·exact⟨_,hz,λv z=>by cases(show Data.fields _=Data.cell v from z)⟩
  ·exact⟨_,hI,λv z=>by cases(show Data.seq _ _=Data.cell v from z)⟩
  ·exact⟨_,hO,λv z=>by cases(show Data.seq _ _=Data.cell v from z)⟩
  ·exact⟨oa,ea,λv z=>by rw[da]at z;cases z⟩
  ·exact⟨ob,eb,λv z=>by rw[db]at z;cases z⟩
 keep:=λi h h' st kk=>by
  obtain⟨hz,hI,⟨u,v,hO⟩,ha,hb⟩:=st;exact⟨kk z (by simp) _ hz,kk tI (by simp) _ hI,⟨u,v,kk tO (by simp) _ hO⟩,ha.at λo e=>kk i1 (by simp) o e,hb.at λo e=>kk i2 (by simp) o e⟩
 item:=by
  intro X hP hw hK hc i pins s σ H E I hf st hg;subst hP hw hK;obtain⟨xs,ys,x,y,pG,qT,hx,hy⟩:=hg;obtain⟨aE,rv,p,nL⟩:=I.tuple pG;obtain⟨AO,nB,p',qS⟩:=I.tuple qT;obtain⟨u,hu,ru⟩:=rv.get hx;obtain⟨v,hv,rv'⟩:=nB.get hy;have pI:s.heap.IsTuple l1 aE.toArray:=p;have jV:s.heap.IsTuple l2 AO.toArray:=p';have ap:=cq t ii l1o l2o st pI jV;have gL:=st;obtain⟨hz,hI,⟨u0,v0,hO⟩,ha,hb⟩:=st;have rO:i<aE.toArray.size:=by simpa using(zV.mp hu).1
  have mP:i<AO.toArray.size:=by simpa using(zV.mp hv).1
  refine Zp ap (uz (A:=X.A.in1) (I.ok.hd hc) i1 l1 (λq=>(ap.g1 l1 (by simp)).2.2 (by
   obtain⟨o1,e1,c1,_⟩:=pI;obtain⟨o2,e2,c2,_⟩:=ha;rw[q,e2]at e1;cases e1;rw[c2]at c1;simp at c1)) aE.toArray) (uz (A:=X.A.in1) (I.ok.hd hc) i2 l2 (λq=>(ap.g2 l2 (by simp)).2.2 (by
   obtain⟨o1,e1,c1,_⟩:=jV;obtain⟨o2,e2,c2,_⟩:=hb;rw[q,e2]at e1;cases e1;rw[c2]at c1;simp at c1)) AO.toArray) hz hI hO ⟨ha,pI⟩ ⟨hb,jV⟩ rO mP λx' y' h1 tk nT Be a1 a2 a3 a4 a5 hk=>?_
  have ex:x'=u:=by
   have h2:aE.toArray[i]?=some u:=by simpa using hu
   exact yY (nT.symm.trans h2)
  have ey:y'=v:=by
   have h2:AO.toArray[i]?=some v:=by simpa using hv
   exact yY (Be.symm.trans h2)
  subst ex ey;refine⟨_,rfl,wpAny_letOwnedTupleGo_zip (s:={ s with heap:=h1,toks:=tk }) a1 λh2 b1 iN=>?_⟩;have fr:H s.heap.objs.size=none:=I.hok.fresh (zU _);have I1:Inv X pins σ (upd H s.heap.objs.size (.tup [x,y])) { s with heap:=s.heap.push { cls:=.type "tuple",data:=.seq #[x',y'] },toks:=tk } :=
   I.laid (λb o e1=>zX _ e1) (zU _) ⟨by simp only[yR,xA];rw[zP];decide,[x',y'],.cons ru (.cons rv' .nil),⟨_,zT _ rfl,rfl,_,rfl⟩⟩
  have lt5:=ZtSt.lt gL;have Ca:∀b∈[z,tI,tO,i1,i2],p8 X pins (upd H s.heap.objs.size (.tup [x,y])) b:=λb bN=>⟨by rw[zk (zG (lt5 b bN))];exact(hf b bN).1,(hf b bN).2⟩
  have I2:Inv X pins σ (upd H s.heap.objs.size (.tup [x,y])) { s with heap:=h2,toks:=tk }:=tm (s:={ s with heap:=s.heap.push { cls:=.type "tuple",data:=.seq #[x',y'] },toks:=tk }) [z,tI,tO,i1,i2] I1 Ca λb o bN e1=>by
   have n1:b≠z:=λq=>bN (by simp[q]);have n2:b≠tO:=λq=>bN (by simp[q]);have n3:b≠i1:=λq=>bN (by simp[q]);have n4:b≠i2:=λq=>bN (by simp[q]);refine(iN.2 b n1).trans ?_;rcases Heap.get?_push_cases e1 with⟨rfl,rfl⟩|e1
   ·exact a5
   ·exact hk b o n1 n2 n3 n4 e1
  refine⟨.ref s.heap.objs.size,upd H s.heap.objs.size (.tup [x,y]),I2,rfl,⟨_,x,y,rfl,fr,rfl,λCu Ak=>by rw[I.tuple_inj Ak pG];exact hx,λCu Ak=>by rw[I.tuple_inj Ak qT];exact hy⟩,⟨b1,?_,⟨x',y',?_⟩,a3.1.at λo e1=>(iN.2 i1 ap.az).trans e1,a4.1.at λo e1=>(iN.2 i2 ap.bz).trans e1⟩,λb bN=>(Ca b bN).1⟩
  ·exact(iN.2 tI ap.tz).trans (hk tI _ ap.tz ap.to ap.ta ap.tb hI)
  ·exact(iN.2 tO ap.oz).trans a2
 done:=by
  intro X hP hw hK hc i pins s σ H E I hf st hg;subst hP hw hK;obtain⟨xs,ys,pG,qT,hx,hy⟩:=hg;obtain⟨aE,rv,p,nL⟩:=I.tuple pG;obtain⟨AO,nB,p',qS⟩:=I.tuple qT;have pI:s.heap.IsTuple l1 aE.toArray:=p;have ap:=cq t ii l1o l2o st pI p';obtain⟨hz,hI,⟨u0,v0,hO⟩,ha,hb⟩:=st;have hs:aE.toArray.size=i:=by rw[zO,<-rv.length];exact hx
  refine Vw ap (uz (A:=X.A.in1) (I.ok.hd hc) i1 l1 (λq=>(ap.g1 l1 (by simp)).2.2 (by
   obtain⟨o1,e1,c1,_⟩:=pI;obtain⟨o2,e2,c2,_⟩:=ha;rw[q,e2]at e1;cases e1;rw[c2]at c1;simp at c1)) aE.toArray) hz hI hO ⟨by rw[hs];exact ha,pI⟩ λh1 hk=>⟨rfl,tm (t':=s.toks) [z,tI,tO,i1,i2] I hf λb o bN e1=>hk b o (λq=>bN (by simp[q])) (λq=>bN (by simp[q])) e1⟩
 self:=λ_ _ _ _ _ st h=>sI st.1 h
theorem Ux{K:W.Frag}{a b:Addr}{xs ys:List V}{j k:Nat}{tb:TS}{D:tp}{σ:St}{H:Hp}(Pv:Nat->St->Hp->Prop)(pE:xs.length=ys.length)(h0:Pv 0 σ H)(hl:∀i σ H,i<=xs.length->Pv i σ H->SqT K H a xs/\SqT K H b ys)
  (hs:∀(i:Nat) x y σ H H',xs[i]?=some x->ys[i]?=some y->Pv i σ H->Same H H'->tb { D with nx:=Pv (i+1),ct:=Pv (i+1),bk:=D.nx } (sv (sv σ j x) k y) H') (hd:∀σ H,Pv xs.length σ H->D.nx σ H) :
  Zs (mG2 K j k) tb (Pc K a b) D σ H :=
 k7 (n:=xs.length) Pv h0 (λi σ H hi p=>⟨xs,ys,xs[i],ys[i]'(pE▸hi),(hl i σ H (yC hi) p).1,(hl i σ H (yC hi) p).2,by simp[hi],by simp[pE▸hi]⟩)
  (fun σ H p=>⟨xs,ys,(hl _ σ H (zU _) p).1,(hl _ σ H (zU _) p).2,rfl,pE.symm⟩) (λi v σ H H' hi p y=>by
  obtain⟨c,x,y',rfl,hn,rfl,hx,hy⟩:=y;have hh:=hl i σ H (yC hi) p;exact⟨c,_,_,rfl,SqT.of zx,hs i x y' σ H _ (hx xs hh.1) (hy ys hh.2) p (w8 hn _)⟩) hd
end
section
section
variable {X:Cx}
def Ho(K:W.Frag)(R:It->Hp->Prop):List V->Hp->Prop:=λvs H=>match vs with
 |[.ref a,.ref b]=>((∃xs,SqT K H a xs)/\∃ys,SqT K H b ys)/\R (Pc K a b) H
 |_=>False
theorem Od{K:W.Frag}{R:It->Hp->Prop}{a b:Addr}{H:Hp}:Ho K R [.ref a,.ref b] H=(((∃xs,SqT K H a xs)/\∃ys,SqT K H b ys)/\R (Pc K a b) H):=rfl
def iZt(K:W.Frag)(ta:TA):TI:=fun σ H R=>ta σ H (Ho K R)
theorem Ki{kP:List Expr}{kk:Nat}{pt:Pos}{a b:Expr}{ta:TA}{p pos:Pos}(hg:Gl X "zip")(hm:X.mg "zip"=none)(ha:PA X [a,b] ta)(hs:starEach [a,b] X.env=[(false,eval a X.env),(false,eval b X.env)]:=by rfl)
  (iN:starEach [b] X.env=[(false,eval b X.env)]:=by rfl):PI X (.Tuple kP kk pt) (.Call (.Name "zip" p) [a,b] [] pos) (iZt X.K ta):=by
 intro pins s σ H R I h;refine Call_ (ww I hg hm Pw (xY (thn (ha pos pins s σ H _ I h) λus s1 ⟨vs,H1,I1,r1,q1⟩=>?_) (by rw[hs,iN]) (by rw[iN];rfl)))
 match vs,q1 with
 |[.ref a,.ref b],q1 =>
  obtain⟨⟨⟨xs,pG⟩,⟨ys,qT⟩⟩,q⟩:=(show((∃xs,SqT X.K H1 a xs)/\∃ys,SqT X.K H1 b ys)/\R (Pc X.K a b) H1 from q1)
  obtain⟨u,w',rfl,ru,nB⟩:=m3 r1;cases ru;cases nB;obtain⟨aE,rv,p1,nL⟩:=I1.tuple pG;obtain⟨AO,rv2,p2,qS⟩:=I1.tuple qT;have la:a<s1.heap.objs.size:=by obtain⟨o,e,_⟩:=p1;exact zR e
  have lb:b<s1.heap.objs.size:=by obtain⟨o,e,_⟩:=p2;exact zR e
  refine Tr (show s1.heap.IsTuple a aE.toArray from p1) (show s1.heap.IsTuple b AO.toArray from p2) λh' hz hI hO ha hb hk=>?_;refine sI (s:={ s1 with heap:=h' }) hz ?_;have I2:Inv X pins σ H1 { s1 with heap:=h' }:=I1.kept (t':=s1.toks) hk;refine⟨_,[s1.heap.objs.size+4,s1.heap.objs.size+2,s1.heap.objs.size+3,s1.heap.objs.size,s1.heap.objs.size+1],_,_,H1,rfl,I2,Vv a b _ _ _ _ _ (λq=>absurd (Nat.add_left_cancel q) (by decide)) (λq=>absurd q (zG (yE _))) (zG (yW la (vR _ _))) (zG (yW lb (vR _ _))),⟨hz,hI,⟨_,_,hO⟩,ha,hb⟩,λc hc=>?_,q⟩;have nZ:s1.heap.objs.size<=c:=by
   simp only[zL,vE,or_false]at hc;rcases hc with rfl|rfl|rfl|rfl|rfl
   ·exact vR _ _
   ·exact vR _ _
   ·exact vR _ _
   ·exact zU _
   ·exact wB _
  exact I1.fpOk nZ (I1.hok.fresh nZ)
end
section
variable {X:Cx}
end
end
section
structure Mk0(K:W.Frag)(C:Addr):Prop where
 makes:W.makesIn K C=true
 init:W.findIn K (.ref C) "__init__"=some (some (.builtin "object.__init__"))
 kp:W.keepIn K (.ref C)=true
def S9(C:Addr):TE:=λ_ H Q=>∀x dx,H x=none->H dx=none->dx≠x->Q (.ref x) (upd (upd H dx (.own x)) x (.ins C dx []))
section
variable {X:Cx}
theorem Wq{C:Addr}{x:Str}{p pos:Pos}(M:Mk0 X.K C)(hm:X.mg x=some (.ref C))(hg:Gl X x:=by rfl)(nH:(x==("__debug__":Str))=false:=by decide):PE X (.Call (.Name x p) [] [] pos) (S9 C):=by
 intro pins s σ H Q I h;refine xK (qj I hg hm ?_ nH);refine W.callWith_K0 I.kIn M.kp ?_;refine wpAny_call (Uz I.kIn M.makes M.init (λself=>Looks.of_pure (oi_bind self)) ?_);have Y:=makes_of (M:=model X.prog X.w) I.kIn M.makes;have I2:=Inv.made (C:=C) I;have e2:((s.heap.push W.emptyDict).push (W.instObj C s.heap.objs.size)).get? (s.heap.objs.size+1)=some (W.instObj C s.heap.objs.size):=by
  have g:=zT (s.heap.push W.emptyDict) (o:=W.instObj C s.heap.objs.size) rfl;rwa [xT]at g
 have t1:Looks (model X.prog X.w) ((s.heap.push W.emptyDict).push (W.instObj C s.heap.objs.size)) (typeOf (.ref (s.heap.objs.size+1))) (.ref C):=(Looks.ld e2).andThen .now;have t2:Looks (model X.prog X.w) ((s.heap.push W.emptyDict).push (W.instObj C s.heap.objs.size)) (isInstance (.ref (s.heap.objs.size+1)) (.type "object")) true:=t1.andThen (Y.top.keeps λb o e=>zX _ (zX _ e));refine codeAny_call_builtin oi_plain entry_oi (@check_slot (model X.prog X.w) _ _ _ "object.__init__" "object" "__init__" (.ref (s.heap.objs.size+1)) [] [] _ oi_kind oi_split t2 (oi_args (.ref (s.heap.objs.size+1))) ?_);rw[oi_run];refine zW (And.intro rfl ?_);exact⟨.ref (s.heap.objs.size+1),_,I2,rfl,h _ _ (I.hok.fresh (wB _)) (I.hok.fresh (zU _)) (zG (yE _))⟩
end
structure DefM(K:W.Frag)(C:Addr)(x qual:Str)(st:Stmt)(ps:List Str):Prop where
 ex:∃(f:Addr)(fd:FuncData),Fun K x qual st f fd/\(∀us:List Value,us.length=ps.length->bindArgs fd ⟨us,[]⟩=pure (ps.zip us))/\Mz K C x f/\Cls K C
structure yt(P:Program)(w:World)(K:W.Frag)(mg:Str->Option Value)(base:Heap)(k:Nat)(C:Addr)(x:Str)(ps:List Str)(sp:Sp):Prop where
 ex:∃(f:Addr)(fd:FuncData),FnOk P w K mg base CX0 k f fd ps sp/\Binds K fd ps []/\Mz K C x f/\Cls K C
section
variable {P:Program}{w:World}{K:W.Frag}{mg:Str->Option Value}{base:Heap}
theorem DefM.callee{C:Addr}{x qual:Str}{st:Stmt}{N ps:List Str}{k:Nat}{sp:Sp}(F:DefM K C x qual st ps)(S:v4 N ps (zr st))(len:∀vs H Q E,sp vs H Q E->vs.length=ps.length)
  (cM:∀(f:Addr)(cdv:Value)(A:Around)(outer:List Env)(s:Shared)(H:Hp)(vs:List V)(Q:VK)(E:XK),Room k (A.deeper (envOfC qual (zr st) s.heap.objs.size f cdv))->N.Nodup->sp vs H Q E ->
   ∃σ t,vg N vs=σ/\PSs (pb CX0 P w K mg base N qual (zr st) f cdv A outer s H E).nox (zi st) t/\t { nx:=λ_ H'=>Q .non H',rt:=Q } σ H):yt P w K mg base (k+1) C x ps sp:=by
 obtain⟨f,fd,F,b,hm,hc⟩:=F.ex;refine⟨f,fd,F.ok S len λcdv A outer s H vs Q E hr h=>?_,.all b,hm,hc⟩;obtain⟨σ,t,e,ht,q⟩:=cM f cdv A outer s H vs Q E hr S.nd h;exact⟨t,ht,by rw[e];exact q⟩
theorem ua{X:Cx}{C:Addr}{k k':Nat}{x:Str}{ps:List Str}{sp:Sp}{ta:TE}{t:TA}{o e:Expr}{es:List Expr}{pos apos:Pos}{pl:Sem Bool}(C':yt X.prog X.w X.K X.mg X.base k C x ps sp)(hr:Room k' X.A)(hk:k<=k')(ho:PE X o ta)(ha:PA X (e::es) t)
  (iD:starEach (e::es) X.env=(false,eval e X.env)::starEach es X.env:=by rfl) (cZ:(backTo pos (starEach es X.env)).any (·.1)=false:=by rfl)
  (ht:eval (.Call (.Attribute o x apos) (e::es) [] pos) X.env=(do
   let ov <-eval o X.env;standAt apos.atName
   let(f,first) <-holding [ov] (getMethod ov x pl);callWith pos f first (backTo pos (starEach (e::es) X.env)) (backToKw pos (keywordEach [] X.env))):=by rfl) :
  PE X (.Call (.Attribute o x apos) (e::es) [] pos) (Mx C x sp [] E0 ta t):=by
 obtain⟨f,fd,F,b,hm,hc⟩:=C'.ex;exact Ol (pl:=pl) ho hc hm F (hr.mono hk) b .nil Wz ha iD cZ ht
end
def xk(st:Stmt)(j:Nat):Stmt:=match st with
 | .ClassDef _ _ _ b _ _ _ _ _ _ _=>b.getD j (.Pass ⟨0,0,0,0⟩)
 |_=>.Pass ⟨0,0,0,0⟩
theorem defM_mk{K:W.Frag}{C:Addr}{x qual:Str}{st:Stmt}{ps:List Str}{f:Addr}{oc:Value}{od an:Option Addr}{osl:Array (Option Value)}{kV doc pm cdv ct:Value}
  (a:W.findIn K (.ref C) x=some (some (.ref f))) (l:K.lookup f=some ⟨oc,od,.func (W.fnOf x qual (yx st) (zi st) (zr st) .none kV doc pm an cdv ct),osl⟩)
  (c:W.codeIn K cdv qual=true) (k:W.keepIn K (.ref f)=true) (fn:W.isFn K (.ref f)=true) (cl:Cls K C)
  (hb:∀(kV doc pm:Value)(an:Option Addr)(cdv ct:Value)(us:List Value),us.length=ps.length->bindArgs (W.fnOf x qual (yx st) (zi st) (zr st) .none kV doc pm an cdv ct) ⟨us,[]⟩=pure (ps.zip us)):DefM K C x qual st ps :=
 ⟨f,_,Xy l c k,hb kV doc pm an cdv ct,⟨a,fn,k⟩,cl⟩
end
end My
namespace My
open PySem PySem.Spec PySem.W PySem.Calls
open PyProof.Rows hiding St
def pLt(a b:Int×Bool):Bool:=if a.1=b.1 then(!a.2&&b.2)else decide (a.1<b.1)
theorem Yv(a:Int×Bool):pLt a a=false:=by
 unfold pLt;rw[yT rfl];cases a.2<;>rfl
theorem Vj(a b c:Int×Bool)(h1:pLt a b=true)(h2:pLt b c=true):pLt a c=true:=by
 obtain⟨a,p⟩:=a;obtain⟨b,q⟩:=b;obtain⟨c,r⟩:=c;simp only[pLt]at h1 h2 ⊢;split at h1<;>split at h2
 ·subst_vars;rw[yT rfl];cases p<;>cases q<;>cases r<;>simp at h1 h2 ⊢
 ·subst_vars;have:=yK h2;rw[zC (by lia)];exact h2
 ·subst_vars;have:=yK h1;rw[zC (by lia)];exact h1
 ·have:=yK h1;have:=yK h2;rw[zC (by lia)];exact zA (by lia)
theorem Oh(a b c:Int×Bool)(h:pLt a c=true):pLt a b=true\/pLt b c=true:=by
 obtain⟨a,p⟩:=a;obtain⟨b,q⟩:=b;obtain⟨c,r⟩:=c;simp only[pLt]at h ⊢
 by_cases e1:a=b
 ·rw[yT e1];subst e1
  by_cases e2:a=c
  ·rw[yT e2]at h ⊢;cases p<;>cases q<;>cases r<;>simp at h ⊢
  ·rw[zC e2]at h ⊢;exact .inr h
 ·rw[zC e1]
  by_cases e2:b=c
  ·rw[yT e2];subst e2;rw[zC e1]at h;exact .inl h
  ·rw[zC e2]
   by_cases e3:a<b
   ·exact .inl (zA e3)
   ·refine .inr (zA ?_)
    by_cases e4:a=c
    ·lia
    ·rw[zC e4]at h;have:=yK h;lia
theorem Vi(a b:Int×Bool)(h1:pLt a b=false)(h2:pLt b a=false):a=b:=by
 obtain⟨a,p⟩:=a;obtain⟨b,q⟩:=b;simp only[pLt]at h1 h2
 by_cases e:a=b
 ·subst e;rw[yT rfl]at h1 h2;cases p<;>cases q<;>simp at h1 h2 ⊢
 ·rw[zC e]at h1;rw[zC (λz=>e z.symm)]at h2;have:=of_decide_eq_false h1;have:=of_decide_eq_false h2;lia
def F6:KeyOrd where
 α:=Int×Bool
 blt:=pLt
 irrefl:=Yv
 trans:=Vj
 negTrans:=Oh
 total:=Vi
def Zt(h:Heap)(a:Addr)(k:Int×Bool):Prop:=∃o t n,h.get? a=some o/\o.cls = .type "tuple"/\o.data = .seq #[.int k.1 t,.bool k.2] n
section
variable {prog:Program}{w:World}{A:Around}{E:Value->Shared->Prop}{s:Shared}
theorem Ww{a b:Int}{t u:Tok}{Q:Bool->Shared->Prop}(h:Q (decide (a<b)) s):wpAny (model prog w) A (oneLt' true (.int a t) (.int b u)) Q E s:=by
 rw[oneLt'_eq];simp only[if_true];refine zZ (wpAny_cRoomFor_byValue rfl (zZ (wpAny_callSpecialIfBound?_slot (T:="int") rfl F.slot_int_lt (call_gives F.slot_int_lt rfl F.entry_int_lt (F.args_int_lt_2 _ _) (gives_int_lt a b t u) ?_))));exact vK h
theorem Qt{x y:Addr}{kx ky:Int×Bool}{C:Bool->Shared->Prop}(hx:Zt s.heap x kx)(hy:Zt s.heap y ky)(h:C (pLt kx ky) s):wpAny (model prog w) A (keyLt' (tuples' true) (.ref x) (.ref y)) C E s:=by
 obtain⟨ox,tx,nx,e1,_,d1⟩:=hx;obtain⟨oy,ty,ny,e2,_,d2⟩:=hy;refine kat_lt e1 d1 e2 d2 ?_;refine kat_cons (tG _ _ _ _ _ _ _ _ ?_);unfold pLt at h
 by_cases e:kx.1=ky.1
 ·rw[yT e]at h;have e3:(kx.1==ky.1)=true:=by simpa using e
  rw[e3];refine kat_yes (kat_cons (uC _ _ _ _ _ _ ?_))
  by_cases e4:kx.2=ky.2
  ·have e5:(kx.2==ky.2)=true:=by simpa using e4
   rw[e5];refine kat_yes (kat_nil ?_);have:(!kx.2&&ky.2)=false:=by rw[e4];cases ky.2<;>rfl
   rw[this]at h;exact h
  ·have e5:(kx.2==ky.2)=false:=by simpa using e4
   rw[e5];refine kat_no (kat_one _ _ (lt_bool ?_));rw[Xq e4];exact h
 ·rw[zC e]at h;have e3:(kx.1==ky.1)=false:=by simpa using e
  rw[e3];exact kat_no (Ww h)
theorem qg:∀(R:List (Addr×(Int×Bool))),(∀r∈R,Zt s.heap r.1 r.2)->∃fs:List Value,KatTups s.heap (R.map λr=>Value.ref r.1) fs/\fs.length=R.length/\∀v∈fs,∃b t,v = .int b t
 |[],_=>⟨[],.nil,rfl,λv hv=>by simp at hv⟩
 |r::R,h=>by
  obtain⟨fs,h1,h2,h3⟩:=qg R λq hq=>h q (zI _ hq);obtain⟨o,t,n,ho,hc,hd⟩:=h r zH;refine⟨.int r.2.1 t::fs,KatTups.cons ho hc hd rfl h1,by simp[h2],λv hv=>?_⟩;rcases zL.mp hv with rfl|hv
  ·exact⟨_,_,rfl⟩
  ·exact h3 v hv
theorem Y7{D:Addr}{R:List (Addr×(Int×Bool))}{n0:Nat}{P:PySem.Fin->Shared->Prop}(ho:s.heap.get? D=some (seqObj "list" (R.map λr=>Value.ref r.1).toArray n0))(hR:∀r∈R,Zt s.heap r.1 r.2)(nI:R.length<64)
  (h:∀(R':List (Addr×(Int×Bool)))(h':Heap)(e:Nat),R'.Perm R->(R'.map (·.2)).Pairwise (λa b=>pLt b a=false)->(∀b o,b≠D->s.heap.get? b=some o->h'.get? b=some o)->h'.get? D=some (seqObj "list" (R'.map λr=>Value.ref r.1).toArray e)->P (.done (.ret .none)) { s with heap:=h' }) :
  wpAny (model prog w) A (Builtin.«list.sort» ⟨[.ref D],[]⟩) P E s:=by
 have hl:(R.map λr=>Value.ref r.1).length=R.length:=zY _;have tup:∀{h':Heap},(∀b o,b≠D->s.heap.get? b=some o->h'.get? b=some o)->∀r∈R,Zt h' r.1 r.2:=λ{h'} k r hr=>by
  obtain⟨o,t,n,e,hc,hd⟩:=hR r hr;refine⟨o,t,n,k _ _ (λz=>?_) e,hc,hd⟩;rw[z]at e;have:=wZ Obj.cls (yY (e.symm.trans ho));rw[hc]at this;simp at this
 refine uo (O:=F6) ho (by rw[hl];exact nI) (λi=>(R.getD i (0,(0,false))).2) (tuples' true) (λh2 s1 Q' E' k q=>?_) (λs1 i j C E' k hi hj q=>?_) λp h' e ha hu k eD=>?_
 ·obtain⟨fs,h1,gR,h3⟩:=qg (s:=s1) R (tup k);refine kat_kind (T:=.type "int") h1 (by rw[gR];rw[hl]at h2;lia) (λv hv=>?_) rfl q;obtain⟨b,t,rfl⟩:=h3 v hv;exact Looks.of_pure rfl
 ·rw[hl]at hi hj;have e1:(R.map λr=>Value.ref r.1).getD i Value.none = .ref (R.getD i (0,(0,false))).1:=by simp[hi]
  have e2:(R.map λr=>Value.ref r.1).getD j Value.none = .ref (R.getD j (0,(0,false))).1:=by simp[hj]
  have m1:R.getD i (0,(0,false))∈R:=by simp[hi]
  have m2:R.getD j (0,(0,false))∈R:=by simp[hj]
  rw[e1,e2];exact Qt (tup k _ m1) (tup k _ m2) q
 ·rw[hl]at ha hu;have hp:(p.toList.map λi=>R.getD i (0,(0,false))).Perm R:=by
   have h1:=ha.pm.map λi=>R.getD i (0,(0,false));have h2:(List.range R.length).map (λi=>R.getD i (0,(0,false)))=R:=by
    apply vF
    ·simp
    ·intro i a1 a2;simp[a2]
   rw[h2]at h1;exact h1
  refine h (p.toList.map λi=>R.getD i (0,(0,false))) h' e hp ?_ k ?_
  ·rw[yI,yA];intro i j hi hj kL;have cV:i<p.size:=by simpa using hi
   have rP:j<p.size:=by simpa using hj
   have:=hu i j (yC kL) (by rw[<-ha.size];exact rP);have g1:p.getD i 0=p[i]:=by simp[Array.getD,cV]
   have g2:p.getD j 0=p[j]:=by simp[Array.getD,rP]
   unfold Srt.K at this;rw[g1,g2]at this;have h9:pLt (R.getD p[j] (0,(0,false))).2 (R.getD p[i] (0,(0,false))).2=false:=this;simpa using h9
  ·rw[eD,yI]
   congr 3
   apply tS;intro i hi;have cV:i<R.length:=yF.mp (ha.pm.mem_iff.mp hi);simp[cV]
end
end My
namespace My
open PySem PySem.Spec PySem.W PySem.Calls
open PyProof.Rows hiding St
def jj(c0 c1:Value)(d:Addr)(i n ep:Nat)(ok ov:Value):Obj :=
 { cls:=.type "dict_itemiterator",dict:=none,data:=.fields #[c0,c1,.ref d,.int i 0,.int n 0,.int ep 0,ok,ov],slots:=#[] }
section
variable {prog:Program}{w:World}{K:Type} [DecidableEq K] {knd:KeyKind prog w K}{A:Around}{E:Value->Shared->Prop}{s:Shared}
theorem Pj{a:Addr}{Q:Option Obj->Shared->Prop}(h:Q (s.heap.get? a) s):wpAny (model prog w) A (loadIfAlive a) Q E s:=by
 intro Γ p _;unfold loadIfAlive;rw[Sem.wp_loadIfAlive,Sem.wp_pure];exact h
theorem X3{it d a:Addr}{i ep:Nat}{kvs:List (K×Value)}{k:K}{v c1 ok ov:Value}{Q:Option Value->Shared->Prop}(gP:s.heap.get? it=some (jj (rawInt a) c1 d i kvs.length ep ok ov))
  (ha:∃o,s.heap.get? a=some o) (hai:a≠it)
  (hm:s.heap.DictAt knd d kvs ep) (hx:kvs[i]?=some (k,v))
  (hQ:∀key A8 h',knd.is k key=true->h'.get? it=some (jj (rawInt a) A8 d (i+1) kvs.length ep ok ov) ->
   h'.get? s.heap.objs.size=some { cls:=.type "tuple",data:=.seq #[key,v] }->h'.objs.size=s.heap.objs.size+1 ->
   (∀b o,b≠it->s.heap.get? b=some o->h'.get? b=some o)->Q (some (.ref s.heap.objs.size)) { s with heap:=h' }) :
  wpAny (model prog w) A (pyNext (.ref it)) Q E s:=by
 obtain⟨hp,g,dr,tk,os⟩:=s;obtain⟨od,es,FQ,lY,Cc,hk,DQ,hn⟩:=id hm;have hT:Shared.TypeIs ⟨hp,g,dr,tk,os⟩ (.ref it) "dict_itemiterator":=⟨_,gP,rfl⟩
 unfold pyNext;refine zZ (uH (xO (name:=Str.ofString "__next__") hT vM
  (xZ vM hT F.entry_dict_itemiterator_next ?_ (F.args_dict_itemiterator_next_1 _))))
 refine zZ (zW ?_);refine zZ ?_;refine zZ ?_
 first|refine zZ (vU hT (zW ?_))|refine zZ (vA hT (zW ?_))
 refine zZ (wpAny_fieldsOf gP rfl ?_);have CS:Builtin.Dict_items.ownsTuple "dict_itemiterator"=true:=by decide
 simp only[CS,if_true];show wpAny _ _ (if(Value.ref d==Value.none)=true then _ else _) _ _ _;rw[zC (show¬((Value.ref d==Value.none)=true)from zF)];refine zZ (zW ?_);refine zZ (wpAny_dictEntries FQ Cc ?_);have hsz:es.size=kvs.length:=by rw[<-DQ.length];simp
 rw[zC (by rw[hsz];simp)];refine zZ (zW ?_);refine zZ (wpAny_dictEpoch FQ Cc ?_);rw[zC (by simp)];refine zW ?_;have aO:i<kvs.length:=by
  rcases Nat.lt_or_ge i kvs.length with h|h
  ·exact h
  ·simp[wQ h]at hx
 have pM:i<es.size:=by rw[hsz];exact aO
 obtain⟨nG,hval⟩:=DQ.get? (e:=es[i]) (by simp[pM]) hx;simp only[show¬((i:Int)<0)from by lia,if_false,yZ,Array.getElem?_eq_getElem pM];refine zZ ?_
 first|refine zZ (vU hT (zW ?_))|refine zZ (vA hT (zW ?_))
 refine zZ (sU hT ?_);show wpAny _ _ (setField (.ref it) 3 (rawInt ((i:Int)+1)) >>= _) _ _ ⟨hp,g,dr,tk,os⟩;refine zZ (wF gP (by simp) λh₁ he₁ hs₁=>?_);replace hs₁:Heap.SameBut it hp h₁:=hs₁;replace he₁:h₁.get? it=some (jj (rawInt a) c1 d (i+1) kvs.length ep ok ov):=by
  have e:((i+1:Nat):Int)=(i:Int)+1:=by lia
  unfold jj;rw[e];simpa[rawInt]using he₁
 have hT₁:Shared.TypeIs ⟨h₁,g,dr,tk,os⟩ (.ref it) "dict_itemiterator":=⟨_,he₁,rfl⟩
 refine zZ (xX ?_);refine zZ (sU hT₁ ?_);refine zZ (sU hT₁ ?_);show wpAny _ _ (Builtin.Dict_items.pairFromOwner (.ref it) 6 es[i].key es[i].val) _ _ ⟨h₁,g,dr,tk,os⟩;unfold Builtin.Dict_items.pairFromOwner;refine zZ (sN ?_);have he₂:(h₁.push { cls:=.type "tuple",data:=.seq #[es[i].key,es[i].val] }).get? it=some (jj (rawInt a) c1 d (i+1) kvs.length ep ok ov):=zX _ he₁;generalize hh₂:h₁.push { cls:=.type "tuple",data:=.seq #[es[i].key,es[i].val] }=h₂ at he₂;have hz₁:h₁.objs.size=hp.objs.size:=hs₁.1;have AS:it<hp.objs.size:=zR gP;have ht₂:h₂.get? hp.objs.size=some { cls:=.type "tuple",data:=.seq #[es[i].key,es[i].val] }:=by rw[<-hh₂,<-hz₁];exact zT _ rfl
 have hz₂:h₂.objs.size=hp.objs.size+1:=by rw[<-hh₂,xT,hz₁]
 have hk₂:∀b o,b≠it->hp.get? b=some o->h₂.get? b=some o:=λb o hb e=>by rw[<-hh₂];exact zX _ (hs₁.extBut b o hb e)
 show wpAny _ _ (Builtin.Dict_items.ownedTupleIsFree (.ref it) >>= _) _ _ ⟨h₂,g,dr,tk,os⟩;rw[hz₁];clear hh₂ he₁ hs₁ hT₁ hz₁ h₁;obtain⟨oa,hoa⟩:=ha;have ha₂:h₂.get? a=some oa:=hk₂ a oa hai hoa;refine zZ ?_;unfold Builtin.Dict_items.ownedTupleIsFree;refine zZ (wS he₂ rfl (x:=rawInt a) rfl ?_);show wpAny _ _ (loadIfAlive ((a:Int)).toNat >>= _) _ _ _;refine zZ (Pj ?_);rw[show(Shared.heap ⟨h₂,g,dr,tk,os⟩).get? ((a:Int)).toNat=some oa from by rw[yZ];exact ha₂];simp only[Option.isNone_some];refine zZ (wS he₂ rfl (x:=c1) rfl ?_);have bC:∀h₃ A8,h₃.get? it=some (jj (rawInt a) A8 d (i+1) kvs.length ep ok ov)->Heap.SameBut it h₂ h₃->Q (some (.ref hp.objs.size)) ⟨h₃,g,dr,tk,os⟩:=λh₃ A8 he₃ hs₃ =>
  hQ es[i].key A8 h₃ nG he₃ (by rw[<-hval];exact hs₃.extBut _ _ (wW AS) ht₂) (by show h₃.objs.size=_;rw[hs₃.1,hz₂]) (λb o hb e=>hs₃.extBut b o hb (hk₂ b o hb e))
 by_cases hc:(c1 != Value.bool true)=true
 ·rw[yT hc];refine zZ (wF he₂ (by simp) λh₃ he₃ hs₃=>?_);refine zW ?_;rw[zC zF];exact zW (zW ⟨_,rfl,zW (bC h₃ (.bool true) he₃ hs₃)⟩)
 ·rw[zC hc];refine zW ?_;rw[zC zF];exact zW (zW ⟨_,rfl,zW (bC h₂ c1 he₂ (sR ..))⟩)
theorem Ug{it d:Addr}{i ep:Nat}{kvs:List (K×Value)}{c0 c1 ok ov:Value}{Q:Option Value->Shared->Prop}(hh:A.handled=none)(gP:s.heap.get? it=some (jj c0 c1 d i kvs.length ep ok ov))
  (hm:s.heap.DictAt knd d kvs ep) (hx:kvs[i]?=none)
  (hQ:∀h',Heap.ExtBut it s.heap h'->Q none { s with heap:=h' }):wpAny (model prog w) A (pyNext (.ref it)) Q E s:=by
 obtain⟨od,es,FQ,lY,Cc,hk,DQ,hn⟩:=id hm;have hT:s.TypeIs (.ref it) "dict_itemiterator":=⟨_,gP,rfl⟩
 unfold pyNext;refine zZ (uH (xO (name:=Str.ofString "__next__") hT vM
  (xZ vM hT F.entry_dict_itemiterator_next ?_ (F.args_dict_itemiterator_next_1 _))))
 refine zZ (zW ?_);refine zZ ?_;refine zZ ?_
 first|refine zZ (vU hT (zW ?_))|refine zZ (vA hT (zW ?_))
 refine zZ (wpAny_fieldsOf gP rfl ?_);have CS:Builtin.Dict_items.ownsTuple "dict_itemiterator"=true:=by decide
 simp only[CS,if_true];show wpAny _ _ (if(Value.ref d==Value.none)=true then _ else _) _ _ s;rw[zC (show¬((Value.ref d==Value.none)=true)from zF)];refine zZ (zW ?_);refine zZ (wpAny_dictEntries FQ Cc ?_);have hsz:es.size=kvs.length:=by rw[<-DQ.length];simp
 rw[zC (by rw[hsz];simp)];refine zZ (zW ?_);refine zZ (wpAny_dictEpoch FQ Cc ?_);rw[zC (by simp)];refine zW ?_;have nZ:es.size<=i:=by rw[hsz];simpa using hx
 simp only[show¬((i:Int)<0)from by lia,if_false,yZ,sV nZ];refine zZ ?_
 first|refine zZ (vU hT (zW ?_))|refine zZ (vA hT (zW ?_))
 show wpAny _ _ (setField (.ref it) 2 .none >>= _) _ _ s;refine zZ (wpAny_setField gP rfl (by simp) ?_);show wpAny _ _ (newExc (.type "StopIteration") [] >>= _) _ _ _;refine zZ ?_;simp only[newExc,newTuple];refine zZ (xV ?_ (by size_fits));refine zZ (m:=firstArgMember _ _) (wpAny_of_eq (a:=Value.none) (by first|rfl|(simp only[firstArgMember];rfl)) ?_);refine xV ?_ (by size_fits);simp only[raiseNew];refine zZ (wpAny_handled ?_);rw[show A.in1.handled=none from hh];refine zZ (zW (wpAny_throw ?_));refine zZ (tX (T:="StopIteration") (b:=true) ⟨_,zT _ rfl,rfl⟩ isSubtype_stop ?_);exact zW (hQ _ (((tT ..).extBut.push _).push _))
end
end My
namespace My
open PySem PySem.Spec PySem.W PySem.Calls
open PyProof.Rows hiding St
section
variable {prog:Program}{w:World}{K:Type} [DecidableEq K] {knd:KeyKind prog w K}{A:Around}{E:Value->Shared->Prop}{s:Shared}
theorem far{S b N:Nat}(h1:S<N)(h2:N<=b):b≠S:=λe=>absurd h2 (Nat.not_le_of_lt (e▸h1))
def Yz(key v:Value):Obj:={ cls:=.type "tuple",data:=.seq #[key,v] }
def PairsIn(knd:KeyKind prog w K)(h:Heap)(N:Nat)(aK:Array Value)(kvs:List (K×Value))(i:Nat):Prop :=
 aK.size=i/\∀j kv,j<i->kvs[j]?=some kv->∃b key,aK[j]?=some (.ref b)/\N<=b/\knd.is kv.1 key=true/\h.get? b=some (Yz key kv.2)
theorem PairsIn.keep{h h':Heap}{N:Nat}{aK:Array Value}{kvs:List (K×Value)}{i:Nat}(p:PairsIn knd h N aK kvs i)(k:∀b o,N<=b->h.get? b=some o->h'.get? b=some o):PairsIn knd h' N aK kvs i :=
 ⟨p.1,λj kv hj e=>let⟨b,key,a1,a2,a3,a4⟩:=p.2 j kv hj e;⟨b,key,a1,a2,a3,k b _ a2 a4⟩⟩
theorem PairsIn.push{h:Heap}{N:Nat}{aK:Array Value}{kvs:List (K×Value)}{i:Nat}{k:K}{v key:Value}{b:Addr}(p:PairsIn knd h N aK kvs i)(e:kvs[i]?=some (k,v))(hb:N<=b)(hk:knd.is k key=true)(ho:h.get? b=some (Yz key v)):PairsIn knd h N (aK.push (.ref b)) kvs (i+1):=by
 refine⟨by rw[Array.size_push,p.1],λj kv hj ej=>?_⟩;rcases Nat.lt_or_ge j i with h1|h1
 ·obtain⟨b',key',a1,a2,a3,a4⟩:=p.2 j kv h1 ej;exact⟨b',key',by rw[Array.getElem?_push,zC (by rw[p.1];lia)];exact a1,a2,a3,a4⟩
 ·have hji:j=i:=by lia
  subst hji;rw[e]at ej;cases ej;exact⟨b,key,by rw[Array.getElem?_push,yT p.1.symm],hb,hk,ho⟩
def Uu(aK:Array Value)(c:Nat):Obj:={ cls:=.type "list",dict:=none,data:=.seq aK c,slots:=#[] }
theorem X2{R:Result->Shared->Prop}(hh:A.in1.handled=none){kvs:List (K×Value)}{ep:Nat}(hn:kvs.length<=sizeLine)(S it d:Addr)(hdS:d≠S)(hdi:d≠it)(hSi:S≠it)(N:Nat)(hSN:S<N)(hiN:it<N)(res:Value):
  ∀(k i:Nat)(s:Shared)(aK:Array Value)(c:Nat)(c0 c1 ok ov:Value),kvs.length-i=k->i<=kvs.length->s.heap.get? it=some (jj c0 c1 d i kvs.length ep ok ov)->((c0 = .none/\c1 = .bool false)\/∃a o,c0=rawInt (a:Nat)/\N<=a/\s.heap.get? a=some o) ->
  s.heap.DictAt knd d kvs ep->N<=s.heap.objs.size->s.heap.get? S=some (Uu aK c)->PairsIn knd s.heap N aK kvs i ->
  (∀h' cC c',(∀b o,b≠S->b≠it->s.heap.get? b=some o->h'.get? b=some o)->h'.get? S=some (Uu cC c')->PairsIn knd h' N cC kvs kvs.length->R (.ok (.ret res)) { s with heap:=h' }) ->
  codeAny (model prog w) A (.builtin "list.extend.loop" ⟨[.ref S,.ref it,res],[]⟩) R s:=by
 intro k
 induction k with
 |zero =>
  intro i s aK c c0 c1 ok ov hk hi gP h0 hm hN hS hP hR;have oR:i=kvs.length:=by lia
  subst oR;refine wV F.entry_extend_loop ?_;rw[xM F.plain_extend_loop _];show wpAny _ A.in1 (pyNext (.ref it) >>= _) _ _ s;refine zZ (Ug (knd:=knd) hh gP hm (wQ (zU _)) λh' he=>?_);exact zW (hR h' aK c (λb o _ hb e=>he b o hb e) (he S _ hSi hS) (hP.keep λb o hb e=>he b o (far hiN hb) e))
 |succ k ih =>
  intro i s aK c c0 c1 ok ov hk hi gP h0 hm hN hS hP hR;have aO:i<kvs.length:=by lia
  obtain⟨⟨kk,v⟩,FZ⟩:∃q,kvs[i]=q:=⟨_,rfl⟩
  have hx:kvs[i]?=some (kk,v):=by rw[zM aO,FZ]
  refine wV F.entry_extend_loop ?_;rw[xM F.plain_extend_loop _];show wpAny _ A.in1 (pyNext (.ref it) >>= _) _ _ s;have go:∀key (HL A8 ok' ov':Value) h',knd.is kk key=true->h'.get? it=some (jj HL A8 d (i+1) kvs.length ep ok' ov')->((HL = .none/\A8 = .bool false)\/∃a o,HL=rawInt (a:Nat)/\N<=a/\h'.get? a=some o) ->
    h'.get? s.heap.objs.size=some (Yz key v)->h'.objs.size=s.heap.objs.size+1->(∀b o,b≠it->s.heap.get? b=some o->h'.get? b=some o) ->
    wpAny (model prog w) A.in1 (updateSeq S (·.push (.ref s.heap.objs.size)) >>=λ_=>again (.builtin "list.extend.loop" ⟨[.ref S,.ref it,res],[]⟩)) (λbC s'=>match bC with|.done f=>R (.ok f) s'|.again c'=>c'.quiet=true/\codeAny (model prog w) A c' R s') (λe s'=>R (.error e) s') { s with heap:=h' }:=by
   intro key HL A8 ok' ov' h' a1 a2 a3 a4 a5 a6;have DV:h'.get? S=some (Uu aK c):=a6 S _ hSi hS;have DL:∀b o,b≠S->h'.get? b=some o->(h'.update S (Obj.mapSeq (·.push (.ref s.heap.objs.size)))).get? b=some o:=λb o hb e=>(yO _ _ (wU hb)).trans e;refine zZ (tJ DV rfl (zW ⟨vO F.plain_extend_loop _,ih (i+1) _ (aK.push (.ref s.heap.objs.size)) _ HL A8 ok' ov' (by lia) aO (DL _ _ (wU hSi) a2) ?_ ((hm.at' λo e=>a6 d o hdi e).at' λo e=>DL _ _ hdS e) ?_ (wR _ DV rfl) ?_ λCd cC c' k1 k2 k3=>?_⟩)
    (by rw[hP.1];lia) (by show(aK.push _).size<=sizeLine+1;rw[Array.size_push,hP.1];lia))
   ·rcases a3 with a3|⟨a,o,b1,b2,b3⟩
    ·exact .inl a3
    ·exact .inr ⟨a,o,b1,b2,DL _ _ (far hSN b2) b3⟩
   ·show N<=(h'.update S _).objs.size;rw[tV];lia
   ·refine PairsIn.push ?_ hx hN a1 (DL _ _ (far hSN hN) a4);exact hP.keep λb o hb e=>DL _ _ (far hSN hb) (a6 b o (far hiN hb) e)
   ·exact hR Cd cC c' (λb o b1 b2 e=>k1 b o b1 b2 (DL _ _ b1 (a6 b o b2 e))) k2 k3
  rcases h0 with⟨rfl,rfl⟩|⟨a,o,rfl,b2,b3⟩
  ·refine zZ (wpAny_pyNext_items_item (knd:=knd) gP hm hx λkey h' a1 a2 a3 a4 a5=>?_);exact go key _ _ _ _ h' a1 a2 (.inr ⟨_,_,rfl,hN,a3⟩) a3 a4 a5
  ·refine zZ (X3 (knd:=knd) gP ⟨o,b3⟩ (far hiN b2) hm hx λkey A8 h' a1 a2 a3 a4 a5=>?_);exact go key _ _ _ _ h' a1 a2 (.inr ⟨a,o,rfl,b2,a5 a o (far hiN b2) b3⟩) a3 a4 a5
theorem X1{r:Addr}{Q:Bool->Shared->Prop}(hT:s.TypeIs (.ref r) "dict_items")(h:Q false s):wpAny (model prog w) A (Builtin.List.listLengthHint (.ref r)) Q E s:=by
 unfold Builtin.List.listLengthHint;refine zZ (wpAny_specialOf hT F.slot_dict_items_len.lookup ?_);generalize Bp:("dict_items.__len__":String)=id0
 wp_delta
 rw[show splitId id0=some ("dict_items","__len__")from by subst Bp;decide +kernel];subst Bp;refine zZ (tX (T:="dict_items") (b:=true) hT (by rw[sO];kernel_rfl) ?_);refine uK (λiP=>absurd iP (by decide)) (λ_=>?_);refine uK (λ_=>?_) (λiP=>absurd (by decide +kernel) iP);refine zZ (uW hT ?_);exact zW h
end
end My
namespace My
open PySem PySem.Spec PySem.W PySem.Calls L2
open PyProof.Rows hiding St
section
section
variable {prog:Program}{w:World}{K:Type} [DecidableEq K] {knd:KeyKind prog w K}{A:Around}{E:Value->Shared->Prop}{s:Shared}
theorem jk{v d:Addr}{kvs:List (K×Value)}{ep:Nat}{Q:List Value->Shared->Prop}(hh:A.handled=none)(hv:s.heap.IsItemsView v d)(hm:s.heap.DictAt knd d kvs ep)(hz:kvs.length<=sizeLine)
  (hQ:∀h' tk aK,(∀b o,s.heap.get? b=some o->h'.get? b=some o)->s.heap.objs.size<h'.objs.size->PairsIn knd h' (s.heap.objs.size+2) aK kvs kvs.length->Q aK.toList { s with heap:=h',toks:=tk }):wpAny (model prog w) A (collect (.ref v)) Q E s:=by
 have hvl:v<s.heap.objs.size:=let⟨_,e,_⟩:=hv;zR e;have Aw:d<s.heap.objs.size:=hm.lt_size;unfold collect;refine zZ (wpAny_runValue (wV F.entry_proto_collect ?_));rw[xM uF _];refine(show wpAny _ A.in1 (newList [] >>=λl=>again (.builtin "list.__iadd__" ⟨[l,.ref v],[]⟩)) _ _ s from zZ (xV ?_));refine zW ⟨vO wE _,wV F.entry_list_iadd ?_⟩;rw[xM wE _];generalize As:s.heap.push { cls:=.type "list",data:=.seq ([]:List Value).toArray }=h1;have k1:∀b o,s.heap.get? b=some o->h1.get? b=some o:=λb o e=>As▸zX _ e;have qX:h1.get? s.heap.objs.size=some (Uu #[] 0):=As▸zT _ rfl;have nL:h1.objs.size=s.heap.objs.size+1:=by rw[<-As,xT]
 have hv1:h1.IsItemsView v d:=let⟨o,e,x⟩:=hv;⟨o,k1 _ _ e,x⟩;have hm1:h1.DictAt knd d kvs ep:=hm.at' λo e=>k1 _ _ e;have hT1:Shared.TypeIs { s with heap:=h1 } (.ref v) "dict_items":=hv1.typeIs;refine(show wpAny _ A.in1 (Builtin.List.listExtendWith (.ref s.heap.objs.size) (.ref v) (.ref s.heap.objs.size)) _ _ { s with heap:=h1 }from ?_);unfold Builtin.List.listExtendWith;refine zZ (uW hT1 ?_);have n1:Builtin.List.listSameRef (.ref s.heap.objs.size) (.ref v)=false:=by simp[Builtin.List.listSameRef,wW hvl]
 have n2:(Value.type "dict_items"==Value.type "list")=false:=by decide
 have n3:(Value.type "dict_items"==Value.type "tuple")=false:=by decide
 simp only[n1,n2,n3,Bool.or_false,Bool.false_eq_true,if_false];refine zZ (wpAny_pyIter_items (s:={ s with heap:=h1 }) (knd:=knd) hv1 hm1 ?_);generalize hh2:Heap.push (Shared.heap { s with heap:=h1 }) { cls:=.type "dict_itemiterator",data:=.fields #[.none,.bool false,.ref d,.int 0 0,.int kvs.length 0,.int ep 0,.none,.none] }=h2;have Df:h1.push { cls:=.type "dict_itemiterator",data:=.fields #[.none,.bool false,.ref d,.int 0 0,.int kvs.length 0,.int ep 0,.none,.none] }=h2:=hh2;have k2:∀b o,h1.get? b=some o->h2.get? b=some o:=λb o e=>Df▸zX _ e;have hI2:h2.get? (s.heap.objs.size+1)=some (jj .none (.bool false) d 0 kvs.length ep .none .none):=by
  rw[<-nL,<-Df];exact zT _ rfl
 have qS:h2.objs.size=s.heap.objs.size+2:=by rw[<-Df,xT,nL]
 have Az:=k2 _ _ qX;have key:∀(R:Result->Shared->Prop)(h:Heap)(c₁ tk:Nat),(∀b o,b≠s.heap.objs.size->h2.get? b=some o->h.get? b=some o)->h.objs.size=s.heap.objs.size+2->h.get? s.heap.objs.size=some (Uu #[] c₁) ->
   (∀h' aK c',(∀b o,s.heap.get? b=some o->h'.get? b=some o)->s.heap.objs.size<h'.objs.size->h'.get? s.heap.objs.size=some (Uu aK c')->PairsIn knd h' (s.heap.objs.size+2) aK kvs kvs.length->R (.ok (.ret (.ref s.heap.objs.size))) { s with heap:=h',toks:=tk }) ->
   codeAny (model prog w) A (.builtin "list.extend.loop" ⟨[.ref s.heap.objs.size,.ref (s.heap.objs.size+1),.ref s.heap.objs.size],[]⟩) R { s with heap:=h,toks:=tk }:=by
  intro R h c₁ tk k e hS hR;refine X2 (knd:=knd) (R:=R) hh hz s.heap.objs.size (s.heap.objs.size+1) d (zG Aw) (zG (xJ Aw)) (zG (yE _)) (s.heap.objs.size+2) (xJ (yE _)) (yE _) (.ref s.heap.objs.size) kvs.length 0 _ #[] c₁ .none (.bool false) .none .none rfl (yQ _)
   (k _ _ (wW (yE _)) hI2) (.inl ⟨rfl,rfl⟩) ((hm1.at' λo e=>k2 _ _ e).at' λo e=>k _ _ (zG Aw) e) (vN e.symm) hS ⟨rfl,λj _ hj=>absurd hj (Nat.not_lt_zero _)⟩ λh' cC c' a1 a2 a3=>?_
  exact hR h' cC c' (λb o e=>a1 b o (zG (zR e)) (zG (xJ (zR e))) (k b o (zG (zR e)) (k2 b o (k1 b o e)))) (zR a2) a2 a3
 have GQ:Shared.TypeIs { s with heap:=h2 } (.ref v) "dict_items":=let⟨o,e,x⟩:=hv1;⟨o,k2 _ _ e,x.1⟩;refine zZ (xX (X1 GQ ?_));rw[show Shared.heap { s with heap:=h1 }=h1 from rfl,nL];refine uK (λ_=>?_) (λ_=>zW ⟨vO vB _,key _ h2 0 _ (λb o _ e=>e) qS Az λh' aK c' a1 a2 a3 a4=>?_⟩)
 ·refine zZ (uS ?_);refine zZ ?_;show wpAny _ _ (updateSeq s.heap.objs.size (·.push .none) >>=λ_=>updateSeq s.heap.objs.size (·.pop)) _ _ _;refine zZ (tJ Az rfl ?_);have hS₂:=wR (Obj.mapSeq (·.push Value.none)) Az rfl;refine tJ (hz:=by seq_fits) hS₂ rfl ?_;have hS₃:=wR (Obj.mapSeq (·.pop)) hS₂ rfl;refine zW ⟨vO vB _,key _ _ _ _ (λb o hb e=>?_) (by rw[tV,tV,qS]) hS₃ λh' aK c' a1 a2 a3 a4=>?_⟩
  ·exact(yO _ _ (wU hb)).trans ((yO _ _ (wU hb)).trans e)
  ·exact(show wpAny _ A (load s.heap.objs.size >>= _) _ _ _ from zZ (rZ a3 (zW (hQ h' _ aK a1 a2 a4))))
 ·exact(show wpAny _ A (load s.heap.objs.size >>= _) _ _ _ from zZ (rZ a3 (zW (hQ h' _ aK a1 a2 a4))))
end
end
section
section
variable {X:Cx}{pins:List (Addr×Obj)}{σ:St}{H H':Hp}{s:Shared}{h':Heap}
theorem Inv.laids{t':Nat}(I:Inv X pins σ H s)(k:∀b u,s.heap.get? b=some u->h'.get? b=some u)(eq:∀b,b<s.heap.objs.size->H' b=H b)
  (new:∀a o,s.heap.objs.size<=a->H' a=some o->ObjOk X.prog X.w H' h' a o):Inv X pins σ H' { s with heap:=h',toks:=t' }:=by
 have sm:∀b o,H b=some o->H' b=some o:=λb o e=>(eq b (I.hok.lt e)).trans e;refine I.un ⟨λb u q _ _ _=>k b u q,λb u q _ _ _=>⟨u.slots,k b u q⟩,λb u q n _=>(eq b (zR q)).trans n,λb u q _=>⟨u,k b u q⟩,λb xs q=>sm _ _ q,λb u xs q=>sm _ _ q,λb ps q=>⟨#[],by rw[sm _ _ q];simp⟩⟩ λa o e=>?_;rcases Nat.lt_or_ge a s.heap.objs.size with h1|h1
 ·exact(I.hok a o ((eq a h1).symm.trans e)).stay (λb u _ q=>k b u q) (λb q=>sm _ _ q) λb xs q=>sm _ _ q
 ·exact new a o h1 e
end
def vt(H:Hp):List (Addr×HO)->Hp
 |[]=>H
 |p::l=>upd (vt H l) p.1 p.2
theorem kn{H:Hp}{b:Addr}:∀{l:List (Addr×HO)},(∀p∈l,p.1≠b)->vt H l b=H b
 |[],_=>rfl
 |p::l,h=>by
  show upd (vt H l) p.1 p.2 b=H b;rw[zk (wU (h p zH))];exact kn λq hq=>h q (zI _ hq)
theorem gn{H:Hp}{b:Addr}{o:HO}:∀{l:List (Addr×HO)},vt H l b=some o->(∃p∈l,p=(b,o))\/H b=some o
 |[],h=>.inr h
 |p::l,h=>by
  by_cases e:b=p.1
  ·subst e;have h2:upd (vt H l) p.1 p.2 p.1=some o:=h;rw[zx]at h2;cases h2;exact .inl ⟨p,zH,rfl⟩
  ·have h2:upd (vt H l) p.1 p.2 b=some o:=h;rw[zk e]at h2;rcases gn h2 with⟨q,hq,e2⟩|h3
   ·exact .inl ⟨q,zI _ hq,e2⟩
   ·exact .inr h3
theorem pe{H:Hp}{b:Addr}{o:HO}:∀{l:List (Addr×HO)},(b,o)∈l->(∀p∈l,p.1=b->p.2=o)->vt H l b=some o
 |p::l,h,u=>by
  show upd (vt H l) p.1 p.2 b=some o
  by_cases e:b=p.1
  ·subst e;rw[zx,u p zH rfl]
  ·rw[zk e];rcases zL.mp h with h1|h1
   ·subst h1;exact absurd rfl e
   ·exact pe h1 λq hq=>u q (zI _ hq)
theorem Wo{α:Type}{P:Nat->α->Prop}:∀n,(∀j,j<n->∃x,P j x)->∃l:List α,l.length=n/\∀j x,l[j]?=some x->P j x
 |0,_=>⟨[],rfl,λj x e=>by simp at e⟩
 |n+1,h=>by
  obtain⟨l,h1,h2⟩:=Wo n λj hj=>h j (xJ hj);obtain⟨x,hx⟩:=h n (yE n);refine⟨l++[x],by rw[zS,h1];rfl,λj y e=>?_⟩;rcases Nat.lt_or_ge j n with hj|hj
  ·rw[yG (by lia)]at e;exact h2 j y e
  ·rw[yH (by lia),h1]at e;have:j-n=0:=by
    rcases Nat.eq_zero_or_pos (j-n)with z|z
    ·exact z
    ·rw[wQ (by simp;lia)]at e;cases e
   rw[this]at e;have hjn:j=n:=by lia
   subst hjn;cases e;exact hx
section
variable {X:Cx}
def kvI(kvs:List (Int×Bool)):List (Key×V):=kvs.map λp=>(Sum.inl p.1,V.bl p.2)
theorem J9{kvs:List (Int×Bool)}{vs:List (Key×Value)}(r:KV (kvI kvs) vs):∀(j:Nat)(p:Int×Bool),kvs[j]?=some p->vs[j]?=some (Sum.inl p.1,Value.bool p.2):=by
 induction kvs generalizing vs with
 |nil=>intro j p e;simp at e
 |cons q l ih =>
  cases r with
  |cons h t =>
   intro j p e;cases j with
   |zero =>
    cases e;rename_i v DA;obtain⟨v1,v2⟩:=v;obtain⟨h1,h2⟩:=h;have pP:Sum.inl q.1=v1:=h1;have gR:v2=Value.bool q.2:=h2;subst pP;subst gR
    rfl
   |succ j=>exact ih t j p (by simpa using e)
def tq(H:Hp)(kvs:List (Int×Bool))(Q:VK):Prop:=∀(r:Addr)(ps:List (Addr×(Int×Bool)))(H':Hp),Same H H'->(ps.map (·.2)).Perm kvs->(ps.map (·.2)).Pairwise (λa b=>pLt b a=false) ->
 (∀p∈ps,H' p.1=some (.tup [.int p.2.1,.bl p.2.2]))->H' r=some (.lst (ps.map λp=>V.ref p.1))->Q (.ref r) H'
theorem O1(hc:X.calm=true){pins:List (Addr×Obj)}{σ:St}{H:Hp}{s:Shared}(I:Inv X pins σ H s){d:Addr}{kvs:List (Int×Bool)}{Q:VK}(e:H d=some (.dK (kvI kvs)))(nI:kvs.length<64)(q:tq H kvs Q):
  wpAny (model X.prog X.w) X.A (call (.builtin "sorted") [.ref s.heap.objs.size]) (EP X pins σ Q) X.xe { s with heap:=s.heap.push { cls:=.type "dict_items",data:=.fields #[.ref d] } }:=by
 have hh:X.A.handled=none:=I.ok.hd hc;obtain⟨hz,lo,vs,FZ,hD⟩:=P3 I.hok e;obtain⟨ep,GN⟩:=hD.dictAt;have aL:vs.length=kvs.length:=by
  have:=FZ.length;rw[<-this,kvI,zY]
 generalize As:s.heap.push { cls:=.type "dict_items",data:=.fields #[.ref d] }=h1;have k1:∀b o,s.heap.get? b=some o->h1.get? b=some o:=λb o e=>As▸zX _ e;have hv:h1.IsItemsView s.heap.objs.size d:=As▸⟨_,zT _ rfl,rfl,rfl⟩
 have nL:h1.objs.size=s.heap.objs.size+1:=by rw[<-As,xT]
 refine call_function_entry kind_sorted plain_sorted entry_sorted (args_sorted1 _) (by
  unfold Builtin.«sorted»;refine zZ (m:=checkCount "sorted" 1 1 _) (zW (zZ (jk (A:=X.A.in1) (knd:=xh X.prog X.w) (kvs:=vs) (ep:=ep) (s:={ s with heap:=h1 }) hh hv (GN.at' λo e=>k1 _ _ e) (by rw[aL,zP];lia) λh' tk aK keep iE hP=>?_)));have aO:s.heap.objs.size<h'.objs.size:=by
   have:h1.objs.size<h'.objs.size:=iE;lia
  obtain⟨R,oB,hR⟩:=Wo (α:=Addr×(Int×Bool)) (P:=λj r=>aK[j]?=some (.ref r.1)/\kvs[j]?=some r.2/\s.heap.objs.size<=r.1/\∃t,h'.get? r.1=some (Yz (.int r.2.1 t) (.bool r.2.2))) kvs.length λj hj=>by
   obtain⟨p,hp⟩:∃p,kvs[j]?=some p:=⟨_,zM hj⟩
   obtain⟨b,key,a1,a2,a3,a4⟩:=hP.2 j _ (by lia) (J9 FZ j p hp);rcases xy (show kl (Sum.inl p.1) key=true from a3)with⟨i,t,e1,e2⟩|⟨x,t,e1,e2⟩
   ·cases e1;subst e2;exact⟨(b,p),a1,hp,yS (by show s.heap.objs.size<=h1.objs.size+2;lia) a2,t,a4⟩
   ·cases e1
  have eacc:aK.toList=R.map λr=>Value.ref r.1:=by
   refine List.ext_getElem? λj=>?_;rw[zQ,wL];cases hj:R[j]? with
   |none =>
    have h2:R.length<=j:=tU.mp hj;rw[sV (by rw[hP.1];lia)]
    rfl
   |some r=>rw[(hR j r hj).1];rfl
  have ekvs:R.map (·.2)=kvs:=by
   refine List.ext_getElem? λj=>?_;rw[zQ];cases hj:R[j]? with
   |none =>
    have h2:R.length<=j:=tU.mp hj;rw[wQ (by lia)]
    rfl
   |some r=>rw[(hR j r hj).2.1];rfl
  have fP:∀r∈R,s.heap.objs.size<=r.1/\∃t,h'.get? r.1=some (Yz (.int r.2.1 t) (.bool r.2.2)):=λr hr=>by
   obtain⟨j,hj⟩:=List.getElem?_of_mem hr;exact(hR j r hj).2.2
  rw[eacc];refine zZ (tN ?_ (by rw[zY,oB,zP];lia));generalize hh2:Heap.push (Shared.heap { s with heap:=h',toks:=tk }) _=h2;have k2:∀b o,h'.get? b=some o->h2.get? b=some o:=λb o e=>hh2▸zX _ e;have eD:h2.get? h'.objs.size=some (seqObj "list" (R.map λr=>Value.ref r.1).toArray 0):=hh2▸zT _ rfl;refine zZ (xX ?_);refine xZ (s:={ s with heap:=h2,toks:=tk }) uA ⟨_,eD,rfl⟩ uI (Y7 (prog:=X.prog) (w:=X.w) eD (λr hr=>by
   obtain⟨t,z⟩:=(fP r hr).2;exact⟨_,t,_,k2 _ _ z,rfl,rfl⟩) (by lia) λR2 h3 e3 pm up k3 eD3=>⟨_,rfl,zW ⟨_,rfl,?_⟩⟩) (sM _)
  have hD:s.heap.objs.size<=h'.objs.size:=yC aO;have mR:∀r∈R2,s.heap.objs.size<=r.1/\r.1≠h'.objs.size/\∃t,h3.get? r.1=some (Yz (.int r.2.1 t) (.bool r.2.2)):=λr hr=>by
   obtain⟨z1,t,z2⟩:=fP r (pm.mem_iff.mp hr);have ne:r.1≠h'.objs.size:=zG (zR z2);exact⟨z1,ne,t,k3 _ _ ne (k2 _ _ z2)⟩
  have one:∀r∈R2,∀r'∈R2,r'.1=r.1->r'.2=r.2:=λr hr r' nN z=>by
   obtain⟨_,_,t,z2⟩:=mR r hr;obtain⟨_,_,t',z2'⟩:=mR r' nN;rw[z,z2]at z2';simp[Yz]at z2';exact(Prod.ext z2'.1.1 z2'.2).symm
  generalize hL:((h'.objs.size,HO.lst (R2.map λp=>V.ref p.1))::R2.map λp=>(p.1,HO.tup [V.int p.2.1,V.bl p.2.2]))=L;have mL:∀p∈L,s.heap.objs.size<=p.1:=λp hp=>by
   rw[<-hL]at hp;rcases zL.mp hp with z|z
   ·subst z;exact hD
   ·obtain⟨r,hr,z⟩:=zD.mp z;subst z;exact(mR r hr).1
  have EI:∀b,b<s.heap.objs.size->vt H L b=H b:=λb hb=>kn λp hp z=>absurd (mL p hp) (by rw[z];exact Nat.not_le_of_lt hb);have rX:Vals (R2.map λp=>V.ref p.1) (R2.map λp=>Value.ref p.1):=by
   have h1:(R2.map λr=>V.ref r.1)=(R2.map (·.1)).map V.ref:=by rw[yI];rfl
   have h2:(R2.map λr=>Value.ref r.1)=(R2.map (·.1)).map Value.ref:=by rw[yI];rfl
   rw[h1,h2];exact sw _
  have I2:Inv X pins σ (vt H L) { s with heap:=h3,toks:=tk }:=by
   refine Inv.laids I (λb o eb=>k3 b o (zG (yW (zR eb) hD)) (k2 _ _ (keep b o (k1 b o eb)))) EI λa o ha eo=>?_;rcases gn eo with⟨p,hp,z⟩|z
   ·rw[<-hL]at hp;rcases zL.mp hp with y|y
    ·rw[z]at y;cases y;exact⟨by rw[zY,pm.length_eq,zP];lia,_,e3,rX,eD3⟩
    ·obtain⟨r,hr,y⟩:=zD.mp y;rw[z]at y;cases y;obtain⟨_,_,t,z2⟩:=mR r hr;exact⟨by simp only[yR,xA];rw[zP];decide,[.int r.2.1 t,.bool r.2.2],.cons ⟨t,rfl⟩ (.cons rfl .nil),⟨_,z2,rfl,_,rfl⟩⟩
   ·exact absurd (I.hok.lt z) (Nat.not_lt_of_le ha)
  refine⟨.ref h'.objs.size,vt H L,I2,rfl,q _ R2 _ (λb o eb=>(EI b (I.hok.lt eb)).trans eb) (by rw[<-ekvs];exact pm.map _) up (λp hp=>?_) ?_⟩
  ·refine pe (by rw[<-hL];exact zI _ (zD.mpr ⟨p,hp,rfl⟩)) λp' rM z=>?_;rw[<-hL]at rM;rcases zL.mp rM with y|y
   ·subst y;exact absurd z.symm (mR p hp).2.1
   ·obtain⟨r,hr,y⟩:=zD.mp y;subst y;show HO.tup [V.int r.2.1,V.bl r.2.2]=_;rw[one p hp r hr z]
  ·refine pe (by rw[<-hL];exact zH) λp' rM z=>?_;rw[<-hL]at rM;rcases zL.mp rM with y|y
   ·subst y
    rfl
   ·obtain⟨r,hr,y⟩:=zD.mp y;subst y;exact absurd z (mR r hr).2.1)
def tSI(te:TE):TE:=fun σ H Q=>te σ H (ia λa H1=>∃kvs:List (Int×Bool),H1 a=some (.dK (kvI kvs))/\kvs.length<64/\tq H1 kvs Q)
theorem jm{e:Expr}{te:TE}{p1 p2 jD bH:Pos}(hc:X.calm=true)(g1:Gl X "sorted")(m1:X.mg "sorted"=none)(ha:PE X e te)
  (dX:starEach [.Call (.Attribute e "items" p2) [] [] bH] X.env=[(false,eval (.Call (.Attribute e "items" p2) [] [] bH) X.env)]:=by rfl)
  (oA:attributeBase e "items" X.env (eval e X.env)=eval e X.env:=by rfl) (nX:(p2.endLine==bH.line)=true:=by rfl) :
  PE X (.Call (.Name "sorted" p1) [.Call (.Attribute e "items" p2) [] [] bH] [] jD) (tSI te):=by
 intro pins s σ H Q I h;refine xK (ww I g1 m1 ux (vV ?_ dX rfl));rw[dX];refine(show wpAny _ _ (spliced ((false,eval (.Call (.Attribute e "items" p2) [] [] bH) X.env)::[])) _ _ s from wI ?_);refine wpAny_Call_method (T:="dict") (id:="dict.items") oA rfl nX F.plainAttrs_dict F.slot_dict_items F.type_dict_items (thn (ha pins s σ H _ I h) λu s1 ⟨x,H1,I1,r1,q1⟩=>?_);cases x with
 |ref a =>
  cases r1;obtain⟨kvs,hd,nI,q⟩:=(show∃kvs:List (Int×Bool),H1 a=some (.dK (kvI kvs))/\kvs.length<64/\tq H1 kvs Q from q1)
  obtain⟨hz,lo,vs,FZ,hD⟩:=P3 I1.hok hd;refine⟨hD.typeIs,hD.mapOf.noDict,?_⟩;show wpAny _ _ (callWith bH (.builtin "dict.items") [.ref a] [] []) _ _ s1;exact method_meetsIn F.slot_dict_items F.entry_dict_items rfl (PySem.evalArgs_none ⟨rfl,hD.typeIs,F.args_dict_items_1 _,_,meets_dict_items (xh X.prog X.w) a lo,⟨vs,hD⟩,wM (O1 hc I1 hd nI q)⟩)
 |_=>exact(show False from q1).elim
end
end
section
section
variable {X:Cx}
def tDG(td ti:TE):TE:=fun σ H Q=>td σ H (ia λa H1=>ti σ H1 (g9 λi H2=>∃kvs v,H2 a=some (.dK kvs)/\si kvs (Sum.inl i)=some v/\Q v H2))
theorem X9{o i:Expr}{td ti:TE}{pos:Pos}(hu:X.A.units+64<cLine)(ho:PE X o td)(hi:PE X i ti)(hs:Gk i):PE X (.Subscript o i pos) (tDG td ti):=by
 intro pins s σ H Q I h;refine O7 F.slot_dict_getitem.lookup hs (thn (ho pins s σ H _ I h) λu s1 ⟨x,H1,I1,rx,q1⟩=>?_);cases x with
 |ref a =>
  cases rx;refine thn (hi pins s1 σ H1 _ I1 q1) λiv s2 ⟨y,H2,I2,ry,q2⟩=>?_;cases y with
  |int n =>
   obtain⟨kvs,v,e,ev,q⟩:=(show∃kvs v,H2 a=some (.dK kvs)/\si kvs (Sum.inl n)=some v/\Q v H2 from q2)
   have g:Jl H2 a (.int n) (some v):=.inl ⟨kvs,Sum.inl n,.inl e,rfl,ev.symm⟩;exact⟨Z1 I2 g,Tu (by lia) I2 g ry λw' s3 I3 nB=>⟨v,H2,I3,nB,q⟩⟩
  |_=>exact(show False from q2).elim
 |_=>exact(show False from q1).elim
end
end
section
def lm(p:Int×Bool):PyData:=.tuple [.int p.1,.bool p.2]
theorem Z8{K:W.Frag}{H:Hp}{a:Addr}{n:Int}{b:Bool}(h:SqT K H a [.int n,.bl b]):Has K H (.ref a) (lm (n,b)):=by
 unfold lm Has;refine⟨a,_,rfl,h,?_⟩;unfold HasL;refine⟨_,_,rfl,by unfold Has;rfl,?_⟩;unfold HasL;refine⟨_,_,rfl,by unfold Has;rfl,?_⟩;simp[HasL]
theorem o6(p:Int×Bool):SeqAt.shaped (lm p)=true:=by
 unfold SeqAt.shaped lm;simp[PyData.canLay0,PyData.canLayAll0,PyData.depth,PyData.depthAll]
theorem P7(p q:Int×Bool):PyData.eqv (lm p) (lm q)=decide (p=q):=by
 obtain⟨a,u⟩:=p;obtain⟨b,v⟩:=q;unfold lm;simp only[PyData.eqv,PyData.eqvAll,sG]
 by_cases e:a=b
 ·subst e;cases u<;>cases v<;>simp
 ·simp[e]
end
section
theorem Pi{k:List Bool}{ps qs:List (Nat×Bool)}(h:ps.Perm qs):agr k ps=agr k qs:=by
 unfold agr;rw[tK,yD,yD];exact⟨λz p hp=>z p (h.mem_iff.mpr hp),λz p hp=>z p (h.mem_iff.mp hp)⟩
def xu(R:List (List Bool))(said:Nat->Bool)(tk:List (Nat×Bool))(n:Nat):Bool :=
 if(R.any λk=>agr k (tk++[(n,said n)]))=true then said n else !said n
def zf(R:List (List Bool))(said:Nat->Bool)(ord:List Nat):List (Nat×Bool):=ord.foldl (λtk n=>tk++[(n,xu R said tk n)]) []
theorem vh{R:List (List Bool)}{said:Nat->Bool}{ord:List Nat}{i n:Nat}(h:ord[i]?=some n):zf R said (ord.take (i+1))=zf R said (ord.take i)++[(n,xu R said (zf R said (ord.take i)) n)]:=by
 unfold zf;rw[yV,h,List.foldl_append]
 rfl
theorem ke(R:List (List Bool))(said:Nat->Bool):∀(ord:List Nat)(tk:List (Nat×Bool)),(ord.foldl (λtk n=>tk++[(n,xu R said tk n)]) tk).map (·.1)=tk.map (·.1)++ord
 |[],tk=>by simp
 |n::ord,tk=>by
  rw[vJ,ke R said ord];simp
theorem xm(R:List (List Bool))(said:Nat->Bool)(ord:List Nat):(zf R said ord).map (·.1)=ord:=by
 unfold zf;rw[ke];simp
theorem Zi(R:List (List Bool))(said:Nat->Bool)(ord:List Nat):(zf R said ord).length=ord.length:=by
 have:=wZ List.length (xm R said ord);simpa using this
def wk(tk:List (Nat×Bool)):List (Int×Bool):=tk.map λp=>(((p.1:Nat):Int),p.2)
theorem W2{kvs:List (Key×V)}{k:Key}{v:V}(h:∀p∈kvs,p.1≠k):ug kvs k v=kvs++[(k,v)]:=by
 unfold ug;rw[zC];intro z;obtain⟨p,hp,e⟩:=xU.mp z;exact h p hp (yK e)
theorem my:∀{tk:List (Nat×Bool)}{n:Nat}{b:Bool},(tk.map (·.1)).Nodup->(n,b)∈tk->si (kvI (wk tk)) (Sum.inl (n:Int))=some (V.bl b)
 |p::tk,n,b,hn,h=>by
  rw[List.map_cons,wO]at hn;show si ((Sum.inl (p.1:Int),V.bl p.2)::kvI (wk tk)) (Sum.inl (n:Int))=some (V.bl b);rcases zL.mp h with e|e
  ·subst e;exact uf rfl
  ·rw[ue λz=>?_]
   ·exact my hn.2 e
   ·have z2:((p.1:Nat):Int)=(n:Int):=Sum.inl.inj z;have z3:p.1=n:=Int.ofNat.inj z2;exact hn.1 (zD.mpr ⟨(n,b),e,z3.symm⟩)
theorem R5{qs:List (Int×Bool)}{tk:List (Nat×Bool)}(h:qs.Perm (wk tk)):∃ps:List (Nat×Bool),qs=wk ps/\ps.Perm tk:=by
 refine⟨qs.map λq=>(q.1.toNat,q.2),?_,?_⟩
 ·unfold wk;rw[yI];refine(List.map_id qs).symm.trans (tS λq hq=>?_);obtain⟨p,_,e⟩:=zD.mp (h.mem_iff.mp hq);subst e;simp
 ·have:=h.map λq:Int×Bool=>(q.1.toNat,q.2)
  refine this.trans ?_;unfold wk;rw[yI];have:((λq:Int×Bool=>(q.1.toNat,q.2))∘λp:Nat×Bool=>(((p.1:Nat):Int),p.2))=id:=by funext p;simp
  rw[this,List.map_id]
end
section
theorem Pu:bootBuiltins "str"=some (.type "str"):=by decide +kernel
section
variable {X:Cx}
def Qv:List V->Hp->VK->Prop:=λxs H Q=>match xs with
 |[.bl k]=>Q (.int (if k=true then 1 else 0)) H
 |_=>False
theorem Lp{k:Bool}{H:Hp}{Q:VK}:Qv [.bl k] H Q=Q (.int (if k=true then 1 else 0)) H:=rfl
theorem Nr:wo X (.type "int") Qv:=by
 intro pins s σ H xs us Q I r h
 match xs,h with
 |[.bl k],h=>exact To pins s σ H _ us Q I r (.inr ⟨k,rfl,h⟩)
end
def Say.text:Say->Str
 | .letter x=>x
 | .neg s=>Str.ofString "not "++s.text
 | .bin .con s t=>Str.ofString "("++s.text++Str.ofString " "++Str.ofString "and"++Str.ofString " "++t.text++Str.ofString ")"
 | .bin .dis s t=>Str.ofString "("++s.text++Str.ofString " "++Str.ofString "or"++Str.ofString " "++t.text++Str.ofString ")"
 | .bin .imp s t=>Str.ofString "(if "++s.text++Str.ofString " then "++t.text++Str.ofString ")"
def ut:Say->PyData
 | .letter x=>.tuple [.str (Str.ofString "letter"),.str x]
 | .neg s=>.tuple [.str (Str.ofString "not"),ut s]
 | .bin o s t=>.tuple [.str o.word,ut s,ut t]
theorem m7{K:W.Frag}{H:Hp}:∀{s:Say}{v:V},SayAt K H v s->Has K H v (ut s)
 | .letter x,v,⟨a,e,h⟩=>by
  subst e;unfold ut Has;exact⟨a,_,rfl,h,ge K H [_,_]⟩
 | .neg s,v,⟨a,u,e,h,h1⟩=>by
  subst e;have i1:=m7 h1;unfold ut Has;refine⟨a,_,rfl,h,?_⟩;unfold HasL;refine⟨_,_,rfl,by unfold Has;rfl,?_⟩;unfold HasL;refine⟨_,_,rfl,i1,?_⟩;simp[HasL]
 | .bin o s t,v,⟨a,u,u',e,h,h1,h2⟩=>by
  subst e;have i1:=m7 h1;have i2:=m7 h2;unfold ut Has;refine⟨a,_,rfl,h,?_⟩;unfold HasL;refine⟨_,_,rfl,by unfold Has;rfl,?_⟩;unfold HasL;refine⟨_,_,rfl,i1,?_⟩;unfold HasL;refine⟨_,_,rfl,i2,?_⟩;simp[HasL]
theorem Vb:PyData.strOk (Str.ofString "letter")=true:=by decide +kernel
theorem Kq:PyData.strOk (Str.ofString "not")=true:=by decide +kernel
theorem Ob:∀o:Op2,PyData.strOk o.word=true
 | .con=>by show PyData.strOk (Str.ofString "and")=true;decide +kernel
 | .dis=>by show PyData.strOk (Str.ofString "or")=true;decide +kernel
 | .imp=>by show PyData.strOk (Str.ofString "if")=true;decide +kernel
theorem ng:∀s:Say,(∀x∈s.letters,Nm x)->PyData.canLay0 (ut s)=true/\PyData.depth (ut s)<=s.pieces
 | .letter x,h=>by
  have:=(h x (zN.mpr rfl)).2;constructor
  ·simp[ut,PyData.canLay0,PyData.canLayAll0,this,Vb]
  ·simp[ut,PyData.depth,PyData.depthAll,Say.pieces]
 | .neg s,h=>by
  obtain⟨h1,h2⟩:=ng s h;constructor
  ·simp[ut,PyData.canLay0,PyData.canLayAll0,h1,Kq]
  ·simp[ut,PyData.depth,PyData.depthAll,Say.pieces,h2]
 | .bin o s t,h=>by
  obtain⟨h1,h2⟩:=ng s λx hx=>h x (zE.mpr (.inl hx));obtain⟨h3,h4⟩:=ng t λx hx=>h x (zE.mpr (.inr hx));constructor
  ·simp[ut,PyData.canLay0,PyData.canLayAll0,h1,h3,Ob]
  ·simp[ut,PyData.depth,PyData.depthAll,Say.pieces];lia
theorem gd{K:W.Frag}{H:Hp}:∀{us:List V}{ts:List Say},SaysAt K H us ts->HasL K H us (ts.map ut)
 |[],[],_=>by simp[HasL]
 |u::us,t::ts,h=>by
  have ih:=gd h.2;rw[List.map_cons];unfold HasL;exact⟨_,_,rfl,m7 h.1,ih⟩
theorem ag:∀ts:List Say,(∀t∈ts,t.pieces<=40/\∀x∈t.letters,Nm x)->PyData.canLayAll0 (ts.map ut)=true/\PyData.depthAll (ts.map ut)<=40
 |[],_=>by simp[PyData.canLayAll0,PyData.depthAll]
 |t::ts,h=>by
  obtain⟨h1,h2⟩:=ag ts λu hu=>h u (zI _ hu);have ht:=h t zH;obtain⟨a1,a2⟩:=ng t ht.2;rw[List.map_cons];refine⟨?_,?_⟩
  ·rw[PyData.canLayAll0,h1,sG,a1]
  ·rw[PyData.depthAll];lia
def V3(ts:List Say)(ks:List (List Bool)):PyData:=.tuple [.tuple (ts.map ut),.tuple (ks.map lu)]
theorem Z7{K:W.Frag}{H:Hp}{p a b:Addr}{us:List V}{ts:List Say}{J:List (Addr×List Bool)}(hp:SqT K H p [.ref a,.ref b])(ha:SqT K H a us)(hS:SaysAt K H us ts)(hb:SqT K H b (J.map λr=>V.ref r.1))(hJ:∀r∈J,SqT K H r.1 (r.2.map V.bl)):Has K H (.ref p) (V3 ts (J.map (·.2))):=by
 unfold V3 Has;refine⟨p,_,rfl,hp,?_⟩;unfold HasL;refine⟨_,_,rfl,?_,?_⟩
 ·unfold Has;exact⟨a,_,rfl,ha,gd hS⟩
 unfold HasL;refine⟨_,_,rfl,?_,?_⟩
 ·unfold Has;exact⟨b,_,rfl,hb,gc hJ⟩
 ·simp[HasL]
theorem bp{ts:List Say}{ks:List (List Bool)}(h:∀t∈ts,t.pieces<=40/\∀x∈t.letters,Nm x):SeqAt.shaped (V3 ts ks)=true:=by
 obtain⟨h1,h2⟩:=ag ts h;obtain⟨h3,h4⟩:=af ks;unfold SeqAt.shaped V3;rw[yJ];constructor
 ·simp[PyData.canLay0,PyData.canLayAll0,h1,h3]
 ·refine zA ?_;simp[PyData.depth,PyData.depthAll];lia
end
section
section
variable {X:Cx}
def tLR(ta:TA):TE:=fun σ H Q=>ta σ H (on1 (g9 λj H1=>(0<=j/\j<=1000)/\New H1 (.lst ((List.range j.toNat).map λn=>V.int ((n:Nat):Int))) Q))
theorem Zo{us:List Value}{n:Nat}(hl:us.length=n)(h:∀(i:Nat) v,us[i]?=some v->∃t,v=Value.int (i:Int) t):Vals ((List.range n).map λn=>V.int ((n:Nat):Int)) us:=by
 induction n generalizing us with
 |zero =>
  rw[wP.mp hl];exact .nil
 |succ n ih =>
  rw[vI,zJ];obtain⟨vs,v,rfl⟩:∃vs v,us=vs++[v]:=⟨us.dropLast,us.getLast (by intro z;rw[z]at hl;simp at hl),(List.dropLast_concat_getLast _).symm⟩
  have hvl:vs.length=n:=by simpa using hl
  refine(ih hvl λi u hu=>h i u ?_).append (.cons ?_ .nil)
  ·rw[yG (zV.mp hu).1];exact hu
  ·have:=h n v (by rw[yH (by lia),hvl,Nat.sub_self];rfl);exact this
theorem aj{a:Expr}{ta:TA}{p1 p2 jD bH:Pos}(hc:X.calm=true)(g1:Gl X "list")(m1:X.mg "list"=none)(g2:Gl X "range")(m2:X.mg "range"=none)(ha:PA X [a] ta)
  (hs:starEach [a] X.env=[(false,eval a X.env)]:=by rfl)
  (dX:starEach [.Call (.Name "range" p2) [a] [] bH] X.env=[(false,eval (.Call (.Name "range" p2) [a] [] bH) X.env)]:=by rfl) :
  PE X (.Call (.Name "list" p1) [.Call (.Name "range" p2) [a] [] bH] [] jD) (tLR ta):=by
 intro pins s σ H Q I h;refine Call_ (ww I g1 m1 qb (xY ?_ dX rfl));rw[dX];refine(show wpAny _ _ (spliced ((false,eval (.Call (.Name "range" p2) [a] [] bH) X.env)::[])) _ _ s from wI ?_);refine Call_ (ww I g2 m2 boot_range (xY (thn (ha bH pins s σ H _ I h) λus s1 ⟨vs,H1,I1,r1,q1⟩=>?_) hs rfl));rcases vs with _|⟨x,_|⟨y,rr⟩⟩
 ·exact(show False from q1).elim
 ·cases x with
  |int j =>
   obtain⟨⟨q0,q2⟩,q⟩:=(show(0<=j/\j<=1000)/\New H1 (.lst ((List.range j.toNat).map λn=>V.int ((n:Nat):Int))) Q from q1)
   cases r1 with
   |cons r rr =>
    cases rr;obtain⟨t,rfl⟩:=r;refine call_range_1 ?_;refine wM ?_;have I2:Inv X pins σ H1 { s1 with heap:=s1.heap.push { cls:=.type "range",data:=.fields #[.int 0 s1.toks,.int j t,.int 1 (s1.toks+1)] },toks:=s1.toks+1+1 }:=I1.kept λb o e=>zX _ e;have hn:Builtin.Range.rangeSize 0 j 1=((j.toNat:Nat):Int):=by
     rw[rangeSize_one];split<;>lia
    refine call_list_range (I2.ok.hd hc) (IsRange.new ..) (small_one (by decide) (by decide) (by lia) (by lia)) hn (by lia) λh' tk cC c' kp e eZ=>?_;have hv:Vals ((List.range j.toNat).map λn=>V.int ((n:Nat):Int)) cC.toList:=by
     refine Zo (by simpa using eZ.1) λi v hv=>?_;obtain⟨t,e⟩:=eZ.2 i v (by rw[<-wL];exact hv);refine⟨t,?_⟩;rw[e]
     congr 1
     lia
    have hsz:((List.range j.toNat).map λn=>V.int ((n:Nat):Int)).length<=sizeLine:=by
     rw[zY,xS,zP];lia
    exact⟨.ref _,_,I2.laid (t':=tk) kp (zU _) (show ObjOk X.prog X.w _ h' _ (.lst _)from⟨hsz,cC.toList,c',hv,by simpa using e⟩),rfl,New.at q _ (I2.hok.fresh (zU _))⟩
  |_=>exact(show False from q1).elim
 ·exact(show False from q1).elim
end
end
end My
namespace My
open PySem
theorem len1{us:List Value}(h:us.length=1):∃a,us=[a]:=by
 cases us with
 |nil=>cases h
 |cons a us=>exact⟨a,by rw[wP.mp (sA h)]⟩
theorem len2{us:List Value}(h:us.length=2):∃a b,us=[a,b]:=by
 cases us with
 |nil=>cases h
 |cons a us=>obtain⟨b,e⟩:=len1 (sA h);exact⟨a,b,by rw[e]⟩
theorem len3{us:List Value}(h:us.length=3):∃a b c,us=[a,b,c]:=by
 cases us with
 |nil=>cases h
 |cons a us=>obtain⟨b,c,e⟩:=len2 (sA h);exact⟨a,b,c,by rw[e]⟩
theorem len4{us:List Value}(h:us.length=4):∃a b c d,us=[a,b,c,d]:=by
 cases us with
 |nil=>cases h
 |cons a us=>obtain⟨b,c,d,e⟩:=len3 (sA h);exact⟨a,b,c,d,by rw[e]⟩
theorem len5{us:List Value}(h:us.length=5):∃a b c d f,us=[a,b,c,d,f]:=by
 cases us with
 |nil=>cases h
 |cons a us=>obtain⟨b,c,d,f,e⟩:=len4 (sA h);exact⟨a,b,c,d,f,by rw[e]⟩
end My
namespace My
open PySem PySem.Spec PySem.W PySem.Calls L2
open PyProof.Rows hiding St
section
section
variable {X:Cx}
def Mg(K:W.Frag):R2:=λx y H Q=>match x,y with
 | .ref p,.ref r=>∃xs ys,SqT K H p xs/\SqT K H r ys/\xs.length+ys.length<=sizeLine/\∀(p:Addr)(H':Hp),Same H H'->SqT K H' p (xs++ys)->Q (.ref p) H'
 |_,_=>False
theorem Li{K:W.Frag}{p r:Addr}{H:Hp}{Q:VK}:Mg K (.ref p) (.ref r) H Q=∃xs ys,SqT K H p xs/\SqT K H r ys/\xs.length+ys.length<=sizeLine/\∀(p:Addr)(H':Hp),Same H H'->SqT K H' p (xs++ys)->Q (.ref p) H':=rfl
theorem Kf:OpR X (binaryOp .Add) (Mg X.K):=by
 intro pins s σ H x y v u Q I rx ry h;cases x with
 |ref p=>cases y with
  |ref r=>exact zg pins s σ H _ _ v u Q I rx ry (.inr h)
  |_=>exact(show False from h).elim
 |_=>exact(show False from by cases y<;>exact h).elim
def Qw:Pg:=λx y v H k=>match x with
 | .ref a=>∃kvs ky,H a=some (.dK kvs)/\y=kV ky/\kvs.length<sizeLine/\k (upd H a (.dK (ug kvs ky v)))
 |_=>False
theorem Lu{a:Addr}{y v:V}{H:Hp}{k:Hp->Prop}:Qw (.ref a) y v H k=∃kvs ky,H a=some (.dK kvs)/\y=kV ky/\kvs.length<sizeLine/\k (upd H a (.dK (ug kvs ky v))):=rfl
theorem Sr(hu:X.A.units+64<cLine):M0 X Qw:=by
 intro pins s σ H o i v ov iv u Q I ro ri rv h;cases o with
 |ref a=>exact W7 hu pins s σ H _ i v ov iv u Q I ro ri rv (.inl h)
 |_=>exact(show False from h).elim
def Md(K:W.Frag)(tl:TE):TI:=fun σ H R=>tl σ H (ia λa H1=>(∃xs,SqT K H1 a xs)/\R (Itt K a) H1)
theorem Oq{tg l:Expr}{tl:TE}(hl:PE X l tl):PI X tg l (Md X.K tl):=by
 intro pins s σ H R I h;refine thn (hl pins s σ H _ I h) λv s1 ⟨x,H1,I1,r1,q1⟩=>?_;cases x with
 |ref a =>
  cases r1;obtain⟨⟨xs,hq⟩,q⟩:=(show(∃xs,SqT X.K H1 a xs)/\R (Itt X.K a) H1 from q1)
  obtain⟨aE,rv,p,hz⟩:=I1.tuple hq;refine wH (show s1.heap.IsTuple a aE.toArray from p) ?_;refine⟨s1.heap.objs.size,[s1.heap.objs.size],_,_,H1,rfl,I1.kept (t':=s1.toks) λb o e=>zX _ e,mw a _,⟨_,zT _ rfl,rfl,rfl⟩,λb hb=>?_,q⟩;have e:b=s1.heap.objs.size:=by simpa using hb
  subst e;exact I1.fpOk (zU _) (I1.hok.fresh (zU _))
 |_=>exact(show False from q1).elim
theorem dk{o i e:Expr}{to ti te:TE}{p1 p2:Pos}(hu:X.A.units+64<cLine)(ho:PE X o to)(hi:PE X i ti)(he:PE X e te)
  (ha:∀v,assign (.Subscript o i p1) X.env v=(do
   let ov <-holding [v] (eval o X.env)
   let iv <-holding [v,ov] (eval i X.env)
   standAt p1
   holding [v,ov,iv] (setItem ov iv v)
   release [v,ov,iv] []):=by intro _;rfl)
  (hs:swapsWithSole [.Subscript o i p1] e p2.line X.env=pure false:=by rfl) (hw:swappedStores [.Subscript o i p1] e X.env=pure none:=by rfl)
  (h1:(assignEach [.Subscript o i p1] X.env).map (·.2)=[assign (.Subscript o i p1) X.env]:=by rfl):PS X (.Assign [.Subscript o i p1] e p2) (Vs te (Nc to ti Qw)):=Sd he (R6 ho hi (Sr hu) ha) hs hw h1
end
end
section
section
variable {X:Cx}
theorem R0{α β:Type}{f:α->β}:∀{ws:List β}{T:List α},ws.Perm (T.map f)->∃T':List α,T'.Perm T/\ws=T'.map f:=by
 intro ws T h;generalize hg:T.map f=us at h
 induction h generalizing T with
 |nil =>
  cases T with
  |nil=>exact⟨[],.nil,rfl⟩
  |cons _ _=>simp at hg
 |cons x _ ih =>
  cases T with
  |nil=>simp at hg
  |cons t T =>
   rw[List.map_cons]at hg;injection hg with h1 h2;obtain⟨T',p,e⟩:=ih h2;exact⟨t::T',.cons t p,by rw[List.map_cons,h1,e]⟩
 |swap x y l =>
  match T,hg with
  |a::b::T,hg =>
   simp only[List.map_cons,List.cons.injEq]at hg;obtain⟨h1,h2,h3⟩:=hg;exact⟨b::a::T,.swap a b T,by simp[h1,h2,h3]⟩
 |trans _ _ ih1 ih2 =>
  obtain⟨T1,p1,e1⟩:=ih2 hg;obtain⟨T2,p2,e2⟩:=ih1 e1.symm;exact⟨T2,p2.trans p1,e2⟩
end
end
section
section
variable {prog:Program}{w:World}{A:Around}{E:Value->Shared->Prop}{s:Shared}
end
section
variable {X:Cx}
end
section
open PySem.SeqAt
open PySem.AutoSeq1 (wpAny_loadPart')
open PySem.MeetsSeq PySem.MeetsSeq2 PySem.MeetsSeq3
end
section
variable {prog:Program}{w:World}{A:Around}{E:Value->Shared->Prop}{s:Shared}
end
section
variable {X:Cx}
end
theorem Uw{K:W.Frag}{a b:Addr}{xs ys:List V}{j k:Nat}{tb:TS}{D:tp}{σ:St}{H:Hp}(Pv:Nat->St->Hp->Prop)(pE:xs.length=ys.length)(h0:Pv 0 σ H)(hl:∀i σ H,i<=xs.length->Pv i σ H->SqL K H a xs/\SqL K H b ys)
  (hs:∀(i:Nat) x y σ H H',xs[i]?=some x->ys[i]?=some y->Pv i σ H->Same H H'->tb { D with nx:=Pv (i+1),ct:=Pv (i+1),bk:=D.nx } (sv (sv σ j x) k y) H') (hd:∀σ H,Pv xs.length σ H->D.nx σ H) :
  Zs (mG2 K j k) tb (Itz K a b) D σ H :=
 k7 (n:=xs.length) Pv h0 (λi σ H hi p=>⟨xs,ys,xs[i],ys[i]'(pE▸hi),(hl i σ H (yC hi) p).1,(hl i σ H (yC hi) p).2,by simp[hi],by simp[pE▸hi]⟩)
  (fun σ H p=>⟨xs,ys,(hl _ σ H (zU _) p).1,(hl _ σ H (zU _) p).2,rfl,pE.symm⟩) (λi v σ H H' hi p y=>by
  obtain⟨q,x,z,rfl,hn,rfl,hx,hz⟩:=y;have hl':=hl i σ H (yC hi) p;exact⟨q,_,_,rfl,SqT.of zx,hs i x z σ H _ (hx xs hl'.1) (hz ys hl'.2) p (w8 hn _)⟩) hd
end
section
open Tb
theorem Wg:∀{vs:List Value}{ns:List Int},IntsAre vs ns->∀(i:Nat)(v:Value),vs[i]?=some v->∃x t,ns[i]?=some x/\v = .int x t
 |_,_,.nil,i,v,h=>by simp at h
 |_,_,.cons x t r,0,v,h=>⟨x,t,rfl,by simpa using h.symm⟩
 |_,_,.cons x t r,i+1,v,h=>by
  obtain⟨y,u,h1,h2⟩:=Wg r i v (by simpa using h);exact⟨y,u,by simpa using h1,h2⟩
section
variable {prog:Program}{w:World}{A:Around}{E:Value->Shared->Prop}{s:Shared}
def UpT(t:SetTable):Prop:=t.dummies=#[]/\(t.plain=true->t.place.toList.Pairwise (·<·))
theorem Q8{t:SetTable}(h:t.dummies=#[])(j:Nat):t.slot j≠.dummy:=by
 unfold SetTable.slot;dsimp only;split
 ·exact λz=>by cases z
 ·rw[h];have:SetTable.has #[] j=false:=by simp[SetTable.has]
  rw[this];simp
theorem bf{t:SetTable}(h:t.dummies=#[])(ha:Nat->Int)(x:Int):∀(f:Nat)(p:SetTable.Probe)(j:Nat)(d:Option Nat),p.dummy=none->SetTable.probe.go t ha x f p=some (.empty j d)->t.slot j = .empty/\d=none
 |0,p,j,d,_,e=>by simp[SetTable.probe.go]at e
 |f+1,p,j,d,hp,e=>by
  rw[SetTable.probe.go]at e;cases hs:t.slot p.j with
  |empty =>
   rw[hs]at e;simp only[Option.some.injEq,SetTable.Met.empty.injEq]at e;obtain⟨rfl,rfl⟩:=e;exact⟨hs,hp⟩
  |dummy=>exact(Q8 h p.j hs).elim
  |live i =>
   rw[hs]at e;simp only at e;have hadv:(t.advance p).dummy=none:=by
    unfold SetTable.advance;split
    ·exact hp
    ·exact hp
   split at e
   ·cases e
   ·exact bf h ha x f _ j d hadv e
theorem Tw{t:SetTable}{j:Nat}(h:t.slot j = .empty)(hr:t.place.toList.Pairwise (·<·)):j∉t.place.toList:=λhj=>by
 have:=fo hr hj;unfold SetTable.slot at h;dsimp only at h;rw[wL,uZ]at this;rw[this]at h;simp at h
theorem UpT.stand(t:SetTable)(n:Nat):UpT (t.standIn n):=⟨rfl,λz=>by cases z⟩
theorem Us{t:SetTable}(u:UpT t)(es:Array (Int×Value))(h:Int)(x:Value):UpT (layNew t es h x).2.1:=by
 unfold layNew;cases hf:t.freeSlot h with
 |none=>exact UpT.stand _ _
 |some sl =>
  obtain⟨slot,wd⟩:=sl;dsimp only;unfold SetTable.orStandIn;split
  ·unfold SetTable.freeSlot at hf;cases hp:t.probe (λ_=>h+1) h (t.probeStart h)with
   |none=>rw[hp]at hf;cases hf
   |some m =>
    rw[hp]at hf;cases m with
    |candidate a b c=>cases hf
    |empty j d =>
     obtain⟨h1,h2⟩:=bf u.1 _ _ _ _ j d rfl hp;subst h2;simp only[Option.getD_none,Option.some.injEq,Prod.mk.injEq]at hf;obtain⟨rfl,_⟩:=hf;refine⟨?_,λcZ=>?_⟩
     ·unfold SetTable.put;dsimp only;rw[u.1];have:SetTable.has #[] j=false:=by simp[SetTable.has]
      rw[this]
      rfl
     ·have hr:=u.2 cZ;unfold SetTable.put;dsimp only;have e:=vc t.place.toList (SetTable.below t.place j) j;rw[uZ]at e;rw[e];have:=i9 hr (Tw h1 hr)
      rwa [uZ]at this
  ·exact UpT.stand _ _
theorem bg(t:SetTable)(es:Array (Int×Value))(n:Nat):UpT (relayAll t es n).2.1:=by
 unfold relayAll;cases hr:t.relaid (es.map (·.1)) n with
 |none=>exact UpT.stand _ _
 |some q =>
  obtain⟨t',o⟩:=q;dsimp only;split
  ·unfold SetTable.relaid SetTable.laid at hr;cases hl:SetTable.layClean (SetTable.sizeAbove n-1) (es.map (·.1))with
   |none=>rw[hl]at hr;cases hr
   |some ow =>
    rw[hl]at hr;have hr:=yY hr;have e:=(Prod.mk.inj hr).1;rw[<-e];exact⟨rfl,λ_=>Mf (SetTable.sizeAbove n-1) ow⟩
  ·exact UpT.stand _ _
structure GoodI(Es:List (Int×Value))(D:List Int):Prop where
 in1:∀e∈Es,∃x t,x∈D/\e=(hashInt x,.int x t)
 in2:∀x∈D,∃t,(hashInt x,.int x t)∈Es
 one:Es.Pairwise λe e'=>∀x t t',e.2 = .int x t->e'.2≠.int x t'
theorem GoodI.perm{Es Cp:List (Int×Value)}{D:List Int}(g:GoodI Es D)(p:Cp.Perm Es):GoodI Cp D :=
 ⟨λe he=>g.in1 e (p.mem_iff.mp he),λx hx=>let⟨t,h⟩:=g.in2 x hx;⟨t,p.mem_iff.mpr h⟩,(p.pairwise_iff (λ{a b} iP x t t' h1 h2=>iP x t' t h2 h1)).mpr g.one⟩
theorem GoodI.elems{Es:List (Int×Value)}{D:List Int}(g:GoodI Es D):ElemsOf (PySem.intKind prog w) Es:=λe he=>by
 obtain⟨x,t,_,rfl⟩:=g.in1 e he;exact⟨⟨x,by show Value.isInt x (.int x t)=true;simp[Value.isInt],rfl⟩,rfl⟩
theorem add_int{S:Addr}{ep:Nat}{es:Array (Int×Value)}{t:SetTable}{D:List Int}{x:Int}{tok:Tok}(hS:s.heap.get? S=some (yw es ep t))(hf:t.fits es.size=true)(g:GoodI es.toList D)(hb:es.size+1<scanBound)(cZ:UpT t){Q:Bool->Shared->Prop}
  (q:∀(b:Bool)(h':Heap)(tk:Nat)(bE:Array (Int×Value))(fA:Nat)(t':SetTable),h'.get? S=some (yw bE fA t')->Heap.SameBut S s.heap h'->t'.fits bE.size=true->t'.led=t.led->UpT t'->GoodI bE.toList (D++[x])->bE.size<=es.size+1->Q b { s with heap:=h',toks:=tk }) :
  wpAny (model prog w) A (setAdd S (.int x tok)) Q E s:=by
 have nG:(PySem.intKind prog w).is x (.int x tok)=true:=by show Value.isInt x (.int x tok)=true;simp[Value.isInt]
 unfold setAdd;refine xX (zZ ((PySem.intKind prog w).pyHash nG ?_));have qX:({ s with toks:=s.toks+1 }:Shared).heap.get? S=some (yw es ep t):=hS;unfold setAddHashed setAddHashedIn;refine xX (zZ (xI qX rfl hf ?_));dsimp only;rw[byScan_of (knd:=PySem.intKind prog w) rfl (by lia) g.elems];simp only[if_true];unfold setAddByScan;refine zZ (zZ (uS (zZ (wpAny_setScan_of (knd:=PySem.intKind prog w) nG qX rfl hf g.elems ?_))));cases hr:List.findIdx? (λe=>(PySem.intKind prog w).is x e.2) es.toList with
 |some j =>
  dsimp only;obtain⟨hj,FO,_⟩:=List.findIdx?_eq_some_iff_getElem.mp hr;refine zW (zW (q false s.heap _ es ep t hS (sR S s.heap) hf rfl cZ ⟨λe he=>?_,λy hy=>?_,g.one⟩ (wB _)))
  ·obtain⟨y,t',h1,h2⟩:=g.in1 e he;exact⟨y,t',xP _ h1,h2⟩
  ·rcases zE.mp hy with hy|hy
   ·exact g.in2 y hy
   ·rw[zN.mp hy];have hm:=vS hj;obtain⟨y',t',_,e⟩:=g.in1 _ hm;rw[e]at FO;have:y'=x:=by
     have h5:Value.isInt x (.int y' t')=true:=FO;simpa[Value.isInt]using h5
    subst this;exact⟨t',by rw[<-e];exact hm⟩
 |none =>
  dsimp only;have kK:∀e∈es.toList,∀t',e.2≠.int x t':=λe he t' z=>by
   have:=List.findIdx?_eq_none_iff.mp hr e he;rw[z]at this;have h5:Value.isInt x (.int x t')=false:=this;simp[Value.isInt]at h5
  have bM:=layNew_perm t es (hashInt x) (.int x tok);have gQ:=layNew_fits t es (hashInt x) (.int x tok);have dC:=ko t es (hashInt x) (.int x tok);have Bf:=Us cZ es (hashInt x) (.int x tok);have hh:(PySem.intKind prog w).hash x=hashInt x:=rfl;rw[hh];generalize hL:layNew t es (hashInt x) (.int x tok)=L at bM gQ dC Bf ⊢;obtain⟨cT,t1,rW,gave⟩:=L;dsimp only at bM gQ dC Bf ⊢;rw[Array.toList_push]at bM;have hsz:cT.size=es.size+1:=by
   have:=bM.length_eq;simpa using this
  have qZ:GoodI cT.toList (D++[x]):=by
   refine GoodI.perm (Es:=(hashInt x,Value.int x tok)::es.toList) ⟨λe he=>?_,λy hy=>?_,xW.mpr ⟨λe he y t1 t2 h1 h2=>?_,g.one⟩⟩ (bM.trans (uE _ _))
   ·rcases zL.mp he with rfl|he
    ·exact⟨x,tok,yP _ (zN.mpr rfl),rfl⟩
    ·obtain⟨y,t',h1,h2⟩:=g.in1 e he;exact⟨y,t',xP _ h1,h2⟩
   ·rcases zE.mp hy with hy|hy
    ·obtain⟨t',h⟩:=g.in2 y hy;exact⟨t',zI _ h⟩
    ·rw[zN.mp hy];exact⟨tok,zH⟩
   ·cases h1;exact kK e he t2 h2
  have GD:∀(b:Bool)(s₁:Shared)(Q':Unit->Shared->Prop),Q' () s₁->wpAny (model prog w) A (match b with|true=>rule "set.scan.the-table-gave-way" | false=>pure ()) Q' E s₁:=λb s₁ Q' hq=>by
   cases b
   ·exact zW hq
   ·exact uS hq
  have rY:∀t2:SetTable,t2.fits cT.size=true->t2.led=t.led->UpT t2->∀(R:Option Bool->Shared->Prop),(∀h' bE fA t',h'.get? S=some (yw bE fA t')->Heap.SameBut S s.heap h'->t'.fits bE.size=true->t'.led=t.led->UpT t'->bE.toList.Perm cT.toList->R (some true) { s with heap:=h',toks:=s.toks+1 }) ->
    wpAny (model prog w) A (do
     storeSet S cT t2
     if(!rW&&t2.tooFull)=true then do
      (match(relayAll t2 cT (SetTable.grown cT.size)).2.2 with|true=>rule "set.scan.the-table-gave-way" | false=>pure ())
      storeSet S (relayAll t2 cT (SetTable.grown cT.size)).1 (relayAll t2 cT (SetTable.grown cT.size)).2.1
      pure (some true)
     else pure (some true)) R E { s with toks:=s.toks+1 }:=by
   intro t2 f2 l2 p2 R hR;refine zZ (v3 qX (uX (by rw[hsz];exact hb)) λh1 Az AM=>?_);split
   ·have jV:=relayAll_perm t2 cT (SetTable.grown cT.size);have hf2:=relayAll_fits t2 cT (SetTable.grown cT.size);have mP:=(qo t2 cT (SetTable.grown cT.size)).1;have CF:(relayAll t2 cT (SetTable.grown cT.size)).1.size=cT.size:=by
     have:=jV.length_eq;simpa using this
    refine zZ (GD _ _ _ (zZ (v3 (s:={ s with heap:=h1,toks:=s.toks+1 }) Az (uX (by rw[CF,hsz];exact hb)) λh2 hS3 DF=>zW ?_)));exact hR h2 _ _ _ hS3 (AM.trans DF) hf2 (mP.trans l2) (bg _ _ _) jV
   ·exact zW (hR h1 cT _ t2 Az AM f2 l2 p2 .rfl)
  have bC:∀h' bE fA t',h'.get? S=some (yw bE fA t')->Heap.SameBut S s.heap h'->t'.fits bE.size=true->t'.led=t.led->UpT t'->bE.toList.Perm cT.toList->Q true { s with heap:=h',toks:=s.toks+1 }:=λh' bE fA t' e1 e2 e3 e4 e5 e6=>by
   refine q true h' _ bE fA t' e1 e2 e3 e4 e5 (qZ.perm e6) ?_;have:=e6.length_eq;simp at this;lia
  refine zZ (GD _ _ _ ?_);split
  ·rw[hashByValue_scannable 8 (x:=.int x tok) rfl];refine zZ (zW ?_);simp only[plainKind,if_true];exact rY t1 gQ dC Bf _ λh' bE fA t' e1 e2 e3 e4 e5 e6=>zW (bC h' bE fA t' e1 e2 e3 e4 e5 e6)
  ·rename_i pI;refine zZ (zW ?_);simp only[if_true];exact rY t1 gQ dC Bf _ λh' bE fA t' e1 e2 e3 e4 e5 e6=>zW (bC h' bE fA t' e1 e2 e3 e4 e5 e6)
end
section
variable {X:Cx}
theorem O3(hc:X.calm=true){pins:List (Addr×Obj)}{σ:St}{H:Hp}{s:Shared}(I:Inv X pins σ H s){p:Addr}{ss:List Int}{Q:VK}(hq:SqL X.K H p (ss.map V.int)\/SqT X.K H p (ss.map V.int))(aL:ss.length+1<scanBound)(nI:∀bS:List Int,bS.Nodup->(∀x∈bS,x∈ss)->bS.length<64)
  (q:∀bS:List Int,bS.Nodup->(∀x,x∈bS↔x∈ss)->bS.Pairwise (·<=·)->New H (.lst (bS.map V.int)) Q) :
  wpAny (model X.prog X.w) X.A (call (.type "set") [.ref p]) (λu s'=>wpAny (model X.prog X.w) X.A (call (.builtin "sorted") [u]) (EP X pins σ Q) X.xe s') X.xe s:=by
 obtain⟨aE,rv,pl⟩:∃aE:List Value,Vals (ss.map V.int) aE/\(s.heap.IsList p aE.toArray\/s.heap.IsTuple p aE.toArray):=by
  rcases hq with hq|hq
  ·obtain⟨aE,rv,pl,_⟩:=I.list hq;exact⟨aE,rv,.inl pl.isList⟩
  ·obtain⟨aE,rv,pl,_⟩:=I.tuple hq;exact⟨aE,rv,.inr pl⟩
 have iD:=qy rv;have AS:aE.length=ss.length:=by rw[<-rv.length,zY]
 have hh:X.A.handled=none:=I.ok.hd hc;refine Sq hh pl (λi h=>∃es ep t,h.get? s.heap.objs.size=some (yw es ep t)/\t.fits es.size=true/\t.led=!byT X.w/\UpT t/\GoodI es.toList (ss.take i)/\es.size<=i) ?_ ?_ ?_ ?_
 ·rintro i h h' ⟨es,ep,t,e,r⟩ k;exact⟨es,ep,t,k _ _ (zG (yE _)) e,r⟩
 ·refine⟨#[],0,_,zT _ rfl,rfl,rfl,⟨rfl,λ_=>.nil⟩,⟨λe he=>by simp at he,λx hx=>by simp at hx,.nil⟩,zU _⟩
 ·rintro i v A' s' Q' E' hu hv ⟨es,ep,t,e,f,l,pn,g,le⟩ qq;have mM:aE[i]?=some v:=by simpa using hv
  obtain⟨x,tok,hx,rfl⟩:=Wg iD i v mM;have hi:i<ss.length:=(zV.mp hx).1;refine add_int e f g (by lia) pn λb h' tk bE fA t' e' sb f' l' pn' g' le'=>qq b h' tk sb ⟨bE,fA,t',e',f',l'.trans l,pn',?_,by lia⟩;rw[yV,hx];exact g'
 ·rintro h' tk ⟨es,ep,t,e,f,l,pn,g,le⟩ keep;have pN:aE.toArray.size=ss.length:=by rw[zO,AS]
  rw[pN,yX]at g;rw[pN]at le;have nU:=pn.2;have hzl:es.size<=sizeLine:=uX (by lia);refine rj (s:={ s with heap:=h',toks:=tk }) hh e f l nU hzl λD h2 d Ek ws hp mK hD eD=>?_;have rL:∀v,v∈ws->∃x t,v = .int x t:=λv hv=>by
   obtain⟨e1,dX,rfl⟩:=zD.mp (hp.mem_iff.mp hv);obtain⟨x,t,_,rfl⟩:=g.in1 e1 dX;exact⟨x,t,rfl⟩
  have hS:=intsAre_map ws rL;have dB:∀x,x∈ws.map numOf↔x∈ss:=λx=>by
   constructor
   ·intro hx;obtain⟨v,hv,rfl⟩:=zD.mp hx;obtain⟨e1,dX,rfl⟩:=zD.mp (hp.mem_iff.mp hv);obtain⟨y,t,hy,rfl⟩:=g.in1 e1 dX;exact hy
   ·intro hx;obtain⟨t,ht⟩:=g.in2 x hx;exact zD.mpr ⟨.int x t,hp.mem_iff.mpr (zD.mpr ⟨_,ht,rfl⟩),rfl⟩
  have mO:(ws.map numOf).Nodup:=by
   have h1:(es.toList.map (·.2)).Pairwise λv v'=>∀x t t',v = .int x t->v'≠.int x t':=wY.mpr g.one;have h2:=(hp.pairwise_iff (λ{a b} iP x t t' z1 z2=>iP x t' t z2 z1)).mpr h1;refine wY.mpr (vQ (λ{a b} ha hb iP=>?_) h2);obtain⟨x,t,rfl⟩:=rL a ha;obtain⟨y,t',rfl⟩:=rL b hb;intro z;have z':x=y:=z;subst z';exact iP x t t' rfl rfl
  have Aq:ws.length<64:=by
   have:=nI _ mO λx hx=>(dB x).mp hx
   rwa [zY]at this
  refine xZ uA ⟨_,eD,rfl⟩ uI (list_sort_tree eD hS Aq λout bS b1 b2 b3=>⟨_,rfl,?_⟩) (sM _);have qY:s.heap.objs.size<=D:=yS (yC (zR e)) hD;obtain⟨e2,qW⟩:=sortedHeap_at (out:=out) eD;have hn:H D=none:=I.hok.fresh qY;refine⟨.ref D,upd H D (.lst (bS.map V.int)),?_,rfl,(q bS (b2.nodup_iff.mpr mO) (λx=>(b2.mem_iff).trans (dB x)) b3).at D hn⟩;refine(ki I d).laid (t':=Ek) (λb o eb=>?_) qY ⟨?_,out.toList,e2,pz b1,by rw[uZ];exact qW⟩
  ·have Dk:b<s.heap.objs.size:=zR eb;have GX:=mK b o (keep b o eb);rw[sortedHeap_old (zG (yW Dk qY)) (zR GX)];exact GX
  ·rw[zY,b2.length_eq,zY];exact yC (yW Aq (by decide))
def G3(K:W.Frag):V->Hp->VK->Prop:=λv H Q=>match v with
 | .ref p=>∃ns:List Int,(SqL K H p (ns.map V.int)\/SqT K H p (ns.map V.int))/\ns.length<60/\∀oX:List Int,oX.Nodup->(∀x,x∈oX↔x∈ns)->oX.Pairwise (·<=·)->New H (.lst (oX.map V.int)) Q
 |_=>False
theorem Iw{K:W.Frag}{H:Hp}{Q:VK}{p:Addr}:G3 K (.ref p) H Q=∃ns:List Int,(SqL K H p (ns.map V.int)\/SqT K H p (ns.map V.int))/\ns.length<60/\∀oX:List Int,oX.Nodup->(∀x,x∈oX↔x∈ns)->oX.Pairwise (·<=·)->New H (.lst (oX.map V.int)) Q:=rfl
def Jk(K:W.Frag)(te:TE):TE:=fun σ H Q=>te σ H λv H1=>G3 K v H1 Q
theorem dn{e:Expr}{te:TE}{p1 p2 jD bH:Pos}(hc:X.calm=true)(g1:Gl X "sorted")(m1:X.mg "sorted"=none)(g2:Gl X "set")(m2:X.mg "set"=none)(ha:PE X e te)
  (dX:starEach [.Call (.Name "set" p2) [e] [] bH] X.env=[(false,eval (.Call (.Name "set" p2) [e] [] bH) X.env)]:=by rfl) (qW:starEach [e] X.env=[(false,eval e X.env)]:=by rfl) :
  PE X (.Call (.Name "sorted" p1) [.Call (.Name "set" p2) [e] [] bH] [] jD) (Jk X.K te):=by
 intro pins s σ H Q I h;refine xK (ww I g1 m1 ux (vV ?_ dX rfl));rw[dX];refine(show wpAny _ _ (spliced ((false,eval (.Call (.Name "set" p2) [e] [] bH) X.env)::[])) _ _ s from wI ?_);refine xK (ww I g2 m2 Ps (xY ?_ qW rfl));rw[qW];refine(show wpAny _ _ (spliced ((false,eval e X.env)::[])) _ _ s from wI (thn (ha pins s σ H _ I h) λu s1 ⟨x,H1,I1,r1,q1⟩=>wM ?_));cases x with
 |ref a =>
  cases r1;obtain⟨ns,b1,b2,b3⟩:=(show∃ns:List Int,(SqL X.K H1 a (ns.map V.int)\/SqT X.K H1 a (ns.map V.int))/\ns.length<60/\∀oX:List Int,oX.Nodup->(∀x,x∈oX↔x∈ns)->oX.Pairwise (·<=·)->New H1 (.lst (oX.map V.int)) Q from q1)
  exact thn (O3 hc I1 b1 (sL (Nat.succ_lt_succ b2) (by decide)) (λbS h1 h2=>Nat.lt_of_le_of_lt (wm h1 h2) (by lia)) b3) λu2 s2 h2=>wM h2
 |_=>exact(show False from q1).elim
end
end
section
section
variable {X:Cx}
theorem k9{x:Str}{pos:Pos}{C:Addr}(hm:X.mg x=some (.ref C))(hg:Gl X x:=by rfl)(nH:(x==("__debug__":Str))=false:=by decide):PE X (.Name x pos) (tC (.ref C)) :=
 λpins s σ H Q I h=>qj I hg hm ⟨.ref C,H,I,rfl,h⟩ nH
end
section
variable {M:Model}{A:Around}{E:Value->Shared->Prop}{env:Env}{K:Frag}
end
end
section
open AutoSeq1 (wpAny_loadPart')
section
variable {prog:Program}{w:World}{A:Around}{E:Value->Shared->Prop}{s:Shared}
theorem jh{Q:List Value->Shared->Prop}{r:Addr}{a b c:Int}{t u v:Tok}{n:Nat}(hh:A.handled=none)(hr:IsRange s.heap r a b c t u v)(CH:Builtin.Range.small a b c=true)(hn:Builtin.Range.rangeSize a b c=n)(aL:n<=2 ^ 24)
  (hQ:∀h' tk (aK:Array Value),(∀b o',s.heap.get? b=some o'->h'.get? b=some o')->ItemsOf (λi v=>∃t,v = .int (a+i*c) t) aK n->Q aK.toList { s with heap:=h',toks:=tk }) :
  wpAny (model prog w) A (collect (.ref r)) Q E s:=by
 unfold collect;refine zZ (wpAny_runValue (wV F.entry_proto_collect ?_));rw[xM uF _];show wpAny _ A.in1 (newList [] >>=λl=>again (.builtin "list.__iadd__" ⟨[l,.ref r],[]⟩)) _ _ s;refine zZ (xV ?_);refine zW ⟨vO wE _,wV F.entry_list_iadd ?_⟩;rw[xM wE _];show wpAny _ A.in1 (Builtin.List.listExtendWith (.ref s.heap.objs.size) (.ref r) (.ref s.heap.objs.size)) _ _ _;have hS:(s.heap.push { cls:=.type "list",data:=.seq ([]:List Value).toArray }).get? s.heap.objs.size=some { cls:=.type "list",data:=.seq #[] 0 }:=zT _ rfl;have bC:∀(h':Heap)(tk:Nat)(cC:Array Value)(c':Nat),(∀b o,b≠s.heap.objs.size->(s.heap.push { cls:=.type "list",data:=.seq ([]:List Value).toArray }).get? b=some o->h'.get? b=some o)->h'.get? s.heap.objs.size=some { cls:=.type "list",dict:=none,data:=.seq cC c',slots:=#[] } ->
   ItemsOf (λi v=>∃t,v = .int (a+i*c) t) cC n->wpAny (model prog w) A (match Value.ref s.heap.objs.size with
   |Value.ref a=>do
    match(<-load a).data with
     |Data.seq xs _=>pure xs.toList
     |_=>unsupported "internal:collect"
   |_=>unsupported "internal:collect") Q E { s with heap:=h',toks:=tk }:=λh' tk cC c' kp e eZ=>by
  show wpAny _ A (load s.heap.objs.size >>= _) _ _ _;refine zZ (rZ e ?_);refine zW ?_;exact hQ h' tk cC (λb o' hb=>kp b o' (zG (zR hb)) (zX _ hb)) eZ
 refine xQ (wpAny_extend_range (A:=A) (R:=λr s'=>∃h' tk cC c',r = .ok (.ret (.ref s.heap.objs.size))/\s'={ s with heap:=h',toks:=tk }/\(∀b o,b≠s.heap.objs.size->(s.heap.push { cls:=.type "list",data:=.seq ([]:List Value).toArray }).get? b=some o->h'.get? b=some o)/\h'.get? s.heap.objs.size=some { cls:=.type "list",dict:=none,data:=.seq cC c',slots:=#[] }/\ItemsOf (λi v=>∃t,v = .int (a+i*c) t) cC n)
  (s:={ s with heap:=s.heap.push { cls:=.type "list",data:=.seq ([]:List Value).toArray } }) hh (zX _ hr) CH hn aL s.heap.objs.size _ 0 hS λh' tk cC c' kp e eZ=>⟨h',tk,cC,c',rfl,rfl,kp,e,eZ⟩) (λf s' h=>?_) λe s' h=>?_
 ·cases f with
  |done f =>
   obtain⟨h',tk,cC,c',er,rfl,kp,e,eZ⟩:=h;cases er;exact bC h' tk cC c' kp e eZ
  |again c'=>exact⟨h.1,uN h.2 λr s'' hr=>by obtain⟨h',tk,cC,c',rfl,rfl,kp,e,eZ⟩:=hr;exact bC h' tk cC c' kp e eZ⟩
 ·obtain⟨h',tk,cC,c',er,_⟩:=h;cases er
end
section
variable {prog:Program}{w:World}{A:Around}{E:Value->Shared->Prop}{s:Shared}
end
section
variable {X:Cx}
end
end
section
def Vm{α:Type}(lt:Nat->Nat->Bool):KasT α->α
 | .ret a=>a
 | .ask i j k=>Vm lt (k (lt i j))
abbrev Lg:=List (Nat×Nat×Bool)
def gr(l:Lg)(i j:Nat)(b:Bool):Bool:=l.any λx=>x.1==i&&x.2.1==j&&x.2.2==b
def le1(l:Lg)(x y:Nat):Bool:=gr l y x false||gr l x y true
def leC(l:Lg)(n:Nat):Nat->Nat->Nat->Bool
 |0,x,y=>le1 l x y
 |k+1,x,y=>le1 l x y||(List.range n).any λz=>le1 l x z&&leC l n k z y
def ltC(l:Lg)(n:Nat):Nat->Nat->Nat->Bool
 |0,x,y=>gr l x y true
 |k+1,x,y=>gr l x y true||(List.range n).any λz=>(gr l x z true&&leC l n k z y)||(le1 l x z&&ltC l n k z y)
def Vy(l:Lg)(n:Nat):List Nat->Bool
 |x::y::r=>(if x<y then leC l n n x y else ltC l n n x y)&&Vy l n (y::r)
 |_=>true
def Rz(n:Nat)(p:List Nat):Bool:=p.isPerm (List.range n)
def chk(n:Nat):KasT (Array Nat)->Lg->Bool
 | .ret p,l=>Rz n p.toList&&Vy l n p.toList
 | .ask i j k,l=>decide (i<n)&&decide (j<n)&&chk n (k true) ((i,j,true)::l)&&chk n (k false) ((i,j,false)::l)
theorem M9:(List.range 7).all (λn=>chk n (kas_sort n) [])=true:=by decide +kernel
def vb(kz:Nat->Int)(x y:Nat):Prop:=kz x<kz y\/kz x=kz y/\x<y
section
variable {kz:Nat->Int}{l:Lg}{n:Nat}
def Xl(kz:Nat->Int)(l:Lg):Prop:=∀x∈l,x.2.2=decide (kz x.1<kz x.2.1)
theorem k6(h:Xl kz l){i j:Nat}{b:Bool}(e:gr l i j b=true):b=decide (kz i<kz j):=by
 obtain⟨x,hx,e⟩:=xU.mp e;simp only[yJ,tY]at e;have:=h x hx;rw[e.1.1,e.1.2,e.2]at this;exact this
theorem df(h:Xl kz l){x y:Nat}(e:le1 l x y=true):kz x<=kz y:=by
 rcases tR.mp e with e|e
 ·have:=of_decide_eq_false (k6 h e).symm;lia
 ·have:=yK (k6 h e).symm;lia
theorem X6(h:Xl kz l):∀{k x y:Nat},leC l n k x y=true->kz x<=kz y
 |0,x,y,e=>df h e
 |k+1,x,y,e=>by
  rcases tR.mp e with e|e
  ·exact df h e
  ·obtain⟨z,_,e⟩:=xU.mp e;rw[yJ]at e;have h1:=df h e.1;have h2:=X6 h e.2;lia
theorem Qr(h:Xl kz l):∀{k x y:Nat},ltC l n k x y=true->kz x<kz y
 |0,x,y,e=>yK (k6 h e).symm
 |k+1,x,y,e=>by
  rcases tR.mp e with e|e
  ·exact yK (k6 h e).symm
  ·obtain⟨z,_,e⟩:=xU.mp e;rcases tR.mp e with e|e
   ·rw[yJ]at e;have h1:=yK (k6 h e.1).symm;have h2:=X6 h e.2;lia
   ·rw[yJ]at e;have h1:=df h e.1;have h2:=Qr h e.2;lia
theorem Zg{x y z:Nat}(a:vb kz x y)(b:vb kz y z):vb kz x z:=by
 unfold vb at a b ⊢;lia
theorem Ph(h:Xl kz l):∀{p:List Nat},p.Nodup->Vy l n p=true->p.Pairwise (vb kz)
 |[],_,_=>.nil
 |[x],_,_=>sY _ _
 |x::y::r,hn,e=>by
  rw[Vy,yJ]at e;have bZ:x≠y:=λz=>by rw[z]at hn;exact(wO.mp hn).1 zH
  have ih:=Ph h (wO.mp hn).2 e.2;have pE:vb kz x y:=by
   have e1:=e.1;unfold vb;split at e1
   ·have:=X6 h e1;lia
   ·exact .inl (Qr h e1)
  refine xW.mpr ⟨λz hz=>?_,ih⟩;rcases zL.mp hz with rfl|hz
  ·exact pE
  ·exact Zg pE ((xW.mp ih).1 z hz)
theorem Om{p:List Nat}(e:Rz n p=true):p.Perm (List.range n):=List.isPerm_iff.mp e
theorem d8:∀(t:KasT (Array Nat))(l:Lg),chk n t l=true->Xl kz l->(Vm (λi j=>decide (kz i<kz j)) t).toList.Perm (List.range n)/\(Vm (λi j=>decide (kz i<kz j)) t).toList.Pairwise (vb kz)
 | .ret p,l,e,h=>by
  rw[chk,yJ]at e;have hp:=Om e.1;exact⟨hp,Ph h (hp.nodup_iff.mpr uP) e.2⟩
 | .ask i j k,l,e,h=>by
  rw[chk,yJ,yJ]at e;have hl:∀b,b=decide (kz i<kz j)->Xl kz ((i,j,b)::l):=λb hb x hx=>by
   rcases zL.mp hx with rfl|hx
   ·exact hb
   ·exact h x hx
  rw[Vm];cases hd:decide (kz i<kz j)with
  |true=>exact d8 (k true) _ e.1.2 (hl _ hd.symm)
  |false=>exact d8 (k false) _ e.2 (hl _ hd.symm)
theorem d9{Ch:Nat->Nat->(Bool->Shared->Prop)->Shared->Prop}{Q:Array Nat->Shared->Prop}{s:Shared}(hc:∀i j C,i<n->j<n->C (decide (kz i<kz j)) s->Ch i j C s):∀(t:KasT (Array Nat))(l:Lg),chk n t l=true->Q (Vm (λi j=>decide (kz i<kz j)) t) s->t.kasWp Ch Q s
 | .ret p,l,_,h=>h
 | .ask i j k,l,e,h=>by
  rw[chk,yJ,yJ,yJ]at e;rw[Vm]at h;refine hc i j _ (yK e.1.1.1) (yK e.1.1.2) ?_;cases hd:decide (kz i<kz j)with
  |true=>rw[hd]at h;exact d9 hc (k true) _ e.1.2 h
  |false=>rw[hd]at h;exact d9 hc (k false) _ e.2 h
theorem Fx{Ch:Nat->Nat->(Bool->Shared->Prop)->Shared->Prop}{Q:Array Nat->Shared->Prop}{s:Shared}(h6:n<=6)(hc:∀i j C,i<n->j<n->C (decide (kz i<kz j)) s->Ch i j C s)
  (h:∀p:Array Nat,p.toList.Perm (List.range n)->p.toList.Pairwise (vb kz)->Q p s):(kas_sort n).kasWp Ch Q s:=by
 have e:=yD.mp M9 n (yF.mpr (by lia));obtain⟨h1,h2⟩:=d8 (kz:=kz) _ [] e (λx hx=>by cases hx);exact d9 hc _ [] e (h _ h1 h2)
end
end
section
section
variable {prog:Program}{w:World}{A:Around}{E:Value->Shared->Prop}{s:Shared}
theorem kh{vs:List Value}{ns:List Int}:IntsAre vs ns->∀{i:Nat},i<vs.length->∃n t,ns[i]?=some n/\vs.getD i Value.none = .int n t
 | .nil,i,h=>absurd h (Nat.not_lt_zero _)
 | .cons n t r,0,_=>⟨n,t,rfl,rfl⟩
 | .cons n t r,i+1,h=>by
  obtain⟨a,b,e1,e2⟩:=kh r (i:=i) (by simpa using h);exact⟨a,b,by simpa using e1,by simpa using e2⟩
structure Jm(prog:Program)(w:World)(A:Around)(s:Shared)(D:Addr)(vs:List Value)(f:Value)(kz:Nat->Int)(J:Addr->Nat->Shared->Prop):Prop where
 enter:∀kS h1,(∀b o,b≠D->s.heap.get? b=some o->h1.get? b=some o)->s.heap.objs.size<=kS->(∃o,h1.get? D=some o)->(∃o,h1.get? kS=some o)->J kS 0 { s with heap:=h1 }
 upd:∀kS i s1 h2,s.heap.objs.size<=kS->J kS i s1->(∀b o,b≠kS->b≠D->s1.heap.get? b=some o->h2.get? b=some o)->(∀b o,s1.heap.get? b=some o->∃o',h2.get? b=some o')->J kS i { s1 with heap:=h2 }
 call:∀kS i x s1,s.heap.objs.size<=kS->vs[i]?=some x->J kS i s1->wpAny (model prog w) A (call f [x]) (λk s2=>(∃t,k = .int (kz i) t)/\J kS (i+1) s2/\(∀o,s1.heap.get? kS=some o->s2.heap.get? kS=some o)/\∀o,s1.heap.get? D=some o->s2.heap.get? D=some o) (λ_ _=>False) s1
theorem Zn{h:Heap}{a:Addr}{xs:Array Value}{n:Nat}{g:Array Value->Array Value}(ha:h.get? a=some (seqObj "list" xs n)):∀b o,h.get? b=some o->∃o',(h.update a (Obj.mapSeq g)).get? b=some o':=λb o e=>by
 by_cases z:b=a
 ·subst z;exact⟨_,uJ ha g⟩
 ·exact⟨o,(yO _ _ (wU z)).trans e⟩
theorem ik{D kS:Addr}{vs ks:List Value}{kz:Nat->Int}{e e1:Nat}{f:Value}{s0:Shared}{J:Addr->Nat->Shared->Prop}{P:PySem.Fin->Shared->Prop}{st:SortSt}{p:Array Nat}(KJ:Jm prog w A s0 D vs f kz J)(hz:s0.heap.objs.size<=kS)(GB:kS≠D)(hJ:J kS vs.length s)(h6:vs.length<=6)
  (hk:s.heap.get? kS=some (seqObj "list" ks.toArray e)) (qV:ks.length=vs.length) (hD:s.heap.get? D=some (seqObj "list" #[] e1)) (hout:(arrOf st).map (·.2)=List.toArray (p.toList.map λi=>vs.getD i Value.none)) (cZ:p.toList.length=vs.length) (hf:failedOf st=none)
  (h:∀h2 c,J kS vs.length { s with heap:=h2 }->h2.get? D=some (seqObj "list" (p.toList.map λi=>vs.getD i Value.none).toArray c)->P (.done (.ret .none)) { s with heap:=h2 }) :
  wpAny (model prog w) A (ksk_tail D false e1 (.ref kS) st) P E s:=by
 unfold ksk_tail
 try dsimp only
 rw[hout];have hDk:(s.heap.update kS (Obj.mapSeq λ_=>(#[]:Array Value))).get? D=some (seqObj "list" #[] e1):=(yO _ _ GB).trans hD;refine zZ (uT hk rfl ?_ (by rw[zO,zP];lia) (yQ _));refine zZ (wpAny_letGo ?_);refine zZ (seqEpoch_at hDk rfl ?_);refine zZ (uT hDk rfl ?_ (yQ _) (by simp only[Bool.false_eq_true,if_false,zO,zY];rw[cZ,zP];lia));rw[hf];simp only[bne_self_eq_false,Bool.false_eq_true,if_false];have J1:=KJ.upd kS vs.length s _ hz hJ (λb o b1 b2 e=>(yO (h:=s.heap) (f:=Obj.mapSeq λ_=>(#[]:Array Value)) (wU b1)).trans e) (Zn hk);have J2:=KJ.upd kS vs.length _ _ hz J1 (λb o b1 b2 e=>(yO (h:=s.heap.update kS (Obj.mapSeq λ_=>(#[]:Array Value))) (f:=Obj.mapSeq λ_=>List.toArray (p.toList.map λi=>vs.getD i Value.none)) (wU b2)).trans e) (Zn hDk);exact zW (h _ _ J2 (uJ hDk λ_=>List.toArray (p.toList.map λi=>vs.getD i Value.none)))
theorem Y5{D:Addr}{vs:List Value}{n0:Nat}{f:Value}{kz:Nat->Int}{J:Addr->Nat->Shared->Prop}{P:PySem.Fin->Shared->Prop}(KJ:Jm prog w A s D vs f kz J)(h6:vs.length<=6)(ho:s.heap.get? D=some (seqObj "list" vs.toArray n0))
  (h:∀(kS:Addr)(s2:Shared)(p:List Nat)(c:Nat),s.heap.objs.size<=kS->J kS vs.length s2->p.Perm (List.range vs.length)->p.Pairwise (vb kz)->s2.heap.get? D=some (seqObj "list" (p.map λi=>vs.getD i Value.none).toArray c)->P (.done (.ret .none)) s2) :
  wpAny (model prog w) A (ksk_tree D f false) P E s:=by
 have qY:D<s.heap.objs.size:=zR ho;obtain⟨e1,FT⟩:∃e1,(s.heap.update D (Obj.mapSeq λ_=>(#[]:Array Value))).get? D=some (seqObj "list" #[] e1):=⟨_,uJ ho λ_=>#[]⟩
 unfold ksk_tree;refine zZ (sB ho rfl (zZ (uT ho rfl (zZ (seqEpoch_at FT rfl (zZ (sN (zZ (tN (xX ?_) (yQ _))) (by show vs.length<=_;rw[zP];lia))))) (by rw[zO,zP];lia) (yQ _))));generalize hH:((s.heap.update D (Obj.mapSeq λ_=>(#[]:Array Value))).push (seqObj "tuple" vs.toArray 0)).push (seqObj "list" #[] 0)=H3;have hkS:((s.heap.update D (Obj.mapSeq λ_=>(#[]:Array Value))).push (seqObj "tuple" vs.toArray 0)).objs.size=s.heap.objs.size+1:=by rw[size_push',tV]
 have Bo:H3.get? (s.heap.objs.size+1)=some (seqObj "list" #[] 0):=by rw[<-hH,<-hkS];exact zT _ rfl
 have DX:H3.get? D=some (seqObj "list" #[] e1):=by rw[<-hH];exact zX _ (zX _ FT)
 have keep:∀b o,b≠D->s.heap.get? b=some o->H3.get? b=some o:=λb o hb e=>by
  rw[<-hH];exact zX _ (zX _ ((yO _ _ (wU hb)).trans e))
 have hz:s.heap.objs.size<=s.heap.objs.size+1:=wB _;have GB:s.heap.objs.size+1≠D:=wW (xJ qY);have J0:=KJ.enter (s.heap.objs.size+1) H3 keep hz ⟨_,DX⟩ ⟨_,Bo⟩;show wpAny (model prog w) A (ksk_rest D f false vs.toArray e1 (.ref ((s.heap.update D (Obj.mapSeq λ_=>(#[]:Array Value))).push (seqObj "tuple" vs.toArray 0)).objs.size)) P E _;rw[hkS];generalize s.heap.objs.size+1=kS at *;refine(show wpAny (model prog w) A _ P E { s with heap:=H3 }from ?_);unfold ksk_rest;refine zZ (uS ?_)
 first
  |rw[List.forIn_toArray]
  |(rw[<-tF];simp only[List.toList_toArray])
  |rw[<-tF]
 refine zZ (ksk_fold (λi s1=>J kS i s1/\∃ks c,s1.heap.get? kS=some (seqObj "list" (List.toArray ks) c)/\s1.heap.get? D=some (seqObj "list" #[] e1)/\IntsAre ks ((List.range i).map kz)) vs 0 _ ⟨J0,[],0,Bo,DX,.nil⟩ ?step ?done)
 case step =>
  rintro j x s1 hx ⟨hJ,ks,c,hk,hD,hi⟩;simp only[sC]at hJ hi ⊢;have hj:j<vs.length:=(zV.mp hx).1;have qV:ks.length=j:=by have:=hi.length;rw[zY,xS]at this;exact this
  refine zZ (uH (xQ (KJ.call kS j x s1 hz hx hJ) (λv s2 he=>?_) λ_ _ hF=>hF.elim));obtain⟨⟨t,rfl⟩,Bv,k1,k2⟩:=he
  try dsimp only
  have Bn:=k1 _ hk;have ea:(List.toArray ks).push (Value.int (kz j) t)=List.toArray (ks++[.int (kz j) t]):=by simp
  obtain⟨c2,dD⟩:∃c2,(s2.heap.update kS (Obj.mapSeq (·.push (.int (kz j) t)))).get? kS=some (seqObj "list" (List.toArray (ks++[.int (kz j) t])) c2):=⟨_,by rw[<-ea];exact uJ Bn (·.push (.int (kz j) t))⟩
  refine zZ (uT Bn rfl ?_ (by rw[zO,zP];lia) (yS (vN (Array.size_push ..)) (by rw[zO,zP];lia)));refine zW ⟨rfl,KJ.upd kS (j+1) s2 _ hz Bv (λb o b1 b2 e=>(yO (h:=s2.heap) (f:=Obj.mapSeq (·.push (.int (kz j) t))) (wU b1)).trans e) (Zn Bn),ks++[.int (kz j) t],c2,dD,(yO _ _ GB).trans (k2 _ hD),?_⟩
  ·rw[vI,zJ];exact ksk_snoc hi
 case done =>
  rintro s1 ⟨hJ,ks,c,hk,hD,hi⟩;rw[sC]at hJ hi;have qV:ks.length=vs.length:=by have:=hi.length;rw[zY,xS]at this;exact this
  try dsimp only
  refine zZ (sB hk rfl ?_);unfold ksk_end
  try dsimp only
  simp only[Bool.false_eq_true,if_false]
  by_cases h2:vs.toArray.size<2
  ·rw[yT h2,yT h2];refine zZ (zW ?_);rw[StateT.run_pure];refine zZ (zW ?_)
   try dsimp only
   have Bp:(arrOf (SortSt.mk' general' ((List.toArray ks).zip vs.toArray) #[] 7 none)).map (·.2)=List.toArray ((List.toArray (List.range vs.length)).toList.map λi=>vs.getD i Value.none):=by
    show((List.toArray ks).zip vs.toArray).map (·.2)=_;apply uQ.mp;apply vF
    ·simp[qV]
    ·intro i a1 a2;have hi:i<vs.length:=by simpa using a2
     simp[hi]
   rw[zO]at h2;refine ik (p:=List.toArray (List.range vs.length)) KJ hz GB hJ h6 hk qV hD Bp (by simp) rfl λgR c' hJ' hD'=>h kS _ (List.range vs.length) c' hz hJ' (.refl _) ?_ (by simpa using hD');refine yA.mpr λi j hi hj kL=>?_;rw[xS]at hj;lia
  ·rw[zC h2,zC h2];rw[zO]at h2;rw[ksk_kind (keys:=List.toArray ks) (kz:=(List.range vs.length).map kz) hi (by rw[zO];lia)];refine zZ (zW ?_);have ask:(kas_sort vs.length).kasWp (kas_ask prog w A oneType' ks) (λp s'=>s'=s1/\p.toList.Perm (List.range vs.length)/\p.toList.Pairwise (vb kz)) s1:=by
    refine Fx (kz:=kz) h6 (λi j C cV rP hC=>?_) λp hp hs=>⟨rfl,hp,hs⟩
    unfold kas_ask;obtain⟨a,t,e3,e4⟩:=kh hi (i:=i) (by lia);obtain⟨b,u,e5,e6⟩:=kh hi (i:=j) (by lia);rw[zQ,List.getElem?_range cV]at e3;rw[zQ,List.getElem?_range rP]at e5;cases e3;cases e5;rw[e4,e6,keyLt'_oneType];exact oneLt_int hC
   refine zZ (xQ (kat_run (Q:=λgL s'=>∃p:Array Nat,arrOf gL=p.map (kas_item ((List.toArray ks).zip vs.toArray))/\failedOf gL=none/\s'=s1/\p.toList.Perm (List.range vs.length)/\p.toList.Pairwise (vb kz)) qV (by lia) (by lia) (λp gL s' _ a2 a3 a4=>⟨p,a2,a3,a4⟩) ask) ?_ λ_ _ e=>e);rintro⟨⟨⟩,gL⟩ s' ⟨p,har,hf,rfl,hp,hu⟩;dsimp only;exact ik (p:=p) KJ hz GB hJ h6 hk qV hD (kat_snds qV har) (by rw[hp.length_eq,xS]) hf λgR c' hJ' hD'=>h kS _ p.toList c' hz hJ' hp hu hD'
end
end
section
def rz(X:Cx)(A:Around)(N':List Str)(qual:Str)(scope:Scope)(cl:List (Str×Addr))(q c':Addr)(s₀:Shared)(H₀:Hp):Cx where
 prog:=X.prog
 w:=X.w
 K:=X.K
 mg:=X.mg
 base:=X.base
 A:=A.deeper (envX qual scope s₀.heap.objs.size q (.ref c') cl)
 N:=N'
 s₀:=s₀
 H₀:=H₀
 env:=envX qual scope s₀.heap.objs.size q (.ref c') cl
 outer:=X.stack
 stack:=envX qual scope s₀.heap.objs.size q (.ref c') cl::X.stack
 ex:=[]
 fn:=λ_=>false
 calm:=true
 pn:=[]
 xe:=λ_ _=>False
section
variable {X:Cx}{N:List Str}{scope:Scope}{cl:List (Str×Addr)}{x:Str}
theorem Nn{pins:List (Addr×Obj)}{σ:St}{H:Hp}{s:Shared}{A:Around}{qual:Str}{q c':Addr}{h₁:Heap}{tk:Nat}{ixs:List Nat}{v:V}{u:Value}(k:CompOk X [x] N scope cl)(I:Inv X pins σ H s)(hA:A.frames=some X.stack)(hh:A.handled=none)
  (rQ:∀(j:Nat)(i:Nat),ixs[j]?=some i->∃y,X.N[i]?=some y/\N[j]?=some y) (aL:ixs.length=N.length) (rv:RelV v u)
  (rN:h₁.Ns s.heap.objs.size λy=>([(x,u)]:List (Str×Value)).reverse.lookup y) (old:∀b o,s.heap.get? b=some o->h₁.get? b=some o) :
  Inv (rz X A ([x]++N) qual scope cl q c' s H) [] (some v::ixs.map (gv σ)) H { s with heap:=h₁,toks:=tk }:=by
 have AN:∀b:Addr,b∉(rz X A ([x]++N) qual scope cl q c' s H).ex:=λb z=>absurd (show b∈([]:List Addr)from z) (by simp);refine⟨⟨I.ok.mod,k.kind,rfl,rfl,zU _,λy z c h1 h2=>I.ok.inj y z c (k.up h1) (k.up h2),λy hy=>?_,λy c h1=>absurd h1 (by simp[rz]),λ_=>hh,Around.frames_deeper hA,.inr ⟨rfl,rfl⟩,λb z=>absurd z (AN b),I.bs,yS I.ok.bsz I.sz,λb _ _=>AN b,λb z=>absurd z (AN b),I.stack,I.stkFree⟩,
  rfl,I.bare,Un.kept old,⟨_,rN,λi y v' h1 h2 h3=>?_⟩,λy c e=>?_,I.hok.fresh (zU _),λy c e=>I.freeC y c (k.up e),λp hp=>absurd hp (by simp[rz]),I.hok.kept old,?_⟩
 ·have hy:scope.names.lookup y=some .cell\/scope.names.lookup y=some .free:=hy;rcases hy with hy|hy
  ·exact absurd rfl (k.nocell _ (xD hy))
  ·exact k.have_ _ (xD hy) rfl
 ·cases i with
  |zero =>
   have e1:x=y:=yY h1;have e2:v=v':=yY (yY h2);subst e1;subst e2;exact⟨u,rv,.inl ⟨k.mine x (by simp),by simp⟩⟩
  |succ i =>
   have pP:N[i]?=some y:=by simpa[rz]using h1
   have gR:(ixs.map (gv σ))[i]?=some (some v'):=by simpa using h2
   rw[zQ]at gR;cases e:ixs[i]? with
   |none=>rw[e]at gR;cases gR
   |some j =>
    rw[e]at gR;have Do:gv σ j=some v':=by simpa using gR
    obtain⟨z,hz,mE⟩:=rQ i j e;rw[pP]at mE;cases mE;have hm:=zK pP;obtain⟨m,hn,hl⟩:=I.loc;obtain⟨u',ru,l⟩:=hl j y v' hz (dc Do) (.inr (k.cells y hm));refine⟨u',ru,?_⟩;rcases l with⟨l,_⟩|⟨_,c,ec,ic⟩
    ·exfalso;rcases k.cells y hm with z|z<;>(rw[l]at z;cases z)
    ·obtain⟨c2,GW⟩:=k.free y hm;have:c=c2:=yY (ec.symm.trans (k.up GW));subst this;refine .inr ⟨?_,c,GW,?_⟩
     ·rcases k.vis y hm with z|z
      ·exact w4 (env:=X.env) z (.inl rfl)
      ·exact w4 (env:=X.env) z (.inr rfl)
     ·obtain⟨o,ho,hd⟩:=ic;exact⟨o,old _ _ ho,hd⟩
 ·obtain⟨v,o,ho,hd⟩:=I.cell y c (k.up e);exact⟨v,o,old _ _ ho,hd⟩
 ·show(some v::ixs.map (gv σ)).length=([x]++N).length;simp[aL]
theorem Qj{pins:List (Addr×Obj)}{σ:St}{H:Hp}{s:Shared}{A:Around}{name qual:Str}{params:Arguments}{body:Expr}{pm oC:Value}{q c':Addr}{ixs:List Nat}{v:V}{u:Value}{Q:VK}{te:TE}(k:CompOk X [x] N scope cl)(I:Inv X pins σ H s)(hA:A.frames=some X.stack)(hh:A.handled=none)(FJ:A.depth<recursionLimit)
  (rQ:ixs.map (λi=>X.N[i]?)=N.map some) (hq:s.heap.get? q=some (kla_obj name qual params body scope cl pm c' oC)) (lY:s.heap.CodeRec (.ref c') qual) (hb:∀u,bindArgs (kla_fn name qual params body scope cl pm (.ref c') oC) ⟨[u],[]⟩=pure [(x,u)])
  (GI:scope.isCoroutine=false) (Au:scope.isGenerator=false) (rv:RelV v u) (he:PE (rz X A ([x]++N) qual scope cl q c' s H) body te) (h:te (some v::ixs.map (gv σ)) H Q) :
  wpAny (model X.prog X.w) A (call (.ref q) [u]) (λr s'=>CE X.stack X.prog X.w H s Q r s') (λ_ _=>False) s:=by
 refine wpAny_call (kla_callFunE FJ hq rfl GI Au rfl lY ?_);rw[hb];refine zW (wpAny_newFunctionEnv k.nocell (λy hy=>by rw[zN.mp hy];exact k.mine x (by simp)) (λh₁ rN DO=>⟨I.nolimit.fresh _ DO,?_⟩) k.kind);show codeAny _ _ (.expr body (envX qual scope s.heap.objs.size q (.ref c') cl)) _ _;have old:∀b o,s.heap.get? b=some o->h₁.get? b=some o:=λb o e=>DO.extBut b o (zG (zR e)) (zX _ e);refine kla_codeExpr (xQ (he [] _ _ H Q (Nn k I hA hh (Qf rQ) (X4 rQ) rv rN old) h) (λv' s' ⟨y,H',J,r,q'⟩=>?_) λ_ _ z=>False.elim z);exact⟨y,H',J.os,J.bare,J.base,J.hok,r,q'⟩
end
structure Zr(base:Heap)(mg:Str->Option Value)(c P:Addr):Prop where
 cd:CodeHd base c P
 bm:∃bm ob,mg "__builtins__"=some (.ref bm)/\bm≠builtinsNs/\base.get? bm=some ob/\ob.cls = .type "module"/\ob.dict=some builtinsNs/\ob.data = .plain
 np:base.get? P=none
def cdO(c':Addr)(qual:Str):HO:=.ext λh=>h.CodeRec (.ref c') qual
def fj(pos:Pos)(c':Addr):Array Value:=#[rawInt pos.line,rawInt pos.col,.ref c']
def TabAt(P:Addr)(pos:Pos)(qual:Str)(H:Hp):Prop:=H P=some (.tbl #[])\/∃c',H P=some (.tbl (fj pos c'))/\H c'=some (cdO c' qual)
def SameP(P:Addr)(H H':Hp):Prop:=∀b o,b≠P->H b=some o->H' b=some o
theorem Ju{Pr:Program}{w:World}{H:Hp}{h:Heap}{c':Addr}{qual:Str}(e:h.CodeRec (.ref c') qual):ObjOk Pr w H h c' (cdO c' qual):=by
 refine⟨e,?_,λh1 h2 ⟨c,o,vs,t,e1,e2,r⟩ k=>?_⟩
 ·obtain⟨c,o,vs,t,e1,e2,r⟩:=e;cases e1;exact⟨o,e2⟩
 ·cases e1;exact⟨c',o,vs,t,rfl,k _ e2,r⟩
theorem Jo(pos:Pos)(c':Addr):codeAmong pos (fj pos c').toList=some (.ref c'):=by
 show(if((pos.line:Int)==(pos.line:Int)&&(pos.col:Int)==(pos.col:Int))=true then some (Value.ref c')else _)=_;rw[yT (by simp)]
theorem Qk{X:Cx}{pins:List (Addr×Obj)}{σ:St}{H:Hp}{s:Shared}{E:Value->Shared->Prop}{c P:Addr}{pos:Pos}{qual:Str}{params:Arguments}{body:Expr}{scope:Scope}{cl:List (Str×Addr)}{Q:Value->Shared->Prop}(I:Inv X pins σ H s)(qJ:X.env.code = .ref c)(Ax:closureFor scope X.env=pure cl)(Di:defaultsOf params X.env=([],[]))
  (An:X.env.qual++"<lambda>"=qual) (L:Zr X.base X.mg c P) (hT:TabAt P pos qual H)
  (h:∀q c' oC H' s',Inv X pins σ H' s'->SameP P H H'->H' P=some (.tbl (fj pos c'))->H' c'=some (cdO c' qual)->H' q=none->s.heap.objs.size<=q->s'.heap.get? q=some (kla_obj "<lambda>" qual params body scope cl ((X.mg "__name__").getD .none) c' oC)->(∀b o,b≠P->s.heap.get? b=some o->s'.heap.get? b=some o)->s'.heap.objs.size=q+1->Q (.ref q) s') :
  wpAny (model X.prog X.w) X.A (eval (.Lambda params body scope pos) X.env) Q E s:=by
 refine kla_eval Di ?_;rw[An];have hg:s.heap.Ns mainGlobals X.mg:=X.base |>λ_=>I.ok.mod.glob.keeps I.bk
 obtain⟨bm,ob,b1,b2,b3,b4,b5,b6⟩:=L.bm;have hbG:bm≠mainGlobals:=λz=>by
  obtain⟨o,es,ep,e,hd,_⟩:=I.ok.mod.glob;rw[z,e]at b3;cases b3;rw[hd]at b6;cases b6
 have hbP:bm≠P:=λz=>by rw[z,L.np]at b3;cases b3
 have hgP:mainGlobals≠P:=λz=>by
  obtain⟨o,es,ep,e,_⟩:=I.ok.mod.glob;rw[z,L.np]at e;cases e
 have hB:s.heap.BuiltinsAt X.mg P:=⟨bm,ob,b1,b2,hbG,hbP,I.bk _ _ b3,b4,b5,b6⟩
 rcases hT with hP|⟨c',hP,oS⟩
 ·have hm:s.heap.get? P=some (tabObj #[]):=I.hok P _ hP;refine kla_makeFunction (mg:=X.mg) Ax I.ok.glob hg qJ (L.cd.keeps I.bk) hm trivial rfl hgP hB λc' oC h' tk hx nZ aO Am htb=>?_;have FE:h'.get? P=some (tabObj (fj pos c')):=by simpa[fj]using htb
  have hPs:P<s.heap.objs.size:=zR hm;have hcP:c'≠P:=wW (yW hPs nZ);have hc0:H c'=none:=I.hok.fresh nZ;have keep:∀b o,b≠P->s.heap.get? b=some o->(h'.push (kla_obj "<lambda>" qual params body scope cl ((X.mg "__name__").getD .none) c' oC)).get? b=some o:=λb o hb e=>zX _ (hx b o hb e);have FM:H h'.objs.size=none:=I.hok.fresh (yS nZ (yC aO));have at_:∀b o,b≠P->H b=some o->(upd (upd H c' (cdO c' qual)) P (.tbl (fj pos c'))) b=some o:=λb o hb e=>by rw[zk hb,zk (λz=>by rw[z,hc0]at e;cases e)];exact e
  have nP:∀b,H b=none->b≠P:=λb e z=>by rw[z,hP]at e;cases e
  refine h h'.objs.size c' oC (upd (upd H c' (cdO c' qual)) P (.tbl (fj pos c'))) _ (Inv.un (t':=tk) I ⟨λb o e n _ _=>keep b o (nP b n) e,λb o e n _ _=>⟨o.slots,keep b o (nP b n) e⟩,λb o e n _=>?_,λb o e _=>?_,λb xs e=>at_ b _ (λz=>?_) e,λb o u e=>at_ b _ (λz=>?_) e,λb ps e=>?_⟩ λb o e=>?_) (λb o hb e=>at_ b o hb e) zx (by rw[zk hcP,zx]) ?_ (yS nZ (yC aO)) (zT _ rfl) keep (xT ..)
  ·rw[zk (nP b n),zk (zG (yW (zR e) nZ))];exact n
  ·by_cases z:b=P
   ·exact⟨_,zX _ (z▸FE)⟩
   ·exact⟨o,keep b o z e⟩
  ·rw[z,hP]at e;cases e
  ·rw[z,hP]at e;cases e
  ·by_cases z:b=P
   ·subst z;rw[hP]at e;cases e;exact⟨fj pos c',by rw[zx];simp⟩
   ·exact⟨#[],by rw[at_ b _ z e];simp⟩
  ·by_cases z:b=P
   ·subst z;rw[zx]at e;cases e;exact zX _ FE
   ·rw[zk z]at e
    by_cases z2:b=c'
    ·subst z2;rw[zx]at e;cases e;exact Ju (Am.push _)
    ·rw[zk z2]at e;refine(I.hok b o e).stay (λc u hc g=>keep c u (λy=>?_) g) (λc g=>at_ c _ (λy=>?_) g) λc xs g=>at_ c _ (λy=>?_) g
     ·rcases hc with y2|y2
      ·exact z (y2.symm.trans y)
      ·rw[y,hP]at y2;cases y2
     ·rw[y,hP]at g;cases g
     ·rw[y,hP]at g;cases g
  ·rw[zk (wW (yW hPs (yS nZ (yC aO)))),zk (wW aO)];exact FM
 ·have hm:s.heap.get? P=some (tabObj (fj pos c')):=I.hok P _ hP;refine kla_makeFunctionHit (mg:=X.mg) Ax I.ok.glob hg qJ (L.cd.keeps I.bk) hm trivial (Jo pos c') hB λoC h' tk hk hsz=>?_;exact h h'.objs.size c' oC H _ (I.kept (t':=tk) λb o e=>zX _ (hk b o e)) (λ_ _ _ e=>e) hP oS (I.hok.fresh hsz) hsz (zT _ rfl) (λb o _ e=>zX _ (hk b o e)) (xT ..)
end
section
structure Tl(X:Cx)(pins:List (Addr×Obj))(D:Addr):Prop where
 lo:X.s₀.heap.objs.size<=D
 nl:D≠X.env.locals
 nc:∀x c,X.env.cells.lookup x=some c->c≠D
 np:∀p∈X.pn++pins,p.1≠D
 nf:D∉frs X.stack
section
variable {X:Cx}{pins:List (Addr×Obj)}{σ:St}{H:Hp}{s:Shared}{D:Addr}
theorem nk(I:Inv X pins σ H s)(h:s.heap.objs.size<=D):Tl X pins D:=by
 refine⟨yS I.sz h,wW (yW I.lt h),λx c e z=>?_,λp hp z=>?_,λhb=>?_⟩
 ·obtain⟨v,o,ho,_⟩:=I.cell x c e;exact absurd (zR ho) (by rw[z];exact tD.mpr h)
 ·exact absurd (zR (I.pin p hp).1) (by rw[z];exact tD.mpr h)
 ·obtain⟨_,o,ho,_⟩:=I.stack.mem hb;exact absurd (zR ho) (tD.mpr h)
theorem Inv.turned2{a b:Addr}{h':Heap}{t':Nat}(I:Inv X pins σ H s)(oa:Tl X pins a)(ob:Tl X pins b)(ha:H a=none)(hb:H b=none)(k:∀c o,c≠a->c≠b->s.heap.get? c=some o->h'.get? c=some o):Inv X pins σ H { s with heap:=h',toks:=t' }:=by
 have n:∀c u,H c=some u->c≠a/\c≠b:=λc u e=>⟨(λz=>by rw[z,ha]at e;cases e),(λz=>by rw[z,hb]at e;cases e)⟩
 have nm:∀c,c∉[a,b]->c≠a/\c≠b:=λc hc=>⟨λz=>hc (by simp[z]),λz=>hc (by simp[z])⟩
 refine Inv.call (ch:=[a,b]) (g':=s.gens) (d':=s.drawn) I ⟨λc o e _ _ hx=>k c o (nm c hx).1 (nm c hx).2 e,λc o e _ _ hx=>⟨o.slots,k c o (nm c hx).1 (nm c hx).2 e⟩,λ_ _ _ e _=>e,λc o e hx=>⟨o,k c o (nm c hx).1 (nm c hx).2 e⟩,λ_ _ e=>e,λ_ _ _ e=>e,λc ps e=>⟨#[],by rw[e];simp⟩⟩ (λc u e=>?_) I.bare λc hc=>?_
 ·refine(I.hok c u e).stay (λd v hd q=>?_) (λ_ q=>q) λ_ _ q=>q;rcases hd with z|z
  ·rw[z]at q ⊢;exact k c v (n c u e).1 (n c u e).2 q
  ·exact k d v (n d _ z).1 (n d _ z).2 q
 ·rcases zL.mp hc with z|z
  ·rw[z];exact⟨.inr oa.lo,oa.nl,oa.nc,oa.np⟩
  ·rw[zN.mp z];exact⟨.inr ob.lo,ob.nl,ob.nc,ob.np⟩
theorem Inv.adopt{xs:List V}{aE:List Value}{n:Nat}(I:Inv X pins σ H s)(od:Tl X pins D)(hD:H D=none)(hz:xs.length<=sizeLine)(rv:Vals xs aE)(e:s.heap.get? D=some (seqObj "list" aE.toArray n)):Inv X pins σ (upd H D (.lst xs)) s:=by
 have nD:∀b u,H b=some u->b≠D:=λb u e z=>by rw[z,hD]at e;cases e
 have nm:∀c,c∉[D]->c≠D:=λc hc z=>hc (by simp[z]);have at_:∀b u,H b=some u->upd H D (.lst xs) b=some u:=λb u e=>by rw[zk (nD b u e)];exact e
 have:=Inv.call (ch:=[D]) (h':=s.heap) (g':=s.gens) (d':=s.drawn) (t':=s.toks) (H':=upd H D (.lst xs)) I ⟨λc o e _ _ _=>e,λc o e _ _ _=>⟨o.slots,e⟩,λc o e q hx=>by rw[zk (nm c hx)];exact q,λc o e _=>⟨o,e⟩,λb _ e=>at_ b _ e,λb _ _ e=>at_ b _ e,λb ps e=>⟨#[],by rw[at_ b _ e];simp⟩⟩ (λc u q=>?_) I.bare λc hc=>?_
 ·exact this
 ·by_cases z:c=D
  ·subst z;rw[zx]at q;cases q;exact⟨hz,aE,n,rv,e⟩
  ·rw[zk z]at q;exact(I.hok c u q).stay (λ_ _ _ g=>g) (λb g=>at_ b _ g) λb xs g=>at_ b _ g
 ·rw[zN.mp hc];exact⟨.inr od.lo,od.nl,od.nc,od.np⟩
end
def Td(P:Addr)(pos:Pos)(qual:Str)(ixs:List Nat)(te:TE)(ta:TA):TE:=fun σ H Q=>ta σ H (on1 (g9 λj H1=>(0<=j/\j<=6)/\TabAt P pos qual H1/\∃kz:Nat->Int,(∀(i:Nat)(H2:Hp),i<j.toNat->SameP P H1 H2->te (some (.int (i:Int))::ixs.map (gv σ)) H2 λv H3=>v = .int (kz i)/\Same H2 H3) /\
 ∀(p:List Nat)(D:Addr)(H':Hp),p.Perm (List.range j.toNat)->p.Pairwise (vb kz)->SameP P H1 H'->TabAt P pos qual H'->H1 D=none->H' D=some (.lst (p.map λn=>V.int ((n:Nat):Int)))->Q (.ref D) H'))
section
variable {X:Cx}{N:List Str}{scope:Scope}{cl:List (Str×Addr)}{x:Str}
theorem Nh{pins:List (Addr×Obj)}{σ:St}{H:Hp}{s:Shared}{A:Around}{qual:Str}{params:Arguments}{body:Expr}{pm oC:Value}{q c' D:Addr}{ixs:List Nat}{te:TE}{vs:List Value}{kz:Nat->Int}{kk:Nat}(k:CompOk X [x] N scope cl)(I:Inv X pins σ H s)(hA:A.frames=some X.stack)(hr:Room (kk+1) A)
  (rQ:ixs.map (λi=>X.N[i]?)=N.map some) (hq:s.heap.get? q=some (kla_obj "<lambda>" qual params body scope cl pm c' oC)) (FM:H q=none) (oq:Tl X pins q) (oS:H c'=some (cdO c' qual)) (hb:∀oC u,bindArgs (kla_fn "<lambda>" qual params body scope cl pm (.ref c') oC) ⟨[u],[]⟩=pure [(x,u)])
  (GI:scope.isCoroutine=false) (Au:scope.isGenerator=false) (he:∀(A:Around)(q c':Addr)(s₀:Shared)(H₀:Hp),Room kk (rz X A ([x]++N) qual scope cl q c' s₀ H₀).A->PE (rz X A ([x]++N) qual scope cl q c' s₀ H₀) body te)
  (oD:Tl X pins D) (DX:H D=none) (hqD:q≠D) (CD:∀(i:Nat)(v:Value),vs[i]?=some v->∃t,v = .int (i:Int) t)
  (hk:∀(i:Nat)(H2:Hp),i<vs.length->Same H H2->te (some (.int (i:Int))::ixs.map (gv σ)) H2 λv H3=>v = .int (kz i)/\Same H2 H3) :
  Jm X.prog X.w A s D vs (.ref q) kz λkS i s1=>∃H2,Inv X pins σ H2 s1/\Same H H2/\H2 D=none/\H2 kS=none/\H2 q=none/\s1.heap.get? q=some (kla_obj "<lambda>" qual params body scope cl pm c' oC)/\(∃o,s1.heap.get? D=some o)/\∃o,s1.heap.get? kS=some o:=by
 have qlt:∀kS,s.heap.objs.size<=kS->q≠kS:=λkS h=>zG (yW (zR hq) h);refine⟨λkS h1 nY hz hd hks=>?_,λkS i s1 h2 hz ⟨H2,I2,s2,d2,k2,q2,e2,od,ok⟩ nY ht=>?_,λkS i x' s1 hz hx ⟨H2,I2,s2,d2,k2,q2,e2,⟨o1,od⟩,⟨o2,ok⟩⟩=>?_⟩
 ·exact⟨H,Inv.turned2 (t':=s.toks) I oD oD DX DX λc o z _ e=>nY c o z e,Same.refl _,DX,I.hok.fresh hz,FM,nY _ _ hqD hq,hd,hks⟩
 ·obtain⟨o1,od⟩:=od;obtain⟨o2,ok⟩:=ok;exact⟨H2,Inv.turned2 (t':=s1.toks) I2 (nk I hz) oD k2 d2 nY,s2,d2,k2,q2,nY _ _ (qlt kS hz) hqD e2,ht _ _ od,ht _ _ ok⟩
 ·have hi:i<vs.length:=(zV.mp hx).1;obtain⟨t,rfl⟩:=CD i x' hx;have lY:s1.heap.CodeRec (.ref c') qual:=(I2.hok c' _ (s2 _ _ oS)).1;refine xQ (Qj (v:=.int (i:Int)) k I2 hA hr.hd hr.depth rQ e2 lY (hb _) GI Au ⟨t,rfl⟩ (he A q c' s1 H2 (hr.deeper _)) (hk i H2 hi s2)) (λu s3 ⟨v,H3,os,bare,un,hok,r,ev,AZ⟩=>?_) λ_ _ z=>z;subst ev;have oks:=nk I hz;refine⟨r,⟨H3,Inv.call' (ch:=[]) I2 os un hok bare (λb z=>absurd z (by simp)),s2.trans AZ,un.free _ _ od d2 (by simp),un.free _ _ ok k2 (by simp),un.free _ _ e2 q2 (by simp),un.keep _ _ e2 q2 oq.nf (by simp),un.there _ _ od (by simp),un.there _ _ ok (by simp)⟩,λo e=>un.keep _ _ e k2 oks.nf (by simp),λo e=>un.keep _ _ e d2 oD.nf (by simp)⟩
theorem Nv{a:Expr}{ta:TA}{params:Arguments}{body:Expr}{te:TE}{ixs:List Nat}{c P:Addr}{qual:Str}{kk k':Nat}{p1 p2 jD bH kp lp:Pos}(hc:X.calm=true)(g1:Gl X "sorted")(m1:X.mg "sorted"=none)(g2:Gl X "range")(m2:X.mg "range"=none)(ha:PA X [a] ta)(k:CompOk X [x] N scope cl)(rQ:ixs.map (λi=>X.N[i]?)=N.map some)(hr:Room k' X.A)(hkk:kk+3<=k')
  (qJ:X.env.code = .ref c) (L:Zr X.base X.mg c P) (he:∀(A:Around)(q c':Addr)(s₀:Shared)(H₀:Hp),Room kk (rz X A ([x]++N) qual scope cl q c' s₀ H₀).A->PE (rz X A ([x]++N) qual scope cl q c' s₀ H₀) body te)
  (hb:∀(pm:Value)(c':Addr)(oC u:Value),bindArgs (kla_fn "<lambda>" qual params body scope cl pm (.ref c') oC) ⟨[u],[]⟩=pure [(x,u)]) (An:X.env.qual++"<lambda>"=qual:=by rfl) (Di:defaultsOf params X.env=([],[]):=by rfl) (GI:scope.isCoroutine=false:=by rfl) (Au:scope.isGenerator=false:=by rfl)
  (hs:starEach [a] X.env=[(false,eval a X.env)]:=by rfl) (dX:backTo jD (starEach [.Call (.Name "range" p2) [a] [] bH] X.env)=(false,eval (.Call (.Name "range" p2) [a] [] bH) X.env)::backTo jD (starEach [] X.env):=by rfl)
  (pH:(backTo jD (starEach [.Call (.Name "range" p2) [a] [] bH] X.env)).any (·.1)=false:=by rfl) :
  PE X (.Call (.Name "sorted" p1) [.Call (.Name "range" p2) [a] [] bH] [⟨some "key",.Lambda params body scope lp,kp⟩] jD) (Td P lp qual ixs te ta):=by
 intro pins s σ H Q I h;refine xK (ww I g1 m1 ux ?_);refine callWith_kw ?_ dX pH;rw[dX];refine wI ?_;refine Call_ (ww I g2 m2 boot_range (xY (thn (ha bH pins s σ H _ I h) λus s1 ⟨vs,H1,I1,r1,q1⟩=>?_) hs rfl));rcases vs with _|⟨x1,_|⟨y,rr⟩⟩
 ·exact(show False from q1).elim
 ·cases x1 with
  |int j =>
   obtain⟨⟨q0,q2⟩,hT,kz,hkz,q⟩:=(show(0<=j/\j<=6)/\TabAt P lp qual H1/\∃kz:Nat->Int,(∀(i:Nat)(H2:Hp),i<j.toNat->SameP P H1 H2->te (some (.int (i:Int))::ixs.map (gv σ)) H2 λv H3=>v = .int (kz i)/\Same H2 H3) /\
    ∀(p:List Nat)(D:Addr)(H':Hp),p.Perm (List.range j.toNat)->p.Pairwise (vb kz)->SameP P H1 H'->TabAt P lp qual H'->H1 D=none->H' D=some (.lst (p.map λn=>V.int ((n:Nat):Int)))->Q (.ref D) H' from q1)
   cases r1 with
   |cons r rr =>
    cases rr;obtain⟨t,rfl⟩:=r;refine call_range_1 ?_;refine wM ?_;have I2:Inv X pins σ H1 { s1 with heap:=s1.heap.push { cls:=.type "range",data:=.fields #[.int 0 s1.toks,.int j t,.int 1 (s1.toks+1)] },toks:=s1.toks+1+1 }:=I1.kept λb o e=>zX _ e;have hn:Builtin.Range.rangeSize 0 j 1=((j.toNat:Nat):Int):=by
     rw[rangeSize_one];split<;>lia
    refine kws_cons (Qk I2 qJ k.clos Di An L hT λq' c' oC H2 s2 I3 sp hP oS FM hqz hq keep pG=>kws_nil ?_);have hPr:P≠s1.heap.objs.size:=λz=>by
     have:H1 P=none:=I1.hok.fresh (vN z.symm);rcases hT with e|⟨_,e,_⟩<;>(rw[this]at e;cases e)
    have hrng:=keep _ _ (wU hPr) (zT s1.heap (o:={ cls:=.type "range",data:=.fields #[.int 0 s1.toks,.int j t,.int 1 (s1.toks+1)] }) rfl);show wpAny (model X.prog X.w) X.A (call (.builtin "sorted") [.ref s1.heap.objs.size] [(Str.ofString "key",.ref q')]) _ _ s2;refine call_function_entry_kw kind_sorted plain_sorted entry_sorted (ksk_s1 _ _) ?_;unfold Builtin.«sorted»;refine zZ (m:=checkCount "sorted" 1 1 _) (zW ?_);refine zZ (jh (A:=X.A.in1) (I2.ok.hd hc) hrng (small_one (by decide) (by decide) (by lia) (by lia)) hn (by lia) λh' tk aK kp' eZ=>?_);have hal:aK.toList.length=j.toNat:=by have:=eZ.1;simpa using this
    refine zZ (tN ?_ (by rw[zP];lia));have iE:s2.heap.objs.size<=h'.objs.size:=by rw[pG];exact zR (kp' _ _ hq)
    have kp2:∀b o,s2.heap.get? b=some o->(h'.push (seqObj "list" aK.toList.toArray 0)).get? b=some o:=λb o e=>zX _ (kp' b o e);have hoD:(h'.push (seqObj "list" aK.toList.toArray 0)).get? h'.objs.size=some (seqObj "list" aK.toList.toArray 0):=zT _ rfl;have I4:Inv X pins σ H2 { s2 with heap:=h'.push (seqObj "list" aK.toList.toArray 0),toks:=tk }:=I3.kept (t':=tk) kp2;have oD:=nk I3 iE;have GS:H2 h'.objs.size=none:=I3.hok.fresh iE;have hD1:H1 h'.objs.size=none:=by
     cases e:H1 h'.objs.size with
     |none=>rfl
     |some o =>
      have:h'.objs.size≠P:=λz=>by
       rw[z,hP]at GS;cases GS
      rw[sp _ _ this e]at GS;cases GS
    have oq:=nk I2 hqz;have hR:Room (kk+1) X.A.in1.in1:=(hr.mono (j:=kk+1+1+1) (by lia)).in1.in1;have CD:∀(i:Nat)(v:Value),aK.toList[i]?=some v->∃t,v = .int (i:Int) t:=λi v hv=>by
     obtain⟨t,e⟩:=eZ.2 i v (by rw[<-wL];exact hv);refine⟨t,?_⟩;rw[e]
     congr 1
     lia
    refine zZ (xX (wpAny_call_entry_kw uA ⟨_,hoD,rfl⟩ uI ?body (ksk_l1 _ _)))
    case body =>
     show wpAny (model X.prog X.w) X.A.in1.in1 (Builtin.«list.sort» ⟨[.ref h'.objs.size],[(Str.ofString "key",.ref q')]⟩) _ _ _;rw[ksk_t1];refine Y5 (Nh (kz:=kz) k I4 I4.ok.frames hR rQ (kp2 _ _ hq) FM oq oS (hb _ _) GI Au he oD GS (zG (zR (kp' _ _ hq))) CD λi H5 hi s5=>hkz i H5 (by lia) λb o hb e=>s5 b o (sp b o hb e)) (by lia) hoD λkS s5 p cc hz ⟨H5,I5,DH,d5,_,_,_,_,_⟩ hp hs5 hD5=>⟨_,rfl,?_⟩
     rw[hal]at hp;have rv:Vals (p.map λn=>V.int ((n:Nat):Int)) (p.map λi=>aK.toList.getD i Value.none):=by
      have aO:∀i∈p,i<aK.toList.length:=λi hi=>by rw[hal];exact yF.mp (hp.mem_iff.mp hi)
      clear hp hs5 hD5
      induction p with
      |nil=>exact .nil
      |cons i p ih =>
       refine .cons ?_ (ih λz hz=>aO z (zI _ hz));have hi:=aO i zH;obtain⟨t,e⟩:=CD i aK.toList[i] (zM hi);refine⟨t,?_⟩;show aK.toList.getD i Value.none=_;rw[zB,zM hi];exact e
     have cZ:p.length=j.toNat:=by rw[hp.length_eq,xS]
     have I6:=Inv.adopt (xs:=p.map λn=>V.int ((n:Nat):Int)) I5 oD d5 (by rw[zY,zP];lia) rv hD5;refine zW ⟨_,rfl,.ref h'.objs.size,_,I6,rfl,q p h'.objs.size _ hp hs5 (λb o hb e=>?_) ?_ hD1 zx⟩
     ·have e2:=DH b o (sp b o hb e);rw[zk λz=>by rw[z,d5]at e2;cases e2];exact e2
     ·have e1:=DH _ _ hP;have e2:=DH _ _ oS;refine .inr ⟨c',?_,?_⟩
      ·rw[zk λz=>by rw[z,d5]at e1;cases e1];exact e1
      ·rw[zk λz=>by rw[z,d5]at e2;cases e2];exact e2
  |_=>exact(show False from q1).elim
 ·exact(show False from q1).elim
end
end
section
theorem Ur{Pr:Program}{w:World}{K:Frag}{mg mb:Str->Option Value}{k:Nat}{fa a c P:Addr}{fd:FuncData}{x:Str}{sp:Sp}{s₁:Shared}{vs:List Value}{ns:List Int}
  (KX:K.In s₁.heap) (rN:s₁.heap.Ns mainGlobals mg) (hb:s₁.heap.Ns builtinsNs mb) (hbb:∀x:Str,x≠"__name__"->mb x=bootBuiltins x) (hlim:s₁.heap.NoLimit) (hg:s₁.gens=#[])
  (ha:s₁.heap.get? a=some { cls:=.type "list",data:=.seq vs.toArray }) (hi:IntsAre vs ns) (hl:ns.length<=sizeLine) (hr:Room k callerA)
  (hC:CodeHd s₁.heap c P) (hP:s₁.heap.get? P=some (tabObj #[])) (hKP:K.lookup P=none) (hbm:∃bm ob,mg "__builtins__"=some (.ref bm)/\bm≠builtinsNs/\s₁.heap.get? bm=some ob/\ob.cls = .type "module"/\ob.dict=some builtinsNs/\ob.data = .plain)
  (F:∀base:Heap,K.In base->base.Ns mainGlobals mg->Zr base mg c P->FnOk Pr w K mg base CX0 k fa fd [x] sp) (GK:∀(s:Shared)(u:Value),BindsTo s fd ⟨[u],[]⟩ [(x,u)])
  (qH:∀H:Hp,H P=some (.tbl #[])->SqL K H a (ns.map V.int)->sp [.ref a] H (λv _=>v = .bl true) λ_ _ _=>False) :
  codeAny (model Pr w) callerA (.call (.ref fa) ⟨[.ref a],[]⟩) (λr s'=>r = .ok (.ret (.bool true))/\OldK s₁.heap s'.heap/\s'.os=s₁.os/\AllBare s'.gens) s₁:=by
 have rv:=pz hi;have lenV:=hi.length;have haP:a≠P:=λz=>by rw[z,hP]at ha;cases ha
 have HG:∀H:Hp,H P=some (.tbl #[])->(∀b,b≠P->H b=none\/∃o xs,H b=some (.frz o (.lst xs)))->SqL K H a (ns.map V.int)->HOk Pr w H s₁.heap->(∀b,H b≠none->b=a\/b=P)->(H a≠none->K.lookup a=none) ->
   codeAny (model Pr w) callerA (.call (.ref fa) ⟨[.ref a],[]⟩) (λr s'=>r = .ok (.ret (.bool true))/\OldK s₁.heap s'.heap/\s'.os=s₁.os/\AllBare s'.gens) s₁:=by
  intro H hHP hO hS hok hA hK;have jW:∀{b:Addr}{o:Obj},s₁.heap.get? b=some o->H b=none->(kg s₁.heap H).get? b=some o:=λe n=>Qc e n;have AN:∀{b:Addr}{o:Obj},s₁.heap.get? b=some o->(∀xs n,o.data≠.seq xs n)->o.cls≠.none->H b=none:=λ{b o} e d d2=>by
   cases q:H b with
   |none=>rfl
   |some u =>
    rcases hA b (by rw[q];simp)with e'|e'
    ·subst e';rw[ha]at e;cases e;exact absurd rfl (d _ _)
    ·subst e';rw[hP]at e;cases e;exact absurd rfl d2
  have nsK:∀{b:Addr}{m:Str->Option Value},s₁.heap.Ns b m->(kg s₁.heap H).Ns b m:=λ{b m} ⟨o,es,ep,e,d,r⟩=>⟨o,es,ep,jW e (by
   cases q:H b with
   |none=>rfl
   |some u =>
    rcases hA b (by rw[q];simp)with e'|e'
    ·subst e';rw[ha]at e;cases e;cases d
    ·subst e';rw[hP]at e;cases e;cases d),d,r⟩
  have hKb:K.In (kg s₁.heap H):=λb o e=>jW (KX b o e) (by
   cases q:H b with
   |none=>rfl
   |some u =>
    rcases hA b (by rw[q];simp)with e'|e'
    ·subst e';rw[hK (by rw[q];simp)]at e;cases e
    ·subst e';rw[hKP]at e;cases e)
  have hM:Mod K mg (kg s₁.heap H):=⟨hKb,nsK rN,⟨mb,nsK hb,hbb⟩,let⟨mc,h1,h2⟩:=hlim;⟨mc,nsK h1,h2⟩⟩
  have hL:Zr (kg s₁.heap H) mg c P:=by
   refine⟨?_,?_,?_⟩
   ·obtain⟨o,vs,file,tf,GV,tg,inF,text,tt,e1,r1,r2,r⟩:=hC;exact⟨o,vs,file,tf,GV,tg,inF,text,tt,jW e1 (AN e1 (λxs n z=>by rw[r2]at z;cases z) (λz=>by rw[r1]at z;cases z)),r1,r2,r⟩
   ·obtain⟨bm,ob,h1,h2,h3,h4,h5,h6⟩:=hbm;exact⟨bm,ob,h1,h2,jW h3 (AN h3 (λxs n z=>by rw[h6]at z;cases z) (λz=>by rw[h4]at z;cases z)),h4,h5,h6⟩
   ·cases q:(kg s₁.heap H).get? P with
    |none=>rfl
    |some o=>have:=(Wu q).2;rw[hHP]at this;cases this
  have e0:Env0 Pr w K mg (kg s₁.heap H) callerA [] s₁ H:=⟨rfl,hM,λb o e=>Wu e,vN (Uc _ _),trivial,λb hb=>absurd (show b∈([]:List Addr)from hb) (by simp),hok,.of_eq hg⟩
  refine uN ((F _ hKb (nsK rN) hL).run callerA [] s₁ H ⟨[.ref a],[]⟩ [.ref a] [.ref a] _ _ hr e0 (GK s₁ (.ref a)) (.cons rfl .nil) (qH H hHP hS)) λr s' h=>?_;cases r with
  |error e=>exact False.elim h
  |ok fl =>
   cases fl with
   |next=>exact False.elim h
   |brk=>exact False.elim h
   |cont=>exact False.elim h
   |ret u =>
    obtain⟨v,H',os,bare,un,FP,r',q⟩:=h;have q':v = .bl true:=q;subst q';obtain rfl:u=Value.bool true:=r';obtain⟨more,eP⟩:=un.tbls P _ hHP;have hP':s'.heap.get? P=some (tabObj (#[]++more)):=FP P _ eP;have keep:∀b o,b≠P->s₁.heap.get? b=some o->s'.heap.get? b=some o:=λb o hb e=>by
     rcases hO b hb with z|⟨ob,xs,z⟩
     ·exact un.keep b o e z (by intro z;exact absurd (show b∈([]:List Addr)from z) (by simp)) (by simp)
     ·have z2:=un.frzs b ob _ z;obtain⟨e1,_⟩:=hok b _ z;obtain⟨e2,_⟩:=FP b _ z2;rw[e]at e1;cases e1;exact e2
    refine⟨rfl,⟨λb o e=>?_,λb o e=>?_⟩,os,bare⟩
    ·by_cases hb:b=P
     ·subst hb;rw[hP]at e;cases e;exact .inr (.inl ⟨(hC.tab hP).isCodeTable,rfl,#[],more,rfl,hP'⟩)
     ·exact .inl (keep b o hb e)
    ·by_cases hb:b=P
     ·subst hb;exact⟨_,hP'⟩
     ·exact⟨o,keep b o hb e⟩
 cases hk:K.lookup a with
 |some o =>
  have e:=KX a o hk;rw[ha]at e;cases e;refine HG (λb=>if b=P then some (.tbl #[])else none) (yT rfl) (λb hb=>.inl (zC hb)) (.inr ⟨_,vs.toArray,_,hk,rfl,rfl,rfl,by rw[zO,lenV];exact hl,by simpa using rv⟩) (λb u z=>?_) (λb z=>?_) λz=>absurd (zC haP) z
  ·by_cases hb:b=P
   ·have z':=(yT hb).symm.trans z;cases z';subst hb;exact hP
   ·have z':=(zC hb).symm.trans z;cases z'
  ·by_cases hb:b=P
   ·exact .inr hb
   ·exact absurd (zC hb) z
 |none =>
  obtain⟨H,g1,g2,g3⟩:∃H:Hp,H P=some (.tbl #[])/\H a=some (.frz { cls:=.type "list",data:=.seq vs.toArray } (.lst (ns.map V.int)))/\∀b,b≠P->b≠a->H b=none :=
   ⟨λb=>if b=P then some (.tbl #[])else if b=a then some (.frz { cls:=.type "list",data:=.seq vs.toArray } (.lst (ns.map V.int)))else none,yT rfl,(zC haP).trans (yT rfl),λb z y=>(zC z).trans (zC y)⟩
  refine HG H g1 (λb hb=>?_) (.inl (.inr ⟨_,g2⟩)) (λb u z=>?_) (λb z=>?_) λ_=>hk
  ·by_cases kN:b=a
   ·exact .inr ⟨_,_,kN▸g2⟩
   ·exact .inl (g3 b hb kN)
  ·by_cases hb:b=P
   ·subst hb;rw[g1]at z;cases z;exact hP
   ·by_cases kN:b=a
    ·subst kN;rw[g2]at z;cases z;exact⟨ha,by rw[zY];exact hl,vs,_,rv,ha⟩
    ·rw[g3 b hb kN]at z;cases z
  ·by_cases hb:b=P
   ·exact .inr hb
   ·by_cases kN:b=a
    ·exact .inl kN
    ·exact absurd (g3 b hb kN) z
theorem Th{l:OpenLaw}{n k:Nat}{q:Program}{mJ:List Str}{XP:(Str->Option Value)->Heap->Prop}{YP:World->Heap->Prop}{d d':DefRec}{K:Params->Frag}{sp:World->Addr->Sp}{x y:Str}
  (hn:l.most=some n) (Dc:n<=sizeLine) (GF:d.params.defaults=[]) (hr:Room k callerA)
  (hY:∀(w:World)(h:Heap),YP w h->(K w.params).In h) (Am:(recsOf q).find? (λe=>e.name==y)=some d')
  (F:∀(w:World)(mg:Str->Option Value)(fa:Addr)(h:Heap),(K w.params).In h->h.Ns mainGlobals mg->mg d.name=some (.ref fa) ->
   ∃(fd:FuncData)(c P:Addr),(∀(s:Shared)(u:Value),BindsTo s fd ⟨[u],[]⟩ [(x,u)])/\tabIn (K w.params) y=some (c,P)/\(K w.params).lookup P=none /\
    ∀base:Heap,(K w.params).In base->base.Ns mainGlobals mg->Zr base mg c P->FnOk l.prog w (K w.params) mg base CX0 k fa fd [x] (sp w P))
  (qH:∀(w:World)(P:Addr)(H:Hp)(a:Addr)(ns:List Int),ns.length<=n->H P=some (.tbl #[])->SqL (K w.params) H a (ns.map V.int)->sp w P [.ref a] H (λv _=>v = .bl true) λ_ _ _=>False) :
  WalkO q mJ XP YP l.row.toRowW d [] (λf vs=>PySem.call f vs):=by
 refine Att.attach_call hn GF λw s₀ s₁ mg mb fa o pm cd doc a vs ns G Y ho hd lY FW CV Ar aL hg=>?_;have KX:=hY w _ Y;obtain⟨fd,c,P,hb,ht,hKP,hF⟩:=F w mg fa _ KX G.T.g FW;obtain⟨hC,hP⟩:=tab_of G.T KX Am ht;exact Ur KX G.T.g G.T.b G.T.builtins G.T.nolimit hg CV Ar (yS aL Dc) hr hC hP hKP G.T.bmain hF hb λH hH hS=>qH w P H a ns aL hH hS
end
section
section
variable {K:Frag}{P:Addr}{pos:Pos}{qual:Str}{H H' H2:Hp}{b:Addr}{o:HO}
theorem TabAt.ne(t:TabAt P pos qual H)(e:H b=some o)(h:∀ps,o≠.tbl ps):b≠P:=λz=>by
 rcases t with t|⟨_,t,_⟩<;>(rw[z,t]at e;exact h _ (yY e).symm)
theorem yh(s:Same H H'):SameP P H H':=λb o _ e=>s b o e
theorem SameP.trans(a:SameP P H H')(c:SameP P H' H2):SameP P H H2:=λb o n e=>c b o n (a b o n e)
theorem TabAt.same(t:TabAt P pos qual H)(s:Same H H'):TabAt P pos qual H':=by
 rcases t with t|⟨c,t,u⟩
 ·exact .inl (s _ _ t)
 ·exact .inr ⟨c,s _ _ t,s _ _ u⟩
theorem yu(t:TabAt P pos qual H)(s:SameP P H H')(e:H b=some o)(h:∀ps,o≠.tbl ps:=by intro _ z;cases z):H' b=some o:=s b o (t.ne e h) e
theorem zj(t:TabAt P pos qual H)(s:SameP P H H'):Tups H H':=⟨λb xs e=>yu t s e,λb o u e=>yu t s e⟩
theorem L6{a:Addr}{xs:List V}(t:TabAt P pos qual H)(s:SameP P H H')(h:SqL K H a xs):SqL K H' a xs:=by
 rcases h with h|h
 ·rcases h with h|⟨o,h⟩
  ·exact .inl (.inl (yu t s h))
  ·exact .inl (.inr ⟨o,yu t s h⟩)
 ·exact .inr h
end
structure DefL(K:Frag)(mg:Str->Option Value)(x:Str)(st:Stmt)(ps:List Str)(c:Addr):Prop where
 ex:∃(f:Addr)(oc:Value)(od:Option Addr)(kV doc pm:Value)(an:Option Addr)(ct:Value)(osl:Array (Option Value)),K.lookup f=some ⟨oc,od,.func (fnOf x x (yx st) (zi st) (zr st) .none kV doc pm an (.ref c) ct),osl⟩/\codeIn K (.ref c) x=true/\keepIn K (.ref f)=true/\mg x=some (.ref f) /\
  ∀us:List Value,us.length=ps.length->bindArgs (fnOf x x (yx st) (zi st) (zr st) .none kV doc pm an (.ref c) ct) ⟨us,[]⟩=pure (ps.zip us)
theorem DefL.callee{P:Program}{w:World}{K:Frag}{mg:Str->Option Value}{base:Heap}{x:Str}{st:Stmt}{N ps:List Str}{k:Nat}{sp:Sp}{c:Addr}(F:DefL K mg x st ps c)(S:v4 N ps (zr st))(len:∀vs H Q E,sp vs H Q E->vs.length=ps.length)
  (cM:∀(f:Addr)(A:Around)(outer:List Env)(s:Shared)(H:Hp)(vs:List V)(Q:VK)(E:XK),Room k (A.deeper (envOfC x (zr st) s.heap.objs.size f (.ref c)))->N.Nodup->sp vs H Q E ->
   ∃σ t,vg N vs=σ/\PSs (pb CX0 P w K mg base N x (zr st) f (.ref c) A outer s H E).nox (zi st) t/\t { nx:=λ_ H'=>Q .non H',rt:=Q } σ H):zz P w K mg base (k+1) x ps sp:=by
 obtain⟨f,oc,od,kV,doc,pm,an,ct,osl,lk,lY,kp,hm,hb⟩:=F.ex;refine⟨f,_,Wc lk lY S len λA outer s H vs Q E hr qH=>?_,.all hb,kp,hm⟩;obtain⟨σ,t,e,h,q⟩:=cM f A outer s H vs Q E hr S.nd qH;exact⟨t,h.nox,by rw[e];exact q⟩
theorem Na{K:Frag}{mg:Str->Option Value}{h:Heap}{x:Str}{st:Stmt}{ps:List Str}{f c:Addr}{oc:Value}{od an:Option Addr}{osl:Array (Option Value)}{kV doc pm cdv ct:Value}(X:K.In h)(G:h.Ns mainGlobals mg)
  (a:nsIn K mainGlobals x=some (some (.ref f))) (l:K.lookup f=some ⟨oc,od,.func (fnOf x x (yx st) (zi st) (zr st) .none kV doc pm an cdv ct),osl⟩)
  (cc:codeIn K cdv x=true) (k:keepIn K (.ref f)=true) (hc:cdv = .ref c)
  (hb:∀(kV doc pm:Value)(an:Option Addr)(cdv ct:Value)(us:List Value),us.length=ps.length->bindArgs (fnOf x x (yx st) (zi st) (zr st) .none kV doc pm an cdv ct) ⟨us,[]⟩=pure (ps.zip us)):DefL K mg x st ps c:=by
 subst hc;exact⟨f,oc,od,kV,doc,pm,an,ct,osl,l,cc,k,mg_of X G a,hb kV doc pm an _ ct⟩
def Ka(st:Stmt):Pos:=match zi st with
 |[.Return (some (.Call _ [.Call _ _ [⟨_,.Lambda _ _ _ p,_⟩] _] _ _)) _]=>p
 |_=>⟨0,0,0,0⟩
end
section
structure DefN(K:Frag)(C:Addr)(qual:Str)(st:Stmt)(ps:List Str)(ds:List Value):Prop where
 ex:∃(f:Addr)(oc:Value)(od:Option Addr)(dV kV doc pm:Value)(an:Option Addr)(cdv ct:Value)(osl:Array (Option Value)),K.lookup f=some ⟨oc,od,.func (fnOf "__init__" qual (yx st) (zi st) (zr st) dV kV doc pm an cdv ct),osl⟩/\codeIn K cdv qual=true/\Mk K C f /\
  Binds K (fnOf "__init__" qual (yx st) (zi st) (zr st) dV kV doc pm an cdv ct) ps []/\Binds K (fnOf "__init__" qual (yx st) (zi st) (zr st) dV kV doc pm an cdv ct) ps ds
structure uk(P:Program)(w:World)(K:Frag)(mg:Str->Option Value)(base:Heap)(k:Nat)(C:Addr)(ps:List Str)(ds:List Value)(sp:Sp):Prop where
 ex:∃(f:Addr)(fd:FuncData),FnOk P w K mg base CX0 k f fd ps sp/\Binds K fd ps []/\Binds K fd ps ds/\Mk K C f
theorem DefN.callee{P:Program}{w:World}{K:Frag}{mg:Str->Option Value}{base:Heap}{C:Addr}{qual:Str}{st:Stmt}{N ps:List Str}{ds:List Value}{k:Nat}{sp:Sp}(F:DefN K C qual st ps ds)(S:v4 N ps (zr st))(len:∀vs H Q E,sp vs H Q E->vs.length=ps.length)
  (cM:∀(f:Addr)(cdv:Value)(A:Around)(outer:List Env)(s:Shared)(H:Hp)(vs:List V)(Q:VK)(E:XK),Room k (A.deeper (envOfC qual (zr st) s.heap.objs.size f cdv))->N.Nodup->sp vs H Q E ->
   ∃σ t,vg N vs=σ/\PSs (pb CX0 P w K mg base N qual (zr st) f cdv A outer s H E).nox (zi st) t/\t { nx:=λ_ H'=>Q .non H',rt:=Q } σ H):uk P w K mg base (k+1) C ps ds sp:=by
 obtain⟨f,oc,od,dV,kV,doc,pm,an,cdv,ct,osl,lk,lY,M,b0,b1⟩:=F.ex;refine⟨f,_,Wc lk lY S len λA outer s H vs Q E hr qH=>?_,b0,b1,M⟩;obtain⟨σ,t,e,h,q⟩:=cM f cdv A outer s H vs Q E hr S.nd qH;exact⟨t,h.nox,by rw[e];exact q⟩
section
variable {X:Cx}{C:Addr}{x:Str}{k k':Nat}{ps:List Str}{ds:List Value}{dvs:List V}{sp:Sp}{t:TA}{e:Expr}{es:List Expr}{p pos:Pos}
theorem Wr(C':uk X.prog X.w X.K X.mg X.base k C ps ds sp)(hr:Room k' X.A)(hk:k+1<=k')(hm:X.mg x=some (.ref C))(ha:PA X (e::es) t)(hg:Gl X x:=by rfl)
  (nH:(x==("__debug__":Str))=false:=by decide) (he:starEach (e::es) X.env=(false,eval e X.env)::starEach es X.env:=by rfl) (cZ:(backTo pos (starEach es X.env)).any (·.1)=false:=by rfl) :
  PE X (.Call (.Name x p) (e::es) [] pos) (cg C sp [] E0 t):=by
 obtain⟨f,fd,F,b,_,M⟩:=C'.ex;exact Oj M F (hr.mono hk) hg hm b .nil Wz ha nH he cZ
theorem Nt(C':uk X.prog X.w X.K X.mg X.base k C ps ds sp)(hd:Vals dvs ds)(hr:Room k' X.A)(hk:k+1<=k')(hm:X.mg x=some (.ref C))(hg:Gl X x:=by rfl)(nH:(x==("__debug__":Str))=false:=by decide):
  PE X (.Call (.Name x p) [] [] pos) (cg C sp dvs E0 O8):=by
 obtain⟨f,fd,F,_,b,M⟩:=C'.ex;exact Rw M F (hr.mono hk) hg hm b hd Wz nH
end
theorem V9{K:Frag}{C:Addr}{qual:Str}{st:Stmt}{ps:List Str}{ds:List Value}{f:Addr}{oc dV:Value}{od an:Option Addr}{osl:Array (Option Value)}{kV doc pm cdv ct:Value}
  (a:findIn K (.ref C) "__init__"=some (some (.ref f))) (l:K.lookup f=some ⟨oc,od,.func (fnOf "__init__" qual (yx st) (zi st) (zr st) dV kV doc pm an cdv ct),osl⟩)
  (c:codeIn K cdv qual=true) (fn:isFn K (.ref f)=true) (mk:makesIn K C=true) (kp:keepIn K (.ref C)=true)
  (b0:Binds K (fnOf "__init__" qual (yx st) (zi st) (zr st) dV kV doc pm an cdv ct) ps []) (b1:Binds K (fnOf "__init__" qual (yx st) (zi st) (zr st) dV kV doc pm an cdv ct) ps ds):DefN K C qual st ps ds :=
 ⟨f,oc,od,dV,kV,doc,pm,an,cdv,ct,osl,l,c,⟨mk,a,fn,kp⟩,b0,b1⟩
end
section
def iLt(a b:Int×Int):Bool:=if a.1=b.1 then decide (a.2<b.2)else decide (a.1<b.1)
theorem iLt_iff{a b:Int×Int}:iLt a b=true↔a.1<b.1\/a.1=b.1/\a.2<b.2:=by
 unfold iLt;split
 ·rw[decide_eq_true_iff];lia
 ·rw[decide_eq_true_iff];lia
def F5:KeyOrd where
 α:=Int×Int
 blt:=iLt
 irrefl:=λa=>by
  cases h:iLt a a with
  |false=>rfl
  |true=>have:=iLt_iff.mp h;lia
 trans:=λa b c h1 h2=>iLt_iff.mpr (by have:=iLt_iff.mp h1;have:=iLt_iff.mp h2;lia)
 negTrans:=λa b c h=>by
  have:=iLt_iff.mp h
  by_cases h2:iLt a b=true
  ·exact .inl h2
  ·refine .inr (iLt_iff.mpr ?_);have h3:=mt iLt_iff.mpr h2;lia
 total:=λa b h1 h2=>by
  have h3:=mt iLt_iff.mpr (by rw[h1];decide);have h4:=mt iLt_iff.mpr (by rw[h2];decide);exact Prod.ext (by lia) (by lia)
def fk(h:Heap)(a:Addr)(k:Int×Int):Prop:=∃o t u n,h.get? a=some o/\o.cls = .type "tuple"/\o.data = .seq #[.int k.1 t,.int k.2 u] n
section
variable {prog:Program}{w:World}{A:Around}{E:Value->Shared->Prop}{s:Shared}
theorem Qs{x y:Addr}{kx ky:Int×Int}{C:Bool->Shared->Prop}(hx:fk s.heap x kx)(hy:fk s.heap y ky)(h:C (iLt kx ky) s):wpAny (model prog w) A (keyLt' (tuples' true) (.ref x) (.ref y)) C E s:=by
 obtain⟨ox,tx,vx,nx,e1,_,d1⟩:=hx;obtain⟨oy,ty,vy,ny,e2,_,d2⟩:=hy;refine kat_lt e1 d1 e2 d2 ?_;refine kat_cons (tG _ _ _ _ _ _ _ _ ?_);unfold iLt at h
 by_cases e:kx.1=ky.1
 ·rw[yT e]at h;have e3:(kx.1==ky.1)=true:=by simpa using e
  rw[e3];refine kat_yes (kat_cons (tG _ _ _ _ _ _ _ _ ?_))
  by_cases e4:kx.2=ky.2
  ·have e5:(kx.2==ky.2)=true:=by simpa using e4
   rw[e5];refine kat_yes (kat_nil ?_);have:decide (kx.2<ky.2)=false:=yL (by lia);rw[this]at h;exact h
  ·have e5:(kx.2==ky.2)=false:=by simpa using e4
   rw[e5];exact kat_no (kat_one _ _ (lt_int h))
 ·rw[zC e]at h;have e3:(kx.1==ky.1)=false:=by simpa using e
  rw[e3];exact kat_no (Ww h)
theorem qf:∀(R:List (Addr×(Int×Int))),(∀r∈R,fk s.heap r.1 r.2)->∃fs:List Value,KatTups s.heap (R.map λr=>Value.ref r.1) fs/\fs.length=R.length/\∀v∈fs,∃b t,v = .int b t
 |[],_=>⟨[],.nil,rfl,λv hv=>by simp at hv⟩
 |r::R,h=>by
  obtain⟨fs,h1,h2,h3⟩:=qf R λq hq=>h q (zI _ hq);obtain⟨o,t,u,n,ho,hc,hd⟩:=h r zH;refine⟨.int r.2.1 t::fs,KatTups.cons ho hc hd rfl h1,by simp[h2],λv hv=>?_⟩;rcases zL.mp hv with rfl|hv
  ·exact⟨_,_,rfl⟩
  ·exact h3 v hv
theorem Y6{D:Addr}{R:List (Addr×(Int×Int))}{n0:Nat}{P:PySem.Fin->Shared->Prop}(ho:s.heap.get? D=some (seqObj "list" (R.map λr=>Value.ref r.1).toArray n0))(hR:∀r∈R,fk s.heap r.1 r.2)(nI:R.length<64)
  (h:∀(R':List (Addr×(Int×Int)))(h':Heap)(e:Nat),R'.Perm R->(R'.map (·.2)).Pairwise (λa b=>iLt b a=false)->(∀b o,b≠D->s.heap.get? b=some o->h'.get? b=some o)->h'.get? D=some (seqObj "list" (R'.map λr=>Value.ref r.1).toArray e)->P (.done (.ret .none)) { s with heap:=h' }) :
  wpAny (model prog w) A (Builtin.«list.sort» ⟨[.ref D],[]⟩) P E s:=by
 have hl:(R.map λr=>Value.ref r.1).length=R.length:=zY _;have tup:∀{h':Heap},(∀b o,b≠D->s.heap.get? b=some o->h'.get? b=some o)->∀r∈R,fk h' r.1 r.2:=λ{h'} k r hr=>by
  obtain⟨o,t,u,n,e,hc,hd⟩:=hR r hr;refine⟨o,t,u,n,k _ _ (λz=>?_) e,hc,hd⟩;rw[z]at e;have:=wZ Obj.cls (yY (e.symm.trans ho));rw[hc]at this;simp at this
 refine uo (O:=F5) ho (by rw[hl];exact nI) (λi=>(R.getD i (0,(0,0))).2) (tuples' true) (λh2 s1 Q' E' k q=>?_) (λs1 i j C E' k hi hj q=>?_) λp h' e ha hu k eD=>?_
 ·obtain⟨fs,h1,gR,h3⟩:=qf (s:=s1) R (tup k);refine kat_kind (T:=.type "int") h1 (by rw[gR];rw[hl]at h2;lia) (λv hv=>?_) rfl q;obtain⟨b,t,rfl⟩:=h3 v hv;exact Looks.of_pure rfl
 ·rw[hl]at hi hj;have e1:(R.map λr=>Value.ref r.1).getD i Value.none = .ref (R.getD i (0,(0,0))).1:=by simp[hi]
  have e2:(R.map λr=>Value.ref r.1).getD j Value.none = .ref (R.getD j (0,(0,0))).1:=by simp[hj]
  have m1:R.getD i (0,(0,0))∈R:=by simp[hi]
  have m2:R.getD j (0,(0,0))∈R:=by simp[hj]
  rw[e1,e2];exact Qs (tup k _ m1) (tup k _ m2) q
 ·rw[hl]at ha hu;have hp:(p.toList.map λi=>R.getD i (0,(0,0))).Perm R:=by
   have h1:=ha.pm.map λi=>R.getD i (0,(0,0));have h2:(List.range R.length).map (λi=>R.getD i (0,(0,0)))=R:=by
    apply vF
    ·simp
    ·intro i a1 a2;simp[a2]
   rw[h2]at h1;exact h1
  refine h (p.toList.map λi=>R.getD i (0,(0,0))) h' e hp ?_ k ?_
  ·rw[yI,yA];intro i j hi hj kL;have cV:i<p.size:=by simpa using hi
   have rP:j<p.size:=by simpa using hj
   have:=hu i j (yC kL) (by rw[<-ha.size];exact rP);have g1:p.getD i 0=p[i]:=by simp[Array.getD,cV]
   have g2:p.getD j 0=p[j]:=by simp[Array.getD,rP]
   unfold Srt.K at this;rw[g1,g2]at this;have h9:iLt (R.getD p[j] (0,(0,0))).2 (R.getD p[i] (0,(0,0))).2=false:=this;simpa using h9
  ·rw[eD,yI]
   congr 3
   apply tS;intro i hi;have cV:i<R.length:=yF.mp (ha.pm.mem_iff.mp hi);simp[cV]
end
def Pb(K:Frag)(H:Hp)(R:List (Addr×(Int×Int))):Prop:=∀r∈R,SqT K H r.1 [.int r.2.1,.int r.2.2]
section
variable {X:Cx}
theorem Rt{pins:List (Addr×Obj)}{σ:St}{H:Hp}{s:Shared}(I:Inv X pins σ H s){a:Addr}{m n:Int}(h:SqT X.K H a [.int m,.int n]):fk s.heap a (m,n):=by
 obtain⟨aE,rv,⟨o,e,hc,k,d⟩,_⟩:=I.tuple h;obtain⟨u1,u2,rfl,r1,r2⟩:=m3 rv;obtain⟨t,rfl⟩:=(show∃t,u1=Value.int m t from r1)
 obtain⟨t',rfl⟩:=(show∃t,u2=Value.int n t from r2)
 exact⟨o,t,t',k,e,hc,d⟩
def G5(K:Frag):List V->Hp->VK->Prop:=λxs H Q=>∃(p:Addr)(R:List (Addr×(Int×Int))),xs=[.ref p]/\SqL K H p (R.map λt=>V.ref t.1)/\Pb K H R/\R.length<64/\∀R':List (Addr×(Int×Int)),R'.Perm R->(R'.map (·.2)).Pairwise (λa b=>iLt b a=false)->New H (.lst (R'.map λt=>V.ref t.1)) Q
theorem Kh:wo X (.builtin "sorted") (G5 X.K):=by
 intro pins s σ H xs us Q I r h;obtain⟨p,R,rfl,hq,hP,hz,q⟩:=h;obtain⟨u,rfl,rx⟩:=vk r;cases rx;obtain⟨aE,rv,pl,_⟩:=I.list hq;have Bw:aE=(R.map (·.1)).map Value.ref:=p0 (by rw[yI];exact rv);subst Bw;have evs:(R.map (·.1)).map Value.ref=R.map λr=>Value.ref r.1:=by rw[yI];rfl
 rw[evs]at pl;generalize CD:(R.map λr=>Value.ref r.1)=vs at pl;have hl:vs.length=R.length:=by rw[<-CD,zY]
 refine call_function_entry kind_sorted plain_sorted entry_sorted (args_sorted1 _) ?_;unfold Builtin.«sorted»;refine zZ (m:=checkCount "sorted" 1 1 _) (zW ?_);refine zZ (collect_list pl.isList ?_ (by rw[zP];lia));refine zZ (tN ?_ (by rw[zP];lia));have hsz:((s.heap.push (seqObj "list" #[] 0)).update s.heap.objs.size (Obj.mapSeq (·++vs.toArray))).objs.size=s.heap.objs.size+1:=by
  rw[tV,size_push']
 have FR:(((s.heap.push (seqObj "list" #[] 0)).update s.heap.objs.size (Obj.mapSeq (·++vs.toArray))).push (seqObj "list" vs.toArray 0)).get? (s.heap.objs.size+1)=some (seqObj "list" vs.toArray 0):=by
  rw[<-hsz];exact zT _ rfl
 have keep:∀b o,s.heap.get? b=some o->(((s.heap.push (seqObj "list" #[] 0)).update s.heap.objs.size (Obj.mapSeq (·++vs.toArray))).push (seqObj "list" vs.toArray 0)).get? b=some o:=λb o q=>by
  have aO:b<s.heap.objs.size:=zR q;rw[Heap.get?_push_ne _ _ _ (by rw[hsz];exact zG (xJ aO)),Heap.get?_update_ne _ _ _ _ (zG aO),Heap.get?_push_ne _ _ _ (zG aO)];exact q
 show wpAny _ _ _ _ _ { s with heap:=((s.heap.push (seqObj "list" #[] 0)).update s.heap.objs.size (Obj.mapSeq (·++vs.toArray))).push (seqObj "list" vs.toArray 0) };rw[hsz];generalize((s.heap.push (seqObj "list" #[] 0)).update s.heap.objs.size (Obj.mapSeq (·++vs.toArray))).push (seqObj "list" vs.toArray 0)=h2 at FR keep ⊢;refine zZ (xX (xZ uA ⟨_,FR,rfl⟩ uI ?_ (sM _)));refine Y6 (R:=R) (s:={ s with heap:=h2 }) (by rw[CD];exact FR) (λr hr=>?_) hz λR' h' e pm hs k eD=>?_
 ·obtain⟨o,t,u,n,e,r⟩:=Rt I (hP r hr);exact⟨o,t,u,n,keep _ _ e,r⟩
 have hn:H (s.heap.objs.size+1)=none:=I.hok.fresh (wB _);refine⟨_,rfl,zW ⟨_,rfl,.ref (s.heap.objs.size+1),upd H (s.heap.objs.size+1) (.lst (R'.map λt=>V.ref t.1)),?_,rfl,(q R' pm hs).at _ hn⟩⟩;refine I.laid (t':=s.toks) (λb o eb=>k b o (zG (xJ (zR eb))) (keep b o eb)) (wB _) ⟨?_,R'.map (λt=>Value.ref t.1),e,?_,?_⟩
 ·rw[zY,pm.length_eq,zP];lia
 ·have:=sw (R'.map (·.1));rw[yI,yI]at this;exact this
 ·exact eD
def F0(K:Frag):V->List V->Hp->VK->Prop:=λx vs H Q=>∃(l:Addr)(ns:List Int)(k:Int),x = .ref l/\vs=[.int k]/\SqL K H l (ns.map V.int)/\k∈ns/\ns.length<=1000/\Q (.int (ns.idxOf k:Nat)) H
theorem m4:∀{ns:List Int}{aE:List Value},Vals (ns.map V.int) aE->IntsAre aE ns
 |[],_,r=>by cases r;exact .nil
 |n::ns,_,r=>by
  cases r with
  |cons r1 r2 =>
   obtain⟨t,rfl⟩:=r1;exact .cons n t (m4 r2)
theorem Ha:MtR X "list.index" (F0 X.K):=λpins s σ H x xs v us Q I rx rs h=>by
 obtain⟨l,ns,k,rfl,rfl,hq,hk,hz,q⟩:=h;cases rx;obtain⟨u,rfl,ru⟩:=vk rs;obtain⟨t,rfl⟩:=(show∃t,u=Value.int k t from ru)
 obtain⟨aE,rv,pl,_⟩:=I.list hq;have hi:=m4 rv;obtain⟨⟨cls,dd,data,sl⟩,ho,hc,n,hd⟩:=pl.isList;simp only at hc hd;subst hc hd;have aL:=hi.length;have hj:ns.idxOf k<ns.length:=List.idxOf_lt_length_iff.mpr hk;refine tE F.slot_list_index ⟨_,ho,rfl⟩ F.entry_list_index (F.args_list_index_2 _ _)
  (SeqAt.list_indexAt l aE.toArray n dd sl (.int k t) (isInt k) (ns.idxOf k) (by simpa[aL]using hj) (by lia) ?_ ?_) ⟨ho,λy hy=>(eq_isInt k t hi y (by simpa using hy)).at _ _,⟨.int _,H,I.tok _,⟨_,rfl⟩,q⟩⟩
 ·show isInt k aE[ns.idxOf k]=true;rw[isInt_at k hi _ (by lia) hj];simpa using List.getElem_idxOf hj
 ·intro j hjs aO;show isInt k aE[j]=false;rw[isInt_at k hi j (by simpa using hjs) (by lia)];exact ne_of_lt_idxOf aO _
end
end
section
def F1(K:Frag):List V->Hp->VK->Prop:=λxs H Q=>∃(x:V)(c:Addr)(t:Value)(b:Bool),xs=[x,.ref c]/\TyOf K H x t/\kitOne K t (.ref c)=some b/\Q (.bl b) H
section
variable {X:Cx}
theorem ai:wo X (.builtin "isinstance") (F1 X.K):=by
 intro pins s σ H xs us Q I r h;obtain⟨x,c,t,b,rfl,ty,e,q⟩:=h;obtain⟨u,w',rfl,r1,r2⟩:=m3 r;cases r2;exact gg I r1 ty e λtk=>⟨.bl b,H,I.tok tk,rfl,q⟩
theorem Hy{tg e:Expr}{t u:TI}(a:PI X tg e t)(b:PI X tg e u):PI X tg e (fun σ H R=>t σ H R\/u σ H R):=λpins s σ H R I h=>by
 rcases h with h|h
 ·exact a pins s σ H R I h
 ·exact b pins s σ H R I h
end
theorem S7{P l:Addr}{H H':Hp}(s:SameP P H H')(n:H l=none)(o:HO):SameP P H (upd H' l o):=λb u hb e=>by
 have bZ:b≠l:=λz=>by rw[z,n]at e;cases e
 unfold upd;rw[zC bZ];exact s b u hb e
theorem Xk{P l:Addr}{pos:Pos}{qual:Str}{H:Hp}{xs ys:List V}(t:TabAt P pos qual H)(e:H l=some (.lst xs)):TabAt P pos qual (upd H l (.lst ys)):=by
 have ne:∀(b:Addr)(o:HO),H b=some o->(∀zs,o≠.lst zs)->upd H l (.lst ys) b=some o:=λb o h z=>by
  rw[zk λq=>by subst q;rw[e]at h;cases h;exact z _ rfl];exact h
 rcases t with t|⟨c,t,u⟩
 ·exact .inl (ne _ _ t (by intro _ z;cases z))
 ·exact .inr ⟨c,ne _ _ t (by intro _ z;cases z),ne _ _ u (by intro _ z;cases z)⟩
theorem Xg{P l:Addr}{pos:Pos}{qual:Str}{H H':Hp}(s:SameP P H H')(t:TabAt P pos qual H')(n:H' l=none):H l=none:=by
 cases z:H l with
 |none=>rfl
 |some u =>
  by_cases e:l=P
  ·subst e;rcases t with t|⟨_,t,_⟩<;>rw[t]at n<;>cases n
  ·have:=s l u e z;rw[n]at this;cases this
end
end My
namespace Kx
open PySem PySem.Spec L2 My
open PyProof.Rows hiding St
def top(i:Nat):Stmt:=PySem.Challenge.pw_manyjudges_k50_ways_rows.main.body.getD i (.Pass ⟨0,0,0,0⟩)
theorem Je{t u:TS}{D:tp}{σ:L2.St}{H:Hp}(h:t { D with nx:=u D } σ H):Tc t u D σ H:=h
end Kx
namespace Kx
open PySem PySem.Spec L2 My
open PyProof.Rows hiding St
local macro_rules|`(tactic| walk_at "r1")=>`(tactic| first|dsimp only[Jh,Td,Jd,cg,S9,Jj,Mw,mV,gv,sv,G4,mG,tOp,tC,Mv,O8,S8,tCB,Mn,Xj,tSl,G7,G1,mB,Mh,G2,Mm,Jg,tOr,Ji,tIf,mBM,Gv,Gs,iR1,iEn,Qx,Gy,i6,iZt,Od,iZp,Kv,tSI,tDG,tLR,Li,Lu,Md,Ix,Ls,Oc,Rq,Rr,Ku,Le,Lh,Lf,F7,Ih,Ic,Ib,Ig,Ln,Ll,Lj,Lm,Lk,Ie,Lv,Io,Im,F8,Il,Ik,Iv,Iu,Lr,Lq,Sf,Ot,Ij,Hz,Lo,Ip,Iq,Ii,Ia,G0,tSS,F9,Jk,Iw,Lp,oh,i7,mDN,Vs,Nc,Ir,mG2,List.map_cons,List.map_nil,id,Ft,Fs,decide_true,decide_false,Bool.not_true,Bool.not_false,if_true,if_false,ite_true,ite_false,reduceIte]|simp only[List.map_cons,List.map_nil,w01,w02,w03,w04,w10,w12,w13,w14,w20,w21,w23,w24,w30,w31,w32,w34,w40,w41,w42,w43,List.append_nil,decide_true,decide_false,Bool.not_true,Bool.not_false,if_true,if_false,Bool.false_eq_true,ite_true,ite_false,reduceIte])
local macro_rules|`(tactic| walk_at "sc")=>`(tactic| exact⟨rfl,rfl,rfl,by decide +kernel,rfl,by decide +kernel,by decide +kernel⟩)
local macro_rules|`(tactic| walk_at "ln")=>`(tactic| (intro _ _ _ _ h;(repeat(obtain⟨_,h⟩:=h));subst_vars;rfl))
local macro_rules|`(tactic| walk_at "rd")=>`(tactic| (repeat(first|dsimp only[Tc,Ta]|walk_at "r1"));try dsimp only)
local macro_rules|`(tactic| walk_at "rs")=>`(tactic| (repeat(walk_at "r1"));try dsimp only)
local macro_rules|`(tactic| walk_at "rp")=>`(tactic| (repeat(first|with_reducible refine Je ?_|dsimp only[Ta]|walk_at "r1"));try dsimp only)
section
variable {P:Program}{w:World}{K:W.Frag}{mg:Str->Option Value}{base:Heap}
def Jf(K:W.Frag)(n:Nat):Sp:=λvs H Q _=>∃(v:V)(h:Addr)(s:Say)(hs:List Str),vs=[v,.ref h]/\SayAt K H v s/\s.pieces<=n/\SqT K H h (hs.map V.str)/\Q (.bl (s.so hs)) H
theorem a8(D:Def K mg "is_so" (top 7) ["saying","held"]):∀n:Nat,zz P w K mg base n "is_so" ["saying","held"] (Jf K n)
 |0=>wx D λvs H Q E h=>by
  obtain⟨v,h,s,hs,_,_,hp,_⟩:=h;exact absurd s.pieces_pos (by lia)
 |n+1=>by
  have iB:=a8 D n;refine D.callee (N:=["saying","held","kind","one","other"]) (by walk_at"sc") (by walk_at"ln") λf cdv A outer s H vs Q E hr nd h=>?_;obtain⟨v,h,s,hs,rfl,hv,hp,hh,q⟩:=h;refine⟨[some v,some (.ref h),none,none,none],_,rfl,(z5 (zo 2 nd (zb (z8 0) z0 (λ_ _=>rfl)))
  (z5 (za (zh (wn hr.units) (z8 2) yn (zm _)) (z4 (zw (wy Hb (zb (z8 0) z0 (λ_ _=>rfl)) (z8 1) (by with_unfolding_all rfl)))) zp)
  (z5 (za (zh (wn hr.units) (z8 2) yn (zm _)) (z4 (zw (gu (zy iB hr (by lia) (z9 (zb (z8 0) z0 (λ_ _=>rfl)) (z9 (z8 1) z6)))))) zp)
  (z5 (zo 3 nd (zy iB hr (by lia) (z9 (zb (z8 0) z0 (λ_ _=>rfl)) (z9 (z8 1) z6))))
  (z5 (zo 4 nd (zy iB hr (by lia) (z9 (zb (z8 0) z0 (λ_ _=>rfl)) (z9 (z8 1) z6))))
  (z5 (za (zh (wn hr.units) (z8 2) yn (zm _)) (z4 (zw (gs (z8 3) (rf (z8 4))))) zp)
  (z5 (za (zh (wn hr.units) (z8 2) yn (zm _)) (z4 (zw (Hh (z8 3) (rf (z8 4))))) zp)
  (z4 (zw (Hh (gu (z8 3)) (rf (z8 4)))))))))))),?_⟩
  cases s with
  |letter x =>
   obtain⟨a,rfl,ha⟩:=hv;walk_at"rp";refine⟨_,_,.inr ha,rfl,?_⟩;walk_at"rp";refine⟨_,_,.inr ha,rfl,?_⟩;walk_at"rp";refine⟨_,.inr hh,rfl,Zv hs,?_⟩;rw[Wf];exact q
  |neg t =>
   obtain⟨a,u,rfl,ha,ht⟩:=hv;walk_at"rp";refine⟨_,_,.inr ha,rfl,?_⟩;walk_at"rp";refine⟨_,_,.inr ha,rfl,?_⟩;walk_at"rp";exact⟨u,h,t,hs,rfl,ht,by have:=hp;simp only[Say.pieces]at this;lia,hh,q⟩
  |bin o t t' =>
   obtain⟨a,u,u',rfl,ha,ht,Bg⟩:=hv;have p1:t.pieces<=n/\t'.pieces<=n:=by have:=hp;simp only[Say.pieces]at this;lia
   cases o <;>
   ·dsimp only[Op2.word]at ha;walk_at"rp";refine⟨_,_,.inr ha,rfl,?_⟩;walk_at"rp";refine⟨_,_,.inr ha,rfl,?_⟩;walk_at"rp";refine⟨u,h,t,hs,rfl,ht,p1.1,hh,?_⟩;refine⟨_,_,.inr ha,rfl,?_⟩;refine⟨u',h,t',hs,rfl,Bg,p1.2,hh,?_⟩;walk_at"rp";simp only[Say.so,Op2.so]at q;cases e:Say.so hs t<;>rw[e]at q<;>simpa using q
theorem V1{ns:List Int}{k:Int}(h0:0<=k)(h:k<(ns.length:Int)):∃v:Int,atI (ns.map V.int) k=some (.int v):=by
 have hk:k.toNat<ns.length:=by lia
 have ek:k=((k.toNat:Nat):Int):=by lia
 have e:atI (ns.map V.int) ((k.toNat:Nat):Int)=some (.int ns[k.toNat]):=yk (by rw[zQ,zM hk]<;>rfl);rw[<-ek]at e;exact⟨_,e⟩
theorem j7{α:Type}{xs:List α}{k:Int}(h0:0<=k)(h:k<(xs.length:Int)):∃v,v∈xs/\atI xs k=some v:=by
 have hk:k.toNat<xs.length:=by lia
 have ek:k=((k.toNat:Nat):Int):=by lia
 have e:atI xs ((k.toNat:Nat):Int)=some xs[k.toNat]:=yk (zM hk);rw[<-ek]at e;exact⟨_,vS hk,e⟩
theorem cm{i j:Int}(h:-(2 ^ 64)<i/\i<2 ^ 64):CMul i j:=.inl h
theorem cm2{i j:Int}(h:-(2 ^ 64)<j/\j<2 ^ 64):CMul i j:=.inr h
def fc(K:W.Frag):Sp:=λvs H Q _=>∃(a:Addr)(ns:List Int)(k:Int),vs=[.ref a,.int k]/\SqL K H a (ns.map V.int)/\ns.length<=5000/\0<=k/\k<=100000/\∀r:Int,Q (.int r) H
theorem Nz(D:Def K mg "_law_cell" (top 40) ["_law_script","_law_k"])(aB:mg "len"=none):zz P w K mg base 1 "_law_cell" ["_law_script","_law_k"] (fc K):=by
 refine D.callee (N:=["_law_script","_law_k","_law_number"]) (by walk_at"sc") (by walk_at"ln") λf cdv A outer s H vs Q E hr nd h=>?_;obtain⟨a,ns,k,rfl,hS,cS,h0,hk,q⟩:=h;refine⟨[some (.ref a),some (.int k),none],_,rfl,(z5 (za (zh Hf (z8 1) (zv yp rfl aB ze (z9 (z8 0) z6)) (zm _)) (z4 (zw (zb (z8 0) (z8 1) (λ_ _=>rfl)))) zp)
  (z5 (zo 2 nd (zt zg (zt wj (z8 1) z0) z0))
  (z5 (za (zh Q2 (zv yp rfl aB ze (z9 (z8 0) z6)) z0 (zm _)) (z4 (zo 2 nd (zt zg (zt zg (zt wj (zt uh (zb (z8 0) (zt uh (z8 1) (zv yp rfl aB ze (z9 (z8 0) z6))) (λ_ _=>rfl)) z0) z0) (zt wj (zt wj (z8 1) (z8 1)) z0)) z0))) zp)
  (z4 (zw (zt uh (zt wj (z8 2) (z8 2)) z0)))))),?_⟩
 walk_at"rp";refine⟨_,.inl hS,?_⟩;rw[zY];have hkk:k*k<=100000*100000:=Int.mul_le_mul hk hk h0 (by decide);have hkn:0<=k*k:=Int.mul_nonneg h0 h0;refine u4 (λc=>?_) (λc=>?_)
 ·obtain⟨v,e⟩:=V1 h0 (yK c);exact⟨_,_,.inl hS,e,q v⟩
 ·refine⟨cm2 (by lia),_,.inl hS,?_⟩;rw[zY];refine u4 (λd=>?_) (λd=>?_)
  ·have d':(0:Int)<(ns.length:Int):=yK d;refine⟨_,.inl hS,?_⟩;rw[zY];obtain⟨v,e⟩:=V1 (ns:=ns) (k:=k % (ns.length:Int)) (uL _ (by lia)) (vC _ d');refine⟨d',_,_,.inl hS,e,?_⟩;walk_at"rp";exact⟨by decide,cm2 (by lia),cm (by lia),cm (by lia),cm (by lia),by decide,q _⟩
  ·walk_at"rp";exact⟨cm (by lia),by decide,q _⟩
def ve(K:W.Frag):Sp:=λvs H Q _=>∃(a:Addr)(ns:List Int)(k m:Int),vs=[.ref a,.int k,.int m]/\SqL K H a (ns.map V.int)/\ns.length<=5000/\0<=k/\k<=100000/\0<m/\∀r:Int,0<=r->r<m->Q (.int r) H
theorem N9(D:Def K mg "_law_pick" (top 41) ["_law_script","_law_k","_law_many"])(cQ:zz P w K mg base 1 "_law_cell" ["_law_script","_law_k"] (fc K)):zz P w K mg base 2 "_law_pick" ["_law_script","_law_k","_law_many"] (ve K):=by
 refine D.callee (N:=["_law_script","_law_k","_law_many","_law_number"]) (by walk_at"sc") (by walk_at"ln") λf cdv A outer s H vs Q E hr nd h=>?_;obtain⟨a,ns,k,m,rfl,hS,cS,h0,hk,hm,q⟩:=h;refine⟨[some (.ref a),some (.int k),some (.int m),none],_,rfl,(z5 (zo 3 nd (zt zg (zt wj (zt uh (zy cQ hr (by lia) (z9 (z8 0) (z9 (z8 1) z6))) z0) (zt zg z0 (zt wj z0 (z8 1)))) (zt wj z0 (z8 1))))
  (z4 (zw (zt uh (zt Yb (zt uh (z8 3) z0) z0) (z8 2))))),?_⟩
 walk_at"rp";refine⟨a,ns,k,rfl,hS,cS,h0,hk,λr=>?_⟩;walk_at"rp";exact⟨by decide,cm (by lia),cm (by lia),cm (by lia),by decide,⟨by decide,by decide⟩,hm,q _ (uL _ (by lia)) (vC _ hm)⟩
theorem xp{n:Nat}(h:n<=1000):n<=sizeLine:=yC (sx h)
def io(K:W.Frag)(n:Nat):Sp:=λvs H Q _=>∃(v:V)(s:Say),vs=[v]/\SayAt K H v s/\s.pieces<=n/\s.pieces<=1000/\∀(p:Addr)(H':Hp),H p=none->Same H H'->H' p=some (.lst (s.letters.map V.str))->Q (.ref p) H'
theorem lj(D:Def K mg "letters_in" (top 5) ["saying"]):∀n:Nat,zz P w K mg base n "letters_in" ["saying"] (io K n)
 |0=>wx D λvs H Q E h=>by
  obtain⟨v,s,_,_,hp,_⟩:=h;exact absurd s.pieces_pos (by lia)
 |n+1=>by
  have dJ:=lj D n;refine D.callee (N:=["saying","letters","inner"]) (by walk_at"sc") (by walk_at"ln") λf cdv A outer s H vs Q E hr nd h=>?_;obtain⟨v,s,rfl,hv,hp,jV,q⟩:=h;refine⟨[some v,none,none],_,rfl,(z5 (za (zh (wn hr.units) (zb (z8 0) z0 (λ_ _=>rfl)) yn (zm _)) (z4 (zw (xa (z9 (zb (z8 0) z0 (λ_ _=>rfl)) z6)))) zp)
  (z5 (zo 1 nd (xa z6))
  (z5 (xo yM rfl (y6 (x9 (z8 0) (xg z0) ya)) (wg 2 nd) (z4 (wc (jl tP F.type_list_extend Q1 (z8 1) (z9 (zy dJ hr (by lia) (z9 (z8 2) z6)) z6)))))
  (z4 (zw (z8 1)))))),?_⟩
  by_cases hs:s.subs=[]
  ·cases s with
   |letter x =>
    obtain⟨a,rfl,ha⟩:=hv;walk_at"rp";refine⟨_,_,.inr ha,rfl,?_⟩;walk_at"rp";refine⟨_,_,.inr ha,rfl,?_⟩;walk_at"rp";exact⟨xp (by simp),λp H1 n1 s1 e1=>q p H1 n1 s1 e1⟩
   |neg t=>simp[Say.subs]at hs
   |bin o t t'=>simp[Say.subs]at hs
  ·obtain⟨a,wd,us,rfl,ha,hw,hl,mP,hu⟩:=bj hv hs;walk_at"rp";refine⟨_,_,.inr ha,cu _ _,?_⟩;walk_at"rp";rw[hw];walk_at"rp";refine⟨xp (by simp),λr H0 n0 s0 e0=>?_⟩;refine .inr ⟨_,(z7 s0).sqT ha,λp H1 s1 h1=>.inr ⟨⟨_,h1⟩,?_⟩⟩;rw[kc]at h1;refine xn (xs:=us) (λi σ H2=>∃iv,σ=[some (.ref a),some (.ref r),iv]/\H2 r=some (.lst ((((s.subs.take i).map Say.letters).flatten).map V.str))/\Same H H2/\SqT K H2 p us/\i<=us.length) ⟨none,rfl,s1 _ _ e0,s0.trans s1,h1,yQ _⟩ ?_ ?_ ?_
   ·rintro i σ H2 _ ⟨iv,rfl,_,_,h2,_⟩;exact h2
   ·rintro i x σ H2 hx ⟨iv,rfl,e2,s2,h2,hi⟩;obtain⟨t,ht,sv,pc⟩:=hu i x hx;walk_at"rp";refine⟨⟨_,_,rfl,e2⟩,x,t,rfl,sv.mono (z7 s2),by lia,by lia,λz H3 n3 s3 e3=>?_⟩;have bZ:z≠r:=λe=>by rw[e,e2]at n3;cases n3
    walk_at"rp";have b1:=kd (s.subs.take i);have b2:=mq Say.pieces s.subs i;have b3:=o9 s;have b4:=xz t;refine⟨_,_,s3 _ _ e2,.inl e3,?_,some x,rfl,?_,zu (s2.trans s3) n0 _,?_,(zV.mp hx).1⟩
    ·rw[zY,zY];rw[zP];lia
    ·rw[zx,yV,ht];simp
    ·exact(xq (s3 _ _ e2)).sqT ((z7 s3).sqT h2)
   ·rintro σ H2 ⟨iv,rfl,e2,s2,h2,_⟩;walk_at"rp";rw[hl,yX,<-qu hs]at e2;exact q r H2 n0 s2 e2
def iq(K:W.Frag):Sp:=λvs H Q _=>∃(v:V)(s:Say),vs=[v]/\SayAt K H v s/\s.pieces<=40/\∀(p:Addr)(H':Hp)(ss:List Str),Same H H'->SqT K H' p (ss.map V.str)->ss.Nodup->(∀x,x∈ss↔x∈s.letters)->sortedS ss=true->Q (.ref p) H'
theorem Yo(D:Def K mg "names_in" (top 6) ["saying"])(dJ:zz P w K mg base 40 "letters_in" ["saying"] (io K 40))(aH:mg "sorted"=none)(aQ:mg "set"=none)(aA:mg "tuple"=none):zz P w K mg base 41 "names_in" ["saying"] (iq K):=by
 refine D.callee (N:=["saying"]) (by walk_at"sc") (by walk_at"ln") λf cdv A outer s H vs Q E hr nd h=>?_;obtain⟨v,s,rfl,hv,hp,q⟩:=h;refine⟨[some v],_,rfl,(z4 (zw (zd yi rfl aA zc (z9 (wa rfl hr.units rfl aH rfl aQ (zy dJ hr (by lia) (z9 (z8 0) z6))) z6)))),?_⟩;walk_at"rp";have aL:=xz s;refine⟨v,s,rfl,hv,hp,by lia,λp H1 n1 s1 e1=>?_⟩;walk_at"rp";refine .inl ⟨_,.inl (SqL.of e1),by unfold scanBound;lia,λbS hn hs=>?_,λbS hn hm iD r H2 n2 s2 e2=>?_⟩
 ·have:=wm hn hs;lia
 ·walk_at"rp";exact⟨_,.inl (SqL.of e2),λr' H3 s3 h3=>q r' H3 bS (s1.trans (s2.trans s3)) h3 hn hm iD⟩
theorem Vr{xs:List Str}(i:Nat)(x:V)(hx:(xs.map V.str)[i]?=some x):∃y,x = .str y/\i<xs.length/\xs.drop i=y::xs.drop (i+1):=by
 rw[zQ]at hx;cases e:xs[i]? with
 |none=>rw[e]at hx;cases hx
 |some y =>
  rw[e]at hx;obtain⟨hi,ey⟩:=zV.mp e;exact⟨y,(yY hx).symm,hi,by rw[List.drop_eq_getElem_cons hi,ey]⟩
def S6(K:W.Frag):Sp:=λvs H Q _=>∃(b:Addr)(xs:List Str),vs=[.ref b]/\SqT K H b (xs.map V.str)/\xs.length<=10/\Q (.int ((2 ^ xs.length:Nat):Int)) H
theorem Oa(D:Def K mg "ways_to_hold" (top 9) ["names"]):zz P w K mg base 1 "ways_to_hold" ["names"] (S6 K):=by
 refine D.callee (N:=["names","ways","name"]) (by walk_at"sc") (by walk_at"ln") λf cdv A outer s H vs Q E hr nd h=>?_;obtain⟨b,xs,rfl,hb,hx,q⟩:=h;refine⟨[some (.ref b),none,none],_,rfl,(z5 (zo 1 nd z0)
  (z5 (xo yM rfl (y6 (z8 0)) (wg 2 nd) (z4 (zo 1 nd (zt wj (z8 1) z0))))
  (z4 (zw (z8 1))))),?_⟩
 walk_at"rp";refine .inr ⟨⟨_,hb⟩,xn (xs:=xs.map V.str) (λi σ H2=>∃nv,σ=[some (.ref b),some (.int ((2 ^ i:Nat):Int)),nv]/\H2=H) ⟨none,rfl,rfl⟩ ?_ ?_ ?_⟩
 ·rintro i σ H2 _ ⟨nv,rfl,rfl⟩;exact hb
 ·rintro i x σ H2 nT ⟨nv,rfl,rfl⟩;walk_at"rp";refine⟨cm2 (by decide),some x,?_,trivial⟩;rw[Nat.pow_succ,Int.natCast_mul]
  rfl
 ·rintro σ H2 ⟨nv,rfl,rfl⟩;walk_at"rp";rw[zY];exact q
def bv(K:W.Frag):Sp:=λvs H Q _=>∃(n:Int)(b:Addr)(xs:List Str),vs=[.int n,.ref b]/\SqT K H b (xs.map V.str)/\xs.length<=100/\∀(r:Addr)(H':Hp),Same H H'->SqT K H' r ((y8 n xs).map V.str)->Q (.ref r) H'
theorem U5(D:Def K mg "held_by" (top 10) ["number","names"])(aA:mg "tuple"=none):zz P w K mg base 1 "held_by" ["number","names"] (bv K):=by
 refine D.callee (N:=["number","names","held","rest","name"]) (by walk_at"sc") (by walk_at"ln") λf cdv A outer s H vs Q E hr nd h=>?_;obtain⟨n,b,xs,rfl,hb,hx,q⟩:=h;refine⟨[some (.int n),some (.ref b),none,none,none],_,rfl,(z5 (zo 2 nd (xa z6))
  (z5 (zo 3 nd (z8 0))
  (z5 (xo yM rfl (y6 (z8 1)) (wg 4 nd) (z5 (za (zh (wn hr.units) (zt uh (z8 3) z0) z0 (zm _)) (z4 (wc (jl wK wJ gt (z8 2) (z9 (z8 4) z6)))) zp)
  (z4 (zo 3 nd (zt Yb (z8 3) z0)))))
  (z4 (zw (zd yi rfl aA zc (z9 (z8 2) z6))))))),?_⟩
 walk_at"rp";refine⟨xp (by simp),λp H1 n1 s1 e1=>?_⟩;have aL:(xs.map V.str).length=xs.length:=zY _;refine .inr ⟨⟨_,(z7 s1).sqT hb⟩,xn (xs:=xs.map V.str) (λi σ H2=>∃(m:Int)(aK:List Str)(nv:Option V),σ=[some (.int n),some (.ref b),some (.ref p),some (.int m),nv]/\aK++y8 m (xs.drop i)=y8 n xs/\H2 p=some (.lst (aK.map V.str))/\Same H H2/\aK.length<=i) ⟨n,[],none,rfl,rfl,e1,s1,zU _⟩ ?_ ?_ ?_⟩
 ·rintro i σ H2 _ ⟨m,aK,nv,rfl,e,ep,s2,_⟩;exact(z7 s2).sqT hb
 ·rintro i x σ H2 nT ⟨m,aK,nv,rfl,e,ep,s2,ha⟩;obtain⟨y,rfl,hi,ed⟩:=Vr i x nT;rw[ed]at e;walk_at"rp";refine⟨by decide,u4 (λc=>?_) (λc=>?_)⟩
  ·have c':m % 2=1:=yK c;rw[y8,yT c']at e;refine⟨⟨_,_,rfl,ep⟩,_,ep,by rw[zY];exact sx (by lia),⟨by decide,by decide⟩,m / 2,aK++[y],_,rfl,by rw[wA];exact e,by rw[zx,zJ];rfl,zu s2 n1 _,by rw[zS,xG];lia⟩
  ·have c':¬m % 2=1:=λz=>c (zA z);rw[y8,zC c']at e;exact⟨⟨by decide,by decide⟩,m / 2,aK,_,rfl,e,ep,s2,by lia⟩
 ·rintro σ H2 ⟨m,aK,nv,rfl,e,ep,s2,_⟩;rw[aL,sJ]at e;have e':aK=y8 n xs:=by simpa[y8]using e
  walk_at"rp";exact⟨_,.inl (SqL.of ep),λr H' s3 hr3=>q r H' (s2.trans s3) (by rw[<-e'];exact hr3)⟩
theorem y9{H H':Hp}{p:Addr}(s:Same H H')(n:H' p=none):H p=none:=by
 cases e:H p with
 |none=>rfl
 |some o=>rw[s _ _ e]at n;cases n
theorem fm{ts:List Say}{i:Nat}{t:Say}(h:ts[i]?=some t):sf (ts.take (i+1))=sf (ts.take i)++t.letters:=by
 rw[yV,h,Pk];simp[sf]
def ir(K:W.Frag):Sp:=λvs H Q _=>∃(a:Addr)(us:List V)(ts:List Say)(xs:List Str),vs=[.ref a]/\SqT K H a us/\SaysAt K H us ts/\Lst ts xs/\∀(p:Addr)(H':Hp)(ss:List Str),Same H H'->SqT K H' p (ss.map V.str)->NamesOf ts ss->Q (.ref p) H'
theorem Yp(D:Def K mg "names_of" (top 12) ["sayings"])(pU:zz P w K mg base 41 "names_in" ["saying"] (iq K))(aH:mg "sorted"=none)(aQ:mg "set"=none)(aA:mg "tuple"=none):zz P w K mg base 42 "names_of" ["sayings"] (ir K):=by
 refine D.callee (N:=["sayings","names","saying"]) (by walk_at"sc") (by walk_at"ln") λf cdv A outer s H vs Q E hr nd h=>?_;obtain⟨a,us,ts,xs,rfl,ha,hS,hL,q⟩:=h;have hl:=hS.len;refine⟨[some (.ref a),none,none],_,rfl,(z5 (zo 1 nd (xa z6))
  (z5 (xo yM rfl (y6 (z8 0)) (wg 2 nd) (z4 (wc (jl tP F.type_list_extend Q1 (z8 1) (z9 (zy pU hr (by lia) (z9 (z8 2) z6)) z6)))))
  (z4 (zw (zd yi rfl aA zc (z9 (wa rfl hr.units rfl aH rfl aQ (z8 1)) z6)))))),?_⟩
 walk_at"rp";refine⟨xp (by simp),λr H1 n1 s1 e1=>?_⟩;refine .inr ⟨⟨_,(z7 s1).sqT ha⟩,xn (xs:=us) (λi σ H2=>∃(aK:List Str)(iv:Option V),σ=[some (.ref a),some (.ref r),iv]/\H2 r=some (.lst (aK.map V.str))/\(∀x,x∈aK↔x∈sf (ts.take i))/\aK.length<=40*i/\Same H H2) ⟨[],none,rfl,e1,λx=>by simp[sf],zU _,s1⟩ ?_ ?_ ?_⟩
 ·rintro i σ H2 _ ⟨aK,iv,rfl,_,_,_,s2⟩;exact(z7 s2).sqT ha
 ·rintro i x σ H2 hx ⟨aK,iv,rfl,e2,hm,hc,s2⟩;obtain⟨t,ht,sv⟩:=hS.at i x hx;have BV:=zK ht;have hi:i<us.length:=(zV.mp hx).1;have h6:=hL.hi;walk_at"rp";refine⟨⟨_,_,rfl,e2⟩,x,t,rfl,sv.mono (z7 s2),hL.pc t BV,λp H3 ss s3 hp nds dB _=>?_⟩;walk_at"rp";have hsl:ss.length<=40:=yS (wm nds λy hy=>(dB y).mp hy) (yS (xz t) (hL.pc t BV));refine⟨_,_,s3 _ _ e2,.inr hp,by rw[zY,zY,zP];lia,aK++ss,some x,rfl,by rw[zx,zJ],λy=>?_,by rw[zS];lia,zu (s2.trans s3) n1 _⟩;rw[zE,hm y,dB y,fm ht,zE]
 ·rintro σ H2 ⟨aK,iv,rfl,e2,hm,hc,s2⟩;rw[hl,yX]at hm;have h6:=hL.hi;walk_at"rp";refine .inl ⟨_,.inl (SqL.of e2),by unfold scanBound;lia,λbS hn hs=>?_,λbS hn hmm iD p H3 n3 s3 e3=>?_⟩
  ·have:=wm hn λy hy=>hL.nm y ((hm y).mp (hs y hy));have:=hL.xl;lia
  ·walk_at"rp";exact⟨_,.inl (SqL.of e3),λp' H4 s4 h4=>q p' H4 bS (s2.trans (s3.trans s4)) h4 ⟨hn,λy=>(hmm y).trans (hm y),iD⟩⟩
def il(K:W.Frag):Sp:=λvs H Q _=>∃(a:Addr)(us:List V)(ts:List Say)(xs:List Str),vs=[.ref a]/\SqT K H a us/\SaysAt K H us ts/\Lst ts xs/\∀(p:Addr)(H':Hp)(ss:List Str)(as:List Addr),H p=none->Same H H'->H' p=some (.lst (as.map V.ref))->NamesOf ts ss->as.length=2 ^ ss.length ->
 (∀(n:Nat) b,as[n]?=some b->SqT K H' b ((y8 (n:Int) ss).map V.str))->Q (.ref p) H'
theorem Sc{n:Nat}(h:n<=5):2 ^ n<=32:=Nat.pow_le_pow_right (by decide) h
theorem Yi(D:Def K mg "all_held" (top 13) ["sayings"])(pT:zz P w K mg base 42 "names_of" ["sayings"] (ir K))(rG:zz P w K mg base 1 "held_by" ["number","names"] (bv K))(lQ:zz P w K mg base 1 "ways_to_hold" ["names"] (S6 K))(aD:mg "range"=none):
  zz P w K mg base 43 "all_held" ["sayings"] (il K):=by
 refine D.callee (N:=["sayings","names"]) (by walk_at"sc") (by walk_at"ln") λf cdv A outer s H vs Q E hr nd h=>?_;obtain⟨a,us,ts,xs,rfl,ha,hS,hL,q⟩:=h;refine⟨[some (.ref a),none],_,rfl,(z5 (zo 1 nd (zy pT hr (by lia) (z9 (z8 0) z6)))
  (z4 (zw (yl (ixs:=[1]) (zq (own:=["number"]) (N:=["names"]) rfl rfl rfl rfl rfl rfl rfl (by decide +kernel) rfl rfl rfl) rfl (yq rfl aD (z9 (zy lQ hr (by lia) (z9 (z8 1) z6)) z6)) (λ_ _ _ _=>yz) (λ_ _ _ _=>(zy rG hr (by lia) (z9 (z8 0) (z9 (z8 1) z6)))) rfl)))),?_⟩
 walk_at"rp";refine⟨a,us,ts,xs,rfl,ha,hS,hL,λb H1 ss s1 hb hN=>?_⟩;obtain⟨FH,CG⟩:=hL.names hN;have p5:=Sc FH;have p5':((2 ^ ss.length:Nat):Int)<=32:=Int.ofNat_le.mpr p5;have p50:(0:Int)<=((2 ^ ss.length:Nat):Int):=Int.natCast_nonneg _;walk_at"rp";refine⟨b,ss,rfl,hb,by lia,?_⟩;walk_at"rp";refine⟨⟨by lia,by lia⟩,?_⟩;rw[yZ];intro C s₀ H₀ ex;refine yc (λD i ys H2=>∃as:List Addr,ys=as.map V.ref/\as.length=i/\(∀(n:Nat) c,as[n]?=some c->SqT K H2 c ((y8 (n:Int) ss).map V.str))/\H2 D=some (.lst ys)/\Same H1 H2/\H1 D=none) (by rw[zP];lia) ?_ ?_ ?_ ?_
 ·intro D H2 n2 s2 e2;exact⟨[],rfl,rfl,λn c hc=>by simp at hc,e2,s2,n2⟩
 ·rintro D i ys H2 ⟨as,rfl,hl,_,e2,_⟩;exact⟨e2,by simpa using hl⟩
 ·rintro D i ys H2 hi ⟨as,rfl,hl,hc,e2,s2,n2⟩;walk_at"rp";refine⟨_,b,ss,rfl,(z7 s2).sqT hb,by lia,λr H3 s3 h3=>⟨s3 _ _ e2,CN.mk hi ⟨as++[r],by rw[zJ];rfl,by rw[zS,hl];rfl,λn c hn=>?_,zx,zu (s2.trans s3) n2 _,n2⟩⟩⟩;have tl:=xq (o:=.lst (as.map V.ref++[V.ref r])) (s3 _ _ e2)
  by_cases aO:n<as.length
  ·rw[yG aO]at hn;exact tl.sqT ((z7 s3).sqT (hc n c hn))
  ·rw[yH (by lia)]at hn;have hnz:n-as.length=0:=by
    cases h9:n-as.length with
    |zero=>rfl
    |succ m=>rw[h9]at hn;simp at hn
   rw[hnz]at hn;cases hn;have:n=i:=by lia
   subst this;rw[wN]at h3;exact tl.sqT h3
 ·rintro D ys H2 ⟨as,rfl,hl,hc,e2,s2,n2⟩;exact q D H2 ss as (y9 s1 n2) (s1.trans s2) e2 hN hl hc
def nt(K:W.Frag):Sp:=λvs H Q _=>∃(a h:Addr)(us:List V)(ts:List Say)(xs hs:List Str),vs=[.ref a,.ref h]/\SqT K H a us/\SaysAt K H us ts/\Lst ts xs/\SqT K H h (hs.map V.str)/\∀(p:Addr)(H':Hp),Same H H'->SqT K H' p ((se ts hs).map V.bl)->Q (.ref p) H'
theorem Rm(D:Def K mg "row_of" (top 14) ["sayings","held"])(iB:zz P w K mg base 40 "is_so" ["saying","held"] (Jf K 40))(aA:mg "tuple"=none):zz P w K mg base 41 "row_of" ["sayings","held"] (nt K):=by
 refine D.callee (N:=["sayings","held"]) (by walk_at"sc") (by walk_at"ln") λf cdv A outer s H vs Q E hr nd h=>?_;obtain⟨a,h,us,ts,xs,hs,rfl,ha,hS,hL,hh,q⟩:=h;have hl:=hS.len;have h6:=hL.hi;refine⟨[some (.ref a),some (.ref h)],_,rfl,(z4 (zw (zd yi rfl aA zc (z9 (yl (ixs:=[1]) (zq (own:=["saying"]) (N:=["held"]) rfl rfl rfl rfl rfl rfl rfl (by decide +kernel) rfl rfl rfl) rfl (y6 (z8 0)) (λ_ _ _ _=>yz) (λ_ _ _ _=>(zy iB hr (by lia) (z9 (z8 0) (z9 (z8 1) z6)))) rfl) z6)))),?_⟩;walk_at"rp";refine .inr ⟨⟨_,ha⟩,λC s₀ H₀ ex=>?_⟩;refine vp (xs:=us) (λD i ys H2=>ys=((ts.take i).map λt=>t.so hs).map V.bl/\i<=us.length/\H2 D=some (.lst ys)/\Same H H2/\H D=none) (by rw[zP];lia) ?_ ?_ ?_ ?_
 ·intro D H2 n2 s2 e2;exact⟨rfl,yQ _,e2,s2,n2⟩
 ·rintro D i ys H2 ⟨rfl,hi,e2,s2,_⟩;exact⟨(z7 s2).sqT ha,e2,by simp;lia⟩
 ·rintro D i v ys H2 hv ⟨rfl,hi,e2,s2,n2⟩;obtain⟨t,ht,sv⟩:=hS.at i v hv;walk_at"rp";refine⟨v,h,t,hs,rfl,sv.mono (z7 s2),hL.pc t (zK ht),(z7 s2).sqT hh,e2,CN.mk (zV.mp hv).1 ⟨?_,(zV.mp hv).1,zx,zu s2 n2 _,n2⟩⟩;rw[yV,ht];simp
 ·rintro D ys H2 ⟨rfl,hi,e2,s2,n2⟩;rw[hl,yX]at e2;exact⟨_,.inl (SqL.of e2),λp H3 s3 h3=>q p H3 (s2.trans s3) h3⟩
def vz(K:W.Frag):Sp:=λvs H Q _=>∃(a:Addr)(us:List V)(ts:List Say)(xs:List Str),vs=[.ref a]/\SqT K H a us/\SaysAt K H us ts/\Lst ts xs/\∀(p:Addr)(H':Hp)(ss:List Str)(R:List (Addr×List Bool)),H p=none->Same H H'->H' p=some (.lst (R.map λr=>V.ref r.1))->(∀r∈R,SqT K H' r.1 (r.2.map V.bl))->NamesOf ts ss->FitRows ts ss (R.map (·.2))->R.length<=32->Q (.ref p) H'
theorem Yl(D:Def K mg "fit_rows" (top 15) ["sayings"])(pZ:zz P w K mg base 43 "all_held" ["sayings"] (il K))(AF:zz P w K mg base 41 "row_of" ["sayings","held"] (nt K))(aH:mg "sorted"=none)(aQ:mg "set"=none):
  zz P w K mg base 44 "fit_rows" ["sayings"] (vz K):=by
 refine D.callee (N:=["sayings"]) (by walk_at"sc") (by walk_at"ln") λf cdv A outer s H vs Q E hr nd h=>?_;obtain⟨a,us,ts,xs,rfl,ha,hS,hL,q⟩:=h;refine⟨[some (.ref a)],_,rfl,(z4 (zw (wa rfl hr.units rfl aH rfl aQ (yl (ixs:=[0]) (zq (own:=["held"]) (N:=["sayings"]) rfl rfl rfl rfl rfl rfl rfl (by decide +kernel) rfl rfl rfl) rfl (y6 (zy pZ hr (by lia) (z9 (z8 0) z6))) (λ_ _ _ _=>yz) (λ_ _ _ _=>(zy AF hr (by lia) (z9 (z8 1) (z9 (z8 0) z6)))) rfl)))),?_⟩;walk_at"rp";refine⟨a,us,ts,xs,rfl,ha,hS,hL,λb H1 ss as nb s1 hb hN has GC=>?_⟩;obtain⟨FH,CG⟩:=hL.names hN;have p5:=Sc FH;walk_at"rp";refine .inl ⟨⟨_,SqL.of hb⟩,λC s₀ H₀ ex=>?_⟩;refine vo (xs:=as.map V.ref) (λD i ys H2=>∃R:List (Addr×List Bool),ys=(R.map λr=>V.ref r.1)/\R.map (·.2)=(List.range i).map (λ(n:Nat)=>se ts (y8 (n:Int) ss))/\(∀r∈R,SqT K H2 r.1 (r.2.map V.bl))/\H2 D=some (.lst ys)/\Same H1 H2/\H1 D=none) (by rw[zY,zP];lia) ?_ ?_ ?_ ?_
 ·intro D H2 n2 s2 e2;exact⟨[],rfl,rfl,λr hr=>by simp at hr,e2,s2,n2⟩
 ·rintro D i ys H2 ⟨R,rfl,hR,_,e2,s2,_⟩;refine⟨SqL.of (s2 _ _ hb),e2,?_⟩;have:=wZ List.length hR;simpa using this
 ·rintro D i v ys H2 hv ⟨R,rfl,hR,hT,e2,s2,n2⟩;rw[zQ]at hv;cases hc:as[i]? with
  |none=>rw[hc]at hv;cases hv
  |some c =>
   rw[hc]at hv;cases hv;have hi:i<as.length:=(zV.mp hc).1;walk_at"rp";refine⟨a,c,us,ts,xs,_,rfl,(z7 (s1.trans s2)).sqT ha,hS.mono (z7 (s1.trans s2)),hL,(z7 s2).sqT (GC i c hc),λp H3 s3 h3=>⟨s3 _ _ e2,CN.mk (by rw[zY];exact hi) ⟨R++[(p,se ts (y8 (i:Int) ss))],by rw[zJ];rfl,?_,λr hr=>?_,zx,zu (s2.trans s3) n2 _,n2⟩⟩⟩
   ·rw[zJ,hR,vI,zJ]
    rfl
   ·have tl:=xq (o:=.lst ((R.map λr=>V.ref r.1)++[V.ref p])) (s3 _ _ e2);rcases zE.mp hr with hr|hr
    ·exact tl.sqT ((z7 s3).sqT (hT r hr))
    ·rw[zN.mp hr];exact tl.sqT h3
 ·rintro D ys H2 ⟨R,rfl,hR,hT,e2,s2,n2⟩;rw[zY,has]at hR;have oB:R.length=2 ^ ss.length:=by
   have:=wZ List.length hR;simpa using this
  refine .inr ⟨R,SqL.of e2,λr hr=>⟨hT r hr,?_⟩,by lia,λR' kH mO dB iD iE p H3 n3 s3 e3=>?_⟩
  ·have:r.2∈R.map (·.2):=yN hr;rw[hR]at this;obtain⟨n,_,e⟩:=zD.mp this;intro z;rw[<-e]at z;have h1:=pi ts (y8 (n:Int) ss);rw[z]at h1;have:=hL.lo;simp at h1;lia
  ·refine q p H3 ss R' (y9 (s1.trans s2) n3) (s1.trans (s2.trans s3)) e3 (λr hr=>(z7 s3).sqT (hT r (kH r hr))) hN ⟨mO,λk=>?_,iD⟩ (by lia);rw[dB k,hR,zD];constructor
   ·rintro⟨n,hn,rfl⟩;exact⟨n,yF.mp hn,rfl⟩
   ·rintro⟨n,hn,rfl⟩;exact⟨n,yF.mpr hn,rfl⟩
def qv(k r:List Bool)(ws:List Int):Nat->Int
 |0=>0
 |n+1=>qv k r ws n+(if k.getD n false=r.getD n false then 0 else ws.getD n 0)
theorem i8{k r:List Bool}{ws:List Int}{n:Nat}(h:k.getD n false=r.getD n false):qv k r ws (n+1)=qv k r ws n:=by rw[qv,yT h,Int.add_zero]
theorem mx{k r:List Bool}{ws:List Int}{n:Nat}{x:Int}(h:¬k.getD n false=r.getD n false)(hx:ws[n]?=some x):qv k r ws (n+1)=qv k r ws n+x:=by
 rw[qv,zC h,zB,hx]
 rfl
def xw(k:List Bool)(rs:List (List Bool))(ws:List Int)(m:Nat):Int:=(rs.map λr=>qv k r ws m).sum
theorem Xu{k:List Bool}{rs:List (List Bool)}{ws:List Int}{m i:Nat}{r:List Bool}(h:rs[i]?=some r):xw k (rs.take (i+1)) ws m=xw k (rs.take i) ws m+qv k r ws m:=by
 unfold xw;rw[yV,h];simp
def WAt(K:W.Frag)(H:Hp)(v:V)(m:Nat)(ws:List Int):Prop:=(v = .non/\ws=List.replicate m 1)\/∃b,v = .ref b/\SqT K H b (ws.map V.int)/\ws.length=m
theorem WAt.mono{K:W.Frag}{H H':Hp}{v:V}{m:Nat}{ws:List Int}(t:Tups H H')(h:WAt K H v m ws):WAt K H' v m ws:=h.imp id λ⟨b,e,hb,hl⟩=>⟨b,e,t.sqT hb,hl⟩
theorem WAt.len{K:W.Frag}{H:Hp}{v:V}{m:Nat}{ws:List Int}(h:WAt K H v m ws):ws.length=m:=by
 rcases h with⟨_,rfl⟩|⟨_,_,_,e⟩
 ·simp
 ·exact e
def iw(K:W.Frag):Sp:=λvs H Q _=>∃(a:Addr)(k:List Bool)(wv:V)(ws:List Int),vs=[.ref a,wv]/\SqT K H a (k.map V.bl)/\k.length<=10/\WAt K H wv k.length ws /\
 ∀(b:Addr)(H':Hp),Same H H'->SqT K H' b (ws.map V.int)->Q (.ref b) H'
theorem Yr(D:Def K mg "weights_for" (top 19) ["row","weights"])(aA:mg "tuple"=none):zz P w K mg base 1 "weights_for" ["row","weights"] (iw K):=by
 refine D.callee (N:=["row","weights"]) (by walk_at"sc") (by walk_at"ln") λf cdv A outer s H vs Q E hr nd h=>?_;obtain⟨a,k,wv,ws,rfl,ha,hk,hw,q⟩:=h;refine⟨[some (.ref a),some wv],_,rfl,(z5 (za (zh Hd (z8 1) Rx (zm _)) (z4 (zw (zd yi rfl aA zc (z9 (yl (ixs:=[]) (zq (own:=["truth"]) (N:=[]) rfl rfl rfl rfl rfl rfl rfl (by decide +kernel) rfl rfl rfl) rfl (y6 (z8 0)) (λ_ _ _ _=>yz) (λ_ _ _ _=>z0) rfl) z6)))) zp)
  (z4 (zw (z8 1)))),?_⟩
 rcases hw with⟨rfl,rfl⟩|⟨b,rfl,hb,hl⟩
 ·walk_at"rp";refine⟨trivial,.inr ⟨⟨_,ha⟩,λC s₀ H₀ ex=>?_⟩⟩;refine vp (xs:=k.map V.bl) (λD i ys H2=>ys=(List.replicate i (1:Int)).map V.int/\i<=k.length/\H2 D=some (.lst ys)/\Same H H2/\H D=none) (by rw[zY,zP];lia) ?_ ?_ ?_ ?_
  ·intro D H2 n2 s2 e2;exact⟨rfl,yQ _,e2,s2,n2⟩
  ·rintro D i ys H2 ⟨rfl,hi,e2,s2,_⟩;exact⟨(z7 s2).sqT ha,e2,by simp⟩
  ·rintro D i v ys H2 hv ⟨rfl,hi,e2,s2,n2⟩;have cV:i<(k.map V.bl).length:=(zV.mp hv).1;walk_at"rp";refine⟨e2,CN.mk cV ⟨?_,by rw[zY]at cV;exact cV,zx,zu s2 n2 _,n2⟩⟩;rw[List.replicate_succ',zJ]
   rfl
  ·rintro D ys H2 ⟨rfl,hi,e2,s2,n2⟩;rw[zY]at e2;exact⟨_,.inl (SqL.of e2),λp H3 s3 h3=>q p H3 (s2.trans s3) h3⟩
 ·walk_at"rp";refine⟨trivial,?_⟩
  try rw[yL (λz:V.ref b=V.non=>nomatch z)]
  walk_at"rp";exact q b H (Same.refl H) hb
def b9(K:W.Frag):Sp:=λvs H Q _=>∃(a b c:Addr)(k r:List Bool)(ws:List Int)(m:Nat),vs=[.ref a,.ref b,.ref c]/\SqT K H a (k.map V.bl)/\SqT K H b (r.map V.bl)/\SqT K H c (ws.map V.int)/\k.length=m/\r.length=m/\ws.length=m /\
 ∀H',Same H H'->Q (.int (qv k r ws m)) H'
theorem Vg(D:Def K mg "unlike" (top 20) ["row","other","weights"])(aM:mg "enumerate"=none):zz P w K mg base 1 "unlike" ["row","other","weights"] (b9 K):=by
 refine D.callee (N:=["row","other","weights","total","number","weight"]) (by walk_at"sc") (by walk_at"ln") λf cdv A outer s H vs Q E hr nd h=>?_;obtain⟨a,b,c,k,r,ws,m,rfl,ha,hb,hc,hk,nW,hw,q⟩:=h;refine⟨[some (.ref a),some (.ref b),some (.ref c),none,none,none],_,rfl,(z5 (zo 3 nd z0)
  (z5 (xo yM rfl (Ya rfl aM (z9 (z8 2) z6)) (Ws 4 5 rfl nd) (z4 (za (zh (rc hr.units) (zb (z8 0) (z8 4) (λ_ _=>rfl)) (zb (z8 1) (z8 4) (λ_ _=>rfl)) (zm _)) (z4 (zo 3 nd (zt zg (z8 3) (z8 5)))) zp)))
  (z4 (zw (z8 3))))),?_⟩
 walk_at"rp";refine⟨⟨_,hc⟩,X7 (xs:=ws.map V.int) (λi σ H2=>∃x4 x5,σ=[some (.ref a),some (.ref b),some (.ref c),some (.int (qv k r ws i)),x4,x5]/\Same H H2) ⟨_,_,rfl,Same.refl H⟩ ?_ ?_ ?_⟩
 ·rintro i σ H2 _ ⟨x4,x5,rfl,s2⟩;exact(z7 s2).sqT hc
 ·rintro i v σ H2 H3 hv ⟨x4,x5,rfl,s2⟩ s3;rw[zQ]at hv;cases hx:ws[i]? with
  |none=>rw[hx]at hv;cases hv
  |some x =>
  rw[hx]at hv;cases hv;have hi:i<ws.length:=(zV.mp hx).1;have t3:=z7 (s2.trans s3);walk_at"rp";refine⟨_,_,.inr (t3.sqT ha),v7 (by lia),?_⟩;walk_at"rp";refine⟨_,_,.inr (t3.sqT hb),v7 (by lia),?_⟩;walk_at"rp"
  by_cases he:k.getD i false=r.getD i false
  ·rw[zA he];walk_at"rp";exact⟨_,_,by rw[i8 he],s2.trans s3⟩
  ·rw[yL he];walk_at"rp";exact⟨_,_,by rw[mx he hx],s2.trans s3⟩
 ·rintro σ H2 ⟨x4,x5,rfl,s2⟩;walk_at"rp";rw[zY,hw];exact q H2 s2
def mi(K:W.Frag):Sp:=λvs H Q _=>∃(a j:Addr)(k:List Bool)(J:List (Addr×List Bool))(wv:V)(ws:List Int)(m:Nat),vs=[.ref a,.ref j,wv]/\SqT K H a (k.map V.bl)/\k.length=m/\m<=10/\JudgesAt K H j J m/\WAt K H wv m ws /\
 ∀H',Same H H'->Q (.int (xw k (J.map (·.2)) ws m)) H'
theorem ax(D:DefD K mg "distance" (top 21) ["row","judges","weights"] [.none])(mF:zz P w K mg base 1 "weights_for" ["row","weights"] (iw K))(AB:zz P w K mg base 1 "unlike" ["row","other","weights"] (b9 K))(oY:mg "sum"=none):
  CalleeD P w K mg base 2 "distance" ["row","judges","weights"] [.none] (mi K):=by
 refine D.callee (N:=["row","judges","weights","given"]) (by walk_at"sc") (by walk_at"ln") λf cdv A outer s H vs Q E hr nd h=>?_;obtain⟨a,j,k,J,wv,ws,m,rfl,ha,hk,hm,hJ,hw,q⟩:=h;have nO:=hJ.hi;have AQ:=hw.len;refine⟨[some (.ref a),some (.ref j),some wv,none],_,rfl,(z5 (zo 3 nd (zy mF hr (by lia) (z9 (z8 0) (z9 (z8 2) z6))))
  (z4 (zw (zv (Hl rfl) rfl oY Jt (z9 (yl (ixs:=[0,3]) (zq (own:=["judge"]) (N:=["row","given"]) rfl rfl rfl rfl rfl rfl rfl (by decide +kernel) rfl rfl rfl) rfl (y6 (z8 1)) (λ_ _ _ _=>yz) (λ_ _ _ _=>(zy AB hr (by lia) (z9 (z8 1) (z9 (z8 0) (z9 (z8 2) z6))))) rfl) z6))))),?_⟩
 walk_at"rp";refine⟨a,k,wv,ws,rfl,ha,by lia,by rw[hk];exact hw,λb H1 s1 hb=>?_⟩;walk_at"rp";refine .inr ⟨⟨_,(z7 s1).sqT hJ.sq⟩,λC s₀ H₀ ex=>?_⟩;refine vp (xs:=J.map λr=>V.ref r.1) (λD i ys H2=>ys=(((J.map (·.2)).take i).map λr=>qv k r ws m).map V.int/\i<=J.length/\H2 D=some (.lst ys)/\Same H1 H2/\H1 D=none) (by rw[zY,zP];lia) ?_ ?_ ?_ ?_
 ·intro D H2 n2 s2 e2;exact⟨rfl,yQ _,e2,s2,n2⟩
 ·rintro D i ys H2 ⟨rfl,hi,e2,s2,_⟩;exact⟨(z7 (s1.trans s2)).sqT hJ.sq,e2,by simp;lia⟩
 ·rintro D i v ys H2 hv ⟨rfl,hi,e2,s2,n2⟩;rw[zQ]at hv;cases hc:J[i]? with
  |none=>rw[hc]at hv;cases hv
  |some r =>
  rw[hc]at hv;cases hv;have cV:i<J.length:=(zV.mp hc).1;have gO:=zK hc;have t2:=z7 (s1.trans s2);walk_at"rp";refine⟨a,r.1,b,k,r.2,ws,m,rfl,t2.sqT ha,t2.sqT (hJ.row r gO),(z7 s2).sqT hb,hk,hJ.len r gO,AQ,λH3 s3=>⟨s3 _ _ e2,CN.mk (by rw[zY];exact cV) ⟨?_,cV,zx,zu (s2.trans s3) n2 _,n2⟩⟩⟩;rw[yV,zQ,hc];simp
 ·rintro D ys H2 ⟨rfl,hi,e2,s2,n2⟩;rw[zY]at e2;walk_at"rp";refine⟨_,SqL.of e2,?_⟩;have:=q H2 (s1.trans s2);unfold xw at this;rw[vG (by rw[zY];exact zU _)];exact this
def ur(all rs:List (List Bool))(ws:List Int)(m:Nat):List (List Bool):=all.filter λk=>all.all λk'=>decide (xw k rs ws m<=xw k' rs ws m)
theorem lh{all rs:List (List Bool)}{ws:List Int}{m:Nat}{M:Int}(hM:M∈all.map λk=>xw k rs ws m)(iE:∀x∈all.map λk=>xw k rs ws m,M<=x):(all.filter λk=>decide (xw k rs ws m=M))=ur all rs ws m:=by
 unfold ur;refine List.filter_congr λk hk=>?_;have h1:=iE _ (yN (f:=λk=>xw k rs ws m) hk)
 by_cases h:xw k rs ws m=M
 ·rw[zA h];refine(yD.mpr λk' bU=>zA ?_).symm;rw[h];exact iE _ (yN (f:=λk=>xw k rs ws m) bU)
 ·rw[yL h];refine sP.mpr (λz=>h ?_) |>.symm
  obtain⟨k',bU,e⟩:=zD.mp hM;have:=yK (yD.mp z k' bU);rw[e]at this;exact Int.le_antisymm this h1
def iu(K:W.Frag):Sp:=λvs H Q _=>∃(a j:Addr)(us:List V)(ts:List Say)(xs:List Str)(J:List (Addr×List Bool))(wv:V)(ws:List Int),vs=[.ref a,.ref j,wv]/\SqT K H a us/\SaysAt K H us ts/\Lst ts xs/\JudgesAt K H j J ts.length/\WAt K H wv ts.length ws /\
 ∀(p:Addr)(H':Hp)(ss:List Str)(all:List (List Bool))(R:List (Addr×List Bool)),H p=none->Same H H'->H' p=some (.lst (R.map λr=>V.ref r.1))->(∀r∈R,SqT K H' r.1 (r.2.map V.bl))->NamesOf ts ss->FitRows ts ss all->R.map (·.2)=ur all (J.map (·.2)) ws ts.length->R.length<=32->Q (.ref p) H'
theorem Yq(D:DefD K mg "nearest" (top 22) ["sayings","judges","weights"] [.none])(gF:zz P w K mg base 44 "fit_rows" ["sayings"] (vz K))(gG:CalleeD P w K mg base 2 "distance" ["row","judges","weights"] [.none] (mi K))(eQ:mg "zip"=none)(bO:mg "min"=none):
  CalleeD P w K mg base 45 "nearest" ["sayings","judges","weights"] [.none] (iu K):=by
 refine D.callee (N:=["sayings","judges","weights","rows","distances","least"]) (by walk_at"sc") (by walk_at"ln") λf cdv A outer s H vs Q E hr nd h=>?_;obtain⟨a,j,us,ts,xs,J,wv,ws,rfl,ha,hS,hL,hJ,hw,q⟩:=h;have h6:=hL.hi;refine⟨[some (.ref a),some (.ref j),some wv,none,none,none],_,rfl,(z5 (zo 3 nd (zy gF hr (by lia) (z9 (z8 0) z6)))
  (z5 (xr 4 nd (ixs:=[1,2]) (zq (own:=["row"]) (N:=["judges","weights"]) rfl rfl rfl rfl rfl rfl rfl (by decide +kernel) rfl rfl rfl) rfl (y6 (z8 3)) (λ_ _ _ _=>yz) (λ_ _ _ _=>(zy gG.full hr (by lia) (z9 (z8 0) (z9 (z8 1) (z9 (z8 2) z6))))) rfl)
  (z5 (zo 5 nd (zv (Q4 rfl) rfl bO cv (z9 (z8 4) z6)))
  (z4 (zw (nh (ixs:=[5]) (zq (own:=["row","far"]) (N:=["least"]) rfl rfl rfl rfl rfl rfl rfl (by decide +kernel) rfl rfl rfl) rfl (Mq rfl eQ (z9 (z8 3) (z9 (z8 4) z6))) (λ_ _ _ _=>(v5 (zh (wn hr.units) (z8 1) (z8 2) (zm _)))) (λ_ _ _ _=>(z8 0)) rfl)))))),?_⟩
 walk_at"rp";refine⟨a,us,ts,xs,rfl,ha,hS,hL,λb H1 ss R nb s1 e1 hR hN hF oB=>?_⟩;have fP:∀r∈R,r.2.length=ts.length:=λr hr=>xi hF (yN (f:=(·.2)) hr);have pO:=sk hF;walk_at"rp";refine .inl ⟨⟨_,SqL.of e1⟩,λC s₀ H₀ ex=>?_⟩;refine vo (xs:=R.map λr=>V.ref r.1) (λD i ys H2=>ys=((R.take i).map λr=>xw r.2 (J.map (·.2)) ws ts.length).map V.int/\i<=R.length/\H2 D=some (.lst ys)/\Same H1 H2/\H1 D=none) (by rw[zY,zP];lia) ?_ ?_ ?_ ?_
 ·intro D H2 n2 s2 e2;exact⟨rfl,yQ _,e2,s2,n2⟩
 ·rintro D i ys H2 ⟨rfl,hi,e2,s2,_⟩;exact⟨SqL.of (s2 _ _ e1),e2,by simp;lia⟩
 ·rintro D i v ys H2 hv ⟨rfl,hi,e2,s2,n2⟩;rw[zQ]at hv;cases hc:R[i]? with
  |none=>rw[hc]at hv;cases hv
  |some r =>
  rw[hc]at hv;cases hv;have cV:i<R.length:=(zV.mp hc).1;have gO:=zK hc;have t2:=z7 (s1.trans s2);walk_at"rp";refine⟨r.1,j,r.2,J,wv,ws,ts.length,rfl,(z7 s2).sqT (hR r gO),fP r gO,by lia,hJ.mono t2,hw.mono t2,λH3 s3=>⟨s3 _ _ e2,CN.mk (by rw[zY];exact cV) ⟨?_,cV,zx,zu (s2.trans s3) n2 _,n2⟩⟩⟩;rw[yV,hc];simp
 rintro D2 ys H2 ⟨rfl,_,e2,s2,n2⟩;rw[zY,yX]at e2;walk_at"rp";refine⟨_,SqL.of e2,by rw[zY];lia,λM hM iE=>?_⟩;walk_at"rp";refine⟨⟨⟨_,SqL.of (s2 _ _ e1)⟩,⟨_,SqL.of e2⟩⟩,λC s₀ H₀ ex=>?_⟩;refine Tt (xs:=R.map λr=>V.ref r.1) (ys:=(R.map λr=>xw r.2 (J.map (·.2)) ws ts.length).map V.int) (λD i zs H3=>zs=(((R.take i).filter λr=>decide (xw r.2 (J.map (·.2)) ws ts.length=M)).map λr=>V.ref r.1)/\i<=R.length/\H3 D=some (.lst zs)/\Same H2 H3/\H2 D=none) (by rw[zY,zP];lia) (by simp) ?_ ?_ ?_ ?_
 ·intro D H3 n3 s3 e3;exact⟨rfl,yQ _,e3,s3,n3⟩
 ·rintro D i zs H3 ⟨rfl,hi,e3,s3,_⟩;refine⟨SqL.of (s3 _ _ (s2 _ _ e1)),SqL.of (s3 _ _ e2),e3,?_⟩;rw[zY];exact yS (xF _ _) (by rw[yU];lia)
 ·rintro D i u v zs H3 H4 hu hv ⟨rfl,hi,e3,s3,n3⟩ s4;rw[zQ]at hu hv;rw[zQ]at hv;cases hc:R[i]? with
  |none=>rw[hc]at hu;cases hu
  |some r =>
  rw[hc]at hu hv;cases hu;cases hv;have cV:i<R.length:=(zV.mp hc).1;walk_at"rp";have et:R.take (i+1)=R.take i++[r]:=by rw[yV,hc];rfl
  by_cases hd:xw r.2 (J.map (·.2)) ws ts.length=M
  ·rw[zA hd];walk_at"rp";refine⟨s4 _ _ e3,CN.mk (by rw[zY];exact cV) ⟨?_,cV,zx,zu (s3.trans s4) n3 _,n3⟩⟩;rw[et,vT,zJ,List.filter_cons_of_pos (by simpa using hd)]
   rfl
  ·rw[yL hd];walk_at"rp";refine CN.mk (by rw[zY];exact cV) ⟨?_,cV,s4 _ _ e3,s3.trans s4,n3⟩;rw[et,vT,List.filter_cons_of_neg (by simpa using hd),tH,List.append_nil]
 ·rintro D zs H3 ⟨rfl,hi,e3,s3,n3⟩;rw[zY,yX]at e3;have oW:=s2.trans s3;refine q D H3 ss (R.map (·.2)) _ (y9 (s1.trans s2) n3) (s1.trans oW) e3 (λr hr=>(z7 oW).sqT (hR r (xC.mp hr).1)) hN hF ?_ (yS (xF _ _) oB);rw[<-lh (M:=M) (by simpa using hM) (by simpa using iE),List.filter_map]
  rfl
def Xf(K:W.Frag):Sp:=λvs H Q _=>∃(a:Addr)(J:List (Addr×List Bool))(m j:Nat)(t:Bool),vs=[.ref a,.int (j:Int),.bl t]/\JudgesAt K H a J m/\j<m /\
 ∀(p:Addr)(H':Hp),H p=none->Same H H'->H' p=some (.lst ((yb (J.map (·.2)) j t J.length).map λ(n:Nat)=>V.int (n:Int)))->Q (.ref p) H'
theorem Ks(D:Def K mg "who_say" (top 1) ["judges","number","truth"])(aM:mg "enumerate"=none):zz P w K mg base 1 "who_say" ["judges","number","truth"] (Xf K):=by
 refine D.callee (N:=["judges","number","truth"]) (by walk_at"sc") (by walk_at"ln") λf cdv A outer s H vs Q E hr nd h=>?_;obtain⟨a,J,m,j,t,rfl,hJ,hj,q⟩:=h;have nO:=hJ.hi;refine⟨[some (.ref a),some (.int (j:Int)),some (.bl t)],_,rfl,(z4 (zw (nh (ixs:=[1,2]) (zq (own:=["judge","row"]) (N:=["number","truth"]) rfl rfl rfl rfl rfl rfl rfl (by decide +kernel) rfl rfl rfl) rfl (Ya rfl aM (z9 (z8 0) z6)) (λ_ _ _ _=>(v5 (zh (wn hr.units) (zb (z8 1) (z8 2) (λ_ _=>rfl)) (z8 3) (zm _)))) (λ_ _ _ _=>(z8 0)) rfl))),?_⟩;walk_at"rp";refine⟨⟨_,hJ.sq⟩,λC s₀ H₀ ex=>?_⟩;refine fw (xs:=J.map λr=>V.ref r.1) (λD i ys H2=>ys=(yb (J.map (·.2)) j t i).map (λ(n:Nat)=>V.int (n:Int))/\H2 D=some (.lst ys)/\Same H H2/\H D=none) (by rw[zY,zP];lia) ?_ ?_ ?_ ?_
 ·intro D H2 n2 s2 e2;exact⟨rfl,e2,s2,n2⟩
 ·rintro D i ys H2 ⟨rfl,e2,s2,_⟩;exact⟨(z7 s2).sqT hJ.sq,e2,by rw[zY];exact rg _ _ _ _⟩
 ·rintro D i v ys H2 H3 hv ⟨rfl,e2,s2,n2⟩ s3;rw[zQ]at hv;cases dD:J[i]? with
  |none=>rw[dD]at hv;cases hv
  |some r =>
   rw[dD]at hv;cases hv;have hi:i<J.length:=(zV.mp dD).1;have gO:=zK dD;have eg:(J.map (·.2)).getD i []=r.2:=by rw[zB,zQ,dD];rfl
   walk_at"rp";refine⟨_,_,.inr ((z7 (s2.trans s3)).sqT (hJ.row r gO)),v7 (by rw[hJ.len r gO];exact hj),?_⟩;walk_at"rp";have he:decide (r.2.getD j false=t)=(r.2.getD j false==t):=by cases r.2.getD j false<;>cases t<;>rfl
   rw[he];cases hc:(r.2.getD j false==t)with
   |true =>
    walk_at"rp";refine⟨s3 _ _ e2,CN.mk (by rw[zY];exact hi) ⟨?_,zx,zu (s2.trans s3) n2 _,n2⟩⟩;rw[w9,eg,yT hc,zJ]
    rfl
   |false =>
    walk_at"rp";refine CN.mk (by rw[zY];exact hi) ⟨?_,s3 _ _ e2,s2.trans s3,n2⟩;rw[w9,eg,zC (by rw[hc];decide),List.append_nil]
 ·rintro D ys H2 ⟨rfl,e2,s2,n2⟩;rw[zY]at e2;exact q D H2 n2 s2 e2
def ip(K:W.Frag):Sp:=λvs H Q _=>∃(a:Addr)(J:List (Addr×List Bool))(m j:Nat),vs=[.ref a,.int (j:Int)]/\JudgesAt K H a J m/\j<m/\∀H',Same H H'->Q (.bl (yj (J.map (·.2)) j)) H'
theorem Yn(D:Def K mg "most_say_yes" (top 2) ["judges","number"])(cD:zz P w K mg base 1 "who_say" ["judges","number","truth"] (Xf K))(aB:mg "len"=none):zz P w K mg base 2 "most_say_yes" ["judges","number"] (ip K):=by
 refine D.callee (N:=["judges","number"]) (by walk_at"sc") (by walk_at"ln") λf cdv A outer s H vs Q E hr nd h=>?_;obtain⟨a,J,m,j,rfl,hJ,hj,q⟩:=h;have nO:=hJ.hi;refine⟨[some (.ref a),some (.int (j:Int))],_,rfl,(z4 (zw (wy Q2 (zt wj z0 (zv yp rfl aB ze (z9 (zy cD hr (by lia) (z9 (z8 0) (z9 (z8 1) (z9 yg z6)))) z6))) (zv yp rfl aB ze (z9 (z8 0) z6)) (zm _)))),?_⟩;walk_at"rp";refine⟨a,J,m,j,true,rfl,hJ,hj,λp H1 n1 s1 e1=>?_⟩;walk_at"rp";refine⟨_,.inl (SqL.of e1),?_⟩;have e:=lz (J.map (·.2)) j;rw[zY]at e;have iE:=rg (J.map (·.2)) j true J.length;rw[zY];refine⟨cm (by lia),_,.inr ((z7 s1).sqT hJ.sq),?_⟩;have:=q H1 s1;unfold yj at this;rw[zY]at this ⊢;rw[e];exact this
def Za(K:W.Frag):Sp:=λvs H Q _=>∃(a:Addr)(J:List (Addr×List Bool))(m:Nat),vs=[.ref a]/\JudgesAt K H a J m/\m<=10/\∀(p:Addr)(H':Hp),Same H H'->SqT K H' p ((xb (J.map (·.2)) m).map V.bl)->Q (.ref p) H'
theorem tw{K:W.Frag}{H:Hp}{a:Addr}{J:List (Addr×List Bool)}{m:Nat}(h:JudgesAt K H a J m):∃r,r∈J/\atI (J.map λr=>V.ref r.1) 0=some (.ref r.1):=by
 have:=h.lo
 match J,this with
 |r::R,_=>exact⟨r,by simp,yk (j:=0) rfl⟩
theorem N4(D:Def K mg "most" (top 3) ["judges"])(lR:zz P w K mg base 2 "most_say_yes" ["judges","number"] (ip K))(aB:mg "len"=none)(aD:mg "range"=none)(aA:mg "tuple"=none):zz P w K mg base 3 "most" ["judges"] (Za K):=by
 refine D.callee (N:=["judges"]) (by walk_at"sc") (by walk_at"ln") λf cdv A outer s H vs Q E hr nd h=>?_;obtain⟨a,J,m,rfl,hJ,hm,q⟩:=h;obtain⟨r,pF,er⟩:=tw hJ;refine⟨[some (.ref a)],_,rfl,(z4 (zw (zd yi rfl aA zc (z9 (yl (ixs:=[0]) (zq (own:=["number"]) (N:=["judges"]) rfl rfl rfl rfl rfl rfl rfl (by decide +kernel) rfl rfl rfl) rfl (yq rfl aD (z9 (zv yp rfl aB ze (z9 (zb (z8 0) z0 (λ_ _=>rfl)) z6)) z6)) (λ_ _ _ _=>yz) (λ_ _ _ _=>(zy lR hr (by lia) (z9 (z8 1) (z9 (z8 0) z6)))) rfl) z6)))),?_⟩;walk_at"rp";refine⟨_,_,.inr hJ.sq,er,?_⟩;walk_at"rp";refine⟨_,.inr (hJ.row r pF),?_⟩;rw[zY,hJ.len r pF];refine⟨⟨by lia,by lia⟩,λC s₀ H₀ ex=>?_⟩;rw[yZ];refine yc (λD i ys H2=>ys=(xb (J.map (·.2)) i).map V.bl/\H2 D=some (.lst ys)/\Same H H2/\H D=none) (xp (by lia)) ?_ ?_ ?_ ?_
 ·intro D H2 n2 s2 e2;exact⟨rfl,e2,s2,n2⟩
 ·rintro D i ys H2 ⟨rfl,e2,s2,_⟩;exact⟨e2,by rw[zY,xj]⟩
 ·rintro D i ys H2 hi ⟨rfl,e2,s2,n2⟩;walk_at"rp";rw[wN];refine⟨a,J,m,i,rfl,hJ.mono (z7 s2),hi,λH3 s3=>⟨s3 _ _ e2,CN.mk hi ⟨?_,zx,zu (s2.trans s3) n2 _,n2⟩⟩⟩;rw[qk,zJ]
  rfl
 ·rintro D ys H2 ⟨rfl,e2,s2,n2⟩;exact⟨_,.inl (SqL.of e2),λp H3 s3 h3=>q p H3 (s2.trans s3) h3⟩
def bt(K:W.Frag):Sp:=λvs H Q _=>∃(r a:Addr)(k:List Bool)(us:List V)(ps:List (Nat×Bool)),vs=[.ref r,.ref a]/\SqT K H r (k.map V.bl)/\SqT K H a us/\PairsAt K H us ps/\(∀p∈ps,p.1<k.length)/\Q (.bl (agr k ps)) H
theorem U4(D:Def K mg "agrees" (top 16) ["row","part"]):zz P w K mg base 1 "agrees" ["row","part"] (bt K):=by
 refine D.callee (N:=["row","part","number","truth"]) (by walk_at"sc") (by walk_at"ln") λf cdv A outer s H vs Q E hr nd h=>?_;obtain⟨r,a,k,us,ps,rfl,hk,ha,hP,aO,q⟩:=h;refine⟨[some (.ref r),some (.ref a),none,none],_,rfl,(z5 (xo yM rfl (y6 (z8 1)) (Ws 2 3 rfl nd) (z4 (za (zh (rc hr.units) (zb (z8 0) (z8 2) (λ_ _=>rfl)) (z8 3) (zm _)) (z4 (zw yg)) zp)))
  (z4 (zw yg))),?_⟩
 walk_at"rp";refine .inr ⟨⟨_,ha⟩,xn (xs:=us) (λi σ H2=>∃x2 x3,σ=[some (.ref r),some (.ref a),x2,x3]/\H2=H/\agr k (ps.take i)=true) ⟨none,none,rfl,rfl,rfl⟩ ?_ ?_ ?_⟩
 ·rintro i σ H2 _ ⟨x2,x3,rfl,rfl,_⟩;exact ha
 ·rintro i x σ H2 hx ⟨x2,x3,rfl,rfl,AW⟩;obtain⟨b,p,hp,rfl,hb⟩:=hP.at i x hx;have hpm:=zK hp;walk_at"rp";refine⟨b,_,_,rfl,hb,?_⟩;walk_at"rp";refine⟨_,_,.inr hk,v7 (aO p hpm),?_⟩;walk_at"rp";have he:decide (k.getD p.1 false=p.2)=(k.getD p.1 false==p.2):=by cases k.getD p.1 false<;>cases p.2<;>rfl
  rw[he];cases hc:(k.getD p.1 false==p.2)with
  |true =>
   walk_at"rp";exact⟨_,_,rfl,trivial,by rw[jy hp,AW,hc];rfl⟩
  |false =>
   walk_at"rp";rw[Jn hpm hc]at q;exact q
 ·rintro σ H2 ⟨x2,x3,rfl,rfl,AW⟩;walk_at"rp";rw[hP.len,yX]at AW;rw[AW]at q;exact q
def Sv(K:W.Frag):Sp:=λvs H Q _=>∃(r a:Addr)(R:List (Addr×List Bool))(us:List V)(ps:List (Nat×Bool)),vs=[.ref r,.ref a]/\SqL K H r (R.map λq=>V.ref q.1)/\(∀q∈R,SqT K H q.1 (q.2.map V.bl))/\SqT K H a us/\PairsAt K H us ps/\(∀q∈R,∀p∈ps,p.1<q.2.length)/\Q (.bl (R.any λq=>agr q.2 ps)) H
theorem jo(D:Def K mg "any_agrees" (top 17) ["rows","part"])(AL:zz P w K mg base 1 "agrees" ["row","part"] (bt K)):zz P w K mg base 2 "any_agrees" ["rows","part"] (Sv K):=by
 refine D.callee (N:=["rows","part","row"]) (by walk_at"sc") (by walk_at"ln") λf cdv A outer s H vs Q E hr nd h=>?_;obtain⟨r,a,R,us,ps,rfl,pF,hR,ha,hP,aO,q⟩:=h;refine⟨[some (.ref r),some (.ref a),none],_,rfl,(z5 (xo yM rfl (y6 (z8 0)) (wg 2 nd) (z4 (za (ye (zy AL hr (by lia) (z9 (z8 2) (z9 (z8 1) z6)))) (z4 (zw yg)) zp)))
  (z4 (zw yg))),?_⟩
 walk_at"rp";refine .inl ⟨⟨_,pF⟩,u6 (xs:=R.map λq=>V.ref q.1) (λi σ H2=>∃x2,σ=[some (.ref r),some (.ref a),x2]/\H2=H/\((R.take i).any λq=>agr q.2 ps)=false) ⟨none,rfl,rfl,rfl⟩ ?_ ?_ ?_⟩
 ·rintro i σ H2 _ ⟨x2,rfl,rfl,_⟩;exact pF
 ·rintro i x σ H2 hx ⟨x2,rfl,rfl,kK⟩;rw[zQ]at hx;cases hi:R[i]? with
  |none=>rw[hi]at hx;cases hx
  |some e =>
   rw[hi]at hx;cases hx;have hm:=zK hi;walk_at"rp";refine⟨e.1,a,e.2,us,ps,rfl,hR e hm,ha,hP,aO e hm,?_⟩;walk_at"rp";refine u4 (λc9=>?_) (λc9=>?_)
   ·have:(R.any λq=>agr q.2 ps)=true:=xU.mpr ⟨e,hm,c9⟩;rw[this]at q;exact q
   ·refine⟨_,rfl,trivial,?_⟩;rw[yV,hi,List.any_append,kK];simpa using c9
 ·rintro σ H2 ⟨x2,rfl,rfl,kK⟩;walk_at"rp";rw[zY,yX]at kK;rw[kK]at q;exact q
def wq(p:Nat×Bool)(ps:List (Nat×Bool)):List (Nat×Bool):=ps.filter λq=>decide (q≠p)
theorem kr{p q:Nat×Bool}{ps:List (Nat×Bool)}{i:Nat}(h:ps[i]?=some q):wq p (ps.take (i+1))=wq p (ps.take i)++(if q=p then[]else[q]):=by
 unfold wq;rw[yV,h,vT]
 by_cases e:q=p
 ·simp[e]
 ·simp[e]
def iz(K:W.Frag):Sp:=λvs H Q _=>∃(a b:Addr)(us:List V)(ps:List (Nat×Bool))(p:Nat×Bool),vs=[.ref a,.ref b]/\SqT K H a us/\PairsAt K H us ps/\ps.length<64/\SqT K H b [.int (p.1:Int),.bl p.2] /\
 ∀(r:Addr)(H':Hp)(lZ:List V),Same H H'->SqT K H' r lZ->PairsAt K H' lZ (wq p ps)->Q (.ref r) H'
theorem Ys(D:Def K mg "without" (top 24) ["part","pair"])(aA:mg "tuple"=none):zz P w K mg base 1 "without" ["part","pair"] (iz K):=by
 refine D.callee (N:=["part","pair"]) (by walk_at"sc") (by walk_at"ln") λf cdv A outer s H vs Q E hr nd h=>?_;obtain⟨a,b,us,ps,p,rfl,ha,hP,nI,hb,q⟩:=h;refine⟨[some (.ref a),some (.ref b)],_,rfl,(z4 (zw (zd yi rfl aA zc (z9 (yl (ixs:=[1]) (zq (own:=["kept"]) (N:=["pair"]) rfl rfl rfl rfl rfl rfl rfl (by decide +kernel) rfl rfl rfl) rfl (y6 (z8 0)) (λ_ _ _ _=>(v5 (zh (rc hr.units) (z8 0) (z8 1) (zm _)))) (λ_ _ _ _=>(z8 0)) rfl) z6)))),?_⟩;walk_at"rp";refine .inr ⟨⟨_,ha⟩,λC s₀ H₀ ex=>?_⟩;have hl:=hP.len;refine vw (xs:=us) (λD n ys H3=>PairsAt K H ys (wq p (ps.take n))/\ys.length<=n/\H3 D=some (.lst ys)/\Same H H3/\H D=none) (by rw[zP];lia) ?_ ?_ ?_ ?_
 ·intro D H3 n3 s3 e3;exact⟨trivial,zU _,e3,s3,n3⟩
 ·rintro D n ys H3 ⟨_,hy,e3,s3,_⟩;exact⟨(z7 s3).sqT ha,e3,hy⟩
 ·rintro D n v ys H3 hv ⟨hy,oQ,e3,s3,n3⟩;obtain⟨c,p2,jV,rfl,hc⟩:=hP.at n v hv;have hn:n<us.length:=(zV.mp hv).1;walk_at"rp";refine⟨_,_,Z8 ((z7 s3).sqT hc),Z8 ((z7 s3).sqT hb),o6 _,o6 _,?_⟩;rw[P7]
  by_cases e:p2=p
  ·have:decide ((((p2.1:Nat):Int),p2.2)=(((p.1:Nat):Int),p.2))=true:=by rw[e];simp
   rw[this];walk_at"rp";refine CN.mk hn ⟨?_,by lia,e3,s3,n3⟩;rw[kr jV,yT e,List.append_nil];exact hy
  ·have:decide ((((p2.1:Nat):Int),p2.2)=(((p.1:Nat):Int),p.2))=false:=by
    refine yL λz=>e ?_;injection z with z1 z2;exact Prod.ext (Int.ofNat.inj z1) z2
   rw[this];walk_at"rp";refine⟨e3,CN.mk hn ⟨?_,by rw[zS];simp only[yR,xA];lia,zx,zu s3 n3 _,n3⟩⟩;rw[kr jV,zC e];exact PairsAt.app hy ⟨⟨c,rfl,hc⟩,trivial⟩
 ·rintro D ys H3 ⟨hy,oQ,e3,s3,n3⟩;walk_at"rp";rw[hl,yX]at hy;exact⟨_,.inl (SqL.of e3),λr H4 s4 h4=>q r H4 ys (s3.trans s4) h4 (hy.mono (z7 (s3.trans s4)))⟩
def yf(R:List (List Bool))(os:List (Nat×Bool))(l nd:List (Nat×Bool)):List (Nat×Bool):=l.foldl (λnd p=>if(R.any λk=>agr k (wq p nd++os))=true then nd else wq p nd) nd
theorem gp(p:Nat×Bool)(ps:List (Nat×Bool)):(wq p ps).length<=ps.length:=xF _ _
theorem gq{p q:Nat×Bool}{ps:List (Nat×Bool)}(h:q∈wq p ps):q∈ps:=(xC.mp h).1
theorem Yf{R:List (List Bool)}{os l nd:List (Nat×Bool)}{i:Nat}{p:Nat×Bool}(h:l[i]?=some p):yf R os (l.take (i+1)) nd=if(R.any λk=>agr k (wq p (yf R os (l.take i) nd)++os))=true then yf R os (l.take i) nd else wq p (yf R os (l.take i) nd):=by
 unfold yf;rw[yV,h,List.foldl_append]
 rfl
theorem Pm{R:List (Addr×List Bool)}{f:List Bool->Bool}:(R.any λq=>f q.2)=((R.map (·.2)).any f):=by
 rw[List.any_map];rfl
def b8(K:W.Frag):Sp:=λvs H Q _=>∃(r a o:Addr)(R:List (Addr×List Bool))(us ws:List V)(ps os:List (Nat×Bool)),vs=[.ref r,.ref a,.ref o]/\SqL K H r (R.map λq=>V.ref q.1)/\(∀q∈R,SqT K H q.1 (q.2.map V.bl))/\SqT K H a us/\PairsAt K H us ps/\SqT K H o ws/\PairsAt K H ws os /\
 ps.length<64/\os.length<64/\(∀q∈R,∀p∈ps,p.1<q.2.length)/\(∀q∈R,∀p∈os,p.1<q.2.length) /\
 ∀(c:Addr)(H':Hp)(lZ:List V),Same H H'->SqT K H' c lZ->PairsAt K H' lZ (yf (R.map (·.2)) os ps ps)->Q (.ref c) H'
theorem Ve(D:Def K mg "needed_against" (top 25) ["rows","part","others"])(rB:zz P w K mg base 1 "without" ["part","pair"] (iz K))(dP:zz P w K mg base 2 "any_agrees" ["rows","part"] (Sv K)):zz P w K mg base 3 "needed_against" ["rows","part","others"] (b8 K):=by
 refine D.callee (N:=["rows","part","others","needed","pair","less"]) (by walk_at"sc") (by walk_at"ln") λf cdv A outer s H vs Q E hr nd h=>?_;obtain⟨r,a,o,R,us,ws,ps,os,rfl,pF,hR,ha,hP,ho,hO,nI,h64',aO,pM,q⟩:=h;refine⟨[some (.ref r),some (.ref a),some (.ref o),none,none,none],_,rfl,(z5 (zo 3 nd (z8 1))
  (z5 (xo yM rfl (y6 (z8 1)) (wg 4 nd) (z5 (zo 5 nd (zy rB hr (by lia) (z9 (z8 3) (z9 (z8 4) z6))))
  (z4 (za (yd (ye (zy dP hr (by lia) (z9 (z8 0) (z9 (zt zg (z8 5) (z8 2)) z6))))) (z4 (zo 3 nd (z8 5))) zp))))
  (z4 (zw (z8 3))))),?_⟩
 have hl:=hP.len;walk_at"rp";refine .inr ⟨⟨_,ha⟩,xn (xs:=us) (λi σ H2=>∃c cs x4 x5,σ=[some (.ref r),some (.ref a),some (.ref o),some (.ref c),x4,x5]/\Same H H2/\SqT K H2 c cs/\PairsAt K H2 cs (yf (R.map (·.2)) os (ps.take i) ps)/\(∀p∈yf (R.map (·.2)) os (ps.take i) ps,p∈ps)/\(yf (R.map (·.2)) os (ps.take i) ps).length<=ps.length) ⟨a,us,none,none,rfl,Same.refl _,ha,hP,λp hp=>hp,zU _⟩ ?_ ?_ ?_⟩
 ·rintro i σ H2 _ ⟨c,cs,x4,x5,rfl,s2,_⟩;exact(z7 s2).sqT ha
 ·rintro i x σ H2 hx ⟨c,cs,x4,x5,rfl,s2,hc,AT,oR,iE⟩;obtain⟨b,p,hp,rfl,hb⟩:=hP.at i x hx;walk_at"rp";refine⟨c,b,cs,_,p,rfl,hc,AT,by lia,(z7 s2).sqT hb,λd H3 ds s3 hd Br=>?_⟩;walk_at"rp";have AZ:=s2.trans s3;have hll:=gp p (yf (R.map (·.2)) os (ps.take i) ps);refine .inr ⟨ds,ws,hd,(z7 AZ).sqT ho,by rw[Br.len,hO.len,zP];lia,λe H4 s4 he=>?_⟩;have Ac:=AZ.trans s4;refine⟨r,e,R,ds++ws,wq p (yf (R.map (·.2)) os (ps.take i) ps)++os,rfl,Ac.seq pF,λq hq=>(z7 Ac).sqT (hR q hq),he,PairsAt.app (Br.mono (z7 s4)) (hO.mono (z7 Ac)),λq hq y hy=>?_,?_⟩
  ·rcases zE.mp hy with z|z
   ·exact aO q hq y (oR y (gq z))
   ·exact pM q hq y z
  walk_at"rp";rw[Yf hp,Pm (f:=λk=>agr k (wq p (yf (R.map (·.2)) os (ps.take i) ps)++os))];cases hc9:((R.map (·.2)).any λk=>agr k (wq p (yf (R.map (·.2)) os (ps.take i) ps)++os))with
  |true =>
   walk_at"rp";exact⟨c,cs,_,_,rfl,Ac,(z7 (s3.trans s4)).sqT hc,AT.mono (z7 (s3.trans s4)),oR,iE⟩
  |false =>
   walk_at"rp";exact⟨d,ds,_,_,rfl,Ac,(z7 s4).sqT hd,Br.mono (z7 s4),λy hy=>oR y (gq hy),by lia⟩
 ·rintro σ H2 ⟨c,cs,x4,x5,rfl,s2,hc,AT,_⟩;walk_at"rp";rw[hl,yX]at AT;exact q c H2 cs s2 hc AT
theorem sz1{a:V}:[a].length<=sizeLine:=by simp only[yR,xA];rw[zP];decide
theorem sz2{a b:V}:[a,b].length<=sizeLine:=by simp only[yR,xA];rw[zP];decide
def ReasonAt(K:W.Frag)(H:Hp)(v:V)(word:Str)(xs:List V):Prop:=∃r c,v = .ref r/\SqT K H r [.str word,.ref c]/\SqT K H c xs
theorem ReasonAt.mono{K:W.Frag}{H H':Hp}{v:V}{word:Str}{xs:List V}(t:Tups H H')(h:ReasonAt K H v word xs):ReasonAt K H' v word xs :=
 let⟨r,c,e,a,b⟩:=h;⟨r,c,e,t.sqT a,t.sqT b⟩
def rk(K:W.Frag):Sp:=λvs H Q _=>∃(a:Addr)(J:List (Addr×List Bool))(m j:Nat)(t:Bool),vs=[.ref a,.int (j:Int),.bl t]/\JudgesAt K H a J m/\j<m /\
 ∀(v:V)(H':Hp),Same H H'->ReasonAt K H' v "judges" ((yb (J.map (·.2)) j t J.length).map λn=>V.int ((n:Nat):Int))->Q v H'
theorem ql(D:Def K mg "by_judges" (top 27) ["judges","number","truth"])(cD:zz P w K mg base 1 "who_say" ["judges","number","truth"] (Xf K))(aA:mg "tuple"=none):zz P w K mg base 2 "by_judges" ["judges","number","truth"] (rk K):=by
 refine D.callee (N:=["judges","number","truth"]) (by walk_at"sc") (by walk_at"ln") λf cdv A outer s H vs Q E hr nd h=>?_;obtain⟨a,J,m,j,t,rfl,hJ,hj,q⟩:=h;refine⟨[some (.ref a),some (.int (j:Int)),some (.bl t)],_,rfl,(z4 (zw (wu (z9 yn (z9 (zd yi rfl aA zc (z9 (zy cD hr (by lia) (z9 (z8 0) (z9 (z8 1) (z9 (z8 2) z6)))) z6)) z6))))),?_⟩;walk_at"rp";refine⟨a,J,m,j,t,rfl,hJ,hj,λp H1 n1 s1 e1=>?_⟩;walk_at"rp";refine⟨_,.inl (SqL.of e1),λc H2 s2 h2=>⟨sz2,λr H3 n3 s3 e3=>?_⟩⟩;exact q _ H3 (s1.trans (s2.trans s3)) ⟨r,c,rfl,SqT.of e3,(z7 s3).sqT h2⟩
def bu(K:W.Frag):Sp:=λvs H Q _=>∃(r a:Addr)(R:List (Addr×List Bool))(us:List V)(ps:List (Nat×Bool))(j:Nat)(t:Bool),vs=[.ref r,.ref a,.int (j:Int),.bl t]/\SqL K H r (R.map λq=>V.ref q.1)/\(∀q∈R,SqT K H q.1 (q.2.map V.bl))/\SqT K H a us/\PairsAt K H us ps/\ps.length<64/\(∀q∈R,∀p∈ps,p.1<q.2.length)/\(∀q∈R,j<q.2.length) /\
 ∀(v:V)(H':Hp)(lZ:List V),Same H H'->ReasonAt K H' v "follows" lZ->PairsAt K H' lZ (yf (R.map (·.2)) [(j,!t)] ps ps)->Q v H'
theorem Yk(D:Def K mg "by_part" (top 28) ["rows","part","number","truth"])(iF:zz P w K mg base 3 "needed_against" ["rows","part","others"] (b8 K)):zz P w K mg base 4 "by_part" ["rows","part","number","truth"] (bu K):=by
 refine D.callee (N:=["rows","part","number","truth"]) (by walk_at"sc") (by walk_at"ln") λf cdv A outer s H vs Q E hr nd h=>?_;obtain⟨r,a,R,us,ps,j,t,rfl,pF,hR,ha,hP,nI,aO,hj,q⟩:=h;refine⟨[some (.ref r),some (.ref a),some (.int (j:Int)),some (.bl t)],_,rfl,(z4 (zw (wu (z9 yn (z9 (zy iF hr (by lia) (z9 (z8 0) (z9 (z8 1) (z9 (wu (z9 (wu (z9 (z8 2) (z9 (gu (z8 3)) z6))) z6)) z6)))) z6))))),?_⟩;walk_at"rp";refine⟨sz2,λx H1 n1 s1 e1=>⟨sz1,λy H2 n2 s2 e2=>?_⟩⟩;have eL:=s1.trans s2;refine⟨r,a,y,R,us,[.ref x],ps,[(j,!t)],rfl,eL.seq pF,λq hq=>(z7 eL).sqT (hR q hq),(z7 eL).sqT ha,hP.mono (z7 eL),SqT.of e2,⟨⟨x,rfl,(z7 s2).sqT (SqT.of e1)⟩,trivial⟩,nI,(by show 1<64;decide),aO,λq hq p hp=>?_,λc H3 lZ s3 h3 h4=>?_⟩
 ·rw[zN.mp hp];exact hj q hq
 walk_at"rp";refine⟨sz2,λz H4 n4 s4 e4=>?_⟩;exact q _ H4 lZ (eL.trans (s3.trans s4)) ⟨z,c,rfl,SqT.of e4,(z7 s4).sqT h3⟩ (h4.mono (z7 s4))
def rsnOk(K:W.Frag)(H:Hp)(R J:List (List Bool))(said:Nat->Bool)(tk:List (Nat×Bool))(n:Nat)(v:V):Prop :=
 (xu R said tk n=said n/\ReasonAt K H v "judges" ((yb J n (said n) J.length).map λn=>V.int ((n:Nat):Int))) \/
 (xu R said tk n=!said n/\∃(ps:List (Nat×Bool))(us:List V),ps.Perm tk/\ps.Pairwise (λa b=>a.1<b.1)/\ReasonAt K H v "follows" us/\PairsAt K H us (yf R [(n,said n)] ps ps))
theorem rsnOk.mono{K:W.Frag}{H H':Hp}{R J:List (List Bool)}{said:Nat->Bool}{tk:List (Nat×Bool)}{n:Nat}{v:V}(t:Tups H H'):rsnOk K H R J said tk n v->rsnOk K H' R J said tk n v
 | .inl ⟨h,r⟩=>.inl ⟨h,r.mono t⟩
 | .inr ⟨h,ps,us,hp,hs,r,pr⟩=>.inr ⟨h,ps,us,hp,hs,r.mono t,pr.mono t⟩
def kvR(ns:List Nat)(rv:List V):List (Key×V):=(ns.zip rv).map λp=>(Sum.inl ((p.1:Nat):Int),p.2)
theorem Nk{ns:List Nat}{rv:List V}(n:Nat)(v:V)(h:ns.length=rv.length):kvR (ns++[n]) (rv++[v])=kvR ns rv++[(Sum.inl ((n:Nat):Int),v)]:=by
 unfold kvR;rw[List.zip_append h,zJ]
 rfl
theorem Nl{ns:List Nat}{rv:List V}{p:Key×V}(h:p∈kvR ns rv):∃n∈ns,p.1=Sum.inl ((n:Nat):Int):=by
 obtain⟨q,hq,rfl⟩:=zD.mp h;exact⟨q.1,(List.of_mem_zip hq).1,rfl⟩
theorem Wj:∀{ns:List Nat}{rv:List V}{j n:Nat}{v:V},ns.Nodup->ns[j]?=some n->rv[j]?=some v->si (kvR ns rv) (Sum.inl ((n:Nat):Int))=some v
 |[],_,_,_,_,_,h,_=>by simp at h
 |_::_,[],_,_,_,_,_,h=>by simp at h
 |m::ns,u::rv,0,n,v,_,h1,h2=>by
  cases h1;cases h2;exact uf rfl
 |m::ns,u::rv,j+1,n,v,hn,h1,h2=>by
  rw[wO]at hn;have pP:ns[j]?=some n:=h1;show si ((Sum.inl ((m:Nat):Int),u)::kvR ns rv) _=some v;rw[ue λz=>?_]
  ·exact Wj hn.2 pP h2
  ·have z2:((m:Nat):Int)=(n:Int):=Sum.inl.inj z;have z3:m=n:=Int.ofNat.inj z2;exact hn.1 (z3▸zK pP)
theorem Nj{tk:List (Nat×Bool)}{p:Key×V}(h:p∈kvI (wk tk)):∃n∈tk.map (·.1),p.1=Sum.inl ((n:Nat):Int):=by
 obtain⟨q,hq,rfl⟩:=zD.mp h;obtain⟨q',CO,rfl⟩:=zD.mp hq;exact⟨q'.1,yN CO,rfl⟩
theorem Ni(tk:List (Nat×Bool))(n:Nat)(b:Bool):kvI (wk (tk++[(n,b)]))=kvI (wk tk)++[(Sum.inl ((n:Nat):Int),V.bl b)]:=by
 unfold kvI wk;rw[zJ,zJ]
 rfl
theorem Qh{ns:List Nat}{n:Nat}(h:n∉ns){k:Key}(hk:∃m∈ns,k=Sum.inl ((m:Nat):Int)):k≠Sum.inl ((n:Nat):Int):=by
 rintro rfl;obtain⟨m,hm,e⟩:=hk;have e2:((n:Nat):Int)=(m:Int):=Sum.inl.inj e;have e3:n=m:=Int.ofNat.inj e2;exact h (e3▸hm)
theorem Q7{l:List Nat}(hN:l.Nodup){i j x:Nat}(a:l[i]?=some x)(b:l[j]?=some x):i=j:=by
 obtain⟨h1,e1⟩:=zV.mp a;obtain⟨h2,e2⟩:=zV.mp b;exact(List.getElem_inj hN).mp (e1.trans e2.symm)
theorem Te{ord:List Nat}(hn:ord.Nodup){i n:Nat}(h:ord[i]?=some n):n∉ord.take i:=by
 intro z;obtain⟨j,hj,e⟩:=vX z;rw[yU]at hj;rw[List.getElem_take]at e;have e1:ord[j]?=some n:=zV.mpr ⟨by lia,e⟩;have:=Q7 hn e1 h;lia
theorem bd{K:W.Frag}{H:Hp}:∀{ps:List (Addr×(Int×Bool))}{qs:List (Nat×Bool)},ps.map (·.2)=wk qs->(∀p∈ps,SqT K H p.1 [.int p.2.1,.bl p.2.2])->PairsAt K H (ps.map λp=>V.ref p.1) qs
 |[],[],_,_=>trivial
 |[],_::_,h,_=>by simp[wk]at h
 |_::_,[],h,_=>by simp[wk]at h
 |p::ps,q::qs,h,hp=>by
  have h':p.2::ps.map (·.2)=(((q.1:Nat):Int),q.2)::wk qs:=h;obtain⟨h1,h2⟩:=List.cons.inj h';refine⟨⟨p.1,rfl,?_⟩,bd h2 λp' rM=>hp p' (zI _ rM)⟩;have:=hp p zH;rw[h1]at this;exact this
theorem Pn{R:List (Addr×List Bool)}{ps tk:List (Nat×Bool)}(h:ps.Perm tk)(x:Nat×Bool):(R.any λq=>agr q.2 (ps++[x]))=((R.map (·.2)).any λk=>agr k (tk++[x])):=by
 rw[List.any_map]
 congr 1
 funext q
 exact Pi (h.append_right [x])
theorem Og{ps:List (Nat×Bool)}(hn:(ps.map (·.1)).Nodup)(h:(wk ps).Pairwise λa b=>pLt b a=false):ps.Pairwise λa b=>a.1<b.1:=by
 have h1:ps.Pairwise λa b=>pLt (((b.1:Nat):Int),b.2) (((a.1:Nat):Int),a.2)=false:=by
  unfold wk at h;exact wY.mp h
 have h2:ps.Pairwise λa b=>a.1≠b.1:=by
  have:=wY.mp hn;exact this
 refine(h1.and h2).imp λ{a b} iP=>?_;obtain⟨z1,z2⟩:=iP;simp only[pLt]at z1
 by_cases aO:b.1<a.1
 ·have:((b.1:Nat):Int)<(a.1:Int):=by lia
  simp[this]at z1;lia
 ·lia
theorem ni{ks:List (List Bool)}{m n:Nat}(h:n<m):atI ((xb ks m).map V.bl) ((n:Nat):Int)=some (V.bl (yj ks n)):=yk (by simp[xb,h])
def va(K:W.Frag):Sp:=λvs H Q _=>∃(a jd o:Addr)(us:List V)(ts:List Say)(xs:List Str)(J:List (Addr×List Bool))(ord:List Nat),vs=[.ref a,.ref jd,.ref o]/\SqT K H a us/\SaysAt K H us ts/\Lst ts xs/\JudgesAt K H jd J ts.length/\SqT K H o (ord.map λn=>V.int ((n:Nat):Int))/\ord.Nodup/\(∀n,n∈ord↔n<ts.length) /\
 ∀(r c l:Addr)(H':Hp)(ss:List Str)(R:List (List Bool))(row:List Bool)(rs:List V),Same H H'->NamesOf ts ss->FitRows ts ss R->H r=none->SqT K H' r [.ref c,.ref l]->SqT K H' c (row.map V.bl)->row.length=ts.length ->
  (∀j b,row[j]?=some b->(j,b)∈zf R (yj (J.map (·.2))) ord)->H l=none->H' l=some (.lst rs)->rs.length=ts.length->(∀n v,rs[n]?=some v->∃j,ord[j]?=some n/\rsnOk K H' R (J.map (·.2)) (yj (J.map (·.2))) (zf R (yj (J.map (·.2))) (ord.take j)) n v)->Q (.ref r) H'
def IoInv(K:W.Frag)(R J:List (List Bool))(said:Nat->Bool)(ord:List Nat)(H2:Hp)(d1 d2:Addr)(pre:St)(i:Nat)(σ:St)(H5:Hp):Prop:=∃(x7 x8:Option V)(rv:List V),σ=pre++[x7,x8,none] /\
  H5 d1=some (.dK (kvI (wk (zf R said (ord.take i)))))/\rv.length=i/\H5 d2=some (.dK (kvR (ord.take i) rv))/\(∀(j n:Nat) v,ord[j]?=some n->rv[j]?=some v->rsnOk K H5 R J said (zf R said (ord.take j)) n v)/\Same H2 H5/\i<=ord.length
theorem IoInv.mk{K:W.Frag}{R J:List (List Bool)}{said:Nat->Bool}{ord:List Nat}{H2:Hp}{d1 d2:Addr}{pre:St}{i:Nat}{σ:St}{H5:Hp}(x7 x8:Option V)(rv:List V)(h0:σ=pre++[x7,x8,none])(h1:H5 d1=some (.dK (kvI (wk (zf R said (ord.take i))))))(h2:rv.length=i)(h3:H5 d2=some (.dK (kvR (ord.take i) rv)))
  (h4:∀(j n:Nat) v,ord[j]?=some n->rv[j]?=some v->rsnOk K H5 R J said (zf R said (ord.take j)) n v) (h5:Same H2 H5) (h6:i<=ord.length):IoInv K R J said ord H2 d1 d2 pre i σ H5:=⟨x7,x8,rv,h0,h1,h2,h3,h4,h5,h6⟩
theorem ay(D:Def K mg "in_order" (top 29) ["sayings","judges","order"])(gF:zz P w K mg base 44 "fit_rows" ["sayings"] (vz K))(iH:zz P w K mg base 3 "most" ["judges"] (Za K))(dP:zz P w K mg base 2 "any_agrees" ["rows","part"] (Sv K))(fL:zz P w K mg base 2 "by_judges" ["judges","number","truth"] (rk K))(rH:zz P w K mg base 4 "by_part" ["rows","part","number","truth"] (bu K))(aA:mg "tuple"=none)(aH:mg "sorted"=none)(aD:mg "range"=none)(aB:mg "len"=none):zz P w K mg base 45 "in_order" ["sayings","judges","order"] (va K):=by
 refine D.callee (N:=["sayings","judges","order","rows","said","taken","reasons","number","ahead","row"]) (by walk_at"sc") (by walk_at"ln") λf cdv A outer s H vs Q E hr nd h=>?_;obtain⟨a,jd,o,us,ts,xs,J,ord,rfl,ha,hS,hL,hJ,ho,mO,dB,q⟩:=h;have h6:=hL.hi;have pK:ord.length<=6:=by
  have:=wm (m:=List.range ts.length) mO λn hn=>yF.mpr ((dB n).mp hn);rw[xS]at this;lia
 refine⟨[some (.ref a),some (.ref jd),some (.ref o),none,none,none,none,none,none,none],_,rfl,(z5 (zo 3 nd (zy gF hr (by lia) (z9 (z8 0) z6)))
  (z5 (zo 4 nd (zy iH hr (by lia) (z9 (z8 1) z6)))
  (z5 (zo 5 nd Q0)
  (z5 (zo 6 nd Q0)
  (z5 (xo yM rfl (Oq (z8 2)) (wg 7 nd) (z5 (zo 8 nd (zd yi rfl aA zc (z9 (jm rfl rfl aH (z8 5)) z6)))
  (z4 (za (ye (zy dP hr (by lia) (z9 (z8 3) (z9 (zt Kf (z8 8) (wu (z9 (wu (z9 (z8 7) (z9 (zb (z8 4) (z8 7) (λ_ _=>rfl)) z6))) z6))) z6)))) (z5 (dk hr.units (z8 5) (z8 7) (zb (z8 4) (z8 7) (λ_ _=>rfl)))
  (z4 (dk hr.units (z8 6) (z8 7) (zy fL hr (by lia) (z9 (z8 1) (z9 (z8 7) (z9 (zb (z8 4) (z8 7) (λ_ _=>rfl)) z6))))))) (z5 (dk hr.units (z8 5) (z8 7) (gu (zb (z8 4) (z8 7) (λ_ _=>rfl))))
  (z4 (dk hr.units (z8 6) (z8 7) (zy rH hr (by lia) (z9 (z8 3) (z9 (z8 8) (z9 (z8 7) (z9 (X9 hr.units (z8 5) (z8 7) (λ_ _=>rfl)) z6))))))))))))
  (z5 (zo 9 nd (zd yi rfl aA zc (z9 (yl (ixs:=[5]) (zq (own:=["number"]) (N:=["taken"]) rfl rfl rfl rfl rfl rfl rfl (by decide +kernel) rfl rfl rfl) rfl (yq rfl aD (z9 (zv yp rfl aB ze (z9 (z8 0) z6)) z6)) (λ_ _ _ _=>yz) (λ_ _ _ _=>(X9 hr.units (z8 1) (z8 0) (λ_ _=>rfl))) rfl) z6)))
  (z4 (zw (wu (z9 (z8 9) (z9 (yl (ixs:=[6]) (zq (own:=["number"]) (N:=["reasons"]) rfl rfl rfl rfl rfl rfl rfl (by decide +kernel) rfl rfl rfl) rfl (yq rfl aD (z9 (zv yp rfl aB ze (z9 (z8 0) z6)) z6)) (λ_ _ _ _=>yz) (λ_ _ _ _=>(X9 hr.units (z8 1) (z8 0) (λ_ _=>rfl))) rfl) z6))))))))))),?_⟩
 simp only[Tc];walk_at"rs";refine⟨a,us,ts,xs,rfl,ha,hS,hL,λr H1 ss R n1 s1 e1 hR hN hF hR32=>?_⟩;walk_at"rs";refine⟨jd,J,ts.length,rfl,hJ.mono (z7 s1),by lia,λsd H2 s2 hsd=>?_⟩;walk_at"rs";intro d1 H3 n3 s3 e3;walk_at"rs";intro d2 H4 n4 s4 e4;have n4':H2 d2=none:=y9 s3 n4;have Cc:d1≠d2:=λz=>by rw[<-z,e3]at n4;cases n4
 have oB:∀q∈R,q.2.length=ts.length:=λq hq=>xi hF (yN hq);generalize hsaid:yj (J.map (·.2))=said at q;have CG:∀n,yj (J.map (·.2)) n=said n:=λn=>by rw[hsaid]
 simp only[Tc];walk_at"rs";refine⟨⟨_,(z7 (s1.trans (s2.trans (s3.trans s4)))).sqT ho⟩,xn (xs:=ord.map λn=>V.int ((n:Nat):Int)) (IoInv K (R.map (·.2)) (J.map (·.2)) said ord H2 d1 d2 [some (.ref a),some (.ref jd),some (.ref o),some (.ref r),some (.ref sd),some (.ref d1),some (.ref d2)])
  (IoInv.mk none none [] rfl (s4 _ _ e3) rfl e4 (λj n v _ h=>by simp at h) (s3.trans s4) (yQ _)) ?_ ?_ ?_⟩
 ·rintro i σ H5 _ ⟨x7,x8,rv,rfl,_,_,_,_,s5,_⟩;exact(z7 (s1.trans (s2.trans s5))).sqT ho
 ·rintro i x σ H5 hx ⟨x7,x8,rv,rfl,hh⟩;have Du:=hh.1;have DP:=hh.2.1;have GY:=hh.2.2.1;have gN:=hh.2.2.2.1;have s5:=hh.2.2.2.2.1;have hi:=hh.2.2.2.2.2;clear hh;rw[zQ]at hx;cases hn:ord[i]? with
  |none=>rw[hn]at hx;cases hx
  |some n =>
  rw[hn]at hx;cases hx;have qI:n<ts.length:=(dB n).mp (zK hn);have FV:=Te mO hn;generalize htk:zf (R.map (·.2)) said (ord.take i)=tk at Du;have FD:=vh (R:=R.map (·.2)) (said:=said) hn;rw[htk]at FD;have iO:tk.map (·.1)=ord.take i:=by rw[<-htk];exact xm _ _ _
  have htl:tk.length=i:=by
   have:=wZ List.length iO;rw[zY,yU]at this;lia
  have cV:i<ord.length:=(zV.mp hn).1;walk_at"rp";refine⟨wk tk,Du,by unfold wk;rw[zY];lia,λl6 ps H6 s6 bM hsrt Bi hl6=>?_⟩;walk_at"rp";refine⟨_,.inl (SqL.of hl6),λc H7 s7 hc=>?_⟩;obtain⟨qs,hqs,FL⟩:=R5 bM;have hP7:PairsAt K H7 (ps.map λp=>V.ref p.1) qs:=bd hqs λp hp=>(z7 s7).sqT (SqT.of (Bi p hp));have hqm:∀p∈qs,p.1<ts.length:=λp hp=>by
   have h1:p.1∈tk.map (·.1):=yN (FL.mem_iff.mp hp);rw[iO]at h1;exact(dB p.1).mp (xN h1)
  have hql:qs.length=i:=by rw[FL.length_eq,htl]
  have C1:=s6.trans s7;walk_at"rp";refine⟨_,_,.inr ((z7 (s5.trans C1)).sqT hsd),ni qI,?_⟩;rw[CG];refine⟨sz2,λt1 H8 n8 s8 e8=>⟨sz1,λt2 H9 n9 s9 e9=>?_⟩⟩;walk_at"rp";refine⟨_,_,(z7 (s8.trans s9)).sqT hc,SqT.of e9,by rw[zY,zP];have:=wZ List.length hqs;rw[zY]at this;unfold wk at this;rw[zY]at this;simp only[yR,xA];lia,λp mT oP hp=>?_⟩;have AY:Same H5 mT:=C1.trans (s8.trans (s9.trans oP));have C2:=s5.trans AY;have jB:=s2.trans C2;have C0:Same H7 mT:=s8.trans (s9.trans oP);have Al:=(z7 C2).sqT hsd;have hP10:PairsAt K mT ((ps.map λp=>V.ref p.1)++[V.ref t1]) (qs++[(n,said n)]):=(hP7.mono (z7 C0)).app ⟨⟨t1,rfl,(z7 (s9.trans oP)).sqT (SqT.of e8)⟩,trivial⟩;refine⟨r,p,R,_,qs++[(n,said n)],rfl,jB.seq (SqL.of e1),λq hq=>(z7 jB).sqT (hR q hq),hp,hP10,λq hq z hz=>?_,?_⟩
  ·rw[oB q hq];rcases zE.mp hz with hz|hz
   ·exact hqm z hz
   ·rw[zN.mp hz];exact qI
  walk_at"rp";rw[Pn FL];have G':mT d1=some (.dK (kvI (wk tk))):=AY _ _ Du;have e2d:mT d2=some (.dK (kvR (ord.take i) rv)):=AY _ _ GY;have ED:∀b:Bool,ug (kvI (wk tk)) (Sum.inl ((n:Nat):Int)) (V.bl b)=kvI (wk (tk++[(n,b)])):=λb=>by
   rw[Ni];exact W2 λz hz=>Qh FV (iO▸Nj hz)
  have EC:∀v:V,ug (kvR (ord.take i) rv) (Sum.inl ((n:Nat):Int)) v=kvR (ord.take (i+1)) (rv++[v]):=λv=>by
   rw[yV,hn];show _=kvR (ord.take i++[n]) (rv++[v]);rw[Nk n v (by rw[yU,DP];lia)];exact W2 λz hz=>Qh FV (Nl hz)
  have bC:∀(v:V)(mS:Hp),Same (upd mT d1 (.dK (kvI (wk (tk++[(n,xu (R.map (·.2)) said tk n)]))))) mS->rsnOk K mS (R.map (·.2)) (J.map (·.2)) said tk n v ->
    upd mS d2 (.dK (kvR (ord.take (i+1)) (rv++[v]))) d1=some (.dK (kvI (wk (zf (R.map (·.2)) said (ord.take (i+1))))))/\(rv++[v]).length=i+1/\(∀(j m:Nat) v',ord[j]?=some m->(rv++[v])[j]?=some v'->rsnOk K (upd mS d2 (.dK (kvR (ord.take (i+1)) (rv++[v])))) (R.map (·.2)) (J.map (·.2)) said (zf (R.map (·.2)) said (ord.take j)) m v')/\Same H2 (upd mS d2 (.dK (kvR (ord.take (i+1)) (rv++[v]))))/\mS d2=some (.dK (kvR (ord.take i) rv)):=by
   intro v mS eL hv;have e12:mS d2=some (.dK (kvR (ord.take i) rv)):=eL _ _ ((zk Cc.symm).trans e2d);have t12:Tups mS (upd mS d2 (.dK (kvR (ord.take (i+1)) (rv++[v])))):=nw e12;refine⟨?_,by rw[zS,DP];rfl,λj m v' hj mM=>?_,zu ((zu C2 n3 _).trans eL) n4' _,e12⟩
   ·rw[zk Cc,FD];exact eL _ _ zx
   ·by_cases hji:j<i
    ·rw[yG (by lia)]at mM;exact(gN j m v' hj mM).mono ((((z7 AY).trans (nw G')).trans (z7 eL)).trans t12)
    ·have De:=(zV.mp mM).1;rw[zS,DP]at De;have hj2:j=i:=by simp at De;lia
     subst hj2;rw[yH (by lia),DP,Nat.sub_self]at mM;cases mM;rw[hn]at hj;cases hj;rw[htk];exact hv.mono t12
  refine u4 (λc1=>?_) (λc1=>?_)
  ·have FC:xu (R.map (·.2)) said tk n=said n:=by
    unfold xu;rw[yT c1]
   rw[FC]at bC;refine⟨_,_,.inr Al,ni qI,⟨_,Sum.inl ((n:Nat):Int),G',rfl,?_,?_⟩⟩
   ·unfold kvI wk;rw[zY,zY,zP];lia
   rw[CG,ED];have BF:Tups mT (upd mT d1 (.dK (kvI (wk (tk++[(n,said n)]))))):=nw G';refine⟨_,_,.inr (BF.sqT Al),ni qI,?_⟩;rw[CG];refine⟨jd,J,ts.length,n,said n,rfl,hJ.mono ((z7 (s1.trans jB)).trans BF),qI,λv mS eL hv=>?_⟩;have ff:=bC v mS eL (.inl ⟨FC,by rw[zY];exact hv⟩);walk_at"rp";refine⟨_,Sum.inl ((n:Nat):Int),ff.2.2.2.2,rfl,?_,?_⟩
   ·unfold kvR;rw[zY,List.length_zip,yU,zP];lia
   rw[EC];exact IoInv.mk _ _ _ rfl ff.1 ff.2.1 zx ff.2.2.1 ff.2.2.2.1 cV
  ·have FC:xu (R.map (·.2)) said tk n=!said n:=by
    unfold xu;rw[zC c1]
   rw[FC]at bC;refine⟨_,_,.inr Al,ni qI,?_⟩;walk_at"rp";refine⟨_,Sum.inl ((n:Nat):Int),G',rfl,?_,?_⟩
   ·unfold kvI wk;rw[zY,zY,zP];lia
   rw[CG,ED];have BF:Tups mT (upd mT d1 (.dK (kvI (wk (tk++[(n,!said n)]))))):=nw G';have hrd:r≠d1:=λz=>by rw[<-z]at n3;rw[s2 _ _ e1]at n3;cases n3
   have hnk:(tk.map (·.1)).Nodup:=by rw[iO];exact mO.sublist (sT _ _)
   refine⟨_,_,zx,my (tk:=tk++[(n,!said n)]) (b:=!said n) ?_ (zE.mpr (.inr (zN.mpr rfl))),?_⟩
   ·rw[zJ,iO];show(ord.take i++[n]).Nodup;have:ord.take i++[n]=ord.take (i+1):=by rw[yV,hn];rfl
    rw[this];exact mO.sublist (sT _ _)
   refine⟨r,c,R,_,qs,n,!said n,rfl,SqL.of ((zk hrd).trans (jB _ _ e1)),λq hq=>BF.sqT ((z7 jB).sqT (hR q hq)),BF.sqT ((z7 C0).sqT hc),(hP7.mono (z7 C0)).mono BF,by lia,λq hq z hz=>by rw[oB q hq];exact hqm z hz,λq hq=>by rw[oB q hq];exact qI,λv mS lZ eL hv hpv=>?_⟩;rw[Bool.not_not]at hpv;have hqn:(qs.map (·.1)).Nodup:=(FL.map (·.1)).nodup_iff.mpr hnk;have ff:=bC v mS eL (.inr ⟨FC,qs,lZ,FL,Og hqn (hqs▸hsrt),hv,hpv⟩);walk_at"rp";refine⟨_,Sum.inl ((n:Nat):Int),ff.2.2.2.2,rfl,?_,?_⟩
   ·unfold kvR;rw[zY,List.length_zip,yU,zP];lia
   rw[EC];exact IoInv.mk _ _ _ rfl ff.1 ff.2.1 zx ff.2.2.1 ff.2.2.2.1 cV
 rintro σ H5 ⟨x7,x8,rv,rfl,hh⟩;have Du:=hh.1;have DP:=hh.2.1;have GY:=hh.2.2.1;have gN:=hh.2.2.2.1;have s5:=hh.2.2.2.2.1;clear hh;rw[zY]at Du DP GY;rw[yX]at Du GY;have hl:=hS.len;have jC:=s1.trans (s2.trans s5);have iO:(zf (R.map (·.2)) said ord).map (·.1)=ord:=xm _ _ _;have hnk:((zf (R.map (·.2)) said ord).map (·.1)).Nodup:=by rw[iO];exact mO
 walk_at"rp";refine⟨_,.inr ((z7 jC).sqT ha),⟨by lia,by lia⟩,λC s₀ H₀ ex=>?_⟩;rw[yZ];refine yc (λD i ys H6=>∃row:List Bool,ys=row.map V.bl/\row.length=i/\(∀j b,row[j]?=some b->(j,b)∈zf (R.map (·.2)) said ord)/\H6 D=some (.lst ys)/\Same H5 H6/\H5 D=none) (by rw[zP];lia) ?_ ?_ ?_ ?_
 ·intro D H6 n6 s6 e6;exact⟨[],rfl,rfl,λj b h=>by simp at h,e6,s6,n6⟩
 ·rintro D i ys H6 ⟨row,rfl,nW,_,e6,s6,_⟩;exact⟨e6,by rw[zY,nW]⟩
 ·rintro D i ys H6 hi ⟨row,rfl,nW,kJ,e6,s6,n6⟩;have him:i∈(zf (R.map (·.2)) said ord).map (·.1):=by rw[iO];exact(dB i).mpr (by lia)
  obtain⟨⟨i',b⟩,hb,rfl⟩:=zD.mp him;walk_at"rp";rw[wN];refine⟨_,_,s6 _ _ Du,my hnk hb,e6,CN.mk hi ⟨row++[b],by rw[zJ];rfl,by rw[zS,nW];rfl,λj b' hj=>?_,zx,zu s6 n6 _,n6⟩⟩
  by_cases hji:j<row.length
  ·rw[yG hji]at hj;exact kJ j b' hj
  ·have De:=(zV.mp hj).1;have hj2:j=row.length:=by simp at De;lia
   subst hj2;rw[yH (by lia),Nat.sub_self]at hj;cases hj;rw[nW];exact hb
 rintro D ys H6 ⟨row,rfl,nW,kJ,e6,s6,n6⟩;walk_at"rp";refine⟨_,.inl (SqL.of e6),λc H7 s7 hc=>?_⟩;walk_at"rp";have C1:=s6.trans s7;refine⟨_,.inr ((z7 (jC.trans C1)).sqT ha),⟨by lia,by lia⟩,λC s₀ H₀ ex=>?_⟩;rw[yZ];refine yc (λD i ys H8=>ys.length=i/\(∀n v,ys[n]?=some v->∃j:Nat,ord[j]?=some n/\rv[j]?=some v)/\H8 D=some (.lst ys)/\Same H7 H8/\H7 D=none) (by rw[zP];lia) ?_ ?_ ?_ ?_
 ·intro D H8 n8 s8 e8;exact⟨rfl,λn v h=>by simp at h,e8,s8,n8⟩
 ·rintro D i ys H8 ⟨oQ,_,e8,s8,_⟩;exact⟨e8,oQ⟩
 ·rintro D i ys H8 hi ⟨oQ,Fk,e8,s8,n8⟩;obtain⟨j,hj,ej⟩:=vX ((dB i).mpr (by lia));have hoj:ord[j]?=some i:=zV.mpr ⟨hj,ej⟩;obtain⟨v,hv⟩:∃v,rv[j]?=some v:=⟨rv[j]'(by lia),zM (by lia)⟩
  walk_at"rp";rw[wN];refine⟨_,_,(C1.trans s8) _ _ GY,Wj mO hoj hv,e8,CN.mk hi ⟨by rw[zS,oQ];rfl,λn v' Dd=>?_,zx,zu s8 n8 _,n8⟩⟩
  by_cases hnl:n<ys.length
  ·rw[yG hnl]at Dd;exact Fk n v' Dd
  ·have De:=(zV.mp Dd).1;have Dc:n=ys.length:=by simp at De;lia
   subst Dc;rw[yH (by lia),Nat.sub_self]at Dd;cases Dd;rw[oQ];exact⟨j,hoj,hv⟩
 rintro D8 ys H8 ⟨oQ,Fk,e8,s8,n8⟩;walk_at"rp";refine⟨sz2,λrr H9 n9 s9 e9=>?_⟩;have s58:=C1.trans s8;have s59:=s58.trans s9;refine q rr c D8 H9 ss (R.map (·.2)) row ys (jC.trans s59) hN hF (y9 (jC.trans s58) n9) (SqT.of e9) ((z7 (s8.trans s9)).sqT hc) (by rw[nW,hl]) kJ (y9 (jC.trans C1) n8) (s9 _ _ e8) (by rw[oQ,hl]) λn v hv=>?_;obtain⟨j,hj,hvj⟩:=Fk n v hv;exact⟨j,hj,(gN j n v hj hvj).mono (z7 s59)⟩
theorem Pq:bootBuiltins "abs"=some (.builtin "abs"):=PyProof.Rows.boot_abs
def og(J:List (List Bool))(j:Nat):Int:=if((yb J j true J.length).length:Int)-((yb J j false J.length).length:Int)<0 then -(((yb J j true J.length).length:Int)-((yb J j false J.length).length:Int))else((yb J j true J.length).length:Int)-((yb J j false J.length).length:Int)
def mn(K:W.Frag):Sp:=λvs H Q _=>∃(a:Addr)(J:List (Addr×List Bool))(m j:Nat),vs=[.ref a,.int (j:Int)]/\JudgesAt K H a J m/\j<m/\∀H',Same H H'->Q (.int (og (J.map (·.2)) j)) H'
theorem bb(D:Def K mg "strength" (top 32) ["judges","number"])(cD:zz P w K mg base 1 "who_say" ["judges","number","truth"] (Xf K))(aB:mg "len"=none)(iC:mg "abs"=none):zz P w K mg base 2 "strength" ["judges","number"] (mn K):=by
 refine D.callee (N:=["judges","number"]) (by walk_at"sc") (by walk_at"ln") λf cdv A outer s H vs Q E hr nd h=>?_;obtain⟨a,J,m,j,rfl,hJ,hj,q⟩:=h;refine⟨[some (.ref a),some (.int (j:Int))],_,rfl,(z4 (zw (zv Zy rfl iC Pq (z9 (zt lf (zv yp rfl aB ze (z9 (zy cD hr (by lia) (z9 (z8 0) (z9 (z8 1) (z9 yg z6)))) z6)) (zv yp rfl aB ze (z9 (zy cD hr (by lia) (z9 (z8 0) (z9 (z8 1) (z9 yg z6)))) z6))) z6)))),?_⟩;walk_at"rp";refine⟨a,J,m,j,true,rfl,hJ,hj,λp H1 n1 s1 e1=>?_⟩;walk_at"rp";refine⟨_,.inl (SqL.of e1),?_⟩;walk_at"rp";refine⟨a,J,m,j,false,rfl,hJ.mono (z7 s1),hj,λp2 H2 n2 s2 e2=>?_⟩;walk_at"rp";refine⟨_,.inl (SqL.of e2),?_⟩;rw[zY,zY];walk_at"rp";refine⟨_,rfl,?_⟩;have:=q H2 (s1.trans s2);unfold og at this;rw[zY]at this;exact this
def fb(K:W.Frag):Sp:=λvs H Q _=>∃(a c:Addr)(J:List (Addr×List Bool))(row:List Bool),vs=[.ref a,.ref c]/\JudgesAt K H a J row.length/\SqT K H c (row.map V.bl)/\row.length<=10 /\
 ∀(l:Addr)(H':Hp)(rs:List V),H l=none->Same H H'->H' l=some (.lst rs)->rs.length=row.length->(∀n v t,rs[n]?=some v->row[n]?=some t->ReasonAt K H' v "judges" ((yb (J.map (·.2)) n t J.length).map λn=>V.int ((n:Nat):Int)))->Q (.ref l) H'
theorem Q9(D:Def K mg "all_by_judges" (top 31) ["judges","row"])(fL:zz P w K mg base 2 "by_judges" ["judges","number","truth"] (rk K))(aM:mg "enumerate"=none):zz P w K mg base 3 "all_by_judges" ["judges","row"] (fb K):=by
 refine D.callee (N:=["judges","row"]) (by walk_at"sc") (by walk_at"ln") λf cdv A outer s H vs Q E hr nd h=>?_;obtain⟨a,c,J,row,rfl,hJ,hc,DY,q⟩:=h;refine⟨[some (.ref a),some (.ref c)],_,rfl,(z4 (zw (nh (ixs:=[0]) (zq (own:=["number","truth"]) (N:=["judges"]) rfl rfl rfl rfl rfl rfl rfl (by decide +kernel) rfl rfl rfl) rfl (Ya rfl aM (z9 (z8 1) z6)) (λ_ _ _ _=>yz) (λ_ _ _ _=>(zy fL hr (by lia) (z9 (z8 2) (z9 (z8 0) (z9 (z8 1) z6))))) rfl))),?_⟩;walk_at"rp";refine⟨⟨_,hc⟩,λC s₀ H₀ ex=>?_⟩;refine fw (xs:=row.map V.bl) (λD i ys H2=>ys.length=i/\(∀(n:Nat)(v:V)(t:Bool),ys[n]?=some v->row[n]?=some t->ReasonAt K H2 v "judges" ((yb (J.map (·.2)) n t J.length).map λn=>V.int ((n:Nat):Int)))/\H2 D=some (.lst ys)/\Same H H2/\H D=none) (by rw[zY,zP];lia) ?_ ?_ ?_ ?_
 ·intro D H2 n2 s2 e2;exact⟨rfl,λn v t h=>by simp at h,e2,s2,n2⟩
 ·rintro D i ys H2 ⟨hl,_,e2,s2,_⟩;exact⟨(z7 s2).sqT hc,e2,vN hl⟩
 ·rintro D i v ys H2 H3 hv ⟨hl,gN,e2,s2,n2⟩ s3;rw[zQ]at hv;cases hb:row[i]? with
  |none=>rw[hb]at hv;cases hv
  |some t =>
   rw[hb]at hv;cases hv;have hi:i<row.length:=(zV.mp hb).1;walk_at"rp";refine⟨a,J,row.length,i,t,rfl,hJ.mono (z7 (s2.trans s3)),hi,λv H4 s4 hv4=>?_⟩;walk_at"rp";have t5:=xq (o:=.lst (ys++[v])) ((s3.trans s4) _ _ e2);refine⟨(s3.trans s4) _ _ e2,CN.mk (by rw[zY];exact hi) ⟨by rw[zS,hl];rfl,λn u t' hu ht=>?_,zx,zu (s2.trans (s3.trans s4)) n2 _,n2⟩⟩
   by_cases hn:n<ys.length
   ·rw[yG hn]at hu;exact(gN n u t' hu ht).mono ((z7 (s3.trans s4)).trans t5)
   ·rw[yH (by lia)]at hu;have h0:n-ys.length=0:=by
     have:=(zV.mp hu).1;simp only[xG]at this;lia
    rw[h0]at hu;cases hu;obtain rfl:n=i:=by lia
    rw[hb]at ht;cases ht;exact hv4.mono t5
 ·rintro D ys H2 ⟨hl,gN,e2,s2,n2⟩;rw[zY]at hl;exact q D H2 ys n2 s2 e2 hl gN
abbrev Fz:Str:="order_of_strength.<locals>.<lambda>"
abbrev Tb(Pt:Addr)(H:Hp):Prop:=TabAt Pt (Ka (top 33)) Fz H
def S3(K:W.Frag)(Pt:Addr):Sp:=λvs H Q _=>∃(a:Addr)(J:List (Addr×List Bool))(m:Nat),vs=[.ref a]/\JudgesAt K H a J m/\m<=6/\Tb Pt H/\∀(p:Addr)(H':Hp)(ord:List Nat),SameP Pt H H'->Tb Pt H'->SqT K H' p (ord.map λn=>V.int ((n:Nat):Int))->ord.Perm (List.range m)->ord.Pairwise (vb λj=>-og (J.map (·.2)) j)->Q (.ref p) H'
theorem Kr{c Pt:Addr}(D:DefL K mg "order_of_strength" (top 33) ["judges"] c)(LT:Zr base mg c Pt)(pS:zz P w K mg base 2 "strength" ["judges","number"] (mn K))(aB:mg "len"=none)(aD:mg "range"=none)(aH:mg "sorted"=none)(aA:mg "tuple"=none):zz P w K mg base 6 "order_of_strength" ["judges"] (S3 K Pt):=by
 refine D.callee (N:=["judges"]) (by walk_at"sc") (by walk_at"ln") λf A outer s H vs Q E hr nd h=>?_;obtain⟨a,J,m,rfl,hJ,hm,hT,q⟩:=h;refine⟨[some (.ref a)],_,rfl,(z4 (zw (zd yi rfl aA zc (z9 (Nv (ixs:=[0]) (kk:=2) rfl rfl aH rfl aD (z9 (zv yp rfl aB ze (z9 (zb (z8 0) z0 (λ_ _=>rfl)) z6)) z6) (zq (own:=["number"]) (N:=["judges"]) rfl rfl rfl rfl rfl rfl rfl (by decide +kernel) rfl rfl rfl) rfl hr (by lia) rfl LT (λ_ _ _ _ _ hr=>(Hx L9 (zy pS hr (by lia) (z9 (z8 1) (z9 (z8 0) z6))))) (λ_ _ _ _=>rfl)) z6)))),?_⟩;walk_at"rp";obtain⟨r,pF,GN⟩:=tw hJ;refine⟨_,_,.inr hJ.sq,GN,?_⟩;walk_at"rp";refine⟨_,.inr (hJ.row r pF),?_⟩;rw[zY,hJ.len r pF];refine⟨⟨by lia,by lia⟩,hT,(λj=>-og (J.map (·.2)) j),λi H2 hi s2=>?_,λp D H' hp hs s' t' _ e'=>?_⟩
 ·rw[yZ]at hi;walk_at"rp";refine⟨a,J,m,i,rfl,hJ.mono (zj hT s2),hi,λH3 s3=>?_⟩;walk_at"rp";exact⟨_,rfl,rfl,s3⟩
 ·rw[yZ]at hp;walk_at"rp";exact⟨_,.inl (SqL.of e'),λz H4 s4 h4=>q z H4 p (s'.trans (yh s4)) (t'.same s4) h4 hp hs⟩
def L5(K:W.Frag)(Pt C:Addr)(Fl:Hp->Nat->List (Str×V)->Prop)(RI:Nat->List (List Bool)->List (List Bool)->List Bool->Prop):Sp:=λvs H Q _=>∃(x dx b j:Addr)(fs:List (Str×V))(us:List V)(ts:List Say)(xs:List Str)(J:List (Addr×List Bool)),vs=[.ref x,.ref b,.ref j]/\H x=some (.ins C dx fs)/\Fl H ts.length fs/\SqT K H b us/\SaysAt K H us ts/\Lst ts xs/\JudgesAt K H j J ts.length/\Tb Pt H /\
 ∀(p:Addr)(H':Hp)(ss:List Str)(R:List (List Bool))(row:List Bool),SameP Pt H H'->Tb Pt H'->NamesOf ts ss->FitRows ts ss R->SqT K H' p (row.map V.bl)->row.length=ts.length->RI ts.length R (J.map (·.2)) row->Q (.ref p) H'
def pw(K:W.Frag)(Pt C:Addr){ι:Type}(Fl:ι->Hp->Nat->List (Str×V)->Prop)(RI:ι->Nat->List (List Bool)->List (List Bool)->List Bool->Prop):Sp:=λvs H Q E=>∃i:ι,L5 K Pt C (Fl i) (RI i) vs H Q E
def Fl0(K:W.Frag)(ord:List Nat)(H:Hp)(m:Nat)(fs:List (Str×V)):Prop:=∃o,fs=[((Str.ofString "order":Str),V.ref o)]/\SqT K H o (ord.map λn=>V.int ((n:Nat):Int))/\ord.Nodup/\∀n,n∈ord↔n<m
def Fl1(H:Hp)(m:Nat)(fs:List (Str×V)):Prop:=fs=[]
def Fl2(K:W.Frag)(ws:List Int)(H:Hp)(m:Nat)(fs:List (Str×V)):Prop:=∃v,fs=[((Str.ofString "weights":Str),v)]/\WAt K H v m ws
def RI0(ord:List Nat)(m:Nat)(R J:List (List Bool))(row:List Bool):Prop:=∀(i:Nat)(b:Bool),row[i]?=some b->(i,b)∈zf R (yj J) ord
def RI1(m:Nat)(R J:List (List Bool))(row:List Bool):Prop:=∃ord:List Nat,ord.Perm (List.range m)/\ord.Pairwise (vb λi=>-og J i)/\RI0 ord m R J row
def RI2(ws:List Int)(m:Nat)(R J:List (List Bool))(row:List Bool):Prop:=∃rest,ur R J ws m=row::rest
theorem su{ord:List Nat}{m:Nat}(h:ord.Perm (List.range m)):ord.Nodup/\∀n,n∈ord↔n<m:=⟨h.nodup_iff.mpr uP,λn=>by rw[h.mem_iff,yF]⟩
theorem Rg{C Pt:Addr}(D:DefM K C "row" "InOrder.row" (xk (top 36) 1) ["self","sayings","judges"])(CL:Cls K C)(na:NoAttr K C "order")(bB:zz P w K mg base 45 "in_order" ["sayings","judges","order"] (va K)):yt P w K mg base 46 C "row" ["self","sayings","judges"] (pw K Pt C (Fl0 K) RI0):=by
 refine D.callee (N:=["self","sayings","judges"]) (by walk_at"sc") (by walk_at"ln") λf cdv A outer s H vs Q E hr nd h=>?_;obtain⟨ord,x,dx,b,j,fs,us,ts,xs,J,rfl,hx,⟨o,rfl,ho,eY,lX⟩,hb,hT,hL,hJ,aT,q⟩:=h;refine⟨[some (.ref x),some (.ref b),some (.ref j)],_,rfl,(z4 (zw (zb (zy bB hr (by lia) (z9 (z8 1) (z9 (z8 2) (z9 (Yw (z8 0) rfl) z6)))) z0 (λ_ _=>rfl)))),?_⟩;walk_at"rp";refine⟨x,C,dx,_,_,rfl,hx,CL,na,List.lookup_cons_self,?_⟩;walk_at"rp";refine⟨b,j,o,us,ts,xs,J,ord,rfl,hb,hT,hL,hJ,ho,eY,lX,λr c l H' ss R row rs s' hN hF nr nN hc hl kJ nl el gN nF=>?_⟩;walk_at"rp";refine⟨_,_,.inr nN,rfl,?_⟩;walk_at"rp";exact q c H' ss R row (yh s') (aT.same s') hN hF hc hl kJ
theorem Rb{C Pt:Addr}(D:DefM K C "row" "ByStrength.row" (xk (top 37) 0) ["self","sayings","judges"])(bB:zz P w K mg base 45 "in_order" ["sayings","judges","order"] (va K))(aU:zz P w K mg base 6 "order_of_strength" ["judges"] (S3 K Pt)):yt P w K mg base 46 C "row" ["self","sayings","judges"] (pw K Pt C (λ_:Unit=>Fl1) λ_=>RI1):=by
 refine D.callee (N:=["self","sayings","judges"]) (by walk_at"sc") (by walk_at"ln") λf cdv A outer s H vs Q E hr nd h=>?_;obtain⟨_,x,dx,b,j,fs,us,ts,xs,J,rfl,hx,_,hb,hT,hL,hJ,aT,q⟩:=h;have nO:=hL.hi;refine⟨[some (.ref x),some (.ref b),some (.ref j)],_,rfl,(z4 (zw (zb (zy bB hr (by lia) (z9 (z8 1) (z9 (z8 2) (z9 (zy aU hr (by lia) (z9 (z8 2) z6)) z6)))) z0 (λ_ _=>rfl)))),?_⟩;walk_at"rp";refine⟨j,J,ts.length,rfl,hJ,nO,aT,λo H1 ord s1 t1 ho hp iD=>?_⟩;walk_at"rp";have tu:=zj aT s1;refine⟨b,j,o,us,ts,xs,J,ord,rfl,tu.sqT hb,hT.mono tu,hL,hJ.mono tu,ho,(su hp).1,(su hp).2,λr c l H' ss R row rs s' hN hF nr nN hc hl kJ nl el gN nF=>?_⟩;walk_at"rp";refine⟨_,_,.inr nN,rfl,?_⟩;walk_at"rp";exact q c H' ss R row (s1.trans (yh s')) (t1.same s') hN hF hc hl ⟨ord,hp,iD,kJ⟩
theorem Nw{all rs:List (List Bool)}{ws:List Int}{m:Nat}(h:all≠[]):ur all rs ws m≠[]:=by
 obtain⟨k,hk,iE⟩:∃k∈all,∀k'∈all,xw k rs ws m<=xw k' rs ws m:=by
  revert h
  induction all with
  |nil=>exact λh=>(h rfl).elim
  |cons a l ih =>
   intro _
   by_cases hl:l=[]
   ·subst hl;exact⟨a,by simp,λk' bU=>by rw[zN.mp bU];exact Int.le_refl _⟩
   ·obtain⟨k,hk,iE⟩:=ih hl
    by_cases hc:xw a rs ws m<=xw k rs ws m
    ·exact⟨a,by simp,λk' bU=>by rcases zL.mp bU with rfl|bU;exact Int.le_refl _;have:=iE k' bU;lia⟩
    ·exact⟨k,zI _ hk,λk' bU=>by rcases zL.mp bU with rfl|bU;lia;exact iE k' bU⟩
 intro z;have:k∈ur all rs ws m:=xC.mpr ⟨hk,yD.mpr λk' bU=>zA (iE k' bU)⟩;rw[z]at this;cases this
theorem Rl{C Pt:Addr}(D:DefM K C "row" "Nearest.row" (xk (top 38) 1) ["self","sayings","judges"])(CL:Cls K C)(na:NoAttr K C "weights")(iG:CalleeD P w K mg base 45 "nearest" ["sayings","judges","weights"] [.none] (iu K)):yt P w K mg base 46 C "row" ["self","sayings","judges"] (pw K Pt C (Fl2 K) RI2):=by
 refine D.callee (N:=["self","sayings","judges"]) (by walk_at"sc") (by walk_at"ln") λf cdv A outer s H vs Q E hr nd h=>?_;obtain⟨ws,x,dx,b,j,fs,us,ts,xs,J,rfl,hx,⟨wv,rfl,hw⟩,hb,hT,hL,hJ,aT,q⟩:=h;refine⟨[some (.ref x),some (.ref b),some (.ref j)],_,rfl,(z4 (zw (zb (zy iG.full hr (by lia) (z9 (z8 1) (z9 (z8 2) (z9 (Yw (z8 0) rfl) z6)))) z0 (λ_ _=>rfl)))),?_⟩;walk_at"rp";refine⟨x,C,dx,_,_,rfl,hx,CL,na,List.lookup_cons_self,?_⟩;walk_at"rp";refine⟨b,j,us,ts,xs,J,wv,ws,rfl,hb,hT,hL,hJ,hw,λp H' ss all R np s' hp hR hN hF hRn oB=>?_⟩;have bZ:ur all (J.map (·.2)) ws ts.length≠[]:=Nw λz=>by
  have h0:=(hF.2.1 (se ts (y8 ((0:Nat):Int) ss))).mpr ⟨0,Nat.two_pow_pos _,rfl⟩;rw[z]at h0;cases h0
 cases R with
 |nil=>exact(bZ hRn.symm).elim
 |cons r R =>
  walk_at"rp";refine⟨_,_,.inl (SqL.of hp),(show atI ((r::R).map λr=>V.ref r.1) ((0:Nat):Int)=some (V.ref r.1)from yk rfl),?_⟩;walk_at"rp";have hm:r.2∈all:=(xC.mp (show r.2∈ur all (J.map (·.2)) ws ts.length from by rw[<-hRn];exact zH)).1;exact q r.1 H' ss all r.2 (yh s') (aT.same s') hN hF (hR r zH) (xi hF hm) ⟨R.map λx:Addr×List Bool=>x.2,hRn.symm⟩
def Y9(K:W.Frag):Sp:=λvs H Q _=>∃(x y:V)(a:Addr)(J:List (Addr×List Bool))(m:Nat),vs=[x,y,.ref a]/\JudgesAt K H a J m/\m<=10/\∀(p:Addr)(H':Hp),Same H H'->SqT K H' p ((xb (J.map (·.2)) m).map V.bl)->Q (.ref p) H'
theorem N5{C:Addr}(D:DefM K C "row" "Most.row" (xk (top 35) 0) ["self","sayings","judges"])(iH:zz P w K mg base 3 "most" ["judges"] (Za K)):yt P w K mg base 4 C "row" ["self","sayings","judges"] (Y9 K):=by
 refine D.callee (N:=["self","sayings","judges"]) (by walk_at"sc") (by walk_at"ln") λf cdv A outer s H vs Q E hr nd h=>?_;obtain⟨x,y,a,J,m,rfl,hJ,hm,q⟩:=h;refine⟨[some x,some y,some (.ref a)],_,rfl,(z4 (zw (zy iH hr (by lia) (z9 (z8 2) z6)))),?_⟩;walk_at"rp";exact⟨a,J,m,rfl,hJ,hm,q⟩
theorem xx(c:String):W.kitOne K (.type c) (.type c)=some true:=by
 unfold W.kitOne;rw[yT (beq_self_eq_true _)]
def fe(K:W.Frag):Sp:=λvs H Q _=>∃(a c:Addr)(k:List Bool),vs=[.ref a,.ref c]/\SqT K H a (k.map V.bl)/\SqT K H c (k.map V.bl)/\k.length<=10/\∀H',Same H H'->Q (.bl true) H'
theorem Ri(D:Def K mg "_law_is_row" (top 66) ["_law_found","_law_due"])(aB:mg "len"=none)(aA:mg "tuple"=none)(bD:mg "bool"=none)(aC:mg "isinstance"=none):zz P w K mg base 1 "_law_is_row" ["_law_found","_law_due"] (fe K):=by
 refine D.callee (N:=["_law_found","_law_due"]) (by walk_at"sc") (by walk_at"ln") λf cdv A outer s H vs Q E hr nd h=>?_;obtain⟨a,c,k,rfl,ha,hc,hk,q⟩:=h;refine⟨[some (.ref a),some (.ref c)],_,rfl,(z5 (za (PW.pt (vf (yd (ye (zv v9 rfl aC zn (z9 (z8 0) (z9 (xt (v:=.ty "tuple") rfl aA zc rfl) z6))))) (vv (zh (rc hr.units) (zv yp rfl aB ze (z9 (z8 0) z6)) (zv yp rfl aB ze (z9 (z8 1) z6)) (zm _))))) (z4 (zw yg)) zp)
  (z4 (zw (gs (wy (wn hr.units) (zv yp rfl aB ze (z9 (yl (ixs:=[]) (zq (own:=["_law_truth"]) (N:=[]) rfl rfl rfl rfl rfl rfl rfl (by decide +kernel) rfl rfl rfl) rfl (y6 (z8 0)) (λ_ _ _ _=>(v5 (ye (zv v9 rfl aC zn (z9 (z8 0) (z9 (xt (v:=.ty "bool") rfl bD m5 rfl) z6)))))) (λ_ _ _ _=>(z8 0)) rfl) z6)) (zv yp rfl aB ze (z9 (z8 1) z6)) (zm _)) (rf (wy (wn hr.units) (z8 0) (z8 1) (zm _))))))),?_⟩
 walk_at"rp";refine⟨_,true,.tup ha,xx _,?_⟩;walk_at"rp";refine⟨_,.inr ha,_,.inr hc,?_⟩;walk_at"rp"
 try rw[zA rfl]
 walk_at"rp";refine .inr ⟨⟨_,ha⟩,λC s₀ H₀ ex=>?_⟩;refine vw (xs:=k.map V.bl) (λD n ys H3=>ys.length=n/\n<=k.length/\H3 D=some (.lst ys)/\Same H H3/\H D=none) (by rw[zY,zP];lia) ?_ ?_ ?_ ?_
 ·intro D H3 n3 s3 e3;exact⟨rfl,yQ _,e3,s3,n3⟩
 ·rintro D n ys H3 ⟨hy,_,e3,s3,_⟩;exact⟨(z7 s3).sqT ha,e3,vN hy⟩
 ·rintro D n v ys H3 hv ⟨hy,_,e3,s3,n3⟩;rw[zQ]at hv;cases dD:k[n]? with
  |none=>rw[dD]at hv;cases hv
  |some b =>
   rw[dD]at hv;cases hv;have hn:n<k.length:=(zV.mp dD).1;walk_at"rp";refine⟨_,true,.of (.bl _),xx _,?_⟩;walk_at"rp";exact⟨e3,CN.mk (by rw[zY];exact hn) ⟨by rw[zS,hy];rfl,hn,zx,zu s3 n3 _,n3⟩⟩
 ·rintro D ys H3 ⟨hy,_,e3,s3,n3⟩;walk_at"rp";refine⟨_,.inl (SqL.of e3),_,.inr ((z7 s3).sqT hc),?_⟩;rw[hy];walk_at"rp"
  try rw[zA rfl]
  walk_at"rp";refine⟨_,_,de ((z7 s3).sqT ha),de ((z7 s3).sqT hc),rh _,rh _,?_⟩;rw[qd (rh _)];exact q H3 s3
theorem vq(xs:List V){j:Int}(h:0<=j):vn xs none (some j)=xs.take j.toNat:=by
 unfold vn;rw[HT.sIx_none];have e:HT.sIx xs.length xs.length (some j)=min j.toNat xs.length:=by
  show(if j<0 then(j+(xs.length:Int)).toNat else min j.toNat xs.length)=_;rw[zC (by lia)]
 rw[e,List.drop_zero,Nat.sub_zero]
 by_cases hj:j.toNat<=xs.length
 ·rw[Nat.min_eq_left hj]
 ·rw[Nat.min_eq_right (by lia),yX,vG (by lia)]
theorem qc(xs:List V){j:Int}(h:0<=j):vn xs (some j) none=xs.drop j.toNat:=by
 unfold vn;have e:HT.sIx xs.length 0 (some j)=min j.toNat xs.length:=by
  show(if j<0 then(j+(xs.length:Int)).toNat else min j.toNat xs.length)=_;rw[zC (by lia)]
 rw[HT.sIx_none,e]
 by_cases hj:j.toNat<=xs.length
 ·rw[Nat.min_eq_left hj,vG (by rw[xR];exact zU _)]
 ·rw[Nat.min_eq_right (by lia),sJ,List.take_nil,List.drop_eq_nil_of_le (by lia)]
def Mb(K:W.Frag)(H:Hp)(J R:List (List Bool))(ord:List Nat)(rs:List V):Prop:=∀n v,rs[n]?=some v->∃i,ord[i]?=some n/\rsnOk K H R J (yj J) (zf R (yj J) (ord.take i)) n v
def Zd(K:W.Frag)(Pt C:Addr)(Fl:Hp->Nat->List (Str×V)->Prop)(OI:Nat->List (List Bool)->List Nat->Prop):Sp:=λvs H Q _=>∃(x dx b j:Addr)(fs:List (Str×V))(us:List V)(ts:List Say)(xs:List Str)(J:List (Addr×List Bool)),vs=[.ref x,.ref b,.ref j]/\H x=some (.ins C dx fs)/\Fl H ts.length fs/\SqT K H b us/\SaysAt K H us ts/\Lst ts xs/\JudgesAt K H j J ts.length/\Tb Pt H /\
 ∀(l:Addr)(H':Hp)(ss:List Str)(R:List (List Bool))(ord:List Nat)(rs:List V),SameP Pt H H'->Tb Pt H'->H l=none->NamesOf ts ss->FitRows ts ss R->OI ts.length (J.map (·.2)) ord->H' l=some (.lst rs)->rs.length=ts.length->Mb K H' (J.map (·.2)) R ord rs->Q (.ref l) H'
theorem Rh{C Pt:Addr}(D:DefM K C "reasons" "InOrder.reasons" (xk (top 36) 2) ["self","sayings","judges"])(CL:Cls K C)(na:NoAttr K C "order")(bB:zz P w K mg base 45 "in_order" ["sayings","judges","order"] (va K)):yt P w K mg base 46 C "reasons" ["self","sayings","judges"] (λvs H Q E=>∃ord,Zd K Pt C (Fl0 K ord) (λ_ _ o=>o=ord) vs H Q E):=by
 refine D.callee (N:=["self","sayings","judges"]) (by walk_at"sc") (by walk_at"ln") λf cdv A outer s H vs Q E hr nd h=>?_;obtain⟨ord,x,dx,b,j,fs,us,ts,xs,J,rfl,hx,⟨o,rfl,ho,eY,lX⟩,hb,hT,hL,hJ,aT,q⟩:=h;refine⟨[some (.ref x),some (.ref b),some (.ref j)],_,rfl,(z4 (zw (zb (zy bB hr (by lia) (z9 (z8 1) (z9 (z8 2) (z9 (Yw (z8 0) rfl) z6)))) z0 (λ_ _=>rfl)))),?_⟩;walk_at"rp";refine⟨x,C,dx,_,_,rfl,hx,CL,na,List.lookup_cons_self,?_⟩;walk_at"rp";refine⟨b,j,o,us,ts,xs,J,ord,rfl,hb,hT,hL,hJ,ho,eY,lX,λr c l H' ss R row rs s' hN hF nr nN hc hl kJ nl el gN nF=>?_⟩;walk_at"rp";refine⟨_,_,.inr nN,rfl,?_⟩;walk_at"rp";exact q l H' ss R ord rs (yh s') (aT.same s') nl hN hF rfl el gN nF
theorem Rc{C Pt:Addr}(D:DefM K C "reasons" "ByStrength.reasons" (xk (top 37) 1) ["self","sayings","judges"])(bB:zz P w K mg base 45 "in_order" ["sayings","judges","order"] (va K))(aU:zz P w K mg base 6 "order_of_strength" ["judges"] (S3 K Pt)):yt P w K mg base 46 C "reasons" ["self","sayings","judges"] (Zd K Pt C Fl1 λm J o=>o.Perm (List.range m)/\o.Pairwise (vb λi=>-og J i)):=by
 refine D.callee (N:=["self","sayings","judges"]) (by walk_at"sc") (by walk_at"ln") λf cdv A outer s H vs Q E hr nd h=>?_;obtain⟨x,dx,b,j,fs,us,ts,xs,J,rfl,hx,_,hb,hT,hL,hJ,aT,q⟩:=h;have nO:=hL.hi;refine⟨[some (.ref x),some (.ref b),some (.ref j)],_,rfl,(z4 (zw (zb (zy bB hr (by lia) (z9 (z8 1) (z9 (z8 2) (z9 (zy aU hr (by lia) (z9 (z8 2) z6)) z6)))) z0 (λ_ _=>rfl)))),?_⟩;walk_at"rp";refine⟨j,J,ts.length,rfl,hJ,nO,aT,λo H1 ord s1 t1 ho hp iD=>?_⟩;walk_at"rp";have tu:=zj aT s1;refine⟨b,j,o,us,ts,xs,J,ord,rfl,tu.sqT hb,hT.mono tu,hL,hJ.mono tu,ho,(su hp).1,(su hp).2,λr c l H' ss R row rs s' hN hF nr nN hc hl kJ nl el gN nF=>?_⟩;walk_at"rp";refine⟨_,_,.inr nN,rfl,?_⟩;walk_at"rp";have nl0:H l=none:=by
  cases z:H l with
  |none=>rfl
  |some u =>
   by_cases e:l=Pt
   ·subst e;rcases t1 with t1|⟨_,t1,_⟩<;>rw[t1]at nl<;>cases nl
   ·have:=s1 l u e z;rw[nl]at this;cases this
 exact q l H' ss R ord rs (s1.trans (yh s')) (t1.same s') nl0 hN hF ⟨hp,iD⟩ el gN nF
theorem we:∀{L:List Nat}{k:Nat}(hk:k<L.length),(L[k]::L.eraseIdx k).Perm L
 |x::L,0,_=>List.Perm.refl _
 |x::L,k+1,hk=>by
  have bU:k<L.length:=by simpa using hk
  have ih:=we (L:=L) (k:=k) bU;show(L[k]::x::L.eraseIdx k).Perm (x::L);exact(List.Perm.swap x _ _).trans (ih.cons x)
theorem Sb{O L:List Nat}{k:Nat}(hk:k<L.length):(O++[L[k]]++L.eraseIdx k).Perm (O++L):=by
 rw[wA];exact List.Perm.append_left O (we hk)
def bx(K:W.Frag):Sp:=λvs H Q _=>∃(a:Addr)(ns:List Int)(k m:Nat),vs=[.ref a,.int (k:Int),.int (m:Int)]/\SqL K H a (ns.map V.int)/\ns.length<=5000/\k<=1000/\m<=10 /\
 ∀(p:Addr)(H':Hp)(ord:List Nat),Same H H'->SqT K H' p (ord.map λn=>V.int ((n:Nat):Int))->ord.Nodup->(∀n,n∈ord↔n<m)->Q (.ref p) H'
theorem Vd(D:Def K mg "_law_order" (top 55) ["_law_script","_law_k","_law_many"])(aF:zz P w K mg base 2 "_law_pick" ["_law_script","_law_k","_law_many"] (ve K))(aB:mg "len"=none)(aD:mg "range"=none)(aA:mg "tuple"=none)(aR:mg "list"=none):zz P w K mg base 3 "_law_order" ["_law_script","_law_k","_law_many"] (bx K):=by
 refine D.callee (N:=["_law_script","_law_k","_law_many","_law_left","_law_order_here","_law_j","_law_at"]) (by walk_at"sc") (by walk_at"ln") λf cdv A outer s H vs Q E hr nd h=>?_;obtain⟨a,ns,k,m,rfl,hS,cS,hk,hm,q⟩:=h;refine⟨[some (.ref a),some (.int (k:Int)),some (.int (m:Int)),none,none,none,none],_,rfl,(z5 (zo 3 nd (aj rfl rfl aR rfl aD (z9 (z8 2) z6)))
  (z5 (zo 4 nd (xa z6))
  (z5 (xo yM rfl (yq rfl aD (z9 (z8 2) z6)) (wg 5 nd) (z5 (zo 6 nd (zy aF hr (by lia) (z9 (z8 0) (z9 (zt zg (z8 1) (z8 5)) (z9 (zv yp rfl aB ze (z9 (z8 3) z6)) z6)))))
  (z5 (wc (jl wK wJ gt (z8 4) (z9 (zb (z8 3) (z8 6) (λ_ _=>rfl)) z6)))
  (z4 (zo 3 nd (zt zg (x9 (z8 3) ya (xg (z8 6))) (x9 (z8 3) (xg (zt zg (z8 6) z0)) ya)))))))
  (z4 (zw (zd yi rfl aA zc (z9 (z8 4) z6))))))),?_⟩
 walk_at"rp";refine⟨⟨by lia,by lia⟩,λl H1 n1 s1 e1=>?_⟩;rw[yZ]at e1;walk_at"rp";refine⟨xp (by simp),λo H2 n2 s2 e2=>?_⟩;walk_at"rp";refine⟨⟨by lia,by lia⟩,?_⟩;rw[yZ];have no:H o=none:=y9 s1 n2;refine w6 (λi σ H3=>∃(l:Addr)(L O:List Nat)(x5 x6:Option V),σ=[some (.ref a),some (.int (k:Int)),some (.int (m:Int)),some (.ref l),some (.ref o),x5,x6]/\l≠o/\H3 l=some (.lst (L.map λn=>V.int ((n:Nat):Int)))/\H3 o=some (.lst (O.map λn=>V.int ((n:Nat):Int)))/\(O++L).Perm (List.range m)/\O.length=i/\Same H H3) ⟨l,List.range m,[],none,none,rfl,(λz=>by rw[<-z,e1]at n2;cases n2),s2 _ _ e1,e2,List.Perm.refl _,rfl,s1.trans s2⟩ ?_ ?_
 ·rintro i σ H3 hi ⟨l,L,O,x5,x6,rfl,BY,el,eo,hp,pK,s3⟩;have cZ:=hp.length_eq;rw[zS,xS]at cZ;walk_at"rp";rw[wN];refine⟨_,.inl (SqL.of el),?_⟩;rw[zY];refine⟨a,ns,_,_,rfl,s3.seq hS,cS,by lia,by lia,by lia,λr r0 r1=>?_⟩;walk_at"rp";obtain⟨k',rfl⟩:∃k:Nat,r=(k:Int):=⟨r.toNat,by lia⟩
  have bU:k'<L.length:=by lia
  refine⟨⟨_,_,rfl,eo⟩,?_⟩;walk_at"rp";refine⟨_,V.int ((L[k']:Nat):Int),.inl (SqL.of el),yk (by rw[zQ,zM bU];rfl),?_⟩;walk_at"rp";refine⟨_,eo,by rw[zY,zP];lia,?_⟩;walk_at"rp";have el4:(upd H3 o (.lst (O.map (λn=>V.int ((n:Nat):Int))++[V.int ((L[k']:Nat):Int)]))) l=some (.lst (L.map λn=>V.int ((n:Nat):Int))):=(zk BY).trans el;refine .inl ⟨_,SqL.of el4,λp5 H5 n5 s5 e5=>?_⟩;walk_at"rp";refine .inl ⟨_,SqL.of (s5 _ _ el4),λp6 H6 n6 s6 e6=>?_⟩;rw[vq _ (by lia),yZ]at e5;rw[qc _ (by lia),show((k':Int)+1).toNat=k'+1 by lia]at e6;walk_at"rp";refine .inl ⟨_,_,s6 _ _ e5,e6,by rw[yU,xR,zY,zP];lia,λp7 H7 n7 s7 e7=>?_⟩;walk_at"rp";have eo4:(upd H3 o (.lst (O.map (λn=>V.int ((n:Nat):Int))++[V.int ((L[k']:Nat):Int)]))) o=some (.lst ((O++[L[k']]).map λn=>V.int ((n:Nat):Int))):=by
   rw[zx,zJ]
   rfl
  have eo7:=(s5.trans (s6.trans s7)) _ _ eo4;refine⟨p7,L.eraseIdx k',O++[L[k']],_,_,rfl,λz=>?_,?_,eo7,(Sb bU).trans hp,by rw[zS,pK];rfl,?_⟩
  ·have:=(s5.trans s6) _ _ eo4;rw[<-z,n7]at this;cases this
  ·rw[e7,List.eraseIdx_eq_take_drop_succ,zJ,sF,List.map_drop]
  ·exact(zu s3 no _).trans (s5.trans (s6.trans s7))
 ·rintro σ H3 ⟨l,L,O,x5,x6,rfl,BY,el,eo,hp,pK,s3⟩;have cZ:=hp.length_eq;rw[zS,xS]at cZ;have hL0:L=[]:=wP.mp (by lia);subst hL0;rw[List.append_nil]at hp;walk_at"rp";refine⟨_,.inl (SqL.of eo),λp H4 s4 h4=>q p H4 O (s3.trans s4) h4 (hp.nodup_iff.mpr uP) λn=>?_⟩;rw[hp.mem_iff,yF]
def qt(K:W.Frag):Sp:=λvs H Q _=>∃(a:Addr)(J:List (Addr×List Bool))(m j:Nat),vs=[.ref a,.int (j:Int)]/\JudgesAt K H a J m/\j<m/\∀H',Same H H'->Q (.bl (yj (J.map (·.2)) j)) H'
theorem gz(D:Def K mg "_law_most_of" (top 56) ["_law_judges","_law_number"])(aB:mg "len"=none):zz P w K mg base 1 "_law_most_of" ["_law_judges","_law_number"] (qt K):=by
 refine D.callee (N:=["_law_judges","_law_number"]) (by walk_at"sc") (by walk_at"ln") λf cdv A outer s H vs Q E hr nd h=>?_;obtain⟨a,J,m,j,rfl,hJ,hj,q⟩:=h;have nO:=hJ.hi;refine⟨[some (.ref a),some (.int (j:Int))],_,rfl,(z4 (zw (wy Q2 (zt wj z0 (zv yp rfl aB ze (z9 (yl (ixs:=[1]) (zq (own:=["_law_row_here"]) (N:=["_law_number"]) rfl rfl rfl rfl rfl rfl rfl (by decide +kernel) rfl rfl rfl) rfl (y6 (z8 0)) (λ_ _ _ _=>(v5 (ye (zb (z8 0) (z8 1) (λ_ _=>rfl))))) (λ_ _ _ _=>(z8 0)) rfl) z6))) (zv yp rfl aB ze (z9 (z8 0) z6)) (zm _)))),?_⟩;walk_at"rp";refine .inr ⟨⟨_,hJ.sq⟩,λC s₀ H₀ ex=>?_⟩;refine vw (xs:=J.map λr=>V.ref r.1) (λD n ys H3=>ys.length=(vm ((J.map (·.2)).take n) j).length/\H3 D=some (.lst ys)/\Same H H3/\H D=none) (by rw[zY,zP];lia) ?_ ?_ ?_ ?_
 ·intro D H3 n3 s3 e3;exact⟨rfl,e3,s3,n3⟩
 ·rintro D n ys H3 ⟨hy,e3,s3,_⟩;exact⟨(z7 s3).sqT hJ.sq,e3,by rw[hy];exact je _ _ _⟩
 ·rintro D n v ys H3 hv ⟨hy,e3,s3,n3⟩;rw[zQ]at hv;cases dD:J[n]? with
  |none=>rw[dD]at hv;cases hv
  |some r2 =>
   rw[dD]at hv;cases hv;have hn:n<J.length:=(zV.mp dD).1;have gO:=zK dD;have ek:(J.map (·.2))[n]?=some r2.2:=by rw[zQ,dD];rfl
   walk_at"rp";refine⟨_,_,.inr ((z7 s3).sqT (hJ.row r2 gO)),v7 (by rw[hJ.len r2 gO];exact hj),?_⟩;walk_at"rp";cases hc:r2.2.getD j false with
   |true =>
    walk_at"rp";refine⟨e3,CN.mk (by rw[zY];exact hn) ⟨?_,zx,zu s3 n3 _,n3⟩⟩;rw[uv ek,yT hc,zS,zS,hy]
    rfl
   |false =>
    walk_at"rp";refine CN.mk (by rw[zY];exact hn) ⟨?_,e3,s3,n3⟩;rw[uv ek,zC (by rw[hc];decide),List.append_nil];exact hy
 ·rintro D ys H3 ⟨hy,e3,s3,n3⟩;rw[zY,<-zY (f:=λr:Addr×List Bool=>r.2),yX]at hy;have oQ:ys.length<=J.length:=by rw[hy];exact yS (xF _ _) (by rw[zY];exact zU _)
  walk_at"rp";refine⟨_,.inl (SqL.of e3),?_⟩;walk_at"rp";refine⟨cm (by lia),_,.inr ((z7 s3).sqT hJ.sq),?_⟩;rw[hy,zY];have:=q H3 s3;unfold yj at this;rw[zY]at this;exact this
theorem jx{k:List Bool}{ps:List (Nat×Bool)}{n:Nat}{b:Bool}:agr k (ps++[(n,b)])=(agr k ps&&(k.getD n false==b)):=by
 unfold agr;rw[List.all_append];simp
theorem ci{R:List (Addr×List Bool)}{said:Nat->Bool}{tk:List (Nat×Bool)}{n:Nat}:(R.filter λr=>agr r.2 (tk++[(n,xu (R.map (·.2)) said tk n)]))=if((R.filter λr=>agr r.2 tk).filter λr=>r.2.getD n false==said n)=[]then(R.filter λr=>agr r.2 tk)else((R.filter λr=>agr r.2 tk).filter λr=>r.2.getD n false==said n):=by
 have e:((R.filter λr=>agr r.2 tk).filter λr=>r.2.getD n false==said n)=R.filter λr=>agr r.2 (tk++[(n,said n)]):=by
  rw[List.filter_filter]
  congr 1
  funext r
  rw[jx,Bool.and_comm]
 rw[e];unfold xu
 by_cases h:(R.map (·.2)).any (λk=>agr k (tk++[(n,said n)]))=true
 ·rw[yT h,zC];intro z;obtain⟨k,hk,ha⟩:=xU.mp h;obtain⟨r,hr,rfl⟩:=zD.mp hk;exact List.filter_eq_nil_iff.mp z r hr ha
 ·rw[zC h,yT (List.filter_eq_nil_iff.mpr λr hr ha=>h (xU.mpr ⟨r.2,zD.mpr ⟨r,hr,rfl⟩,ha⟩))];refine List.filter_congr λr hr=>?_;rw[jx];cases ha:agr r.2 tk with
  |false=>rfl
  |true =>
   have:¬(r.2.getD n false==said n)=true:=λz=>h (xU.mpr ⟨r.2,zD.mpr ⟨r,hr,rfl⟩,by rw[jx,ha,z];rfl⟩);cases h1:r.2.getD n false<;>cases h2:said n<;>rw[h1,h2]at this<;>first|rfl|exact absurd rfl this
def Xe(K:W.Frag):Sp:=λvs H Q _=>∃(d j o:Addr)(R J:List (Addr×List Bool))(m:Nat)(ord:List Nat),vs=[.ref d,.ref j,.ref o]/\H d=some (.lst (R.map λr=>V.ref r.1))/\(∀r∈R,SqT K H r.1 (r.2.map V.bl))/\(∀r∈R,r.2.length=m)/\1<=R.length/\R.length<=32/\JudgesAt K H j J m/\SqT K H o (ord.map λn=>V.int ((n:Nat):Int))/\(∀n∈ord,n<m) /\
 ∀(r:Addr×List Bool)(H':Hp),Same H H'->r∈R->agr r.2 (zf (R.map (·.2)) (yj (J.map (·.2))) ord)=true->Q (.ref r.1) H'
theorem Ro(D:Def K mg "_law_taken" (top 57) ["_law_fit","_law_judges","_law_order_here"])(aW:zz P w K mg base 1 "_law_most_of" ["_law_judges","_law_number"] (qt K))(aB:mg "len"=none)(aR:mg "list"=none):zz P w K mg base 2 "_law_taken" ["_law_fit","_law_judges","_law_order_here"] (Xe K):=by
 refine D.callee (N:=["_law_fit","_law_judges","_law_order_here","_law_left","_law_number","_law_truth","_law_some"]) (by walk_at"sc") (by walk_at"ln") λf cdv A outer s H vs Q E hr nd h=>?_;obtain⟨d,j,o,R,J,m,ord,rfl,hd,hR,fP,h1,A2,hJ,ho,lX,q⟩:=h;generalize hsaid:yj (J.map (·.2))=said at *;refine⟨[some (.ref d),some (.ref j),some (.ref o),none,none,none,none],_,rfl,(z5 (zo 3 nd (zd Q3 rfl aR qb (z9 (z8 0) z6)))
  (z5 (xo yM rfl (y6 (z8 2)) (wg 4 nd) (z5 (zo 5 nd (zy aW hr (by lia) (z9 (z8 1) (z9 (z8 4) z6))))
  (z5 (xr 6 nd (ixs:=[4,5]) (zq (own:=["_law_row_here"]) (N:=["_law_number","_law_truth"]) rfl rfl rfl rfl rfl rfl rfl (by decide +kernel) rfl rfl rfl) rfl (y6 (z8 3)) (λ_ _ _ _=>(v5 (zh (wn hr.units) (zb (z8 0) (z8 1) (λ_ _=>rfl)) (z8 2) (zm _)))) (λ_ _ _ _=>(z8 0)) rfl)
  (z4 (za (zh Q2 (zv yp rfl aB ze (z9 (z8 6) z6)) z0 (zm _)) (z4 (zo 3 nd (z8 6))) zp)))))
  (z4 (zw (zb (z8 3) z0 (λ_ _=>rfl)))))),?_⟩
 walk_at"rp";refine⟨_,.inl (SqL.of hd),λl H1 n1 s1 e1=>?_⟩;walk_at"rp";refine .inr ⟨⟨_,(z7 s1).sqT ho⟩,xn (xs:=ord.map λn=>V.int ((n:Nat):Int)) (λi σ H2=>∃(l:Addr)(x4 x5 x6:Option V),σ=[some (.ref d),some (.ref j),some (.ref o),some (.ref l),x4,x5,x6]/\H2 l=some (.lst ((R.filter λr=>agr r.2 (zf (R.map (·.2)) said (ord.take i))).map λr=>V.ref r.1))/\(R.filter λr=>agr r.2 (zf (R.map (·.2)) said (ord.take i)))≠[]/\Same H H2) ⟨l,none,none,none,rfl,?_,?_,s1⟩ ?_ ?_ ?_⟩
 ·rw[e1];have:(R.filter λr=>agr r.2 (zf (R.map (·.2)) said (ord.take 0)))=R:=List.filter_eq_self.mpr λr _=>by simp[zf,agr]
  rw[this]
 ·have:(R.filter λr=>agr r.2 (zf (R.map (·.2)) said (ord.take 0)))=R:=List.filter_eq_self.mpr λr _=>by simp[zf,agr]
  rw[this];exact List.ne_nil_of_length_pos (by lia)
 ·rintro i σ H2 _ ⟨l,x4,x5,x6,rfl,_,_,s2⟩;exact(z7 s2).sqT ho
 ·rintro i v σ H2 hv ⟨l,x4,x5,x6,rfl,e2,bZ,s2⟩;rw[zQ]at hv;cases hc:ord[i]? with
  |none=>rw[hc]at hv;cases hv
  |some n =>
   rw[hc]at hv;cases hv;have qI:=lX n (zK hc);have fU:=ci (R:=R) (said:=said) (tk:=zf (R.map (·.2)) said (ord.take i)) (n:=n);rw[<-vh hc]at fU;generalize hF:(R.filter λr=>agr r.2 (zf (R.map (·.2)) said (ord.take i)))=F at *;have hFR:∀x∈F,x∈R:=λx hx=>by rw[<-hF]at hx;exact(xC.mp hx).1
   have A1:F.length<=32:=by rw[<-hF];exact yS (xF _ _) A2
   walk_at"rp";refine⟨j,J,m,n,rfl,hJ.mono (z7 s2),qI,λH3 s3=>?_⟩;rw[hsaid];walk_at"rp";have AZ:=s2.trans s3;refine .inl ⟨⟨_,SqL.of (s3 _ _ e2)⟩,λC s₀ H₀ ex=>?_⟩;refine fz (xs:=F.map λr=>V.ref r.1) (λD k ys H4=>ys=(((F.take k).filter λr=>r.2.getD n false==said n).map λr=>V.ref r.1)/\H4 D=some (.lst ys)/\Same H3 H4/\H3 D=none) (by rw[zY,zP];lia) ?_ ?_ ?_ ?_
   ·intro D H4 n4 s4 e4;exact⟨rfl,e4,s4,n4⟩
   ·rintro D k ys H4 ⟨rfl,e4,s4,_⟩;refine⟨SqL.of (s4 _ _ (s3 _ _ e2)),e4,?_⟩;rw[zY];exact yS (xF _ _) (List.length_take_le _ _)
   ·rintro D k v ys H4 hv ⟨rfl,e4,s4,n4⟩;rw[zQ]at hv;cases dD:F[k]? with
    |none=>rw[dD]at hv;cases hv
    |some e =>
     rw[dD]at hv;cases hv;have hk:k<(F.map λr=>V.ref r.1).length:=by rw[zY];exact(zV.mp dD).1
     have hm:=hFR e (zK dD);have htk:((F.take (k+1)).filter λr=>r.2.getD n false==said n)=((F.take k).filter λr=>r.2.getD n false==said n)++(if(e.2.getD n false==said n)=true then[e]else[]):=by
      rw[yV,dD,vT,show(some e).toList=[e]from rfl,wC,tH]
     walk_at"rp";refine⟨_,_,.inr ((z7 (AZ.trans s4)).sqT (hR e hm)),v7 (by rw[fP e hm];exact qI),?_⟩;walk_at"rp";have hee:decide (e.2.getD n false=said n)=(e.2.getD n false==said n):=by cases e.2.getD n false<;>cases said n<;>rfl
     rw[hee];refine u4 (λc9=>⟨e4,CN.mk hk ⟨?_,zx,zu s4 n4 _,n4⟩⟩) λc9=>CN.mk hk ⟨?_,e4,s4,n4⟩
     ·rw[htk,yT c9,zJ]
      rfl
     ·rw[htk,zC c9,List.append_nil]
   ·rintro D ys H4 ⟨rfl,e4,s4,n4⟩;rw[zY,yX]at e4;walk_at"rp";refine⟨_,.inl (SqL.of e4),?_⟩;rw[zY];generalize hG:(F.filter λr=>r.2.getD n false==said n)=G at *;have DI:=s3.trans s4
    by_cases hG0:G=[]
    ·rw[yT hG0]at fU;subst hG0;walk_at"rp";exact⟨l,_,_,_,rfl,by rw[fU];exact DI _ _ e2,by rw[fU];exact bZ,s2.trans DI⟩
    ·rw[zC hG0]at fU;rw[zA (by have:=List.length_pos_iff.mpr hG0;lia)];walk_at"rp";exact⟨D,_,_,_,rfl,by rw[fU];exact e4,by rw[fU];exact hG0,s2.trans DI⟩
 ·rintro σ H2 ⟨l,x4,x5,x6,rfl,e2,bZ,s2⟩;rw[zY,yX]at e2 bZ;walk_at"rp";cases hF:(R.filter λr=>agr r.2 (zf (R.map (·.2)) said ord))with
  |nil=>exact(bZ hF).elim
  |cons r F =>
   rw[hF]at e2;refine⟨_,_,.inl (SqL.of e2),(show atI ((r::F).map λr=>V.ref r.1) ((0:Nat):Int)=some (V.ref r.1)from yk rfl),?_⟩;walk_at"rp";have hm:r∈R.filter λr=>agr r.2 (zf (R.map (·.2)) said ord):=by rw[hF];exact zH
   exact q r H2 s2 (xC.mp hm).1 (xC.mp hm).2
theorem l8(ks:List (List Bool))(j:Nat):∀i,(yb ks j true i).length+(yb ks j false i).length=i
 |0=>rfl
 |i+1=>by
  rw[w9,w9,zS,zS];have:=l8 ks j i;cases h:(ks.getD i []).getD j false<;>simp<;>lia
theorem O6(ks:List (List Bool))(j:Nat):0-(if 2*((vm ks j).length:Int)-(ks.length:Int)<0 then -(2*((vm ks j).length:Int)-(ks.length:Int))else 2*((vm ks j).length:Int)-(ks.length:Int)) = -og ks j:=by
 have h1:=lz ks j;have h2:=l8 ks j ks.length;unfold og;split<;>split<;>lia
def Uh(ks:List (List Bool))(j:Nat):Int×Int:=(-og ks j,(j:Int))
def o8(K:W.Frag):Sp:=λvs H Q _=>∃(a:Addr)(J:List (Addr×List Bool))(m:Nat),vs=[.ref a]/\JudgesAt K H a J m/\m<=10/\∀(p:Addr)(H':Hp)(ord:List Nat),Same H H'->SqT K H' p (ord.map λn=>V.int ((n:Nat):Int))->ord.Perm (List.range m)->ord.Pairwise (vb λj=>-og (J.map (·.2)) j)->Q (.ref p) H'
theorem dy(D:Def K mg "_law_strongest" (top 58) ["_law_judges"])(aB:mg "len"=none)(aD:mg "range"=none)(iC:mg "abs"=none)(aH:mg "sorted"=none)(aA:mg "tuple"=none):zz P w K mg base 1 "_law_strongest" ["_law_judges"] (o8 K):=by
 refine D.callee (N:=["_law_judges","_law_found","_law_number","_law_yes"]) (by walk_at"sc") (by walk_at"ln") λf cdv A outer s H vs Q E hr nd h=>?_;obtain⟨a,J,m,rfl,hJ,hm,q⟩:=h;have nO:=hJ.hi;obtain⟨r,pF,GN⟩:=tw hJ;refine⟨[some (.ref a),none,none,none],_,rfl,(z5 (zo 1 nd (xa z6))
  (z5 (xo yM rfl (yq rfl aD (z9 (zv yp rfl aB ze (z9 (zb (z8 0) z0 (λ_ _=>rfl)) z6)) z6)) (wg 2 nd) (z5 (zo 3 nd (zv yp rfl aB ze (z9 (yl (ixs:=[2]) (zq (own:=["_law_row_here"]) (N:=["_law_number"]) rfl rfl rfl rfl rfl rfl rfl (by decide +kernel) rfl rfl rfl) rfl (y6 (z8 0)) (λ_ _ _ _=>(v5 (ye (zb (z8 0) (z8 1) (λ_ _=>rfl))))) (λ_ _ _ _=>(z8 0)) rfl) z6)))
  (z4 (wc (jl wK wJ gt (z8 1) (z9 (wu (z9 (zt lf z0 (zv Zy rfl iC Pq (z9 (zt lf (zt wj z0 (z8 3)) (zv yp rfl aB ze (z9 (z8 0) z6))) z6))) (z9 (z8 2) z6))) z6))))))
  (z4 (zw (zd yi rfl aA zc (z9 (nh (ixs:=[]) (zq (own:=["_law_apart","_law_number"]) (N:=[]) rfl rfl rfl rfl rfl rfl rfl (by decide +kernel) rfl rfl rfl) rfl (y6 (zv Kh rfl aH ux (z9 (z8 1) z6))) (λ_ _ _ _=>yz) (λ_ _ _ _=>(z8 1)) rfl) z6)))))),?_⟩
 walk_at"rp";refine⟨xp (by simp),λl H1 n1 s1 e1=>?_⟩;walk_at"rp";refine⟨_,_,.inr ((z7 s1).sqT hJ.sq),GN,?_⟩;walk_at"rp";refine⟨_,.inr ((z7 s1).sqT (hJ.row r pF)),?_⟩;rw[zY,hJ.len r pF];refine⟨⟨by lia,by lia⟩,?_⟩;rw[yZ];refine w6 (λi σ H2=>∃(x2 x3:Option V)(T:List (Addr×(Int×Int))),σ=[some (.ref a),some (.ref l),x2,x3]/\H2 l=some (.lst (T.map λt=>V.ref t.1))/\Pb K H2 T/\T.map (·.2)=(List.range i).map (Uh (J.map (·.2)))/\Same H H2) ⟨none,none,[],rfl,e1,(λx hx=>by cases hx),rfl,s1⟩ ?_ ?_
 ·rintro i σ H2 hi ⟨x2,x3,T,rfl,e2,hT,GP,s2⟩;have hTl:T.length=i:=by have:=wZ List.length GP;simpa using this
  walk_at"rp";rw[wN];have Bv:=hJ.mono (z7 s2);refine .inr ⟨⟨_,Bv.sq⟩,λC s₀ H₀ ex=>?_⟩;refine vw (xs:=J.map λr=>V.ref r.1) (λD n ys H3=>ys.length=(vm ((J.map (·.2)).take n) i).length/\H3 D=some (.lst ys)/\Same H2 H3/\H2 D=none) (by rw[zY,zP];lia) ?_ ?_ ?_ ?_
  ·intro D H3 n3 s3 e3;exact⟨rfl,e3,s3,n3⟩
  ·rintro D n ys H3 ⟨hy,e3,s3,_⟩;exact⟨(z7 s3).sqT Bv.sq,e3,by rw[hy];exact je _ _ _⟩
  ·rintro D n v ys H3 hv ⟨hy,e3,s3,n3⟩;rw[zQ]at hv;cases dD:J[n]? with
   |none=>rw[dD]at hv;cases hv
   |some r2 =>
    rw[dD]at hv;cases hv;have hn:n<J.length:=(zV.mp dD).1;have gO:=zK dD;have ek:(J.map (·.2))[n]?=some r2.2:=by rw[zQ,dD];rfl
    walk_at"rp";refine⟨_,_,.inr ((z7 s3).sqT (Bv.row r2 gO)),v7 (by rw[Bv.len r2 gO];exact hi),?_⟩;walk_at"rp";cases hc:r2.2.getD i false with
    |true =>
     walk_at"rp";refine⟨e3,CN.mk (by rw[zY];exact hn) ⟨?_,zx,zu s3 n3 _,n3⟩⟩;rw[uv ek,yT hc,zS,zS,hy]
     rfl
    |false =>
     walk_at"rp";refine CN.mk (by rw[zY];exact hn) ⟨?_,e3,s3,n3⟩;rw[uv ek,zC (by rw[hc];decide),List.append_nil];exact hy
  ·rintro D ys H3 ⟨hy,e3,s3,n3⟩;rw[zY,<-zY (f:=λr:Addr×List Bool=>r.2),yX]at hy;have oQ:ys.length<=J.length:=by rw[hy];exact yS (xF _ _) (by rw[zY];exact zU _)
   walk_at"rp";refine⟨_,.inl (SqL.of e3),?_⟩;walk_at"rp";refine⟨⟨_,_,rfl,s3 _ _ e2⟩,?_⟩;walk_at"rp";refine⟨cm (by lia),_,.inr ((z7 s3).sqT Bv.sq),?_⟩;walk_at"rp";refine⟨_,rfl,?_⟩;walk_at"rp";refine⟨sz2,λz H4 n4 s4 e4=>?_⟩;walk_at"rp";have ek:(0-(if 2*(ys.length:Int)-((J.map λr=>V.ref r.1).length:Int)<0 then -(2*(ys.length:Int)-((J.map λr=>V.ref r.1).length:Int))else 2*(ys.length:Int)-((J.map λr=>V.ref r.1).length:Int))) = -og (J.map (·.2)) i:=by
    rw[hy,zY,<-O6,zY]
   have e34:=(s3.trans s4) _ _ e2;have t5:Tups H4 (upd H4 l (.lst (T.map (λt=>V.ref t.1)++[V.ref z]))):=xq e34;refine⟨_,e34,by rw[zY,zP];lia,_,_,T++[(z,Uh (J.map (·.2)) i)],rfl,?_,λx hx=>?_,?_,?_⟩
   ·rw[zx,zJ]
    rfl
   ·rcases zE.mp hx with hx|hx
    ·exact((z7 (s3.trans s4)).trans t5).sqT (hT x hx)
    ·rw[zN.mp hx];have:=t5.sqT (SqT.of (K:=K) e4);rw[ek]at this;exact this
   ·rw[zJ,GP,vI,zJ]
    rfl
   ·exact zu (s2.trans (s3.trans s4)) n1 _
 ·rintro σ H2 ⟨x2,x3,T,rfl,e2,hT,GP,s2⟩;have hTl:T.length=m:=by have:=wZ List.length GP;simpa using this
  walk_at"rp";refine⟨l,T,rfl,SqL.of e2,hT,by lia,λT' pm hs l3 H3 n3 s3 e3=>?_⟩;walk_at"rp";have hT'l:T'.length=m:=by rw[pm.length_eq,hTl]
  obtain⟨ord,hp,eo⟩:∃ord:List Nat,ord.Perm (List.range m)/\T'.map (·.2)=ord.map (Uh (J.map (·.2))):=R0 (by rw[<-GP];exact pm.map _);refine .inl ⟨⟨_,SqL.of e3⟩,λC s₀ H₀ ex=>?_⟩;refine Ts (xs:=T'.map λt=>V.ref t.1) (λD k ys H4=>ys=((T'.take k).map λt=>V.int t.2.2)/\k<=T'.length/\H4 D=some (.lst ys)/\Same H3 H4/\H3 D=none) (by rw[zY,zP];lia) ?_ ?_ ?_ ?_
  ·intro D H4 n4 s4 e4;exact⟨rfl,yQ _,e4,s4,n4⟩
  ·rintro D k ys H4 ⟨rfl,hk,e4,s4,_⟩;exact⟨SqL.of (s4 _ _ e3),e4,by rw[zY,yU];exact Nat.min_le_left _ _⟩
  ·rintro D k v ys H4 hv ⟨rfl,hk,e4,s4,n4⟩;rw[zQ]at hv;cases hc:T'[k]? with
   |none=>rw[hc]at hv;cases hv
   |some e =>
    rw[hc]at hv;cases hv;have qV:k<T'.length:=(zV.mp hc).1;have hem:=pm.mem_iff.mp (zK hc);refine⟨e.1,_,_,rfl,(z7 (s3.trans s4)).sqT (hT e hem),?_⟩;walk_at"rp";refine⟨e4,CN.mk (by rw[zY];exact qV) ⟨?_,qV,zx,zu s4 n4 _,n4⟩⟩;rw[yV,hc,zJ]
    rfl
  ·rintro D ys H4 ⟨rfl,hk,e4,s4,n4⟩;rw[zY,yX]at e4;walk_at"rp";refine⟨_,.inl (SqL.of e4),λp H5 s5 h5=>?_⟩;have eT:(T'.map λt=>V.int t.2.2)=ord.map λn=>V.int ((n:Nat):Int):=by
    have:=wZ (List.map λk:Int×Int=>V.int k.2) eo;rw[yI,yI]at this;exact this
   rw[eT]at h5;refine q p H5 ord (s2.trans (s3.trans (s4.trans s5))) h5 hp ?_;rw[eo,wY]at hs;have mO:ord.Pairwise (·≠·):=hp.nodup_iff.mpr uP;refine(hs.and mO).imp λ{x y} h=>?_;have h1:¬iLt (Uh (J.map (·.2)) y) (Uh (J.map (·.2)) x)=true:=by rw[h.1];decide
   have h2:=mt iLt_iff.mpr h1;have h3:=h.2;unfold Uh at h2;unfold vb;dsimp only at h2 ⊢;lia
def Mt(K:W.Frag):Sp:=λvs H Q _=>∃(a j b:Addr)(k:List Bool)(J:List (Addr×List Bool))(ws:List Int)(m:Nat),vs=[.ref a,.ref j,.ref b]/\SqT K H a (k.map V.bl)/\k.length=m/\m<=10/\JudgesAt K H j J m/\SqT K H b (ws.map V.int)/\ws.length=m/\∀H',Same H H'->Q (.int (xw k (J.map (·.2)) ws m)) H'
theorem Ko(D:Def K mg "_law_far" (top 59) ["_law_row_here","_law_judges","_law_weights_here"])(aB:mg "len"=none)(aD:mg "range"=none):zz P w K mg base 1 "_law_far" ["_law_row_here","_law_judges","_law_weights_here"] (Mt K):=by
 refine D.callee (N:=["_law_row_here","_law_judges","_law_weights_here","_law_found","_law_judge","_law_k"]) (by walk_at"sc") (by walk_at"ln") λf cdv A outer s H vs Q E hr nd h=>?_;obtain⟨a,j,b,k,J,ws,m,rfl,ha,hk,hm,hJ,hb,hw,q⟩:=h;refine⟨[some (.ref a),some (.ref j),some (.ref b),none,none,none],_,rfl,(z5 (zo 3 nd z0)
  (z5 (xo yM rfl (y6 (z8 1)) (wg 4 nd) (z4 (xo yM rfl (yq rfl aD (z9 (zv yp rfl aB ze (z9 (z8 0) z6)) z6)) (wg 5 nd) (z4 (za (zh (rc hr.units) (zb (z8 4) (z8 5) (λ_ _=>rfl)) (zb (z8 0) (z8 5) (λ_ _=>rfl)) (zm _)) (z4 (zo 3 nd (zt zg (z8 3) (zb (z8 2) (z8 5) (λ_ _=>rfl))))) zp)))))
  (z4 (zw (z8 3))))),?_⟩
 walk_at"rp";refine .inr ⟨⟨_,hJ.sq⟩,xn (xs:=J.map λr=>V.ref r.1) (λi σ H2=>∃(x4 x5:Option V),σ=[some (.ref a),some (.ref j),some (.ref b),some (.int (xw k ((J.map (·.2)).take i) ws m)),x4,x5]/\H2=H) ⟨none,none,by simp[xw],rfl⟩ ?_ ?_ ?_⟩
 ·rintro i σ H2 _ ⟨x4,x5,rfl,rfl⟩;exact hJ.sq
 ·rintro i v σ H2 hv ⟨x4,x5,rfl,rfl⟩;rw[zQ]at hv;cases hc:J[i]? with
  |none=>rw[hc]at hv;cases hv
  |some r =>
   rw[hc]at hv;cases hv;have gO:=zK hc;have ek:(J.map (·.2))[i]?=some r.2:=by rw[zQ,hc];rfl
   walk_at"rp";refine⟨_,.inr ha,?_⟩;rw[zY,hk];refine⟨⟨by lia,by lia⟩,?_⟩;rw[yZ];refine w6 (λn σ H3=>∃(x5:Option V),σ=[some (.ref a),some (.ref j),some (.ref b),some (.int (xw k ((J.map (·.2)).take i) ws m+qv k r.2 ws n)),some (.ref r.1),x5]/\H3=H2) ⟨_,by rw[show qv k r.2 ws 0=0 from rfl,Int.add_zero],rfl⟩ ?_ ?_
   ·rintro n σ H3 hn ⟨x5',rfl,rfl⟩;walk_at"rp";rw[wN];refine⟨_,_,.inr (hJ.row r gO),v7 (by rw[hJ.len r gO];exact hn),?_⟩;walk_at"rp";refine⟨_,_,.inr ha,v7 (by lia),?_⟩;walk_at"rp"
    by_cases he:k.getD n false=r.2.getD n false
    ·rw[zA he.symm];walk_at"rp";exact⟨_,by rw[i8 he],trivial⟩
    ·rw[yL λz=>he z.symm];walk_at"rp";have hx:ws[n]?=some ws[n]:=zM (by lia);refine⟨_,_,.inr hb,yk (by rw[zQ,hx];rfl),?_⟩;walk_at"rp";exact⟨_,by rw[mx he hx,Int.add_assoc],trivial⟩
   ·rintro σ H3 ⟨x5',rfl,rfl⟩;walk_at"rp";exact⟨_,_,by rw[Xu ek],trivial⟩
 ·rintro σ H2 ⟨x4,x5,rfl,rfl⟩;walk_at"rp";rw[zY,<-zY (f:=λr:Addr×List Bool=>r.2),yX];exact q _ (Same.refl _)
theorem qe{α:Type}(g:α->Int)(M:Int):∀(l:List α),M∈l.map g->∃x rest,l[(l.map g).idxOf M]?=some x/\(l.filter λk=>decide (g k=M))=x::rest
 |[],h=>by cases h
 |a::l,h=>by
  by_cases e:g a=M
  ·refine⟨a,l.filter λk=>decide (g k=M),?_,?_⟩
   ·rw[List.map_cons,List.idxOf_cons,show(g a==M)=true from tY.mpr e]
    rfl
   ·rw[wC,yT (zA e)]
  ·obtain⟨x,rest,h1,h2⟩:=qe g M l (by
    rcases zL.mp h with z|z
    ·exact(e z.symm).elim
    ·exact z)
   refine⟨x,rest,?_,?_⟩
   ·rw[List.map_cons,List.idxOf_cons,show(g a==M)=false from vY.mpr e];simpa using h1
   ·rw[wC,zC (by simpa using e)];exact h2
def o7(K:W.Frag):Sp:=λvs H Q _=>∃(d j b:Addr)(R J:List (Addr×List Bool))(ws:List Int)(m:Nat),vs=[.ref d,.ref j,.ref b]/\H d=some (.lst (R.map λr=>V.ref r.1))/\(∀r∈R,SqT K H r.1 (r.2.map V.bl))/\(∀r∈R,r.2.length=m)/\1<=R.length/\R.length<=32/\m<=10/\JudgesAt K H j J m/\SqT K H b (ws.map V.int)/\ws.length=m /\
 ∀(r:Addr×List Bool)(H':Hp),Same H H'->r∈R->(∃rest,ur (R.map (·.2)) (J.map (·.2)) ws m=r.2::rest)->Q (.ref r.1) H'
theorem dw(D:Def K mg "_law_first_near" (top 60) ["_law_fit","_law_judges","_law_weights_here"])(rF:zz P w K mg base 1 "_law_far" ["_law_row_here","_law_judges","_law_weights_here"] (Mt K))(bO:mg "min"=none):zz P w K mg base 2 "_law_first_near" ["_law_fit","_law_judges","_law_weights_here"] (o7 K):=by
 refine D.callee (N:=["_law_fit","_law_judges","_law_weights_here","_law_far_here"]) (by walk_at"sc") (by walk_at"ln") λf cdv A outer s H vs Q E hr nd h=>?_;obtain⟨d,j,b,R,J,ws,m,rfl,hd,hR,fP,h1,A2,hm,hJ,hb,hw,q⟩:=h;refine⟨[some (.ref d),some (.ref j),some (.ref b),none],_,rfl,(z5 (xr 3 nd (ixs:=[1,2]) (zq (own:=["_law_row_here"]) (N:=["_law_judges","_law_weights_here"]) rfl rfl rfl rfl rfl rfl rfl (by decide +kernel) rfl rfl rfl) rfl (y6 (z8 0)) (λ_ _ _ _=>yz) (λ_ _ _ _=>(zy rF hr (by lia) (z9 (z8 0) (z9 (z8 1) (z9 (z8 2) z6))))) rfl)
  (z4 (zw (zb (z8 0) (jl F.slot_list_index F.type_list_index Ha (z8 3) (z9 (zv (Q4 rfl) rfl bO cv (z9 (z8 3) z6)) z6)) (λ_ _=>rfl))))),?_⟩
 walk_at"rp";refine .inl ⟨⟨_,SqL.of hd⟩,λC s₀ H₀ ex=>?_⟩;refine vo (xs:=R.map λr=>V.ref r.1) (λD i ys H2=>ys=((R.take i).map λr=>xw r.2 (J.map (·.2)) ws m).map V.int/\i<=R.length/\H2 D=some (.lst ys)/\Same H H2/\H D=none) (by rw[zY,zP];lia) ?_ ?_ ?_ ?_
 ·intro D H2 n2 s2 e2;exact⟨rfl,yQ _,e2,s2,n2⟩
 ·rintro D i ys H2 ⟨rfl,hi,e2,s2,_⟩;exact⟨SqL.of (s2 _ _ hd),e2,by rw[zY,zY,yU];lia⟩
 ·rintro D i v ys H2 hv ⟨rfl,hi,e2,s2,n2⟩;rw[zQ]at hv;cases hc:R[i]? with
  |none=>rw[hc]at hv;cases hv
  |some r =>
   rw[hc]at hv;cases hv;have gO:=zK hc;have AS:i<R.length:=(zV.mp hc).1;walk_at"rp";refine⟨r.1,j,b,r.2,J,ws,m,rfl,(z7 s2).sqT (hR r gO),fP r gO,hm,hJ.mono (z7 s2),(z7 s2).sqT hb,hw,λH3 s3=>?_⟩;walk_at"rp";refine⟨s3 _ _ e2,CN.mk (by rw[zY];exact AS) ⟨?_,AS,zx,zu (s2.trans s3) n2 _,n2⟩⟩;rw[yV,hc,zJ,zJ]
   rfl
 ·rintro D ys H2 ⟨rfl,hi,e2,s2,n2⟩;rw[zY,yX]at e2;walk_at"rp";refine⟨⟨_,_,rfl,e2⟩,_,SqL.of e2,by rw[zY];exact h1,λM hM iE=>?_⟩;have hml:(R.map λr=>xw r.2 (J.map (·.2)) ws m)=(R.map (·.2)).map λk=>xw k (J.map (·.2)) ws m:=by rw[yI];rfl
  refine⟨D,_,M,rfl,rfl,SqL.of e2,hM,by rw[zY];lia,?_⟩;walk_at"rp";obtain⟨x,rest,hx,hf⟩:=qe (λr:Addr×List Bool=>xw r.2 (J.map (·.2)) ws m) M R hM;refine⟨_,_,.inl (SqL.of (s2 _ _ hd)),yk (by rw[zQ,hx];rfl),?_⟩;walk_at"rp";refine q x H2 s2 (zK hx) ⟨rest.map λr:Addr×List Bool=>r.2,?_⟩;rw[<-lh (M:=M) (by rw[<-hml];exact hM) (by rw[<-hml];exact iE),List.filter_map];have:(R.filter ((λk=>decide (xw k (J.map (·.2)) ws m=M))∘λx=>x.2))=x::rest:=hf;rw[this]
  rfl
def Zb:Sp:=λvs H Q _=>∃(k j:Int),vs=[.int k,.int j]/\0<=k/\k<=100000/\0<=j/\j<=100/\∀r:Int,0<=r->r<9973->Q (.int r) H
theorem N7(D:Def K mg "_law_next" (top 42) ["_law_k","_law_j"]):zz P w K mg base 1 "_law_next" ["_law_k","_law_j"] Zb:=by
 refine D.callee (N:=["_law_k","_law_j"]) (by walk_at"sc") (by walk_at"ln") λf cdv A outer s H vs Q E hr nd h=>?_;obtain⟨k,j,rfl,h0,hk,hj0,hj,q⟩:=h;refine⟨[some (.int k),some (.int j)],_,rfl,(z4 (zw (zt uh (zt zg (zt zg (zt wj (z8 0) z0) (zt wj (z8 1) z0)) z0) z0))),?_⟩;walk_at"rp";exact⟨cm (by lia),cm (by lia),by decide,q _ (uL _ (by decide)) (vC _ (by decide))⟩
def Xd(K:W.Frag):Sp:=λvs H Q _=>∃(a d:Addr)(ns:List Int)(k:Nat)(R:List (Addr×List Bool))(m:Nat),vs=[.ref a,.int (k:Int),.ref d]/\SqL K H a (ns.map V.int)/\ns.length<=5000/\k<=1000/\H d=some (.lst (R.map λr=>V.ref r.1))/\(∀r∈R,SqT K H r.1 (r.2.map V.bl))/\(∀r∈R,r.2.length=m)/\1<=R.length/\R.length<=32 /\
 ∀(p:Addr)(H':Hp)(J:List (Addr×List Bool)),Same H H'->JudgesAt K H' p J m->J.length % 2=1->J.length<=9->(∀r∈J,r∈R)->Q (.ref p) H'
theorem Rn(D:Def K mg "_law_seats" (top 67) ["_law_script","_law_k","_law_fit"])(cQ:zz P w K mg base 1 "_law_cell" ["_law_script","_law_k"] (fc K))(aF:zz P w K mg base 2 "_law_pick" ["_law_script","_law_k","_law_many"] (ve K))(aB:mg "len"=none)(aD:mg "range"=none)(aA:mg "tuple"=none):zz P w K mg base 3 "_law_seats" ["_law_script","_law_k","_law_fit"] (Xd K):=by
 refine D.callee (N:=["_law_script","_law_k","_law_fit","_law_many"]) (by walk_at"sc") (by walk_at"ln") λf cdv A outer s H vs Q E hr nd h=>?_;obtain⟨a,d,ns,k,R,m,rfl,hS,cS,hk,hd,hR,fP,BY,nO,q⟩:=h;refine⟨[some (.ref a),some (.int (k:Int)),some (.ref d),none],_,rfl,(z5 (zo 3 nd (zt zg z0 (zt wj z0 (zy aF hr (by lia) (z9 (z8 0) (z9 z0 (z9 z0 z6)))))))
  (z4 (zw (zd yi rfl aA zc (z9 (yl (ixs:=[2,0,1]) (zq (own:=["_law_j"]) (N:=["_law_fit","_law_script","_law_k"]) rfl rfl rfl rfl rfl rfl rfl (by decide +kernel) rfl rfl rfl) rfl (yq rfl aD (z9 (z8 3) z6)) (λ_ _ _ _=>yz) (λ_ _ _ _=>(zb (z8 1) (zt uh (zy cQ hr (by lia) (z9 (z8 2) (z9 (zt zg (z8 3) (z8 0)) z6))) (zv yp rfl aB ze (z9 (z8 1) z6))) (λ_ _=>rfl))) rfl) z6))))),?_⟩
 walk_at"rp";refine⟨a,ns,30,5,rfl,hS,cS,by decide,by decide,by decide,λy y0 y1=>?_⟩;walk_at"rp";obtain⟨n,en,hn1,hn7,Dc⟩:∃n:Nat,1+2*y=(n:Int)/\1<=n/\n<=9/\n % 2=1:=⟨(1+2*y).toNat,by lia,by lia,by lia,by lia⟩
 rw[en];refine⟨cm (by decide),?_⟩;walk_at"rp";refine⟨⟨by lia,by lia⟩,λC' s₀ H₀ ex=>?_⟩;rw[yZ];refine yc (λD i ys H3=>∃J:List (Addr×List Bool),ys=(J.map λr=>V.ref r.1)/\J.length=i/\(∀r∈J,r∈R)/\H3 D=some (.lst ys)/\Same H H3/\H D=none) (by rw[zP];lia) ?_ ?_ ?_ ?_
 ·intro D H3 n3 s3 e3;exact⟨[],rfl,rfl,λr hr=>(by simp at hr),e3,s3,n3⟩
 ·rintro D i ys H3 ⟨J,rfl,hl,_,e3,s3,_⟩;exact⟨e3,by rw[zY,hl]⟩
 ·rintro D i ys H3 hi ⟨J,rfl,hl,hJ,e3,s3,n3⟩;walk_at"rp";refine⟨a,ns,_,rfl,s3.seq hS,cS,by lia,by lia,λcc=>?_⟩;walk_at"rp";refine⟨_,.inl (SqL.of (s3 _ _ hd)),?_⟩;rw[zY];have Bk:(0:Int)<(R.length:Int):=by lia
  obtain⟨v,hv,ev⟩:=j7 (xs:=R.map λr=>V.ref r.1) (k:=cc % (R.length:Int)) (uL _ (by lia)) (by rw[zY];exact vC _ Bk);obtain⟨r',nN,rfl⟩:=zD.mp hv;refine⟨Bk,?_⟩;walk_at"rp";refine⟨_,_,.inl (SqL.of (s3 _ _ hd)),ev,?_⟩;walk_at"rp";refine⟨e3,CN.mk hi ⟨J++[r'],by rw[zJ];rfl,by rw[zS,hl];rfl,λx hx=>?_,zx,zu s3 n3 _,n3⟩⟩;rcases zE.mp hx with z|z
  ·exact hJ x z
  ·rw[zN.mp z];exact nN
 rintro D3 ys H3 ⟨J,rfl,hl,hJR,e3,s3,n3⟩;walk_at"rp";refine⟨_,.inl (SqL.of e3),λp H4 s4 h4=>?_⟩;have kA:=s3.trans s4;exact q p H4 J kA ⟨h4,λr hr=>(z7 kA).sqT (hR r (hJR r hr)),λr hr=>fP r (hJR r hr),by lia,by lia⟩ (by lia) (by lia) hJR
def Mu(K:W.Frag):Sp:=λvs H Q _=>∃(a:Addr)(ns:List Int)(m:Nat),vs=[.ref a,.int (m:Int)]/\SqL K H a (ns.map V.int)/\ns.length<=5000/\m<=10/\∀(p:Addr)(H':Hp)(ws:List Int),Same H H'->SqT K H' p (ws.map V.int)->ws.length=m->Q (.ref p) H'
theorem Kt(D:Def K mg "_law_weights" (top 68) ["_law_script","_law_many"])(cQ:zz P w K mg base 1 "_law_cell" ["_law_script","_law_k"] (fc K))(aF:zz P w K mg base 2 "_law_pick" ["_law_script","_law_k","_law_many"] (ve K))(aD:mg "range"=none)(aA:mg "tuple"=none):zz P w K mg base 3 "_law_weights" ["_law_script","_law_many"] (Mu K):=by
 refine D.callee (N:=["_law_script","_law_many","_law_far_here"]) (by walk_at"sc") (by walk_at"ln") λf cdv A outer s H vs Q E hr nd h=>?_;obtain⟨a,ns,m,rfl,hS,cS,hm,q⟩:=h;refine⟨[some (.ref a),some (.int (m:Int)),none],_,rfl,(z5 (zo 2 nd (zb (xa (z9 z0 (z9 (zt Hi z0 z0) z6))) (zy aF hr (by lia) (z9 (z8 0) (z9 z0 (z9 z0 z6)))) (λ_ _=>rfl)))
  (z4 (zw (zd yi rfl aA zc (z9 (yl (ixs:=[0,2]) (zq (own:=["_law_k"]) (N:=["_law_script","_law_far_here"]) rfl rfl rfl rfl rfl rfl rfl (by decide +kernel) rfl rfl rfl) rfl (yq rfl aD (z9 (z8 1) z6)) (λ_ _ _ _=>yz) (λ_ _ _ _=>(zt zg z0 (zt uh (zy cQ hr (by lia) (z9 (z8 1) (z9 (zt zg z0 (z8 0)) z6))) (z8 2)))) rfl) z6))))),?_⟩
 walk_at"rp";refine⟨⟨by decide,by decide,by decide⟩,?_⟩;walk_at"rp";refine⟨sz2,λl6 H6 n6 s6 e6=>?_⟩;walk_at"rp";refine⟨a,ns,_,2,rfl,s6.seq hS,cS,by decide,by decide,by decide,λyy yy0 yy2=>?_⟩;walk_at"rp";obtain⟨g,hg,eg⟩:∃g:Int,0<g/\atI [V.int 3,V.int (10 ^ 19)] yy=some (.int g):=by
  have:yy=0\/yy=1:=by lia
  rcases this with rfl|rfl
  ·exact⟨3,by decide,rfl⟩
  ·exact⟨10 ^ 19,by decide,rfl⟩
 refine⟨_,_,.inl (SqL.of e6),eg,?_⟩;walk_at"rp";refine⟨⟨by lia,by lia⟩,λC' s₀ H₀ ex=>?_⟩;rw[yZ];refine yc (λD i ys H7=>∃ws:List Int,ys=ws.map V.int/\ws.length=i/\H7 D=some (.lst ys)/\Same H6 H7/\H6 D=none) (by rw[zP];lia) ?_ ?_ ?_ ?_
 ·intro D H7 n7 s7 e7;exact⟨[],rfl,rfl,e7,s7,n7⟩
 ·rintro D i ys H7 ⟨ws,rfl,FY,e7,s7,_⟩;exact⟨e7,by rw[zY,FY]⟩
 ·rintro D i ys H7 hi ⟨ws,rfl,FY,e7,s7,n7⟩;walk_at"rp";refine⟨a,ns,_,rfl,(s6.trans s7).seq hS,cS,by lia,by lia,λcc=>?_⟩;walk_at"rp";refine⟨hg,?_⟩;walk_at"rp";refine⟨e7,CN.mk hi ⟨ws++[1+cc % g],by rw[zJ];rfl,by rw[zS,FY];rfl,zx,zu s7 n7 _,n7⟩⟩
 rintro D7 ys H7 ⟨ws,rfl,FY,e7,s7,n7⟩;walk_at"rp";exact⟨_,.inl (SqL.of e7),λwt H8 s8 h8=>q wt H8 ws (s6.trans (s7.trans s8)) h8 FY⟩
def pq(K:W.Frag):Sp:=λvs H Q _=>∃(j:Addr)(J:List (Addr×List Bool))(m n:Nat)(t:Bool),vs=[.ref j,.int (n:Int),.bl t]/\JudgesAt K H j J m/\n<m/\∀(v:V)(H':Hp),Same H H'->ReasonAt K H' v "judges" ((yb (J.map (·.2)) n t J.length).map λn=>V.int ((n:Nat):Int))->Q v H'
theorem Ym(D:Def K mg "_law_sayers" (top 64) ["_law_judges","_law_number","_law_truth"])(aB:mg "len"=none)(aD:mg "range"=none)(aA:mg "tuple"=none):zz P w K mg base 1 "_law_sayers" ["_law_judges","_law_number","_law_truth"] (pq K):=by
 refine D.callee (N:=["_law_judges","_law_number","_law_truth"]) (by walk_at"sc") (by walk_at"ln") λf cdv A outer s H vs Q E hr nd h=>?_;obtain⟨j,J,m,n,t,rfl,hJ,hn,q⟩:=h;have nO:=hJ.hi;refine⟨[some (.ref j),some (.int (n:Int)),some (.bl t)],_,rfl,(z4 (zw (wu (z9 yn (z9 (zd yi rfl aA zc (z9 (yl (ixs:=[0,1,2]) (zq (own:=["_law_k"]) (N:=["_law_judges","_law_number","_law_truth"]) rfl rfl rfl rfl rfl rfl rfl (by decide +kernel) rfl rfl rfl) rfl (yq rfl aD (z9 (zv yp rfl aB ze (z9 (z8 0) z6)) z6)) (λ_ _ _ _=>(v5 (zh (wn hr.units) (zb (zb (z8 1) (z8 0) (λ_ _=>rfl)) (z8 2) (λ_ _=>rfl)) (z8 3) (zm _)))) (λ_ _ _ _=>(z8 0)) rfl) z6)) z6))))),?_⟩;walk_at"rp";refine⟨_,.inr hJ.sq,?_⟩;rw[zY];refine⟨⟨by lia,by lia⟩,λC' s₀ H₀ ex=>?_⟩;rw[yZ];refine oi (λD i ys H1=>ys=((yb (J.map (·.2)) n t i).map λn=>V.int ((n:Nat):Int))/\H1 D=some (.lst ys)/\Same H H1/\H D=none) (by rw[zP];lia) ?_ ?_ ?_ ?_
 ·intro D H1 n1 s1 e1;exact⟨rfl,e1,s1,n1⟩
 ·rintro D i ys H1 ⟨rfl,e1,s1,_⟩;exact⟨e1,by rw[zY];exact rg _ _ _ _⟩
 ·rintro D i ys H1 hi ⟨rfl,e1,s1,n1⟩;rw[wN];obtain⟨r,er⟩:∃r,J[i]?=some r:=⟨_,zM hi⟩
  have gO:=zK er;obtain⟨b,eb⟩:∃b,r.2[n]?=some b:=⟨_,zM (by rw[hJ.len r gO];exact hn)⟩
  have hJ1:=hJ.mono (z7 s1);have eg:((J.map (·.2)).getD i []).getD n false=b:=by
   rw[zB (l:=J.map (·.2)),zQ,er];show r.2.getD n false=b;rw[zB,eb]
   rfl
  walk_at"rp";refine⟨_,_,.inr hJ1.sq,yk (by rw[zQ,er];rfl),?_⟩;walk_at"rp";refine⟨_,_,.inr (hJ1.row r gO),yk (by rw[zQ,eb];rfl),?_⟩;walk_at"rp";refine u4 (λc=>?_) λc=>?_
  ·refine⟨e1,CN.mk hi ⟨?_,zx,zu s1 n1 _,n1⟩⟩;rw[w9,eg,yT (tY.mpr (yK c)),zJ]
   rfl
  ·refine CN.mk hi ⟨?_,e1,s1,n1⟩;rw[w9,eg,zC (λz=>c (zA (tY.mp z))),List.append_nil]
 rintro D1 ys H1 ⟨rfl,e1,s1,n1⟩;walk_at"rp";refine⟨_,.inl (SqL.of e1),λp H2 s2 h2=>?_⟩;walk_at"rp";refine⟨sz2,λz H3 n3 s3 e3=>?_⟩;exact q _ H3 (s1.trans (s2.trans s3)) ⟨z,p,rfl,SqT.of e3,(z7 s3).sqT h2⟩
def Xx(R:List (List Bool))(ps:List (Nat×Bool))(n:Nat)(t:Bool):Bool:=R.all λk=>(k.getD n false==t)||!agr k ps
def Sw(K:W.Frag):Sp:=λvs H Q _=>∃(d a:Addr)(R:List (Addr×List Bool))(us:List V)(ps:List (Nat×Bool))(m n:Nat)(t:Bool),vs=[.ref d,.ref a,.int (n:Int),.bl t]/\H d=some (.lst (R.map λr=>V.ref r.1))/\(∀r∈R,SqT K H r.1 (r.2.map V.bl))/\(∀r∈R,r.2.length=m)/\R.length<=32/\SqT K H a us/\PairsAt K H us ps/\(∀p∈ps,p.1<m)/\ps.length<=10/\n<m/\∀H',Same H H'->Q (.bl (Xx (R.map (·.2)) ps n t)) H'
theorem N0(D:Def K mg "_law_goes" (top 61) ["_law_fit","_law_part","_law_number","_law_truth"])(aB:mg "len"=none):zz P w K mg base 1 "_law_goes" ["_law_fit","_law_part","_law_number","_law_truth"] (Sw K):=by
 refine D.callee (N:=["_law_fit","_law_part","_law_number","_law_truth","_law_row_here","_law_apart"]) (by walk_at"sc") (by walk_at"ln") λf cdv A outer s H vs Q E hr nd h=>?_;obtain⟨d,a,R,us,ps,m,n,t,rfl,hd,hR,fP,nO,ha,hP,hpm,cZ,hn,q⟩:=h;refine⟨[some (.ref d),some (.ref a),some (.int (n:Int)),some (.bl t),none,none],_,rfl,(z5 (xo yM rfl (y6 (z8 0)) (wg 4 nd) (z5 (xr 5 nd (ixs:=[4]) (zq (own:=["_law_pair"]) (N:=["_law_row_here"]) rfl rfl rfl rfl rfl rfl rfl (by decide +kernel) rfl rfl rfl) rfl (y6 (z8 1)) (λ_ _ _ _=>(v5 (zh (rc hr.units) (zb (z8 1) (zb (z8 0) z0 (λ_ _=>rfl)) (λ_ _=>rfl)) (zb (z8 0) z0 (λ_ _=>rfl)) (zm _)))) (λ_ _ _ _=>(z8 0)) rfl)
  (z4 (za (PW.pt (Ld (zh (rc hr.units) (zb (z8 4) (z8 2) (λ_ _=>rfl)) (z8 3) (zm _)) (Os (zh (wn hr.units) (zv yp rfl aB ze (z9 (z8 5) z6)) z0 (zm _))))) (z4 (zw yg)) zp))))
  (z4 (zw yg))),?_⟩
 walk_at"rp";refine .inl ⟨⟨_,SqL.of hd⟩,u6 (xs:=R.map λr=>V.ref r.1) (λi σ H1=>(∃x4 x5,σ=[some (.ref d),some (.ref a),some (.int (n:Int)),some (.bl t),x4,x5])/\Same H H1/\∀r∈R.take i,((r.2.getD n false==t)||!agr r.2 ps)=true) ⟨⟨_,_,rfl⟩,Same.refl _,λr hr=>by simp at hr⟩ ?_ ?_ ?_⟩
 ·rintro i σ H1 _ ⟨⟨x4,x5,rfl⟩,s1,_⟩;exact SqL.of (s1 _ _ hd)
 ·rintro i v σ H1 hv ⟨⟨x4,x5,rfl⟩,s1,bQ⟩;rw[zQ]at hv;cases hc:R[i]? with
  |none=>rw[hc]at hv;cases hv
  |some r =>
   rw[hc]at hv;cases hv;have gO:=zK hc;have htk:R.take (i+1)=R.take i++[r]:=by rw[yV,hc];rfl
   walk_at"rp";refine .inr ⟨⟨_,(z7 s1).sqT ha⟩,λC' s₀ H₀ ex=>?_⟩;refine vw (xs:=us) (λD k ys H2=>ys.length<=k/\(decide (ys.length=0)=agr r.2 (ps.take k))/\H2 D=some (.lst ys)/\Same H1 H2/\H1 D=none) (by rw[hP.len,zP];lia) ?_ ?_ ?_ ?_
   ·intro D H2 n2 s2 e2;exact⟨zU _,rfl,e2,s2,n2⟩
   ·rintro D k ys H2 ⟨mP,_,e2,s2,_⟩;exact⟨(z7 (s1.trans s2)).sqT ha,e2,mP⟩
   ·rintro D k v ys H2 hv ⟨mP,h2,e2,s2,n2⟩;have eL:=s1.trans s2;obtain⟨b,p,hp,rfl,hb⟩:=(hP.mono (z7 eL)).at k v hv;have hk:k<us.length:=(zV.mp hv).1;have aO:=hpm p (zK hp);obtain⟨b1,Dt⟩:∃b1,r.2[p.1]?=some b1:=⟨_,zM (by rw[fP r gO];exact aO)⟩
    have g1:r.2.getD p.1 false=b1:=by rw[zB,Dt];rfl
    walk_at"rp";refine⟨_,_,.inr hb,rfl,?_⟩;walk_at"rp";refine⟨_,_,.inr ((z7 eL).sqT (hR r gO)),yk (by rw[zQ,Dt];rfl),?_⟩;walk_at"rp";refine⟨_,_,.inr hb,rfl,?_⟩;walk_at"rp";refine u4 (λc=>?_) λc=>?_
    ·refine⟨e2,CN.mk hk ⟨by rw[zS];exact Nat.succ_le_succ mP,?_,zx,zu s2 n2 _,n2⟩⟩;rw[jy hp,g1,zS];have:(b1==p.2)=false:=by cases Bs:b1<;>cases jV:p.2<;>first|rfl|(rw[Bs,jV]at c;cases c)
     rw[this,uB];exact yL (Nat.succ_ne_zero _)
    ·refine CN.mk hk ⟨by lia,?_,e2,s2,n2⟩;rw[jy hp,g1,h2];have:(b1==p.2)=true:=by cases Bs:b1<;>cases jV:p.2<;>first|rfl|(rw[Bs,jV]at c;exact absurd rfl c)
     rw[this,sG]
   ·rintro D ys H2 ⟨mP,h2,e2,s2,n2⟩;rw[hP.len,yX]at h2;walk_at"rp";have eL:=s1.trans s2;obtain⟨b1,Dt⟩:∃b1,r.2[n]?=some b1:=⟨_,zM (by rw[fP r gO];exact hn)⟩
    have g1:r.2.getD n false=b1:=by rw[zB,Dt];rfl
    refine⟨_,_,.inr ((z7 eL).sqT (hR r gO)),yk (by rw[zQ,Dt];rfl),?_⟩;walk_at"rp";have next:((r.2.getD n false==t)||!agr r.2 ps)=true->∀r'∈R.take (i+1),((r'.2.getD n false==t)||!agr r'.2 ps)=true:=λh r' nN=>by
     rw[htk]at nN;rcases zE.mp nN with z|z
     ·exact bQ r' z
     ·rw[zN.mp z];exact h
    refine u4 (λc=>?_) λc=>?_
    ·refine⟨_,.inl (SqL.of e2),?_⟩;have bZ:(b1==t)=false:=by cases Bs:b1<;>cases ht:t<;>first|rfl|(rw[Bs,ht]at c;cases c)
     refine u4 (λc2=>?_) λc2=>?_
     ·have AW:agr r.2 ps=true:=by rw[<-h2];exact zA (by have:=yK c2;lia)
      have:Xx (R.map (·.2)) ps n t=false:=sP.mpr λz=>by
       have:=yD.mp z r.2 (yN (f:=(·.2)) gO);rw[g1,bZ,AW]at this;cases this
      rw[this]at q;exact q H2 eL
     ·refine⟨⟨_,_,rfl⟩,eL,next ?_⟩;have AW:agr r.2 ps=false:=by rw[<-h2];exact yL λz=>c2 (zA (by lia))
      rw[AW,Bool.not_false,Bool.or_true]
    ·refine⟨⟨_,_,rfl⟩,eL,next ?_⟩;have Bq:(b1==t)=true:=by cases Bs:b1<;>cases ht:t<;>first|rfl|(rw[Bs,ht]at c;exact absurd rfl c)
     rw[g1,Bq,Bool.true_or]
 ·rintro σ H1 ⟨⟨x4,x5,rfl⟩,s1,bQ⟩;walk_at"rp";rw[zY,yX]at bQ;have:Xx (R.map (·.2)) ps n t=true:=yD.mpr λk hk=>by
   obtain⟨r,hr,rfl⟩:=zD.mp hk;exact bQ r hr
  rw[this]at q;exact q H1 s1
def Zq(K:W.Frag)(H:Hp)(J:List (List Bool))(row:List Bool)(rs:List V):Prop:=∀n v t,rs[n]?=some v->row[n]?=some t->ReasonAt K H v "judges" ((yb J n t J.length).map λn=>V.int ((n:Nat):Int))
def S0(K:W.Frag)(C:Addr):Sp:=λvs H Q _=>∃(x dx:Addr)(y:V)(a:Addr)(J:List (Addr×List Bool))(m:Nat),vs=[.ref x,y,.ref a]/\H x=some (.ins C dx [])/\JudgesAt K H a J m/\m<=10/\∀(l:Addr)(H':Hp)(rs:List V),Same H H'->H l=none->H' l=some (.lst rs)->rs.length=m->Zq K H' (J.map (·.2)) (xb (J.map (·.2)) m) rs->Q (.ref l) H'
theorem N6{C:Addr}{ps:List Str}(D:DefM K C "reasons" "Most.reasons" (xk (top 35) 1) ["self","sayings","judges"])(gH:yt P w K mg base 4 C "row" ps (Y9 K))(bY:zz P w K mg base 3 "all_by_judges" ["judges","row"] (fb K)):yt P w K mg base 5 C "reasons" ["self","sayings","judges"] (S0 K C):=by
 refine D.callee (N:=["self","sayings","judges"]) (by walk_at"sc") (by walk_at"ln") λf cdv A outer s H vs Q E hr nd h=>?_;obtain⟨x,dx,y,a,J,m,rfl,hx,hJ,hm,q⟩:=h;refine⟨[some (.ref x),some y,some (.ref a)],_,rfl,(z4 (zw (zy bY hr (by lia) (z9 (z8 2) (z9 (ua gH hr (by lia) (z8 0) (z9 (z8 1) (z9 (z8 2) z6))) z6))))),?_⟩;walk_at"rp";refine⟨x,dx,[],rfl,hx,rfl,?_⟩;refine⟨_,_,a,J,m,rfl,hJ,hm,λp H1 s1 hp=>?_⟩;walk_at"rp";refine⟨a,p,J,xb (J.map (·.2)) m,rfl,by rw[xj];exact hJ.mono (z7 s1),hp,by rw[xj];exact hm,λl H2 rs nl s2 el hl gN=>?_⟩;rw[xj]at hl;exact q l H2 rs (s1.trans s2) (y9 s1 nl) el hl λn v t hv ht=>by rw[zY];exact gN n v t hv ht
def S4(K:W.Frag)(Pt C:Addr):Sp:=λvs H Q _=>∃(ws:List Int)(x dx b j:Addr)(fs:List (Str×V))(us:List V)(ts:List Say)(xs:List Str)(J:List (Addr×List Bool)),vs=[.ref x,.ref b,.ref j]/\H x=some (.ins C dx fs)/\Fl2 K ws H ts.length fs/\SqT K H b us/\SaysAt K H us ts/\Lst ts xs/\JudgesAt K H j J ts.length/\Tb Pt H /\
 ∀(l:Addr)(H':Hp)(ss:List Str)(R:List (List Bool))(row:List Bool)(rs:List V),SameP Pt H H'->Tb Pt H'->NamesOf ts ss->FitRows ts ss R->row.length=ts.length->RI2 ws ts.length R (J.map (·.2)) row->H l=none->H' l=some (.lst rs)->rs.length=ts.length->Zq K H' (J.map (·.2)) row rs->Q (.ref l) H'
theorem N8{C Pt:Addr}{ps:List Str}(D:DefM K C "reasons" "Nearest.reasons" (xk (top 38) 2) ["self","sayings","judges"])(gH:yt P w K mg base 46 C "row" ps (pw K Pt C (Fl2 K) RI2))(bY:zz P w K mg base 3 "all_by_judges" ["judges","row"] (fb K)):yt P w K mg base 47 C "reasons" ["self","sayings","judges"] (S4 K Pt C):=by
 refine D.callee (N:=["self","sayings","judges"]) (by walk_at"sc") (by walk_at"ln") λf cdv A outer s H vs Q E hr nd h=>?_;obtain⟨ws,x,dx,b,j,fs,us,ts,xs,J,rfl,hx,A1,hb,hT,hL,hJ,aT,q⟩:=h;have nO:=hL.hi;have hlk:fs.lookup (Str.ofString "row")=none:=by obtain⟨v,rfl,_⟩:=A1;rfl
 refine⟨[some (.ref x),some (.ref b),some (.ref j)],_,rfl,(z4 (zw (zy bY hr (by lia) (z9 (z8 2) (z9 (ua gH hr (by lia) (z8 0) (z9 (z8 1) (z9 (z8 2) z6))) z6))))),?_⟩;walk_at"rp";refine⟨x,dx,fs,rfl,hx,hlk,?_⟩;refine⟨ws,x,dx,b,j,fs,us,ts,xs,J,rfl,hx,A1,hb,hT,hL,hJ,aT,λp H1 ss R row s1 T1 hN hF hp hl nM=>?_⟩;walk_at"rp";refine⟨j,p,J,row,rfl,by rw[hl];exact hJ.mono (zj aT s1),hp,by lia,λl H2 rs nl s2 el nW gN=>?_⟩;rw[hl]at nW;exact q l H2 ss R row rs (s1.trans (yh s2)) (T1.same s2) hN hF hl nM (Xg s1 T1 nl) el nW λn v t hv ht=>by rw[zY];exact gN n v t hv ht
theorem Uk:W.kitOne K (.type "int") (.type "str")=some false:=by rfl
theorem gk:W.kitOne K (.type "int") (.type "bool")=some false:=by rfl
theorem Um:W.kitOne K (.type "list") (.type "str")=some false:=by rfl
theorem Ul:W.kitOne K (.type "list") (.type "int")=some false:=by rfl
theorem gl:W.kitOne K (.type "list") (.type "tuple")=some false:=by rfl
theorem Uq:W.kitOne K (.type "tuple") (.type "str")=some false:=by rfl
theorem Uo:W.kitOne K (.type "tuple") (.type "int")=some false:=by rfl
theorem gm:W.kitOne K (.type "tuple") (.type "list")=some false:=by rfl
def SmV(K:W.Frag)(H:Hp):Nat->V->V->Prop
 |0,_,_=>False
 |d+1,v,u=>(∃i,v = .int i/\u = .int i)\/(∃s,v = .str s/\u = .str s)\/∃(a b:Addr)(xs ys:List V),v = .ref a/\u = .ref b/\((SqL K H a xs/\SqL K H b ys)\/(SqT K H a xs/\SqT K H b ys))/\xs.length=ys.length/\∀(i:Nat)(x y:V),xs[i]?=some x->ys[i]?=some y->SmV K H d x y
theorem SmV.mono{H H':Hp}(s:Same H H'):∀{d:Nat}{v u:V},SmV K H d v u->SmV K H' d v u
 |0,_,_,h=>h.elim
 |d+1,v,u,h=>h.imp id λh=>h.imp id λ⟨a,b,xs,ys,e1,e2,hq,hl,hx⟩=>⟨a,b,xs,ys,e1,e2,hq.imp (λz=>⟨s.seq z.1,s.seq z.2⟩) (λz=>⟨(z7 s).sqT z.1,(z7 s).sqT z.2⟩),hl,λi x y h1 h2=>SmV.mono s (hx i x y h1 h2)⟩
def Zf(K:W.Frag)(d:Nat):Sp:=λvs H Q _=>∃v u:V,vs=[v,u]/\SmV K H d v u/\∀H',Same H H'->Q (.bl true) H'
theorem Wv(D:Def K mg "_law_same" (top 54) ["_law_found","_law_due"])(aB:mg "len"=none)(aC:mg "isinstance"=none)(aA:mg "tuple"=none)(aR:mg "list"=none)(bD:mg "bool"=none)(eS:mg "int"=none)(kC:mg "str"=none)(eQ:mg "zip"=none):∀d:Nat,zz P w K mg base d "_law_same" ["_law_found","_law_due"] (Zf K d)
 |0=>wx D λvs H Q E h=>by
  obtain⟨v,u,_,h,_⟩:=h;exact h.elim
 |d+1=>by
  have cP:=Wv D aB aC aA aR bD eS kC eQ d;refine D.callee (N:=["_law_found","_law_due","_law_one","_law_other"]) (by walk_at"sc") (by walk_at"ln") λf cdv A outer s H vs Q E hr nd h=>?_;obtain⟨v,u,rfl,h,q⟩:=h;refine⟨[some v,some u,none,none],_,rfl,(z5 (za (ye (zv v9 rfl aC zn (z9 (z8 1) (z9 (xt (v:=.ty "str") rfl kC Pu rfl) z6)))) (z4 (zw (gs (zv v9 rfl aC zn (z9 (z8 0) (z9 (xt (v:=.ty "str") rfl kC Pu rfl) z6))) (rf (wy (wn hr.units) (z8 0) (z8 1) (zm _)))))) zp)
  (z5 (za (ye (zv v9 rfl aC zn (z9 (z8 1) (z9 (xt (v:=.ty "int") rfl eS Xs rfl) z6)))) (z4 (zw (gs (zv v9 rfl aC zn (z9 (z8 0) (z9 (xt (v:=.ty "int") rfl eS Xs rfl) z6))) (gs (gu (zv v9 rfl aC zn (z9 (z8 0) (z9 (xt (v:=.ty "bool") rfl bD m5 rfl) z6)))) (rf (wy (wn hr.units) (z8 0) (z8 1) (zm _))))))) zp)
  (z5 (za (PW.pt (vf (zh (rc hr.units) (zv v9 rfl aC zn (z9 (z8 1) (z9 (xt (v:=.ty "list") rfl aR qb rfl) z6))) (zv v9 rfl aC zn (z9 (z8 0) (z9 (xt (v:=.ty "list") rfl aR qb rfl) z6))) (zm _)) (vv (zh (rc hr.units) (zv v9 rfl aC zn (z9 (z8 1) (z9 (xt (v:=.ty "tuple") rfl aA zc rfl) z6))) (zv v9 rfl aC zn (z9 (z8 0) (z9 (xt (v:=.ty "tuple") rfl aA zc rfl) z6))) (zm _))))) (z4 (zw yg)) zp)
  (z5 (za (zh (rc hr.units) (zv yp rfl aB ze (z9 (z8 0) z6)) (zv yp rfl aB ze (z9 (z8 1) z6)) (zm _)) (z4 (zw yg)) zp)
  (z5 (xo yM rfl (Hy (Mq rfl eQ (z9 (z8 0) (z9 (z8 1) z6))) (Ki rfl eQ (z9 (z8 0) (z9 (z8 1) z6)))) (Ws 2 3 rfl nd) (z4 (za (yd (ye (zy cP hr (by lia) (z9 (z8 2) (z9 (z8 3) z6))))) (z4 (zw yg)) zp)))
  (z4 (zw yg))))))),?_⟩
  rcases h with⟨i,rfl,rfl⟩|⟨z,rfl,rfl⟩|⟨a,b,xs,ys,rfl,rfl,hq,hl,hx⟩
  ·walk_at"rp";refine⟨_,false,.of (.int _),Uk,?_⟩;walk_at"rp";refine⟨_,true,.of (.int _),xx _,?_⟩;walk_at"rp";refine⟨_,true,.of (.int _),xx _,?_⟩;walk_at"rp";refine⟨_,false,.of (.int _),gk,?_⟩;walk_at"rp"
   try rw[zA rfl]
   exact q H (Same.refl _)
  ·walk_at"rp";refine⟨_,true,.of (.str _),xx _,?_⟩;walk_at"rp";refine⟨_,true,.of (.str _),xx _,?_⟩;walk_at"rp"
   try rw[zA rfl]
   exact q H (Same.refl _)
  ·rcases hq with hq|hq
   ·skip
    have bN:=hq.2;have Ay:=hq.1;walk_at"rp";refine⟨_,false,.lst bN,Um,?_⟩;walk_at"rp";refine⟨_,false,.lst bN,Ul,?_⟩;walk_at"rp";refine⟨_,_,.lst bN,(xx _),_,_,.lst Ay,(xx _),?_⟩
    try rw[zA rfl]
    walk_at"rp";refine⟨_,_,.lst bN,gl,_,_,.lst Ay,gl,?_⟩
    try rw[zA rfl]
    walk_at"rp";refine⟨_,.inl Ay,_,.inl bN,?_⟩;rw[hl]
    try rw[zA rfl]
    walk_at"rp";refine .inl ⟨⟨⟨_,Ay⟩,⟨_,bN⟩⟩,Uw (xs:=xs) (ys:=ys) (λi σ H2=>(∃x2 x3,σ=[some (.ref a),some (.ref b),x2,x3])/\Same H H2) hl ⟨⟨none,none,rfl⟩,Same.refl H⟩ ?_ ?_ ?_⟩
    ·rintro i σ H2 _ ⟨⟨x2,x3,rfl⟩,s2⟩;exact⟨s2.seq Ay,s2.seq bN⟩
    ·rintro i x y σ H2 H3 h1 h2 ⟨⟨x2,x3,rfl⟩,s2⟩ s3;walk_at"rp";refine⟨x,y,rfl,(hx i x y h1 h2).mono (s2.trans s3),λH4 s4=>?_⟩;walk_at"rp";exact⟨⟨_,_,rfl⟩,s2.trans (s3.trans s4)⟩
    ·rintro σ H2 ⟨⟨x2,x3,rfl⟩,s2⟩;walk_at"rp";exact q H2 s2
   ·skip
    have bN:=hq.2;have Ay:=hq.1;walk_at"rp";refine⟨_,false,.tup bN,Uq,?_⟩;walk_at"rp";refine⟨_,false,.tup bN,Uo,?_⟩;walk_at"rp";refine⟨_,_,.tup bN,gm,_,_,.tup Ay,gm,?_⟩
    try rw[zA rfl]
    walk_at"rp";refine⟨_,_,.tup bN,(xx _),_,_,.tup Ay,(xx _),?_⟩
    try rw[zA rfl]
    walk_at"rp";refine⟨_,.inr Ay,_,.inr bN,?_⟩;rw[hl]
    try rw[zA rfl]
    walk_at"rp";refine .inr ⟨⟨⟨_,Ay⟩,⟨_,bN⟩⟩,Ux (xs:=xs) (ys:=ys) (λi σ H2=>(∃x2 x3,σ=[some (.ref a),some (.ref b),x2,x3])/\Same H H2) hl ⟨⟨none,none,rfl⟩,Same.refl H⟩ ?_ ?_ ?_⟩
    ·rintro i σ H2 _ ⟨⟨x2,x3,rfl⟩,s2⟩;exact⟨(z7 s2).sqT Ay,(z7 s2).sqT bN⟩
    ·rintro i x y σ H2 H3 h1 h2 ⟨⟨x2,x3,rfl⟩,s2⟩ s3;walk_at"rp";refine⟨x,y,rfl,(hx i x y h1 h2).mono (s2.trans s3),λH4 s4=>?_⟩;walk_at"rp";exact⟨⟨_,_,rfl⟩,s2.trans (s3.trans s4)⟩
    ·rintro σ H2 ⟨⟨x2,x3,rfl⟩,s2⟩;walk_at"rp";exact q H2 s2
theorem L4{H:Hp}(i:Int)(d:Nat):SmV K H (d+1) (.int i) (.int i):=.inl ⟨i,rfl,rfl⟩
theorem Su{H:Hp}{v u:V}{wd:Str}{ns:List Nat}(hv:ReasonAt K H v wd (ns.map λn=>V.int ((n:Nat):Int)))(hu:ReasonAt K H u wd (ns.map λn=>V.int ((n:Nat):Int)))(d:Nat):SmV K H (d+3) v u:=by
 obtain⟨r,c,rfl,h1,h2⟩:=hv;obtain⟨r',c',rfl,pP,gR⟩:=hu;refine .inr (.inr ⟨_,_,_,_,rfl,rfl,.inr ⟨h1,pP⟩,rfl,λi x y hx hy=>?_⟩)
 match i,hx,hy with
 |0,hx,hy =>
  cases hx;cases hy;exact .inr (.inl ⟨_,rfl,rfl⟩)
 |1,hx,hy =>
  cases hx;cases hy;refine .inr (.inr ⟨_,_,_,_,rfl,rfl,.inr ⟨h2,gR⟩,rfl,λi x y hx hy=>?_⟩);rw[hx]at hy;cases hy;obtain⟨n,_,rfl⟩:=zD.mp (zK hx);exact L4 _ _
 |i+2,hx,hy=>simp at hx
theorem Pl(os:List Nat):(os.map λn=>V.int ((n:Nat):Int)).all v6=true:=yD.mpr λx hx=>by
 obtain⟨y,_,rfl⟩:=zD.mp hx
 rfl
theorem Ng{n:Nat}{os:List Nat}(h:n∈os):inV (.int ((n:Nat):Int)) (os.map λn=>V.int ((n:Nat):Int))=true:=by
 unfold inV;exact xU.mpr ⟨_,zD.mpr ⟨n,h,rfl⟩,by simp[eqV]⟩
def im(K:W.Frag):Sp:=λvs H Q _=>∃(a r o:Addr)(us:List V)(ps:List (Nat×Bool))(row:List Bool)(os:List Nat),vs=[.ref a,.ref r,.ref o]/\SqT K H a us/\PairsAt K H us ps/\SqT K H r (row.map V.bl)/\SqT K H o (os.map λn=>V.int ((n:Nat):Int))/\(ps.Pairwise λp q=>p.1<q.1)/\ps.length<=10/\(∀p∈ps,p.1∈os/\row[p.1]?=some p.2)/\∀H',Same H H'->Q (.bl true) H'
theorem bh:∀{l m:List Int},l.Pairwise (·<·)->m.Pairwise (·<=·)->m.Nodup->(∀x,x∈m↔x∈l)->m=l
 |[],m,_,_,_,h=>List.eq_nil_iff_forall_not_mem.mpr λx hx=>by have:=(h x).mp hx;cases this
 |a::l,[],_,_,_,h=>by have:=(h a).mpr zH;cases this
 |a::l,b::m,h1,h2,h3,h=>by
  obtain⟨h4,h5⟩:=xW.mp h1;obtain⟨h6,h7⟩:=xW.mp h2;obtain⟨h8,h9⟩:=wO.mp h3;have e:b=a:=by
   rcases zL.mp ((h b).mp zH)with e|hb
   ·exact e
   ·rcases zL.mp ((h a).mpr zH)with e|ha
    ·exact e.symm
    ·have:=h4 b hb;have:=h6 a ha;lia
  subst e;rw[bh h5 h7 h9 λx=>?_];constructor
  ·intro hx;rcases zL.mp ((h x).mp (zI _ hx))with e|hx2
   ·rw[e]at hx;exact(h8 hx).elim
   ·exact hx2
  ·intro hx;rcases zL.mp ((h x).mpr (zI _ hx))with e|hx2
   ·rw[e]at hx;exact(Int.lt_irrefl _ (h4 _ hx)).elim
   ·exact hx2
def aa(ns:List Int):PyData:=.list (ns.map PyData.int)
theorem ga{H:Hp}:∀ns:List Int,HasL K H (ns.map V.int) (ns.map PyData.int)
 |[]=>by simp[HasL]
 |n::ns=>by
  rw[List.map_cons,List.map_cons];unfold HasL;exact⟨_,_,rfl,by unfold Has;rfl,ga ns⟩
theorem kf{H:Hp}{a:Addr}{ns:List Int}(h:SqL K H a (ns.map V.int)):Has K H (.ref a) (aa ns):=by
 unfold aa Has;exact⟨a,_,rfl,h,ga ns⟩
theorem Ql(ms:List Int):PyData.canLayAll0 (ms.map PyData.int)=true/\PyData.depthAll (ms.map PyData.int)<=1:=by
 induction ms with
 |nil=>simp[PyData.canLayAll0,PyData.depthAll]
 |cons m ms ih =>
  rw[List.map_cons,PyData.canLayAll0,PyData.depthAll,ih.1];have:PyData.depth (.int m)<=1:=by simp[PyData.depth]
  exact⟨by simp[PyData.canLay0],by lia⟩
theorem ud(ns:List Int):SeqAt.shaped (aa ns)=true:=by
 unfold SeqAt.shaped aa;have:=Ql ns;simp only[PyData.canLay0,PyData.depth,this.1];simp;lia
theorem U7(D:Def K mg "_law_is_part" (top 62) ["_law_part","_law_row_here","_law_ahead"])(aC:mg "isinstance"=none)(aA:mg "tuple"=none)(aB:mg "len"=none)(bD:mg "bool"=none)(aH:mg "sorted"=none)(aQ:mg "set"=none):zz P w K mg base 1 "_law_is_part" ["_law_part","_law_row_here","_law_ahead"] (im K):=by
 refine D.callee (N:=["_law_part","_law_row_here","_law_ahead","_law_pair","_law_numbers"]) (by walk_at"sc") (by walk_at"ln") λf cdv A outer s H vs Q E hr nd h=>?_;obtain⟨a,r,o,us,ps,row,os,rfl,ha,hP,nV,ho,nU,DY,oR,q⟩:=h;have hul:=hP.len;refine⟨[some (.ref a),some (.ref r),some (.ref o),none,none],_,rfl,(z5 (za (yd (ye (zv v9 rfl aC zn (z9 (z8 0) (z9 (xt (v:=.ty "tuple") rfl aA zc rfl) z6))))) (z4 (zw yg)) zp)
  (z5 (xo yM rfl (y6 (z8 0)) (wg 3 nd) (z5 (za (PW.pt (vf (yd (ye (zv v9 rfl aC zn (z9 (z8 3) (z9 (xt (v:=.ty "tuple") rfl aA zc rfl) z6))))) (vf (zh (rc hr.units) (zv yp rfl aB ze (z9 (z8 3) z6)) z0 (zm _)) (vf (zh Nu (zb (z8 3) z0 (λ_ _=>rfl)) (z8 2) (by with_unfolding_all rfl)) (vv (ye (zv v9 rfl aC zn (z9 (zb (z8 3) z0 (λ_ _=>rfl)) (z9 (xt (v:=.ty "bool") rfl bD m5 rfl) z6))))))))) (z4 (zw yg)) zp)
  (z4 (za (PW.pt (vf (yd (ye (zv v9 rfl aC zn (z9 (zb (z8 3) z0 (λ_ _=>rfl)) (z9 (xt (v:=.ty "bool") rfl bD m5 rfl) z6))))) (vv (zh (rc hr.units) (zb (z8 3) z0 (λ_ _=>rfl)) (zb (z8 1) (zb (z8 3) z0 (λ_ _=>rfl)) (λ_ _=>rfl)) (zm _))))) (z4 (zw yg)) zp))))
  (z5 (xr 4 nd (ixs:=[]) (zq (own:=["_law_pair"]) (N:=[]) rfl rfl rfl rfl rfl rfl rfl (by decide +kernel) rfl rfl rfl) rfl (y6 (z8 0)) (λ_ _ _ _=>yz) (λ_ _ _ _=>(zb (z8 0) z0 (λ_ _=>rfl))) rfl)
  (z4 (zw (wy (wn hr.units) (z8 4) (dn rfl rfl aH rfl aQ (z8 4)) (zm _))))))),?_⟩
 walk_at"rp";refine⟨_,true,.tup ha,xx _,?_⟩;walk_at"rp";refine .inr ⟨⟨_,ha⟩,xn (xs:=us) (λi σ H2=>∃x1,σ=[some (.ref a),some (.ref r),some (.ref o),x1,none]/\Same H H2) ⟨none,rfl,Same.refl _⟩ ?_ ?_ ?_⟩
 ·rintro i σ H2 _ ⟨x1,rfl,s2⟩;exact(z7 s2).sqT ha
 ·rintro i v σ H2 hv ⟨x1,rfl,s2⟩;obtain⟨b,p,hp,rfl,hb⟩:=hP.at i v hv;obtain⟨hpo,DQ⟩:=oR p (zK hp);have kN:=(z7 s2).sqT hb;walk_at"rp";refine⟨_,true,.tup kN,xx _,?_⟩;walk_at"rp";refine⟨_,.inr kN,?_⟩;rw[show((([V.int (p.1:Int),V.bl p.2]:List V).length:Nat):Int)=2 from rfl];walk_at"rp";refine⟨_,_,.inr kN,rfl,?_⟩;walk_at"rp";refine⟨_,.inr ((z7 s2).sqT ho),rfl,Pl os,?_⟩;rw[Ng hpo];walk_at"rp";refine⟨_,_,.inr kN,rfl,?_⟩;walk_at"rp";refine⟨_,false,.of (.int _),gk,?_⟩;walk_at"rp";refine⟨_,_,.inr kN,rfl,?_⟩;walk_at"rp";refine⟨_,true,.of (.bl _),xx _,?_⟩;walk_at"rp";refine⟨_,_,.inr kN,rfl,?_⟩;walk_at"rp";refine⟨_,_,.inr kN,rfl,?_⟩;walk_at"rp";refine⟨_,_,.inr ((z7 s2).sqT nV),yk (by rw[zQ,DQ];rfl),?_⟩;walk_at"rp"
  try rw[zA rfl]
  walk_at"rp";exact⟨_,rfl,s2⟩
 ·rintro σ H2 ⟨x1,rfl,s2⟩;walk_at"rp";refine .inr ⟨⟨_,(z7 s2).sqT ha⟩,λC s₀ H₀ ex=>?_⟩;refine vp (xs:=us) (λD j ys H3=>ys=((ps.take j).map λp=>V.int ((p.1:Nat):Int))/\j<=ps.length/\H3 D=some (.lst ys)/\Same H2 H3/\H2 D=none) (by rw[zP];lia) ?_ ?_ ?_ ?_
  ·intro D H3 n3 s3 e3;exact⟨rfl,yQ _,e3,s3,n3⟩
  ·rintro D j ys H3 ⟨rfl,De,e3,s3,_⟩;refine⟨(z7 (s2.trans s3)).sqT ha,e3,?_⟩;rw[zY,yU];lia
  ·rintro D j v ys H3 hv ⟨rfl,_,e3,s3,n3⟩;obtain⟨b,p,hp,rfl,hb⟩:=hP.at j v hv;have hj:j<us.length:=(zV.mp hv).1;walk_at"rp";refine⟨_,_,.inr ((z7 (s2.trans s3)).sqT hb),rfl,e3,CN.mk hj ⟨?_,by lia,zx,zu s3 n3 _,n3⟩⟩;rw[yV,hp,zJ]
   rfl
  ·rintro D ys H3 ⟨rfl,_,e3,s3,n3⟩;rw[hul,yX]at e3;have GZ:H3 D=some (.lst ((ps.map λp=>((p.1:Nat):Int)).map V.int)):=by rw[yI];exact e3
   have CK:(ps.map λp=>((p.1:Nat):Int)).Pairwise (·<·):=wY.mpr (nU.imp λh=>Int.ofNat_lt.mpr h);walk_at"rp";refine⟨ps.map λp=>((p.1:Nat):Int),.inl (SqL.of GZ),by rw[zY];lia,λoX h1 h2 h3 so H4 n4 s4 e4=>?_⟩;have eN:=bh CK h3 h1 h2;rw[eN]at e4;walk_at"rp";refine⟨_,_,kf (SqL.of (s4 _ _ GZ)),kf (SqL.of e4),ud _,ud _,?_⟩;rw[qd (ud _)];exact q H4 (s2.trans (s3.trans s4))
theorem lr{H:Hp}:∀(n:Nat){us:List V}{ps:List (Nat×Bool)},PairsAt K H us ps->PairsAt K H (us.take n) (ps.take n)
 |0,_,_,_=>trivial
 |n+1,[],[],_=>trivial
 |n+1,v::us,p::ps,h=>⟨h.1,lr n h.2⟩
 |n+1,[],_::_,h=>h.elim
 |n+1,_::_,[],h=>h.elim
theorem lq{H:Hp}:∀(n:Nat){us:List V}{ps:List (Nat×Bool)},PairsAt K H us ps->PairsAt K H (us.drop n) (ps.drop n)
 |0,_,_,h=>h
 |n+1,[],[],_=>trivial
 |n+1,v::us,p::ps,h=>lq n h.2
 |n+1,[],_::_,h=>h.elim
 |n+1,_::_,[],h=>h.elim
def Xa(K:W.Frag):Sp:=λvs H Q _=>∃(v:V)(d r o:Addr)(us:List V)(ps:List (Nat×Bool))(R:List (Addr×List Bool))(row:List Bool)(os:List Nat)(m n:Nat)(t:Bool),vs=[v,.ref d,.ref r,.int (n:Int),.ref o]/\ReasonAt K H v "follows" us/\PairsAt K H us ps/\H d=some (.lst (R.map λr=>V.ref r.1))/\(∀r∈R,SqT K H r.1 (r.2.map V.bl))/\(∀r∈R,r.2.length=m)/\R.length<=32/\SqT K H r (row.map V.bl)/\SqT K H o (os.map λn=>V.int ((n:Nat):Int))/\n<m/\row[n]?=some t /\
 (ps.Pairwise λp q=>p.1<q.1)/\ps.length<=10/\(∀p∈ps,p.1∈os/\row[p.1]?=some p.2)/\(∀p∈ps,p.1<m)/\Xx (R.map (·.2)) ps n t=true/\(∀k,k<ps.length->Xx (R.map (·.2)) (ps.take k++ps.drop (k+1)) n t=false)/\∀H',Same H H'->Q (.bl true) H'
theorem Rf(D:Def K mg "_law_follows_so" (top 63) ["_law_reason","_law_fit","_law_row_here","_law_number","_law_ahead"])(mI:zz P w K mg base 1 "_law_is_part" ["_law_part","_law_row_here","_law_ahead"] (im K))(lU:zz P w K mg base 1 "_law_goes" ["_law_fit","_law_part","_law_number","_law_truth"] (Sw K))(aC:mg "isinstance"=none)(aA:mg "tuple"=none)(aB:mg "len"=none)(aD:mg "range"=none):zz P w K mg base 2 "_law_follows_so" ["_law_reason","_law_fit","_law_row_here","_law_number","_law_ahead"] (Xa K):=by
 refine D.callee (N:=["_law_reason","_law_fit","_law_row_here","_law_number","_law_ahead","_law_part","_law_k"]) (by walk_at"sc") (by walk_at"ln") λf cdv A outer s H vs Q E hr nd h=>?_;obtain⟨v,d,r,o,us,ps,R,row,os,m,n,t,rfl,⟨rr,c,rfl,hrr,hc⟩,hP,hd,hR,fP,A2,nV,ho,hn,hnt,nU,DY,oR,aO,CC,kK,q⟩:=h;have hul:=hP.len;refine⟨[some (.ref rr),some (.ref d),some (.ref r),some (.int (n:Int)),some (.ref o),none,none],_,rfl,(z5 (za (PW.pt (vf (yd (ye (zv v9 rfl aC zn (z9 (z8 0) (z9 (xt (v:=.ty "tuple") rfl aA zc rfl) z6))))) (vf (zh (rc hr.units) (zv yp rfl aB ze (z9 (z8 0) z6)) z0 (zm _)) (vv (zh (rc hr.units) (zb (z8 0) z0 (λ_ _=>rfl)) yn (zm _)))))) (z4 (zw yg)) zp)
  (z5 (zo 5 nd (zb (z8 0) z0 (λ_ _=>rfl)))
  (z5 (za (PW.pt (vf (yd (ye (zy mI hr (by lia) (z9 (z8 5) (z9 (z8 2) (z9 (z8 4) z6)))))) (vv (yd (ye (zy lU hr (by lia) (z9 (z8 1) (z9 (z8 5) (z9 (z8 3) (z9 (zb (z8 2) (z8 3) (λ_ _=>rfl)) z6)))))))))) (z4 (zw yg)) zp)
  (z5 (xo yM rfl (yq rfl aD (z9 (zv yp rfl aB ze (z9 (z8 5) z6)) z6)) (wg 6 nd) (z4 (za (ye (zy lU hr (by lia) (z9 (z8 1) (z9 (zt zg (x9 (z8 5) ya (xg (z8 6))) (x9 (z8 5) (xg (zt zg (z8 6) z0)) ya)) (z9 (z8 3) (z9 (zb (z8 2) (z8 3) (λ_ _=>rfl)) z6)))))) (z4 (zw yg)) zp)))
  (z4 (zw yg)))))),?_⟩
 walk_at"rp";refine⟨_,true,.tup hrr,xx _,?_⟩;walk_at"rp";refine⟨_,.inr hrr,?_⟩;rw[show((([V.str (Str.ofString "follows"),V.ref c]:List V).length:Nat):Int)=2 from rfl];walk_at"rp";refine⟨_,_,.inr hrr,rfl,?_⟩;walk_at"rp"
 try rw[zA rfl]
 walk_at"rp";refine⟨_,_,.inr hrr,rfl,?_⟩;walk_at"rp";refine⟨c,r,o,us,ps,row,os,rfl,hc,hP,nV,ho,nU,DY,oR,λH1 s1=>?_⟩;walk_at"rp";refine⟨_,_,.inr ((z7 s1).sqT nV),yk (by rw[zQ,hnt];rfl),?_⟩;walk_at"rp";refine⟨d,c,R,us,ps,m,n,t,rfl,s1 _ _ hd,λx hx=>(z7 s1).sqT (hR x hx),fP,A2,(z7 s1).sqT hc,hP.mono (z7 s1),aO,DY,hn,λH2 s2=>?_⟩;have BQ:=s1.trans s2;rw[CC];walk_at"rp";refine⟨_,.inr ((z7 BQ).sqT hc),?_⟩;refine⟨⟨by lia,by lia⟩,?_⟩;rw[yZ];refine w6 (λi σ H3=>(∃x6,σ=[some (.ref rr),some (.ref d),some (.ref r),some (.int (n:Int)),some (.ref o),some (.ref c),x6])/\Same H H3) ⟨⟨none,rfl⟩,BQ⟩ ?_ ?_
 ·rintro i σ H3 hi ⟨⟨x6,rfl⟩,s3⟩;have cV:i<ps.length:=by lia
  walk_at"rp";rw[wN];refine .inr ⟨_,(z7 s3).sqT hc,λp1 H4 s4 h4=>?_⟩;rw[vq _ (by lia),yZ]at h4;walk_at"rp";refine .inr ⟨_,(z7 (s3.trans s4)).sqT hc,λp2 H5 s5 h5=>?_⟩;rw[qc _ (by lia),show((i:Int)+1).toNat=i+1 by lia]at h5;walk_at"rp";refine .inr ⟨_,_,(z7 s5).sqT h4,h5,by rw[yU,xR,zP];lia,λp3 H6 s6 h6=>?_⟩;have jZ:=s3.trans (s4.trans (s5.trans s6));walk_at"rp";refine⟨_,_,.inr ((z7 jZ).sqT nV),yk (by rw[zQ,hnt];rfl),?_⟩;walk_at"rp";have hP6:=hP.mono (z7 jZ);refine⟨d,p3,R,_,ps.take i++ps.drop (i+1),m,n,t,rfl,jZ _ _ hd,λx hx=>(z7 jZ).sqT (hR x hx),fP,A2,h6,(lr i hP6).app (lq (i+1) hP6),λp hp=>?_,by rw[zS,yU,xR];lia,hn,λH7 s7=>?_⟩
  ·rcases zE.mp hp with z|z
   ·exact aO p (xN z)
   ·exact aO p (wD z)
  rw[kK i cV];walk_at"rp";exact⟨⟨_,rfl⟩,jZ.trans s7⟩
 ·rintro σ H3 ⟨⟨x6,rfl⟩,s3⟩;walk_at"rp";exact q H3 s3
theorem Vz{k:List Bool}{ps qs:List (Nat×Bool)}:agr k (ps++qs)=(agr k ps&&agr k qs):=by
 unfold agr;rw[List.all_append]
theorem V0{k:List Bool}{ps qs:List (Nat×Bool)}(h:∀q∈qs,q∈ps)(ha:agr k ps=true):agr k qs=true:=by
 unfold agr at ha ⊢;rw[yD]at ha ⊢;exact λq hq=>ha q (h q hq)
theorem uc(R:List (List Bool))(os:List (Nat×Bool)):∀(l nd:List (Nat×Bool)),∀p∈yf R os l nd,p∈nd
 |[],nd,p,hp=>hp
 |x::l,nd,p,hp=>by
  unfold yf at hp;rw[vJ]at hp;have:=uc R os l _ p hp;split at this
  ·exact this
  ·exact(xC.mp this).1
theorem Wt{R:List (List Bool)}{os:List (Nat×Bool)}:∀(l nd:List (Nat×Bool)),(R.any λk=>agr k (nd++os))=false->(R.any λk=>agr k (yf R os l nd++os))=false
 |[],nd,h=>h
 |x::l,nd,h=>by
  unfold yf;rw[vJ];refine Wt l _ ?_;split
  ·exact h
  ·rename_i h1;cases h2:(R.any λk=>agr k (wq x nd++os))with
   |false=>rfl
   |true=>exact(h1 h2).elim
theorem gy{R:List (List Bool)}{os:List (Nat×Bool)}:∀(l nd:List (Nat×Bool)),∀p∈yf R os l nd,p∈l->(R.any λk=>agr k (wq p (yf R os l nd)++os))=true
 |[],_,_,_,hl=>by cases hl
 |x::l,nd,p,hp,hl=>by
  have e:yf R os (x::l) nd=yf R os l (if(R.any λk=>agr k (wq x nd++os))=true then nd else wq x nd):=by
   unfold yf;rw[vJ]
  rw[e]at hp ⊢
  by_cases cZ:p∈l
  ·exact gy l _ p hp cZ
  ·have epx:p=x:=by
    rcases zL.mp hl with e|e
    ·exact e
    ·exact(cZ e).elim
   subst epx;have oR:=uc R os l _ p hp
   by_cases h1:(R.any λk=>agr k (wq p nd++os))=true
   ·rw[yT h1]at hp oR ⊢;obtain⟨k,hk,ha⟩:=xU.mp h1;refine xU.mpr ⟨k,hk,V0 (λq hq=>?_) ha⟩;rcases zE.mp hq with hq|hq
    ·obtain⟨h2,h3⟩:=xC.mp hq;exact xP _ (xC.mpr ⟨uc R os l nd q h2,h3⟩)
    ·exact yP _ hq
   ·rw[zC h1]at oR;have:=(xC.mp oR).2;simp at this
theorem ph{R:List (List Bool)}{os:List (Nat×Bool)}:∀(l nd:List (Nat×Bool)),(nd.Pairwise λp q=>p.1<q.1)->(yf R os l nd).Pairwise λp q=>p.1<q.1
 |[],nd,h=>h
 |x::l,nd,h=>by
  unfold yf;rw[vJ];refine ph l _ ?_;split
  ·exact h
  ·exact h.sublist List.filter_sublist
theorem ao(R:List (List Bool))(os:List (Nat×Bool)):∀(l nd:List (Nat×Bool)),(yf R os l nd).length<=nd.length
 |[],nd=>zU _
 |x::l,nd=>by
  unfold yf;rw[vJ];refine yS (ao R os l _) ?_;split
  ·exact zU _
  ·exact gp _ _
theorem Wn:∀{N:List (Nat×Bool)}{k:Nat}{p:Nat×Bool},(N.Pairwise λp q=>p.1<q.1)->N[k]?=some p->wq p N=N.take k++N.drop (k+1)
 |[],_,_,_,h=>by simp at h
 |x::N,0,p,hu,h=>by
  cases h;have h1:=(xW.mp hu).1;show(x::N).filter (λq=>decide (q≠x))=N;rw[wC,zC (by simp)];exact List.filter_eq_self.mpr λq hq=>zA (show q≠x from λz=>by have:=h1 q hq;rw[z]at this;lia)
 |x::N,k+1,p,hu,h=>by
  have h1:=(xW.mp hu).1;have hk:N[k]?=some p:=by simpa using h
  have ih:=Wn (xW.mp hu).2 hk;unfold wq at ih ⊢;rw[wC,yT (zA (show x≠p from λz=>by have:=h1 p (zK hk);rw[z]at this;lia)),ih]
  rfl
theorem U1{R:List (List Bool)}{said:Nat->Bool}{tk ps:List (Nat×Bool)}{n:Nat}(hp:ps.Perm tk)(hu:ps.Pairwise λp q=>p.1<q.1)(ht:xu R said tk n=!said n):Xx R (yf R [(n,said n)] ps ps) n (!said n)=true/\∀k,k<(yf R [(n,said n)] ps ps).length->Xx R ((yf R [(n,said n)] ps ps).take k++(yf R [(n,said n)] ps ps).drop (k+1)) n (!said n)=false:=by
 have hno0:(R.any λk=>agr k (ps++[(n,said n)]))=false:=by
  unfold xu at ht;cases hb:(R.any λk=>agr k (ps++[(n,said n)]))with
  |false=>rfl
  |true =>
   obtain⟨k,hk,ha⟩:=xU.mp hb;have h1:(R.any λk=>agr k (tk++[(n,said n)]))=true:=xU.mpr ⟨k,hk,V0 (λq hq=>by
    rcases zE.mp hq with hq|hq
    ·exact xP _ (hp.mem_iff.mpr hq)
    ·exact yP _ hq) ha⟩
   rw[yT h1]at ht;cases hs:said n<;>rw[hs]at ht<;>cases ht
 have kK:=Wt ps ps hno0;have Cb:=λp rM=>gy (R:=R) (os:=[(n,said n)]) ps ps p rM (uc _ _ ps ps p rM);have BX:=ph (R:=R) (os:=[(n,said n)]) ps ps hu;generalize yf R [(n,said n)] ps ps=N at kK Cb BX ⊢;have one:∀k:List Bool,agr k [(n,said n)]=(k.getD n false==said n):=λk=>by simp[agr]
 refine⟨yD.mpr λk hk=>?_,λi hi=>?_⟩
 ·have:agr k (N++[(n,said n)])=false:=by
   cases h2:agr k (N++[(n,said n)])with
   |false=>rfl
   |true=>rw[xU.mpr ⟨k,hk,h2⟩]at kK;cases kK
  rw[Vz,one]at this;cases h1:agr k N<;>cases h3:k.getD n false<;>cases h4:said n<;>rw[h1,h3,h4]at this<;>first|rfl|cases this
 ·have hc:N[i]?=some N[i]:=zM hi;rw[<-Wn BX hc];obtain⟨k1,nY,ha1⟩:=xU.mp (Cb N[i] (vS hi));rw[Vz,yJ,one]at ha1;refine sP.mpr λz=>?_;have h2:=yD.mp z k1 nY;rw[ha1.1,eq_of_beq ha1.2]at h2;cases h4:said n<;>rw[h4]at h2<;>cases h2
theorem rn{R:List (List Bool)}{said:Nat->Bool}{ord:List Nat}{i:Nat}:∀j,i<=j->j<=ord.length->∀p∈zf R said (ord.take i),p∈zf R said (ord.take j)
 |0,h,_,p,hp=>by
  have:i=0:=by lia
  rw[<-this];exact hp
 |j+1,h,hj,p,hp=>by
  by_cases e:i=j+1
  ·rw[<-e];exact hp
  ·have hc:ord[j]?=some ord[j]:=zM hj;rw[vh hc];exact xP _ (rn j (by lia) (by lia) p hp)
theorem Zj{R:List (List Bool)}{said:Nat->Bool}{ord:List Nat}{i n:Nat}(h:ord[i]?=some n):(n,xu R said (zf R said (ord.take i)) n)∈zf R said ord:=by
 have hi:i<ord.length:=(zV.mp h).1;have h1:(n,xu R said (zf R said (ord.take i)) n)∈zf R said (ord.take (i+1)):=by rw[vh h];exact yP _ (zN.mpr rfl)
 have:=rn ord.length (by lia) (zU _) _ h1
 rwa [yX]at this
theorem km{tk:List (Nat×Bool)}(hn:(tk.map (·.1)).Nodup){n:Nat}{b c:Bool}(h1:(n,b)∈tk)(h2:(n,c)∈tk):b=c:=by
 have a1:=my hn h1;rw[my hn h2]at a1;exact(V.bl.inj (yY a1)).symm
def mj(K:W.Frag):Sp:=λvs H Q _=>∃(l d j r o:Addr)(rs:List V)(R J:List (Addr×List Bool))(row:List Bool)(ord:List Nat)(m:Nat),vs=[.ref l,.ref d,.ref j,.ref r,.ref o]/\H l=some (.lst rs)/\rs.length=m/\H d=some (.lst (R.map λr=>V.ref r.1))/\(∀r∈R,SqT K H r.1 (r.2.map V.bl))/\(∀r∈R,r.2.length=m)/\R.length<=32/\JudgesAt K H j J m/\SqT K H r (row.map V.bl)/\row.length=m/\m<=10/\SqT K H o (ord.map λn=>V.int ((n:Nat):Int))/\ord.Nodup/\(∀n,n∈ord↔n<m)/\RI0 ord m (R.map (·.2)) (J.map (·.2)) row/\Mb K H (J.map (·.2)) (R.map (·.2)) ord rs/\∀H',Same H H'->Q (.bl true) H'
theorem ba(D:Def K mg "_law_reasons_right" (top 65) ["_law_found","_law_fit","_law_judges","_law_row_here","_law_order_here"])(aW:zz P w K mg base 1 "_law_most_of" ["_law_judges","_law_number"] (qt K))(cP:zz P w K mg base 3 "_law_same" ["_law_found","_law_due"] (Zf K 3))(dM:zz P w K mg base 1 "_law_sayers" ["_law_judges","_law_number","_law_truth"] (pq K))(iI:zz P w K mg base 2 "_law_follows_so" ["_law_reason","_law_fit","_law_row_here","_law_number","_law_ahead"] (Xa K))(aC:mg "isinstance"=none)(aR:mg "list"=none)(aB:mg "len"=none)(aD:mg "range"=none):zz P w K mg base 4 "_law_reasons_right" ["_law_found","_law_fit","_law_judges","_law_row_here","_law_order_here"] (mj K):=by
 refine D.callee (N:=["_law_found","_law_fit","_law_judges","_law_row_here","_law_order_here","_law_at","_law_number"]) (by walk_at"sc") (by walk_at"ln") λf cdv A outer s H vs Q E hr nd h=>?_;obtain⟨l,d,j,r,o,rs,R,J,row,ord,m,rfl,hl,gN,hd,hR,fP,A2,hJ,nV,nW,hm,ho,eY,lX,nM,nF,q⟩:=h;have pK:ord.length=m:=by
  have h1:ord.Perm (List.range m):=(uD eY uP).mpr λn=>by rw[lX,yF]
  rw[h1.length_eq,xS]
 refine⟨[some (.ref l),some (.ref d),some (.ref j),some (.ref r),some (.ref o),none,none],_,rfl,(z5 (za (PW.pt (vf (yd (ye (zv v9 rfl aC zn (z9 (z8 0) (z9 (xt (v:=.ty "list") rfl aR qb rfl) z6))))) (vv (zh (rc hr.units) (zv yp rfl aB ze (z9 (z8 0) z6)) (zv yp rfl aB ze (z9 (z8 3) z6)) (zm _))))) (z4 (zw yg)) zp)
  (z5 (xo yM rfl (yq rfl aD (z9 (zv yp rfl aB ze (z9 (z8 4) z6)) z6)) (wg 5 nd) (z5 (zo 6 nd (zb (z8 4) (z8 5) (λ_ _=>rfl)))
  (z4 (za (zh (wn hr.units) (zb (z8 3) (z8 6) (λ_ _=>rfl)) (zy aW hr (by lia) (z9 (z8 2) (z9 (z8 6) z6))) (zm _)) (z4 (za (yd (ye (zy cP hr (by lia) (z9 (zb (z8 0) (z8 6) (λ_ _=>rfl)) (z9 (zy dM hr (by lia) (z9 (z8 2) (z9 (z8 6) (z9 (zb (z8 3) (z8 6) (λ_ _=>rfl)) z6)))) z6))))) (z4 (zw yg)) zp)) (z4 (za (yd (ye (zy iI hr (by lia) (z9 (zb (z8 0) (z8 6) (λ_ _=>rfl)) (z9 (z8 1) (z9 (z8 3) (z9 (z8 6) (z9 (x9 (z8 4) ya (xg (z8 5))) z6)))))))) (z4 (zw yg)) zp))))))
  (z4 (zw yg)))),?_⟩
 walk_at"rp";refine⟨_,true,.lst (SqL.of hl),xx _,?_⟩;walk_at"rp";refine⟨_,.inl (SqL.of hl),_,.inr nV,?_⟩;rw[zY,gN,nW]
 try rw[zA rfl]
 walk_at"rp";refine⟨_,.inr ho,?_⟩;rw[zY];refine⟨⟨by lia,by lia⟩,?_⟩;rw[yZ];refine w6 (λi σ H3=>(∃x5 x6,σ=[some (.ref l),some (.ref d),some (.ref j),some (.ref r),some (.ref o),x5,x6])/\Same H H3) ⟨⟨none,none,rfl⟩,Same.refl _⟩ ?_ ?_
 ·rintro i σ H3 hi ⟨⟨x5,x6,rfl⟩,s3⟩;have hc:ord[i]?=some ord[i]:=zM hi;generalize ord[i]=n at hc;have qI:n<m:=(lX n).mp (zK hc);have hbn:row.getD n false=xu (R.map (·.2)) (yj (J.map (·.2))) (zf (R.map (·.2)) (yj (J.map (·.2))) (ord.take i)) n:=by
   refine km (by rw[xm];exact eY) (nM n _ ?_) (Zj hc);rw[zM (by lia:n<row.length)];simp[show n<row.length by lia]
  have hrn:row[n]?=some (row.getD n false):=by rw[zB,zM (by lia:n<row.length)];rfl
  have hvn:rs[n]?=some rs[n]:=zM (by lia);obtain⟨k,hk,hrk⟩:=nF n _ hvn;generalize rs[n]=v at hvn hrk;have eik:k=i:=Q7 eY hk hc;subst eik;walk_at"rp";rw[wN];refine⟨_,_,.inr ((z7 s3).sqT ho),yk (by rw[zQ,hc];rfl),?_⟩;walk_at"rp";refine⟨_,_,.inr ((z7 s3).sqT nV),v7 (by lia),?_⟩;walk_at"rp";refine⟨j,J,m,n,rfl,hJ.mono (z7 s3),qI,λH4 s4=>?_⟩;have kA:=s3.trans s4;walk_at"rp";rcases hrk with⟨htk,hrea⟩|⟨htk,ps,us,hpp,Bi,hrea,hpn⟩
  ·rw[zA (hbn.trans htk)];walk_at"rp";refine⟨_,_,.inl (SqL.of (kA _ _ hl)),yk hvn,?_⟩;walk_at"rp";refine⟨_,_,.inr ((z7 kA).sqT nV),v7 (by lia),?_⟩;walk_at"rp";refine⟨j,J,m,n,_,rfl,hJ.mono (z7 kA),qI,λv' H5 s5 mM=>?_⟩;walk_at"rp";rw[hbn.trans htk]at mM;rw[zY]at hrea;refine⟨v,v',rfl,Su (hrea.mono (z7 (kA.trans s5))) mM 0,λH6 s6=>?_⟩;walk_at"rp";exact⟨⟨_,_,rfl⟩,kA.trans (s5.trans s6)⟩
  ·have bZ:¬row.getD n false=yj (J.map (·.2)) n:=λz=>by
    rw[hbn,htk]at z;cases hs:yj (J.map (·.2)) n<;>rw[hs]at z<;>cases z
   rw[yL bZ];walk_at"rp";refine⟨_,_,.inl (SqL.of (kA _ _ hl)),yk hvn,?_⟩;walk_at"rp";refine .inr ⟨_,(z7 kA).sqT ho,λp1 H5 s5 h5=>?_⟩;rw[vq _ (by lia),yZ,<-sF]at h5;have jC:=kA.trans s5;obtain⟨hy,kK⟩:=U1 hpp Bi htk;have hnl:=ao (R.map (·.2)) [(n,yj (J.map (·.2)) n)] ps ps;have cZ:ps.length<=10:=by
    rw[hpp.length_eq,Zi,yU];lia
   have hnb:=uc (R.map (·.2)) [(n,yj (J.map (·.2)) n)] ps ps;have oR:∀p∈yf (R.map (·.2)) [(n,yj (J.map (·.2)) n)] ps ps,p.1∈ord.take k/\row[p.1]?=some p.2:=λp hp=>by
    have h1:=hpp.mem_iff.mp (hnb p hp);have h2:p.1∈(zf (R.map (·.2)) (yj (J.map (·.2))) (ord.take k)).map (·.1):=zD.mpr ⟨p,h1,rfl⟩;rw[xm]at h2;have h3:=(lX p.1).mp (xN h2);have h4:row[p.1]?=some row[p.1]:=zM (by lia);have h5:=rn ord.length (by lia) (zU _) _ h1;rw[yX]at h5;refine⟨h2,h4.trans (wZ some (km (by rw[xm];exact eY) (nM p.1 _ h4) h5))⟩
   walk_at"rp";refine⟨v,d,r,p1,us,_,R,row,ord.take k,m,n,!yj (J.map (·.2)) n,rfl,hrea.mono (z7 jC),hpn.mono (z7 jC),jC _ _ hd,λx hx=>(z7 jC).sqT (hR x hx),fP,A2,(z7 jC).sqT nV,h5,qI,by rw[hrn,hbn,htk],ph ps ps Bi,by lia,oR,λp hp=>(lX p.1).mp (xN (oR p hp).1),hy,kK,λH6 s6=>?_⟩;walk_at"rp";exact⟨⟨_,_,rfl⟩,jC.trans s6⟩
 ·rintro σ H3 ⟨⟨x5,x6,rfl⟩,s3⟩;walk_at"rp";exact q H3 s3
def Ms(K:W.Frag):Sp:=λvs H Q _=>∃(l j r:Addr)(rs:List V)(J:List (Addr×List Bool))(row:List Bool)(m:Nat),vs=[.ref l,.ref j,.ref r]/\H l=some (.lst rs)/\rs.length=m/\JudgesAt K H j J m/\SqT K H r (row.map V.bl)/\row.length=m/\m<=10/\Zq K H (J.map (·.2)) row rs/\∀H',Same H H'->Q (.bl true) H'
theorem Kn(D:Def K mg "_law_by_judges" (top 69) ["_law_found","_law_judges","_law_row_here"])(cP:zz P w K mg base 4 "_law_same" ["_law_found","_law_due"] (Zf K 4))(dM:zz P w K mg base 1 "_law_sayers" ["_law_judges","_law_number","_law_truth"] (pq K))(aB:mg "len"=none)(aD:mg "range"=none):zz P w K mg base 5 "_law_by_judges" ["_law_found","_law_judges","_law_row_here"] (Ms K):=by
 refine D.callee (N:=["_law_found","_law_judges","_law_row_here","_law_due"]) (by walk_at"sc") (by walk_at"ln") λf cdv A outer s H vs Q E hr nd h=>?_;obtain⟨l,j,r,rs,J,row,m,rfl,hl,gN,hJ,nV,nW,hm,bQ,q⟩:=h;refine⟨[some (.ref l),some (.ref j),some (.ref r),none],_,rfl,(z5 (xr 3 nd (ixs:=[1,2]) (zq (own:=["_law_number"]) (N:=["_law_judges","_law_row_here"]) rfl rfl rfl rfl rfl rfl rfl (by decide +kernel) rfl rfl rfl) rfl (yq rfl aD (z9 (zv yp rfl aB ze (z9 (z8 2) z6)) z6)) (λ_ _ _ _=>yz) (λ_ _ _ _=>(zy dM hr (by lia) (z9 (z8 1) (z9 (z8 0) (z9 (zb (z8 2) (z8 0) (λ_ _=>rfl)) z6))))) rfl)
  (z4 (zw (zy cP hr (by lia) (z9 (z8 0) (z9 (z8 3) z6)))))),?_⟩
 walk_at"rp";refine⟨_,.inr nV,?_⟩;rw[zY,nW];refine⟨⟨by lia,by lia⟩,λC' s₀ H₀ ex=>?_⟩;rw[yZ];refine yc (λD i ys H3=>ys.length=i/\Zq K H3 (J.map (·.2)) row ys/\H3 D=some (.lst ys)/\Same H H3/\H D=none) (by rw[zP];lia) ?_ ?_ ?_ ?_
 ·intro D H3 n3 s3 e3;exact⟨rfl,λn v t h=>by simp at h,e3,s3,n3⟩
 ·rintro D i ys H3 ⟨hy,_,e3,s3,_⟩;exact⟨e3,hy⟩
 ·rintro D i ys H3 hi ⟨hy,hb,e3,s3,n3⟩;walk_at"rp";rw[wN];refine⟨_,_,.inr ((z7 s3).sqT nV),v7 (by lia),?_⟩;walk_at"rp";refine⟨j,J,m,i,_,rfl,hJ.mono (z7 s3),hi,λv H4 s4 hv=>?_⟩;walk_at"rp";have t5:Tups H4 (upd H4 D (.lst (ys++[v]))):=xq (s4 _ _ e3);refine⟨s4 _ _ e3,CN.mk hi ⟨by rw[zS,hy];rfl,λn u t hu ht=>?_,zx,zu (s3.trans s4) n3 _,n3⟩⟩
  by_cases hn:n<ys.length
  ·rw[yG hn]at hu;exact(hb n u t hu ht).mono ((z7 s4).trans t5)
  ·rw[yH (by lia)]at hu;have h0:n-ys.length=0:=by
    have:=(zV.mp hu).1;simp only[xG]at this;lia
   rw[h0]at hu;cases hu;obtain rfl:n=i:=by lia
   have:row.getD n false=t:=by rw[zB,ht];rfl
   rw[this]at hv;rw[zY];exact hv.mono t5
 ·rintro D ys H3 ⟨hy,hb,e3,s3,n3⟩;walk_at"rp";refine⟨_,_,rfl,.inr (.inr ⟨l,D,rs,ys,rfl,rfl,.inl ⟨SqL.of (s3 _ _ hl),SqL.of e3⟩,by lia,λi x y hx Be=>?_⟩),λH4 s4=>q H4 (s3.trans s4)⟩;have hi:i<row.length:=by have:=(zV.mp hx).1;lia
  have ht:row[i]?=some row[i]:=zM hi;exact Su ((bQ i x _ hx ht).mono (z7 s3)) (hb i y _ Be ht) 0
theorem M4{R J:List (List Bool)}{ord:List Nat}{m:Nat}{row:List Bool}(h:agr row (zf R (yj J) ord)=true)(lX:∀n,n∈ord↔n<m)(hl:row.length=m):RI0 ord m R J row:=λi b hb=>by
 have hi:i<m:=by rw[<-hl];exact(zV.mp hb).1
 have h1:i∈(zf R (yj J) ord).map (·.1):=by rw[xm];exact(lX i).mpr hi
 obtain⟨p,hp,e⟩:=zD.mp h1;have h2:=yD.mp h p hp;have h3:row.getD p.1 false=p.2:=eq_of_beq h2;rw[e,zB,hb]at h3;have h4:b=p.2:=h3;rw[h4,<-e];exact hp
theorem Pe{ord:List Nat}{m:Nat}{R J:List (List Bool)}{a b:List Bool}(hn:ord.Nodup)(h1:RI0 ord m R J a)(h2:RI0 ord m R J b)(la:a.length=m)(lb:b.length=m):a=b:=by
 apply vF (by rw[la,lb]);intro i DS hi2;exact km (by rw[xm];exact hn) (h1 i _ (zM DS)) (h2 i _ (zM hi2))
def S5(K:W.Frag)(Pt C:Addr){ι:Type}(Fl:ι->Hp->Nat->List (Str×V)->Prop)(OI:ι->Nat->List (List Bool)->List Nat->Prop):Sp:=λvs H Q _=>∃(i:ι)(x dx b j d o:Addr)(fs:List (Str×V))(us:List V)(ts:List Say)(xs ss:List Str)(J R:List (Addr×List Bool))(ord:List Nat),vs=[.ref x,.ref b,.ref j,.ref d,.ref o]/\H x=some (.ins C dx fs)/\Fl i H ts.length fs/\fs.lookup (Str.ofString "row")=none/\fs.lookup (Str.ofString "reasons")=none/\SqT K H b us/\SaysAt K H us ts/\Lst ts xs/\JudgesAt K H j J ts.length /\
 H d=some (.lst (R.map λr=>V.ref r.1))/\(∀r∈R,SqT K H r.1 (r.2.map V.bl))/\R.length<=32/\NamesOf ts ss/\FitRows ts ss (R.map (·.2))/\SqT K H o (ord.map λn=>V.int ((n:Nat):Int))/\OI i ts.length (J.map (·.2)) ord/\ord.Nodup/\(∀n,n∈ord↔n<ts.length)/\Tb Pt H/\∀H',SameP Pt H H'->Tb Pt H'->Q (.bl true) H'
theorem r8{C Pt:Addr}{ι:Type}{Fl:ι->Hp->Nat->List (Str×V)->Prop}{RI:ι->Nat->List (List Bool)->List (List Bool)->List Bool->Prop}{OI:ι->Nat->List (List Bool)->List Nat->Prop}{ps1 ps2:List Str}(mono:∀i H H' m fs,Tups H H'->Fl i H m fs->Fl i H' m fs)(hRI:∀i m R J row ord,OI i m J ord->RI i m R J row->RI0 ord m R J row)(hOI:∀i m J o o',OI i m J o->OI i m J o'->o=o')
  (D:Def K mg "_law_taken_right" (top 70) ["_law_way","_law_sayings","_law_judges","_law_fit","_law_order_here"]) (iJ:yt P w K mg base 46 C "row" ps1 (pw K Pt C Fl RI)) (aX:yt P w K mg base 46 C "reasons" ps2 (λvs H Q E=>∃i,Zd K Pt C (Fl i) (OI i) vs H Q E)) (oK:zz P w K mg base 2 "_law_taken" ["_law_fit","_law_judges","_law_order_here"] (Xe K)) (dO:zz P w K mg base 1 "_law_is_row" ["_law_found","_law_due"] (fe K)) (cB:zz P w K mg base 4 "_law_reasons_right" ["_law_found","_law_fit","_law_judges","_law_row_here","_law_order_here"] (mj K)):zz P w K mg base 47 "_law_taken_right" ["_law_way","_law_sayings","_law_judges","_law_fit","_law_order_here"] (S5 K Pt C Fl OI):=by
 refine D.callee (N:=["_law_way","_law_sayings","_law_judges","_law_fit","_law_order_here","_law_row_here","_law_told"]) (by walk_at"sc") (by walk_at"ln") λf cdv A outer s H vs Q E hr nd h=>?_;obtain⟨i,x,dx,b,j,d,o,fs,us,ts,xs,ss,J,R,ord,rfl,hx,A1,nY,Bn,hb,hT,hL,hJ,hd,hR,A2,hN,hF,ho,hoi,eY,lX,aT,q⟩:=h;have nO:=hL.hi;have pO:=sk hF;have fP:∀r∈R,r.2.length=ts.length:=λr hr=>xi hF (yN (f:=(·.2)) hr);refine⟨[some (.ref x),some (.ref b),some (.ref j),some (.ref d),some (.ref o),none,none],_,rfl,(z5 (zo 5 nd (zy oK hr (by lia) (z9 (z8 3) (z9 (z8 2) (z9 (z8 4) z6)))))
  (z5 (za (yd (ye (zy dO hr (by lia) (z9 (ua iJ hr (by lia) (z8 0) (z9 (z8 1) (z9 (z8 2) z6))) (z9 (z8 5) z6))))) (z4 (zw yg)) zp)
  (z5 (zo 6 nd (ua aX hr (by lia) (z8 0) (z9 (z8 1) (z9 (z8 2) z6))))
  (z5 (za (yd (ye (zy cB hr (by lia) (z9 (z8 6) (z9 (z8 3) (z9 (z8 2) (z9 (z8 5) (z9 (z8 4) z6)))))))) (z4 (zw yg)) zp)
  (z5 (wc (G8 F.slot_list_clear F.type_list_clear G9 (z8 6)))
  (z4 (zw (zy cB hr (by lia) (z9 (ua aX hr (by lia) (z8 0) (z9 (z8 1) (z9 (z8 2) z6))) (z9 (z8 3) (z9 (z8 2) (z9 (z8 5) (z9 (z8 4) z6))))))))))))),?_⟩
 walk_at"rp";refine⟨d,j,o,R,J,ts.length,ord,rfl,hd,hR,fP,pO,A2,hJ,ho,λn hn=>(lX n).mp hn,λr H1 s1 hr AW=>?_⟩;have nM:=M4 AW lX (fP r hr);have T1:=aT.same s1;have t1:=z7 s1;walk_at"rp";refine⟨x,dx,fs,rfl,s1 _ _ hx,nY,?_⟩;refine⟨i,x,dx,b,j,fs,us,ts,xs,J,rfl,s1 _ _ hx,mono _ _ _ _ _ t1 A1,t1.sqT hb,hT.mono t1,hL,hJ.mono t1,T1,λp H2 ss2 R2 row s2 T2 hN2 DW hp hl hri2=>?_⟩;have es:=NamesOf.eq hN2 hN;subst es;have eR:=FitRows.eq DW hF;subst eR;have er:=Pe eY (hRI i _ _ _ _ _ hoi hri2) nM hl (fP r hr);subst er;have BQ:SameP Pt H H2:=(yh s1).trans s2;have t2:=zj aT BQ;walk_at"rp";refine⟨p,r.1,r.2,rfl,hp,t2.sqT (hR r hr),by lia,λH3 s3=>?_⟩;have BP:SameP Pt H H3:=BQ.trans (yh s3);have T3:=T2.same s3;have t3:=zj aT BP;walk_at"rp";refine⟨x,dx,fs,rfl,yu aT BP hx,Bn,?_⟩;refine⟨i,x,dx,b,j,fs,us,ts,xs,J,rfl,yu aT BP hx,mono _ _ _ _ _ t3 A1,t3.sqT hb,hT.mono t3,hL,hJ.mono t3,T3,λl H4 ss4 R4 ord4 rs s4 T4 nl hN4 hF4 hoi4 el gN nF=>?_⟩;have es:=NamesOf.eq hN4 hN2;subst es;have eR:=FitRows.eq hF4 DW;subst eR;have eo:=hOI _ _ _ _ _ hoi4 hoi;subst eo;have kA:=BP.trans s4;have t4:=zj aT kA;walk_at"rp";refine⟨l,d,j,r.1,o,rs,R,J,r.2,ord4,ts.length,rfl,el,gN,yu aT kA hd,λy hy=>t4.sqT (hR y hy),fP,A2,hJ.mono t4,t4.sqT (hR r hr),fP r hr,by lia,t4.sqT ho,eY,lX,nM,nF,λH5 s5=>?_⟩;have jC:=kA.trans (yh s5);have T5:=T4.same s5;walk_at"rp";refine⟨⟨_,_,rfl,s5 _ _ el⟩,_,s5 _ _ el,?_⟩;have jZ:SameP Pt H (upd H5 l (.lst [])):=S7 jC (Xg BP T3 nl) _;have T6:Tb Pt (upd H5 l (.lst [])):=Xk T5 (s5 _ _ el);generalize upd H5 l (.lst [])=H6 at jZ T6 ⊢;have t6:=zj aT jZ;walk_at"rp";refine⟨x,dx,fs,rfl,yu aT jZ hx,Bn,?_⟩;refine⟨i,x,dx,b,j,fs,us,ts,xs,J,rfl,yu aT jZ hx,mono _ _ _ _ _ t6 A1,t6.sqT hb,hT.mono t6,hL,hJ.mono t6,T6,λl7 H7 ss7 R7 ord7 rs7 s7 T7 nl7 hN7 hF7 hoi7 el7 hrs7 FI=>?_⟩;have es:=NamesOf.eq hN7 hN2;subst es;have eR:=FitRows.eq hF7 DW;subst eR;have eo:=hOI _ _ _ _ _ hoi7 hoi;subst eo;have C4:=jZ.trans s7;have t7:=zj aT C4;walk_at"rp";exact⟨l7,d,j,r.1,o,rs7,R,J,r.2,ord7,ts.length,rfl,el7,hrs7,yu aT C4 hd,λy hy=>t7.sqT (hR y hy),fP,A2,hJ.mono t7,t7.sqT (hR r hr),fP r hr,by lia,t7.sqT ho,eY,lX,nM,FI,λH8 s8=>q H8 (C4.trans (yh s8)) (T7.same s8)⟩
def Zc(K:W.Frag)(Pt C:Addr){ι:Type}(Fl:ι->Hp->Nat->List (Str×V)->Prop)(RT:ι->List Say->List (List Bool)->List Bool->Prop):Sp:=λvs H Q _=>∃(i:ι)(x dx b j:Addr)(fs:List (Str×V))(us:List V)(ts:List Say)(xs:List Str)(J:List (Addr×List Bool)),vs=[.ref x,.ref b,.ref j]/\H x=some (.ins C dx fs)/\Fl i H ts.length fs/\SqT K H b us/\SaysAt K H us ts/\Lst ts xs/\JudgesAt K H j J ts.length/\Tb Pt H /\
 ∀(p:Addr)(H':Hp)(row:List Bool),SameP Pt H H'->Tb Pt H'->SqT K H' p (row.map V.bl)->row.length=ts.length->RT i ts (J.map (·.2)) row->Q (.ref p) H'
def Ze(K:W.Frag)(Pt C:Addr){ι:Type}(Fl:ι->Hp->Nat->List (Str×V)->Prop)(RT:ι->List Say->List (List Bool)->List Bool->Prop):Sp:=λvs H Q _=>∃(i:ι)(x dx b j:Addr)(fs:List (Str×V))(us:List V)(ts:List Say)(xs:List Str)(J:List (Addr×List Bool)),vs=[.ref x,.ref b,.ref j]/\H x=some (.ins C dx fs)/\Fl i H ts.length fs/\SqT K H b us/\SaysAt K H us ts/\Lst ts xs/\JudgesAt K H j J ts.length/\Tb Pt H /\
 ∀(l:Addr)(H':Hp)(row:List Bool)(rs:List V),SameP Pt H H'->Tb Pt H'->H l=none->row.length=ts.length->RT i ts (J.map (·.2)) row->H' l=some (.lst rs)->rs.length=ts.length->Zq K H' (J.map (·.2)) row rs->Q (.ref l) H'
theorem v8{C:Addr}{k k':Nat}{x:Str}{ps:List Str}{sp Ep:Sp}(c:yt P w K mg base k C x ps sp)(hk:k<=k')(h:∀vs H Q E,Ep vs H Q E->sp vs H Q E):yt P w K mg base k' C x ps Ep:=by
 obtain⟨f,fd,F,r⟩:=c.ex;exact⟨f,fd,(F.mono hk).imp h,r⟩
def RTm(_:Unit)(ts:List Say)(J:List (List Bool))(row:List Bool):Prop:=row=xb J ts.length
def RTn(ws:List Int)(ts:List Say)(J:List (List Bool))(row:List Bool):Prop:=∃ss R,NamesOf ts ss/\FitRows ts ss R/\RI2 ws ts.length R J row
theorem Kj{C Pt:Addr}{ps:List Str}(c:yt P w K mg base 4 C "row" ps (Y9 K)):yt P w K mg base 46 C "row" ps (Zc K Pt C (λ_=>Fl1) RTm):=v8 c (by decide) λvs H Q E ⟨_,x,dx,b,j,fs,us,ts,xs,J,e,_,_,_,_,hL,hJ,aT,q⟩=>⟨_,_,j,J,ts.length,e,hJ,by have:=hL.hi;lia,λp H' s' h=>q p H' _ (yh s') (aT.same s') h (xj _ _) rfl⟩
theorem Kk{C Pt:Addr}{ps:List Str}(c:yt P w K mg base 5 C "reasons" ps (S0 K C)):yt P w K mg base 47 C "reasons" ps (Ze K Pt C (λ_=>Fl1) RTm):=v8 c (by decide) λvs H Q E ⟨_,x,dx,b,j,fs,us,ts,xs,J,e,hx,hf,_,_,hL,hJ,aT,q⟩=>by
 cases hf;exact⟨x,dx,_,j,J,ts.length,e,hx,hJ,by have:=hL.hi;lia,λl H' rs s' nl el gN bQ=>q l H' _ rs (yh s') (aT.same s') nl (xj _ _) rfl el gN bQ⟩
theorem Kl{C Pt:Addr}{ps:List Str}(c:yt P w K mg base 46 C "row" ps (pw K Pt C (Fl2 K) RI2)):yt P w K mg base 46 C "row" ps (Zc K Pt C (Fl2 K) RTn):=v8 c (zU _) λvs H Q E ⟨i,x,dx,b,j,fs,us,ts,xs,J,e,hx,hf,hb,hT,hL,hJ,aT,q⟩=>⟨i,x,dx,b,j,fs,us,ts,xs,J,e,hx,hf,hb,hT,hL,hJ,aT,λp H' ss R row s' T' hN hF hp hl nM=>q p H' row s' T' hp hl ⟨ss,R,hN,hF,nM⟩⟩
theorem Km{C Pt:Addr}{ps:List Str}(c:yt P w K mg base 47 C "reasons" ps (S4 K Pt C)):yt P w K mg base 47 C "reasons" ps (Ze K Pt C (Fl2 K) RTn):=v8 c (zU _) λvs H Q E ⟨i,x,dx,b,j,fs,us,ts,xs,J,e,hx,hf,hb,hT,hL,hJ,aT,q⟩=>⟨i,x,dx,b,j,fs,us,ts,xs,J,e,hx,hf,hb,hT,hL,hJ,aT,λl H' ss R row rs s' T' hN hF hl nM nl el gN bQ=>q l H' row rs s' T' nl hl ⟨ss,R,hN,hF,nM⟩ el gN bQ⟩
theorem Pf{ws:List Int}{ts:List Say}{J:List (List Bool)}{a c:List Bool}(h1:RTn ws ts J a)(h2:RTn ws ts J c):a=c:=by
 obtain⟨s1,R1,n1,f1,t1,e1⟩:=h1;obtain⟨s2,R2,n2,f2,t2,e2⟩:=h2;have es:=NamesOf.eq n1 n2;subst es;have eR:=FitRows.eq f1 f2;subst eR;rw[e1]at e2;exact(List.cons.inj e2).1
def nu(K:W.Frag)(Pt C:Addr){ι:Type}(Fl:ι->Hp->Nat->List (Str×V)->Prop)(RT:ι->List Say->List (List Bool)->List Bool->Prop):Sp:=λvs H Q _=>∃(i:ι)(x dx b j r:Addr)(fs:List (Str×V))(us:List V)(ts:List Say)(xs:List Str)(J:List (Addr×List Bool))(row:List Bool),vs=[.ref x,.ref b,.ref j,.ref r]/\H x=some (.ins C dx fs)/\Fl i H ts.length fs/\fs.lookup (Str.ofString "row")=none/\fs.lookup (Str.ofString "reasons")=none/\SqT K H b us/\SaysAt K H us ts/\Lst ts xs/\JudgesAt K H j J ts.length /\
 SqT K H r (row.map V.bl)/\row.length=ts.length/\RT i ts (J.map (·.2)) row/\Tb Pt H/\∀H',SameP Pt H H'->Tb Pt H'->Q (.bl true) H'
theorem qm{C Pt:Addr}{ι:Type}{Fl:ι->Hp->Nat->List (Str×V)->Prop}{RT:ι->List Say->List (List Bool)->List Bool->Prop}{ps1 ps2:List Str}(mono:∀i H H' m fs,Tups H H'->Fl i H m fs->Fl i H' m fs)(hu:∀i ts J a c,RT i ts J a->RT i ts J c->a=c)
  (D:Def K mg "_law_told_right" (top 71) ["_law_way","_law_sayings","_law_judges","_law_row_here"]) (iJ:yt P w K mg base 46 C "row" ps1 (Zc K Pt C Fl RT)) (aX:yt P w K mg base 47 C "reasons" ps2 (Ze K Pt C Fl RT)) (dO:zz P w K mg base 1 "_law_is_row" ["_law_found","_law_due"] (fe K)) (eJ:zz P w K mg base 5 "_law_by_judges" ["_law_found","_law_judges","_law_row_here"] (Ms K)):zz P w K mg base 48 "_law_told_right" ["_law_way","_law_sayings","_law_judges","_law_row_here"] (nu K Pt C Fl RT):=by
 refine D.callee (N:=["_law_way","_law_sayings","_law_judges","_law_row_here","_law_told"]) (by walk_at"sc") (by walk_at"ln") λf cdv A outer s H vs Q E hr nd h=>?_;obtain⟨i,x,dx,b,j,r,fs,us,ts,xs,J,row,rfl,hx,A1,nY,Bn,hb,hT,hL,hJ,nV,nW,hrt,aT,q⟩:=h;have nO:=hL.hi;refine⟨[some (.ref x),some (.ref b),some (.ref j),some (.ref r),none],_,rfl,(z5 (zo 4 nd (ua aX hr (by lia) (z8 0) (z9 (z8 1) (z9 (z8 2) z6))))
  (z5 (za (PW.pt (vf (yd (ye (zy dO hr (by lia) (z9 (ua iJ hr (by lia) (z8 0) (z9 (z8 1) (z9 (z8 2) z6))) (z9 (z8 3) z6))))) (vv (yd (ye (zy eJ hr (by lia) (z9 (z8 4) (z9 (z8 2) (z9 (z8 3) z6))))))))) (z4 (zw yg)) zp)
  (z5 (wc (jl wK wJ gt (z8 4) (z9 Rx z6)))
  (z4 (zw (zy eJ hr (by lia) (z9 (ua aX hr (by lia) (z8 0) (z9 (z8 1) (z9 (z8 2) z6))) (z9 (z8 2) (z9 (z8 3) z6))))))))),?_⟩
 walk_at"rp";refine⟨x,dx,fs,rfl,hx,Bn,?_⟩;refine⟨i,x,dx,b,j,fs,us,ts,xs,J,rfl,hx,A1,hb,hT,hL,hJ,aT,λl H1 row1 rs s1 T1 nl rO hrt1 el gN bQ=>?_⟩;have er:=hu _ _ _ _ _ hrt1 hrt;subst er;have t1:=zj aT s1;walk_at"rp";refine⟨x,dx,fs,rfl,yu aT s1 hx,nY,?_⟩;refine⟨i,x,dx,b,j,fs,us,ts,xs,J,rfl,yu aT s1 hx,mono _ _ _ _ _ t1 A1,t1.sqT hb,hT.mono t1,hL,hJ.mono t1,T1,λp H2 EA s2 T2 hp mP hrt2=>?_⟩;have er:=hu _ _ _ _ _ hrt2 hrt;subst er;have BQ:=s1.trans s2;have t2:=zj aT BQ;walk_at"rp";refine⟨p,r,EA,rfl,hp,t2.sqT nV,by lia,λH3 s3=>?_⟩;have BP:SameP Pt H H3:=BQ.trans (yh s3);have T3:=T2.same s3;have t3:=zj aT BP;have oW:SameP Pt H1 H3:=s2.trans (yh s3);have En:=zj T1 oW;have el3:=yu T1 oW el;walk_at"rp";refine⟨l,j,r,rs,J,EA,ts.length,rfl,el3,gN,hJ.mono t3,t3.sqT nV,nW,by lia,λn v t h1 h2=>(bQ n v t h1 h2).mono En,λH4 s4=>?_⟩;have kA:=BP.trans (yh s4);have T4:=T3.same s4;walk_at"rp";refine⟨⟨_,_,rfl,s4 _ _ el3⟩,?_⟩;walk_at"rp";refine⟨_,s4 _ _ el3,by rw[gN,zP];lia,?_⟩;have jC:SameP Pt H (upd H4 l (.lst (rs++[.non]))):=S7 kA nl _;have T5:Tb Pt (upd H4 l (.lst (rs++[.non]))):=Xk T4 (s4 _ _ el3);generalize upd H4 l (.lst (rs++[.non]))=H5 at jC T5 ⊢;have t5:=zj aT jC;walk_at"rp";refine⟨x,dx,fs,rfl,yu aT jC hx,Bn,?_⟩;refine⟨i,x,dx,b,j,fs,us,ts,xs,J,rfl,yu aT jC hx,mono _ _ _ _ _ t5 A1,t5.sqT hb,hT.mono t5,hL,hJ.mono t5,T5,λl6 H6 row6 rs6 s6 T6 nl6 hl6 hrt6 DZ hrs6 GO=>?_⟩;have er:=hu _ _ _ _ _ hrt6 hrt;subst er;have jZ:=jC.trans s6;have t6:=zj aT jZ;walk_at"rp";exact⟨l6,j,r,rs6,J,row6,ts.length,rfl,DZ,hrs6,hJ.mono t6,t6.sqT nV,nW,by lia,GO,λH7 s7=>q H7 (jZ.trans (yh s7)) (T6.same s7)⟩
structure KindP(K:W.Frag)(C:Addr):Prop where
 cl:Cls K C
 ha:W.findIn K (.ref C) "__class__"=some (some (.builtin "object.__class__"))
 hn:W.specialIn K (.builtin "object.__class__") "__get__"=some (some (.builtin "getset_descriptor.__get__"))
 ht:W.takesIn K (.builtin "object.__class__")=some true
 hm:W.mroIn K C (.type "object")=some true
theorem KindP.ty{C a dx:Addr}{H:Hp}{fs:List (Str×V)}(k:KindP K C)(e:H a=some (.ins C dx fs)):TyOf K H (.ref a) (.ref C):=.ins e k.cl k.ha k.hn k.ht k.hm
def jg(K:W.Frag)(CM CI CB CZ CW C:Addr)(bs:List Bool):Prop:=∃b0 b1 b2 b3 b4,bs=[b0,b1,b2,b3,b4]/\W.kitOne K (.ref C) (.ref CM)=some b0/\W.kitOne K (.ref C) (.ref CI)=some b1/\W.kitOne K (.ref C) (.ref CB)=some b2/\W.kitOne K (.ref C) (.ref CZ)=some b3/\W.kitOne K (.ref C) (.ref CW)=some b4
def tI(b:Bool):Int:=if b=true then 1 else 0
def Xb(K:W.Frag)(CM CI CB CZ CW:Addr):Sp:=λvs H Q _=>∃(a C dx:Addr)(fs:List (Str×V))(bs:List Bool),vs=[.ref a]/\H a=some (.ins C dx fs)/\KindP K C/\jg K CM CI CB CZ CW C bs/\∀(l:Addr)(H':Hp),H l=none->Same H H'->H' l=some (.lst ((bs.map tI).map V.int))->Q (.ref l) H'
theorem Rj{CM CI CB CZ CW:Addr}(D:Def K mg "_law_kinds" (top 73) ["_law_way"])(fN:mg "Most"=some (.ref CM))(bP:mg "InOrder"=some (.ref CI))(aP:mg "ByStrength"=some (.ref CB))(bA:mg "Nearest"=some (.ref CZ))(oZ:mg "Way"=some (.ref CW))(aC:mg "isinstance"=none)(eS:mg "int"=none):zz P w K mg base 1 "_law_kinds" ["_law_way"] (Xb K CM CI CB CZ CW):=by
 refine D.callee (N:=["_law_way","_law_four"]) (by walk_at"sc") (by walk_at"ln") λf cdv A outer s H vs Q E hr nd h=>?_;obtain⟨a,C,dx,fs,bs,rfl,ha,hk,⟨b0,b1,b2,b3,b4,rfl,k0,k1,k2,k3,k4⟩,q⟩:=h;refine⟨[some (.ref a),none],_,rfl,(z5 (zo 1 nd (xa (z9 (zv ai rfl aC zn (z9 (z8 0) (z9 (k9 fN) z6))) (z9 (zv ai rfl aC zn (z9 (z8 0) (z9 (k9 bP) z6))) (z9 (zv ai rfl aC zn (z9 (z8 0) (z9 (k9 aP) z6))) (z9 (zv ai rfl aC zn (z9 (z8 0) (z9 (k9 bA) z6))) z6))))))
  (z4 (zw (yl (ixs:=[]) (zq (own:=["_law_kind"]) (N:=[]) rfl rfl rfl rfl rfl rfl rfl (by decide +kernel) rfl rfl rfl) rfl (y6 (zt zg (z8 1) (xa (z9 (zv ai rfl aC zn (z9 (z8 0) (z9 (k9 oZ) z6))) z6)))) (λ_ _ _ _=>yz) (λ_ _ _ _=>(zd Nr rfl eS Xs (z9 (z8 0) z6))) rfl)))),?_⟩
 walk_at"rp";refine⟨_,_,_,b0,rfl,hk.ty ha,k0,?_⟩;refine⟨_,_,_,b1,rfl,hk.ty ha,k1,?_⟩;refine⟨_,_,_,b2,rfl,hk.ty ha,k2,?_⟩;refine⟨_,_,_,b3,rfl,hk.ty ha,k3,?_⟩;refine⟨by rw[zP];simp,λl1 H1 n1 s1 e1=>?_⟩;walk_at"rp";refine⟨_,_,_,b4,rfl,hk.ty (s1 _ _ ha),k4,?_⟩;refine⟨by rw[zP];simp,λl2 H2 n2 s2 e2=>?_⟩;walk_at"rp";refine .inl ⟨_,_,s2 _ _ e1,e2,by simp only[yR,xA];rw[zP];decide,λl3 H3 n3 s3 e3=>?_⟩;have GZ:H3 l3=some (.lst ([b0,b1,b2,b3,b4].map V.bl)):=e3;walk_at"rp";refine .inl ⟨⟨_,SqL.of GZ⟩,λC s₀ H₀ ex=>?_⟩;refine vo (xs:=[b0,b1,b2,b3,b4].map V.bl) (λD k ys H4=>ys=(([b0,b1,b2,b3,b4].take k).map tI).map V.int/\k<=5/\H4 D=some (.lst ys)/\Same H3 H4/\H3 D=none) (by simp only[zY,yR,xA];rw[zP];decide) ?_ ?_ ?_ ?_
 ·intro D H4 n4 s4 e4;exact⟨rfl,yQ _,e4,s4,n4⟩
 ·rintro D k ys H4 ⟨rfl,hk5,e4,s4,_⟩;exact⟨SqL.of (s4 _ _ GZ),e4,by rw[zY,zY,yU];exact Nat.min_eq_left hk5⟩
 ·rintro D k v ys H4 hv ⟨rfl,_,e4,s4,n4⟩;rw[zQ]at hv;cases hc:[b0,b1,b2,b3,b4][k]? with
  |none=>rw[hc]at hv;cases hv
  |some b =>
   rw[hc]at hv;cases hv;have hk5:k<5:=(zV.mp hc).1;walk_at"rp";refine⟨e4,CN.mk hk5 ⟨?_,hk5,zx,zu s4 n4 _,n4⟩⟩;rw[yV,hc,zJ,zJ]
   rfl
 ·rintro D ys H4 ⟨rfl,_,e4,s4,n4⟩;exact q D H4 (y9 (s1.trans (s2.trans s3)) n4) (s1.trans (s2.trans (s3.trans s4))) e4
def kRows:List (List Bool):=[[true,false,false,false,true],[false,true,false,false,true],[false,false,true,false,true],[false,false,false,true,true],[false,false,false,true,true]]
def bw(K:W.Frag)(CM CI CB CZ CW:Addr):Sp:=λvs H Q _=>∃(wl:Addr)(xs:List Addr),vs=[.ref wl]/\H wl=some (.lst (xs.map V.ref))/\xs.length=5/\(∀(i:Nat)(x:Addr),xs[i]?=some x->∃(C dx:Addr)(fs:List (Str×V)),H x=some (.ins C dx fs)/\KindP K C/\jg K CM CI CB CZ CW C (kRows.getD i []))/\∀H',Same H H'->Q (.bl true) H'
theorem Wd{H:Hp}:∀{vs:List V}{ds:List PyData},vs.length=ds.length->(∀(i:Nat) v d,vs[i]?=some v->ds[i]?=some d->Has K H v d)->HasL K H vs ds
 |[],[],_,_=>by simp[HasL]
 |[],_::_,h,_=>by simp at h
 |_::_,[],h,_=>by simp at h
 |v::vs,d::ds,h,hv=>by
  unfold HasL;exact⟨_,_,rfl,hv 0 v d rfl rfl,Wd (by simpa using h) λi u e h1 h2=>hv (i+1) u e (by simpa using h1) (by simpa using h2)⟩
def W4(N:List (List Int)):PyData:=.list (N.map aa)
theorem gf{H:Hp}{a:Addr}{vs:List V}{N:List (List Int)}(h:SqL K H a vs)(hl:vs.length=N.length)(hv:∀(i:Nat) v n,vs[i]?=some v->N[i]?=some n->∃c,v = .ref c/\SqL K H c (n.map V.int)):Has K H (.ref a) (W4 N):=by
 unfold W4 Has;refine⟨a,_,rfl,h,Wd (by rw[zY];exact hl) λi v d h1 h2=>?_⟩;rw[zQ]at h2;cases hc:N[i]? with
 |none=>rw[hc]at h2;cases h2
 |some n =>
  rw[hc]at h2;cases h2;obtain⟨c,rfl,hq⟩:=hv i v n h1 hc;exact kf hq
theorem pk:SeqAt.shaped (W4 (kRows.map λbs=>bs.map tI))=true:=by decide +kernel
theorem U8{CM CI CB CZ CW:Addr}(D:Def K mg "_law_kinds_right" (top 74) ["_law_ways"])(oO:zz P w K mg base 1 "_law_kinds" ["_law_way"] (Xb K CM CI CB CZ CW)):zz P w K mg base 2 "_law_kinds_right" ["_law_ways"] (bw K CM CI CB CZ CW):=by
 refine D.callee (N:=["_law_ways","_law_due"]) (by walk_at"sc") (by walk_at"ln") λf cdv A outer s H vs Q E hr nd h=>?_;obtain⟨wl,xs,rfl,hw,hxl,hx,q⟩:=h;refine⟨[some (.ref wl),none],_,rfl,(@z5 _ _ _ _ _ (@zo _ 1 _ _ _ _ _ nd (@xa _ _ _ _ (@z9 _ _ _ _ _ (@xa _ _ _ _ (@z9 _ _ _ _ _ (@z0 _ _ _ _) (@z9 _ _ _ _ _ (@z0 _ _ _ _) (@z9 _ _ _ _ _ (@z0 _ _ _ _) (@z9 _ _ _ _ _ (@z0 _ _ _ _) (@z9 _ _ _ _ _ (@z0 _ _ _ _) (@z6 _) (by rfl)) (by rfl)) (by rfl)) (by rfl)) (by rfl))) (@z9 _ _ _ _ _ (@xa _ _ _ _ (@z9 _ _ _ _ _ (@z0 _ _ _ _) (@z9 _ _ _ _ _ (@z0 _ _ _ _) (@z9 _ _ _ _ _ (@z0 _ _ _ _) (@z9 _ _ _ _ _ (@z0 _ _ _ _) (@z9 _ _ _ _ _ (@z0 _ _ _ _) (@z6 _) (by rfl)) (by rfl)) (by rfl)) (by rfl)) (by rfl))) (@z9 _ _ _ _ _ (@xa _ _ _ _ (@z9 _ _ _ _ _ (@z0 _ _ _ _) (@z9 _ _ _ _ _ (@z0 _ _ _ _) (@z9 _ _ _ _ _ (@z0 _ _ _ _) (@z9 _ _ _ _ _ (@z0 _ _ _ _) (@z9 _ _ _ _ _ (@z0 _ _ _ _) (@z6 _) (by rfl)) (by rfl)) (by rfl)) (by rfl)) (by rfl))) (@z9 _ _ _ _ _ (@xa _ _ _ _ (@z9 _ _ _ _ _ (@z0 _ _ _ _) (@z9 _ _ _ _ _ (@z0 _ _ _ _) (@z9 _ _ _ _ _ (@z0 _ _ _ _) (@z9 _ _ _ _ _ (@z0 _ _ _ _) (@z9 _ _ _ _ _ (@z0 _ _ _ _) (@z6 _) (by rfl)) (by rfl)) (by rfl)) (by rfl)) (by rfl))) (@z9 _ _ _ _ _ (@xa _ _ _ _ (@z9 _ _ _ _ _ (@z0 _ _ _ _) (@z9 _ _ _ _ _ (@z0 _ _ _ _) (@z9 _ _ _ _ _ (@z0 _ _ _ _) (@z9 _ _ _ _ _ (@z0 _ _ _ _) (@z9 _ _ _ _ _ (@z0 _ _ _ _) (@z6 _) (by rfl)) (by rfl)) (by rfl)) (by rfl)) (by rfl))) (@z6 _) (by rfl)) (by rfl)) (by rfl)) (by rfl)) (by rfl))) (by rfl) (by first|exact Or.inl rfl|exact Or.inr rfl) (by rfl) (by first|exact .inl rfl|exact .inr rfl)) (@z4 _ _ _ (zw (wy (wn hr.units) (yl (ixs:=[]) (zq (own:=["_law_way"]) (N:=[]) rfl rfl rfl rfl rfl rfl rfl (by decide +kernel) rfl rfl rfl) rfl (y6 (z8 0)) (λ_ _ _ _=>yz) (λ_ _ _ _=>(zy oO hr (by lia) (z9 (z8 0) z6))) rfl) (z8 1) (zm _))))),?_⟩;walk_at"rp";refine⟨by rw[zP];simp,λl1 H1 n1 s1 e1=>?_⟩;walk_at"rp";refine⟨by rw[zP];simp,λl2 H2 n2 s2 e2=>?_⟩;walk_at"rp";refine⟨by rw[zP];simp,λl3 H3 n3 s3 e3=>?_⟩;walk_at"rp";refine⟨by rw[zP];simp,λl4 H4 n4 s4 e4=>?_⟩;walk_at"rp";refine⟨by rw[zP];simp,λl5 H5 n5 s5 e5=>?_⟩;walk_at"rp";refine⟨by rw[zP];simp,λl6 H6 n6 s6 e6=>?_⟩;walk_at"rp";have DG:=s3.trans (s4.trans (s5.trans s6));have jZ:=s1.trans (s2.trans DG);have f1:=(s2.trans DG) _ _ e1;have f2:=DG _ _ e2;have f3:=(s4.trans (s5.trans s6)) _ _ e3;have f4:=(s5.trans s6) _ _ e4;have f5:=s6 _ _ e5;refine .inl ⟨⟨_,SqL.of (jZ _ _ hw)⟩,λC s₀ H₀ ex=>?_⟩;refine vo (xs:=xs.map V.ref) (λD k ys H7=>ys.length=k/\(∀(i:Nat) v,ys[i]?=some v->∃c,v = .ref c/\H7 c=some (.lst (((kRows.getD i []).map tI).map V.int))/\c≠D)/\H7 D=some (.lst ys)/\Same H6 H7/\H6 D=none) (by rw[zY,hxl,zP];decide) ?_ ?_ ?_ ?_
 ·intro D H7 n7 s7 e7;exact⟨rfl,λi v h=>by simp at h,e7,s7,n7⟩
 ·rintro D k ys H7 ⟨hy,_,e7,s7,_⟩;exact⟨SqL.of ((jZ.trans s7) _ _ hw),e7,hy⟩
 ·rintro D k v ys H7 hv ⟨hy,bQ,e7,s7,n7⟩;rw[zQ]at hv;cases hc:xs[k]? with
  |none=>rw[hc]at hv;cases hv
  |some x =>
   rw[hc]at hv;cases hv;have hk:k<xs.length:=(zV.mp hc).1;obtain⟨C,dx,fs,hi,kp,kt⟩:=hx k x hc;walk_at"rp";refine⟨x,C,dx,fs,_,rfl,(jZ.trans s7) _ _ hi,kp,kt,λl H8 n8 s8 e8=>?_⟩;have bZ:l≠D:=λz=>by rw[z,e7]at n8;cases n8
   walk_at"rp";refine⟨s8 _ _ e7,CN.mk (by rw[zY];exact hk) ⟨by rw[zS,hy];rfl,λi u hu=>?_,zx,zu (s7.trans s8) n7 _,n7⟩⟩
   by_cases cV:i<ys.length
   ·rw[yG cV]at hu;obtain⟨c,e,oS,hcD⟩:=bQ i u hu;exact⟨c,e,by rw[zk hcD];exact s8 _ _ oS,hcD⟩
   ·rw[yH (by lia)]at hu;have h0:i-ys.length=0:=by
     have:=(zV.mp hu).1;simp only[xG]at this;lia
    rw[h0]at hu;cases hu;obtain rfl:i=k:=by lia
    exact⟨l,rfl,by rw[zk bZ];exact e8,bZ⟩
 ·rintro D ys H7 ⟨hy,bQ,e7,s7,n7⟩;walk_at"rp";rw[zY,hxl]at hy;refine⟨_,_,gf (N:=kRows.map λbs=>bs.map tI) (SqL.of e7) (by rw[hy];rfl) (λi v n h1 h2=>?_),gf (N:=kRows.map λbs=>bs.map tI) (SqL.of (s7 _ _ e6)) rfl (λi v n h1 h2=>?_),pk,pk,?_⟩
  ·obtain⟨c,e,hc,_⟩:=bQ i v h1;refine⟨c,e,SqL.of ?_⟩;rw[hc];rw[zQ]at h2;cases nN:kRows[i]? with
   |none=>rw[nN]at h2;cases h2
   |some z =>
    rw[nN]at h2;cases h2;rw[zB,nN]
    rfl
  ·match i,h1,h2 with
   |0,h1,h2=>cases h1;cases h2;exact⟨l1,rfl,SqL.of (s7 _ _ f1)⟩
   |1,h1,h2=>cases h1;cases h2;exact⟨l2,rfl,SqL.of (s7 _ _ f2)⟩
   |2,h1,h2=>cases h1;cases h2;exact⟨l3,rfl,SqL.of (s7 _ _ f3)⟩
   |3,h1,h2=>cases h1;cases h2;exact⟨l4,rfl,SqL.of (s7 _ _ f4)⟩
   |4,h1,h2=>cases h1;cases h2;exact⟨l5,rfl,SqL.of (s7 _ _ f5)⟩
   |i+5,h1,h2=>simp at h1
  ·rw[qd pk];exact q H7 (jZ.trans s7)
def Y8(K:W.Frag)(Pt CM CI CB CZ:Addr):Sp:=λvs H Q _=>∃(wl b j o wt x0 d0 x1 d1 x2 d2 x3 d3 x4 d4:Addr)(us:List V)(ts:List Say)(xs:List Str)(J:List (Addr×List Bool))(ord:List Nat)(ws:List Int),vs=[.ref wl,.ref b,.ref j,.ref o,.ref wt]/\H wl=some (.lst [.ref x0,.ref x1,.ref x2,.ref x3,.ref x4])/\H x0=some (.ins CM d0 [])/\H x1=some (.ins CI d1 [((Str.ofString "order":Str),.ref o)])/\H x2=some (.ins CB d2 [])/\H x3=some (.ins CZ d3 [((Str.ofString "weights":Str),.ref wt)])/\H x4=some (.ins CZ d4 [((Str.ofString "weights":Str),.non)]) /\
 SqT K H b us/\SaysAt K H us ts/\Lst ts xs/\JudgesAt K H j J ts.length/\SqT K H o (ord.map λn=>V.int ((n:Nat):Int))/\ord.Nodup/\(∀n,n∈ord↔n<ts.length)/\SqT K H wt (ws.map V.int)/\ws.length=ts.length/\Tb Pt H/\∀H',SameP Pt H H'->Tb Pt H'->Q (.bl true) H'
def OI1(_:Unit)(m:Nat)(J:List (List Bool))(o:List Nat):Prop:=o.Perm (List.range m)/\o.Pairwise (vb λi=>-og J i)
def OI0(ord:List Nat)(_:Nat)(_:List (List Bool))(o:List Nat):Prop:=o=ord
theorem Ny{Pt CM CI CB CZ:Addr}(D:Def K mg "_law_all_right" (top 72) ["_law_ways","_law_sayings","_law_judges","_law_order_here","_law_weights_here"])(aS:zz P w K mg base 42 "_law_fit_rows" ["_law_sayings"] (vz K))(aW:zz P w K mg base 1 "_law_most_of" ["_law_judges","_law_number"] (qt K))(jT:zz P w K mg base 1 "_law_strongest" ["_law_judges"] (o8 K))(dI:zz P w K mg base 2 "_law_first_near" ["_law_fit","_law_judges","_law_weights_here"] (o7 K))
  (hX:zz P w K mg base 48 "_law_told_right" ["_law_way","_law_sayings","_law_judges","_law_row_here"] (nu K Pt CM (λ_:Unit=>Fl1) RTm)) (gE:zz P w K mg base 47 "_law_taken_right" ["_law_way","_law_sayings","_law_judges","_law_fit","_law_order_here"] (S5 K Pt CI (Fl0 K) OI0)) (gD:zz P w K mg base 47 "_law_taken_right" ["_law_way","_law_sayings","_law_judges","_law_fit","_law_order_here"] (S5 K Pt CB (λ_:Unit=>Fl1) OI1)) (hW:zz P w K mg base 48 "_law_told_right" ["_law_way","_law_sayings","_law_judges","_law_row_here"] (nu K Pt CZ (Fl2 K) RTn)) (hV:zz P w K mg base 48 "_law_told_right" ["_law_way","_law_sayings","_law_judges","_law_row_here"] (nu K Pt CZ (Fl2 K) RTn))
  (aB:mg "len"=none) (aD:mg "range"=none) (aA:mg "tuple"=none):zz P w K mg base 49 "_law_all_right" ["_law_ways","_law_sayings","_law_judges","_law_order_here","_law_weights_here"] (Y8 K Pt CM CI CB CZ):=by
 refine D.callee (N:=["_law_ways","_law_sayings","_law_judges","_law_order_here","_law_weights_here","_law_fit","_law_row_here"]) (by walk_at"sc") (by walk_at"ln") λf cdv A outer s H vs Q E hr nd h=>?_;obtain⟨wl,b,j,o,wt,x0,d0,x1,d1,x2,d2,x3,d3,x4,d4,us,ts,xs,J,ord,ws,rfl,hw,h0,h1,h2,h3,h4,hb,hT,hL,hJ,ho,eY,lX,hwt,AQ,aT,q⟩:=h;have nO:=hL.hi;have aL:=hT.len;refine⟨[some (.ref wl),some (.ref b),some (.ref j),some (.ref o),some (.ref wt),none,none],_,rfl,(z5 (zo 5 nd (zy aS hr (by lia) (z9 (z8 1) z6)))
  (z5 (zo 6 nd (zd yi rfl aA zc (z9 (yl (ixs:=[2]) (zq (own:=["_law_number"]) (N:=["_law_judges"]) rfl rfl rfl rfl rfl rfl rfl (by decide +kernel) rfl rfl rfl) rfl (yq rfl aD (z9 (zv yp rfl aB ze (z9 (z8 1) z6)) z6)) (λ_ _ _ _=>yz) (λ_ _ _ _=>(zy aW hr (by lia) (z9 (z8 1) (z9 (z8 0) z6)))) rfl) z6)))
  (z5 (za (yd (ye (zy hX hr (by lia) (z9 (zb (z8 0) z0 (λ_ _=>rfl)) (z9 (z8 1) (z9 (z8 2) (z9 (z8 6) z6))))))) (z4 (zw yg)) zp)
  (z5 (za (yd (ye (zy gE hr (by lia) (z9 (zb (z8 0) z0 (λ_ _=>rfl)) (z9 (z8 1) (z9 (z8 2) (z9 (z8 5) (z9 (z8 3) z6)))))))) (z4 (zw yg)) zp)
  (z5 (za (yd (ye (zy gD hr (by lia) (z9 (zb (z8 0) z0 (λ_ _=>rfl)) (z9 (z8 1) (z9 (z8 2) (z9 (z8 5) (z9 (zy jT hr (by lia) (z9 (z8 2) z6)) z6)))))))) (z4 (zw yg)) zp)
  (z5 (za (yd (ye (zy hW hr (by lia) (z9 (zb (z8 0) z0 (λ_ _=>rfl)) (z9 (z8 1) (z9 (z8 2) (z9 (zy dI hr (by lia) (z9 (z8 5) (z9 (z8 2) (z9 (z8 4) z6)))) z6))))))) (z4 (zw yg)) zp)
  (z4 (zw (zy hV hr (by lia) (z9 (zb (z8 0) z0 (λ_ _=>rfl)) (z9 (z8 1) (z9 (z8 2) (z9 (zy dI hr (by lia) (z9 (z8 5) (z9 (z8 2) (z9 (zt Kg (wu (z9 z0 z6)) (zv yp rfl aB ze (z9 (z8 1) z6))) z6)))) z6))))))))))))),?_⟩
 walk_at"rp";refine⟨b,us,ts,xs,rfl,hb,hT,hL,λd H1 ss R n1 s1 e1 hR hN hF oB=>?_⟩;have pO:=sk hF;have fP:∀r∈R,r.2.length=ts.length:=λr hr=>xi hF (yN (f:=(·.2)) hr);walk_at"rp";refine⟨_,.inr ((z7 s1).sqT hb),?_⟩;rw[aL];refine⟨⟨by lia,by lia⟩,λC' s₀ H₀ ex=>?_⟩;rw[yZ];refine yc (λD i ys H3=>ys=(xb (J.map (·.2)) i).map V.bl/\H3 D=some (.lst ys)/\Same H1 H3/\H1 D=none) (by rw[zP];lia) ?_ ?_ ?_ ?_
 ·intro D H3 n3 s3 e3;exact⟨rfl,e3,s3,n3⟩
 ·rintro D i ys H3 ⟨rfl,e3,s3,_⟩;exact⟨e3,by rw[zY,xj]⟩
 ·rintro D i ys H3 hi ⟨rfl,e3,s3,n3⟩;walk_at"rp";rw[wN];refine⟨j,J,ts.length,i,rfl,hJ.mono (z7 (s1.trans s3)),hi,λH4 s4=>?_⟩;walk_at"rp";refine⟨s4 _ _ e3,CN.mk hi ⟨?_,zx,zu (s3.trans s4) n3 _,n3⟩⟩;rw[qk,zJ]
  rfl
 rintro D3 ys H3 ⟨rfl,e3,s3,n3⟩;walk_at"rp";refine⟨_,.inl (SqL.of e3),λr H4 s4 hr4=>?_⟩;have kA:=s1.trans (s3.trans s4);have C3:=s3.trans s4;have t4:=z7 kA;have T4:Tb Pt H4:=aT.same kA;walk_at"rp";refine⟨_,_,.inl (SqL.of (kA _ _ hw)),rfl,?_⟩;walk_at"rp";refine⟨(),x0,d0,b,j,r,[],us,ts,xs,J,_,rfl,kA _ _ h0,rfl,rfl,rfl,t4.sqT hb,hT.mono t4,hL,hJ.mono t4,hr4,xj _ _,rfl,T4,λH5 s5 T5=>?_⟩;have jC:SameP Pt H H5:=(yh kA).trans s5;have t5:=zj aT jC;have DK:SameP Pt H1 H5:=(yh C3).trans s5;have T1:Tb Pt H1:=aT.same s1;have u5:=zj T1 DK;walk_at"rp";refine⟨_,_,.inl (SqL.of (yu aT jC hw)),rfl,?_⟩;walk_at"rp";refine⟨ord,x1,d1,b,j,d,o,_,us,ts,xs,ss,J,R,ord,rfl,yu aT jC h1,⟨o,rfl,t5.sqT ho,eY,lX⟩,rfl,rfl,t5.sqT hb,hT.mono t5,hL,hJ.mono t5,yu T1 DK e1,λy hy=>u5.sqT (hR y hy),oB,hN,hF,t5.sqT ho,rfl,eY,lX,T5,λH6 s6 T6=>?_⟩;have jZ:=jC.trans s6;have t6:=zj aT jZ;have Ba:=DK.trans s6;walk_at"rp";refine⟨_,_,.inl (SqL.of (yu aT jZ hw)),rfl,?_⟩;walk_at"rp";refine⟨j,J,ts.length,rfl,hJ.mono t6,by lia,λo2 H7 ord2 s7 Bl jV hst2=>?_⟩;have C4:=jZ.trans (yh s7);have t7:=zj aT C4;have DJ:=Ba.trans (yh s7);have u7:=zj T1 DJ;have T7:=T6.same s7;walk_at"rp";refine⟨(),x2,d2,b,j,d,o2,[],us,ts,xs,ss,J,R,ord2,rfl,yu aT C4 h2,rfl,rfl,rfl,t7.sqT hb,hT.mono t7,hL,hJ.mono t7,yu T1 DJ e1,λy hy=>u7.sqT (hR y hy),oB,hN,hF,Bl,⟨jV,hst2⟩,(su jV).1,(su jV).2,T7,λH8 s8 T8=>?_⟩;have s08:=C4.trans s8;have t8:=zj aT s08;have E2:=DJ.trans s8;have u8:=zj T1 E2;walk_at"rp";refine⟨_,_,.inl (SqL.of (yu aT s08 hw)),rfl,?_⟩;walk_at"rp";refine⟨d,j,wt,R,J,ws,ts.length,rfl,yu T1 E2 e1,λy hy=>u8.sqT (hR y hy),fP,pO,oB,by lia,hJ.mono t8,t8.sqT hwt,AQ,λr9 H9 s9 hr9 Db=>?_⟩;have s09:=s08.trans (yh s9);have t9:=zj aT s09;have E1:=E2.trans (yh s9);have u9:=zj T1 E1;have T9:=T8.same s9;walk_at"rp";refine⟨ws,x3,d3,b,j,r9.1,_,us,ts,xs,J,r9.2,rfl,yu aT s09 h3,⟨_,rfl,.inr ⟨wt,rfl,t9.sqT hwt,AQ⟩⟩,rfl,rfl,t9.sqT hb,hT.mono t9,hL,hJ.mono t9,u9.sqT (hR r9 hr9),fP r9 hr9,⟨ss,_,hN,hF,Db⟩,T9,λmT oP T10=>?_⟩;have C6:=s09.trans oP;have t10:=zj aT C6;have jB:=E1.trans oP;have u10:=zj T1 jB;walk_at"rp";refine⟨_,_,.inl (SqL.of (yu aT C6 hw)),rfl,?_⟩;walk_at"rp";refine⟨sz1,λp1 H11 n11 BO e11=>?_⟩;have E9:=C6.trans (yh BO);have BF:=zj aT E9;have Ah:=jB.trans (yh BO);walk_at"rp";refine⟨_,.inr (BF.sqT hb),?_⟩;rw[aL];walk_at"rp";have BY:=hL.lo;refine⟨_,SqT.of e11,by lia,by lia,by simp only[yR,xA,yZ];lia,λp2 mS eL h12=>?_⟩;rw[yZ,List.flatten_replicate_singleton,<-List.map_replicate]at h12;have E8:=E9.trans (yh eL);have t12:=zj aT E8;have Ag:=Ah.trans (yh eL);have u12:=zj T1 Ag;walk_at"rp";refine⟨d,j,p2,R,J,List.replicate ts.length 1,ts.length,rfl,yu T1 Ag e1,λy hy=>u12.sqT (hR y hy),fP,pO,oB,by lia,hJ.mono t12,h12,List.length_replicate,λr13 HV oW FK Bm=>?_⟩;have C5:=E8.trans (yh oW);have En:=zj aT C5;have s113:=Ag.trans (yh oW);have u13:=zj T1 s113;have T13:=((T10.same BO).same eL).same oW;walk_at"rp";exact⟨List.replicate ts.length 1,x4,d4,b,j,r13.1,_,us,ts,xs,J,r13.2,rfl,yu aT C5 h4,⟨_,rfl,.inl ⟨rfl,rfl⟩⟩,rfl,rfl,En.sqT hb,hT.mono En,hL,hJ.mono En,u13.sqT (hR r13 FK),fP r13 FK,⟨ss,_,hN,hF,Bm⟩,T13,λEb C3 T14=>q Eb (C5.trans C3) T14⟩
theorem W3{r:Nat->Nat->Prop}(as:∀x y,r x y->¬r y x):∀{l m:List Nat},l.Pairwise r->m.Pairwise r->(∀x,x∈l↔x∈m)->l=m
 |[],[],_,_,_=>rfl
 |[],b::m,_,_,h=>by have:=(h b).mpr zH;cases this
 |a::l,[],_,_,h=>by have:=(h a).mp zH;cases this
 |a::l,b::m,h1,h2,h=>by
  obtain⟨h3,h4⟩:=xW.mp h1;obtain⟨h5,h6⟩:=xW.mp h2;have e:a=b:=by
   rcases zL.mp ((h a).mp zH)with e|ha
   ·exact e
   ·rcases zL.mp ((h b).mpr zH)with e|hb
    ·exact e.symm
    ·exact(as _ _ (h3 b hb) (h5 a ha)).elim
  subst e;have irr:∀x,¬r x x:=λx hx=>as x x hx hx;rw[W3 as h4 h6 λx=>?_];constructor
  ·intro hx;rcases zL.mp ((h x).mp (zI _ hx))with e|hx2
   ·rw[e]at hx;exact(irr _ (h3 _ hx)).elim
   ·exact hx2
  ·intro hx;rcases zL.mp ((h x).mpr (zI _ hx))with e|hx2
   ·rw[e]at hx;exact(irr _ (h5 _ hx)).elim
   ·exact hx2
theorem au{m:Nat}{J:List (List Bool)}{o o':List Nat}(h:OI1 () m J o)(h':OI1 () m J o'):o=o':=W3 (λx y=>by unfold vb;lia) h.2 h'.2 λx=>by rw[h.1.mem_iff,h'.1.mem_iff]
theorem Lx{m:Nat}{R J:List (List Bool)}{row:List Bool}{ord:List Nat}(e:OI1 () m J ord)(h:RI1 m R J row):RI0 ord m R J row:=by
 obtain⟨o,p,s,r⟩:=h;rw[au e ⟨p,s⟩];exact r
theorem tj(x y:Str):(x++y).length=x.length+y.length:=by
 show(x.cps++y.cps).size=_;exact Array.size_append
theorem ku:(Str.ofString "bcdfghjklmnpqrstvwxyz").cps.toList.length=21:=by decide +kernel
theorem lets_len':(Str.ofString "bcdfghjklmnpqrstvwxyz").length=21:=by decide +kernel
theorem mo:(Str.ofString "qzkxw").length=5:=by decide +kernel
theorem dg:PyData.strOk (Str.ofString "bcdfghjklmnpqrstvwxyz")=true:=by decide +kernel
theorem O9:PyData.strOk (Str.ofString "qzkxw")=true:=by decide +kernel
theorem Nx:PyData.strOk (Str.ofString "")=true:=by decide +kernel
def Xc(K:W.Frag):Sp:=λvs H Q _=>∃(a:Addr)(ns:List Int)(k m:Int),vs=[.ref a,.int k,.int m]/\SqL K H a (ns.map V.int)/\ns.length<=5000/\0<=k/\k<=1000/\1<=m/\m<=5 /\
 ∀(p:Addr)(H':Hp)(xs:List Str),H p=none->Same H H'->H' p=some (.lst (xs.map V.str))->(xs.length:Int)=m->(∀x∈xs,Nm x)->Q (.ref p) H'
theorem Rk(D:Def K mg "_law_names" (top 43) ["_law_script","_law_k","_law_many"])(aF:zz P w K mg base 2 "_law_pick" ["_law_script","_law_k","_law_many"] (ve K))(aB:mg "len"=none)(aD:mg "range"=none):zz P w K mg base 3 "_law_names" ["_law_script","_law_k","_law_many"] (Xc K):=by
 refine D.callee (N:=["_law_script","_law_k","_law_many","_law_letters","_law_word","_law_j","_law_first","_law_at"]) (by walk_at"sc") (by walk_at"ln") λf cdv A outer s H vs Q E hr nd h=>?_;obtain⟨a,ns,k,m,rfl,hS,cS,h0,hk,hm,hm5,q⟩:=h;refine⟨[some (.ref a),some (.int k),some (.int m),none,none,none,none,none],_,rfl,(z5 (zo 3 nd yn)
  (z5 (zo 4 nd yn)
  (z5 (xo yM rfl (yq rfl aD (z9 (zy aF hr (by lia) (z9 (z8 0) (z9 (z8 1) (z9 z0 z6)))) z6)) (wg 5 nd) (z4 (zo 4 nd (zt zg (z8 4) (zb (z8 3) (zy aF hr (by lia) (z9 (z8 0) (z9 (zt zg (zt zg (z8 1) (zt wj z0 (z8 5))) z0) (z9 z0 z6)))) (λ_ _=>rfl))))))
  (z5 (zo 6 nd (zy aF hr (by lia) (z9 (z8 0) (z9 (zt zg (z8 1) z0) (z9 z0 z6)))))
  (z5 (za (zh (wn hr.units) (zy aF hr (by lia) (z9 (z8 0) (z9 (zt zg (z8 1) z0) (z9 z0 z6)))) z0 (zm _)) (z5 (zo 4 nd (x9 (zt zg (zt zg (z8 4) (zb (z8 3) (z8 6) (λ_ _=>rfl))) yn) ya (xg z0)))
  (z4 (zw (yl (ixs:=[4]) (zq (own:=["_law_j"]) (N:=["_law_word"]) rfl rfl rfl rfl rfl rfl rfl (by decide +kernel) rfl rfl rfl) rfl (yq rfl aD (z9 (z8 2) z6)) (λ_ _ _ _=>yz) (λ_ _ _ _=>(x9 (z8 1) ya (xg (zt zg (z8 0) z0)))) rfl)))) zp)
  (z5 (zo 7 nd (zy aF hr (by lia) (z9 (z8 0) (z9 (zt zg (z8 1) z0) (z9 (zt zg (zv yp rfl aB ze (z9 (z8 4) z6)) z0) z6)))))
  (z4 (zw (yl (ixs:=[4,7,3,6]) (zq (own:=["_law_j"]) (N:=["_law_word","_law_at","_law_letters","_law_first"]) rfl rfl rfl rfl rfl rfl rfl (by decide +kernel) rfl rfl rfl) rfl (yq rfl aD (z9 (z8 2) z6)) (λ_ _ _ _=>yz) (λ_ _ _ _=>(zt zg (zt zg (x9 (z8 1) ya (xg (z8 2))) (zb (z8 3) (zt uh (zt zg (z8 4) (zt wj z0 (z8 0))) z0) (λ_ _=>rfl))) (x9 (z8 1) (xg (z8 2)) ya))) rfl))))))))),?_⟩
 walk_at"rp";refine⟨a,ns,k,6,rfl,hS,cS,h0,by lia,by decide,λr r0 r6=>?_⟩;walk_at"rp";refine⟨⟨by lia,by lia⟩,?_⟩;refine w6 (λi σ H'=>∃(word:Str)(jv:Option V),σ=[some (.ref a),some (.int k),some (.int m),some (.str "bcdfghjklmnpqrstvwxyz"),some (.str word),jv,none,none]/\H'=H/\word.length=i/\i<=5/\PyData.strOk word=true) ⟨_,none,rfl,rfl,rfl,by decide,Nx⟩ ?_ ?_
 ·rintro i σ H' hi ⟨word,jv,rfl,rfl,hw,hi5,hok⟩;walk_at"rp";refine⟨cm (by lia),a,ns,_,21,rfl,hS,cS,by lia,by lia,by decide,λr' r0' r21=>?_⟩;walk_at"rp";obtain⟨c,hc,ec⟩:=j7 (xs:=(Str.ofString "bcdfghjklmnpqrstvwxyz").cps.toList) r0' (by rw[ku];exact r21);refine⟨by rw[lets_len'];exact xp (by decide),c,ec,?_,?_⟩
  ·show word.length+1<=sizeLine;exact xp (by lia)
  ·refine⟨_,_,rfl,trivial,?_,by lia,qr hok (ez dg hc)⟩;rw[tj,hw]
   rfl
 ·rintro σ H' ⟨word,jv,rfl,rfl,hw,hw5,hok⟩;walk_at"rp";refine⟨a,ns,k+3,21,rfl,hS,cS,by lia,by lia,by decide,λfirst f0 f21=>?_⟩;walk_at"rp";refine⟨a,ns,k+4,3,rfl,hS,cS,by lia,by lia,by decide,λw3 _ _=>?_⟩;walk_at"rp";refine u4 (λc=>?_) (λc=>?_)
  ·obtain⟨cc,hcc,ec⟩:=j7 (xs:=(Str.ofString "bcdfghjklmnpqrstvwxyz").cps.toList) f0 (by rw[ku];exact f21);refine⟨by rw[lets_len'];exact xp (by decide),cc,ec,?_⟩;have l1:(word++(⟨#[cc]⟩:Str)).length<=6:=by
    rw[tj];show word.length+1<=6;lia
   refine⟨xp (by show word.length+1<=1000;lia),xp (by rw[mo];lia),xp (by rw[tj,mo];lia),⟨by lia,by lia⟩,?_⟩;have l2:(Txt.slice (word++{ cps:=#[cc] }++Str.ofString "qzkxw") none (some 6)).length<=11:=yS (sE _ _ _) (by rw[tj,mo];lia);have o2:PyData.strOk (Txt.slice (word++{ cps:=#[cc] }++Str.ofString "qzkxw") none (some 6))=true:=sy (qr (qr hok (ez dg hcc)) O9) _ _;generalize Txt.slice (word++{ cps:=#[cc] }++Str.ofString "qzkxw") none (some 6)=word' at l2 o2;intro C s₀ H₀ ex;refine yc (λD i ys H1=>∃xs:List Str,ys=xs.map V.str/\xs.length=i/\(∀x∈xs,Nm x)/\H1 D=some (.lst ys)/\Same H' H1/\H' D=none) (xp (by lia)) ?_ ?_ ?_ ?_
   ·intro D H2 n s2 e2;exact⟨[],rfl,rfl,(by simp),e2,s2,n⟩
   ·rintro D i ys H1 ⟨xs,rfl,hl,_,e,_⟩;exact⟨e,by simpa using hl⟩
   ·rintro D i ys H1 hi ⟨xs,rfl,hl,hx,e,s1,n1⟩;walk_at"rp";refine⟨xp (by lia),e,CN.mk hi ⟨xs++[_],(by rw[zJ];rfl),(by rw[zS,hl];rfl),λx nT=>?_,zx,zu s1 n1 _,n1⟩⟩;rcases zE.mp nT with z|z
    ·exact hx x z
    ·rw[zN.mp z];exact⟨yS (sE _ _ _) (by lia),sy o2 _ _⟩
   ·rintro D ys H1 ⟨xs,rfl,hl,hx,e,s1,n1⟩;exact q D H1 xs n1 s1 e (by rw[hl];lia) hx
  ·refine⟨xp (by lia),a,ns,k+2,_,rfl,hS,cS,by lia,by lia,by lia,λat_ t0 tl=>?_⟩;walk_at"rp";refine⟨⟨by lia,by lia⟩,?_⟩;intro C s₀ H₀ ex;refine yc (λD i ys H1=>∃xs:List Str,ys=xs.map V.str/\xs.length=i/\(∀x∈xs,Nm x)/\H1 D=some (.lst ys)/\Same H' H1/\H' D=none) (xp (by lia)) ?_ ?_ ?_ ?_
   ·intro D H2 n s2 e2;exact⟨[],rfl,rfl,(by simp),e2,s2,n⟩
   ·rintro D i ys H1 ⟨xs,rfl,hl,_,e,_⟩;exact⟨e,by simpa using hl⟩
   ·rintro D i ys H1 hi ⟨xs,rfl,hl,hx,e,s1,n1⟩;walk_at"rp";obtain⟨c2,dD,ec⟩:=j7 (xs:=(Str.ofString "bcdfghjklmnpqrstvwxyz").cps.toList) (k:=(first+4*(0+(i:Int))) % 21) (uL _ (by decide)) (by rw[ku];exact vC _ (by decide));have b1:=sE word none (some at_);have b2:=sE word (some at_) none;have b3:(Txt.slice word none (some at_)++(⟨#[c2]⟩:Str)).length<=6:=by
     rw[tj];show(Txt.slice word none (some at_)).length+1<=6;lia
    refine⟨xp (by lia),cm (by lia),(by decide),(by rw[lets_len'];exact xp (by decide)),c2,ec,xp (by show(Txt.slice word none (some at_)).length+1<=1000;lia),xp (by lia),xp (by lia),e,
     CN.mk hi ⟨xs++[_],(by rw[zJ];rfl),(by rw[zS,hl];rfl),λx nT=>?_,zx,zu s1 n1 _,n1⟩⟩
    rcases zE.mp nT with z|z
    ·exact hx x z
    ·rw[zN.mp z];exact⟨by rw[tj];lia,qr (qr (sy hok _ _) (ez dg dD)) (sy hok _ _)⟩
   ·rintro D ys H1 ⟨xs,rfl,hl,hx,e,s1,n1⟩;exact q D H1 xs n1 s1 e (by rw[hl];lia) hx
def fg(K:W.Frag)(n:Nat):Sp:=λvs H Q _=>∃(v:V)(h:Addr)(s:Say)(hs:List Str),vs=[v,.ref h]/\SayAt K H v s/\s.pieces<=n/\SqT K H h (hs.map V.str)/\∀H',Same H H'->Q (.bl (s.so hs)) H'
theorem a9(D:Def K mg "_law_so" (top 45) ["_law_saying_here","_law_held_here"])(bO:mg "min"=none)(nE:mg "max"=none):∀n:Nat,zz P w K mg base n "_law_so" ["_law_saying_here","_law_held_here"] (fg K n)
 |0=>wx D λvs H Q E h=>by
  obtain⟨v,h,s,hs,_,_,hp,_⟩:=h;exact absurd s.pieces_pos (by lia)
 |n+1=>by
  have lT:=a9 D bO nE n;refine D.callee (N:=["_law_saying_here","_law_held_here","_law_truths"]) (by walk_at"sc") (by walk_at"ln") λf cdv A outer s H vs Q E hr nd h=>?_;obtain⟨v,h,s,hs,rfl,hv,hp,hh,q⟩:=h;refine⟨[some v,some (.ref h),none],_,rfl,(z5 (za (zh (wn hr.units) (zb (z8 0) z0 (λ_ _=>rfl)) yn (zm _)) (z4 (zw (wy Hb (zb (z8 0) z0 (λ_ _=>rfl)) (z8 1) (by with_unfolding_all rfl)))) zp)
  (z5 (xr 2 nd (ixs:=[1]) (zq (own:=["_law_part"]) (N:=["_law_held_here"]) rfl rfl rfl rfl rfl rfl rfl (by decide +kernel) rfl rfl rfl) rfl (y6 (x9 (z8 0) (xg z0) ya)) (λ_ _ _ _=>yz) (λ_ _ _ _=>(zy lT hr (by lia) (z9 (z8 0) (z9 (z8 1) z6)))) rfl)
  (z5 (za (zh (wn hr.units) (zb (z8 0) z0 (λ_ _=>rfl)) yn (zm _)) (z4 (zw (gu (zb (z8 2) z0 (λ_ _=>rfl))))) zp)
  (z5 (za (zh (wn hr.units) (zb (z8 0) z0 (λ_ _=>rfl)) yn (zm _)) (z4 (zw (zv (Mp rfl) rfl bO cv (z9 (z8 2) z6)))) zp)
  (z5 (za (zh (wn hr.units) (zb (z8 0) z0 (λ_ _=>rfl)) yn (zm _)) (z4 (zw (zv (Hg rfl) rfl nE Js (z9 (z8 2) z6)))) zp)
  (z4 (zw (wy F2 (zb (z8 2) z0 (λ_ _=>rfl)) (zb (z8 2) z0 (λ_ _=>rfl)) (zm _))))))))),?_⟩
  have By:∀{te:TE}{p:Addr}{H1:Hp}{us:List V}{ts:List Say}{Q':VK},(∀v H Q,te [some v,some (.ref h)] H Q=fg K n [v,.ref h] H Q E0)->Same H H1->SqT K H1 p us->us.length=ts.length->us.length<=10->(∀(i:Nat) u,us[i]?=some u->∃t,ts[i]?=some t/\SayAt K H1 u t/\t.pieces<=n) ->
    (∀D H2,Same H H2->H2 D=some (.lst ((ts.map λt=>t.so hs).map V.bl))->Q' (.ref D) H2)->uw 1 (mG 0) i7 te [some (.ref h)] (Itt K p) Q' H1:=by
   intro te p H1 us ts Q' hte s1 pI hl hl10 hu q';refine vp (xs:=us) (λD i ys H'=>ys=((ts.take i).map λt=>t.so hs).map V.bl/\i<=us.length/\H' D=some (.lst ys)/\Same H1 H'/\H1 D=none) (xp (by lia)) ?_ ?_ ?_ ?_
   ·intro D H2 nn s2 e2;exact⟨rfl,yQ _,e2,s2,nn⟩
   ·rintro D i ys H' ⟨rfl,hi,e,s2,_⟩;exact⟨(z7 s2).sqT pI,e,by simp;lia⟩
   ·rintro D i v ys H' hv ⟨rfl,hi,e,s2,n2⟩;obtain⟨t,ht,sv,pc⟩:=hu i v hv;rw[hte];refine⟨v,h,t,hs,rfl,sv.mono (z7 s2),pc,(z7 (s1.trans s2)).sqT hh,λH3 s3=>⟨s3 _ _ e,CN.mk ?_ ⟨?_,?_,zx,zu (s2.trans s3) n2 _,n2⟩⟩⟩
    ·exact(zV.mp hv).1
    ·rw[yV,ht];simp
    ·exact(zV.mp hv).1
   ·rintro D ys H' ⟨rfl,hi,e,s2,n2⟩;rw[hl,yX]at e;exact q' D H' (s1.trans s2) e
  cases s with
  |letter x =>
   obtain⟨a,rfl,ha⟩:=hv;walk_at"rp";refine⟨_,_,.inr ha,rfl,?_⟩;walk_at"rp";refine⟨_,_,.inr ha,rfl,?_⟩;refine⟨_,.inr hh,rfl,Zv hs,?_⟩;rw[Wf];exact q H (Same.refl H)
  |neg t =>
   obtain⟨a,u,rfl,ha,ht⟩:=hv;walk_at"rp";refine⟨_,_,.inr ha,rfl,?_⟩;walk_at"rp";refine .inr ⟨_,ha,λp H1 s1 h1=>.inr ⟨⟨_,h1⟩,λC s₀ H₀ ex=>?_⟩⟩;refine By (us:=[u]) (ts:=[t]) (λ_ _ _=>rfl) s1 h1 rfl (by simp) (λi x hx=>?_) λD H2 s2 e2=>?_
   ·match i,hx with
    |0,hx =>
     cases hx;exact⟨t,rfl,ht.mono (z7 s1),by have:=hp;simp only[Say.pieces]at this;lia⟩
    |i+1,hx=>simp at hx
   ·have rR:=(z7 s2).sqT ha;refine⟨_,_,.inr rR,rfl,?_⟩;walk_at"rp";refine⟨_,_,.inl (SqL.of e2),rfl,?_⟩;exact q H2 s2
  |bin o t t' =>
   obtain⟨a,u,u',rfl,ha,ht,Bg⟩:=hv;have p1:t.pieces<=n/\t'.pieces<=n:=by have:=hp;simp only[Say.pieces]at this;lia
   have hu:∀{H1:Hp},Same H H1->∀(i:Nat) x,[u,u'][i]?=some x->∃r,[t,t'][i]?=some r/\SayAt K H1 x r/\r.pieces<=n:=λs1 i x hx=>by
    match i,hx with
    |0,hx =>
     cases hx;exact⟨t,rfl,ht.mono (z7 s1),p1.1⟩
    |1,hx =>
     cases hx;exact⟨t',rfl,Bg.mono (z7 s1),p1.2⟩
    |i+2,hx=>simp at hx
   cases o with
   |con =>
    dsimp only[Op2.word]at ha;walk_at"rp";refine⟨_,_,.inr ha,rfl,?_⟩;walk_at"rp";refine .inr ⟨_,ha,λp H1 s1 h1=>.inr ⟨⟨_,h1⟩,λC s₀ H₀ ex=>?_⟩⟩;refine By (us:=[u,u']) (ts:=[t,t']) (λ_ _ _=>rfl) s1 h1 rfl (by simp) (hu s1) λD H2 s2 e2=>?_;have rR:=(z7 s2).sqT ha;refine⟨_,_,.inr rR,rfl,?_⟩;walk_at"rp";refine⟨_,_,.inr rR,rfl,?_⟩;walk_at"rp";refine⟨_,SqL.of e2,by simp,?_⟩;have:=q H2 s2;simpa[Say.so,Op2.so]using this
   |dis =>
    dsimp only[Op2.word]at ha;walk_at"rp";refine⟨_,_,.inr ha,rfl,?_⟩;walk_at"rp";refine .inr ⟨_,ha,λp H1 s1 h1=>.inr ⟨⟨_,h1⟩,λC s₀ H₀ ex=>?_⟩⟩;refine By (us:=[u,u']) (ts:=[t,t']) (λ_ _ _=>rfl) s1 h1 rfl (by simp) (hu s1) λD H2 s2 e2=>?_;have rR:=(z7 s2).sqT ha;refine⟨_,_,.inr rR,rfl,?_⟩;walk_at"rp";refine⟨_,_,.inr rR,rfl,?_⟩;walk_at"rp";refine⟨_,_,.inr rR,rfl,?_⟩;walk_at"rp";refine⟨_,SqL.of e2,by simp,?_⟩;have:=q H2 s2;simpa[Say.so,Op2.so]using this
   |imp =>
    dsimp only[Op2.word]at ha;walk_at"rp";refine⟨_,_,.inr ha,rfl,?_⟩;walk_at"rp";refine .inr ⟨_,ha,λp H1 s1 h1=>.inr ⟨⟨_,h1⟩,λC s₀ H₀ ex=>?_⟩⟩;refine By (us:=[u,u']) (ts:=[t,t']) (λ_ _ _=>rfl) s1 h1 rfl (by simp) (hu s1) λD H2 s2 e2=>?_;have rR:=(z7 s2).sqT ha;refine⟨_,_,.inr rR,rfl,?_⟩;walk_at"rp";refine⟨_,_,.inr rR,rfl,?_⟩;walk_at"rp";refine⟨_,_,.inr rR,rfl,?_⟩;walk_at"rp";refine⟨_,_,.inl (SqL.of e2),rfl,?_⟩;refine⟨_,_,.inl (SqL.of e2),rfl,?_⟩;exact q H2 s2
def Sx(K:W.Frag):Sp:=λvs H Q _=>∃(n:Int)(b:Addr)(xs:List Str),vs=[.int n,.ref b]/\(SqL K H b (xs.map V.str)\/SqT K H b (xs.map V.str))/\xs.length<=100/\∀(r:Addr)(H':Hp),Same H H'->SqT K H' r ((y8 n xs).map V.str)->Q (.ref r) H'
theorem N1(D:Def K mg "_law_held" (top 46) ["_law_number","_law_names_here"])(aA:mg "tuple"=none):zz P w K mg base 1 "_law_held" ["_law_number","_law_names_here"] (Sx K):=by
 refine D.callee (N:=["_law_number","_law_names_here","_law_held_here","_law_name"]) (by walk_at"sc") (by walk_at"ln") λf cdv A outer s H vs Q E hr nd h=>?_;obtain⟨n,b,xs,rfl,hb,hx,q⟩:=h;refine⟨[some (.int n),some (.ref b),none,none],_,rfl,(z5 (zo 2 nd (xa z6))
  (z5 (xo yM rfl (y6 (z8 1)) (wg 3 nd) (z5 (za (zh (wn hr.units) (zt uh (z8 0) z0) z0 (zm _)) (z4 (wc (jl wK wJ gt (z8 2) (z9 (z8 3) z6)))) zp)
  (z4 (zo 0 nd (zt Yb (z8 0) z0)))))
  (z4 (zw (zd yi rfl aA zc (z9 (z8 2) z6)))))),?_⟩
 walk_at"rp";refine⟨xp (by simp),λp H1 n1 s1 e1=>?_⟩;have aL:(xs.map V.str).length=xs.length:=zY _;have Fj:∃(m:Int)(aK:List Str)(nv:Option V),([some (V.int n),some (V.ref b),some (V.ref p),none]:List (Option V))=[some (.int m),some (.ref b),some (.ref p),nv]/\aK++y8 m (xs.drop 0)=y8 n xs/\H1 p=some (.lst (aK.map V.str))/\Same H H1/\aK.length<=0 :=
  ⟨n,[],none,rfl,rfl,e1,s1,zU _⟩
 have bC:∀(σ:L2.St)(H2:Hp),(∃(m:Int)(aK:List Str)(nv:Option V),σ=[some (.int m),some (.ref b),some (.ref p),nv]/\aK++y8 m (xs.drop (xs.map V.str).length)=y8 n xs/\H2 p=some (.lst (aK.map V.str))/\Same H H2/\aK.length<=(xs.map V.str).length) ->
   H2 p=some (.lst ((y8 n xs).map V.str))/\Same H H2/\gv σ 2=some (.ref p):=by
  rintro σ H2 ⟨m,aK,nv,rfl,e,ep,s2,_⟩;rw[aL,sJ]at e;have e':aK=y8 n xs:=by simpa[y8]using e
  rw[<-e'];exact⟨ep,s2,rfl⟩
 have EX:∀(σ:L2.St)(H2:Hp),(∃(m:Int)(aK:List Str)(nv:Option V),σ=[some (.int m),some (.ref b),some (.ref p),nv]/\aK++y8 m (xs.drop (xs.map V.str).length)=y8 n xs/\H2 p=some (.lst (aK.map V.str))/\Same H H2/\aK.length<=(xs.map V.str).length) ->
   ∃ys,(SqL K H2 p ys\/SqT K H2 p ys)/\∀(r:Addr)(H':Hp),Same H2 H'->SqT K H' r ys->Q (.ref r) H':=by
  intro σ H2 h;obtain⟨ep,s2,_⟩:=bC σ H2 h;exact⟨_,.inl (SqL.of ep),λr H' s3 hr=>q r H' (s2.trans s3) hr⟩
 have step:∀(i:Nat)(x:V),(xs.map V.str)[i]?=some x->∃y,x = .str y/\i<xs.length/\xs.drop i=y::xs.drop (i+1):=by
  intro i x hx;rw[zQ]at hx;cases e:xs[i]? with
  |none=>rw[e]at hx;cases hx
  |some y =>
   rw[e]at hx;obtain⟨hi,ey⟩:=zV.mp e;exact⟨y,(yY hx).symm,hi,by rw[List.drop_eq_getElem_cons hi,ey]⟩
 rcases hb with hb|hb
 ·refine .inl ⟨⟨_,s1.seq hb⟩,u6 (xs:=xs.map V.str) (λi σ H2=>∃(m:Int)(aK:List Str)(nv:Option V),σ=[some (.int m),some (.ref b),some (.ref p),nv]/\aK++y8 m (xs.drop i)=y8 n xs/\H2 p=some (.lst (aK.map V.str))/\Same H H2/\aK.length<=i) Fj ?_ ?_ ?_⟩
  ·rintro i σ H2 _ ⟨m,aK,nv,rfl,e,ep,s2,_⟩;exact s2.seq hb
  ·rintro i x σ H2 nT ⟨m,aK,nv,rfl,e,ep,s2,ha⟩;obtain⟨y,rfl,hi,ed⟩:=step i x nT;rw[ed]at e;walk_at"rp";refine⟨by decide,u4 (λc=>?_) (λc=>?_)⟩
   ·have c':m % 2=1:=yK c;rw[y8,yT c']at e;refine⟨⟨_,_,rfl,ep⟩,_,ep,by rw[zY];exact sx (by lia),⟨by decide,by decide⟩,m / 2,aK++[y],_,rfl,by rw[wA];exact e,by rw[zx,zJ];rfl,zu s2 n1 _,by rw[zS,xG];lia⟩
   ·have c':¬m % 2=1:=λz=>c (zA z);rw[y8,zC c']at e;exact⟨⟨by decide,by decide⟩,m / 2,aK,_,rfl,e,ep,s2,by lia⟩
  ·intro σ H2 h;obtain⟨m,aK,nv,rfl,_⟩:=id h;walk_at"rp";exact EX _ H2 h
 ·refine .inr ⟨⟨_,(z7 s1).sqT hb⟩,xn (xs:=xs.map V.str) (λi σ H2=>∃(m:Int)(aK:List Str)(nv:Option V),σ=[some (.int m),some (.ref b),some (.ref p),nv]/\aK++y8 m (xs.drop i)=y8 n xs/\H2 p=some (.lst (aK.map V.str))/\Same H H2/\aK.length<=i) Fj ?_ ?_ ?_⟩
  ·rintro i σ H2 _ ⟨m,aK,nv,rfl,e,ep,s2,_⟩;exact(z7 s2).sqT hb
  ·rintro i x σ H2 nT ⟨m,aK,nv,rfl,e,ep,s2,ha⟩;obtain⟨y,rfl,hi,ed⟩:=step i x nT;rw[ed]at e;walk_at"rp";refine⟨by decide,u4 (λc=>?_) (λc=>?_)⟩
   ·have c':m % 2=1:=yK c;rw[y8,yT c']at e;refine⟨⟨_,_,rfl,ep⟩,_,ep,by rw[zY];exact sx (by lia),⟨by decide,by decide⟩,m / 2,aK++[y],_,rfl,by rw[wA];exact e,by rw[zx,zJ];rfl,zu s2 n1 _,by rw[zS,xG];lia⟩
   ·have c':¬m % 2=1:=λz=>c (zA z);rw[y8,zC c']at e;exact⟨⟨by decide,by decide⟩,m / 2,aK,_,rfl,e,ep,s2,by lia⟩
  ·intro σ H2 h;obtain⟨m,aK,nv,rfl,_⟩:=id h;walk_at"rp";exact EX _ H2 h
def ce(K:W.Frag)(n:Nat):Sp:=λvs H Q _=>∃(v:V)(s:Say),vs=[v]/\SayAt K H v s/\s.pieces<=n/\s.pieces<=1000/\∀(p:Addr)(H':Hp),H p=none->Same H H'->H' p=some (.lst (s.letters.map V.str))->Q (.ref p) H'
theorem g6(D:Def K mg "_law_within" (top 47) ["_law_saying_here"]):∀n:Nat,zz P w K mg base n "_law_within" ["_law_saying_here"] (ce K n)
 |0=>wx D λvs H Q E h=>by
  obtain⟨v,s,_,_,hp,_⟩:=h;exact absurd s.pieces_pos (by lia)
 |n+1=>by
  have dL:=g6 D n;refine D.callee (N:=["_law_saying_here","_law_found","_law_part"]) (by walk_at"sc") (by walk_at"ln") λf cdv A outer s H vs Q E hr nd h=>?_;obtain⟨v,s,rfl,hv,hp,jV,q⟩:=h;refine⟨[some v,none,none],_,rfl,(z5 (za (zh (wn hr.units) (zb (z8 0) z0 (λ_ _=>rfl)) yn (zm _)) (z4 (zw (xa (z9 (zb (z8 0) z0 (λ_ _=>rfl)) z6)))) zp)
  (z5 (zo 1 nd (xa z6))
  (z5 (xo yM rfl (y6 (x9 (z8 0) (xg z0) ya)) (wg 2 nd) (z4 (zo 1 nd (zt zg (z8 1) (zy dL hr (by lia) (z9 (z8 2) z6))))))
  (z4 (zw (z8 1)))))),?_⟩
  by_cases hs:s.subs=[]
  ·cases s with
   |letter x =>
    obtain⟨a,rfl,ha⟩:=hv;walk_at"rp";refine⟨_,_,.inr ha,rfl,?_⟩;walk_at"rp";refine⟨_,_,.inr ha,rfl,?_⟩;walk_at"rp";exact⟨xp (by simp),λp H1 n1 s1 e1=>q p H1 n1 s1 e1⟩
   |neg t=>simp[Say.subs]at hs
   |bin o t t'=>simp[Say.subs]at hs
  ·obtain⟨a,wd,us,rfl,ha,hw,hl,mP,hu⟩:=bj hv hs;walk_at"rp";refine⟨_,_,.inr ha,cu _ _,?_⟩;walk_at"rp";rw[hw];walk_at"rp";refine⟨xp (by simp),λr H0 n0 s0 e0=>?_⟩;refine .inr ⟨_,(z7 s0).sqT ha,λp H1 s1 h1=>.inr ⟨⟨_,h1⟩,?_⟩⟩;rw[kc]at h1;refine xn (xs:=us) (λi σ H2=>∃(r:Addr)(iv:Option V),σ=[some (.ref a),some (.ref r),iv]/\H r=none/\H2 r=some (.lst ((((s.subs.take i).map Say.letters).flatten).map V.str))/\Same H H2/\Same H1 H2/\i<=us.length) ⟨r,none,rfl,n0,s1 _ _ e0,s0.trans s1,Same.refl _,yQ _⟩ ?_ ?_ ?_
   ·rintro i σ H2 _ ⟨r,iv,rfl,_,_,_,s2,_⟩;exact(z7 s2).sqT h1
   ·rintro i x σ H2 hx ⟨r,iv,rfl,nr,e2,s2,s2',hi⟩;obtain⟨t,ht,sv,pc⟩:=hu i x hx;walk_at"rp";refine⟨x,t,rfl,sv.mono (z7 s2),by lia,by lia,λz H3 n3 s3 e3=>?_⟩;walk_at"rp";have b1:=kd (s.subs.take i);have b2:=mq Say.pieces s.subs i;have b3:=o9 s;have b4:=xz t;refine .inl ⟨_,_,s3 _ _ e2,e3,by rw[zY,zY,zP];lia,λr2 H4 n4 s4 e4=>⟨r2,some x,rfl,y9 (s2.trans s3) n4,?_,s2.trans (s3.trans s4),s2'.trans (s3.trans s4),(zV.mp hx).1⟩⟩;rw[e4,yV,ht];simp
   ·rintro σ H2 ⟨r,iv,rfl,nr,e2,s2,_,_⟩;walk_at"rp";rw[hl,yX,<-qu hs]at e2;exact q r H2 nr s2 e2
def mh(K:W.Frag):Sp:=λvs H Q _=>∃(a:Addr)(us:List V)(ts:List Say)(xs:List Str),vs=[.ref a]/\SqT K H a us/\SaysAt K H us ts/\Lst ts xs/\∀(p:Addr)(H':Hp)(ss:List Str),H p=none->Same H H'->H' p=some (.lst (ss.map V.str))->NamesOf ts ss->Q (.ref p) H'
theorem aw(D:Def K mg "_law_all_names" (top 48) ["_law_sayings"])(dL:zz P w K mg base 40 "_law_within" ["_law_saying_here"] (ce K 40))(aH:mg "sorted"=none)(aQ:mg "set"=none):zz P w K mg base 41 "_law_all_names" ["_law_sayings"] (mh K):=by
 refine D.callee (N:=["_law_sayings","_law_found","_law_saying_here"]) (by walk_at"sc") (by walk_at"ln") λf cdv A outer s H vs Q E hr nd h=>?_;obtain⟨a,us,ts,xs,rfl,ha,hS,hL,q⟩:=h;have hl:=hS.len;refine⟨[some (.ref a),none,none],_,rfl,(z5 (zo 1 nd (xa z6))
  (z5 (xo yM rfl (y6 (z8 0)) (wg 2 nd) (z4 (zo 1 nd (zt zg (z8 1) (zy dL hr (by lia) (z9 (z8 2) z6))))))
  (z4 (zw (wa rfl hr.units rfl aH rfl aQ (z8 1)))))),?_⟩
 walk_at"rp";refine⟨xp (by simp),λr H1 n1 s1 e1=>?_⟩;refine .inr ⟨⟨_,(z7 s1).sqT ha⟩,xn (xs:=us) (λi σ H2=>∃(r:Addr)(iv:Option V),σ=[some (.ref a),some (.ref r),iv]/\H2 r=some (.lst ((sf (ts.take i)).map V.str))/\Same H H2) ⟨r,none,rfl,e1,s1⟩ ?_ ?_ ?_⟩
 ·rintro i σ H2 _ ⟨r,iv,rfl,_,s2⟩;exact(z7 s2).sqT ha
 ·rintro i x σ H2 hx ⟨r,iv,rfl,e2,s2⟩;obtain⟨t,ht,sv⟩:=hS.at i x hx;have BV:=zK ht;have hi:i<us.length:=(zV.mp hx).1;have h6:=hL.hi;walk_at"rp";refine⟨x,t,rfl,sv.mono (z7 s2),hL.pc t BV,by have:=hL.pc t BV;lia,λp H3 n3 s3 e3=>?_⟩;walk_at"rp";have h1:=jz (ts.take i) λu hu=>hL.pc u (xN hu);have h2:=xz t;have h3:=hL.pc t BV;have h4:(ts.take i).length<=6:=by rw[yU];lia
  refine .inl ⟨_,_,s3 _ _ e2,e3,by rw[zY,zY,zP];lia,λr2 H4 n4 s4 e4=>⟨r2,some x,rfl,?_,s2.trans (s3.trans s4)⟩⟩;rw[e4,fm ht,zJ]
 ·rintro σ H2 ⟨r,iv,rfl,e2,s2⟩;rw[hl,yX]at e2;have h6:=hL.hi;have h1:=jz ts hL.pc;walk_at"rp";refine .inl ⟨_,.inl (SqL.of e2),by unfold scanBound;lia,λbS hn hs=>?_,λbS hn hmm iD p H3 n3 s3 e3=>?_⟩
  ·have:=wm hn λy hy=>hL.nm y (hs y hy);have:=hL.xl;lia
  ·exact q p H3 bS (y9 s2 n3) (s2.trans s3) e3 ⟨hn,hmm,iD⟩
def ml(K:W.Frag)(n:Nat):Sp:=λvs H Q _=>∃(a:Addr)(ns:List Int)(k m:Int)(b:Addr)(xs:List Str),vs=[.ref a,.int k,.int m,.ref b]/\SqL K H a (ns.map V.int)/\ns.length<=5000/\0<=k/\k<=10000/\1<=m/\m<=n /\
 (SqL K H b (xs.map V.str)\/SqT K H b (xs.map V.str))/\0<xs.length/\xs.length<=100/\∀(v:V)(H':Hp)(s:Say),Same H H'->SayAt K H' v s->(s.pieces:Int)<=m->(∀x∈s.letters,x∈xs)->Q v H'
theorem Sl{H H':Hp}{b:Addr}{xs:List V}(s:Same H H')(h:SqL K H b xs\/SqT K H b xs):SqL K H' b xs\/SqT K H' b xs:=h.imp s.seq (z7 s).sqT
theorem M6{xs:List Str}{k:Int}(h0:0<=k)(h:k<(xs.length:Int)):∃x:Str,x∈xs/\atI (xs.map V.str) k=some (.str x):=by
 obtain⟨v,hv,e⟩:=j7 (xs:=xs.map V.str) h0 (by rw[zY];exact h);obtain⟨x,hx,rfl⟩:=zD.mp hv;exact⟨x,hx,e⟩
theorem g0(D:Def K mg "_law_saying" (top 44) ["_law_script","_law_k","_law_room","_law_names_here"])(aF:zz P w K mg base 2 "_law_pick" ["_law_script","_law_k","_law_many"] (ve K))(dN:zz P w K mg base 1 "_law_next" ["_law_k","_law_j"] Zb)(aB:mg "len"=none):
  ∀n:Nat,zz P w K mg base (n+3) "_law_saying" ["_law_script","_law_k","_law_room","_law_names_here"] (ml K n)
 |0=>Zz (wx D λvs H Q E h=>by
  obtain⟨a,ns,k,m,b,xs,_,_,_,_,_,h1,h2,_⟩:=h;lia) (yQ _)
 |n+1=>by
  have bG:=g0 D aF dN aB n;refine D.callee (N:=["_law_script","_law_k","_law_room","_law_names_here","_law_way","_law_left","_law_one","_law_other"]) (by walk_at"sc") (by walk_at"ln") λf cdv A outer s H vs Q E hr nd h=>?_;obtain⟨a,ns,k,m,b,xs,rfl,hS,cS,h0,hk,hm1,hm,hb,hx0,hx,q⟩:=h;refine⟨[some (.ref a),some (.int k),some (.int m),some (.ref b),none,none,none,none],_,rfl,(z5 (zo 4 nd (zy aF hr (by lia) (z9 (z8 0) (z9 (z8 1) (z9 z0 z6)))))
  (z5 (za (PW.pt (vf (zh Hf (z8 2) z0 (zm _)) (vv (zh (wn hr.units) (z8 4) z0 (zm _))))) (z4 (zw (wu (z9 yn (z9 (zb (z8 3) (zy aF hr (by lia) (z9 (z8 0) (z9 (zt zg (z8 1) z0) (z9 (zv yp rfl aB ze (z9 (z8 3) z6)) z6)))) (λ_ _=>rfl)) z6))))) zp)
  (z5 (za (PW.pt (vf (zh (wn hr.units) (z8 2) z0 (zm _)) (vv (zh (wn hr.units) (z8 4) z0 (zm _))))) (z4 (zw (wu (z9 yn (z9 (zy bG hr (by lia) (z9 (z8 0) (z9 (zy dN hr (by lia) (z9 (z8 1) (z9 z0 z6))) (z9 (zt lf (z8 2) z0) (z9 (z8 3) z6))))) z6))))) zp)
  (z5 (zo 5 nd (zt zg z0 (zy aF hr (by lia) (z9 (z8 0) (z9 (zt zg (z8 1) z0) (z9 (zt lf (z8 2) z0) z6))))))
  (z5 (zo 6 nd (zy bG hr (by lia) (z9 (z8 0) (z9 (zy dN hr (by lia) (z9 (z8 1) (z9 z0 z6))) (z9 (z8 5) (z9 (z8 3) z6))))))
  (z5 (zo 7 nd (zy bG hr (by lia) (z9 (z8 0) (z9 (zy dN hr (by lia) (z9 (z8 1) (z9 z0 z6))) (z9 (zt lf (zt lf (z8 2) z0) (z8 5)) (z9 (z8 3) z6))))))
  (z4 (zw (wu (z9 (zb (xa (z9 yn (z9 yn (z9 yn z6)))) (zy aF hr (by lia) (z9 (z8 0) (z9 (zt zg (z8 1) z0) (z9 z0 z6)))) (λ_ _=>rfl)) (z9 (z8 6) (z9 (z8 7) z6)))))))))))),?_⟩
  walk_at"rp";refine⟨a,ns,k,9,rfl,hS,cS,h0,by lia,by decide,λway _ _=>?_⟩;walk_at"rp";have letter:∃ys,(SqL K H b ys\/SqT K H b ys)/\ve K [V.ref a,V.int (k+1),V.int (ys.length:Int)] H (λy H2=>match V.ref b,y with
    |V.str z,V.int i=>z.length<=sizeLine/\∃c,atI z.cps.toList i=some c/\[V.str (Str.ofString "letter"),V.str { cps:=#[c] }].length<=sizeLine/\New H2 (HO.tup [V.str (Str.ofString "letter"),V.str { cps:=#[c] }]) Q
    |V.ref p,V.int i=>∃xs v,(SqL K H2 p xs\/SqT K H2 p xs)/\atI xs i=some v/\[V.str (Str.ofString "letter"),v].length<=sizeLine/\New H2 (HO.tup [V.str (Str.ofString "letter"),v]) Q
    |x,x_1=>False) E0:=by
   refine⟨_,hb,a,ns,k+1,_,rfl,hS,cS,by lia,by lia,by rw[zY];lia,λr r0 r1=>?_⟩;rw[zY]at r1;obtain⟨x,hx1,ex⟩:=M6 (xs:=xs) r0 r1;refine⟨_,_,hb,ex,xp (by simp),λp H' n1 s1 e1=>?_⟩;refine q _ H' (.letter x) s1 ⟨p,rfl,SqT.of e1⟩ (by show((1:Nat):Int)<=m;lia) λy hy=>?_;rw[zN.mp hy];exact hx1
  have neg:2<=m->Zb [V.int k,V.int 0] H (λx H1=>ml K n [V.ref a,x,V.int (m-1),V.ref b] H1 (λx H1=>[V.str (Str.ofString "not"),x].length<=sizeLine/\New H1 (HO.tup [V.str (Str.ofString "not"),x]) Q) E0) E0:=by
   intro DR;refine⟨k,0,rfl,h0,by lia,by decide,by decide,λr r0 r1=>?_⟩;refine⟨a,ns,r,m-1,b,xs,rfl,hS,cS,r0,by lia,by lia,by lia,hb,hx0,hx,λv H' s s1 sv pc lt=>?_⟩;refine⟨xp (by simp),λp H2 n2 s2 e2=>?_⟩;exact q _ H2 (.neg s) (s1.trans s2) ⟨p,v,rfl,SqT.of e2,sv.mono (z7 s2)⟩ (by show((s.pieces+1:Nat):Int)<=m;lia) lt
  refine u4 (λ_=>letter) (λc1=>?_);refine u4 (λ_=>letter) (λc2=>?_);have DR:2<=m:=by
   have:¬m<2:=λz=>c1 (zA z);lia
  refine u4 (λ_=>neg DR) (λc3=>?_);refine u4 (λ_=>neg DR) (λc4=>?_);have hm3:3<=m:=by
   have:¬m=2:=λz=>c3 (zA z);lia
  refine⟨a,ns,k+1,m-2,rfl,hS,cS,by lia,by lia,by lia,λl l0 l1=>?_⟩;walk_at"rp";refine⟨k,1,rfl,h0,by lia,by decide,by decide,λr r0 r1=>?_⟩;refine⟨a,ns,r,1+l,b,xs,rfl,hS,cS,r0,by lia,by lia,by lia,hb,hx0,hx,λv H1 t s1 sv pc lt=>?_⟩;refine⟨k,2,rfl,h0,by lia,by decide,by decide,λr' r0' r1'=>?_⟩;refine⟨a,ns,r',m-1-(1+l),b,xs,rfl,s1.seq hS,cS,r0',by lia,by lia,by lia,Sl s1 hb,hx0,hx,λv' H2 t' s2 sv' pc' lt'=>?_⟩;refine⟨xp (by simp),λp H3 n3 s3 e3=>?_⟩;refine⟨a,ns,k+2,3,rfl,(s1.trans (s2.trans s3)).seq hS,cS,by lia,by lia,by decide,λo o0 o3=>?_⟩;walk_at"rp";have bC:∀(op:Op2),New H3 (HO.tup [V.str op.word,v,v']) Q:=λop p4 H4 n4 s4 e4=>by
   refine q _ H4 (.bin op t t') (s1.trans (s2.trans (s3.trans s4))) ⟨p4,v,v',rfl,SqT.of e4,sv.mono (z7 (s2.trans (s3.trans s4))),sv'.mono (z7 (s3.trans s4))⟩ ?_ λx hx=>?_
   ·show((t.pieces+t'.pieces+1:Nat):Int)<=m;lia
   ·rcases zE.mp hx with z|z
    ·exact lt x z
    ·exact lt' x z
  have o':o=0\/o=1\/o=2:=by lia
  rcases o' with rfl|rfl|rfl
  ·exact⟨_,_,.inl (SqL.of e3),rfl,xp (by simp),bC .con⟩
  ·exact⟨_,_,.inl (SqL.of e3),rfl,xp (by simp),bC .dis⟩
  ·exact⟨_,_,.inl (SqL.of e3),rfl,xp (by simp),bC .imp⟩
theorem Sk{H:Hp}{b l:Addr}{xs:List V}{o:HO}(bZ:b≠l)(h:SqL K H b xs):SqL K (upd H l o) b xs:=by
 rcases h with(h|⟨o',h⟩)|h
 ·exact .inl (.inl (by rw[zk bZ];exact h))
 ·exact .inl (.inr ⟨o',by rw[zk bZ];exact h⟩)
 ·exact .inr h
theorem SaysAt.set{K:W.Frag}{H:Hp}:∀{us:List V}{ts:List Say},SaysAt K H us ts->∀(i:Nat){v:V}{t:Say},SayAt K H v t->SaysAt K H (us.set i v) (ts.set i t)
 |[],[],_,i,v,t,h=>by simp[SaysAt]
 |u::us,s::ts,hs,0,v,t,h=>⟨h,hs.2⟩
 |u::us,s::ts,hs,i+1,v,t,h=>⟨hs.1,SaysAt.set hs.2 i h⟩
 |[],_::_,h,_,_,_,_=>h.elim
 |_::_,[],h,_,_,_,_=>h.elim
def Gm(ns:List Str)(ts:List Say):Prop:=∀t∈ts,t.pieces<=2/\∀x∈t.letters,x∈ns
def Sy(K:W.Frag):Sp:=λvs H Q _=>∃(a b:Addr)(ns:List Str)(bs:List Bool)(o:Op2),vs=[.ref a,.ref b,.str o.word]/\SqL K H a (ns.map V.str)/\SqL K H b (bs.map V.bl)/\bs.length=ns.length/\1<=ns.length/\ns.length<=5 /\
 ∀(v:V)(H':Hp)(t:Say),Same H H'->SayAt K H' v t->t.pieces<=15->(∀x∈t.letters,x∈ns)->Q v H'
theorem Jq{bs:List Bool}{i:Nat}(h:i<bs.length):atI (bs.map V.bl) (i:Int)=some (.bl bs[i]):=yk (by rw[zQ,zM h];rfl)
theorem N2(D:Def K mg "_law_knit" (top 49) ["_law_names_here","_law_truths","_law_word"])(aB:mg "len"=none)(aD:mg "range"=none):zz P w K mg base 1 "_law_knit" ["_law_names_here","_law_truths","_law_word"] (Sy K):=by
 refine D.callee (N:=["_law_names_here","_law_truths","_law_word","_law_parts","_law_k","_law_saying_here","_law_part"]) (by walk_at"sc") (by walk_at"ln") λf cdv A outer s H vs Q E hr nd h=>?_;obtain⟨a,b,ns,bs,o,rfl,ha,hb,GJ,hn1,hn5,q⟩:=h;refine⟨[some (.ref a),some (.ref b),some (.str o.word),none,none,none,none],_,rfl,(z5 (xr 3 nd (ixs:=[]) (zq (own:=["_law_name"]) (N:=[]) rfl rfl rfl rfl rfl rfl rfl (by decide +kernel) rfl rfl rfl) rfl (y6 (z8 0)) (λ_ _ _ _=>yz) (λ_ _ _ _=>(wu (z9 yn (z9 (z8 0) z6)))) rfl)
  (z5 (xo yM rfl (yq rfl aD (z9 (zv yp rfl aB ze (z9 (z8 3) z6)) z6)) (wg 4 nd) (z4 (za (yd (ye (zb (z8 1) (z8 4) (λ_ _=>rfl)))) (z4 (Hj hr.units (z8 3) (z8 4) (wu (z9 yn (z9 (zb (z8 3) (z8 4) (λ_ _=>rfl)) z6))))) zp)))
  (z5 (zo 5 nd (zb (z8 3) z0 (λ_ _=>rfl)))
  (z5 (xo yM rfl (y6 (x9 (z8 3) (xg z0) ya)) (wg 6 nd) (z4 (zo 5 nd (wu (z9 (z8 2) (z9 (z8 5) (z9 (z8 6) z6)))))))
  (z4 (zw (z8 5))))))),?_⟩
 walk_at"rp";refine .inl ⟨⟨_,ha⟩,λC s₀ H₀ ex=>?_⟩;refine vo (xs:=ns.map V.str) (λD i ys H2=>∃ts:List Say,SaysAt K H2 ys ts/\ts.length=i/\(∀t∈ts,t.pieces<=1/\∀x∈t.letters,x∈ns)/\H2 D=some (.lst ys)/\Same H H2/\H D=none) (by rw[zY,zP];lia) ?_ ?_ ?_ ?_
 ·intro D H2 n2 s2 e2;exact⟨[],trivial,rfl,λt ht=>by simp at ht,e2,s2,n2⟩
 ·rintro D i ys H2 ⟨ts,hS,hl,_,e2,s2,_⟩;exact⟨s2.seq ha,e2,by rw[hS.len,hl]⟩
 ·rintro D i v ys H2 hv ⟨ts,hS,hl,mN,e2,s2,n2⟩;rw[zQ]at hv;cases hc:ns[i]? with
  |none=>rw[hc]at hv;cases hv
  |some x =>
   rw[hc]at hv;cases hv;walk_at"rp";refine⟨xp (by simp),λp H3 n3 s3 e3=>⟨s3 _ _ e2,CN.mk (by rw[zY];exact(zV.mp hc).1) ⟨ts++[.letter x],?_,by rw[zS,hl];rfl,λt ht=>?_,zx,zu (s2.trans s3) n2 _,n2⟩⟩⟩
   ·have tl:=xq (o:=.lst (ys++[V.ref p])) (s3 _ _ e2);exact SaysAt.app (hS.mono ((z7 s3).trans tl)) ⟨⟨p,rfl,tl.sqT (SqT.of e3)⟩,trivial⟩
   ·rcases zE.mp ht with ht|ht
    ·exact mN t ht
    ·rw[zN.mp ht];exact⟨zU 1,λy hy=>by rw[zN.mp hy];exact zK hc⟩
 rintro p ys H1 ⟨ts,hS,hl,mN,e1,s1,n1⟩;rw[zY]at hl;have oQ:=hS.len;walk_at"rp";refine⟨_,.inl (SqL.of e1),⟨by lia,by lia⟩,?_⟩;rw[show((ys.length:Nat):Int).toNat=ys.length from yZ _];refine w6 (λi σ H2=>∃(us:List V)(ts:List Say)(kv:Option V),σ=[some (.ref a),some (.ref b),some (.str o.word),some (.ref p),kv,none,none]/\H2 p=some (.lst us)/\SaysAt K H2 us ts/\ts.length=ns.length/\Gm ns ts/\(∀j t,i<=j->ts[j]?=some t->t.pieces<=1)/\Same H H2) ⟨ys,ts,none,rfl,e1,hS,hl,λt ht=>⟨Nat.le_succ_of_le (mN t ht).1,(mN t ht).2⟩,λj t _ ht=>(mN t (zK ht)).1,s1⟩ ?_ ?_
 ·rintro i σ H2 hi ⟨us,ts,kv,rfl,e2,hS,hl,mN,CU,s2⟩;have hul:=hS.len;walk_at"rp";have hib:i<bs.length:=by lia
  rw[wN];refine⟨_,_,.inl (s2.seq hb),Jq hib,?_⟩;walk_at"rp";have hiu:i<us.length:=by lia
  obtain⟨t,ht,sv⟩:=hS.at i us[i] (zM hiu);have BV:=zK ht;refine u4 (λc=>?_) (λc=>?_)
  ·refine⟨_,_,.inl (SqL.of e2),yk (zM hiu),xp (by simp),λr H3 n3 s3 e3=>?_⟩;refine .inr ⟨us,_,i,s3 _ _ e2,rfl,rfl,hiu,?_⟩;have tl:=xq (o:=.lst (us.set i (.ref r))) (s3 _ _ e2);have t0:=(z7 s3).trans tl;refine⟨us.set i (.ref r),ts.set i (.neg t),_,rfl,zx,SaysAt.set (hS.mono t0) i ⟨r,us[i],rfl,tl.sqT (SqT.of e3),sv.mono t0⟩,by rw[List.length_set];exact hl,λu hu=>?_,λj u hj hu=>?_,zu (s2.trans s3) n1 _⟩
   ·rcases List.mem_or_eq_of_mem_set hu with h|h
    ·exact mN u h
    ·rw[h];refine⟨?_,(mN t BV).2⟩;have:=CU i t (zU _) ht;simp only[Say.pieces];lia
   ·rw[List.getElem?_set_ne (by lia)]at hu;exact CU j u (by lia) hu
  ·exact⟨us,ts,_,rfl,e2,hS,hl,mN,λj u hj hu=>CU j u (by lia) hu,s2⟩
 ·rintro σ H2 ⟨us,ts,kv,rfl,e2,hS,hl,mN,_,s2⟩;have hul:=hS.len
  match us,ts,hS,hl,e2 with
  |[],[],_,hl,_=>simp at hl;lia
  |u::us,t::ts,hS,hl,e2 =>
   walk_at"rp";refine⟨_,_,.inl (SqL.of e2),cu _ _,?_⟩;refine .inl ⟨_,SqL.of e2,λr H3 n3 s3 e3=>?_⟩;rw[kc]at e3;refine .inl ⟨⟨_,SqL.of e3⟩,u6 (xs:=us) (λi σ H4=>∃(v:V)(t:Say)(pv:Option V),σ=[some (.ref a),some (.ref b),some (.str o.word),some (.ref p),kv,some v,pv]/\SayAt K H4 v t/\t.pieces<=2+3*i/\(∀x∈t.letters,x∈ns)/\Same H3 H4) ⟨u,t,none,rfl,hS.1.mono (z7 s3),(mN t zH).1,(mN t zH).2,Same.refl _⟩ ?_ ?_ ?_⟩
   ·rintro i σ H4 _ ⟨v,t',pv,rfl,_,_,_,s4⟩;exact s4.seq (SqL.of e3)
   ·rintro i x σ H4 hx ⟨v,t',pv,rfl,sv,pc,lt,s4⟩;obtain⟨t2,ht2,sv2⟩:=hS.2.at i x hx;have DR:=mN t2 (zI _ (zK ht2));walk_at"rp";refine⟨xp (by simp),λc H5 n5 s5 e5=>⟨.ref c,.bin o t' t2,some x,rfl,⟨c,v,x,rfl,SqT.of e5,sv.mono (z7 s5),sv2.mono (z7 (s3.trans (s4.trans s5)))⟩,?_,λy hy=>?_,s4.trans s5⟩⟩
    ·have:=DR.1;simp only[Say.pieces];lia
    ·rcases zE.mp hy with z|z
     ·exact lt y z
     ·exact DR.2 y z
   ·rintro σ H4 ⟨v,t',pv,rfl,sv,pc,lt,s4⟩;walk_at"rp";have:us.length+1=ns.length:=by rw[<-hl,<-hS.len];rfl
    exact q v H4 t' (s2.trans (s3.trans s4)) sv (by lia) lt
theorem SaysAt.take{K:W.Frag}{H:Hp}:∀{us:List V}{ts:List Say}(n:Nat),SaysAt K H us ts->SaysAt K H (us.take n) (ts.take n)
 |[],[],n,_=>by simp[SaysAt]
 |_::_,_::_,0,_=>trivial
 |_::_,_::_,n+1,h=>⟨h.1,SaysAt.take n h.2⟩
 |[],_::_,_,h=>h.elim
 |_::_,[],_,h=>h.elim
theorem SaysAt.drop{K:W.Frag}{H:Hp}:∀{us:List V}{ts:List Say}(n:Nat),SaysAt K H us ts->SaysAt K H (us.drop n) (ts.drop n)
 |[],[],n,_=>by simp[SaysAt]
 |_::_,_::_,0,h=>h
 |_::_,_::_,n+1,h=>SaysAt.drop n h.2
 |[],_::_,_,h=>h.elim
 |_::_,[],_,h=>h.elim
theorem lg{α:Type}{ts:List α}{n:Nat}{t u:α}(h:u∈ts.take n++t::ts.drop n):u=t\/u∈ts:=by
 rcases zE.mp h with z|z
 ·exact .inr (xN z)
 ·rcases zL.mp z with z|z
  ·exact .inl z
  ·exact .inr (wD z)
def b7(K:W.Frag):Sp:=λvs H Q _=>∃(a:Addr)(ns:List Int)(k:Int)(b:Addr)(xs:List Str),vs=[.ref a,.int k,.ref b]/\SqL K H a (ns.map V.int)/\ns.length<=5000/\0<=k/\k<=1000/\SqL K H b (xs.map V.str)/\1<=xs.length/\xs.length<=5 /\
 ∀(p:Addr)(H':Hp)(us:List V)(ts:List Say),Same H H'->H' p=some (.lst us)->SaysAt K H' us ts->1<=ts.length->ts.length<=6->(∀t∈ts,t.pieces<=39)->(∀t∈ts,∀x∈t.letters,x∈xs)->Q (.ref p) H'
theorem Vc(D:Def K mg "_law_linked" (top 50) ["_law_script","_law_k","_law_names_here"])(aF:zz P w K mg base 2 "_law_pick" ["_law_script","_law_k","_law_many"] (ve K))(pW:zz P w K mg base 1 "_law_knit" ["_law_names_here","_law_truths","_law_word"] (Sy K))(aB:mg "len"=none)(aD:mg "range"=none)(bO:mg "min"=none):
  zz P w K mg base 3 "_law_linked" ["_law_script","_law_k","_law_names_here"] (b7 K):=by
 refine D.callee (N:=["_law_script","_law_k","_law_names_here","_law_many","_law_sayings","_law_truths","_law_last"]) (by walk_at"sc") (by walk_at"ln") λf cdv A outer s H vs Q E hr nd h=>?_;obtain⟨a,ns,k,b,xs,rfl,hS,cS,Bo,hk,hb,hx1,hx5,q⟩:=h;refine⟨[some (.ref a),some (.int k),some (.ref b),none,none,none,none],_,rfl,(z5 (zo 3 nd (zt zg (zy aF hr (by lia) (z9 (z8 0) (z9 (z8 1) (z9 (zv (Mp rfl) rfl bO cv (z9 z0 (z9 (zv yp rfl aB ze (z9 (z8 2) z6)) z6))) z6)))) z0))
  (z5 (xr 4 nd (ixs:=[]) (zq (own:=["_law_name"]) (N:=[]) rfl rfl rfl rfl rfl rfl rfl (by decide +kernel) rfl rfl rfl) rfl (y6 (x9 (z8 2) ya (xg (z8 3)))) (λ_ _ _ _=>yz) (λ_ _ _ _=>(wu (z9 yn (z9 (z8 0) z6)))) rfl)
  (z5 (xr 5 nd (ixs:=[0,1]) (zq (own:=["_law_j"]) (N:=["_law_script","_law_k"]) rfl rfl rfl rfl rfl rfl rfl (by decide +kernel) rfl rfl rfl) rfl (yq rfl aD (z9 (z8 3) z6)) (λ_ _ _ _=>yz) (λ_ _ _ _=>(wy Q2 (zy aF hr (by lia) (z9 (z8 1) (z9 (zt zg (zt zg (z8 2) z0) (z8 0)) (z9 z0 z6)))) z0 (zm _))) rfl)
  (z5 (zo 6 nd (zy pW hr (by lia) (z9 (x9 (z8 2) ya (xg (z8 3))) (z9 (z8 5) (z9 (zb (xa (z9 yn (z9 yn (z9 yn z6)))) (zy aF hr (by lia) (z9 (z8 0) (z9 (zt zg (z8 1) z0) (z9 z0 z6)))) (λ_ _=>rfl)) z6)))))
  (z5 (za (zh (wn hr.units) (zy aF hr (by lia) (z9 (z8 0) (z9 (zt zg (z8 1) z0) (z9 z0 z6)))) z0 (zm _)) (z4 (zo 6 nd (wu (z9 yn (z9 (z8 6) z6))))) zp)
  (z5 (wc (jl F.slot_list_insert F.type_list_insert Hc (z8 4) (z9 (zy aF hr (by lia) (z9 (z8 0) (z9 (zt zg (z8 1) z0) (z9 (zt zg (z8 3) z0) z6)))) (z9 (z8 6) z6))))
  (z4 (zw (z8 4))))))))),?_⟩
 walk_at"rp";refine⟨_,.inl hb,?_⟩;rw[zY];have hmin:(if(xs.length:Int)<5 then(xs.length:Int)else 5)=(xs.length:Int):=by split<;>lia
 rw[hmin];refine⟨a,ns,k,_,rfl,hS,cS,Bo,by lia,by lia,λr r0 r1=>?_⟩;walk_at"rp";have GH:∀{z:V},z=V.int (r+1)->vn (xs.map V.str) none (some (r+1))=(xs.take (r+1).toNat).map V.str:=λ_=>by rw[vq _ (by lia),sF]
 have htl:(xs.take (r+1).toNat).length=(r+1).toNat:=by rw[yU];lia
 have kH:∀x∈xs.take (r+1).toNat,x∈xs:=λx hx=>xN hx;refine .inl ⟨_,hb,λp1 H1 n1 s1 e1=>?_⟩;rw[GH rfl]at e1;generalize Fk:xs.take (r+1).toNat=ys at e1 htl kH GH;refine .inl ⟨⟨_,SqL.of e1⟩,λC s₀ H₀ ex=>?_⟩;refine vo (xs:=ys.map V.str) (λD i vs H2=>∃ts:List Say,SaysAt K H2 vs ts/\ts.length=i/\(∀t∈ts,t.pieces<=1/\∀x∈t.letters,x∈xs)/\H2 D=some (.lst vs)/\Same H1 H2/\H1 D=none) (by rw[zY,zP];lia) ?_ ?_ ?_ ?_
 ·intro D H2 n2 s2 e2;exact⟨[],trivial,rfl,λt ht=>by simp at ht,e2,s2,n2⟩
 ·rintro D i vs H2 ⟨ts,rS,hl,_,e2,s2,_⟩;exact⟨s2.seq (SqL.of e1),e2,by rw[rS.len,hl]⟩
 ·rintro D i v vs H2 hv ⟨ts,rS,hl,mN,e2,s2,n2⟩;rw[zQ]at hv;cases hc:ys[i]? with
  |none=>rw[hc]at hv;cases hv
  |some x =>
   rw[hc]at hv;cases hv;walk_at"rp";refine⟨xp (by simp),λp H3 n3 s3 e3=>⟨s3 _ _ e2,CN.mk (by rw[zY];exact(zV.mp hc).1) ⟨ts++[.letter x],?_,by rw[zS,hl];rfl,λt ht=>?_,zx,zu (s2.trans s3) n2 _,n2⟩⟩⟩
   ·have tl:=xq (o:=.lst (vs++[V.ref p])) (s3 _ _ e2);exact SaysAt.app (rS.mono ((z7 s3).trans tl)) ⟨⟨p,rfl,tl.sqT (SqT.of e3)⟩,trivial⟩
   ·rcases zE.mp ht with ht|ht
    ·exact mN t ht
    ·rw[zN.mp ht];exact⟨zU 1,λy hy=>by rw[zN.mp hy];exact kH x (zK hc)⟩
 rintro l us H2 ⟨ts,rS,hl,mN,e2,s2,n2⟩;rw[zY,htl]at hl;have nl:H l=none:=y9 s1 n2;walk_at"rp";refine⟨⟨by lia,by lia⟩,λC s₀ H₀ ex=>?_⟩;have eL:Same H H2:=s1.trans s2;refine yc (λD i vs H3=>∃bs:List Bool,vs=bs.map V.bl/\bs.length=i/\H3 D=some (.lst vs)/\Same H2 H3/\H2 D=none) (by rw[zP];lia) ?_ ?_ ?_ ?_
 ·intro D H3 n3 s3 e3;exact⟨[],rfl,rfl,e3,s3,n3⟩
 ·rintro D i vs H3 ⟨bs,rfl,GJ,e3,_⟩;exact⟨e3,by simpa using GJ⟩
 ·rintro D i vs H3 hi ⟨bs,rfl,GJ,e3,s3,n3⟩;walk_at"rp";refine⟨a,ns,_,3,rfl,(eL.trans s3).seq hS,cS,by lia,by lia,by decide,λz _ _=>?_⟩;walk_at"rp";exact⟨e3,CN.mk hi ⟨bs++[_],by rw[zJ];rfl,by rw[zS,GJ];rfl,zx,zu s3 n3 _,n3⟩⟩
 rintro tb vs H3 ⟨bs,rfl,GJ,e3,s3,n3⟩;walk_at"rp";have oW:Same H H3:=eL.trans s3;refine .inl ⟨_,oW.seq hb,λp2 H4 n4 s4 e4=>?_⟩;rw[vq _ (by lia),<-sF,Fk]at e4;refine⟨xp (by simp),λwl H5 n5 s5 e5=>?_⟩;have DK:Same H H5:=oW.trans (s4.trans s5);refine⟨a,ns,_,3,rfl,DK.seq hS,cS,by lia,by lia,by decide,λo o0 o3=>?_⟩;walk_at"rp";obtain⟨op,eo⟩:∃op:Op2,atI [V.str (Str.ofString "and"),V.str (Str.ofString "or"),V.str (Str.ofString "if")] o=some (.str op.word):=by
  have o':o=0\/o=1\/o=2:=by lia
  rcases o' with rfl|rfl|rfl
  ·exact⟨.con,rfl⟩
  ·exact⟨.dis,rfl⟩
  ·exact⟨.imp,rfl⟩
 refine⟨_,_,.inl (SqL.of e5),eo,?_⟩;refine⟨p2,tb,ys,bs,op,rfl,SqL.of (s5 _ _ e4),SqL.of ((s4.trans s5) _ _ e3),by lia,by lia,by lia,λv H6 t s6 sv pc lt=>?_⟩;walk_at"rp";have Ba:Same H H6:=DK.trans s6;have DZ:H6 l=some (.lst us):=(s3.trans (s4.trans (s5.trans s6))) _ _ e2;have hS6:SaysAt K H6 us ts:=rS.mono (z7 (s3.trans (s4.trans (s5.trans s6))));refine⟨a,ns,_,3,rfl,Ba.seq hS,cS,by lia,by lia,by decide,λz _ _=>?_⟩;walk_at"rp";have bC:∀(v:V)(H7:Hp)(t:Say)(lv:Option V),Same H6 H7->SayAt K H7 v t->t.pieces<=16->(∀x∈t.letters,x∈xs)->ve K [V.ref a,V.int (k+8),V.int (r+1+1)] H7 (λx H2=>Kc (V.ref l) [x,v] H2 (λx H1=>Q (V.ref l) H1)) E0:=by
  intro v H7 t lv s7 sv pc lt;refine⟨a,ns,_,_,rfl,(Ba.trans s7).seq hS,cS,by lia,by lia,by lia,λj j0 j1=>?_⟩;walk_at"rp";refine⟨us,s7 _ _ DZ,by rw[hS6.len,zP];lia,j0,by lia,?_⟩;have tl:=xq (o:=.lst (us.take j.toNat++v::us.drop j.toNat)) (s7 _ _ DZ);refine q l _ _ (ts.take j.toNat++t::ts.drop j.toNat) (zu (Ba.trans s7) nl _) zx ?_ (by simp;lia) ?_ (λu hu=>?_) (λu hu x hx=>?_)
  ·have h7:=hS6.mono ((z7 s7).trans tl);exact SaysAt.app (SaysAt.take _ h7) ⟨sv.mono tl,SaysAt.drop _ h7⟩
  ·rw[zS,yR,yU,xR];lia
  ·rcases lg hu with z|z
   ·rw[z];lia
   ·have:=(mN u z).1;lia
  ·rcases lg hu with z|z
   ·rw[z]at hx;exact lt x hx
   ·exact(mN u z).2 x hx
 have BW:∀x∈t.letters,x∈xs:=λx hx=>kH x (lt x hx);refine u4 (λc=>?_) (λc=>?_)
 ·refine⟨xp (by simp),λc2 H7 n7 s7 e7=>⟨⟨_,_,rfl,s7 _ _ DZ⟩,?_⟩⟩;exact bC _ H7 (.neg t) none s7 ⟨c2,v,rfl,SqT.of e7,sv.mono (z7 s7)⟩ (by simp only[Say.pieces];lia) BW
 ·exact⟨⟨_,_,rfl,DZ⟩,bC v H6 t none (Same.refl _) sv (by lia) BW⟩
def Sz(K:W.Frag):Sp:=λvs H Q _=>∃(a:Addr)(ns:List Int),vs=[.ref a,.int 0]/\SqL K H a (ns.map V.int)/\ns.length<=5000/\∀(p:Addr)(H':Hp)(us:List V)(ts:List Say)(xs:List Str),Same H H'->SqT K H' p us->SaysAt K H' us ts->Lst ts xs->(∀t∈ts,t.pieces<=39)->Q (.ref p) H'
theorem N3(D:Def K mg "_law_list" (top 51) ["_law_script","_law_k"])(aF:zz P w K mg base 2 "_law_pick" ["_law_script","_law_k","_law_many"] (ve K))(oN:zz P w K mg base 3 "_law_names" ["_law_script","_law_k","_law_many"] (Xc K))(nK:zz P w K mg base 3 "_law_linked" ["_law_script","_law_k","_law_names_here"] (b7 K))
  (bG:zz P w K mg base 12 "_law_saying" ["_law_script","_law_k","_law_room","_law_names_here"] (ml K 9)) (aD:mg "range"=none) (aA:mg "tuple"=none):zz P w K mg base 13 "_law_list" ["_law_script","_law_k"] (Sz K):=by
 refine D.callee (N:=["_law_script","_law_k","_law_names_here","_law_sayings","_law_j","_law_room"]) (by walk_at"sc") (by walk_at"ln") λf cdv A outer s H vs Q E hr nd h=>?_;obtain⟨a,ns,rfl,hS,cS,q⟩:=h;refine⟨[some (.ref a),some (.int 0),none,none,none,none],_,rfl,(z5 (zo 2 nd (zy oN hr (by lia) (z9 (z8 0) (z9 (z8 1) (z9 (zt zg z0 (zy aF hr (by lia) (z9 (z8 0) (z9 (zt zg (z8 1) z0) (z9 z0 z6))))) z6)))))
  (z5 (za (zh (wn hr.units) (zy aF hr (by lia) (z9 (z8 0) (z9 (zt zg (z8 1) z0) (z9 z0 z6)))) z0 (zm _)) (z4 (zw (zd yi rfl aA zc (z9 (zy nK hr (by lia) (z9 (z8 0) (z9 (zt zg (z8 1) z0) (z9 (z8 2) z6)))) z6)))) zp)
  (z5 (zo 3 nd (xa z6))
  (z5 (xo yM rfl (yq rfl aD (z9 (zt zg z0 (zy aF hr (by lia) (z9 (z8 0) (z9 (zt zg (z8 1) z0) (z9 z0 z6))))) z6)) (wg 4 nd) (z5 (zo 5 nd (zb (xa (z9 z0 (z9 z0 (z9 z0 (z9 z0 (z9 z0 z6)))))) (zy aF hr (by lia) (z9 (z8 0) (z9 (zt zg (zt zg (z8 1) z0) (z8 4)) (z9 z0 z6)))) (λ_ _=>rfl)))
  (z4 (wc (jl wK wJ gt (z8 3) (z9 (zy bG hr (by lia) (z9 (z8 0) (z9 (zt zg (zt zg (z8 1) z0) (zt wj z0 (z8 4))) (z9 (z8 5) (z9 (z8 2) z6))))) z6))))))
  (z4 (zw (zd yi rfl aA zc (z9 (z8 3) z6)))))))),?_⟩
 walk_at"rp";refine⟨a,ns,_,5,rfl,hS,cS,by decide,by decide,by decide,λr r0 r1=>?_⟩;walk_at"rp";refine⟨a,ns,0,_,rfl,hS,cS,by decide,by decide,by lia,by lia,λb H1 xs nb s1 eb lb hx=>?_⟩;walk_at"rp";refine⟨a,ns,_,2,rfl,s1.seq hS,cS,by decide,by decide,by decide,λz _ _=>?_⟩;walk_at"rp";refine u4 (λc=>?_) (λc=>?_)
 ·refine⟨a,ns,_,b,xs,rfl,s1.seq hS,cS,by decide,by decide,SqL.of eb,by lia,by lia,λp H2 us ts s2 e2 rS h1 h6 AR aO=>?_⟩;walk_at"rp";refine⟨_,.inl (SqL.of e2),λp' H3 s3 h3=>q p' H3 us ts xs (s1.trans (s2.trans s3)) h3 (rS.mono (z7 s3)) ⟨h1,h6,λt ht=>Nat.le_succ_of_le (AR t ht),λx nT=>?_,by lia,hx⟩ AR⟩;obtain⟨t,ht,FA⟩:=mem_allL.mp nT;exact aO t ht x FA
 ·refine⟨xp (by simp),λl H2 n2 s2 e2=>?_⟩;have eL:Same H H2:=s1.trans s2;refine⟨a,ns,_,6,rfl,eL.seq hS,cS,by decide,by decide,by decide,λm m0 m6=>?_⟩;walk_at"rp";refine⟨⟨by lia,by lia⟩,?_⟩;have nl:H l=none:=y9 s1 n2;refine w6 (λi σ H3=>∃(us:List V)(ts:List Say)(x4 x5:Option V),σ=[some (.ref a),some (.int 0),some (.ref b),some (.ref l),x4,x5]/\H3 l=some (.lst us)/\SaysAt K H3 us ts/\ts.length=i/\(∀t∈ts,t.pieces<=9/\∀x∈t.letters,x∈xs)/\Same H H3/\SqL K H3 b (xs.map V.str)) ⟨[],[],none,none,rfl,e2,trivial,rfl,λt ht=>by simp at ht,eL,s2.seq (SqL.of eb)⟩ ?_ ?_
  ·rintro i σ H3 hi ⟨us,ts,x4,x5,rfl,e3,rS,hl,AR,s3,GL⟩;walk_at"rp";refine⟨xp (by simp),λrl H4 n4 s4 e4=>?_⟩;have s34:Same H H4:=s3.trans s4;refine⟨a,ns,_,5,rfl,s34.seq hS,cS,by lia,by lia,by decide,λj j0 j5=>?_⟩;walk_at"rp";obtain⟨rm,erm,rm1,rm9⟩:∃rm:Int,atI [V.int 1,V.int 1,V.int 3,V.int 4,V.int 9] j=some (.int rm)/\1<=rm/\rm<=9:=by
    have o':j=0\/j=1\/j=2\/j=3\/j=4:=by lia
    rcases o' with rfl|rfl|rfl|rfl|rfl
    ·exact⟨1,rfl,by decide,by decide⟩
    ·exact⟨1,rfl,by decide,by decide⟩
    ·exact⟨3,rfl,by decide,by decide⟩
    ·exact⟨4,rfl,by decide,by decide⟩
    ·exact⟨9,rfl,by decide,by decide⟩
   refine⟨_,_,.inl (SqL.of e4),erm,?_⟩;walk_at"rp";refine⟨⟨_,_,rfl,s4 _ _ e3⟩,cm (by decide),a,ns,_,rm,b,xs,rfl,s34.seq hS,cS,by lia,by lia,rm1,by lia,.inl (s4.seq GL),by lia,by lia,λv H5 t s5 sv pc lt=>?_⟩;walk_at"rp";have e5:=(s4.trans s5) _ _ e3;have tl:=xq (o:=.lst (us++[v])) e5;refine⟨us,e5,by rw[rS.len,hl,zP];lia,us++[v],ts++[t],_,_,rfl,zx,SaysAt.app (rS.mono ((z7 (s4.trans s5)).trans tl)) ⟨sv.mono tl,trivial⟩,by rw[zS,hl];rfl,λu hu=>?_,zu (s34.trans s5) nl _,?_⟩
   ·rcases zE.mp hu with hu|hu
    ·exact AR u hu
    ·rw[zN.mp hu];exact⟨by lia,lt⟩
   ·have bZ:b≠l:=λz=>by rw[<-z,eb]at n2;cases n2
    have hb5:=(s4.trans s5).seq GL;exact Sk bZ hb5
  ·rintro σ H3 ⟨us,ts,x4,x5,rfl,e3,rS,hl,AR,s3,GL⟩;walk_at"rp";refine⟨_,.inl (SqL.of e3),λp' H4 s4 h4=>q p' H4 us ts xs (s3.trans s4) h4 (rS.mono (z7 s4)) ⟨by lia,by lia,λt ht=>by have:=(AR t ht).1;lia,λx nT=>?_,by lia,hx⟩ λt ht=>by have:=(AR t ht).1;lia⟩;obtain⟨t,ht,FA⟩:=mem_allL.mp nT;exact(AR t ht).2 x FA
theorem Va(D:Def K mg "_law_row" (top 52) ["_law_sayings","_law_held_here"])(lT:zz P w K mg base 40 "_law_so" ["_law_saying_here","_law_held_here"] (fg K 40))(aA:mg "tuple"=none):zz P w K mg base 41 "_law_row" ["_law_sayings","_law_held_here"] (nt K):=by
 refine D.callee (N:=["_law_sayings","_law_held_here"]) (by walk_at"sc") (by walk_at"ln") λf cdv A outer s H vs Q E hr nd h=>?_;obtain⟨a,h,us,ts,xs,hs,rfl,ha,hS,hL,hh,q⟩:=h;have hl:=hS.len;have h6:=hL.hi;refine⟨[some (.ref a),some (.ref h)],_,rfl,(z4 (zw (zd yi rfl aA zc (z9 (yl (ixs:=[1]) (zq (own:=["_law_saying_here"]) (N:=["_law_held_here"]) rfl rfl rfl rfl rfl rfl rfl (by decide +kernel) rfl rfl rfl) rfl (y6 (z8 0)) (λ_ _ _ _=>yz) (λ_ _ _ _=>(zy lT hr (by lia) (z9 (z8 0) (z9 (z8 1) z6)))) rfl) z6)))),?_⟩;walk_at"rp";refine .inr ⟨⟨_,ha⟩,λC s₀ H₀ ex=>?_⟩;refine vp (xs:=us) (λD i ys H2=>ys=((ts.take i).map λt=>t.so hs).map V.bl/\i<=us.length/\H2 D=some (.lst ys)/\Same H H2/\H D=none) (by rw[zP];lia) ?_ ?_ ?_ ?_
 ·intro D H2 n2 s2 e2;exact⟨rfl,yQ _,e2,s2,n2⟩
 ·rintro D i ys H2 ⟨rfl,hi,e2,s2,_⟩;exact⟨(z7 s2).sqT ha,e2,by simp;lia⟩
 ·rintro D i v ys H2 hv ⟨rfl,hi,e2,s2,n2⟩;obtain⟨t,ht,sv⟩:=hS.at i v hv;walk_at"rp";refine⟨v,h,t,hs,rfl,sv.mono (z7 s2),hL.pc t (zK ht),(z7 s2).sqT hh,λH3 s3=>⟨s3 _ _ e2,CN.mk (zV.mp hv).1 ⟨?_,(zV.mp hv).1,zx,zu (s2.trans s3) n2 _,n2⟩⟩⟩;rw[yV,ht];simp
 ·rintro D ys H2 ⟨rfl,hi,e2,s2,n2⟩;rw[hl,yX]at e2;exact⟨_,.inl (SqL.of e2),λp H3 s3 h3=>q p H3 (s2.trans s3) h3⟩
theorem U9(D:Def K mg "_law_fit_rows" (top 53) ["_law_sayings"])(jU:zz P w K mg base 41 "_law_all_names" ["_law_sayings"] (mh K))(rE:zz P w K mg base 41 "_law_row" ["_law_sayings","_law_held_here"] (nt K))(pX:zz P w K mg base 1 "_law_held" ["_law_number","_law_names_here"] (Sx K))
  (aH:mg "sorted"=none) (aQ:mg "set"=none) (aD:mg "range"=none):zz P w K mg base 42 "_law_fit_rows" ["_law_sayings"] (vz K):=by
 refine D.callee (N:=["_law_sayings","_law_names_here","_law_number","_law_name"]) (by walk_at"sc") (by walk_at"ln") λf cdv A outer s H vs Q E hr nd h=>?_;obtain⟨a,us,ts,xs,rfl,ha,hS,hL,q⟩:=h;refine⟨[some (.ref a),none,none,none],_,rfl,(z5 (zo 1 nd (zy jU hr (by lia) (z9 (z8 0) z6)))
  (z5 (zo 2 nd z0)
  (z5 (xo yM rfl (y6 (z8 1)) (wg 3 nd) (z4 (zo 2 nd (zt wj z0 (z8 2)))))
  (z4 (zw (wa rfl hr.units rfl aH rfl aQ (yl (ixs:=[0,1]) (zq (own:=["_law_k"]) (N:=["_law_sayings","_law_names_here"]) rfl rfl rfl rfl rfl rfl rfl (by decide +kernel) rfl rfl rfl) rfl (yq rfl aD (z9 (z8 2) z6)) (λ_ _ _ _=>yz) (λ_ _ _ _=>(zy rE hr (by lia) (z9 (z8 1) (z9 (zy pX hr (by lia) (z9 (z8 0) (z9 (z8 2) z6))) z6)))) rfl))))))),?_⟩
 walk_at"rp";refine⟨a,us,ts,xs,rfl,ha,hS,hL,λb H1 ss nb s1 hb hN=>?_⟩;obtain⟨FH,CG⟩:=hL.names hN;have p5:=Sc FH;walk_at"rp";refine .inl ⟨⟨_,SqL.of hb⟩,u6 (xs:=ss.map V.str) (λi σ H2=>∃nv,σ=[some (.ref a),some (.ref b),some (.int ((2 ^ i:Nat):Int)),nv]/\H2=H1) ⟨none,rfl,rfl⟩ ?_ ?_ ?_⟩
 ·rintro i σ H2 _ ⟨nv,rfl,rfl⟩;exact SqL.of hb
 ·rintro i x σ H2 nT ⟨nv,rfl,rfl⟩;walk_at"rp";refine⟨cm (by decide),some x,?_,trivial⟩;rw[Nat.pow_succ,Int.natCast_mul,Int.mul_comm]
  rfl
 rintro σ H2 ⟨nv,rfl,rfl⟩;walk_at"rp";rw[zY];have p5':((2 ^ ss.length:Nat):Int)<=32:=Int.ofNat_le.mpr p5;have p50:(0:Int)<=((2 ^ ss.length:Nat):Int):=Int.natCast_nonneg _;refine⟨⟨by lia,by lia⟩,?_⟩;rw[yZ];intro C s₀ H₀ ex;refine yc (λD i ys H3=>∃R:List (Addr×List Bool),ys=(R.map λr=>V.ref r.1)/\R.map (·.2)=(List.range i).map (λ(n:Nat)=>se ts (y8 (n:Int) ss))/\(∀r∈R,SqT K H3 r.1 (r.2.map V.bl))/\H3 D=some (.lst ys)/\Same H2 H3/\H2 D=none) (by rw[zP];lia) ?_ ?_ ?_ ?_
 ·intro D H3 n3 s3 e3;exact⟨[],rfl,rfl,λr hr=>by simp at hr,e3,s3,n3⟩
 ·rintro D i ys H3 ⟨R,rfl,hR,_,e3,s3,_⟩;refine⟨e3,?_⟩;have:=wZ List.length hR;simpa using this
 ·rintro D i ys H3 hi ⟨R,rfl,hR,hT,e3,s3,n3⟩;walk_at"rp";rw[wN];refine⟨_,b,ss,rfl,.inl (s3.seq (SqL.of hb)),by lia,λc H4 s4 h4=>?_⟩;refine⟨a,c,us,ts,xs,_,rfl,(z7 (s1.trans (s3.trans s4))).sqT ha,hS.mono (z7 (s1.trans (s3.trans s4))),hL,h4,λp H5 s5 h5=>⟨(s4.trans s5) _ _ e3,CN.mk hi ⟨R++[(p,se ts (y8 (i:Int) ss))],by rw[zJ];rfl,?_,λr hr=>?_,zx,zu (s3.trans (s4.trans s5)) n3 _,n3⟩⟩⟩
  ·rw[zJ,hR,vI,zJ]
   rfl
  ·have tl:=xq (o:=.lst ((R.map λr=>V.ref r.1)++[V.ref p])) ((s4.trans s5) _ _ e3);rcases zE.mp hr with hr|hr
   ·exact tl.sqT ((z7 (s4.trans s5)).sqT (hT r hr))
   ·rw[zN.mp hr];exact tl.sqT h5
 ·rintro D ys H3 ⟨R,rfl,hR,hT,e3,s3,n3⟩;have oB:R.length=2 ^ ss.length:=by
   have:=wZ List.length hR;simpa using this
  refine .inr ⟨R,SqL.of e3,λr hr=>⟨hT r hr,?_⟩,by lia,λR' kH mO dB iD iE p H4 n4 s4 e4=>?_⟩
  ·have:r.2∈R.map (·.2):=yN hr;rw[hR]at this;obtain⟨n,_,e⟩:=zD.mp this;intro z;rw[<-e]at z;have h1:=pi ts (y8 (n:Int) ss);rw[z]at h1;have:=hL.lo;simp at h1;lia
  ·refine q p H4 ss R' (y9 (s1.trans s3) n4) (s1.trans (s3.trans s4)) e4 (λr hr=>(z7 s4).sqT (hT r (kH r hr))) hN ⟨mO,λk=>?_,iD⟩ (by lia);rw[dB k,hR,zD];constructor
   ·rintro⟨n,hn,rfl⟩;exact⟨n,yF.mp hn,rfl⟩
   ·rintro⟨n,hn,rfl⟩;exact⟨n,yF.mpr hn,rfl⟩
def nq(K:W.Frag)(C:Addr)(f:Str):Sp:=λvs H Q _=>∃(x dx:Addr)(v:V),vs=[.ref x,v]/\H x=some (.ins C dx [])/\Q .non (upd H x (.ins C dx [(f,v)]))
theorem U6{C:Addr}{ds:List Value}(D:DefN K C "InOrder.__init__" (xk (top 36) 0) ["self","order"] ds)(CL:Cls K C)(na:NoAttr K C "order"):uk P w K mg base 1 C ["self","order"] ds (nq K C "order"):=by
 refine D.callee (N:=["self","order"]) (by walk_at"sc") (by walk_at"ln") λf cdv A outer s H vs Q E hr nd h=>?_;obtain⟨x,dx,v,rfl,hx,q⟩:=h;refine⟨[some (.ref x),some v],_,rfl,(z4 (Se (z8 0) (z8 1) rfl)),?_⟩;walk_at"rp";exact⟨x,C,dx,[],rfl,hx,CL,na,by decide,q⟩
theorem Vf{C:Addr}{ds:List Value}(D:DefN K C "Nearest.__init__" (xk (top 38) 0) ["self","weights"] ds)(CL:Cls K C)(na:NoAttr K C "weights"):uk P w K mg base 1 C ["self","weights"] ds (nq K C "weights"):=by
 refine D.callee (N:=["self","weights"]) (by walk_at"sc") (by walk_at"ln") λf cdv A outer s H vs Q E hr nd h=>?_;obtain⟨x,dx,v,rfl,hx,q⟩:=h;refine⟨[some (.ref x),some v],_,rfl,(z4 (Se (z8 0) (z8 1) rfl)),?_⟩;walk_at"rp";exact⟨x,C,dx,[],rfl,hx,CL,na,by decide,q⟩
theorem ig{K:W.Frag}{H:Hp}:∀(n:Nat){us:List V}{ts:List Say},SaysAt K H us ts->SaysAt K H (us.take n) (ts.take n)
 |0,_,_,_=>trivial
 |n+1,[],[],_=>trivial
 |n+1,u::us,t::ts,h=>⟨h.1,ig n h.2⟩
 |n+1,[],_::_,h=>h.elim
 |n+1,_::_,[],h=>h.elim
theorem ie{K:W.Frag}{H:Hp}:∀(n:Nat){us:List V}{ts:List Say},SaysAt K H us ts->SaysAt K H (us.drop n) (ts.drop n)
 |0,_,_,h=>h
 |n+1,[],[],_=>trivial
 |n+1,u::us,t::ts,h=>ie n h.2
 |n+1,[],_::_,h=>h.elim
 |n+1,_::_,[],h=>h.elim
def fh(K:W.Frag)(Pt:Addr):Sp:=λvs H Q _=>∃(a:Addr)(ns:List Int),vs=[.ref a]/\SqL K H a (ns.map V.int)/\ns.length<=63/\Tb Pt H/\∀H',Q (.bl true) H'
theorem No{ts:List Say}{xs:List Str}(h:Lst ts xs)(hp:∀t∈ts,t.pieces<=39):Lst ((ts.drop 1++ts.take 1).map Say.neg) xs:=by
 have mm:∀t,t∈ts.drop 1++ts.take 1->t∈ts:=λt ht=>by
  rcases zE.mp ht with z|z
  ·exact wD z
  ·exact xN z
 have h1:=h.lo;have h2:=h.hi;refine⟨?_,?_,λt ht=>?_,λx hx=>?_,h.xl,h.ok⟩
 ·rw[zY,zS,xR,yU];lia
 ·rw[zY,zS,xR,yU];lia
 ·obtain⟨t',Bg,rfl⟩:=zD.mp ht;have:=hp t' (mm t' Bg);simp only[Say.pieces];lia
 ·obtain⟨t,ht,FA⟩:=mem_allL.mp hx;obtain⟨t',Bg,rfl⟩:=zD.mp ht;exact h.nm x (mem_allL.mpr ⟨t',mm t' Bg,FA⟩)
theorem Kp{f Pt CM CI CB CZ CW:Addr}{fd:FuncData}{ds0:List Value}(D:Fun K "law" "law" (top 75) f fd)(pV:zz P w K mg base 13 "_law_list" ["_law_script","_law_k"] (Sz K))(aS:zz P w K mg base 42 "_law_fit_rows" ["_law_sayings"] (vz K))(fK:zz P w K mg base 3 "_law_seats" ["_law_script","_law_k","_law_fit"] (Xd K))(oM:zz P w K mg base 3 "_law_order" ["_law_script","_law_k","_law_many"] (bx K))(mH:zz P w K mg base 3 "_law_weights" ["_law_script","_law_many"] (Mu K))(iA:zz P w K mg base 2 "_law_kinds_right" ["_law_ways"] (bw K CM CI CB CZ CW))(aZ:zz P w K mg base 49 "_law_all_right" ["_law_ways","_law_sayings","_law_judges","_law_order_here","_law_weights_here"] (Y8 K Pt CM CI CB CZ))
  (jX:Mk0 K CM) (fN:mg "Most"=some (.ref CM)) (lV:uk P w K mg base 1 CI ["self","order"] ds0 (nq K CI "order")) (bP:mg "InOrder"=some (.ref CI)) (bT:Mk0 K CB) (aP:mg "ByStrength"=some (.ref CB)) (fM:uk P w K mg base 1 CZ ["self","weights"] [.none] (nq K CZ "weights")) (bA:mg "Nearest"=some (.ref CZ))
  (kM:KindP K CM) (kI:KindP K CI) (kB:KindP K CB) (kZ:KindP K CZ) (tM:jg K CM CI CB CZ CW CM (kRows.getD 0 [])) (tI':jg K CM CI CB CZ CW CI (kRows.getD 1 [])) (tB:jg K CM CI CB CZ CW CB (kRows.getD 2 [])) (tZ:jg K CM CI CB CZ CW CZ (kRows.getD 3 []))
  (aB:mg "len"=none) (aA:mg "tuple"=none):FnOk P w K mg base CX0 50 f fd ["_law_script"] (fh K Pt):=by
 refine P9 D (N:=["_law_script","_law_sayings","_law_other","_law_judges","_law_others","_law_order_here","_law_weights_here","_law_ways","_law_kept","_law_some"]) (by walk_at"sc") (by walk_at"ln") λf cdv A outer s H vs Q E hr nd h=>?_;obtain⟨a,ns,rfl,hS,h63',aT,q⟩:=h;have cS:ns.length<=5000:=yS h63' (by decide);refine⟨[some (.ref a),none,none,none,none,none,none,none,none,none],_,rfl,(z5 (zo 1 nd (zy pV hr (by lia) (z9 (z8 0) (z9 z0 z6))))
  (z5 (zo 2 nd (zd yi rfl aA zc (z9 (yl (ixs:=[]) (zq (own:=["_law_saying_here"]) (N:=[]) rfl rfl rfl rfl rfl rfl rfl (by decide +kernel) rfl rfl rfl) rfl (y6 (zt zg (x9 (z8 1) (xg z0) ya) (x9 (z8 1) ya (xg z0)))) (λ_ _ _ _=>yz) (λ_ _ _ _=>(wu (z9 yn (z9 (z8 0) z6)))) rfl) z6)))
  (z5 (zo 3 nd (zy fK hr (by lia) (z9 (z8 0) (z9 z0 (z9 (zy aS hr (by lia) (z9 (z8 1) z6)) z6)))))
  (z5 (zo 4 nd (zy fK hr (by lia) (z9 (z8 0) (z9 z0 (z9 (zy aS hr (by lia) (z9 (z8 2) z6)) z6)))))
  (z5 (zo 5 nd (zy oM hr (by lia) (z9 (z8 0) (z9 z0 (z9 (zv yp rfl aB ze (z9 (z8 1) z6)) z6)))))
  (z5 (zo 6 nd (zy mH hr (by lia) (z9 (z8 0) (z9 (zv yp rfl aB ze (z9 (z8 1) z6)) z6))))
  (z5 (zo 7 nd (xa (z9 (Wq jX fN) (z9 (Wr lV hr (by lia) bP (z9 (z8 5) z6)) (z9 (Wq bT aP) (z9 (Wr fM hr (by lia) bA (z9 (z8 6) z6)) (z9 (Nt (dvs:=[V.non]) fM (.cons rfl .nil) hr (by lia) bA) z6)))))))
  (z5 (zo 8 nd (wu (z9 (z8 1) (z9 (z8 3) z6))))
  (z5 (za (PW.pt (vf (yd (ye (zy iA hr (by lia) (z9 (z8 7) z6)))) (vv (yd (ye (zy aZ hr (by lia) (z9 (z8 7) (z9 (z8 1) (z9 (z8 3) (z9 (z8 5) (z9 (z8 6) z6))))))))))) (z4 (zw yg)) zp)
  (z5 (za (yd (ye (zy aZ hr (by lia) (z9 (z8 7) (z9 (z8 2) (z9 (z8 4) (z9 (z8 5) (z9 (z8 6) z6)))))))) (z4 (zw yg)) zp)
  (z5 (zo 9 nd (zy fK hr (by lia) (z9 (z8 0) (z9 z0 (z9 (zy aS hr (by lia) (z9 (z8 1) z6)) z6)))))
  (z5 (za (yd (ye (zy aZ hr (by lia) (z9 (z8 7) (z9 (z8 1) (z9 (zt zg (x9 (z8 9) (xg z0) ya) (x9 (z8 3) ya (xg z0))) (z9 (z8 5) (z9 (z8 6) z6)))))))) (z4 (zw yg)) zp)
  (z4 (zw (gs (zy aZ hr (by lia) (z9 (z8 7) (z9 (z8 1) (z9 (z8 3) (z9 (z8 5) (z9 (z8 6) z6)))))) (rf (wy (wn hr.units) (wu (z9 (z8 1) (z9 (z8 3) z6))) (z8 8) (zm _)))))))))))))))))),?_⟩
 walk_at"rp";refine⟨a,ns,rfl,hS,cS,λb H1 us ts xs s1 hb hT hL AR=>?_⟩;have nO:=hL.hi;have BY:=hL.lo;have aL:=hT.len;walk_at"rp";refine .inr ⟨_,hb,λp1 H2 s2 h2=>?_⟩;rw[qc _ (by lia)]at h2;walk_at"rp";refine .inr ⟨_,(z7 s2).sqT hb,λp2 H3 s3 h3=>?_⟩;rw[vq _ (by lia)]at h3;walk_at"rp";refine .inr ⟨_,_,(z7 s3).sqT h2,h3,by rw[xR,yU,zP];lia,λp3 H4 s4 h4=>?_⟩;have C3:=s2.trans (s3.trans s4);have h4':SqT K H4 p3 (us.drop 1++us.take 1):=h4;have hS4:SaysAt K H4 (us.drop 1++us.take 1) (ts.drop 1++ts.take 1):=(ie 1 (hT.mono (z7 C3))).app (ig 1 (hT.mono (z7 C3)));have hl4:=hS4.len;have ht4:(ts.drop 1++ts.take 1).length=ts.length:=by rw[zS,xR,yU];lia
 generalize hus':us.drop 1++us.take 1=lZ at h4' hS4 hl4;walk_at"rp";refine .inr ⟨⟨_,h4'⟩,λC' s₀ H₀ ex=>?_⟩;refine vp (xs:=lZ) (λD k ys H5=>SaysAt K H5 ys (((ts.drop 1++ts.take 1).take k).map Say.neg)/\k<=lZ.length/\H5 D=some (.lst ys)/\Same H4 H5/\H4 D=none) (by rw[zP];lia) ?_ ?_ ?_ ?_
 ·intro D H5 n5 s5 e5;exact⟨trivial,yQ _,e5,s5,n5⟩
 ·rintro D k ys H5 ⟨hy,hk,e5,s5,_⟩;refine⟨(z7 s5).sqT h4',e5,?_⟩;rw[hy.len,zY,yU];lia
 ·rintro D k v ys H5 hv ⟨hy,hk,e5,s5,n5⟩;obtain⟨t,ht,hvt⟩:=hS4.at k v hv;have qV:k<lZ.length:=(zV.mp hv).1;walk_at"rp";refine⟨sz2,λz H6 n6 s6 e6=>?_⟩;walk_at"rp";have e5':=s6 _ _ e5;have t7:Tups H6 (upd H6 D (.lst (ys++[V.ref z]))):=xq e5';refine⟨e5',CN.mk qV ⟨?_,qV,zx,zu (s5.trans s6) n5 _,n5⟩⟩;rw[yV,ht,zJ];exact(hy.mono ((z7 s6).trans t7)).app ⟨⟨z,v,rfl,t7.sqT (SqT.of e6),hvt.mono ((z7 (s5.trans s6)).trans t7)⟩,trivial⟩
 rintro D5 ys H5 ⟨hy,_,e5,s5,n5⟩;rw[hl4,yX]at hy;walk_at"rp";refine⟨_,.inl (SqL.of e5),λb2 H6 s6 kN=>?_⟩;have hL2:=No hL AR;have GQ:=hy.mono (z7 s6);have BZ:((ts.drop 1++ts.take 1).map Say.neg).length=ts.length:=by rw[zY,ht4]
 generalize(ts.drop 1++ts.take 1).map Say.neg=ts2 at hL2 GQ BZ;have Ba:=C3.trans (s5.trans s6);walk_at"rp";refine⟨b,us,ts,xs,rfl,(z7 Ba).sqT hb,hT.mono (z7 Ba),hL,λd H7 ss R n7 s7 e7 hR hN hF oB=>?_⟩;have pO:=sk hF;have fP:∀r∈R,r.2.length=ts.length:=λr hr=>xi hF (yN (f:=(·.2)) hr);have DJ:=Ba.trans s7;walk_at"rp";refine⟨a,d,ns,31,R,ts.length,rfl,(s1.trans DJ).seq hS,cS,by decide,e7,hR,fP,pO,oB,λj H8 J s8 hJ hodd hJl hJR=>?_⟩;have s68:=s7.trans s8;walk_at"rp";refine⟨b2,ys,ts2,xs,rfl,(z7 s68).sqT kN,GQ.mono (z7 s68),hL2,λd2 H9 ss2 R2 n9 s9 e9 hR2 hN2 DW hRl2=>?_⟩;have hR12:=sk DW;have hRm2:∀r∈R2,r.2.length=ts2.length:=λr hr=>xi DW (yN (f:=(·.2)) hr);have E1:=DJ.trans (s8.trans s9);walk_at"rp";refine⟨a,d2,ns,44,R2,ts2.length,rfl,(s1.trans E1).seq hS,cS,by decide,e9,hR2,hRm2,hR12,hRl2,λj2 mT J2 oP Bv hodd2 hJl2 hJR2=>?_⟩;have jB:=E1.trans oP;walk_at"rp";refine⟨_,.inr ((z7 jB).sqT hb),?_⟩;rw[aL];refine⟨a,ns,20,ts.length,rfl,(s1.trans jB).seq hS,cS,by decide,by lia,λo H11 ord BO ho eY lX=>?_⟩;have Ah:=jB.trans BO;walk_at"rp";refine⟨_,.inr ((z7 Ah).sqT hb),?_⟩;rw[aL];refine⟨a,ns,ts.length,rfl,(s1.trans Ah).seq hS,cS,by lia,λwt mS ws eL hwt AQ=>?_⟩;walk_at"rp";have Ag:=Ah.trans eL;intro x0 d0 nx0 nd0 ne0;have oW:Same mS (upd (upd mS d0 (.own x0)) x0 (.ins CM d0 [])):=zu (zu (Same.refl _) nd0 _) nx0 _;have i0:(upd (upd mS d0 (.own x0)) x0 (.ins CM d0 [])) x0=some (.ins CM d0 []):=zx;generalize(upd (upd mS d0 (.own x0)) x0 (.ins CM d0 []))=HV at oW i0 ⊢;intro x1 d1 nx1 nd1 ne1;refine⟨x1,d1,V.ref o,rfl,zx,rfl,?_⟩;have E6:Same HV (upd (upd (upd HV d1 (.own x1)) x1 (.ins CI d1 [])) x1 (.ins CI d1 [((Str.ofString "order":Str),.ref o)])):=zu (zu (zu (Same.refl _) nd1 _) nx1 _) nx1 _;have i1:(upd (upd (upd HV d1 (.own x1)) x1 (.ins CI d1 [])) x1 (.ins CI d1 [((Str.ofString "order":Str),.ref o)])) x1=some (.ins CI d1 [((Str.ofString "order":Str),.ref o)]):=zx;generalize(upd (upd (upd HV d1 (.own x1)) x1 (.ins CI d1 [])) x1 (.ins CI d1 [((Str.ofString "order":Str),.ref o)]))=Eb at E6 i1 ⊢;intro x2 qK nx2 nd2 ne2;have E5:Same Eb (upd (upd Eb qK (.own x2)) x2 (.ins CB qK [])):=zu (zu (Same.refl _) nd2 _) nx2 _;have i2:(upd (upd Eb qK (.own x2)) x2 (.ins CB qK [])) x2=some (.ins CB qK []):=zx;generalize(upd (upd Eb qK (.own x2)) x2 (.ins CB qK []))=H15 at E5 i2 ⊢;intro x3 d3 nx3 nd3 ne3;refine⟨x3,d3,V.ref wt,rfl,zx,rfl,?_⟩;have E4:Same H15 (upd (upd (upd H15 d3 (.own x3)) x3 (.ins CZ d3 [])) x3 (.ins CZ d3 [((Str.ofString "weights":Str),.ref wt)])):=zu (zu (zu (Same.refl _) nd3 _) nx3 _) nx3 _;have i3:(upd (upd (upd H15 d3 (.own x3)) x3 (.ins CZ d3 [])) x3 (.ins CZ d3 [((Str.ofString "weights":Str),.ref wt)])) x3=some (.ins CZ d3 [((Str.ofString "weights":Str),.ref wt)]):=zx;generalize(upd (upd (upd H15 d3 (.own x3)) x3 (.ins CZ d3 [])) x3 (.ins CZ d3 [((Str.ofString "weights":Str),.ref wt)]))=H16 at E4 i3 ⊢;intro x4 d4 nx4 nd4 ne4;refine⟨x4,d4,V.non,rfl,zx,rfl,?_⟩;have E3:Same H16 (upd (upd (upd H16 d4 (.own x4)) x4 (.ins CZ d4 [])) x4 (.ins CZ d4 [((Str.ofString "weights":Str),.non)])):=zu (zu (zu (Same.refl _) nd4 _) nx4 _) nx4 _;have i4:(upd (upd (upd H16 d4 (.own x4)) x4 (.ins CZ d4 [])) x4 (.ins CZ d4 [((Str.ofString "weights":Str),.non)])) x4=some (.ins CZ d4 [((Str.ofString "weights":Str),.non)]):=zx;generalize(upd (upd (upd H16 d4 (.own x4)) x4 (.ins CZ d4 [])) x4 (.ins CZ d4 [((Str.ofString "weights":Str),.non)]))=H17 at E3 i4 ⊢;refine⟨by simp only[yR,xA];rw[zP];decide,λwl H18 n18 E2 e18=>?_⟩;walk_at"rp";refine⟨sz2,λkp Dx n19 Ez e19=>?_⟩;have BJ:=E2.trans Ez;have BK:=E3.trans BJ;have BL:=E4.trans BK;have BM:=E5.trans BL;have BN:=E6.trans BM;have nR:=oW.trans BN;have Bb:=Ag.trans nR;have j0:=BN _ _ i0;have j1:=BM _ _ i1;have j2':=BL _ _ i2;have j3:=BK _ _ i3;have j4:=BJ _ _ i4;have w19:=Ez _ _ e18;have oU:Tb Pt Dx:=aT.same (s1.trans Bb);have S19:=(s1.trans Bb).seq hS;have D':=(z7 Bb).sqT hb;have Ea:=hT.mono (z7 Bb);have Ev:=s9.trans (oP.trans (BO.trans (eL.trans nR)));have J19:=hJ.mono (z7 Ev);have E7:=BO.trans (eL.trans nR);have J219:=Bv.mono (z7 E7);have Ew:=s68.trans Ev;have b219:=(z7 Ew).sqT kN;have U219:=GQ.mono (z7 Ew);have o19:=(z7 (eL.trans nR)).sqT ho;have wt19:=(z7 nR).sqT hwt;have call:∀{Hn:Hp}{b' j':Addr}{lZ:List V}{DB:List Say}{xs':List Str}{J':List (Addr×List Bool)}{Qq:VK},SameP Pt Dx Hn->Tb Pt Hn->SqT K Hn b' lZ->SaysAt K Hn lZ DB->Lst DB xs'->DB.length=ts.length->JudgesAt K Hn j' J' DB.length->(∀H',SameP Pt Hn H'->Tb Pt H'->Qq (.bl true) H')->Y8 K Pt CM CI CB CZ [.ref wl,.ref b',.ref j',.ref o,.ref wt] Hn Qq E0:=λ{Hn b' j' lZ DB xs' J' Qq} s T h1 h2 h3 h4 h5 h6 =>
  ⟨wl,b',j',o,wt,x0,d0,x1,d1,x2,qK,x3,d3,x4,d4,lZ,DB,xs',J',ord,ws,rfl,yu oU s w19,yu oU s j0,yu oU s j1,yu oU s j2',yu oU s j3,yu oU s j4,h1,h2,h3,h5,(zj oU s).sqT o19,eY,λn=>by rw[h4];exact lX n,(zj oU s).sqT wt19,by rw[h4];exact AQ,T,h6⟩
 walk_at"rp";refine⟨wl,[x0,x1,x2,x3,x4],rfl,w19,rfl,λi x hx=>?_,λH20 s20=>?_⟩
 ·match i,hx with
  |0,hx=>cases hx;exact⟨CM,d0,[],j0,kM,tM⟩
  |1,hx=>cases hx;exact⟨CI,d1,_,j1,kI,tI'⟩
  |2,hx=>cases hx;exact⟨CB,qK,_,j2',kB,tB⟩
  |3,hx=>cases hx;exact⟨CZ,d3,_,j3,kZ,tZ⟩
  |4,hx=>cases hx;exact⟨CZ,d4,_,j4,kZ,tZ⟩
  |i+5,hx=>simp at hx
 have t20:=z7 s20;walk_at"rp";refine call (yh s20) (oU.same s20) (t20.sqT D') (Ea.mono t20) hL rfl (J19.mono t20) λH21 s21 T21=>?_;have Af:SameP Pt Dx H21:=(yh s20).trans s21;have t21:=zj oU Af;walk_at"rp";refine call Af T21 (t21.sqT b219) (U219.mono t21) hL2 BZ (J219.mono t21) λH22 s22 T22=>?_;have BI:=Af.trans s22;have t22:=zj oU BI;walk_at"rp";refine⟨b,us,ts,xs,rfl,t22.sqT D',Ea.mono t22,hL,λdq H23 ss3 R3 n23 AZ e23 hR3 hN3 hF3 hRl3=>?_⟩;have hR13:=sk hF3;have hRm3:∀r∈R3,r.2.length=ts.length:=λr hr=>xi hF3 (yN (f:=(·.2)) hr);have BH:SameP Pt Dx H23:=BI.trans (yh AZ);walk_at"rp";refine⟨a,dq,ns,35,R3,ts.length,rfl,L6 oU BH S19,cS,by decide,e23,hR3,hRm3,hR13,hRl3,λjs H24 J3 DI hJ3 hodd3 hJl3 hJR3=>?_⟩;have BG:SameP Pt Dx H24:=BH.trans (yh DI);have t24:=zj oU BG;have J24:=J19.mono t24;have T24:=(T22.same AZ).same DI;walk_at"rp";refine .inr ⟨_,hJ3.sq,λq1 H25 DH h25=>?_⟩;rw[qc _ (by lia)]at h25;walk_at"rp";refine .inr ⟨_,(z7 DH).sqT J24.sq,λq2 H26 DG h26=>?_⟩;rw[vq _ (by lia)]at h26;walk_at"rp";have hl3:=hJ3.lo;have hlJ:=J24.lo;refine .inr ⟨_,_,(z7 DG).sqT h25,h26,by rw[xR,yU,zY,zY,zP];lia,λq3 H27 s27 h27=>?_⟩;have h27':SqT K H27 q3 ((J3.drop 1++J.take 1).map λr=>V.ref r.1):=by rw[zJ,List.map_drop,sF];exact h27
 have Ab:=DH.trans (DG.trans s27);have BE:=z7 Ab;have Ae:SameP Pt Dx H27:=BG.trans (yh Ab);have t27:=zj oU Ae;have JJ27:JudgesAt K H27 q3 (J3.drop 1++J.take 1) ts.length:=⟨h27',λr hr=>by
  rcases zE.mp hr with z|z
  ·exact BE.sqT (hJ3.row r (wD z))
  ·exact BE.sqT (J24.row r (xN z)),λr hr=>by
  rcases zE.mp hr with z|z
  ·exact hJ3.len r (wD z)
  ·exact J24.len r (xN z),by rw[zS,xR,yU];lia,by rw[zS,xR,yU];lia⟩
 walk_at"rp";refine call Ae (T24.same Ab) (t27.sqT D') (Ea.mono t27) hL rfl JJ27 λH28 s28 T28=>?_;have Ad:=Ae.trans s28;have t28:=zj oU Ad;walk_at"rp";refine call Ad T28 (t28.sqT D') (Ea.mono t28) hL rfl (J19.mono t28) λH29 s29 T29=>?_;have Ey:=Ad.trans s29;walk_at"rp";refine⟨sz2,λkq H30 n30 s30 e30=>?_⟩;have Ex:SameP Pt Dx H30:=Ey.trans (yh s30);have DC:=zj oU Ex;have J30:=J19.mono DC;walk_at"rp";have sh:=bp (ts:=ts) (ks:=J.map (·.2)) λt ht=>⟨hL.pc t ht,λx hx=>hL.ok x (hL.nm x (mem_allL.mpr ⟨t,ht,hx⟩))⟩
 refine⟨_,_,Z7 (SqT.of e30) (DC.sqT D') (Ea.mono DC) J30.sq J30.row,Z7 (DC.sqT (SqT.of e19)) (DC.sqT D') (Ea.mono DC) J30.sq J30.row,sh,sh,?_⟩;rw[qd sh];exact q _
end
end Kx
namespace Kx
open PySem PySem.Spec L2 My
open PyProof.Rows hiding St
theorem L8{K:W.Frag}{x:Str}{f c P:Addr}{oc oc2:Value}{od od2:Option Addr}{fd:FuncData}{sl DE:Array (Option Value)}{vs:Array Value}(a:W.nsIn K mainGlobals x=some (some (.ref f)))(l:K.lookup f=some ⟨oc,od,.func fd,sl⟩)(hc:fd.code = .ref c)(lc:K.lookup c=some ⟨oc2,od2,.fields vs,DE⟩)(hv:(vs[11]?:Option Value)=some (.ref P)):W.tabIn K x=some (c,P):=by
 unfold W.tabIn;rw[a];dsimp only;rw[l];dsimp only;rw[hc];dsimp only;rw[lc];dsimp only;rw[hv]
theorem all_mk{l:W.OpenLaw}{w:World}{K:W.Frag}{h:Heap}{mg:Str->Option Value}{fa:Addr}(X:K.In h)(G:h.Ns mainGlobals mg)(hfa:mg "law"=some (.ref fa))
  {Dr:Addr}{EN HQ:Option Addr}{Eu:Array (Option Value)}{ER Fi HC EH Ck HF:Value}
  {Cg:Addr}{Ef:Value}{Em:Option Addr}{Eh:Nat}{Ej:Array (Option Value)}
  {Dq:Addr}{EM HP:Option Addr}{Et:Array (Option Value)}{EQ Fh HB EG Cj HE:Value}
  {Cf:Addr}{Ee:Value}{El:Option Addr}{Eg:Nat}{Ei:Array (Option Value)}
  {Dp:Addr}{EL HN:Option Addr}{Er:Array (Option Value)}{EO Fg HA EF A6 HD:Value}
  {cL pL:Addr}{lo_L:Value}{ld_L:Option Addr}{Ec:Array Value}{ls_L:Array (Option Value)}
  {A3:Addr}{C8 A9:Option Addr}{Cz:Array (Option Value)}{C9 Aj A4 Ai pQ A5:Value}
  {aN:Addr}
  {aJ:Addr}
  {cO:Addr}{jH jS:Option Addr}{jA:Array (Option Value)}{jJ jL jO jF eA jQ:Value}
  {aG:Addr}
  {aI:Addr}
  {cN:Addr}{jG jR:Option Addr}{iZ:Array (Option Value)}{jI jK jN jE dZ jP:Value}
  {dY:Addr}{iV:Value}{iY:Option Addr}{iW:Nat}{iX:Array (Option Value)}
  {gS:Addr}
  (mW:Def K mg "who_say" (top 1) ["judges","number","truth"])
  (fG:Def K mg "most_say_yes" (top 2) ["judges","number"])
  (AA:Def K mg "most" (top 3) ["judges"])
  (gT:Def K mg "letters_in" (top 5) ["saying"])
  (lB:Def K mg "names_in" (top 6) ["saying"])
  (qM:Def K mg "is_so" (top 7) ["saying","held"])
  (fF:Def K mg "ways_to_hold" (top 9) ["names"])
  (mZ:Def K mg "held_by" (top 10) ["number","names"])
  (lA:Def K mg "names_of" (top 12) ["sayings"])
  (lM:Def K mg "all_held" (top 13) ["sayings"])
  (oG:Def K mg "row_of" (top 14) ["sayings","held"])
  (lL:Def K mg "fit_rows" (top 15) ["sayings"])
  (oJ:Def K mg "agrees" (top 16) ["row","part"])
  (hU:Def K mg "any_agrees" (top 17) ["rows","part"])
  (fW:Def K mg "weights_for" (top 19) ["row","weights"])
  (oF:Def K mg "unlike" (top 20) ["row","other","weights"])
  (HS:W.nsIn K mainGlobals "distance"=some (some (.ref Dr))) (Fa:K.lookup Dr=some ⟨ER,EN,.func (W.fnOf "distance" "distance" (yx (top 21)) (zi (top 21)) (zr (top 21)) (.ref Cg) Fi HC EH HQ Ck HF),Eu⟩) (HK:W.codeIn K Ck "distance"=true) (Ff:W.keepIn K (.ref Dr)=true) (Cw:K.lookup Cg=some ⟨Ef,Em,.seq #[.none] Eh,Ej⟩)
  (HR:W.nsIn K mainGlobals "nearest"=some (some (.ref Dq))) (EZ:K.lookup Dq=some ⟨EQ,EM,.func (W.fnOf "nearest" "nearest" (yx (top 22)) (zi (top 22)) (zr (top 22)) (.ref Cf) Fh HB EG HP Cj HE),Et⟩) (HJ:W.codeIn K Cj "nearest"=true) (Fe:W.keepIn K (.ref Dq)=true) (Cv:K.lookup Cf=some ⟨Ee,El,.seq #[.none] Eg,Ei⟩)
  (mU:Def K mg "without" (top 24) ["part","pair"])
  (dE:Def K mg "needed_against" (top 25) ["rows","part","others"])
  (fI:Def K mg "by_judges" (top 27) ["judges","number","truth"])
  (nA:Def K mg "by_part" (top 28) ["rows","part","number","truth"])
  (lK:Def K mg "in_order" (top 29) ["sayings","judges","order"])
  (eG:Def K mg "all_by_judges" (top 31) ["judges","row"])
  (kY:Def K mg "strength" (top 32) ["judges","number"])
  (Dw:W.nsIn K mainGlobals "order_of_strength"=some (some (.ref Dp))) (CA:K.lookup Dp=some ⟨EO,EL,.func (W.fnOf "order_of_strength" "order_of_strength" (yx (top 33)) (zi (top 33)) (zr (top 33)) .none Fg HA EF HN A6 HD),Er⟩) (HI:W.codeIn K A6 "order_of_strength"=true) (Fd:W.keepIn K (.ref Dp)=true)
  (Dv:A6 = .ref cL) (EW:K.lookup cL=some ⟨lo_L,ld_L,.fields Ec,ls_L⟩) (EB:(Ec[11]?:Option Value)=some (.ref pL)) (EE:K.lookup pL=none)
  (lJ:Def K mg "_law_cell" (top 40) ["_law_script","_law_k"])
  (lD:Def K mg "_law_pick" (top 41) ["_law_script","_law_k","_law_many"])
  (lE:Def K mg "_law_next" (top 42) ["_law_k","_law_j"])
  (iT:Def K mg "_law_names" (top 43) ["_law_script","_law_k","_law_many"])
  (gW:Def K mg "_law_saying" (top 44) ["_law_script","_law_k","_law_room","_law_names_here"])
  (oH:Def K mg "_law_so" (top 45) ["_law_saying_here","_law_held_here"])
  (lH:Def K mg "_law_held" (top 46) ["_law_number","_law_names_here"])
  (gU:Def K mg "_law_within" (top 47) ["_law_saying_here"])
  (eF:Def K mg "_law_all_names" (top 48) ["_law_sayings"])
  (lG:Def K mg "_law_knit" (top 49) ["_law_names_here","_law_truths","_law_word"])
  (gY:Def K mg "_law_linked" (top 50) ["_law_script","_law_k","_law_names_here"])
  (lF:Def K mg "_law_list" (top 51) ["_law_script","_law_k"])
  (mX:Def K mg "_law_row" (top 52) ["_law_sayings","_law_held_here"])
  (fH:Def K mg "_law_fit_rows" (top 53) ["_law_sayings"])
  (lC:Def K mg "_law_same" (top 54) ["_law_found","_law_due"])
  (iS:Def K mg "_law_order" (top 55) ["_law_script","_law_k","_law_many"])
  (dA:Def K mg "_law_most_of" (top 56) ["_law_judges","_law_number"])
  (iQ:Def K mg "_law_taken" (top 57) ["_law_fit","_law_judges","_law_order_here"])
  (eB:Def K mg "_law_strongest" (top 58) ["_law_judges"])
  (mY:Def K mg "_law_far" (top 59) ["_law_row_here","_law_judges","_law_weights_here"])
  (dG:Def K mg "_law_first_near" (top 60) ["_law_fit","_law_judges","_law_weights_here"])
  (lI:Def K mg "_law_goes" (top 61) ["_law_fit","_law_part","_law_number","_law_truth"])
  (fY:Def K mg "_law_is_part" (top 62) ["_law_part","_law_row_here","_law_ahead"])
  (dF:Def K mg "_law_follows_so" (top 63) ["_law_reason","_law_fit","_law_row_here","_law_number","_law_ahead"])
  (gX:Def K mg "_law_sayers" (top 64) ["_law_judges","_law_number","_law_truth"])
  (cA:Def K mg "_law_reasons_right" (top 65) ["_law_found","_law_fit","_law_judges","_law_row_here","_law_order_here"])
  (gZ:Def K mg "_law_is_row" (top 66) ["_law_found","_law_due"])
  (iR:Def K mg "_law_seats" (top 67) ["_law_script","_law_k","_law_fit"])
  (fX:Def K mg "_law_weights" (top 68) ["_law_script","_law_many"])
  (eC:Def K mg "_law_by_judges" (top 69) ["_law_found","_law_judges","_law_row_here"])
  (bF:Def K mg "_law_taken_right" (top 70) ["_law_way","_law_sayings","_law_judges","_law_fit","_law_order_here"])
  (bR:Def K mg "_law_told_right" (top 71) ["_law_way","_law_sayings","_law_judges","_law_row_here"])
  (eE:Def K mg "_law_all_right" (top 72) ["_law_ways","_law_sayings","_law_judges","_law_order_here","_law_weights_here"])
  (iU:Def K mg "_law_kinds" (top 73) ["_law_way"])
  (cW:Def K mg "_law_kinds_right" (top 74) ["_law_ways"])
  (Co:W.nsIn K mainGlobals "law"=some (some (.ref A3))) (BS:K.lookup A3=some ⟨C9,C8,.func (W.fnOf "law" "law" (yx (top 75)) (zi (top 75)) (zr (top 75)) .none Aj A4 Ai A9 pQ A5),Cz⟩) (Cm:W.codeIn K pQ "law"=true) (BU:W.keepIn K (.ref A3)=true)
  (qL:W.nsIn K mainGlobals "Most"=some (some (.ref aN))) (qR:Cls K aN) (jX:Mk0 K aN)
  (lO:DefM K aN "row" "Most.row" (xk (top 35) 0) ["self","sayings","judges"])
  (fJ:DefM K aN "reasons" "Most.reasons" (xk (top 35) 1) ["self","sayings","judges"])
  (kX:W.nsIn K mainGlobals "InOrder"=some (some (.ref aJ))) (cR:Cls K aJ) (kR:W.makesIn K aJ=true) (kU:W.keepIn K (.ref aJ)=true)
  (fE:W.findIn K (.ref aJ) "__init__"=some (some (.ref cO))) (eV:K.lookup cO=some ⟨jJ,jH,.func (W.fnOf "__init__" "InOrder.__init__" (yx (xk (top 36) 0)) (zi (xk (top 36) 0)) (zr (xk (top 36) 0)) .none jL jO jF jS eA jQ),jA⟩) (fC:W.codeIn K eA "InOrder.__init__"=true) (eO:W.isFn K (.ref cO)=true) (aY:NoAttr K aJ "order")
  (gA:DefM K aJ "row" "InOrder.row" (xk (top 36) 1) ["self","sayings","judges"])
  (cY:DefM K aJ "reasons" "InOrder.reasons" (xk (top 36) 2) ["self","sayings","judges"])
  (fV:W.nsIn K mainGlobals "ByStrength"=some (some (.ref aG))) (gB:Cls K aG) (bT:Mk0 K aG)
  (dH:DefM K aG "row" "ByStrength.row" (xk (top 37) 0) ["self","sayings","judges"])
  (bV:DefM K aG "reasons" "ByStrength.reasons" (xk (top 37) 1) ["self","sayings","judges"])
  (kW:W.nsIn K mainGlobals "Nearest"=some (some (.ref aI))) (dQ:Cls K aI) (kQ:W.makesIn K aI=true) (kT:W.keepIn K (.ref aI)=true)
  (fD:W.findIn K (.ref aI) "__init__"=some (some (.ref cN))) (eU:K.lookup cN=some ⟨jI,jG,.func (W.fnOf "__init__" "Nearest.__init__" (yx (xk (top 38) 0)) (zi (xk (top 38) 0)) (zr (xk (top 38) 0)) (.ref dY) jK jN jE jR dZ jP),iZ⟩) (fB:W.codeIn K dZ "Nearest.__init__"=true) (eM:W.isFn K (.ref cN)=true) (bX:NoAttr K aI "weights") (cE:K.lookup dY=some ⟨iV,iY,.seq #[.none] iW,iX⟩)
  (fZ:DefM K aI "row" "Nearest.row" (xk (top 38) 1) ["self","sayings","judges"])
  (cX:DefM K aI "reasons" "Nearest.reasons" (xk (top 38) 2) ["self","sayings","judges"])
  (A7:W.nsIn K mainGlobals "Way"=some (some (.ref gS)))
  (Fc:W.specialIn K (.builtin "object.__class__") "__get__"=some (some (.builtin "getset_descriptor.__get__"))) (Fb:W.takesIn K (.builtin "object.__class__")=some true)
  (qF:W.findIn K (.ref aN) "__class__"=some (some (.builtin "object.__class__"))) (qE:W.mroIn K aN (.type "object")=some true)
  (gM:W.kitOne K (.ref aN) (.ref aN)=some true)
  (dU:W.kitOne K (.ref aN) (.ref aJ)=some false)
  (cH:W.kitOne K (.ref aN) (.ref aG)=some false)
  (dS:W.kitOne K (.ref aN) (.ref aI)=some false)
  (iL:W.kitOne K (.ref aN) (.ref gS)=some true)
  (kG:W.findIn K (.ref aJ) "__class__"=some (some (.builtin "object.__class__"))) (kE:W.mroIn K aJ (.type "object")=some true)
  (dW:W.kitOne K (.ref aJ) (.ref aN)=some false)
  (cJ:W.kitOne K (.ref aJ) (.ref aJ)=some true)
  (bJ:W.kitOne K (.ref aJ) (.ref aG)=some false)
  (cI:W.kitOne K (.ref aJ) (.ref aI)=some false)
  (eX:W.kitOne K (.ref aJ) (.ref gS)=some true)
  (fT:W.findIn K (.ref aG) "__class__"=some (some (.builtin "object.__class__"))) (fS:W.mroIn K aG (.type "object")=some true)
  (cK:W.kitOne K (.ref aG) (.ref aN)=some false)
  (bL:W.kitOne K (.ref aG) (.ref aJ)=some false)
  (aV:W.kitOne K (.ref aG) (.ref aG)=some true)
  (bK:W.kitOne K (.ref aG) (.ref aI)=some false)
  (cU:W.kitOne K (.ref aG) (.ref gS)=some true)
  (kF:W.findIn K (.ref aI) "__class__"=some (some (.builtin "object.__class__"))) (kD:W.mroIn K aI (.type "object")=some true)
  (dR:W.kitOne K (.ref aI) (.ref aN)=some false)
  (cG:W.kitOne K (.ref aI) (.ref aJ)=some false)
  (bI:W.kitOne K (.ref aI) (.ref aG)=some false)
  (cF:W.kitOne K (.ref aI) (.ref aI)=some true)
  (eW:W.kitOne K (.ref aI) (.ref gS)=some true)
  (BB:W.nsIn K mainGlobals "len"=some none)
  (qB:W.nsIn K mainGlobals "range"=some none)
  (BA:W.nsIn K mainGlobals "max"=some none)
  (B9:W.nsIn K mainGlobals "min"=some none)
  (gK:W.nsIn K mainGlobals "isinstance"=some none)
  (qA:W.nsIn K mainGlobals "tuple"=some none)
  (rT:W.nsIn K mainGlobals "list"=some none)
  (nQ:W.nsIn K mainGlobals "sorted"=some none)
  (B8:W.nsIn K mainGlobals "set"=some none)
  (rV:W.nsIn K mainGlobals "bool"=some none)
  (B6:W.nsIn K mainGlobals "sum"=some none)
  (B5:W.nsIn K mainGlobals "zip"=some none)
  (iK:W.nsIn K mainGlobals "enumerate"=some none)
  (BD:W.nsIn K mainGlobals "abs"=some none)
  (BC:W.nsIn K mainGlobals "int"=some none)
  (B7:W.nsIn K mainGlobals "str"=some none) :
  ∃(fd:FuncData)(c P:Addr),(∀(s:Shared)(v:Value),BindsTo s fd ⟨[v],[]⟩ [("_law_script",v)])/\W.tabIn K "order_of_strength"=some (c,P)/\K.lookup P=none/\∀base:Heap,K.In base->base.Ns mainGlobals mg->Zr base mg c P->FnOk l.prog w K mg base CX0 50 fa fd ["_law_script"] (fh K P):=by
 have e:=hfa.symm.trans (uU X G Co);cases e;have pR:DefD K mg "distance" (top 21) ["row","judges","weights"] [.none]:=Wa X G HS Fa HK Ff (sj Cw rfl rfl λus hl=>match us,hl with|[_,_,_],_=>⟨_,rfl,rfl⟩) (sj Cw rfl rfl λus hl=>match us,(show us.length=2 by simpa using hl)with|[_,_],_=>⟨_,rfl,rfl⟩);have rA:DefD K mg "nearest" (top 22) ["sayings","judges","weights"] [.none]:=Wa X G HR EZ HJ Fe (sj Cv rfl rfl λus hl=>match us,hl with|[_,_,_],_=>⟨_,rfl,rfl⟩) (sj Cv rfl rfl λus hl=>match us,(show us.length=2 by simpa using hl)with|[_,_],_=>⟨_,rfl,rfl⟩);have fR:DefL K mg "order_of_strength" (top 33) ["judges"] cL:=Na X G Dw CA HI Fd Dv λ_ _ _ _ _ _ us hl=>by obtain⟨_,e⟩:=len1 hl;rw[e];rfl
 have fQ:W.tabIn K "order_of_strength"=some (cL,pL):=L8 Dw CA Dv EW EB;have fN:=uU X G qL;have bP:=uU X G kX;have lP:DefN K aJ "InOrder.__init__" (xk (top 36) 0) ["self","order"] []:=V9 fE eV fC eO kR kU (.all λus hl=>by obtain⟨_,_,e⟩:=len2 hl;rw[e];rfl) (.all λus hl=>by obtain⟨_,_,e⟩:=len2 hl;rw[e];rfl);have aP:=uU X G fV;have bA:=uU X G kW;have lN:DefN K aI "Nearest.__init__" (xk (top 38) 0) ["self","weights"] [.none]:=V9 fD eU fB eM kQ kT (sj cE rfl rfl λus hl=>match us,hl with|[_,_],_=>⟨_,rfl,rfl⟩) (sj cE rfl rfl λus hl=>match us,(show us.length=1 by simpa using hl)with|[_],_=>⟨_,rfl,rfl⟩);have oZ:=uU X G A7;have Bc:KindP K aN:=⟨qR,qF,Fc,Fb,qE⟩
 have Bd:jg K aN aJ aG aI gS aN [true,false,false,false,true]:=⟨_,_,_,_,_,rfl,gM,dU,cH,dS,iL⟩
 have pB:KindP K aJ:=⟨cR,kG,Fc,Fb,kE⟩
 have pD:jg K aN aJ aG aI gS aJ [false,true,false,false,true]:=⟨_,_,_,_,_,rfl,dW,cJ,bJ,cI,eX⟩
 have mC:KindP K aG:=⟨gB,fT,Fc,Fb,fS⟩
 have mD:jg K aN aJ aG aI gS aG [false,false,true,false,true]:=⟨_,_,_,_,_,rfl,cK,bL,aV,bK,cU⟩
 have pA:KindP K aI:=⟨dQ,kF,Fc,Fb,kD⟩
 have pC:jg K aN aJ aG aI gS aI [false,false,false,true,true]:=⟨_,_,_,_,_,rfl,dR,cG,bI,cF,eW⟩
 have aB:=yB X G BB;have aD:=yB X G qB;have nE:=yB X G BA;have bO:=yB X G B9;have aC:=yB X G gK;have aA:=yB X G qA;have aR:=yB X G rT;have aH:=yB X G nQ;have aQ:=yB X G B8;have bD:=yB X G rV;have oY:=yB X G B6;have eQ:=yB X G B5;have aM:=yB X G iK;have iC:=yB X G BD;have eS:=yB X G BC;have kC:=yB X G B7;have HW:=Xy (st:=top 75) BS Cm BU;refine⟨W.fnOf "law" "law" (yx (top 75)) (zi (top 75)) (zr (top 75)) .none Aj A4 Ai A9 pQ A5,cL,pL,λs v=>.of_eq rfl,fQ,EE,λbase _ _ LT=>?_⟩;have pY:=Nz (P:=l.prog) (w:=w) (base:=base) lJ aB;have gC:=N9 lD pY;have Dy:=N7 (P:=l.prog) (w:=w) (base:=base) lE;have B2:=Rk iT gC aB aD;have C_so:=a8 (P:=l.prog) (w:=w) (base:=base) qM 40;have rD:=Yo (P:=l.prog) (w:=w) (base:=base) lB (lj gT 40) aH aQ aA;have rC:=Yp lA rD aH aQ aA;have AK:=U5 (P:=l.prog) (w:=w) (base:=base) mZ aA;have rJ:=Yi lM rC AK (Oa fF) aD;have B0:=Rm oG C_so aA;have Ct:=Yl lL rJ B0 aH aQ;have gG:=ax (P:=l.prog) (w:=w) (base:=base) pR (Yr fW aA) (Vg oF aM) oY;have iG:=Yq rA Ct gG eQ bO;have qN:=Ks (P:=l.prog) (w:=w) (base:=base) mW aM;have iH:=N4 AA (Yn fG qN aB) aB aD aA;have qP:=jo hU (U4 (P:=l.prog) (w:=w) (base:=base) oJ);have AG:=Ve dE (Ys (P:=l.prog) (w:=w) (base:=base) mU aA) qP;have fO:=ay lK Ct iH qP (ql fI qN aA) (Yk nA AG) aA aH aD aB;have Cr:=Kr fR LT (bb kY qN aB iC) aB aD aH aA;have D0:=N1 (P:=l.prog) (w:=w) (base:=base) lH aA;have D9:=aw (P:=l.prog) (w:=w) (base:=base) eF (g6 gU 40) aH aQ;have IC:=Va (P:=l.prog) (w:=w) (base:=base) mX (a9 oH bO nE 40) aA;have AJ:=U9 fH D9 IC D0 aH aQ aD;have AD:=g0 (P:=l.prog) (w:=w) (base:=base) gW gC Dy aB 9;have AI:=Vc gY gC (N2 lG aB aD) aB aD bO;have Dz:=N3 lF gC B2 AI AD aD aA;have B1:=Vd iS gC aB aD aA aR;have qO:=Ro iQ (gz (P:=l.prog) (w:=w) (base:=base) dA aB) aB aR;have B4:=dw dG (Ko (P:=l.prog) (w:=w) (base:=base) mY aB aD) bO;have C_i0:=U6 (P:=l.prog) (w:=w) (mg:=mg) (base:=base) lP cR aY;have C_i2:=Vf (P:=l.prog) (w:=w) (mg:=mg) (base:=base) lN dQ bX;have C_io:=Rg (Pt:=pL) gA cR aY fO;have II:=Rh (Pt:=pL) cY cR aY fO;have C_bs:=Rb dH fO Cr;have IJ:=Rc bV fO Cr;have IG:=N5 lO iH;have qQ:=Q9 eG (ql fI qN aA) aM;have IF:=N6 fJ IG qQ;have IE:=Rl (Pt:=pL) fZ dQ bX iG;have ID:=N8 cX IE qQ;have Cs:=gz (P:=l.prog) (w:=w) (base:=base) dA aB;have AE:=Wv (P:=l.prog) (w:=w) (base:=base) lC aB aC aA aR bD eS kC eQ;have AH:=Ym (P:=l.prog) (w:=w) (base:=base) gX aB aD aA;have D4:=N0 (P:=l.prog) (w:=w) (base:=base) lI aB;have IH:=U7 (P:=l.prog) (w:=w) (base:=base) fY aC aA aB bD aH aQ;have C_fs:=Rf dF IH D4 aC aA aB aD;have IB:=ba cA Cs (AE 3) AH C_fs aC aR aB aD;have IK:=Kn eC (AE 4) AH aB aD;have jY:=Ri (P:=l.prog) (w:=w) (base:=base) gZ aB aA bD aC;have HZ:=r8 (Fl:=Fl0 K) (RI:=RI0) (OI:=OI0) (λi H H' m fs t h=>by obtain⟨o,e,ho,r⟩:=h;exact⟨o,e,t.sqT ho,r⟩) (λi m R J row ord e h=>by cases e;exact h) (λi m J o o' e e'=>Eq.trans e (Eq.symm e')) bF C_io II qO jY IB;have HY:=r8 (Fl:=λ_:Unit=>Fl1) (RI:=λ_=>RI1) (OI:=OI1) (λi H H' m fs t h=>h) (λi m R J row ord e h=>Lx e h) (λi m J o o' e e'=>au e e') bF C_bs (v8 IJ (zU _) λvs H Q E ⟨_,h⟩=>h) qO jY IB;have IA:=qm (Pt:=pL) (Fl:=λ_:Unit=>Fl1) (RT:=RTm) (λi H H' m fs t h=>h) (λi ts J a c h1 h2=>Eq.trans h1 (Eq.symm h2)) bR (Kj IG) (Kk IF) jY IK;have Cq:=qm (Fl:=Fl2 K) (RT:=RTn) (λi H H' m fs t h=>by obtain⟨v,e,hw⟩:=h;exact⟨v,e,hw.mono t⟩) (λi ts J a c h1 h2=>Pf h1 h2) bR (Kl IE) (Km ID) jY IK;have AC:=dy (P:=l.prog) (w:=w) (base:=base) eB aB aD iC aH aA;have D6:=Ny eE AJ Cs AC B4 IA HZ HY Cq Cq aB aD aA;have B3:=Rj (P:=l.prog) (w:=w) (base:=base) iU fN bP aP bA oZ aC eS;have C_kr:=U8 cW B3;have Bz:=Rn iR pY gC aB aD aA;have HX:=Kt fX pY gC aD aA;exact Kp HW Dz AJ Bz B1 HX C_kr D6 jX fN C_i0 bP bT aP C_i2 bA Bc pB mC pA Bd pD mD pC aB aA
theorem walk{l:W.OpenLaw}{q:Program}{mJ:List Str}{XP:(Str->Option Value)->Heap->Prop}{YP:World->Heap->Prop}{d:DefRec}{K:Params->W.Frag}(hn:l.most=some 63)(GF:d.params.defaults=[])
  (hY:∀(w:World)(h:Heap),YP w h->(K w.params).In h) (Am:((recsOf q).find? (λe=>e.name==("order_of_strength":Str))).isSome=true)
  (F:∀(w:World)(mg:Str->Option Value)(fa:Addr)(h:Heap),(K w.params).In h->h.Ns mainGlobals mg->mg d.name=some (.ref fa) ->
   ∃(fd:FuncData)(c P:Addr),(∀(s:Shared)(u:Value),BindsTo s fd ⟨[u],[]⟩ [("_law_script",u)])/\W.tabIn (K w.params) "order_of_strength"=some (c,P)/\(K w.params).lookup P=none/\∀base:Heap,(K w.params).In base->base.Ns mainGlobals mg->Zr base mg c P->FnOk l.prog w (K w.params) mg base CX0 50 fa fd ["_law_script"] (fh (K w.params) P)) :
  W.WalkO q mJ XP YP l.row.toRowW d [] (λf vs=>PySem.call f vs):=by
 obtain⟨d',GG⟩:=uV.mp Am;exact Th (n:=63) (k:=50) (x:="_law_script") (sp:=λw P=>fh (K w.params) P) hn (by decide) GF ⟨rfl,by decide,by decide⟩ hY GG F λ_ P H a ns hl hP hS=>⟨a,ns,rfl,hS,hl,.inl hP,λ_=>rfl⟩
end Kx
open PySem PySem.W PyProof.Rows
local macro_rules|`(tactic| walk_at "zfd1")=>`(tactic| (refine' My.def_mk (by assumption) (by assumption) ?a ?l ?c ?k (fun _ _ _ _ _ _ us hl=>by obtain⟨_,e⟩:=My.len1 hl;rw[e];rfl);(case a=>k_is);(case l=>k_is);(case c=>k_is);(case k=>k_is)))
local macro_rules|`(tactic| walk_at "zfd2")=>`(tactic| (refine' My.def_mk (by assumption) (by assumption) ?a ?l ?c ?k (fun _ _ _ _ _ _ us hl=>by obtain⟨_,_,e⟩:=My.len2 hl;rw[e];rfl);(case a=>k_is);(case l=>k_is);(case c=>k_is);(case k=>k_is)))
local macro_rules|`(tactic| walk_at "zfd3")=>`(tactic| (refine' My.def_mk (by assumption) (by assumption) ?a ?l ?c ?k (fun _ _ _ _ _ _ us hl=>by obtain⟨_,_,_,e⟩:=My.len3 hl;rw[e];rfl);(case a=>k_is);(case l=>k_is);(case c=>k_is);(case k=>k_is)))
local macro_rules|`(tactic| walk_at "zfd4")=>`(tactic| (refine' My.def_mk (by assumption) (by assumption) ?a ?l ?c ?k (fun _ _ _ _ _ _ us hl=>by obtain⟨_,_,_,_,e⟩:=My.len4 hl;rw[e];rfl);(case a=>k_is);(case l=>k_is);(case c=>k_is);(case k=>k_is)))
local macro_rules|`(tactic| walk_at "zfd5")=>`(tactic| (refine' My.def_mk (by assumption) (by assumption) ?a ?l ?c ?k (fun _ _ _ _ _ _ us hl=>by obtain⟨_,_,_,_,_,e⟩:=My.len5 hl;rw[e];rfl);(case a=>k_is);(case l=>k_is);(case c=>k_is);(case k=>k_is)))
local macro_rules|`(tactic| walk_at "zfm3")=>`(tactic| (refine' My.defM_mk ?a ?l ?c ?k ?n (by walk_at "zfc") (fun _ _ _ _ _ _ us hl=>by obtain⟨_,_,_,e⟩:=My.len3 hl;rw[e];rfl);(case a=>k_is);(case l=>k_is);(case c=>k_is);(case k=>k_is);(case n=>k_is)))
local macro_rules|`(tactic| walk_at "zfc")=>`(tactic| (refine'⟨?g,?h,?o,?s⟩;(case g=>k_is);(case h=>k_is);(case o=>k_is);(case s=>k_is)))
local macro_rules|`(tactic| walk_at "zfk")=>`(tactic| (refine'⟨?m,?i,?k⟩;(case m=>k_is);(case i=>k_is);(case k=>k_is)))
set_option maxRecDepth 100000 in
set_option maxHeartbeats 0 in
theorem PySem.Challenge.cw_manyjudges_k50_ways_rows_holds : PySem.Challenge.rw_manyjudges_k50_ways_rows.Holds := by
 w_on;o_law;k_head;(case hw=>w_witness2)
 k_fill
 refine Kx.walk (l:=PySem.Challenge.rw_manyjudges_k50_ways_rows) rfl rfl (λw h Y=>W.km_in_of Y) ?R ?F
 case R=>kernel_rfl
 case F =>
  intro w mg fa h KX G FW;refine' Kx.all_mk KX G FW ?mW ?fG ?AA ?gT ?lB ?qM ?fF ?mZ ?lA ?lM ?oG ?lL ?oJ ?hU ?fW ?oF ?HS ?Fa ?Cw ?HK ?Ff ?HR ?EZ ?Cv ?HJ ?Fe ?mU ?dE ?fI ?nA ?lK ?eG ?kY ?Dw ?CA ?HI ?Fd ?Dv ?EW ?EB ?EE ?lJ ?lD ?lE ?iT ?gW ?oH ?lH ?gU ?eF ?lG ?gY ?lF ?mX ?fH ?lC ?iS ?dA ?iQ ?eB ?mY ?dG ?lI ?fY ?dF ?gX ?cA ?gZ ?iR ?fX ?eC ?bF ?bR ?eE ?iU ?cW ?Co ?BS ?Cm ?BU ?qL ?qR ?jX ?lO ?fJ ?kX ?cR ?kR ?kU ?fE ?eV ?fC ?eO ?aY ?gA ?cY ?fV ?gB ?bT ?dH ?bV ?kW ?dQ ?kQ ?kT ?fD ?eU ?fB ?eM ?bX ?cE ?fZ ?cX ?A7 ?Fc ?Fb ?qF ?qE ?gM ?dU ?cH ?dS ?iL ?kG ?kE ?dW ?cJ ?bJ ?cI ?eX ?fT ?fS ?cK ?bL ?aV ?bK ?cU ?kF ?kD ?dR ?cG ?bI ?cF ?eW ?BB ?qB ?BA ?B9 ?gK ?qA ?rT ?nQ ?B8 ?rV ?B6 ?B5 ?iK ?BD ?BC ?B7
  (case mW=>walk_at"zfd3")
  (case fG=>walk_at"zfd2")
  (case AA=>walk_at"zfd1")
  (case gT=>walk_at"zfd1")
  (case lB=>walk_at"zfd1")
  (case qM=>walk_at"zfd2")
  (case fF=>walk_at"zfd1")
  (case mZ=>walk_at"zfd2")
  (case lA=>walk_at"zfd1")
  (case lM=>walk_at"zfd1")
  (case oG=>walk_at"zfd2")
  (case lL=>walk_at"zfd1")
  (case oJ=>walk_at"zfd2")
  (case hU=>walk_at"zfd2")
  (case fW=>walk_at"zfd2")
  (case oF=>walk_at"zfd3")
  (case HS=>k_is);(case Fa=>k_is);(case Cw=>k_is);(case HK=>k_is);(case Ff=>k_is)
  (case HR=>k_is);(case EZ=>k_is);(case Cv=>k_is);(case HJ=>k_is);(case Fe=>k_is)
  (case mU=>walk_at"zfd2")
  (case dE=>walk_at"zfd3")
  (case fI=>walk_at"zfd3")
  (case nA=>walk_at"zfd4")
  (case lK=>walk_at"zfd3")
  (case eG=>walk_at"zfd2")
  (case kY=>walk_at"zfd2")
  (case Dw=>k_is);(case CA=>k_is);(case HI=>k_is);(case Fd=>k_is)
  (case Dv=>rfl);(case EW=>k_is);(case EB=>rfl);(case EE=>kernel_rfl)
  (case lJ=>walk_at"zfd2")
  (case lD=>walk_at"zfd3")
  (case lE=>walk_at"zfd2")
  (case iT=>walk_at"zfd3")
  (case gW=>walk_at"zfd4")
  (case oH=>walk_at"zfd2")
  (case lH=>walk_at"zfd2")
  (case gU=>walk_at"zfd1")
  (case eF=>walk_at"zfd1")
  (case lG=>walk_at"zfd3")
  (case gY=>walk_at"zfd3")
  (case lF=>walk_at"zfd2")
  (case mX=>walk_at"zfd2")
  (case fH=>walk_at"zfd1")
  (case lC=>walk_at"zfd2")
  (case iS=>walk_at"zfd3")
  (case dA=>walk_at"zfd2")
  (case iQ=>walk_at"zfd3")
  (case eB=>walk_at"zfd1")
  (case mY=>walk_at"zfd3")
  (case dG=>walk_at"zfd3")
  (case lI=>walk_at"zfd4")
  (case fY=>walk_at"zfd3")
  (case dF=>walk_at"zfd5")
  (case gX=>walk_at"zfd3")
  (case cA=>walk_at"zfd5")
  (case gZ=>walk_at"zfd2")
  (case iR=>walk_at"zfd3")
  (case fX=>walk_at"zfd2")
  (case eC=>walk_at"zfd3")
  (case bF=>walk_at"zfd5")
  (case bR=>walk_at"zfd4")
  (case eE=>walk_at"zfd5")
  (case iU=>walk_at"zfd1")
  (case cW=>walk_at"zfd1")
  (case Co=>k_is);(case BS=>k_is);(case Cm=>k_is);(case BU=>k_is)
  (case qL=>k_is);(case qR=>walk_at"zfc");(case jX=>walk_at"zfk")
  (case lO=>walk_at"zfm3")
  (case fJ=>walk_at"zfm3")
  (case kX=>k_is);(case cR=>walk_at"zfc");(case kR=>k_is);(case kU=>k_is)
  (case fE=>k_is);(case eV=>k_is);(case fC=>k_is);(case eO=>k_is);(case aY=>(show W.findIn _ _ _=_;k_is))
  (case gA=>walk_at"zfm3")
  (case cY=>walk_at"zfm3")
  (case fV=>k_is);(case gB=>walk_at"zfc");(case bT=>walk_at"zfk")
  (case dH=>walk_at"zfm3")
  (case bV=>walk_at"zfm3")
  (case kW=>k_is);(case dQ=>walk_at"zfc");(case kQ=>k_is);(case kT=>k_is)
  (case fD=>k_is);(case eU=>k_is);(case fB=>k_is);(case eM=>k_is);(case bX=>(show W.findIn _ _ _=_;k_is));(case cE=>k_is)
  (case fZ=>walk_at"zfm3")
  (case cX=>walk_at"zfm3")
  (case A7=>k_is)
  (case Fc=>k_is);(case Fb=>k_is)
  (case qF=>k_is);(case qE=>k_is)
  (case gM=>kernel_rfl)
  (case dU=>kernel_rfl)
  (case cH=>kernel_rfl)
  (case dS=>kernel_rfl)
  (case iL=>kernel_rfl)
  (case kG=>k_is);(case kE=>k_is)
  (case dW=>kernel_rfl)
  (case cJ=>kernel_rfl)
  (case bJ=>kernel_rfl)
  (case cI=>kernel_rfl)
  (case eX=>kernel_rfl)
  (case fT=>k_is);(case fS=>k_is)
  (case cK=>kernel_rfl)
  (case bL=>kernel_rfl)
  (case aV=>kernel_rfl)
  (case bK=>kernel_rfl)
  (case cU=>kernel_rfl)
  (case kF=>k_is);(case kD=>k_is)
  (case dR=>kernel_rfl)
  (case cG=>kernel_rfl)
  (case bI=>kernel_rfl)
  (case cF=>kernel_rfl)
  (case eW=>kernel_rfl)
  (case BB=>k_is)
  (case qB=>k_is)
  (case BA=>k_is)
  (case B9=>k_is)
  (case gK=>k_is)
  (case qA=>k_is)
  (case rT=>k_is)
  (case nQ=>k_is)
  (case B8=>k_is)
  (case rV=>k_is)
  (case B6=>k_is)
  (case B5=>k_is)
  (case iK=>k_is)
  (case BD=>k_is)
  (case BC=>k_is)
  (case B7=>k_is)
#print axioms PySem.Challenge.cw_manyjudges_k50_ways_rows_holds
