import PyProof.Rows.All
import Wide.All
import OpenK.AllK
import Wide.FinOn
import Lean
import PyProof.EqAt
import PyProof.EqKinds
import PyProof.TupleCall
import PySem.Challenge.RW_manyjudges_k63_seats_refused
set_option compiler.extract_closed false
set_option genSizeOfSpec false
set_option Elab.async false
set_option linter.all false
set_option maxRecDepth 100000
namespace PySem.W.Fast
theorem tw7844156671745217150:True:=trivial
theorem tw2810661795965117584:True:=trivial
theorem tw2942596477162020469:True:=trivial
theorem tw3723592029204366421:True:=trivial
theorem tw6974295081005133716:True:=trivial
theorem tw16683989703005056586:True:=trivial
theorem tw12352772066148095044:True:=trivial
theorem tw10369459936729119797:True:=trivial
theorem tw8228366875530999707:True:=trivial
theorem tw5745038700221110944:True:=trivial
theorem tw3462758003882346614:True:=trivial
theorem tw3107974419770783289:True:=trivial
theorem tw7106771939987755270:True:=trivial
theorem tw16605939943658059636:True:=trivial
theorem tw7589584889333327699:True:=trivial
theorem tw10464891744275587470:True:=trivial
theorem tw7714051973382684657:True:=trivial
theorem tw6649973604559335680:True:=trivial
theorem tw6635524234275101523:True:=trivial
theorem tw11108809336597236288:True:=trivial
theorem tw9148667476296543623:True:=trivial
theorem tw8056829117540569979:True:=trivial
theorem tw13095880541882130879:True:=trivial
theorem tw15316399620988813942:True:=trivial
theorem tw14556459174137062427:True:=trivial
theorem tw15007856743211832836:True:=trivial
theorem tw3557051707645932305:True:=trivial
theorem tw18284544563818373828:True:=trivial
theorem tw5747278744470848453:True:=trivial
theorem tw16265441114619770820:True:=trivial
theorem tw18387059844284138222:True:=trivial
theorem tw4695201772005097194:True:=trivial
theorem tw5305309320060663873:True:=trivial
theorem tw16317673815728764332:True:=trivial
theorem tw6961282706115729833:True:=trivial
theorem tw11891650772651118698:True:=trivial
theorem tw14301361546015300368:True:=trivial
theorem tw18017990314069226122:True:=trivial
theorem tw11607530083846061828:True:=trivial
theorem tw3201802237830758257:True:=trivial
theorem tw12094657981459442606:True:=trivial
theorem tw909481219078232392:True:=trivial
theorem tw14329983194499442829:True:=trivial
theorem tw972552453240488379:True:=trivial
theorem tw7520135205480241920:True:=trivial
theorem tw1256312287582638696:True:=trivial
theorem tw5362904842262694073:True:=trivial
theorem tw14484377971329863539:True:=trivial
theorem tw4186285845827061277:True:=trivial
theorem tw10277051447430904076:True:=trivial
theorem tw10868306035927133783:True:=trivial
theorem tw9100820625770982642:True:=trivial
theorem tw13624727723569607195:True:=trivial
theorem tw16469170484548849781:True:=trivial
theorem tw13728938764651407095:True:=trivial
theorem tw17807918476911195539:True:=trivial
theorem tw16740927317331815135:True:=trivial
theorem tw5319778799909714823:True:=trivial
theorem tw11258552803175503659:True:=trivial
theorem tw14053097427257951818:True:=trivial
theorem tw8302851188224587239:True:=trivial
theorem tw12943981319415380281:True:=trivial
theorem tw5465888549294137447:True:=trivial
theorem tw2377541173302771277:True:=trivial
theorem tw14725819719112611759:True:=trivial
theorem tw14900283242558185172:True:=trivial
theorem tw18034296460447864383:True:=trivial
theorem tw4306258364242630069:True:=trivial
theorem tw6484318378912253686:True:=trivial
theorem tw3117516291539977283:True:=trivial
theorem tw10920678797893144688:True:=trivial
theorem tw3068585525226335599:True:=trivial
theorem tw14356961587373992327:True:=trivial
theorem tw6471872333527938835:True:=trivial
theorem tw9782052491561605810:True:=trivial
theorem tw6334746806762823225:True:=trivial
theorem tw6742294598746696434:True:=trivial
theorem tw9029751380233026597:True:=trivial
theorem tw13358403589083395834:True:=trivial
theorem tw13317164740680687511:True:=trivial
theorem tw6787720424178642745:True:=trivial
theorem tw16082327777204016509:True:=trivial
theorem tw3556177048910024851:True:=trivial
theorem tw17442076571229723184:True:=trivial
theorem tw8509185859005672731:True:=trivial
theorem tw13016026362582226101:True:=trivial
theorem tw3800454368642883252:True:=trivial
theorem tw7936641639321884025:True:=trivial
theorem tw11029154060686996074:True:=trivial
theorem tw3058620915775655188:True:=trivial
theorem tw6458974174808871728:True:=trivial
theorem tw5585693366683525171:True:=trivial
theorem tw13366277561612477021:True:=trivial
theorem tw418964471401609567:True:=trivial
theorem tw2393234348848177249:True:=trivial
theorem tw7321260377299959547:True:=trivial
theorem tw10524588837965133189:True:=trivial
theorem tw14236761254980025889:True:=trivial
theorem tw7480278466932741667:True:=trivial
theorem tw7463104875273730243:True:=trivial
theorem tw6725359342457282725:True:=trivial
theorem tw15932545977834112655:True:=trivial
theorem tw7538232065871077372:True:=trivial
theorem tw17056462244730559240:True:=trivial
theorem tw4423446421590156704:True:=trivial
theorem tw196596966709653125:True:=trivial
theorem tw4201793033561080739:True:=trivial
theorem tw14032824261272440684:True:=trivial
theorem tw11356281816073398054:True:=trivial
theorem tw58573644132569657:True:=trivial
theorem tw17473236867889914897:True:=trivial
theorem tw3619101397614972685:True:=trivial
theorem tw13490568904894587768:True:=trivial
theorem tw14446391665651201124:True:=trivial
theorem tw6392319696314703142:True:=trivial
theorem tw1312102279927176331:True:=trivial
theorem tw1057769862074655272:True:=trivial
theorem tw1237214766481856197:True:=trivial
theorem tw18103503594598185457:True:=trivial
theorem tw2028384923910332890:True:=trivial
theorem tw5279808214957300243:True:=trivial
theorem tw1797070985359064717:True:=trivial
theorem tw16515632719073313804:True:=trivial
theorem tw16574176005223537323:True:=trivial
theorem tw368456672574062917:True:=trivial
theorem tw7922333241410382262:True:=trivial
theorem tw11789248116647421688:True:=trivial
theorem tw10161219807858503585:True:=trivial
theorem tw7589987536902022240:True:=trivial
theorem tw4892383295575960268:True:=trivial
theorem tw14636512906980306321:True:=trivial
theorem tw4044928866365162709:True:=trivial
theorem tw18263083176157362531:True:=trivial
theorem tw18152597136577897700:True:=trivial
theorem tw16500314141008437801:True:=trivial
theorem tw7309123375214775685:True:=trivial
theorem tw16407230330054685881:True:=trivial
theorem tw17602754529903096514:True:=trivial
theorem tw7346109647164706169:True:=trivial
theorem tw6753693682068463726:True:=trivial
theorem tw8898738286940654503:True:=trivial
theorem tw4948765727573100504:True:=trivial
theorem tw11119603783067097321:True:=trivial
theorem tw17254204197425245518:True:=trivial
theorem tw12878729037112262957:True:=trivial
theorem tw9313770278120565208:True:=trivial
theorem tw9325387032259617203:True:=trivial
theorem tw10009981974916066836:True:=trivial
theorem tw15449032299081570397:True:=trivial
theorem tw18376032475373334294:True:=trivial
theorem tw16230549945867146297:True:=trivial
theorem tw10174971745637319843:True:=trivial
theorem tw1533936574108136480:True:=trivial
theorem tw9164477571698318765:True:=trivial
theorem tw5464670056249132076:True:=trivial
theorem tw12733254278388481111:True:=trivial
theorem tw3631104405561236923:True:=trivial
theorem tw14519248293512396377:True:=trivial
theorem tw14560826703441602790:True:=trivial
theorem tw8862451416792144682:True:=trivial
end PySem.W.Fast
section
open PySem
def zZ:=@PySem.wpAny_bind
def zY:=@PySem.Heap.get?_push_of_some
def zX:=@List.length_map
def zW:=@List.mem_singleton
def zV:=@PySem.wpAny_pure
def zU:=@List.getElem?_eq_some_iff
def zT:=@PySem.Heap.lt_size
def zS:=@Nat.le_refl
def zR:=@PySem.Heap.get?_push_size
def zQ:=@List.size_toArray
def zP:=@List.map_append
def zO:=@List.mem_append
def zN:=@List.length_append
def zM:=@List.mem_of_getElem?
def zL:=@List.getElem?_eq_getElem
def zK:=@Bool.false_ne_true
def zJ:=@List.mem_append_right
def zI:=@Nat.ne_of_lt
def zH:=@Nat.lt_of_lt_of_le
def zG:=@List.mem_cons
def zF:=@List.mem_map
def zE:=@List.getElem?_map
def zD:=@PySem.sizeLine_eq
def zC:=@List.mem_cons_of_mem
def zB:=@Option.some.inj
def zA:=@PySem.Heap.get?_update_other
def yZ:=@List.mem_cons_self
def yY:=@if_neg
def yX:=@List.take_add_one
def yW:=@Nat.le_trans
def yV:=@List.take_length
def yU:=@decide_eq_true
def yT:=@PySem.wpAny_mono
def yS:=@if_pos
def yR:=@W.mg_none_of
def yQ:=@Bool.and_eq_true
def yP:=@List.getD_eq_getElem?_getD
def yO:=@Nat.zero_le
def yN:=@of_decide_eq_true
def yM:=@List.getElem?_append_left
def yL:=@PySem.wpAny_newObj_type
def yK:=@List.mem_map_of_mem
def yJ:=@PySem.PassesOwn.never
def yI:=@PySem.wpAny_field
def yH:=@PySem.Heap.get?_update_self
def yG:=@Int.toNat_natCast
def yF:=@List.length_cons
def yE:=@List.length_take
def yD:=@decide_eq_false
def yC:=@List.pairwise_iff_getElem
def yB:=@List.mem_range
def yA:=@PySem.wpAny_call_entry
def xZ:=@List.getElem?_append_right
def xY:=@Array.getElem?_eq_some_iff
def xX:=@List.map_map
def xW:=@PySem.wpAny_callSpecial?_slot
def xV:=@List.filterMap_cons
def xU:=@PySem.wpAny_holding
def xT:=@Nat.le_of_lt
def xS:=@Nat.lt_irrefl
def xR:=@PyProof.Rows.slot_tuple_getitem
def xQ:=@Array.length_toList
def xP:=@W.kia_one
def xO:=@PySem.wpAny_loadPart'
def xN:=@List.append_assoc
def xM:=@PySem.wpAny_setState_of
def xL:=@List.mem_append_left
def xK:=@Classical.byContradiction
def xI:=@PySem.Heap.size_push
def xH:=@List.length_drop
def xG:=@PySem.wpAny_loadPart_at
def xF:=@congrArg
def xE:=@List.mem_of_mem_take
def xD:=@List.any_eq_true
def xC:=@PySem.mem_of_lookup
def xB:=@List.length_singleton
def xA:=@PySem.wpAny_seqItems
def wZ:=@W.mg_of
def wY:=@Ne.symm
def wX:=@PySem.wpAny_Call_Name_kw
def wW:=@F.called_set
def wV:=@PySem.Obj.data_mapFields
def wU:=@Nat.lt_succ_self
def wT:=@PyProof.Rows.callWith_type1
def wS:=@PyProof.Rows.KeyOrd.kle_refl
def wR:=@PySem.wpAny_pyIter_tuple
def wQ:=@List.getElem?_take_of_lt
def wP:=@List.map_take
def wO:=@Nat.ne_of_gt
def wN:=@List.length_eq_zero_iff
def wM:=@List.flatten_cons
def wL:=@PySem.wpAny_truthy_bool
def wK:=@PySem.wpAny_pyIter_list
def wJ:=@Nat.lt_succ_of_lt
def wI:=@List.pairwise_map
def wH:=@PyProof.Rows.F.plain_set_update_loop
def wG:=@PySem.Heap.SameBut.update
def wF:=@Nat.le_succ
def wE:=@List.getElem_mem
def wD:=@F.slot_tuple_iterator_next
def wC:=@Int.emod_lt_of_pos
def wB:=@PySem.wpAny_setField_rec
def wA:=@List.getElem?_eq_none
def vZ:=@PySem.Obj.isFreed_of_fields
def vY:=@List.drop_eq_getElem_cons
def vX:=@Bool.eq_iff_iff
def vW:=@PySem.Heap.get?_none_of_le
def vV:=@PySem.SeqAt.EqAt.bool_bool
def vU:=@List.mem_of_mem_drop
def vT:=@PySem.Around.under_plainId
def vS:=@PySem.codeAny_call_builtin
def vR:=@List.Pairwise.imp_of_mem
def vQ:=@F.slot_list_extend
def vP:=@List.replicate_succ
def vO:=@List.getElem_of_mem
def vN:=@F.attr_ValueError
def vM:=@List.all_eq_true
def vL:=@List.ext_getElem
def vK:=@PySem.wpAny_askSetting
def vJ:=@PySem.wpAny_setField
def vI:=@List.take_append_of_le_length
def vH:=@List.take_of_length_le
def vG:=@List.drop_eq_nil_of_le
def vF:=@List.pairwise_cons
def vE:=@PySem.Code.quiet_builtin
def vD:=@PySem.codeAny_mono
def vC:=@PySem.wpAny_execs_nil
def vB:=@List.nodup_cons
def vA:=@List.length_nil
def uZ:=@Int.emod_nonneg
def uY:=@PySem.codeAny_builtin
def uX:=@F.slot_zip_next
def uW:=@List.lookup_cons_self
def uV:=@Nat.lt_trichotomy
def uU:=@List.length_range
def uT:=@List.getElem?_set_ne
def uS:=@Nat.pow_le_pow_right
def uR:=@List.lookup_cons
def uQ:=@Array.toList_inj
def uP:=@List.not_mem_nil
def uO:=@PyProof.Rows.KeyOrd.kle_trans
def uN:=@beq_self_eq_true
def uM:=@Nat.le_add_right
def uL:=@PySem.wpAny_typeOf
def uK:=@Nat.le_of_eq
def uJ:=@PySem.wpAny_isSubtype_exc
def uI:=@Option.isSome_iff_exists
def uH:=@F.args_tuple_add_2
def uG:=@PySem.wpAny_comprehension_free
def uF:=@F.type_list_extend
def uE:=@F.slot_list_append
def uD:=@F.type_list_append
def uC:=@List.eq_of_mem_replicate
def uB:=@List.map_drop
def uA:=@List.mem_filter
def tZ:=@PySem.wpAny_passesOwn
def tY:=@Nat.min_eq_left
def tX:=@List.mem_filterMap
def tW:=@W.callWith_K
def tV:=@PySem.wpAny_rule
def tU:=@Nat.not_lt
def tT:=@beq_iff_eq
def tS:=@F.entry_tuple_add
def tR:=@Int.eq_ofNat_of_zero_le
def tQ:=@List.getElem?_set_self
def tP:=@PySem.wpAny_pyNext_list_item
def tN:=@F.slot_tuple_add
def tM:=@List.length_pos_of_mem
def tL:=@Calls.spliced_nil
def tK:=@PyProof.Rows.KeyOrd.kle_of_klt
def tJ:=@Bool.and_false
def tH:=@W.looks_findIn
def tG:=@Nat.lt_or_ge
def tF:=@PySem.wpAny_isInstance
def tE:=@PySem.wpAny_call
def tD:=@PySem.call_meets
def tB:=@PySem.wpAny_standAt
def sZ:=@List.any_cons
def sY:=@PySem.plainId_quiet
def sX:=@PySem.wpAny_attempt
def sW:=@PySem.wpAny_of_eq
def sV:=@PySem.Txt.slice_le
def sU:=@Nat.succ_pos
def sS:=@Nat.pow_succ
end
namespace L2
open PySem PySem.Spec PyProof.Rows
abbrev Key:=Sum Int Str
def jz:Key->Value->Bool
 | .inl k,v=>Value.isInt k v
 | .inr x,v=>Value.isStrOf x v
def K2(w:World):Key->Int
 | .inl k=>hashInt k
 | .inr x=>hashStr w x
theorem yi:∀{k:Key}{v:Value},jz k v=true->(∃i t,k=Sum.inl i/\v=Value.int i t)\/(∃x t,k=Sum.inr x/\v=Value.str x t)
 | .inl i,v,h=>by
  obtain⟨t,e⟩:=Value.isInt_shape (k:=i) (v:=v) h;exact .inl ⟨i,t,rfl,e⟩
 | .inr x,v,h=>by
  obtain⟨t,e⟩:=Value.isStrOf_shape (x:=x) (v:=v) h;exact .inr ⟨x,t,rfl,e⟩
theorem Xq(i:Int)(t:Tok):jz (.inl i) (.int i t)=true:=by simp[jz,Value.isInt]
theorem Xr(x:Str)(t:Tok):jz (.inr x) (.str x t)=true:=by simp[jz,Value.isStrOf]
theorem Pq(a b:Int):decide ((Sum.inl a:Key)=Sum.inl b)=(a==b):=by
 by_cases e:a=b
 ·subst e;simp
 ·have h:¬(Sum.inl a:Key)=Sum.inl b:=λq=>e (Sum.inl.inj q);rw[yD h];exact(beq_eq_false_iff_ne.mpr e).symm
theorem Pt(a b:Str):decide ((Sum.inr a:Key)=Sum.inr b)=decide (a=b):=by
 by_cases e:a=b
 ·subst e;simp
 ·have h:¬(Sum.inr a:Key)=Sum.inr b:=λq=>e (Sum.inr.inj q);rw[yD h,yD e]
theorem Pr(a:Int)(b:Str):decide ((Sum.inl a:Key)=Sum.inr b)=false:=yD (λq=>nomatch q)
theorem Ps(a:Str)(b:Int):decide ((Sum.inr a:Key)=Sum.inl b)=false:=yD (λq=>nomatch q)
def xw(prog:Program)(w:World):PySem.KeyKind prog w Key where
 is:=jz
 hash:=K2 w
 inj:=λv a b ha hb=>by
  rcases yi ha with⟨i,t,rfl,rfl⟩|⟨x,t,rfl,rfl⟩
  ·rcases yi hb with⟨j,u,rfl,e⟩|⟨y,u,rfl,e⟩
   ·injection e with e1 _;rw[e1]
   ·exact nomatch e
  ·rcases yi hb with⟨j,u,rfl,e⟩|⟨y,u,rfl,e⟩
   ·exact nomatch e
   ·injection e with e1 _;rw[e1]
 byValue:=λk v h=>by
  rcases yi h with⟨i,t,rfl,rfl⟩|⟨x,t,rfl,rfl⟩<;>rfl
 pyHash:=λhv h=>by
  rcases yi hv with⟨i,t,rfl,rfl⟩|⟨x,t,rfl,rfl⟩
  ·exact wpAny_pyHash_int h
  ·exact wpAny_pyHash_str h
 eqBool:=λhu hv h=>by
  rcases yi hu with⟨i,t,rfl,rfl⟩|⟨x,t,rfl,rfl⟩
  ·rcases yi hv with⟨j,u,rfl,rfl⟩|⟨y,u,rfl,rfl⟩
   ·rw[Pq]at h;exact wpAny_eqBool_int h
   ·rw[Pr]at h;exact SeqAt.EqAt.int_str i t y u _ _ _ _ h
  ·rcases yi hv with⟨j,u,rfl,rfl⟩|⟨y,u,rfl,rfl⟩
   ·rw[Ps]at h;exact SeqAt.EqAt.str_int x t j u _ _ _ _ h
   ·rw[Pt]at h;exact wpAny_eqBool_str h
 «strs»:=λk x t v h=>by
  rcases yi h with⟨i,u,rfl,e⟩|⟨y,u,rfl,e⟩
  ·exact nomatch e
  ·injection e with e1 _;subst e1;cases v<;>rfl
theorem d9(prog:Program)(w:World)(i:Int)(t:Tok):(xw prog w).is (.inl i) (.int i t)=true:=Xq i t
theorem ef(prog:Program)(w:World)(x:Str)(t:Tok):(xw prog w).is (.inr x) (.str x t)=true:=Xr x t
end L2
namespace L2
open PySem PySem.Spec PyProof.Rows
inductive V where
 |non|bl (b:Bool)|int (i:Int)|str (x:Str)|byt (b:Array UInt8)|flt (b:UInt64)|ref (a:Addr)|ty (n:String)
 deriving DecidableEq
def RelV:V->Value->Prop
 | .non,u=>u=Value.none
 | .bl b,u=>u=Value.bool b
 | .int i,u=>∃t,u=Value.int i t
 | .str x,u=>∃t,u=Value.str x t
 | .byt b,u=>∃t,u=Value.bytes b t
 | .flt b,u=>∃t,u=Value.float b t
 | .ref a,u=>u=Value.ref a
 | .ty n,u=>u=Value.type n
abbrev Vals:List V->List Value->Prop:=Paired RelV
theorem Vals.length{xs:List V}{us:List Value}(r:Vals xs us):xs.length=us.length:=Paired.length r
theorem Vals.get:∀{xs:List V}{us:List Value}{i:Nat}{x:V},Vals xs us->xs[i]?=some x->∃u,us[i]?=some u/\RelV x u
 |_,_,_,_,.nil,e=>by simp at e
 |_,_,0,_,.cons r _,e=>by simp at e;subst e;exact⟨_,rfl,r⟩
 |_,_,i+1,x,.cons _ t,e=>by
  obtain⟨u,h1,h2⟩:=Vals.get (i:=i) (x:=x) t (by simpa using e);exact⟨u,by simpa using h1,h2⟩
theorem Vals.set{x:V}{u:Value}(r:RelV x u):∀{xs:List V}{us:List Value}(i:Nat),Vals xs us->Vals (xs.set i x) (us.set i u)
 |_,_,_,.nil=>.nil
 |_,_,0,.cons _ t=>.cons r t
 |_,_,i+1,.cons q t=>.cons q (Vals.set r i t)
theorem Vals.append:∀{xs ys:List V}{us ws:List Value},Vals xs us->Vals ys ws->Vals (xs++ys) (us++ws)
 |_,_,_,_,.nil,s=>s
 |_,_,_,_,.cons r t,s=>.cons r (Vals.append t s)
theorem Vals.take:∀{xs:List V}{us:List Value}(n:Nat),Vals xs us->Vals (xs.take n) (us.take n)
 |_,_,0,_=>.nil
 |_,_,_+1,.nil=>.nil
 |_,_,n+1,.cons r t=>.cons r (Vals.take n t)
theorem Vals.drop:∀{xs:List V}{us:List Value}(n:Nat),Vals xs us->Vals (xs.drop n) (us.drop n)
 |_,_,0,r=>r
 |_,_,_+1,.nil=>.nil
 |_,_,n+1,.cons _ t=>Vals.drop n t
def RelO:Option V->Option Value->Prop
 |some v,some u=>RelV v u
 |none,none=>True
 |_,_=>False
def KV{κ:Type}:List (κ×V)->List (κ×Value)->Prop:=Paired λ(p:κ×V)(q:κ×Value)=>p.1=q.1/\RelV p.2 q.2
def kV:Key->V
 | .inl i=>.int i
 | .inr x=>.str x
inductive HO where
 |lst (xs:List V)
 |tup (xs:List V)
 |dK (kvs:List (Key×V))|dT (kvs:List (List Key×V))
 |set (S:Int->Bool) (n:Nat)
 |ins (C dx:Addr) (fs:List (Str×V))
 |own (x:Addr)
 |xd (fs:List (Str×V))
 |met (f x:Addr)
 |rng (lo hi:Int)
 |frz (o:Obj) (u:HO)
 |tbl (ps:Array Value)
 |ext (φ:Heap->Prop)
abbrev Hp:=Addr->Option HO
def upd(H:Hp)(a:Addr)(o:HO):Hp:=λb=>if b=a then some o else H b
theorem zy{H:Hp}{a:Addr}{o:HO}:upd H a o a=some o:=by unfold upd;rw[yS rfl]
theorem zg{H:Hp}{a b:Addr}{o:HO}(h:b≠a):upd H a o b=H b:=by unfold upd;rw[yY h]
theorem M7{H:Hp}{a b:Addr}{o u:HO}(h:H a=some o)(h':H b=some u)(d:o≠u):a≠b:=by
 intro e;subst e;rw[h]at h';exact d (zB h')
theorem wu{H:Hp}{a b:Addr}{o:HO}(h:H a=some o)(h':H b=none):a≠b:=by
 intro e;subst e;rw[h]at h';cases h'
section
variable (P:Program) (w:World)
def ObjOk(H:Hp)(h:Heap)(a:Addr):HO->Prop
 | .lst xs=>xs.length<=sizeLine/\∃(aF:List Value)(n:Nat),Vals xs aF/\h.get? a=some { cls:=.type "list",data:=.seq aF.toArray n }
 | .tup xs=>xs.length<=sizeLine/\∃aF:List Value,Vals xs aF/\IsTup h a aF.toArray
 | .dK kvs=>kvs.length<=sizeLine/\(a==sysModules)=false/\∃vs,KV kvs vs/\h.DictOf (xw P w) a vs
 | .dT kvs=>kvs.length<=sizeLine/\(a==sysModules)=false/\∃xs:List (List Key×Addr×Value),
   Paired (λ(p:List Key×V)(q:List Key×Addr×Value)=>p.1=q.1/\H q.2.1=some (.tup (p.1.map kV))/\RelV p.2 q.2.2) kvs xs /\
   ∃o es ep,h.get? a=some o/\o.ExactDict/\o.data = .dict es ep/\es.toList=xs.map (entryOfKey (tupleKind (xw P w)))/\(xs.map (·.1)).Nodup
 | .set S n=>h.SetOf (intKind P w) a S n
 | .ins C dx fs=>H dx=some (.own a)/\fs.length<=1000/\dx≠a/\h.get? a=some (W.instObj C dx) /\
   ∃mA,h.Ns1 dx mA/\(∀f,RelO (fs.lookup f) (mA f))/\PySem.Within mA (fs.map (·.1))
 | .own _=>∃o,h.get? a=some o
 | .xd fs=>∃mA,h.Ns1 a mA/\∀f,RelO (fs.lookup f) (mA f)
 | .rng lo hi=>∃t u v,h.get? a=some { cls:=.type "range",data:=.fields #[.int lo t,.int hi u,.int 1 v] }
 | .frz o u=>h.get? a=some o/\ObjOk H h a u
 | .tbl ps=>h.get? a=some { cls:=.none,data:=.fields ps }
 | .met f x=>h.get? a=some (W.methodObj (.ref f) (.ref x))
 | .ext φ=>φ h/\(∃o,h.get? a=some o)/\∀h1 h2:Heap,φ h1->(∀o,h1.get? a=some o->h2.get? a=some o)->φ h2
def HOk(H:Hp)(h:Heap):Prop:=∀a o,H a=some o->ObjOk P w H h a o
end
section
variable {P:Program}{w:World}{H H':Hp}{h h':Heap}{a:Addr}{o:HO}
theorem ObjOk.lt(x:ObjOk P w H h a o):a<h.objs.size:=by
 cases o with
 |lst xs=>obtain⟨_,_,_,_,e⟩:=x;exact zT e
 |tup xs=>obtain⟨_,_,_,p⟩:=x;exact p.lt
 |dK kvs=>obtain⟨_,_,_,_,o,_,_,e,_⟩:=x;exact zT e
 |dT kvs=>obtain⟨_,_,_,_,o,_,_,e,_⟩:=x;exact zT e
 |set S n=>obtain⟨o,_,_,_,e,_⟩:=x;exact zT e
 |ins C dx fs=>obtain⟨_,_,_,e,_⟩:=x;exact zT e
 |own y=>obtain⟨_,e⟩:=x;exact zT e
 |xd fs=>obtain⟨_,⟨_,_,_,e,_⟩,_⟩:=x;exact zT e
 |rng lo hi=>obtain⟨_,_,_,e⟩:=x;exact zT e
 |frz ob u=>obtain⟨e,_⟩:=x;exact zT e
 |tbl ps=>exact zT (show h.get? a=some _ from x)
 |met f y=>exact zT (show h.get? a=some _ from x)
 |ext φ=>obtain⟨_,⟨_,e⟩,_⟩:=x;exact zT e
theorem Paired.mapP{α β:Type}{F G:α->β->Prop}:∀{l₁:List α}{l₂:List β},Paired F l₁ l₂->(∀a b,F a b->G a b)->Paired G l₁ l₂
 |_,_,.nil,_=>.nil
 |_,_,.cons r t,f=>.cons (f _ _ r) (Paired.mapP t f)
theorem ObjOk.stay(x:ObjOk P w H h a o)(k:∀b u,(b=a\/H b=some (.own a))->h.get? b=some u->h'.get? b=some u)
  (ho:∀b,H b=some (.own a)->H' b=some (.own a)) (ht:∀b xs,H b=some (.tup xs)->H' b=some (.tup xs)):ObjOk P w H' h' a o:=by
 induction o with
 |lst xs=>obtain⟨z,aF,n,r,e⟩:=x;exact⟨z,aF,n,r,k _ _ (.inl rfl) e⟩
 |tup xs=>obtain⟨z,aF,r,ob,e,c⟩:=x;exact⟨z,aF,r,ob,k _ _ (.inl rfl) e,c⟩
 |dK kvs=>obtain⟨z,y,vs,r,ob,es,ep,e,c⟩:=x;exact⟨z,y,vs,r,ob,es,ep,k _ _ (.inl rfl) e,c⟩
 |dT kvs =>
  obtain⟨z,y,xs,r,ob,es,ep,e,c⟩:=x;exact⟨z,y,xs,Paired.mapP r λp q z=>⟨z.1,ht _ _ z.2.1,z.2.2⟩,ob,es,ep,k _ _ (.inl rfl) e,c⟩
 |set S n=>obtain⟨ob,es,ep,t,e,c⟩:=x;exact⟨ob,es,ep,t,k _ _ (.inl rfl) e,c⟩
 |ins C dx fs =>
  obtain⟨d,z,ne,e,mA,⟨od,es,ep,e2,c⟩,r⟩:=x;exact⟨ho _ d,z,ne,k _ _ (.inl rfl) e,mA,⟨od,es,ep,k _ _ (.inr d) e2,c⟩,r⟩
 |own y=>obtain⟨ob,e⟩:=x;exact⟨ob,k _ _ (.inl rfl) e⟩
 |xd fs=>obtain⟨mA,⟨od,es,ep,e,c⟩,r⟩:=x;exact⟨mA,⟨od,es,ep,k _ _ (.inl rfl) e,c⟩,r⟩
 |rng lo hi=>obtain⟨t,u,v,e⟩:=x;exact⟨t,u,v,k _ _ (.inl rfl) e⟩
 |frz ob u ih=>obtain⟨e,q⟩:=x;exact⟨k _ _ (.inl rfl) e,ih q⟩
 |tbl ps =>
  have e:h.get? a=some { cls:=.none,data:=.fields ps }:=x;show h'.get? a=some { cls:=.none,data:=.fields ps };exact k a _ (.inl rfl) e
 |met f y =>
  have e:h.get? a=some (W.methodObj (.ref f) (.ref y)):=x;show h'.get? a=some (W.methodObj (.ref f) (.ref y));exact k a _ (.inl rfl) e
 |ext φ=>obtain⟨p,⟨o,e⟩,st⟩:=x;exact⟨st _ _ p λo q=>k _ _ (.inl rfl) q,⟨o,k _ _ (.inl rfl) e⟩,st⟩
theorem HOk.lt(x:HOk P w H h)(e:H a=some o):a<h.objs.size:=(x a o e).lt
theorem HOk.fresh(x:HOk P w H h)(e:h.objs.size<=a):H a=none:=by
 cases q:H a with
 |none=>rfl
 |some u=>exact absurd (zH (x.lt q) e) (xS _)
theorem HOk.kept(x:HOk P w H h)(k:∀b u,h.get? b=some u->h'.get? b=some u):HOk P w H h':=λa o e =>
 (x a o e).stay (λb u _ q=>k b u q) (λ_ q=>q) λ_ _ q=>q
theorem HOk.laid(x:HOk P w H h)(k:∀b u,h.get? b=some u->h'.get? b=some u)(hp:h.objs.size<=a)(new:ObjOk P w (upd H a o) h' a o):HOk P w (upd H a o) h':=λb u e=>by
 have hn:=x.fresh hp
 by_cases hb:b=a
 ·subst hb;rw[zy]at e;cases e;exact new
 ·rw[zg hb]at e;exact(x b u e).stay (λc v _ q=>k c v q) (λc q=>by rw[zg (wu q hn)];exact q) λc xs q=>by rw[zg (wu q hn)];exact q
end
def Rd(H:Hp)(a:Addr)(u:HO):Prop:=H a=some u\/∃o,H a=some (.frz o u)
theorem Rd.ok{P:Program}{w:World}{H:Hp}{h:Heap}{a:Addr}{u:HO}(r:Rd H a u)(x:HOk P w H h):ObjOk P w H h a u:=by
 rcases r with r|⟨o,r⟩
 ·exact x a u r
 ·obtain⟨_,q⟩:=x a _ r;exact q
def Mut:Option HO->Prop
 |some (.lst _)=>True
 |some (.dK _)=>True
 |some (.dT _)=>True
 |some (.set _ _)=>True
 |some (.ins _ _ _)=>True
 |some (.ext _)=>True
 |_=>False
section
variable {P:Program}{w:World}{H:Hp}{h h':Heap}{x e:Addr}{o':HO}
theorem HOk.write(ok:HOk P w H h)(mu:Mut (H x))(he:e=x\/H e=some (.own x))(k:∀b u,b≠e->h.get? b=some u->h'.get? b=some u)(C1:∃u,h'.get? e=some u)
  (new:ObjOk P w (upd H x o') h' x o'):HOk P w (upd H x o') h':=λb u q=>by
 have Fc:∀c y,H c=some (.own y)->c≠x:=λc y r z=>by subst z;rw[r]at mu;exact mu
 have ntup:∀c xs,H c=some (.tup xs)->c≠x:=λc xs r z=>by subst z;rw[r]at mu;exact mu
 by_cases hb:b=x
 ·subst hb;rw[zy]at q;cases q;exact new
 ·rw[zg hb]at q
  by_cases nV:b=e
  ·have q':H b=some (.own x):=by
    rcases he with z|z
    ·exact absurd (nV.trans z) hb
    ·rw[nV];exact z
   rw[q]at q';cases q';obtain⟨v,hv⟩:=C1;exact⟨v,by rw[nV];exact hv⟩
  ·refine(ok b u q).stay (λc v hc r=>k c v ?_ r) (λc r=>by rw[zg (Fc c b r)];exact r) λc xs r=>by rw[zg (ntup c xs r)];exact r
   rcases hc with rfl|hc
   ·exact nV
   ·rintro rfl;rcases he with z|z
    ·exact Fc c b hc z
    ·rw[hc]at z;cases z;exact hb rfl
end
structure Un(fs ex:List Addr)(H H':Hp)(h h':Heap):Prop where
 keep:∀b o,h.get? b=some o->H b=none->b∉fs->b∉ex->h'.get? b=some o
 slot:∀b o,h.get? b=some o->H b=none->b∈fs->b∉ex->∃sl,h'.get? b=some { o with slots:=sl }
 free:∀b o,h.get? b=some o->H b=none->b∉ex->H' b=none
 there:∀b o,h.get? b=some o->b∉ex->∃o',h'.get? b=some o'
 tups:∀b xs,H b=some (.tup xs)->H' b=some (.tup xs)
 frzs:∀b o u,H b=some (.frz o u)->H' b=some (.frz o u)
 tbls:∀b ps,H b=some (.tbl ps)->∃more,H' b=some (.tbl (ps++more))
section
variable {fs fs' ex ex':List Addr}{H H1 H2:Hp}{h h1 h2 h':Heap}{a x e:Addr}{o:HO}
theorem Un.any(u:Un fs ex H H1 h h1){b:Addr}{ob:Obj}(q:h.get? b=some ob)(n:H b=none)(hx:b∉ex):∃sl,h1.get? b=some { ob with slots:=sl }:=by
 by_cases hb:b∈fs
 ·exact u.slot b ob q n hb hx
 ·exact⟨ob.slots,u.keep b ob q n hb hx⟩
theorem Un.trans(a:Un fs ex H H1 h h1)(b:Un fs ex H1 H2 h1 h2):Un fs ex H H2 h h2 where
 keep:=λc ob q n hc hx=>b.keep c ob (a.keep c ob q n hc hx) (a.free c ob q n hx) hc hx
 slot:=λc ob q n hc hx=>by
  obtain⟨sl,e1⟩:=a.slot c ob q n hc hx;obtain⟨Do,e2⟩:=b.slot c _ e1 (a.free c ob q n hx) hc hx;exact⟨Do,e2⟩
 free:=λc ob q n hx=>by
  obtain⟨o',e1⟩:=a.there c ob q hx;exact b.free c o' e1 (a.free c ob q n hx) hx
 there:=λc ob q hx=>by
  obtain⟨o',e1⟩:=a.there c ob q hx;exact b.there c o' e1 hx
 tups:=λc xs q=>b.tups c xs (a.tups c xs q)
 frzs:=λc ob xs q=>b.frzs c ob xs (a.frzs c ob xs q)
 tbls:=λc ps q=>by
  obtain⟨m1,e1⟩:=a.tbls c ps q;obtain⟨m2,e2⟩:=b.tbls c _ e1;exact⟨m1++m2,by rw[e2,Array.append_assoc]⟩
theorem Un.kept(k:∀b u,h.get? b=some u->h'.get? b=some u):Un fs ex H H h h' :=
 ⟨λb ob q _ _ _=>k b ob q,λb ob q _ _ _=>⟨ob.slots,k b ob q⟩,λ_ _ _ n _=>n,λb ob q _=>⟨ob,k b ob q⟩,λ_ _ q=>q,λ_ _ _ q=>q,λ_ ps q=>⟨#[],by rw[q];simp⟩⟩
theorem Un.refl:Un fs ex H H h h:=Un.kept λ_ _ q=>q
theorem Un.laid(k:∀b u,h.get? b=some u->h'.get? b=some u)(hp:h.objs.size<=a)(hn:H a=none):Un fs ex H (upd H a o) h h' where
 keep:=λb u q _ _ _=>k b u q
 slot:=λb u q _ _ _=>⟨u.slots,k b u q⟩
 free:=λb u q n _=>by rw[zg (zI (zH (zT q) hp))];exact n
 there:=λb u q _=>⟨u,k b u q⟩
 tups:=λb xs q=>by rw[zg (wu q hn)];exact q
 frzs:=λb u xs q=>by rw[zg (wu q hn)];exact q
 tbls:=λb ps q=>⟨#[],by rw[zg (wu q hn),q];simp⟩
theorem Un.write(mu:Mut (H x))(he:e=x\/H e=some (.own x))(k:∀b u,b≠e->h.get? b=some u->h'.get? b=some u)(C1:∃u,h'.get? e=some u):Un fs ex H (upd H x o) h h':=by
 have hx:∀b,H b=none->b≠x:=λb n z=>by subst z;rw[n]at mu;exact mu
 have hb:∀b,H b=none->b≠e:=λb n z=>by
  subst z;rcases he with r|r
  ·exact hx b n r
  ·rw[n]at r;cases r
 have hm:∀b u,H b=some u->¬Mut (some u)->b≠x:=λb u q nm z=>by subst z;rw[q]at mu;exact nm mu
 refine⟨λb u q n _ _=>k b u (hb b n) q,λb u q n _ _=>⟨u.slots,k b u (hb b n) q⟩,λb u q n _=>by rw[zg (hx b n)];exact n,λb u q _=>?_,
  λb xs q=>by rw[zg (hm b _ q λz=>z)];exact q,λb u xs q=>by rw[zg (hm b _ q λz=>z)];exact q,λb ps q=>⟨#[],by rw[zg (hm b _ q λz=>z),q];simp⟩⟩
 by_cases nV:b=e
 ·subst nV;exact C1
 ·exact⟨u,k b u nV q⟩
end
def trk(h:Heap)(H:Hp):List Addr:=(List.range h.objs.size).filter λa=>(H a).isSome
def g9(h:Heap)(H:Hp):Heap:=W.hideAll h (trk h H)
theorem Xl(h:Heap)(H:Hp):(g9 h H).objs.size=h.objs.size:=W.hideAll_size _ _
theorem Uv{h:Heap}{H:Hp}{b:Addr}{o:Obj}(e:h.get? b=some o)(n:H b=none):(g9 h H).get? b=some o :=
 W.hideAll_get _ e λhm=>by
  have q:(H b).isSome=true:=(uA.mp hm).2;rw[n]at q;simp at q
theorem S3{h:Heap}{H:Hp}{b:Addr}{o:Obj}(e:(g9 h H).get? b=some o):h.get? b=some o/\H b=none:=by
 have e':h.get? b=some o:=W.of_hideAll (trk h H) e;refine⟨e',?_⟩;cases q:H b with
 |none=>rfl
 |some x =>
  have hm:b∈trk h H:=uA.mpr ⟨yB.mpr (zT e'),by simp[q]⟩;have z:(g9 h H).get? b=none:=W.hideAll_none (trk h H) hm;rw[z]at e;cases e
def Sg(g h:Heap)(L:Addr):List (Addr×Obj):=(List.range h.objs.size).filterMap λa=>if a=L\/(g.get? a).isSome=true then none else(h.get? a).map λo=>(a,o)
def rest(g h:Heap)(L d:Addr):List (Addr×Obj):=(Sg g h L).filter λp=>decide (p.1≠d)
end L2
namespace L2
open PySem PySem.Spec PyProof.Rows
structure Mod(K:W.Frag)(mg:Str->Option Value)(base:Heap):Prop where
 kin:K.In base
 glob:base.Ns mainGlobals mg
 blt:∃mb,base.Ns builtinsNs mb/\∀x:Str,x≠"__name__"->mb x=bootBuiltins x
 nolimit:base.NoLimit
structure Cx where
 prog:Program
 w:World
 K:W.Frag
 mg:Str->Option Value
 base:Heap
 A:Around
 N:List Str
 s₀:Shared
 H₀:Hp
 env:Env
 outer:List Env
 stack:List Env
 ex:List Addr
 fn:Str->Bool
 calm:Bool
 pn:List (Addr×Obj)
 xe:Value->Shared->Prop
def frs(l:List Env):List Addr:=l.filterMap (·.frame)
abbrev Cx.fs(X:Cx):List Addr:=frs X.outer
def Vis(sc:Scope)(x:Str):Prop:=sc.names.lookup x=some .local\/sc.names.lookup x=some .cell\/sc.names.lookup x=some .free
def Loc(sc:Scope)(x:Str):Prop:=sc.names.lookup x=some .local\/sc.names.lookup x=some .cell
def Kt(env:Env)(h:Heap)(m:Str->Option Value)(x:Str)(u:Value):Prop :=
 (env.kindOf x=some .local/\m x=some u)\/((env.kindOf x=some .cell\/env.kindOf x=some .free)/\∃c,env.cells.lookup x=some c/\h.IsCell c (some u))
structure Cx.Ok(X:Cx):Prop where
 mod:Mod X.K X.mg X.base
 kind:X.env.scope.kind = .function
 glob:X.env.globals=mainGlobals
 blt:X.env.builtins=builtinsNs
 above:X.s₀.heap.objs.size<=X.env.locals
 inj:∀x y c,X.env.cells.lookup x=some c->X.env.cells.lookup y=some c->x=y
 has:∀x,(X.env.kindOf x=some .cell\/X.env.kindOf x=some .free)->∃c,X.env.cells.lookup x=some c
 cab:∀x c,X.fn x=true->X.env.cells.lookup x=some c->X.s₀.heap.objs.size<=c
 hd:X.calm=true->X.A.handled=none
 frames:X.A.frames=some X.stack
 stk:X.stack=X.outer\/(X.stack=X.env::X.outer/\X.env.frame=some X.env.locals)
 exf:∀b∈X.ex,b≠X.env.locals/\∀x c,X.env.cells.lookup x=some c->c≠b
 bs:∀b o,X.base.get? b=some o->X.s₀.heap.get? b=some o/\X.H₀ b=none
 bsz:X.base.objs.size<=X.s₀.heap.objs.size
 noex:∀b o,X.base.get? b=some o->b∉X.ex
 exfs:∀b∈X.ex,b∉X.fs
 funs:X.s₀.heap.FunFrames X.base X.outer
 frf:∀b∈X.fs,X.H₀ b=none
structure Inv(X:Cx)(pins:List (Addr×Obj))(σ:List (Option V))(H:Hp)(s:Shared):Prop where
 ok:X.Ok
 os:s.os=X.s₀.os
 bare:AllBare s.gens
 base:Un X.fs X.ex X.H₀ H X.s₀.heap s.heap
 loc:∃m,s.heap.Ns X.env.locals m/\∀(i:Nat)(x:Str)(v:V),X.N[i]?=some x->σ[i]?=some (some v)->Vis X.env.scope x->∃u,RelV v u/\Kt X.env s.heap m x u
 cell:∀x c,X.env.cells.lookup x=some c->∃v,s.heap.IsCell c v
 free:H X.env.locals=none
 freeC:∀x c,X.env.cells.lookup x=some c->H c=none
 pin:∀p∈X.pn++pins,s.heap.get? p.1=some p.2/\H p.1=none/\p.1≠X.env.locals/\p.1∉X.fs/\∀v,p.2.data≠.cell v
 hok:HOk X.prog X.w H s.heap
 len:σ.length=X.N.length
section
variable {X:Cx}{pins:List (Addr×Obj)}{σ:List (Option V)}{H H':Hp}{s:Shared}{h':Heap}
theorem Cx.Ok.nofr(ok:X.Ok){b:Addr}{o:Obj}(e:X.base.get? b=some o):b∉X.fs:=λhb=>by
 have:=(ok.funs.mem hb).1;rw[e]at this;cases this
theorem Inv.bs(I:Inv X pins σ H s):∀b o,X.base.get? b=some o->s.heap.get? b=some o/\H b=none:=λb o e =>
 ⟨I.base.keep b o (I.ok.bs b o e).1 (I.ok.bs b o e).2 (I.ok.nofr e) (I.ok.noex b o e),I.base.free b o (I.ok.bs b o e).1 (I.ok.bs b o e).2 (I.ok.noex b o e)⟩
theorem Inv.bk(I:Inv X pins σ H s):∀b o,X.base.get? b=some o->s.heap.get? b=some o:=λb o e=>(I.bs b o e).1
theorem Inv.mod(I:Inv X pins σ H s):Mod X.K X.mg X.base:=I.ok.mod
theorem Inv.kIn(I:Inv X pins σ H s):X.K.In s.heap:=I.ok.mod.kin.keeps I.bk
theorem Inv.lt(I:Inv X pins σ H s):X.env.locals<s.heap.objs.size:=let⟨_,hn,_⟩:=I.loc;hn.lt
theorem Inv.sz(I:Inv X pins σ H s):X.s₀.heap.objs.size<=s.heap.objs.size:=yW I.ok.above (xT I.lt)
theorem Inv.nofs(I:Inv X pins σ H s){a:Addr}(h:s.heap.objs.size<=a):a∉X.fs:=λhb=>by
 obtain⟨_,o,ho,_⟩:=I.ok.funs.mem hb;exact absurd (zH (zT ho) (yW I.sz h)) (xS _)
theorem Inv.cne(I:Inv X pins σ H s):∀x c,X.env.cells.lookup x=some c->c≠X.env.locals:=λx c e z=>by
 obtain⟨v,o,ho,hd⟩:=I.cell x c e;obtain⟨m,⟨o',es,ep,pY,hd',_⟩,_⟩:=I.loc;rw[z,pY]at ho;cases ho;rw[hd']at hd;cases hd
theorem Inv.funs(I:Inv X pins σ H s):s.heap.FunFrames X.base X.outer:=by
 have all:∀(l:List Env),(∀b∈frs l,b∈X.fs)->X.s₀.heap.FunFrames X.base l->s.heap.FunFrames X.base l:=by
  intro l
  induction l with
  |nil=>intro _ _;trivial
  |cons env r ih =>
   intro hs hl;obtain⟨hk,⟨L,o,hf,hn,ho,hd⟩,hr⟩:=hl;have hL:L∈X.fs:=hs L (by unfold frs;rw[xV,hf];exact yZ);obtain⟨sl,e⟩:=I.base.slot L o ho (I.ok.frf L hL) hL λz=>I.ok.exfs L z hL;exact⟨hk,⟨L,_,hf,hn,e,hd⟩,ih (λb hb=>hs b (by unfold frs;rw[xV,hf];exact zC _ hb)) hr⟩
 exact all X.outer (λ_ hb=>hb) I.ok.funs
theorem Inv.stack(I:Inv X pins σ H s):s.heap.FunFrames X.base X.stack:=by
 rcases I.ok.stk with e|⟨e,hf⟩
 ·rw[e];exact I.funs
 ·rw[e];obtain⟨m,hn,_⟩:=I.loc;refine .cons (by rw[I.ok.kind];decide) hf hn ?_ I.funs;exact vW (yW I.ok.bsz I.ok.above)
theorem Inv.stkSub(I:Inv X pins σ H s):∀b∈frs X.stack,b∈X.env.locals::X.fs:=λb hb=>by
 rcases I.ok.stk with e|⟨e,hf⟩
 ·rw[e]at hb;exact zC _ hb
 ·rw[e]at hb;unfold frs at hb;rw[xV,hf]at hb;exact hb
theorem Inv.stkFree(I:Inv X pins σ H s):∀b∈frs X.stack,H b=none:=λb hb=>by
 rcases zG.mp (I.stkSub b hb)with e|hb
 ·rw[e];exact I.free
 ·obtain⟨_,o,ho,_⟩:=I.ok.funs.mem hb;exact I.base.free b o ho (I.ok.frf b hb) λz=>I.ok.exfs b z hb
theorem Inv.step{g':Array GenState}{t':Nat}{d':Drawn}{ch:List Addr}(I:Inv X pins σ H s)
  (pZ:∀b∈ch,(b∈X.ex\/X.s₀.heap.objs.size<=b)/\b≠X.env.locals/\(∀x c,X.env.cells.lookup x=some c->c≠b)/\∀p∈X.pn++pins,p.1≠b)
  (keep:∀b o,b≠X.env.locals->b∉X.fs->b∉ch->s.heap.get? b=some o->H b=none->h'.get? b=some o)
  (slot:∀b o,b≠X.env.locals->b∈X.fs->b∉ch->s.heap.get? b=some o->H b=none->∃sl,h'.get? b=some { o with slots:=sl }) (free:∀b o,b∉ch->s.heap.get? b=some o->H b=none->H' b=none)
  (there:∀b o,b∉ch->s.heap.get? b=some o->∃o',h'.get? b=some o')
  (tups:∀b xs,H b=some (.tup xs)->H' b=some (.tup xs)) (frzs:∀b o u,H b=some (.frz o u)->H' b=some (.frz o u)) (tbls:∀b ps,H b=some (.tbl ps)->∃more,H' b=some (.tbl (ps++more)))
  (ns:∀m,s.heap.Ns X.env.locals m->h'.Ns X.env.locals m) (hok:HOk X.prog X.w H' h') (hg:AllBare g') :
  Inv X pins σ H' { s with heap:=h',gens:=g',drawn:=d',toks:=t' }:=by
 have neL:∀b o,X.s₀.heap.get? b=some o->b≠X.env.locals:=λb o e=>zI (zH (zT e) I.ok.above);have neC:∀b o,X.s₀.heap.get? b=some o->b∉X.ex->b∉ch:=λb o e hx hb=>by
  rcases(pZ b hb).1 with z|z
  ·exact hx z
  ·exact absurd (zH (zT e) z) (xS _)
 have Aa:∀x c,X.env.cells.lookup x=some c->∀v,s.heap.IsCell c v->h'.IsCell c v:=λx c e v ⟨o,ho,hd⟩=>by
  have Ff:c∉ch:=λz=>(pZ c z).2.2.1 x c e rfl
  by_cases hc:c∈X.fs
  ·obtain⟨sl,q⟩:=slot c o (I.cne x c e) hc Ff ho (I.freeC x c e);exact⟨_,q,hd⟩
  ·exact⟨o,keep c o (I.cne x c e) hc Ff ho (I.freeC x c e),hd⟩
 refine⟨I.ok,I.os,hg,⟨λb o e n hb hx=>?_,λb o e n hb hx=>?_,λb o e n hx=>?_,λb o e hx=>?_,λb xs e=>tups b xs (I.base.tups b xs e),λb o xs e=>frzs b o xs (I.base.frzs b o xs e),λb ps e=>?_⟩,?_,λx c e=>?_,?_,λx c e=>?_,λp hp=>?_,hok,I.len⟩
 ·exact keep b o (neL b o e) hb (neC b o e hx) (I.base.keep b o e n hb hx) (I.base.free b o e n hx)
 ·obtain⟨sl,e1⟩:=I.base.slot b o e n hb hx;obtain⟨Do,e2⟩:=slot b _ (neL b o e) hb (neC b o e hx) e1 (I.base.free b o e n hx);exact⟨Do,e2⟩
 ·obtain⟨o',e1⟩:=I.base.there b o e hx;exact free b o' (neC b o e hx) e1 (I.base.free b o e n hx)
 ·obtain⟨o',e1⟩:=I.base.there b o e hx;exact there b o' (neC b o e hx) e1
 ·obtain⟨m1,e1⟩:=I.base.tbls b ps e;obtain⟨m2,e2⟩:=tbls b _ e1;exact⟨m1++m2,by rw[e2,Array.append_assoc]⟩
 ·obtain⟨m,hn,hl⟩:=I.loc;refine⟨m,ns m hn,λi x v e1 e2 e3=>?_⟩;obtain⟨u,r,l⟩:=hl i x v e1 e2 e3;refine⟨u,r,?_⟩;rcases l with l|⟨k,c,e,z⟩
  ·exact .inl l
  ·exact .inr ⟨k,c,e,Aa x c e _ z⟩
 ·obtain⟨v,z⟩:=I.cell x c e;exact⟨v,Aa x c e v z⟩
 ·obtain⟨m,⟨o,_,_,ho,_⟩,_⟩:=I.loc;exact free _ o (λz=>(pZ _ z).2.1 rfl) ho I.free
 ·obtain⟨v,o,ho,hd⟩:=I.cell x c e;exact free c o (λz=>(pZ c z).2.2.1 x c e rfl) ho (I.freeC x c e)
 ·obtain⟨e,n,ne,nf,d⟩:=I.pin p hp;have Ff:p.1∉ch:=λz=>(pZ p.1 z).2.2.2 p hp rfl;exact⟨keep p.1 p.2 ne nf Ff e n,free p.1 p.2 Ff e n,ne,nf,d⟩
theorem Inv.un{t':Nat}(I:Inv X pins σ H s)(u:Un X.fs [] H H' s.heap h')(hok:HOk X.prog X.w H' h'):Inv X pins σ H' { s with heap:=h',toks:=t' }:=by
 obtain⟨m,⟨o,es,ep,ho,r⟩,_⟩:=id I.loc;obtain⟨sl,hL⟩:=u.any ho I.free (by simp);exact I.step (g':=s.gens) (d':=s.drawn) (ch:=[]) (λ_ z=>nomatch z) (λb o _ hb _ e n=>u.keep b o e n hb (by simp)) (λb o _ hb _ e n=>u.slot b o e n hb (by simp)) (λb o _ e n=>u.free b o e n (by simp)) (λb o _ e=>u.there b o e (by simp)) u.tups u.frzs u.tbls (λm' hm=>by
  obtain⟨o',cV,iJ,pY,r'⟩:=hm;rw[ho]at pY;cases pY;exact⟨_,cV,iJ,hL,r'⟩) hok I.bare
theorem Inv.call{g':Array GenState}{t':Nat}{d':Drawn}{ch:List Addr}(I:Inv X pins σ H s)(u:Un (frs X.stack) ch H H' s.heap h')(hok:HOk X.prog X.w H' h')(hg:AllBare g')
  (pZ:∀b∈ch,(b∈X.ex\/X.s₀.heap.objs.size<=b)/\b≠X.env.locals/\(∀x c,X.env.cells.lookup x=some c->c≠b)/\∀p∈X.pn++pins,p.1≠b) :
  Inv X pins σ H' { s with heap:=h',gens:=g',drawn:=d',toks:=t' }:=by
 obtain⟨m,⟨o,es,ep,ho,r⟩,_⟩:=id I.loc;obtain⟨sl,hL⟩:=u.any ho I.free λz=>(pZ _ z).2.1 rfl;exact I.step (ch:=ch) pZ (λb o hL hb hc e n=>u.keep b o e n (λz=>(zG.mp (I.stkSub b z)).elim hL hb) hc) (λb o _ _ hc e n=>u.any e n hc) (λb o hc e n=>u.free b o e n hc) (λb o hc e=>u.there b o e hc) u.tups u.frzs u.tbls (λm' hm=>by
  obtain⟨o',cV,iJ,pY,r'⟩:=hm;rw[ho]at pY;cases pY;exact⟨_,cV,iJ,hL,r'⟩) hok hg
theorem Inv.turned{t':Nat}{it:Addr}(I:Inv X pins σ H s)(k:∀b o,b≠it->s.heap.get? b=some o->h'.get? b=some o)(hn:H it=none)(hL:it≠X.env.locals)
  (h1:it∈X.ex\/X.s₀.heap.objs.size<=it) (h2:∀x c,X.env.cells.lookup x=some c->c≠it) (h3:∀p∈X.pn++pins,p.1≠it):Inv X pins σ H { s with heap:=h',toks:=t' }:=by
 have Fe:∀b u,H b=some u->b≠it:=λb u e z=>by rw[z,hn]at e;cases e
 refine I.step (g':=s.gens) (d':=s.drawn) (ch:=[it]) (λb hb=>?_) (λb o _ _ hc e _=>k b o (λz=>hc (by simp[z])) e) (λb o _ _ hc e _=>⟨o.slots,k b o (λz=>hc (by simp[z])) e⟩) (λ_ _ _ _ n=>n)
  (λb o hc e=>⟨o,k b o (λz=>hc (by simp[z])) e⟩) (λ_ _ e=>e) (λ_ _ _ e=>e) (λb ps e=>⟨#[],by rw[e];simp⟩) (λm hm=>?_) (λb u e=>?_) I.bare
 ·have e:b=it:=by simpa using hb
  subst e;exact⟨h1,hL,h2,h3⟩
 ·obtain⟨o,es,ep,ho,r⟩:=hm;exact⟨o,es,ep,k _ o (wY hL) ho,r⟩
 ·refine(I.hok b u e).stay (λc v hc q=>k c v ?_ q) (λ_ q=>q) λ_ _ q=>q;rcases hc with z|z
  ·rw[z];exact Fe b u e
  ·exact Fe c _ z
theorem Inv.tok(I:Inv X pins σ H s)(t:Nat):Inv X pins σ H { s with toks:=t }:=I.un (h':=s.heap) (t':=t) Un.refl I.hok
theorem Inv.kept{t':Nat}(I:Inv X pins σ H s)(k:∀b u,s.heap.get? b=some u->h'.get? b=some u):Inv X pins σ H { s with heap:=h',toks:=t' }:=I.un (Un.kept k) (I.hok.kept k)
theorem Inv.laid{a:Addr}{o:HO}{t':Nat}(I:Inv X pins σ H s)(k:∀b u,s.heap.get? b=some u->h'.get? b=some u)(hp:s.heap.objs.size<=a)(new:ObjOk X.prog X.w (upd H a o) h' a o):
  Inv X pins σ (upd H a o) { s with heap:=h',toks:=t' }:=I.un (Un.laid k hp (I.hok.fresh hp)) (I.hok.laid k hp new)
theorem Inv.write{x e:Addr}{o:HO}{t':Nat}(I:Inv X pins σ H s)(mu:Mut (H x))(he:e=x\/H e=some (.own x))(k:∀b u,b≠e->s.heap.get? b=some u->h'.get? b=some u)(C1:∃u,h'.get? e=some u)
  (new:ObjOk X.prog X.w (upd H x o) h' x o):Inv X pins σ (upd H x o) { s with heap:=h',toks:=t' }:=I.un (Un.write mu he k C1) (I.hok.write mu he k C1 new)
theorem Inv.pins_of{rW:List (Addr×Obj)}(I:Inv X pins σ H s)(h:∀p∈rW,s.heap.get? p.1=some p.2/\H p.1=none/\p.1≠X.env.locals/\p.1∉X.fs/\∀v,p.2.data≠.cell v):Inv X rW σ H s :=
 ⟨I.ok,I.os,I.bare,I.base,I.loc,I.cell,I.free,I.freeC,λp hp=>(zO.mp hp).elim (λz=>I.pin p (xL _ z)) (h p),I.hok,I.len⟩
theorem mn{N:List Str}(hN:N.Nodup){i j:Nat}{x:Str}(a:N[i]?=some x)(b:N[j]?=some x):i=j:=by
 obtain⟨h1,e1⟩:=zU.mp a;obtain⟨h2,e2⟩:=zU.mp b;exact(List.getElem_inj hN).mp (e1.trans e2.symm)
theorem Ym{M:Model}{A:Around}{E:Value->Shared->Prop}{i:Nat}{x:Str}{v:V}{u:Value}{Q:Unit->Shared->Prop}(I:Inv X pins σ H s)(hN:X.N.Nodup)(hi:X.N[i]?=some x)(hx:Loc X.env.scope x)(r:RelV v u)
  (h:∀s',Inv X pins (σ.set i (some v)) H s'->(∃a,Heap.SameBut a s.heap s'.heap/\(a=X.env.locals\/X.env.cells.lookup x=some a))->Q () s') (hf:X.fn x=true\/X.env.scope.names.lookup x=some .local:=by first|exact .inl rfl|exact .inr rfl|assumption):wpAny M A (storeName X.env x u) Q E s:=by
 obtain⟨m,hn,hl⟩:=id I.loc;have Bn:(X.env.scope.kind == .class||(X.env.scope.kind == .module&&X.env.locals != X.env.globals))=false:=by rw[I.ok.kind];rfl
 have hiσ:i<σ.length:=by rw[I.len];exact(zU.mp hi).1
 have cne:=I.cne;have mC:∀{a:Addr}{h':Heap},(∃o,s.heap.get? a=some o/\H a=none)->Heap.SameBut a s.heap h'->HOk X.prog X.w H h':=λ{a h'} ha hs b ob e=>by
  obtain⟨_,_,sI⟩:=ha;refine(I.hok b ob e).stay (λc w' hc q=>(hs.2 c ?_).trans q) (λ_ q=>q) λ_ _ q=>q;rintro rfl;rcases hc with rfl|hc
  ·rw[sI]at e;cases e
  ·rw[sI]at hc;cases hc
 rcases hx with hk|hk
 ·refine wpAny_storeName_local hk hn (λh' Cv hs=>?_) Bn;obtain⟨oL,_,_,hoL,_⟩:=id hn;refine h _ ⟨I.ok,I.os,I.bare,⟨λb o e n hb hx=>?_,λb o e n hb hx=>?_,I.base.free,λb o e hx=>?_,I.base.tups,I.base.frzs,I.base.tbls⟩,⟨_,Cv,λj y v' e1 e2 e3=>?_⟩,λy c e=>?_,I.free,I.freeC,λp hp=>?_,mC ⟨oL,hoL,I.free⟩ hs,by simpa using I.len⟩ ⟨_,hs,.inl rfl⟩
  ·exact(hs.2 b (zI (zH (zT e) I.ok.above))).trans (I.base.keep b o e n hb hx)
  ·obtain⟨sl,e1⟩:=I.base.slot b o e n hb hx;exact⟨sl,(hs.2 b (zI (zH (zT e) I.ok.above))).trans e1⟩
  ·obtain⟨o',e1⟩:=I.base.there b o e hx;exact⟨o',(hs.2 b (zI (zH (zT e) I.ok.above))).trans e1⟩
  ·by_cases hj:j=i
   ·subst hj;rw[hi]at e1;cases e1;rw[tQ hiσ]at e2;cases e2;exact⟨u,r,.inl ⟨hk,by simp⟩⟩
   ·rw[uT (wY hj)]at e2;obtain⟨u',r',q⟩:=hl j y v' e1 e2 e3;refine⟨u',r',?_⟩;rcases q with⟨k,e⟩|⟨k,c,e,z⟩
    ·refine .inl ⟨k,?_⟩;have:y≠x:=λe=>hj (mn hN e1 (e▸hi));simp[this,e]
    ·exact .inr ⟨k,c,e,z.sameBut hs (cne y c e)⟩
  ·obtain⟨w',z⟩:=I.cell y c e;exact⟨w',z.sameBut hs (cne y c e)⟩
  ·obtain⟨e,n,ne,nf,d⟩:=I.pin p hp;exact⟨(hs.2 p.1 ne).trans e,n,ne,nf,d⟩
 ·have hfn:X.fn x=true:=by
   rcases hf with z|z
   ·exact z
   ·rw[z]at hk;cases hk
  obtain⟨c,hc⟩:=I.ok.has x (.inl hk);obtain⟨w',z⟩:=I.cell x c hc;refine wpAny_storeName_cell I.ok.kind hk hc z (λh' qV hs=>?_);obtain⟨oc,hoc,hocd⟩:=id z;refine h { s with heap:=h' } ⟨I.ok,I.os,I.bare,⟨λb o e n hb hx=>?_,λb o e n hb hx=>?_,I.base.free,λb o e hx=>?_,I.base.tups,I.base.frzs,I.base.tbls⟩,⟨m,hn.sameBut hs (wY (cne x c hc)),λj y v' e1 e2 e3=>?_⟩,λy c' e=>?_,I.free,I.freeC,λp hp=>?_,mC ⟨oc,hoc,I.freeC x c hc⟩ hs,by simpa using I.len⟩ ⟨c,hs,.inr hc⟩
  ·exact(hs.2 b (zI (zH (zT e) (I.ok.cab x c hfn hc)))).trans (I.base.keep b o e n hb hx)
  ·obtain⟨sl,e1⟩:=I.base.slot b o e n hb hx;exact⟨sl,(hs.2 b (zI (zH (zT e) (I.ok.cab x c hfn hc)))).trans e1⟩
  ·obtain⟨o',e1⟩:=I.base.there b o e hx;exact⟨o',(hs.2 b (zI (zH (zT e) (I.ok.cab x c hfn hc)))).trans e1⟩
  ·by_cases hj:j=i
   ·subst hj;rw[hi]at e1;cases e1;rw[tQ hiσ]at e2;cases e2;exact⟨u,r,.inr ⟨.inl hk,c,hc,qV⟩⟩
   ·rw[uT (wY hj)]at e2;obtain⟨u',r',q⟩:=hl j y v' e1 e2 e3;refine⟨u',r',?_⟩;rcases q with q|⟨k,c',e,z'⟩
    ·exact .inl q
    ·refine .inr ⟨k,c',e,z'.sameBut hs ?_⟩;rintro rfl;exact hj (mn hN e1 (I.ok.inj _ _ _ e hc▸hi))
  ·by_cases hcc:c'=c
   ·subst hcc;exact⟨_,qV⟩
   ·obtain⟨w2,z2⟩:=I.cell y c' e;exact⟨w2,z2.sameBut hs hcc⟩
  ·obtain⟨e,n,ne,nf,d⟩:=I.pin p hp;refine⟨(hs.2 p.1 ?_).trans e,n,ne,nf,d⟩;intro q;rw[q,hoc]at e;have q':oc=p.2:=zB e;exact d w' (by rw[<-q'];exact hocd)
theorem nq{M:Model}{A:Around}{E:Value->Shared->Prop}{i:Nat}{x:Str}{v:V}{u:Value}{Q:Unit->Shared->Prop}(I:Inv X pins σ H s)(hN:X.N.Nodup)(hi:X.N[i]?=some x)(hx:Loc X.env.scope x)(r:RelV v u)
  (h:∀s',Inv X pins (σ.set i (some v)) H s'->Q () s') (hf:X.fn x=true\/X.env.scope.names.lookup x=some .local:=by first|exact .inl rfl|exact .inr rfl|assumption):wpAny M A (storeName X.env x u) Q E s :=
 Ym I hN hi hx r (λs' I' _=>h s' I') hf
theorem Inv.call'{s':Shared}{ch:List Addr}(I:Inv X pins σ H s)(ho:s'.os=s.os)(u:Un (frs X.stack) ch H H' s.heap s'.heap)(hok:HOk X.prog X.w H' s'.heap)(hg:AllBare s'.gens)
  (pZ:∀b∈ch,(b∈X.ex\/X.s₀.heap.objs.size<=b)/\b≠X.env.locals/\(∀x c,X.env.cells.lookup x=some c->c≠b)/\∀p∈X.pn++pins,p.1≠b):Inv X pins σ H' s':=by
 obtain⟨h',g',d',t',o'⟩:=s';have e:o'=s.os:=ho;subst e;exact I.call (g':=g') (t':=t') (d':=d') u hok hg pZ
end
abbrev XK:=Value->Option Addr->Hp->Prop
abbrev St:=List (Option V)
abbrev VK:=V->Hp->Prop
abbrev TE:=St->Hp->VK->Prop
abbrev TT:=St->Hp->(Bool->Hp->Prop)->Prop
abbrev TA:=St->Hp->(List V->Hp->Prop)->Prop
structure u9 where
 nx:St->Hp->Prop
 rt:VK
 bk:St->Hp->Prop:=λ_ _=>False
 ct:St->Hp->Prop:=λ_ _=>False
abbrev TS:=u9->St->Hp->Prop
def EP(X:Cx)(pins:List (Addr×Obj))(σ:St)(Q:VK)(u:Value)(s':Shared):Prop:=∃v H',Inv X pins σ H' s'/\RelV v u/\Q v H'
def TP(X:Cx)(pins:List (Addr×Obj))(σ:St)(Q:Bool->Hp->Prop)(b:Bool)(s':Shared):Prop:=∃H',Inv X pins σ H' s'/\Q b H'
def AP(X:Cx)(pins:List (Addr×Obj))(σ:St)(Q:List V->Hp->Prop)(us:List Value)(s':Shared):Prop:=∃vs H',Inv X pins σ H' s'/\Vals vs us/\Q vs H'
def SP(X:Cx)(pins:List (Addr×Obj))(D:u9)(f:Flow)(s':Shared):Prop :=
 match f with
 | .next=>∃σ' H',Inv X pins σ' H' s'/\D.nx σ' H'
 | .brk=>∃σ' H',Inv X pins σ' H' s'/\D.bk σ' H'
 | .cont=>∃σ' H',Inv X pins σ' H' s'/\D.ct σ' H'
 | .ret u=>∃v σ' H',Inv X pins σ' H' s'/\RelV v u/\D.rt v H'
def PE(X:Cx)(e:Expr)(t:TE):Prop :=
 ∀(pins:List (Addr×Obj))(s:Shared)(σ:St)(H:Hp)(Q:VK),Inv X pins σ H s->t σ H Q->wpAny (model X.prog X.w) X.A (eval e X.env) (EP X pins σ Q) X.xe s
def PT(X:Cx)(e:Expr)(t:TT):Prop :=
 ∀(pins:List (Addr×Obj))(s:Shared)(σ:St)(H:Hp)(Q:Bool->Hp->Prop),Inv X pins σ H s->t σ H Q->wpAny (model X.prog X.w) X.A (isTrue e X.env (eval e X.env)) (TP X pins σ Q) X.xe s
def PW(X:Cx)(e:Expr)(t:TT):Prop :=
 ∀(lZ:Sem Value)(pins:List (Addr×Obj))(s:Shared)(σ:St)(H:Hp)(Q:Bool->Hp->Prop),Inv X pins σ H s->t σ H Q->wpAny (model X.prog X.w) X.A (isTrue e X.env lZ) (TP X pins σ Q) X.xe s
theorem PW.pt{X:Cx}{e:Expr}{t:TT}(h:PW X e t):PT X e t:=h _
def PA(X:Cx)(es:List Expr)(t:TA):Prop :=
 ∀(pos:Pos)(pins:List (Addr×Obj))(s:Shared)(σ:St)(H:Hp)(Q:List V->Hp->Prop),Inv X pins σ H s->t σ H Q->wpAny (model X.prog X.w) X.A (spliced (backTo pos (starEach es X.env))) (AP X pins σ Q) X.xe s
def PS(X:Cx)(st:Stmt)(t:TS):Prop :=
 ∀(pins:List (Addr×Obj))(s:Shared)(σ:St)(H:Hp)(D:u9),Inv X pins σ H s->t D σ H->wpAny (model X.prog X.w) X.A (exec st X.env) (SP X pins D) X.xe s
def PSs(X:Cx)(st:List Stmt)(t:TS):Prop :=
 ∀(pins:List (Addr×Obj))(s:Shared)(σ:St)(H:Hp)(D:u9),Inv X pins σ H s->t D σ H->wpAny (model X.prog X.w) X.A (execs st X.env) (SP X pins D) X.xe s
theorem thn{α:Type}{t:Sem α}{Q Q':α->Shared->Prop}{M:Model}{A:Around}{E:Value->Shared->Prop}{s:Shared}(h:wpAny M A t Q E s)(hQ:∀a s,Q a s->Q' a s):wpAny M A t Q' E s:=yT h hQ λ_ _ x=>x
end L2
namespace L2
open PySem PySem.Spec PyProof.Rows
section
variable {X:Cx}
def Lp(i:Nat):TE:=fun σ H Q=>∃v,σ[i]?=some (some v)/\Q v H
def tC(v:V):TE:=λ_ H Q=>Q v H
theorem Qm{i:Nat}{x:Str}{pos:Pos}(hN:X.N[i]?=some x)(hv:Vis X.env.scope x)(hd:(x==("__debug__":Str))=false:=by decide)(kO:(x==("__classdict__":Str))=false:=by decide):PE X (.Name x pos) (Lp i):=by
 intro pins s σ H Q I h;obtain⟨v,e,h⟩:=h;obtain⟨m,hn,hl⟩:=I.loc;obtain⟨u,r,l⟩:=hl i x v hN e hv;have cB:EP X pins σ Q u s:=⟨v,H,I,r,h⟩
 rcases l with⟨hk,hm⟩|⟨hk,c,hc,hcell⟩
 ·exact wpAny_Name (wpAny_loadName_local I.ok.kind hk hn hm cB) hd
 ·rcases hk with hk|hk
  ·exact wpAny_Name (wpAny_loadName_cell I.ok.kind hk hc hcell cB) hd
  ·exact wpAny_Name (wpAny_loadName_free I.ok.kind hk hc hcell cB kO) hd
theorem z4{i j pos}:PE X (.Constant (.int i) j pos) (tC (.int i)):=λ_ _ _ H _ I h=>wpAny_Constant_int ⟨.int i,H,I.tok _,⟨_,rfl⟩,h⟩
theorem xq{b j pos}:PE X (.Constant (.bool b) j pos) (tC (.bl b)):=λ_ _ _ H _ I h=>Constant_bool ⟨.bl b,H,I,rfl,h⟩
theorem V4{j pos}:PE X (.Constant .none j pos) (tC .non):=λ_ _ _ H _ I h=>Constant_none ⟨.non,H,I,rfl,h⟩
theorem zo{x j pos}:PE X (.Constant (.str x) j pos) (tC (.str x)):=λ_ _ _ H _ I h=>Calls.Constant_str ⟨.str x,H,I.tok _,⟨_,rfl⟩,h⟩
def Gl(X:Cx)(x:Str):Prop:=X.env.kindOf x=some .globalImplicit
theorem vg{E:Value->Shared->Prop}{pins:List (Addr×Obj)}{s:Shared}{σ:St}{H:Hp}{x:Str}{u:Value}{pos:Pos}{Q:Value->Shared->Prop}(I:Inv X pins σ H s)(hg:Gl X x)(hm:X.mg x=some u)(h:Q u s)
  (hd:(x==("__debug__":Str))=false:=by decide):wpAny (model X.prog X.w) X.A (eval (.Name x pos) X.env) Q E s :=
 Calls.Name_function_global I.ok.kind hg (Calls.loadGlobal_global (by rw[I.ok.glob];exact I.mod.glob.keeps I.bk) hm h) hd
theorem u4{E:Value->Shared->Prop}{pins:List (Addr×Obj)}{s:Shared}{σ:St}{H:Hp}{x:Str}{u:Value}{pos:Pos}{Q:Value->Shared->Prop}(I:Inv X pins σ H s)(hg:Gl X x)(hm:X.mg x=none)(hv:bootBuiltins x=some u)(h:Q u s)
  (hn:x≠"__name__":=by decide) (hd:(x==("__debug__":Str))=false:=by decide):wpAny (model X.prog X.w) X.A (eval (.Name x pos) X.env) Q E s:=by
 obtain⟨mb,h1,h2⟩:=I.mod.blt;exact Calls.Name_function_global I.ok.kind hg (Calls.loadGlobal_builtin (by rw[I.ok.glob];exact I.mod.glob.keeps I.bk) hm (by rw[I.ok.blt];exact h1.keeps I.bk) ((h2 x hn).trans hv) h) hd
theorem x9{x:Str}{v:V}{u:Value}{pos:Pos}(hg:Gl X x)(hm:X.mg x=none)(hv:bootBuiltins x=some u)(r:RelV v u)(hn:x≠"__name__":=by decide)(hd:(x==("__debug__":Str))=false:=by decide):PE X (.Name x pos) (tC v) :=
 λ_ _ _ H _ I h=>u4 I hg hm hv ⟨v,H,I,r,h⟩ hn hd
variable {a b:Expr}{ta tb:TE}{pos:Pos}
variable {tA tB':TT}{rest:List Expr}
def On(t u:TT):TT:=fun σ H Q=>t σ H λc H1=>if c=true then u σ H1 Q else Q false H1
def tOr(t u:TT):TT:=fun σ H Q=>t σ H λc H1=>if c=true then Q true H1 else u σ H1 Q
def Ot(t:TT):TT:=fun σ H Q=>t σ H λc H1=>Q (!c) H1
theorem tf(ha:PT X a tA):PW X (.BoolOp .And [a] pos) tA:=by
 intro wh pins s σ H Q I h;refine isTrue_and (thn (ha pins s σ H Q I h) λc s1 e=>?_);cases c with
 |true=>exact isTrue_and_nil e
 |false=>exact e
theorem mx(ha:PT X a tA):PW X (.BoolOp .Or [a] pos) tA:=by
 intro wh pins s σ H Q I h;refine isTrue_or (thn (ha pins s σ H Q I h) λc s1 e=>?_);cases c with
 |false=>exact isTrue_or_nil e
 |true=>exact e
theorem mw(ha:PT X a tA)(hb:PW X (.BoolOp .And (b::rest) pos) tB'):PW X (.BoolOp .And (a::b::rest) pos) (On tA tB'):=by
 intro wh pins s σ H Q I h;refine isTrue_and (thn (ha pins s σ H _ I h) λc s1 ⟨H1,I1,q1⟩=>?_);cases c with
 |true=>exact hb wh pins s1 σ H1 Q I1 q1
 |false=>exact⟨H1,I1,q1⟩
theorem fm(ha:PT X a tA)(hb:PW X (.BoolOp .Or (b::rest) pos) tB'):PW X (.BoolOp .Or (a::b::rest) pos) (tOr tA tB'):=by
 intro wh pins s σ H Q I h;refine isTrue_or (thn (ha pins s σ H _ I h) λc s1 ⟨H1,I1,q1⟩=>?_);cases c with
 |true=>exact⟨H1,I1,q1⟩
 |false=>exact hb wh pins s1 σ H1 Q I1 q1
theorem wv(ha:PT X a tA):PT X (.UnaryOp .Not a pos) (Ot tA):=by
 intro pins s σ H Q I h;exact isTrue_not (ha pins s σ H (λc H1=>Q (!c) H1) I h)
theorem xo{op}{t:TE}(h:PE X a t):PE X (.BoolOp op [a] pos) t:=λpins s σ H Q I hw=>BoolOp_one (h pins s σ H Q I hw)
def tIf(t:TT)(ta tb:TE):TE:=fun σ H Q=>t σ H λc H1=>if c=true then ta σ H1 Q else tb σ H1 Q
end
end L2
namespace L2
open PySem PySem.Spec PyProof.Rows
def SqL(K:W.Frag)(H:Hp)(a:Addr)(xs:List V):Prop :=
 Rd H a (.lst xs) \/
  ∃(o:Obj)(aF:Array Value)(n:Nat),K.lookup a=some o/\o.cls = .type "list"/\o.dict=none/\o.data = .seq aF n/\aF.size<=sizeLine/\Vals xs aF.toList
def SqT(K:W.Frag)(H:Hp)(a:Addr)(xs:List V):Prop :=
 Rd H a (.tup xs) \/
  ∃(o:Obj)(aF:Array Value)(n:Nat),K.lookup a=some o/\o.cls = .type "tuple"/\o.data = .seq aF n/\aF.size<=sizeLine/\Vals xs aF.toList
def Kv:Value->Option V
 | .none=>some .non
 | .bool b=>some (.bl b)
 | .int i _=>some (.int i)
 | .str x _=>some (.str x)
 | .bytes b _=>some (.byt b)
 | .float b _=>some (.flt b)
 | .ref a=>some (.ref a)
 | .type n=>some (.ty n)
 |_=>none
theorem RelV.abs{x:V}{u:Value}(r:RelV x u):Kv u=some x:=by
 cases x with
 |non=>cases r;rfl
 |bl _=>cases r;rfl
 |int _=>obtain⟨t,rfl⟩:=r;rfl
 |str _=>obtain⟨t,rfl⟩:=r;rfl
 |byt _=>obtain⟨t,rfl⟩:=r;rfl
 |flt _=>obtain⟨t,rfl⟩:=r;rfl
 |ref _=>cases r;rfl
 |ty _=>cases r;rfl
theorem RelV.inj{x y:V}{u:Value}(r:RelV x u)(q:RelV y u):x=y:=zB (r.abs.symm.trans q.abs)
theorem Vals.inj:∀{xs ys:List V}{us:List Value},Vals xs us->Vals ys us->xs=ys
 |_,_,_,.nil,.nil=>rfl
 |_,_,_,.cons r t,.cons r' t'=>by rw[r.inj r',Vals.inj t t']
section
variable {X:Cx}{pins:List (Addr×Obj)}{σ:St}{H:Hp}{s:Shared}{a:Addr}{xs ys:List V}
theorem SqL.of{K:W.Frag}(h:H a=some (.lst xs)):SqL K H a xs:=.inl (.inl h)
theorem SqT.of{K:W.Frag}(h:H a=some (.tup xs)):SqT K H a xs:=.inl (.inl h)
theorem Inv.list(I:Inv X pins σ H s)(h:SqL X.K H a xs):∃aF:List Value,Vals xs aF/\PlainL s.heap a aF.toArray/\xs.length<=sizeLine:=by
 rcases h with h|⟨o,aF,n,hk,hc,hd,hs,hz,r⟩
 ·obtain⟨z,aF,n,r,e⟩:=h.ok I.hok;exact⟨aF,r,⟨_,n,e,rfl,rfl,rfl⟩,z⟩
 ·refine⟨aF.toList,r,⟨o,n,I.kIn a o hk,hc,hd,by simpa using hs⟩,?_⟩;have e:=r.length;simp only[xQ]at e;lia
theorem Inv.tuple(I:Inv X pins σ H s)(h:SqT X.K H a xs):∃aF:List Value,Vals xs aF/\IsTup s.heap a aF.toArray/\xs.length<=sizeLine:=by
 rcases h with h|⟨o,aF,n,hk,hc,hs,hz,r⟩
 ·obtain⟨z,aF,r,p⟩:=h.ok I.hok;exact⟨aF,r,p,z⟩
 ·refine⟨aF.toList,r,⟨o,I.kIn a o hk,hc,n,by simpa using hs⟩,?_⟩;have e:=r.length;simp only[xQ]at e;lia
theorem Inv.list_inj(I:Inv X pins σ H s)(h:SqL X.K H a xs)(h':SqL X.K H a ys):xs=ys:=by
 obtain⟨aF,r,⟨o,n,e,_,_,d⟩,_⟩:=I.list h;obtain⟨its',r',⟨o',n',e',_,_,d'⟩,_⟩:=I.list h';rw[e]at e';cases e';rw[d]at d';injection d' with d1 _;have:aF=its':=by simpa using xF Array.toList d1
 subst this;exact r.inj r'
theorem Inv.tuple_inj(I:Inv X pins σ H s)(h:SqT X.K H a xs)(h':SqT X.K H a ys):xs=ys:=by
 obtain⟨aF,r,⟨o,e,_,n,d⟩,_⟩:=I.tuple h;obtain⟨its',r',⟨o',e',_,n',d'⟩,_⟩:=I.tuple h';rw[e]at e';cases e';rw[d]at d';injection d' with d1 _;have:aF=its':=by simpa using xF Array.toList d1
 subst this;exact r.inj r'
end
abbrev Cx.wish(X:Cx)(E:Value->Shared->Prop):Cx:={ X with xe:=E }
abbrev Cx.nox(X:Cx):Cx:=X.wish λ_ _=>False
theorem Cx.Ok.wish{X:Cx}(ok:X.Ok)(E:Value->Shared->Prop):(X.wish E).Ok :=
 ⟨ok.mod,ok.kind,ok.glob,ok.blt,ok.above,ok.inj,ok.has,ok.cab,ok.hd,ok.frames,ok.stk,ok.exf,ok.bs,ok.bsz,ok.noex,ok.exfs,ok.funs,ok.frf⟩
theorem Cx.Ok.unwish{X:Cx}{E:Value->Shared->Prop}(ok:(X.wish E).Ok):X.Ok :=
 ⟨ok.mod,ok.kind,ok.glob,ok.blt,ok.above,ok.inj,ok.has,ok.cab,ok.hd,ok.frames,ok.stk,ok.exf,ok.bs,ok.bsz,ok.noex,ok.exfs,ok.funs,ok.frf⟩
section
variable {X:Cx}{pins:List (Addr×Obj)}{σ:St}{H:Hp}{s:Shared}{E:Value->Shared->Prop}
theorem Inv.wish(I:Inv X pins σ H s)(E:Value->Shared->Prop):Inv (X.wish E) pins σ H s:=⟨I.ok.wish E,I.os,I.bare,I.base,I.loc,I.cell,I.free,I.freeC,I.pin,I.hok,I.len⟩
theorem Inv.unwish(I:Inv (X.wish E) pins σ H s):Inv X pins σ H s:=⟨I.ok.unwish,I.os,I.bare,I.base,I.loc,I.cell,I.free,I.freeC,I.pin,I.hok,I.len⟩
theorem SP.unwish{D:u9}{f:Flow}{s':Shared}(h:SP (X.wish E) pins D f s'):SP X pins D f s':=by
 cases f with
 |next=>obtain⟨σ',H',I,q⟩:=h;exact⟨σ',H',I.unwish,q⟩
 |brk=>obtain⟨σ',H',I,q⟩:=h;exact⟨σ',H',I.unwish,q⟩
 |cont=>obtain⟨σ',H',I,q⟩:=h;exact⟨σ',H',I.unwish,q⟩
 |ret u=>obtain⟨v,σ',H',I,r,q⟩:=h;exact⟨v,σ',H',I.unwish,r,q⟩
theorem PSs.nox{st:List Stmt}{t:TS}(h:PSs X.nox st t):PSs X st t:=λpins s σ H D I hw =>
 yT (h pins s σ H D (I.wish _) hw) (λ_ _ q=>q.unwish) λ_ _ z=>False.elim z
end
section
variable {X:Cx}{st:Stmt}{rest:List Stmt}{t u:TS}{e:Expr}{te:TE}{pos:Pos}
def Wt:TS:=λD σ H=>D.nx σ H
def T9(t u:TS):TS:=λD σ H=>t { D with nx:=u D } σ H
theorem zm:PSs X [] Wt:=λ_ _ σ H _ I h=>vC ⟨σ,H,I,h⟩
theorem z5(h1:PS X st t)(h2:PSs X rest u):PSs X (st::rest) (T9 t u):=by
 intro pins s σ H D I h;refine wpAny_execs_cons (thn (h1 pins s σ H { D with nx:=u D } I h) λf s1 q=>?_);cases f with
 |next =>
  obtain⟨σ',H',I',q⟩:=q;exact h2 pins s1 σ' H' D I' q
 |ret v=>exact q
 |brk=>exact q
 |cont=>exact q
theorem zz(h1:PS X st t):PSs X [st] t:=by
 intro pins s σ H D I h;refine wpAny_execs_cons (thn (h1 pins s σ H D I h) λf s1 q=>?_);cases f with
 |next=>exact vC q
 |ret v=>exact q
 |brk=>exact q
 |cont=>exact q
def Ri:TS:=λD σ H=>D.bk σ H
def Oo:TS:=λD σ H=>D.ct σ H
theorem Inv.quiet{pins:List (Addr×Obj)}{σ:St}{H:Hp}{s:Shared}(I:Inv X pins σ H s):interactive X.env=false:=by simp[interactive,I.ok.kind]
def R8(te:TE):TS:=λD σ H=>te σ H λ_ H1=>D.nx σ H1
theorem wm(he:PE X e te)(hs:swapsWith e none pos.line X.env=pure false:=by rfl):PS X (.Expr e pos) (R8 te):=by
 intro pins s σ H D I h;exact wpAny_Expr_any (thn (he pins s σ H _ I h) λv s1 ⟨x,H1,I1,r1,q1⟩=>⟨σ,H1,I1,q1⟩) I.quiet hs
def Ou(te:TE):TS:=λD σ H=>te σ H D.rt
theorem zr(he:PE X e te):PS X (.Return (some e) pos) (Ou te):=by
 intro pins s σ H D I h;exact wpAny_Return_some (thn (he pins s σ H _ I h) λv s1 ⟨x,H1,I1,r1,q1⟩=>⟨x,σ,H1,I1,r1,q1⟩)
def Op(c:TT)(t u:TS):TS:=λD σ H=>c σ H λb H1=>if b=true then t D σ H1 else u D σ H1
theorem y8{c:Expr}{a b:List Stmt}{tc:TT}(hc:PT X c tc)(ha:PSs X a t)(hb:PSs X b u):PS X (.If c a b pos) (Op tc t u):=by
 intro pins s σ H D I h;refine wpAny_If (thn (hc pins s σ H _ I h) λd s1 ⟨H1,I1,q1⟩=>?_);cases d with
 |true=>exact ha pins s1 σ H1 D I1 q1
 |false=>exact hb pins s1 σ H1 D I1 q1
end
abbrev TG:=V->St->Hp->(St->Hp->Prop)->Prop
abbrev TGs:=List V->St->Hp->(St->Hp->Prop)->Prop
def PG(X:Cx)(bH:Expr)(t:TG):Prop :=
 ∀(pins:List (Addr×Obj))(s:Shared)(σ:St)(H:Hp)(v:V)(u:Value)(Q:St->Hp->Prop),Inv X pins σ H s->RelV v u->t v σ H Q ->
  wpAny (model X.prog X.w) X.A (assign bH X.env u) (λ_ s'=>∃σ' H',Inv X pins σ' H' s'/\Q σ' H') X.xe s
def PGs(X:Cx)(ts:List Expr)(t:TGs):Prop :=
 ∀(pins:List (Addr×Obj))(s:Shared)(σ:St)(H:Hp)(vs:List V)(us:List Value)(Q:St->Hp->Prop),Inv X pins σ H s->Vals vs us->t vs σ H Q ->
  wpAny (model X.prog X.w) X.A (assignInOrder ((assignEach ts X.env).map (·.2)) us) (λ_ s'=>∃σ' H',Inv X pins σ' H' s'/\Q σ' H') X.xe s
abbrev Sd:=V->V->V->Hp->(Hp->Prop)->Prop
def O2(X:Cx)(t:Sd):Prop :=
 ∀(pins:List (Addr×Obj))(s:Shared)(σ:St)(H:Hp)(o i v:V)(ov iv u:Value)(Q:Hp->Prop),Inv X pins σ H s->RelV o ov->RelV i iv->RelV v u->t o i v H Q ->
  wpAny (model X.prog X.w) X.A (setItem ov iv u) (λ_ s'=>∃H',Inv X pins σ H' s'/\Q H') X.xe s
section
variable {X:Cx}{pos:Pos}
def js(i:Nat):TG:=λv σ H Q=>Q (σ.set i (some v)) H
theorem Tk{i:Nat}{x:Str}(hN:X.N.Nodup)(hi:X.N[i]?=some x)(hx:Loc X.env.scope x)(hf:X.fn x=true\/X.env.scope.names.lookup x=some .local:=by first|exact .inl rfl|exact .inr rfl|assumption):PG X (.Name x pos) (js i):=by
 intro pins s σ H v u Q I r h;exact wpAny_assign_Name (nq I hN hi hx r (λs' I'=>⟨_,H,I',h⟩) hf)
def K0:TGs:=λvs σ H Q=>vs=[]/\Q σ H
def Mb(t:TG)(u:TGs):TGs:=λvs σ H Q=>∃v r,vs=v::r/\t v σ H fun σ' H'=>u r σ' H' Q
theorem Tl:PGs X [] K0:=by
 intro pins s σ H vs us Q I r h;obtain⟨e,h⟩:=h;subst e;cases r;exact assignInOrder_nil ⟨σ,H,I,h⟩
theorem fj{e:Expr}{es:List Expr}{t:TG}{u:TGs}(h1:PG X e t)(h2:PGs X es u)
  (hs:(assignEach (e::es) X.env).map (·.2)=assign e X.env::(assignEach es X.env).map (·.2):=by rfl):PGs X (e::es) (Mb t u):=by
 intro pins s σ H vs us Q I r h;obtain⟨v,vr,e1,h⟩:=h;subst e1;cases r with
 |cons r rr =>
  rw[hs];refine assignInOrder_cons (thn (h1 pins s σ H _ _ _ I r h) λ_ s1 ⟨σ1,H1,I1,q1⟩=>?_);exact h2 pins s1 σ1 H1 _ _ Q I1 rr q1
def K1(K:W.Frag)(n:Nat)(t:TGs):TG:=λv σ H Q=>∃a xs,v = .ref a/\SqT K H a xs/\xs.length=n/\t xs σ H Q
theorem Qo{es:List Expr}{k:Nat}{t:TGs}{n:Nat}(hc:X.calm=true)(h:PGs X es t)
  (hn:(assignEach es X.env).length=n:=by rfl) (gO:(assignEach es X.env).findIdx? (·.1)=none:=by rfl):PG X (.Tuple es k pos) (K1 X.K n t):=by
 intro pins s σ H v u Q I r hw;obtain⟨a,xs,e1,hq,hl,hw⟩:=hw;subst e1;cases r;obtain⟨aF,rv,ht,hz⟩:=I.tuple hq;refine assign_Tuple_tuple (I.ok.hd hc) ht (by simp[hn,<-hl,rv.length]) gO λh' hx=>?_;have I1:Inv X pins σ H { s with heap:=h' }:=I.kept (t':=s.toks) λb o e=>hx b o (zI (zT e)) e;exact h pins _ σ H xs _ Q I1 (by simpa using rv) hw
def Pi(to ti:TE)(t:Sd):TG:=λv σ H Q=>to σ H λo H1=>ti σ H1 λi H2=>t o i v H2 λH3=>Q σ H3
theorem Qn{o i:Expr}{to ti:TE}{t:Sd}(ho:PE X o to)(hi:PE X i ti)(hs:O2 X t)
  (ha:∀v,assign (.Subscript o i pos) X.env v=(do
   let ov <-holding [v] (eval o X.env)
   let iv <-holding [v,ov] (eval i X.env)
   standAt pos
   holding [v,ov,iv] (setItem ov iv v)
   release [v,ov,iv] []):=by intro _;rfl):PG X (.Subscript o i pos) (Pi to ti t):=by
 intro pins s σ H v u Q I r h;rw[ha];refine zZ (xU (thn (ho pins s σ H _ I h) λov s1 ⟨x,H1,I1,r1,q1⟩=>?_));refine zZ (xU (thn (hi pins s1 σ H1 _ I1 q1) λiv s2 ⟨y,H2,I2,r2,q2⟩=>?_));refine zZ (tB (zZ (xU (thn (hs pins s2 σ H2 x y v ov iv u _ I2 r1 r2 r q2) λ_ s3 ⟨H3,I3,q3⟩=>?_))));exact wpAny_release ⟨σ,H3,I3,q3⟩
def Wr(te:TE)(g:TG):TS:=λD σ H=>te σ H λx H1=>g x σ H1 D.nx
theorem Qq{tg e:Expr}{te:TE}{g:TG}(he:PE X e te)(hg:PG X tg g)(hs:swapsWithSole [tg] e pos.line X.env=pure false:=by rfl)(hw:swappedStores [tg] e X.env=pure none:=by rfl)
  (h1:(assignEach [tg] X.env).map (·.2)=[assign tg X.env]:=by rfl):PS X (.Assign [tg] e pos) (Wr te g):=by
 intro pins s σ H D I h;refine wpAny_Assign_stores (thn (he pins s σ H _ I h) λv s1 ⟨x,H1,I1,r1,q1⟩=>?_) hs hw;rw[h1];exact thn (hg pins s1 σ H1 x v _ I1 r1 q1) λ_ s2 q=>q
theorem Qt{i:Nat}{x:Str}{e:Expr}{te:TE}{iG:Pos}(hN:X.N.Nodup)(hi:X.N[i]?=some x)(hx:Loc X.env.scope x)(he:PE X e te)(hs:swapsWith e (some (.Name x iG)) pos.line X.env=pure false:=by rfl)(hf:X.fn x=true\/X.env.scope.names.lookup x=some .local:=by first|exact .inl rfl|exact .inr rfl|assumption):
  PS X (.Assign [.Name x iG] e pos) (Wr te (js i)):=by
 intro pins s σ H D I h;refine wpAny_Assign_Name (thn (he pins s σ H _ I h) λv s1 ⟨y,H1,I1,r1,q1⟩=>?_) hs;exact nq I1 hN hi hx r1 (λs2 I2=>⟨_,H1,I2,q1⟩) hf
end
section
variable {X:Cx}{pos:Pos}
def Rk(c:TT)(tb:TS):TS:=λD σ H=>∃W:Nat->St->Hp->Prop,(∃m,W m σ H)/\∀m σ H,W m σ H ->
 c σ H λb H1=>if b=true then∃N:St->Hp->Prop,(∀σ' H',N σ' H'->∃m',m'<m/\W m' σ' H')/\tb { D with nx:=N,ct:=N,bk:=D.nx } σ H1 else D.nx σ H1
end
structure It where
 go:Nat->Hp->Prop
 yld:Nat->Hp->V->Hp->Prop
 stop:Nat->Hp->Prop
def vo(X:Cx)(pins:List (Addr×Obj))(H:Hp)(b:Addr):Prop :=
 H b=none/\b≠X.env.locals/\b∉X.fs/\(b∈X.ex\/X.s₀.heap.objs.size<=b)/\(∀x c,X.env.cells.lookup x=some c->c≠b)/\∀p∈X.pn++pins,p.1≠b
theorem Inv.fpOk{X:Cx}{pins:List (Addr×Obj)}{σ:St}{H H':Hp}{s:Shared}{b:Addr}(I:Inv X pins σ H s)(hb:s.heap.objs.size<=b)(hn:H' b=none):vo X pins H' b:=by
 refine⟨hn,wO (zH I.lt hb),I.nofs hb,.inr (yW I.sz hb),λx c e z=>?_,λp hp z=>?_⟩
 ·obtain⟨v,q⟩:=I.cell x c e;exact absurd (zH q.lt (by rw[z];exact hb)) (xS _)
 ·exact absurd (zH (zT (I.pin p hp).1) (by rw[z];exact hb)) (xS _)
structure Z0(P:Program)(w:World)(K:W.Frag)(tg:Expr)(J:It)(fp:List Addr)(it:Addr)(tn:Nat->Heap->Prop):Prop where
 mem:it∈fp
 obj:∀i h,tn i h->∀b∈fp,∃o,h.get? b=some o/\∀v,o.data≠.cell v
 keep:∀i h h',tn i h->(∀b∈fp,∀o,h.get? b=some o->h'.get? b=some o)->tn i h'
 item:∀(X:Cx),X.prog=P->X.w=w->X.K=K->X.calm=true->∀(i:Nat)(pins:List (Addr×Obj))(s:Shared)(σ:St)(H:Hp)(E:Value->Shared->Prop),Inv X pins σ H s->(∀b∈fp,vo X pins H b)->tn i s.heap->J.go i H ->
  wpAny (model P w) X.A (pyNext (.ref it)) (λr s1=>∃u,r=some u /\
   wpAny (model P w) X.A (letOwnedTupleGo tg (.ref it) u) (λ_ s2=>∃x H',Inv X pins σ H' s2/\RelV x u/\J.yld i H x H'/\tn (i+1) s2.heap/\∀b∈fp,H' b=none) E s1) E s
 done:∀(X:Cx),X.prog=P->X.w=w->X.K=K->X.calm=true->∀(i:Nat)(pins:List (Addr×Obj))(s:Shared)(σ:St)(H:Hp)(E:Value->Shared->Prop),Inv X pins σ H s->(∀b∈fp,vo X pins H b)->tn i s.heap->J.stop i H ->
  wpAny (model P w) X.A (pyNext (.ref it)) (λr s1=>r=none/\Inv X pins σ H s1) E s
 self:∀(A:Around)(i:Nat)(s:Shared)(Q:Value->Shared->Prop)(E:Value->Shared->Prop),tn i s.heap->Q (.ref it) s->wpAny (model P w) A (pyIter (.ref it)) Q E s
abbrev TI:=St->Hp->(It->Hp->Prop)->Prop
def PIE(X:Cx)(pins:List (Addr×Obj))(σ:St)(tg:Expr)(R:It->Hp->Prop)(rZ:Value)(s2:Shared):Prop :=
 ∃(it:Addr)(fp:List Addr)(tn:Nat->Heap->Prop)(J:It)(H':Hp),rZ = .ref it/\Inv X pins σ H' s2/\Z0 X.prog X.w X.K tg J fp it tn/\tn 0 s2.heap/\(∀b∈fp,vo X pins H' b)/\R J H'
def PI(X:Cx)(tg iter:Expr)(wi:TI):Prop :=
 ∀(pins:List (Addr×Obj))(s:Shared)(σ:St)(H:Hp)(R:It->Hp->Prop),Inv X pins σ H s->wi σ H R ->
  wpAny (model X.prog X.w) X.A (eval iter X.env) (λv s1=>wpAny (model X.prog X.w) X.A (pyIter v) (PIE X pins σ tg R) X.xe s1) X.xe s
theorem Y4{M:Model}{A:Around}{E:Value->Shared->Prop}{s:Shared}{tg:Expr}{it:Addr}{u:Value}{o:Obj}{n:String}{vs:Array Value}{Q:Unit->Shared->Prop}(ho:s.heap.get? it=some o)(hc:o.cls = .type n)(hd:o.data = .fields vs)
  (hn:["enumerate","zip","dict_itemiterator","dict_reverseitemiterator","odict_iterator","itertools.zip_longest","itertools.pairwise"].contains n=false) (hQ:Q () s):wpAny M A (letOwnedTupleGo tg (.ref it) u) Q E s:=by
 unfold letOwnedTupleGo;cases tg<;>first
  |exact zV hQ
  |(cases u<;>first
    |exact zV hQ
    |(refine zZ (wpAny_load ho ?_);rw[hc,hd];show wpAny M A (if(["enumerate","zip","dict_itemiterator","dict_reverseitemiterator","odict_iterator","itertools.zip_longest","itertools.pairwise"].contains n&&vs[0]?==some (rawInt _))=true then _ else _) Q E s;rw[yY (by intro h;rw[hn,Bool.false_and]at h;cases h)];exact zV hQ))
def Itl(K:W.Frag)(a:Addr):It :=
 ⟨λi H=>∃xs x,SqL K H a xs/\xs[i]?=some x,λi H x H'=>H'=H/\∀xs,SqL K H a xs->xs[i]?=some x,λi H=>∃xs,SqL K H a xs/\xs.length<=i⟩
def Itt(K:W.Frag)(a:Addr):It :=
 ⟨λi H=>∃xs x,SqT K H a xs/\xs[i]?=some x,λi H x H'=>H'=H/\∀xs,SqT K H a xs->xs[i]?=some x,λi H=>∃xs,SqT K H a xs/\xs.length<=i⟩
def Itr(lo:Int)(n:Nat):It:=⟨λi _=>i<n,λi H x H'=>H'=H/\x = .int (lo+i),λi _=>n<=i⟩
theorem rf{P:Program}{w:World}{K:W.Frag}{tg:Expr}(a it:Addr):Z0 P w K tg (Itl K a) [it] it (λi h=>h.IsListIter it a i)where
 mem:=by simp
 obj:=λi h st b hb=>by
  have e:b=it:=by simpa using hb
  subst e;obtain⟨o,e,c,d⟩:=st;exact⟨o,e,λv z=>by rw[d]at z;cases z⟩
 keep:=λi h h' st k=>st.at λo e=>k it (by simp) o e
 item:=by
  intro X hP hw hK hc i pins s σ H E I hf st hg;subst hP hw hK;obtain⟨xs,x,hq,hx⟩:=hg;obtain⟨aF,rv,p,hz⟩:=I.list hq;obtain⟨u,hu,ru⟩:=rv.get hx;obtain⟨f0,f1,f2,f3,f4,f5⟩:=hf it (by simp);refine tP st p.isList (x:=u) (by simpa using hu) λh' fM sb=>?_;have I1:Inv X pins σ H { s with heap:=h' }:=I.turned (t':=s.toks) (λb o hb e=>(sb.2 b hb).trans e) f0 f1 f3 f4 f5;obtain⟨o,e,c,d⟩:=id fM;exact⟨u,rfl,Y4 (s:={ s with heap:=h' }) e c d (by decide) ⟨x,H,I1,ru,⟨rfl,λys hy=>by rw[I.list_inj hy hq];exact hx⟩,fM,λb hb=>(hf b hb).1⟩⟩
 done:=by
  intro X hP hw hK hc i pins s σ H E I hf st hg;subst hP hw hK;obtain⟨xs,hq,hx⟩:=hg;obtain⟨aF,rv,p,hz⟩:=I.list hq;obtain⟨f0,f1,f2,f3,f4,f5⟩:=hf it (by simp);have hl:=rv.length;exact wpAny_pyNext_list_end (I.ok.hd hc) st p.isList (by simp;lia) λh' eb=>⟨rfl,I.turned (t':=s.toks) (λb o hb e=>eb b o hb e) f0 f1 f3 f4 f5⟩
 self:=λ_ _ _ _ _ st h=>wpAny_pyIter_listiter st h
theorem cr{P:Program}{w:World}{K:W.Frag}{tg:Expr}(a it:Addr):Z0 P w K tg (Itt K a) [it] it (λi h=>h.IsTupleIter it a i)where
 mem:=by simp
 obj:=λi h st b hb=>by
  have e:b=it:=by simpa using hb
  subst e;obtain⟨o,e,c,d⟩:=st;exact⟨o,e,λv z=>by rw[d]at z;cases z⟩
 keep:=λi h h' st k=>st.at λo e=>k it (by simp) o e
 item:=by
  intro X hP hw hK hc i pins s σ H E I hf st hg;subst hP hw hK;obtain⟨xs,x,hq,hx⟩:=hg;obtain⟨aF,rv,p,hz⟩:=I.tuple hq;obtain⟨u,hu,ru⟩:=rv.get hx;obtain⟨f0,f1,f2,f3,f4,f5⟩:=hf it (by simp);refine wpAny_pyNext_tuple_item st (show s.heap.IsTuple a aF.toArray from p) (x:=u) (by simpa using hu) λh' fM sb=>?_;have I1:Inv X pins σ H { s with heap:=h' }:=I.turned (t':=s.toks) (λb o hb e=>(sb.2 b hb).trans e) f0 f1 f3 f4 f5;obtain⟨o,e,c,d⟩:=id fM;exact⟨u,rfl,Y4 (s:={ s with heap:=h' }) e c d (by decide) ⟨x,H,I1,ru,⟨rfl,λys hy=>by rw[I.tuple_inj hy hq];exact hx⟩,fM,λb hb=>(hf b hb).1⟩⟩
 done:=by
  intro X hP hw hK hc i pins s σ H E I hf st hg;subst hP hw hK;obtain⟨xs,hq,hx⟩:=hg;obtain⟨aF,rv,p,hz⟩:=I.tuple hq;obtain⟨f0,f1,f2,f3,f4,f5⟩:=hf it (by simp);have hl:=rv.length;exact wpAny_pyNext_tuple_end (I.ok.hd hc) st (show s.heap.IsTuple a aF.toArray from p) (by simp;lia) λh' eb=>⟨rfl,I.turned (t':=s.toks) (λb o hb e=>eb b o hb e) f0 f1 f3 f4 f5⟩
 self:=λ_ _ _ _ _ st h=>wpAny_pyIter_tupleiter st h
theorem cq{P:Program}{w:World}{K:W.Frag}{tg:Expr}(it:Addr)(lo:Int)(n:Nat):Z0 P w K tg (Itr lo n) [it] it (λi h=>IsRangeIter h it (lo+(i:Nat)*1) ((n:Int)-(i:Nat)) 1)where
 mem:=by simp
 obj:=λi h st b hb=>by
  have e:b=it:=by simpa using hb
  subst e;exact⟨_,st,λv z=>by
   have z':Data.fields _=Data.cell v:=z;cases z'⟩
 keep:=λi h h' st k=>k it (by simp) _ st
 item:=by
  intro X hP hw hK hc i pins s σ H E I hf st hg;subst hP hw hK;obtain⟨f0,f1,f2,f3,f4,f5⟩:=hf it (by simp);have W:=Walks.range (prog:=X.prog) (w:=X.w) (I.ok.hd hc) it lo 1 n;refine W.item i s _ _ hg st λv h' tk hv fM kk=>?_;obtain⟨t,rfl⟩:=hv;have I1:Inv X pins σ H { s with heap:=h',toks:=tk }:=I.turned (λb o hb e=>kk b o (by simpa using hb) e) f0 f1 f3 f4 f5;refine⟨_,rfl,Y4 (s:={ s with heap:=h',toks:=tk }) (n:="range_iterator") fM rfl rfl (by decide) ⟨.int (lo+i),H,I1,⟨t,?_⟩,⟨rfl,rfl⟩,fM,λb hb=>(hf b hb).1⟩⟩;rw[Int.mul_one]
 done:=by
  intro X hP hw hK hc i pins s σ H E I hf st hg;subst hP hw hK;obtain⟨f0,f1,f2,f3,f4,f5⟩:=hf it (by simp);exact wpAny_pyNext_range_end (I.ok.hd hc) st (by have:n<=i:=hg;lia) λh' eb=>⟨rfl,I.turned (t':=s.toks) (λb o hb e=>eb b o hb e) f0 f1 f3 f4 f5⟩
 self:=λ_ _ _ _ _ st h=>wpAny_pyIter_rangeiter st h
end L2
namespace L2
open PySem PySem.Spec PyProof.Rows
section
variable {X:Cx}{tg:Expr}
theorem Wd{pins:List (Addr×Obj)}{σ:St}{H:Hp}{s:Shared}{R:It->Hp->Prop}{E:Value->Shared->Prop}{lo hi:Int}{t u v:Tok}{tk:Nat}(I:Inv X pins σ H s)(h1:-(2 ^ 62)<=lo)(h2:lo<2 ^ 62)(h3:-(2 ^ 62)<=hi)(h4:hi<2 ^ 62)
  (q:R (Itr lo (hi-lo).toNat) H):wpAny (model X.prog X.w) X.A (pyIter (.ref s.heap.objs.size)) (PIE X pins σ tg R) E { s with heap:=s.heap.push { cls:=.type "range",data:=.fields #[.int lo t,.int hi u,.int 1 v] },toks:=tk }:=by
 refine wpAny_pyIter_range (IsRange.new ..) (small_one h1 h2 h3 h4) ?_;have I1:Inv X pins σ H { s with heap:=s.heap.push { cls:=.type "range",data:=.fields #[.int lo t,.int hi u,.int 1 v] },toks:=tk }:=I.kept λb o e=>zY _ e;refine⟨(s.heap.push { cls:=.type "range",data:=.fields #[.int lo t,.int hi u,.int 1 v] }).objs.size,[(s.heap.push { cls:=.type "range",data:=.fields #[.int lo t,.int hi u,.int 1 v] }).objs.size],_,_,H,rfl,
  I1.kept (t':=tk) λb o e=>zY _ e,cq _ lo (hi-lo).toNat,?_,λb hb=>?_,q⟩
 ·have e1:lo+((0:Nat):Int)*1=lo:=by simp
  have e2:(((hi-lo).toNat:Nat):Int)-((0:Nat):Int)=Builtin.Range.rangeSize lo hi 1:=by rw[rangeSize_one];split<;>lia
  show IsRangeIter _ _ (lo+((0:Nat):Int)*1) ((((hi-lo).toNat:Nat):Int)-((0:Nat):Int)) 1;rw[e1,e2];exact zR _ rfl
 ·have e:b=(s.heap.push { cls:=.type "range",data:=.fields #[.int lo t,.int hi u,.int 1 v] }).objs.size:=by simpa using hb
  subst e;exact I1.fpOk (zS _) (I1.hok.fresh (zS _))
def Lo(wi:TI)(g:TG)(tb:TS):TS:=λD σ H=>wi σ H λJ H1=>∃W:Nat->Nat->St->Hp->Prop,(∃m,W 0 m σ H1)/\∀i m σ H,W i m σ H ->
 (J.stop i H/\D.nx σ H)\/(J.go i H/\∃N:St->Hp->Prop,(∀σ' H',N σ' H'->∃m',m'<m/\W (i+1) m' σ' H')/\∀x H',J.yld i H x H'->g x σ H' fun σ2 H2=>tb { D with nx:=N,ct:=N,bk:=D.nx } σ2 H2)
def u7(fp:List Addr)(h:Heap):List (Addr×Obj):=fp.filterMap λb=>(h.get? b).map λo=>(b,o)
theorem x8{fp:List Addr}{h:Heap}{b:Addr}{o:Obj}(hb:b∈fp)(e:h.get? b=some o):(b,o)∈u7 fp h:=tX.mpr ⟨b,hb,by rw[e];rfl⟩
theorem X2{fp:List Addr}{h:Heap}{p:Addr×Obj}(hp:p∈u7 fp h):p.1∈fp/\h.get? p.1=some p.2:=by
 obtain⟨b,hb,e⟩:=tX.mp hp;cases q:h.get? b with
 |none=>rw[q]at e;cases e
 |some o =>
  rw[q]at e;have e':(b,o)=p:=zB e;subst e';exact⟨hb,q⟩
theorem Inv.pinned{pins:List (Addr×Obj)}{σ:St}{H:Hp}{s:Shared}{fp:List Addr}(I:Inv X pins σ H s)(hf:∀b∈fp,vo X pins H b)(ho:∀b∈fp,∃o,s.heap.get? b=some o/\∀v,o.data≠.cell v):Inv X (pins++u7 fp s.heap) σ H s :=
 I.pins_of λp hp=>(zO.mp hp).elim (λz=>I.pin p (zJ _ z)) λz=>by
  obtain⟨hb,e⟩:=X2 z;obtain⟨f0,f1,f2,_⟩:=hf p.1 hb;obtain⟨o,e',d⟩:=ho p.1 hb;rw[e]at e';cases e';exact⟨e,f0,f1,f2,d⟩
theorem Inv.unpinned{pins pl:List (Addr×Obj)}{σ:St}{H:Hp}{s:Shared}(I:Inv X (pins++pl) σ H s):Inv X pins σ H s:=I.pins_of λp hp=>I.pin p (zJ _ (xL _ hp))
theorem Qr{iter:Expr}{body:List Stmt}{wi:TI}{g:TG}{tb:TS}{pos:Pos}(hp:PassesOwn (model X.prog X.w) X.A X.env X.xe)(hc:X.calm=true)(hi:PI X tg iter wi)(hg:PG X tg g)(hb:PSs X body tb)
  (hs:∀x,foldedSetIterable iter X.env x=pure x:=by intro _;rfl):PS X (.For tg iter body [] pos) (Lo wi g tb):=by
 intro pins s σ H D I h;refine wpAny_For (thn (hi pins s σ H _ I h) λv s1 h1=>thn h1 λrZ s2 h2=>?_) hs;obtain⟨it,fp,tn,J,H2,e,I2,T,qE,f2,W,⟨m0,w0⟩,fL⟩:=h2;subst e;have kQ:∀{H':Hp},(∀b∈fp,H' b=none)->∀b∈fp,vo X pins H' b:=λhn b hb=>⟨hn b hb,(f2 b hb).2⟩
 refine codeAny_forLoop_any (λn s'=>∃i σ' H',Inv X pins σ' H' s'/\tn i s'.heap/\(∀b∈fp,H' b=none)/\W i n σ' H') ?_ m0 ⟨0,σ,H2,I2,qE,λb hb=>(f2 b hb).1,w0⟩;rintro n s3 ⟨i,σ3,H3,I3,CA,Ip,w3⟩;rcases fL i n σ3 H3 w3 with⟨stop,qn⟩|⟨go,N,hN,step⟩
 ·refine tZ hp (thn (T.done X rfl rfl rfl hc i pins s3 σ3 H3 X.xe I3 (kQ Ip) CA stop) λr s4 ⟨hr,I4⟩=>?_);subst hr;exact vC ⟨σ3,H3,I4,qn⟩
 ·refine tZ hp (thn (T.item X rfl rfl rfl hc i pins s3 σ3 H3 X.xe I3 (kQ Ip) CA go) λr s4 ⟨u,hr,h4⟩=>?_);subst hr;refine tZ hp (thn h4 λ_ s5 ⟨x,H5,I5,r5,y5,mQ,qZ⟩=>?_);have I5':=I5.pinned (kQ qZ) (T.obj _ _ mQ);refine tZ hp (thn (hg _ s5 σ3 H5 x u _ I5' r5 (step x H5 y5)) λ_ s6 ⟨σ6,H6,I6,q6⟩=>?_);refine tZ hp (thn (hb _ s6 σ6 H6 _ I6 q6) λf s7 q7=>?_);have again:∀{σ7:St}{H7:Hp},Inv X (pins++u7 fp s5.heap) σ7 H7 s7->N σ7 H7->∃m,m<n/\∃i σ' H',Inv X pins σ' H' s7/\tn i s7.heap/\(∀b∈fp,H' b=none)/\W i m σ' H':=λ{σ7 H7} I7 n7=>by
   obtain⟨m',hm,w7⟩:=hN σ7 H7 n7;refine⟨m',hm,i+1,σ7,H7,I7.unpinned,T.keep _ _ _ mQ λb hb o e=>(I7.pin (b,o) (zJ _ (zJ _ (x8 hb e)))).1,λb hb=>?_,w7⟩;obtain⟨o,e,d⟩:=T.obj _ _ mQ b hb;exact(I7.pin (b,o) (zJ _ (zJ _ (x8 hb e)))).2.1
  cases f with
  |next=>obtain⟨σ7,H7,I7,n7⟩:=q7;exact again I7 n7
  |cont=>obtain⟨σ7,H7,I7,n7⟩:=q7;exact again I7 n7
  |brk=>obtain⟨σ7,H7,I7,q7⟩:=q7;exact⟨σ7,H7,I7.unpinned,q7⟩
  |ret v=>obtain⟨x7,σ7,H7,I7,r7,q7⟩:=q7;exact⟨x7,σ7,H7,I7.unpinned,r7,q7⟩
end
theorem Us{K:W.Frag}{a:Addr}{xs:List V}{g:TG}{tb:TS}{D:u9}{σ:St}{H:Hp}(Pv:Nat->St->Hp->Prop)(h0:Pv 0 σ H)(hl:∀i σ H,i<=xs.length->Pv i σ H->SqL K H a xs)
  (hs:∀i x σ H,xs[i]?=some x->Pv i σ H->g x σ H fun σ2 H2=>tb { D with nx:=Pv (i+1),ct:=Pv (i+1),bk:=D.nx } σ2 H2) (hd:∀σ H,Pv xs.length σ H->D.nx σ H) :
  ∃W:Nat->Nat->St->Hp->Prop,(∃m,W 0 m σ H)/\∀i m σ H,W i m σ H ->
   ((Itl K a).stop i H/\D.nx σ H)\/((Itl K a).go i H/\∃N:St->Hp->Prop,(∀σ' H',N σ' H'->∃m',m'<m/\W (i+1) m' σ' H')/\∀x H',(Itl K a).yld i H x H'->g x σ H' fun σ2 H2=>tb { D with nx:=N,ct:=N,bk:=D.nx } σ2 H2):=by
 refine⟨λi m σ H=>m=xs.length-i/\i<=xs.length/\Pv i σ H,⟨xs.length,by simp,yO _,h0⟩,?_⟩;rintro i m σ H ⟨rfl,hi,p⟩;have q:=hl i σ H hi p
 by_cases aS:i<xs.length
 ·refine .inr ⟨⟨xs,xs[i],q,by simp[aS]⟩,Pv (i+1),fun σ' H' p'=>⟨xs.length-(i+1),by lia,rfl,aS,p'⟩,λx H' y=>?_⟩;obtain⟨e,y⟩:=y;subst e;exact hs i x σ _ (y xs q) p
 ·have e:i=xs.length:=by lia
  subst e;exact .inl ⟨⟨xs,q,zS _⟩,hd σ H p⟩
theorem Sm{K:W.Frag}{a:Addr}{xs:List V}{g:TG}{tb:TS}{D:u9}{σ:St}{H:Hp}(Pv:Nat->St->Hp->Prop)(h0:Pv 0 σ H)(hl:∀i σ H,i<=xs.length->Pv i σ H->SqT K H a xs)
  (hs:∀i x σ H,xs[i]?=some x->Pv i σ H->g x σ H fun σ2 H2=>tb { D with nx:=Pv (i+1),ct:=Pv (i+1),bk:=D.nx } σ2 H2) (hd:∀σ H,Pv xs.length σ H->D.nx σ H) :
  ∃W:Nat->Nat->St->Hp->Prop,(∃m,W 0 m σ H)/\∀i m σ H,W i m σ H ->
   ((Itt K a).stop i H/\D.nx σ H)\/((Itt K a).go i H/\∃N:St->Hp->Prop,(∀σ' H',N σ' H'->∃m',m'<m/\W (i+1) m' σ' H')/\∀x H',(Itt K a).yld i H x H'->g x σ H' fun σ2 H2=>tb { D with nx:=N,ct:=N,bk:=D.nx } σ2 H2):=by
 refine⟨λi m σ H=>m=xs.length-i/\i<=xs.length/\Pv i σ H,⟨xs.length,by simp,yO _,h0⟩,?_⟩;rintro i m σ H ⟨rfl,hi,p⟩;have q:=hl i σ H hi p
 by_cases aS:i<xs.length
 ·refine .inr ⟨⟨xs,xs[i],q,by simp[aS]⟩,Pv (i+1),fun σ' H' p'=>⟨xs.length-(i+1),by lia,rfl,aS,p'⟩,λx H' y=>?_⟩;obtain⟨e,y⟩:=y;subst e;exact hs i x σ _ (y xs q) p
 ·have e:i=xs.length:=by lia
  subst e;exact .inl ⟨⟨xs,q,zS _⟩,hd σ H p⟩
theorem Xj{lo:Int}{n:Nat}{g:TG}{tb:TS}{D:u9}{σ:St}{H:Hp}(Pv:Nat->St->Hp->Prop)(h0:Pv 0 σ H)
  (hs:∀i σ H,i<n->Pv i σ H->g (.int (lo+i)) σ H fun σ2 H2=>tb { D with nx:=Pv (i+1),ct:=Pv (i+1),bk:=D.nx } σ2 H2) (hd:∀σ H,Pv n σ H->D.nx σ H) :
  ∃W:Nat->Nat->St->Hp->Prop,(∃m,W 0 m σ H)/\∀i m σ H,W i m σ H ->
   ((Itr lo n).stop i H/\D.nx σ H)\/((Itr lo n).go i H/\∃N:St->Hp->Prop,(∀σ' H',N σ' H'->∃m',m'<m/\W (i+1) m' σ' H')/\∀x H',(Itr lo n).yld i H x H'->g x σ H' fun σ2 H2=>tb { D with nx:=N,ct:=N,bk:=D.nx } σ2 H2):=by
 refine⟨λi m σ H=>m=n-i/\i<=n/\Pv i σ H,⟨n,by simp,yO _,h0⟩,?_⟩;rintro i m σ H ⟨rfl,hi,p⟩
 by_cases aS:i<n
 ·refine .inr ⟨aS,Pv (i+1),fun σ' H' p'=>⟨n-(i+1),by lia,rfl,aS,p'⟩,λx H' y=>?_⟩;obtain⟨e,y⟩:=y;subst e y;exact hs i σ _ aS p
 ·have e:i=n:=by lia
  subst e;exact .inl ⟨zS _,hd σ H p⟩
end L2
namespace L2
open PySem PySem.Spec PyProof.Rows
abbrev R2:=V->V->Hp->VK->Prop
def OpR(X:Cx)(f:Value->Value->Sem Value)(r:R2):Prop :=
 ∀(pins:List (Addr×Obj))(s:Shared)(σ:St)(H:Hp)(x y:V)(v u:Value)(Q:VK),Inv X pins σ H s->RelV x v->RelV y u->r x y H Q ->
  wpAny (model X.prog X.w) X.A (f v u) (EP X pins σ Q) X.xe s
def UnR(X:Cx)(f:Value->Sem Value)(r:V->Hp->VK->Prop):Prop :=
 ∀(pins:List (Addr×Obj))(s:Shared)(σ:St)(H:Hp)(x:V)(v:Value)(Q:VK),Inv X pins σ H s->RelV x v->r x H Q ->
  wpAny (model X.prog X.w) X.A (f v) (EP X pins σ Q) X.xe s
def xi(X:Cx)(f:Value)(r:List V->Hp->VK->Prop):Prop :=
 ∀(pins:List (Addr×Obj))(s:Shared)(σ:St)(H:Hp)(xs:List V)(us:List Value)(Q:VK),Inv X pins σ H s->Vals xs us->r xs H Q ->
  wpAny (model X.prog X.w) X.A (call f us) (EP X pins σ Q) X.xe s
def tOp(r:R2)(ta tb:TE):TE:=fun σ H Q=>ta σ H λx H1=>tb σ H1 λy H2=>r x y H2 Q
def tUn(r:V->Hp->VK->Prop)(ta:TE):TE:=fun σ H Q=>ta σ H λx H1=>r x H1 Q
def rI(C:Int->Int->Prop)(g:Int->Int->V):R2:=λx y H Q=>∃i j,x = .int i/\y = .int j/\C i j/\Q (g i j) H
def rI0(g:Int->Int->V):R2:=λx y H Q=>∃i j,x = .int i/\y = .int j/\Q (g i j) H
def rU(g:Int->V):V->Hp->VK->Prop:=λx H Q=>∃i,x = .int i/\Q (g i) H
section
variable {X:Cx}{a b c:Expr}{ta tb tc:TE}{pos:Pos}
theorem O8(ha:PE X a ta)(hb:PE X b tb){pins:List (Addr×Obj)}{s:Shared}{σ:St}{H:Hp}{R:V->V->Hp->Prop}(I:Inv X pins σ H s)
  (h:ta σ H λx H1=>tb σ H1 λy H2=>R x y H2) {Q:Value->Shared->Prop}{f:Value->Value->Sem Value}
  (hf:∀v u s2 x y H2,Inv X pins σ H2 s2->RelV x v->RelV y u->R x y H2->wpAny (model X.prog X.w) X.A (f v u) Q X.xe s2) :
  wpAny (model X.prog X.w) X.A (eval a X.env) (λv s₁=>wpAny (model X.prog X.w) X.A (eval b X.env) (λu s₂=>wpAny (model X.prog X.w) X.A (f v u) Q X.xe s₂) X.xe s₁) X.xe s:=by
 refine thn (ha pins s σ H _ I h) λv s1 ⟨x,H1,I1,r1,q1⟩=>?_;refine thn (hb pins s1 σ H1 _ I1 q1) λu s2 ⟨y,H2,I2,r2,q2⟩=>?_;exact hf v u s2 x y H2 I2 r1 r2 q2
theorem zv{op:Operator}{r:R2}(ho:OpR X (binaryOp op) r)(ha:PE X a ta)(hb:PE X b tb):PE X (.BinOp a op b pos) (tOp r ta tb):=by
 intro pins s σ H Q I h;exact wpAny_BinOp (O8 ha hb I h λv u s2 x y H2 I2 rx ry q=>ho pins s2 σ H2 x y v u Q I2 rx ry q)
theorem wz{op:UnaryOp}{r:V->Hp->VK->Prop}(ho:UnR X (unaryOp op) r)(ha:PE X a ta):PE X (.UnaryOp op a pos) (tUn r ta):=by
 intro pins s σ H Q I h;exact UnaryOp_ (thn (ha pins s σ H _ I h) λv s1 ⟨x,H1,I1,r1,q1⟩=>ho pins s1 σ H1 x v Q I1 r1 q1)
theorem opI{f:Value->Value->Sem Value}{C:Int->Int->Prop}{g:Int->Int->Int}
  (rule:∀(i j:Int)(t u:Tok)(s:Shared)(Q:Value->Shared->Prop)(E:Value->Shared->Prop),C i j->Q (.int (g i j) s.toks) { s with toks:=s.toks+1 }->wpAny (model X.prog X.w) X.A (f (.int i t) (.int j u)) Q E s) :
  OpR X f (rI C λi j=>.int (g i j)):=by
 intro pins s σ H x y v u Q I rx ry h;obtain⟨i,j,rfl,rfl,hc,q⟩:=h;obtain⟨t,rfl⟩:=rx;obtain⟨t',rfl⟩:=ry;exact rule i j t t' s _ _ hc ⟨.int (g i j),H,I.tok _,⟨_,rfl⟩,q⟩
theorem Nd{f:Value->Value->Sem Value}{g:Int->Int->Int}
  (rule:∀(i j:Int)(t u:Tok)(s:Shared)(Q:Value->Shared->Prop)(E:Value->Shared->Prop),Q (.int (g i j) s.toks) { s with toks:=s.toks+1 }->wpAny (model X.prog X.w) X.A (f (.int i t) (.int j u)) Q E s) :
  OpR X f (rI0 λi j=>.int (g i j)):=by
 intro pins s σ H x y v u Q I rx ry h;obtain⟨i,j,rfl,rfl,q⟩:=h;obtain⟨t,rfl⟩:=rx;obtain⟨t',rfl⟩:=ry;exact rule i j t t' s _ _ ⟨.int (g i j),H,I.tok _,⟨_,rfl⟩,q⟩
theorem Qd{f:Value->Value->Sem Value}{g:Int->Int->Bool}
  (rule:∀(i j:Int)(t u:Tok)(s:Shared)(Q:Value->Shared->Prop)(E:Value->Shared->Prop),Q (.bool (g i j)) s->wpAny (model X.prog X.w) X.A (f (.int i t) (.int j u)) Q E s) :
  OpR X f (rI0 λi j=>.bl (g i j)):=by
 intro pins s σ H x y v u Q I rx ry h;obtain⟨i,j,rfl,rfl,q⟩:=h;obtain⟨t,rfl⟩:=rx;obtain⟨t',rfl⟩:=ry;exact rule i j t t' s _ _ ⟨.bl (g i j),H,I,rfl,q⟩
def Ls(i j:Int):Prop:=0<j/\j<1073741824
def CMul(i j:Int):Prop:=(-(2 ^ 64)<i/\i<2 ^ 64)\/(-(2 ^ 64)<j/\j<2 ^ 64)
theorem CMul.ok{i j:Int}(h:CMul i j):IntMulOk i j:=by
 rcases h with⟨h1,h2⟩|⟨h1,h2⟩
 ·exact .of_left (intBits_le_64 h1 h2)
 ·exact .of_right (intBits_le_64 h1 h2)
theorem Qe:OpR X (binaryOp .Add) (rI0 λi j=>.int (i+j)):=Nd λ_ _ _ _ _ _ _ q=>add_int q
theorem Qi:OpR X (binaryOp .Sub) (rI0 λi j=>.int (i-j)):=Nd λ_ _ _ _ _ _ _ q=>sub_int q
theorem Qh:OpR X (binaryOp .Mult) (rI CMul λi j=>.int (i*j)):=opI λ_ _ _ _ _ _ _ hc q=>mul_int q hc.ok
theorem Tj:OpR X (binaryOp .FloorDiv) (rI Ls λi j=>.int (i / j)):=opI λi j _ _ _ _ _ hc q=>by
 have h1:(0:Int)<j:=hc.1;have h2:j<1073741824:=hc.2;exact floordiv_int (by lia) (by rw[Int.fdiv_eq_ediv_of_nonneg i (by lia)];exact q) (.inl (PyProof.noPylong_small (by lia)))
theorem Qg:OpR X (binaryOp .Mod) (rI (λ_ j=>0<j) λi j=>.int (i % j)):=opI λi j _ _ _ _ _ hc q=>by
 have h1:(0:Int)<j:=hc;exact mod_int' (by lia) (by rw[Int.fmod_eq_emod_of_nonneg i (by lia)];exact q)
theorem unI{f:Value->Sem Value}{g:Int->Int}
  (rule:∀(i:Int)(t:Tok)(s:Shared)(Q:Value->Shared->Prop)(E:Value->Shared->Prop),Q (.int (g i) s.toks) { s with toks:=s.toks+1 }->wpAny (model X.prog X.w) X.A (f (.int i t)) Q E s) :
  UnR X f (rU λi=>.int (g i)):=by
 intro pins s σ H x v Q I rx h;obtain⟨i,rfl,q⟩:=h;obtain⟨t,rfl⟩:=rx;exact rule i t s _ _ ⟨.int (g i),H,I.tok _,⟨_,rfl⟩,q⟩
theorem yb:UnR X (unaryOp .USub) (rU λi=>.int (-i)):=unI λ_ _ _ _ _ q=>neg_int q
end
def Rb:V->V->Bool
 | .non,.non=>true|.non,.int _=>true|.int _,.non=>true|.non,.bl _=>true|.bl _,.non=>true|.non,.str _=>true|.str _,.non=>true
 | .int _,.int _=>true|.bl _,.bl _=>true|.str _,.str _=>true|.byt _,.byt _=>true
 | .int _,.str _=>true|.str _,.int _=>true|.bl _,.str _=>true|.str _,.bl _=>true
 |_,_=>false
def rEq:R2:=λx y H Q=>Rb x y=true/\Q (.bl (decide (x=y))) H
def rNe:R2:=λx y H Q=>Rb x y=true/\Q (.bl (!decide (x=y))) H
theorem Y1{i j:Int}:decide (V.int i=V.int j)=(i==j):=by
 rw[vX];simp
theorem Uo{i j:Bool}:decide (V.bl i=V.bl j)=(i==j):=by
 rw[vX];simp
theorem Y2{i j:Str}:decide (V.str i=V.str j)=(i==j):=by
 rw[vX];simp
theorem Y0{i j:Array UInt8}:decide (V.byt i=V.byt j)=(i.toList==j.toList):=by
 rw[vX];cases i;cases j;simp
section
variable {X:Cx}{a b c:Expr}{ta tb tc:TE}{pos:Pos}
theorem yw{pins:List (Addr×Obj)}{σ:St}{H:Hp}{s:Shared}{Q:VK}{k k':Bool}(I:Inv X pins σ H s)(q:Q (.bl k) H)(e:k=k'):EP X pins σ Q (.bool k') s:=by
 subst e;exact⟨.bl k,H,I,rfl,q⟩
theorem Nf:OpR X (compareOp .Eq) rEq:=by
 intro pins s σ H x y v u Q I rx ry h;obtain⟨hs,q⟩:=h;cases x with
 |non =>
  cases rx;cases y with
  |non=>cases ry;exact PySem.EqNone.eq_none_none (yw I q (by simp))
  |bl j=>cases ry;exact PySem.EqNone.eq_none_bool (yw I q (by simp))
  |int j=>obtain⟨t',rfl⟩:=ry;exact PySem.EqNone.eq_none_int (yw I q (by simp))
  |str j=>obtain⟨t',rfl⟩:=ry;exact PySem.EqNone.eq_none_str (yw I q (by simp))
  |_=>exact absurd (show false=true from hs) zK
 |bl i =>
  cases rx;cases y with
  |non=>cases ry;exact PySem.EqNone.eq_bool_none (yw I q (by simp))
  |bl j=>cases ry;exact eq_bool (yw I q Uo)
  |str j=>obtain⟨t',rfl⟩:=ry;exact PySem.EqMixed.eq_bool_str (yw I q (by simp))
  |_=>exact absurd (show false=true from hs) zK
 |int i =>
  obtain⟨t,rfl⟩:=rx;cases y with
  |non=>cases ry;exact PySem.EqNone.eq_int_none (yw I q (by simp))
  |int j=>obtain⟨t',rfl⟩:=ry;exact eq_int (yw I q Y1)
  |str j=>obtain⟨t',rfl⟩:=ry;exact PySem.EqMixed.eq_int_str (yw I q (by simp))
  |_=>exact absurd (show false=true from hs) zK
 |str i =>
  obtain⟨t,rfl⟩:=rx;cases y with
  |non=>cases ry;exact PySem.EqNone.eq_str_none (yw I q (by simp))
  |bl j=>cases ry;exact PySem.EqMixed.eq_str_bool (yw I q (by simp))
  |int j=>obtain⟨t',rfl⟩:=ry;exact PySem.EqMixed.eq_str_int (yw I q (by simp))
  |str j=>obtain⟨t',rfl⟩:=ry;exact eq_str (yw I q Y2)
  |_=>exact absurd (show false=true from hs) zK
 |byt i =>
  obtain⟨t,rfl⟩:=rx;cases y with
  |byt j=>obtain⟨t',rfl⟩:=ry;exact W.eq_bytes (yw I q Y0)
  |_=>exact absurd (show false=true from hs) zK
 |_=>cases y<;>exact absurd (show false=true from hs) zK
theorem Nj:OpR X (compareOp .NotEq) rNe:=by
 intro pins s σ H x y v u Q I rx ry h;obtain⟨hs,q⟩:=h;cases x with
 |non =>
  cases rx;cases y with
  |non=>cases ry;exact PySem.EqNone.ne_none_none (yw I q (by simp))
  |bl j=>cases ry;exact PySem.EqNone.ne_none_bool (yw I q (by simp))
  |int j=>obtain⟨t',rfl⟩:=ry;exact PySem.EqNone.ne_none_int (yw I q (by simp))
  |str j=>obtain⟨t',rfl⟩:=ry;exact PySem.EqNone.ne_none_str (yw I q (by simp))
  |_=>exact absurd (show false=true from hs) zK
 |bl i =>
  cases rx;cases y with
  |non=>cases ry;exact PySem.EqNone.ne_bool_none (yw I q (by simp))
  |bl j=>cases ry;exact ne_bool (yw I q (xF not Uo))
  |str j=>obtain⟨t',rfl⟩:=ry;exact PySem.EqMixed.ne_bool_str (yw I q (by simp))
  |_=>exact absurd (show false=true from hs) zK
 |int i =>
  obtain⟨t,rfl⟩:=rx;cases y with
  |non=>cases ry;exact PySem.EqNone.ne_int_none (yw I q (by simp))
  |int j=>obtain⟨t',rfl⟩:=ry;exact ne_int (yw I q (xF not Y1))
  |str j=>obtain⟨t',rfl⟩:=ry;exact PySem.EqMixed.ne_int_str (yw I q (by simp))
  |_=>exact absurd (show false=true from hs) zK
 |str i =>
  obtain⟨t,rfl⟩:=rx;cases y with
  |non=>cases ry;exact PySem.EqNone.ne_str_none (yw I q (by simp))
  |bl j=>cases ry;exact PySem.EqMixed.ne_str_bool (yw I q (by simp))
  |int j=>obtain⟨t',rfl⟩:=ry;exact PySem.EqMixed.ne_str_int (yw I q (by simp))
  |str j=>obtain⟨t',rfl⟩:=ry;exact ne_str (yw I q (xF not Y2))
  |_=>exact absurd (show false=true from hs) zK
 |byt i =>
  obtain⟨t,rfl⟩:=rx;cases y with
  |byt j=>obtain⟨t',rfl⟩:=ry;exact W.ne_bytes (yw I q (xF not Y0))
  |_=>exact absurd (show false=true from hs) zK
 |_=>cases y<;>exact absurd (show false=true from hs) zK
theorem Ni:OpR X (compareOp .Lt) (rI0 λi j=>.bl (decide (i<j))):=Qd λ_ _ _ _ _ _ _ q=>lt_int q
theorem Nh:OpR X (compareOp .LtE) (rI0 λi j=>.bl (decide (i<=j))):=Qd λ_ _ _ _ _ _ _ q=>le_int q
theorem Ng:OpR X (compareOp .Gt) (rI0 λi j=>.bl (decide (j<i))):=Qd λ_ _ _ _ _ _ _ q=>gt_int q
theorem zf(b:Expr){op:CmpOp}(h:op≠.In:=by decide)(h2:op≠.NotIn:=by decide):behindInMarks op b=false:=by
 have e1:(op==CmpOp.In)=false:=by cases op<;>first|rfl|exact absurd rfl h
 have e2:(op==CmpOp.NotIn)=false:=by cases op<;>first|rfl|exact absurd rfl h2
 cases b<;>simp[behindInMarks,e1,e2]
theorem xm{op:CmpOp}{r:R2}(ho:OpR X (compareOp op) r)(ha:PE X a ta)(hb:PE X b tb)(hm:behindInMarks op b=false):PE X (.Compare a [op] [b] pos) (tOp r ta tb):=by
 intro pins s σ H Q I h;exact wpAny_Compare1 (O8 ha hb I h λv u s2 x y H2 I2 rx ry q=>ho pins s2 σ H2 x y v u Q I2 rx ry q) hm
theorem qm:(sizeLine:Nat)<2 ^ 63:=by rw[zD];decide
theorem bn:OpR X (binaryOp .Add) (λx y H Q=>∃i j,x = .str i/\y = .str j/\i.length+j.length<=sizeLine/\Q (.str (i++j)) H):=by
 intro pins s σ H x y v u Q I rx ry h;obtain⟨i,j,rfl,rfl,hz,q⟩:=h;obtain⟨t,rfl⟩:=rx;obtain⟨t',rfl⟩:=ry;exact add_str (λt' tk=>⟨.str (i++j),H,I.tok _,⟨_,rfl⟩,q⟩) hz
theorem v3{x:V}{us:List Value}(r:Vals [x] us):∃u,us=[u]/\RelV x u:=by
 cases r with
 |cons r1 r2=>cases r2;exact⟨_,rfl,r1⟩
theorem gg{x y:V}{us:List Value}(r:Vals [x,y] us):∃u w',us=[u,w']/\RelV x u/\RelV y w':=by
 cases r with
 |cons r1 r2 =>
  cases r2 with
  |cons r3 r4=>cases r4;exact⟨_,_,rfl,r1,r3⟩
theorem Xb(hc:X.calm=true):xi X (.builtin "max") (λxs H Q=>∃i j,xs=[.int i,.int j]/\Q (.int (if j>i then j else i)) H):=by
 intro pins s σ H xs us Q I r h;obtain⟨i,j,rfl,q⟩:=h;obtain⟨u,w',rfl,⟨t,rfl⟩,⟨t',rfl⟩⟩:=gg r;refine max_two_ints (I.ok.hd hc) λh' tk k=>⟨_,H,I.kept k,?_,q⟩
 by_cases hj:j>i
 ·rw[yS hj,yS hj];exact⟨_,rfl⟩
 ·rw[yY hj,yY hj];exact⟨_,rfl⟩
theorem Xc(hc:X.calm=true):xi X (.builtin "min") (λxs H Q=>∃i j,xs=[.int i,.int j]/\Q (.int (if j<i then j else i)) H):=by
 intro pins s σ H xs us Q I r h;obtain⟨i,j,rfl,q⟩:=h;obtain⟨u,w',rfl,⟨t,rfl⟩,⟨t',rfl⟩⟩:=gg r;refine min_two_ints (I.ok.hd hc) λh' tk k=>⟨_,H,I.kept k,?_,q⟩
 by_cases hj:j<i
 ·rw[yS hj,yS hj];exact⟨_,rfl⟩
 ·rw[yY hj,yY hj];exact⟨_,rfl⟩
theorem Xa:xi X (.type "int") (λxs H Q=>(∃i,xs=[.int i]/\Q (.int i) H)\/∃k,xs=[.bl k]/\Q (.int (if k then 1 else 0)) H):=by
 intro pins s σ H xs us Q I r h;rcases h with⟨i,rfl,q⟩|⟨k,rfl,q⟩
 ·obtain⟨u,rfl,t,rfl⟩:=v3 r;exact call_int_int ⟨.int i,H,I,⟨_,rfl⟩,q⟩
 ·obtain⟨u,rfl,r1⟩:=v3 r;cases r1;exact call_int_bool ⟨.int (if k then 1 else 0),H,I.tok _,⟨_,rfl⟩,q⟩
end
end L2
namespace L2
open PySem PySem.Spec PyProof.Rows
structure ObjM(h:Heap)(x dx C:Addr)(mA:Str->Option Value):Prop where
 obj:h.get? x=some (W.instObj C dx)
 ns:h.Ns1 dx mA
 ne:dx≠x
theorem qo{h:Heap}{dx:Addr}{mA:Str->Option Value}(n:h.Ns1 dx mA):∃od,h.get? dx=some od/\∀name,W.lookIn name od=some (mA name):=by
 obtain⟨o,es,ep,ho,hd,hk,_,hm⟩:=n;refine⟨o,ho,λname=>?_⟩;have e:=hm name;unfold nsFind findBy at e;rw[<-Array.find?_toList]at e;unfold W.lookIn;rw[hd];dsimp only;split
 ·rename_i y q;rw[q]at e;exact xF some e
 ·rename_i q;rw[q]at e;have a:es.toList.any (·.refKey)=false:=by
   rw[List.any_eq_false];intro y hy;obtain⟨z,t,qO⟩:=hk y (Array.mem_toList_iff.mp hy);simp[DictEntry.refKey,qO]
  have a':¬es.toList.any (·.refKey)=true:=by rw[a];exact zK
  rw[yY a'];exact xF some e
theorem ObjM.look{h:Heap}{x dx C:Addr}{mA:Str->Option Value}(I:ObjM h x dx C mA):∃od,W.InstAt h x (W.instObj C dx) C (some od)/\∀name,W.lookIn name od=some (mA name) :=
 let⟨od,ho,hl⟩:=qo I.ns
 ⟨od,⟨I.obj,rfl,rfl,ho⟩,hl⟩
section
variable {prog:Program}{w:World}{A:Around}{E:Value->Shared->Prop}{s:Shared}{K:W.Frag}{x dx C f:Addr}{mA:Str->Option Value}{name:Str}{v:Value}
end
def Nn(f:Str)(v:V):List (Str×V)->List (Str×V)
 |[]=>[(f,v)]
 |(g,x)::r=>if g=f then(g,v)::r else(g,x)::Nn f v r
theorem RelO.some_of{v:V}{o:Option Value}(r:RelO (some v) o):∃u,o=some u/\RelV v u:=by
 cases o with
 |none=>exact(show False from r).elim
 |some u=>exact⟨u,rfl,r⟩
theorem Xk{v:V}{u:Value}(r:RelV v u):W.handedIn u=true:=by
 cases v with
 |non=>cases(show u=Value.none from r);rfl
 |bl b=>cases(show u=Value.bool b from r);rfl
 |int i=>obtain⟨t,e⟩:=(show∃t,u=Value.int i t from r);cases e;rfl
 |str x=>obtain⟨t,e⟩:=(show∃t,u=Value.str x t from r);cases e;rfl
 |byt b=>obtain⟨t,e⟩:=(show∃t,u=Value.bytes b t from r);cases e;rfl
 |flt b=>obtain⟨t,e⟩:=(show∃t,u=Value.float b t from r);cases e;rfl
 |ref a=>cases(show u=Value.ref a from r);rfl
 |ty n=>cases(show u=Value.type n from r);rfl
section
variable {P:Program}{w:World}{H H':Hp}{h h':Heap}{a C dx:Addr}{fs fs':List (Str×V)}
theorem So(hok:HOk P w H h)(e:H a=some (.ins C dx fs)):∃mA,ObjM h a dx C mA/\(∀f,RelO (fs.lookup f) (mA f))/\PySem.Within mA (fs.map (·.1))/\fs.length<=1000/\H dx=some (.own a):=by
 obtain⟨d,z,ne,ob,mA,n,r,q⟩:=(show ObjOk P w H h a (.ins C dx fs)from hok a _ e)
 exact⟨mA,⟨ob,n,ne⟩,r,q,z,d⟩
end
structure Cls(K:W.Frag)(C:Addr):Prop where
 pg:W.plainGet K C Str.empty=true
 hd:W.hasDictIn K C=true
 po:W.plainOver K C=true
 sa:W.findIn K (.ref C) "__setattr__"=some (some (.builtin "object.__setattr__"))
theorem Cls.get{K:W.Frag}{C:Addr}(c:Cls K C)(f:Str):W.plainGet K C f=true:=c.pg
def lj(K:W.Frag)(C:Addr)(f:Str):Prop:=W.findIn K (.ref C) f=some none
structure Con(K:W.Frag)(C:Addr)(f:Str)(v:V)(u:Value):Prop where
 at_:W.findIn K (.ref C) f=some (some u)
 rel:RelV v u
 get:W.specialIn K u "__get__"=some none
 cp:W.copiedNames.contains f=false
structure Lv(K:W.Frag)(C:Addr)(m:Str)(f:Addr):Prop where
 at_:W.findIn K (.ref C) m=some (some (.ref f))
 fn:W.isFn K (.ref f)=true
 kp:W.keepIn K (.ref f)=true
section
variable {X:Cx}{pins:List (Addr×Obj)}{σ:St}{H:Hp}{s:Shared}{a C dx:Addr}{fs:List (Str×V)}{f:Str}{v:V}{A:Around}{E:Value->Shared->Prop}
theorem Si{prog:Program}{w:World}{env:Env}{e:Expr}{f:Str}{pos:Pos}{s:Shared}{Q:Value->Shared->Prop}(hb:attributeBase e f env (eval e env)=eval e env)
  (h:wpAny (model prog w) A (eval e env) (λo s₁=>wpAny (model prog w) A (getAttr o f true) Q E s₁) E s):wpAny (model prog w) A (eval (.Attribute e f pos) env) Q E s :=
 Attribute_any_ h (by rw[arm_eval_Attribute,hb])
end
def Ln(K:W.Frag)(ta tv:TE)(f:Str):TS:=λD σ H=>tv σ H λy H1=>ta σ H1 λx H2=>∃a C dx fs,x = .ref a/\H2 a=some (.ins C dx fs)/\Cls K C/\lj K C f/\fs.length<1000 /\
 D.nx σ (upd H2 a (.ins C dx (Nn f y fs)))
section
variable {X:Cx}{o e value:Expr}{f:Str}{pos iG AE:Pos}{ta tv:TE}
end
section
variable {X:Cx}{pins:List (Addr×Obj)}{σ:St}{H:Hp}{s:Shared}{A:Around}{E:Value->Shared->Prop}{Q:Value->Shared->Prop}{c:Value}{b:Bool}
inductive TyOf (K:W.Frag) (H:Hp):V->Value->Prop where
 |non:TyOf K H .non (.type "NoneType")
 |bl (x:Bool):TyOf K H (.bl x) (.type "bool")
 |int (i:Int):TyOf K H (.int i) (.type "int")
 |str (x:Str):TyOf K H (.str x) (.type "str")
 |flt (x:UInt64):TyOf K H (.flt x) (.type "float")
 |lst {a:Addr}{xs:List V} (e:H a=some (.lst xs)):TyOf K H (.ref a) (.type "list")
 |frz {a:Addr}{o:Obj}{xs:List V} (e:H a=some (.frz o (.lst xs))):TyOf K H (.ref a) (.type "list")
 |tup {a:Addr}{xs:List V} (e:H a=some (.tup xs)):TyOf K H (.ref a) (.type "tuple")
 |dK {a:Addr}{kvs:List (Key×V)} (e:H a=some (.dK kvs)):TyOf K H (.ref a) (.type "dict")
 |dT {a:Addr}{kvs:List (List Key×V)} (e:H a=some (.dT kvs)):TyOf K H (.ref a) (.type "dict")
 |ins {a C dx:Addr}{fs:List (Str×V)} (e:H a=some (.ins C dx fs)) (cl:Cls K C) (ha:W.findIn K (.ref C) "__class__"=some (some (.builtin "object.__class__")))
   (hn:W.specialIn K (.builtin "object.__class__") "__get__"=some (some (.builtin "getset_descriptor.__get__"))) (htk:W.takesIn K (.builtin "object.__class__")=some true)
   (hm:W.mroIn K C (.type "object")=some true):TyOf K H (.ref a) (.ref C)
theorem Xo{x:V}{u t:Value}(I:Inv X pins σ H s)(rx:RelV x u)(ty:TyOf X.K H x t)(e:W.kitOne X.K t c=some b)(h:∀tk,Q (.bool b) { s with toks:=tk }):
  wpAny (model X.prog X.w) A (call (.builtin "isinstance") [u,c]) Q E s:=by
 cases ty with
 |non=>cases(show u=Value.none from rx);exact xP W.kitx_none I.kIn True.intro e (λz=>nomatch z) h
 |bl y=>cases(show u=Value.bool y from rx);exact xP W.kitx_bool I.kIn True.intro e (λz=>nomatch z) h
 |int i=>obtain⟨t,q⟩:=(show∃t,u=Value.int i t from rx);cases q;exact xP W.kitx_int I.kIn True.intro e (λz=>nomatch z) h
 |str y=>obtain⟨t,q⟩:=(show∃t,u=Value.str y t from rx);cases q;exact xP W.kitx_str I.kIn True.intro e (λz=>nomatch z) h
 |flt y=>obtain⟨t,q⟩:=(show∃t,u=Value.float y t from rx);cases q;exact xP W.kitx_float I.kIn True.intro e (λz=>nomatch z) h
 | @lst a xs ea =>
  cases(show u=Value.ref a from rx);obtain⟨_,_,n,_,h1⟩:=(show ObjOk X.prog X.w H s.heap a (.lst xs)from I.hok a _ ea)
  exact xP W.kitx_list I.kIn ⟨_,h1,rfl⟩ e (λz=>nomatch z) h
 | @frz a ob xs ea =>
  cases(show u=Value.ref a from rx);obtain⟨_,_,_,n,_,h1⟩:=(show ObjOk X.prog X.w H s.heap a (.frz ob (.lst xs))from I.hok a _ ea)
  exact xP W.kitx_list I.kIn ⟨_,h1,rfl⟩ e (λz=>nomatch z) h
 | @tup a xs ea =>
  cases(show u=Value.ref a from rx);obtain⟨_,_,_,p⟩:=(show ObjOk X.prog X.w H s.heap a (.tup xs)from I.hok a _ ea)
  obtain⟨o,h1,h2,_⟩:=p;exact xP W.kitx_tuple I.kIn ⟨o,h1,h2⟩ e (λz=>nomatch z) h
 | @dK a kvs ea =>
  cases(show u=Value.ref a from rx);obtain⟨_,_,vs,_,p⟩:=(show ObjOk X.prog X.w H s.heap a (.dK kvs)from I.hok a _ ea)
  obtain⟨o,es,ep,h1,h2,_⟩:=p;exact xP W.kitx_dict I.kIn ⟨o,h1,h2.1⟩ e (λz=>nomatch z) h
 | @dT a kvs ea =>
  cases(show u=Value.ref a from rx);obtain⟨_,_,xs,_,o,es,ep,h1,h2,_⟩:=(show ObjOk X.prog X.w H s.heap a (.dT kvs)from I.hok a _ ea)
  exact xP W.kitx_dict I.kIn ⟨o,h1,h2.1⟩ e (λz=>nomatch z) h
 | @ins a C dx fs ea cl ha hn htk hm =>
  cases(show u=Value.ref a from rx);obtain⟨mA,O,_⟩:=So I.hok ea;obtain⟨od,J,_⟩:=O.look;exact xP (W.kitx_own (cl.get _) cl.hd ha hn htk hm) I.kIn J e (λz=>nomatch z) h
end
end L2
namespace L2
open PySem PySem.Spec PyProof.Rows
structure Room(k:Nat)(A:Around):Prop where
 hd:A.handled=none
 dp:A.depth+3*k+5<recursionLimit
 un:A.units+16*k+200<cLine
theorem Room.mono{j k:Nat}{A:Around}(r:Room k A)(h:j<=k):Room j A:=⟨r.hd,by have:=r.dp;lia,by have:=r.un;lia⟩
theorem Room.deeper{k:Nat}{A:Around}(r:Room (k+1) A)(env:Env):Room k (A.deeper env) :=
 ⟨r.hd,by have:=r.dp;show A.depth+1+3*k+5<_;lia,by have:=r.un;show A.units+3+16*k+200<_;lia⟩
theorem au{A:Around}{C:Addr}{us:List Value}{kw:List (Str×Value)}:(A.under (.builtin "type.__call__" ⟨.ref C::us,kw⟩)).depth=A.depth+1:=by
 first|rfl|simp[Around.under,Code.weight,Code.isCreation,Code.isGuard,Code.isCaller,Code.frames,Code.isFrame,guardIds]
theorem aw{A:Around}{C:Addr}{us:List Value}{kw:List (Str×Value)}:(A.under (.builtin "type.__call__" ⟨.ref C::us,kw⟩)).units=A.units+1:=by
 first|rfl|simp[Around.under,Code.cUnits,Code.frames,Code.isFrame]
theorem Room.make{k:Nat}{A:Around}(r:Room (k+1) A)(C:Addr)(us:List Value)(kw:List (Str×Value)):Room k (A.under (.builtin "type.__call__" ⟨.ref C::us,kw⟩)) :=
 ⟨r.hd,by have:=r.dp;rw[au];lia,by have:=r.un;rw[aw];lia⟩
theorem Room.depth{k:Nat}{A:Around}(r:Room k A):A.depth<recursionLimit:=by have:=r.dp;lia
theorem Room.units{k:Nat}{A:Around}(r:Room k A):A.units+64<cLine:=by have:=r.un;lia
def Os:TA:=λ_ H Q=>Q [] H
def R7(ta:TE)(tr:TA):TA:=fun σ H Q=>ta σ H λx H1=>tr σ H1 λxs H2=>Q (x::xs) H2
section
variable {X:Cx}{e:Expr}{es:List Expr}{te:TE}{t:TA}{pos:Pos}
theorem z6:PA X [] Os:=λ_ _ _ _ H Q I h=>tL ⟨[],H,I,.nil,h⟩
theorem z9(ha:PE X e te)(hr:PA X es t)(hs:starEach (e::es) X.env=(false,eval e X.env)::starEach es X.env:=by rfl):PA X (e::es) (R7 te t):=by
 intro pos pins s σ H Q I h;rw[hs];show wpAny _ _ (spliced ((false,eval e X.env)::backTo pos (starEach es X.env))) _ _ s;refine Calls.spliced_cons (thn (ha pins s σ H _ I h) λu s1 ⟨x,H1,I1,r1,q1⟩=>?_);exact thn (hr pos pins s1 σ H1 _ I1 q1) λus s2 ⟨xs,H2,I2,r2,q2⟩=>⟨x::xs,H2,I2,.cons r1 r2,q2⟩
end
abbrev Sp:=List V->Hp->VK->XK->Prop
abbrev CXT:=List Env->Hp->Shared->XK->Value->Shared->Prop
structure Env0(P:Program)(w:World)(K:W.Frag)(mg:Str->Option Value)(base:Heap)(A:Around)(outer:List Env)(s:Shared)(H:Hp):Prop where
 frames:A.frames=some outer
 mod:Mod K mg base
 bs:∀b o,base.get? b=some o->s.heap.get? b=some o/\H b=none
 bsz:base.objs.size<=s.heap.objs.size
 funs:s.heap.FunFrames base outer
 frf:∀b∈frs outer,H b=none
 hok:HOk P w H s.heap
 bare:AllBare s.gens
def CE(outer:List Env)(P:Program)(w:World)(H:Hp)(s:Shared)(Q:VK)(u:Value)(s':Shared):Prop :=
 ∃v H',s'.os=s.os/\AllBare s'.gens/\Un (frs outer) [] H H' s.heap s'.heap/\HOk P w H' s'.heap/\RelV v u/\Q v H'
def CR(CX:CXT)(outer:List Env)(P:Program)(w:World)(H:Hp)(s:Shared)(Q:VK)(E:XK)(r:Result)(s':Shared):Prop :=
 match r with
 | .ok (.ret u)=>CE outer P w H s Q u s'
 | .ok _=>False
 | .error e=>CX outer H s E e s'
structure ul(P:Program)(w:World)(K:W.Frag)(mg:Str->Option Value)(base:Heap)(CX:CXT)(k:Nat)(f:Addr)(fd:FuncData)(ps:List Str)(sp:Sp):Prop where
 len:∀vs H Q E,sp vs H Q E->vs.length=ps.length
 run:∀(A:Around)(outer:List Env)(s:Shared)(H:Hp)(args:Args)(us:List Value)(vs:List V)(Q:VK)(E:XK),Room k A->Env0 P w K mg base A outer s H->BindsTo s fd args (ps.zip us)->Vals vs us->sp vs H Q E ->
  codeAny (model P w) A (.call (.ref f) args) (CR CX outer P w H s Q E) s
theorem Env0.make{P:Program}{w:World}{K:W.Frag}{mg:Str->Option Value}{base:Heap}{A:Around}{outer:List Env}{s:Shared}{H:Hp}(e:Env0 P w K mg base A outer s H)(C:Addr)(us:List Value)(kw:List (Str×Value)):
  Env0 P w K mg base (A.under (.builtin "type.__call__" ⟨.ref C::us,kw⟩)) outer s H:=⟨by first|exact e.frames|(simpa[Around.under,Code.envs,Code.isFrame,pushEnvs]using e.frames),e.mod,e.bs,e.bsz,e.funs,e.frf,e.hok,e.bare⟩
section
variable {X:Cx}{pins:List (Addr×Obj)}{σ:St}{H:Hp}{s s':Shared}
theorem Inv.env0(I:Inv X pins σ H s):Env0 X.prog X.w X.K X.mg X.base X.A X.stack s H :=
 ⟨I.ok.frames,I.ok.mod,I.bs,yW I.ok.bsz I.sz,I.stack,I.stkFree,I.hok,I.bare⟩
theorem Inv.after{Q:VK}{u:Value}(I:Inv X pins σ H s)(h:CE X.stack X.prog X.w H s Q u s'):EP X pins σ Q u s':=by
 obtain⟨v,H',os,bare,un,hok,r,q⟩:=h;obtain⟨hh,g,d,t,os'⟩:=s';obtain rfl:os'=s.os:=os;exact⟨v,H',I.call (h':=hh) (g':=g) (d':=d) (t':=t) (ch:=[]) un hok bare (λb z=>absurd z (by simp)),r,q⟩
end
def Zx(sp:Sp)(qB:List V)(E:XK)(t:TA):TE:=fun σ H Q=>t σ H λvs H1=>sp (vs++qB) H1 Q E
def Oq(C:Addr)(sp:Sp)(qB:List V)(E:XK)(t:TA):TE:=fun σ H Q=>t σ H λvs H1=>∀x dx,H1 x=none->H1 dx=none->dx≠x ->
 sp (.ref x::(vs++qB)) (upd (upd H1 dx (.own x)) x (.ins C dx [])) (λv H2=>v = .non/\Q (.ref x) H2) E
def Binds(K:W.Frag)(fd:FuncData)(ps:List Str)(ds:List Value):Prop :=
 ∀(s:Shared)(us:List Value),K.In s.heap->(us++ds).length=ps.length->BindsTo s fd ⟨us,[]⟩ (ps.zip (us++ds))
theorem Binds.all{K:W.Frag}{fd:FuncData}{ps:List Str}(h:∀us:List Value,us.length=ps.length->bindArgs fd ⟨us,[]⟩=pure (ps.zip us)):Binds K fd ps []:=λs us _ hl=>by
 rw[List.append_nil]at hl ⊢;exact .of_eq (h us hl)
def qg(CX:CXT)(X:Cx)(E:XK):Prop:=∀(pins:List (Addr×Obj))(σ:St)(H:Hp)(s:Shared)(e:Value)(s':Shared),Inv X pins σ H s->CX X.stack H s E e s'->X.xe e s'
section
variable {X:Cx}{CX:CXT}{k:Nat}{f C:Addr}{fd:FuncData}{ps:List Str}{sp:Sp}{qB:List V}{ds:List Value}{E:XK}{x m:Str}{p pos apos:Pos}{e o:Expr}{es:List Expr}{ta:TE}{t:TA}
theorem Q9{pins:List (Addr×Obj)}{σ:St}{H:Hp}{s:Shared}{Q:VK}{us:List Value}{vs:List V}(F:ul X.prog X.w X.K X.mg X.base CX k f fd ps sp)(hr:Room k X.A)(hb:Binds X.K fd ps ds)(hd:Vals qB ds)(hx:qg CX X E)
  (I:Inv X pins σ H s) (r:Vals vs us) (h:sp (vs++qB) H Q E):wpAny (model X.prog X.w) X.A (call (.ref f) us) (EP X pins σ Q) X.xe s:=by
 have r2:Vals (vs++qB) (us++ds):=r.append hd;have hl:(us++ds).length=ps.length:=by rw[<-r2.length];exact F.len _ _ _ _ h
 refine tE (vD (F.run X.A X.stack s H ⟨us,[]⟩ (us++ds) (vs++qB) Q E hr I.env0 (hb s us I.kIn hl) r2 h) λr s' hq=>?_);cases r with
 |error e=>exact hx pins σ H s e s' I hq
 |ok fl =>
  cases fl with
  |ret u=>exact I.after hq
  |next=>exact False.elim hq
  |brk=>exact False.elim hq
  |cont=>exact False.elim hq
theorem Zk(F:ul X.prog X.w X.K X.mg X.base CX k f fd ps sp)(hr:Room k X.A)(hg:Gl X x)(hm:X.mg x=some (.ref f))(hk:W.keepIn X.K (.ref f)=true)(hb:Binds X.K fd ps ds)(hd:Vals qB ds)(hx:qg CX X E)
  (ha:PA X (e::es) t) (jD:(x==("__debug__":Str))=false:=by decide) (he:starEach (e::es) X.env=(false,eval e X.env)::starEach es X.env:=by rfl) (fG:(backTo pos (starEach es X.env)).any (·.1)=false:=by rfl) :
  PE X (.Call (.Name x p) (e::es) [] pos) (Zx sp qB E t):=by
 intro pins s σ H Q I h;refine wX (vg I hg hm ?_ jD);refine tW (h₀:=X.base) I.ok.mod.kin hk (thn (ha pos pins s σ H _ I h) λus s1 ⟨vs,H1,I1,r,q⟩=>⟨I1.kIn,?_⟩) he fG;exact Q9 F hr hb hd hx I1 r q
structure Mk(K:W.Frag)(C f:Addr):Prop where
 makes:W.makesIn K C=true
 init:W.findIn K (.ref C) "__init__"=some (some (.ref f))
 fn:W.isFn K (.ref f)=true
 kp:W.keepIn K (.ref C)=true
end
section
variable {X:Cx}{CX:CXT}{k:Nat}{f C:Addr}{fd:FuncData}{ps ks:List Str}{sp:Sp}{E:XK}{x m:Str}{p pos apos kpos:Pos}{e o:Expr}{es:List Expr}{kws:List Keyword}{te ta:TE}{t tk:TA}{nm:Option Str}
structure Ks(K:W.Frag)(fd:FuncData)(ps ks:List Str)(g:List Value->List Value->List Value)(gV:List V->List V->List V):Prop where
 to:∀(s:Shared)(us ws:List Value),K.In s.heap->(g us ws).length=ps.length->BindsTo s fd ⟨us,ks.zip ws⟩ (ps.zip (g us ws))
 rel:∀{vs:List V}{us:List Value}{zs:List V}{ws:List Value},Vals vs us->Vals zs ws->Vals (gV vs zs) (g us ws)
variable {g:List Value->List Value->List Value}{gV:List V->List V->List V}
end
structure zj(N P:List Str)(sc:Scope):Prop where
 kind:sc.kind = .function
 co:sc.isCoroutine=false
 gen:sc.isGenerator=false
 nd:N.Nodup
 pre:N.take P.length=P
 par:∀x∈P,sc.names.lookup x=some .local\/sc.names.lookup x=some .cell
 nofree:∀y∈sc.names,y.2≠.free
theorem jm{kindOf:Str->Option NameKind}{x:Str}:∀{kF:List (Str×Value)}{m:Str->Option Value},(∀v,(x,v)∉kF)->bindL kindOf kF m x=m x
 |[],_,_=>rfl
 |(n,v)::r,m,h=>by
  unfold bindL;rw[jm λw hw=>h w (zC _ hw)];split
  ·have:x≠n:=by rintro rfl;exact h v yZ
   simp[this]
  ·rfl
theorem ji{kindOf:Str->Option NameKind}{x:Str}:∀{kF:List (Str×Value)}{m:Str->Option Value},(∀v,(x,v)∉kF)->bindC kindOf kF m x=m x
 |[],_,_=>rfl
 |(n,v)::r,m,h=>by
  unfold bindC;rw[ji λw hw=>h w (zC _ hw)];split
  ·rfl
  ·have:x≠n:=by rintro rfl;exact h v yZ
   simp[this]
theorem jk{kindOf:Str->Option NameKind}{x:Str}{v:Value}:∀{P:List Str}{vs:List Value}{i:Nat}{m:Str->Option Value},P.Nodup->P[i]?=some x->vs[i]?=some v->kindOf x=some .local ->
  bindL kindOf (P.zip vs) m x=some v
 |[],_,_,_,_,h,_,_=>by simp at h
 |_::_,[],_,_,_,_,h,_=>by simp at h
 |p::P,w::vs,0,m,nd,h1,h2,hk=>by
  simp at h1 h2;subst h1;subst h2;show bindL kindOf ((p,w)::P.zip vs) m p=_;unfold bindL;rw[jm λv hv=>(vB.mp nd).1 (List.of_mem_zip hv).1,yS hk];simp
 |p::P,w::vs,i+1,m,nd,h1,h2,hk=>by
  show bindL kindOf ((p,w)::P.zip vs) m x=_;unfold bindL;exact jk (i:=i) (vB.mp nd).2 (by simpa using h1) (by simpa using h2) hk
theorem jh{kindOf:Str->Option NameKind}{x:Str}{v:Value}:∀{P:List Str}{vs:List Value}{i:Nat}{m:Str->Option Value},P.Nodup->P[i]?=some x->vs[i]?=some v->kindOf x≠some .local ->
  bindC kindOf (P.zip vs) m x=some v
 |[],_,_,_,_,h,_,_=>by simp at h
 |_::_,[],_,_,_,_,h,_=>by simp at h
 |p::P,w::vs,0,m,nd,h1,h2,hk=>by
  simp at h1 h2;subst h1;subst h2;show bindC kindOf ((p,w)::P.zip vs) m p=_;unfold bindC;rw[ji λv hv=>(vB.mp nd).1 (List.of_mem_zip hv).1,yY hk];simp
 |p::P,w::vs,i+1,m,nd,h1,h2,hk=>by
  show bindC kindOf ((p,w)::P.zip vs) m x=_;unfold bindC;exact jh (i:=i) (vB.mp nd).2 (by simpa using h1) (by simpa using h2) hk
def vy(N:List Str)(vs:List V):St:=vs.map some++List.replicate (N.length-vs.length) none
def wj(CX:CXT)(P:Program)(w:World)(K:W.Frag)(mg:Str->Option Value)(base:Heap)(N:List Str)(qual:Str)(scope:Scope)(f:Addr)(cd:Value)(A:Around)(outer:List Env)(s:Shared)(H:Hp)(E:XK):Cx where
 prog:=P
 w:=w
 K:=K
 mg:=mg
 base:=base
 A:=A.deeper (envOfC qual scope s.heap.objs.size f cd)
 N:=N
 s₀:=s
 H₀:=H
 env:=envOfC qual scope s.heap.objs.size f cd
 outer:=outer
 stack:=envOfC qual scope s.heap.objs.size f cd::outer
 ex:=[]
 calm:=true
 fn:=λ_=>true
 pn:=[]
 xe:=λe s'=>wpAny (model P w) (A.deeper (envOfC qual scope s.heap.objs.size f cd)) (leaving (envOfC qual scope s.heap.objs.size f cd) e) (λ_ s''=>CX outer H s E e s'') (λe' s''=>CX outer H s E e' s'') s'
theorem df{sc:Scope}{n:Nat}{x:Str}(h:sc.names.lookup x=some .cell):∃c,(cellsFrom n sc.names []).lookup x=some c:=by
 have q:=W.cellsFrom_some sc.names n [] (.inl h);exact uI.mp q
theorem Xm{CX:CXT}{P:Program}{w:World}{K:W.Frag}{mg:Str->Option Value}{base:Heap}{N ps:List Str}{qual:Str}{scope:Scope}{f:Addr}{cd:Value}{A:Around}{outer:List Env}{s s1:Shared}{H:Hp}{E:XK}{us:List Value}{vs:List V}
  (S:zj N ps scope) (hd:A.handled=none) (e0:Env0 P w K mg base A outer s H) (hl:vs.length=ps.length) (r:Vals vs us)
  (x:InCallC s s.heap.objs.size (bindL (envOfC qual scope s.heap.objs.size f cd).kindOf (ps.zip us) λ_=>none) (cellsFrom (s.heap.objs.size+1) scope.names []) (bindC (envOfC qual scope s.heap.objs.size f cd).kindOf (ps.zip us) λ_=>none) s1) :
  Inv (wj CX P w K mg base N qual scope f cd A outer s H E) [] (vy N vs) H s1:=by
 have fG:ps.length<=N.length:=by have:=xF List.length S.pre;rw[yE]at this;lia
 obtain⟨h1,tk,rfl,hk⟩:=x.done;have Fd:∀b:Addr,b∉(wj CX P w K mg base N qual scope f cd A outer s H E).ex:=λb z=>absurd (show b∈([]:List Addr)from z) (by simp);refine⟨⟨e0.mod,S.kind,rfl,rfl,zS _,λy z c h1 h2=>?_,λy hy=>?_,λy c _ h=>?_,λ_=>hd,Around.frames_deeper e0.frames,.inr ⟨rfl,rfl⟩,λb z=>absurd z (Fd b),e0.bs,e0.bsz,λb _ _=>Fd b,λb z=>absurd z (Fd b),e0.funs,e0.frf⟩,
  rfl,e0.bare,Un.kept hk,⟨_,x.toInCall.ns,λi y v h1 h2 h3=>?_⟩,λy c h=>⟨_,x.cell y c h⟩,e0.hok.fresh (zS _),λy c h=>?_,λp hp=>absurd (show p∈([]:List (Addr×Obj))from hp) (by simp),e0.hok.kept hk,?_⟩
 ·exact name_of_addr x.apart (xC h1) (xC h2)
 ·have hy:scope.names.lookup y=some .cell\/scope.names.lookup y=some .free:=hy;rcases hy with hy|hy
  ·exact df hy
  ·exact absurd rfl (S.nofree _ (xC hy))
 ·exact xT (x.above y c (xC h))
 ·have hi:i<vs.length:=by
   unfold vy at h2
   by_cases hi:i<vs.length
   ·exact hi
   ·rw[xZ (by simpa using hi)]at h2;rw[List.getElem?_replicate]at h2;split at h2<;>cases h2
  have ha:vs[i]?=some v:=by
   unfold vy at h2;rw[yM (by simpa using hi),zE]at h2;cases e:vs[i]? with
   |none=>rw[e]at h2;cases h2
   |some a=>rw[e]at h2;cases h2;rfl
  obtain⟨u,hu,rv⟩:=r.get ha;have hp:ps[i]?=some y:=by
   rw[<-S.pre,wQ (by lia)];exact h1
  have ndP:ps.Nodup:=by rw[<-S.pre];exact S.nd.sublist (List.take_sublist _ _)
  refine⟨u,rv,?_⟩;rcases S.par y (zM hp)with k|k
  ·exact .inl ⟨k,jk ndP hp hu k⟩
  ·obtain⟨c,e⟩:=df (n:=s.heap.objs.size+1) k;refine .inr ⟨.inl k,c,e,?_⟩;have q:=x.cell y c e;rw[jh ndP hp hu (by show scope.names.lookup y≠_;rw[k];decide)]at q;exact q
 ·exact e0.hok.fresh (xT (x.above y c (xC h)))
 ·unfold vy;show _=N.length;rw[zN,zX,List.length_replicate];lia
theorem Rp{CX:CXT}{P:Program}{w:World}{K:W.Frag}{mg:Str->Option Value}{base:Heap}{k:Nat}{f:Addr}{name qual:Str}{params:Arguments}{body:List Stmt}{scope:Scope}{dV kV doc pm cdv ct oc:Value}{an od:Option Addr}
  {osl:Array (Option Value)}{N ps:List Str}{sp:Sp} (lk:K.lookup f=some ⟨oc,od,.func (W.fnOf name qual params body scope dV kV doc pm an cdv ct),osl⟩) (kO:W.codeIn K cdv qual=true) (S:zj N ps scope)
  (len:∀vs H Q E,sp vs H Q E->vs.length=ps.length)
  (cF:∀(A:Around)(outer:List Env)(s:Shared)(H:Hp)(vs:List V)(Q:VK)(E:XK),Room k (A.deeper (envOfC qual scope s.heap.objs.size f cdv))->sp vs H Q E ->
   ∃t,PSs (wj CX P w K mg base N qual scope f cdv A outer s H E) body t/\t { nx:=λ_ H'=>Q .non H',rt:=Q } (vy N vs) H) :
  ul P w K mg base CX (k+1) f (W.fnOf name qual params body scope dV kV doc pm an cdv ct) ps sp:=by
 refine⟨len,λA outer s H args us vs Q E hr e0 hb r pW=>?_⟩;have hl:=len _ _ _ _ pW;have KX:K.In s.heap:=e0.mod.kin.keeps λb o e=>(e0.bs b o e).1;have lim:s.heap.NoLimit:=e0.mod.nolimit.keeps λb o e=>(e0.bs b o e).1;have HH:∀y∈ps.zip us,scope.names.lookup y.1=some .local\/(scope.names.lookup y.1=some .cell/\((cellsFrom (s.heap.objs.size+1) scope.names []).lookup y.1).isSome=true):=λ⟨n,v⟩ hy=>by
  rcases S.par n (List.of_mem_zip hy).1 with q|q
  ·exact .inl q
  ·exact .inr ⟨q,W.cellsFrom_some _ _ _ (.inl q)⟩
 refine codeAny_call_function hr.depth (KX _ _ lk) rfl S.co S.gen rfl (W.codeRec_of KX kO) (hb _ _ _ _ ?_);refine wpAny_newFunctionEnv_cells S.kind HH λenv he s1 x=>?_;subst he;refine⟨lim.keeps x.toInCall.keep,codeAny_func ?_⟩;obtain⟨t,ht,hq⟩:=cF A outer s H vs Q E (hr.deeper _) pW;have I:Inv (wj CX P w K mg base N qual scope f cdv A outer s H E) [] (vy N vs) H s1:=Xm S hr.hd e0 hl r x;refine yT (ht [] s1 (vy N vs) H _ I hq) (λfl s' hs=>?_) λe s' hs=>hs;have cB:∀{σ':St}{H':Hp}{v:V}{u:Value},Inv (wj CX P w K mg base N qual scope f cdv A outer s H E) [] σ' H' s'->RelV v u->Q v H'->CE outer P w H s Q u s' :=
  λ{σ' H' v u} J rv q=>⟨v,H',J.os,J.bare,J.base,J.hok,rv,q⟩
 cases fl with
 |ret u =>
  obtain⟨v,σ',H',J,rv,q⟩:=hs;exact cB J rv q
 |next =>
  obtain⟨σ',H',J,q⟩:=hs;exact cB (v:=V.non) (u:=Value.none) J rfl q
 |brk =>
  obtain⟨_,_,_,q⟩:=hs;exact False.elim q
 |cont =>
  obtain⟨_,_,_,q⟩:=hs;exact False.elim q
end L2
namespace L2
open PySem PySem.Spec PyProof.Rows
section
variable {X:Cx}{x:Str}{p pos:Pos}{e:Expr}{es:List Expr}{t:TA}{id T:String}{r:List V->Hp->VK->Prop}
def tCB(r:List V->Hp->VK->Prop)(t:TA):TE:=fun σ H Q=>t σ H λvs H1=>r vs H1 Q
theorem zt(hc:xi X (.builtin id) r)(hg:Gl X x)(hm:X.mg x=none)(hv:bootBuiltins x=some (.builtin id))(ha:PA X (e::es) t)(hn:x≠"__name__":=by decide)(jD:(x==("__debug__":Str))=false:=by decide)
  (he:starEach (e::es) X.env=(false,eval e X.env)::starEach es X.env:=by rfl) (fG:(backTo pos (starEach es X.env)).any (·.1)=false:=by rfl):PE X (.Call (.Name x p) (e::es) [] pos) (tCB r t):=by
 intro pins s σ H Q I h;refine wX (u4 I hg hm hv ?_ hn jD);exact PyProof.Rows.callWith_builtin1 (thn (ha pos pins s σ H _ I h) λus s1 ⟨vs,H1,I1,r1,q1⟩=>hc pins s1 σ H1 vs us Q I1 r1 q1) he fG
theorem yt(hc:xi X (.type T) r)(hg:Gl X x)(hm:X.mg x=none)(hv:bootBuiltins x=some (.type T))(ha:PA X (e::es) t)(hn:x≠"__name__":=by decide)(jD:(x==("__debug__":Str))=false:=by decide)
  (he:starEach (e::es) X.env=(false,eval e X.env)::starEach es X.env:=by rfl) (fG:(backTo pos (starEach es X.env)).any (·.1)=false:=by rfl):PE X (.Call (.Name x p) (e::es) [] pos) (tCB r t):=by
 intro pins s σ H Q I h;refine wX (u4 I hg hm hv ?_ hn jD);exact wT (thn (ha pos pins s σ H _ I h) λus s1 ⟨vs,H1,I1,r1,q1⟩=>hc pins s1 σ H1 vs us Q I1 r1 q1) he fG
end
end L2
namespace HT
open PySem PyProof.Rows
section
open PySem.SeqAt
open PySem.AutoSeq1 (wpAny_loadPart')
open PySem.MeetsSeq PySem.MeetsSeq2 PySem.MeetsSeq3
end
section
variable {prog:Program}{w:World}{A:Around}{E:Value->Shared->Prop}{s:Shared}
theorem cat_tup{t b:Addr}{vs ws:List Value}{Q:Value->Shared->Prop}(ht:IsTup s.heap t vs.toArray)(hb:IsTup s.heap b ws.toArray)(hv:vs≠[])
  (h1:ws=[]->Q (.ref t) s) (h2:ws≠[]->Q (.ref s.heap.objs.size) { s with heap:=s.heap.push { cls:=.type "tuple",data:=.seq (vs++ws).toArray } })
  (hsz:vs.length+ws.length<=sizeLine):wpAny (model prog w) A (binaryOp .Add (.ref t) (.ref b)) Q E s:=by
 obtain⟨⟨cls,dd,data,sl⟩,ho,hc,n,hd⟩:=id ht;obtain⟨⟨cls2,dd2,data2,pT⟩,Bb,kD,n2,qT⟩:=id hb;simp only at hc hd kD qT;subst hc hd kD qT;have e:vs.toArray++ws.toArray=(vs++ws).toArray:=by simp
 by_cases hw:ws=[]
 ·exact concat_meets ⟨_,ho,rfl⟩ ⟨_,Bb,rfl⟩ noFill_tuple_add seq_tuple_add tN tS (uH _ _)
   (tuple_addW1 t b vs.toArray ws.toArray n n2 dd dd2 sl pT (by simpa using hv) (by simp[hw])) ⟨ho,Bb,h1 hw⟩
 ·refine concat_meets ⟨_,ho,rfl⟩ ⟨_,Bb,rfl⟩ noFill_tuple_add seq_tuple_add tN tS (uH _ _)
   (tuple_addW2 t b vs.toArray ws.toArray n n2 dd dd2 sl pT (by simpa using hv) (by simpa using hw) (by rw[zQ,zQ];exact hsz)) ⟨ho,Bb,?_⟩
  rw[e];exact h2 hw
def sIx(n d:Nat):Option Int->Nat
 |none=>d
 |some v=>if v<0 then(v+(n:Int)).toNat else min v.toNat n
theorem sIx_none(n d:Nat):sIx n d none=d:=rfl
theorem Ra(n d:Nat)(hd:d<=n)(o:Option Int):sIx n d o<=n:=by
 cases o with
 |none=>exact hd
 |some v =>
  show(if v<0 then(v+(n:Int)).toNat else min v.toNat n)<=n
  by_cases hv:v<0
  ·rw[yS hv];lia
  ·rw[yY hv];exact Nat.min_le_right _ _
theorem Yy(v:Int)(n d:Nat):(if v<0 then max (v+(n:Int)) 0 else min v (n:Int))=((sIx n d (some v):Nat):Int):=by
 show(if v<0 then max (v+(n:Int)) 0 else min v (n:Int))=(((if v<0 then(v+(n:Int)).toNat else min v.toNat n):Nat):Int)
 by_cases hv:v<0
 ·simp only[yS hv];lia
 ·simp only[yY hv];lia
theorem Z1(lo hi:Option Int)(n:Nat):Builtin.Slice.sliceAdjust lo hi 1 (n:Int)=(((sIx n 0 lo:Nat):Int),((sIx n n hi:Nat):Int)):=by
 have h1:¬((1:Int)<0):=by lia
 unfold Builtin.Slice.sliceAdjust;simp only[h1,if_false];refine Prod.ext ?_ ?_
 ·cases lo with
  |none=>rfl
  |some v=>exact Yy v n 0
 ·cases hi with
  |none=>rfl
  |some v=>exact Yy v n n
theorem bq(i j:Nat):Builtin.Slice.slicePlaces (i:Int) (j:Int) 1=j-i:=by
 unfold Builtin.Slice.slicePlaces;have h1:(1:Int)>0:=by lia
 simp only[h1,if_true,Int.ediv_one];split<;>lia
theorem m8{v:Value}{o:Option Int}{Q:Option Int->Shared->Prop}(p:IsPart v o)(h:Q o s):wpAny (model prog w) A (Builtin.Slice.slicePartIndex v) Q E s:=by
 cases p with
 |none=>exact slicePart_none h
 |int i t=>exact slicePart_int h
theorem sliceApplied_gen{sl:Addr}{vl vu:Value}{lo hi:Option Int}{n:Nat}{Q:Int×Int×Nat->Shared->Prop}(hs:s.heap.IsSliceOf sl vl vu .none)(pl:IsPart vl lo)(pu:IsPart vu hi)
  (h:Q (((sIx n 0 lo:Nat):Int),1,sIx n n hi-sIx n 0 lo) s):wpAny (model prog w) A (Builtin.Slice.sliceApplied (.ref sl) (pure (n:Int))) Q E s:=by
 obtain⟨os,AY,sK,HV⟩:=id hs;unfold Builtin.Slice.sliceApplied Builtin.Slice.sliceFields;refine zZ (zZ (yI AY HV (x:=vl) rfl (zZ (yI AY HV (x:=vu) rfl (zZ (yI AY HV (x:=.none) rfl (zV ?_)))))));refine zZ (slicePart_none ?_);show wpAny _ _ (if((1:Int)==0)=true then _ else _) _ _ s;rw[yY (by decide)];refine zZ (m8 pl (zZ (m8 pu (zZ (zV ?_)))));show wpAny _ _ (match Builtin.Slice.sliceAdjust lo hi 1 (n:Int)with|(lo,hi)=>pure (lo,(1:Int),Builtin.Slice.slicePlaces lo hi 1)) _ _ s;rw[Z1 lo hi n];show wpAny _ _ (pure (((sIx n 0 lo:Nat):Int),(1:Int),Builtin.Slice.slicePlaces ((sIx n 0 lo:Nat):Int) ((sIx n n hi:Nat):Int) 1)) _ _ s;rw[bq];exact zV h
theorem V6(xs:Array Value)(i k:Nat):((List.range k).filterMap λ(m:Nat)=>xs[((i:Int)+(m:Int)*1).toNat]?).toArray=((xs.toList.drop i).take k).toArray:=by
 have e:(λ(m:Nat)=>xs[((i:Int)+(m:Int)*1).toNat]?)=λm=>xs[i+m]?:=by
  funext m
  have:((i:Int)+(m:Int)*1).toNat=i+m:=by lia
  rw[this]
 rw[e];have:=pick_run xs i k;rw[List.filterMap_map]at this;have e2:((λx=>xs[x]?)∘λx=>i+x)=λm=>xs[i+m]?:=rfl;rw[e2]at this;rw[this]
theorem getItem_tuple_cut{t sl:Addr}{items:Array Value}{vl vu:Value}{lo hi:Option Int}{Q:Value->Shared->Prop}(ht:IsTup s.heap t items)(hs:s.heap.IsSliceOf sl vl vu .none)(pl:IsPart vl lo)(pu:IsPart vu hi)
  (hw:¬(sIx items.size 0 lo=0/\sIx items.size items.size hi=items.size))
  (h:Q (.ref s.heap.objs.size) { s with heap:=s.heap.push { cls:=.type "tuple",data:=.seq ((items.toList.drop (sIx items.size 0 lo)).take (sIx items.size items.size hi-sIx items.size 0 lo)).toArray } })
  (hsz:items.size<=sizeLine):wpAny (model prog w) A (getItem (.ref t) (.ref sl)) Q E s:=by
 have mF:sizeOk (.seq ((items.toList.drop (sIx items.size 0 lo)).take (sIx items.size items.size hi-sIx items.size 0 lo)).toArray):=by
  show((items.toList.drop (sIx items.size 0 lo)).take (sIx items.size items.size hi-sIx items.size 0 lo)).toArray.size<=sizeLine;rw[zQ,yE,xH,xQ];lia
 have hj:sIx items.size items.size hi<=items.size:=Ra _ _ (zS _) hi;obtain⟨os,AY,sK,HV⟩:=id hs;have Ih:s.TypeIs (.ref sl) "slice":=⟨os,AY,sK⟩
 unfold getItem
 try with_reducible refine xU ?_
 first|refine zZ (zV ?_)|skip
 refine zZ (wpAny_sequenceKey ht.typeIs (by decide) ?_);refine zZ (xW (name:=Str.ofString "__getitem__") ht.typeIs xR
  (yA xR ht.typeIs entry_tuple_getitem ?_ (args_tuple_getitem _ _)))
 show wpAny _ _ (Builtin.Tuple.tupleItemsOf (.ref t) >>= _) _ _ s;refine zZ (tupleItemsOf_ ht ?_);refine zZ (uL Ih ?_);rw[yS (by decide)];refine zZ (sliceApplied_gen hs pl pu ?_);have sD:¬((((sIx items.size 0 lo:Nat):Int)==0&&(1:Int)==1&&(sIx items.size items.size hi-sIx items.size 0 lo)==items.size)=true):=by
  intro q;rw[yQ,yQ]at q;have q1:((sIx items.size 0 lo:Nat):Int)=0:=eq_of_beq q.1.1;have q2:sIx items.size items.size hi-sIx items.size 0 lo=items.size:=eq_of_beq q.2;exact hw ⟨by lia,by lia⟩
 show wpAny _ _ (if(((sIx items.size 0 lo:Nat):Int)==0&&(1:Int)==1&&(sIx items.size items.size hi-sIx items.size 0 lo)==items.size)=true then _ else _) _ _ s;rw[yY sD,V6]
 first
  |exact zZ (m:=Builtin.Tuple.tupleExact _) (yL (zV ⟨_,rfl,zV h⟩) mF)
  |exact zZ (m:=Builtin.Tuple.tupleExact _) (yL (zZ (zV (zV ⟨_,rfl,zV h⟩))) mF)
  |exact zZ (zZ (m:=Builtin.Tuple.tupleExact _) (yL (zV (zV ⟨_,rfl,zV h⟩)) mF))
  |exact zZ (zZ (m:=Builtin.Tuple.tupleExact _) (yL (zV ⟨_,rfl,zV h⟩) mF))
end
end HT
namespace L2
open PySem PySem.Spec PyProof.Rows
abbrev TO:=St->Hp->(Option Int->Hp->Prop)->Prop
def PO(X:Cx)(e:Option Expr)(t:TO):Prop :=
 ∀(pins:List (Addr×Obj))(s:Shared)(σ:St)(H:Hp)(Q:Option Int->Hp->Prop),Inv X pins σ H s->t σ H Q ->
  wpAny (model X.prog X.w) X.A (evalPart e X.env) (λu s'=>∃o H',Inv X pins σ H' s'/\IsPart u o/\Q o H') X.xe s
def Zy:TO:=λ_ H Q=>Q none H
theorem ag{ns:List Int}:∀{us:List Value},Vals (ns.map V.int) us->IntsAre us ns:=by
 induction ns with
 |nil=>intro us r;rw[List.map_nil]at r;cases r;exact .nil
 |cons n ns ih =>
  intro us r;rw[List.map_cons]at r;cases r with
  |cons r1 r2 =>
   obtain⟨t,e⟩:=r1;subst e;exact .cons n t (ih r2)
section
variable {X:Cx}{e:Expr}{te:TE}{lo hi:Option Expr}{tl th:TO}{pos p2:Pos}
theorem zd:PO X none Zy:=by
 intro pins s σ H Q I h;rw[evalPart_none];exact zV ⟨none,H,I,.none,h⟩
def SlR(X:Cx)(r:V->Option Int->Option Int->Hp->VK->Prop):Prop :=
 ∀(pins:List (Addr×Obj))(s:Shared)(σ:St)(H:Hp)(x:V)(v vl vu:Value)(lo hi:Option Int)(sl:Addr)(Q:VK),Inv X pins σ H s->RelV x v->s.heap.IsSliceOf sl vl vu .none->IsPart vl lo->IsPart vu hi->r x lo hi H Q ->
  ∃T id,typeLookup (.type T) "__getitem__"=pure (some (.builtin id))/\s.TypeIs v T/\wpAny (model X.prog X.w) X.A (getItem v (.ref sl)) (EP X pins σ Q) X.xe s
theorem SlR.or{r r':V->Option Int->Option Int->Hp->VK->Prop}(h:SlR X r)(h':SlR X r'):SlR X (λx lo hi H Q=>r x lo hi H Q\/r' x lo hi H Q):=by
 intro pins s σ H x v vl vu lo hi sl Q I rx hs pl pu q;rcases q with q|q
 ·exact h pins s σ H x v vl vu lo hi sl Q I rx hs pl pu q
 ·exact h' pins s σ H x v vl vu lo hi sl Q I rx hs pl pu q
def tSl(r:V->Option Int->Option Int->Hp->VK->Prop)(te:TE)(tl th:TO):TE:=fun σ H Q=>te σ H λx H1=>tl σ H1 λl H2=>th σ H2 λu H3=>r x l u H3 Q
theorem V5{r:V->Option Int->Option Int->Hp->VK->Prop}(hr:SlR X r)(he:PE X e te)(hl:PO X lo tl)(hu:PO X hi th):PE X (.Subscript e (.Slice lo hi none p2) pos) (tSl r te tl th):=by
 intro pins s σ H Q I h;refine Subscript_ (thn (he pins s σ H _ I h) λv s1 ⟨x,H1,I1,r1,q1⟩=>?_);refine wpAny_Slice (thn (hl pins s1 σ H1 _ I1 q1) λvl s2 ⟨l,H2,I2,pl,q2⟩=>thn (hu pins s2 σ H2 _ I2 q2) λvu s3 ⟨u,H3,I3,pu,q3⟩=>?_);rw[evalPart_none];refine zV ?_;have I4:Inv X pins σ H3 { s3 with heap:=s3.heap.push { cls:=.type "slice",data:=.fields #[vl,vu,.none] } }:=I3.kept (t':=s3.toks) λb ob q=>zY _ q;obtain⟨T,id,hT,ht,hg⟩:=hr pins { s3 with heap:=s3.heap.push { cls:=.type "slice",data:=.fields #[vl,vu,.none] } } σ H3 x v vl vu l u s3.heap.objs.size Q I4 r1 (Heap.IsSliceOf.new ..) pl pu q3;show wpAny (model X.prog X.w) X.A (subscriptTail e (.Slice lo hi none p2) v (.ref s3.heap.objs.size)) (EP X pins σ Q) X.xe { s3 with heap:=s3.heap.push { cls:=.type "slice",data:=.fields #[vl,vu,.none] } };exact tail_any (ops:=[.ref s3.heap.objs.size,v]) ht hT hg (by with_unfolding_all rfl)
def v9(xs:List V)(lo hi:Option Int):List V:=(xs.drop (HT.sIx xs.length 0 lo)).take (HT.sIx xs.length xs.length hi-HT.sIx xs.length 0 lo)
theorem pr(xs:List V)(lo hi:Option Int):(v9 xs lo hi).length<=xs.length:=by
 unfold v9;rw[yE,xH];lia
def Lj(K:W.Frag):V->Option Int->Option Int->Hp->VK->Prop:=λx lo hi H Q=>∃a xs,x = .ref a/\SqT K H a xs /\
 ¬(HT.sIx xs.length 0 lo=0/\HT.sIx xs.length xs.length hi=xs.length)/\∀p,H p=none->Q (.ref p) (upd H p (.tup (v9 xs lo hi)))
theorem Rf:SlR X (Lj X.K):=by
 intro pins s σ H x v vl vu lo hi sl Q I rx hs pl pu h;obtain⟨a,xs,rfl,hx,hw,q⟩:=h;cases rx;obtain⟨aF,r,ht,hz⟩:=I.tuple hx;have aN:aF.toArray.size=xs.length:=by rw[zQ];exact r.length.symm
 refine⟨"tuple",_,xR.lookup,ht.typeIs,?_⟩;refine HT.getItem_tuple_cut ht hs pl pu (by rw[aN];exact hw) ?_ (by rw[aN];exact hz);rw[aN];refine⟨.ref s.heap.objs.size,_,I.laid (t':=s.toks) (o:=.tup (v9 xs lo hi)) (λb ob q=>zY _ q) (zS _) ?_,rfl,q _ (I.hok.fresh (zS _))⟩;exact⟨yW (pr xs lo hi) hz,_,(r.drop (HT.sIx xs.length 0 lo)).take (HT.sIx xs.length xs.length hi-HT.sIx xs.length 0 lo),IsTup.new _ _⟩
def Oc(K:W.Frag):R2:=λx y H Q=>∃a b xs ys,x = .ref a/\y = .ref b/\SqT K H a xs/\SqT K H b ys/\xs≠[]/\xs.length+ys.length<=sizeLine /\
 (ys=[]->Q (.ref a) H)/\(ys≠[]->∀p,H p=none->Q (.ref p) (upd H p (.tup (xs++ys))))
theorem Vals.nil_iff{xs:List V}{us:List Value}(r:Vals xs us):us=[]↔xs=[]:=by
 cases r with
 |nil=>simp
 |cons _ _=>simp
theorem Ti:OpR X (binaryOp .Add) (Oc X.K):=by
 intro pins s σ H x y v u Q I rx ry h;obtain⟨a,b,xs,ys,rfl,rfl,ha,hb,hx,hz,q1,q2⟩:=h;cases rx;cases ry;obtain⟨aF,r1,p1,_⟩:=I.tuple ha;obtain⟨fS,r2,p2,_⟩:=I.tuple hb;refine HT.cat_tup p1 p2 (λz=>hx (r1.nil_iff.mp z)) (λz=>⟨.ref a,H,I,rfl,q1 (r2.nil_iff.mp z)⟩) (λz=>?_) (by rw[<-r1.length,<-r2.length];exact hz);refine⟨.ref s.heap.objs.size,_,I.laid (t':=s.toks) (o:=.tup (xs++ys)) (λb ob q=>zY _ q) (zS _) ?_,rfl,q2 (λw=>z (r2.nil_iff.mpr w)) _ (I.hok.fresh (zS _))⟩;exact⟨by rw[zN];exact hz,_,r1.append r2,IsTup.new _ _⟩
end
end L2
namespace L2
open PySem PySem.Spec PyProof.Rows
def ixN(n:Nat)(i:Int):Option Nat:=if 0<=i then(if i<n then some i.toNat else none)else if -(n:Int)<=i then some (i+n).toNat else none
def atI{α:Type}(xs:List α)(i:Int):Option α:=(ixN xs.length i).bind λj=>xs[j]?
theorem Za{n:Nat}{i:Int}{j:Nat}(h:ixN n i=some j):seqIndex? i n=some j/\j<n/\-(n:Int)<=i/\i<n:=by
 unfold ixN at h
 by_cases h0:0<=i
 ·rw[yS h0]at h
  by_cases h1:i<n
  ·rw[yS h1]at h;have e:i.toNat=j:=zB h;exact⟨by rw[seqIndex_of h0 h1,e],by lia,by lia,h1⟩
  ·rw[yY h1]at h;cases h
 ·rw[yY h0]at h
  by_cases h1:-(n:Int)<=i
  ·rw[yS h1]at h;have e:(i+n).toNat=j:=zB h;exact⟨by rw[seqIndex_neg (by lia) h1,e],by lia,h1,by lia⟩
  ·rw[yY h1]at h;cases h
theorem gn{α:Type}{xs:List α}{i:Int}{v:α}(h:atI xs i=some v):∃j,seqIndex? i xs.length=some j/\xs[j]?=some v/\j<xs.length/\-(xs.length:Int)<=i/\i<xs.length:=by
 unfold atI at h;cases e:ixN xs.length i with
 |none=>rw[e]at h;cases h
 |some j =>
  rw[e]at h;obtain⟨h1,h2,h3,h4⟩:=Za e;exact⟨j,h1,h,h2,h3,h4⟩
theorem w9{α:Type}{xs:List α}{j:Nat}{v:α}(h:xs[j]?=some v):atI xs (j:Int)=some v:=by
 have hj:j<xs.length:=(zU.mp h).1;have e:ixN xs.length (j:Int)=some j:=by
  unfold ixN;rw[yS (by lia),yS (by lia)];simp
 unfold atI;rw[e];exact h
def Yv(b:Expr):Prop:=∀o i,subscripted b false o i=operate [o,i] (getItem o i)
def IxR(X:Cx)(r:R2):Prop :=
 ∀(value slice:Expr)(pins:List (Addr×Obj))(s:Shared)(σ:St)(H:Hp)(x y:V)(v u:Value)(Q:VK),Inv X pins σ H s->RelV x v->RelV y u->r x y H Q ->
  subscripted slice false v u=operate [v,u] (getItem v u)->wpAny (model X.prog X.w) X.A (subscriptTail value slice v u) (EP X pins σ Q) X.xe s
def MtR(X:Cx)(id:String)(r:V->List V->Hp->VK->Prop):Prop :=
 ∀(pins:List (Addr×Obj))(s:Shared)(σ:St)(H:Hp)(x:V)(xs:List V)(v:Value)(us:List Value)(Q:VK),Inv X pins σ H s->RelV x v->Vals xs us->r x xs H Q ->
  wpAny (model X.prog X.w) X.A (call (.builtin id) (v::us)) (EP X pins σ Q) X.xe s
section
variable {X:Cx}{a b:Expr}{ta tb:TE}{pos:Pos}
theorem IxR.or{r r':R2}(h:IxR X r)(h':IxR X r'):IxR X (λx y H Q=>r x y H Q\/r' x y H Q):=by
 intro value slice pins s σ H x y v u Q I rx ry q hs;rcases q with q|q
 ·exact h value slice pins s σ H x y v u Q I rx ry q hs
 ·exact h' value slice pins s σ H x y v u Q I rx ry q hs
theorem Nl{r:R2}(hr:IxR X r)(ha:PE X a ta)(hb:PE X b tb)(hs:Yv b):PE X (.Subscript a b pos) (tOp r ta tb):=by
 intro pins s σ H Q I h;exact Subscript_ (O8 ha hb I h λv u s2 x y H2 I2 rx ry q=>hr a b pins s2 σ H2 x y v u Q I2 rx ry q (hs _ _))
def Od(K:W.Frag):R2:=λx y H Q=>∃p xs i v,x = .ref p/\y = .int i/\SqL K H p xs/\atI xs i=some v/\Q v H
def Of(K:W.Frag):R2:=λx y H Q=>∃p xs i v,x = .ref p/\y = .int i/\SqT K H p xs/\atI xs i=some v/\Q v H
def Oe:R2:=λx y H Q=>∃z i c,x = .str z/\y = .int i/\z.length<=sizeLine/\atI z.cps.toList i=some c/\Q (.str ⟨#[c]⟩) H
theorem ix_list:IxR X (Od X.K):=by
 intro value slice pins s σ H x y v u Q I rx ry h hs;obtain⟨p,xs,i,z,rfl,rfl,hq,he,q⟩:=h;cases rx;obtain⟨t,rfl⟩:=ry;obtain⟨aF,r,pl,hz⟩:=I.list hq;obtain⟨j,h1,h2,h3,h4,h5⟩:=gn he;obtain⟨w,ew,oK⟩:=r.get h2;have hl:=r.length;have hn:=qm;have cB:EP X pins σ Q w s:=⟨z,H,I,oK,q⟩
 by_cases h0:0<=i
 ·have hj:i.toNat=j:=by
   rw[seqIndex_of h0 h5]at h1;exact zB h1
  exact item_listR pl.isList h0 (by lia) (by rw[hj];simpa using ew) cB hs
 ·have hj:(i+(aF.toArray.size:Int)).toNat=j:=by
   rw[seqIndex_neg (by lia) h4]at h1;rw[zQ,<-hl];exact zB h1
  exact subscriptTail_builtinR (x:=w) pl.isList.typeIs slot_list_getitem.lookup
   (wpAny_getItem_list_neg (Q:=λr s'=>r=w/\EP X pins σ Q r s') pl.isList (by lia) (by rw[zQ]<;>lia) (by lia) (by rw[hj];simpa using ew) ⟨rfl,cB⟩) hs
theorem ix_tup:IxR X (Of X.K):=by
 intro value slice pins s σ H x y v u Q I rx ry h hs;obtain⟨p,xs,i,z,rfl,rfl,hq,he,q⟩:=h;cases rx;obtain⟨t,rfl⟩:=ry;obtain⟨aF,r,pl,hz⟩:=I.tuple hq;obtain⟨j,h1,h2,h3,h4,h5⟩:=gn he;obtain⟨w,ew,oK⟩:=r.get h2;have hl:=r.length;have hn:=qm;have cB:EP X pins σ Q w s:=⟨z,H,I,oK,q⟩
 exact subscriptTail_builtinR (x:=w) pl.typeIs slot_tuple_getitem.lookup
  (getItem_tuple (j:=j) (Q:=λr s'=>r=w/\EP X pins σ Q r s') pl (by lia) (by lia) (by rw[zQ,<-hl];exact h1) (by simpa using ew) ⟨rfl,cB⟩) hs
theorem Pm:IxR X Oe:=by
 intro value slice pins s σ H x y v u Q I rx ry h hs;obtain⟨z,i,c,rfl,rfl,hz,he,q⟩:=h;obtain⟨t,rfl⟩:=rx;obtain⟨t',rfl⟩:=ry;obtain⟨j,h1,h2,h3,h4,h5⟩:=gn he;have hl:z.cps.toList.length=z.length:=by simp[Str.length]
 rw[hl]at h1 h4 h5;have hn:=qm;exact tail_any (typeIs_str s z t) slot_str_getitem.lookup (getItem_str (c:=c) (by
  have e1:decide (i < -(2 ^ 63:Int))=false:=yD (by lia);have e2:decide (i≥2 ^ 63)=false:=yD (by lia);rw[e1,e2,Bool.or_false]) (by rw[h1];simpa using h2) ⟨.str ⟨#[c]⟩,H,I.tok _,⟨_,rfl⟩,q⟩) hs
def rIx(K:W.Frag):R2:=λx y H Q=>Od K x y H Q\/Of K x y H Q\/Oe x y H Q
theorem Pl:IxR X (rIx X.K):=ix_list.or (ix_tup.or Pm)
theorem ay(aF:List Value)(n j:Nat)(u:Value):Obj.mapSeq (·.setIfInBounds j u) { cls:=.type "list",data:=.seq aF.toArray n }={ cls:=.type "list",data:=.seq (aF.set j u).toArray n }:=by
 simp[Obj.mapSeq]
theorem Inv.lst{pins:List (Addr×Obj)}{σ:St}{H:Hp}{s:Shared}{p:Addr}{xs:List V}(I:Inv X pins σ H s)(h:H p=some (.lst xs)):
  ∃(aF:List Value)(n:Nat),Vals xs aF/\s.heap.get? p=some { cls:=.type "list",data:=.seq aF.toArray n }/\xs.length<=sizeLine:=by
 obtain⟨z,aF,n,r,e⟩:=I.hok p _ h;exact⟨aF,n,r,e,z⟩
theorem Inv.lstUpd{pins:List (Addr×Obj)}{σ:St}{H:Hp}{s:Shared}{p:Addr}{xs ys:List V}{aF its':List Value}{n n':Nat}{f:Obj->Obj}(I:Inv X pins σ H s)(h:H p=some (.lst xs))
  (ho:s.heap.get? p=some { cls:=.type "list",data:=.seq aF.toArray n }) (hf:f { cls:=.type "list",data:=.seq aF.toArray n }={ cls:=.type "list",data:=.seq its'.toArray n' }) (r:Vals ys its') (hz:ys.length<=sizeLine) (t:Nat) :
  Inv X pins σ (upd H p (.lst ys)) { s with heap:=s.heap.update p f,toks:=t }:=by
 have e:(s.heap.update p f).get? p=some { cls:=.type "list",data:=.seq its'.toArray n' }:=by
  rw[yH f ho (by rw[hf]<;>rfl),hf]
 refine I.write (x:=p) (e:=p) (by rw[h];trivial) (.inl rfl) (λb u hb q=>(zA _ _ (wY hb)).trans q) ⟨_,e⟩ ?_;exact⟨hz,its',n',r,e⟩
def Og:V->V->V->Hp->(Hp->Prop)->Prop:=λo i v H Q=>∃p xs k j,o = .ref p/\i = .int k/\H p=some (.lst xs)/\ixN xs.length k=some j/\Q (upd H p (.lst (xs.set j v)))
theorem Wj:O2 X Og:=by
 intro pins s σ H o i v ov iv u Q I ro ri rv h;obtain⟨p,xs,k,j,rfl,rfl,hp,hj,q⟩:=h;cases ro;obtain⟨t,rfl⟩:=ri;obtain⟨aF,n,r,ho,hz⟩:=I.lst hp;obtain⟨h1,h2,h3,h4⟩:=Za hj;have hl:=r.length;have hn:=qm;have I':Inv X pins σ (upd H p (.lst (xs.set j v))) { s with heap:=s.heap.update p (Obj.mapSeq (·.setIfInBounds j u)) } :=
  I.lstUpd hp ho (ay aF n j u) (r.set rv j) (by rw[List.length_set];exact hz) s.toks
 by_cases h0:0<=k
 ·have hk:k.toNat=j:=by
   rw[seqIndex_of h0 h4]at h1;exact zB h1
  exact W.ki_setAt ho h0 (by lia) (by rw[zQ,<-hl];exact h4) (by rw[hk];exact⟨_,I',q⟩)
 ·have hk:(k+(aF.toArray.size:Int)).toNat=j:=by
   rw[seqIndex_neg (by lia) h3]at h1;rw[zQ,<-hl];exact zB h1
  exact W.ki_setBack ho (by lia) (by rw[zQ,<-hl];exact h3) (by lia) (by rw[hk];exact⟨_,I',q⟩)
theorem i7(lo hi:Option Int)(n:Nat):(sliceBounds lo hi none n).1=((HT.sIx n 0 lo:Nat):Int)/\(sliceBounds lo hi none n).2.1=((HT.sIx n n hi:Nat):Int)/\(sliceBounds lo hi none n).2.2=1:=by
 refine⟨?_,?_,rfl⟩
 ·cases lo with
  |none=>simp[sliceBounds,HT.sIx]
  |some i =>
   simp only[sliceBounds,HT.sIx,Option.getD_none,show(1:Int)>0 by decide,if_true]
   by_cases h:i<0
   ·simp only[h,if_true]<;>lia
   ·simp only[h,if_false]<;>lia
 ·cases hi with
  |none=>simp[sliceBounds,HT.sIx]
  |some i =>
   simp only[sliceBounds,HT.sIx,Option.getD_none,show(1:Int)>0 by decide,if_true]
   by_cases h:i<0
   ·simp only[h,if_true]<;>lia
   ·simp only[h,if_false]<;>lia
theorem lg(aF:List Value)(lo hi:Option Int):slicePick aF.toArray lo hi none=((aF.drop (HT.sIx aF.length 0 lo)).take (HT.sIx aF.length aF.length hi-HT.sIx aF.length 0 lo)).toArray:=by
 obtain⟨h1,h2,h3⟩:=i7 lo hi aF.toArray.size;unfold slicePick;rw[h1,h2,h3];simp only[sliceRange_one,pick_run,zQ]<;>rfl
def Li(K:W.Frag):V->Option Int->Option Int->Hp->VK->Prop:=λx lo hi H Q=>∃a xs,x = .ref a/\SqL K H a xs/\∀p,H p=none->Q (.ref p) (upd H p (.lst (v9 xs lo hi)))
theorem T3:SlR X (Li X.K):=by
 intro pins s σ H x v vl vu lo hi sl Q I rx hs pl pu h;obtain⟨a,xs,rfl,hx,q⟩:=h;cases rx;obtain⟨aF,r,ht,hz⟩:=I.list hx;have aN:=r.length;refine⟨"list",_,slot_list_getitem.lookup,ht.isList.typeIs,?_⟩;refine wpAny_getItem_list_slice ht.isList hs pl pu .none (by simp) ?_ (by rw[zQ]<;>lia);rw[lg,<-aN];refine⟨.ref s.heap.objs.size,_,I.laid (t':=s.toks) (o:=.lst (v9 xs lo hi)) (λb ob q=>zY _ q) (zS _) ?_,rfl,q _ (I.hok.fresh (zS _))⟩;exact⟨yW (pr xs lo hi) hz,_,0,(r.drop (HT.sIx xs.length 0 lo)).take (HT.sIx xs.length xs.length hi-HT.sIx xs.length 0 lo),zR _ rfl⟩
def wc:V->Bool
 | .non=>true
 | .bl _=>true
 | .int _=>true
 | .str _=>true
 |_=>false
def eqV:V->V->Bool
 | .non,.non=>true
 | .bl a,.bl b=>a==b
 | .bl a,.int b=>(if a then 1 else 0)==b
 | .int a,.bl b=>a==(if b then 1 else 0)
 | .int a,.int b=>a==b
 | .str a,.str b=>a==b
 |_,_=>false
theorem Pg{A:Around}{s:Shared}{y x:V}{u v:Value}(ry:RelV y u)(rx:RelV x v)(fy:wc y=true)(fx:wc x=true):SeqAt.EqAt A s u v (eqV y x):=by
 cases y with
 |non =>
  cases ry;cases x with
  |non=>cases rx;exact SeqAt.EqAt.same _
  |bl b=>cases rx;exact SeqAt.EqAt.none_bool b
  |int b=>obtain⟨t,rfl⟩:=rx;exact SeqAt.EqAt.none_int b t
  |str b=>obtain⟨t,rfl⟩:=rx;exact SeqAt.EqAt.none_str b t
  |_=>exact absurd (show false=true from fx) zK
 |bl a =>
  cases ry;cases x with
  |non=>cases rx;exact SeqAt.EqAt.bool_none a
  |bl b=>cases rx;exact vV a b
  |int b=>obtain⟨t,rfl⟩:=rx;exact SeqAt.EqAt.bool_int a b t
  |str b=>obtain⟨t,rfl⟩:=rx;exact SeqAt.EqAt.bool_str a b t
  |_=>exact absurd (show false=true from fx) zK
 |int a =>
  obtain⟨t',rfl⟩:=ry;cases x with
  |non=>cases rx;exact SeqAt.EqAt.int_none a t'
  |bl b=>cases rx;exact SeqAt.EqAt.int_bool a t' b
  |int b=>obtain⟨t,rfl⟩:=rx;exact SeqAt.EqAt.int_int a t' b t
  |str b=>obtain⟨t,rfl⟩:=rx;exact SeqAt.EqAt.int_str a t' b t
  |_=>exact absurd (show false=true from fx) zK
 |str a =>
  obtain⟨t',rfl⟩:=ry;cases x with
  |non=>cases rx;exact SeqAt.EqAt.str_none a t'
  |bl b=>cases rx;exact SeqAt.EqAt.str_bool a t' b
  |int b=>obtain⟨t,rfl⟩:=rx;exact SeqAt.EqAt.str_int a t' b t
  |str b=>obtain⟨t,rfl⟩:=rx;exact SeqAt.EqAt.str_str a t' b t
  |_=>exact absurd (show false=true from fx) zK
 |_=>exact absurd (show false=true from fy) zK
def eqU(x:V)(u:Value):Bool:=match u with
 | .none=>eqV .non x
 | .bool b=>eqV (.bl b) x
 | .int i _=>eqV (.int i) x
 | .str z _=>eqV (.str z) x
 |_=>false
theorem Uq{x y:V}{u:Value}(r:RelV y u)(f:wc y=true):eqU x u=eqV y x:=by
 cases y with
 |non=>cases r;rfl
 |bl b=>cases r;rfl
 |int i=>obtain⟨t,rfl⟩:=r;rfl
 |str z=>obtain⟨t,rfl⟩:=r;rfl
 |_=>exact absurd (show false=true from f) zK
theorem gm{x:V}:∀{xs:List V}{us:List Value},Vals xs us->xs.all wc=true->us.any (eqU x)=xs.any λy=>eqV y x
 |_,_,.nil,_=>rfl
 |y::xs,u::us,.cons r t,f=>by
  rw[List.all_cons,yQ]at f;rw[sZ,sZ,Uq r f.1,gm t f.2]
theorem mj{A:Around}{s:Shared}{x:V}{v:Value}(rx:RelV x v)(fx:wc x=true):∀{xs:List V}{us:List Value},Vals xs us->xs.all wc=true->∀u∈us,SeqAt.EqAt A s u v (eqU x u)
 |_,_,.nil,_=>λu hu=>by cases hu
 |y::xs,u::us,.cons r t,f=>λu' hu=>by
  rw[List.all_cons,yQ]at f;rcases zG.mp hu with rfl|hu
  ·rw[Uq r f.1];exact Pg r rx f.1 fx
  ·exact mj rx fx t f.2 u' hu
def inV(x:V)(xs:List V):Bool:=xs.any λy=>eqV y x
def rIn(K:W.Frag)(neg:Bool):R2:=λx y H Q=>∃p xs,y = .ref p/\(SqL K H p xs\/SqT K H p xs)/\wc x=true/\xs.all wc=true/\Q (.bl (if neg then !inV x xs else inV x xs)) H
theorem Yb:OpR X (compareOp .In) (rIn X.K false):=by
 intro pins s σ H x y v u Q I rx ry h;obtain⟨p,xs,rfl,hq,fx,fs,q⟩:=h;cases ry;rcases hq with hq|hq
 ·obtain⟨aF,r,pl,hz⟩:=I.list hq;refine SeqAt.in_listAt (eqU x) pl.isList (λw hw=>mj rx fx r fs w (by simpa using hw)) ⟨.bl _,H,I,rfl,?_⟩;rw[show aF.toArray.any (eqU x)=aF.any (eqU x)by simp,gm r fs];exact q
 ·obtain⟨aF,r,pl,hz⟩:=I.tuple hq;refine SeqAt.in_tupleAt (eqU x) pl (λw hw=>mj rx fx r fs w (by simpa using hw)) ⟨.bl _,H,I,rfl,?_⟩;rw[show aF.toArray.any (eqU x)=aF.any (eqU x)by simp,gm r fs];exact q
theorem gr:xi X (.builtin "len") (λxs H Q=>∃p ys,xs=[.ref p]/\(SqL X.K H p ys\/SqT X.K H p ys)/\Q (.int ys.length) H):=by
 intro pins s σ H xs us Q I r h;obtain⟨p,ys,rfl,hq,q⟩:=h;obtain⟨u,rfl,rx⟩:=v3 r;cases rx;have hn:=qm;rcases hq with hq|hq
 ·obtain⟨aF,r',pl,hz⟩:=I.list hq;have aN:=r'.length;exact Calls.call_len_list pl.isList (by simp only[zQ]<;>lia) ⟨.int ys.length,H,I.tok _,⟨s.toks+1,by rw[zQ,aN]⟩,q⟩
 ·obtain⟨aF,r',pl,hz⟩:=I.tuple hq;have aN:=r'.length;exact len_tuple pl (by simp only[zQ]<;>lia) ⟨.int ys.length,H,I.tok _,⟨s.toks+1,by rw[zQ,aN]⟩,q⟩
theorem gu:xi X (.builtin "len") (λxs H Q=>∃z,xs=[.str z]/\z.length<=sizeLine/\Q (.int z.length) H):=by
 intro pins s σ H xs us Q I r h;obtain⟨z,rfl,hz,q⟩:=h;obtain⟨u,rfl,t,rfl⟩:=v3 r;have hn:=qm;exact len_str (by lia) ⟨.int z.length,H,I.tok _,⟨_,rfl⟩,q⟩
theorem gw:xi X (.type "list") (λxs H Q=>∃p ys,xs=[.ref p]/\(SqL X.K H p ys\/SqT X.K H p ys)/\∀l,H l=none->Q (.ref l) (upd H l (.lst ys))):=by
 intro pins s σ H xs us Q I r h;obtain⟨p,ys,rfl,hq,q⟩:=h;obtain⟨u,rfl,rx⟩:=v3 r;cases rx;have cB:∀(aF:List Value),Vals ys aF->ys.length<=sizeLine->∀(h':Heap)(c':Nat),(∀b o',s.heap.get? b=some o'->h'.get? b=some o') ->
   h'.get? s.heap.objs.size=some { cls:=.type "list",dict:=none,data:=.seq aF.toArray c',slots:=#[] }->EP X pins σ Q (.ref s.heap.objs.size) { s with heap:=h' }:=λaF r' hz h' c' kp e =>
  ⟨.ref s.heap.objs.size,_,I.laid (t':=s.toks) kp (zS _) (show ObjOk X.prog X.w _ h' _ (.lst ys)from⟨hz,aF,c',r',e⟩),rfl,q _ (I.hok.fresh (zS _))⟩
 rcases hq with hq|hq
 ·obtain⟨aF,r',pl,hz⟩:=I.list hq;have aN:=r'.length;obtain⟨o,ho,hc,n,hd⟩:=pl.isList;exact call_list_seq p (.inl rfl) ho hc hd (λh' c' kp e=>cB aF r' hz h' c' kp e) (by simp only[zQ]<;>lia)
 ·obtain⟨aF,r',pl,hz⟩:=I.tuple hq;have aN:=r'.length;obtain⟨o,ho,hc,n,hd⟩:=pl;exact call_list_seq p (.inr rfl) ho hc hd (λh' c' kp e=>cB aF r' hz h' c' kp e) (by simp only[zQ]<;>lia)
theorem ug:xi X (.type "tuple") (λxs H Q=>∃p ys,xs=[.ref p]/\((SqL X.K H p ys/\∀l,H l=none->Q (.ref l) (upd H l (.tup ys)))\/(SqT X.K H p ys/\Q (.ref p) H))):=by
 intro pins s σ H xs us Q I r h;obtain⟨p,ys,rfl,h⟩:=h;obtain⟨u,rfl,rx⟩:=v3 r;cases rx;rcases h with⟨hq,q⟩|⟨hq,q⟩
 ·obtain⟨aF,r',pl,hz⟩:=I.list hq;have aN:=r'.length;refine call_tuple_list pl.isList (λh' kp=>?_) (by simp only[zQ]<;>lia);have I1:Inv X pins σ H { s with heap:=h' }:=I.kept (t':=s.toks) kp;have I2:Inv X pins σ (upd H h'.objs.size (.tup ys)) { s with heap:=h'.push { cls:=.type "tuple",data:=.seq aF.toArray } } :=
   I1.laid (t':=s.toks) (λb o e=>zY _ e) (zS _) (show ObjOk X.prog X.w _ _ _ (.tup ys)from⟨hz,aF,r',IsTup.new _ _⟩)
  exact⟨.ref h'.objs.size,_,I2,rfl,q _ (I1.hok.fresh (zS _))⟩
 ·obtain⟨aF,r',pl,hz⟩:=I.tuple hq;exact call_tuple_same pl ⟨.ref p,H,I,rfl,q⟩
def tyV(K:W.Frag)(T:String)(x:V)(H:Hp):Prop:=match x with
 | .str _=>T="str"
 | .int _=>T="int"
 | .ref p=>(T="list"/\∃xs,SqL K H p xs)\/(T="tuple"/\∃o,K.lookup p=some o/\o.cls = .type "tuple"/\o.dict=none) \/
   (T="dict"/\((∃kvs,H p=some (.dK kvs))\/∃kvs,H p=some (.dT kvs)))\/(T="set"/\∃S n,H p=some (.set S n))
 |_=>False
theorem Rl{pins:List (Addr×Obj)}{σ:St}{H:Hp}{s:Shared}{T:String}{x:V}{v:Value}(I:Inv X pins σ H s)(r:RelV x v)(ty:tyV X.K T x H):
  s.TypeIs v T/\∀a,v = .ref a->∃ob,s.heap.get? a=some ob/\ob.dict=none:=by
 cases x with
 |str z =>
  obtain⟨t,rfl⟩:=r;cases(show T="str" from ty);exact⟨typeIs_str s z t,λ_ e=>nomatch e⟩
 |int i =>
  obtain⟨t,rfl⟩:=r;cases(show T="int" from ty);exact⟨typeIs_int s i t,λ_ e=>nomatch e⟩
 |ref p =>
  cases r;rcases ty with⟨rfl,xs,hq⟩|⟨rfl,o,hk,hc,hd⟩|⟨rfl,hk⟩|⟨rfl,S,n,hk⟩
  ·obtain⟨aF,_,pl,_⟩:=I.list hq;refine⟨pl.isList.typeIs,λa e=>?_⟩;cases e;obtain⟨o,n,e,c,hd,_⟩:=pl;exact⟨o,e,hd⟩
  ·refine⟨⟨o,I.kIn p o hk,hc⟩,λa e=>?_⟩;cases e;exact⟨o,I.kIn _ o hk,hd⟩
  ·have z:∃o,s.heap.get? p=some o/\o.ExactDict:=by
    rcases hk with⟨kvs,hk⟩|⟨kvs,hk⟩
    ·obtain⟨_,_,_,_,o,_,_,e,ex,_⟩:=I.hok p _ hk;exact⟨o,e,ex⟩
    ·obtain⟨_,_,_,_,o,_,_,e,ex,_⟩:=I.hok p _ hk;exact⟨o,e,ex⟩
   obtain⟨o,e,ex⟩:=z;refine⟨⟨o,e,ex.1⟩,λa e2=>?_⟩;cases e2;exact⟨o,e,ex.2.1⟩
  ·obtain⟨o,_,_,_,e,ex,_⟩:=I.hok p _ hk;refine⟨⟨o,e,ex.1⟩,λa e2=>?_⟩;cases e2;exact⟨o,e,ex.2.1⟩
 |_=>exact False.elim ty
variable {o e:Expr}{es:List Expr}{to:TE}{t:TA}{name:Str}{apos cpos:Pos}{T id:String}{r:V->List V->Hp->VK->Prop}
end
end L2
namespace L2
open PySem PySem.Spec PyProof.Rows
def MtM(X:Cx)(id:String)(r:V->List V->Hp->VK->Prop):Prop :=
 ∀(pins:List (Addr×Obj))(s:Shared)(σ:St)(H:Hp)(x:V)(xs:List V)(v:Value)(us:List Value)(Q:VK),Inv X pins σ H s->RelV x v->Vals xs us->r x xs H Q ->
  wpAny (model X.prog X.w) X.A (call (.builtin id) (v::us)) (EP X pins σ Q) X.xe s
theorem Vals.one:∀{x:V}{us:List Value},Vals [x] us->∃u,us=[u]/\RelV x u
 |_,_,.cons r .nil=>⟨_,rfl,r⟩
theorem Vals.rep{xs:List V}{us:List Value}(h:Vals xs us):∀k:Nat,Vals (List.replicate k xs).flatten (List.replicate k us).flatten
 |0=>.nil
 |k+1=>by
  rw[vP,vP,wM,wM];exact Vals.append h (Vals.rep h k)
theorem jq(aF:List Value):∀(k:Nat)(aO:List Value),
  List.foldl (λx1 x2=>x1++x2) aO.toArray (List.replicate k aF.toArray)=(aO++(List.replicate k aF).flatten).toArray
 |0,aO=>by simp
 |k+1,aO=>by
  have e:aO.toArray++aF.toArray=(aO++aF).toArray:=by simp
  have e2:(aO++aF)++(List.replicate k aF).flatten=aO++(List.replicate (k+1) aF).flatten:=by
   rw[vP,wM,xN]
  rw[<-e2,<-jq aF k (aO++aF),<-e,vP,List.foldl_cons]
section
variable {X:Cx}{pins:List (Addr×Obj)}{σ:St}{H:Hp}{s:Shared}{l b:Addr}{xs ys zs:List V}
theorem Inv.lset{aF its':List Value}{n:Nat}{f:Array Value->Array Value}{t':Nat}(I:Inv X pins σ H s)(hH:H l=some (.lst xs))
  (e:s.heap.get? l=some { cls:=.type "list",data:=.seq aF.toArray n }) (hf:f aF.toArray=its'.toArray) (hv:Vals ys its') (hz:ys.length<=sizeLine) :
  Inv X pins σ (upd H l (.lst ys)) { s with heap:=s.heap.update l (Obj.mapSeq f),toks:=t' }:=by
 have q:=PySem.IsL.update e f;rw[hf]at q;refine I.write (x:=l) (e:=l) (by rw[hH];exact trivial) (.inl rfl) (λb' u hb hu=>(zA s.heap (Obj.mapSeq f) (wY hb)).trans hu) ⟨_,q⟩ ?_;exact⟨hz,its',_,hv,q⟩
theorem Inv.lnew{aF:List Value}{t':Nat}(I:Inv X pins σ H s)(hv:Vals ys aF)(hz:ys.length<=sizeLine):
  Inv X pins σ (upd H s.heap.objs.size (.lst ys)) { s with heap:=s.heap.push { cls:=.type "list",data:=.seq aF.toArray },toks:=t' } :=
 I.laid (λ_ _ q=>zY _ q) (zS _) ⟨hz,aF,0,hv,zR _ rfl⟩
theorem Inv.fresh(I:Inv X pins σ H s):H s.heap.objs.size=none:=I.hok.fresh (zS _)
theorem Inv.lstM(I:Inv X pins σ H s)(hH:H l=some (.lst xs)):xs.length<=sizeLine/\∃(aF:List Value)(n:Nat),Vals xs aF/\xs.length=aF.length/\s.heap.get? l=some { cls:=.type "list",data:=.seq aF.toArray n }:=by
 obtain⟨z,aF,n,r,e⟩:=I.hok l _ hH;exact⟨z,aF,n,r,r.length,e⟩
theorem et{n:Nat}(h:n<=sizeLine):Builtin.List.listTooLong n=false:=by
 unfold Builtin.List.listTooLong;exact yD (by lia)
end
section
variable {X:Cx}
def Ts:V->List V->Hp->VK->Prop:=λx vs H Q=>∃l xs y,x = .ref l/\vs=[y]/\H l=some (.lst xs)/\xs.length<sizeLine/\Q .non (upd H l (.lst (xs++[y])))
theorem qu:MtM X "list.append" Ts:=by
 intro pins s σ H x vs v us Q I rx rv h;obtain⟨l,xs,y,rfl,rfl,hH,hz,q⟩:=h;cases rx;obtain⟨u,rfl,ru⟩:=rv.one;obtain⟨z,aF,n,r,hl,e⟩:=I.lstM hH;refine tD F.slot_list_append ⟨_,e,rfl⟩ F.entry_list_append (F.args_list_append_2 _ _) (PySem.list_append l aF.toArray n u (by rw[zQ];lia)) ⟨e,?_⟩;refine⟨.non,_,I.lset (its':=aF++[u]) hH e (by simp) (r.append (.cons ru .nil)) ?_,rfl,q⟩;rw[zN,xB];lia
def Tt:V->List V->Hp->VK->Prop:=λx vs H Q=>∃l b xs zs,x = .ref l/\vs=[.ref b]/\H l=some (.lst xs)/\H b=some (.lst zs)/\xs.length+zs.length<=sizeLine/\Q .non (upd H l (.lst (xs++zs)))
theorem X0:MtM X "list.extend" Tt:=by
 intro pins s σ H x vs v us Q I rx rv h;obtain⟨l,b,xs,zs,rfl,rfl,hH,hB,hz,q⟩:=h;cases rx;obtain⟨u,rfl,ru⟩:=rv.one;cases ru;obtain⟨z,aF,n,r,hl,e⟩:=I.lstM hH;obtain⟨z2,fS,n2,r2,kW,e2⟩:=I.lstM hB;have hsz:aF.toArray.size+fS.toArray.size<=sizeLine:=by rw[zQ,zQ];lia
 have HE:¬(!aF.toArray.isEmpty&&Builtin.List.listTooLong (aF.toArray.size+fS.toArray.size))=true:=by
  rw[et hsz,tJ];exact zK
 refine tD F.slot_list_extend ⟨_,e,rfl⟩ F.entry_list_extend (F.args_list_extend_2 _ _)
  (AutoSeq1.list_extend_list_list_0 l aF.toArray n b fS.toArray n2 HE (by rw[zQ];lia) (by lia)) ⟨e,e2,?_⟩
 refine⟨.non,_,I.lset (its':=aF++fS) hH e (by simp) (r.append r2) ?_,rfl,q⟩;rw[zN];lia
def Lh:R2:=λx y H Q=>∃l b xs zs,x = .ref l/\y = .ref b/\H l=some (.lst xs)/\H b=some (.lst zs)/\xs.length+zs.length<=sizeLine/\∀p,H p=none->Q (.ref p) (upd H p (.lst (xs++zs)))
theorem Qf:OpR X (binaryOp .Add) Lh:=by
 intro pins s σ H x y v u Q I rx ry h;obtain⟨l,b,xs,zs,rfl,rfl,hH,hB,hz,q⟩:=h;cases rx;cases ry;obtain⟨z,aF,n,r,hl,e⟩:=I.lstM hH;obtain⟨z2,fS,n2,r2,kW,e2⟩:=I.lstM hB;refine PySem.P.add_list e e2 ?_ (by rw[zQ,zQ];lia);have ea:aF.toArray++fS.toArray=(aF++fS).toArray:=by simp
 rw[ea];exact⟨.ref _,_,I.lnew (t':=s.toks) (r.append r2) (by rw[zN];lia),rfl,q _ I.fresh⟩
theorem oq{α:Type}(xs:List α)(k:Nat):(List.replicate k xs).flatten.length=k*xs.length:=by
 induction k with
 |zero=>simp
 |succ k ih=>rw[vP,wM,zN,ih,Nat.succ_mul,Nat.add_comm]
end
section
variable {prog:Program}{w:World}{A:Around}{E:Value->Shared->Prop}{s:Shared}
end
section
variable {X:Cx}
end
end L2
namespace Att
open PySem PySem.W PySem.Calls PyProof.Rows
theorem o9{P:Params}{h:Heap}:∀(ns:List Int)(vs:List Value),WellAll P h vs (ns.map WData.int)->IntsAre vs ns:=by
 intro ns
 induction ns with
 |nil =>
  intro vs w;rw[List.map_nil]at w;cases w;exact .nil
 |cons n ns ih =>
  intro vs w;rw[List.map_cons]at w;cases w with
  |cons a b =>
   cases a;exact .cons _ _ (ih _ b)
theorem Yi{l:OpenLaw}{n:Nat}(hn:l.most=some n){P:Params}{h:Heap}{args:List WData}{AD:List Value}
  (qJ:l.row.toRowW.claim.pre args=true) (hwl:WellAll P h AD args) :
  ∃a vs ns,AD=[Value.ref a]/\args=[WData.list (ns.map WData.int)]/\h.get? a=some { cls:=.type "list",data:=.seq vs.toArray }/\IntsAre vs ns/\ns.length<=n:=by
 have Ht:WShape.hasAll [] args [.list .int]=true:=(pre_splitW qJ).1;have hc:l.pre.holds [] { args:=args }=true:=(pre_splitW qJ).2;obtain⟨d,r,rfl,h1,h2⟩:=hasAllW_cons Ht;obtain rfl:=hasAllW_nil h2;obtain⟨xs,rfl,h3⟩:=hasW_list h1;obtain⟨ns,rfl⟩:=items_int h3;have aN:ns.length<=n:=by
  unfold OpenLaw.pre at hc;have h4:(WTm.not (.lt (.lit (.int (n:Int))) (.len (.arg 0)))).holds [] { args:=[.list (ns.map .int)] }=true:=by
   have h4:=(holds_andW hc).1;rw[hn]at h4;exact h4
  have h5:=condW_of h4 (w_not (w_lt w_lit (w_len_list (w_arg rfl))));rw[zX]at h5;refine Nat.le_of_not_lt λq=>?_;have q':(n:Int)<((ns.length:Nat):Int):=by lia
  first
   |(rw[yU q']at h5;exact absurd h5 (by decide))
   |(simp at h5;lia)
 cases hwl with
 |cons w1 w2 =>
  cases w2;cases w1 with
  |list ho dR=>exact⟨_,_,ns,rfl,rfl,ho,o9 ns _ dR,aN⟩
theorem Ye(l:OpenLaw)(args:List WData):l.row.toRowW.claim.post args (.bool true) args=true :=
 postW_of (r:=l.row.toRowW) (X:=(true==true))
  (show WShape.has [] (.bool true) .bool=true by first|rfl|decide|simp[WShape.has,WShape.arms,WShape.armsAll])
  (show(WTm.eq .res (.lit (.bool true))).value [] { args:=args,res:=some (.bool true),after:=args }=some (.bool (true==true))from w_eq_bool (w_res rfl) w_lit) rfl
theorem attach_call{l:OpenLaw}{n:Nat}{q:Program}{iQ:List Str}{XP:(Str->Option Value)->Heap->Prop}{YP:World->Heap->Prop}{d:DefRec}
  (hn:l.most=some n) (HW:d.params.defaults=[])
  (call:∀(w:World)(s₀ s₁:Shared)(mg mb:Str->Option Value)(fa:Addr)(o:Obj)(pm cd doc:Value)(a:Addr)(vs:List Value)(ns:List Int),
   Ground q iQ [] XP w s₀ mg mb s₁.heap->YP w s₁.heap ->
   s₁.heap.get? fa=some o->o.data = .func (docDef d.name d.params d.body d.scope pm cd doc)->s₁.heap.CodeRec cd d.name->mg d.name=some (.ref fa) ->
   s₁.heap.get? a=some { cls:=.type "list",data:=.seq vs.toArray }->IntsAre vs ns->ns.length<=n->s₁.gens=#[] ->
   codeAny (model l.prog w) callerA (.call (.ref fa) ⟨[.ref a],[]⟩) (λr s'=>r = .ok (.ret (.bool true))/\OldK s₁.heap s'.heap/\s'.os=s₁.os/\AllBare s'.gens) s₁) :
  WalkO q iQ XP YP l.row.toRowW d [] (λf vs=>PySem.call f vs):=by
 intro w s₀ s₁ mg mb G Y fa o pm cd doc dV kV ho hd kO hD HC hg args AD as qJ Bf hrd hwl hlo;obtain rfl:dV = .none:=Dflts.none hD HW;obtain rfl:kV = .none:=Dflts.noKw hD;obtain⟨a,vs,ns,rfl,rfl,Ba,oV,aN⟩:=Yi hn qJ hwl;refine enter_call (vD (call w s₀ s₁ mg mb fa o pm cd doc a vs ns G Y ho (fd_plain hd) kO HC Ba oV aN hg) λr s' hq=>?_);obtain⟨rfl,h2,h3,h4⟩:=hq;exact⟨.inl ⟨.bool true,.bool true,[],rfl,λ_=>rfl,.bool true,Ye l _,λ_=>⟨List.Pairwise.nil,λ_ hm=>(nomatch hm)⟩⟩,h2,h3,h4⟩
section
variable {prog:Program}{w:World}{A:Around}{E:Value->Shared->Prop}{s:Shared}{K:Frag}
def K3(h:Heap)(L d:Addr):List (Addr×Obj):=(List.range h.objs.size).filterMap λa=>if a=L\/a=d then none else(h.get? a).map λo=>(a,o)
end
end Att
namespace L2
open PySem PySem.Spec PyProof.Rows
theorem kq:∀{vs:List Value}{ns:List Int},IntsAre vs ns->Vals (ns.map V.int) vs
 |_,_,.nil=>.nil
 |_,_,.cons n t h=>.cons ⟨t,rfl⟩ (kq h)
def O1(H:Hp):Prop:=∀b,H b=none\/∃o xs,H b=some (.frz o (.lst xs))
theorem U7{P:Program}{w:World}{K:W.Frag}{mg mb:Str->Option Value}{CX:CXT}{k:Nat}{fa a:Addr}{fd:FuncData}{x:Str}{sp:Sp}{s₁:Shared}{vs:List Value}{ns:List Int}
  (KX:K.In s₁.heap) (nR:s₁.heap.Ns mainGlobals mg) (hb:s₁.heap.Ns builtinsNs mb) (Ib:∀x:Str,x≠"__name__"->mb x=bootBuiltins x) (hlim:s₁.heap.NoLimit) (hg:s₁.gens=#[])
  (ha:s₁.heap.get? a=some { cls:=.type "list",data:=.seq vs.toArray }) (hi:IntsAre vs ns) (hl:ns.length<=sizeLine) (hr:Room k callerA)
  (F:∀base:Heap,K.In base->base.Ns mainGlobals mg->ul P w K mg base CX k fa fd [x] sp) (Ia:∀(s:Shared)(u:Value),BindsTo s fd ⟨[u],[]⟩ [(x,u)])
  (pW:∀H:Hp,O1 H->SqL K H a (ns.map V.int)->sp [.ref a] H (λv _=>v = .bl true) λ_ _ _=>False)
  (hCX:∀H e s',CX [] H s₁ (λ_ _ _=>False) e s'->False) :
  codeAny (model P w) callerA (.call (.ref fa) ⟨[.ref a],[]⟩) (λr s'=>r = .ok (.ret (.bool true))/\OldK s₁.heap s'.heap/\s'.os=s₁.os/\AllBare s'.gens) s₁:=by
 have rv:=kq hi;have lenV:=hi.length;have JD:∀H:Hp,O1 H->SqL K H a (ns.map V.int)->HOk P w H s₁.heap->(∀b,H b≠none->b=a)->(H a≠none->K.lookup a=none) ->
   codeAny (model P w) callerA (.call (.ref fa) ⟨[.ref a],[]⟩) (λr s'=>r = .ok (.ret (.bool true))/\OldK s₁.heap s'.heap/\s'.os=s₁.os/\AllBare s'.gens) s₁:=by
  intro H hO hS hok hA hK;have mP:∀{b:Addr}{o:Obj},s₁.heap.get? b=some o->H b=none->(g9 s₁.heap H).get? b=some o:=λe n=>Uv e n;have Fd:∀{b:Addr}{o:Obj}{es:Array DictEntry}{ep:Nat},s₁.heap.get? b=some o->o.data = .dict es ep->H b=none:=λ{b o es ep} e d=>by
   cases q:H b with
   |none=>rfl
   |some u =>
    have e':b=a:=hA b (by rw[q];simp);subst e';rw[ha]at e;cases e;have d':Data.seq vs.toArray _=Data.dict es ep:=d;cases d'
  have nsK:∀{b:Addr}{m:Str->Option Value},s₁.heap.Ns b m->(g9 s₁.heap H).Ns b m:=λ{b m} ⟨o,es,ep,e,d,r⟩=>⟨o,es,ep,mP e (Fd e d),d,r⟩
  have hKb:K.In (g9 s₁.heap H):=λb o e=>mP (KX b o e) (by
   cases q:H b with
   |none=>rfl
   |some u =>
    have e':b=a:=hA b (by rw[q];simp);subst e';rw[hK (by rw[q];simp)]at e;cases e)
  have hM:Mod K mg (g9 s₁.heap H):=⟨hKb,nsK nR,⟨mb,nsK hb,Ib⟩,let⟨mc,h1,h2⟩:=hlim;⟨mc,nsK h1,h2⟩⟩
  have e0:Env0 P w K mg (g9 s₁.heap H) callerA [] s₁ H:=⟨rfl,hM,λb o e=>S3 e,uK (Xl _ _),trivial,λb hb=>absurd (show b∈([]:List Addr)from hb) (by simp),hok,.of_eq hg⟩
  refine vD ((F _ hKb (nsK nR)).run callerA [] s₁ H ⟨[.ref a],[]⟩ [.ref a] [.ref a] _ _ hr e0 (Ia s₁ (.ref a)) (.cons rfl .nil) (pW H hO hS)) λr s' h=>?_;cases r with
  |error e=>exact(hCX H e s' h).elim
  |ok fl =>
   cases fl with
   |next=>exact False.elim h
   |brk=>exact False.elim h
   |cont=>exact False.elim h
   |ret u =>
    obtain⟨v,H',os,bare,un,hok',r',q⟩:=h;have q':v = .bl true:=q;subst q';obtain rfl:u=Value.bool true:=r';refine⟨rfl,OldK.of_keep λb o e=>?_,os,bare⟩;cases q:H b with
    |none=>exact un.keep b o e q (by intro z;exact absurd (show b∈([]:List Addr)from z) (by simp)) (by simp)
    |some u =>
     rcases hO b with z|⟨ob,xs,z⟩
     ·rw[q]at z;cases z
     ·have z2:=un.frzs b ob _ z;obtain⟨e1,_⟩:=hok b _ z;obtain⟨e2,_⟩:=hok' b _ z2;rw[e]at e1;cases e1;exact e2
 cases hk:K.lookup a with
 |some o =>
  have e:=KX a o hk;rw[ha]at e;cases e;refine JD (λ_=>none) (λ_=>.inl rfl) (.inr ⟨_,vs.toArray,_,hk,rfl,rfl,rfl,by rw[zQ,lenV];exact hl,by simpa using rv⟩) (λb u z=>by have z':(none:Option HO)=some u:=z;cases z') (λb z=>absurd rfl z) λz=>absurd rfl z
 |none =>
  refine JD (λb=>if b=a then some (.frz { cls:=.type "list",data:=.seq vs.toArray } (.lst (ns.map V.int)))else none) (λb=>?_) (.inl (.inr ⟨{ cls:=.type "list",data:=.seq vs.toArray },yS rfl⟩)) (λb u z=>?_) (λb z=>?_) λ_=>hk
  ·by_cases hb:b=a
   ·exact .inr ⟨_,_,yS hb⟩
   ·exact .inl (yY hb)
  ·by_cases hb:b=a
   ·have z':=(yS hb).symm.trans z;cases z';subst hb;exact⟨ha,by rw[zX];exact hl,vs,_,rv,ha⟩
   ·have z':=(yY hb).symm.trans z;cases z'
  ·by_cases hb:b=a
   ·exact hb
   ·exact absurd (yY hb) z
end L2
namespace L2
open PySem PySem.Spec PyProof.Rows
theorem walk_of{l:W.OpenLaw}{n k:Nat}{q:Program}{iQ:List Str}{XP:(Str->Option Value)->Heap->Prop}{YP:World->Heap->Prop}{d:DefRec}{K:Params->W.Frag}{CX:World->CXT}{sp:World->Sp}{x:Str}
  (hn:l.most=some n) (hn2:n<=sizeLine) (HW:d.params.defaults=[]) (hr:Room k callerA)
  (hY:∀(w:World)(h:Heap),YP w h->(K w.params).In h)
  (F:∀(w:World)(mg:Str->Option Value)(fa:Addr)(h:Heap),(K w.params).In h->h.Ns mainGlobals mg->mg d.name=some (.ref fa) ->
   ∃fd:FuncData,(∀(s:Shared)(u:Value),BindsTo s fd ⟨[u],[]⟩ [(x,u)]) /\
    ∀base:Heap,(K w.params).In base->base.Ns mainGlobals mg->ul l.prog w (K w.params) mg base (CX w) k fa fd [x] (sp w))
  (pW:∀(w:World)(H:Hp)(a:Addr)(ns:List Int),ns.length<=n->O1 H->SqL (K w.params) H a (ns.map V.int)->sp w [.ref a] H (λv _=>v = .bl true) λ_ _ _=>False)
  (hCX:∀(w:World)(H:Hp)(s:Shared)(e:Value)(s':Shared),CX w [] H s (λ_ _ _=>False) e s'->False) :
  W.WalkO q iQ XP YP l.row.toRowW d [] (λf vs=>PySem.call f vs):=by
 refine Att.attach_call hn HW λw s₀ s₁ mg mb fa o pm cd doc a vs ns G Y ho hd kO HC Ba oV aN hg=>?_;have KX:=hY w _ Y;obtain⟨fd,hb,hF⟩:=F w mg fa _ KX G.T.g HC;exact U7 KX G.T.g G.T.b G.T.builtins G.T.nolimit hg Ba oV (yW aN hn2) hr hF hb (λH hO hS=>pW w H a ns aN hO hS) λH e s'=>hCX w H s₁ e s'
end L2
namespace L2
open PySem PySem.Spec PyProof.Rows
def zk(s:Stmt):Arguments:=match s with
 | .FunctionDef _ a _ _ _ _ _ _ _ _=>a
 |_=>{ posonlyargs:=[],args:=[],vararg:=none,kwonlyargs:=[],kw_defaults:=[],kwarg:=none,defaults:=[] }
def zq(s:Stmt):List Stmt:=match s with
 | .FunctionDef _ _ b _ _ _ _ _ _ _=>b
 |_=>[]
def z0(s:Stmt):Scope:=match s with
 | .FunctionDef _ _ _ _ _ _ sc _ _ _=>sc
 |_=>{ kind:=.function,names:=[],isGenerator:=false,isCoroutine:=false }
abbrev CX0:CXT:=λ_ _ _ _ _ _=>False
abbrev E0:XK:=λ_ _ _=>False
theorem Nk{X:Cx}:qg CX0 X E0:=λ_ _ _ _ _ _ _ h=>h.elim
structure Fun(K:W.Frag)(x qual:Str)(st:Stmt)(f:Addr)(fd:FuncData):Prop where
 ex:∃(oc:Value)(od:Option Addr)(kV doc pm:Value)(an:Option Addr)(cdv ct:Value)(osl:Array (Option Value)),
  fd=W.fnOf x qual (zk st) (zq st) (z0 st) .none kV doc pm an cdv ct/\K.lookup f=some ⟨oc,od,.func fd,osl⟩/\W.codeIn K cdv qual=true
 kp:W.keepIn K (.ref f)=true
section
variable {P:Program}{w:World}{K:W.Frag}{mg:Str->Option Value}{base:Heap}
theorem Fun.ok{x qual:Str}{st:Stmt}{f:Addr}{fd:FuncData}{N ps:List Str}{k:Nat}{sp:Sp}(F:Fun K x qual st f fd)(S:zj N ps (z0 st))(len:∀vs H Q E,sp vs H Q E->vs.length=ps.length)
  (cF:∀(cdv:Value)(A:Around)(outer:List Env)(s:Shared)(H:Hp)(vs:List V)(Q:VK)(E:XK),Room k (A.deeper (envOfC qual (z0 st) s.heap.objs.size f cdv))->sp vs H Q E ->
   ∃t,PSs (wj CX0 P w K mg base N qual (z0 st) f cdv A outer s H E).nox (zq st) t/\t { nx:=λ_ H'=>Q .non H',rt:=Q } (vy N vs) H):ul P w K mg base CX0 (k+1) f fd ps sp:=by
 obtain⟨oc,od,kV,doc,pm,an,cdv,ct,osl,rfl,lk,kO⟩:=F.ex;refine Rp lk kO S len λA outer s H vs Q E hr pW=>?_;obtain⟨t,h,q⟩:=cF cdv A outer s H vs Q E hr pW;exact⟨t,h.nox,q⟩
theorem ac{x qual:Str}{st:Stmt}{f:Addr}{oc:Value}{od an:Option Addr}{osl:Array (Option Value)}{kV doc pm cdv ct:Value}(l:K.lookup f=some ⟨oc,od,.func (W.fnOf x qual (zk st) (zq st) (z0 st) .none kV doc pm an cdv ct),osl⟩)
  (c:W.codeIn K cdv qual=true) (k:W.keepIn K (.ref f)=true):Fun K x qual st f (W.fnOf x qual (zk st) (zq st) (z0 st) .none kV doc pm an cdv ct):=⟨⟨oc,od,kV,doc,pm,an,cdv,ct,osl,rfl,l,c⟩,k⟩
end
theorem uv{n:Nat}(h:n<=1000):n<sizeLine:=Nat.lt_of_le_of_lt h (by decide)
section
variable {X:Cx}
end
theorem xa{c A B:Prop}[Decidable c](h1:c->A)(h2:¬c->B):if c then A else B:=by
 by_cases h:c
 ·rw[yS h];exact h1 h
 ·rw[yY h];exact h2 h
def Same(H H':Hp):Prop:=∀b o,H b=some o->H' b=some o
theorem Same.refl(H:Hp):Same H H:=λ_ _ h=>h
theorem Same.trans{H H1 H2:Hp}(a:Same H H1)(b:Same H1 H2):Same H H2:=λc o h=>b c o (a c o h)
theorem Same.seq{K:W.Frag}{H H':Hp}{a:Addr}{xs:List V}(e:Same H H')(h:SqL K H a xs):SqL K H' a xs:=by
 rcases h with(h|⟨o,h⟩)|h
 ·exact .inl (.inl (e _ _ h))
 ·exact .inl (.inr ⟨o,e _ _ h⟩)
 ·exact .inr h
end L2
namespace L2
open PySem PySem.Spec PyProof.Rows
section
variable {κ:Type} [DecidableEq κ]
def jf(kvs:List (κ×V))(k:κ):Option V:=(kvs.find? λkv=>decide (kv.1=k)).map (·.2)
def sy(kvs:List (κ×V))(k:κ)(v:V):List (κ×V) :=
 if(kvs.any λkv=>decide (kv.1=k))=true then kvs.map (λkv=>if kv.1=k then(kv.1,v)else kv)else kvs++[(k,v)]
def Kp(kvs:List (κ×V))(k:κ):List (κ×V):=kvs.filter λkv=>decide (kv.1≠k)
theorem gf{p:κ×V}{r:List (κ×V)}{k:κ}(e:p.1=k):jf (p::r) k=some p.2:=by simp[jf,List.find?_cons,e]
theorem ge{p:κ×V}{r:List (κ×V)}{k:κ}(e:¬p.1=k):jf (p::r) k=jf r k:=by simp[jf,List.find?_cons,e]
theorem gd(k:κ):∀kvs:List (κ×V),(kvs.any λkv=>decide (kv.1=k))=(jf kvs k).isSome
 |[]=>rfl
 |p::r=>by
  rw[sZ]
  by_cases e:p.1=k
  ·simp only[gf e,yU e,Bool.true_or,Option.isSome_some]
  ·rw[ge e,yD e,Bool.false_or];exact gd k r
theorem qc(kvs:List (κ×V))(k:κ)(v:V):(sy kvs k v).length<=kvs.length+1:=by
 unfold sy;split
 ·rw[zX];lia
 ·rw[zN,yF,vA];lia
theorem RelO.isSome_eq{o:Option V}{u:Option Value}(r:RelO o u):o.isSome=u.isSome:=by
 cases o with
 |none=>cases u with
  |none=>rfl
  |some _=>exact(show False from r).elim
 |some _=>cases u with
  |none=>exact(show False from r).elim
  |some _=>rfl
theorem RelO.getD{o:Option V}{u:Option Value}{d:V}{d':Value}(r:RelO o u)(rd:RelV d d'):RelV (o.getD d) (u.getD d'):=by
 cases o with
 |none=>cases u with
  |none=>exact rd
  |some _=>exact(show False from r).elim
 |some _=>cases u with
  |none=>exact(show False from r).elim
  |some _=>exact r
theorem KV.any{kvs:List (κ×V)}{vs:List (κ×Value)}(r:KV kvs vs)(k:κ):(kvs.any λkv=>decide (kv.1=k))=vs.any λkv=>decide (kv.1=k):=by
 unfold KV at r
 induction r with
 |nil=>rfl
 |cons h t ih=>rw[sZ,sZ,ih,h.1]
theorem KV.repl{kvs:List (κ×V)}{vs:List (κ×Value)}(r:KV kvs vs)(k:κ){y:V}{u:Value}(ry:RelV y u):
  KV (kvs.map λkv=>if kv.1=k then(kv.1,y)else kv) (vs.map λkv=>if kv.1=k then(kv.1,u)else kv):=by
 unfold KV at r ⊢
 induction r with
 |nil=>exact .nil
 | @cons p q ps qs h t ih =>
  rw[List.map_cons,List.map_cons];refine .cons ?_ ih;obtain⟨h1,h2⟩:=h
  by_cases e:p.1=k
  ·rw[yS e,yS (h1.symm.trans e)];exact⟨h1,ry⟩
  ·rw[yY e,yY (λz=>e (h1.trans z))];exact⟨h1,h2⟩
theorem KV.put{kvs:List (κ×V)}{vs:List (κ×Value)}(r:KV kvs vs)(k:κ){y:V}{u:Value}(ry:RelV y u):KV (sy kvs k y) (stored vs k u):=by
 unfold sy stored;rw[r.any k]
 by_cases e:(vs.any λkv=>decide (kv.1=k))=true
 ·rw[yS e,yS e];exact r.repl k ry
 ·rw[yY e,yY e];exact Paired.snoc r ⟨rfl,ry⟩
theorem KV.length{kvs:List (κ×V)}{vs:List (κ×Value)}(r:KV kvs vs):kvs.length=vs.length:=Paired.length r
end
theorem Rr{P:Program}{w:World}{k:Key}{u:Value}(r:RelV (kV k) u):(xw P w).is k u=true:=by
 cases k with
 |inl i=>obtain⟨t,e⟩:=(show∃t,u=Value.int i t from r);subst e;exact d9 P w i t
 |inr x=>obtain⟨t,e⟩:=(show∃t,u=Value.str x t from r);subst e;exact ef P w x t
theorem jx{P:Program}{w:World}:∀{ks:List Key}{us:List Value},Vals (ks.map kV) us->ItemsAre (xw P w) ks us
 |[],_,r=>by rw[List.map_nil]at r;cases r;exact .nil
 |k::ks,_,r=>by
  rw[List.map_cons]at r;cases r with
  |cons h t=>exact .cons (Rr h) (jx t)
abbrev KT(H:Hp):List (List Key×V)->List (List Key×Addr×Value)->Prop:=Paired λp q=>p.1=q.1/\H q.2.1=some (.tup (p.1.map kV))/\RelV p.2 q.2.2
theorem KT.val{H:Hp}{kvs:List (List Key×V)}{xs:List (List Key×Addr×Value)}(r:KT H kvs xs)(k:List Key):RelO (jf kvs k) ((atKey xs k).map (·.2)):=by
 induction r with
 |nil=>exact True.intro
 | @cons p q ps qs h t ih =>
  obtain⟨h1,_,h2⟩:=h
  by_cases e:p.1=k
  ·have e':q.1=k:=h1.symm.trans e;have b:atKey (q::qs) k=some q.2:=by simp[atKey,List.find?_cons,e']
   rw[gf e,b];exact h2
  ·have e':¬q.1=k:=λz=>e (h1.trans z);have b:atKey (q::qs) k=atKey qs k:=by simp[atKey,List.find?_cons,e']
   rw[ge e,b];exact ih
theorem KT.repl{H:Hp}{kvs:List (List Key×V)}{xs:List (List Key×Addr×Value)}(r:KT H kvs xs)(k:List Key){y:V}{u:Value}(ry:RelV y u):
  KT H (kvs.map λkv=>if kv.1=k then(kv.1,y)else kv) (xs.map (putAt k u)):=by
 induction r with
 |nil=>exact .nil
 | @cons p q ps qs h t ih =>
  rw[List.map_cons,List.map_cons];refine .cons ?_ ih;obtain⟨h1,h2,h3⟩:=h;unfold putAt
  by_cases e:p.1=k
  ·rw[yS e,yS (h1.symm.trans e)];exact⟨h1,h2,ry⟩
  ·rw[yY e,yY (λz=>e (h1.trans z))];exact⟨h1,h2,h3⟩
theorem KT.put{H:Hp}{kvs:List (List Key×V)}{xs:List (List Key×Addr×Value)}(r:KT H kvs xs)(k:List Key){b:Addr}{y:V}{u:Value}(hb:H b=some (.tup (k.map kV)))(ry:RelV y u):
  KT H (sy kvs k y) (storedH xs k b u):=by
 have e:(kvs.any λkv=>decide (kv.1=k))=(atKey xs k).isSome:=by
  rw[gd,(r.val k).isSome_eq,Option.isSome_map]
 unfold sy storedH;rw[e]
 by_cases q:(atKey xs k).isSome=true
 ·rw[yS q,yS q];exact r.repl k ry
 ·rw[yY q,yY q];exact Paired.snoc r ⟨rfl,hb,ry⟩
theorem KT.keeps{H H':Hp}{kvs:List (List Key×V)}{xs:List (List Key×Addr×Value)}(r:KT H kvs xs)(ht:∀b ys,H b=some (.tup ys)->H' b=some (.tup ys)):KT H' kvs xs :=
 Paired.mapP r λ_ _ z=>⟨z.1,ht _ _ z.2.1,z.2.2⟩
section
variable {P:Program}{w:World}{H:Hp}{h:Heap}{a:Addr}
theorem R5{u:HO}(ok:HOk P w H h)(e:Rd H a u):ObjOk P w H h a u:=e.ok ok
theorem L8{kvs:List (Key×V)}(ok:HOk P w H h)(e:Rd H a (.dK kvs)):kvs.length<=sizeLine/\(a==sysModules)=false/\∃vs,KV kvs vs/\h.DictOf (xw P w) a vs :=
 show ObjOk P w H h a (.dK kvs)from R5 ok e
theorem L7{kvs:List (Key×V)}(ok:HOk P w H h)(e:H a=some (.dK kvs)):kvs.length<=sizeLine/\(a==sysModules)=false/\∃vs,KV kvs vs/\h.DictOf (xw P w) a vs:=L8 ok (.inl e)
theorem U4{ks:List Key}(ok:HOk P w H h)(e:H a=some (.tup (ks.map kV))):(tupleKind (xw P w)).is h ks a:=by
 obtain⟨_,aF,r,o,h1,h2,n,h3⟩:=(show ObjOk P w H h a (.tup (ks.map kV))from ok a _ e)
 exact⟨o,aF.toArray,n,h1,h2,h3,by simpa using jx r⟩
theorem Ma{kvs:List (List Key×V)}(ok:HOk P w H h)(e:Rd H a (.dT kvs)):kvs.length<=sizeLine/\(a==sysModules)=false /\
  ∃xs,KT H kvs xs/\h.DictOfH (tupleKind (xw P w)) a xs:=by
 obtain⟨z,y,xs,r,o,es,ep,h1,h2,h3,h4,h5⟩:=(show ObjOk P w H h a (.dT kvs)from R5 ok e)
 refine⟨z,y,xs,r,o,es,ep,h1,h2,h3,h4,λx hx=>?_,h5⟩;have all:∀{l:List (List Key×V)}{m:List (List Key×Addr×Value)},KT H l m->∀x∈m,(tupleKind (xw P w)).is h x.1 x.2.1:=by
  intro l m q
  induction q with
  |nil=>intro x hx;exact nomatch hx
  | @cons p q ps qs hq t ih =>
   intro x hx;rcases zG.mp hx with e|hx
   ·subst e;exact U4 ok (by rw[<-hq.1];exact hq.2.1)
   ·exact ih x hx
 exact all r x hx
theorem L9{kvs:List (List Key×V)}(ok:HOk P w H h)(e:H a=some (.dT kvs)):kvs.length<=sizeLine/\(a==sysModules)=false /\
  ∃xs,KT H kvs xs/\h.DictOfH (tupleKind (xw P w)) a xs:=Ma ok (.inl e)
end
def Kl(H:Hp)(a:Addr)(y:V)(r:Option V):Prop :=
 (∃kvs k,Rd H a (.dK kvs)/\y=kV k/\r=jf kvs k)\/∃kvs k b,Rd H a (.dT kvs)/\y = .ref b/\H b=some (.tup (k.map kV))/\r=jf kvs k
def Kq(H:Hp)(a:Addr)(y v:V)(H':Hp):Prop :=
 (∃kvs k,H a=some (.dK kvs)/\y=kV k/\kvs.length<sizeLine/\H'=upd H a (.dK (sy kvs k v))) \/
 ∃kvs k b,H a=some (.dT kvs)/\y = .ref b/\H b=some (.tup (k.map kV))/\kvs.length<sizeLine/\H'=upd H a (.dT (sy kvs k v))
section
variable {X:Cx}{pins:List (Addr×Obj)}{σ:St}{H:Hp}{s:Shared}{a:Addr}{y v:V}{u r:Value}{o:Option V}{A:Around}{E:Value->Shared->Prop}
theorem Yz{h':Heap}{t':Nat}{ob:HO}(I:Inv X pins σ H s)(mu:Mut (H a))(hs:Heap.SameBut a s.heap h')(he:∃q,h'.get? a=some q)(new:ObjOk X.prog X.w (upd H a ob) h' a ob):
  Inv X pins σ (upd H a ob) { s with heap:=h',toks:=t' } :=
 I.write (x:=a) (e:=a) mu (.inl rfl) (λb q hb z=>(hs.2 b hb).trans z) he new
theorem Pf{P:Program}{w:World}{H':Hp}{h':Heap}{kvs:List (Key×V)}{vs:List (Key×Value)}(z:kvs.length<=sizeLine)(hd:(a==sysModules)=false)(rel:KV kvs vs)(dd:h'.DictOf (xw P w) a vs):
  ObjOk P w H' h' a (.dK kvs):=⟨z,hd,vs,rel,dd⟩
theorem Xf{H':Hp}{Q:Unit->Shared->Prop}(hu:A.units+1<cLine)(I:Inv X pins σ H s)(g:Kq H a y v H')(ry:RelV y u)(rv:RelV v r)(h:∀s',Inv X pins σ H' s'->Q () s'):
  wpAny (model X.prog X.w) A (setItem (.ref a) u r) Q E s:=by
 rcases g with⟨kvs,k,e,ey,l,eH⟩|⟨kvs,k,b,e,ey,eb,l,eH⟩
 ·subst ey eH;obtain⟨z,hd,vs,rel,dd⟩:=L7 I.hok e;have hz:vs.length<=sizeLine:=by rw[<-rel.length];exact z
  have hl:(sy kvs k v).length<=sizeLine:=by have:=qc kvs k v;lia
  refine wpAny_setItem_pairs (hsz:=hz) (Rr ry) dd λh' dd' hs=>h _ ?_;have he:∃q,h'.get? a=some q:=let⟨q,_,_,hq,_⟩:=dd';⟨q,hq⟩;exact Yz I (by rw[e];exact True.intro) hs he (Pf hl hd (rel.put k rv) dd')
 ·subst ey eH;cases(show u=Value.ref b from ry);obtain⟨z,hd,xs,rel,dd⟩:=L9 I.hok e;have hz:xs.length<=sizeLine:=by rw[<-Paired.length rel];exact z
  have hl:(sy kvs k v).length<=sizeLine:=by have:=qc kvs k v;lia
  refine wpAny_setItem_heap (hsz:=hz) (tupleKind_room_in1 hu) (U4 I.hok eb) dd λh' dd' hs=>h _ ?_;obtain⟨q,es,ep,hq,h2,h3,h4,_,h5⟩:=dd';refine Yz I (by rw[e];exact True.intro) hs ⟨q,hq⟩ ⟨hl,hd,_,(rel.put k eb rv).keeps λc ys ec=>?_,q,es,ep,hq,h2,h3,h4,h5⟩;rw[zg (M7 ec e (λz=>nomatch z))];exact ec
end
section
variable {X:Cx}{pins:List (Addr×Obj)}{σ:St}{H:Hp}{s:Shared}{a:Addr}{kvs:List (Key×V)}{k:Key}{u:Value}{A:Around}{E:Value->Shared->Prop}
end
section
variable {X:Cx}{o i e value:Expr}{pos iG AE:Pos}{td ty tv:TE}
end
section
variable {X:Cx}{pos:Pos}
end
structure M1(X:Cx)(o:Expr)(m:Str)(apos:Pos)(e:Expr)(cpos:Pos):Prop where
 base:attributeBase o m X.env (eval o X.env)=eval o X.env
 few:((backTo cpos (starEach [e] X.env)).all (λx=>!x.1)&&(backToKw cpos (keywordEach [] X.env)).all (λx=>x.1.isSome)
 &&decide (([e]:List Expr).length+([]:List Keyword).length+(if([]:List Keyword).isEmpty then 0 else 1)<30))=true
 line:(apos.endLine==cpos.line)=true
 trees:backTo cpos (starEach [e] X.env)=[(false,eval e X.env)]
structure M2(X:Cx)(o:Expr)(m:Str)(apos:Pos)(e f:Expr)(cpos:Pos):Prop where
 base:attributeBase o m X.env (eval o X.env)=eval o X.env
 few:((backTo cpos (starEach [e,f] X.env)).all (λx=>!x.1)&&(backToKw cpos (keywordEach [] X.env)).all (λx=>x.1.isSome)
 &&decide (([e,f]:List Expr).length+([]:List Keyword).length+(if([]:List Keyword).isEmpty then 0 else 1)<30))=true
 line:(apos.endLine==cpos.line)=true
 trees:backTo cpos (starEach [e,f] X.env)=[(false,eval e X.env),(false,eval f X.env)]
section
variable {X:Cx}{pins:List (Addr×Obj)}{σ:St}{H:Hp}{s:Shared}{a:Addr}{y d:V}{u r:Value}{o:Option V}{A:Around}{E:Value->Shared->Prop}
end
section
variable {X:Cx}{o e f:Expr}{apos cpos:Pos}{td ty tx:TE}
end
section
variable {X:Cx}{pins:List (Addr×Obj)}{σ:St}{H:Hp}{s:Shared}{a:Addr}{kvs:List (Key×V)}{A:Around}{E:Value->Shared->Prop}
end
section
variable {X:Cx}{pins:List (Addr×Obj)}{σ:St}{H:Hp}{s:Shared}{a:Addr}{y:V}{u:Value}{A:Around}{E:Value->Shared->Prop}
end
end L2
namespace L2
open PySem PySem.Spec PyProof.Rows
section
variable {X:Cx}
end
section
variable {κ:Type} [DecidableEq κ]
end
end L2
set_option maxHeartbeats 4000000
namespace My
open PySem PySem.Spec L2
open PyProof.Rows hiding St
theorem Ky{CX:CXT}{P:Program}{w:World}{K:W.Frag}{mg:Str->Option Value}{base:Heap}{N:List Str}{qual:Str}{scope:Scope}{f:Addr}{cd:Value}{A:Around}{outer:List Env}{s:Shared}{H:Hp}{E:XK}:(wj CX P w K mg base N qual scope f cd A outer s H E).K=K:=rfl
section
variable {X:Cx}
theorem Ql{e:Expr}{t t':TE}(h:PE X e t)(i:∀σ H Q,t' σ H Q->t σ H Q):PE X e t':=λpins s σ H Q I q=>h pins s σ H Q I (i σ H Q q)
theorem Qs{e:Stmt}{t t':TS}(h:PS X e t)(i:∀D σ H,t' D σ H->t D σ H):PS X e t':=λpins s σ H D I q=>h pins s σ H D I (i D σ H q)
theorem uf{f:Value->Value->Sem Value}{r r':R2}(h:OpR X f r)(i:∀x y H Q,r' x y H Q->r x y H Q):OpR X f r':=λpins s σ H x y v u Q I rx ry q=>h pins s σ H x y v u Q I rx ry (i x y H Q q)
theorem Pk{r r':R2}(h:IxR X r)(i:∀x y H Q,r' x y H Q->r x y H Q):IxR X r':=λvalue slice pins s σ H x y v u Q I rx ry q hs=>h value slice pins s σ H x y v u Q I rx ry (i x y H Q q) hs
theorem Re{r r':V->Option Int->Option Int->Hp->VK->Prop}(h:SlR X r)(i:∀x lo hi H Q,r' x lo hi H Q->r x lo hi H Q):SlR X r':=λpins s σ H x v vl vu lo hi sl Q I rx hs pl pu q=>h pins s σ H x v vl vu lo hi sl Q I rx hs pl pu (i x lo hi H Q q)
end
def New(H:Hp)(o:HO)(Q:VK):Prop:=∀(p:Addr)(H':Hp),H p=none->Same H H'->H' p=some o->Q (.ref p) H'
theorem zu{H H1:Hp}{p:Addr}(h:Same H H1)(n:H p=none)(o:HO):Same H (upd H1 p o):=λb u q=>by
 rw[zg (wu q n)];exact h b u q
theorem xg{H:Hp}{p:Addr}(n:H p=none)(o:HO):Same H (upd H p o):=zu (Same.refl H) n o
theorem New.at{H:Hp}{o:HO}{Q:VK}(h:New H o Q):∀p,H p=none->Q (.ref p) (upd H p o):=λp n=>h p _ n (xg n o) zy
def Tups(H H':Hp):Prop:=(∀b xs,H b=some (.tup xs)->H' b=some (.tup xs))/\∀b o u,H b=some (.frz o u)->H' b=some (.frz o u)
theorem Tups.trans{H H1 H2:Hp}(a:Tups H H1)(b:Tups H1 H2):Tups H H2:=⟨λc xs h=>b.1 c xs (a.1 c xs h),λc o u h=>b.2 c o u (a.2 c o u h)⟩
theorem z7{H H':Hp}(a:Same H H'):Tups H H':=⟨λb xs h=>a b _ h,λb o u h=>a b _ h⟩
theorem Wu{H:Hp}{p:Addr}{o:HO}(n:(∀xs,H p≠some (.tup xs))/\∀ob u,H p≠some (.frz ob u)):Tups H (upd H p o) :=
 ⟨λb xs h=>by rw[zg (by rintro rfl;exact n.1 xs h)];exact h,λb ob u h=>by rw[zg (by rintro rfl;exact n.2 ob u h)];exact h⟩
theorem yf{H:Hp}{p:Addr}{xs:List V}{o:HO}(h:H p=some (.lst xs)):Tups H (upd H p o):=Wu ⟨λys z=>(by rw[h]at z;cases z),λob u z=>(by rw[h]at z;cases z)⟩
theorem Tups.sqT{K:W.Frag}{H H':Hp}{a:Addr}{xs:List V}(t:Tups H H')(h:SqT K H a xs):SqT K H' a xs:=by
 rcases h with(h|⟨o,h⟩)|h
 ·exact .inl (.inl (t.1 _ _ h))
 ·exact .inl (.inr ⟨o,t.2 _ _ _ h⟩)
 ·exact .inr h
mutual
def Has(K:W.Frag)(H:Hp):V->PyData->Prop
 |v,.none=>v = .non
 |v,.bool b=>v = .bl b
 |v,.int i=>v = .int i
 |v,.str x=>v = .str x
 |v,.tuple ds=>∃a xs,v = .ref a/\SqT K H a xs/\HasL K H xs ds
 |v,.list ds=>∃a xs,v = .ref a/\SqL K H a xs/\HasL K H xs ds
 |_,.dict _=>False
def HasL(K:W.Frag)(H:Hp):List V->List PyData->Prop
 |xs,[]=>xs=[]
 |xs,d::ds=>∃y ys,xs=y::ys/\Has K H y d/\HasL K H ys ds
end
def gv:St->Nat->Option V
 |[],_=>none
 |x::_,0=>x
 |_::r,n+1=>gv r n
def sv:St->Nat->V->St
 |[],_,_=>[]
 |_::r,0,v=>some v::r
 |x::r,n+1,v=>x::sv r n v
theorem ae:∀{σ:St}{i:Nat}{v:V},gv σ i=some v->σ[i]?=some (some v)
 |[],_,_,h=>by simp[gv]at h
 |x::_,0,v,h=>by have h':x=some v:=h;simp[h']
 |_::r,n+1,v,h=>by
  have:=ae (σ:=r) (i:=n) (v:=v) h;simpa using this
theorem ci:∀(σ:St)(i:Nat)(v:V),σ.set i (some v)=sv σ i v
 |[],_,_=>rfl
 |_::_,0,_=>rfl
 |x::r,n+1,v=>by
  show x::r.set n (some v)=x::sv r n v;rw[ci r n v]
section
variable {X:Cx}
def mV(i:Nat):TE:=fun σ H Q=>match gv σ i with
 |some v=>Q v H
 |none=>False
theorem z8(i:Nat){x:Str}{pos:Pos}(hN:X.N[i]?=some x:=by rfl)(hv:Vis X.env.scope x:=by first|exact Or.inl rfl|exact Or.inr (Or.inl rfl)|exact Or.inr (Or.inr rfl))(hd:(x==("__debug__":Str))=false:=by decide)
  (kO:(x==("__classdict__":Str))=false:=by decide):PE X (.Name x pos) (mV i):=Ql (Qm hN hv hd kO) fun σ H Q q=>by
 unfold mV at q;split at q
 ·rename_i v e;exact⟨v,ae e,q⟩
 ·exact q.elim
def Mu(i:Nat)(te:TE):TS:=λD σ H=>te σ H λx H1=>D.nx (sv σ i x) H1
theorem zp(i:Nat){x:Str}{e:Expr}{te:TE}{pos iG:Pos}(hN:X.N.Nodup)(he:PE X e te)(hi:X.N[i]?=some x:=by rfl)(hx:Loc X.env.scope x:=by first|exact Or.inl rfl|exact Or.inr rfl)
  (hs:swapsWith e (some (.Name x iG)) pos.line X.env=pure false:=by rfl) (hf:X.fn x=true\/X.env.scope.names.lookup x=some .local:=by first|exact .inl rfl|exact .inr rfl):PS X (.Assign [.Name x iG] e pos) (Mu i te) :=
 Qs (Qt (i:=i) hN hi hx he hs hf) λD σ H q=>by
  refine(?_:Wr te (js i) D σ H);have e:(λx H1=>D.nx (sv σ i x) H1)=λx H1=>js i x σ H1 D.nx:=by
   funext x H1
   show D.nx (sv σ i x) H1=D.nx (σ.set i (some x)) H1;rw[ci]
  show te σ H λx H1=>js i x σ H1 D.nx;rw[<-e];exact q
def mG(i:Nat):TG:=λv σ H Q=>Q (sv σ i v) H
theorem v6(i:Nat){x:Str}{pos:Pos}(hN:X.N.Nodup)(hi:X.N[i]?=some x:=by rfl)(hx:Loc X.env.scope x:=by first|exact Or.inl rfl|exact Or.inr rfl)
  (hf:X.fn x=true\/X.env.scope.names.lookup x=some .local:=by first|exact .inl rfl|exact .inr rfl):PG X (.Name x pos) (mG i):=by
 have h:=Tk (pos:=pos) (X:=X) hN hi hx hf;have e:mG i=js i:=by
  funext v σ H Q
  show Q (sv σ i v) H=Q (σ.set i (some v)) H;rw[ci]
 rw[e];exact h
def Vy(k:Bool->Hp->Prop):V->Hp->Prop:=λx H=>match x with
 | .bl c=>k c H
 |_=>False
theorem Te{k:Bool->Hp->Prop}{c:Bool}{H:Hp}:Vy k (.bl c) H=k c H:=rfl
def Vz(k:Int->Hp->Prop):V->Hp->Prop:=λx H=>match x with
 | .int c=>k c H
 |_=>False
theorem V0{k:Int->Hp->Prop}{c:Int}{H:Hp}:Vz k (.int c) H=k c H:=rfl
def Zf(k:Addr->Hp->Prop):V->Hp->Prop:=λx H=>match x with
 | .ref c=>k c H
 |_=>False
theorem V1{k:Addr->Hp->Prop}{c:Addr}{H:Hp}:Zf k (.ref c) H=k c H:=rfl
def on1(k:V->Hp->Prop):List V->Hp->Prop:=λx H=>match x with
 |[c]=>k c H
 |_=>False
theorem Qa{k:V->Hp->Prop}{c:V}{H:Hp}:on1 k [c] H=k c H:=rfl
def Sv(K:W.Frag):R2:=λx y H Q=>match x,y with
 | .int i,.int j=>Q (.int (i+j)) H
 | .str a,.str b=>a.length+b.length<=sizeLine/\Q (.str (a++b)) H
 | .ref a,.ref b=>(∃xs ys,H a=some (.lst xs)/\H b=some (.lst ys)/\xs.length+ys.length<=sizeLine/\New H (.lst (xs++ys)) Q) \/
   ∃xs ys,SqT K H a xs/\SqT K H b ys/\xs.length+ys.length<=sizeLine/\∀(p:Addr)(H':Hp),Same H H'->SqT K H' p (xs++ys)->Q (.ref p) H'
 |_,_=>False
theorem Um{prog:Program}{w:World}{A:Around}{E:Value->Shared->Prop}{s:Shared}{t b:Addr}{ws:List Value}{Q:Value->Shared->Prop}(ht:IsTup s.heap t #[])(hb:IsTup s.heap b ws.toArray)(h:Q (.ref b) s):
  wpAny (model prog w) A (binaryOp .Add (.ref t) (.ref b)) Q E s:=by
 obtain⟨⟨cls,dd,data,sl⟩,ho,hc,n,hd⟩:=id ht;obtain⟨⟨cls2,dd2,data2,pT⟩,Bb,kD,n2,qT⟩:=id hb;simp only at hc hd kD qT;subst hc hd kD qT;exact concat_meets ⟨_,ho,rfl⟩ ⟨_,Bb,rfl⟩ noFill_tuple_add seq_tuple_add tN tS (uH _ _)
   (tuple_addW0 t b #[] ws.toArray n n2 dd dd2 sl pT (by simp)) ⟨ho,Bb,h⟩
theorem V3:OpR X (binaryOp .Add) (λx y H Q=>∃a b xs ys,x = .ref a/\y = .ref b/\SqT X.K H a xs/\SqT X.K H b ys/\xs.length+ys.length<=sizeLine/\∀(p:Addr)(H':Hp),Same H H'->SqT X.K H' p (xs++ys)->Q (.ref p) H'):=by
 intro pins s σ H x y v u Q I rx ry h;obtain⟨a,b,xs,ys,rfl,rfl,ha,hb,hz,q⟩:=h
 by_cases e:xs=[]
 ·subst e;cases rx;cases ry;obtain⟨aF,r1,p1,_⟩:=I.tuple ha;obtain⟨fS,r2,p2,_⟩:=I.tuple hb;cases r1;exact Um p1 p2 ⟨.ref b,H,I,rfl,q b H (Same.refl H) hb⟩
 ·refine Ti pins s σ H _ _ v u Q I rx ry ⟨a,b,xs,ys,rfl,rfl,ha,hb,e,hz,λz=>?_,λ_ p n=>?_⟩
  ·subst z;exact q a H (Same.refl H) (by rw[List.append_nil];exact ha)
  ·exact q p _ (xg n _) (SqT.of zy)
theorem zh:OpR X (binaryOp .Add) (Sv X.K):=by
 intro pins s σ H x y v u Q I rx ry h;cases x with
 |int i=>cases y with
  |int j=>exact Qe pins s σ H _ _ v u Q I rx ry ⟨i,j,rfl,rfl,h⟩
  |_=>exact(show False from h).elim
 |str i=>cases y with
  |str j=>exact bn pins s σ H _ _ v u Q I rx ry ⟨i,j,rfl,rfl,h.1,h.2⟩
  |_=>exact(show False from h).elim
 |ref a=>cases y with
  |ref b =>
   have h':(∃xs ys,H a=some (.lst xs)/\H b=some (.lst ys)/\xs.length+ys.length<=sizeLine/\New H (.lst (xs++ys)) Q) \/
    ∃xs ys,SqT X.K H a xs/\SqT X.K H b ys/\xs.length+ys.length<=sizeLine/\∀(p:Addr)(H':Hp),Same H H'->SqT X.K H' p (xs++ys)->Q (.ref p) H':=h
   rcases h' with⟨xs,ys,ha,hb,hz,q⟩|⟨xs,ys,ha,hb,hz,q⟩
   ·exact Qf pins s σ H _ _ v u Q I rx ry ⟨a,b,xs,ys,rfl,rfl,ha,hb,hz,q.at⟩
   ·exact V3 pins s σ H _ _ v u Q I rx ry ⟨a,b,xs,ys,rfl,rfl,ha,hb,hz,q⟩
  |_=>exact(show False from h).elim
 |_=>exact(show False from by cases y<;>exact h).elim
def mII(C:Int->Int->Prop)(g:Int->Int->V):R2:=λx y H Q=>match x,y with
 | .int i,.int j=>C i j/\Q (g i j) H
 |_,_=>False
def Vh(g:Int->Int->V):R2:=λx y H Q=>match x,y with
 | .int i,.int j=>Q (g i j) H
 |_,_=>False
theorem ao{C:Int->Int->Prop}{g:Int->Int->V}(x y:V)(H:Hp)(Q:VK)(h:mII C g x y H Q):rI C g x y H Q:=by
 cases x with
 |int i=>cases y with
  |int j=>exact⟨i,j,rfl,rfl,h.1,h.2⟩
  |_=>exact(show False from h).elim
 |_=>exact(show False from by cases y<;>exact h).elim
theorem il{g:Int->Int->V}(x y:V)(H:Hp)(Q:VK)(h:Vh g x y H Q):rI0 g x y H Q:=by
 cases x with
 |int i=>cases y with
  |int j=>exact⟨i,j,rfl,rfl,h⟩
  |_=>exact(show False from h).elim
 |_=>exact(show False from by cases y<;>exact h).elim
theorem R3:OpR X (binaryOp .Sub) (Vh λi j=>.int (i-j)):=uf Qi il
theorem vv:OpR X (binaryOp .Mult) (mII CMul λi j=>.int (i*j)):=uf Qh ao
theorem vt:OpR X (binaryOp .Mod) (mII (λ_ j=>0<j) λi j=>.int (i % j)):=uf Qg ao
theorem ar:OpR X (binaryOp .FloorDiv) (mII Ls λi j=>.int (i / j)):=uf Tj ao
theorem Vo:OpR X (compareOp .Lt) (Vh λi j=>.bl (decide (i<j))):=uf Ni il
theorem d8:OpR X (compareOp .Gt) (Vh λi j=>.bl (decide (j<i))):=uf Ng il
def mEq(g:Bool->Bool):R2:=λx y H Q=>match x,y with
 | .int i,.int j=>Q (.bl (g (decide (i=j)))) H
 | .bl i,.bl j=>Q (.bl (g (decide (i=j)))) H
 | .str i,.str j=>Q (.bl (g (decide (i=j)))) H
 | .non,.non=>Q (.bl (g true)) H
 | .non,.bl _=>Q (.bl (g false)) H
 | .bl _,.non=>Q (.bl (g false)) H
 | .non,.int _=>Q (.bl (g false)) H
 | .int _,.non=>Q (.bl (g false)) H
 |_,_=>False
theorem L5(i j:Int):decide (V.int i=V.int j)=decide (i=j):=by simp
theorem Kz(i j:Bool):decide (V.bl i=V.bl j)=decide (i=j):=by simp
theorem L6(i j:Str):decide (V.str i=V.str j)=decide (i=j):=by simp
theorem Ru{g:Bool->Bool}{x y:V}{H:Hp}{Q:VK}(h:mEq g x y H Q):Rb x y=true/\Q (.bl (g (decide (x=y)))) H:=by
 cases x with
 |int i=>cases y with
  |int j=>exact⟨rfl,by rw[L5];exact h⟩
  |non=>exact⟨rfl,by rw[yD (by intro z;cases z)];exact h⟩
  |_=>exact(show False from h).elim
 |bl i=>cases y with
  |bl j=>exact⟨rfl,by rw[Kz];exact h⟩
  |non=>exact⟨rfl,by rw[yD (by intro z;cases z)];exact h⟩
  |_=>exact(show False from h).elim
 |str i=>cases y with
  |str j=>exact⟨rfl,by rw[L6];exact h⟩
  |_=>exact(show False from h).elim
 |non=>cases y with
  |non=>exact⟨rfl,by rw[yU rfl];exact h⟩
  |bl j=>exact⟨rfl,by rw[yD (by intro z;cases z)];exact h⟩
  |int j=>exact⟨rfl,by rw[yD (by intro z;cases z)];exact h⟩
  |_=>exact(show False from h).elim
 |_=>exact(show False from by cases y<;>exact h).elim
mutual
theorem wq{pins:List (Addr×Obj)}{σ:St}{H:Hp}{s:Shared}(I:Inv X pins σ H s):∀(d:PyData)(v:V)(u:Value),Has X.K H v d->RelV v u->∃as,Reads s.heap u d as
 | .none,v,u,h,r=>by
  have h':v = .non:=by simpa[Has]using h
  subst h';cases r;exact⟨_,.none⟩
 | .bool b,v,u,h,r=>by
  have h':v = .bl b:=by simpa[Has]using h
  subst h';cases r;exact⟨_,.bool b⟩
 | .int i,v,u,h,r=>by
  have h':v = .int i:=by simpa[Has]using h
  subst h';obtain⟨t,rfl⟩:=r;exact⟨_,.int i t⟩
 | .str x,v,u,h,r=>by
  have h':v = .str x:=by simpa[Has]using h
  subst h';obtain⟨t,rfl⟩:=r;exact⟨_,.str x t⟩
 | .tuple ds,v,u,h,r=>by
  have h':∃a xs,v = .ref a/\SqT X.K H a xs/\HasL X.K H xs ds:=by simpa[Has]using h
  obtain⟨a,xs,rfl,hq,hl⟩:=h';cases r;obtain⟨aF,rv,⟨o,e,c,n,dd⟩,_⟩:=I.tuple hq;obtain⟨as,ra⟩:=hasL_reads I ds xs aF hl rv;exact⟨_,.tuple e c dd ra⟩
 | .list ds,v,u,h,r=>by
  have h':∃a xs,v = .ref a/\SqL X.K H a xs/\HasL X.K H xs ds:=by simpa[Has]using h
  obtain⟨a,xs,rfl,hq,hl⟩:=h';cases r;obtain⟨aF,rv,pl,_⟩:=I.list hq;obtain⟨o,e,c,n,dd⟩:=pl.isList;obtain⟨as,ra⟩:=hasL_reads I ds xs aF hl rv;exact⟨_,.list e c dd ra⟩
 | .dict _,v,u,h,r=>by
  have h':False:=by simpa[Has]using h
  exact h'.elim
theorem hasL_reads{pins:List (Addr×Obj)}{σ:St}{H:Hp}{s:Shared}(I:Inv X pins σ H s):∀(ds:List PyData)(xs:List V)(us:List Value),HasL X.K H xs ds->Vals xs us->∃as,ReadsAll s.heap us ds as
 |[],xs,us,h,r=>by
  have h':xs=[]:=by simpa[HasL]using h
  subst h';cases r;exact⟨_,.nil⟩
 |d::ds,xs,us,h,r=>by
  have h':∃y ys,xs=y::ys/\Has X.K H y d/\HasL X.K H ys ds:=by simpa[HasL]using h
  obtain⟨y,ys,rfl,h1,h2⟩:=h';cases r with
  |cons r1 r2 =>
   obtain⟨as,ra⟩:=wq I d y _ h1 r1;obtain⟨bs,rb⟩:=hasL_reads I ds ys _ h2 r2;exact⟨_,.cons ra rb⟩
end
def mf(K:W.Frag)(g:Bool->Bool):R2:=λx y H Q=>match x,y with
 | .ref a,.ref b=>∃da db,Has K H (.ref a) da/\Has K H (.ref b) db/\SeqAt.shaped da=true/\SeqAt.shaped db=true/\Q (.bl (g (PyData.eqv da db))) H
 |x,y=>mEq g x y H Q
theorem xh(hu:X.A.units+64<cLine):OpR X (compareOp .Eq) (mf X.K id):=by
 intro pins s σ H x y v u Q I rx ry h;have sc:mEq id x y H Q->wpAny (model X.prog X.w) X.A (compareOp .Eq v u) (EP X pins σ Q) X.xe s:=λh=>Nf pins s σ H x y v u Q I rx ry (Ru h);cases x with
 |ref a=>cases y with
  |ref b =>
   obtain⟨da,db,h1,h2,s1,s2,q⟩:=(show∃da db,Has X.K H (.ref a) da/\Has X.K H (.ref b) db/\SeqAt.shaped da=true/\SeqAt.shaped db=true/\Q (.bl (PyData.eqv da db)) H from h)
   obtain⟨as,ra⟩:=wq I da _ _ h1 rx;obtain⟨bs,rb⟩:=wq I db _ _ h2 ry;exact eq_dataH ra rb s1 s2 hu ⟨.bl _,H,I,rfl,q⟩
  |_=>exact sc h
 |_=>exact sc (by cases y<;>exact h)
theorem Sx(hu:X.A.units+64<cLine):OpR X (compareOp .NotEq) (mf X.K not):=by
 intro pins s σ H x y v u Q I rx ry h;have sc:mEq not x y H Q->wpAny (model X.prog X.w) X.A (compareOp .NotEq v u) (EP X pins σ Q) X.xe s:=λh=>Nj pins s σ H x y v u Q I rx ry (Ru h);cases x with
 |ref a=>cases y with
  |ref b =>
   obtain⟨da,db,h1,h2,s1,s2,q⟩:=(show∃da db,Has X.K H (.ref a) da/\Has X.K H (.ref b) db/\SeqAt.shaped da=true/\SeqAt.shaped db=true/\Q (.bl (!PyData.eqv da db)) H from h)
   obtain⟨as,ra⟩:=wq I da _ _ h1 rx;obtain⟨bs,rb⟩:=wq I db _ _ h2 ry;exact ne_dataH ra rb s1 s2 hu ⟨.bl _,H,I,rfl,q⟩
  |_=>exact sc h
 |_=>exact sc (by cases y<;>exact h)
def mLe:R2:=λx y H Q=>match x,y with
 | .int i,.int j=>Q (.bl (decide (i<=j))) H
 | .bl i,.bl j=>Q (.bl (!i||j)) H
 |_,_=>False
theorem La:OpR X (compareOp .LtE) mLe:=by
 intro pins s σ H x y v u Q I rx ry h
 match x,y,h with
 | .int i,.int j,h=>exact Nh pins s σ H _ _ v u Q I rx ry ⟨i,j,rfl,rfl,h⟩
 | .bl i,.bl j,h =>
  cases rx;cases ry;exact le_bool ⟨.bl (!i||j),H,I,by cases i<;>cases j<;>rfl,h⟩
def mIn(K:W.Frag)(neg:Bool):R2:=λx y H Q=>match y with
 | .ref p=>∃xs,(SqL K H p xs\/SqT K H p xs)/\wc x=true/\xs.all wc=true/\Q (.bl (if neg then !inV x xs else inV x xs)) H
 |_=>False
theorem Mn{K:W.Frag}{neg:Bool}(x y:V)(H:Hp)(Q:VK)(h:mIn K neg x y H Q):rIn K neg x y H Q:=by
 cases y with
 |ref p =>
  obtain⟨xs,q⟩:=(show∃xs,(SqL K H p xs\/SqT K H p xs)/\wc x=true/\xs.all wc=true/\Q (.bl (if neg then !inV x xs else inV x xs)) H from h)
  exact⟨p,xs,rfl,q⟩
 |_=>exact(show False from h).elim
theorem Mz:OpR X (compareOp .In) (mIn X.K false):=uf Yb Mn
def mIx(K:W.Frag):R2:=λx y H Q=>match x,y with
 | .str z,.int i=>z.length<=sizeLine/\∃c,atI z.cps.toList i=some c/\Q (.str ⟨#[c]⟩) H
 | .ref p,.int i=>∃xs v,(SqL K H p xs\/SqT K H p xs)/\atI xs i=some v/\Q v H
 |_,_=>False
theorem M4:IxR X (mIx X.K):=Pk Pl λx y H Q h=>by
 cases x with
 |str z=>cases y with
  |int i=>exact .inr (.inr ⟨z,i,h.2.choose,rfl,rfl,h.1,h.2.choose_spec.1,h.2.choose_spec.2⟩)
  |_=>exact(show False from h).elim
 |ref p=>cases y with
  |int i =>
   obtain⟨xs,v,hs,e,q⟩:=(show∃xs v,(SqL X.K H p xs\/SqT X.K H p xs)/\atI xs i=some v/\Q v H from h)
   rcases hs with hs|hs
   ·exact .inl ⟨p,xs,i,v,rfl,rfl,hs,e,q⟩
   ·exact .inr (.inl ⟨p,xs,i,v,rfl,rfl,hs,e,q⟩)
  |_=>exact(show False from h).elim
 |_=>exact(show False from by cases y<;>exact h).elim
theorem yh{a b:Expr}{ta tb:TE}{pos:Pos}(ha:PE X a ta)(hb:PE X b tb)(hs:Yv b):PE X (.Subscript a b pos) (tOp (mIx X.K) ta tb):=Nl M4 ha hb hs
theorem r8{prog:Program}{w:World}{A:Around}{E:Value->Shared->Prop}{s:Shared}{t sl:Addr}{items:Array Value}{vl vu:Value}{lo hi:Option Int}{Q:Value->Shared->Prop}(ht:IsTup s.heap t items)(hs:s.heap.IsSliceOf sl vl vu .none)(pl:IsPart vl lo)(pu:IsPart vu hi)
  (hw:HT.sIx items.size 0 lo=0/\HT.sIx items.size items.size hi=items.size) (h:Q (.ref t) s):wpAny (model prog w) A (getItem (.ref t) (.ref sl)) Q E s:=by
 obtain⟨os,AY,sK,HV⟩:=id hs;have Ih:s.TypeIs (.ref sl) "slice":=⟨os,AY,sK⟩
 unfold getItem
 try with_reducible refine xU ?_
 first|refine zZ (zV ?_)|skip
 refine zZ (wpAny_sequenceKey ht.typeIs (by decide) ?_);refine zZ (xW (name:=Str.ofString "__getitem__") ht.typeIs xR
  (yA xR ht.typeIs entry_tuple_getitem ?_ (args_tuple_getitem _ _)))
 show wpAny _ _ (Builtin.Tuple.tupleItemsOf (.ref t) >>= _) _ _ s;refine zZ (tupleItemsOf_ ht ?_);refine zZ (uL Ih ?_);rw[yS (by decide)];refine zZ (HT.sliceApplied_gen hs pl pu ?_);have hyes:(((HT.sIx items.size 0 lo:Nat):Int)==0&&(1:Int)==1&&(HT.sIx items.size items.size hi-HT.sIx items.size 0 lo)==items.size)=true:=by
  rw[hw.1,hw.2];simp
 show wpAny _ _ (if(((HT.sIx items.size 0 lo:Nat):Int)==0&&(1:Int)==1&&(HT.sIx items.size items.size hi-HT.sIx items.size 0 lo)==items.size)=true then _ else _) _ _ s;rw[yS hyes];have hex:∀{A':Around}{Q':Bool->Shared->Prop}{E':Value->Shared->Prop},Q' true s->wpAny (model prog w) A' (Builtin.Tuple.tupleIsExact (.ref t)) Q' E' s:=λq=>by
  unfold Builtin.Tuple.tupleIsExact;exact zZ (uL ht.typeIs (zV q))
 refine zZ (hex ?_);rw[yS rfl];exact zZ (tV (zV ⟨_,rfl,zV h⟩))
theorem sl_tupA:SlR X (λx lo hi H Q=>∃a xs,x = .ref a/\SqT X.K H a xs/\∀(p:Addr)(H':Hp),Same H H'->SqT X.K H' p (v9 xs lo hi)->Q (.ref p) H'):=by
 intro pins s σ H x v vl vu lo hi sl Q I rx hs pl pu h;obtain⟨a,xs,rfl,hx,q⟩:=h
 by_cases hw:HT.sIx xs.length 0 lo=0/\HT.sIx xs.length xs.length hi=xs.length
 ·cases rx;obtain⟨aF,r,ht,hz⟩:=I.tuple hx;have aN:aF.toArray.size=xs.length:=by rw[zQ];exact r.length.symm
  refine⟨"tuple",_,xR.lookup,ht.typeIs,?_⟩;refine r8 ht hs pl pu (by rw[aN];exact hw) ⟨.ref a,H,I,rfl,q a H (Same.refl H) ?_⟩;have e:v9 xs lo hi=xs:=by
   unfold v9;rw[hw.1,hw.2];simp
  rw[e];exact hx
 ·exact Rf pins s σ H _ v vl vu lo hi sl Q I rx hs pl pu ⟨a,xs,rfl,hx,hw,λp n=>q p _ (xg n _) (SqT.of zy)⟩
theorem Zi{v:Value}{o:Option Int}(p:IsPart v o):∃l:Option (Int×Tok),v=partValue l/\l.map (·.1)=o:=by
 cases p with
 |none=>exact⟨none,rfl,rfl⟩
 |int i t=>exact⟨some (i,t),rfl,rfl⟩
theorem sl_strA:SlR X (λx lo hi H Q=>∃z,x = .str z/\z.length<=sizeLine/\Q (.str (Txt.slice z lo hi)) H):=by
 intro pins s σ H x v vl vu lo hi sl Q I rx hs pl pu h;obtain⟨z,rfl,hz,q⟩:=h;obtain⟨t,rfl⟩:=rx;obtain⟨l,rfl,rfl⟩:=Zi pl;obtain⟨u,rfl,rfl⟩:=Zi pu;refine⟨"str",_,F.slot_str_getitem.lookup,typeIs_str _ _ _,?_⟩;refine wpAny_getItem_str_slice (l:=l) (u:=u) (st:=none) hs rfl (post_val_or_str ⟨yW (sV z _ _) hz,λt' k=>⟨.str (Txt.slice z (l.map (·.1)) (u.map (·.1))),H,I.tok k,⟨t',rfl⟩,q⟩⟩)
def mSl(K:W.Frag):V->Option Int->Option Int->Hp->VK->Prop:=λx lo hi H Q=>match x with
 | .str z=>z.length<=sizeLine/\Q (.str (Txt.slice z lo hi)) H
 | .ref a=>(∃xs,SqL K H a xs/\New H (.lst (v9 xs lo hi)) Q)\/∃xs,SqT K H a xs/\∀(p:Addr)(H':Hp),Same H H'->SqT K H' p (v9 xs lo hi)->Q (.ref p) H'
 |_=>False
theorem M6:SlR X (mSl X.K):=Re (sl_strA.or (sl_tupA.or T3)) λx lo hi H Q h=>by
 cases x with
 |str z=>exact .inl ⟨z,rfl,h.1,h.2⟩
 |ref a =>
  have h':(∃xs,SqL X.K H a xs/\New H (.lst (v9 xs lo hi)) Q)\/∃xs,SqT X.K H a xs/\∀(p:Addr)(H':Hp),Same H H'->SqT X.K H' p (v9 xs lo hi)->Q (.ref p) H':=h;rcases h' with⟨xs,hx,q⟩|⟨xs,hx,q⟩
  ·exact .inr (.inr ⟨a,xs,rfl,hx,q.at⟩)
  ·exact .inr (.inl ⟨a,xs,rfl,hx,q⟩)
 |_=>exact(show False from h).elim
def Rw(t:TE):TO:=fun σ H Q=>t σ H (Vz λi H1=>Q (some i) H1)
theorem yz{e:Expr}{te:TE}(h:PE X e te):PO X (some e) (Rw te):=by
 intro pins s σ H Q I hw;rw[evalPart_some];refine thn (h pins s σ H _ I hw) λu s1 ⟨x,H1,I1,r1,q1⟩=>?_;cases x with
 |int i =>
  obtain⟨t,rfl⟩:=r1;exact⟨some i,H1,I1,.int i t,q1⟩
 |_=>exact(show False from q1).elim
theorem zc{e:Expr}{te:TE}{lo hi:Option Expr}{tl th:TO}{pos p2:Pos}(he:PE X e te)(hl:PO X lo tl)(hu:PO X hi th):PE X (.Subscript e (.Slice lo hi none p2) pos) (tSl (mSl X.K) te tl th):=V5 M6 he hl hu
def Mv(t:TA):TE:=fun σ H Q=>t σ H λxs H1=>xs.length<=sizeLine/\New H1 (.tup xs) Q
def Mq(t:TA):TE:=fun σ H Q=>t σ H λxs H1=>xs.length<=sizeLine/\New H1 (.lst xs) Q
theorem yy{es:List Expr}{t:TA}{pos:Pos}{x1}(h:PA X es t):PE X (.Tuple es x1 pos) (Mv t):=by
 intro pins s σ H Q I hq;refine wpAny_Tuple_spliced (thn (h pos pins s σ H _ I hq) λus s1 ⟨xs,H1,I1,r,z,q⟩=>⟨by rw[<-r.length];exact z,?_⟩);have hf:H1 s1.heap.objs.size=none:=I1.hok.fresh (zS _);refine⟨.ref s1.heap.objs.size,upd H1 s1.heap.objs.size (.tup xs),I1.laid (t':=s1.toks) (λb u e=>zY _ e) (zS _) ?_,rfl,q.at _ hf⟩;exact⟨z,us,r,⟨_,zR _ rfl,rfl,_,rfl⟩⟩
theorem xp{es:List Expr}{t:TA}{pos:Pos}(h:PA X es t):PE X (.List es pos) (Mq t):=by
 intro pins s σ H Q I hq;refine wpAny_List_spliced (thn (h pos pins s σ H _ I hq) λus s1 ⟨xs,H1,I1,r,z,q⟩=>⟨by rw[<-r.length];exact z,?_⟩);have hf:H1 s1.heap.objs.size=none:=I1.hok.fresh (zS _);refine⟨.ref s1.heap.objs.size,upd H1 s1.heap.objs.size (.lst xs),I1.laid (t':=s1.toks) (λb u e=>zY _ e) (zS _) ?_,rfl,q.at _ hf⟩;exact⟨z,us,0,r,zR _ rfl⟩
def mB(t:TE):TT:=fun σ H Q=>t σ H (Vy Q)
theorem zb{a b:Expr}{op:CmpOp}{r:R2}{ta tb:TE}{pos:Pos}(ho:OpR X (compareOp op) r)(ha:PE X a ta)(hb:PE X b tb)(hm:behindInMarks op b=false):PT X (.Compare a [op] [b] pos) (mB (tOp r ta tb)):=by
 intro pins s σ H Q I h;refine wpAny_isTrue_Compare1 (thn (ha pins s σ H _ I h) λv s1 ⟨x,H1,I1,r1,q1⟩=>thn (hb pins s1 σ H1 _ I1 q1) λu s2 ⟨y,H2,I2,r2,q2⟩ =>
  thn (ho pins s2 σ H2 x y v u _ I2 r1 r2 q2) λc s3 ⟨z,H3,I3,r3,q3⟩=>?_) hm
 cases z with
 |bl k =>
  cases r3;exact wL ⟨H3,I3,q3⟩
 |_=>exact(show False from q3).elim
theorem wy{e:Expr}{t:TE}(h:PE X e t)(he:∀lZ,isTrue e X.env lZ=(do let v <-lZ;standAt e.pos;holding [v] (truthy v)):=by intro _;rfl):PT X e (mB t):=by
 intro pins s σ H Q I hw;refine isTrue_plain (thn (h pins s σ H _ I hw) λv s1 ⟨x,H1,I1,r1,q1⟩=>?_) (he _);cases x with
 |bl k =>
  cases r1;exact wL ⟨H1,I1,q1⟩
 |_=>exact(show False from q1).elim
def Rt(ta tb:TE):TE:=fun σ H Q=>ta σ H (Vy λc H1=>if c=true then tb σ H1 Q else Q (.bl false) H1)
def Mt(ta tb:TE):TE:=fun σ H Q=>ta σ H (Vy λc H1=>if c=true then Q (.bl true) H1 else tb σ H1 Q)
def Rv(ta:TE):TE:=fun σ H Q=>ta σ H (Vy λc H1=>Q (.bl (!c)) H1)
theorem v7{a b:Expr}{rest:List Expr}{ta tb:TE}{pos:Pos}(ha:PE X a ta)(hb:PE X (.BoolOp .And (b::rest) pos) tb):PE X (.BoolOp .And (a::b::rest) pos) (Rt ta tb):=by
 intro pins s σ H Q I h;refine BoolOp_and (thn (ha pins s σ H _ I h) λv s1 ⟨x,H1,I1,r1,q1⟩=>?_);cases x with
 |bl c =>
  cases r1;refine wL ?_;cases c with
  |true=>exact hb pins s1 σ H1 Q I1 q1
  |false=>exact⟨.bl false,H1,I1,rfl,q1⟩
 |_=>exact(show False from q1).elim
theorem Sy{a b:Expr}{rest:List Expr}{ta tb:TE}{pos:Pos}(ha:PE X a ta)(hb:PE X (.BoolOp .Or (b::rest) pos) tb):PE X (.BoolOp .Or (a::b::rest) pos) (Mt ta tb):=by
 intro pins s σ H Q I h;refine BoolOp_or (thn (ha pins s σ H _ I h) λv s1 ⟨x,H1,I1,r1,q1⟩=>?_);cases x with
 |bl c =>
  cases r1;refine wL ?_;cases c with
  |false=>exact hb pins s1 σ H1 Q I1 q1
  |true=>exact⟨.bl true,H1,I1,rfl,q1⟩
 |_=>exact(show False from q1).elim
theorem j5{a:Expr}{ta:TE}{pos:Pos}(ha:PE X a ta):PE X (.UnaryOp .Not a pos) (Rv ta):=by
 intro pins s σ H Q I h;refine UnaryOp_ (thn (ha pins s σ H _ I h) λv s1 ⟨x,H1,I1,r1,q1⟩=>?_);cases x with
 |bl c =>
  cases r1;exact not_of (wL ⟨.bl (!c),H1,I1,rfl,q1⟩)
 |_=>exact(show False from q1).elim
def Px(K:W.Frag):List V->Hp->VK->Prop:=λxs H Q=>match xs with
 |[.str z]=>z.length<=sizeLine/\Q (.int z.length) H
 |[.ref p]=>∃ys,(SqL K H p ys\/SqT K H p ys)/\Q (.int ys.length) H
 |_=>False
theorem xz:xi X (.builtin "len") (Px X.K):=by
 intro pins s σ H xs us Q I r h
 match xs,h with
 |[.str z],h=>exact gu pins s σ H _ us Q I r ⟨z,rfl,h.1,h.2⟩
 |[.ref p],h =>
  obtain⟨ys,hs,q⟩:=(show∃ys,(SqL X.K H p ys\/SqT X.K H p ys)/\Q (.int ys.length) H from h)
  exact gr pins s σ H _ us Q I r ⟨p,ys,rfl,hs,q⟩
theorem Zh{C:Addr->Prop}{xs:List V}(h:match xs with|[.ref p]=>C p|_=>False):∃p,xs=[.ref p]/\C p:=by
 rcases xs with _|⟨x,_|⟨_,_⟩⟩
 ·exact(show False from h).elim
 ·cases x with
  |ref p=>exact⟨p,rfl,h⟩
  |_=>exact(show False from h).elim
 ·exact(show False from by cases x<;>exact h).elim
def Zc(K:W.Frag):List V->Hp->VK->Prop:=λxs H Q=>match xs with
 |[.ref p]=>∃ys,(SqL K H p ys\/SqT K H p ys)/\New H (.lst ys) Q
 |_=>False
theorem Vn:xi X (.type "list") (Zc X.K):=by
 intro pins s σ H xs us Q I r h;obtain⟨p,rfl,ys,hs,q⟩:=Zh (C:=λp=>∃ys,(SqL X.K H p ys\/SqT X.K H p ys)/\New H (.lst ys) Q) h;exact gw pins s σ H _ us Q I r ⟨p,ys,rfl,hs,q.at⟩
def Vk(K:W.Frag):List V->Hp->VK->Prop:=λxs H Q=>match xs with
 |[.ref p]=>∃ys,(SqL K H p ys\/SqT K H p ys)/\∀(r:Addr)(H':Hp),Same H H'->SqT K H' r ys->Q (.ref r) H'
 |_=>False
theorem xu:xi X (.type "tuple") (Vk X.K):=by
 intro pins s σ H xs us Q I r h;obtain⟨p,rfl,ys,hs,q⟩:=Zh (C:=λp=>∃ys,(SqL X.K H p ys\/SqT X.K H p ys)/\∀(r:Addr)(H':Hp),Same H H'->SqT X.K H' r ys->Q (.ref r) H') h;rcases hs with hs|hs
 ·exact ug pins s σ H _ us Q I r ⟨p,ys,rfl,.inl ⟨hs,λl n=>q l _ (xg n _) (SqT.of zy)⟩⟩
 ·exact ug pins s σ H _ us Q I r ⟨p,ys,rfl,.inr ⟨hs,q p H (Same.refl H) hs⟩⟩
inductive TyX (K:W.Frag) (H:Hp):V->Value->Prop where
 |of {x:V}{t:Value} (h:TyOf K H x t):TyX K H x t
 |tup {a:Addr}{xs:List V} (h:SqT K H a xs):TyX K H (.ref a) (.type "tuple")
 |lst {a:Addr}{xs:List V} (h:SqL K H a xs):TyX K H (.ref a) (.type "list")
def Mo(K:W.Frag):List V->Hp->VK->Prop:=λxs H Q=>match xs with
 |[x,.ty c]=>∃t b,TyX K H x t/\W.kitOne K t (.type c)=some b/\Q (.bl b) H
 |_=>False
theorem O3{C:V->String->Prop}{xs:List V}(h:match xs with|[x,.ty c]=>C x c|_=>False):∃x c,xs=[x,.ty c]/\C x c:=by
 rcases xs with _|⟨x,_|⟨y,_|⟨_,_⟩⟩⟩
 ·exact(show False from h).elim
 ·exact(show False from h).elim
 ·cases y with
  |ty c=>exact⟨x,c,rfl,h⟩
  |_=>exact(show False from h).elim
 ·exact(show False from by cases y<;>exact h).elim
theorem vq:xi X (.builtin "isinstance") (Mo X.K):=by
 intro pins s σ H xs us Q I r h;obtain⟨x,c,rfl,t,b,ty,e,q⟩:=O3 (C:=λx c=>∃t b,TyX X.K H x t/\W.kitOne X.K t (.type c)=some b/\Q (.bl b) H) h;obtain⟨u,w',rfl,r1,r2⟩:=gg r;cases r2;cases ty with
 |of ty=>exact Xo I r1 ty e λtk=>⟨.bl b,H,I.tok tk,rfl,q⟩
 |tup hq =>
  cases r1;obtain⟨aF,_,⟨o,h1,h2,_⟩,_⟩:=I.tuple hq;exact xP W.kitx_tuple I.kIn ⟨o,h1,h2⟩ e (λz=>nomatch z) λtk=>⟨.bl b,H,I.tok tk,rfl,q⟩
 |lst hq =>
  cases r1;obtain⟨aF,_,pl,_⟩:=I.list hq;obtain⟨o,h1,h2,_⟩:=pl.isList;exact xP W.kitx_list I.kIn ⟨o,h1,h2⟩ e (λz=>nomatch z) λtk=>⟨.bl b,H,I.tok tk,rfl,q⟩
def Mi:V->List V->Hp->VK->Prop:=λx vs H Q=>match x,vs with
 | .ref l,[y]=>∃xs,H l=some (.lst xs)/\xs.length<sizeLine/\Q .non (upd H l (.lst (xs++[y])))
 |_,_=>False
theorem Tw{C:Addr->V->Prop}{x:V}{vs:List V}(h:match x,vs with|.ref l,[y]=>C l y|_,_=>False):∃l y,x = .ref l/\vs=[y]/\C l y:=by
 cases x with
 |ref l =>
  rcases vs with _|⟨y,_|⟨_,_⟩⟩
  ·exact(show False from h).elim
  ·exact⟨l,y,rfl,rfl,h⟩
  ·exact(show False from h).elim
 |_=>exact(show False from by rcases vs with _|⟨y,_|⟨_,_⟩⟩<;>exact h).elim
theorem Vl:MtR X "list.append" Mi:=λpins s σ H x xs v us Q I rx rs h=>by
 obtain⟨l,y,rfl,rfl,ys,e,z,q⟩:=Tw (C:=λl y=>∃ys,H l=some (.lst ys)/\ys.length<sizeLine/\Q .non (upd H l (.lst (ys++[y])))) h;exact qu pins s σ H _ _ v us Q I rx rs ⟨l,ys,y,rfl,rfl,e,z,q⟩
def K8:V->List V->Hp->VK->Prop:=λx vs H Q=>match x,vs with
 | .ref l,[]=>∃xs y,H l=some (.lst xs)/\xs[xs.length-1]?=some y/\Q y (upd H l (.lst xs.dropLast))
 |_,_=>False
def mBM(r:V->List V->Hp->VK->Prop)(to:TE)(t:TA):TE:=fun σ H Q=>to σ H λx H1=>(∃p xs,x = .ref p/\H1 p=some (.lst xs))/\t σ H1 λxs H2=>r x xs H2 Q
def K4(r:V->List V->Hp->VK->Prop)(to:TE):TE:=fun σ H Q=>to σ H λx H1=>(∃p xs,x = .ref p/\H1 p=some (.lst xs))/\r x [] H1 Q
theorem d7{o e:Expr}{es:List Expr}{to:TE}{t:TA}{name:Str}{apos cpos:Pos}{id:String}{r:V->List V->Hp->VK->Prop}(slot:Slot "list" name id)(hty:typeOf (.builtin id)=pure (.type "method_descriptor"))(hm:MtR X id r)(ho:PE X o to)(ha:PA X (e::es) t)
  (Ic:attributeBase o name X.env (eval o X.env)=eval o X.env:=by rfl)
  (Bi:((backTo cpos (starEach (e::es) X.env)).all (λx=>!x.1)&&(backToKw cpos (keywordEach [] X.env)).all (λx=>x.1.isSome)
  &&decide ((e::es).length+([]:List Keyword).length+(if([]:List Keyword).isEmpty then 0 else 1)<30))=true:=by rfl)
  (HF:(apos.endLine==cpos.line)=true:=by rfl) (hs:starEach (e::es) X.env=(false,eval e X.env)::starEach es X.env:=by rfl) (AX:(backTo cpos (starEach es X.env)).any (·.1)=false:=by rfl) :
  PE X (.Call (.Attribute o name apos) (e::es) [] cpos) (mBM r to t):=by
 intro pins s σ H Q I h;refine wpAny_Call_method_late Ic Bi HF rfl (thn (ho pins s σ H _ I h) λv s1 ⟨x,H1,I1,r1,⟨p,xs,e,hp⟩,q1⟩=>?_);subst e;obtain⟨h1,h2⟩:=Rl (T:="list") I1 r1 (.inl ⟨rfl,xs,SqL.of hp⟩);refine⟨"list",id,F.plainAttrs_list,slot,hty,h1,h2,?_⟩;have hA:=ha cpos pins s1 σ H1 _ I1 q1;rw[hs]at hA ⊢;refine Calls.callWith_builtin (by show(false||(backTo cpos (starEach es X.env)).any (·.1))=false;rw[AX]<;>rfl) (Calls.evalArgs_plain ?_);exact thn hA λus s2 ⟨vs,H2,I2,r2,q2⟩=>hm pins s2 σ H2 _ vs v us Q I2 r1 r2 q2
def Md(K:W.Frag)(tl:TE):TI:=fun σ H R=>tl σ H (Zf λa H1=>((∃xs,SqL K H1 a xs)/\R (Itl K a) H1)\/((∃xs,SqT K H1 a xs)/\R (Itt K a) H1))
theorem ym{tg l:Expr}{tl:TE}(hl:PE X l tl):PI X tg l (Md X.K tl):=by
 intro pins s σ H R I h;refine thn (hl pins s σ H _ I h) λv s1 ⟨x,H1,I1,r1,q1⟩=>?_;cases x with
 |ref a =>
  cases r1;rcases(show((∃xs,SqL X.K H1 a xs)/\R (Itl X.K a) H1)\/((∃xs,SqT X.K H1 a xs)/\R (Itt X.K a) H1)from q1)with⟨⟨xs,hq⟩,q⟩|⟨⟨xs,hq⟩,q⟩
  ·obtain⟨aF,rv,p,hz⟩:=I1.list hq;refine wK p.isList ?_;refine⟨s1.heap.objs.size,[s1.heap.objs.size],_,_,H1,rfl,I1.kept (t':=s1.toks) λb o e=>zY _ e,rf a _,⟨_,zR _ rfl,rfl,rfl⟩,λb hb=>?_,q⟩;have e:b=s1.heap.objs.size:=by simpa using hb
   subst e;exact I1.fpOk (zS _) (I1.hok.fresh (zS _))
  ·obtain⟨aF,rv,p,hz⟩:=I1.tuple hq;refine wR (show s1.heap.IsTuple a aF.toArray from p) ?_;refine⟨s1.heap.objs.size,[s1.heap.objs.size],_,_,H1,rfl,I1.kept (t':=s1.toks) λb o e=>zY _ e,cr a _,⟨_,zR _ rfl,rfl,rfl⟩,λb hb=>?_,q⟩;have e:b=s1.heap.objs.size:=by simpa using hb
   subst e;exact I1.fpOk (zS _) (I1.hok.fresh (zS _))
 |_=>exact(show False from q1).elim
def iR1(ta:TA):TI:=fun σ H R=>ta σ H (on1 (Vz λj H1=>(-(2 ^ 62)<=j/\j<2 ^ 62)/\R (Itr 0 j.toNat) H1))
theorem ye{tg a:Expr}{ta:TA}{p pos:Pos}(hg:Gl X "range")(hm:X.mg "range"=none)(ha:PA X [a] ta)(hs:starEach [a] X.env=[(false,eval a X.env)]:=by rfl):PI X tg (.Call (.Name "range" p) [a] [] pos) (iR1 ta):=by
 intro pins s σ H R I h;refine Call_ (u4 I hg hm boot_range (wT (thn (ha pos pins s σ H _ I h) λus s1 ⟨vs,H1,I1,r1,q1⟩=>?_) hs rfl));rcases vs with _|⟨x,_|⟨y,rr⟩⟩
 ·exact(show False from q1).elim
 ·cases x with
  |int j =>
   obtain⟨⟨q1,q2⟩,q⟩:=(show(-(2 ^ 62)<=j/\j<2 ^ 62)/\R (Itr 0 j.toNat) H1 from q1)
   cases r1 with
   |cons r rr =>
    cases rr;obtain⟨t,rfl⟩:=r;exact call_range_1 (Wd I1 (by lia) (by lia) q1 q2 (by simpa using q))
  |_=>exact(show False from q1).elim
 ·exact(show False from q1).elim
def Zz(g:TG)(tb:TS)(J:It)(D:u9)(σ:St)(H1:Hp):Prop:=∃W:Nat->Nat->St->Hp->Prop,(∃m,W 0 m σ H1)/\∀i m σ H,W i m σ H ->
 (J.stop i H/\D.nx σ H)\/(J.go i H/\∃N:St->Hp->Prop,(∀σ' H',N σ' H'->∃m',m'<m/\W (i+1) m' σ' H')/\∀x H',J.yld i H x H'->g x σ H' fun σ2 H2=>tb { D with nx:=N,ct:=N,bk:=D.nx } σ2 H2)
def Pu(wi:TI)(g:TG)(tb:TS):TS:=λD σ H=>wi σ H λJ H1=>Zz g tb J D σ H1
theorem wx{tg iter:Expr}{body:List Stmt}{wi:TI}{g:TG}{tb:TS}{pos:Pos}(hp:PassesOwn (model X.prog X.w) X.A X.env X.xe)(hc:X.calm=true)(hi:PI X tg iter wi)(hg:PG X tg g)(hb:PSs X body tb)
  (hs:∀x,foldedSetIterable iter X.env x=pure x:=by intro _;rfl):PS X (.For tg iter body [] pos) (Pu wi g tb):=Qr hp hc hi hg hb hs
theorem qp{K:W.Frag}{a:Addr}{xs:List V}{g:TG}{tb:TS}{D:u9}{σ:St}{H:Hp}(Pv:Nat->St->Hp->Prop)(h0:Pv 0 σ H)(hl:∀i σ H,i<=xs.length->Pv i σ H->SqL K H a xs)
  (hs:∀i x σ H,xs[i]?=some x->Pv i σ H->g x σ H fun σ2 H2=>tb { D with nx:=Pv (i+1),ct:=Pv (i+1),bk:=D.nx } σ2 H2) (hd:∀σ H,Pv xs.length σ H->D.nx σ H):Zz g tb (Itl K a) D σ H:=Us Pv h0 hl hs hd
theorem xf{K:W.Frag}{a:Addr}{xs:List V}{g:TG}{tb:TS}{D:u9}{σ:St}{H:Hp}(Pv:Nat->St->Hp->Prop)(h0:Pv 0 σ H)(hl:∀i σ H,i<=xs.length->Pv i σ H->SqT K H a xs)
  (hs:∀i x σ H,xs[i]?=some x->Pv i σ H->g x σ H fun σ2 H2=>tb { D with nx:=Pv (i+1),ct:=Pv (i+1),bk:=D.nx } σ2 H2) (hd:∀σ H,Pv xs.length σ H->D.nx σ H):Zz g tb (Itt K a) D σ H:=Sm Pv h0 hl hs hd
theorem wt{n:Nat}{g:TG}{tb:TS}{D:u9}{σ:St}{H:Hp}(Pv:Nat->St->Hp->Prop)(h0:Pv 0 σ H)
  (hs:∀i σ H,i<n->Pv i σ H->g (.int (0+(i:Int))) σ H fun σ2 H2=>tb { D with nx:=Pv (i+1),ct:=Pv (i+1),bk:=D.nx } σ2 H2) (hd:∀σ H,Pv n σ H->D.nx σ H):Zz g tb (Itr 0 n) D σ H:=Xj Pv h0 hs hd
def Lz(c:TT)(tb:TS)(D:u9)(σ:St)(H:Hp):Prop:=Rk c tb D σ H
def Pz(c:TT)(tb:TS):TS:=λD σ H=>Lz c tb D σ H
end
section
variable {K:W.Frag}{H:Hp}{Q:VK}{i j:Int}{x y:Str}{p r:Addr}{c d:Bool}{g:Bool->Bool}{v:V}{neg:Bool}
theorem Qu:Sv K (.int i) (.int j) H Q=Q (.int (i+j)) H:=rfl
theorem Qw:Sv K (.str x) (.str y) H Q=(x.length+y.length<=sizeLine/\Q (.str (x++y)) H):=rfl
theorem Qv:Sv K (.ref p) (.ref r) H Q=((∃xs ys,H p=some (.lst xs)/\H r=some (.lst ys)/\xs.length+ys.length<=sizeLine/\New H (.lst (xs++ys)) Q) \/
   ∃xs ys,SqT K H p xs/\SqT K H r ys/\xs.length+ys.length<=sizeLine/\∀(p:Addr)(H':Hp),Same H H'->SqT K H' p (xs++ys)->Q (.ref p) H'):=rfl
theorem Le{C:Int->Int->Prop}{f:Int->Int->V}:mII C f (.int i) (.int j) H Q=(C i j/\Q (f i j) H):=rfl
theorem Nx{f:Int->Int->V}:Vh f (.int i) (.int j) H Q=Q (f i j) H:=rfl
theorem Nu:mf K g (.int i) (.int j) H Q=Q (.bl (g (decide (i=j)))) H:=rfl
theorem Nr:mf K g (.bl c) (.bl d) H Q=Q (.bl (g (decide (c=d)))) H:=rfl
theorem Nw:mf K g (.str x) (.str y) H Q=Q (.bl (g (decide (x=y)))) H:=rfl
theorem Q1:mf K g .non .non H Q=Q (.bl (g true)) H:=rfl
theorem Qz:mf K g .non (.bl c) H Q=Q (.bl (g false)) H:=rfl
theorem Qx:mf K g (.bl c) .non H Q=Q (.bl (g false)) H:=rfl
theorem Q0:mf K g .non (.int i) H Q=Q (.bl (g false)) H:=rfl
theorem Qy:mf K g (.int i) .non H Q=Q (.bl (g false)) H:=rfl
theorem Nv:mf K g (.ref p) (.ref r) H Q=(∃da db,Has K H (.ref p) da/\Has K H (.ref r) db/\SeqAt.shaped da=true/\SeqAt.shaped db=true/\Q (.bl (g (PyData.eqv da db))) H):=rfl
theorem N4:mLe (.int i) (.int j) H Q=Q (.bl (decide (i<=j))) H:=rfl
theorem N3:mLe (.bl c) (.bl d) H Q=Q (.bl (!c||d)) H:=rfl
theorem Lf:mIn K neg v (.ref p) H Q=(∃xs,(SqL K H p xs\/SqT K H p xs)/\wc v=true/\xs.all wc=true/\Q (.bl (if neg then !inV v xs else inV v xs)) H):=rfl
theorem N2:mIx K (.str x) (.int i) H Q=(x.length<=sizeLine/\∃c,atI x.cps.toList i=some c/\Q (.str ⟨#[c]⟩) H):=rfl
theorem N1:mIx K (.ref p) (.int i) H Q=(∃xs v,(SqL K H p xs\/SqT K H p xs)/\atI xs i=some v/\Q v H):=rfl
theorem Oa{lo hi:Option Int}:mSl K (.str x) lo hi H Q=(x.length<=sizeLine/\Q (.str (Txt.slice x lo hi)) H):=rfl
theorem N9{lo hi:Option Int}:mSl K (.ref p) lo hi H Q=((∃xs,SqL K H p xs/\New H (.lst (v9 xs lo hi)) Q)\/∃xs,SqT K H p xs/\∀(p:Addr)(H':Hp),Same H H'->SqT K H' p (v9 xs lo hi)->Q (.ref p) H'):=rfl
theorem Q6:Px K [.str x] H Q=(x.length<=sizeLine/\Q (.int x.length) H):=rfl
theorem Q5:Px K [.ref p] H Q=(∃ys,(SqL K H p ys\/SqT K H p ys)/\Q (.int ys.length) H):=rfl
theorem Wc:Zc K [.ref p] H Q=(∃ys,(SqL K H p ys\/SqT K H p ys)/\New H (.lst ys) Q):=rfl
theorem Tr:Vk K [.ref p] H Q=(∃ys,(SqL K H p ys\/SqT K H p ys)/\∀(r:Addr)(H':Hp),Same H H'->SqT K H' r ys->Q (.ref r) H'):=rfl
theorem N0{T:String}:Mo K [v,.ty T] H Q=(∃t b,TyX K H v t/\W.kitOne K t (.type T)=some b/\Q (.bl b) H):=rfl
theorem Np:Mi (.ref p) [v] H Q=(∃xs,H p=some (.lst xs)/\xs.length<sizeLine/\Q .non (upd H p (.lst (xs++[v])))):=rfl
theorem N7:K8 (.ref p) [] H Q=(∃xs y,H p=some (.lst xs)/\xs[xs.length-1]?=some y/\Q y (upd H p (.lst xs.dropLast))):=rfl
end
structure zw(P:Program)(w:World)(K:W.Frag)(mg:Str->Option Value)(base:Heap)(k:Nat)(x:Str)(ps:List Str)(sp:Sp):Prop where
 ex:∃(f:Addr)(fd:FuncData),ul P w K mg base CX0 k f fd ps sp/\Binds K fd ps []/\W.keepIn K (.ref f)=true/\mg x=some (.ref f)
theorem zx{X:Cx}{k k':Nat}{x:Str}{ps:List Str}{sp:Sp}{t:TA}{e:Expr}{es:List Expr}{p pos:Pos}(C:zw X.prog X.w X.K X.mg X.base k x ps sp)(hr:Room k' X.A)(hk:k<=k')(ha:PA X (e::es) t)(hg:Gl X x:=by rfl)
  (jD:(x==("__debug__":Str))=false:=by decide) (he:starEach (e::es) X.env=(false,eval e X.env)::starEach es X.env:=by rfl) (fG:(backTo pos (starEach es X.env)).any (·.1)=false:=by rfl) :
  PE X (.Call (.Name x p) (e::es) [] pos) (Zx sp [] E0 t):=by
 obtain⟨f,fd,F,b,kp,hm⟩:=C.ex;exact Zk F (hr.mono hk) hg hm kp b .nil Nk ha jD he fG
structure Def(K:W.Frag)(mg:Str->Option Value)(x:Str)(st:Stmt)(ps:List Str):Prop where
 ex:∃(f:Addr)(fd:FuncData),Fun K x x st f fd/\(∀us:List Value,us.length=ps.length->bindArgs fd ⟨us,[]⟩=pure (ps.zip us))/\mg x=some (.ref f)
section
variable {P:Program}{w:World}{K:W.Frag}{mg:Str->Option Value}{base:Heap}
theorem Ut{x:Str}{st:Stmt}{f:Addr}{fd:FuncData}{N ps:List Str}{k:Nat}{sp:Sp}(F:Fun K x x st f fd)(S:zj N ps (z0 st))(len:∀vs H Q E,sp vs H Q E->vs.length=ps.length)
  (cF:∀(f:Addr)(cdv:Value)(A:Around)(outer:List Env)(s:Shared)(H:Hp)(vs:List V)(Q:VK)(E:XK),Room k (A.deeper (envOfC x (z0 st) s.heap.objs.size f cdv))->sp vs H Q E ->
   ∃σ t,vy N vs=σ/\PSs (wj CX0 P w K mg base N x (z0 st) f cdv A outer s H E).nox (zq st) t/\t { nx:=λ_ H'=>Q .non H',rt:=Q } σ H):ul P w K mg base CX0 (k+1) f fd ps sp :=
 F.ok S len λcdv A outer s H vs Q E hr h=>by
  obtain⟨σ,t,e,ht,q⟩:=cF f cdv A outer s H vs Q E hr h;exact⟨t,ht,by rw[e];exact q⟩
theorem Def.callee{x:Str}{st:Stmt}{N ps:List Str}{k:Nat}{sp:Sp}(F:Def K mg x st ps)(S:zj N ps (z0 st))(len:∀vs H Q E,sp vs H Q E->vs.length=ps.length)
  (cF:∀(f:Addr)(cdv:Value)(A:Around)(outer:List Env)(s:Shared)(H:Hp)(vs:List V)(Q:VK)(E:XK),Room k (A.deeper (envOfC x (z0 st) s.heap.objs.size f cdv))->sp vs H Q E ->
   ∃σ t,vy N vs=σ/\PSs (wj CX0 P w K mg base N x (z0 st) f cdv A outer s H E).nox (zq st) t/\t { nx:=λ_ H'=>Q .non H',rt:=Q } σ H):zw P w K mg base (k+1) x ps sp:=by
 obtain⟨f,fd,F,b,hm⟩:=F.ex;exact⟨f,fd,Ut F S len cF,.all b,F.kp,hm⟩
theorem y6{h:Heap}{x:Str}{st:Stmt}{ps:List Str}{f:Addr}{oc:Value}{od an:Option Addr}{osl:Array (Option Value)}{kV doc pm cdv ct:Value}(X:K.In h)(G:h.Ns mainGlobals mg)
  (a:W.nsIn K mainGlobals x=some (some (.ref f))) (l:K.lookup f=some ⟨oc,od,.func (W.fnOf x x (zk st) (zq st) (z0 st) .none kV doc pm an cdv ct),osl⟩)
  (c:W.codeIn K cdv x=true) (k:W.keepIn K (.ref f)=true)
  (hb:∀(kV doc pm:Value)(an:Option Addr)(cdv ct:Value)(us:List Value),us.length=ps.length->bindArgs (W.fnOf x x (zk st) (zq st) (z0 st) .none kV doc pm an cdv ct) ⟨us,[]⟩=pure (ps.zip us)):Def K mg x st ps :=
 ⟨f,_,ac l c k,hb kV doc pm an cdv ct,wZ X G a⟩
end
end My
namespace My
open PySem PySem.Spec L2
open PyProof.Rows hiding St
def ze(X:Cx)(N':List Str)(scope:Scope)(cl:List (Str×Addr))(C:Addr)(s₀:Shared)(H₀:Hp)(ex:List Addr):Cx where
 prog:=X.prog
 w:=X.w
 K:=X.K
 mg:=X.mg
 base:=X.base
 A:=X.A
 N:=N'
 s₀:=s₀
 H₀:=H₀
 env:=compEnvC scope cl C X.env
 outer:=X.stack
 stack:=X.stack
 ex:=ex
 fn:=λ_=>false
 calm:=X.calm
 pn:=[]
 xe:=λ_ _=>False
structure CompOk(X:Cx)(own N:List Str)(scope:Scope)(cl:List (Str×Addr)):Prop where
 clos:closureFor scope X.env=pure cl
 sub:∀p∈cl,X.env.cells.lookup p.1=some p.2
 have_:∀p∈scope.names,p.2 = .free->∃c,cl.lookup p.1=some c
 nocell:∀y∈scope.names,y.2≠.cell
 kind:scope.kind = .function
 names:∀y∈scope.names,y.2 = .local->scope.names.lookup y.1=some .local
 mine:∀x∈own,scope.names.lookup x=some .local
 nd:(own++N).Nodup
 cells:∀y∈N,X.env.kindOf y=some .cell\/X.env.kindOf y=some .free
 free:∀y∈N,∃c,cl.lookup y=some c
 vis:∀y∈N,(relabel scope X.env).names.lookup y=some .cell\/(relabel scope X.env).names.lookup y=some .free
theorem wf{env:Env}:∀{names:List (Str×NameKind)}{x:Str}{k:NameKind},
  (names.map λ(n,k)=>if(k==NameKind.free&&env.scope.kind == .function&&env.kindOf n==some .cell)then(n,NameKind.cell)else(n,k)).lookup x=some k ->
  (k = .cell\/k = .free)->names.lookup x=some .cell\/names.lookup x=some .free
 |[],_,_,h,_=>by simp at h
 |(n,k')::r,x,k,h,hk=>by
  have ih:=@wf env r x k;have h':List.lookup x ((if(k'==NameKind.free&&env.scope.kind == .function&&env.kindOf n==some .cell)=true then(n,NameKind.cell)else(n,k'))::(r.map λ(n,k)=>if(k==NameKind.free&&env.scope.kind == .function&&env.kindOf n==some .cell)then(n,NameKind.cell)else(n,k)))=some k:=h
  by_cases hc:(k'==NameKind.free&&env.scope.kind == .function&&env.kindOf n==some .cell)=true
  ·rw[yS hc]at h';have eM:k' = .free:=by
    rw[yQ,yQ]at hc;exact eq_of_beq hc.1.1
   cases hx:x==n with
   |true=>right;simp only[uR,hx,eM]
   |false =>
    simp only[uR,hx]at h' ⊢;exact ih h' hk
  ·rw[yY hc]at h';cases hx:x==n with
   |true =>
    simp only[uR,hx]at h' ⊢;cases h';rcases hk with rfl|rfl
    ·left;rfl
    ·right;rfl
   |false =>
    simp only[uR,hx]at h' ⊢;exact ih h' hk
section
variable {X:Cx}{own N:List Str}{scope:Scope}{cl:List (Str×Addr)}
theorem CompOk.up(k:CompOk X own N scope cl){y:Str}{c:Addr}(h:cl.lookup y=some c):X.env.cells.lookup y=some c:=k.sub (y,c) (xC h)
theorem ah{NX:List Str}{ixs:List Nat}{N:List Str}(h:ixs.map (λi=>NX[i]?)=N.map some):ixs.length=N.length:=by
 have:=xF List.length h;simpa using this
theorem U1{NX:List Str}{ixs:List Nat}{N:List Str}(h:ixs.map (λi=>NX[i]?)=N.map some):∀(j:Nat)(i:Nat),ixs[j]?=some i->∃y,NX[i]?=some y/\N[j]?=some y:=λj i e=>by
 have h1:(ixs.map (λi=>NX[i]?))[j]?=(N.map some)[j]?:=by rw[h]
 rw[zE,zE,e]at h1;cases e2:N[j]? with
 |none=>rw[e2]at h1;cases h1
 |some y=>rw[e2]at h1;exact⟨y,zB h1,rfl⟩
theorem y9(clos:closureFor scope X.env=pure cl)(sub:cl.map (λp=>X.env.cells.lookup p.1)=cl.map (λp=>some p.2))
  (b1:(scope.names.all λp=>!(p.2 == .free)||(cl.lookup p.1).isSome)=true) (b2:(scope.names.all λp=>!(p.2 == .cell))=true) (kind:scope.kind = .function)
  (b3:(scope.names.all λp=>!(p.2 == .local)||scope.names.lookup p.1==some .local)=true) (ow:own.map (λx=>scope.names.lookup x)=own.map (λ_=>some .local)) (nd:(own++N).Nodup)
  (b4:(N.all λy=>X.env.kindOf y==some .cell||X.env.kindOf y==some .free)=true) (b5:(N.all λy=>(cl.lookup y).isSome)=true)
  (b6:(N.all λy=>(relabel scope X.env).names.lookup y==some .cell||(relabel scope X.env).names.lookup y==some .free)=true):CompOk X own N scope cl:=by
 rw[vM]at b1 b2 b3 b4 b5 b6;refine⟨clos,List.map_inj_left.mp sub,λp hp hf=>?_,λp hp hc=>?_,kind,λp hp hl=>?_,List.map_inj_left.mp ow,nd,λy hy=>?_,λy hy=>uI.mp (b5 y hy),λy hy=>?_⟩
 ·have h:=b1 p hp;rw[hf]at h;exact uI.mp (by simpa using h)
 ·have h:=b2 p hp;rw[hc]at h;simp at h
 ·have h:=b3 p hp;rw[hl]at h;simpa using h
 ·have h:=b4 y hy;rw[Bool.or_eq_true]at h;exact h.imp eq_of_beq eq_of_beq
 ·have h:=b6 y hy;rw[Bool.or_eq_true]at h;exact h.imp eq_of_beq eq_of_beq
theorem di{pins:List (Addr×Obj)}{σ:St}{H:Hp}{s:Shared}{fp:List Addr}{h₁:Heap}{tk:Nat}{ixs:List Nat}(k:CompOk X own N scope cl)(I:Inv X pins σ H s)(hf:∀b∈fp,vo X pins H b)(Cz:∀b∈fp,b<s.heap.objs.size)
  (HL:∀(j:Nat)(i:Nat),ixs[j]?=some i->∃y,X.N[i]?=some y/\N[j]?=some y) (aN:ixs.length=N.length)
  (nR:h₁.Ns s.heap.objs.size λ_=>none) (HI:∀b o,b≠s.heap.objs.size->s.heap.get? b=some o->h₁.get? b=some o) :
  Inv (ze X (own++N) scope cl s.heap.objs.size s H fp) [] (own.map (λ_=>none)++ixs.map (gv σ)) H { s with heap:=h₁,toks:=tk }:=by
 have old:∀b o,s.heap.get? b=some o->h₁.get? b=some o:=λb o e=>HI b o (zI (zT e)) e;have nfs:∀b∈fp,b∉frs X.stack:=λb hb z=>by
  rcases zG.mp (I.stkSub b z)with e|e
  ·exact(hf b hb).2.1 e
  ·exact(hf b hb).2.2.1 e
 refine⟨⟨I.ok.mod,?_,I.ok.glob,I.ok.blt,zS _,?_,?_,?_,I.ok.hd,I.ok.frames,.inl rfl,?_,I.bs,yW I.ok.bsz I.sz,?_,nfs,I.stack,I.stkFree⟩,
  rfl,I.bare,Un.kept old,⟨λ_=>none,nR,?_⟩,?_,I.hok.fresh (zS _),?_,λp hp=>absurd hp (by simp[ze]),I.hok.kept old,?_⟩
 ·exact k.kind
 ·exact λy z c h1 h2=>I.ok.inj y z c (k.up h1) (k.up h2)
 ·intro y hy;have pU:scope.names.lookup y=some .cell\/scope.names.lookup y=some .free:=by
   rcases hy with hy|hy
   ·exact wf (env:=X.env) hy (.inl rfl)
   ·exact wf (env:=X.env) hy (.inr rfl)
  rcases pU with pU|pU
  ·exact absurd rfl (k.nocell _ (xC pU))
  ·exact k.have_ _ (xC pU) rfl
 ·intro y c h1;exact absurd h1 (by simp[ze])
 ·intro b hb;exact⟨zI (Cz b hb),λy c e=>(hf b hb).2.2.2.2.1 y c (k.up e)⟩
 ·intro b o e hb;rcases(hf b hb).2.2.2.1 with z|z
  ·exact I.ok.noex b o e z
  ·exact absurd (zH (zT e) (yW I.ok.bsz z)) (xS _)
 ·intro i y v h1 h2 h3;have h1:(own++N)[i]?=some y:=h1
  by_cases hio:i<own.length
  ·rw[yM (by simpa using hio)]at h2;simp[hio]at h2
  ·have kX:(ixs.map (gv σ))[i-own.length]?=some (some v):=by rw[xZ (by simpa using hio)]at h2;simpa using h2
   have Bv:N[i-own.length]?=some y:=by rw[xZ (by lia)]at h1;exact h1
   generalize i-own.length=i at Bv kX;rw[zE]at kX;cases e:ixs[i]? with
   |none=>rw[e]at kX;cases kX
   |some j =>
    rw[e]at kX;have h2'':gv σ j=some v:=by simpa using kX
    obtain⟨z,hz,oO⟩:=HL i j e;rw[Bv]at oO;cases oO;have hm:=zM Bv;obtain⟨m,hn,hl⟩:=I.loc;have hvis:Vis X.env.scope y:=.inr (k.cells y hm);obtain⟨u,ru,l⟩:=hl j y v hz (ae h2'') hvis;refine⟨u,ru,?_⟩;rcases l with⟨l,_⟩|⟨_,c,ec,ic⟩
    ·exfalso;rcases k.cells y hm with z|z<;>(rw[l]at z;cases z)
    ·obtain⟨c',ec'⟩:=k.free y hm;have:c=c':=zB (ec.symm.trans (k.up ec'));subst this;refine .inr ⟨?_,c,ec',?_⟩
     ·exact k.vis y hm
     ·obtain⟨o,ho,hd⟩:=ic;exact⟨o,old _ _ ho,hd⟩
 ·intro y c e;obtain⟨v,o,ho,hd⟩:=I.cell y c (k.up e);exact⟨v,o,old _ _ ho,hd⟩
 ·intro y c e;exact I.freeC y c (k.up e)
 ·show(own.map (λ_=>none)++ixs.map (gv σ)).length=(own++N).length;simp[aN]
def PIf(X:Cx)(cT:List Expr)(t:TT):Prop:=∀(pins:List (Addr×Obj))(s:Shared)(σ:St)(H:Hp)(Q:Bool->Hp->Prop),Inv X pins σ H s->t σ H Q ->
 wpAny (model X.prog X.w) X.A (forIn cT true λc r=>if r=true then do let ok <-isTrue c X.env (eval c X.env);pure (ForInStep.yield ok)else pure (ForInStep.yield r)) (TP X pins σ Q) X.xe s
def nu:TT:=λ_ H Q=>Q true H
theorem yp:PIf X [] nu:=λpins s σ H Q I h=>by
 rw[List.forIn_nil];exact zV ⟨H,I,h⟩
theorem Tn{c:Expr}{tc:TT}(hc:PT X c tc):PIf X [c] tc:=λpins s σ H Q I h=>by
 rw[List.forIn_cons];simp only[if_true];refine zZ (zZ (thn (hc pins s σ H Q I h) λb s1 h1=>zV ?_));dsimp only;rw[List.forIn_nil];exact zV h1
theorem gx(cW bH iter:Expr)(cT:List Expr)(scope:Scope)(pos:Pos)(it aO:Value)(env:Env):
  compTurn (.ListComp cW [⟨bH,iter,cT,0⟩] scope pos) 0 it aO env=(standAt iter.pos >>=λ_=>pyNext it >>=λr=>match r with
   |none=>pure (.done .next)
   |some v=>letOwnedTupleGo bH it v >>=λ_=>assign bH env v >>=λ_ =>
    (forIn cT true λc r=>if r=true then do let ok <-isTrue c env (eval c env);pure (ForInStep.yield ok)else pure (ForInStep.yield r)) >>=λok =>
     if ok=true then(eval cW env >>=λx=>call (.builtin "list.append") [aO,x] >>=λ_=>pure ()) >>=λ_=>again (.compLoop (.ListComp cW [⟨bH,iter,cT,0⟩] scope pos) 0 it aO env)
     else again (.compLoop (.ListComp cW [⟨bH,iter,cT,0⟩] scope pos) 0 it aO env)):=by rfl
theorem uh{prog:Program}{w:World}{A:Around}{R:Result->Shared->Prop}{s:Shared}{cW bH iter:Expr}{cT:List Expr}{scope:Scope}{pos:Pos}{it aO:Value}{env:Env}(I:Nat->Shared->Prop)
  (fL:∀n s,I n s->∀E:Value->Shared->Prop,wpAny (model prog w) A (pyNext it) (λr s₁=>match r with
   |none=>R (.ok .next) s₁
   |some v=>wpAny (model prog w) A (letOwnedTupleGo bH it v) (λ_ s₁'=>wpAny (model prog w) A (assign bH env v) (λ_ s₂ =>
     wpAny (model prog w) A (forIn cT true λc r=>if r=true then do let ok <-isTrue c env (eval c env);pure (ForInStep.yield ok)else pure (ForInStep.yield r)) (λok s₂'=>if ok=true then wpAny (model prog w) A (eval cW env) (λx s₃ =>
      wpAny (model prog w) A (call (.builtin "list.append") [aO,x]) (λ_ s₄=>∃m,m<n/\I m s₄) E s₃) E s₂' else∃m,m<n/\I m s₂') E s₂) E s₁') E s₁) E s)
  (n:Nat) (h:I n s) :
  codeAny (model prog w) A (.compLoop (.ListComp cW [⟨bH,iter,cT,0⟩] scope pos) 0 it aO env) R s:=by
 refine codeAny_loop rfl I (λn s hI=>?_) n h;show wpAny _ _ ((compTurn (.ListComp cW [⟨bH,iter,cT,0⟩] scope pos) 0 it aO env).onRaise (λx=>do noteFrame x env;theTreesLotGoes x)) _ _ s;refine wpAny_noted ?_;rw[gx];refine zZ (tB (zZ (yT (fL n s hI _) (λr s₁ h₁=>?_) λ_ _ h'=>h')));cases r with
 |none=>exact zV h₁
 |some v =>
  refine zZ (yT h₁ (λ_ s₁' h₁'=>zZ (yT h₁' (λ_ s₂ h₂=>zZ (yT h₂ (λok s₂' h₂'=>?_) λ_ _ h'=>h')) λ_ _ h'=>h')) λ_ _ h'=>h');cases ok with
  |true =>
   simp only[if_true]at h₂' ⊢;exact zZ (zZ (yT h₂' (λx s₃ h₃=>zZ (yT h₃ (λ_ s₄ h₄=>zV (zV ⟨rfl,h₄⟩)) λ_ _ h'=>h')) λ_ _ h'=>h'))
  |false =>
   simp only[Bool.false_eq_true,if_false]at h₂' ⊢;exact zV ⟨rfl,h₂'⟩
def va(no:Nat)(g:TG)(tt:TT)(te:TE)(ρ:St)(J:It)(Q:VK)(H1:Hp):Prop:=∀(D:Addr)(H2:Hp),H1 D=none->Same H1 H2->H2 D=some (.lst []) ->
 ∃W:Nat->Nat->List V->Hp->Prop,(∃m,W 0 m [] H2)/\∀i m ys H',W i m ys H'->H' D=some (.lst ys) /\
  ((J.stop i H'/\Q (.ref D) H')\/(J.go i H'/\ys.length<sizeLine/\∀(τ:St) v AC,τ.length=no->J.yld i H' v AC->g v (τ++ρ) AC fun σ2 H3=>(∃τ':St,σ2=τ'++ρ/\τ'.length=no)/\tt σ2 H3 λb H4 =>
   if b=true then te σ2 H4 λy H5=>H5 D=some (.lst ys)/\∃m',m'<m/\W (i+1) m' (ys++[y]) (upd H5 D (.lst (ys++[y])))else∃m',m'<m/\W (i+1) m' ys H4))
def nt(no:Nat)(ixs:List Nat)(wi:TI)(g:TG)(tt:Addr->Shared->Hp->List Addr->TT)(te:Addr->Shared->Hp->List Addr->TE):TE:=fun σ H Q=>wi σ H λJ H1=>∀(C:Addr)(s₀:Shared)(H₀:Hp)(ex:List Addr),va no g (tt C s₀ H₀ ex) (te C s₀ H₀ ex) (ixs.map (gv σ)) J Q H1
theorem Kw{X:Cx}{N':List Str}{scope:Scope}{cl:List (Str×Addr)}{C:Addr}{s₀:Shared}{H₀:Hp}{ex:List Addr}:(ze X N' scope cl C s₀ H₀ ex).K=X.K:=rfl
theorem lu{cW iter tg:Expr}{cT:List Expr}{ixs:List Nat}{g:TG}{tt:Addr->Shared->Hp->List Addr->TT}{te:Addr->Shared->Hp->List Addr->TE}{pos:Pos}{pins:List (Addr×Obj)}{σ:St}{H:Hp}{s₂:Shared}{it:Addr}{fp:List Addr}{tn:Nat->Heap->Prop}{J:It}{Q:VK}{RR:Value->Addr->Result->Shared->Prop}{E:Value->Shared->Prop}
  (k:CompOk X own N scope cl) (dQ:X.calm=true) (HL:∀(j:Nat)(i:Nat),ixs[j]?=some i->∃y,X.N[i]?=some y/\N[j]?=some y) (aN:ixs.length=N.length)
  (hg:∀(C:Addr)(s₀:Shared)(H₀:Hp)(ex:List Addr),PG (ze X (own++N) scope cl C s₀ H₀ ex) tg g)
  (ht:∀(C:Addr)(s₀:Shared)(H₀:Hp)(ex:List Addr),PIf (ze X (own++N) scope cl C s₀ H₀ ex) cT (tt C s₀ H₀ ex))
  (he:∀(C:Addr)(s₀:Shared)(H₀:Hp)(ex:List Addr),PE (ze X (own++N) scope cl C s₀ H₀ ex) cW (te C s₀ H₀ ex))
  (I:Inv X pins σ H s₂) (T:Z0 X.prog X.w X.K tg J fp it tn) (st:tn 0 s₂.heap) (hf:∀b∈fp,vo X pins H b)
  (q:∀(C:Addr)(s₀:Shared)(H₀:Hp)(ex:List Addr),va own.length g (tt C s₀ H₀ ex) (te C s₀ H₀ ex) (ixs.map (gv σ)) J Q H)
  (hRR:∀(D C:Addr)(H':Hp)(s':Shared)(m:Str->Option Value),Inv X pins σ H' s'->s'.heap.Ns C m->H' C=none->C≠X.env.locals->C∉X.fs->(∀p∈X.pn++pins,p.1≠C)->(∀y c,X.env.cells.lookup y=some c->c≠C)->X.s₀.heap.objs.size<=C->Q (.ref D) H'->RR (.ref D) C (.ok .next) s') :
  wpAny (model X.prog X.w) X.A (newList []) (λaO s₃=>wpAny (model X.prog X.w) X.A (newFunctionEnv scope X.env.globals cl [] X.env.qual none .none (some X.env)) (λpE s₄ =>
   codeAny (model X.prog X.w) X.A (.compStart (.ListComp cW [⟨tg,iter,cT,0⟩] scope pos) 0 (.ref it) aO { pE with scope:=relabel scope X.env }) (RR aO pE.locals) s₄) E s₃) E s₂:=by
 refine yL (wpAny_newFunctionEnv k.nocell (by intro y hy;simp at hy) (λh₁ nR₁ AS₁=>?_) k.kind);dsimp only at nR₁ AS₁ ⊢;have gQ:H s₂.heap.objs.size=none:=I.hok.fresh (zS _);have I3:Inv X pins σ (upd H s₂.heap.objs.size (.lst [])) { s₂ with heap:=s₂.heap.push { cls:=.type "list",dict:=none,data:=.seq ([]:List Value).toArray } } :=
  I.laid (t':=s₂.toks) (λb o e=>zY _ e) (zS _) ⟨yO _,[],0,.nil,zR _ rfl⟩
 obtain⟨W,⟨m0,w0⟩,fL⟩:=q (s₂.heap.push { cls:=.type "list",dict:=none,data:=.seq ([]:List Value).toArray }).objs.size { s₂ with heap:=s₂.heap.push { cls:=.type "list",dict:=none,data:=.seq ([]:List Value).toArray } } (upd H s₂.heap.objs.size (.lst [])) fp s₂.heap.objs.size _ gQ (xg gQ _) zy;have dP:∀b o,s₂.heap.get? b=some o->(s₂.heap.push { cls:=.type "list",dict:=none,data:=.seq ([]:List Value).toArray }).get? b=some o:=λb o e=>zY _ e;have kE:∀b∈fp,b<s₂.heap.objs.size:=λb hb=>by
  obtain⟨o,e,_⟩:=T.obj _ _ st b hb;exact zT e
 have qQ:∀b∈fp,vo X pins (upd H s₂.heap.objs.size (.lst [])) b:=λb hb=>⟨by rw[zg (zI (kE b hb))];exact(hf b hb).1,(hf b hb).2⟩
 generalize hH3:upd H s₂.heap.objs.size (.lst [])=H3 at I3 w0 qQ fL;generalize hh2:s₂.heap.push { cls:=.type "list",dict:=none,data:=.seq ([]:List Value).toArray }=h2 at I3 nR₁ AS₁ dP fL ⊢;have oQ:h2.objs.size=s₂.heap.objs.size+1:=by rw[<-hh2,xI]
 have Iq:∀b∈fp,b<h2.objs.size:=λb hb=>by rw[oQ];exact wJ (kE b hb)
 have sG:∀b o,b≠h2.objs.size->h2.get? b=some o->h₁.get? b=some o:=λb o hb e=>AS₁.extBut b o hb (zY _ e);have I4:=di (fp:=fp) (h₁:=h₁) (tk:=s₂.toks+([]:List (Str×Value)).length) (s:={ s₂ with heap:=h2 }) k I3 qQ Iq HL aN (by simpa using nR₁) sG;have C9:tn 0 h₁:=T.keep _ _ _ st λb hb o e=>sG b o (zI (Iq b hb)) (dP b o e);have fr4:∀b∈fp,H3 b=none:=λb hb=>(qQ b hb).1;have BZ:∀{H':Hp},(∀b∈fp,H' b=none)->∀b∈fp,vo (ze X (own++N) scope cl h2.objs.size { s₂ with heap:=h2 } H3 fp) [] H' b:=λhn b hb =>
  ⟨hn b hb,(I4.ok.exf b hb).1,I4.ok.exfs b hb,.inl hb,(I4.ok.exf b hb).2,λp hp=>absurd hp (by simp[ze])⟩
 have loop:∀s₃:Shared,s₃={ s₂ with heap:=h₁,toks:=s₂.toks+([]:List (Str×Value)).length } ->
   codeAny (model X.prog X.w) X.A (.compLoop (.ListComp cW [⟨tg,iter,cT,0⟩] scope pos) 0 (.ref it) (.ref s₂.heap.objs.size) (compEnvC scope cl h2.objs.size X.env)) (RR (.ref s₂.heap.objs.size) h2.objs.size) s₃:=by
  rintro s₃ rfl;refine uh (λn s'=>∃i τ ys H',τ.length=own.length/\Inv (ze X (own++N) scope cl h2.objs.size { s₂ with heap:=h2 } H3 fp) [] (τ++ixs.map (gv σ)) H' s'/\tn i s'.heap/\(∀b∈fp,H' b=none)/\W i n ys H') ?_ m0 ⟨0,own.map (λ_=>none),[],H3,by simp,I4,C9,fr4,w0⟩;rintro n s5 ⟨i,τ,ys,H5,hτ,I5,mQ,qZ,w5⟩ E';obtain⟨hD,alt⟩:=fL i n ys H5 w5;rcases alt with⟨stop,qn⟩|⟨go,hz,step⟩
  ·refine yT (T.done (ze X (own++N) scope cl h2.objs.size { s₂ with heap:=h2 } H3 fp) rfl rfl rfl dQ i [] s5 _ H5 E' I5 (BZ qZ) mQ stop) (λr s6 hr=>?_) λ_ _ e=>e;obtain⟨rfl,I6⟩:=hr;obtain⟨m6,hn6,_⟩:=I6.loc;have J6:Inv X pins σ H5 s6:=by
    refine I3.call' (ch:=fp) I6.os I6.base I6.hok I6.bare λb hb=>?_;obtain⟨_,f1,f2,f3,f4,f5⟩:=qQ b hb;exact⟨f3,f1,f4,f5⟩
   have AF:X.s₀.heap.objs.size<=h2.objs.size:=I3.sz;refine hRR s₂.heap.objs.size h2.objs.size H5 s6 m6 J6 hn6 I6.free (wO I3.lt) (I3.nofs (zS _)) (λp hp z=>?_) (λy c e z=>?_) AF qn
   ·exact absurd (zT (I3.pin p hp).1) (by rw[z];exact xS _)
   ·obtain⟨u,ic⟩:=I3.cell y c e;exact absurd ic.lt (by rw[z];exact xS _)
  ·refine yT (T.item (ze X (own++N) scope cl h2.objs.size { s₂ with heap:=h2 } H3 fp) rfl rfl rfl dQ i [] s5 _ H5 E' I5 (BZ qZ) mQ go) (λr s6 hr=>?_) λ_ _ e=>e;obtain⟨u,rfl,h6⟩:=hr;refine yT h6 (λ_ s7 h7=>?_) λ_ _ e=>e;obtain⟨xv,H7,I7,r7,y7,AG,fr7⟩:=h7;have I7':=I7.pinned (BZ fr7) (T.obj _ _ AG);refine yT (hg _ _ _ _ _ s7 _ H7 xv u _ I7' r7 (step τ xv H7 hτ y7)) (λ_ s8 h8=>?_) λ_ _ e=>e.elim;obtain⟨σ8,H8,I8,⟨τ',rfl,hτ'⟩,q8⟩:=h8;refine yT (ht _ _ _ _ _ s8 _ H8 _ I8 q8) (λok s9 h9=>?_) λ_ _ e=>e.elim;obtain⟨H9,I9,q9⟩:=h9;have pF:∀(kP:Hp)(iX:Shared)(qD:List V)(m':Nat),Inv (ze X (own++N) scope cl h2.objs.size { s₂ with heap:=h2 } H3 fp) ([]++u7 fp s7.heap) (τ'++ixs.map (gv σ)) kP iX->m'<n->W (i+1) m' qD kP ->
     ∃m,m<n/\∃i τ ys H',τ.length=own.length/\Inv (ze X (own++N) scope cl h2.objs.size { s₂ with heap:=h2 } H3 fp) [] (τ++ixs.map (gv σ)) H' iX/\tn i iX.heap/\(∀b∈fp,H' b=none)/\W i m ys H':=λkP iX qD m' pH fP w10=>by
    refine⟨m',fP,i+1,τ',qD,kP,hτ',pH.unpinned (pins:=[]),T.keep _ _ _ AG λb hb o e=>(pH.pin (b,o) (zJ _ (zJ _ (x8 hb e)))).1,λb hb=>?_,w10⟩;obtain⟨o,e,d⟩:=T.obj _ _ AG b hb;exact(pH.pin (b,o) (zJ _ (zJ _ (x8 hb e)))).2.1
   cases ok with
   |true =>
    simp only[if_true]at q9 ⊢;refine yT (he _ _ _ _ _ s9 _ H9 _ I9 q9) (λy iX Io=>?_) λ_ _ e=>e.elim;obtain⟨yv,kP,pH,r10,Bs,m',fP,w10⟩:=Io;refine yT (qu (X:=ze X (own++N) scope cl h2.objs.size { s₂ with heap:=h2 } H3 fp) _ iX _ kP (.ref s₂.heap.objs.size) [yv] (.ref s₂.heap.objs.size) [y] (λv' H'=>H'=upd kP s₂.heap.objs.size (.lst (ys++[yv]))) pH rfl (.cons r10 .nil) ⟨_,ys,yv,rfl,rfl,Bs,hz,rfl⟩) (λ_ qF h11=>?_) λ_ _ e=>e.elim;obtain⟨_,H11,I11,_,rfl⟩:=h11;exact pF _ _ _ m' I11 fP w10
   |false =>
    simp only[Bool.false_eq_true,if_false]at q9 ⊢;obtain⟨m',fP,w10⟩:=q9;exact pF _ _ _ m' I9 fP w10
 exact codeAny_compStart_list (loop _ rfl) (T.self _ 0 _ _ _ C9 (loop _ rfl))
theorem ib{pins:List (Addr×Obj)}{σ:St}{H:Hp}{s:Shared}{C:Addr}{Bw:Heap}(I:Inv X pins σ H s)(hC:H C=none)(hL:C≠X.env.locals)(hp:∀p∈X.pn++pins,p.1≠C)(hc:∀y c,X.env.cells.lookup y=some c->c≠C)(h0:X.s₀.heap.objs.size<=C)
  (hs:∀b o,b≠C->s.heap.get? b=some o->Bw.get? b=some o):Inv X pins σ H { s with heap:=Bw } :=
 I.turned (t':=s.toks) hs hC hL (.inr h0) hc hp
theorem P0{cW iter tg:Expr}{cT:List Expr}{ixs:List Nat}{wi:TI}{g:TG}{tt:Addr->Shared->Hp->List Addr->TT}{te:Addr->Shared->Hp->List Addr->TE}{pos:Pos}
  (k:CompOk X own N scope cl) (dQ:X.calm=true) (hi:PI X tg iter wi)
  (hg:∀(C:Addr)(s₀:Shared)(H₀:Hp)(ex:List Addr),PG (ze X (own++N) scope cl C s₀ H₀ ex) tg g) (ht:∀(C:Addr)(s₀:Shared)(H₀:Hp)(ex:List Addr),PIf (ze X (own++N) scope cl C s₀ H₀ ex) cT (tt C s₀ H₀ ex))
  (he:∀(C:Addr)(s₀:Shared)(H₀:Hp)(ex:List Addr),PE (ze X (own++N) scope cl C s₀ H₀ ex) cW (te C s₀ H₀ ex))
  (hx:ixs.map (λi=>X.N[i]?)=N.map some)
  (hs:∀x,foldedSetIterable iter X.env x=pure x:=by intro _;rfl):PE X (.ListComp cW [⟨tg,iter,cT,0⟩] scope pos) (nt own.length ixs wi g tt te):=by
 intro pins s σ H Q I h;rw[eval_ListComp];refine uG (use:=none) rfl hs k.clos k.kind k.names (thn (hi pins s σ H _ I h) λv s1 h1=>thn h1 λrZ s2 h2=>?_);obtain⟨it,fp,tn,J,H2,rfl,I2,T,qE,f2,q⟩:=h2;refine lu (RR:=λaO C=>compPost (model X.prog X.w) X.A X.xe none (EP X pins σ Q) aO C) k dQ (U1 hx) (ah hx) hg ht he I2 T qE f2 q ?_;intro D C H' s' m J' hn hC hL sH hp hc h0 q';exact⟨m,hn,λBw oR=>⟨.ref D,H',ib J' hC hL hp hc h0 (λb o hb e=>oR.extBut b o hb e),rfl,q'⟩⟩
def Vj(i:Nat)(t:TE):TS:=λD σ H=>t σ H λx H1=>D.nx (sv σ i x) H1
theorem Xz(i:Nat){cW iter tg:Expr}{cT:List Expr}{y:Str}{py:Pos}{ixs:List Nat}{wi:TI}{g:TG}{tt:Addr->Shared->Hp->List Addr->TT}{te:Addr->Shared->Hp->List Addr->TE}{pos oA:Pos}(hN:X.N.Nodup)
  (k:CompOk X own N scope cl) (dQ:X.calm=true) (hi:PI X tg iter wi)
  (hg:∀(C:Addr)(s₀:Shared)(H₀:Hp)(ex:List Addr),PG (ze X (own++N) scope cl C s₀ H₀ ex) tg g) (ht:∀(C:Addr)(s₀:Shared)(H₀:Hp)(ex:List Addr),PIf (ze X (own++N) scope cl C s₀ H₀ ex) cT (tt C s₀ H₀ ex))
  (he:∀(C:Addr)(s₀:Shared)(H₀:Hp)(ex:List Addr),PE (ze X (own++N) scope cl C s₀ H₀ ex) cW (te C s₀ H₀ ex))
  (hx:ixs.map (λi=>X.N[i]?)=N.map some)
  (hy:X.N[i]?=some y:=by rfl) (qH:X.env.scope.names.lookup y=some .local:=by rfl)
  (Hq:swapsWith (.ListComp cW [⟨tg,iter,cT,0⟩] scope pos) (some (.Name y py)) oA.line X.env=pure true:=by rfl)
  (hs:∀x,foldedSetIterable iter X.env x=pure x:=by intro _;rfl):PS X (.Assign [.Name y py] (.ListComp cW [⟨tg,iter,cT,0⟩] scope pos) oA) (Vj i (nt own.length ixs wi g tt te)):=by
 intro pins s σ H D I h;rw[exec_Assign_Name_used _ _ _ _ Hq];refine zZ (tB (zZ ?_));show wpAny _ X.A (do let _ <-comprehension (.ListComp cW [⟨tg,iter,cT,0⟩] scope pos) scope X.env _ (newList []) false (eval iter X.env) (some (assign (.Name y py) X.env))) _ _ s;refine zZ (yT (uG (use:=some (assign (.Name y py) X.env)) (Q:=λ_ s'=>SP X pins D .next s') rfl hs k.clos k.kind k.names (thn (hi pins s σ H _ I h) λv s1 h1=>thn h1 λrZ s2 h2=>?_)) (λ_ s' hq=>zV (zV hq)) λ_ _ e=>e);obtain⟨it,fp,tn,J,H2,rfl,I2,T,qE,f2,q⟩:=h2;refine lu (Q:=λx H1=>D.nx (sv σ i x) H1) (RR:=λaO C=>compPost (model X.prog X.w) X.A X.xe (some (assign (.Name y py) X.env)) (λ_ s'=>SP X pins D .next s') aO C) k dQ (U1 hx) (ah hx) hg ht he I2 T qE f2 q ?_;intro L C H' s' m J' hn hC hL sH hp hc h0 q';obtain⟨o,es,ep,ho,hd,hk,hm⟩:=id hn;have J2:Inv X (pins++[(C,o)]) σ H' s':=J'.pins_of λp hp'=>(zO.mp hp').elim (λz=>J'.pin p (zJ _ z)) λz=>by
  have e:p=(C,o):=by simpa using z
  subst e;exact⟨ho,hC,hL,sH,λv z=>by rw[hd]at z;cases z⟩
 have hg:PG X (.Name y py) (mG i):=v6 i hN hy (.inl qH) (.inr qH);show wpAny (model X.prog X.w) X.A (assign (.Name y py) X.env (.ref L)) _ _ s';refine thn (hg _ s' σ H' (.ref L) (.ref L) D.nx J2 rfl q') λ_ s3 h3=>?_;obtain⟨σ3,H3,I3,q3⟩:=h3;have pc:=I3.pin (C,o) (zJ _ (zJ _ (zW.mpr rfl)));refine⟨m,⟨o,es,ep,pc.1,hd,hk,hm⟩,λBw oR=>⟨σ3,H3,?_,q3⟩⟩;exact ib (I3.unpinned) pc.2.1 hL hp hc h0 (λb ob hb e=>oR.extBut b ob hb e)
end
def CN(n i:Nat)(P:Prop):Prop:=∃m':Nat,m'<n-i/\m'=n-(i+1)/\i+1<=n/\P
theorem CN.mk{n i:Nat}{P:Prop}(h:i<n)(p:P):CN n i P:=⟨n-(i+1),by lia,rfl,h,p⟩
theorem ir{τ:St}(h:τ.length=1):∃t,τ=[t]:=by
 match τ,h with
 |[t],_=>exact⟨t,rfl⟩
def mG2(K:W.Frag)(i j:Nat):TG:=λv σ H Q=>∃a x y,v = .ref a/\SqT K H a [x,y]/\Q (sv (sv σ i x) j y) H
def cz(tt:TT)(te:TE)(σ:St)(D:Addr)(n i:Nat)(ys:List V)(P:List V->Hp->Prop)(H:Hp):Prop :=
 tt σ H λb H4=>if b=true then te σ H4 λy H5=>H5 D=some (.lst ys)/\CN n i (P (ys++[y]) (upd H5 D (.lst (ys++[y]))))else CN n i (P ys H4)
theorem rm{J:It}{n:Nat}{no:Nat}{g:TG}{tt:TT}{te:TE}{ρ:St}{Q:VK}{H1:Hp}(Pv:Addr->Nat->List V->Hp->Prop)(hsz:n<=sizeLine)
  (h0:∀D H2,H1 D=none->Same H1 H2->H2 D=some (.lst [])->Pv D 0 [] H2)
  (hl:∀D i ys H,i<=n->Pv D i ys H->H D=some (.lst ys)/\ys.length<=i)
  (hgo:∀D i ys H,i<n->Pv D i ys H->J.go i H) (Hr:∀D ys H,Pv D n ys H->J.stop n H)
  (hs:∀D i v ys H H' (τ:St),i<n->τ.length=no->Pv D i ys H->J.yld i H v H'->g v (τ++ρ) H' fun σ2 H3=>(∃τ':St,σ2=τ'++ρ/\τ'.length=no)/\cz tt te σ2 D n i ys (Pv D (i+1)) H3)
  (hd:∀D ys H,Pv D n ys H->Q (.ref D) H):va no g tt te ρ J Q H1:=by
 intro D H2 n2 s2 e2;refine⟨λi m ys H=>m=n-i/\i<=n/\Pv D i ys H,⟨n,by simp,yO _,h0 D H2 n2 s2 e2⟩,?_⟩;rintro i m ys H ⟨rfl,hi,p⟩;obtain⟨eD,ly⟩:=hl D i ys H hi p;refine⟨eD,?_⟩
 by_cases aS:i<n
 ·refine .inr ⟨hgo D i ys H aS p,by lia,fun τ v AC hτ y=>?_⟩;exact hs D i v ys H AC τ aS hτ p y
 ·have e:i=n:=by lia
  subst e;exact .inl ⟨Hr D ys H p,hd D ys H p⟩
theorem Xe{K:W.Frag}{a:Addr}{xs:List V}{tt:TT}{te:TE}{ρ:St}{Q:VK}{H1:Hp}(Pv:Addr->Nat->List V->Hp->Prop)(hsz:xs.length<=sizeLine)
  (h0:∀D H2,H1 D=none->Same H1 H2->H2 D=some (.lst [])->Pv D 0 [] H2)
  (hl:∀D i ys H,Pv D i ys H->SqT K H a xs/\H D=some (.lst ys)/\ys.length<=i)
  (hs:∀D i v ys H,xs[i]?=some v->Pv D i ys H->cz tt te (some v :: ρ) D xs.length i ys (Pv D (i+1)) H)
  (hd:∀D ys H,Pv D xs.length ys H->Q (.ref D) H):va 1 (mG 0) tt te ρ (Itt K a) Q H1 :=
 rm Pv hsz h0 (λD i ys H _ p=>(hl D i ys H p).2) (λD i ys H hi p=>⟨xs,xs[i],(hl D i ys H p).1,by simp[hi]⟩) (λD ys H p=>⟨xs,(hl D _ ys H p).1,zS _⟩) (λD i v ys H H' τ hi hτ p y=>by
  obtain⟨t,rfl⟩:=ir hτ;obtain⟨e,y⟩:=y;subst e;exact⟨⟨[some v],rfl,rfl⟩,hs D i v ys _ (y xs (hl D i ys _ p).1) p⟩) hd
theorem jn{K:W.Frag}{a:Addr}{xs:List V}{tt:TT}{te:TE}{ρ:St}{Q:VK}{H1:Hp}(Pv:Addr->Nat->List V->Hp->Prop)(hsz:xs.length<=sizeLine)
  (h0:∀D H2,H1 D=none->Same H1 H2->H2 D=some (.lst [])->Pv D 0 [] H2)
  (hl:∀D i ys H,Pv D i ys H->SqL K H a xs/\H D=some (.lst ys)/\ys.length<=i)
  (hs:∀D i v ys H,xs[i]?=some v->Pv D i ys H->cz tt te (some v :: ρ) D xs.length i ys (Pv D (i+1)) H)
  (hd:∀D ys H,Pv D xs.length ys H->Q (.ref D) H):va 1 (mG 0) tt te ρ (Itl K a) Q H1 :=
 rm Pv hsz h0 (λD i ys H _ p=>(hl D i ys H p).2) (λD i ys H hi p=>⟨xs,xs[i],(hl D i ys H p).1,by simp[hi]⟩) (λD ys H p=>⟨xs,(hl D _ ys H p).1,zS _⟩) (λD i v ys H H' τ hi hτ p y=>by
  obtain⟨t,rfl⟩:=ir hτ;obtain⟨e,y⟩:=y;subst e;exact⟨⟨[some v],rfl,rfl⟩,hs D i v ys _ (y xs (hl D i ys _ p).1) p⟩) hd
theorem dg{lo:Int}{n:Nat}{tt:TT}{te:TE}{ρ:St}{Q:VK}{H1:Hp}(Pv:Addr->Nat->List V->Hp->Prop)(hsz:n<=sizeLine)
  (h0:∀D H2,H1 D=none->Same H1 H2->H2 D=some (.lst [])->Pv D 0 [] H2)
  (hl:∀D i ys H,Pv D i ys H->H D=some (.lst ys)/\ys.length<=i)
  (hs:∀D i ys H,i<n->Pv D i ys H->cz tt te (some (.int (lo+i)) :: ρ) D n i ys (Pv D (i+1)) H)
  (hd:∀D ys H,Pv D n ys H->Q (.ref D) H):va 1 (mG 0) tt te ρ (Itr lo n) Q H1 :=
 rm Pv hsz h0 (λD i ys H _ p=>hl D i ys H p) (λD i ys H hi p=>hi) (λD ys H p=>zS _) (λD i v ys H H' τ hi hτ p y=>by
  obtain⟨t,rfl⟩:=ir hτ;obtain⟨e,y⟩:=y;subst e y;exact⟨⟨[_],rfl,rfl⟩,hs D i ys _ hi p⟩) hd
theorem uz{K:W.Frag}{a:Addr}{xs:List V}{te:TE}{ρ:St}{Q:VK}{H1:Hp}(Pv:Addr->Nat->List V->Hp->Prop)(hsz:xs.length<=sizeLine)
  (h0:∀D H2,H1 D=none->Same H1 H2->H2 D=some (.lst [])->Pv D 0 [] H2)
  (hl:∀D i ys H,Pv D i ys H->SqT K H a xs/\H D=some (.lst ys)/\ys.length=i)
  (hs:∀D i v ys H,xs[i]?=some v->Pv D i ys H->te (some v :: ρ) H λy H3=>H3 D=some (.lst ys)/\CN xs.length i (Pv D (i+1) (ys++[y]) (upd H3 D (.lst (ys++[y])))))
  (hd:∀D ys H,Pv D xs.length ys H->Q (.ref D) H):va 1 (mG 0) nu te ρ (Itt K a) Q H1:=Xe Pv hsz h0 (λD i ys H p=>let⟨a1,a2,a3⟩:=hl D i ys H p;⟨a1,a2,uK a3⟩) hs hd
theorem wb{K:W.Frag}{a:Addr}{xs:List V}{te:TE}{ρ:St}{Q:VK}{H1:Hp}(Pv:Addr->Nat->List V->Hp->Prop)(hsz:xs.length<=sizeLine)
  (h0:∀D H2,H1 D=none->Same H1 H2->H2 D=some (.lst [])->Pv D 0 [] H2)
  (hl:∀D i ys H,Pv D i ys H->SqL K H a xs/\H D=some (.lst ys)/\ys.length=i)
  (hs:∀D i v ys H,xs[i]?=some v->Pv D i ys H->te (some v :: ρ) H λy H3=>H3 D=some (.lst ys)/\CN xs.length i (Pv D (i+1) (ys++[y]) (upd H3 D (.lst (ys++[y])))))
  (hd:∀D ys H,Pv D xs.length ys H->Q (.ref D) H):va 1 (mG 0) nu te ρ (Itl K a) Q H1:=jn Pv hsz h0 (λD i ys H p=>let⟨a1,a2,a3⟩:=hl D i ys H p;⟨a1,a2,uK a3⟩) hs hd
theorem xk{lo:Int}{n:Nat}{te:TE}{ρ:St}{Q:VK}{H1:Hp}(Pv:Addr->Nat->List V->Hp->Prop)(hsz:n<=sizeLine)
  (h0:∀D H2,H1 D=none->Same H1 H2->H2 D=some (.lst [])->Pv D 0 [] H2)
  (hl:∀D i ys H,Pv D i ys H->H D=some (.lst ys)/\ys.length=i)
  (hs:∀D i ys H,i<n->Pv D i ys H->te (some (.int (lo+i)) :: ρ) H λy H3=>H3 D=some (.lst ys)/\CN n i (Pv D (i+1) (ys++[y]) (upd H3 D (.lst (ys++[y])))))
  (hd:∀D ys H,Pv D n ys H->Q (.ref D) H):va 1 (mG 0) nu te ρ (Itr lo n) Q H1:=dg Pv hsz h0 (λD i ys H p=>let⟨a1,a2⟩:=hl D i ys H p;⟨a1,uK a2⟩) hs hd
section
variable {X:Cx}{N:List Str}{scope:Scope}{cl:List (Str×Addr)}
theorem iw{x:Str}{px:Pos}(k:CompOk X [x] N scope cl)(C:Addr)(s₀:Shared)(H₀:Hp)(ex:List Addr):PG (ze X ([x]++N) scope cl C s₀ H₀ ex) (.Name x px) (mG 0) :=
 v6 0 k.nd rfl (.inl (lookup_relabel_local (k.mine x (zW.mpr rfl)))) (.inr (lookup_relabel_local (k.mine x (zW.mpr rfl))))
end
section
variable {X:Cx}
theorem R4(i j:Nat){x y:Str}{p p' pos:Pos}{k:Nat}(hc:X.calm=true)(hN:X.N.Nodup)(hi:X.N[i]?=some x:=by rfl)(hj:X.N[j]?=some y:=by rfl)(hx:Loc X.env.scope x:=by first|exact Or.inl rfl|exact Or.inr rfl)(hy:Loc X.env.scope y:=by first|exact Or.inl rfl|exact Or.inr rfl)
  (hf:X.fn x=true\/X.env.scope.names.lookup x=some .local:=by first|exact .inl rfl|exact .inr rfl) (hf':X.fn y=true\/X.env.scope.names.lookup y=some .local:=by first|exact .inl rfl|exact .inr rfl)
  (hn:(assignEach [.Name x p,.Name y p'] X.env).length=2:=by rfl) (gO:(assignEach [.Name x p,.Name y p'] X.env).findIdx? (·.1)=none:=by rfl)
  (hs:(assignEach [.Name x p,.Name y p'] X.env).map (·.2)=assign (.Name x p) X.env::(assignEach [.Name y p'] X.env).map (·.2):=by rfl) (hs':(assignEach [.Name y p'] X.env).map (·.2)=assign (.Name y p') X.env::(assignEach [] X.env).map (·.2):=by rfl) :
  PG X (.Tuple [.Name x p,.Name y p'] k pos) (mG2 X.K i j):=by
 intro pins s σ H v u Q I r h;obtain⟨a,x1,y1,rfl,hq,q⟩:=h;exact Qo hc (fj (v6 i hN hi hx hf) (fj (v6 j hN hj hy hf') Tl hs') hs) hn gO pins s σ H _ u Q I r ⟨a,_,rfl,hq,rfl,x1,_,rfl,y1,_,rfl,rfl,q⟩
variable {N:List Str}{scope:Scope}{cl:List (Str×Addr)}{cW iter:Expr}{cT:List Expr}{ixs:List Nat}{wi:TI}{tt:Addr->Shared->Hp->List Addr->TT}{te:Addr->Shared->Hp->List Addr->TE}{pos px py pp oA pt:Pos}{x y z:Str}{kk:Nat}
theorem yg(k:CompOk X [x] N scope cl)(hc:X.calm=true)(hi:PI X (.Name x px) iter wi)(ht:∀(C:Addr)(s₀:Shared)(H₀:Hp)(ex:List Addr),PIf (ze X ([x]++N) scope cl C s₀ H₀ ex) cT (tt C s₀ H₀ ex))
  (he:∀(C:Addr)(s₀:Shared)(H₀:Hp)(ex:List Addr),PE (ze X ([x]++N) scope cl C s₀ H₀ ex) cW (te C s₀ H₀ ex)) (hx:ixs.map (λi=>X.N[i]?)=N.map some) (hs:∀x,foldedSetIterable iter X.env x=pure x:=by intro _;rfl) :
  PE X (.ListComp cW [⟨.Name x px,iter,cT,0⟩] scope pos) (nt 1 ixs wi (mG 0) tt te):=P0 k hc hi (iw k) ht he hx hs
theorem vh(i:Nat)(hN:X.N.Nodup)(k:CompOk X [x] N scope cl)(hc:X.calm=true)(hi:PI X (.Name x px) iter wi)(ht:∀(C:Addr)(s₀:Shared)(H₀:Hp)(ex:List Addr),PIf (ze X ([x]++N) scope cl C s₀ H₀ ex) cT (tt C s₀ H₀ ex))
  (he:∀(C:Addr)(s₀:Shared)(H₀:Hp)(ex:List Addr),PE (ze X ([x]++N) scope cl C s₀ H₀ ex) cW (te C s₀ H₀ ex)) (hx:ixs.map (λi=>X.N[i]?)=N.map some) (hy:X.N[i]?=some z:=by rfl) (qH:X.env.scope.names.lookup z=some .local:=by rfl)
  (Hq:swapsWith (.ListComp cW [⟨.Name x px,iter,cT,0⟩] scope pos) (some (.Name z pt)) oA.line X.env=pure true:=by rfl) (hs:∀x,foldedSetIterable iter X.env x=pure x:=by intro _;rfl) :
  PS X (.Assign [.Name z pt] (.ListComp cW [⟨.Name x px,iter,cT,0⟩] scope pos) oA) (Vj i (nt 1 ixs wi (mG 0) tt te)):=Xz i hN k hc hi (iw k) ht he hx hy qH Hq hs
end
end My
namespace My
open PySem PySem.Spec L2
open PyProof.Rows hiding St
section
variable {X:Cx}
theorem yd:∀{bs:List Bool}{us:List Value},Vals (bs.map V.bl) us->us=bs.map Value.bool
 |[],us,r=>by cases r;rfl
 |b::bs,us,r=>by
  rw[List.map_cons]at r;cases r with
  |cons r1 r2 =>
   have e:_=Value.bool b:=r1;rw[e,yd r2]
   rfl
theorem Uh{bs:List Bool}{i:Nat}(hi:i<bs.length)(h:∀j,j<=bs.length-1->b2i (bs.getD i false)<=b2i (bs.getD j false)):bs.getD i false=bs.all id:=by
 cases e:bs.all id with
 |true =>
  rw[vM]at e;have:=e (bs[i]) (wE hi);simpa[yP,hi]using this
 |false =>
  rw[List.all_eq_false]at e;obtain⟨x,hx,hn⟩:=e;obtain⟨j,hj,rfl⟩:=List.mem_iff_getElem.mp hx;have h1:=h j (by lia);have e2:bs.getD j false=false:=by simpa[yP,hj]using hn
  rw[e2]at h1;cases e3:bs.getD i false with
  |false=>rfl
  |true=>rw[e3]at h1;exact absurd h1 (by decide)
theorem Ui{bs:List Bool}{i:Nat}(hi:i<bs.length)(h:∀j,j<=bs.length-1->b2i (bs.getD j false)<=b2i (bs.getD i false)):bs.getD i false=bs.any id:=by
 cases e:bs.any id with
 |false =>
  rw[List.any_eq_false]at e;have:=e (bs[i]) (wE hi);simpa[yP,hi]using this
 |true =>
  rw[xD]at e;obtain⟨x,hx,hn⟩:=e;obtain⟨j,hj,rfl⟩:=List.mem_iff_getElem.mp hx;have h1:=h j (by lia);have e2:bs.getD j false=true:=by simpa[yP,hj]using hn
  rw[e2]at h1;cases e3:bs.getD i false with
  |true=>rfl
  |false=>rw[e3]at h1;exact absurd h1 (by decide)
def mMM(gi:Int->Int->Int)(gb:List Bool->Bool)(K:W.Frag):List V->Hp->VK->Prop:=λxs H Q=>match xs with
 |[.int i,.int j]=>Q (.int (gi i j)) H
 |[.ref p]=>∃bs:List Bool,SqL K H p (bs.map V.bl)/\0<bs.length/\Q (.bl (gb bs)) H
 |_=>False
theorem Rz(hc:X.calm=true):xi X (.builtin "min") (mMM (λi j=>if j<i then j else i) (λbs=>bs.all id) X.K):=by
 intro pins s σ H xs us Q I r h
 match xs,h with
 |[.int i,.int j],h=>exact Xc hc pins s σ H _ us Q I r ⟨i,j,rfl,h⟩
 |[.ref p],h =>
  obtain⟨bs,hq,fH,q⟩:=(show∃bs:List Bool,SqL X.K H p (bs.map V.bl)/\0<bs.length/\Q (.bl (bs.all id)) H from h)
  obtain⟨u,rfl,rx⟩:=v3 r;cases rx;obtain⟨aF,rv,pl,hz⟩:=I.list hq;have e:=yd rv;subst e;have aS:p<s.heap.objs.size:=by obtain⟨o,e,_⟩:=pl.isList;exact zT e
  refine call_min_walk (wK pl.isList ?_);refine⟨s.heap.objs.size,_,_,_,_,_,λi j=>decide (b2i (bs.getD i false)<b2i (bs.getD j false)),rfl,Walks.list (A:=X.A.in1) (I.ok.hd hc) _ p (zI aS) (bs.map Value.bool).toArray,⟨⟨_,zR _ rfl,rfl,rfl⟩,pl.isList.push _⟩,λb hb=>?_,by simpa using fH,?_,λv h' tk hP hk=>?_⟩
  ·show b<(s.heap.push _).objs.size;rw[xI];rcases zG.mp hb with rfl|hb
   ·exact wU _
   ·rw[zW.mp hb];exact wJ aS
  ·intro i j vi vj s' Q' E' hi hj hQ;have ei:vi = .bool (bs.getD i false):=by
    have:(bs[i]?).map Value.bool=some vi:=by simpa using hi
    cases e:bs[i]? with
    |none=>rw[e]at this;cases this
    |some b=>rw[e]at this;rw[yP,e];exact(zB this).symm
   have ej:vj = .bool (bs.getD j false):=by
    have:(bs[j]?).map Value.bool=some vj:=by simpa using hj
    cases e:bs[j]? with
    |none=>rw[e]at this;cases this
    |some b=>rw[e]at this;rw[yP,e];exact(zB this).symm
   subst ei ej;exact lt_bool hQ
  ·obtain⟨h1,h2⟩:=argBest_lt (λi=>b2i (bs.getD i false)) ((bs.map Value.bool).toArray.size-1);have hsz:(bs.map Value.bool).toArray.size=bs.length:=by simp
   rw[hsz]at h1 h2 hP;have hb:=Uh (bs:=bs) (i:=argBest (λi j=>decide (b2i (bs.getD i false)<b2i (bs.getD j false))) (bs.length-1)) (by lia) (λj hj=>h2 j hj);have ev:v = .bool (bs.all id):=by
    have h3:(bs[argBest (λi j=>decide (b2i (bs.getD i false)<b2i (bs.getD j false))) (bs.length-1)]?).map Value.bool=some v:=by simpa using hP
    rw[yP]at hb;cases e:bs[argBest (λi j=>decide (b2i (bs.getD i false)<b2i (bs.getD j false))) (bs.length-1)]? with
    |none=>rw[e]at h3;cases h3
    |some b=>rw[e]at h3 hb;rw[<-hb];exact(zB h3).symm
   subst ev;refine⟨.bl (bs.all id),H,?_,rfl,q⟩;exact I.kept λb o e=>hk b o (λz=>absurd (zT e) (by rw[zW.mp z];exact xS _)) (zY _ e)
theorem M5(hc:X.calm=true):xi X (.builtin "max") (mMM (λi j=>if j>i then j else i) (λbs=>bs.any id) X.K):=by
 intro pins s σ H xs us Q I r h
 match xs,h with
 |[.int i,.int j],h=>exact Xb hc pins s σ H _ us Q I r ⟨i,j,rfl,h⟩
 |[.ref p],h =>
  obtain⟨bs,hq,fH,q⟩:=(show∃bs:List Bool,SqL X.K H p (bs.map V.bl)/\0<bs.length/\Q (.bl (bs.any id)) H from h)
  obtain⟨u,rfl,rx⟩:=v3 r;cases rx;obtain⟨aF,rv,pl,hz⟩:=I.list hq;have e:=yd rv;subst e;have aS:p<s.heap.objs.size:=by obtain⟨o,e,_⟩:=pl.isList;exact zT e
  refine call_max_walk (wK pl.isList ?_);refine⟨s.heap.objs.size,_,_,_,_,_,λi j=>decide (b2i (bs.getD i false)>b2i (bs.getD j false)),rfl,Walks.list (A:=X.A.in1) (I.ok.hd hc) _ p (zI aS) (bs.map Value.bool).toArray,⟨⟨_,zR _ rfl,rfl,rfl⟩,pl.isList.push _⟩,λb hb=>?_,by simpa using fH,?_,λv h' tk hP hk=>?_⟩
  ·show b<(s.heap.push _).objs.size;rw[xI];rcases zG.mp hb with rfl|hb
   ·exact wU _
   ·rw[zW.mp hb];exact wJ aS
  ·intro i j vi vj s' Q' E' hi hj hQ;have ei:vi = .bool (bs.getD i false):=by
    have:(bs[i]?).map Value.bool=some vi:=by simpa using hi
    cases e:bs[i]? with
    |none=>rw[e]at this;cases this
    |some b=>rw[e]at this;rw[yP,e];exact(zB this).symm
   have ej:vj = .bool (bs.getD j false):=by
    have:(bs[j]?).map Value.bool=some vj:=by simpa using hj
    cases e:bs[j]? with
    |none=>rw[e]at this;cases this
    |some b=>rw[e]at this;rw[yP,e];exact(zB this).symm
   subst ei ej;exact gt_bool hQ
  ·obtain⟨h1,h2⟩:=argBest_gt (λi=>b2i (bs.getD i false)) ((bs.map Value.bool).toArray.size-1);have hsz:(bs.map Value.bool).toArray.size=bs.length:=by simp
   rw[hsz]at h1 h2 hP;have hb:=Ui (bs:=bs) (i:=argBest (λi j=>decide (b2i (bs.getD i false)>b2i (bs.getD j false))) (bs.length-1)) (by lia) (λj hj=>h2 j hj);have ev:v = .bool (bs.any id):=by
    have h3:(bs[argBest (λi j=>decide (b2i (bs.getD i false)>b2i (bs.getD j false))) (bs.length-1)]?).map Value.bool=some v:=by simpa using hP
    rw[yP]at hb;cases e:bs[argBest (λi j=>decide (b2i (bs.getD i false)>b2i (bs.getD j false))) (bs.length-1)]? with
    |none=>rw[e]at h3;cases h3
    |some b=>rw[e]at h3 hb;rw[<-hb];exact(zB h3).symm
   subst ev;refine⟨.bl (bs.any id),H,?_,rfl,q⟩;exact I.kept λb o e=>hk b o (λz=>absurd (zT e) (by rw[zW.mp z];exact xS _)) (zY _ e)
theorem N5{gi:Int->Int->Int}{gb:List Bool->Bool}{K:W.Frag}{H:Hp}{Q:VK}{i j:Int}:mMM gi gb K [.int i,.int j] H Q=Q (.int (gi i j)) H:=rfl
theorem N6{gi:Int->Int->Int}{gb:List Bool->Bool}{K:W.Frag}{H:Hp}{Q:VK}{p:Addr}:mMM gi gb K [.ref p] H Q=(∃bs:List Bool,SqL K H p (bs.map V.bl)/\0<bs.length/\Q (.bl (gb bs)) H):=rfl
theorem ku:∀{ss:List Str}{us:List Value},Vals (ss.map V.str) us->StrsAre us ss
 |[],us,r=>by cases r;exact .nil
 |x::ss,us,r=>by
  rw[List.map_cons]at r;cases r with
  |cons r1 r2 =>
   obtain⟨t,rfl⟩:=r1;exact .cons x t (ku r2)
theorem kj:∀{us:List Value}{ss:List Str},StrsAre us ss->Vals (ss.map V.str) us
 |_,_,.nil=>.nil
 |_,_,.cons x t h=>.cons ⟨t,rfl⟩ (kj h)
end
end My
namespace My
open PySem PySem.Spec L2
open PyProof.Rows hiding St
theorem yk:bootBuiltins "len"=some (.builtin "len"):=by decide +kernel
theorem Pb:bootBuiltins "max"=some (.builtin "max"):=by decide +kernel
theorem Uk:bootBuiltins "min"=some (.builtin "min"):=by decide +kernel
theorem W7:bootBuiltins "sorted"=some (.builtin "sorted"):=by decide +kernel
theorem zi:bootBuiltins "isinstance"=some (.builtin "isinstance"):=by decide +kernel
theorem gq:bootBuiltins "list"=some (.type "list"):=by decide +kernel
theorem yl:bootBuiltins "tuple"=some (.type "tuple"):=by decide +kernel
theorem Pc:bootBuiltins "set"=some (.type "set"):=by decide +kernel
theorem gp:bootBuiltins "int"=some (.type "int"):=by decide +kernel
theorem rl:bootBuiltins "bool"=some (.type "bool"):=by decide +kernel
theorem w01:decide (Str.ofString "letter"=Str.ofString "not")=false:=by decide +kernel
theorem w02:decide (Str.ofString "letter"=Str.ofString "and")=false:=by decide +kernel
theorem w03:decide (Str.ofString "letter"=Str.ofString "or")=false:=by decide +kernel
theorem w04:decide (Str.ofString "letter"=Str.ofString "if")=false:=by decide +kernel
theorem w10:decide (Str.ofString "not"=Str.ofString "letter")=false:=by decide +kernel
theorem w12:decide (Str.ofString "not"=Str.ofString "and")=false:=by decide +kernel
theorem w13:decide (Str.ofString "not"=Str.ofString "or")=false:=by decide +kernel
theorem w14:decide (Str.ofString "not"=Str.ofString "if")=false:=by decide +kernel
theorem w20:decide (Str.ofString "and"=Str.ofString "letter")=false:=by decide +kernel
theorem w21:decide (Str.ofString "and"=Str.ofString "not")=false:=by decide +kernel
theorem w23:decide (Str.ofString "and"=Str.ofString "or")=false:=by decide +kernel
theorem w24:decide (Str.ofString "and"=Str.ofString "if")=false:=by decide +kernel
theorem w30:decide (Str.ofString "or"=Str.ofString "letter")=false:=by decide +kernel
theorem w31:decide (Str.ofString "or"=Str.ofString "not")=false:=by decide +kernel
theorem w32:decide (Str.ofString "or"=Str.ofString "and")=false:=by decide +kernel
theorem w34:decide (Str.ofString "or"=Str.ofString "if")=false:=by decide +kernel
theorem w40:decide (Str.ofString "if"=Str.ofString "letter")=false:=by decide +kernel
theorem w41:decide (Str.ofString "if"=Str.ofString "not")=false:=by decide +kernel
theorem w42:decide (Str.ofString "if"=Str.ofString "and")=false:=by decide +kernel
theorem w43:decide (Str.ofString "if"=Str.ofString "or")=false:=by decide +kernel
inductive Op2|con|dis|imp
def Op2.word:Op2->Str
 | .con=>"and"
 | .dis=>"or"
 | .imp=>"if"
def Op2.so:Op2->Bool->Bool->Bool
 | .con,a,b=>a&&b
 | .dis,a,b=>a||b
 | .imp,a,b=>!a||b
inductive Say
 |letter (x:Str)
 |neg (s:Say)
 |bin (o:Op2) (s t:Say)
def Say.pieces:Say->Nat
 | .letter _=>1
 | .neg s=>s.pieces+1
 | .bin _ s t=>s.pieces+t.pieces+1
theorem Say.pieces_pos:∀s:Say,0<s.pieces
 | .letter _=>Nat.one_pos
 | .neg _=>sU _
 | .bin _ _ _=>sU _
def Say.letters:Say->List Str
 | .letter x=>[x]
 | .neg s=>s.letters
 | .bin _ s t=>s.letters++t.letters
def Say.so(hs:List Str):Say->Bool
 | .letter x=>hs.any λy=>y==x
 | .neg s=>!s.so hs
 | .bin o s t=>o.so (s.so hs) (t.so hs)
def SayAt(K:W.Frag)(H:Hp):V->Say->Prop
 |v,.letter x=>∃a,v = .ref a/\SqT K H a [.str "letter",.str x]
 |v,.neg s=>∃a u,v = .ref a/\SqT K H a [.str "not",u]/\SayAt K H u s
 |v,.bin o s t=>∃a u u',v = .ref a/\SqT K H a [.str o.word,u,u']/\SayAt K H u s/\SayAt K H u' t
theorem SayAt.mono{K:W.Frag}{H H':Hp}(t:Tups H H'):∀{s:Say}{v:V},SayAt K H v s->SayAt K H' v s
 | .letter x,v,⟨a,e,h⟩=>⟨a,e,t.sqT h⟩
 | .neg s,v,⟨a,u,e,h,h1⟩=>⟨a,u,e,t.sqT h,SayAt.mono t h1⟩
 | .bin o s r,v,⟨a,u,u',e,h,h1,h2⟩=>⟨a,u,u',e,t.sqT h,SayAt.mono t h1,SayAt.mono t h2⟩
theorem c7(hs:List Str):(hs.map V.str).all wc=true:=by
 rw[vM];intro x hx;obtain⟨y,_,rfl⟩:=zF.mp hx
 rfl
theorem Y8(x:Str)(hs:List Str):inV (.str x) (hs.map V.str)=hs.any λy=>y==x:=by
 unfold inV;rw[List.any_map]
 rfl
theorem ja(x:Str):PyData.strOk x=true↔∀c∈x.cps.toList,c<0x110000:=by
 unfold PyData.strOk;rw[<-Array.all_toList,vM];exact⟨λh c hc=>yN (h c hc),λh c hc=>yU (h c hc)⟩
theorem T5{x y:Str}(h1:PyData.strOk x=true)(h2:PyData.strOk y=true):PyData.strOk (x++y)=true:=by
 rw[ja]at h1 h2 ⊢;intro c hc;have qV:c∈(x.cps++y.cps).toList:=hc;rw[Array.toList_append]at qV;rcases zO.mp qV with z|z
 ·exact h1 c z
 ·exact h2 c z
theorem T6{x:Str}{c:Nat}(h1:PyData.strOk x=true)(h:c∈x.cps.toList):PyData.strOk ⟨#[c]⟩=true:=by
 rw[ja]at h1 ⊢;intro d hd;have:d=c:=by simpa using hd
 rw[this];exact h1 c h
theorem Yj{x:Str}(h1:PyData.strOk x=true)(l u:Option Int):PyData.strOk (Txt.slice x l u)=true:=by
 unfold Txt.slice;split
 ·exact h1
 ·rw[ja]at h1 ⊢;intro c hc;have qV:c∈List.filterMap (λi=>x.cps[i]?) (Builtin.Str.strSliceIndices l u 1 x.length):=by simpa using hc
  obtain⟨i,_,hi⟩:=tX.mp qV;exact h1 c (by
   have:=Array.mem_of_getElem? hi;simpa using this)
def Nm(x:Str):Prop:=x.length<=20/\PyData.strOk x=true
theorem ju(K:W.Frag)(H:Hp):∀ss:List Str,HasL K H (ss.map V.str) (ss.map PyData.str)
 |[]=>by simp[HasL]
 |x::ss=>by
  have ih:=ju K H ss;rw[List.map_cons,List.map_cons];unfold HasL;exact⟨_,_,rfl,by unfold Has;rfl,ih⟩
theorem lx{d:PyData}(h:SeqAt.shaped d=true):PyData.eqv d d=true:=SeqAt.eqv_refl d (SeqAt.canLay_of_shaped h)
def za:Int->List Str->List Str
 |_,[]=>[]
 |n,x::r=>if n % 2=1 then x::za (n / 2) r else za (n / 2) r
theorem xx{P:Program}{w:World}{K:W.Frag}{mg:Str->Option Value}{base:Heap}{x:Str}{st:Stmt}{ps:List Str}{sp:Sp}(F:Def K mg x st ps)(no:∀vs H Q E,¬sp vs H Q E):zw P w K mg base 0 x ps sp:=by
 obtain⟨f,fd,F,b,hm⟩:=F.ex;exact⟨f,fd,⟨λvs H Q E h=>absurd h (no vs H Q E),λA outer s H args us vs Q E _ _ _ _ h=>absurd h (no vs H Q E)⟩,.all b,F.kp,hm⟩
end My
namespace My
open PySem
namespace Tb
open PySem.SetTable
def av(m:Nat)(p:Probe):Probe :=
 if p.more>0 then{ p with j:=p.j+1,more:=p.more-1 }else
 { p with j:=(leap m p.i p.perturb).1,more:=runEnd m (leap m p.i p.perturb).1-(leap m p.i p.perturb).1,i:=(leap m p.i p.perturb).1,perturb:=(leap m p.i p.perturb).2 }
theorem ll(t:SetTable)(p:Probe):t.advance p=av t.mask p:=rfl
def itr(m:Nat):Nat->Probe->Probe
 |0,p=>p
 |k+1,p=>itr m k (av m p)
theorem om(m:Nat):∀(a b:Nat)(p:Probe),itr m (a+b) p=itr m b (itr m a p)
 |0,b,p=>by rw[Nat.zero_add];rfl
 |a+1,b,p=>by
  rw[show a+1+b=(a+b)+1 by lia];exact om m a b (av m p)
theorem l0(m k:Nat)(p:Probe):itr m (k+1) p=av m (itr m k p):=om m k 1 p
def hd(m i p:Nat):Probe:={ j:=i,more:=runEnd m i-i,i:=i,perturb:=p,dummy:=none }
def st0(m:Nat)(h:Int):Probe:=hd m (bits h % (m+1)) (bits h)
theorem Wg(m:Nat):∀(r j i p:Nat)(d:Option Nat),itr m r { j:=j,more:=r,i:=i,perturb:=p,dummy:=d }={ j:=j+r,more:=0,i:=i,perturb:=p,dummy:=d }
 |0,_,_,_,_=>rfl
 |r+1,j,i,p,d=>by
  show itr m r (av m { j:=j,more:=r+1,i:=i,perturb:=p,dummy:=d })=_;have e:av m { j:=j,more:=r+1,i:=i,perturb:=p,dummy:=d }={ j:=j+1,more:=r,i:=i,perturb:=p,dummy:=d }:=by
   unfold av;simp
  rw[e,Wg m r,show j+1+r=j+(r+1)by lia]
theorem Zn(m i p:Nat):itr m (runEnd m i-i+1) (hd m i p)=hd m (leap m i p).1 (leap m i p).2:=by
 rw[l0];unfold hd;rw[Wg]
 rfl
theorem Tz(m i:Nat):runEnd m i-i+1<=10:=by
 unfold runEnd;split<;>lia
def lp(m:Nat):Nat->Nat×Nat->Nat×Nat
 |0,x=>x
 |n+1,x=>lp m n (leap m x.1 x.2)
theorem Ve(m:Nat):∀(n:Nat)(x:Nat×Nat),∃k,k<=10*n/\itr m k (hd m x.1 x.2)=hd m (lp m n x).1 (lp m n x).2
 |0,x=>⟨0,zS _,rfl⟩
 |n+1,x=>by
  obtain⟨k,hk,e⟩:=Ve m n (leap m x.1 x.2);refine⟨runEnd m x.1-x.1+1+k,by have:=Tz m x.1;lia,?_⟩;rw[om,Zn];exact e
theorem ik(m:Nat):∀(a b:Nat)(x:Nat×Nat),lp m (a+b) x=lp m b (lp m a x)
 |0,b,x=>by rw[Nat.zero_add];rfl
 |a+1,b,x=>by
  rw[show a+1+b=(a+b)+1 by lia];exact ik m a b (leap m x.1 x.2)
theorem am(m:Nat):∀(n:Nat)(x:Nat×Nat),(lp m n x).2=x.2 / 32 ^ n
 |0,x=>by simp[lp]
 |n+1,x=>by
  show(lp m n (leap m x.1 x.2)).2=_;rw[am m n];show x.2 / 32 / 32 ^ n=_;rw[Nat.div_div_eq_div_mul,sS,Nat.mul_comm]
theorem Yx(h:Int):bits h<2 ^ 64:=by
 unfold bits;have h1:0<=h % (2 ^ 64:Int):=uZ _ (by decide);have h2:h % (2 ^ 64:Int)<2 ^ 64:=wC _ (by decide);lia
def cy(m:Nat):Nat->Nat->Nat
 |0,i=>i
 |n+1,i=>cy m n ((i*5+1) % (m+1))
theorem gy(m:Nat):∀(a b i:Nat),cy m (a+b) i=cy m b (cy m a i)
 |0,b,i=>by rw[Nat.zero_add];rfl
 |a+1,b,i=>by
  rw[show a+1+b=(a+b)+1 by lia];exact gy m a b _
theorem Vc(m:Nat):∀(n i:Nat),lp m n (i,0)=(cy m n i,0)
 |0,_=>rfl
 |n+1,i=>by
  show lp m n (leap m i 0)=_;have e:leap m i 0=((i*5+1) % (m+1),0):=by unfold leap;simp
  rw[e,Vc m n]
  rfl
theorem Rs(m:Nat)(n:Nat)(x:Nat×Nat):(lp m (n+1) x).1<=m:=by
 rw[ik];show(leap m (lp m n x).1 (lp m n x).2).1<=m;unfold leap;exact Nat.le_of_lt_succ (Nat.mod_lt _ (sU m))
def Mk(m:Nat):Prop:=m=7\/m=31\/m=127
def Qj(m:Nat):Bool:=(cy m (m+1) 0==0)&&(List.range (m+1)).all λe=>(List.range (m+1)).any λa=>cy m a 0==e
theorem Lb:Qj 7=true:=by decide +kernel
theorem orb{m:Nat}(hm:Mk m):cy m (m+1) 0=0/\∀e,e<=m->∃a,a<=m/\cy m a 0=e:=by
 have h:Qj m=true:=by rcases hm with rfl|rfl|rfl<;>first|exact Lb|exact orb31|exact orb127
 unfold Qj at h;rw[yQ,vM]at h;refine⟨by simpa using h.1,λe he=>?_⟩;have:=h.2 e (yB.mpr (by lia));rw[xD]at this;obtain⟨a,ha,e'⟩:=this;exact⟨a,by have:=yB.mp ha;lia,by simpa using e'⟩
theorem Ro{m:Nat}(hm:Mk m){i e:Nat}(hi:i<=m)(he:e<=m):∃k,k<=m/\cy m k i=e:=by
 obtain⟨h0,h1⟩:=orb hm;obtain⟨a,ha,rfl⟩:=h1 i hi;obtain⟨b,hb,rfl⟩:=h1 e he
 by_cases mL:a<=b
 ·refine⟨b-a,by lia,?_⟩;rw[<-gy,show a+(b-a)=b by lia]
 ·refine⟨b+(m+1)-a,by lia,?_⟩;rw[<-gy,show a+(b+(m+1)-a)=(m+1)+b by lia,gy,h0]
def pos(m:Nat)(h:Int)(k:Nat):Nat:=(itr m k (st0 m h)).j
theorem Oh{m:Nat}(hm:Mk m)(h:Int){e:Nat}(he:e<=m):∃k,k<=10*(m+13)/\pos m h k=e:=by
 have h13:lp m 13 (bits h % (m+1),bits h)=((lp m 13 (bits h % (m+1),bits h)).1,0):=by
  have:(lp m 13 (bits h % (m+1),bits h)).2=0:=by
   rw[am];exact Nat.div_eq_of_lt (Nat.lt_trans (Yx h) (by decide))
  exact Prod.ext rfl this
 obtain⟨k,hk,ek⟩:=Ro hm (Rs m 12 (bits h % (m+1),bits h)) he;obtain⟨r,hr,er⟩:=Ve m (13+k) (bits h % (m+1),bits h);refine⟨r,by lia,?_⟩;unfold pos st0;rw[er,ik,h13,Vc];exact ek
theorem Mf{P:Nat->Prop}:∀n:Nat,P n->∃k,k<=n/\P k/\∀k',k'<k->¬P k':=by
 intro n
 induction n using Nat.strongRecOn with
 |_ n ih =>
  intro h
  by_cases hc:∃k',k'<n/\P k'
  ·obtain⟨k',hk,hp⟩:=hc;obtain⟨k,h1,h2,h3⟩:=ih k' hk hp;exact⟨k,by lia,h2,h3⟩
  ·exact⟨n,zS _,h,λk' hk hp=>hc ⟨k',hk,hp⟩⟩
theorem bp:∀(n:Nat)(l:List Nat),(∀e,e<n->e∈l)->n<=l.length
 |0,_,_=>yO _
 |n+1,l,h=>by
  have hn:=h n (wU n);have h1:=bp n (l.erase n) λe he=>(List.mem_erase_of_ne (by lia)).mpr (h e (by lia));rw[List.length_erase_of_mem hn]at h1;have:=tM hn;lia
theorem aa{m:Nat}(hm:Mk m)(h:Int){l:List Nat}(hl:l.length<=m):∃K,K<=10*(m+13)/\pos m h K∉l/\∀k,k<K->pos m h k∈l:=by
 have hex:∃e,e<=m/\e∉l:=by
  by_cases hc:∃e,e<=m/\e∉l
  ·exact hc
  ·exfalso;have:=bp (m+1) l λe he=>xK λhn=>hc ⟨e,by lia,hn⟩;lia
 obtain⟨e,he,hn⟩:=hex;obtain⟨k,hk,ek⟩:=Oh hm h he;obtain⟨K,h1,h2,h3⟩:=Mf (P:=λk=>pos m h k∉l) k (by rw[ek];exact hn);exact⟨K,by lia,h2,λk' eM=>xK λhc=>h3 k' eM hc⟩
theorem uq{l:List Nat}(hr:l.Pairwise (·<·)){i i' d:Nat}(h:i<i')(h':i'<l.length):l.toArray.getD i d<l.toArray.getD i' d:=by
 have:=yC.mp hr i i' (by lia) h' h;simpa[Array.getD,h',show i<l.length by lia]using this
theorem lr{l:List Nat}(hr:l.Pairwise (·<·))(j:Nat):∀(gR lo hi:Nat),hi<=l.length->lo<=hi->hi-lo<=gR->(∀i,i<lo->l.toArray.getD i j<j)->(∀i,hi<=i->i<l.length->j<=l.toArray.getD i j) ->
  below.go l.toArray j gR lo hi<=l.length/\(∀i,i<below.go l.toArray j gR lo hi->l.toArray.getD i j<j)/\(∀i,below.go l.toArray j gR lo hi<=i->i<l.length->j<=l.toArray.getD i j)
 |0,lo,hi,h1,h2,h3,h4,h5=>by
  unfold below.go;exact⟨by lia,h4,λi nS=>h5 i (by lia)⟩
 |f+1,lo,hi,h1,h2,h3,h4,h5=>by
  unfold below.go
  by_cases aS:lo<hi
  ·rw[yS aS];dsimp only
   by_cases hc:l.toArray.getD ((lo+hi) / 2) j<j
   ·rw[yS hc];refine lr hr j f _ _ h1 (by lia) (by lia) (λi nS=>?_) h5
    by_cases e:i=(lo+hi) / 2
    ·rw[e];exact hc
    ·exact Nat.lt_trans (uq hr (by lia) (by lia)) hc
   ·rw[yY hc];refine lr hr j f _ _ (by lia) (by lia) (by lia) h4 (λi nS hl=>?_)
    by_cases e:i=(lo+hi) / 2
    ·rw[e];exact tU.mp hc
    ·exact yW (tU.mp hc) (xT (uq hr (by lia) hl))
  ·rw[yY aS];exact⟨by lia,h4,λi nS=>h5 i (by lia)⟩
theorem ve{l:List Nat}(hr:l.Pairwise (·<·))(j:Nat):below l.toArray j<=l.length/\(∀i,i<below l.toArray j->l.toArray.getD i j<j)/\(∀i,below l.toArray j<=i->i<l.length->j<=l.toArray.getD i j):=by
 unfold below;have hs:l.toArray.size=l.length:=zQ;rw[hs];exact lr hr j l.length 0 l.length (zS _) (yO _) (by lia) (λi hi=>by lia) (λi h1 h2=>by lia)
theorem uo{l:List Nat}{i d:Nat}(h:i<l.length):l.toArray.getD i d=l[i]:=by simp[Array.getD,h]
theorem W6{l:List Nat}(hr:l.Pairwise (·<·)){j:Nat}(h:j∈l):l[below l.toArray j]?=some j:=by
 obtain⟨b1,b2,b3⟩:=ve hr j;obtain⟨i,hi,e⟩:=vO h;have h1:¬i<below l.toArray j:=λz=>by
  have:=b2 i z;rw[uo hi,e]at this;lia
 have h2:¬below l.toArray j<i:=λz=>by
  have h3:=b3 (below l.toArray j) (zS _) (by lia);have h4:=uq (d:=j) hr z hi;rw[uo hi,e]at h4;lia
 have:below l.toArray j=i:=by lia
 rw[this,zL hi,e]
theorem Z4{l:List Nat}(hr:l.Pairwise (·<·)){j:Nat}:(∀x∈l.take (below l.toArray j),x<j)/\(∀x∈l.drop (below l.toArray j),j<=x):=by
 obtain⟨b1,b2,b3⟩:=ve hr j;constructor
 ·intro x hx;obtain⟨i,hi,e⟩:=vO hx;rw[yE]at hi;have:=b2 i (by lia);rw[uo (by lia)]at this;rw[List.getElem_take]at e;lia
 ·intro x hx;obtain⟨i,hi,e⟩:=vO hx;rw[xH]at hi;have:=b3 (below l.toArray j+i) (by lia) (by lia);rw[uo (by lia)]at this;rw[List.getElem_drop]at e;lia
theorem Yp{l:List Nat}(hr:l.Pairwise (·<·)){j:Nat}(hj:j∉l):(l.take (below l.toArray j)++j::l.drop (below l.toArray j)).Pairwise (·<·):=by
 obtain⟨h1,h2⟩:=Z4 hr (j:=j);have hd:∀x∈l.drop (below l.toArray j),j<x:=λx hx=>by
  have:=h2 x hx;have fH:x≠j:=λe=>hj (e▸vU hx);lia
 refine List.pairwise_append.mpr ⟨hr.sublist (List.take_sublist _ _),vF.mpr ⟨hd,hr.sublist (List.drop_sublist _ _)⟩,λa ha b hb=>?_⟩;rcases zG.mp hb with rfl|hb
 ·exact h1 a ha
 ·exact Nat.lt_trans (h1 a ha) (hd b hb)
end Tb
end My
namespace My
open PySem
namespace Tb
open PySem.SetTable
structure Rep(L:List (Nat×(Int×Value)))(es:Array (Int×Value))(t:SetTable):Prop where
 es:es=(L.map (·.2)).toArray
 pl:t.place=(L.map (·.1)).toArray
 dm:t.dummies=#[]
 up:(L.map (·.1)).Pairwise (·<·)
 pa:∀x∈L,∃k,pos t.mask x.2.1 k=x.1/\∀k',k'<k->pos t.mask x.2.1 k'∈L.map (·.1)
 mz:Mk t.mask
 fl:L.length<=t.mask
variable {L:List (Nat×(Int×Value))}{es:Array (Int×Value)}{t:SetTable}
theorem Rep.fits(r:Rep L es t):t.fits es.size=true:=by
 unfold SetTable.fits SetTable.fill;rw[r.pl,r.es,r.dm];simpa using r.fl
theorem Rep.odd(r:Rep L es t):t.gaveWay=false:=by
 unfold SetTable.gaveWay;rcases r.mz with e|e|e<;>rw[e]<;>rfl
theorem Y7(j:Nat):has #[] j=false:=by unfold has;simp
theorem Rep.slot_live(r:Rep L es t){j:Nat}(h:j∈L.map (·.1)):∃i e,t.slot j = .live i/\L[i]?=some (j,e)/\es[i]?=some e:=by
 have hb:=W6 r.up h;have hp:t.place[below t.place j]?=some j:=by rw[r.pl];simpa using hb
 rw[zE]at hb;cases hx:L[below (L.map (·.1)).toArray j]? with
 |none=>rw[hx]at hb;cases hb
 |some x =>
  rw[hx]at hb;have e1:x.1=j:=by simpa using hb
  refine⟨below t.place j,x.2,?_,?_,?_⟩
  ·unfold SetTable.slot;dsimp only;rw[hp];simp
  ·rw[r.pl,hx,<-e1]
  ·rw[r.es,r.pl];simp[hx]
theorem Rep.slot_free(r:Rep L es t){j:Nat}(h:j∉L.map (·.1)):t.slot j = .empty:=by
 unfold SetTable.slot;dsimp only;have hp:(t.place[below t.place j]?==some j)=false:=by
  rw[beq_eq_false_iff_ne];intro e;rw[r.pl]at e;exact h (by
   have:=Array.mem_of_getElem? e;simpa using this)
 rw[hp,r.dm,Y7];simp
theorem jy(m:Nat):∀(k:Nat)(p:Probe),(itr m k p).dummy=p.dummy
 |0,_=>rfl
 |k+1,p=>by
  rw[itr,jy m k];unfold av;split<;>rfl
theorem Rep.probe_go(r:Rep L es t){hashAt:Nat->Int}(hh:∀i e,es[i]?=some e->hashAt i=e.1)(h:Int){K:Nat}(hK:pos t.mask h K∉L.map (·.1))(hk:∀k,k<K->pos t.mask h k∈L.map (·.1)):∀(gR m:Nat),m<=K->K-m<gR ->
  (probe.go t hashAt h gR (itr t.mask m (st0 t.mask h))=some (.empty (pos t.mask h K) none)/\∀k e,m<=k->k<K->(pos t.mask h k,e)∈L->e.1≠h) \/
  ∃k i v,m<=k/\k<K/\probe.go t hashAt h gR (itr t.mask m (st0 t.mask h))=some (.candidate (pos t.mask h k) i (itr t.mask (k+1) (st0 t.mask h)))/\t.slot (pos t.mask h k) = .live i/\es[i]?=some (h,v)/\(pos t.mask h k,(h,v))∈L/\∀k' e,m<=k'->k'<k->(pos t.mask h k',e)∈L->e.1≠h
 |0,m,hm,hf=>by lia
 |f+1,m,hm,hf=>by
  unfold probe.go;have hj:(itr t.mask m (st0 t.mask h)).j=pos t.mask h m:=rfl;have hd:(itr t.mask m (st0 t.mask h)).dummy=none:=by rw[jy];rfl
  by_cases eK:m=K
  ·subst eK;rw[hj,r.slot_free hK];dsimp only;rw[hd];exact .inl ⟨rfl,λk e h1 h2=>by lia⟩
  ·have aS:m<K:=by lia
   obtain⟨i,el,hs,hL,he⟩:=r.slot_live (hk m aS);rw[hj,hs];dsimp only;have C7:∀e',(pos t.mask h m,e')∈L->e'=el:=λe' he'=>by
    obtain⟨i',nS,e2⟩:=vO he';have hL':=(zU.mp hL)
    obtain⟨hi,e3⟩:=hL';have:i'=i:=by
     rcases uV i' i with z|z|z
     ·have:=yC.mp r.up i' i (by simpa using nS) (by simpa using hi) z;simp[e2,e3]at this
     ·exact z
     ·have:=yC.mp r.up i i' (by simpa using hi) (by simpa using nS) z;simp[e2,e3]at this
    subst this;rw[e2]at e3;exact(Prod.mk.inj e3).2
   by_cases hc:(hashAt i==h)=true
   ·rw[yS hc];have qR:el.1=h:=by rw[<-hh i el he];exact eq_of_beq hc
    refine .inr ⟨m,i,el.2,zS _,aS,?_,hs,?_,?_,λk' e h1 h2=>by lia⟩
    ·rw[ll,<-l0]
    ·rw[he,<-qR]
    ·have e5:((h,el.2):Int×Value)=el:=Prod.ext qR.symm rfl;rw[e5];exact zM hL
   ·rw[yY hc,ll,<-l0];have qR:el.1≠h:=λz=>hc (by rw[hh i el he,z];simp);rcases Rep.probe_go r hh h hK hk f (m+1) (by lia) (by lia)with⟨a,b⟩|⟨k,i',v,a1,a2,a3,a4,a5,a6,a7⟩
    ·refine .inl ⟨a,λk e h1 h2 fP=>?_⟩
     by_cases z:k=m
     ·subst z;rw[C7 e fP];exact qR
     ·exact b k e (by lia) h2 fP
    ·refine .inr ⟨k,i',v,by lia,a2,a3,a4,a5,a6,λk' e h1 h2 fP=>?_⟩
     by_cases z:k'=m
     ·subst z;rw[C7 e fP];exact qR
     ·exact a7 k' e (by lia) h2 fP
theorem ue{α β:Type}(f:α->β)(l:List α)(p:Nat)(x:α):(l.take p++x::l.drop p).map f=(l.map f).take p++f x::(l.map f).drop p:=by simp
theorem ui{α:Type}(l:List α)(p:Nat)(x:α):insertAt l.toArray p x=(l.take p++x::l.drop p).toArray:=by
 apply uQ.mp;rw[SetTable.toList_insertAt]
def ins(L:List (Nat×(Int×Value)))(j:Nat)(e:Int×Value):List (Nat×(Int×Value)):=L.take (below (L.map (·.1)).toArray j)++(j,e)::L.drop (below (L.map (·.1)).toArray j)
theorem mem_ins{j:Nat}{e:Int×Value}{x:Nat×(Int×Value)}:x∈ins L j e↔x=(j,e)\/x∈L:=by
 unfold ins;rw[zO,zG];constructor
 ·rintro(h|h|h)
  ·exact .inr (xE h)
  ·exact .inl h
  ·exact .inr (vU h)
 ·rintro(h|h)
  ·exact .inr (.inl h)
  ·have:x∈L.take (below (L.map (·.1)).toArray j)++L.drop (below (L.map (·.1)).toArray j):=by rw[List.take_append_drop];exact h
   rcases zO.mp this with z|z
   ·exact .inl z
   ·exact .inr (.inr z)
theorem dw(j:Nat)(e:Int×Value):(ins L j e).Perm ((j,e)::L):=by
 unfold ins;refine List.perm_middle.trans ?_;rw[List.take_append_drop]
theorem Rep.put(r:Rep L es t){h:Int}{x:Value}{K:Nat}(hK:pos t.mask h K∉L.map (·.1))(hk:∀k,k<K->pos t.mask h k∈L.map (·.1))(hl:L.length+1<=t.mask):
  Rep (ins L (pos t.mask h K) (h,x)) (insertAt es (t.put (pos t.mask h K)).2 (h,x)) (t.put (pos t.mask h K)).1:=by
 have e1:(t.put (pos t.mask h K)).2=below (L.map (·.1)).toArray (pos t.mask h K):=by unfold SetTable.put;dsimp only;rw[r.pl]
 have e2:(t.put (pos t.mask h K)).1.mask=t.mask:=rfl;refine⟨?_,?_,?_,?_,?_,r.mz,?_⟩
 ·rw[e1,r.es,ui];unfold ins;rw[ue]
 ·unfold SetTable.put;dsimp only;rw[r.pl,ui];unfold ins;rw[ue]
 ·unfold SetTable.put;dsimp only;rw[r.dm,Y7];simp
 ·unfold ins;rw[ue];exact Yp r.up hK
 ·intro y hy;rw[e2];have sub:∀j,j∈L.map (·.1)->j∈(ins L (pos t.mask h K) (h,x)).map (·.1):=λj hj=>by
   obtain⟨z,hz,rfl⟩:=zF.mp hj;exact zF.mpr ⟨z,mem_ins.mpr (.inr hz),rfl⟩
  rcases mem_ins.mp hy with rfl|hy
  ·exact⟨K,rfl,λk' eM=>sub _ (hk k' eM)⟩
  ·obtain⟨k,h1,h2⟩:=r.pa y hy;exact⟨k,h1,λk' eM=>sub _ (h2 k' eM)⟩
 ·have:=(dw (L:=L) (pos t.mask h K) (h,x)).length_eq;rw[this];exact hl
end Tb
end My
namespace My
open PySem
namespace Tb
open PySem.SetTable
theorem kc{m i:Nat}(h:i<=m):runEnd m i<=m:=by unfold runEnd;split<;>lia
theorem qx(m i:Nat):i<=runEnd m i:=by unfold runEnd;split<;>lia
theorem U0(m:Nat):∀(k:Nat)(p:Probe),p.j+p.more<=m->(itr m k p).j+(itr m k p).more<=m
 |0,_,h=>h
 |k+1,p,h=>by
  refine U0 m k (av m p) ?_;unfold av;split
  ·show p.j+1+(p.more-1)<=m;lia
  ·have h1:(leap m p.i p.perturb).1<=m:=by unfold leap;exact Nat.le_of_lt_succ (Nat.mod_lt _ (sU m))
   have h2:=kc h1;have h3:=qx m (leap m p.i p.perturb).1;show(leap m p.i p.perturb).1+(runEnd m (leap m p.i p.perturb).1-(leap m p.i p.perturb).1)<=m;lia
theorem Qp(m:Nat)(h:Int)(k:Nat):pos m h k<=m:=by
 have h1:bits h % (m+1)<=m:=Nat.le_of_lt_succ (Nat.mod_lt _ (sU m));have h2:=kc h1;have h3:=qx m (bits h % (m+1));have:=U0 m k (st0 m h) (by show bits h % (m+1)+(runEnd m (bits h % (m+1))-bits h % (m+1))<=m;lia);unfold pos;lia
theorem my(m:Nat):∀(k r j i p:Nat)(d:Option Nat),k<=r->(itr m k { j:=j,more:=r,i:=i,perturb:=p,dummy:=d }).j=j+k
 |0,_,_,_,_,_,_=>rfl
 |k+1,r,j,i,p,d,h=>by
  show(itr m k (av m { j:=j,more:=r,i:=i,perturb:=p,dummy:=d })).j=_;have e:av m { j:=j,more:=r,i:=i,perturb:=p,dummy:=d }={ j:=j+1,more:=r-1,i:=i,perturb:=p,dummy:=d }:=by
   unfold av;rw[yS (by show r>0;lia)]
  rw[e,my m k (r-1) (j+1) i p d (by lia)];lia
theorem Xh{n:Nat}{p:Nat->Bool}(h:(List.range n).find? p=none):∀k,k<n->p k=false:=λk hk=>by
 have:=List.find?_eq_none.mp h k (yB.mpr hk);simpa using this
theorem Xi{n k:Nat}{p:Nat->Bool}(h:(List.range n).find? p=some k):k<n/\p k=true/\∀k',k'<k->p k'=false:=by
 have h1:=List.find?_range_eq_some.mp h;refine⟨by simpa using h1.2.1,h1.1,λk' eM=>by simpa using h1.2.2 k' eM⟩
def fr(o:Array (Option Nat))(j:Nat):Bool:=(o.getD j (some 0)).isNone
theorem jr(m:Nat)(o:Array (Option Nat)):∀(f:Nat)(x:Nat×Nat)(n:Nat),n<f->fr o (lp m n x).1=true ->
  ∃k,layClean.free m o f x.1 x.2=some (itr m k (hd m x.1 x.2)).j/\fr o (itr m k (hd m x.1 x.2)).j=true/\∀k',k'<k->fr o (itr m k' (hd m x.1 x.2)).j=false
 |0,_,_,h,_=>by lia
 |f+1,x,n,hn,Bg=>by
  unfold layClean.free;have hre:=qx m x.1;cases hc:(List.range (runEnd m x.1+1-x.1)).find? λk=>(o.getD (x.1+k) (some 0)).isNone with
  |some k =>
   obtain⟨h1,h2,h3⟩:=Xi hc;have ep:∀k',k'<=k->(itr m k' (hd m x.1 x.2)).j=x.1+k':=λk' eM=>my m k' _ _ _ _ _ (by lia);refine⟨k,?_,?_,λk' eM=>?_⟩
   ·dsimp only;rw[ep k (zS _)]
   ·rw[ep k (zS _)];exact h2
   ·rw[ep k' (by lia)];exact h3 k' eM
  |none =>
   have h1:=Xh hc;have ep:∀k',k'<=runEnd m x.1-x.1->(itr m k' (hd m x.1 x.2)).j=x.1+k':=λk' eM=>my m k' _ _ _ _ _ eM;cases n with
   |zero =>
    exfalso;have:=h1 0 (by lia);have h2:fr o x.1=true:=Bg;unfold fr at h2;rw[Nat.add_zero]at this;rw[this]at h2;cases h2
   |succ n =>
    obtain⟨k,e,a1,a2⟩:=jr m o f (leap m x.1 x.2) n (by lia) Bg;have er:∀k',itr m (runEnd m x.1-x.1+1+k') (hd m x.1 x.2)=itr m k' (hd m (leap m x.1 x.2).1 (leap m x.1 x.2).2):=λk'=>by rw[om,Zn]
    refine⟨runEnd m x.1-x.1+1+k,?_,?_,λk' eM=>?_⟩
    ·rw[er];exact e
    ·rw[er];exact a1
    ·by_cases z:k'<runEnd m x.1-x.1+1
     ·rw[ep k' (by lia)];exact h1 k' (by lia)
     ·have:=a2 (k'-(runEnd m x.1-x.1+1)) (by lia);rw[<-er,show runEnd m x.1-x.1+1+(k'-(runEnd m x.1-x.1+1))=k' by lia]at this;exact this
theorem We{m:Nat}(hm:Mk m)(h:Int){e:Nat}(he:e<=m):∃n,n<turns m/\(lp m n (bits h % (m+1),bits h)).1=e:=by
 have h13:lp m 13 (bits h % (m+1),bits h)=((lp m 13 (bits h % (m+1),bits h)).1,0):=by
  have:(lp m 13 (bits h % (m+1),bits h)).2=0:=by
   rw[am];exact Nat.div_eq_of_lt (Nat.lt_trans (Yx h) (by decide))
  exact Prod.ext rfl this
 obtain⟨k,hk,ek⟩:=Ro hm (Rs m 12 (bits h % (m+1),bits h)) he;refine⟨13+k,by unfold turns;lia,?_⟩;rw[ik,h13,Vc];exact ek
def lv(m:Nat)(o:Array (Option Nat)):List (Nat×Nat):=(List.range (m+1)).filterMap λj=>(o.getD j none).map (j,·)
theorem dk{α β:Type}{g g':α->Option β}:∀{l:List α},(∀a∈l,g' a=g a)->l.filterMap g'=l.filterMap g
 |[],_=>rfl
 |a::l,h=>by
  rw[xV,xV,h a yZ,dk λb hb=>h b (zC _ hb)]
theorem Y3{β:Type}{g g':Nat->Option β}{j:Nat}{b:β}(hg:g j=none)(HQ:g' j=some b)(fH:∀a,a≠j->g' a=g a):∀{l:List Nat},l.Nodup->j∈l->(l.filterMap g').Perm (b::l.filterMap g)
 |[],_,h=>by simp at h
 |a::l,hn,h=>by
  rw[vB]at hn;rw[xV,xV]
  by_cases e:a=j
  ·subst e;rw[hg,HQ];dsimp only;rw[dk λc hc=>fH c λz=>hn.1 (z▸hc)]
  ·rw[fH a e];have hj:j∈l:=by
    rcases zG.mp h with z|z
    ·exact absurd z.symm e
    ·exact z
   have ih:=Y3 hg HQ fH hn.2 hj;cases g a with
   |none=>exact ih
   |some c=>exact(ih.cons c).trans (.swap _ _ _)
structure Laid(m:Nat)(hs:List Int)(o:Array (Option Nat))(Z:List (Nat×Nat)):Prop where
 sz:o.size=m+1
 pm:(lv m o).Perm Z
 ix:Z.map (·.2)=List.range hs.length
 fr:∀j,fr o j=true↔j<=m/\j∉Z.map (·.1)
 pa:∀z∈Z,∀h,hs[z.2]?=some h->∃k,pos m h k=z.1/\∀k',k'<k->pos m h k'∈Z.map (·.1)
theorem Laid.zero(m:Nat):Laid m [] (Array.replicate (m+1) none) []:=by
 refine⟨by simp,?_,rfl,λj=>?_,λz hz=>by simp at hz⟩
 ·unfold lv;have:(List.range (m+1)).filterMap (λj=>((Array.replicate (m+1) (none:Option Nat)).getD j none).map (j,·))=[]:=by
   rw[List.filterMap_eq_nil_iff];intro j hj;have HK:j<m+1:=yB.mp hj;simp[Array.getD,HK]
  rw[this]
 ·unfold Tb.fr
  by_cases hj:j<m+1
  ·simp[Array.getD,hj];lia
  ·simp[Array.getD,hj];lia
theorem Laid.step{m:Nat}{hs:List Int}{o:Array (Option Nat)}{Z:List (Nat×Nat)}(hm:Mk m)(la:Laid m hs o Z)(h:Int)(hl:hs.length+1<=m):
  ∃j,layClean.free m o (turns m) (bits h % (m+1)) (bits h)=some j/\Laid m (hs++[h]) (o.setIfInBounds j (some hs.length)) (Z++[(j,hs.length)]):=by
 have hZ:Z.length=hs.length:=by
  have:=xF List.length la.ix;simpa using this
 have hex:∃e,e<=m/\e∉Z.map (·.1):=by
  by_cases hc:∃e,e<=m/\e∉Z.map (·.1)
  ·exact hc
  ·exfalso;have:=bp (m+1) (Z.map (·.1)) λe he=>xK λhn=>hc ⟨e,by lia,hn⟩;rw[zX]at this;lia
 obtain⟨e,he,hen⟩:=hex;obtain⟨n,hn,en⟩:=We hm h he;obtain⟨k,e1,e2,e3⟩:=jr m o (turns m) (bits h % (m+1),bits h) n hn (by rw[en];exact(la.fr e).mpr ⟨he,hen⟩);have AW:(itr m k (hd m (bits h % (m+1)) (bits h))).j=pos m h k:=rfl;rw[AW]at e1 e2;obtain⟨j1,j2⟩:=(la.fr _).mp e2;refine⟨pos m h k,e1,?_,?_,?_,λj=>?_,λz hz h' hh=>?_⟩
 ·rw[Array.size_setIfInBounds];exact la.sz
 ·have aS:pos m h k<o.size:=by rw[la.sz];lia
  have HA:o.getD (pos m h k) none=none:=by
   unfold Tb.fr at e2;simp only[Array.getD,aS,dif_pos]at e2 ⊢;simpa using e2
  have key:(lv m (o.setIfInBounds (pos m h k) (some hs.length))).Perm ((pos m h k,hs.length)::lv m o):=by
   unfold lv;refine Y3 (j:=pos m h k) ?_ ?_ ?_ List.nodup_range (yB.mpr (by lia))
   ·rw[HA];rfl
   ·have:(o.setIfInBounds (pos m h k) (some hs.length)).getD (pos m h k) none=some hs.length:=by simp[Array.getD,aS]
    rw[this];rfl
   ·intro a ha;have:(o.setIfInBounds (pos m h k) (some hs.length)).getD a none=o.getD a none:=by
     by_cases hz:a<o.size
     ·simp[Array.getD,hz,Array.getElem_setIfInBounds,wY ha]
     ·simp[Array.getD,hz]
    rw[this]
  refine key.trans ((la.pm.cons _).trans ?_);exact(List.perm_append_singleton _ _).symm
 ·rw[zP,la.ix,zN,xB,List.range_succ];rfl
 ·have aS:pos m h k<o.size:=by rw[la.sz];lia
  rw[zP,zO]
  by_cases ej:j=pos m h k
  ·subst ej;have:Tb.fr (o.setIfInBounds (pos m h k) (some hs.length)) (pos m h k)=false:=by unfold Tb.fr;simp[Array.getD,aS]
   rw[this];simp
  ·have:Tb.fr (o.setIfInBounds (pos m h k) (some hs.length)) j=Tb.fr o j:=by
    unfold Tb.fr
    by_cases hz:j<o.size
    ·simp[Array.getD,hz,Array.getElem_setIfInBounds,wY ej]
    ·simp[Array.getD,hz]
   rw[this,la.fr];simp[ej]
 ·have sub:∀q,q∈Z.map (·.1)->q∈(Z++[(pos m h k,hs.length)]).map (·.1):=λq hq=>by rw[zP];exact xL _ hq
  rcases zO.mp hz with hz|hz
  ·have aS:z.2<hs.length:=by
    have:z.2∈Z.map (·.2):=yK hz;rw[la.ix]at this;exact yB.mp this
   rw[yM aS]at hh;obtain⟨k2,a1,a2⟩:=la.pa z hz h' hh;exact⟨k2,a1,λk' eM=>sub _ (a2 k' eM)⟩
  ·rw[zW]at hz;subst hz;have:h'=h:=by simpa using hh.symm
   subst this;refine⟨k,rfl,λk' eM=>sub _ ?_⟩;have hb:=e3 k' eM;have Hx:(itr m k' (hd m (bits h' % (m+1)) (bits h'))).j=pos m h' k':=rfl;rw[Hx]at hb;have Be:pos m h' k'<=m:=Qp m h' k';refine xK λhn=>?_;have:=(la.fr _).mpr ⟨Be,hn⟩;rw[this]at hb;cases hb
end Tb
end My
namespace My
open PySem
namespace Tb
open PySem.SetTable
def dq(m:Nat)(aO:Option (Array (Option Nat)×Nat))(h:Int):Option (Array (Option Nat)×Nat):=do
 let(owner,k) <-aO
 let j <-layClean.free m owner (turns m) (bits h % (m+1)) (bits h)
 pure (owner.setIfInBounds j (some k),k+1)
theorem d0(m:Nat)(hs:Array Int):layClean m hs=(hs.foldl (dq m) (some (Array.replicate (m+1) none,0))).map (·.1):=rfl
theorem jo{m:Nat}(hm:Mk m):∀(rest done:List Int)(o:Array (Option Nat))(Z:List (Nat×Nat)),Laid m done o Z->done.length+rest.length<=m ->
  ∃o' Z',rest.foldl (dq m) (some (o,done.length))=some (o',(done++rest).length)/\Laid m (done++rest) o' Z'
 |[],done,o,Z,la,_=>⟨o,Z,by simp,by rw[List.append_nil];exact la⟩
 |h::rest,done,o,Z,la,hl=>by
  rw[yF]at hl;obtain⟨j,e,la'⟩:=la.step hm h (by lia);obtain⟨o',Z',e',Fj⟩:=jo hm rest (done++[h]) _ _ la' (by rw[zN,xB];lia);refine⟨o',Z',?_,by rw[xN]at Fj;exact Fj⟩;rw[List.foldl_cons];have e2:dq m (some (o,done.length)) h=some (o.setIfInBounds j (some done.length),(done++[h]).length):=by
   unfold dq;show(layClean.free m o (turns m) (bits h % (m+1)) (bits h)).bind _=_;rw[e];simp
  rw[e2,e',xN]
  rfl
theorem dn(es:Array (Int×Value)):∀l:List (Nat×Nat),(∀z∈l,z.2<es.size)->(l.map (·.2)).filterMap (λi=>es[i]?)=l.map λz=>es.getD z.2 (0,Value.none)
 |[],_=>rfl
 |z::l,h=>by
  have hz:=h z yZ;rw[List.map_cons,xV,List.map_cons,dn es l λy hy=>h y (zC _ hy)];have e:es[z.2]?=some (es.getD z.2 (0,Value.none)):=by simp[Array.getD,hz]
  rw[e]
theorem j6(es:Array (Int×Value)):(List.range es.size).map (λk=>es.getD k (0,Value.none))=es.toList:=by
 apply vL
 ·simp
 ·intro i h1 h2;have hi:i<es.size:=by simpa using h1
  simp[Array.getD,hi]
theorem Mh(m:Nat)(o:Array (Option Nat)):((lv m o).map (·.1)).Pairwise (·<·):=by
 have e:∀l:List Nat,((l.filterMap λj=>(o.getD j none).map (j,·)).map (·.1))=l.filter λj=>(o.getD j none).isSome:=by
  intro l
  induction l with
  |nil=>rfl
  |cons a l ih =>
   rw[xV,List.filter_cons];cases hg:o.getD a none with
   |none=>simpa using ih
   |some c=>simpa using ih
 unfold lv;rw[e];exact List.Pairwise.sublist List.filter_sublist List.pairwise_lt_range
theorem U6{m:Nat}(hm:Mk m)(es:Array (Int×Value))(hn:es.size<=m)(fi mv:Nat)(led plain:Bool):
  ∃t' order,laid m fi mv led plain (es.map (·.1))=some (t',order)/\t'.mask=m/\t'.led=led/\t'.plain=plain/\∃L',Rep L' (order.filterMap (es[·]?)) t'/\(L'.map (·.2)).Perm es.toList:=by
 obtain⟨o,Z,e,la⟩:=jo hm (es.map (·.1)).toList [] _ _ (Laid.zero m) (by simpa using hn);rw[List.nil_append]at e la;have aN:((es.map (·.1)).toList).length=es.size:=by simp
 have ec:layClean m (es.map (·.1))=some o:=by
  rw[d0,<-Array.foldl_toList];show Option.map _ (List.foldl (dq m) (some (Array.replicate (m+1) none,([]:List Int).length)) _)=_;rw[e]
  rfl
 have hv:∀z∈lv m o,z.2<es.size:=λz hz=>by
  have:z.2∈Z.map (·.2):=yK (la.pm.mem_iff.mp hz);rw[la.ix,aN]at this;exact yB.mp this
 refine⟨_,_,by
  unfold laid;rw[ec]
  rfl,rfl,rfl,rfl,(lv m o).map (λz=>(z.1,es.getD z.2 (0,Value.none))),⟨?_,?_,rfl,?_,?_,hm,?_⟩,?_⟩
 ·show Array.filterMap _ ((lv m o).map (·.2)).toArray=_;apply uQ.mp;rw[Array.toList_filterMap];show List.filterMap _ ((lv m o).map (·.2))=_;rw[dn es _ hv,xX]
  rfl
 ·show((lv m o).map (·.1)).toArray=_;rw[xX]
  rfl
 ·rw[xX];exact Mh m o
 ·intro x hx;obtain⟨z,hz,rfl⟩:=zF.mp hx;have AN:=hv z hz;have hh:((es.map (·.1)).toList)[z.2]?=some (es.getD z.2 (0,Value.none)).1:=by simp[Array.getD,AN]
  obtain⟨k,a1,a2⟩:=la.pa z (la.pm.mem_iff.mp hz) _ hh;refine⟨k,a1,λk' eM=>?_⟩;rw[xX];have:=a2 k' eM;exact(la.pm.map (·.1)).mem_iff.mpr this
 ·have:(lv m o).length=es.size:=by
   rw[la.pm.length_eq];have:=xF List.length la.ix;simpa using this
  rw[zX,this];exact hn
 ·rw[xX];have h1:((lv m o).map λz=>es.getD z.2 (0,Value.none)).Perm (Z.map λz=>es.getD z.2 (0,Value.none)):=la.pm.map _;have h2:(Z.map λz=>es.getD z.2 (0,Value.none))=es.toList:=by
   have:(Z.map λz=>es.getD z.2 (0,Value.none))=(Z.map (·.2)).map λk=>es.getD k (0,Value.none):=by rw[xX];rfl
   rw[this,la.ix,aN,j6]
  rw[<-h2];exact h1
def rj(L:List (Nat×(Int×Value)))(t:SetTable):Prop:=L.length*5<t.mask*3
theorem bv{L:List (Nat×(Int×Value))}{es:Array (Int×Value)}{t:SetTable}(r:Rep L es t)(hb:L.length<=76)(h0:(L.length-1)*5<t.mask*3)(h1:t.mask*3<=L.length*5):
  sizeAbove (grown L.length)<=4096/\∃t' order L',t.relaid (es.map (·.1)) (grown L.length)=some (t',order)/\t'.led=t.led/\t'.plain=t.plain/\Rep L' (order.filterMap (es[·]?)) t'/\(L'.map (·.2)).Perm (L.map (·.2))/\rj L' t':=by
 have C0:es.size=L.length:=by rw[r.es];simp
 have key:∀m',Mk m'->L.length<=m'->sizeAbove (grown L.length)-1=m'->L.length*5<m'*3->∃t' order L',t.relaid (es.map (·.1)) (grown L.length)=some (t',order)/\t'.led=t.led/\t'.plain=t.plain/\Rep L' (order.filterMap (es[·]?)) t'/\(L'.map (·.2)).Perm (L.map (·.2))/\rj L' t':=by
  intro m' fP hl hs hr;obtain⟨t',order,e1,e2,e3,e4,L',rp,pm⟩:=U6 fP es (by lia) t.finger (t.movedTo m') t.led t.plain;have el:es.toList=L.map (·.2):=by rw[r.es]
  refine⟨t',order,L',?_,e3,e4,rp,by rw[<-el];exact pm,?_⟩
  ·unfold SetTable.relaid;rw[hs];exact e1
  ·unfold rj;have h5:L'.length=L.length:=by
    have:=pm.length_eq;rw[el]at this;simpa using this
   rw[h5,e2];exact hr
 rcases r.mz with e|e|e
 ·rw[e]at h0 h1;have hL:L.length=5:=by lia
  rw[hL]at key ⊢;exact⟨by decide,key 31 (.inr (.inl rfl)) (by decide) (by decide) (by decide)⟩
 ·rw[e]at h0 h1;have hL:L.length=19:=by lia
  rw[hL]at key ⊢;exact⟨by decide,key 127 (.inr (.inr rfl)) (by decide) (by decide) (by decide)⟩
 ·rw[e]at h0 h1;lia
end Tb
end My
namespace My
open PySem PySem.Spec PySem.W
section
variable {prog:Program}{w:World}{A:Around}{E:Value->Shared->Prop}{s:Shared}
def Xn:Bool->Value->Bool
 |b,.bool c=>c==b
 |_,_=>false
theorem xy{b:Bool}{v:Value}(h:Xn b v=true):v = .bool b:=by
 cases v<;>simp_all [Xn]
theorem Sn{b:Bool}{Q:Int->Shared->Prop}(h:Q (if b=true then 1 else 0) { s with toks:=s.toks+1 }):wpAny (model prog w) A (pyHash (.bool b)) Q E s:=by
 show wpAny _ _ (pyHashByItsType (.bool b)) _ _ _;refine pyHash_slot (T:="bool") rfl F.slot_bool_hash entry_int_hash (args_int_hash _) (beq_builtin_none _) (.inl rfl) ?_;cases b
 ·exact(show wpAny _ _ (do ret (<-mkInt 0)) _ _ s from zZ (wpAny_mkInt (zV ⟨_,_,rfl,h⟩)))
 ·exact(show wpAny _ _ (do ret (<-mkInt 1)) _ _ s from zZ (wpAny_mkInt (zV ⟨_,_,rfl,h⟩)))
def ls(prog:Program)(w:World):PySem.KeyKind prog w Bool where
 is:=Xn
 hash:=λb=>if b=true then 1 else 0
 inj:=λv a b h1 h2=>by
  have e1:=xy h1;have e2:=xy h2;rw[e1]at e2;exact Value.bool.inj e2
 byValue:=λk v h=>by rw[xy h];rfl
 pyHash:=λhv h=>by rw[xy hv];exact Sn h
 eqBool:=λ{A E s a b u v Q} hu hv h=>by
  rw[xy hu,xy hv];refine vV a b _ _ _ _ ?_;have e:(a==b)=decide (a=b):=by cases a<;>cases b<;>rfl
  rw[e];exact h
 «strs»:=λk x t v h=>by simp[Xn]at h
abbrev Bt(prog:Program)(w:World)(h:Heap)(k:List Bool)(a:Addr):Prop:=IsTupleKey (ls prog w) h k a
abbrev Bh(prog:Program)(w:World)(k:List Bool):Int:=tupleKeyHash (ls prog w) k
theorem de{h:Heap}{k:List Bool}{vs:List Value}(x:ItemsAre (ls prog w) k vs):∀v∈vs,∃b,v = .bool b:=by
 induction x with
 |nil=>intro v hv;simp at hv
 |cons h1 _ ih =>
  intro v hv;rcases zG.mp hv with rfl|hv
  ·exact⟨_,xy h1⟩
  ·exact ih v hv
theorem Z6{k:List Bool}{a:Addr}{Q:Bool->Shared->Prop}(hk:Bt prog w s.heap k a)(h:Q true s):wpAny (model prog w) A (hashByValue 8 (.ref a)) Q E s:=by
 have hT:=hk.typeIs;obtain⟨o,items,n,ho,hc,hd,hi⟩:=hk;unfold hashByValue;refine zZ (wpAny_specialOf hT F.slot_tuple_hash.lookup ?_);show wpAny _ _ (seqItems? (.ref a) >>= _) _ _ s;refine zZ (xA ho hd ?_);refine zZ ?_;show wpAny _ _ (forIn items _ _) _ _ s;rw[<-Array.forIn_toList];refine wpAny_forIn_list _ (λrest r s'=>r.1=none/\s'=s/\∀v∈rest,∃b,v = .bool b) _ ?_ ?_ _ _ ⟨rfl,rfl,de (h:=s.heap) hi⟩
 ·rintro v rest r s' ⟨hr,rfl,dR⟩;obtain⟨b,rfl⟩:=dR v yZ;refine zZ (zV ?_);simp only[Bool.not_true,Bool.false_eq_true,if_false];exact zV ⟨rfl,rfl,λu Cu=>dR u (zC _ Cu)⟩
 ·rintro⟨r1,r2⟩ s' ⟨hr,rfl,_⟩;simp only at hr;subst hr;exact zV h
theorem dc{k:List Bool}{a:Addr}{Q:Bool->Shared->Prop}(hk:Bt prog w s.heap k a)(h:Q false s):wpAny (model prog w) A (ofAClassStatement 8 (.ref a)) Q E s:=by
 have hT:=hk.typeIs;obtain⟨o,items,n,ho,hc,hd,hi⟩:=hk;unfold ofAClassStatement;refine zZ (uL hT ?_);show wpAny _ _ (pure true >>= _) _ _ s;refine zZ (zV ?_);simp only[Bool.not_true,Bool.false_eq_true,if_false];refine zZ (xA ho hd ?_);refine zZ ?_;show wpAny _ _ (forIn items _ _) _ _ s;rw[<-Array.forIn_toList];refine wpAny_forIn_list _ (λrest r s'=>r.1=none/\s'=s/\∀v∈rest,∃b,v = .bool b) _ ?_ ?_ _ _ ⟨rfl,rfl,de (h:=s.heap) hi⟩
 ·rintro v rest r s' ⟨hr,rfl,dR⟩;obtain⟨b,rfl⟩:=dR v yZ;refine zZ (zV ?_);simp only[Bool.false_eq_true,if_false];exact zV ⟨rfl,rfl,λu Cu=>dR u (zC _ Cu)⟩
 ·rintro⟨r1,r2⟩ s' ⟨hr,rfl,_⟩;simp only at hr;subst hr;exact zV h
theorem W8{k:List Bool}{a:Addr}{ys:List Value}{Q:Bool->Shared->Prop}(hk:Bt prog w s.heap k a)(hy:∀y∈ys,∃k' b,y = .ref b/\Bt prog w s.heap k' b)(h:Q false s):
  wpAny (model prog w) A (searchCouldBeSeen (.ref a) ys) Q E s:=by
 unfold searchCouldBeSeen;refine zZ ?_;refine wpAny_forIn_list _ (λrest r s'=>r.1=none/\s'=s/\∀y∈rest,∃k' b,y = .ref b/\Bt prog w s.heap k' b) _ ?_ ?_ _ _ ⟨rfl,rfl,hy⟩
 ·rintro v rest r s' ⟨hr,rfl,dR⟩;obtain⟨k',b,rfl,hb⟩:=dR v yZ;have nx:∀u∈rest,∃k' b,u = .ref b/\Bt prog w s'.heap k' b:=λu Cu=>dR u (zC _ Cu);dsimp only;split
  ·exact zV ⟨rfl,rfl,nx⟩
  ·refine zZ (wpAny_eqIsQuiet_tuple hk ?_);simp only[Bool.not_true,Bool.false_eq_true,if_false];refine zZ (wpAny_eqIsQuiet_tuple hb ?_);simp only[Bool.not_true,Bool.false_eq_true,if_false];refine zZ (dc hk ?_);simp only[Bool.false_eq_true,if_false];refine zZ (dc hb ?_);simp only[Bool.false_eq_true,if_false];exact zV ⟨rfl,rfl,nx⟩
 ·rintro⟨r1,r2⟩ s' ⟨hr,rfl,_⟩;simp only at hr;subst hr;exact zV h
end
end My
namespace My
open PySem PySem.Spec PySem.W
open Tb
section
variable {prog:Program}{w:World}{A:Around}{E:Value->Shared->Prop}{s:Shared}
def Elem(prog:Program)(w:World)(h:Heap)(e:Int×Value)(k:List Bool):Prop:=∃b,e.2 = .ref b/\Bt prog w h k b/\e.1=Bh prog w k
theorem Elem.inj{h:Heap}{e:Int×Value}{k k':List Bool}(x:Elem prog w h e k)(y:Elem prog w h e k'):k=k':=by
 obtain⟨b,e1,h1,_⟩:=x;obtain⟨b',e2,h2,_⟩:=y;rw[e1]at e2;cases e2;exact h1.inj h2
structure Good(prog:Program)(w:World)(h:Heap)(Es:List (Int×Value))(D:List (List Bool)):Prop where
 in1:∀e∈Es,∃k,k∈D/\Elem prog w h e k
 in2:∀k∈D,∃e∈Es,Elem prog w h e k
 one:Es.Pairwise λe e'=>∀k,Elem prog w h e k->¬Elem prog w h e' k
theorem Good.perm{h:Heap}{Es NC:List (Int×Value)}{D:List (List Bool)}(g:Good prog w h Es D)(p:NC.Perm Es):Good prog w h NC D :=
 ⟨λe he=>g.in1 e (p.mem_iff.mp he),λk hk=>let⟨e,he,x⟩:=g.in2 k hk;⟨e,p.mem_iff.mpr he,x⟩,(p.pairwise_iff (λ{x y} GY k h1 h2=>GY k h2 h1)).mpr g.one⟩
theorem Bt.mono{h h':Heap}{k:List Bool}{a:Addr}(x:Bt prog w h k a)(hk:∀o,h.get? a=some o->h'.get? a=some o):Bt prog w h' k a:=by
 obtain⟨o,items,n,ho,r⟩:=x;exact⟨o,items,n,hk o ho,r⟩
theorem Good.mono{h h':Heap}{Es:List (Int×Value)}{D:List (List Bool)}(g:Good prog w h Es D)(hk:∀a o,o.cls = .type "tuple"->h.get? a=some o->h'.get? a=some o):Good prog w h' Es D:=by
 have up:∀e k,Elem prog w h e k->Elem prog w h' e k:=λe k ⟨b,e1,⟨o,items,n,ho,hc,r⟩,h2⟩=>⟨b,e1,⟨o,items,n,hk b o hc ho,hc,r⟩,h2⟩
 refine⟨λe he=>let⟨k,h1,h2⟩:=g.in1 e he;⟨k,h1,up e k h2⟩,λk eM=>let⟨e,h1,h2⟩:=g.in2 k eM;⟨e,h1,up e k h2⟩,?_⟩;refine(yC.mpr λi j hi hj jC=>?_);intro k h1 h2;obtain⟨k1,_,x1⟩:=g.in1 _ (wE hi);obtain⟨k2,_,x2⟩:=g.in1 _ (wE hj);have e1:=(up _ _ x1).inj h1;have e2:=(up _ _ x2).inj h2;subst e1;subst e2;exact yC.mp g.one i j hi hj jC _ x1 x2
abbrev yu(es:Array (Int×Value))(ep:Nat)(t:SetTable):Obj:={ cls:=.type "set",dict:=none,data:=.set es ep t,slots:=#[] }
theorem kd(hu:A.units<cLine){S:Addr}{ep:Nat}{es:Array (Int×Value)}{t:SetTable}{L:List (Nat×(Int×Value))}{D:List (List Bool)}(r:Rep L es t)(hS:s.heap.get? S=some (yu es ep t))(g:Good prog w s.heap (L.map (·.2)) D)
  {x:Addr}{kx:List Bool} (hx:Bt prog w s.heap kx x) {K:Nat} (hK:pos t.mask (Bh prog w kx) K∉L.map (·.1)) (Ij:∀k,k<K->pos t.mask (Bh prog w kx) k∈L.map (·.1)) (Kb:K<=10*(t.mask+13)) {Q:SetFound->Shared->Prop}
  (q1:(∃e∈L.map (·.2),Elem prog w s.heap e kx)->Q (.there none) s) (q2:(∀e∈L.map (·.2),¬Elem prog w s.heap e kx)->Q (.free (pos t.mask (Bh prog w kx) K) false) s) :
  ∀(f m:Nat)(mD:Option SetTable.Probe),m<=K->K-m<f->(∀y∈L,∀k,k<m->pos t.mask (Bh prog w kx) k=y.1->¬Elem prog w s.heap y.2 kx)->mD.getD (t.probeStart (Bh prog w kx))=itr t.mask m (st0 t.mask (Bh prog w kx)) ->
   wpAny (model prog w) A (setSearchFrom S (.ref x) (Bh prog w kx) true f mD) Q E s
 |0,m,mD,_,hf,_,_=>by lia
 |f+1,m,mD,hm,hf,sD,est=>by
  unfold setSearchFrom;refine zZ (xM hS rfl r.fits ?_);dsimp only;rw[r.odd];simp only[Bool.false_eq_true,if_false];rw[est];have AV:t.probe (λi=>(es[i]?.map (·.1)).getD 0) (Bh prog w kx) (itr t.mask m (st0 t.mask (Bh prog w kx)))=SetTable.probe.go t (λi=>(es[i]?.map (·.1)).getD 0) (Bh prog w kx) (10*SetTable.turns t.mask) (itr t.mask m (st0 t.mask (Bh prog w kx))):=rfl;have qW:∀(i:Nat)(e:Int×Value),es[i]?=some e->(λ(i:Nat)=>(es[i]?.map (·.1)).getD 0) i=e.1:=λi e he=>by simp[he]
  have hpg:=r.probe_go qW (Bh prog w kx) hK Ij (10*SetTable.turns t.mask) m hm (by unfold SetTable.turns;lia);rw[<-AV]at hpg;split
  case h_2 oS =>
   exfalso;rcases hpg with⟨e,_⟩|⟨k,i,v,_,_,e,_⟩
   ·exact oS _ e
   ·exact oS _ e
  rename_i met oS;rcases hpg with⟨e,fH⟩|⟨k,i,v,h1,h2,e,sB,C0,hL,fH⟩
  ·have em:=zB (oS.symm.trans e);subst em;dsimp only;refine zV (q2 λel qR hE=>?_);obtain⟨y,hy,rfl⟩:=zF.mp qR;obtain⟨k0,Cy,sG⟩:=r.pa y hy;have hh:y.2.1=Bh prog w kx:=by obtain⟨b,_,_,h2⟩:=hE;exact h2
   rw[hh]at Cy sG;have aS:k0<K:=by
    refine xK λhn=>?_
    by_cases e0:k0=K
    ·subst e0;exact hK (by rw[Cy];exact yK hy)
    ·exact hK (sG K (by lia))
   by_cases hlm:k0<m
   ·exact sD y hy k0 hlm Cy hE
   ·exact fH k0 y.2 (by lia) aS (by rw[Cy];exact hy) hh
  ·have em:=zB (oS.symm.trans e);subst em;dsimp only;obtain⟨kb,_,hE⟩:=g.in1 (Bh prog w kx,v) (zF.mpr ⟨_,hL,rfl⟩);obtain⟨b,eb,hb,hbh⟩:=id hE;dsimp only at eb hbh;subst eb;have rest:wpAny (model prog w) A (do
     let some (_,y):=es[i]?|unsupported "internal:set-entry"
     let equal <-holding [y] (eqBool y (.ref x))
     let(cV,_,t') <-setState S
     if true&&equal then return SetFound.there none
     let some sam:=t'.sameMemory t.moves t.mask|unsupported "set.changed-during-lookup:is-the-new-block-at-the-old-address"
     let still <-match(if sam then t'.slot (pos t.mask (Bh prog w kx) k)else .empty)with
      | .live i'=>match cV[i']? with
       |some (_,y')=>do pure (if <-isSame y' y then some i' else none)
       |none=>pure none
      |_=>pure none
     match still with
     |none=>rule "set.search.anew";setSearchFrom S (.ref x) (Bh prog w kx) true f none
     |some i'=>if equal then return SetFound.there (some i')else setSearchFrom S (.ref x) (Bh prog w kx) true f (some (itr t.mask (k+1) (st0 t.mask (Bh prog w kx))))) Q E s:=by
    rw[C0];dsimp only;refine zZ (xU (wpAny_eqBool_tuple hu hb hx ?_));refine zZ (xM hS rfl r.fits ?_);dsimp only
    by_cases hk:kb=kx
    ·rw[yU hk];simp only[Bool.and_self,if_true];exact zV (q1 ⟨(Bh prog w kx,.ref b),zF.mpr ⟨_,hL,rfl⟩,hk▸hE⟩)
    ·rw[yD hk];simp only[tJ,Bool.false_eq_true,if_false];have iR:t.sameMemory t.moves t.mask=some true:=by unfold SetTable.sameMemory;simp
     rw[iR];dsimp only;simp only[if_true];rw[sB];dsimp only;rw[C0];dsimp only;refine zZ (wpAny_isSame_ref_self (zZ (zV ?_)));simp only[if_true];refine kd hu r hS g hx hK Ij Kb q1 q2 f (k+1) _ (by lia) (by lia) (λy hy k' eM ek' hEy=>?_) rfl;have hh:y.2.1=Bh prog w kx:=by obtain⟨b,_,_,h2⟩:=hEy;exact h2
     by_cases z1:k'<m
     ·exact sD y hy k' z1 ek' hEy
     ·by_cases z2:k'=k
      ·subst z2;obtain⟨i1,e1,s1,L1,s2⟩:=r.slot_live (yK (f:=(·.1)) hy);rw[<-ek',sB]at s1;cases s1;have AQ:y.2=e1:=by
        obtain⟨i2,hi2,e2⟩:=vO hy;obtain⟨hi1,e3⟩:=zU.mp L1;have:i2=i:=by
         rcases uV i2 i with z|z|z
         ·have:=yC.mp r.up i2 i (by simpa using hi2) (by simpa using hi1) z;simp[e2,e3]at this
         ·exact z
         ·have:=yC.mp r.up i i2 (by simpa using hi1) (by simpa using hi2) z;simp[e2,e3]at this
        subst this;rw[e2]at e3;rw[e3]
       rw[C0]at s2;cases s2;rw[AQ]at hEy;exact hk (hE.inj hEy)
      ·exact fH k' y.2 (by lia) (by lia) (by rw[ek'];exact hy) hh
   by_cases eW:t.led=true
   ·rw[eW];simp only[Bool.not_true,Bool.false_eq_true,if_false];exact rest
   ·have oU:t.led=false:=by simpa using eW
    rw[oU];simp only[Bool.not_false,if_true];refine zZ (W8 hx (λy hy=>?_) ?_)
    ·obtain⟨e1,iC,rfl⟩:=zF.mp hy;have oX:e1∈L.map (·.2):=by
      have h3:e1∈es.toList:=by
       have:=(Array.mem_filter.mp (Array.mem_toList_iff.mp iC)).1;exact Array.mem_toList_iff.mpr this
      rw[r.es]at h3;exact h3
     obtain⟨k1,_,b1,eb1,hb1,_⟩:=g.in1 e1 oX;exact⟨k1,b1,eb1,hb1⟩
    ·simp only[Bool.false_eq_true,if_false];exact rest
end
end My
namespace My
open PySem PySem.Spec PySem.W
open Tb
section
variable {prog:Program}{w:World}{A:Around}{E:Value->Shared->Prop}{s:Shared}
theorem ux{S:Addr}{es cV:Array (Int×Value)}{ep:Nat}{t t':SetTable}{Q:Unit->Shared->Prop}(hS:s.heap.get? S=some (yu es ep t))(hz:cV.size<=sizeLine)
  (h:∀h',h'.get? S=some (yu cV (ep+1) t')->Heap.SameBut S s.heap h'->Q () { s with heap:=h' }):wpAny (model prog w) A (storeSet S cV t') Q E s:=by
 refine wpAny_storeSet_of hS rfl (h _ ?_ (wG s.heap S (Obj.putSet cV t'))) hz;have e:=yH (Obj.putSet cV t') hS (by rfl);exact e
theorem ft{S:Addr}{es:Array (Int×Value)}{ep:Nat}{t:SetTable}{h h':Heap}(hS:h.get? S=some (yu es ep t))(sb:Heap.SameBut S h h'):∀a o,o.cls = .type "tuple"->h.get? a=some o->h'.get? a=some o:=λa o hc ho=>by
 have fH:a≠S:=by
  rintro rfl;rw[hS]at ho;cases ho;simp at hc
 exact(sb.2 a fH).trans ho
theorem Se(hu:A.units+1<cLine){S:Addr}{ep:Nat}{es:Array (Int×Value)}{t:SetTable}{L:List (Nat×(Int×Value))}{D:List (List Bool)}(r:Rep L es t)(r5:rj L t)(hb:L.length<76)(hS:s.heap.get? S=some (yu es ep t))(g:Good prog w s.heap (L.map (·.2)) D)
  {x:Addr}{kx:List Bool} (hx:Bt prog w s.heap kx x) {Q:Bool->Shared->Prop}
  (q:∀(b:Bool)(h':Heap)(tk:Nat)(L':List (Nat×(Int×Value)))(cV:Array (Int×Value))(iJ:Nat)(t':SetTable),h'.get? S=some (yu cV iJ t')->Heap.SameBut S s.heap h'->Rep L' cV t'->rj L' t'->t'.led=t.led->t'.plain=t.plain ->
   Good prog w h' (L'.map (·.2)) (D++[kx])->L'.length<=L.length+1->(∀e∈L'.map (·.2),e∈L.map (·.2)\/e.2 = .ref x)->Q b { s with heap:=h',toks:=tk }):wpAny (model prog w) A (setAdd S (.ref x)) Q E s:=by
 unfold setAdd;refine xU (zZ (wpAny_pyHash_tuple (by lia) hx ?_));unfold setAddHashed setAddHashedIn;refine xU (zZ (xM (s:={ s with toks:=s.toks+(kx.length+1) }) hS rfl r.fits ?_));dsimp only;have HY:byScan (.ref x) es=false:=by unfold byScan;rfl
 rw[HY];simp only[Bool.false_eq_true,if_false];have hm:t.mask<=127:=by rcases r.mz with e|e|e<;>rw[e]<;>decide
 obtain⟨K,Kb,hK,Ij⟩:=aa r.mz (Bh prog w kx) (l:=L.map (·.1)) (by rw[zX];exact r.fl);unfold setSearch;refine zZ (kd (s:={ s with toks:=s.toks+(kx.length+1) }) (by lia) r hS g hx hK Ij Kb (λhex=>?_) (λsD=>?_) 100000 0 none (yO _) (by lia) (λy _ k hk=>absurd hk (Nat.not_lt_zero _)) rfl)
 ·dsimp only;refine zV (q false s.heap _ L es ep t hS (Heap.SameBut.refl S s.heap) r r5 rfl rfl ⟨λe he=>?_,λk hk=>?_,g.one⟩ (wF _) λe he=>.inl he)
  ·obtain⟨k,h1,h2⟩:=g.in1 e he;exact⟨k,xL _ h1,h2⟩
  ·rcases zO.mp hk with hk|hk
   ·exact g.in2 k hk
   ·rw[zW.mp hk];exact hex
 ·dsimp only;refine zZ (xM (s:={ s with toks:=s.toks+(kx.length+1) }) hS rfl r.fits ?_);dsimp only;have Bj:es.size=L.length:=by rw[r.es];simp
  have r':=r.put (x:=.ref x) hK Ij (by unfold rj at r5;lia);have AU:(t.put (pos t.mask (Bh prog w kx) K)).1.plain=t.plain/\(t.put (pos t.mask (Bh prog w kx) K)).1.led=t.led/\(t.put (pos t.mask (Bh prog w kx) K)).1.mask=t.mask:=⟨rfl,rfl,rfl⟩
  generalize hT:t.put (pos t.mask (Bh prog w kx) K)=T at r' AU ⊢;obtain⟨t1,p⟩:=T;dsimp only at r' AU ⊢;obtain⟨fG,hld,hmk⟩:=AU;have eL:=dw (L:=L) (pos t.mask (Bh prog w kx) K) (Bh prog w kx,Value.ref x);generalize hL':ins L (pos t.mask (Bh prog w kx) K) (Bh prog w kx,Value.ref x)=L1 at r' eL;have aN:L1.length=L.length+1:=by rw[eL.length_eq];rfl
  have hsz:(SetTable.insertAt es p (Bh prog w kx,Value.ref x)).size=L1.length:=by rw[r'.es];simp
  have qY:∀h',Heap.SameBut S s.heap h'->Good prog w h' (L1.map (·.2)) (D++[kx]):=λh' sb=>by
   refine Good.mono ?_ (ft hS sb);refine Good.perm (Es:=(Bh prog w kx,Value.ref x)::L.map (·.2)) ⟨λe he=>?_,λk hk=>?_,vF.mpr ⟨λe he k h1 h2=>?_,g.one⟩⟩ (eL.map (·.2))
   ·rcases zG.mp he with rfl|he
    ·exact⟨kx,zJ _ (zW.mpr rfl),x,rfl,hx,rfl⟩
    ·obtain⟨k,h1,h2⟩:=g.in1 e he;exact⟨k,xL _ h1,h2⟩
   ·rcases zO.mp hk with hk|hk
    ·obtain⟨e,h1,h2⟩:=g.in2 k hk;exact⟨e,zC _ h1,h2⟩
    ·rw[zW.mp hk];exact⟨_,yZ,x,rfl,hx,rfl⟩
   ·have:k=kx:=h1.inj ⟨x,rfl,hx,rfl⟩;subst this;exact sD e he h2
  have Fh:∀e∈L1.map (·.2),e∈L.map (·.2)\/e.2 = .ref x:=λe he=>by
   have:=(eL.map (·.2)).mem_iff.mp he;rcases zG.mp this with z|z
   ·exact .inr (by rw[z])
   ·exact .inl z
  have body:wpAny (model prog w) A (do
    storeSet S (SetTable.insertAt es p (Bh prog w kx,Value.ref x)) t1
    if(!false&&t1.tooFull)=true then do
     setRelay S (SetTable.grown (es.size+1))
     pure true
    else pure true) Q E { s with toks:=s.toks+(kx.length+1) }:=by
   refine zZ (ux (s:={ s with toks:=s.toks+(kx.length+1) }) hS (by rw[hsz,zD];lia) λh1 Bq AI=>?_);have htf:t1.tooFull=decide (t1.mask*3<=L1.length*5):=by
    unfold SetTable.tooFull SetTable.fill;rw[r'.pl,r'.dm];simp
   by_cases hfull:t1.mask*3<=L1.length*5
   ·rw[htf,yU hfull];simp only[Bool.not_false,Bool.and_self,if_true];obtain⟨hsa,t2,order,L2,e1,e2,e3,r2,pm,r52⟩:=bv r' (by lia) (by unfold rj at r5;rw[hmk,aN];lia) hfull;have hgr:SetTable.grown (es.size+1)=SetTable.grown L1.length:=by rw[Bj,aN]
    rw[hgr];unfold setRelay;refine zZ (zZ (xM (s:={ s with heap:=h1,toks:=s.toks+(kx.length+1) }) Bq rfl r'.fits ?_));dsimp only;rw[yY (by rw[zD];lia),e1];have mH:(order.filterMap ((SetTable.insertAt es p (Bh prog w kx,Value.ref x))[·]?)).size=L1.length:=by
     rw[r2.es];have h6:=pm.length_eq;simpa using h6
    refine zZ (show wpAny _ _ (if((order.filterMap ((SetTable.insertAt es p (Bh prog w kx,Value.ref x))[·]?)).size != (SetTable.insertAt es p (Bh prog w kx,Value.ref x)).size)=true then _ else pure (order.filterMap ((SetTable.insertAt es p (Bh prog w kx,Value.ref x))[·]?),t2)) _ _ _ from ?_);rw[yY (by rw[mH,hsz];simp)];refine zV ?_;dsimp only;refine ux (s:={ s with heap:=h1,toks:=s.toks+(kx.length+1) }) Bq (by rw[mH,zD];lia) λh2 hS2 sb2=>?_;refine zV (q true h2 _ L2 _ _ t2 hS2 (AI.trans sb2) r2 r52 (e2.trans hld) (e3.trans fG) ((qY h2 (AI.trans sb2)).perm pm) ?_ λe he=>Fh e (pm.mem_iff.mp he));have h6:=pm.length_eq;simp at h6;lia
   ·rw[htf,yD hfull];simp only[tJ,Bool.false_eq_true,if_false];exact zV (q true h1 _ L1 _ _ t1 Bq AI r' (by unfold rj;lia) hld fG (qY h1 AI) (by lia) Fh)
  split
  ·refine zZ (Z6 (s:={ s with toks:=s.toks+(kx.length+1) }) hx ?_);simp only[if_true];exact body
  ·refine zZ (zV ?_);simp only[if_true];exact body
end
end My
namespace My
open PySem PySem.Spec PySem.W
open Tb
section
variable {prog:Program}{w:World}{A:Around}{E:Value->Shared->Prop}{s:Shared}
abbrev byT(w:World):Bool:=w.params.followText "set-order"
abbrev yc(w:World):Obj:=yu #[] 0 (.fresh 0 0 (!byT w))
theorem T0(a:Value){Q₁:Value->Shared->Prop}(h:Q₁ (.ref s.heap.objs.size) { s with heap:=s.heap.push (yc w) }):
  codeAny (model prog w) A (.call (.builtin "set.__new__") ⟨[.type "set",a],[]⟩) (wants Q₁ E) s:=by
 refine codeAny_of_tree (show wpAny _ A.in1 (do checkBuiltinCall "set.__new__" ⟨[.type "set",a],[]⟩;again (.builtin "set.__new__" ⟨[.type "set",a],[]⟩)) _ _ s from ?_);refine zZ (sW (F.newCall_set_1 a) (zV ⟨sY F.plain_set_new _,?_⟩));refine uY F.entry_set_new (by
  rw[vT F.plain_set_new _];unfold Builtin.«set.__new__» Builtin.Frozenset.newClass;have iH:=sub_set_self;obtain⟨hp,g,d,tk,os⟩:=s;dsimp only
  wp_walk
  refine vK (zV ?_);dsimp only;simp only[newObj];exact zZ (wpAny_alloc (zV (zV h))))
theorem Wh{I S:Addr}{fp wr:List Addr}{n:Nat}{P:Nat->Value->Prop}{St:Nat->Heap->Prop}(W:Walks prog w A.in1 I fp wr n P St)(hSf:S∉fp)(J:Nat->Heap->Prop)(hJ:∀i h h',J i h->(∀b o,b∉wr->h.get? b=some o->h'.get? b=some o)->J i h')
  (qC:∀i v (s':Shared) (Q:Bool->Shared->Prop) (E':Value->Shared->Prop),i<n->P i v->J i s'.heap->(∀b h' tk,Heap.SameBut S s'.heap h'->J (i+1) h'->Q b { s' with heap:=h',toks:=tk })->wpAny (model prog w) A.in1 (setAdd S v) Q E' s')
  {R:Result->Shared->Prop} (h₀:Heap) (hR:∀(s':Shared) h' tk,J n h'->(∀b o,b≠S->b∉wr->h₀.get? b=some o->h'.get? b=some o)->s'={ s with heap:=h',toks:=tk }->R (.ok (.ret .none)) s') :
  ∀(k i:Nat)(h:Heap)(tk:Nat),n-i=k->i<=n->St i h->J i h->(∀b o,b≠S->b∉wr->h₀.get? b=some o->h.get? b=some o)->codeAny (model prog w) A (.builtin "set.update.loop" ⟨[.ref S,.ref I],[]⟩) R { s with heap:=h,toks:=tk }:=by
 intro k
 induction k with
 |zero =>
  intro i h tk hk hi st j keep;have e:i=n:=by lia
  subst e;refine uY PyProof.Rows.F.entry_set_update_loop ?_;rw[vT wH _];refine(show wpAny _ A.in1 (pyNext (.ref I) >>= _) _ _ _ from zZ (W.done { s with heap:=h,toks:=tk } _ _ st λh' tk' eM=>?_));exact(show wpAny _ A.in1 (ret Value.none) _ _ _ from zV (hR _ h' tk' (hJ _ _ _ j eM) (λb o h1 h2 h3=>eM b o h2 (keep b o h1 h2 h3)) rfl))
 |succ k ih =>
  intro i h tk hk hi st j keep;have aS:i<n:=by lia
  refine uY PyProof.Rows.F.entry_set_update_loop ?_;rw[vT wH _];refine(show wpAny _ A.in1 (pyNext (.ref I) >>= _) _ _ _ from zZ (W.item i { s with heap:=h,toks:=tk } _ _ aS st λv h' tk' hP fM eM=>?_));refine(show wpAny _ A.in1 (holding [v] (setAdd S v) >>= _) _ _ _ from zZ (xU (qC i v { s with heap:=h',toks:=tk' } _ _ aS hP (hJ _ _ _ j eM) λb Bw tk'' sb j'=>?_)));refine zV ⟨sY wH _,ih (i+1) Bw tk'' (by lia) aS ?_ j' λb o h1 h2 h3=>?_⟩
  ·exact W.frame _ _ _ fM λb hb o e=>(sb.2 b λz=>hSf (z▸hb)).trans e
  ·exact(sb.2 b h1).trans (eM b o h2 (keep b o h1 h2 h3))
set_option maxHeartbeats 3200000 in
theorem m7{T:String}{l:Addr}{items:Array Value}{Q:Value->Shared->Prop}(n1:isSubtype (.type T) (.type "set")=pure false)(n2:isSubtype (.type T) (.type "frozenset")=pure false)(n3:(Value.type T==Value.type "dict")=false)(hh:A.handled=none)(ol:Obj)(nQ:s.heap.get? l=some ol)(pA:ol.cls = .type T)
  (jB:∀(A':Around)(s':Shared)(E':Value->Shared->Prop)(Q':Value->Shared->Prop),A'.handled=none->s'.heap.get? l=some ol->(∀(oI:Obj)(St:Nat->Heap->Prop),(∀A'':Around,A''.handled=none->Walks prog w A'' s'.heap.objs.size [s'.heap.objs.size,l] [s'.heap.objs.size] items.size (λi v=>items[i]?=some v) St)->St 0 (s'.heap.push oI)->Q' (.ref s'.heap.objs.size) { s' with heap:=s'.heap.push oI })->wpAny (model prog w) A' (pyIter (.ref l)) Q' E' s') (J:Nat->Heap->Prop) (hJ:∀i h h',J i h->(∀b o,b≠s.heap.objs.size+1->h.get? b=some o->h'.get? b=some o)->J i h')
  (j0:J 0 (s.heap.push (yc w)))
  (qC:∀i v (A':Around) (s':Shared) (Q:Bool->Shared->Prop) (E':Value->Shared->Prop),A'.units<=A.units+8->items[i]?=some v->J i s'.heap->(∀b h' tk,Heap.SameBut s.heap.objs.size s'.heap h'->J (i+1) h'->Q b { s' with heap:=h',toks:=tk })->wpAny (model prog w) A' (setAdd s.heap.objs.size v) Q E' s')
  (h:∀(h':Heap)(tk:Nat),J items.size h'->(∀b o,s.heap.get? b=some o->h'.get? b=some o)->Q (.ref s.heap.objs.size) { s with heap:=h',toks:=tk }) :
  wpAny (model prog w) A (call (.type "set") [.ref l]) Q E s:=by
 obtain⟨c,tl,hmro⟩:=wW.mro;have hmade:=wW.made;have iH:=wW.sub;refine tE (codeAny_of_tree (show wpAny _ _ (callAny (.type "set") _) _ _ _ from zV ⟨vE _ (by decide +kernel),uY F.entry_type_call ?_⟩));rw[Around.under_plain (weight_type_call_type "set" [.ref l] []) rfl];have t1:=wW.notType;have t2:=wW.canCreate;have t3:=F.typeCall_set_1 (.ref l)
 repeat any_goals first|assumption|wp_step
 refine vD (T0 (.ref l) (E:=E) (Q₁:=λobj s₁=>obj = .ref s.heap.objs.size/\s₁={ s with heap:=s.heap.push (yc w) }) ⟨rfl,rfl⟩) λr s₁ hr=>?_;cases r with
 |error e=>exact hr
 |ok fl =>
  cases fl with
  |ret obj =>
   obtain⟨rfl,rfl⟩:=hr;have hS:(s.heap.push (yc w)).get? s.heap.objs.size=some (yc w):=zR _ rfl;have hT:Shared.TypeIs { s with heap:=s.heap.push (yc w) } (.ref s.heap.objs.size) "set":=⟨_,hS,rfl⟩
   have i1:=wW.init.lookup;have i2:=wW.init.bind (.ref s.heap.objs.size)
   repeat any_goals first|assumption|wp_step
   refine vD (vS (R:=wants (λr s₂=>r = .none/\∃h' tk,s₂={ s with heap:=h',toks:=tk }/\J items.size h'/\∀b o,s.heap.get? b=some o->h'.get? b=some o) E) wW.init.plain F.entry_set_init (check_set_init_1 hT ?_)) λr₂ s₂ hr₂=>?_
   ·obtain⟨ocls,DT,DU,AJ⟩:=ol;simp only at pA;subst pA;have kU:(s.heap.push (yc w)).get? l=some { cls:=.type T,dict:=DT,data:=DU,slots:=AJ }:=zY _ nQ;unfold Builtin.«set.__init__» noKeywords Builtin.Frozenset.updateFrom;generalize hPI:pyIter=PI
    wp_walk
    subst hPI;refine jB _ _ _ _ (by simp[hh]) kU λoI St W st=>(zZ (wpAny_runValue ?_))
    have lS:l<s.heap.objs.size:=zT nQ;have BX:(s.heap.push (yc w)).objs.size=s.heap.objs.size+1:=xI _ _;have hSf:s.heap.objs.size∉[(s.heap.push (yc w)).objs.size,l]:=by
     rw[BX];simp only[zG,uP,or_false,not_or];exact⟨zI (wU _),wO lS⟩
    refine Wh (s:=s) (W _ (by simp[hh])) hSf J (λi h h' j k=>hJ i h h' j λb o hb e=>k b o (by rw[BX];simpa using hb) e)
     (λi v s' Q' E' hi hv j q=>qC i v _ s' Q' E' (by simp only[Around.in1_units];lia) hv j q) s.heap ?_ (items.size-0) 0 _ s.toks (by lia) (yO _) st (hJ 0 _ _ j0 λb o _ e=>zY _ e) λb o _ _ e=>zY _ (zY _ e)
    rintro s' h' tk j keep rfl;refine(show wpAny _ _ _ _ _ _ from zV (show wpAny _ _ (ret Value.none) _ _ _ from zV ⟨rfl,h',tk,rfl,j,λb o e=>keep b o (zI (zT e)) ?_ e⟩));rw[BX];have:=zT e;simp only[zW];exact zI (wJ this)
   ·cases r₂ with
    |error e=>exact hr₂
    |ok fl₂ =>
     cases fl₂ with
     |ret r =>
      obtain⟨rfl,h',tk,rfl,j,eM⟩:=hr₂
      repeat any_goals first|assumption|wp_step
      exact h _ _ j eM
     |_=>exact hr₂.elim
  |_=>exact hr.elim
theorem qf{l:Addr}{items:Array Value}{Q:Value->Shared->Prop}(hh:A.handled=none)(hl:s.heap.IsList l items)(J:Nat->Heap->Prop)(hJ:∀i h h',J i h->(∀b o,b≠s.heap.objs.size+1->h.get? b=some o->h'.get? b=some o)->J i h')
  (j0:J 0 (s.heap.push (yc w)))
  (qC:∀i v (A':Around) (s':Shared) (Q:Bool->Shared->Prop) (E':Value->Shared->Prop),A'.units<=A.units+8->items[i]?=some v->J i s'.heap->(∀b h' tk,Heap.SameBut s.heap.objs.size s'.heap h'->J (i+1) h'->Q b { s' with heap:=h',toks:=tk })->wpAny (model prog w) A' (setAdd s.heap.objs.size v) Q E' s')
  (h:∀(h':Heap)(tk:Nat),J items.size h'->(∀b o,s.heap.get? b=some o->h'.get? b=some o)->Q (.ref s.heap.objs.size) { s with heap:=h',toks:=tk }) :
  wpAny (model prog w) A (call (.type "set") [.ref l]) Q E s:=by
 obtain⟨ol,nQ,pA,nl,oY⟩:=hl;refine m7 (T:="list") F.sub_list_set F.sub_list_frozenset (by decide) hh ol nQ pA (λA' s' E' Q' Im kU k=>?_) J hJ j0 qC h;have mY:s'.heap.IsList l items:=⟨ol,kU,pA,nl,oY⟩
 exact wK mY (k _ _ (λA'' Bu=>Walks.list Bu _ l (zI (zT kU)) items) ⟨⟨_,zR _ rfl,rfl,rfl⟩,mY.push _⟩)
theorem li:isSubtype (.type "tuple") (.type "set")=pure false:=by rw[isSubtype_type];kernel_rfl
theorem lh:isSubtype (.type "tuple") (.type "frozenset")=pure false:=by rw[isSubtype_type];kernel_rfl
theorem i5{l:Addr}{items:Array Value}{Q:Value->Shared->Prop}(hh:A.handled=none)(hl:s.heap.IsTuple l items)(J:Nat->Heap->Prop)(hJ:∀i h h',J i h->(∀b o,b≠s.heap.objs.size+1->h.get? b=some o->h'.get? b=some o)->J i h')
  (j0:J 0 (s.heap.push (yc w)))
  (qC:∀i v (A':Around) (s':Shared) (Q:Bool->Shared->Prop) (E':Value->Shared->Prop),A'.units<=A.units+8->items[i]?=some v->J i s'.heap->(∀b h' tk,Heap.SameBut s.heap.objs.size s'.heap h'->J (i+1) h'->Q b { s' with heap:=h',toks:=tk })->wpAny (model prog w) A' (setAdd s.heap.objs.size v) Q E' s')
  (h:∀(h':Heap)(tk:Nat),J items.size h'->(∀b o,s.heap.get? b=some o->h'.get? b=some o)->Q (.ref s.heap.objs.size) { s with heap:=h',toks:=tk }) :
  wpAny (model prog w) A (call (.type "set") [.ref l]) Q E s:=by
 obtain⟨ol,nQ,pA,nl,oY⟩:=hl;refine m7 (T:="tuple") li lh (by decide) hh ol nQ pA (λA' s' E' Q' Im kU k=>?_) J hJ j0 qC h;have mY:s'.heap.IsTuple l items:=⟨ol,kU,pA,nl,oY⟩
 exact wR mY (k _ _ (λA'' Bu=>Walks.tuple Bu _ l (zI (zT kU)) items) ⟨⟨_,zR _ rfl,rfl,rfl⟩,mY.push _⟩)
theorem Rc{l:Addr}{items:Array Value}{Q:Value->Shared->Prop}(hh:A.handled=none)(hl:s.heap.IsList l items\/s.heap.IsTuple l items)(J:Nat->Heap->Prop)(hJ:∀i h h',J i h->(∀b o,b≠s.heap.objs.size+1->h.get? b=some o->h'.get? b=some o)->J i h')
  (j0:J 0 (s.heap.push (yc w)))
  (qC:∀i v (A':Around) (s':Shared) (Q:Bool->Shared->Prop) (E':Value->Shared->Prop),A'.units<=A.units+8->items[i]?=some v->J i s'.heap->(∀b h' tk,Heap.SameBut s.heap.objs.size s'.heap h'->J (i+1) h'->Q b { s' with heap:=h',toks:=tk })->wpAny (model prog w) A' (setAdd s.heap.objs.size v) Q E' s')
  (h:∀(h':Heap)(tk:Nat),J items.size h'->(∀b o,s.heap.get? b=some o->h'.get? b=some o)->Q (.ref s.heap.objs.size) { s with heap:=h',toks:=tk }) :
  wpAny (model prog w) A (call (.type "set") [.ref l]) Q E s:=by
 rcases hl with hl|hl
 ·exact qf hh hl J hJ j0 qC h
 ·exact i5 hh hl J hJ j0 qC h
end
end My
namespace My
open PySem PySem.Spec PySem.W
open Tb
theorem si_next:Slot "set_iterator" "__next__" "set_iterator.__next__" :=
 Slot.of (n:="__next__") (owner:="set_iterator") (by rw[typeLookup_type,builtinLookup_eq_fast];kernel_rfl)
  (by decide +kernel) (by decide +kernel) (by decide +kernel) (by first|exact Or.inl (by decide +kernel)|exact Or.inr (by decide +kernel)) (by rw[isSubtype_type];kernel_rfl)
theorem fw:entryFor table "set_iterator.__next__"=some Builtin.«set_iterator.__next__»:=entryFor_of_tree (by kernel_rfl)
theorem fz:Manifest.owners.lookup (String.ofList "rotareti_tes".toList.reverse)=some Manifest.sig_set_iterator:=by kernel_rfl
theorem Zp(a:Value):argsOk "set_iterator.__next__" ⟨[a],[]⟩:=by
 unfold argsOk;rw[signature?_of (id:="set_iterator.__next__") (n:="__txen__".toList) (o:="rotareti_tes".toList) (by kernel_rfl) fz]
 kernel_rfl
theorem m5:entryFor table "set.__iter__"=some Builtin.«frozenset.__iter__»:=entryFor_alias (id':="frozenset.__iter__") (by kernel_rfl) rfl (by decide +kernel) (by kernel_rfl)
section
variable {prog:Program}{w:World}{A:Around}{E:Value->Shared->Prop}{s:Shared}
abbrev wo(first:Value)(i:Nat)(S:Addr)(n ep:Nat):Obj:={ cls:=.type "set_iterator",dict:=none,data:=.fields #[first,.int i 0,.ref S,.int n 0,.int ep 0],slots:=#[] }
theorem X1{S:Addr}{es:Array (Int×Value)}{ep:Nat}{t:SetTable}{slot given:Nat}{Q:Option (Value×Nat)->Shared->Prop}(hS:s.heap.get? S=some (yu es ep t))(hf:t.fits es.size=true)(hb:byT w=true)
  (h:Q (((pickOrder (w.params.setOrder S ep) es)[given]?).map λe=>(e.2,slot)) s):wpAny (model prog w) A (setNext S slot given ep) Q E s:=by
 unfold setNext;refine zZ (xM hS rfl hf ?_);unfold setsByText;refine zZ (zZ (vK (zV ?_)));show wpAny _ _ (if byT w=true then _ else _) _ _ _;rw[yS hb];dsimp only;rw[yY (by simp)];unfold setWalk setsByText;refine zZ (zZ (xM hS rfl hf ?_));refine zZ (zZ (vK (zV ?_)));show wpAny _ _ (if byT w=true then _ else _) _ _ _;rw[yS hb];refine zZ (vK (zV (zV h)))
theorem a9{S:Addr}{es:Array (Int×Value)}{ep:Nat}{t:SetTable}{slot given:Nat}{Q:Option (Value×Nat)->Shared->Prop}(hS:s.heap.get? S=some (yu es ep t))(hf:t.fits es.size=true)(hb:byT w=false)(hd:(!t.plain&&decide (es.size>1))=false)(hl:t.led=true)
  (h:Q (match es[SetTable.below t.place slot]?,t.place[SetTable.below t.place slot]? with|some (_,x),some j=>some (x,j+1)|_,_=>none) s):wpAny (model prog w) A (setNext S slot given ep) Q E s:=by
 unfold setNext;refine zZ (xM hS rfl hf ?_);unfold setsByText;refine zZ (zZ (vK (zV ?_)));show wpAny _ _ (if byT w=true then _ else _) _ _ _;rw[yY (by rw[hb];exact zK)];show wpAny _ _ (if(!t.plain&&decide (es.size>1))=true then _ else _) _ _ _;rw[hd,yY zK];refine zZ (show wpAny _ _ (if(!t.led&&!es.isEmpty)=true then _ else pure ()) _ _ _ from ?_);rw[hl,yY (by simp)];refine zV (zV h)
theorem a8{S:Addr}{es:Array (Int×Value)}{ep:Nat}{t:SetTable}{place:Nat}{x:Int×Value}{Q:Value->Shared->Prop}(hS:s.heap.get? S=some (yu es ep t))(hf:t.fits es.size=true)(hx:es[place]?=some x)(h:Q x.2 s):
  wpAny (model prog w) A (setNextDrawn S place ep) Q E s:=by
 unfold setNextDrawn;refine zZ (xM hS rfl hf ?_);dsimp only;rw[yY (by simp),hx];exact zV h
theorem Zv{I:Addr}{h1:Heap}{Q:Option Value->Shared->Prop}(hh:A.handled=none)(hQ:∀h',(∀b o,h1.get? b=some o->h'.get? b=some o)->Q none { s with heap:=h' }){Q':PySem.Fin->Shared->Prop}:
  wpAny (model prog w) A.in1 (do raiseNew (<-newExc (.type "StopIteration") []):Sem PySem.Fin) Q' (λe s'=>wpAny (model prog w) A (do if <-isInstance e (.type "StopIteration")then pure none else throw e) Q E s') { s with heap:=h1 }:=by
 refine zZ ?_;simp only[newExc,newTuple];refine zZ (yL ?_ (by size_fits));refine zZ (m:=firstArgMember _ _) (sW (a:=Value.none) (by first|rfl|(simp only[firstArgMember];rfl)) (yL ?_ (by size_fits)));simp only[raiseNew];refine zZ (wpAny_handled ?_);rw[show A.in1.handled=none from hh];refine zZ (zV (wpAny_throw ?_));refine zZ (tF (b:=true) (T:="StopIteration") ⟨_,zR _ rfl,rfl⟩ isSubtype_stop ?_);exact zV (hQ _ λb o e=>zY _ (zY _ e))
end
end My
namespace My
open PySem PySem.Spec PySem.W
open Tb
section
variable {prog:Program}{w:World}{A:Around}{E:Value->Shared->Prop}{s:Shared}
theorem fld{I:Addr}{vs:Array Value}{k:Nat}{x:Value}{Q:Unit->Shared->Prop}(ho:s.heap.get? I=some { cls:=.type "set_iterator",dict:=none,data:=.fields vs,slots:=#[] })(hk:k<vs.size)
  (h:∀h',h'.get? I=some { cls:=.type "set_iterator",dict:=none,data:=.fields (vs.setIfInBounds k x),slots:=#[] }->Heap.SameBut I s.heap h'->Q () { s with heap:=h' }):wpAny (model prog w) A (setField (.ref I) k x) Q E s:=wB ho hk h
theorem V8{I S:Addr}{es:Array (Int×Value)}{ep slot i:Nat}{t:SetTable}{Q:Option Value->Shared->Prop}(hh:A.handled=none)(hI:s.heap.get? I=some (wo (.int slot 0) i S es.size ep))(hS:s.heap.get? S=some (yu es ep t))(hf:t.fits es.size=true)
  {r:Option (Value×Nat)} (hn:∀(A':Around)(E':Value->Shared->Prop)(Q':Option (Value×Nat)->Shared->Prop),Q' r s->wpAny (model prog w) A' (setNext S slot i ep) Q' E' s)
  (q1:∀x nx h',r=some (x,nx)->h'.get? I=some (wo (.int nx 0) (i+1) S es.size ep)->Heap.SameBut I s.heap h'->Q (some x) { s with heap:=h' })
  (q2:∀h',r=none->(∀b o,b≠I->s.heap.get? b=some o->h'.get? b=some o)->Q none { s with heap:=h' }):wpAny (model prog w) A (pyNext (.ref I)) Q E s:=by
 have hT:s.TypeIs (.ref I) "set_iterator":=⟨_,hI,rfl⟩
 unfold pyNext;refine zZ (sX (xW (name:=Str.ofString "__next__") hT si_next (yA si_next hT fw ?_ (Zp _))));unfold Builtin.«set_iterator.__next__»;refine zZ (zV (zZ (wpAny_fieldsOf hI rfl ?_)));dsimp only;refine zZ (wpAny_setEntries_of hS rfl hf ?_);rw[yY (by simp)];simp only[yG];refine zZ (hn _ _ _ ?_);cases r with
 |some y =>
  obtain⟨x,nx⟩:=y;dsimp only;refine zZ (fld hI (by simp) λh1 e1 s1=>?_);refine zZ (fld (s:={ s with heap:=h1 }) e1 (by simp) λh2 e2 s2=>?_);exact zV ⟨_,rfl,zV (q1 x nx h2 rfl (by unfold wo;simpa[rawInt]using e2) (s1.trans s2))⟩
 |none =>
  dsimp only;refine zZ (fld hI (by simp) λh1 e1 s1=>?_);exact Zv (I:=I) hh λh' k=>q2 h' rfl λb o hb e=>k b o ((s1.2 b hb).trans e)
theorem V9{I S T:Addr}{es:Array (Int×Value)}{ep i:Nat}{t:SetTable}{ps:List Nat}{c:Nat}{Q:Option Value->Shared->Prop}(hh:A.handled=none)(hI:s.heap.get? I=some (wo (.ref T) i S es.size ep))(hS:s.heap.get? S=some (yu es ep t))(hf:t.fits es.size=true)
  (hT':∃o,s.heap.get? T=some o/\o.data = .seq (ps.map λ(i:Nat)=>rawInt i).toArray c)
  (q1:∀p x h',ps[i]?=some p->es[p]?=some x->h'.get? I=some (wo (.ref T) (i+1) S es.size ep)->Heap.SameBut I s.heap h'->Q (some x.2) { s with heap:=h' }) (hp:∀p,ps[i]?=some p->∃x,es[p]?=some x)
  (q2:∀h',ps[i]?=none->(∀b o,b≠I->s.heap.get? b=some o->h'.get? b=some o)->Q none { s with heap:=h' }):wpAny (model prog w) A (pyNext (.ref I)) Q E s:=by
 have hT:s.TypeIs (.ref I) "set_iterator":=⟨_,hI,rfl⟩
 obtain⟨oT,eT,dT⟩:=hT';unfold pyNext;refine zZ (sX (xW (name:=Str.ofString "__next__") hT si_next (yA si_next hT fw ?_ (Zp _))));unfold Builtin.«set_iterator.__next__»;refine zZ (zV (zZ (wpAny_fieldsOf hI rfl ?_)));dsimp only;refine zZ (wpAny_setEntries_of hS rfl hf ?_);rw[yY (by simp)];simp only[yG];refine zZ (xA eT dT ?_);dsimp only;cases hpi:ps[i]? with
 |some p =>
  have e:((ps.map λ(i:Nat)=>rawInt i).toArray)[i]?=some (rawInt p):=by simp[hpi]
  rw[e];obtain⟨x,hx⟩:=hp p hpi;show wpAny _ _ (setNextDrawn S (Int.toNat (p:Int)) ep >>= _) _ _ _;rw[yG];refine zZ (a8 hS hf hx ?_);refine zZ (fld hI (by simp) λh1 e1 s1=>?_);exact zV ⟨_,rfl,zV (q1 p x h1 hpi hx (by unfold wo;simpa[rawInt]using e1) s1)⟩
 |none =>
  have e:((ps.map λ(i:Nat)=>rawInt i).toArray)[i]?=none:=by simpa using hpi
  rw[e];dsimp only;refine zZ (fld hI (by simp) λh1 e1 s1=>?_);refine zZ (fld (s:={ s with heap:=h1 }) e1 (by simp) λh2 e2 s2=>?_);exact Zv (I:=I) hh λh' k=>q2 h' hpi λb o hb e=>k b o ((s2.2 b hb).trans ((s1.2 b hb).trans e))
theorem Zq:Slot "set_iterator" "__iter__" "set_iterator.__iter__" :=
 Slot.of (n:="__iter__") (owner:="set_iterator") (by rw[typeLookup_type,builtinLookup_eq_fast];kernel_rfl)
  (by decide +kernel) (by decide +kernel) (by decide +kernel) (by first|exact Or.inl (by decide +kernel)|exact Or.inr (by decide +kernel)) (by rw[isSubtype_type];kernel_rfl)
theorem lf:entryFor table "set_iterator.__iter__"=some Builtin.«dict_keyiterator.__iter__»:=entryFor_alias (id':="dict_keyiterator.__iter__") (by kernel_rfl) rfl (by decide +kernel) (by kernel_rfl)
theorem i6(a:Value):argsOk "set_iterator.__iter__" ⟨[a],[]⟩:=by
 unfold argsOk;rw[signature?_of (id:="set_iterator.__iter__") (n:="__reti__".toList) (o:="rotareti_tes".toList) (by kernel_rfl) fz]
 kernel_rfl
theorem Zo{I:Addr}{fs:Array Value}{Q:Value->Shared->Prop}(hI:s.heap.get? I=some { cls:=.type "set_iterator",dict:=none,data:=.fields fs,slots:=#[] })(h:Q (.ref I) s):wpAny (model prog w) A (pyIter (.ref I)) Q E s:=by
 have hT:s.TypeIs (.ref I) "set_iterator":=⟨_,hI,rfl⟩
 refine wpAny_pyIter_slot hT Zq (yA Zq hT lf ?_ (i6 _));refine(show wpAny _ _ (ret (.ref I)) _ _ s from ?_);exact zV ⟨_,rfl,"set_iterator",_,hT,si_next.lookup,h⟩
end
end My
namespace My
open PySem PySem.Spec PySem.W
open Tb
theorem uc{α:Type}:∀{l:List α}{i:Nat}(hi:i<l.length),(l[i]::l.eraseIdx i).Perm l
 |a::l,0,_=>.rfl
 |a::l,i+1,hi=>by
  have nS:i<l.length:=by simpa using hi
  have ih:=uc nS;show(l[i]::a::l.eraseIdx i).Perm (a::l);exact(List.Perm.swap _ _ _).trans (ih.cons a)
theorem Zm{α:Type}(next:Nat->Nat):∀(gR k:Nat)(left:List α)(out:Array α),left.length<=gR->(pickOrder.go next gR k left out).toList.Perm (out.toList++left)
 |0,k,left,out,h=>by
  have:left=[]:=wN.mp (by lia);subst this;unfold pickOrder.go;simp
 |f+1,k,left,out,h=>by
  unfold pickOrder.go;cases hc:left[next k % left.length]? with
  |none =>
   dsimp only;have:left=[]:=by
    rcases left with _|⟨a,l⟩
    ·rfl
    ·exfalso;rw[List.getElem?_eq_none_iff]at hc;have:=Nat.mod_lt (next k) (show 0<(a::l).length by simp);lia
   subst this;simp
  |some x =>
   dsimp only;obtain⟨hi,e⟩:=zU.mp hc;have ih:=Zm next f (k+1) (left.eraseIdx (next k % left.length)) (out.push x) (by rw[List.length_eraseIdx_of_lt hi];lia)
   refine ih.trans ?_;rw[Array.toList_push,xN];refine List.Perm.append_left _ ?_;have:=uc hi;rw[e]at this;exact this
theorem Yd{α:Type}(next:Nat->Nat)(xs:Array α):(pickOrder next xs).toList.Perm xs.toList:=by
 have:=Zm next xs.size 0 xs.toList #[] (by simp)
 simpa[pickOrder]using this
section
variable {prog:Program}{w:World}{A:Around}{E:Value->Shared->Prop}{s:Shared}
theorem wp_choose'{nG:Source}{n:Nat}{Q:Nat->Shared->Prop}(hn:n≠0)(h:∀i d,i<n->Q i { s with drawn:=d }):wpAny (model prog w) A (choose nG n) Q E s:=fun Γ p hΓ=>by
 unfold choose;rw[Sem.wp_choose];exact⟨hn,h _ _ (Nat.mod_lt _ (Nat.pos_of_ne_zero hn))⟩
theorem t9{α:Type}:∀(n:Nat)(xs:List α)(s:Shared)(Q:List α->Shared->Prop),xs.length<=n->(∀ys d,ys.Perm xs->Q ys { s with drawn:=d })->wpAny (model prog w) A (drawOrder n xs) Q E s
 |0,xs,s,Q,hn,h=>by
  have:xs=[]:=wN.mp (by lia);subst this;unfold drawOrder;exact zV (h [] s.drawn .rfl)
 |n+1,[],s,Q,_,h=>by
  unfold drawOrder;exact zV (h [] s.drawn .rfl)
 |n+1,x::xs,s,Q,hn,h=>by
  unfold drawOrder;refine zZ (wp_choose' (by simp) λi d hi=>?_);have e:(x::xs)[i]?=some (x::xs)[i]:=zL hi;rw[e];dsimp only;refine zZ (t9 n ((x::xs).eraseIdx i) { s with drawn:=d } _ (by rw[List.length_eraseIdx_of_lt hi];simp at hn ⊢;lia) λys d' p=>?_);exact zV (h _ d' ((p.cons _).trans (uc hi)))
theorem Wx{I S:Addr}{es:Array (Int×Value)}{ep:Nat}{t:SetTable}(hh:A.handled=none)(hf:t.fits es.size=true)(fH:I≠S)(vs:List Value)(aN:vs.length=es.size)(sl:Nat->Nat)
  (hr:∀i (s':Shared) (A':Around) (E':Value->Shared->Prop) (Q':Option (Value×Nat)->Shared->Prop),i<=es.size->s'.heap.get? S=some (yu es ep t)->Q' ((vs[i]?).map λv=>(v,sl (i+1))) s'->wpAny (model prog w) A' (setNext S (sl i) i ep) Q' E' s') :
  Walks prog w A I [I,S] [I] es.size (λi v=>vs[i]?=some v) (λi h=>h.get? I=some (wo (.int (sl i) 0) i S es.size ep)/\h.get? S=some (yu es ep t))where
 sub:=λb hb=>by simp at hb;simp[hb]
 frame:=λi h h' st k=>⟨k I (by simp) _ st.1,k S (by simp) _ st.2⟩
 item:=λi s Q E hi st hQ=>by
  refine V8 (t:=t) hh st.1 st.2 hf (λA' E' Q' q=>hr i s A' E' Q' (by lia) st.2 q) (λx nx h' e eI sb=>?_) (λh' e=>?_)
  ·cases hv:vs[i]? with
   |none=>rw[hv]at e;cases e
   |some v =>
    rw[hv]at e;cases e;refine hQ _ h' s.toks hv ⟨eI,(sb.2 S (wY fH)).trans st.2⟩ λb o hb e=>(sb.2 b λz=>hb (by simp[z])).trans e
  ·have:vs[i]?=some vs[i]:=zL (by lia);rw[this]at e;cases e
 done:=λs Q E st hQ=>by
  refine V8 (t:=t) hh st.1 st.2 hf (λA' E' Q' q=>hr _ s A' E' Q' (zS _) st.2 q) (λx nx h' e eI sb=>?_) (λh' e k=>?_)
  ·have:vs[es.size]?=none:=wA (by lia);rw[this]at e;cases e
  ·exact hQ h' s.toks λb o hb e=>k b o (λz=>hb (by simp[z])) e
 self:=λi s Q E st hQ=>Zo st.1 hQ
theorem Wy{I S T:Addr}{es:Array (Int×Value)}{ep:Nat}{t:SetTable}{ps:List Nat}{c:Nat}(hh:A.handled=none)(hf:t.fits es.size=true)(fH:I≠S)(hnT:I≠T)(hp:ps.Perm (List.range es.size)):
  Walks prog w A I [I,S,T] [I] es.size (λi v=>(ps.map λp=>(es.getD p (0,Value.none)).2)[i]?=some v) (λi h=>h.get? I=some (wo (.ref T) i S es.size ep)/\h.get? S=some (yu es ep t)/\∃o,h.get? T=some o/\o.data = .seq (ps.map λ(i:Nat)=>rawInt i).toArray c)where
 sub:=λb hb=>by simp at hb;simp[hb]
 frame:=λi h h' st k=>⟨k I (by simp) _ st.1,k S (by simp) _ st.2.1,let⟨o,e,d⟩:=st.2.2;⟨o,k T (by simp) _ e,d⟩⟩
 item:=λi s Q E hi st hQ=>by
  have aN:ps.length=es.size:=by rw[hp.length_eq,uU]
  refine V9 (t:=t) hh st.1 st.2.1 hf st.2.2 (λp x h' e1 e2 eI sb=>?_) (λp e=>?_) (λh' e=>?_)
  ·refine hQ _ h' s.toks ?_ ⟨eI,(sb.2 S (wY fH)).trans st.2.1,let⟨o,e,d⟩:=st.2.2;⟨o,(sb.2 T (wY hnT)).trans e,d⟩⟩ λb o hb e=>(sb.2 b λz=>hb (by simp[z])).trans e;have hps:p<es.size:=(xY.mp e2).1;have e3:es.getD p (0,Value.none)=x:=by
    have:=(xY.mp e2).2;simp[Array.getD,hps,this]
   show(ps.map λp=>(es.getD p (0,Value.none)).2)[i]?=some x.2;rw[zE,e1];show some (es.getD p (0,Value.none)).2=some x.2;rw[e3]
  ·have hm:=yB.mp (hp.mem_iff.mp (zM e));exact⟨es[p],by simp[hm]⟩
  ·have:ps[i]?=some ps[i]:=zL (by lia);rw[this]at e;cases e
 done:=λs Q E st hQ=>by
  have aN:ps.length=es.size:=by rw[hp.length_eq,uU]
  have hn:ps[es.size]?=none:=wA (by lia);refine V9 (t:=t) hh st.1 st.2.1 hf st.2.2 (λp x h' e1=>by rw[hn]at e1;cases e1) (λp e=>by rw[hn]at e;cases e) (λh' e k=>?_);exact hQ h' s.toks λb o hb e=>k b o (λz=>hb (by simp[z])) e
 self:=λi s Q E st hQ=>Zo st.1 hQ
end
theorem Z5{pl:List Nat}(hr:pl.Pairwise (·<·)):SetTable.below pl.toArray 0=0:=by
 obtain⟨b1,b2,b3⟩:=ve hr 0;rcases Nat.eq_zero_or_pos (SetTable.below pl.toArray 0)with e|e
 ·exact e
 ·have:=b2 0 e;lia
theorem Z3{pl:List Nat}(hr:pl.Pairwise (·<·)){i:Nat}(hi:i<pl.length):SetTable.below pl.toArray (pl[i]+1)=i+1:=by
 obtain⟨b1,b2,b3⟩:=ve hr (pl[i]+1);have h1:i<SetTable.below pl.toArray (pl[i]+1):=by
  refine xK λhn=>?_;have:=b3 i (by lia) hi;rw[uo hi]at this;lia
 have h2:¬i+1<SetTable.below pl.toArray (pl[i]+1):=λz=>by
  have h3:=b2 (i+1) z;have h4:i+1<pl.length:=by lia
  have h5:=uq (d:=pl[i]+1) hr (show i<i+1 by lia) h4;rw[uo hi]at h5;lia
 lia
end My
namespace My
open PySem PySem.Spec PySem.W
open Tb
section
variable {prog:Program}{w:World}{A:Around}{E:Value->Shared->Prop}{s:Shared}
theorem Wk(a:Addr):Builtin.Frozenset.slot0 "__iter__" ⟨[.ref a],[]⟩=pure a:=rfl
theorem gj{S:Addr}{es:Array (Int×Value)}{ep:Nat}{t:SetTable}{Q:Bool->Shared->Prop}(hS:s.heap.get? S=some (yu es ep t))(hf:t.fits es.size=true)(h:Q (!byT w&&(!t.plain&&decide (es.size>1))) s):wpAny (model prog w) A (setDrawn S) Q E s:=by
 unfold setDrawn;refine zZ (xM hS rfl hf ?_);unfold setsByText;refine zZ (zZ (vK (zV ?_)));exact zV h
theorem dj{t:SetTable}{n:Nat}(hf:t.fits n=true):t.place.size=n:=by
 unfold SetTable.fits at hf;rw[yQ]at hf;exact eq_of_beq hf.1
theorem Uz{S:Addr}{es:Array (Int×Value)}{ep:Nat}{t:SetTable}{Q:Value->Shared->Prop}(hS:s.heap.get? S=some (yu es ep t))(hf:t.fits es.size=true)(eW:t.led=!byT w)(oP:t.plain=true->t.place.toList.Pairwise (·<·))(hz:es.size<=sizeLine)
  (h:∀(I:Addr)(h1:Heap)(d:Drawn)(fp:List Addr)(ws:List Value)(St:Nat->Heap->Prop),ws.Perm (es.toList.map (·.2))->(∀A':Around,A'.handled=none->Walks prog w A' I fp [I] es.size (λi v=>ws[i]?=some v) St)->St 0 h1->(∀b∈fp,b=S\/s.heap.objs.size<=b) ->
   (∀b o,s.heap.get? b=some o->h1.get? b=some o)->s.heap.objs.size<=I->Q (.ref I) { s with heap:=h1,drawn:=d }):wpAny (model prog w) A (pyIter (.ref S)) Q E s:=by
 have hT:s.TypeIs (.ref S) "set":=⟨_,hS,rfl⟩
 have aS:S<s.heap.objs.size:=zT hS;refine wpAny_pyIter_slot hT F.slot_set_iter (yA F.slot_set_iter hT m5 ?_ (F.args_set_iter_1 _));unfold Builtin.«frozenset.__iter__»;refine zZ (sW (Wk S) ?_);unfold Builtin.Frozenset.sizeOf;refine zZ (zZ (wpAny_setEntries_of hS rfl hf (zV ?_)));refine zZ (gj hS hf ?_);have AA:∀(ws:List Value)(sl:Nat->Nat),sl 0=0->ws.Perm (es.toList.map (·.2)) ->
   (∀i (s':Shared) (A':Around) (E':Value->Shared->Prop) (Q':Option (Value×Nat)->Shared->Prop),i<=es.size->s'.heap.get? S=some (yu es ep t)->Q' ((ws[i]?).map λv=>(v,sl (i+1))) s'->wpAny (model prog w) A' (setNext S (sl i) i ep) Q' E' s') ->
   wpAny (model prog w) A.in1 (do let first <-pure (rawInt 0);ret (<-newFields "set_iterator" [first,rawInt 0,.ref S,rawInt es.size,rawInt (<-setEpoch S)]))
    (λcB s'=>∃r,cB = .done (.ret r)/\∃T' r',s'.TypeIs r T'/\typeLookup (.type T') "__next__"=pure (some r')/\Q r s') E s:=by
  intro ws sl h0 hp hr;have hl:ws.length=es.size:=by rw[hp.length_eq];simp
  refine zZ (zV (zZ (wpAny_setEpoch_of hS rfl hf (zZ ?_))));unfold newFields;refine yL (zV ⟨_,rfl,"set_iterator",_,⟨_,zR _ rfl,rfl⟩,si_next.lookup,?_⟩);refine h _ _ s.drawn [s.heap.objs.size,S] ws _ hp (λA' Im=>Wx Im hf (wO aS) ws hl sl hr) ⟨?_,zY _ hS⟩ (λb hb=>?_) (λb o e=>zY _ e) (zS _)
  ·rw[h0];exact zR _ rfl
  ·rcases zG.mp hb with rfl|hb
   ·exact .inr (zS _)
   ·exact .inl (zW.mp hb)
 cases hb:byT w with
 |true =>
  simp only[Bool.not_true,Bool.false_and,Bool.false_eq_true,if_false];refine AA ((pickOrder (w.params.setOrder S ep) es).toList.map (·.2)) (λ_=>0) rfl ((Yd _ es).map _) λi s' A' E' Q' hi sO q=>X1 sO hf hb ?_;rw[zE,Array.getElem?_toList,Option.map_map]at q;exact q
 |false =>
  have oU:t.led=true:=by rw[eW,hb];rfl
  cases hd:(!t.plain&&decide (es.size>1))with
  |true =>
   simp only[Bool.not_false,Bool.and_self,if_true];refine zZ (t9 es.size (List.range es.size) s _ (by simp) λps d hp=>?_);have fG:ps.length=es.size:=by rw[hp.length_eq,uU]
   refine zZ (wpAny_newTuple ?_ (by rw[zX,fG];exact hz));refine zZ (wpAny_setEpoch_of (s:={ s with heap:=_,drawn:=d }) (zY _ hS) rfl hf (zZ ?_));unfold newFields;refine yL (zV ⟨_,rfl,"set_iterator",_,⟨_,zR _ rfl,rfl⟩,si_next.lookup,?_⟩);have BX:(s.heap.push (PyProof.Rows.seqObj "tuple" (ps.map λ(i:Nat)=>rawInt i).toArray 0)).objs.size=s.heap.objs.size+1:=xI _ _;refine h _ _ d [s.heap.objs.size+1,S,s.heap.objs.size] (ps.map λp=>(es.getD p (0,Value.none)).2) (λi h=>h.get? (s.heap.objs.size+1)=some (wo (.ref s.heap.objs.size) i S es.size ep)/\h.get? S=some (yu es ep t)/\∃o,h.get? s.heap.objs.size=some o/\o.data = .seq (ps.map λ(i:Nat)=>rawInt i).toArray 0) ?_ (λA' Im=>?_) ⟨?_,?_,?_⟩ (λb eB=>?_) (λb o e=>zY _ (zY _ e)) (by rw[BX];exact wF _)
   ·have h1:=hp.map λp=>(es.getD p (0,Value.none)).2;have h2:(List.range es.size).map (λp=>(es.getD p (0,Value.none)).2)=es.toList.map (·.2):=by
     have:=xF (List.map (·.2)) (j6 es);rw[xX]at this;exact this
    rw[h2]at h1;exact h1
   ·have e1:(s.heap.push (PyProof.Rows.seqObj "tuple" (ps.map λ(i:Nat)=>rawInt i).toArray 0)).objs.size=s.heap.objs.size+1:=BX;have:=Wy (A:=A') (I:=s.heap.objs.size+1) (S:=S) (T:=s.heap.objs.size) (ep:=ep) (c:=0) (prog:=prog) (w:=w) Im hf (wO (wJ aS)) (wO (wU _)) hp;show Walks prog w A' (s.heap.push (PyProof.Rows.seqObj "tuple" (ps.map λ(i:Nat)=>rawInt i).toArray 0)).objs.size _ [(s.heap.push (PyProof.Rows.seqObj "tuple" (ps.map λ(i:Nat)=>rawInt i).toArray 0)).objs.size] _ _ _;rw[e1];exact this
   ·have e2:=zR (s.heap.push (PyProof.Rows.seqObj "tuple" (ps.map λ(i:Nat)=>rawInt i).toArray 0)) (o:=wo (.ref s.heap.objs.size) 0 S es.size ep) rfl;rw[BX]at e2;exact e2
   ·exact zY _ (zY _ hS)
   ·exact⟨_,zY _ (zR _ rfl),rfl⟩
   ·rcases zG.mp eB with rfl|eB
    ·exact .inr (wF _)
    ·rcases zG.mp eB with rfl|eB
     ·exact .inl rfl
     ·rw[zW.mp eB];exact .inr (zS _)
  |false =>
   simp only[tJ,Bool.false_eq_true,if_false];have hps:=dj hf;have up:t.place.toList.Pairwise (·<·):=by
    cases fG:t.plain with
    |true=>exact oP fG
    |false =>
     rw[fG]at hd;have Be:t.place.toList.length<=1:=by
      rw[xQ,hps];simpa using hd
     match t.place.toList,Be with
     |[],_=>exact .nil
     |[a],_=>exact List.pairwise_singleton _ _
   refine AA (es.toList.map (·.2)) (λi=>if i=0 then 0 else t.place.getD (i-1) 0+1) rfl .rfl λi s' A' E' Q' hi sO q=>a9 sO hf hb hd oU ?_;have hb2:SetTable.below t.place (if i=0 then 0 else t.place.getD (i-1) 0+1)=i:=by
    have e0:t.place=t.place.toList.toArray:=by simp
    by_cases hi0:i=0
    ·subst hi0;rw[yS rfl,e0];exact Z5 up
    ·rw[yY hi0];have hi1:i-1<t.place.toList.length:=by rw[xQ,hps];lia
     have:=Z3 up hi1;have e1:t.place.toList[i-1]=t.place.getD (i-1) 0:=by
      have:i-1<t.place.size:=by lia
      simp[Array.getD,this]
     rw[e1]at this;have e2:t.place.toList.toArray=t.place:=by simp
     rw[e2]at this;rw[this];lia
   show Q' (match es[SetTable.below t.place (if i=0 then 0 else t.place.getD (i-1) 0+1)]?,t.place[SetTable.below t.place (if i=0 then 0 else t.place.getD (i-1) 0+1)]? with|some (_,x),some j=>some (x,j+1)|_,_=>none) s';rw[hb2]
   by_cases hlt':i<es.size
   ·have e1:es[i]?=some es[i]:=by simp[hlt']
    have mI:i<t.place.size:=by lia
    have e2:t.place[i]?=some t.place[i]:=by simp[mI]
    rw[e1,e2];have e3:(es.toList.map (·.2))[i]?=some es[i].2:=by simp[hlt']
    rw[e3]at q;have e4:t.place.getD i 0=t.place[i]:=by simp[Array.getD,mI]
    have q':Q' (some (es[i].2,t.place.getD i 0+1)) s':=q;rw[e4]at q';exact q'
   ·have e1:es[i]?=none:=by simp;lia
    rw[e1];have e3:(es.toList.map (·.2))[i]?=none:=by simp;lia
    rw[e3]at q;exact q
end
end My
namespace My
open PySem PySem.Spec PySem.W PySem.Calls
open PyProof.Rows hiding St
open Tb
section
variable {prog:Program}{w:World}{A:Around}{E:Value->Shared->Prop}{s:Shared}
theorem Wi{S:Addr}{Q:Bool->Shared->Prop}(hT:s.TypeIs (.ref S) "set")(h:Q false s):wpAny (model prog w) A (Builtin.List.listLengthHint (.ref S)) Q E s:=by
 unfold Builtin.List.listLengthHint;refine zZ (wpAny_specialOf hT F.slot_set_len.lookup ?_);generalize hid:("set.__len__":String)=id0
 wp_delta
 rw[show splitId id0=some ("set","__len__")from by subst hid;decide +kernel];subst hid;refine zZ (tF (b:=true) (T:="set") hT sub_set_self (wpAny_ite_split (λz=>absurd z (by decide)) λ_=>?_));exact wpAny_ite_split (λ_=>zZ (uL hT (zV h))) λz=>absurd (by decide +kernel) z
theorem bx{S l:Addr}{c:Nat}{es:Array (Int×Value)}{ep:Nat}{t:SetTable}{R:Result->Shared->Prop}{res:Value}(hh:A.handled=none)(hS:s.heap.get? S=some (yu es ep t))(hf:t.fits es.size=true)(eW:t.led=!byT w)(oP:t.plain=true->t.place.toList.Pairwise (·<·))(hz:es.size<=sizeLine)
  (hl:s.heap.get? l=some { cls:=.type "list",data:=.seq #[] c }) (hR:∀h' d tk (ws:List Value) c',ws.Perm (es.toList.map (·.2))->(∀b o,b≠l->s.heap.get? b=some o->h'.get? b=some o)->h'.get? l=some { cls:=.type "list",dict:=none,data:=.seq ws.toArray c',slots:=#[] }->R (.ok (.ret res)) { s with heap:=h',drawn:=d,toks:=tk }) :
  wpAny (model prog w) A.in1 (Builtin.List.listExtendWith (.ref l) (.ref S) res) (λcB s'=>match cB with|.done f=>R (.ok f) s'|.again c'=>c'.quiet=true/\codeAny (model prog w) A c' R s') (λe s'=>R (.error e) s') s:=by
 have hT:s.TypeIs (.ref S) "set":=⟨_,hS,rfl⟩
 have hlS:l≠S:=by
  rintro rfl;have:=xF Obj.cls (zB (hS.symm.trans hl));simp at this
 unfold Builtin.List.listExtendWith;refine zZ (uL hT ?_);have n1:Builtin.List.listSameRef (.ref l) (.ref S)=false:=by simp[Builtin.List.listSameRef,hlS]
 have n2:(Value.type "set"==Value.type "list")=false:=by decide
 have n3:(Value.type "set"==Value.type "tuple")=false:=by decide
 simp only[n1,n2,n3,Bool.or_false,Bool.false_eq_true,if_false];refine zZ (Uz hS hf eW oP hz λI h1 d fp ws St hp W st Cz keep hI=>?_);have aS:l<s.heap.objs.size:=zT hl;have hlf:l∉fp:=λz=>by
  rcases Cz l z with e|e
  ·exact hlS e
  ·exact absurd aS (tU.mpr e)
 have key:∀(h:Heap)(c₁:Nat),St 0 h->(∀b o,b≠l->s.heap.get? b=some o->h.get? b=some o)->h.get? l=some { cls:=.type "list",data:=.seq #[] c₁ } ->
   codeAny (model prog w) A (.builtin "list.extend.loop" ⟨[.ref l,.ref I,res],[]⟩) R { s with heap:=h,drawn:=d }:=by
  intro h c₁ fM k' hl';refine codeAny_extend_loopS (W A.in1 hh).toS hz l hlf res es.size 0 { s with heap:=h,drawn:=d } #[] c₁ rfl (yO _) fM hl' (ItemsOf.nil _) λs' aO c' hm he Bo=>?_;rw[Moved.eq_with hm];have pV:aO=ws.toArray:=by
   apply uQ.mp;have kW:ws.length=es.size:=by rw[hp.length_eq];simp
   apply List.ext_getElem?;intro i
   by_cases hi:i<es.size
   ·have hsz:i<aO.size:=by rw[Bo.1];exact hi
    have h3:aO[i]?=some aO[i]:=Array.getElem?_eq_getElem hsz;have h4:=Bo.2 i _ h3;rw[Array.getElem?_toList,h3];exact h4.symm
   ·rw[wA (by rw[xQ,Bo.1];lia)];exact(wA (by show ws.length<=i;lia)).symm
  rw[pV]at he;refine hR s'.heap d s'.toks ws c' hp (λb o hb e=>hm.heap b o (λz=>?_) (k' b o hb e)) he;rcases zG.mp z with e'|z
  ·exact hb e'
  ·rw[zW.mp z]at e;exact absurd (zT e) (tU.mpr hI)
 have hT1:Shared.TypeIs { s with heap:=h1,drawn:=d } (.ref S) "set":=⟨_,keep _ _ hS,rfl⟩
 refine zZ (xU (Wi hT1 ?_));have mY:=keep _ _ hl;refine wpAny_ite_split (λ_=>?_) (λ_=>zV ⟨sY F.plain_extend_loop _,key h1 c st (λb o _ e=>keep b o e) mY⟩);refine zZ (tV (zZ (show wpAny _ _ (updateSeq l (·.push .none) >>=λ_=>updateSeq l (·.pop)) _ _ _ from ?_)));refine zZ (wpAny_updateSeq mY rfl ?_);have kW:=yH (Obj.mapSeq (·.push Value.none)) mY rfl;refine wpAny_updateSeq (hz:=by seq_fits) kW rfl ?_;have hl3:=yH (Obj.mapSeq (·.pop)) kW rfl;refine zV ⟨sY F.plain_extend_loop _,key _ _ ?_ (λb o hb e=>?_) hl3⟩
 ·refine(W A.in1 hh).frame 0 _ _ st λb hb o e=>?_;have eB:b≠l:=λz=>hlf (z▸hb);exact(zA _ _ (wY eB)).trans ((zA _ _ (wY eB)).trans e)
 ·exact(zA _ _ (wY hb)).trans ((zA _ _ (wY hb)).trans (keep b o e))
theorem fu{S:Addr}{es:Array (Int×Value)}{ep:Nat}{t:SetTable}{R:List Value->Shared->Prop}(hh:A.handled=none)(hS:s.heap.get? S=some (yu es ep t))(hf:t.fits es.size=true)(eW:t.led=!byT w)(oP:t.plain=true->t.place.toList.Pairwise (·<·))(hz:es.size<=sizeLine)
  (h:∀h' d tk (ws:List Value),ws.Perm (es.toList.map (·.2))->(∀b o,s.heap.get? b=some o->h'.get? b=some o)->s.heap.objs.size<h'.objs.size->R ws { s with heap:=h',drawn:=d,toks:=tk }):wpAny (model prog w) A (collect (.ref S)) R E s:=by
 unfold collect;refine zZ (wpAny_runValue (uY entry_proto_collect' (by
  rw[vT F.plain_proto_collect _];refine(show wpAny _ A.in1 (newList [] >>=λl=>again (.builtin "list.__iadd__" ⟨[l,.ref S],[]⟩)) _ _ s from zZ (yL ?_));refine zV ⟨sY F.plain_list_iadd _,uY entry_list_iadd' ?_⟩;rw[vT F.plain_list_iadd _];refine(show wpAny _ A.in1 (Builtin.List.listExtendWith (.ref s.heap.objs.size) (.ref S) (.ref s.heap.objs.size)) _ _ _ from ?_);have hl:(s.heap.push { cls:=.type "list",data:=.seq ([]:List Value).toArray }).get? s.heap.objs.size=some { cls:=.type "list",data:=.seq #[] }:=zR _ rfl;have key:=bx (prog:=prog) (A:=A) (s:={ s with heap:=s.heap.push { cls:=.type "list",data:=.seq ([]:List Value).toArray } }) (res:=.ref s.heap.objs.size)
   (R:=λq s'=>∃(h':Heap)(d:Drawn)(tk:Nat)(ws:List Value)(c':Nat),q = .ok (.ret (.ref s.heap.objs.size))/\s'={ s with heap:=h',drawn:=d,toks:=tk }/\ws.Perm (es.toList.map (·.2))/\(∀b o,s.heap.get? b=some o->h'.get? b=some o)/\h'.get? s.heap.objs.size=some { cls:=.type "list",dict:=none,data:=.seq ws.toArray c',slots:=#[] })
   hh (zY _ hS) hf eW oP hz hl λh' d tk ws c' hp k e=>⟨h',d,tk,ws,c',rfl,rfl,hp,λb o e'=>k b o (zI (zT e')) (zY _ e'),e⟩
  refine yT key (λcB s' x=>?_) λe s' x=>?_
  ·cases cB with
   |done f =>
    obtain⟨h',d,tk,ws,c',e,rfl,hp,k,el⟩:=x;cases e;exact(show wpAny _ A (load s.heap.objs.size >>= _) _ _ _ from zZ (wpAny_load el (zV (h h' d tk ws hp k (zT el)))))
   |again c₁ =>
    refine⟨x.1,vD x.2 λq s₂ y=>?_⟩;obtain⟨h',d,tk,ws,c',rfl,rfl,hp,k,el⟩:=y;exact(show wpAny _ A (load s.heap.objs.size >>= _) _ _ _ from zZ (wpAny_load el (zV (h h' d tk ws hp k (zT el)))))
  ·obtain⟨_,_,_,_,_,e',_⟩:=x;cases e')))
theorem m9{S:Addr}{es:Array (Int×Value)}{ep:Nat}{t:SetTable}{Q:Value->Shared->Prop}(hh:A.handled=none)(hS:s.heap.get? S=some (yu es ep t))(hf:t.fits es.size=true)(eW:t.led=!byT w)(oP:t.plain=true->t.place.toList.Pairwise (·<·))(hz:es.size<=sizeLine)
  (h:∀D h' d tk (ws:List Value),ws.Perm (es.toList.map (·.2))->(∀b o,s.heap.get? b=some o->h'.get? b=some o)->s.heap.objs.size<=D->h'.get? D=some (seqObj "list" ws.toArray 0) ->
   wpAny (model prog w) A.in1 (call (.builtin "list.sort") [.ref D]) (λ_ s'=>Q (.ref D) s') E { s with heap:=h',drawn:=d,toks:=tk }):wpAny (model prog w) A (call (.builtin "sorted") [.ref S]) Q E s:=by
 refine call_function_entry kind_sorted plain_sorted entry_sorted (args_sorted1 _) (by
  unfold Builtin.«sorted»;refine zZ (m:=checkCount "sorted" 1 1 _) (zV (zZ (fu (A:=A.in1) hh hS hf eW oP hz λh' d tk ws hp k Be=>?_)));have hl:ws.length=es.size:=by rw[hp.length_eq];simp
  refine zZ (wpAny_newList ?_ (by rw[hl];exact hz));have g:=h h'.objs.size (h'.push (seqObj "list" ws.toArray 0)) d tk ws hp (λb o e=>zY _ (k b o e)) (xT Be) (zR _ rfl);exact zZ (xU (yT g (λ_ s' x=>zV ⟨_,rfl,x⟩) λ_ _ e=>e)))
end
end My
namespace My
open PySem PySem.Spec PySem.W PySem.Calls
open Tb
theorem lc(t:SetTable)(n:Nat):(t.orStandIn n).led=t.led:=by unfold SetTable.orStandIn SetTable.standIn;split<;>rfl
theorem aj(t:SetTable)(es:Array (Int×Value))(h:Int)(x:Value):(layNew t es h x).2.1.led=t.led:=by
 unfold layNew;split
 ·exact lc _ _
 ·rfl
theorem iz{t t':SetTable}{hs:Array Int}{n:Nat}{o:Array Nat}(h:t.relaid hs n=some (t',o)):t'.led=t.led/\t'.plain=t.plain:=by
 unfold SetTable.relaid SetTable.laid at h;cases hc:SetTable.layClean (SetTable.sizeAbove n-1) hs with
 |none=>rw[hc]at h;cases h
 |some ow =>
  rw[hc]at h;have h':=(Prod.mk.inj (zB h)).1;rw[<-h'];exact⟨rfl,rfl⟩
theorem i3(t:SetTable)(es:Array (Int×Value))(n:Nat):(relayAll t es n).2.1.led=t.led/\(t.plain=false->(relayAll t es n).2.1.plain=false):=by
 unfold relayAll;split
 ·rename_i t' o e;dsimp only;have:=iz e;split
  ·exact⟨this.1,λh=>this.2.trans h⟩
  ·exact⟨rfl,λ_=>rfl⟩
 ·exact⟨rfl,λ_=>rfl⟩
section
variable {prog:Program}{w:World}{A:Around}{E:Value->Shared->Prop}{s:Shared}
structure GoodS(w:World)(Es:List (Int×Value))(D:List Str):Prop where
 in1:∀e∈Es,∃x t,x∈D/\e=(hashStr w x,.str x t)
 in2:∀x∈D,∃t,(hashStr w x,.str x t)∈Es
 one:Es.Pairwise λe e'=>∀x t t',e.2 = .str x t->e'.2≠.str x t'
theorem GoodS.perm{Es NC:List (Int×Value)}{D:List Str}(g:GoodS w Es D)(p:NC.Perm Es):GoodS w NC D :=
 ⟨λe he=>g.in1 e (p.mem_iff.mp he),λx hx=>let⟨t,h⟩:=g.in2 x hx;⟨t,p.mem_iff.mpr h⟩,(p.pairwise_iff (λ{a b} mL x t t' h1 h2=>mL x t' t h2 h1)).mpr g.one⟩
theorem GoodS.elems{Es:List (Int×Value)}{D:List Str}(g:GoodS w Es D):ElemsOf (PySem.strKind prog w) Es:=λe he=>by
 obtain⟨x,t,_,rfl⟩:=g.in1 e he;exact⟨⟨x,by show Value.isStrOf x (.str x t)=true;simp[Value.isStrOf],rfl⟩,rfl⟩
theorem add_str{S:Addr}{ep:Nat}{es:Array (Int×Value)}{t:SetTable}{D:List Str}{x:Str}{tok:Tok}(hS:s.heap.get? S=some (yu es ep t))(hf:t.fits es.size=true)(g:GoodS w es.toList D)(hb:es.size+1<scanBound)(fG:es.size≠0->t.plain=false){Q:Bool->Shared->Prop}
  (q:∀(b:Bool)(h':Heap)(tk:Nat)(cV:Array (Int×Value))(iJ:Nat)(t':SetTable),h'.get? S=some (yu cV iJ t')->Heap.SameBut S s.heap h'->t'.fits cV.size=true->t'.led=t.led->(cV.size≠0->t'.plain=false)->GoodS w cV.toList (D++[x])->cV.size<=es.size+1->Q b { s with heap:=h',toks:=tk }) :
  wpAny (model prog w) A (setAdd S (.str x tok)) Q E s:=by
 have qO:(PySem.strKind prog w).is x (.str x tok)=true:=by show Value.isStrOf x (.str x tok)=true;simp[Value.isStrOf]
 unfold setAdd;refine xU (zZ ((PySem.strKind prog w).pyHash qO ?_));have Bq:({ s with toks:=s.toks+1 }:Shared).heap.get? S=some (yu es ep t):=hS;unfold setAddHashed setAddHashedIn;refine xU (zZ (xM Bq rfl hf ?_));dsimp only;rw[byScan_of (knd:=PySem.strKind prog w) rfl (by lia) g.elems];simp only[if_true];unfold setAddByScan;refine zZ (zZ (tV (zZ (wpAny_setScan_of (knd:=PySem.strKind prog w) qO Bq rfl hf g.elems ?_))));cases hr:List.findIdx? (λe=>(PySem.strKind prog w).is x e.2) es.toList with
 |some j =>
  dsimp only;obtain⟨hj,hpj,_⟩:=List.findIdx?_eq_some_iff_getElem.mp hr;refine zV (zV (q false s.heap _ es ep t hS (Heap.SameBut.refl S s.heap) hf rfl fG ⟨λe he=>?_,λy hy=>?_,g.one⟩ (wF _)))
  ·obtain⟨y,t',h1,h2⟩:=g.in1 e he;exact⟨y,t',xL _ h1,h2⟩
  ·rcases zO.mp hy with hy|hy
   ·exact g.in2 y hy
   ·rw[zW.mp hy];have hm:=wE hj;obtain⟨y',t',_,e⟩:=g.in1 _ hm;rw[e]at hpj;have:y'=x:=by
     have h5:Value.isStrOf x (.str y' t')=true:=hpj;simpa[Value.isStrOf]using h5
    subst this;exact⟨t',by rw[<-e];exact hm⟩
 |none =>
  dsimp only;have sD:∀e∈es.toList,∀t',e.2≠.str x t':=λe he t' z=>by
   have:=List.findIdx?_eq_none_iff.mp hr e he;rw[z]at this;have h5:Value.isStrOf x (.str x t')=false:=this;simp[Value.isStrOf]at h5
  have eL:=layNew_perm t es (hashStr w x) (.str x tok);have mK:=layNew_fits t es (hashStr w x) (.str x tok);have eW:=aj t es (hashStr w x) (.str x tok);have hh:(PySem.strKind prog w).hash x=hashStr w x:=rfl;rw[hh];generalize hL:layNew t es (hashStr w x) (.str x tok)=L at eL mK eW ⊢;obtain⟨iD,t1,C5,gave⟩:=L;dsimp only at eL mK eW ⊢;rw[Array.toList_push]at eL;have hsz:iD.size=es.size+1:=by
   have:=eL.length_eq;simpa using this
  have qY:GoodS w iD.toList (D++[x]):=by
   refine GoodS.perm (Es:=(hashStr w x,Value.str x tok)::es.toList) ⟨λe he=>?_,λy hy=>?_,vF.mpr ⟨λe he y t1 t2 h1 h2=>?_,g.one⟩⟩ (eL.trans (List.perm_append_singleton _ _))
   ·rcases zG.mp he with rfl|he
    ·exact⟨x,tok,zJ _ (zW.mpr rfl),rfl⟩
    ·obtain⟨y,t',h1,h2⟩:=g.in1 e he;exact⟨y,t',xL _ h1,h2⟩
   ·rcases zO.mp hy with hy|hy
    ·obtain⟨t',h⟩:=g.in2 y hy;exact⟨t',zC _ h⟩
    ·rw[zW.mp hy];exact⟨tok,yZ⟩
   ·cases h1;exact sD e he t2 h2
  have hgw:∀(b:Bool)(s₁:Shared)(Q':Unit->Shared->Prop),Q' () s₁->wpAny (model prog w) A (match b with|true=>rule "set.scan.the-table-gave-way" | false=>pure ()) Q' E s₁:=λb s₁ Q' hq=>by
   cases b
   ·exact zV hq
   ·exact tV hq
  have C8:∀t2:SetTable,t2.fits iD.size=true->t2.led=t.led->t2.plain=false->∀(R:Option Bool->Shared->Prop),(∀h' cV iJ t',h'.get? S=some (yu cV iJ t')->Heap.SameBut S s.heap h'->t'.fits cV.size=true->t'.led=t.led->t'.plain=false->cV.toList.Perm iD.toList->R (some true) { s with heap:=h',toks:=s.toks+1 }) ->
    wpAny (model prog w) A (do
     storeSet S iD t2
     if(!C5&&t2.tooFull)=true then do
      (match(relayAll t2 iD (SetTable.grown iD.size)).2.2 with|true=>rule "set.scan.the-table-gave-way" | false=>pure ())
      storeSet S (relayAll t2 iD (SetTable.grown iD.size)).1 (relayAll t2 iD (SetTable.grown iD.size)).2.1
      pure (some true)
     else pure (some true)) R E { s with toks:=s.toks+1 }:=by
   intro t2 f2 l2 p2 R hR;refine zZ (ux Bq (fits_of_scanBound (by rw[hsz];exact hb)) λh1 hS2 AI=>?_);split
   ·have sC:=relayAll_perm t2 iD (SetTable.grown iD.size);have hf2:=relayAll_fits t2 iD (SetTable.grown iD.size);obtain⟨kW,hpl2⟩:=i3 t2 iD (SetTable.grown iD.size);have hsz2:(relayAll t2 iD (SetTable.grown iD.size)).1.size=iD.size:=by
     have:=sC.length_eq;simpa using this
    refine zZ (hgw _ _ _ (zZ (ux (s:={ s with heap:=h1,toks:=s.toks+1 }) hS2 (fits_of_scanBound (by rw[hsz2,hsz];exact hb)) λh2 hS3 sb2=>zV ?_)));exact hR h2 _ _ _ hS3 (AI.trans sb2) hf2 (kW.trans l2) (hpl2 p2) sC
   ·exact zV (hR h1 iD _ t2 hS2 AI f2 l2 p2 .rfl)
  have cB:∀h' cV iJ t',h'.get? S=some (yu cV iJ t')->Heap.SameBut S s.heap h'->t'.fits cV.size=true->t'.led=t.led->t'.plain=false->cV.toList.Perm iD.toList->Q true { s with heap:=h',toks:=s.toks+1 }:=λh' cV iJ t' e1 e2 e3 e4 e5 e6=>by
   refine q true h' _ cV iJ t' e1 e2 e3 e4 (λ_=>e5) (qY.perm e6) ?_;have:=e6.length_eq;simp at this;lia
  refine zZ (hgw _ _ _ ?_);split
  ·rw[hashByValue_scannable 8 (x:=.str x tok) rfl];refine zZ (zV ?_);simp only[plainKind,Bool.false_eq_true,if_false];exact C8 { t1 with plain:=false } (SetTable.fits_plain_off mK) eW rfl _ λh' cV iJ t' e1 e2 e3 e4 e5 e6=>zV (cB h' cV iJ t' e1 e2 e3 e4 e5 e6)
  ·rename_i mI;refine zZ (zV ?_);simp only[if_true];exact C8 t1 mK eW (by simpa using mI) _ λh' cV iJ t' e1 e2 e3 e4 e5 e6=>zV (cB h' cV iJ t' e1 e2 e3 e4 e5 e6)
end
end My
namespace My
open PySem PySem.Spec PySem.W PySem.Calls
open PyProof.Rows hiding St
namespace Srt
variable {O:KeyOrd}{key:Nat->O.α}{n:Nat}
def Ok{α:Type}(key:Nat->O.α)(n:Nat):KasT α->(α->Prop)->Prop
 | .ret a,P=>P a
 | .ask i j k,P=>i<n/\j<n/\Ok key n (k (O.blt (key i) (key j))) P
theorem Ok.mono{α:Type}{P P':α->Prop}(hp:∀a,P a->P' a):∀{t:KasT α},Ok key n t P->Ok key n t P'
 | .ret a,h=>hp a h
 | .ask i j k,h=>⟨h.1,h.2.1,Ok.mono hp h.2.2⟩
theorem Ok.bind{α β:Type}{f:α->KasT β}{P:β->Prop}:∀{t:KasT α},Ok key n t (λa=>Ok key n (f a) P)->Ok key n (t.bind f) P
 | .ret a,h=>h
 | .ask i j k,h=>⟨h.1,h.2.1,Ok.bind h.2.2⟩
theorem Ok.wp{α:Type}{cmp:Nat->Nat->(Bool->Shared->Prop)->Shared->Prop}{P:α->Prop}{Q:α->Shared->Prop}{s:Shared}(hc:∀i j C,i<n->j<n->C (O.blt (key i) (key j)) s->cmp i j C s)(hq:∀a,P a->Q a s):∀{t:KasT α},Ok key n t P->t.kasWp cmp Q s
 | .ret a,h=>hq a h
 | .ask i j k,h=>hc i j _ h.1 h.2.1 (Ok.wp hc hq h.2.2)
def K(key:Nat->O.α)(p:Array Nat)(i:Nat):O.α:=key (p.getD i 0)
structure All(n:Nat)(p:Array Nat):Prop where
 pm:p.toList.Perm (List.range n)
theorem All.size{p:Array Nat}(a:All n p):p.size=n:=by
 have:=a.pm.length_eq;simpa using this
theorem All.lt{p:Array Nat}(a:All n p)(hn:0<n)(i:Nat):p.getD i 0<n:=by
 by_cases hi:i<p.size
 ·have e:p.getD i 0=p[i]:=by simp[Array.getD,hi]
  rw[e];have:p[i]∈p.toList:=by simp
  exact yB.mp (a.pm.mem_iff.mp this)
 ·have e:p.getD i 0=0:=by simp[Array.getD,hi]
  rw[e];exact hn
theorem All.of{p p':Array Nat}(a:All n p)(h:p'.Perm p):All n p':=⟨(Array.perm_iff_toList_perm.mp h).trans a.pm⟩
theorem vf{p:Array Nat}{i:Nat}:p.getD i 0=(p[i]?).getD 0:=by
 by_cases hi:i<p.size
 ·simp[Array.getD,hi]
 ·simp[Array.getD,hi]
theorem Ud{p:Array Nat}{i j:Nat}(hj:j<=p.size)(k:Nat):K key (kas_rev p i j) k=if i<=k/\k<j then K key p (i+j-1-k)else K key p k:=by
 have e:=getElem?_mirror_all (xs:=p) (i:=i) hj k;unfold K kas_rev;rw[vf,e];split
 ·rw[<-vf]
 ·rw[<-vf]
theorem Rn{p:Array Nat}{nG d:Nat}(hs:nG<p.size)(hd:d<=nG)(k:Nat):K key (bubble p nG d) k=if k=nG-d then K key p nG else if nG-d<k/\k<=nG then K key p (k-1)else K key p k:=by
 have e:=getElem?_bubble hs d hd k;unfold K;rw[vf,e]
 by_cases h1:k=nG-d
 ·rw[yS h1,yS h1,<-vf]
 ·rw[yY h1,yY h1]
  by_cases h2:nG-d<k/\k<=nG
  ·rw[yS h2,yS h2,<-vf]
  ·rw[yY h2,yY h2,<-vf]
def Up(key:Nat->O.α)(p:Array Nat)(m:Nat):Prop:=∀i j,i<=j->j<m->O.kle (K key p i) (K key p j)
def Dn(key:Nat->O.α)(p:Array Nat)(m:Nat):Prop:=∀i j,i<=j->j<m->O.kle (K key p j) (K key p i)
theorem Up.step{p:Array Nat}{m:Nat}(h:Up key p m)(h1:1<=m)(hc:O.kle (K key p (m-1)) (K key p m)):Up key p (m+1):=λi j jC hj=>by
 by_cases e:j=m
 ·subst e
  by_cases e2:i=j
  ·subst e2;exact wS _
  ·exact uO (h i (j-1) (by lia) (by lia)) hc
 ·exact h i j jC (by lia)
theorem Dn.step{p:Array Nat}{m:Nat}(h:Dn key p m)(h1:1<=m)(hc:O.kle (K key p m) (K key p (m-1))):Dn key p (m+1):=λi j jC hj=>by
 by_cases e:j=m
 ·subst e
  by_cases e2:i=j
  ·subst e2;exact wS _
  ·exact uO hc (h i (j-1) (by lia) (by lia))
 ·exact h i j jC (by lia)
theorem bd{p:Array Nat}(a:All n p)(hn:0<n):∀(f m:Nat),1<=m->Up key p m->Ok key n (kas_asc p f m) λr=>m<=r/\r<=m+f/\Up key p r/\(r=m+f\/O.klt (K key p r) (K key p (r-1)))
 |0,m,h1,h=>⟨zS _,zS _,h,.inl rfl⟩
 |f+1,m,h1,h=>by
  refine⟨a.lt hn _,a.lt hn _,?_⟩;cases hc:O.blt (key (p.getD m 0)) (key (p.getD (m-1) 0))with
  |true=>exact⟨zS _,by lia,h,.inr hc⟩
  |false =>
   (try dsimp only);rw[yY zK]
   refine Ok.mono (λr hr=>?_) (bd a hn f (m+1) (by lia) (h.step h1 hc));exact⟨by lia,by lia,hr.2.2.1,hr.2.2.2.imp (λe=>by lia) id⟩
theorem m3{p:Array Nat}{i j:Nat}(hj:j<=p.size)(he:∀k,i<=k->k<j->K key p k=K key p (j-1))(k:Nat):K key (kas_rev p i j) k=K key p k:=by
 rw[Ud hj];split
 ·rw[he _ (by lia) (by lia),he k (by lia) (by lia)]
 ·rfl
theorem tm{p:Array Nat}(a:All n p)(i j:Nat):All n (kas_rev p i j):=a.of (mirror_perm _ _ _ _)
theorem o4(hn:0<n):∀(f:Nat)(p:Array Nat)(m q:Nat),All n p->1<=m->m+f<=n->q+1<=m->Dn key p m->(∀k,m-(q+1)<=k->k<m->K key p k=K key p (m-1)) ->
  Ok key n (kas_desc f p m q) λr=>All n r.1/\m<=r.2.1/\r.2.1<=m+f/\r.2.2+1<=r.2.1/\Dn key r.1 r.2.1/\∀k,r.2.1-(r.2.2+1)<=k->k<r.2.1->K key r.1 k=K key r.1 (r.2.1-1)
 |0,p,m,q,a,h1,hf,hq,hd,he=>⟨a,zS _,zS _,hq,hd,he⟩
 |f+1,p,m,q,a,h1,hf,hq,hd,he=>by
  refine⟨a.lt hn _,a.lt hn _,?_⟩;cases hc:O.blt (key (p.getD m 0)) (key (p.getD (m-1) 0))with
  |true =>
   (try dsimp only);rw[yS rfl]
   have sA:Dn key p (m+1):=hd.step h1 (tK hc);split
   ·have fR:=m3 (key:=key) (p:=p) (i:=m-(q+1)) (j:=m) (by rw[a.size];lia) he;refine Ok.mono (λr hr=>⟨hr.1,by lia,by lia,hr.2.2.2⟩) (o4 hn f (kas_rev p (m-(q+1)) m) (m+1) 0 (tm a _ _) (by lia) (by lia) (by lia) (λi j jC hj=>?_) λk h1 h2=>?_)
    ·rw[fR,fR];exact sA i j jC hj
    ·have:k=m+1-1:=by lia
     rw[this]
   ·refine Ok.mono (λr hr=>⟨hr.1,by lia,by lia,hr.2.2.2⟩) (o4 hn f p (m+1) 0 a (by lia) (by lia) (by lia) sA λk h1 h2=>?_);have:k=m+1-1:=by lia
    rw[this]
  |false =>
   (try dsimp only);rw[yY zK]
   refine⟨a.lt hn _,a.lt hn _,?_⟩;cases kD:O.blt (key (p.getD (m-1) 0)) (key (p.getD m 0))with
   |true =>
    (try dsimp only);rw[yS rfl]
    exact⟨a,zS _,(by show m<=m+(f+1);lia),hq,hd,he⟩
   |false =>
    (try dsimp only);rw[yY zK]
    have Bk:K key p m=K key p (m-1):=O.total _ _ hc kD;refine Ok.mono (λr hr=>⟨hr.1,by lia,by lia,hr.2.2.2⟩) (o4 hn f p (m+1) (q+1) a (by lia) (by lia) (by lia) (hd.step h1 (by rw[Bk];exact wS _)) λk h1 h2=>?_);rw[show m+1-1=m by lia]
    by_cases e:k=m
    ·rw[e]
    ·rw[he k (by lia) (by lia),Bk]
def Run(key:Nat->O.α)(n:Nat)(r:Nat×Array Nat):Prop:=All n r.2/\1<=r.1/\r.1<=n/\Up key r.2 r.1
theorem fg(hn:0<n){p:Array Nat}{m:Nat}(a:All n p)(h1:1<=m)(hm:m<=n)(hd:Dn key p m):Ok key n (kas_tail3 m n p) (Run key n):=by
 unfold kas_tail3;refine Ok.bind (Ok.mono (λr hr=>?_) (bd (tm a 0 m) hn (n-m) m h1 λi j jC hj=>?_))
 ·exact⟨tm a 0 m,by lia,by lia,hr.2.2.1⟩
 ·have hs:m<=p.size:=by rw[a.size];exact hm
  rw[Ud hs,Ud hs,yS ⟨by lia,by lia⟩,yS ⟨by lia,by lia⟩];exact hd _ _ (by lia) (by lia)
theorem qe(hn:0<n){p:Array Nat}{m:Nat}(a:All n p)(h1:1<=m)(hm:m<n)(hd:Dn key p (m+1)):Ok key n (kas_descPart m n p) (Run key n):=by
 unfold kas_descPart;refine Ok.bind (Ok.mono (λr hr=>?_) (o4 hn (n-(m+1)) p (m+1) 0 a (by lia) (by lia) (by lia) hd λk h1 h2=>by rw[show k=m+1-1 by lia]));obtain⟨r1,r2,r3⟩:=r;obtain⟨a',b1,b2,b3,b4,b5⟩:=hr;dsimp only at a' b1 b2 b3 b4 b5 ⊢;split
 ·have fR:=m3 (key:=key) (p:=r1) (i:=r2-(r3+1)) (j:=r2) (by rw[a'.size];lia) b5;exact fg hn (tm a' _ _) (by lia) (by lia) λi j jC hj=>by rw[fR,fR];exact b4 i j jC hj
 ·exact fg hn a' (by lia) (by lia) b4
theorem Vt{p:Array Nat}(a:All n p)(hn:0<n):Ok key n (kas_count n p) (Run key n):=by
 unfold kas_count;refine Ok.bind (Ok.mono (λr hr=>?_) (bd a hn (n-1) 1 (zS _) λi j jC hj=>by
  have:i=j:=by lia
  subst this;exact wS _))
 obtain⟨h1,h2,h3,h4⟩:=hr
 by_cases e:r=n
 ·subst e;simp only[uN,if_true];exact⟨a,h1,zS _,h3⟩
 ·have e':(r==n)=false:=by simpa using e
  simp only[e',Bool.false_eq_true,if_false];have aS:r<n:=by lia
  have C2:O.klt (K key p r) (K key p (r-1)):=by
   rcases h4 with h4|h4
   ·lia
   ·exact h4
  split
  ·refine⟨a.lt hn _,a.lt hn _,?_⟩;cases hc:O.blt (key (p.getD 0 0)) (key (p.getD (r-1) 0))with
   |true =>
    (try dsimp only);rw[yS rfl]
    exact⟨a,h1,by lia,h3⟩
   |false =>
    (try dsimp only);rw[yY zK]
    have Bk:∀k,0<=k->k<r->K key p k=K key p (r-1):=λk _ hk=>by
     refine KeyOrd.kle_antisymm (h3 k (r-1) (by lia) (by lia)) ?_;exact uO (show O.kle (K key p (r-1)) (K key p 0)from hc) (h3 0 k (by lia) hk)
    have fR:=m3 (key:=key) (p:=p) (i:=0) (j:=r) (by rw[a.size];lia) Bk;refine qe hn (tm a 0 r) h1 aS λi j jC hj=>?_;rw[fR,fR]
    by_cases ej:j=r
    ·subst ej
     by_cases ei:i=j
     ·subst ei;exact wS _
     ·rw[Bk i (by lia) (by lia)];exact tK C2
    ·rw[Bk i (by lia) (by lia),Bk j (by lia) (by lia)];exact wS _
  ·have iB:r=1:=by lia
   subst iB;refine qe hn a (zS _) aS λi j jC hj=>?_
   by_cases ei:i=j
   ·subst ei;exact wS _
   ·have hi:i=0:=by lia
    have hj:j=1:=by lia
    subst hi hj;exact tK C2
theorem ms{p:Array Nat}(a:All n p)(hn:0<n)(k:Nat)(hk:k<n)(hu:Up key p k):∀(f l r:Nat),l<=r->r<=k->r-l<=f->(∀i,i<l->O.kle (K key p i) (K key p k))->(∀i,r<=i->i<k->O.klt (K key p k) (K key p i)) ->
  Ok key n (kas_place p k f l r) λl'=>l'<=k/\(∀i,i<l'->O.kle (K key p i) (K key p k))/\(∀i,l'<=i->i<k->O.klt (K key p k) (K key p i))
 |0,l,r,h1,h2,h3,h4,h5=>⟨by lia,h4,λi hi=>h5 i (by lia)⟩
 |f+1,l,r,h1,h2,h3,h4,h5=>by
  unfold kas_place;split
  ·exact⟨by lia,h4,λi hi=>h5 i (by lia)⟩
  ·refine⟨a.lt hn _,a.lt hn _,?_⟩;cases hc:O.blt (key (p.getD k 0)) (key (p.getD ((l+r) / 2) 0))with
   |true =>
    (try dsimp only);rw[yS rfl]
    exact ms a hn k hk hu f l ((l+r) / 2) (by lia) (by lia) (by lia) h4 λi hi hik=>KeyOrd.klt_of_klt_of_kle hc (hu _ _ hi hik)
   |false =>
    (try dsimp only);rw[yY zK]
    exact ms a hn k hk hu f ((l+r) / 2+1) r (by lia) h2 (by lia) (λi hi=>uO (hu i ((l+r) / 2) (by lia) (by lia)) (show O.kle (K key p ((l+r) / 2)) (K key p k)from hc)) h5
theorem Vs(hn:0<n):∀(f:Nat)(p:Array Nat)(k:Nat),All n p->k+f=n->Up key p k->Ok key n (kas_bin f p k) λr=>All n r/\Up key r n
 |0,p,k,a,hk,hu=>⟨a,by rw[<-hk];exact hu⟩
 |f+1,p,k,a,hk,hu=>by
  have hkn:k<n:=by lia
  refine Ok.bind (Ok.mono (λl hl=>?_) (ms a hn k hkn hu k 0 k (yO _) (zS _) (by lia) (λi hi=>by lia) (λi h1 h2=>by lia)));obtain⟨hlk,hlo,hhi⟩:=hl;have hs:k<p.size:=by rw[a.size];exact hkn
  refine Vs hn f (bubble p k (k-l)) (k+1) (a.of (bubble_perm _ _ _)) (by lia) λi j jC hj=>?_;rw[Rn hs (by lia),Rn hs (by lia),show k-(k-l)=l by lia]
  by_cases ei:i=l
  ·rw[yS ei]
   by_cases ej:j=l
   ·rw[yS ej];exact wS _
   ·rw[yY ej,yS ⟨by lia,by lia⟩];exact tK (hhi _ (by lia) (by lia))
  ·rw[yY ei]
   by_cases ei2:l<i/\i<=k
   ·rw[yS ei2,yY (by lia),yS ⟨by lia,by lia⟩];exact hu _ _ (by lia) (by lia)
   ·rw[yY ei2];have hil:i<l:=by lia
    by_cases ej:j=l
    ·rw[yS ej];exact hlo i hil
    ·rw[yY ej]
     by_cases ej2:l<j/\j<=k
     ·rw[yS ej2];exact hu _ _ (by lia) (by lia)
     ·rw[yY ej2];exact hu _ _ jC (by lia)
theorem ok_sort(hn:0<n):Ok key n (kas_sort n) λr=>All n r/\Up key r n:=by
 unfold kas_sort;have a0:All n (List.toArray (List.range n)):=⟨.rfl⟩
 refine Ok.bind (Ok.mono (λr hr=>?_) (Vt a0 hn));obtain⟨m,p⟩:=r;obtain⟨a,h1,h2,h3⟩:=hr;dsimp only at a h1 h2 h3 ⊢;split
 ·rw[show max m 1=m by lia];exact Vs hn (n-m) p m a (by lia) h3
 ·have:m=n:=by lia
  subst this;exact⟨a,h3⟩
end Srt
end My
namespace My
open PySem PySem.Spec PySem.W PySem.Calls
open PyProof.Rows hiding St
section
variable {prog:Program}{w:World}{A:Around}{E:Value->Shared->Prop}{s:Shared}
theorem ij{D:Addr}{vs:List Value}{n0:Nat}{P:PySem.Fin->Shared->Prop}(ho:s.heap.get? D=some (seqObj "list" vs.toArray n0))(sQ:vs.length<64){O:KeyOrd}(key:Nat->O.α)(κ:SortKind)
  (hk:2<=vs.length->∀(s1:Shared)(Q':SortKind->Shared->Prop)(E':Value->Shared->Prop),(∀b o,b≠D->s.heap.get? b=some o->s1.heap.get? b=some o)->Q' κ s1->wpAny (model prog w) A (keyKind' vs.toArray) Q' E' s1)
  (hc:∀(s1:Shared)(i j:Nat)(C:Bool->Shared->Prop)(E':Value->Shared->Prop),(∀b o,b≠D->s.heap.get? b=some o->s1.heap.get? b=some o)->i<vs.length->j<vs.length->C (O.blt (key i) (key j)) s1->wpAny (model prog w) A (keyLt' κ (vs.getD i Value.none) (vs.getD j Value.none)) C E' s1)
  (h:∀(p:Array Nat)(h':Heap)(e:Nat),Srt.All vs.length p->Srt.Up key p vs.length->(∀b o,b≠D->s.heap.get? b=some o->h'.get? b=some o)->h'.get? D=some (seqObj "list" (p.toList.map λi=>vs.getD i Value.none).toArray e)->P (.done (.ret .none)) { s with heap:=h' }) :
  wpAny (model prog w) A (Builtin.«list.sort» ⟨[.ref D],[]⟩) P E s:=by
 have hD:D<s.heap.objs.size:=zT ho;obtain⟨e1,ho1⟩:∃e1,(s.heap.update D (Obj.mapSeq λ_=>(#[]:Array Value))).get? D=some (seqObj "list" #[] e1):=⟨_,get?_update_seq ho λ_=>#[]⟩
 rw[list_sort_plain];refine zZ (listItems_at ho rfl (zZ (listUpdate_at ho rfl (zZ (seqEpoch_at ho1 rfl (zZ (wpAny_newTuple (zZ (wpAny_newList (xU ?_) (yO _))) (by show vs.length<=_;rw[zD];lia))))) (by rw[zQ,zD];lia) (yO _))));generalize hH:((s.heap.update D (Obj.mapSeq λ_=>(#[]:Array Value))).push (seqObj "tuple" vs.toArray 0)).push (seqObj "list" #[] 0)=H3;have keep:∀b o,b≠D->s.heap.get? b=some o->H3.get? b=some o:=λb o hb e=>by
  rw[<-hH];exact zY _ (zY _ ((zA _ _ (wY hb)).trans e))
 have Hz:H3.get? D=some (seqObj "list" #[] e1):=by
  rw[<-hH];exact zY _ (zY _ ho1)
 have cB:∀(p:Array Nat),Srt.All vs.length p->Srt.Up key p vs.length->P (.done (.ret .none)) { s with heap:=H3.update D (Obj.mapSeq λ_=>List.toArray (p.toList.map λi=>vs.getD i Value.none)) }:=λp hp hu =>
  h p _ _ hp hu (λb o hb e=>(zA _ _ (wY hb)).trans (keep b o hb e)) (get?_update_seq Hz λ_=>List.toArray (p.toList.map λi=>vs.getD i Value.none))
 refine(show wpAny (model prog w) A _ P E { s with heap:=H3 }from ?_);dsimp only;have hsz:vs.toArray.size=vs.length:=zQ
 by_cases h2:vs.toArray.size<2
 ·rw[yS h2,yS h2];refine zZ (zV ?_);rw[StateT.run_pure];refine zZ (zV ?_);dsimp only;have hid:(arrOf (SortSt.mk' general' (vs.toArray.zip vs.toArray) #[] 7 none)).map (·.2)=List.toArray ((List.range vs.length).map λi=>vs.getD i Value.none):=by
   show(vs.toArray.zip vs.toArray).map (·.2)=_;apply uQ.mp;apply vL
   ·simp
   ·intro i a1 a2;have hi:i<vs.length:=by simpa using a2
    simp[hi]
  refine zZ (seqEpoch_at Hz rfl ?_);rw[hid];refine zZ (listUpdate_at Hz rfl ?_ (yO _) (by rw[zQ,zX,uU,zD];lia));simp only[bne_self_eq_false,Bool.false_eq_true,if_false];refine zV ?_;have:=cB (List.toArray (List.range vs.length)) ⟨.rfl⟩ λi j jC hj=>by
   have:i=j:=by lia
   subst this;exact wS _
  exact this
 ·rw[yY h2,yY h2];have kX:2<=vs.length:=by lia
  refine zZ (hk kX { s with heap:=H3 } _ _ keep ?_);have ask:(kas_sort vs.length).kasWp (kas_ask prog w A κ vs) (λp s'=>s'={ s with heap:=H3 }/\Srt.All vs.length p/\Srt.Up key p vs.length) { s with heap:=H3 } :=
   Srt.Ok.wp (λi j C hi hj q=>hc { s with heap:=H3 } i j C _ keep hi hj q) (λp hp=>⟨rfl,hp.1,hp.2⟩) (Srt.ok_sort (by lia))
  refine zZ (yT (kat_run (Q:=λfM s'=>∃p:Array Nat,arrOf fM=p.map (kas_item (vs.toArray.zip vs.toArray))/\failedOf fM=none/\s'={ s with heap:=H3 }/\Srt.All vs.length p/\Srt.Up key p vs.length) rfl kX sQ (λp fM s' _ a2 a3 a4=>⟨p,a2,a3,a4⟩) ask) ?_ λ_ _ e=>e);rintro⟨⟨⟩,fM⟩ s' ⟨p,har,hf,rfl,hp,hu⟩;dsimp only;rw[kat_snds rfl har];refine zZ (seqEpoch_at Hz rfl (zZ (listUpdate_at Hz rfl ?_ (yO _) ?_)))
  ·rw[hf];simp only[bne_self_eq_false,Bool.false_eq_true,if_false];exact zV (cB p hp hu)
  ·have:=hp.size;rw[zQ,zX,xQ,this,zD];lia
end
end My
namespace My
open PySem PySem.Spec PySem.W PySem.Calls
open PyProof.Rows hiding St
def ya:List Bool->List Bool->Bool
 |[],[]=>false
 |[],_::_=>true
 |_::_,[]=>false
 |a::x,b::y=>if a=b then ya x y else !a&&b
theorem qd:∀a,ya a a=false
 |[]=>rfl
 |a::x=>by rw[ya,yS rfl];exact qd x
theorem ma:∀a b c,ya a b=true->ya b c=true->ya a c=true
 |[],[],_,h,_=>by simp[ya]at h
 |[],_::_,[],_,h=>by simp[ya]at h
 |[],_::_,_::_,_,_=>rfl
 |_::_,[],_,h,_=>by simp[ya]at h
 |_::_,_::_,[],_,h=>by simp[ya]at h
 |a::x,b::y,c::z,h1,h2=>by
  have ih:=ma x y z;cases a<;>cases b<;>cases c<;>simp[ya]at h1 h2 ⊢<;>exact ih h1 h2
theorem d5:∀a b c,ya a c=true->ya a b=true\/ya b c=true
 |[],[],[],h=>by simp[ya]at h
 |[],[],_::_,_=>.inr rfl
 |[],_::_,_,_=>.inl rfl
 |_::_,_,[],h=>by simp[ya]at h
 |_::_,[],_::_,_=>.inr rfl
 |a::x,b::y,c::z,h=>by
  have ih:=d5 x y z;cases a<;>cases b<;>cases c<;>simp[ya]at h ⊢<;>exact ih h
theorem ud:∀a b,ya a b=false->ya b a=false->a=b
 |[],[],_,_=>rfl
 |[],_::_,h,_=>by simp[ya]at h
 |_::_,[],_,h=>by simp[ya]at h
 |a::x,b::y,h1,h2=>by
  have ih:=ud x y;cases a<;>cases b<;>simp[ya]at h1 h2 ⊢<;>exact ih h1 h2
def Lc:KeyOrd where
 α:=List Bool
 blt:=ya
 irrefl:=qd
 trans:=ma
 negTrans:=d5
 total:=ud
section
variable {prog:Program}{w:World}{A:Around}{E:Value->Shared->Prop}{s:Shared}
theorem Qc{a b:Bool}{Q:Bool->Shared->Prop}(h:Q (decide (b2i a<b2i b)) s):wpAny (model prog w) A (oneLt' true (.bool a) (.bool b)) Q E s:=by
 rw[oneLt'_eq];simp only[if_true];refine zZ (wpAny_cRoomFor_byValue rfl (zZ (wpAny_callSpecialIfBound?_slot (T:="bool") rfl F.slot_bool_lt (call_gives F.slot_bool_lt rfl F.entry_int_lt (F.args_int_lt_2 _ _) (gives_int_lt_bools a b) ?_))));exact wL h
theorem Uj{a b:Bool}(h:a≠b):decide (b2i a<b2i b)=(!a&&b):=by cases a<;>cases b<;>first|rfl|exact absurd rfl h
theorem r9:∀{k:List Bool}{vs:List Value},ItemsAre (ls prog w) k vs->vs=k.map Value.bool
 |_,_,.nil=>rfl
 |_,_,.cons h r=>by rw[xy h,r9 r];rfl
theorem Vb(b cB:Bool){Q:Bool->Shared->Prop}:∀(x y:List Bool)(i:Nat),cB=decide (x.length<y.length)->Q (ya x y) s->KatLex prog w A b cB Q ((x.map Value.bool).zip (y.map Value.bool)) i s
 |[],[],i,hf,h=>kat_nil (by rw[hf];exact h)
 |[],_::_,i,hf,h=>kat_nil (by rw[hf];simpa[ya]using h)
 |_::_,[],i,hf,h=>kat_nil (by rw[hf];simpa[ya]using h)
 |a::x,c::y,i,hf,h=>by
  refine kat_cons (vV a c _ _ _ _ ?_)
  by_cases e:a=c
  ·subst e;have e2:(a==a)=true:=by simp
   rw[e2];refine kat_yes (Vb b cB x y (i+1) (by rw[hf];simp) ?_);rw[ya,yS rfl]at h;exact h
  ·have e2:(a==c)=false:=by simpa using e
   rw[e2];refine kat_no ?_;rw[ya,yY e]at h;cases hb:(b&&i==0)with
   |true=>exact Qc (by rw[Uj e];exact h)
   |false=>exact kat_one _ _ (lt_bool (by rw[Uj e];exact h))
theorem Su{x y:Addr}{kx ky:List Bool}(b:Bool){C:Bool->Shared->Prop}(hx:Bt prog w s.heap kx x)(hy:Bt prog w s.heap ky y)(h:C (ya kx ky) s):wpAny (model prog w) A (keyLt' (tuples' b) (.ref x) (.ref y)) C E s:=by
 obtain⟨ox,ix,nx,e1,_,d1,i1⟩:=hx;obtain⟨oy,iy,ny,e2,_,d2,i2⟩:=hy;refine kat_lt e1 d1 e2 d2 ?_;have h1:=r9 i1;have h2:=r9 i2;have l1:ix.size=kx.length:=by rw[<-xQ,h1,zX]
 have l2:iy.size=ky.length:=by rw[<-xQ,h2,zX]
 rw[h1,h2,l1,l2];exact Vb b _ kx ky 0 rfl h
theorem pz:∀(R:List (Addr×List Bool)),(∀r∈R,Bt prog w s.heap r.2 r.1/\r.2≠[])->∃fs:List Value,KatTups s.heap (R.map λr=>Value.ref r.1) fs/\fs.length=R.length/\∀v∈fs,∃b,v = .bool b
 |[],_=>⟨[],.nil,rfl,λv hv=>by simp at hv⟩
 |r::R,h=>by
  obtain⟨fs,h1,h2,h3⟩:=pz R λq hq=>h q (zC _ hq);obtain⟨⟨o,aF,n,ho,hc,hd,hi⟩,fH⟩:=h r yZ;have e:=r9 hi;cases hk:r.2 with
  |nil=>exact absurd hk fH
  |cons b k =>
   rw[hk,List.map_cons]at e;refine⟨.bool b::fs,KatTups.cons ho hc hd (by rw[<-Array.getElem?_toList,e];rfl) h1,by simp[h2],λv hv=>?_⟩;rcases zG.mp hv with rfl|hv
   ·exact⟨b,rfl⟩
   ·exact h3 v hv
theorem Yk{D:Addr}{R:List (Addr×List Bool)}{n0:Nat}{P:PySem.Fin->Shared->Prop}(ho:s.heap.get? D=some (seqObj "list" (R.map λr=>Value.ref r.1).toArray n0))(hR:∀r∈R,Bt prog w s.heap r.2 r.1/\r.2≠[])(sQ:R.length<64)
  (h:∀(R':List (Addr×List Bool))(h':Heap)(e:Nat),R'.Perm R->(R'.map (·.2)).Pairwise (λa b=>ya b a=false)->(∀b o,b≠D->s.heap.get? b=some o->h'.get? b=some o)->h'.get? D=some (seqObj "list" (R'.map λr=>Value.ref r.1).toArray e)->P (.done (.ret .none)) { s with heap:=h' }) :
  wpAny (model prog w) A (Builtin.«list.sort» ⟨[.ref D],[]⟩) P E s:=by
 have hl:(R.map λr=>Value.ref r.1).length=R.length:=zX _;have tup:∀{h':Heap},(∀b o,b≠D->s.heap.get? b=some o->h'.get? b=some o)->∀r∈R,Bt prog w h' r.2 r.1/\r.2≠[]:=λ{h'} k r hr=>by
  obtain⟨⟨o,aF,n,e,hc,hd,hi⟩,fH⟩:=hR r hr;refine⟨⟨o,aF,n,k _ _ (λz=>?_) e,hc,hd,hi⟩,fH⟩;rw[z]at e;have:=xF Obj.cls (zB (e.symm.trans ho));rw[hc]at this;simp at this
 refine ij (O:=Lc) ho (by rw[hl];exact sQ) (λi=>(R.getD i (0,[])).2) (tuples' true) (λh2 s1 Q' E' k q=>?_) (λs1 i j C E' k hi hj q=>?_) λp h' e ha hu k eD=>?_
 ·obtain⟨fs,h1,kX,h3⟩:=pz (s:=s1) R (tup k);refine kat_kind (T:=.type "bool") h1 (by rw[kX];rw[hl]at h2;lia) (λv hv=>?_) rfl q;obtain⟨b,rfl⟩:=h3 v hv;exact Looks.of_pure rfl
 ·rw[hl]at hi hj;have e1:(R.map λr=>Value.ref r.1).getD i Value.none = .ref (R.getD i (0,[])).1:=by simp[hi]
  have e2:(R.map λr=>Value.ref r.1).getD j Value.none = .ref (R.getD j (0,[])).1:=by simp[hj]
  have m1:R.getD i (0,[])∈R:=by simp[hi]
  have m2:R.getD j (0,[])∈R:=by simp[hj]
  rw[e1,e2];exact Su true (tup k _ m1).1 (tup k _ m2).1 q
 ·rw[hl]at ha hu;have hp:(p.toList.map λi=>R.getD i (0,[])).Perm R:=by
   have h1:=ha.pm.map λi=>R.getD i (0,[]);have h2:(List.range R.length).map (λi=>R.getD i (0,[]))=R:=by
    apply vL
    ·simp
    ·intro i a1 a2;simp[a2]
   rw[h2]at h1;exact h1
  refine h (p.toList.map λi=>R.getD i (0,[])) h' e hp ?_ k ?_
  ·rw[xX,yC];intro i j hi hj jC;have nS:i<p.size:=by simpa using hi
   have HK:j<p.size:=by simpa using hj
   have:=hu i j (xT jC) (by rw[<-ha.size];exact HK);have g1:p.getD i 0=p[i]:=by simp[Array.getD,nS]
   have g2:p.getD j 0=p[j]:=by simp[Array.getD,HK]
   unfold Srt.K at this;rw[g1,g2]at this;have h9:ya (R.getD p[j] (0,[])).2 (R.getD p[i] (0,[])).2=false:=this;simpa using h9
  ·rw[eD,xX]
   congr 3
   apply List.map_congr_left;intro i hi;have nS:i<R.length:=yB.mp (ha.pm.mem_iff.mp hi);simp[nS]
end
end My
namespace My
open PySem PySem.Spec PySem.W PySem.Calls L2
open PyProof.Rows hiding St
section
open Tb
theorem Zw:∀{vs:List Value}{ss:List Str},StrsAre vs ss->∀(i:Nat)(v:Value),vs[i]?=some v->∃x t,ss[i]?=some x/\v = .str x t
 |_,_,.nil,i,v,h=>by simp at h
 |_,_,.cons x t r,0,v,h=>⟨x,t,rfl,by simpa using h.symm⟩
 |_,_,.cons x t r,i+1,v,h=>by
  obtain⟨y,u,h1,h2⟩:=Zw r i v (by simpa using h);exact⟨y,u,by simpa using h1,h2⟩
section
variable {X:Cx}
theorem dy{pins:List (Addr×Obj)}{σ:St}{H:Hp}{s:Shared}(I:Inv X pins σ H s)(d:Drawn):Inv X pins σ H { s with drawn:=d }:=⟨I.ok,I.os,I.bare,I.base,I.loc,I.cell,I.free,I.freeC,I.pin,I.hok,I.len⟩
theorem T8(hc:X.calm=true){pins:List (Addr×Obj)}{σ:St}{H:Hp}{s:Shared}(I:Inv X pins σ H s){p:Addr}{ss:List Str}{Q:VK}(hq:SqL X.K H p (ss.map V.str)\/SqT X.K H p (ss.map V.str))(aN:ss.length+1<scanBound)(sQ:∀bW:List Str,bW.Nodup->(∀x∈bW,x∈ss)->bW.length<64)
  (q:∀bW:List Str,bW.Nodup->(∀x,x∈bW↔x∈ss)->sortedS bW=true->New H (.lst (bW.map V.str)) Q) :
  wpAny (model X.prog X.w) X.A (call (.type "set") [.ref p]) (λu s'=>wpAny (model X.prog X.w) X.A (call (.builtin "sorted") [u]) (EP X pins σ Q) X.xe s') X.xe s:=by
 obtain⟨aF,rv,pl⟩:∃aF:List Value,Vals (ss.map V.str) aF/\(s.heap.IsList p aF.toArray\/s.heap.IsTuple p aF.toArray):=by
  rcases hq with hq|hq
  ·obtain⟨aF,rv,pl,_⟩:=I.list hq;exact⟨aF,rv,.inl pl.isList⟩
  ·obtain⟨aF,rv,pl,_⟩:=I.tuple hq;exact⟨aF,rv,.inr pl⟩
 have gO:=ku rv;have hil:aF.length=ss.length:=by rw[<-rv.length,zX]
 have hh:X.A.handled=none:=I.ok.hd hc;refine Rc hh pl (λi h=>∃es ep t,h.get? s.heap.objs.size=some (yu es ep t)/\t.fits es.size=true/\t.led=!byT X.w/\(es.size≠0->t.plain=false)/\GoodS X.w es.toList (ss.take i)/\es.size<=i) ?_ ?_ ?_ ?_
 ·rintro i h h' ⟨es,ep,t,e,r⟩ k;exact⟨es,ep,t,k _ _ (zI (wU _)) e,r⟩
 ·refine⟨#[],0,_,zR _ rfl,rfl,rfl,λz=>absurd rfl z,⟨λe he=>by simp at he,λx hx=>by simp at hx,.nil⟩,zS _⟩
 ·rintro i v A' s' Q' E' hu hv ⟨es,ep,t,e,f,l,pn,g,le⟩ qq;have AR:aF[i]?=some v:=by simpa using hv
  obtain⟨x,tok,hx,rfl⟩:=Zw gO i v AR;have hi:i<ss.length:=(zU.mp hx).1;refine add_str e f g (by lia) pn λb h' tk cV iJ t' e' sb f' l' pn' g' le'=>qq b h' tk sb ⟨cV,iJ,t',e',f',l'.trans l,pn',?_,by lia⟩;rw[yX,hx];exact g'
 ·rintro h' tk ⟨es,ep,t,e,f,l,pn,g,le⟩ keep;have qP:aF.toArray.size=ss.length:=by rw[zQ,hil]
  rw[qP,yV]at g;rw[qP]at le;have oP:t.plain=true->t.place.toList.Pairwise (·<·):=λhp=>by
   have h0:es.size=0:=xK λz=>by rw[pn z]at hp;cases hp
   have:=dj f;have h1:t.place.toList=[]:=wN.mp (by rw[xQ,this,h0]);rw[h1];exact .nil
  have hzl:es.size<=sizeLine:=fits_of_scanBound (by lia);refine m9 (s:={ s with heap:=h',toks:=tk }) hh e f l oP hzl λD h2 d tk2 ws hp mE hD eD=>?_;have pV:∀v,v∈ws->∃x t,v = .str x t:=λv hv=>by
   obtain⟨e1,iC,rfl⟩:=zF.mp (hp.mem_iff.mp hv);obtain⟨x,t,_,rfl⟩:=g.in1 e1 iC;exact⟨x,t,rfl⟩
  have hS:=strsAre_map ws pV;have fJ:∀x,x∈ws.map strOf↔x∈ss:=λx=>by
   constructor
   ·intro hx;obtain⟨v,hv,rfl⟩:=zF.mp hx;obtain⟨e1,iC,rfl⟩:=zF.mp (hp.mem_iff.mp hv);obtain⟨y,t,hy,rfl⟩:=g.in1 e1 iC;exact hy
   ·intro hx;obtain⟨t,ht⟩:=g.in2 x hx;exact zF.mpr ⟨.str x t,hp.mem_iff.mpr (zF.mpr ⟨_,ht,rfl⟩),rfl⟩
  have mJ:(ws.map strOf).Nodup:=by
   have h1:(es.toList.map (·.2)).Pairwise λv v'=>∀x t t',v = .str x t->v'≠.str x t':=wI.mpr g.one;have h2:=(hp.pairwise_iff (λ{a b} mL x t t' z1 z2=>mL x t' t z2 z1)).mpr h1;refine wI.mpr (vR (λ{a b} ha hb mL=>?_) h2);obtain⟨x,t,rfl⟩:=pV a ha;obtain⟨y,t',rfl⟩:=pV b hb;intro z;have z':x=y:=z;subst z';exact mL x t t' rfl rfl
  have HG:ws.length<64:=by
   have:=sQ _ mJ λx hx=>(fJ x).mp hx
   rwa [zX]at this
  refine yA slot_list_sort ⟨_,eD,rfl⟩ entry_list_sort (list_sort_treeK strKind_oneLt eD hS.keysOf (λv₁ v₂ rest e=>keyKind_strs (by rw[<-e];exact hS)) HG λfM a1 a2=>⟨_,rfl,?_⟩) (args_list_sort _);obtain⟨bW,b1,b2,b3⟩:=sorted_out_str hS a1 a2;have Br:s.heap.objs.size<=D:=yW (xT (zT e)) hD;obtain⟨e2,oX⟩:=sortedHeap_at (out:=(arrOf fM).map (·.2)) eD;have hn:H D=none:=I.hok.fresh Br;refine⟨.ref D,upd H D (.lst (bW.map V.str)),?_,rfl,(q bW (b2.nodup_iff.mpr mJ) (λx=>(b2.mem_iff).trans (fJ x)) b3).at D hn⟩;refine(dy I d).laid (t':=tk2) (λb o eb=>?_) Br ⟨?_,((arrOf fM).map (·.2)).toList,e2,kj b1,by rw[Array.toArray_toList];exact oX⟩
  ·have HY:b<s.heap.objs.size:=zT eb;have eb2:=mE b o (keep b o eb);rw[sortedHeap_old (zI (zH HY Br)) (zT eb2)];exact eb2
  ·rw[zX,b2.length_eq,zX];exact xT (zH HG (by decide))
end
end
section
open Tb
theorem dz{prog:Program}{w:World}:∀k:List Bool,ItemsAre (ls prog w) k (k.map Value.bool)
 |[]=>.nil
 |b::k=>.cons (by show Xn b (.bool b)=true;simp[Xn]) (dz k)
section
variable {X:Cx}
theorem L4{pins:List (Addr×Obj)}{σ:St}{H:Hp}{s:Shared}(I:Inv X pins σ H s){a:Addr}{k:List Bool}(h:SqT X.K H a (k.map V.bl)):Bt X.prog X.w s.heap k a:=by
 obtain⟨aF,rv,⟨o,e,hc,n,d⟩,_⟩:=I.tuple h;have:=yd rv;subst this;exact⟨o,_,n,e,hc,d,dz k⟩
theorem rg:∀{as:List Addr}{us:List Value},Vals (as.map V.ref) us->us=as.map Value.ref
 |[],us,r=>by cases r;rfl
 |a::as,us,r=>by
  rw[List.map_cons]at r;cases r with
  |cons r1 r2 =>
   cases r1;rw[rg r2]
   rfl
theorem ka:∀(as:List Addr),Vals (as.map V.ref) (as.map Value.ref)
 |[]=>.nil
 |a::as=>.cons rfl (ka as)
theorem T7(hc:X.calm=true)(hu:X.A.units+64<cLine){pins:List (Addr×Obj)}{σ:St}{H:Hp}{s:Shared}(I:Inv X pins σ H s){p:Addr}{R:List (Addr×List Bool)}{Q:VK}(hq:SqL X.K H p (R.map λr=>V.ref r.1))(hR:∀r∈R,SqT X.K H r.1 (r.2.map V.bl)/\r.2≠[])(sQ:R.length<64)
  (q:∀R':List (Addr×List Bool),(∀r∈R',r∈R)->(R'.map (·.2)).Nodup->(∀k,k∈R'.map (·.2)↔k∈R.map (·.2))->(R'.map (·.2)).Pairwise (λa b=>ya b a=false)->R'.length<=R.length->New H (.lst (R'.map λr=>V.ref r.1)) Q) :
  wpAny (model X.prog X.w) X.A (call (.type "set") [.ref p]) (λu s'=>wpAny (model X.prog X.w) X.A (call (.builtin "sorted") [u]) (EP X pins σ Q) X.xe s') X.xe s:=by
 obtain⟨aF,rv,pl,hz⟩:=I.list hq;have Is:aF=R.map λr=>Value.ref r.1:=by
  have h1:(R.map λr=>V.ref r.1)=(R.map (·.1)).map V.ref:=by rw[xX];rfl
  rw[h1]at rv;rw[rg rv,xX]
  rfl
 have hBt:∀r∈R,Bt X.prog X.w s.heap r.2 r.1:=λr hr=>L4 I (hR r hr).1;have hh:X.A.handled=none:=I.ok.hd hc;have old:∀{h:Heap},(∀b o,s.heap.get? b=some o->h.get? b=some o)->∀r∈R,Bt X.prog X.w h r.2 r.1:=λ{h} k r hr=>(hBt r hr).mono λo ho=>k _ o ho;refine qf hh pl.isList (λi h=>∃L es ep t,h.get? s.heap.objs.size=some (yu es ep t)/\Rep L es t/\rj L t/\t.led=!byT X.w/\Good X.prog X.w h (L.map (·.2)) ((R.take i).map (·.2))/\L.length<=i/\(∀e∈L.map (·.2),∃r∈R,e.2 = .ref r.1)/\∀r∈R,Bt X.prog X.w h r.2 r.1) ?_ ?_ ?_ ?_
 ·rintro i h h' ⟨L,es,ep,t,e,r,r5,l,g,le,me,ob⟩ k;have kt:∀r∈R,Bt X.prog X.w h' r.2 r.1:=λr hr=>(ob r hr).mono λo ho=>k _ o (λz=>by
   obtain⟨o2,_,_,e2,_⟩:=hBt r hr;have:=zT e2;rw[z]at this;exact absurd this (tU.mpr (wF _))) ho
  refine⟨L,es,ep,t,k _ _ (zI (wU _)) e,r,r5,l,?_,le,me,kt⟩;have upE:∀e1 k1,e1∈L.map (·.2)->Elem X.prog X.w h e1 k1->Elem X.prog X.w h' e1 k1:=λe1 k1 iC x=>by
   obtain⟨r1,iB,er1⟩:=me e1 iC;obtain⟨b,eb,hb,hh1⟩:=x;rw[er1]at eb;cases eb;exact⟨r1.1,er1,by
    have e3:=(ob r1 iB).inj hb;subst e3;exact kt r1 iB,hh1⟩
  have dnE:∀e1 k1,e1∈L.map (·.2)->Elem X.prog X.w h' e1 k1->Elem X.prog X.w h e1 k1:=λe1 k1 iC x=>by
   obtain⟨k2,_,x2⟩:=g.in1 e1 iC;have:=(upE e1 k2 iC x2).inj x;subst this;exact x2
  exact⟨λe1 h1=>let⟨k1,a1,a2⟩:=g.in1 e1 h1;⟨k1,a1,upE e1 k1 h1 a2⟩,λk1 h1=>let⟨e1,a1,a2⟩:=g.in2 k1 h1;⟨e1,a1,upE e1 k1 a1 a2⟩,
   vR (λ{a b} ha hb mL k1 x1 x2=>mL k1 (dnE a k1 ha x1) (dnE b k1 hb x2)) g.one⟩
 ·refine⟨[],#[],0,_,zR _ rfl,⟨rfl,rfl,rfl,.nil,λx hx=>by simp at hx,.inl rfl,by simp⟩,(show 0*5<7*3 by decide),rfl,⟨λe he=>by simp at he,λk hk=>by simp at hk,.nil⟩,zS _,λe he=>by simp at he,old λb o e=>zY _ e⟩
 ·rintro i v A' s' Q' E' Cu hv ⟨L,es,ep,t,e,r,r5,l,g,le,me,ob⟩ qq;rw[Is]at hv;have AR:(R.map λr=>Value.ref r.1)[i]?=some v:=by simpa using hv
  rw[zE]at AR;cases hri:R[i]? with
  |none=>rw[hri]at AR;cases AR
  |some r1 =>
   rw[hri]at AR;cases AR;have hm:=zM hri;have hi:i<R.length:=(zU.mp hri).1;refine Se (by lia) r r5 (by lia) e g (ob r1 hm) λb h' tk L' cV iJ t' e' sb r' r5' l' pl' g' le' me'=>qq b h' tk sb ⟨L',cV,iJ,t',e',r',r5',l'.trans l,?_,by lia,λe1 iC=>?_,λr2 Hu=>?_⟩
   ·rw[yX,hri,zP];exact g'
   ·rcases me' e1 iC with z|z
    ·exact me e1 z
    ·exact⟨r1,hm,z⟩
   ·obtain⟨o2,i2,n2,e2,c2,rest⟩:=ob r2 Hu;exact⟨o2,i2,n2,ft e sb _ _ c2 e2,c2,rest⟩
 ·rintro h' tk ⟨L,es,ep,t,e,r,r5,l,g,le,me,ob⟩ keep;have qP:aF.toArray.size=R.length:=by rw[Is,zQ,zX]
  rw[qP]at g le;rw[yV]at g;have C0:es.toList=L.map (·.2):=by rw[r.es]
  have Bj:es.size=L.length:=by rw[r.es];simp
  have oP:t.plain=true->t.place.toList.Pairwise (·<·):=λ_=>by rw[r.pl];exact r.up
  refine m9 (s:={ s with heap:=h',toks:=tk }) hh e r.fits l oP (by rw[Bj,zD];lia) λD h2 d tk2 ws hp mE hD eD=>?_;rw[C0]at hp;have hrow:∀v∈ws,∃r1∈R,v = .ref r1.1:=λv hv=>by
   obtain⟨e1,iC,rfl⟩:=zF.mp (hp.mem_iff.mp hv);exact me e1 iC
  have pick:∀ws:List Value,(∀v∈ws,∃r1∈R,v = .ref r1.1)->∃R1:List (Addr×List Bool),(∀r1∈R1,r1∈R)/\ws=R1.map λr1=>Value.ref r1.1:=by
   intro ws
   induction ws with
   |nil=>exact λ_=>⟨[],by simp,rfl⟩
   |cons v ws ih =>
    intro pV;obtain⟨R1,h1,h2⟩:=ih λv hv=>pV v (zC _ hv);obtain⟨r1,iB,e1⟩:=pV v yZ;refine⟨r1::R1,λy hy=>?_,by rw[e1,h2];rfl⟩;rcases zG.mp hy with rfl|hy
    ·exact iB
    ·exact h1 y hy
  obtain⟨R1,sP,ews⟩:=pick ws hrow;have jE:∀r1∈R,∀e1∈L.map (·.2),e1.2 = .ref r1.1->Elem X.prog X.w h' e1 r1.2:=λr1 iB e1 iC z=>by
   obtain⟨k1,_,b,eb,hb,hh1⟩:=g.in1 e1 iC;rw[z]at eb;cases eb;have:=(ob r1 iB).inj hb;subst this;exact⟨r1.1,z,hb,hh1⟩
  have fJ:∀k,k∈R1.map (·.2)↔k∈R.map (·.2):=λk=>by
   constructor
   ·intro hk;obtain⟨r1,iB,rfl⟩:=zF.mp hk;exact yK (sP r1 iB)
   ·intro hk;obtain⟨e1,iC,hE⟩:=g.in2 k hk;have hv:e1.2∈ws:=hp.mem_iff.mpr (yK iC);rw[ews]at hv;obtain⟨r1,iB,er1⟩:=zF.mp hv;have:=(jE r1 (sP r1 iB) e1 iC er1.symm).inj hE;exact zF.mpr ⟨r1,iB,this⟩
  have mJ:(R1.map (·.2)).Nodup:=by
   have h1:((L.map (·.2)).map (·.2)).Pairwise λv v'=>∀r1∈R,∀r2∈R,v = .ref r1.1->v' = .ref r2.1->r1.2≠r2.2 :=
    wI.mpr (vR (λ{a b} ha hb mL r1 iB r2 Hu z1 z2 z3=>mL r1.2 (jE r1 iB a ha z1) (z3▸jE r2 Hu b hb z2)) g.one)
   have h2:=(hp.pairwise_iff (λ{a b} mL r1 iB r2 Hu z1 z2 z3=>mL r2 Hu r1 iB z2 z1 z3.symm)).mpr h1;rw[ews]at h2;exact wI.mpr (vR (λ{a b} ha hb mL z=>mL a (sP a ha) b (sP b hb) rfl rfl z) (wI.mp h2))
  have hR1l:R1.length=L.length:=by
   have:=hp.length_eq;rw[ews]at this;simpa using this
  rw[ews]at eD;refine yA slot_list_sort ⟨_,eD,rfl⟩ entry_list_sort (Yk (prog:=X.prog) (w:=X.w) eD (λr1 iB=>⟨(ob r1 (sP r1 iB)).mono λo ho=>mE _ o ho,(hR r1 (sP r1 iB)).2⟩) (by lia) λR2 h3 e3 pm up k3 eD3=>⟨_,rfl,?_⟩) (args_list_sort _);have Br:s.heap.objs.size<=D:=yW (xT (zT e)) hD;have hn:H D=none:=I.hok.fresh Br;have q2:=q R2 (λr1 iB=>sP r1 (pm.mem_iff.mp iB)) ((pm.map (·.2)).nodup_iff.mpr mJ) (λk=>((pm.map (·.2)).mem_iff).trans (fJ k)) up (by rw[pm.length_eq];lia);refine⟨.ref D,upd H D (.lst (R2.map λr1=>V.ref r1.1)),?_,rfl,q2.at D hn⟩;refine(dy I d).laid (t':=tk2) (λb o eb=>?_) Br ⟨?_,R2.map (λr1=>Value.ref r1.1),e3,?_,eD3⟩
  ·have HY:b<s.heap.objs.size:=zT eb;exact k3 b o (zI (zH HY Br)) (mE b o (keep b o eb))
  ·rw[zX,pm.length_eq,zD];lia
  ·have h1:(R2.map λr=>V.ref r.1)=(R2.map (·.1)).map V.ref:=by rw[xX];rfl
   have h2:(R2.map λr=>Value.ref r.1)=(R2.map (·.1)).map Value.ref:=by rw[xX];rfl
   rw[h1,h2];exact ka _
def mSS(K:W.Frag):V->Hp->VK->Prop:=λv H Q=>match v with
 | .ref p=>(∃ss:List Str,(SqL K H p (ss.map V.str)\/SqT K H p (ss.map V.str))/\ss.length+1<scanBound/\(∀bW:List Str,bW.Nodup->(∀x∈bW,x∈ss)->bW.length<64)/\∀bW:List Str,bW.Nodup->(∀x,x∈bW↔x∈ss)->sortedS bW=true->New H (.lst (bW.map V.str)) Q) \/
  ∃R:List (Addr×List Bool),SqL K H p (R.map λr=>V.ref r.1)/\(∀r∈R,SqT K H r.1 (r.2.map V.bl)/\r.2≠[])/\R.length<64 /\
   ∀R':List (Addr×List Bool),(∀r∈R',r∈R)->(R'.map (·.2)).Nodup->(∀k,k∈R'.map (·.2)↔k∈R.map (·.2))->(R'.map (·.2)).Pairwise (λa b=>ya b a=false)->R'.length<=R.length->New H (.lst (R'.map λr=>V.ref r.1)) Q
 |_=>False
theorem Lg{K:W.Frag}{H:Hp}{Q:VK}{p:Addr}:mSS K (.ref p) H Q=((∃ss:List Str,(SqL K H p (ss.map V.str)\/SqT K H p (ss.map V.str))/\ss.length+1<scanBound/\(∀bW:List Str,bW.Nodup->(∀x∈bW,x∈ss)->bW.length<64)/\∀bW:List Str,bW.Nodup->(∀x,x∈bW↔x∈ss)->sortedS bW=true->New H (.lst (bW.map V.str)) Q) \/
  ∃R:List (Addr×List Bool),SqL K H p (R.map λr=>V.ref r.1)/\(∀r∈R,SqT K H r.1 (r.2.map V.bl)/\r.2≠[])/\R.length<64 /\
   ∀R':List (Addr×List Bool),(∀r∈R',r∈R)->(R'.map (·.2)).Nodup->(∀k,k∈R'.map (·.2)↔k∈R.map (·.2))->(R'.map (·.2)).Pairwise (λa b=>ya b a=false)->R'.length<=R.length->New H (.lst (R'.map λr=>V.ref r.1)) Q):=rfl
def tSS(K:W.Frag)(te:TE):TE:=fun σ H Q=>te σ H λv H1=>mSS K v H1 Q
theorem xj{e:Expr}{te:TE}{p1 p2 pos1 qG:Pos}(hc:X.calm=true)(hu:X.A.units+64<cLine)(g1:Gl X "sorted")(m1:X.mg "sorted"=none)(g2:Gl X "set")(m2:X.mg "set"=none)(ha:PE X e te)
  (iC:starEach [.Call (.Name "set" p2) [e] [] qG] X.env=[(false,eval (.Call (.Name "set" p2) [e] [] qG) X.env)]:=by rfl) (oX:starEach [e] X.env=[(false,eval e X.env)]:=by rfl) :
  PE X (.Call (.Name "sorted" p1) [.Call (.Name "set" p2) [e] [] qG] [] pos1) (tSS X.K te):=by
 intro pins s σ H Q I h;refine wX (u4 I g1 m1 W7 (PyProof.Rows.callWith_builtin1 ?_ iC rfl));rw[iC];refine(show wpAny _ _ (spliced ((false,eval (.Call (.Name "set" p2) [e] [] qG) X.env)::[])) _ _ s from Calls.spliced_cons ?_);refine wX (u4 I g2 m2 Pc (wT ?_ oX rfl));rw[oX];refine(show wpAny _ _ (spliced ((false,eval e X.env)::[])) _ _ s from Calls.spliced_cons (thn (ha pins s σ H _ I h) λu s1 ⟨x,H1,I1,r1,q1⟩=>tL ?_));cases x with
 |ref a =>
  cases r1;rcases(show _\/_ from q1)with⟨ss,b1,b2,b3,b4⟩|⟨R,b1,b2,b3,b4⟩
  ·exact thn (T8 hc I1 b1 b2 b3 b4) λu2 s2 h2=>tL h2
  ·exact thn (T7 hc hu I1 b1 b2 b3 b4) λu2 s2 h2=>tL h2
 |_=>exact(show False from q1).elim
end
end
section
section
variable {X:Cx}
def mDN:TE:=λ_ H Q=>New H (.dK []) Q
def Py:Sd:=λx y v H k=>match x with
 | .ref a=>(∃kvs ky,H a=some (.dK kvs)/\y=kV ky/\kvs.length<sizeLine/\k (upd H a (.dK (sy kvs ky v))))\/(∃xs i,∃j:Nat,H a=some (.lst xs)/\y = .int i/\i=(j:Int)/\j<xs.length/\k (upd H a (.lst (xs.set j v))))
 |_=>False
theorem N8{a:Addr}{y v:V}{H:Hp}{k:Hp->Prop}:Py (.ref a) y v H k=((∃kvs ky,H a=some (.dK kvs)/\y=kV ky/\kvs.length<sizeLine/\k (upd H a (.dK (sy kvs ky v))))\/(∃xs i,∃j:Nat,H a=some (.lst xs)/\y = .int i/\i=(j:Int)/\j<xs.length/\k (upd H a (.lst (xs.set j v))))):=rfl
theorem T2(hu:X.A.units+64<cLine):O2 X Py:=by
 intro pins s σ H o i v ov iv u Q I ro ri rv h;cases o with
 |ref a =>
  cases ro;rcases(show _\/_ from h)with⟨kvs,ky,e,rfl,hl,q⟩|⟨xs,i',j,e,rfl,rfl,hj,q⟩
  ·exact Xf (by lia) I (.inl ⟨kvs,ky,e,rfl,hl,rfl⟩) ri rv λs' I'=>⟨_,I',q⟩
  ·exact Wj pins s σ H (.ref a) _ v _ iv u Q I rfl ri rv ⟨a,xs,(j:Int),j,rfl,rfl,e,by unfold ixN;rw[yS (Int.natCast_nonneg j),yS (Int.ofNat_lt.mpr hj),yG],q⟩
 |_=>exact(show False from h).elim
theorem R0{o i e:Expr}{to ti te:TE}{p1 p2:Pos}(hu:X.A.units+64<cLine)(ho:PE X o to)(hi:PE X i ti)(he:PE X e te)
  (ha:∀v,assign (.Subscript o i p1) X.env v=(do
   let ov <-holding [v] (eval o X.env)
   let iv <-holding [v,ov] (eval i X.env)
   standAt p1
   holding [v,ov,iv] (setItem ov iv v)
   release [v,ov,iv] []):=by intro _;rfl)
  (hs:swapsWithSole [.Subscript o i p1] e p2.line X.env=pure false:=by rfl) (hw:swappedStores [.Subscript o i p1] e X.env=pure none:=by rfl)
  (h1:(assignEach [.Subscript o i p1] X.env).map (·.2)=[assign (.Subscript o i p1) X.env]:=by rfl):PS X (.Assign [.Subscript o i p1] e p2) (Wr te (Pi to ti Py)):=Qq he (Qn ho hi (T2 hu) ha) hs hw h1
end
end
section
theorem yj{α:Type}[DecidableEq α]:∀{l m:List α},l.Nodup->(∀x∈l,x∈m)->l.length<=m.length
 |[],_,_,_=>yO _
 |a::l,m,hn,hs=>by
  rw[vB]at hn;have ha:=hs a yZ;have ih:=yj (l:=l) (m:=m.erase a) hn.2 λx hx=>(List.mem_erase_of_ne (by intro z;subst z;exact hn.1 hx)).mpr (hs x (zC _ hx));rw[List.length_erase_of_mem ha]at ih;have:=tM ha;rw[yF];lia
def leS(a b:Str):Prop:=ltCps b.cps.toList a.cps.toList=false
theorem leS_iff{a b:Str}:leS a b↔strKind.kle a.cps.toList b.cps.toList:=by
 unfold leS;rw[ltCps_eq];exact Iff.rfl
theorem Xw{a b c:Str}(h1:leS a b)(h2:leS b c):leS a c:=leS_iff.mpr (uO (leS_iff.mp h1) (leS_iff.mp h2))
theorem U8{a b:Str}(h1:leS a b)(h2:leS b a):a=b:=by
 have:=KeyOrd.kle_antisymm (leS_iff.mp h1) (leS_iff.mp h2);cases a;cases b
 congr 1
 exact uQ.mp this
theorem vb:∀(p:Str)(l:List Str),risingS p l=true->(p::l).Pairwise leS
 |p,[],_=>List.pairwise_singleton _ _
 |p,x::r,h=>by
  have h':(!ltCps x.cps.toList p.cps.toList&&risingS x r)=true:=h;rw[yQ]at h';have hpx:leS p x:=by unfold leS;simpa using h'.1
  have ih:=vb x r h'.2;refine vF.mpr ⟨λy hy=>?_,ih⟩;rcases zG.mp hy with rfl|hy
  ·exact hpx
  ·exact Xw hpx ((vF.mp ih).1 y hy)
theorem vc:∀(l:List Str),sortedS l=true->l.Pairwise leS
 |[],_=>.nil
 |x::r,h=>vb x r h
theorem Yl{a b:List Str}(h1:sortedS a=true)(h2:sortedS b=true)(n1:a.Nodup)(n2:b.Nodup)(he:∀x,x∈a↔x∈b):a=b :=
 List.Perm.eq_of_pairwise (λ_ _ _ _ x y=>U8 x y) (vc a h1) (vc b h2) ((List.perm_ext_iff_of_nodup n1 n2).mpr he)
theorem Tx{a b:List (List Bool)}(h1:a.Pairwise λx y=>ya y x=false)(h2:b.Pairwise λx y=>ya y x=false)(n1:a.Nodup)(n2:b.Nodup)(he:∀x,x∈a↔x∈b):a=b :=
 List.Perm.eq_of_pairwise (λ_ _ _ _ x y=>ud _ _ y x) h1 h2 ((List.perm_ext_iff_of_nodup n1 n2).mpr he)
open Classical in
theorem No(kvs:List (Key×V))(k:Key)(v:V):(sy kvs k v).map (·.1)=if k∈kvs.map (·.1)then kvs.map (·.1)else kvs.map (·.1)++[k]:=by
 unfold sy;have hk:(kvs.any λkv=>decide (kv.1=k))=true↔k∈kvs.map (·.1):=by
  rw[xD,zF];constructor
  ·rintro⟨x,h1,h2⟩;exact⟨x,h1,yN h2⟩
  ·rintro⟨x,h1,h2⟩;exact⟨x,h1,yU h2⟩
 by_cases h:k∈kvs.map (·.1)
 ·rw[yS h,yS (hk.mpr h),xX];apply List.map_congr_left;intro x _;show(if x.1=k then(x.1,v)else x).1=x.1;split<;>rfl
 ·rw[yY h,yY (λz=>h (hk.mp z)),zP]
  rfl
end
end My
namespace My
open PySem PySem.Spec L2
open PyProof.Rows hiding St
def Say.subs:Say->List Say
 | .letter _=>[]
 | .neg s=>[s]
 | .bin _ s t=>[s,t]
theorem u8(s:Say):s.pieces=1+(s.subs.map Say.pieces).sum:=by
 cases s<;>simp[Say.subs,Say.pieces]<;>lia
theorem t6{s:Say}(h:s.subs≠[]):s.letters=(s.subs.map Say.letters).flatten:=by
 cases s<;>simp[Say.subs,Say.letters]at h ⊢
theorem yq:∀s:Say,s.letters.length<=s.pieces
 | .letter _=>zS _
 | .neg s=>Nat.le_succ_of_le (yq s)
 | .bin _ s t=>by
  have h1:=yq s;have h2:=yq t;simp only[Say.letters,Say.pieces,zN];lia
theorem m4{K:W.Frag}{H:Hp}{v:V}{s:Say}(h:SayAt K H v s)(hn:s.subs≠[]):∃a wd us,v = .ref a/\SqT K H a (.str wd::us)/\decide (wd=Str.ofString "letter")=false/\us.length=s.subs.length/\us.length<=2/\∀(i:Nat) u,us[i]?=some u->∃t,s.subs[i]?=some t/\SayAt K H u t/\t.pieces<s.pieces:=by
 cases s with
 |letter x=>exact absurd rfl hn
 |neg t =>
  obtain⟨a,u,rfl,ha,ht⟩:=h;refine⟨a,_,[u],rfl,ha,w10,rfl,by simp,λi x hx=>?_⟩
  match i,hx with
  |0,hx =>
   cases hx;exact⟨t,rfl,ht,wU _⟩
  |i+1,hx=>simp at hx
 |bin o t t' =>
  obtain⟨a,u,u',rfl,ha,ht,Ho⟩:=h;refine⟨a,_,[u,u'],rfl,ha,by cases o<;>first|exact w20|exact w30|exact w40,rfl,by simp,λi x hx=>?_⟩
  match i,hx with
  |0,hx =>
   cases hx;exact⟨t,rfl,ht,by simp only[Say.pieces];lia⟩
  |1,hx =>
   cases hx;exact⟨t',rfl,Ho,by simp only[Say.pieces];lia⟩
  |i+2,hx=>simp at hx
theorem oi{α:Type}(x:α)(us:List α):atI (x::us) 0=some x:=w9 (xs:=x::us) (j:=0) rfl
theorem rn(x:V)(us:List V):v9 (x::us) (some 1) none=us:=by
 unfold v9;have e1:HT.sIx (x::us).length 0 (some 1)=1:=by
  show(if(1:Int)<0 then((1:Int)+((x::us).length:Int)).toNat else min (1:Int).toNat (x::us).length)=1;rw[yY (by decide)];show min 1 (us.length+1)=1;lia
 rw[e1,HT.sIx_none];show(us.take (us.length+1-1))=us;rw[Nat.add_sub_cancel,yV]
theorem lz:∀(ts:List Say),((ts.map Say.letters).flatten).length<=(ts.map Say.pieces).sum
 |[]=>zS _
 |t::ts=>by
  have h1:=yq t;have h2:=lz ts;simp only[List.map_cons,wM,zN,List.sum_cons];lia
theorem nz(f:Say->Nat):∀(ts:List Say)(i:Nat),((ts.take i).map f).sum<=(ts.map f).sum
 |[],i=>by simp
 |t::ts,0=>by simp
 |t::ts,i+1=>by
  have:=nz f ts i;simp only[List.take_succ_cons,List.map_cons,List.sum_cons];lia
end My
namespace My
open PySem PySem.Spec PySem.W PySem.Calls L2
open PyProof.Rows hiding St
section
section
variable {X:Cx}
def K7(neg:Bool):R2:=λx y H Q=>y = .non/\Q (.bl (if neg then !decide (x = .non)else decide (x = .non))) H
def Pw:V->List V->Hp->VK->Prop:=λx vs H Q=>match x,vs with
 | .ref l,[.int i,y]=>∃xs,H l=some (.lst xs)/\xs.length<sizeLine/\0<=i/\i<2 ^ 62/\Q .non (upd H l (.lst (xs.take i.toNat++y::xs.drop i.toNat)))
 |_,_=>False
theorem Nz{l:Addr}{i:Int}{y:V}{H:Hp}{Q:VK}:Pw (.ref l) [.int i,y] H Q=∃xs,H l=some (.lst xs)/\xs.length<sizeLine/\0<=i/\i<2 ^ 62/\Q .non (upd H l (.lst (xs.take i.toNat++y::xs.drop i.toNat))):=rfl
theorem kz:∀{xs:List V}{us:List Value}(n:Nat),Vals xs us->Vals (xs.take n) (us.take n)
 |_,_,0,_=>.nil
 |_,_,n+1,.nil=>.nil
 |_,_,n+1,.cons h r=>.cons h (kz n r)
theorem kn:∀{xs:List V}{us:List Value}(n:Nat),Vals xs us->Vals (xs.drop n) (us.drop n)
 |_,_,0,h=>h
 |_,_,n+1,.nil=>.nil
 |_,_,n+1,.cons h r=>kn n r
theorem M3:MtR X "list.insert" Pw:=λpins s σ H x xs v us Q I rx rs h=>by
 match x,xs,h with
 | .ref l,[.int i,y],h =>
  obtain⟨ys,hH,hz,h0,h1,q⟩:=(show∃ys,H l=some (.lst ys)/\ys.length<sizeLine/\0<=i/\i<2 ^ 62/\Q .non (upd H l (.lst (ys.take i.toNat++y::ys.drop i.toNat)))from h)
  cases rx;cases rs with
  |cons r1 rs =>
   cases rs with
   |cons r2 rs =>
    cases rs;obtain⟨t,rfl⟩:=r1;rename_i u;obtain⟨z,aF,n,r,hl,e⟩:=I.lstM hH;refine tD F.slot_list_insert ⟨_,e,rfl⟩ F.entry_list_insert (F.args_list_insert_3 _ _ _) (AutoSeq1.list_insert_list_int_val_1 l aF.toArray n i t u (by rw[fitsIndex_both (by lia) (by lia)];simp) (by rw[zQ];lia)) ⟨e,?_⟩;refine⟨.non,_,I.lset (its':=aF.take i.toNat++u::aF.drop i.toNat) hH e ?_ ((kz _ r).append (.cons r2 (kn _ r))) ?_,rfl,q⟩
    ·have e1:(if i<0 then(i+(aF.toArray.size:Int)).toNat else min i.toNat aF.toArray.size)=min i.toNat aF.length:=by rw[yY (by lia),zQ]
     show(aF.toArray.extract 0 (if i<0 then(i+(aF.toArray.size:Int)).toNat else min i.toNat aF.toArray.size)).push u++aF.toArray.extract (if i<0 then(i+(aF.toArray.size:Int)).toNat else min i.toNat aF.toArray.size)=_;rw[e1,kl_ins_eq]
     by_cases hm:i.toNat<=aF.length
     ·rw[tY hm]
     ·rw[Nat.min_eq_right (by lia),yV,List.drop_length,vH (by lia),vG (by lia)]
    ·rw[zN,yF,yE,xH];lia
def K5:V->List V->Hp->VK->Prop:=λx vs H Q=>match x,vs with
 | .ref l,[]=>∃xs,H l=some (.lst xs)/\Q .non (upd H l (.lst []))
 |_,_=>False
theorem Nq{l:Addr}{H:Hp}{Q:VK}:K5 (.ref l) [] H Q=∃xs,H l=some (.lst xs)/\Q .non (upd H l (.lst [])):=rfl
theorem Yf(bs:List Bool):(List.range bs.length).all (λi=>bs.getD i false)=bs.all id:=by
 have e:bs=(List.range bs.length).map λi=>bs.getD i false:=by
  apply vL
  ·simp
  ·intro i h1 h2;simp[h1]
 have:=xF (λl:List Bool=>l.all id) e;simp only[List.all_map]at this;exact this.symm
theorem Yg(bs:List Bool):(List.range bs.length).any (λi=>bs.getD i false)=bs.any id:=by
 have e:bs=(List.range bs.length).map λi=>bs.getD i false:=by
  apply vL
  ·simp
  ·intro i h1 h2;simp[h1]
 have:=xF (λl:List Bool=>l.any id) e;simp only[List.any_map]at this;exact this.symm
def mAA(g:List Bool->Bool)(K:W.Frag):List V->Hp->VK->Prop:=λxs H Q=>match xs with
 |[.ref p]=>∃bs:List Bool,SqL K H p (bs.map V.bl)/\Q (.bl (g bs)) H
 |_=>False
theorem Ld{g:List Bool->Bool}{K:W.Frag}{p:Addr}{H:Hp}{Q:VK}:mAA g K [.ref p] H Q=∃bs:List Bool,SqL K H p (bs.map V.bl)/\Q (.bl (g bs)) H:=rfl
theorem km{prog:Program}{w:World}{A:Around}(bs:List Bool):TruthOf prog w A (λi v=>(bs.map Value.bool).toArray[i]?=some v) λi=>bs.getD i false:=λi v s Q E hv hQ=>by
 have:(bs[i]?).map Value.bool=some v:=by simpa using hv
 cases e:bs[i]? with
 |none=>rw[e]at this;cases this
 |some b =>
  rw[e]at this;cases this;refine wL ?_;have hQ':Q (bs.getD i false) s:=hQ;rw[yP,e]at hQ';exact hQ'
theorem Mw(hc:X.calm=true):xi X (.builtin "all") (mAA (λbs=>bs.all id) X.K):=by
 intro pins s σ H xs us Q I r h
 match xs,h with
 |[.ref p],h =>
  obtain⟨bs,hq,q⟩:=(show∃bs:List Bool,SqL X.K H p (bs.map V.bl)/\Q (.bl (bs.all id)) H from h)
  obtain⟨u,rfl,rx⟩:=v3 r;cases rx;obtain⟨aF,rv,pl,hz⟩:=I.list hq;have e:=yd rv;subst e;have aS:p<s.heap.objs.size:=by obtain⟨o,e,_⟩:=pl.isList;exact zT e
  refine call_all_walk (wK pl.isList ?_);refine⟨s.heap.objs.size,_,_,_,_,_,_,rfl,Walks.list (A:=X.A.in1) (I.ok.hd hc) _ p (zI aS) (bs.map Value.bool).toArray,⟨⟨_,zR _ rfl,rfl,rfl⟩,pl.isList.push _⟩,km bs,λh' tk hk=>?_⟩;have hsz:(bs.map Value.bool).toArray.size=bs.length:=by simp
  rw[hsz,Yf];refine⟨.bl (bs.all id),H,?_,rfl,q⟩;exact I.kept λb o e=>hk b o (λz=>absurd (zT e) (by rw[zW.mp z];exact xS _)) (zY _ e)
theorem Mx(hc:X.calm=true):xi X (.builtin "any") (mAA (λbs=>bs.any id) X.K):=by
 intro pins s σ H xs us Q I r h
 match xs,h with
 |[.ref p],h =>
  obtain⟨bs,hq,q⟩:=(show∃bs:List Bool,SqL X.K H p (bs.map V.bl)/\Q (.bl (bs.any id)) H from h)
  obtain⟨u,rfl,rx⟩:=v3 r;cases rx;obtain⟨aF,rv,pl,hz⟩:=I.list hq;have e:=yd rv;subst e;have aS:p<s.heap.objs.size:=by obtain⟨o,e,_⟩:=pl.isList;exact zT e
  refine call_any_walk (wK pl.isList ?_);refine⟨s.heap.objs.size,_,_,_,_,_,_,rfl,Walks.list (A:=X.A.in1) (I.ok.hd hc) _ p (zI aS) (bs.map Value.bool).toArray,⟨⟨_,zR _ rfl,rfl,rfl⟩,pl.isList.push _⟩,km bs,λh' tk hk=>?_⟩;have hsz:(bs.map Value.bool).toArray.size=bs.length:=by simp
  rw[hsz,Yg];refine⟨.bl (bs.any id),H,?_,rfl,q⟩;exact I.kept λb o e=>hk b o (λz=>absurd (zT e) (by rw[zW.mp z];exact xS _)) (zY _ e)
theorem O9:bootBuiltins "all"=some (.builtin "all"):=by decide +kernel
theorem Pa:bootBuiltins "any"=some (.builtin "any"):=by decide +kernel
end
end
end My
namespace My
open PySem PySem.Spec L2
open PyProof.Rows hiding St
def SaysAt(K:W.Frag)(H:Hp):List V->List Say->Prop
 |[],[]=>True
 |v::vs,s::ss=>SayAt K H v s/\SaysAt K H vs ss
 |_,_=>False
theorem SaysAt.mono{K:W.Frag}{H H':Hp}(t:Tups H H'):∀{vs:List V}{ss:List Say},SaysAt K H vs ss->SaysAt K H' vs ss
 |[],[],_=>trivial
 |v::vs,s::ss,h=>⟨h.1.mono t,SaysAt.mono t h.2⟩
 |[],_::_,h=>h.elim
 |_::_,[],h=>h.elim
theorem SaysAt.app{K:W.Frag}{H:Hp}:∀{vs:List V}{ss:List Say}{C6:List V}{bW:List Say},SaysAt K H vs ss->SaysAt K H C6 bW->SaysAt K H (vs++C6) (ss++bW)
 |[],[],_,_,_,h=>h
 |v::vs,s::ss,_,_,h,h'=>⟨h.1,SaysAt.app h.2 h'⟩
 |[],_::_,_,_,h,_=>h.elim
 |_::_,[],_,_,h,_=>h.elim
theorem SaysAt.len{K:W.Frag}{H:Hp}:∀{vs:List V}{ss:List Say},SaysAt K H vs ss->vs.length=ss.length
 |[],[],_=>rfl
 |v::vs,s::ss,h=>by rw[yF,yF,SaysAt.len h.2]
 |[],_::_,h=>h.elim
 |_::_,[],h=>h.elim
def w4(ts:List Say):List Str:=(ts.map Say.letters).flatten
theorem uy(a b:List Say):w4 (a++b)=w4 a++w4 b:=by simp[w4]
def ww(k:List Bool):PyData:=.tuple (k.map PyData.bool)
theorem u3(K:W.Frag)(H:Hp):∀k:List Bool,HasL K H (k.map V.bl) (k.map PyData.bool)
 |[]=>by simp[HasL]
 |x::k=>by
  have ih:=u3 K H k;rw[List.map_cons,List.map_cons];unfold HasL;exact⟨_,_,rfl,by unfold Has;rfl,ih⟩
theorem g6{K:W.Frag}{H:Hp}{a:Addr}{k:List Bool}(h:SqT K H a (k.map V.bl)):Has K H (.ref a) (ww k):=by
 unfold ww Has;exact⟨a,_,rfl,h,u3 K H k⟩
theorem qk{K:W.Frag}{H:Hp}:∀{R:List (Addr×List Bool)},(∀r∈R,SqT K H r.1 (r.2.map V.bl))->HasL K H (R.map λr=>V.ref r.1) ((R.map (·.2)).map ww)
 |[],_=>by simp[HasL]
 |r::R,h=>by
  have ih:=qk (R:=R) λq hq=>h q (zC _ hq);rw[List.map_cons,List.map_cons,List.map_cons];unfold HasL;exact⟨_,_,rfl,g6 (h r yZ),ih⟩
theorem sq:∀k:List Bool,PyData.canLayAll0 (k.map PyData.bool)=true/\PyData.depthAll (k.map PyData.bool)=0
 |[]=>by simp[PyData.canLayAll0,PyData.depthAll]
 |x::k=>by
  obtain⟨h1,h2⟩:=sq k;rw[List.map_cons];refine⟨?_,?_⟩
  ·rw[PyData.canLayAll0,h1,Bool.and_true,PyData.canLay0]
  ·rw[PyData.depthAll,h2,PyData.depth]
   rfl
theorem on(k:List Bool):PyData.canLay0 (ww k)=true/\PyData.depth (ww k)=1:=by
 obtain⟨h1,h2⟩:=sq k;unfold ww;exact⟨by rw[PyData.canLay0];exact h1,by rw[PyData.depth,h2]⟩
theorem b0(k:List Bool):SeqAt.shaped (ww k)=true:=by
 obtain⟨h1,h2⟩:=on k;unfold SeqAt.shaped;rw[h1,h2]
 rfl
theorem l8:∀ks:List (List Bool),PyData.canLayAll0 (ks.map ww)=true/\PyData.depthAll (ks.map ww)<=1
 |[]=>by simp[PyData.canLayAll0,PyData.depthAll]
 |k::ks=>by
  obtain⟨h1,h2⟩:=l8 ks;obtain⟨a1,a2⟩:=on k;rw[List.map_cons];refine⟨?_,?_⟩
  ·rw[PyData.canLayAll0,h1,Bool.and_true,a1]
  ·rw[PyData.depthAll,a2];lia
def NamesOf(ts:List Say)(ss:List Str):Prop:=ss.Nodup/\(∀x,x∈ss↔x∈w4 ts)/\sortedS ss=true
theorem NamesOf.eq{ts:List Say}{a b:List Str}(h1:NamesOf ts a)(h2:NamesOf ts b):a=b:=Yl h1.2.2 h2.2.2 h1.1 h2.1 λx=>(h1.2.1 x).trans (h2.2.1 x).symm
def uj(ts:List Say)(hs:List Str):List Bool:=ts.map λt=>t.so hs
theorem qw(ts:List Say)(hs:List Str):(uj ts hs).length=ts.length:=by simp[uj]
def FitRows(ts:List Say)(ss:List Str)(ks:List (List Bool)):Prop:=ks.Nodup/\(∀k,k∈ks↔∃n,n<2 ^ ss.length/\k=uj ts (za (n:Nat) ss))/\ks.Pairwise (λa b=>ya b a=false)
theorem FitRows.eq{ts:List Say}{ss:List Str}{a b:List (List Bool)}(h1:FitRows ts ss a)(h2:FitRows ts ss b):a=b:=Tx h1.2.2 h2.2.2 h1.1 h2.1 λx=>(h1.2.1 x).trans (h2.2.1 x).symm
theorem mem_allL{x:Str}{ts:List Say}:x∈w4 ts↔∃t∈ts,x∈t.letters:=by
 unfold w4;rw[List.mem_flatten];constructor
 ·rintro⟨l,hl,hx⟩;obtain⟨t,ht,rfl⟩:=zF.mp hl;exact⟨t,ht,hx⟩
 ·rintro⟨t,ht,hx⟩;exact⟨t.letters,yK ht,hx⟩
theorem SaysAt.at{K:W.Frag}{H:Hp}:∀{vs:List V}{ts:List Say},SaysAt K H vs ts->∀(i:Nat) v,vs[i]?=some v->∃t,ts[i]?=some t/\SayAt K H v t
 |[],[],_,i,v,h=>by simp at h
 |v::vs,t::ts,h,0,u,e=>by
  cases e;exact⟨t,rfl,h.1⟩
 |v::vs,t::ts,h,i+1,u,e=>by simpa using SaysAt.at h.2 i u (by simpa using e)
 |[],_::_,h,_,_,_=>h.elim
 |_::_,[],h,_,_,_=>h.elim
structure Lst(ts:List Say)(xs:List Str):Prop where
 lo:1<=ts.length
 hi:ts.length<=6
 pc:∀t∈ts,t.pieces<=40
 nm:∀x∈w4 ts,x∈xs
 xl:xs.length<=5
 ok:∀x∈xs,Nm x
theorem Lst.names{ts:List Say}{xs ss:List Str}(l:Lst ts xs)(h:NamesOf ts ss):ss.length<=5/\∀x∈ss,Nm x :=
 ⟨yW (yj h.1 λx hx=>l.nm x ((h.2.1 x).mp hx)) l.xl,λx hx=>l.ok x (l.nm x ((h.2.1 x).mp hx))⟩
theorem lm:∀ts:List Say,(∀t∈ts,t.pieces<=40)->(w4 ts).length<=40*ts.length
 |[],_=>zS _
 |t::ts,h=>by
  have h1:=yq t;have h2:=h t yZ;have h3:=lm ts λu hu=>h u (zC _ hu);simp only[w4,List.map_cons,wM,zN,yF]at h3 ⊢;lia
end My
namespace My
open PySem PySem.Spec PySem.W PySem.Calls L2
open PyProof.Rows hiding St
section
section
variable {X:Cx}
def Mj(K:W.Frag):V->List V->Hp->VK->Prop:=λx vs H Q=>match x,vs with
 | .ref l,[.ref b]=>∃xs zs,H l=some (.lst xs)/\(H b=some (.lst zs)\/SqT K H b zs)/\xs.length+zs.length<=sizeLine/\Q .non (upd H l (.lst (xs++zs)))
 |_,_=>False
theorem Q3{K:W.Frag}{l b:Addr}{H:Hp}{Q:VK}:Mj K (.ref l) [.ref b] H Q=∃xs zs,H l=some (.lst xs)/\(H b=some (.lst zs)\/SqT K H b zs)/\xs.length+zs.length<=sizeLine/\Q .non (upd H l (.lst (xs++zs))):=rfl
theorem Lm{C:Addr->Addr->Prop}{x:V}{vs:List V}(h:match x,vs with|.ref l,[.ref b]=>C l b|_,_=>False):∃l b,x = .ref l/\vs=[.ref b]/\C l b:=by
 cases x with
 |ref l =>
  cases vs with
  |nil=>exact(show False from h).elim
  |cons y t =>
   cases t with
   |nil =>
    cases y with
    |ref b=>exact⟨l,b,rfl,rfl,h⟩
    |_=>exact(show False from h).elim
   |cons _ _=>exact(show False from by cases y<;>exact h).elim
 |_=>exact(show False from by rcases vs with _|⟨y,_|⟨_,_⟩⟩<;>first|exact h|(cases y<;>exact h)).elim
theorem aq:MtR X "list.extend" (Mj X.K):=λpins s σ H x xs v us Q I rx rs h=>by
 obtain⟨l,b,rfl,rfl,ys,zs,e,e2,z,q⟩:=Lm (C:=λl b=>∃xs zs,H l=some (.lst xs)/\(H b=some (.lst zs)\/SqT X.K H b zs)/\xs.length+zs.length<=sizeLine/\Q .non (upd H l (.lst (xs++zs)))) h;rcases e2 with e2|e2
 ·exact X0 pins s σ H _ _ v us Q I rx rs ⟨l,b,ys,zs,rfl,rfl,e,e2,z,q⟩
 ·cases rx;obtain⟨u,rfl,ru⟩:=v3 rs;cases ru;obtain⟨hz,aF,n,r,hl,el⟩:=I.lstM e;obtain⟨fS,r2,⟨o2,eb,kD,n2,qT⟩,_⟩:=I.tuple e2;have kW:=r2.length;refine yA vQ ⟨_,el,rfl⟩ F.entry_list_extend ?_ (F.args_list_extend_2 _ _);refine(show wpAny _ _ (Builtin.List.listExtendWith (.ref l) (.ref b) .none) _ _ s from ?_);unfold Builtin.List.listExtendWith;refine zZ (uL (T:="tuple") ⟨_,eb,kD⟩ ?_);simp only[show(Value.type "tuple"==Value.type "tuple")=true from by decide,Bool.or_true,if_true];refine zZ (listItems_at eb qT (zZ (listItems_at el rfl ?_)));have hsz:aF.toArray.size+fS.toArray.size<=sizeLine:=by rw[zQ,zQ];lia
  rw[yY (by rw[et hsz,tJ];exact zK)];refine zZ (listUpdate_at el rfl ?_ (by rw[zQ];lia) (by rw[Array.size_append];lia));refine zZ (zV (zV ⟨_,rfl,?_⟩));refine⟨.non,_,I.lset (its':=aF++fS) e el (by simp) (r.append r2) ?_,rfl,q⟩;rw[zN];lia
end
end
end My
namespace My
open PySem PySem.Spec L2
open PyProof.Rows hiding St
def Sc(K:W.Frag)(H:Hp):List V->List (Nat×Bool)->Prop
 |[],[]=>True
 |v::vs,p::ps=>(∃b,v = .ref b/\SqT K H b [.int (p.1:Int),.bl p.2])/\Sc K H vs ps
 |_,_=>False
theorem O6{k:List Bool}{n:Nat}(h:n<k.length):atI (k.map V.bl) (n:Int)=some (.bl (k.getD n false)):=w9 (by rw[zE,zL h];simp[h])
end My
namespace My
open PySem PySem.Spec PySem.W PySem.Calls L2
open AutoSeq1 (wpAny_loadPart')
open PyProof.Rows hiding St
section
variable {X:Cx}{pins:List (Addr×Obj)}{σ:St}{H:Hp}{s:Shared}{h':Heap}
theorem o7{t':Nat}(L:List Addr)(I:Inv X pins σ H s)(hf:∀b∈L,vo X pins H b)(k:∀b o,b∉L->s.heap.get? b=some o->h'.get? b=some o):Inv X pins σ H { s with heap:=h',toks:=t' }:=by
 have Fe:∀b u,H b=some u->b∉L:=λb u e z=>by rw[(hf b z).1]at e;cases e
 refine I.step (g':=s.gens) (d':=s.drawn) (ch:=L) (λb hb=>⟨(hf b hb).2.2.2.1,(hf b hb).2.1,(hf b hb).2.2.2.2.1,(hf b hb).2.2.2.2.2⟩) (λb o _ _ hc e _=>k b o hc e) (λb o _ _ hc e _=>⟨o.slots,k b o hc e⟩) (λ_ _ _ _ n=>n)
  (λb o hc e=>⟨o,k b o hc e⟩) (λ_ _ e=>e) (λ_ _ _ e=>e) (λb ps e=>⟨#[],by rw[e];simp⟩) (λm hm=>?_) (λb u e=>?_) I.bare
 ·obtain⟨o,es,ep,ho,r⟩:=hm;exact⟨o,es,ep,k _ o (λz=>(hf _ z).2.1 rfl) ho,r⟩
 ·refine(I.hok b u e).stay (λc v hc q=>k c v (hc.elim (λz=>by rw[z];exact Fe b u e) λz=>Fe c _ z) q) (λ_ q=>q) λ_ _ q=>q
end
section
variable {prog:Program}{w:World}{A:Around}{E:Value->Shared->Prop}{s:Shared}
theorem k8{it t:Addr}{i:Nat}{items:Array Value}{x:Value}{Q:Value->Shared->Prop}(jB:s.heap.IsTupleIter it t i)(ht:s.heap.IsTuple t items)(hx:items[i]?=some x)
  (hQ:∀h',h'.IsTupleIter it t (i+1)->Heap.SameBut it s.heap h'->Q x { s with heap:=h' }):wpAny (model prog w) A (Builtin.SmallTypes.nextOf (.ref it)) Q E s:=by
 obtain⟨o,ho,hc,hd⟩:=id jB;obtain⟨ol,nQ,_,nl,oY⟩:=ht;unfold Builtin.SmallTypes.nextOf;refine zZ (xW (name:=Str.ofString "__next__") jB.typeIs wD (yA wD jB.typeIs F.entry_tuple_iterator_next ?_ (F.args_tuple_iterator_next_1 _)));show wpAny _ _ (field (.ref it) 0 >>= _) _ _ s;refine zZ (yI ho hd (x:=.ref t) rfl ?_);show wpAny _ _ (if(Value.ref t==Value.none)=true then _ else _) _ _ s;rw[yY (show¬((Value.ref t==Value.none)=true)from zK)];show wpAny _ _ (field (.ref it) 1 >>= _) _ _ s;refine zZ (yI ho hd (x:=.int i 0) rfl ?_);show wpAny _ _ (seqItems? (.ref t) >>= _) _ _ s;refine zZ (xA nQ oY ?_);simp only[yG,hx];refine zZ (vJ ho hd (by simp) (zV ⟨x,rfl,zV (hQ _ ⟨_,yH _ ho (vZ (wV hd _)),(Obj.cls_mapFields ..).trans hc,by rw[wV hd];simp[rawInt]⟩ (wG ..))⟩))
theorem ip{it t:Addr}{i:Nat}{items:Array Value}{Q:Value->Shared->Prop}(hh:A.handled=none)(jB:s.heap.IsTupleIter it t i)(ht:s.heap.IsTuple t items)(hx:items[i]?=none)
  (hE:∀h' e,Heap.ExtBut it s.heap h'->(∃o,h'.get? e=some o/\o.cls = .type "StopIteration")->E (.ref e) { s with heap:=h' }):wpAny (model prog w) A (Builtin.SmallTypes.nextOf (.ref it)) Q E s:=by
 obtain⟨o,ho,hc,hd⟩:=id jB;obtain⟨ol,nQ,_,nl,oY⟩:=ht;unfold Builtin.SmallTypes.nextOf;refine zZ (xW (name:=Str.ofString "__next__") jB.typeIs wD (yA wD jB.typeIs F.entry_tuple_iterator_next ?_ (F.args_tuple_iterator_next_1 _)));show wpAny _ _ (field (.ref it) 0 >>= _) _ _ s;refine zZ (yI ho hd (x:=.ref t) rfl ?_);show wpAny _ _ (if(Value.ref t==Value.none)=true then _ else _) _ _ s;rw[yY (show¬((Value.ref t==Value.none)=true)from zK)];show wpAny _ _ (field (.ref it) 1 >>= _) _ _ s;refine zZ (yI ho hd (x:=.int i 0) rfl ?_);show wpAny _ _ (seqItems? (.ref t) >>= _) _ _ s;refine zZ (xA nQ oY ?_);simp only[yG,hx];refine zZ (tV (zZ (vJ ho hd (by simp) ?_)));show wpAny _ _ (newExc (.type "StopIteration") [] >>= _) _ _ _;refine zZ ?_;simp only[newExc,newTuple];refine zZ (yL ?_ (by size_fits));refine zZ (m:=firstArgMember _ _) (sW (a:=Value.none) (by first|rfl|(simp only[firstArgMember];rfl)) ?_);refine yL ?_ (by size_fits);simp only[raiseNew];refine zZ (wpAny_handled ?_);first|rw[show A.in1.handled=none from hh]|rw[hh]
 refine zZ (zV (wpAny_throw (hE _ _ (((wG ..).extBut.push _).push _) ⟨_,zR _ rfl,rfl⟩)))
end
theorem Xp{h h':Heap}{t it:Addr}{items:Array Value}(x:h.IsTuple t items)(hs:Heap.ExtBut it h h')(fH:t≠it):h'.IsTuple t items:=let⟨o,ho,r⟩:=x;⟨o,hs t o fH ho,r⟩
theorem vp{prog:Program}{w:World}{A:Around}(hh:A.handled=none)(it t:Addr)(fH:t≠it)(items:Array Value):Draws prog w A it [it,t] items.size (λi v=>items[i]?=some v) (λi h=>h.IsTupleIter it t i/\h.IsTuple t items)where
 live:=λ_ _ st=>st.1.elim λo ho=>⟨o,ho.1⟩
 frame:=λ_ _ _ st hk=>⟨st.1.at λo e=>hk it (by simp) o e,st.2.elim λo ho=>⟨o,hk t (by simp) o ho.1,ho.2⟩⟩
 item:=λi s Q E hi st hQ=>k8 st.1 st.2 (x:=items[i]) (by simp[hi]) λh' hit' hs'=>hQ _ h' s.toks (by simp[hi]) ⟨hit',Xp st.2 hs'.extBut fH⟩ hs'
 done:=λs Q E st hE=>ip hh st.1 st.2 (by simp) hE
end My
namespace My
open PySem PySem.Spec PySem.W PySem.Calls L2
open AutoSeq1 (wpAny_loadPart')
open PyProof.Rows hiding St
def og(t:Addr):Obj:={ cls:=.type "tuple_iterator",data:=.fields #[.ref t,.int 0 0] }
def Z9(it:Addr):Obj:={ cls:=.type "enumerate",data:=.fields #[.none,.bool false,.ref it,rawInt 0,.none,.none] }
theorem Xg(l:Addr)(items:Array Value):Meets (Builtin.«enumerate.__new__» ⟨[.type "enumerate",.ref l],[]⟩) (λ_ R s=>s.heap.IsTuple l items /\
  R (.ok (.ret (.ref (s.heap.push (og l)).objs.size))) { s with heap:=(s.heap.push (og l)).push (Z9 s.heap.objs.size) }) :=
 .of_wp λprog w A R s h=>by
  obtain⟨hp,g,d,tk,os⟩:=s;obtain⟨hL,h⟩:=h;have iH:=sub_enumerate;obtain⟨o,hl,hc,n,hd⟩:=id hL;replace hL:Heap.IsTuple (Shared.heap ⟨hp,g,d,tk,os⟩) l items:=hL
  wp_walk using xO hl
  refine wpAny_stack_any λst=>zV ?_;split
  ·rename_i c _ _ _ _ _;cases(c==Value.type "enumerate")
   ·wp_walk using xO hl,wR hL;exact⟨_,rfl,h⟩
   ·wp_walk using xO hl,wR hL;exact⟨_,rfl,h⟩
  ·wp_walk using xO hl,wR hL;exact⟨_,rfl,h⟩
section
variable {prog:Program}{w:World}{A:Around}{E:Value->Shared->Prop}{s:Shared}
theorem Z7{l:Addr}{items:Array Value}{Q:Value->Shared->Prop}(hL:s.heap.IsTuple l items)
  (h:∀h',IsEnum h' (s.heap.objs.size+1) s.heap.objs.size 0 .none->h'.IsTupleIter s.heap.objs.size l 0->(∀b o,s.heap.get? b=some o->h'.get? b=some o)->Q (.ref (s.heap.objs.size+1)) { s with heap:=h' }) :
  wpAny (model prog w) A (call (.type "enumerate") [.ref l]) Q E s:=by
 refine callType_new F.called_enumerate (by decide) (F.typeCall_enumerate_1 _) (F.newCall_enumerate_1 _) (λobj=>F.args_object_init_2 obj _) F.entry_enumerate_new (Xg l items) ⟨hL,?_⟩;have hz:(s.heap.push (og l)).objs.size=s.heap.objs.size+1:=xI ..;show _/\_;rw[hz];have he:IsEnum ((s.heap.push (og l)).push (Z9 s.heap.objs.size)) (s.heap.objs.size+1) s.heap.objs.size 0 .none:=by
  have:=zR (s.heap.push (og l)) (o:=Z9 s.heap.objs.size) rfl;rw[hz]at this;exact this
 exact⟨⟨_,he,rfl⟩,h _ he ⟨_,zY _ (zR _ rfl),rfl,rfl⟩ λb o x=>zY _ (zY _ x)⟩
end
theorem lq{h:Heap}{a e it:Addr}{items:Array Value}{i:Int}{j:Nat}{old:Value}(ha:h.IsTuple a items)(he:IsEnum h e it i old)(hi:h.IsTupleIter it a j):∀b∈[e,it],a≠b:=λb hb z=>by
 obtain⟨o,e1,c1,_⟩:=ha;subst z;rcases zG.mp hb with z|z
 ·have he':h.get? e=some _:=he;rw[<-z,e1]at he';have:=zB he';rw[this]at c1;simp at c1
 ·have z:=zW.mp z;obtain⟨o2,e2,c2,_⟩:=hi;rw[<-z,e1]at e2;cases e2;rw[c1]at c2;simp at c2
def Ite(K:W.Frag)(a:Addr):It :=
 ⟨λi H=>∃xs x,SqT K H a xs/\xs[i]?=some x,λi H v H'=>∃p x,v = .ref p/\H p=none/\H'=upd H p (.tup [.int (i:Int),x])/\∀xs,SqT K H a xs->xs[i]?=some x,λi H=>∃xs,SqT K H a xs/\xs.length=i⟩
theorem ck{P:Program}{w:World}{K:W.Frag}{kY:List Expr}{k:Nat}{pos:Pos}(a e it:Addr)(hei:e≠it):Z0 P w K (.Tuple kY k pos) (Ite K a) [e,it] e (λi h=>(∃old,IsEnum h e it ((i:Nat):Int) old)/\h.IsTupleIter it a i)where
 mem:=by simp
 obj:=λi h st b hb=>by
  obtain⟨⟨old,he⟩,hi⟩:=st;rcases zG.mp hb with rfl|hb
  ·exact⟨_,he,λv z=>by cases(show Data.fields _=Data.cell v from z)⟩
  ·rw[zW.mp hb];obtain⟨o,e1,c,d⟩:=hi;exact⟨o,e1,λv z=>by rw[d]at z;cases z⟩
 keep:=λi h h' st kk=>⟨st.1.imp λold he=>kk e (by simp) _ he,st.2.at λo e1=>kk it (by simp) o e1⟩
 item:=by
  intro X hP hw hK hc i pins s σ H E I hf st hg;subst hP hw hK;obtain⟨xs,x,hq,hx⟩:=hg;obtain⟨aF,rv,p,hz⟩:=I.tuple hq;obtain⟨u,hu,ru⟩:=rv.get hx;obtain⟨⟨old,he⟩,hi⟩:=st;have jB:s.heap.IsTuple a aF.toArray:=p;have hilt:i<aF.toArray.size:=by
   have:=(zU.mp hu).1;simpa using this
  have hae:∀b∈[e,it],a≠b:=lq jB he hi;refine wpAny_pyNext_enum_itemD (vp (A:=X.A.in1) (I.ok.hd hc) it a (hae it (by simp)) aF.toArray) he ⟨hi,jB⟩ hilt hei (λz=>by
   rcases zG.mp z with z|z
   ·exact hei z
   ·exact hae e (by simp) (zW.mp z).symm) λy h1 tk hy ho hs1 hT hsz hk=>?_
  have ey:y=u:=by
   have h1:aF.toArray[i]?=some y:=hy;have h2:aF.toArray[i]?=some u:=by simpa using hu
   rw[h2]at h1;exact(zB h1).symm
  subst ey;refine⟨_,rfl,wpAny_letOwnedTupleGo_enum (s:={ s with heap:=h1,toks:=tk+1 }) ho λh2 oX mH=>?_⟩;have cW:e<s.heap.objs.size:=zT he;have fr:H s.heap.objs.size=none:=I.hok.fresh (zS _);have I1:Inv X pins σ (upd H s.heap.objs.size (.tup [.int (i:Int),x])) { s with heap:=s.heap.push { cls:=.type "tuple",data:=.seq #[.int i tk,y] },toks:=tk } :=
   I.laid (λb o e1=>zY _ e1) (zS _) ⟨by simp only[yF,vA];rw[zD];decide,[.int i tk,y],.cons ⟨_,rfl⟩ (.cons ru .nil),⟨_,zR _ rfl,rfl,_,rfl⟩⟩
  have lt2:∀b∈[e,it],b<s.heap.objs.size:=λb hb=>by
   rcases zG.mp hb with rfl|hb
   ·exact cW
   ·rw[zW.mp hb];obtain⟨o,e1,_⟩:=hi;exact zT e1
  have HR:∀b∈[e,it],vo X pins (upd H s.heap.objs.size (.tup [.int (i:Int),x])) b:=λb hb=>⟨by rw[zg (zI (lt2 b hb))];exact(hf b hb).1,(hf b hb).2⟩
  have I2:Inv X pins σ (upd H s.heap.objs.size (.tup [.int (i:Int),x])) { s with heap:=h2,toks:=tk+1 }:=o7 (s:={ s with heap:=s.heap.push { cls:=.type "tuple",data:=.seq #[.int i tk,y] },toks:=tk }) [e,it] I1 HR λb o hb e1=>by
   have nV:b≠e:=λz=>hb (by simp[z]);have hbi:b≠it:=λz=>hb (by simp[z]);refine(mH.2 b nV).trans ?_;rcases Heap.get?_push_cases e1 with⟨rfl,rfl⟩|e1
   ·exact hT
   ·exact hk b o nV hbi e1
  exact⟨.ref s.heap.objs.size,upd H s.heap.objs.size (.tup [.int (i:Int),x]),I2,rfl,⟨_,x,rfl,fr,rfl,λys AQ=>by rw[I.tuple_inj AQ hq];exact hx⟩,⟨⟨_,by simpa using oX⟩,hs1.1.at λo e1=>(mH.2 it (wY hei)).trans e1⟩,λb hb=>(HR b hb).1⟩
 done:=by
  intro X hP hw hK hc i pins s σ H E I hf st hg;subst hP hw hK;obtain⟨xs,hq,hx⟩:=hg;obtain⟨aF,rv,p,hz⟩:=I.tuple hq;obtain⟨⟨old,he⟩,hi⟩:=st;have jB:s.heap.IsTuple a aF.toArray:=p;have hae:∀b∈[e,it],a≠b:=lq jB he hi;have hl:aF.toArray.size=i:=by rw[zQ,<-rv.length];exact hx
  refine wpAny_pyNext_enum_endD (vp (A:=X.A.in1) (I.ok.hd hc) it a (hae it (by simp)) aF.toArray) he ⟨by rw[hl];exact hi,jB⟩ λh1 eb=>⟨rfl,o7 (t':=s.toks) [e,it] I hf λb o hb e1=>eb b o (λz=>hb (by simp[z])) e1⟩
 self:=λ_ _ _ _ _ st h=>by
  obtain⟨⟨old,he⟩,_⟩:=st;exact wpAny_pyIter_enum he h
end My
namespace My
open PySem PySem.Spec PySem.W PySem.Calls L2
open PyProof.Rows hiding St
section
section
variable {X:Cx}
theorem Sj:bootBuiltins "enumerate"=some (.type "enumerate"):=by decide +kernel
def iEn(K:W.Frag)(ta:TA):TI:=fun σ H R=>ta σ H (on1 (Zf λa H1=>(∃xs,SqT K H1 a xs)/\R (Ite K a) H1))
theorem P3{kY:List Expr}{kk:Nat}{pt:Pos}{a:Expr}{ta:TA}{p pos:Pos}(hg:Gl X "enumerate")(hm:X.mg "enumerate"=none)(ha:PA X [a] ta)(hs:starEach [a] X.env=[(false,eval a X.env)]:=by rfl):
  PI X (.Tuple kY kk pt) (.Call (.Name "enumerate" p) [a] [] pos) (iEn X.K ta):=by
 intro pins s σ H R I h;refine Call_ (u4 I hg hm Sj (wT (thn (ha pos pins s σ H _ I h) λus s1 ⟨vs,H1,I1,r1,q1⟩=>?_) hs rfl));rcases vs with _|⟨x,_|⟨y,rr⟩⟩
 ·exact(show False from q1).elim
 ·cases x with
  |ref b =>
   obtain⟨⟨xs,hq⟩,q⟩:=(show(∃xs,SqT X.K H1 b xs)/\R (Ite X.K b) H1 from q1)
   cases r1 with
   |cons r rr =>
    cases rr;cases r;obtain⟨aF,rv,p1,hz⟩:=I1.tuple hq;refine Z7 (show s1.heap.IsTuple b aF.toArray from p1) λh' he hi hk=>?_;refine wpAny_pyIter_enum (s:={ s1 with heap:=h' }) he ?_;have I2:Inv X pins σ H1 { s1 with heap:=h' }:=I1.kept (t':=s1.toks) hk;refine⟨_,[s1.heap.objs.size+1,s1.heap.objs.size],_,_,H1,rfl,I2,ck b _ _ (Nat.succ_ne_self _),⟨⟨_,he⟩,hi⟩,λc hc=>?_,q⟩;have HP:s1.heap.objs.size<=c:=by
     rcases zG.mp hc with rfl|hc
     ·exact wF _
     ·rw[zW.mp hc];exact zS _
    exact I1.fpOk HP (I1.hok.fresh HP)
  |_=>exact(show False from q1).elim
 ·exact(show False from q1).elim
end
end
section
theorem Yh(a b:List Bool):((List.range (min a.length b.length)).all (λj=>a.getD j false==b.getD j false)&&a.length==b.length)=(a==b):=by
 rw[vX,yQ,vM,tT,tT];constructor
 ·rintro⟨h,e⟩;apply vL e;intro i h1 h2;have:=h i (yB.mpr (by lia));simpa[h1,h2]using this
 ·rintro rfl;exact⟨λj _=>uN _,rfl⟩
theorem Lk{C:Addr->Addr->Prop}{x y:V}(h:match x,y with|.ref r,.ref p=>C r p|_,_=>False):∃r p,x = .ref r/\y = .ref p/\C r p:=by
 cases x with
 |ref r =>
  cases y with
  |ref p=>exact⟨r,p,rfl,rfl,h⟩
  |_=>exact(show False from h).elim
 |_=>exact(show False from by cases y<;>exact h).elim
section
variable {X:Cx}
theorem Wf{pins:List (Addr×Obj)}{σ:St}{H:Hp}{s:Shared}(I:Inv X pins σ H s){A:Around}(hu:A.units<cLine){x y:Addr}{a b:List Bool}(hx:SqT X.K H x (a.map V.bl))(hy:SqT X.K H y (b.map V.bl)):SeqAt.EqAt A s (.ref x) (.ref y) (a==b):=by
 by_cases e:x=y
 ·subst e;have:a=b:=by
   have:=I.tuple_inj hx hy;exact List.map_inj_right (λ_ _ z=>V.bl.inj z) |>.mp this
  subst this;rw[uN];exact SeqAt.EqAt.same _
 ·obtain⟨ix,rx,px,_⟩:=I.tuple hx;obtain⟨iy,ry,py,_⟩:=I.tuple hy;have ex:=yd rx;have ey:=yd ry;subst ex ey;have:=SeqAt.RcAt.tuples (e:=λj=>a.getD j false==b.getD j false) (show s.heap.IsTuple x _ from px) (show s.heap.IsTuple y _ from py) hu λj h1 h2=>by
   have Bv:j<a.length:=by simpa using h1
   have kX:j<b.length:=by simpa using h2
   simp only[List.getElem_toArray,List.getElem_map];rw[show a.getD j false=a[j]by simp[Bv],show b.getD j false=b[j]by simp[kX]];exact vV _ _
  have h2:=SeqAt.EqAt.of_refs e this;rw[show(a.map Value.bool).toArray.size=a.length by simp,show(b.map Value.bool).toArray.size=b.length by simp,Yh]at h2;exact h2
def Mm(K:W.Frag)(g:Bool->Bool):R2:=λx y H Q=>match x,y with
 | .ref r,.ref p=>∃(k:List Bool)(R:List (Addr×List Bool)),SqT K H r (k.map V.bl)/\SqL K H p (R.map λr=>V.ref r.1)/\(∀r∈R,SqT K H r.1 (r.2.map V.bl))/\Q (.bl (g (R.any λr=>r.2==k))) H
 |_,_=>False
theorem Ny{K:W.Frag}{g:Bool->Bool}{r p:Addr}{H:Hp}{Q:VK}:Mm K g (.ref r) (.ref p) H Q=∃(k:List Bool)(R:List (Addr×List Bool)),SqT K H r (k.map V.bl)/\SqL K H p (R.map λr=>V.ref r.1)/\(∀r∈R,SqT K H r.1 (r.2.map V.bl))/\Q (.bl (g (R.any λr=>r.2==k))) H:=rfl
def atR(R:List (Addr×List Bool))(k:List Bool):Value->Bool
 | .ref b=>R.any λr=>r.1==b&&r.2==k
 |_=>false
theorem Z2{pins:List (Addr×Obj)}{σ:St}{H:Hp}{s:Shared}(I:Inv X pins σ H s){R:List (Addr×List Bool)}(hR:∀r∈R,SqT X.K H r.1 (r.2.map V.bl))(k:List Bool){r:Addr×List Bool}(hr:r∈R):atR R k (.ref r.1)=(r.2==k):=by
 rw[vX];unfold atR;rw[xD];constructor
 ·rintro⟨q,hq,e⟩;rw[yQ,tT]at e;have h1:=hR q hq;rw[e.1]at h1;have:q.2=r.2:=List.map_inj_right (λ_ _ z=>V.bl.inj z) |>.mp (I.tuple_inj h1 (hR r hr))
  rw[<-this];exact e.2
 ·intro e;exact⟨r,hr,by rw[yQ];exact⟨uN _,e⟩⟩
theorem Sh{pins:List (Addr×Obj)}{σ:St}{H:Hp}{s:Shared}(I:Inv X pins σ H s){R:List (Addr×List Bool)}(hR:∀r∈R,SqT X.K H r.1 (r.2.map V.bl))(k:List Bool):((R.map (·.1)).map Value.ref).toArray.any (atR R k)=R.any λr=>r.2==k:=by
 rw[List.any_toArray,xX,List.any_map,vX,xD,xD];constructor
 ·rintro⟨r,hr,e⟩;exact⟨r,hr,by rw[<-Z2 I hR k hr];exact e⟩
 ·rintro⟨r,hr,e⟩;exact⟨r,hr,by rw[<-Z2 I hR k hr]at e;exact e⟩
theorem Pj{pins:List (Addr×Obj)}{σ:St}{H:Hp}{s:Shared}(I:Inv X pins σ H s)(hu:X.A.units+64<cLine){r p:Addr}{k:List Bool}{R:List (Addr×List Bool)}(hr:SqT X.K H r (k.map V.bl))(hp:SqL X.K H p (R.map λr=>V.ref r.1))(hR:∀r∈R,SqT X.K H r.1 (r.2.map V.bl)):
  s.heap.IsList p ((R.map (·.1)).map Value.ref).toArray/\∀y,y∈((R.map (·.1)).map Value.ref).toArray->SeqAt.EqAt X.A.in1 s y (.ref r) (atR R k y):=by
 obtain⟨aF,rv,pl,_⟩:=I.list hp;have e:aF=(R.map (·.1)).map Value.ref:=rg (by rw[xX];exact rv);subst e;refine⟨pl.isList,λy hy=>?_⟩;have pU:y∈(R.map (·.1)).map Value.ref:=by simpa using hy
 rw[xX]at pU;obtain⟨q,hq,rfl⟩:=zF.mp pU;show SeqAt.EqAt X.A.in1 s (.ref q.1) (.ref r) (atR R k (.ref q.1));rw[Z2 I hR k hq];exact Wf I (show X.A.units+1<cLine by lia) (hR q hq) hr
theorem Vq(hu:X.A.units+64<cLine):OpR X (compareOp .NotIn) (Mm X.K not):=by
 intro pins s σ H x y v u Q I rx ry h;obtain⟨r,p,rfl,rfl,k,R,hr,hp,hR,q⟩:=Lk (C:=λr p=>∃(k:List Bool)(R:List (Addr×List Bool)),SqT X.K H r (k.map V.bl)/\SqL X.K H p (R.map λr=>V.ref r.1)/\(∀r∈R,SqT X.K H r.1 (r.2.map V.bl))/\Q (.bl (!(R.any λr=>r.2==k))) H) h;cases rx;cases ry;obtain⟨h1,h2⟩:=Pj I hu hr hp hR;exact SeqAt.notIn_listAt (atR R k) h1 h2 ⟨.bl _,H,I,rfl,by rw[Sh I hR];exact q⟩
end
end
end My
namespace My
open PySem PySem.Spec PySem.W PySem.Calls L2
open AutoSeq1 (wpAny_loadPart')
open PyProof.Rows hiding St
theorem mm:fillsNumberSlot (.type "tuple") "mul"=pure false:=PySem.fillsNumberSlot_seq (id:="tuple.__mul__") (r:=some (.builtin "tuple.__rmul__")) F.slot_tuple_mul.lookup (by decide +kernel) F.slot_tuple_rmul.lookup (by decide +kernel)
theorem bw:seqRepeat? (.type "tuple")=pure (some (.builtin "tuple.__mul__")):=by
 unfold seqRepeat?;rw[PySem.seqSlot_of (T:="tuple") (name:="__mul__") (id:="tuple.__mul__") F.slot_tuple_mul.lookup (by decide +kernel),PySem.seqSlot_of (T:="tuple") (name:="__rmul__") (id:="tuple.__rmul__") F.slot_tuple_rmul.lookup (by decide +kernel)];rfl
theorem i4(a:Int)(t:Tok)(l:Addr)(items:Array Value)(n:Nat)(rA:Option Addr)(sl:Array (Option Value)):Meets (Builtin.«int.__rmul__» ⟨[.int a t,.ref l],[]⟩) (λ_ R s=>s.heap.get? l=some { cls:=.type "tuple",dict:=rA,data:=.seq items n,slots:=sl }/\R (.ok (.ret Value.notImplemented)) s) :=
 .of_wp λprog w A R s h=>by obtain⟨hp,g,d,tk,os⟩:=s;obtain⟨hl,h⟩:=h;wp_walk;exact⟨_,rfl,h⟩
theorem io(l:Addr)(items:Array Value)(n:Nat)(rA:Option Addr)(sl:Array (Option Value))(x:Int)(u:Tok)(h1:-(2 ^ 63)<=x)(h2:x<2 ^ 63)(hc:(items.isEmpty||x==1)=true):Meets (Builtin.«tuple.__mul__» ⟨[.ref l,.int x u],[]⟩) (λ_ R s=>s.heap.get? l=some { cls:=.type "tuple",dict:=rA,data:=.seq items n,slots:=sl }/\R (.ok (.ret (.ref l))) s) :=
 .of_wp λprog w A R s h=>by
  obtain⟨hp,g,d,tk,os⟩:=s;obtain⟨hl,h⟩:=h;have f2:=AutoSeq1.sub_tuple_tuple;have hb:¬(decide (x < -(2 ^ 63))||decide (x≥2 ^ 63))=true:=by simp;lia
  wp_walk using xO hl
  rw[yY hb]
  wp_walk using xO hl
  exact⟨_,rfl,h⟩
theorem eh(l:Addr)(items:Array Value)(n:Nat)(rA:Option Addr)(sl:Array (Option Value))(x:Int)(u:Tok)(h1:2<=x)(h2:x<2 ^ 60)(h0:¬(items.isEmpty||x==1)=true)(hsz:items.size*x.toNat<=1000)(hz:(List.foldl (λx1 x2=>x1++x2) #[] (List.replicate x.toNat items)).size<=sizeLine):Meets (Builtin.«tuple.__mul__» ⟨[.ref l,.int x u],[]⟩) (λ_ R s=>s.heap.get? l=some { cls:=.type "tuple",dict:=rA,data:=.seq items n,slots:=sl }/\R (.ok (.ret (.ref s.heap.objs.size))) { s with heap:=s.heap.push { cls:=.type "tuple",data:=.seq (List.foldl (λx1 x2=>x1++x2) #[] (List.replicate x.toNat items)) } }) :=
 .of_wp λprog w A R s h=>by
  obtain⟨hp,g,d,tk,os⟩:=s;obtain⟨hl,h⟩:=h;have f2:=AutoSeq1.sub_tuple_tuple;have hb:¬(decide (x < -(2 ^ 63))||decide (x≥2 ^ 63))=true:=by simp;lia
  wp_walk using xO hl
  rw[yY hb]
  wp_walk using xO hl
  have hb2:¬(decide (x<=0)||items.isEmpty)=true:=by
   rw[Bool.or_eq_true,decide_eq_true_eq];rintro(z|z)
   ·lia
   ·exact h0 (by rw[z];rfl)
  have hsz':(items.size:Int)*x<=1000:=by
   have e:x=((x.toNat:Nat):Int):=by lia
   rw[e]
   exact_mod_cast hsz
  rw[yY hb2];dsimp only;rw[yY (show¬(items.size:Int)*x>(2 ^ 63-1) / 8 by lia)];have hb3:¬Builtin.Tuple.tupleTooMany ((items.size:Int)*x)=true:=by
   unfold Builtin.Tuple.tupleTooMany;rw[zD,decide_eq_true_eq];lia
  rw[yY hb3]
  wp_walk using xO hl
  exact⟨_,rfl,h⟩
section
variable {X:Cx}
def Rx(K:W.Frag):R2:=λx y H Q=>match x,y with
 | .ref a,.int k=>∃xs,SqT K H a xs/\1<=k/\k<2 ^ 60/\xs.length*k.toNat<=1000/\∀(p:Addr)(H':Hp),Same H H'->SqT K H' p (List.replicate k.toNat xs).flatten->Q (.ref p) H'
 |_,_=>False
theorem Q8{K:W.Frag}{a:Addr}{k:Int}{H:Hp}{Q:VK}:Rx K (.ref a) (.int k) H Q=∃xs,SqT K H a xs/\1<=k/\k<2 ^ 60/\xs.length*k.toNat<=1000/\∀(p:Addr)(H':Hp),Same H H'->SqT K H' p (List.replicate k.toNat xs).flatten->Q (.ref p) H':=rfl
theorem Ll{C:Addr->Int->Prop}{x y:V}(h:match x,y with|.ref r,.int p=>C r p|_,_=>False):∃r p,x = .ref r/\y = .int p/\C r p:=by
 cases x with
 |ref r =>
  cases y with
  |int p=>exact⟨r,p,rfl,rfl,h⟩
  |_=>exact(show False from h).elim
 |_=>exact(show False from by cases y<;>exact h).elim
theorem qt:OpR X (binaryOp .Mult) (Rx X.K):=by
 intro pins s σ H x y v u Q I rx ry h;obtain⟨a,k,rfl,rfl,xs,hq,h1,h2,hsz,q⟩:=Ll (C:=λa k=>∃xs,SqT X.K H a xs/\1<=k/\k<2 ^ 60/\xs.length*k.toNat<=1000/\∀(p:Addr)(H':Hp),Same H H'->SqT X.K H' p (List.replicate k.toNat xs).flatten->Q (.ref p) H') h;cases rx;obtain⟨t,rfl⟩:=ry;obtain⟨aF,r,p1,hz⟩:=I.tuple hq;have hl:=r.length;obtain⟨⟨cls,rA,dt,sl⟩,e,hc,n,hd⟩:=(show s.heap.IsTuple a aF.toArray from p1)
 replace hc:cls = .type "tuple":=hc;replace hd:dt = .seq aF.toArray n:=hd;subst hc hd;refine wpAny_binaryOp_repeat_ref (T:="tuple") (U:="int") (by decide) ⟨_,e,rfl⟩ (λs'=>typeIs_int s' k t) mm F.fills_int_mul F.slot_int_rmul bw F.slot_int_index.lookup
  (tD F.slot_int_rmul (typeIs_int s k t) F.entry_int_rmul (F.args_int_rmul_2 _ _) (i4 k t a aF.toArray n rA sl) ⟨e,rfl,⟨_,e,rfl⟩,?_⟩)
 have f0:List.foldl (λx1 x2=>x1++x2) #[] (List.replicate k.toNat aF.toArray)=(List.replicate k.toNat aF).flatten.toArray:=by
  have:=jq aF k.toNat [];rw[List.nil_append]at this;exact this
 have aN:(List.replicate k.toNat aF).flatten.length=k.toNat*aF.length:=oq _ _
 by_cases hc:(aF.toArray.isEmpty||k==1)=true
 ·refine tD F.slot_tuple_mul ⟨_,e,rfl⟩ F.entry_tuple_mul (F.args_tuple_mul_2 _ _) (io a aF.toArray n rA sl k t (by lia) (by lia) hc) ⟨e,?_⟩;refine⟨.ref a,H,I,rfl,q a H (Same.refl _) ?_⟩;rw[Bool.or_eq_true]at hc;rcases hc with hc|hc
  ·have:aF=[]:=by simpa using hc
   have hx:xs=[]:=wN.mp (by rw[hl,this];rfl);have e0:(List.replicate k.toNat xs).flatten=xs:=by rw[hx];simp
   rw[e0];exact hq
  ·have:k=1:=by simpa using hc
   subst this;have e0:(List.replicate (1:Int).toNat xs).flatten=xs:=by simp
   rw[e0];exact hq
 ·have h2k:2<=k:=by
   have:¬k=1:=λz=>hc (by rw[z];simp);lia
  refine tD F.slot_tuple_mul ⟨_,e,rfl⟩ F.entry_tuple_mul (F.args_tuple_mul_2 _ _) (eh a aF.toArray n rA sl k t h2k h2 hc (by rw[zQ,<-hl];exact hsz) (by rw[f0,zQ,aN,zD,<-hl,Nat.mul_comm];lia)) ⟨e,?_⟩;rw[f0];have hf:H s.heap.objs.size=none:=I.hok.fresh (zS _);refine⟨.ref s.heap.objs.size,upd H s.heap.objs.size (.tup (List.replicate k.toNat xs).flatten),I.laid (t':=s.toks) (λb u e=>zY _ e) (zS _) ?_,rfl,q _ _ (xg hf _) (SqT.of zy)⟩;exact⟨by rw[oq,zD,Nat.mul_comm];lia,_,r.rep k.toNat,⟨_,zR _ rfl,rfl,_,rfl⟩⟩
end
end My
namespace My
open PySem PySem.Spec L2
open PyProof.Rows hiding St
section
variable {X:Cx}
def K9(K:W.Frag):List V->Hp->VK->Prop:=λxs H Q=>match xs with
 |[.ref p]=>∃ns:List Int,SqL K H p (ns.map V.int)/\Q (.int ns.sum) H
 |_=>False
theorem Ob{K:W.Frag}{H:Hp}{Q:VK}{p:Addr}:K9 K [.ref p] H Q=(∃ns:List Int,SqL K H p (ns.map V.int)/\Q (.int ns.sum) H):=rfl
theorem bt{ns:List Int}{aF:List Value}{xs:Array (Int×Tok)}(hi:IntsAre aF ns)(hx:aF.toArray=intItems xs):preSum (numAt xs) xs.size=ns.sum:=by
 have h1:numsOf aF.toArray.toList=ns:=hi.numsOf;rw[hx,nums_intItems]at h1;have h2:=preSum_eq xs xs.size;rw[h1]at h2;rw[h2]
 congr 1
 rw[<-h1];exact vH (uK (by simp))
theorem Pd:bootBuiltins "sum"=some (.builtin "sum"):=by decide +kernel
end
structure Kr(K:W.Frag)(x:Str)(st:Stmt)(f:Addr)(fd:FuncData):Prop where
 ex:∃(oc:Value)(od:Option Addr)(dV kV doc pm:Value)(an:Option Addr)(cdv ct:Value)(osl:Array (Option Value)),
  fd=W.fnOf x x (zk st) (zq st) (z0 st) dV kV doc pm an cdv ct/\K.lookup f=some ⟨oc,od,.func fd,osl⟩/\W.codeIn K cdv x=true
 kp:W.keepIn K (.ref f)=true
structure Km(K:W.Frag)(mg:Str->Option Value)(x:Str)(st:Stmt)(ps:List Str)(ds:List Value):Prop where
 ex:∃(f:Addr)(fd:FuncData),Kr K x st f fd/\Binds K fd ps []/\Binds K fd ps ds/\mg x=some (.ref f)
structure Lq(P:Program)(w:World)(K:W.Frag)(mg:Str->Option Value)(base:Heap)(k:Nat)(x:Str)(ps:List Str)(ds:List Value)(sp:Sp):Prop where
 ex:∃(f:Addr)(fd:FuncData),ul P w K mg base CX0 k f fd ps sp/\Binds K fd ps []/\Binds K fd ps ds/\W.keepIn K (.ref f)=true/\mg x=some (.ref f)
section
variable {P:Program}{w:World}{K:W.Frag}{mg:Str->Option Value}{base:Heap}
end
section
variable {X:Cx}
def Na(R:It->Hp->Prop):List V->Hp->Prop:=λvs H=>match vs with
 |[.int i,.int j]=>(-(2 ^ 62)<=i/\i<2 ^ 62/\-(2 ^ 62)<=j/\j<2 ^ 62)/\R (Itr i (j-i).toNat) H
 |_=>False
theorem Tf{R:It->Hp->Prop}{i j:Int}{H:Hp}:Na R [.int i,.int j] H=((-(2 ^ 62)<=i/\i<2 ^ 62/\-(2 ^ 62)<=j/\j<2 ^ 62)/\R (Itr i (j-i).toNat) H):=rfl
def iR2(ta:TA):TI:=fun σ H R=>ta σ H (Na R)
end
theorem d6{J:It}{n:Nat}{g:TG}{tb:TS}{D:u9}{σ:St}{H:Hp}(Pv:Nat->St->Hp->Prop)(h0:Pv 0 σ H)
  (hgo:∀i σ H,i<n->Pv i σ H->J.go i H) (gO:∀σ H,Pv n σ H->J.stop n H)
  (hs:∀i v σ H H',i<n->Pv i σ H->J.yld i H v H'->g v σ H' fun σ2 H2=>tb { D with nx:=Pv (i+1),ct:=Pv (i+1),bk:=D.nx } σ2 H2) (hd:∀σ H,Pv n σ H->D.nx σ H):Zz g tb J D σ H:=by
 refine⟨λi m σ H=>m=n-i/\i<=n/\Pv i σ H,⟨n,by simp,yO _,h0⟩,?_⟩;rintro i m σ H ⟨rfl,hi,p⟩
 by_cases aS:i<n
 ·exact .inr ⟨hgo i σ H aS p,Pv (i+1),fun σ' H' p'=>⟨n-(i+1),by lia,rfl,aS,p'⟩,λx H' y=>hs i x σ H H' aS p y⟩
 ·have e:i=n:=by lia
  subst e;exact .inl ⟨gO σ H p,hd σ H p⟩
theorem al{K:W.Frag}{a:Addr}{xs:List V}{j k:Nat}{tb:TS}{D:u9}{σ:St}{H:Hp}(Pv:Nat->St->Hp->Prop)(h0:Pv 0 σ H)(hl:∀i σ H,i<=xs.length->Pv i σ H->SqT K H a xs)
  (hs:∀(i:Nat) x σ H H',xs[i]?=some x->Pv i σ H->Same H H'->tb { D with nx:=Pv (i+1),ct:=Pv (i+1),bk:=D.nx } (sv (sv σ j (.int (i:Int))) k x) H') (hd:∀σ H,Pv xs.length σ H->D.nx σ H) :
  Zz (mG2 K j k) tb (Ite K a) D σ H :=
 d6 (n:=xs.length) Pv h0 (λi σ H hi p=>⟨xs,xs[i],hl i σ H (xT hi) p,by simp[hi]⟩) (fun σ H p=>⟨xs,hl _ σ H (zS _) p,rfl⟩) (λi v σ H H' hi p y=>by
  obtain⟨b,x,rfl,hn,rfl,hx⟩:=y;exact⟨b,_,_,rfl,SqT.of zy,hs i x σ H _ (hx xs (hl i σ H (xT hi) p)) p (xg hn _)⟩) hd
end My
namespace My
open PySem PySem.Spec PySem.W PySem.Calls L2
open PyProof.Rows hiding St
section
theorem xn{h:Heap}{a b:Addr}{oa ob:Obj}(ha:h.get? a=some oa)(hb:h.get? b=some ob)(hc:oa.cls≠ob.cls):a≠b:=λz=>by
 subst z;rw[ha]at hb;cases hb;exact hc rfl
def Ko(z tI tO i1 i2 l1 l2:Addr)(i:Nat)(h:Heap):Prop:=IsZip h z tI tO .none/\IsPair h tI (.ref i1) (.ref i2)/\(∃u v,IsPair h tO u v)/\h.IsListIter i1 l1 i/\h.IsListIter i2 l2 i
def Itz(K:W.Frag)(a b:Addr):It :=
 ⟨λi H=>∃xs ys x y,SqL K H a xs/\SqL K H b ys/\xs[i]?=some x/\ys[i]?=some y,λi H v H'=>∃p x y,v = .ref p/\H p=none/\H'=upd H p (.tup [x,y])/\(∀xs,SqL K H a xs->xs[i]?=some x)/\∀ys,SqL K H b ys->ys[i]?=some y,λi H=>∃xs ys,SqL K H a xs/\SqL K H b ys/\xs.length=i/\ys.length=i⟩
section
variable {X:Cx}
theorem Pe:bootBuiltins "zip"=some (.type "zip"):=by decide +kernel
def onZ(K:W.Frag)(R:It->Hp->Prop):List V->Hp->Prop:=λvs H=>match vs with
 |[.ref a,.ref b]=>((∃xs,SqL K H a xs)/\∃ys,SqL K H b ys)/\R (Itz K a b) H
 |_=>False
theorem Qb{K:W.Frag}{R:It->Hp->Prop}{a b:Addr}{H:Hp}:onZ K R [.ref a,.ref b] H=(((∃xs,SqL K H a xs)/\∃ys,SqL K H b ys)/\R (Itz K a b) H):=rfl
def iZp(K:W.Frag)(ta:TA):TI:=fun σ H R=>ta σ H (onZ K R)
end
section
variable {X:Cx}
def Mr(K:W.Frag):List V->Hp->VK->Prop:=λxs H Q=>match xs with
 |[.ref p]=>∃ns:List Int,SqL K H p (ns.map V.int)/\0<ns.length/\∀M,M∈ns->(∀a∈ns,M<=a)->Q (.int M) H
 |_=>False
theorem Q7{K:W.Frag}{H:Hp}{Q:VK}{p:Addr}:Mr K [.ref p] H Q=(∃ns:List Int,SqL K H p (ns.map V.int)/\0<ns.length/\∀M,M∈ns->(∀a∈ns,M<=a)->Q (.int M) H):=rfl
end
end
section
structure ZA(z tI tO i1 i2:Addr)(f1 f2:List Addr):Prop where
 tz:tI≠z
 oz:tO≠z
 az:i1≠z
 bz:i2≠z
 to:tI≠tO
 ta:tI≠i1
 tb:tI≠i2
 oa:tO≠i1
 ob:tO≠i2
 ab:i1≠i2
 g1:∀b∈f1,b≠z/\b≠tO/\b≠i2
 g2:∀b∈f2,b≠z/\b≠tO/\b≠i1
section
variable {prog:Program}{w:World}{A:Around}{E:Value->Shared->Prop}{s:Shared}{z tI tO i1 i2:Addr}{f1 f2:List Addr}{n1 n2 k1 k2:Nat}{P1 P2:Nat->Value->Prop}{S1 S2:Nat->Heap->Prop}{u v:Value}
theorem W3{Q:Value->Shared->Prop}(D:ZA z tI tO i1 i2 f1 f2)(D1:Draws prog w A i1 f1 n1 P1 S1)(D2:Draws prog w A i2 f2 n2 P2 S2)
  (hz:IsZip s.heap z tI tO .none) (hI:IsPair s.heap tI (.ref i1) (.ref i2)) (hO:IsPair s.heap tO u v) (h1:S1 k1 s.heap) (h2:S2 k2 s.heap) (l1:k1<n1) (l2:k2<n2)
  (hQ:∀x y h' tk,P1 k1 x->P2 k2 y->IsZip h' z tI tO (rawInt s.heap.objs.size)->IsPair h' tO x y->S1 (k1+1) h'->S2 (k2+1) h'->IsPair h' s.heap.objs.size x y ->
   (∀c o,c≠z->c≠tO->c≠i1->c≠i2->s.heap.get? c=some o->h'.get? c=some o)->Q (.ref s.heap.objs.size) { s with heap:=h',toks:=tk }) :
  wpAny (model prog w) A (Builtin.«zip.__next__» ⟨[.ref z],[]⟩) (λcB s'=>∃v,cB = .done (.ret v)/\Q v s') E s:=by
 refine(show wpAny _ _ (field (.ref z) 2 >>= _) _ _ _ from zZ (yI hz rfl (x:=.bool false) rfl ?_));refine(show wpAny _ _ (field (.ref z) 3 >>= _) _ _ _ from zZ (yI hz rfl (x:=.ref tI) rfl (zZ (xA hI rfl ?_))));refine(show wpAny _ _ (Builtin.SmallTypes.ownedTupleIsFree (.ref z) >>= _) _ _ _ from zZ ?_);unfold Builtin.SmallTypes.ownedTupleIsFree;refine zZ (yI hz rfl (x:=.none) rfl (zV ?_));simp only[if_true];refine zZ (tV (zZ (yI hz rfl (x:=.ref tO) rfl (zZ (wB hz (by simp) λg1 mT q1=>?_)))));replace mT:IsZip g1 z tI tO .ellipsis:=mT;have Cq:∀c o,c≠z->s.heap.get? c=some o->g1.get? c=some o:=λc o h e=>q1.extBut c o h e;refine zZ ?_;simp only[List.zipIdx_cons,List.zipIdx_nil,List.forIn_cons,List.forIn_nil];refine zZ (zZ (wpAny_onRaise (show wpAny _ _ (Builtin.SmallTypes.nextOf (.ref i1) >>= _) _ _ _ from zZ ?_)));refine D1.item k1 { s with heap:=g1 } _ _ l1 (D1.frame _ _ _ h1 λb hb o e=>Cq b o (D.g1 b hb).1 e) λx g2 t2 hx Bv q2=>zV ?_;have hO2:IsPair g2 tO u v:=q2.extBut _ _ D.oa (Cq _ _ D.oz hO);refine zZ (xA hO2 rfl (zZ (wpAny_updateSeq_pair hO2 λg3 hO3 q3=>?_)));replace hO3:IsPair g3 tO x v:=hO3;have kp3:∀c o,c≠z->c≠tO->c≠i1->s.heap.get? c=some o->g3.get? c=some o:=λc o c1 c2 c3 e=>q3.extBut _ _ c2 (q2.extBut _ _ c3 (Cq c o c1 e));refine zZ (wpAny_letGo (zV (zZ (zZ (wpAny_onRaise (show wpAny _ _ (Builtin.SmallTypes.nextOf (.ref i2) >>= _) _ _ _ from zZ ?_))))));refine D2.item k2 { s with heap:=g3,toks:=t2 } _ _ l2 (D2.frame _ _ _ h2 λb hb o e=>kp3 b o (D.g2 b hb).1 (D.g2 b hb).2.1 (D.g2 b hb).2.2 e) λy g4 t4 hy kX q4=>zV ?_;have hO4:IsPair g4 tO x v:=q4.extBut _ _ D.ob hO3;refine zZ (xA hO4 rfl (zZ (wpAny_updateSeq_pair hO4 λg5 hO5 q5=>?_)));replace hO5:IsPair g5 tO x y:=hO5;have kp5:∀c o,c≠z->c≠tO->c≠i1->c≠i2->s.heap.get? c=some o->g5.get? c=some o:=λc o c1 c2 c3 c4 e=>q5.extBut _ _ c2 (q4.extBut _ _ c4 (kp3 c o c1 c2 c3 e));have hz5:IsZip g5 z tI tO .ellipsis:=q5.extBut _ _ D.oz.symm (q4.extBut _ _ D.bz.symm (q3.extBut _ _ D.oz.symm (q2.extBut _ _ D.az.symm mT)));have sz5:g5.objs.size=s.heap.objs.size:=by rw[q5.1,q4.1,q3.1,q2.1,q1.1]
 have a5:S1 (k1+1) g5:=D1.frame _ _ _ Bv λb hb o e=>q5.extBut _ _ (D.g1 b hb).2.1 (q4.extBut _ _ (D.g1 b hb).2.2 (q3.extBut _ _ (D.g1 b hb).2.1 e));have b5:S2 (k2+1) g5:=D2.frame _ _ _ kX λb hb o e=>q5.extBut _ _ (D.g2 b hb).2.1 e;refine zZ (wpAny_letGo (zV (zV (zZ (xA hO5 rfl (zZ (wpAny_newTuple ?_)))))));have zl:z<g5.objs.size:=zT hz5;refine(show wpAny _ _ (Builtin.SmallTypes.ownedTupleHandOut (.ref z) (.ref g5.objs.size) >>= _) _ _ _ from zZ ?_);unfold Builtin.SmallTypes.ownedTupleHandOut;have hz6:IsZip (g5.push { cls:=.type "tuple",data:=.seq #[x,y] }) z tI tO .ellipsis:=zY _ hz5;refine zZ (wB hz6 (by simp) λg7 hz7 q7=>?_);replace hz7:IsZip g7 z tI tO (rawInt g5.objs.size):=hz7;refine wB hz7 (by simp) λg8 hz8 q8=>?_;replace hz8:IsZip g8 z tI tO (rawInt g5.objs.size):=hz8;have up:∀c o,c≠z->g5.get? c=some o->g8.get? c=some o:=λc o c1 e=>q8.extBut _ _ c1 (q7.extBut _ _ c1 (zY _ e));have hT8:IsPair g8 g5.objs.size x y:=q8.extBut _ _ (wO zl) (q7.extBut _ _ (wO zl) (zR _ rfl));rw[sz5]at hz8 hT8;refine zV ⟨_,rfl,(show Q (.ref g5.objs.size) _ from ?_)⟩;rw[sz5];exact hQ x y g8 _ hx hy hz8 (up _ _ D.oz hO5) (D1.frame _ _ _ a5 λb hb o e=>up b o (D.g1 b hb).1 e) (D2.frame _ _ _ b5 λb hb o e=>up b o (D.g2 b hb).1 e) hT8 λc o c1 c2 c3 c4 e=>up c o c1 (kp5 c o c1 c2 c3 c4 e)
theorem Ub{Q:Fin->Shared->Prop}(D:ZA z tI tO i1 i2 f1 f2)(D1:Draws prog w A i1 f1 n1 P1 S1)
  (hz:IsZip s.heap z tI tO .none) (hI:IsPair s.heap tI (.ref i1) (.ref i2)) (hO:IsPair s.heap tO u v) (h1:S1 n1 s.heap)
  (hE:∀h' e,(∀c o,c≠z->c≠i1->s.heap.get? c=some o->h'.get? c=some o)->(∃o,h'.get? e=some o/\o.cls = .type "StopIteration")->E (.ref e) { s with heap:=h' }) :
  wpAny (model prog w) A (Builtin.«zip.__next__» ⟨[.ref z],[]⟩) Q E s:=by
 refine(show wpAny _ _ (field (.ref z) 2 >>= _) _ _ _ from zZ (yI hz rfl (x:=.bool false) rfl ?_));refine(show wpAny _ _ (field (.ref z) 3 >>= _) _ _ _ from zZ (yI hz rfl (x:=.ref tI) rfl (zZ (xA hI rfl ?_))));refine(show wpAny _ _ (Builtin.SmallTypes.ownedTupleIsFree (.ref z) >>= _) _ _ _ from zZ ?_);unfold Builtin.SmallTypes.ownedTupleIsFree;refine zZ (yI hz rfl (x:=.none) rfl (zV ?_));simp only[if_true];refine zZ (tV (zZ (yI hz rfl (x:=.ref tO) rfl (zZ (wB hz (by simp) λg1 mT q1=>?_)))));replace mT:IsZip g1 z tI tO .ellipsis:=mT;have Cq:∀c o,c≠z->s.heap.get? c=some o->g1.get? c=some o:=λc o h e=>q1.extBut c o h e;refine zZ ?_;simp only[List.zipIdx_cons,List.zipIdx_nil,List.forIn_cons,List.forIn_nil];refine zZ (zZ (wpAny_onRaise (show wpAny _ _ (Builtin.SmallTypes.nextOf (.ref i1) >>= _) _ _ _ from zZ ?_)));refine D1.done { s with heap:=g1 } _ _ (D1.frame _ _ _ h1 λb hb o e=>Cq b o (D.g1 b hb).1 e) λg2 e q2 he=>?_;obtain⟨oe,ho,hc⟩:=he;have AN:IsZip g2 z tI tO .ellipsis:=q2 _ _ D.az.symm mT;have hez:e≠z:=λq=>by
  subst q;have hz2':g2.get? e=some _:=AN;rw[hz2']at ho;cases ho;simp at hc
 refine wB (s:={ s with heap:=g2 }) AN (by simp) λg3 _ q3=>hE g3 e (λc o c1 c2 x=>q3.extBut _ _ c1 (q2 _ _ c2 (Cq c o c1 x))) ⟨oe,q3.extBut _ _ hez ho,hc⟩
theorem cx{Q:Option Value->Shared->Prop}(D:ZA z tI tO i1 i2 f1 f2)(D1:Draws prog w A.in1 i1 f1 n1 P1 S1)(D2:Draws prog w A.in1 i2 f2 n2 P2 S2)
  (hz:IsZip s.heap z tI tO .none) (hI:IsPair s.heap tI (.ref i1) (.ref i2)) (hO:IsPair s.heap tO u v) (h1:S1 k1 s.heap) (h2:S2 k2 s.heap) (l1:k1<n1) (l2:k2<n2)
  (hQ:∀x y h' tk,P1 k1 x->P2 k2 y->IsZip h' z tI tO (rawInt s.heap.objs.size)->IsPair h' tO x y->S1 (k1+1) h'->S2 (k2+1) h'->IsPair h' s.heap.objs.size x y ->
   (∀c o,c≠z->c≠tO->c≠i1->c≠i2->s.heap.get? c=some o->h'.get? c=some o)->Q (some (.ref s.heap.objs.size)) { s with heap:=h',toks:=tk }):wpAny (model prog w) A (pyNext (.ref z)) Q E s:=by
 have hT:s.TypeIs (.ref z) "zip":=⟨_,hz,rfl⟩
 unfold pyNext;exact zZ (sX (xW (name:=Str.ofString "__next__") hT uX (yA uX hT F.entry_zip_next (W3 D D1 D2 hz hI hO h1 h2 l1 l2 λx y h' tk p1 p2 c1 c2 c3 c4 c5 c6=>zV (hQ x y h' tk p1 p2 c1 c2 c3 c4 c5 c6)) (F.args_zip_next_1 _))))
theorem Yu{Q:Option Value->Shared->Prop}(D:ZA z tI tO i1 i2 f1 f2)(D1:Draws prog w A.in1 i1 f1 n1 P1 S1)
  (hz:IsZip s.heap z tI tO .none) (hI:IsPair s.heap tI (.ref i1) (.ref i2)) (hO:IsPair s.heap tO u v) (h1:S1 n1 s.heap)
  (hQ:∀h',(∀c o,c≠z->c≠i1->s.heap.get? c=some o->h'.get? c=some o)->Q none { s with heap:=h' }):wpAny (model prog w) A (pyNext (.ref z)) Q E s:=by
 have hT:s.TypeIs (.ref z) "zip":=⟨_,hz,rfl⟩
 unfold pyNext;refine zZ (sX (xW (name:=Str.ofString "__next__") hT uX (yA uX hT F.entry_zip_next (Ub D D1 hz hI hO h1 λh' e hk he=>?_) (F.args_zip_next_1 _))));obtain⟨o,ho,hc⟩:=he;exact zZ (tF (T:="StopIteration") (b:=true) ⟨o,ho,hc⟩ isSubtype_stop (zV (hQ _ hk)))
end
def zt1(h:Heap)(a:Addr):Heap:=h.push (og a)
def zt2(h:Heap)(a b:Addr):Heap:=(zt1 h a).push (og b)
def zt3(h:Heap)(a b:Addr):Heap:=(zt2 h a b).push { cls:=.type "tuple",data:=.seq #[.ref h.objs.size,.ref (zt1 h a).objs.size] }
def zt4(h:Heap)(a b:Addr):Heap:=(zt3 h a b).push { cls:=.type "tuple",data:=.seq #[.none,.none] }
def zt5(h:Heap)(a b:Addr):Heap:=(zt4 h a b).push { cls:=.type "zip",data:=.fields #[.none,.bool false,.bool false,.ref (zt2 h a b).objs.size,.ref (zt3 h a b).objs.size] }
theorem W4(a b:Addr)(xs ys:Array Value):Meets (Builtin.«zip.__new__» ⟨[.type "zip",.ref a,.ref b],[]⟩) (λ_ R s=>s.heap.IsTuple a xs/\s.heap.IsTuple b ys /\
  R (.ok (.ret (.ref (zt4 s.heap a b).objs.size))) { s with heap:=zt5 s.heap a b }) :=
 .of_wp λprog w A R s h=>by
  obtain⟨hp,g,d,tk,os⟩:=s;obtain⟨ha,hb,h⟩:=h;have iH:=sub_zip;have hA:Heap.IsTuple (Shared.heap ⟨hp,g,d,tk,os⟩) a xs:=ha;have hB:Heap.IsTuple (Shared.heap ⟨hp.push { cls:=.type "tuple_iterator",data:=.fields #[.ref a,.int 0 0] },g,d,tk,os⟩) b ys:=hb.elim λo ho=>⟨o,zY _ ho.1,ho.2⟩
  wp_walk using wR hA,wR hB
  exact⟨_,rfl,h⟩
section
variable {prog:Program}{w:World}{A:Around}{E:Value->Shared->Prop}{s:Shared}
theorem Xd{a b:Addr}{xs ys:Array Value}{Q:Value->Shared->Prop}(ha:s.heap.IsTuple a xs)(hb:s.heap.IsTuple b ys)
  (h:∀h',IsZip h' (s.heap.objs.size+4) (s.heap.objs.size+2) (s.heap.objs.size+3) .none->IsPair h' (s.heap.objs.size+2) (.ref s.heap.objs.size) (.ref (s.heap.objs.size+1))->IsPair h' (s.heap.objs.size+3) .none .none ->
   h'.IsTupleIter s.heap.objs.size a 0->h'.IsTupleIter (s.heap.objs.size+1) b 0->(∀c o,s.heap.get? c=some o->h'.get? c=some o)->Q (.ref (s.heap.objs.size+4)) { s with heap:=h' }):wpAny (model prog w) A (call (.type "zip") [.ref a,.ref b]) Q E s:=by
 refine callType_new F.called_zip (by decide) (F.typeCall_zip_2 _ _) (F.newCall_zip_2 _ _) (λobj=>F.args_object_init_3 obj _ _) F.entry_zip_new (W4 a b xs ys) ⟨ha,hb,?_⟩;have y1:(zt1 s.heap a).objs.size=s.heap.objs.size+1:=xI ..;have y2:(zt2 s.heap a b).objs.size=s.heap.objs.size+2:=by unfold zt2;rw[xI,y1]
 have y3:(zt3 s.heap a b).objs.size=s.heap.objs.size+3:=by unfold zt3;rw[xI,y2]
 have y4:(zt4 s.heap a b).objs.size=s.heap.objs.size+4:=by unfold zt4;rw[xI,y3]
 have p5:(zt5 s.heap a b).get? (zt4 s.heap a b).objs.size=some _:=zR _ rfl;have p4:(zt5 s.heap a b).get? (zt3 s.heap a b).objs.size=some _:=zY _ (zR _ rfl);have k3:∀c o,(zt3 s.heap a b).get? c=some o->(zt5 s.heap a b).get? c=some o:=λc o e=>zY _ (zY _ e);have p3:(zt5 s.heap a b).get? (zt2 s.heap a b).objs.size=some _:=k3 _ _ (zR _ rfl);have p2:(zt5 s.heap a b).get? (zt1 s.heap a).objs.size=some _:=k3 _ _ (zY _ (zR _ rfl));have p1:(zt5 s.heap a b).get? s.heap.objs.size=some _:=k3 _ _ (zY _ (zY _ (zR _ rfl)));show _/\_;rw[y2,y3,y4]at p5;rw[y1,y2]at p3;rw[y3]at p4;rw[y1]at p2;rw[y4];exact⟨⟨_,p5,rfl⟩,h _ p5 p3 p4 ⟨_,p1,rfl,rfl⟩ ⟨_,p2,rfl,rfl⟩ λc o x=>k3 _ _ (zY _ (zY _ (zY _ x)))⟩
end
def ZtSt(z tI tO i1 i2 l1 l2:Addr)(i:Nat)(h:Heap):Prop:=IsZip h z tI tO .none/\IsPair h tI (.ref i1) (.ref i2)/\(∃u v,IsPair h tO u v)/\h.IsTupleIter i1 l1 i/\h.IsTupleIter i2 l2 i
theorem ZtSt.lt{z tI tO i1 i2 l1 l2:Addr}{i:Nat}{h:Heap}(st:ZtSt z tI tO i1 i2 l1 l2 i h):∀b∈[z,tI,tO,i1,i2],b<h.objs.size:=λb hb=>by
 obtain⟨hz,hI,⟨u,v,hO⟩,⟨oa,ea,_⟩,⟨ob,eb,_⟩⟩:=st;simp only[zG,uP,or_false]at hb;rcases hb with rfl|rfl|rfl|rfl|rfl
 ·exact zT hz
 ·exact zT hI
 ·exact zT hO
 ·exact zT ea
 ·exact zT eb
theorem gk{h:Heap}{z tI tO i1 i2 l1 l2:Addr}{i:Nat}{xs ys:Array Value}(t:tI≠tO)(ii:i1≠i2)(l1o:l1≠tO)(l2o:l2≠tO)(st:ZtSt z tI tO i1 i2 l1 l2 i h)(h1:h.IsTuple l1 xs)(h2:h.IsTuple l2 ys):ZA z tI tO i1 i2 [i1,l1] [i2,l2]:=by
 obtain⟨hz,hI,⟨u,v,hO⟩,⟨oa,ea,ca,_⟩,⟨ob,eb,cb,_⟩⟩:=st;obtain⟨o1,e1,c1,_⟩:=h1;obtain⟨o2,e2,c2,_⟩:=h2;have oO:h.get? z=some _:=hz;have hI':h.get? tI=some _:=hI;have Ii:h.get? tO=some _:=hO;refine⟨xn hI' oO (by simp),xn Ii oO (by simp),xn ea oO (by rw[ca];simp),xn eb oO (by rw[cb];simp),t,xn hI' ea (by rw[ca];simp),xn hI' eb (by rw[cb];simp),xn Ii ea (by rw[ca];simp),xn Ii eb (by rw[cb];simp),ii,λb hb=>?_,λb hb=>?_⟩
 ·rcases zG.mp hb with rfl|hb
  ·exact⟨xn ea oO (by rw[ca];simp),(xn Ii ea (by rw[ca];simp)).symm,ii⟩
  ·rw[zW.mp hb];exact⟨xn e1 oO (by rw[c1];simp),l1o,xn e1 eb (by rw[c1,cb];simp)⟩
 ·rcases zG.mp hb with rfl|hb
  ·exact⟨xn eb oO (by rw[cb];simp),(xn Ii eb (by rw[cb];simp)).symm,ii.symm⟩
  ·rw[zW.mp hb];exact⟨xn e2 oO (by rw[c2];simp),l2o,xn e2 ea (by rw[c2,ca];simp)⟩
def Uc(K:W.Frag)(a b:Addr):It :=
 ⟨λi H=>∃xs ys x y,SqT K H a xs/\SqT K H b ys/\xs[i]?=some x/\ys[i]?=some y,λi H v H'=>∃p x y,v = .ref p/\H p=none/\H'=upd H p (.tup [x,y])/\(∀xs,SqT K H a xs->xs[i]?=some x)/\∀ys,SqT K H b ys->ys[i]?=some y,λi H=>∃xs ys,SqT K H a xs/\SqT K H b ys/\xs.length=i/\ys.length=i⟩
theorem Yo{P:Program}{w:World}{K:W.Frag}{kY:List Expr}{k:Nat}{pos:Pos}(l1 l2 z tI tO i1 i2:Addr)(t:tI≠tO)(ii:i1≠i2)(l1o:l1≠tO)(l2o:l2≠tO):
  Z0 P w K (.Tuple kY k pos) (Uc K l1 l2) [z,tI,tO,i1,i2] z (ZtSt z tI tO i1 i2 l1 l2)where
 mem:=by simp
 obj:=λi h st b hb=>by
  obtain⟨hz,hI,⟨u,v,hO⟩,⟨oa,ea,ca,da⟩,⟨ob,eb,cb,db⟩⟩:=st;simp only[zG,uP,or_false]at hb;rcases hb with rfl|rfl|rfl|rfl|rfl
  ·exact⟨_,hz,λv z=>by cases(show Data.fields _=Data.cell v from z)⟩
  ·exact⟨_,hI,λv z=>by cases(show Data.seq _ _=Data.cell v from z)⟩
  ·exact⟨_,hO,λv z=>by cases(show Data.seq _ _=Data.cell v from z)⟩
  ·exact⟨oa,ea,λv z=>by rw[da]at z;cases z⟩
  ·exact⟨ob,eb,λv z=>by rw[db]at z;cases z⟩
 keep:=λi h h' st kk=>by
  obtain⟨hz,hI,⟨u,v,hO⟩,ha,hb⟩:=st;exact⟨kk z (by simp) _ hz,kk tI (by simp) _ hI,⟨u,v,kk tO (by simp) _ hO⟩,ha.at λo e=>kk i1 (by simp) o e,hb.at λo e=>kk i2 (by simp) o e⟩
 item:=by
  intro X hP hw hK hc i pins s σ H E I hf st hg;subst hP hw hK;obtain⟨xs,ys,x,y,pX,qI,hx,hy⟩:=hg;obtain⟨aF,rv,p,mT⟩:=I.tuple pX;obtain⟨AM,oK,p',AN⟩:=I.tuple qI;obtain⟨u,hu,ru⟩:=rv.get hx;obtain⟨v,hv,rv'⟩:=oK.get hy;have mI:s.heap.IsTuple l1 aF.toArray:=p;have sC:s.heap.IsTuple l2 AM.toArray:=p';have ap:=gk t ii l1o l2o st mI sC;have fM:=st;obtain⟨hz,hI,⟨u0,v0,hO⟩,ha,hb⟩:=st;have mY:i<aF.toArray.size:=by simpa using(zU.mp hu).1
  have kW:i<AM.toArray.size:=by simpa using(zU.mp hv).1
  refine cx ap (vp (A:=X.A.in1) (I.ok.hd hc) i1 l1 (λq=>(ap.g1 l1 (by simp)).2.2 (by
   obtain⟨o1,e1,c1,_⟩:=mI;obtain⟨o2,e2,c2,_⟩:=ha;rw[q,e2]at e1;cases e1;rw[c2]at c1;simp at c1)) aF.toArray) (vp (A:=X.A.in1) (I.ok.hd hc) i2 l2 (λq=>(ap.g2 l2 (by simp)).2.2 (by
   obtain⟨o1,e1,c1,_⟩:=sC;obtain⟨o2,e2,c2,_⟩:=hb;rw[q,e2]at e1;cases e1;rw[c2]at c1;simp at c1)) AM.toArray) hz hI hO ⟨ha,mI⟩ ⟨hb,sC⟩ mY kW λx' y' h1 tk mW pU a1 a2 a3 a4 a5 hk=>?_
  have ex:x'=u:=by
   have h2:aF.toArray[i]?=some u:=by simpa using hu
   exact zB (mW.symm.trans h2)
  have ey:y'=v:=by
   have h2:AM.toArray[i]?=some v:=by simpa using hv
   exact zB (pU.symm.trans h2)
  subst ex ey;refine⟨_,rfl,wpAny_letOwnedTupleGo_zip (s:={ s with heap:=h1,toks:=tk }) a1 λh2 b1 mH=>?_⟩;have fr:H s.heap.objs.size=none:=I.hok.fresh (zS _);have I1:Inv X pins σ (upd H s.heap.objs.size (.tup [x,y])) { s with heap:=s.heap.push { cls:=.type "tuple",data:=.seq #[x',y'] },toks:=tk } :=
   I.laid (λb o e1=>zY _ e1) (zS _) ⟨by simp only[yF,vA];rw[zD];decide,[x',y'],.cons ru (.cons rv' .nil),⟨_,zR _ rfl,rfl,_,rfl⟩⟩
  have lt5:=ZtSt.lt fM;have HR:∀b∈[z,tI,tO,i1,i2],vo X pins (upd H s.heap.objs.size (.tup [x,y])) b:=λb eB=>⟨by rw[zg (zI (lt5 b eB))];exact(hf b eB).1,(hf b eB).2⟩
  have I2:Inv X pins σ (upd H s.heap.objs.size (.tup [x,y])) { s with heap:=h2,toks:=tk }:=o7 (s:={ s with heap:=s.heap.push { cls:=.type "tuple",data:=.seq #[x',y'] },toks:=tk }) [z,tI,tO,i1,i2] I1 HR λb o eB e1=>by
   have n1:b≠z:=λq=>eB (by simp[q]);have n2:b≠tO:=λq=>eB (by simp[q]);have n3:b≠i1:=λq=>eB (by simp[q]);have n4:b≠i2:=λq=>eB (by simp[q]);refine(mH.2 b n1).trans ?_;rcases Heap.get?_push_cases e1 with⟨rfl,rfl⟩|e1
   ·exact a5
   ·exact hk b o n1 n2 n3 n4 e1
  refine⟨.ref s.heap.objs.size,upd H s.heap.objs.size (.tup [x,y]),I2,rfl,⟨_,x,y,rfl,fr,rfl,λqD AQ=>by rw[I.tuple_inj AQ pX];exact hx,λqD AQ=>by rw[I.tuple_inj AQ qI];exact hy⟩,⟨b1,?_,⟨x',y',?_⟩,a3.1.at λo e1=>(mH.2 i1 ap.az).trans e1,a4.1.at λo e1=>(mH.2 i2 ap.bz).trans e1⟩,λb eB=>(HR b eB).1⟩
  ·exact(mH.2 tI ap.tz).trans (hk tI _ ap.tz ap.to ap.ta ap.tb hI)
  ·exact(mH.2 tO ap.oz).trans a2
 done:=by
  intro X hP hw hK hc i pins s σ H E I hf st hg;subst hP hw hK;obtain⟨xs,ys,pX,qI,hx,hy⟩:=hg;obtain⟨aF,rv,p,mT⟩:=I.tuple pX;obtain⟨AM,oK,p',AN⟩:=I.tuple qI;have mI:s.heap.IsTuple l1 aF.toArray:=p;have ap:=gk t ii l1o l2o st mI p';obtain⟨hz,hI,⟨u0,v0,hO⟩,ha,hb⟩:=st;have hs:aF.toArray.size=i:=by rw[zQ,<-rv.length];exact hx
  refine Yu ap (vp (A:=X.A.in1) (I.ok.hd hc) i1 l1 (λq=>(ap.g1 l1 (by simp)).2.2 (by
   obtain⟨o1,e1,c1,_⟩:=mI;obtain⟨o2,e2,c2,_⟩:=ha;rw[q,e2]at e1;cases e1;rw[c2]at c1;simp at c1)) aF.toArray) hz hI hO ⟨by rw[hs];exact ha,mI⟩ λh1 hk=>⟨rfl,o7 (t':=s.toks) [z,tI,tO,i1,i2] I hf λb o eB e1=>hk b o (λq=>eB (by simp[q])) (λq=>eB (by simp[q])) e1⟩
 self:=λ_ _ _ _ _ st h=>wpAny_pyIter_zip st.1 h
theorem Xy{K:W.Frag}{a b:Addr}{xs ys:List V}{j k:Nat}{tb:TS}{D:u9}{σ:St}{H:Hp}(Pv:Nat->St->Hp->Prop)(GY:xs.length=ys.length)(h0:Pv 0 σ H)(hl:∀i σ H,i<=xs.length->Pv i σ H->SqT K H a xs/\SqT K H b ys)
  (hs:∀(i:Nat) x y σ H H',xs[i]?=some x->ys[i]?=some y->Pv i σ H->Same H H'->tb { D with nx:=Pv (i+1),ct:=Pv (i+1),bk:=D.nx } (sv (sv σ j x) k y) H') (hd:∀σ H,Pv xs.length σ H->D.nx σ H) :
  Zz (mG2 K j k) tb (Uc K a b) D σ H :=
 d6 (n:=xs.length) Pv h0 (λi σ H hi p=>⟨xs,ys,xs[i],ys[i]'(GY▸hi),(hl i σ H (xT hi) p).1,(hl i σ H (xT hi) p).2,by simp[hi],by simp[GY▸hi]⟩)
  (fun σ H p=>⟨xs,ys,(hl _ σ H (zS _) p).1,(hl _ σ H (zS _) p).2,rfl,GY.symm⟩) (λi v σ H H' hi p y=>by
  obtain⟨c,x,y',rfl,hn,rfl,hx,hy⟩:=y;have hh:=hl i σ H (xT hi) p;exact⟨c,_,_,rfl,SqT.of zy,hs i x y' σ H _ (hx xs hh.1) (hy ys hh.2) p (xg hn _)⟩) hd
end
section
section
variable {X:Cx}
def Nc(K:W.Frag)(R:It->Hp->Prop):List V->Hp->Prop:=λvs H=>match vs with
 |[.ref a,.ref b]=>((∃xs,SqT K H a xs)/\∃ys,SqT K H b ys)/\R (Uc K a b) H
 |_=>False
theorem Th{K:W.Frag}{R:It->Hp->Prop}{a b:Addr}{H:Hp}:Nc K R [.ref a,.ref b] H=(((∃xs,SqT K H a xs)/\∃ys,SqT K H b ys)/\R (Uc K a b) H):=rfl
def iZt(K:W.Frag)(ta:TA):TI:=fun σ H R=>ta σ H (Nc K R)
theorem P7{kY:List Expr}{kk:Nat}{pt:Pos}{a b:Expr}{ta:TA}{p pos:Pos}(hg:Gl X "zip")(hm:X.mg "zip"=none)(ha:PA X [a,b] ta)(hs:starEach [a,b] X.env=[(false,eval a X.env),(false,eval b X.env)]:=by rfl)
  (mH:starEach [b] X.env=[(false,eval b X.env)]:=by rfl):PI X (.Tuple kY kk pt) (.Call (.Name "zip" p) [a,b] [] pos) (iZt X.K ta):=by
 intro pins s σ H R I h;refine Call_ (u4 I hg hm Pe (wT (thn (ha pos pins s σ H _ I h) λus s1 ⟨vs,H1,I1,r1,q1⟩=>?_) (by rw[hs,mH]) (by rw[mH];rfl)))
 match vs,q1 with
 |[.ref a,.ref b],q1 =>
  obtain⟨⟨⟨xs,pX⟩,⟨ys,qI⟩⟩,q⟩:=(show((∃xs,SqT X.K H1 a xs)/\∃ys,SqT X.K H1 b ys)/\R (Uc X.K a b) H1 from q1)
  obtain⟨u,w',rfl,ru,oK⟩:=gg r1;cases ru;cases oK;obtain⟨aF,rv,p1,mT⟩:=I1.tuple pX;obtain⟨AM,rv2,p2,AN⟩:=I1.tuple qI;have la:a<s1.heap.objs.size:=by obtain⟨o,e,_⟩:=p1;exact zT e
  have lb:b<s1.heap.objs.size:=by obtain⟨o,e,_⟩:=p2;exact zT e
  refine Xd (show s1.heap.IsTuple a aF.toArray from p1) (show s1.heap.IsTuple b AM.toArray from p2) λh' hz hI hO ha hb hk=>?_;refine wpAny_pyIter_zip (s:={ s1 with heap:=h' }) hz ?_;have I2:Inv X pins σ H1 { s1 with heap:=h' }:=I1.kept (t':=s1.toks) hk;refine⟨_,[s1.heap.objs.size+4,s1.heap.objs.size+2,s1.heap.objs.size+3,s1.heap.objs.size,s1.heap.objs.size+1],_,_,H1,rfl,I2,Yo a b _ _ _ _ _ (λq=>absurd (Nat.add_left_cancel q) (by decide)) (λq=>absurd q (zI (wU _))) (zI (zH la (uM _ _))) (zI (zH lb (uM _ _))),⟨hz,hI,⟨_,_,hO⟩,ha,hb⟩,λc hc=>?_,q⟩;have HP:s1.heap.objs.size<=c:=by
   simp only[zG,uP,or_false]at hc;rcases hc with rfl|rfl|rfl|rfl|rfl
   ·exact uM _ _
   ·exact uM _ _
   ·exact uM _ _
   ·exact zS _
   ·exact wF _
  exact I1.fpOk HP (I1.hok.fresh HP)
end
def Lu(lo st:Int)(n:Nat):It:=⟨λi _=>i<n,λi H x H'=>H'=H/\x = .int (lo+i*st),λi _=>n<=i⟩
section
variable {X:Cx}
def Nb(R:It->Hp->Prop):List V->Hp->Prop:=λvs H=>match vs with
 |[.int i,.int j,.int c]=>(0<=i/\i<=100000/\0<=j/\j<=100000/\1<=c/\c<=100000)/\R (Lu i c (Builtin.Range.rangeSize i j c).toNat) H
 |_=>False
theorem Tg{R:It->Hp->Prop}{i j c:Int}{H:Hp}:Nb R [.int i,.int j,.int c] H=((0<=i/\i<=100000/\0<=j/\j<=100000/\1<=c/\c<=100000)/\R (Lu i c (Builtin.Range.rangeSize i j c).toNat) H):=rfl
def iR3(ta:TA):TI:=fun σ H R=>ta σ H (Nb R)
end
end
section
structure Mk0(K:W.Frag)(C:Addr):Prop where
 makes:W.makesIn K C=true
 init:W.findIn K (.ref C) "__init__"=some (some (.builtin "object.__init__"))
 kp:W.keepIn K (.ref C)=true
def Rj(C:Addr):TE:=λ_ H Q=>∀x dx,H x=none->H dx=none->dx≠x->Q (.ref x) (upd (upd H dx (.own x)) x (.ins C dx []))
section
variable {X:Cx}
end
structure Kn(K:W.Frag)(C:Addr)(x qual:Str)(st:Stmt)(ps:List Str):Prop where
 ex:∃(f:Addr)(fd:FuncData),Fun K x qual st f fd/\(∀us:List Value,us.length=ps.length->bindArgs fd ⟨us,[]⟩=pure (ps.zip us))/\Lv K C x f/\Cls K C
structure Lr(P:Program)(w:World)(K:W.Frag)(mg:Str->Option Value)(base:Heap)(k:Nat)(C:Addr)(x:Str)(ps:List Str)(sp:Sp):Prop where
 ex:∃(f:Addr)(fd:FuncData),ul P w K mg base CX0 k f fd ps sp/\Binds K fd ps []/\Lv K C x f/\Cls K C
section
variable {P:Program}{w:World}{K:W.Frag}{mg:Str->Option Value}{base:Heap}
end
def kl(st:Stmt)(j:Nat):Stmt:=match st with
 | .ClassDef _ _ _ b _ _ _ _ _ _ _=>b.getD j (.Pass ⟨0,0,0,0⟩)
 |_=>.Pass ⟨0,0,0,0⟩
end
section
theorem Ul:bootBuiltins "str"=some (.type "str"):=by decide +kernel
section
variable {X:Cx}
def Zg(k:Str->Hp->Prop):V->Hp->Prop:=λx H=>match x with
 | .str c=>k c H
 |_=>False
theorem V2{k:Str->Hp->Prop}{c:Str}{H:Hp}:Zg k (.str c) H=k c H:=rfl
def tF0:Str->TE:=λout _ H Q=>out.length<=sizeLine/\Q (.str out) H
def tFC(te:TE)(t:Str->TE):Str->TE:=λout σ H Q=>te σ H (Zg λy H1=>(out++y).length<=sizeLine/\t (out++y) σ H1 Q)
def tFv(te:TE):TE:=fun σ H Q=>te σ H (Zg λy H1=>y.length<=sizeLine/\Q (.str y) H1)
def tJn(K:W.Frag)(to:TE)(t:TA):TE:=fun σ H Q=>to σ H (Zg λx H1=>t σ H1 (on1 (Zf λp H2=>∃ys:List Str,SqL K H2 p (ys.map V.str)/\(ys.map (·.length)).sum+ys.length*x.length<=16777216/\Q (.str (Txt.join x ys)) H2)))
def Vi:List V->Hp->VK->Prop:=λxs H Q=>match xs with
 |[.bl k]=>Q (.int (if k=true then 1 else 0)) H
 |_=>False
theorem Q4{k:Bool}{H:Hp}{Q:VK}:Vi [.bl k] H Q=Q (.int (if k=true then 1 else 0)) H:=rfl
theorem Zd:xi X (.type "int") Vi:=by
 intro pins s σ H xs us Q I r h
 match xs,h with
 |[.bl k],h=>exact Xa pins s σ H _ us Q I r (.inr ⟨k,rfl,h⟩)
end
def Say.text:Say->Str
 | .letter x=>x
 | .neg s=>Str.ofString "not "++s.text
 | .bin .con s t=>Str.ofString "("++s.text++Str.ofString " "++Str.ofString "and"++Str.ofString " "++t.text++Str.ofString ")"
 | .bin .dis s t=>Str.ofString "("++s.text++Str.ofString " "++Str.ofString "or"++Str.ofString " "++t.text++Str.ofString ")"
 | .bin .imp s t=>Str.ofString "(if "++s.text++Str.ofString " then "++t.text++Str.ofString ")"
def vk:Say->PyData
 | .letter x=>.tuple [.str (Str.ofString "letter"),.str x]
 | .neg s=>.tuple [.str (Str.ofString "not"),vk s]
 | .bin o s t=>.tuple [.str o.word,vk s,vk t]
theorem oj{K:W.Frag}{H:Hp}:∀{s:Say}{v:V},SayAt K H v s->Has K H v (vk s)
 | .letter x,v,⟨a,e,h⟩=>by
  subst e;unfold vk Has;exact⟨a,_,rfl,h,ju K H [_,_]⟩
 | .neg s,v,⟨a,u,e,h,h1⟩=>by
  subst e;have i1:=oj h1;unfold vk Has;refine⟨a,_,rfl,h,?_⟩;unfold HasL;refine⟨_,_,rfl,by unfold Has;rfl,?_⟩;unfold HasL;refine⟨_,_,rfl,i1,?_⟩;simp[HasL]
 | .bin o s t,v,⟨a,u,u',e,h,h1,h2⟩=>by
  subst e;have i1:=oj h1;have i2:=oj h2;unfold vk Has;refine⟨a,_,rfl,h,?_⟩;unfold HasL;refine⟨_,_,rfl,by unfold Has;rfl,?_⟩;unfold HasL;refine⟨_,_,rfl,i1,?_⟩;unfold HasL;refine⟨_,_,rfl,i2,?_⟩;simp[HasL]
theorem X7:PyData.strOk (Str.ofString "letter")=true:=by decide +kernel
theorem P9:PyData.strOk (Str.ofString "not")=true:=by decide +kernel
theorem Td:∀o:Op2,PyData.strOk o.word=true
 | .con=>by show PyData.strOk (Str.ofString "and")=true;decide +kernel
 | .dis=>by show PyData.strOk (Str.ofString "or")=true;decide +kernel
 | .imp=>by show PyData.strOk (Str.ofString "if")=true;decide +kernel
theorem oo:∀s:Say,(∀x∈s.letters,Nm x)->PyData.canLay0 (vk s)=true/\PyData.depth (vk s)<=s.pieces
 | .letter x,h=>by
  have:=(h x (zW.mpr rfl)).2;constructor
  ·simp[vk,PyData.canLay0,PyData.canLayAll0,this,X7]
  ·simp[vk,PyData.depth,PyData.depthAll,Say.pieces]
 | .neg s,h=>by
  obtain⟨h1,h2⟩:=oo s h;constructor
  ·simp[vk,PyData.canLay0,PyData.canLayAll0,h1,P9]
  ·simp[vk,PyData.depth,PyData.depthAll,Say.pieces,h2]
 | .bin o s t,h=>by
  obtain⟨h1,h2⟩:=oo s λx hx=>h x (zO.mpr (.inl hx));obtain⟨h3,h4⟩:=oo t λx hx=>h x (zO.mpr (.inr hx));constructor
  ·simp[vk,PyData.canLay0,PyData.canLayAll0,h1,h3,Td]
  ·simp[vk,PyData.depth,PyData.depthAll,Say.pieces];lia
theorem jt{K:W.Frag}{H:Hp}:∀{us:List V}{ts:List Say},SaysAt K H us ts->HasL K H us (ts.map vk)
 |[],[],_=>by simp[HasL]
 |u::us,t::ts,h=>by
  have ih:=jt h.2;rw[List.map_cons];unfold HasL;exact⟨_,_,rfl,oj h.1,ih⟩
theorem d3:∀ts:List Say,(∀t∈ts,t.pieces<=40/\∀x∈t.letters,Nm x)->PyData.canLayAll0 (ts.map vk)=true/\PyData.depthAll (ts.map vk)<=40
 |[],_=>by simp[PyData.canLayAll0,PyData.depthAll]
 |t::ts,h=>by
  obtain⟨h1,h2⟩:=d3 ts λu hu=>h u (zC _ hu);have ht:=h t yZ;obtain⟨a1,a2⟩:=oo t ht.2;rw[List.map_cons];refine⟨?_,?_⟩
  ·rw[PyData.canLayAll0,h1,Bool.and_true,a1]
  ·rw[PyData.depthAll];lia
def c8(ts:List Say)(ks:List (List Bool)):PyData:=.tuple [.tuple (ts.map vk),.tuple (ks.map ww)]
theorem du{K:W.Frag}{H:Hp}{p a b:Addr}{us:List V}{ts:List Say}{J:List (Addr×List Bool)}(hp:SqT K H p [.ref a,.ref b])(ha:SqT K H a us)(hS:SaysAt K H us ts)(hb:SqT K H b (J.map λr=>V.ref r.1))(hJ:∀r∈J,SqT K H r.1 (r.2.map V.bl)):Has K H (.ref p) (c8 ts (J.map (·.2))):=by
 unfold c8 Has;refine⟨p,_,rfl,hp,?_⟩;unfold HasL;refine⟨_,_,rfl,?_,?_⟩
 ·unfold Has;exact⟨a,_,rfl,ha,jt hS⟩
 unfold HasL;refine⟨_,_,rfl,?_,?_⟩
 ·unfold Has;exact⟨b,_,rfl,hb,qk hJ⟩
 ·simp[HasL]
theorem fv{ts:List Say}{ks:List (List Bool)}(h:∀t∈ts,t.pieces<=40/\∀x∈t.letters,Nm x):SeqAt.shaped (c8 ts ks)=true:=by
 obtain⟨h1,h2⟩:=d3 ts h;obtain⟨h3,h4⟩:=l8 ks;unfold SeqAt.shaped c8;rw[yQ];constructor
 ·simp[PyData.canLay0,PyData.canLayAll0,h1,h3]
 ·refine yU ?_;simp[PyData.depth,PyData.depthAll];lia
end
end My
namespace My
open PySem
theorem ql{us:List Value}(h:us.length=1):∃a,us=[a]:=by
 cases us with
 |nil=>cases h
 |cons a us=>exact⟨a,by rw[wN.mp (Nat.succ.inj h)]⟩
theorem u5{us:List Value}(h:us.length=2):∃a b,us=[a,b]:=by
 cases us with
 |nil=>cases h
 |cons a us=>obtain⟨b,e⟩:=ql (Nat.succ.inj h);exact⟨a,b,by rw[e]⟩
theorem ak{us:List Value}(h:us.length=3):∃a b c,us=[a,b,c]:=by
 cases us with
 |nil=>cases h
 |cons a us=>obtain⟨b,c,e⟩:=u5 (Nat.succ.inj h);exact⟨a,b,c,by rw[e]⟩
theorem Mg{us:List Value}(h:us.length=4):∃a b c d,us=[a,b,c,d]:=by
 cases us with
 |nil=>cases h
 |cons a us=>obtain⟨b,c,d,e⟩:=ak (Nat.succ.inj h);exact⟨a,b,c,d,by rw[e]⟩
end My
namespace My
open PySem PySem.Spec PySem.W PySem.Calls L2
open PyProof.Rows hiding St
section
def Fly(h:Heap)(a C:Addr)(dx:Option Addr)(fl:Option (Addr×Value)):Prop :=
 ∃oe vs,h.get? a=some oe/\oe.cls = .ref C/\oe.dict=dx/\oe.data = .fields vs/\vs[2]?=some .none/\match fl with
  |none=>vs[1]?=some .none
  |some (T,v)=>vs[1]?=some (.ref T)/\T≠a/\∃oT ts,h.get? T=some oT/\oT.data = .fields ts/\ts[3]?=some v
structure Ue(fs:List Addr)(a:Addr)(old:Option (Addr×Value))(h h':Heap):Prop where
 keep:∀b o,h.get? b=some o->b∉fs->b≠a->(∀T v,old=some (T,v)->b≠T)->h'.get? b=some o
 slot:∀b o,h.get? b=some o->b∈fs->∃sl,h'.get? b=some { o with slots:=sl }
 there:∀b o,h.get? b=some o->∃o',h'.get? b=some o'
section
variable {M:Model}{A:Around}{E:Value->Shared->Prop}{s:Shared}{base:Heap}{env:Env}{outer:List Env}{L a C:Addr}{dx:Option Addr}
theorem mi(o:Obj)(f:Array Value->Array Value):(o.mapFields f).dict=o.dict:=by
 obtain⟨c,d,dt,sl⟩:=o;cases dt<;>rfl
theorem eu{oe:Obj}{vs:Array Value}{qS:Value}{qX:Bool}{Q:Unit->Shared->Prop}(Bg:A.frames=some (env::outer))(hl:s.heap.FunFrames base (env::outer))(hf:env.frame=some L)
  (he:s.heap.get? a=some oe) (hc:oe.cls = .ref C) (eN:oe.dict=dx) (hd:oe.data = .fields vs) (h2:vs[2]?=some .none) (hsz:1<vs.size)
  (h:∀h' T,s.heap.objs.size<=T->Ue (frs (env::outer)) a none s.heap h'->Fly h' a C dx (some (T,rawInt L))->Q () { s with heap:=h' }) :
  wpAny M A (do let x <-frameOf env;let pl <-entryPlaceOf L qX;let b <-EntryCells.newEntry qS x .none (rawInt L) .none pl;setField (.ref a) 1 b) Q E s:=by
 have HS:a∉(env::outer).filterMap (·.frame):=λhm=>by
  obtain⟨_,o,ho,Bc⟩:=hl.mem hm;rw[he]at ho;injection ho with ho;subst ho;exact Bc vs hd
 refine zZ (wpAny_frameOf_fun Bg hl hf λh₁ hs₁=>?_);refine zZ (wpAny_entryPlaceOf λpl fG=>?_);unfold EntryCells.newEntry newFields;refine zZ (yL ?_ (fG.sizeOk5 _ _ _ _ _));have he₁:h₁.get? a=some oe:=(hs₁.2.1 a HS).trans he;have he₂:=zY (h:=h₁) { cls:=.type "traceback",dict:=none,data:=.fields ([qS,.ref L,.none,rawInt L,.none]++(if pl.isEmpty then List.replicate 6 Value.none else pl)).toArray } he₁;refine vJ he₂ hd hsz ?_;have qA:h₁.objs.size≠a:=wO (zT he₁);have hd₃:=wV hd (·.setIfInBounds 1 (Value.ref h₁.objs.size));have he₃:=yH (Obj.mapFields (·.setIfInBounds 1 (Value.ref h₁.objs.size))) he₂ (vZ hd₃);have hT₃:=(zA (h₁.push { cls:=.type "traceback",dict:=none,data:=.fields ([qS,.ref L,.none,rawInt L,.none]++(if pl.isEmpty then List.replicate 6 Value.none else pl)).toArray })
  (Obj.mapFields (·.setIfInBounds 1 (Value.ref h₁.objs.size))) (wY qA)).trans (zR h₁ rfl)
 have keep:∀b o,b≠a->h₁.get? b=some o ->
   ((h₁.push { cls:=.type "traceback",dict:=none,data:=.fields ([qS,.ref L,.none,rawInt L,.none]++(if pl.isEmpty then List.replicate 6 Value.none else pl)).toArray }).update a (Obj.mapFields (·.setIfInBounds 1 (Value.ref h₁.objs.size)))).get? b=some o:=λb o nV hb=>by
  rw[zA _ _ (wY nV)];exact zY _ hb
 refine h _ h₁.objs.size (by rw[hs₁.1];exact zS _) ⟨λb o hb hf hba _=>keep b o hba ((hs₁.2.1 b hf).trans hb),λb o hb hf=>?_,λb o hb=>?_⟩ ?_
 ·obtain⟨sl,e⟩:=hs₁.2.2 b o hb;exact⟨sl,keep b _ (λz=>HS (z▸hf)) e⟩
 ·by_cases z:b=a
  ·subst z;exact⟨_,he₃⟩
  ·obtain⟨sl,e⟩:=hs₁.2.2 b o hb;exact⟨_,keep b _ z e⟩
 ·exact⟨_,_,he₃,(Obj.cls_mapFields _ _).trans hc,(mi _ _).trans eN,hd₃,by rw[Array.getElem?_setIfInBounds_ne (by decide)];exact h2,by simp[hsz],qA,_,_,hT₃,rfl,by first|(simp;done)|(rcases fG with rfl|⟨_,_,_,_,_,_,_,rfl⟩<;>simp)⟩
theorem ba{old:Option (Addr×Value)}{Q:Unit->Shared->Prop}(Bg:A.frames=some (env::outer))(hl:s.heap.FunFrames base (env::outer))(hf:env.frame=some L)
  (F:Fly s.heap a C dx old) (ho:∀T v,old=some (T,v)->v = .none)
  (h:∀h' T,s.heap.objs.size<=T->Ue (frs (env::outer)) a old s.heap h'->Fly h' a C dx (some (T,rawInt L))->Q () { s with heap:=h' }) :
  wpAny M A (noteFrame (.ref a) env) Q E s:=by
 obtain⟨oe,vs,he,hc,eN,hd,h2,r⟩:=F;cases old with
 |none =>
  unfold noteFrame;simp only[hf];refine zZ (yI he hd r ?_);rw[yY (by decide)];exact eu Bg hl hf he hc eN hd h2 (xY.mp r).1 h
 |some p =>
  obtain⟨T,v⟩:=p;obtain rfl:=ho T v rfl;obtain⟨h1,qA,oT,ts,hT,nU,h3⟩:=r;unfold noteFrame;simp only[hf];refine zZ (yI he hd h1 ?_);rw[yS (show(Value.ref T != Value.none)=true from by simp)];refine zZ (yI hT nU h3 ?_);rw[yY (show¬((Value.none==rawInt L)=true)from by simp[rawInt])];refine zZ (vJ hT nU (xY.mp h3).1 ?_);have other:∀b,b≠T->(s.heap.update T (Obj.mapFields (·.setIfInBounds 3 Value.none))).get? b=s.heap.get? b:=λb hb=>zA _ _ (wY hb);have kC:∀b o,s.heap.get? b=some o->(∀vs,o.data≠.fields vs)->b≠T:=λb o hb Bc q=>by
   rw[q,hT]at hb;injection hb with hb;subst hb;exact Bc ts nU
  have Ih:=yH (Obj.mapFields (·.setIfInBounds 3 Value.none)) hT (vZ (wV nU _));refine eu (s:={ s with heap:=s.heap.update T (Obj.mapFields (·.setIfInBounds 3 Value.none)) }) (base:=base) Bg (hl.of_keeps λb o hb Bc=>⟨o,(other b (kC b o hb Bc)).trans hb,rfl⟩) hf ((other a (wY qA)).trans he) hc eN hd h2 (xY.mp h1).1 λh' T' hn N F=>?_;refine h h' T' (yW (uK (Heap.size_after_update ..).symm) hn) ⟨λb o hb sH hba hbT=>N.keep b o ((other b (hbT T _ rfl)).trans hb) sH hba (λ_ _ z=>nomatch z),λb o hb sH=>N.slot b o ((other b (kC b o hb λws q=>?_)).trans hb) sH,λb o hb=>?_⟩ F
  ·obtain⟨_,o',pY,Bc⟩:=hl.mem (b:=b) sH;rw[hb]at pY;cases pY;exact Bc ws q
  ·by_cases z:b=T
   ·subst z;exact N.there b _ Ih
   ·exact N.there b o ((other b z).trans hb)
theorem rz{T:Addr}{v:Value}{Q:Unit->Shared->Prop}(F:Fly s.heap a C dx (some (T,v)))
  (h:∀h',(∀b o,b≠T->s.heap.get? b=some o->h'.get? b=some o)->Fly h' a C dx (some (T,.none))->Q () { s with heap:=h' }):wpAny M A (setFlight (.ref a) none) Q E s:=by
 obtain⟨oe,vs,he,hc,eN,hd,h2,h1,qA,oT,ts,hT,nU,h3⟩:=F;refine wpAny_setFlight_none he hd h1 hT nU (xY.mp h3).1 (h _ (λb o hb e=>(zA _ _ (wY hb)).trans e) ?_);have hsz:=(xY.mp h3).1;exact⟨oe,vs,(zA _ _ qA).trans he,hc,eN,hd,h2,h1,qA,_,_,yH _ hT (vZ (wV nU _)),wV nU _,by simp[Array.getElem?_setIfInBounds,hsz]⟩
end
end
section
open Builtin Builtin.ObjectAttr
def vbm:List Value:=[.type "ValueError",.type "Exception",.type "BaseException",.type "object"]
def fh:List Value->Bool
 | .ref _::r=>fh r
 |l=>l==vbm
def xIn(K:Frag)(C:Addr):Bool:=match K.lookup C with
 |some ⟨.type "type",_,.cls cd,sl⟩=>(match cd.mro,sl.toList with
  | .ref C'::bm,[_,_,_,_,some (.builtin n),_]=>C'==C&&n=="ValueError.__new__"&&!cd.hasDel&&cd.hasDict&&tailIn K vbm bm&&fh bm
  |_,_=>false)
 |_=>false
structure XO(K:Frag)(C:Addr)(h:Heap)(cd:ClassData):Prop where
 at_:clsIn K C=some cd
 hd:cd.hasDict=true
 obj:∃bm N nm q bs hdct sn sub ab col dd k0 k1 k2 k3 k5,h.get? C=some (excClassObj nm q C N bs bm hdct sn sub ab col dd k0 k1 k2 k3 k5 "ValueError.__new__")/\OwnTail h vbm bm/\cd.mro = .ref C::bm
 over:fh cd.mro=true
theorem Oz{K:Frag}{C:Addr}{h:Heap}(X:K.In h)(q:xIn K C=true):∃cd,XO K C h cd:=by
 unfold xIn at q;split at q
 ·rename_i dd cd sl ho;split at q
  ·rename_i C' bm k0 k1 k2 k3 n k5 hm hs;simp only[yQ,tT,Bool.not_eq_true']at q;obtain⟨⟨⟨⟨⟨rfl,rfl⟩,oZ⟩,hdi⟩,ht⟩,hov⟩:=q;refine⟨cd,by unfold clsIn;rw[ho],hdi,?_,by rw[hm];exact hov⟩;obtain⟨nm,bs,mro,ns,qn,hd,sn,sub,ab,col,del⟩:=cd;dsimp only at hm oZ;subst hm oZ;have sB:sl=#[k0,k1,k2,k3,some (.builtin "ValueError.__new__"),k5]:=by
    obtain⟨l⟩:=sl;simp only at hs;rw[hs]
   subst sB;exact⟨bm,ns,nm,qn,bs,hd,sn,sub,ab,col,dd,k0,k1,k2,k3,k5,X _ _ ho,tail_of_in X ht,rfl⟩
  ·cases q
 ·cases q
theorem j9{n:String}(h:vbm.contains (.type n)=true):∀{l:List Value},fh l=true->l.contains (.type n)=true
 |[],e=>by cases e
 |v::r,e=>by
  cases v with
  |ref c=>rw[List.contains_cons,j9 h (l:=r) e,Bool.or_true]
  |_=>rw[eq_of_beq (show((_::r)==vbm)=true from e)];exact h
theorem fq(self:Value):∀{l:List Value},fh l=true->refuseLoop self "__setattr__" l=pure ()
 |[],e=>by cases e
 |v::r,e=>by
  cases v with
  |ref c=>rw[refuseLoop_ref];exact fq self (l:=r) e
  |_=>rw[eq_of_beq (show((_::r)==vbm)=true from e)];exact F.store_ValueError.passes self
section
variable {prog:Program}{w:World}{A:Around}{E:Value->Shared->Prop}{s:Shared}{K:Frag}{a C:Addr}
theorem Yc{R:Result->Shared->Prop}{ox:Obj}{od:Option Obj}{name:Str}{tk:Tok}{v:Value}{cd:ClassData}(X:K.In s.heap)(I:InstAt s.heap a ox C od)(x:XO K C s.heap cd)(ht:takerIn K C name=some none)
  (h:∀b,wpAny (model prog w) A.in1 (storeInOwnDict (.ref a) (.ref C) (.str name tk) name v b)
   (λcB s'=>match cB with|.done f=>R (.ok f) s'|.again c'=>c'.quiet=true/\codeAny (model prog w) A c' R s') (λe s'=>R (.error e) s') s) :
  codeAny (model prog w) A (.call (.builtin "object.__setattr__") ⟨[.ref a,.str name tk,v],[]⟩) R s:=by
 have SF:=F.store_object;have ne:cd.mro.isEmpty=false:=by cases q:cd.mro with|nil=>have:=x.over;rw[q]at this;cases this|cons _ _=>rfl
 have sub:Looks (model prog w) s.heap (isInstance (.ref a) (.type "object")) true:=I.type.andThen (looks_mroIn X (by unfold mroIn;rw[x.at_,Option.bind_some,yY (by rw[ne];decide),j9 (by decide) x.over]));refine vS SF.slot.plain SF.entry (@check_slot (model prog w) _ _ s "object.__setattr__" "object" "__setattr__" (.ref a) [.str name tk,v] [] _ SF.kind SF.split sub (SF.args (.ref a) (.str name tk) v) ?_);obtain⟨KG,ha,hr⟩:=Option.bind_eq_some_iff.mp ht;have hm:Looks (model prog w) s.heap (mroOf (.ref C)) cd.mro:=(looks_clsIn X x.at_).andThen .now;have L3:Looks (model prog w) s.heap (storeTaker? KG) none:=by
  cases KG with
  |none=>exact .now
  |some a =>
   obtain⟨b,hb,e⟩:=Option.map_eq_some_iff.mp hr;refine(looks_takesIn X hb).andThen ?_;cases b with
   |false=>exact .now
   |true=>cases e
 rw[osa_eq,refuse_eq];refine zZ (zZ (I.type.here (zZ (hm.here ?_))));rw[fq _ x.over];refine zV (zZ (I.type.here (zZ ((tH X ha).here (zZ (L3.here ?_))))));exact h _
theorem Oj{oe:Obj}{vs:Array Value}{name:Str}{v:Value}{cd:ClassData}{Q:Unit->Shared->Prop}(X:K.In s.heap)(x:XO K C s.heap cd)(hs:findIn K (.ref C) "__setattr__"=some (some (.builtin "object.__setattr__")))(ht:takerIn K C name=some none)
  (he:s.heap.get? a=some oe) (hc:oe.cls = .ref C) (C2:oe.dict=none) (hd:oe.data = .fields vs)
  (h:∀h' dx tk,s.heap.objs.size<=dx->h'.Ns1 dx (λy=>if y=name then some v else none)->h'.get? a=some { oe with dict:=some dx }->(∀b o,b≠a->s.heap.get? b=some o->h'.get? b=some o)->Q () { s with heap:=h',toks:=tk }) :
  wpAny (model prog w) A (setAttr (.ref a) name v) Q E s:=by
 have I:InstAt s.heap a oe C none:=⟨he,hc,by unfold notCls;rw[hd],by rw[C2];trivial⟩
 refine set_plain X I hs (Yc (s:={ s with toks:=s.toks+1 }) X I x ht λb=>?_);obtain⟨oc,od,dt,sl⟩:=oe;dsimp only at hc C2 hd;subst hc C2 hd;obtain⟨hh,g,d,t,os⟩:=s;have he₁:(hh.push { cls:=.type "dict",data:=.dict #[] }).get? a=some ⟨.ref C,none,.fields vs,sl⟩:=zY _ he;have hxs:a≠hh.objs.size:=zI (zT he);refine zZ (zV (zZ (zZ (wpAny_loadPart he (zZ (W.Looks.here (looks_clsIn X x.at_) ?_))))));rw[x.hd];show wpAny _ _ _ _ _ _;refine zZ (wpAny_alloc' ?_);refine zZ (wpAny_update' he₁ ?_);refine zV ?_;have hgd:((hh.push { cls:=.type "dict",data:=.dict #[] }).update a λo=>{ cls:=o.cls,dict:=some hh.objs.size,data:=o.data,slots:=o.slots }).get? hh.objs.size
  =some { cls:=.type "dict",data:=.dict #[] }:=(Heap.get?_update_ne _ _ _ _ hxs.symm).trans (Heap.get?_push_at rfl rfl)
 have mJ:((hh.push { cls:=.type "dict",data:=.dict #[] }).update a λo=>{ cls:=o.cls,dict:=some hh.objs.size,data:=o.data,slots:=o.slots }).Ns hh.objs.size (λ_=>none) :=
  ⟨_,#[],_,hgd,rfl,λe he=>absurd he (by simp),λ_=>rfl⟩
 show wpAny _ _ (storeInDict hh.objs.size (.str name t) name v) _ _ _;unfold storeInDict newKeyGuard;refine zZ (zV (zZ (wpAny_nsSet1 (Heap.Ns1.of_empty mJ) λh' Cv hs=>?_)));obtain⟨oD,esD,epD,hoD,hdD,qU⟩:=Cv.count (Within.cons name v Within.nil);refine zZ (wpAny_lookBehind hoD (by rw[hdD];exact pastItsLine_dict (yW qU (by rw[yF,vA,zD];lia))) ?_);refine zV (h h' hh.objs.size _ (zS _) Cv ?_ λb o hb e=>?_)
 ·refine(hs.2 a hxs).trans (yH _ he₁ rfl)
 ·exact(hs.2 b (zI (zT e))).trans ((Heap.get?_update_ne _ _ _ _ hb).trans (zY _ e))
end
end
section
open Builtin Builtin.ObjectAttr
section
variable {prog:Program}{w:World}{A:Around}{E:Value->Shared->Prop}{h:Heap}{g:Array GenState}{d:Drawn}{t:Nat}{os:OsState}{K:Frag}{a C:Addr}
theorem Mc{ox od:Obj}{name:Str}{v:Value}{BW:Bool}{Q:Value->Shared->Prop}(X:K.In h)(I:InstAt h a ox C (some od))(hga:findIn K (.ref C) "__getattribute__"=some (some (.builtin "BaseException.__getattribute__")))
  (hgt:findIn K (.ref C) "__getattr__"=some none) (hm:mroIn K C (.type "BaseException")=some true) (hf:findObj K C (some od) name=some (.value v)) (hh:handedIn v=true)
  (hq:Q v ⟨h,g,d,t+1,os⟩):wpAny (model prog w) A (getAttr (.ref a) name BW) Q E ⟨h,g,d,t,os⟩:=by
 have L0:=I.type (M:=model prog w);have L1:=tH (M:=model prog w) X hga;have L2:=tH (M:=model prog w) X hgt;have L3:=looks_find (M:=model prog w) X I hf;have f3:=vN.ga.bind (.ref a);have hx0:(BW&&onTheHeap (Value.builtin "BaseException.__getattribute__"))=false:=by cases BW<;>rfl
 have hx2:(Value.builtin "BaseException.__getattribute__"==Value.builtin "object.__getattribute__")=false:=by decide +kernel
 have hx1:(onTheHeap (Value.ref C)&&Value.builtin "BaseException.__getattribute__"==Value.builtin "object.__getattribute__")=false:=by rw[hx2];rfl
 unfold getAttr;refine zZ (wpAny_mkText ?_)
 repeat(any_goals (first|assumption|with_reducible refine L0.at ?_|with_reducible refine L1.at ?_|with_reducible refine L2.at ?_|wp_step))
 refine vS vN.ga.plain F.entry_bexc_ga (@check_slot (model prog w) _ _ ⟨h,g,d,t+1,os⟩ "BaseException.__getattribute__" "BaseException" "__getattribute__" (.ref a) [.str name t] [] _ (by decide +kernel) (by decide +kernel) (L0.andThen (looks_mroIn X hm)) (F.args_bexc_ga _ _) ?_);have hho:=handedOut_of hh
 repeat(any_goals (first|assumption|with_reducible refine L0.at ?_|with_reducible refine L3.at ?_|(rw[hho])|wp_step))
theorem ph{bm:List Value}{N:Addr}{nm q:Str}{bs:List Value}{hdct:Bool}{sn:List Str}{sub:List Value}{ab:Bool}{col:Option Bool}{dd:Option Addr}{k0 k1 k2 k3 k5:Option Value}{rest:List Value}{fI:Addr}{Q:Fin->Shared->Prop}(X:K.In h)
  (hC:h.get? C=some (excClassObj nm q C N bs bm hdct sn sub ab col dd k0 k1 k2 k3 k5 "ValueError.__new__")) (T:OwnTail h vbm bm) (hi:findIn K (.ref C) "__init__"=some (some (.ref fI))) (hf:typeIn K (.ref fI)=some (.type "function"))
  (hq:∀h' e,h.objs.size<=e->Heap.MadeExcOf h h' e (.ref C) rest ->
   wpAny (model prog w) A (call (.ref fI) (.ref e::rest)) (λr s'=>r = .none/\Q (.done (.ret (.ref e))) s') E ⟨h',g,d,t,os⟩) (gP:rest.length<=sizeLine) :
  wpAny (model prog w) A (Builtin.«type.__call__» ⟨.ref C::rest,[]⟩) Q E ⟨h,g,d,t,os⟩:=by
 have F:=F.excBase_ValueError
 repeat(first|with_reducible refine xG hC ?_|with_reducible refine wpAny_madeBy_exc hC ?_|wp_step)
 refine codeAny_call_builtin_code (vE _ F.quiet) (wpAny_check_new_subT F T hC ?_);refine codeAny_exc_new_subT F T hC ?_ gP;show wpAny _ _ _ _ _ _;have kp:∀b o,h.get? b=some o->((h.push { cls:=.type "tuple",data:=.seq rest.toArray }).push { cls:=.ref C,data:=.fields #[.ref h.objs.size,.none,.none,.none,.bool false,.none] }).get? b=some o:=λb o e=>zY _ (zY _ e);have hC₁:=kp _ _ hC;have X₁:=X.keeps kp;have mZ:((h.push { cls:=.type "tuple",data:=.seq rest.toArray }).push
   { cls:=.ref C,data:=.fields #[.ref h.objs.size,.none,.none,.none,.bool false,.none] }).get? (h.objs.size+1)=some
   { cls:=.ref C,data:=.fields #[.ref h.objs.size,.none,.none,.none,.bool false,.none] }:=by heap_get
 have hcC:(Value.ref C::bm).contains (.ref C)=true:=by simp
 unfold isInstance
 repeat(first|with_reducible refine xG mZ ?_|(with_reducible refine uJ hC₁ ?_;rw[hcC])|wp_step)
 show wpAny _ _ (typeLookup (.ref C) _) _ _ _;refine(tH (M:=model prog w) X₁ hi).at ?_;refine xU (zZ ?_);refine(bind_fn X₁ (.ref (h.objs.size+1)) hf).at ?_;refine zZ (yT (hq _ (h.objs.size+1) (wF _) ⟨kp,vW (wF _),h.objs.size,mZ,vW (zS _),?_⟩) (λr s' hr=>?_) λ_ _ x=>x)
 ·exact zY _ (Heap.get?_push_at rfl rfl)
 ·obtain⟨rfl,hQ⟩:=hr
  wp_walk
  exact hQ
theorem Z8{bm:List Value}{N:Addr}{nm q:Str}{bs:List Value}{hdct:Bool}{sn:List Str}{sub:List Value}{ab:Bool}{col:Option Bool}{dd:Option Addr}{k0 k1 k2 k3 k5:Option Value}{rest:List Value}{fI:Addr}{Q:Value->Shared->Prop}(X:K.In h)
  (hC:h.get? C=some (excClassObj nm q C N bs bm hdct sn sub ab col dd k0 k1 k2 k3 k5 "ValueError.__new__")) (T:OwnTail h vbm bm) (hi:findIn K (.ref C) "__init__"=some (some (.ref fI))) (hf:typeIn K (.ref fI)=some (.type "function"))
  (hq:∀h' e,h.objs.size<=e->Heap.MadeExcOf h h' e (.ref C) rest ->
   wpAny (model prog w) (A.under (.builtin "type.__call__" ⟨.ref C::rest,[]⟩)) (call (.ref fI) (.ref e::rest)) (λr s'=>r = .none/\Q (.ref e) s') E ⟨h',g,d,t,os⟩) (gP:rest.length<=sizeLine) :
  wpAny (model prog w) A (call (.ref C) rest) Q E ⟨h,g,d,t,os⟩:=by
 have f1:=tc_lookup;have f2:=tc_bind (.ref C);have hT:(⟨h,g,d,t,os⟩:Shared).TypeIs (.ref C) "type":=⟨_,hC,rfl⟩
 refine tE (codeAny_of_tree ?_);show wpAny _ _ (callAny (.ref C) _) _ _ _
 repeat(any_goals (first|assumption|with_reducible refine xG hC ?_|wp_step))
 refine⟨rfl,?_⟩;refine codeAny_call_builtin_at (vE _ (by decide +kernel)) entry_typeCall (wpAny_check_type_call_sub hC (ph X hC T hi hf (λh' e hz hm=>?_) gP));exact hq h' e hz hm
end
end
section
open Builtin Builtin.ObjectAttr
structure XCls(K:Frag)(C:Addr):Prop where
 x:xIn K C=true
 ga:findIn K (.ref C) "__getattribute__"=some (some (.builtin "BaseException.__getattribute__"))
 gt:findIn K (.ref C) "__getattr__"=some none
 sa:findIn K (.ref C) "__setattr__"=some (some (.builtin "object.__setattr__"))
 mb:mroIn K C (.type "BaseException")=some true
 mo:mroIn K C (.type "object")=some true
 kp:keepIn K (.ref C)=true
 ca:findIn K (.ref C) "__class__"=some (some (.builtin "object.__class__"))
 cg:specialIn K (.builtin "object.__class__") "__get__"=some (some (.builtin "getset_descriptor.__get__"))
 ct:takesIn K (.builtin "object.__class__")=some true
theorem XCls.cls{K:Frag}{C:Addr}(c:XCls K C):∃cd,clsIn K C=some cd/\cd.hasDict=true:=by
 have q:=c.x;unfold xIn at q;split at q
 ·rename_i dd cd sl ho;split at q
  ·simp only[yQ,tT,Bool.not_eq_true']at q;exact⟨cd,by unfold clsIn;rw[ho],q.1.1.2⟩
  ·cases q
 ·cases q
section
variable {prog:Program}{w:World}{A:Around}{E:Value->Shared->Prop}{K:Frag}{a C:Addr}
theorem Sk{ox:Obj}{od:Option Obj}{s:Shared}{Q:Option Value->Shared->Prop}(X:K.In s.heap)(I:InstAt s.heap a ox C od)(c:XCls K C)(hq:Q (some (.ref C)) { s with toks:=s.toks+1 }):wpAny (model prog w) A (getAttr? (.ref a) "__class__") Q E s:=by
 obtain⟨h,g,d,t,os⟩:=s;obtain⟨cd,kO,hdi⟩:=c.cls;have hf:findObj K C od "__class__"=some (.bind (.builtin "getset_descriptor.__get__") (.builtin "object.__class__")):=by simp only[findObj,kO,c.ca,c.cg,c.ct,Option.bind_some]
 have L0:=I.type (M:=model prog w);have L1:=tH (M:=model prog w) X c.ga;have L2:=tH (M:=model prog w) X c.gt;have L3:=looks_find (M:=model prog w) X I hf;have f3:=vN.ga.bind (.ref a);have hx2:(Value.builtin "BaseException.__getattribute__"==Value.builtin "object.__getattribute__")=false:=by decide +kernel
 have hx1:(onTheHeap (Value.ref C)&&Value.builtin "BaseException.__getattribute__"==Value.builtin "object.__getattribute__")=false:=by rw[hx2];rfl
 unfold getAttr? getAttrBy?;refine zZ (wpAny_mkText ?_)
 repeat(any_goals (first|assumption|with_reducible refine L0.at ?_|with_reducible refine L1.at ?_|with_reducible refine L2.at ?_|wp_step))
 refine vS vN.ga.plain F.entry_bexc_ga (@check_slot (model prog w) _ _ ⟨h,g,d,t+1,os⟩ "BaseException.__getattribute__" "BaseException" "__getattribute__" (.ref a) [.str "__class__" t] [] _ (by decide +kernel) (by decide +kernel) (L0.andThen (looks_mroIn X c.mb)) (F.args_bexc_ga _ _) ?_)
 repeat(any_goals (first|assumption|with_reducible refine L0.at ?_|with_reducible refine L3.at ?_|wp_step))
 refine class_get (s:=⟨h,g,d,t+1,os⟩) (ox:=ox) (od:=od) X I c.mo ?_
 repeat(any_goals (first|assumption|wp_step))
theorem U5{ox:Obj}{od:Option Obj}(c:XCls K C):KitX K (.ref a) (.ref C) (λh=>InstAt h a ox C od)where
 ty:=λ_ _ _ I=>I.type
 it:=λ_ _ X _=>by
  obtain⟨cdD,qU,_⟩:=c.cls;unfold clsIn at qU;split at qU
  ·rename_i c' d' cd' Do ho;intro A' Q' E' s' k q;unfold isType loadHead;exact zZ (wpAny_loadPart (k _ _ (X _ _ ho)) (zV q))
  ·cases qU
 ne:=λh tp dd aF n sl X htp=>by
  obtain⟨cdD,qU,_⟩:=c.cls;refine Bool.eq_false_iff.mpr λq=>?_;have e:C=tp:=Value.ref.inj (tT.mp q);subst e;unfold clsIn at qU;split at qU
  ·rename_i c' d' cd' Do ho;have z:=(X _ _ ho).symm.trans htp;cases z
  ·cases qU
 ca:=λX I k=>Sk X I c k
end
def exO(a C:Addr)(dx:Option Addr)(n:Bool):HO:=.ext λh=>∃oe vs v1,h.get? a=some oe/\oe.cls = .ref C/\oe.dict=dx/\oe.data = .fields vs/\vs[1]?=some v1/\((n=true->v1 = .none)/\vs[2]?=some .none)
section
variable {P:Program}{w:World}{H:Hp}{h:Heap}{a C:Addr}{dx:Option Addr}{n:Bool}
theorem qj(e:∃oe vs v1,h.get? a=some oe/\oe.cls = .ref C/\oe.dict=dx/\oe.data = .fields vs/\vs[1]?=some v1/\((n=true->v1 = .none)/\vs[2]?=some .none)):ObjOk P w H h a (exO a C dx n):=by
 refine⟨e,?_,λh1 h2 ⟨oe,vs,v1,e1,r⟩ k=>⟨oe,vs,v1,k _ e1,r⟩⟩;obtain⟨oe,_,_,e1,_⟩:=e;exact⟨oe,e1⟩
theorem wk(ok:HOk P w H h)(e:H a=some (exO a C dx n)):∃oe vs v1,h.get? a=some oe/\oe.cls = .ref C/\oe.dict=dx/\oe.data = .fields vs/\vs[1]?=some v1/\((n=true->v1 = .none)/\vs[2]?=some .none):=(ok a _ e).1
end
section
variable {X:Cx}{pins:List (Addr×Obj)}{σ:St}{H:Hp}{s:Shared}{a C:Addr}{n:Bool}
theorem Inv.exDict{dx:Addr}{fs:List (Str×V)}{mA:Str->Option Value}{h':Heap}{t':Nat}(I:Inv X pins σ H s)(ea:H a=some (exO a C none n))(hz:s.heap.objs.size<=dx)(k:∀b o,b≠a->s.heap.get? b=some o->h'.get? b=some o)
  (ns:h'.Ns1 dx mA) (r:∀f,RelO (fs.lookup f) (mA f)) (na:∃oe vs v1,h'.get? a=some oe/\oe.cls = .ref C/\oe.dict=some dx/\oe.data = .fields vs/\vs[1]?=some v1/\((n=true->v1 = .none)/\vs[2]?=some .none)) :
  Inv X pins σ (upd (upd H dx (.xd fs)) a (exO a C (some dx) n)) { s with heap:=h',toks:=t' }:=by
 have eN:H dx=none:=I.hok.fresh hz;have ne:dx≠a:=λz=>by rw[z,ea]at eN;cases eN
 have at_:∀b o,H b=some o->b≠a->(upd (upd H dx (.xd fs)) a (exO a C (some dx) n)) b=some o:=λb o e z=>by rw[zg z,zg (λq=>by rw[q,eN]at e;cases e)];exact e
 refine I.un ⟨λb o e q _ _=>k b o (λz=>by rw[z,ea]at q;cases q) e,λb o e q _ _=>⟨o.slots,k b o (λz=>by rw[z,ea]at q;cases q) e⟩,λb o e q _=>?_,λb o e _=>?_,λb xs e=>at_ b _ e λz=>?_,λb o u e=>at_ b _ e λz=>?_,λb ps e=>⟨#[],?_⟩⟩ λb o e=>?_
 ·rw[zg (λz=>by rw[z,ea]at q;cases q),zg (zI (zH (zT e) hz))];exact q
 ·by_cases z:b=a
  ·obtain⟨oe,_,_,e1,_⟩:=na;exact⟨oe,z▸e1⟩
  ·exact⟨o,k b o z e⟩
 ·rw[z,ea]at e;cases e
 ·rw[z,ea]at e;cases e
 ·rw[at_ b _ e λz=>by rw[z,ea]at e;cases e];simp
 ·by_cases z:b=a
  ·subst z;rw[zy]at e;cases e;exact qj na
  ·rw[zg z]at e
   by_cases q:b=dx
   ·subst q;rw[zy]at e;cases e;exact⟨mA,ns,r⟩
   ·rw[zg q]at e;refine(I.hok b o e).stay (λc u hc g=>k c u ?_ g) (λc g=>at_ c _ g λy=>?_) λc xs g=>at_ c _ g λy=>?_
    ·rcases hc with y|y
     ·rw[y];exact z
     ·intro y';rw[y',ea]at y;cases y
    ·rw[y,ea]at g;cases g
    ·rw[y,ea]at g;cases g
end
end
section
theorem Rm{K:Frag}{C:Addr}{h:Heap}(X:K.In h)(c:XCls K C):∃bm N nm q bs hdct sn sub ab col dd k0 k1 k2 k3 k5,h.get? C=some (excClassObj nm q C N bs bm hdct sn sub ab col dd k0 k1 k2 k3 k5 "ValueError.__new__")/\OwnTail h vbm bm:=by
 obtain⟨cd,x⟩:=Oz X c.x;obtain⟨bm,N,nm,q,bs,hdct,sn,sub,ab,col,dd,k0,k1,k2,k3,k5,hC,T,_⟩:=x.obj;exact⟨bm,N,nm,q,bs,hdct,sn,sub,ab,col,dd,k0,k1,k2,k3,k5,hC,T⟩
def R6(K:Frag)(ta tv:TE)(f:Str):TS:=λD σ H=>tv σ H λy H1=>ta σ H1 λx H2=>∃a C n,x = .ref a/\H2 a=some (exO a C none n)/\XCls K C/\takerIn K C f=some none /\
 ∀dx,H2 dx=none->D.nx σ (upd (upd H2 dx (.xd [(f,y)])) a (exO a C (some dx) n))
def R9(K:Frag)(ta:TE)(f:Str):TE:=fun σ H Q=>ta σ H λx H1=>∃a C dx n fs v,x = .ref a/\H1 a=some (exO a C (some dx) n)/\H1 dx=some (.xd fs)/\XCls K C/\lj K C f/\fs.lookup f=some v/\Q v H1
section
variable {X:Cx}{o e value:Expr}{f:Str}{pos iG:Pos}{ta tv:TE}
theorem To(ha:PE X o ta)(hv:PE X value tv)(hs:swapsWith value (some (.Attribute o f iG)) pos.line X.env=pure false):PS X (.Assign [.Attribute o f iG] value pos) (R6 X.K ta tv f):=by
 intro pins s σ H D I h;refine plainObj_wpAny_Assign_Attribute (thn (hv pins s σ H _ I h) λu s1 ⟨y,H1,I1,ry,q⟩=>thn (ha pins s1 σ H1 _ I1 q) λov s2 ⟨x,H2,I2,rx,a,C,n,ex,ea,c,ht,q2⟩=>?_) hs;subst ex;obtain rfl:ov=Value.ref a:=rx;obtain⟨cd,x⟩:=Oz I2.kIn c.x;obtain⟨oe,vs,v1,e1,e2,e3,e4,e5,e6⟩:=wk I2.hok ea;refine Oj I2.kIn x c.sa ht e1 e2 e3 e4 λh' dx tk hz hn e' k=>?_;have hr:∀g,RelO (([(f,y)]:List (Str×V)).lookup g) (if g=f then some u else none):=λg=>by
  by_cases z:g=f
  ·rw[yS z,z,uW];exact ry
  ·rw[yY z,uR,beq_eq_false_iff_ne.mpr z];exact True.intro
 refine⟨σ,_,Inv.exDict (n:=n) (t':=tk) I2 ea hz k hn hr ⟨_,vs,v1,e',e2,rfl,e4,e5,e6⟩,q2 dx (I2.hok.fresh hz)⟩
theorem Zl(he:PE X e ta)(hb:attributeBase e f X.env (eval e X.env)=eval e X.env):PE X (.Attribute e f pos) (R9 X.K ta f):=by
 intro pins s σ H Q I h;refine Si hb (thn (he pins s σ H _ I h) λu s1 ⟨x,H1,I1,rx,a,C,dx,n,fs,v,ex,ea,ed,c,na,l,q⟩=>?_);subst ex;obtain rfl:u=Value.ref a:=rx;obtain⟨oe,vs,v1,e1,e2,e3,e4,e5,e6⟩:=wk I1.hok ea;obtain⟨mA,ns,r⟩:=(show∃mA,s1.heap.Ns1 dx mA/\∀f,RelO (fs.lookup f) (mA f)from I1.hok dx _ ed)
 obtain⟨w,hw,oK⟩:=RelO.some_of (v:=v) (o:=mA f) (by rw[<-l];exact r f);obtain⟨od,hod,hl⟩:=qo ns;obtain⟨cd,kO,hdi⟩:=c.cls;obtain⟨hh,g,d,t,os⟩:=s1;have J:W.InstAt hh a oe C (some od):=⟨e1,e2,by unfold notCls;rw[e4],by rw[e3];exact hod⟩
 exact Mc I1.kIn J c.ga c.gt c.mb (findObj_own (by unfold hasDictIn;rw[kO];exact hdi) na rfl (by rw[hl,hw])) (Xk oK) ⟨v,H1,I1.tok _,oK,q⟩
end
structure DefI(K:Frag)(C:Addr)(qual:Str)(st:Stmt)(ps:List Str):Prop where
 ex:∃(f:Addr)(fd:FuncData),Fun K "__init__" qual st f fd/\(∀us:List Value,us.length=ps.length->bindArgs fd ⟨us,[]⟩=pure (ps.zip us))/\findIn K (.ref C) "__init__"=some (some (.ref f))/\typeIn K (.ref f)=some (.type "function")/\XCls K C
structure rh(P:Program)(w:World)(K:Frag)(mg:Str->Option Value)(base:Heap)(k:Nat)(C:Addr)(ps:List Str)(sp:Sp):Prop where
 ex:∃(f:Addr)(fd:FuncData),ul P w K mg base CX0 k f fd ps sp/\Binds K fd ps []/\findIn K (.ref C) "__init__"=some (some (.ref f))/\typeIn K (.ref f)=some (.type "function")/\XCls K C
theorem DefI.callee{P:Program}{w:World}{K:Frag}{mg:Str->Option Value}{base:Heap}{C:Addr}{qual:Str}{st:Stmt}{N ps:List Str}{k:Nat}{sp:Sp}(F:DefI K C qual st ps)(S:zj N ps (z0 st))(len:∀vs H Q E,sp vs H Q E->vs.length=ps.length)
  (cF:∀(f:Addr)(cdv:Value)(A:Around)(outer:List Env)(s:Shared)(H:Hp)(vs:List V)(Q:VK)(E:XK),Room k (A.deeper (envOfC qual (z0 st) s.heap.objs.size f cdv))->sp vs H Q E ->
   ∃σ t,vy N vs=σ/\PSs (wj CX0 P w K mg base N qual (z0 st) f cdv A outer s H E).nox (zq st) t/\t { nx:=λ_ H'=>Q .non H',rt:=Q } σ H):rh P w K mg base (k+1) C ps sp:=by
 obtain⟨f,fd,F,b,hi,hf,hc⟩:=F.ex;refine⟨f,fd,F.ok S len λcdv A outer s H vs Q E hr h=>?_,.all b,hi,hf,hc⟩;obtain⟨σ,t,e,ht,q⟩:=cF f cdv A outer s H vs Q E hr h;exact⟨t,ht,by rw[e];exact q⟩
theorem Sl{K:Frag}{C:Addr}{qual:Str}{st:Stmt}{ps:List Str}{f:Addr}{oc:Value}{od an:Option Addr}{osl:Array (Option Value)}{kV doc pm cdv ct:Value}
  (a:findIn K (.ref C) "__init__"=some (some (.ref f))) (l:K.lookup f=some ⟨oc,od,.func (W.fnOf "__init__" qual (zk st) (zq st) (z0 st) .none kV doc pm an cdv ct),osl⟩)
  (c:codeIn K cdv qual=true) (k:keepIn K (.ref f)=true) (n:typeIn K (.ref f)=some (.type "function")) (x:XCls K C)
  (h:∀(kV doc pm:Value)(an:Option Addr)(cdv ct:Value)(us:List Value),us.length=ps.length->bindArgs (W.fnOf "__init__" qual (zk st) (zq st) (z0 st) .none kV doc pm an cdv ct) ⟨us,[]⟩=pure (ps.zip us)):DefI K C qual st ps :=
 ⟨f,_,ac l c k,λus hl=>h kV doc pm an cdv ct us hl,a,n,x⟩
def Sa(C:Addr)(sp:Sp)(t:TA):TE:=fun σ H Q=>t σ H λvs H1=>vs.length<=sizeLine/\∀a,H1 a=none->sp (.ref a::vs) (upd H1 a (exO a C none true)) (λv H2=>v = .non/\Q (.ref a) H2) E0
theorem Vp{X:Cx}{C:Addr}{x:Str}{e:Expr}{es:List Expr}{t:TA}{k k':Nat}{ps:List Str}{sp:Sp}{p pos:Pos}(F:rh X.prog X.w X.K X.mg X.base k C ps sp)(hr:Room k' X.A)(hk:k+1<=k')(hm:X.mg x=some (.ref C))(ha:PA X (e::es) t)(hg:Gl X x:=by rfl)
  (jD:(x==("__debug__":Str))=false:=by decide) (he:starEach (e::es) X.env=(false,eval e X.env)::starEach es X.env:=by rfl) (fG:(backTo pos (starEach es X.env)).any (·.1)=false:=by rfl) :
  PE X (.Call (.Name x p) (e::es) [] pos) (Sa C sp t):=by
 intro pins s σ H Q I h;obtain⟨fI,fd,F,b,hi,hf,c⟩:=F.ex;refine wX (vg I hg hm ?_ jD);refine tW (h₀:=X.base) I.ok.mod.kin c.kp (thn (ha pos pins s σ H _ I h) λus s1 ⟨vs,H1,I1,r,hz,q⟩=>⟨I1.kIn,?_⟩) he fG;obtain⟨bm,N,nm,qq,bs,hdct,sn,sub,ab,col,dd,k0,k1,k2,k3,k5,hC,T⟩:=Rm I1.kIn c;obtain⟨hh,g,d,tt,os⟩:=s1;refine Z8 I1.kIn hC T hi hf (λh' a GW fP=>?_) (show us.length<=sizeLine by rw[<-r.length];exact hz);obtain⟨tp,ht,_,_⟩:=fP.there;have I2:Inv X pins σ (upd H1 a (exO a C none true)) ⟨h',g,d,tt,os⟩:=I1.laid (a:=a) (t':=tt) fP.keeps GW (qj ⟨_,_,.none,ht,rfl,rfl,rfl,rfl,λ_=>rfl,rfl⟩);have hq:=q a (I1.hok.fresh GW);have r2:Vals (V.ref a::vs) (Value.ref a::us):=.cons rfl r;have hl:((Value.ref a::us)++[]).length=ps.length:=by
  rw[List.append_nil];exact r2.length.symm.trans (F.len _ _ _ _ hq)
 have hb:=b ⟨h',g,d,tt,os⟩ (Value.ref a::us) I2.kIn hl;rw[List.append_nil]at hb;refine tE (vD (F.run _ X.stack _ _ ⟨Value.ref a::us,[]⟩ (Value.ref a::us) _ _ E0 ((hr.mono hk).make C us []) (I2.env0.make C us []) hb r2 hq) λr s' Hv=>?_);cases r with
 |error e=>exact False.elim Hv
 |ok fl =>
  cases fl with
  |ret u =>
   obtain⟨v,H',I3,rv,ev,q3⟩:=I2.after Hv;subst ev;exact⟨rv,⟨V.ref a,H',I3,rfl,q3⟩⟩
  |next=>exact False.elim Hv
  |brk=>exact False.elim Hv
  |cont=>exact False.elim Hv
end
section
def Ow:V->Option Value
 | .ref a=>some (.ref a)
 | .ty n=>some (.type n)
 |_=>none
theorem Ww{c:V}{cv u:Value}(h:Ow c=some cv)(r:RelV c u):u=cv:=by
 cases c<;>first|(cases h;exact r)|cases h
section
variable {X:Cx}
theorem qr{x:Str}{pos:Pos}{C:Addr}(hm:X.mg x=some (.ref C))(hg:Gl X x:=by rfl)(jD:(x==("__debug__":Str))=false:=by decide):PE X (.Name x pos) (tC (.ref C)) :=
 λpins s σ H Q I h=>vg I hg hm ⟨.ref C,H,I,rfl,h⟩ jD
end
section
variable {M:Model}{A:Around}{E:Value->Shared->Prop}{env:Env}{K:Frag}
theorem Tu{s:Shared}{x:Sem Value}{Q:Flow->Shared->Prop}(hh:A.handled=none)
  (h:wpAny M A x (λv s₁=>∃a C oe vs,v = .ref a/\K.In s₁.heap/\XCls K C/\s₁.heap.get? a=some oe/\oe.cls = .ref C/\oe.data = .fields vs/\vs[1]?=some .none/\E (.ref a) s₁) E s) :
  wpAny M A (raiseStmt env (some x) none) Q E s:=by
 unfold raiseStmt;refine zZ (yT h (λv s₁ h₁=>?_) λ_ _ x=>x);obtain⟨a,C,oe,vs,rfl,KX,c,he,hc,hd,h1,hE⟩:=h₁;obtain⟨bm,N,nm,qq,bs,hdct,sn,sub,ab,col,dd,k0,k1,k2,k3,k5,hC,T⟩:=Rm KX c;have hcB:(Value.ref C::bm).contains (.type "BaseException")=true:=by rw[List.contains_cons,T.hasType (b:=true) (by decide),Bool.or_true]
 obtain⟨oc,od,dt,sl⟩:=oe;dsimp only at hc hd;subst hc hd;obtain⟨hp,g,d,tk,os⟩:=s₁
 repeat(first|with_reducible refine xG he ?_|with_reducible refine xG hC ?_|(with_reducible refine uJ hC ?_;rw[hcB])|with_reducible refine yI he rfl h1 ?_|wp_step)
 exact wpAny_raiseNew_none hh hE
end
def gl(X:Cx)(E:XK):Prop:=∀(pins:List (Addr×Obj))(σ:St)(H:Hp)(s:Shared)(a C:Addr)(dx:Option Addr),Inv X pins σ H s->H a=some (exO a C dx true)->E (.ref a) dx (upd H a (exO a C dx false))->X.xe (.ref a) s
def cj(K:Frag)(E:XK)(te:TE):TS:=λD σ H=>te σ H λx H1=>∃a C dx,x = .ref a/\H1 a=some (exO a C dx true)/\XCls K C/\E (.ref a) dx (upd H1 a (exO a C dx false))
theorem Wb{X:Cx}{e:Expr}{te:TE}{E:XK}{pos:Pos}(he:PE X e te)(hx:gl X E)(hh:X.A.handled=none):PS X (.Raise (some e) none pos) (cj X.K E te):=by
 intro pins s σ H D I h;rw[arm_exec_Raise];refine zZ (tB (Tu (K:=X.K) hh (zZ (thn (he pins s σ H _ I h) λv s1 ⟨x,H1,I1,rx,a,C,dx,ex,ea,c,q⟩=>zZ (tB (zV ?_))))));subst ex;obtain rfl:v=Value.ref a:=rx;obtain⟨oe,vs,v1,e1,e2,e3,e4,e5,e6⟩:=wk I1.hok ea;obtain rfl:=e6.1 rfl;exact⟨a,C,oe,vs,rfl,I1.kIn,c,e1,e2,e4,e5,hx pins σ H1 s1 a C dx I1 ea q⟩
end
section
def CXr(P:Program)(w:World):CXT:=λouter H s E e s'=>∃a C dx H' T,e = .ref a/\s'.os=s.os/\AllBare s'.gens/\Un (frs outer) [] H H' s.heap s'.heap/\HOk P w H' s'.heap /\
 H' a=some (exO a C dx false)/\H' T=none/\s.heap.objs.size<=T/\Fly s'.heap a C dx (some (T,.none))/\E e dx H'
theorem Wv{H:Hp}{a:Addr}{o:HO}(e:H a=some o):upd H a o=H:=by
 funext b
 by_cases z:b=a
 ·rw[z,zy,e]
 ·rw[zg z]
section
variable {P:Program}{w:World}{K:Frag}{mg:Str->Option Value}{base:Heap}{N:List Str}{qual:Str}{scope:Scope}{f:Addr}{cd:Value}{A:Around}{outer:List Env}{s₀:Shared}{H₀:Hp}{E:XK}
theorem qv{X:Cx}{pins:List (Addr×Obj)}{σ:St}{H:Hp}{s:Shared}{a C T:Addr}{dx:Option Addr}{old:Option (Addr×Value)}{n:Bool}{h1 h2:Heap}{fl:Option (Addr×Value)}(I:Inv X pins σ H s)(ea:H a=some (exO a C dx n))(ho:∀T v,old=some (T,v)->H T=none)
  (N:Ue (frs X.stack) a old s.heap h1) (hz:s.heap.objs.size<=T) (k2:∀b o,b≠T->h1.get? b=some o->h2.get? b=some o) (F2:Fly h2 a C dx fl):HOk X.prog X.w (upd H a (exO a C dx false)) h2:=by
 intro b o e
 by_cases z:b=a
 ·subst z;rw[zy]at e;cases e;obtain⟨oe,vs,e1,e2,e3,e4,h2,r⟩:=F2;cases fl with
  |none=>exact qj ⟨oe,vs,_,e1,e2,e3,e4,r,(λz=>by cases z),h2⟩
  |some p=>exact qj ⟨oe,vs,_,e1,e2,e3,e4,r.1,(λz=>by cases z),h2⟩
 ·rw[zg z]at e;refine(I.hok b o e).stay (λc u hc g=>?_) (λc g=>?_) λc xs g=>?_
  ·have ht:H c≠none:=by
    rcases hc with y|y
    ·rw[y,e];exact λq=>by cases q
    ·rw[y];exact λq=>by cases q
   refine k2 c u (zI (zH (zT g) hz)) (N.keep c u g (λq=>ht (I.stkFree c q)) (λq=>?_) λT' v' q y=>ht (by rw[y];exact ho T' v' q));rcases hc with y|y
   ·exact z (y.symm.trans q)
   ·rw[q,ea]at y;cases y
  ·rw[zg λy=>by rw[y,ea]at g;cases g];exact g
  ·rw[zg λy=>by rw[y,ea]at g;cases g];exact g
theorem d4{pins:List (Addr×Obj)}{σ:St}{H:Hp}{s:Shared}{a C:Addr}{dx:Option Addr}{n:Bool}{old:Option (Addr×Value)}(I:Inv (wj (CXr P w) P w K mg base N qual scope f cd A outer s₀ H₀ E) pins σ H s)(ea:H a=some (exO a C dx n))(F:Fly s.heap a C dx old)
  (ho:∀T v,old=some (T,v)->v = .none/\H T=none/\s₀.heap.objs.size<=T) (hE:E (.ref a) dx (upd H a (exO a C dx false))):(wj (CXr P w) P w K mg base N qual scope f cd A outer s₀ H₀ E).xe (.ref a) s:=by
 have hL:s₀.heap.objs.size<=s₀.heap.objs.size:=zS _;show wpAny (model P w) (A.deeper (envOfC qual scope s₀.heap.objs.size f cd)) (leaving (envOfC qual scope s₀.heap.objs.size f cd) (.ref a)) _ _ s;unfold leaving;refine zZ (ba (base:=base) (L:=s₀.heap.objs.size) I.ok.frames I.stack rfl F (λT v q=>(ho T v q).1) λh1 T hz N F1=>rz (s:={ s with heap:=h1 }) F1 λh2 k2 F2=>?_);have sz:=I.sz;have Bx:∀b o,s₀.heap.get? b=some o->b≠T:=λb o e=>zI (zH (zT e) (yW sz hz));have mem:∀b,b∈frs (envOfC qual scope s₀.heap.objs.size f cd::outer)->b=s₀.heap.objs.size\/b∈frs outer:=λb q=>by
  unfold frs at q;rw[xV]at q;exact zG.mp q
 have na:∀b,H b=none->b≠a:=λb q z=>by rw[z,ea]at q;cases q
 refine⟨a,C,dx,upd H a (exO a C dx false),T,rfl,I.os,I.bare,⟨λb o e q hb hx=>?_,λb o e q hb hx=>?_,λb o e q hx=>?_,λb o e hx=>?_,λb xs e=>?_,λb o u e=>?_,λb ps e=>?_⟩,qv I ea (λT v q=>(ho T v q).2.1) N hz k2 F2,zy,?_,yW sz hz,F2,hE⟩
 ·have e1:=I.base.keep b o e q hb hx;have e2:=I.base.free b o e q hx;refine k2 b o (Bx b o e) (N.keep b o e1 (λz=>?_) (na b e2) λT' v' z y=>?_)
  ·rcases mem b z with y|y
   ·exact absurd (zT e) (by rw[y];exact xS _)
   ·exact hb y
  ·exact absurd (zT e) (by rw[y];exact tU.mpr (ho T' v' z).2.2)
 ·obtain⟨sl,e1⟩:=I.base.slot b o e q hb hx;obtain⟨pT,e2⟩:=N.slot b _ e1 (by unfold frs;rw[xV];exact zC _ hb);exact⟨pT,k2 b _ (Bx b o e) e2⟩
 ·have e2:=I.base.free b o e q hx;rw[zg (na b e2)];exact e2
 ·obtain⟨o1,e1⟩:=I.base.there b o e hx;obtain⟨o2,e2⟩:=N.there b o1 e1;exact⟨o2,k2 b _ (Bx b o e) e2⟩
 ·have e1:=I.base.tups b xs e;rw[zg λz=>by rw[z,ea]at e1;cases e1];exact e1
 ·have e1:=I.base.frzs b o u e;rw[zg λz=>by rw[z,ea]at e1;cases e1];exact e1
 ·obtain⟨m,e1⟩:=I.base.tbls b ps e;exact⟨m,by rw[zg λz=>by rw[z,ea]at e1;cases e1];exact e1⟩
 ·have e2:=I.hok.fresh hz;rw[zg (na T e2)];exact e2
theorem tj:gl (wj (CXr P w) P w K mg base N qual scope f cd A outer s₀ H₀ E) E:=by
 intro pins σ H s a C dx I ea hE;obtain⟨oe,vs,v1,e1,e2,e3,e4,e5,e6⟩:=wk I.hok ea;obtain rfl:=e6.1 rfl;exact d4 (old:=none) I ea ⟨oe,vs,e1,e2,e3,e4,e6.2,e5⟩ (λ_ _ z=>nomatch z) hE
theorem Zj:qg (CXr P w) (wj (CXr P w) P w K mg base N qual scope f cd A outer s₀ H₀ E) E:=by
 intro pins σ H s e s' I h;obtain⟨a,C,dx,H',T,rfl,os,bare,un,hok,ea,hT,hz,F,hE⟩:=h;have I':=Inv.call' (ch:=[]) I os un hok bare (λb z=>absurd z (by simp));exact d4 (old:=some (T,.none)) I' ea F (λT' v' z=>by cases z;exact⟨rfl,hT,yW I.sz hz⟩) (by rw[Wv ea];exact hE)
theorem okX{x:Str}{st:Stmt}{fd:FuncData}{ps:List Str}{k:Nat}{sp:Sp}(F:Fun K x qual st f fd)(S:zj N ps (z0 st))(len:∀vs H Q E,sp vs H Q E->vs.length=ps.length)
  (cF:∀(cdv:Value)(A:Around)(outer:List Env)(s:Shared)(H:Hp)(vs:List V)(Q:VK)(E:XK),Room k (A.deeper (envOfC qual (z0 st) s.heap.objs.size f cdv))->sp vs H Q E ->
   ∃t,PSs (wj (CXr P w) P w K mg base N qual (z0 st) f cdv A outer s H E) (zq st) t/\t { nx:=λ_ H'=>Q .non H',rt:=Q } (vy N vs) H):ul P w K mg base (CXr P w) (k+1) f fd ps sp:=by
 obtain⟨oc,od,kV,doc,pm,an,cdv,ct,osl,rfl,lk,kO⟩:=F.ex;exact Rp lk kO S len λA outer s H vs Q E hr pW=>cF cdv A outer s H vs Q E hr pW
end
end
section
section
variable {X:Cx}{pins:List (Addr×Obj)}{σ:St}{H:Hp}{s:Shared}
theorem Y5{M:Model}{A:Around}{E:Value->Shared->Prop}{i:Nat}{x:Str}{pos:Pos}{Q:Unit->Shared->Prop}(I:Inv X pins σ H s)(hN:X.N.Nodup)(hi:X.N[i]?=some x)(hk:X.env.scope.names.lookup x=some .local)
  (h:∀s',Inv X pins (σ.set i none) H s'->Q () s'):wpAny M A (do bindName X.env x .none;unbindBehindTheSuite X.env x pos) Q E s:=by
 obtain⟨m,hn,hl⟩:=id I.loc;have Bn:(X.env.scope.kind == .class||(X.env.scope.kind == .module&&X.env.locals != X.env.globals))=false:=by rw[I.ok.kind];rfl
 have hiσ:i<σ.length:=by rw[I.len];exact(zU.mp hi).1
 have cne:=I.cne;refine wpAny_nameGoes_keeps hk hn Bn λh' v Cv hs=>?_;obtain⟨oL,_,_,hoL,_⟩:=id hn;refine h _ ⟨I.ok,I.os,I.bare,⟨λb o e n hb hx=>?_,λb o e n hb hx=>?_,I.base.free,λb o e hx=>?_,I.base.tups,I.base.frzs,I.base.tbls⟩,⟨_,Cv,λj y v' e1 e2 e3=>?_⟩,λy c e=>?_,I.free,I.freeC,λp hp=>?_,λb ob e=>?_,by simpa using I.len⟩
 ·exact(hs.2 b (zI (zH (zT e) I.ok.above))).trans (I.base.keep b o e n hb hx)
 ·obtain⟨sl,e1⟩:=I.base.slot b o e n hb hx;exact⟨sl,(hs.2 b (zI (zH (zT e) I.ok.above))).trans e1⟩
 ·obtain⟨o',e1⟩:=I.base.there b o e hx;exact⟨o',(hs.2 b (zI (zH (zT e) I.ok.above))).trans e1⟩
 ·by_cases hj:j=i
  ·subst hj;rw[tQ hiσ]at e2;cases e2
  ·rw[uT (wY hj)]at e2;obtain⟨u',r',q⟩:=hl j y v' e1 e2 e3;refine⟨u',r',?_⟩;rcases q with⟨k,e⟩|⟨k,c,e,z⟩
   ·refine .inl ⟨k,?_⟩;have:y≠x:=λe=>hj (mn hN e1 (e▸hi));simp[this,e]
   ·exact .inr ⟨k,c,e,z.sameBut hs (cne y c e)⟩
 ·obtain⟨w',z⟩:=I.cell y c e;exact⟨w',z.sameBut hs (cne y c e)⟩
 ·obtain⟨e,n,ne,nf,d⟩:=I.pin p hp;exact⟨(hs.2 p.1 ne).trans e,n,ne,nf,d⟩
 ·refine(I.hok b ob e).stay (λc w' hc q=>(hs.2 c ?_).trans q) (λ_ q=>q) λ_ _ q=>q;rintro rfl;rcases hc with rfl|hc
  ·rw[I.free]at e;cases e
  ·rw[I.free]at hc;cases hc
abbrev Wq(X:Cx)(a:Addr):Cx:={ X with A:=X.A.mark (some (.ref a)),calm:=false,xe:=λ_ _=>False }
theorem Y9(I:Inv X pins σ H s)(a:Addr):Inv (Wq X a) pins σ H s :=
 ⟨⟨I.ok.mod,I.ok.kind,I.ok.glob,I.ok.blt,I.ok.above,I.ok.inj,I.ok.has,I.ok.cab,(λz=>absurd (show false=true from z) zK),I.ok.frames,I.ok.stk,I.ok.exf,I.ok.bs,I.ok.bsz,I.ok.noex,I.ok.exfs,I.ok.funs,I.ok.frf⟩,I.os,I.bare,I.base,I.loc,I.cell,I.free,I.freeC,I.pin,I.hok,I.len⟩
theorem jw{a:Addr}(ok:X.Ok)(I:Inv (Wq X a) pins σ H s):Inv X pins σ H s:=⟨ok,I.os,I.bare,I.base,I.loc,I.cell,I.free,I.freeC,I.pin,I.hok,I.len⟩
end
section
variable {prog:Program}{w:World}{A:Around}{E:Value->Shared->Prop}{s:Shared}{env:Env}{K:Frag}
theorem Ph{M:Model}{a C J:Addr}{oe:Obj}{Q:Bool->Shared->Prop}(X:K.In s.heap)(c:XCls K C)(j:XCls K J)(hm:mroIn K C (.ref J)=some true)(he:s.heap.get? a=some oe)(hc:oe.cls = .ref C)(hq:Q true s):wpAny M A (excMatches (.ref a) (.ref J)) Q E s:=by
 obtain⟨bm,N,nm,qq,bs,hdct,sn,sub,ab,col,dd,k0,k1,k2,k3,k5,hJ,T⟩:=Rm X j;have hcB:(Value.ref J::bm).contains (.type "BaseException")=true:=by rw[List.contains_cons,T.hasType (b:=true) (by decide),Bool.or_true]
 have L:Looks M s.heap (isSubtype (.ref C) (.ref J)) true:=looks_mroIn X hm;have f:=tc_notTuple;obtain⟨hp,g,d,tk,os⟩:=s;unfold excMatches
 repeat(first|(with_reducible refine xG he ?_;rw[hc])|with_reducible refine xG hJ ?_|(with_reducible refine uJ hJ ?_;rw[hcB])|with_reducible refine L.at ?_|wp_step)
 exact hq
theorem af{e:Addr}{t:Expr}{n:Str}{b₀:Stmt}{kA:List Stmt}{pos:Pos}{rest:List ExceptHandler}{Q:Flow->Shared->Prop}
  (h:wpAny (model prog w) (A.mark (some (.ref e))) (eval t env) (λc s₁=>wpAny (model prog w) (A.mark (some (.ref e))) (excMatches (.ref e) c) (λb s₂=>b=true /\
   wpAny (model prog w) (A.mark (some (.ref e))) (setFlight (.ref e) none) (λ_ s₃=>wpAny (model prog w) (A.mark (some (.ref e))) (storeName env n (.ref e)) (λ_ s₄ =>
    wpAny (model prog w) (A.mark (some (.ref e))) (execs (b₀ :: kA) env) (λf s₅=>wpAny (model prog w) A (do bindName env n .none;unbindBehindTheSuite env n pos) (λ_ s₆=>Q f s₆) (λ_ _=>False) s₅)
     (λ_ _=>False) s₄) (λ_ _=>False) s₃) (λ_ _=>False) s₂) (λ_ _=>False) s₁) (λ_ _=>False) s) :
  wpAny (model prog w) A (handleBy (.ref e) env (.ExceptHandler (some t) (some n) (b₀ :: kA) pos::rest)) Q E s:=by
 refine wpAny_handleBy_cons (codeAny_handlers_test (yT h (λc s₁ h₁=>yT h₁ (λb s₂ h₂=>?_) λ_ _ z=>z.elim) λ_ _ z=>z.elim)) (by intro q;cases q);obtain⟨rfl,h₂⟩:=h₂;refine codeAny_handlers_suite_as (yT h₂ (λ_ s₃ h₃=>yT h₃ (λ_ s₄ h₄=>yT h₄ (λf s₅ h₅=>?_) λ_ _ z=>z.elim) λ_ _ z=>z.elim) λ_ _ z=>z.elim);exact yT h₅ (λ_ _ z=>z) λ_ _ z=>z.elim
end
def Ov(K:Frag)(J:Addr)(sp:Sp)(ta:TA)(i:Nat)(ts:Addr->TS):TS:=λD σ H=>ta σ H λvs H1=>sp vs H1 (λ_ H2=>D.nx σ H2) λe dx H'=>∃a C,e = .ref a/\H' a=some (exO a C dx false)/\XCls K C/\mroIn K C (.ref J)=some true /\
 ts a { nx:=fun σ' AC=>D.nx (σ'.set i none) AC,rt:=D.rt } (σ.set i (some (.ref a))) H'
structure w8(P:Program)(w:World)(K:Frag)(mg:Str->Option Value)(base:Heap)(k:Nat)(x:Str)(ps:List Str)(sp:Sp):Prop where
 ex:∃(f:Addr)(fd:FuncData),ul P w K mg base (CXr P w) k f fd ps sp/\Binds K fd ps []/\mg x=some (.ref f)/\keepIn K (.ref f)=true
theorem Tq{X:Cx}{x n J:Str}{Ja:Addr}{e:Expr}{es:List Expr}{b₀:Stmt}{kA:List Stmt}{i k k':Nat}{ps:List Str}{sp:Sp}{ta:TA}{ts:Addr->TS}{p pos Ir jp AW AE:Pos}(C:w8 X.prog X.w X.K X.mg X.base k x ps sp)(hr:Room k' X.A)(hk:k<=k')(ha:PA X.nox (e::es) ta)
  (hJ:X.mg J=some (.ref Ja)) (xJ:XCls X.K Ja) (hs:∀a,PSs (Wq X a) (b₀ :: kA) (ts a)) (hi:X.N[i]?=some n) (hN:X.N.Nodup) (qN:X.env.scope.names.lookup n=some .local:=by rfl) (hg:Gl X x:=by rfl) (hgJ:Gl X J:=by rfl)
  (gO:X.stack=X.env::X.outer:=by rfl) (hfm:X.env.frame=some X.env.locals:=by rfl) (Hq:swapsWith (.Call (.Name x p) (e::es) [] pos) none Ir.line X.env=pure false:=by rfl)
  (jD:(x==("__debug__":Str))=false:=by decide) (hdJ:(J==("__debug__":Str))=false:=by decide) (he:starEach (e::es) X.env=(false,eval e X.env)::starEach es X.env:=by rfl) (fG:(backTo pos (starEach es X.env)).any (·.1)=false:=by rfl) :
  PS X (.Try [.Expr (.Call (.Name x p) (e::es) [] pos) Ir] [.ExceptHandler (some (.Name J jp)) (some n) (b₀ :: kA) AW] [] [] AE) (Ov X.K Ja sp ta i ts):=by
 intro pins s σ H D I h;obtain⟨f,fd,F,b,hm,hkp⟩:=C.ex;refine wpAny_Try_except (wpAny_execs_cons (wpAny_Expr_any (wX (vg I hg hm ?_ jD)) I.quiet Hq));refine tW (h₀:=X.base) I.ok.mod.kin hkp (yT (ha pos pins s σ H _ (I.wish _) h) (λus s1 ⟨vs,H1,I1',r,q⟩=>⟨I1'.kIn,?_⟩) λ_ _ z=>z.elim) he fG;have I1:=I1'.unwish;have hl:(us++[]).length=ps.length:=by rw[List.append_nil];exact r.length.symm.trans (F.len _ _ _ _ q)
 have hb:=b s1 us I1.kIn hl;rw[List.append_nil]at hb;refine tE (vD (F.run X.A X.stack s1 H1 ⟨us,[]⟩ us vs _ _ (hr.mono hk) I1.env0 hb r q) λr s' hq=>?_);cases r with
 |ok fl =>
  cases fl with
  |ret u =>
   obtain⟨v,H2,I2,rv,q2⟩:=I1.after hq;exact vC (vC (show SP X pins D .next s' from⟨σ,H2,I2,q2⟩))
  |next=>exact False.elim hq
  |brk=>exact False.elim hq
  |cont=>exact False.elim hq
 |error ev =>
  obtain⟨a,C,dx,H',T,rfl,os,bare,un,hok,ea,hT,hz,Fl,a',C',ee,ea',xc,hmr,hts⟩:=hq;cases ee;obtain⟨oe,ovs,ov,e1,e2,_⟩:=wk hok ea;obtain⟨oe',ovs',ov',e1',e2',_⟩:=wk hok ea';rw[e1]at e1';cases e1';rw[e2]at e2';cases e2';have no:∀b∈([]:List Addr),(b∈X.ex\/X.s₀.heap.objs.size<=b)/\b≠X.env.locals/\(∀x c,X.env.cells.lookup x=some c->c≠b)/\∀p∈X.pn++pins,p.1≠b:=λb z=>absurd z (by simp);have I':=Inv.call' (ch:=[]) I1 os un hok bare no;refine ba (base:=X.base) (L:=X.env.locals) (gO▸I'.ok.frames) (gO▸I'.stack) hfm Fl (λT v z=>by cases z;rfl) λh1 T1 mT N F1=>rz (s:={ s' with heap:=h1 }) F1 λh2 k2 F2=>?_;rw[<-gO]at N;have na:∀b,H' b=none->b≠a:=λb q z=>by rw[z,ea]at q;cases q
  have mk:∀h2,(∀b o,b≠T1->h1.get? b=some o->h2.get? b=some o)->Fly h2 a C dx (some (T1,.none))->Inv X pins σ H' { s' with heap:=h2 }:=λh2 k2 F2=>by
   have qL:=qv I' ea (λT' v' z=>by cases z;exact hT) N mT k2 F2;rw[Wv ea]at qL;have nT:∀b o,s'.heap.get? b=some o->b≠T1:=λb o e=>zI (zH (zT e) mT);refine Inv.call' (ch:=[]) I1 (s':={ s' with heap:=h2 }) os ⟨λb o e q hb hx=>?_,λb o e q hb hx=>?_,un.free,λb o e hx=>?_,un.tups,un.frzs,un.tbls⟩ qL bare no
   ·have g:=un.keep b o e q hb hx;refine k2 b o (nT b o g) (N.keep b o g hb (na b (un.free b o e q hx)) λT' v' z y=>?_);cases z;exact absurd (zT e) (by rw[y];exact tU.mpr hz)
   ·obtain⟨sl,g⟩:=un.slot b o e q hb hx;obtain⟨pT,g2⟩:=N.slot b _ g hb;exact⟨pT,k2 b _ (nT b _ g) g2⟩
   ·obtain⟨o1,g⟩:=un.there b o e hx;obtain⟨o2,g2⟩:=N.there b o1 g;exact⟨o2,k2 b _ (nT b _ g) g2⟩
  have I2:=mk h2 k2 F2;obtain⟨oe2,vs2,g1,g2,g3,g4,g5⟩:=id F2;refine af (vg (X:=Wq X a) (Y9 I2 a) hgJ hJ ?_ hdJ);refine Ph (K:=X.K) (s:={ s' with heap:=h2 }) I2.kIn xc xJ hmr g1 g2 ⟨rfl,rz (s:={ s' with heap:=h2 }) F2 λh3 k3 F3=>?_⟩;have I3:=mk h3 (λb o z e=>k3 b o z (k2 b o z e)) F3;refine nq (X:=Wq X a) (Y9 I3 a) hN hi (.inl qN) (v:=.ref a) rfl (λs4 I4=>?_) (.inr qN);refine yT (hs a pins s4 _ H' _ I4 hts) (λf s5 q=>?_) λ_ _ z=>z;cases f with
  |next =>
   obtain⟨σ',AC,I5,q⟩:=q;exact Y5 (jw I.ok I5) hN hi qN λs6 I6=>⟨_,_,I6,q⟩
  |ret u =>
   obtain⟨v,σ',AC,I5,rv,q⟩:=q;exact Y5 (jw I.ok I5) hN hi qN λs6 I6=>⟨v,_,_,I6,rv,q⟩
  |brk=>obtain⟨_,_,_,q⟩:=q;exact q.elim
  |cont=>obtain⟨_,_,_,q⟩:=q;exact q.elim
end
section
theorem k6:bootBuiltins "ValueError"=some (.type "ValueError"):=by decide +kernel
section
variable {X:Cx}
end
section
variable {P:Program}{w:World}{K:W.Frag}{mg:Str->Option Value}{base:Heap}
theorem Def.calleeX{x:Str}{st:Stmt}{N ps:List Str}{k:Nat}{sp:Sp}(F:Def K mg x st ps)(S:zj N ps (z0 st))(len:∀vs H Q E,sp vs H Q E->vs.length=ps.length)
  (cF:∀(f:Addr)(cdv:Value)(A:Around)(outer:List Env)(s:Shared)(H:Hp)(vs:List V)(Q:VK)(E:XK),Room k (A.deeper (envOfC x (z0 st) s.heap.objs.size f cdv))->sp vs H Q E ->
   ∃σ t,vy N vs=σ/\PSs (wj (CXr P w) P w K mg base N x (z0 st) f cdv A outer s H E) (zq st) t/\t { nx:=λ_ H'=>Q .non H',rt:=Q } σ H):w8 P w K mg base (k+1) x ps sp:=by
 obtain⟨f,fd,F,b,hm⟩:=F.ex;refine⟨f,fd,okX F S len λcdv A outer s H vs Q E hr h=>?_,.all b,hm,F.kp⟩;obtain⟨σ,t,e,ht,q⟩:=cF f cdv A outer s H vs Q E hr h;exact⟨t,ht,by rw[e];exact q⟩
theorem su{X:Cx}{k k':Nat}{x:Str}{ps:List Str}{sp:Sp}{t:TA}{e:Expr}{es:List Expr}{p pos:Pos}{E:XK}(C:w8 X.prog X.w X.K X.mg X.base k x ps sp)(hx:qg (CXr X.prog X.w) X E)(hr:Room k' X.A)(hk:k<=k')(ha:PA X (e::es) t)(hg:Gl X x:=by rfl)
  (jD:(x==("__debug__":Str))=false:=by decide) (he:starEach (e::es) X.env=(false,eval e X.env)::starEach es X.env:=by rfl) (fG:(backTo pos (starEach es X.env)).any (·.1)=false:=by rfl) :
  PE X (.Call (.Name x p) (e::es) [] pos) (Zx sp [] E t):=by
 obtain⟨f,fd,F,b,hm,kp⟩:=C.ex;exact Zk F (hr.mono hk) hg hm kp b .nil hx ha jD he fG
end
end
section
theorem wg{X:Cx}{e:Expr}{te:TE}{E:XK}{pos:Pos}(he:PE X e te)(hx:gl X E)(hc:X.calm=true):PS X (.Raise (some e) none pos) (cj X.K E te) :=
 λpins s σ H D I h=>Wb he hx (I.ok.hd hc) pins s σ H D I h
theorem o8{K:Frag}{C:Addr}(x:xIn K C=true)(ga:findIn K (.ref C) "__getattribute__"=some (some (.builtin "BaseException.__getattribute__")))(gt:findIn K (.ref C) "__getattr__"=some none)
  (sa:findIn K (.ref C) "__setattr__"=some (some (.builtin "object.__setattr__"))) (mb:mroIn K C (.type "BaseException")=some true) (mo:mroIn K C (.type "object")=some true) (kp:keepIn K (.ref C)=true)
  (ca:findIn K (.ref C) "__class__"=some (some (.builtin "object.__class__"))) (cg:specialIn K (.builtin "object.__class__") "__get__"=some (some (.builtin "getset_descriptor.__get__"))) (ct:takesIn K (.builtin "object.__class__")=some true):XCls K C:=⟨x,ga,gt,sa,mb,mo,kp,ca,cg,ct⟩
end
section
open Builtin Builtin.ObjectAttr
section
variable {prog:Program}{w:World}{A:Around}{E:Value->Shared->Prop}{h:Heap}{g:Array GenState}{d:Drawn}{t:Nat}{os:OsState}{C N:Addr}{bm:List Value}{nm q:Str}{bs:List Value}{hdct:Bool}{sn:List Str}{sub:List Value}{ab:Bool}{col:Option Bool}{dd:Option Addr}{k0 k1 k2 k3 k5:Option Value}
theorem oh{mN:Str->Option Value}{rest:List Value}{Q:Fin->Shared->Prop}(T:OwnTail h vbm bm)
  (hC:h.get? C=some (excClassObj nm q C N bs bm hdct sn sub ab col dd k0 k1 k2 k3 k5 "ValueError.__new__")) (hn:h.Ns N mN) (sE:mN "__init__"=none)
  (hq:∀h' e,h.objs.size<=e->Heap.MadeExcOf h h' e (.ref C) rest->Q (.done (.ret (.ref e))) ⟨h',g,d,t,os⟩) (gP:rest.length<=sizeLine) :
  wpAny (model prog w) A (Builtin.«type.__call__» ⟨.ref C::rest,[]⟩) Q E ⟨h,g,d,t,os⟩:=by
 have F:=F.excBase_ValueError
 repeat(first|with_reducible refine xG hC ?_|with_reducible refine wpAny_madeBy_exc hC ?_|wp_step)
 refine codeAny_call_builtin_code (vE _ F.quiet) (wpAny_check_new_subT F T hC ?_);refine codeAny_exc_new_subT F T hC ?_ gP;show wpAny _ _ _ _ _ _;have kp:∀b o,h.get? b=some o->((h.push { cls:=.type "tuple",data:=.seq rest.toArray }).push { cls:=.ref C,data:=.fields #[.ref h.objs.size,.none,.none,.none,.bool false,.none] }).get? b=some o:=λb o e=>zY _ (zY _ e);have hC₁:=kp _ _ hC;have hn₁:=hn.keeps kp;have mZ:((h.push { cls:=.type "tuple",data:=.seq rest.toArray }).push
   { cls:=.ref C,data:=.fields #[.ref h.objs.size,.none,.none,.none,.bool false,.none] }).get? (h.objs.size+1)=some
   { cls:=.ref C,data:=.fields #[.ref h.objs.size,.none,.none,.none,.bool false,.none] }:=by heap_get
 have hcC:(Value.ref C::bm).contains (.ref C)=true:=by simp
 have T₁:=T.keeps kp;unfold isInstance
 repeat(first|with_reducible refine xG mZ ?_|(with_reducible refine uJ hC₁ ?_;rw[hcC])|wp_step)
 show wpAny _ _ (typeLookup (.ref C) _) _ _ _;refine wpAny_typeLookup_tail hC₁ hn₁ T₁ F.mroIs F.init.lookup ?_;rw[sE];refine xU (zZ (sW (F.init.bind _) ?_));refine zZ (tE (vS F.init.plain F.initEntry (wpAny_check_init_subT F T₁ hC₁ mZ rfl ?_)))
 wp_walk
 refine hq _ (h.objs.size+1) (wF _) ⟨λb o hb=>?_,vW (wF _),h.objs.size+2,?_,vW (by lia),?_⟩
 ·rw[zA _ _ (wO (wJ (zT hb)))];exact zY _ (kp _ _ hb)
 ·rw[yH _ (zY _ mZ) rfl];simp only[xI]
  rfl
 ·rw[zA _ _ (show h.objs.size+1≠h.objs.size+2 by lia)];exact Heap.get?_push_at (by simp only[xI]) rfl
theorem W9{mN:Str->Option Value}{rest:List Value}{Q:Value->Shared->Prop}(T:OwnTail h vbm bm)
  (hC:h.get? C=some (excClassObj nm q C N bs bm hdct sn sub ab col dd k0 k1 k2 k3 k5 "ValueError.__new__")) (hn:h.Ns N mN) (sE:mN "__init__"=none)
  (hq:∀h' e,h.objs.size<=e->Heap.MadeExcOf h h' e (.ref C) rest->Q (.ref e) ⟨h',g,d,t,os⟩) (gP:rest.length<=sizeLine) :
  wpAny (model prog w) A (call (.ref C) rest) Q E ⟨h,g,d,t,os⟩:=by
 have f1:=tc_lookup;have f2:=tc_bind (.ref C);have hT:(⟨h,g,d,t,os⟩:Shared).TypeIs (.ref C) "type":=⟨_,hC,rfl⟩
 refine tE (codeAny_of_tree ?_);show wpAny _ _ (callAny (.ref C) _) _ _ _
 repeat(any_goals (first|assumption|with_reducible refine xG hC ?_|wp_step))
 refine⟨rfl,?_⟩;refine codeAny_call_builtin_at (vE _ (by decide +kernel)) entry_typeCall (wpAny_check_type_call_sub hC (oh T hC hn sE (λh' e hz hm=>?_) gP));exact hq h' e hz hm
end
structure jg(K:Frag)(C:Addr):Prop where
 x:XCls K C
 e:excIn K C vbm "ValueError.__new__"=true
theorem Oy{K:Frag}{C:Addr}{h:Heap}(X:K.In h)(c:jg K C):∃bm N nm q bs hdct sn sub ab col dd k0 k1 k2 k3 k5 mN,h.get? C=some (excClassObj nm q C N bs bm hdct sn sub ab col dd k0 k1 k2 k3 k5 "ValueError.__new__")/\h.Ns N mN/\mN "__init__"=none/\OwnTail h vbm bm:=by
 have q:=c.e;unfold excIn at q;split at q
 ·rename_i dd cd sl ho;split at q
  ·rename_i C' bm k0 k1 k2 k3 n k5 hm hs;simp only[yQ,tT,Bool.not_eq_true']at q;obtain⟨⟨⟨⟨⟨rfl,rfl⟩,oZ⟩,ht⟩,hok⟩,sE⟩:=q;obtain⟨nm,bs,mro,ns,qn,hd,sn,sub,ab,col,del⟩:=cd;dsimp only at hm oZ hok sE;subst hm oZ;have sB:sl=#[k0,k1,k2,k3,some (.builtin "ValueError.__new__"),k5]:=by
    obtain⟨l⟩:=sl;simp only at hs;rw[hs]
   subst sB;exact⟨bm,ns,nm,qn,bs,hd,sn,sub,ab,col,dd,k0,k1,k2,k3,k5,_,X _ _ ho,.of_isNs (isNs_of_in X hok),nsMap_none_of_in X hok sE,tail_of_in X ht⟩
  ·cases q
 ·cases q
def Ws(C:Addr)(t:TA):TE:=fun σ H Q=>t σ H λvs H1=>vs.length<=sizeLine/\∀a,H1 a=none->Q (.ref a) (upd H1 a (exO a C none true))
theorem sx{X:Cx}{C:Addr}{x:Str}{e:Expr}{es:List Expr}{t:TA}{p pos:Pos}(c:jg X.K C)(hm:X.mg x=some (.ref C))(ha:PA X (e::es) t)(hg:Gl X x:=by rfl)
  (jD:(x==("__debug__":Str))=false:=by decide) (he:starEach (e::es) X.env=(false,eval e X.env)::starEach es X.env:=by rfl) (fG:(backTo pos (starEach es X.env)).any (·.1)=false:=by rfl) :
  PE X (.Call (.Name x p) (e::es) [] pos) (Ws C t):=by
 intro pins s σ H Q I h;refine wX (vg I hg hm ?_ jD);refine tW (h₀:=X.base) I.ok.mod.kin c.x.kp (thn (ha pos pins s σ H _ I h) λus s1 ⟨vs,H1,I1,r,hz,q⟩=>⟨I1.kIn,?_⟩) he fG;obtain⟨bm,N,nm,qq,bs,hdct,sn,sub,ab,col,dd,k0,k1,k2,k3,k5,mN,hC,hn,sE,T⟩:=Oy I1.kIn c;obtain⟨hh,g,d,tt,os⟩:=s1;refine W9 T hC hn sE (λh' a GW fP=>?_) (show us.length<=sizeLine by rw[<-r.length];exact hz);obtain⟨tp,ht,_,_⟩:=fP.there;have I2:Inv X pins σ (upd H1 a (exO a C none true)) ⟨h',g,d,tt,os⟩:=I1.laid (a:=a) (t':=tt) fP.keeps GW (qj ⟨_,_,.none,ht,rfl,rfl,rfl,rfl,λ_=>rfl,rfl⟩);exact⟨.ref a,_,I2,rfl,q a (I1.hok.fresh GW)⟩
def Mp(K:Frag):List V->Hp->VK->Prop:=λxs H Q=>∃a C dx n c cv b,xs=[.ref a,c]/\H a=some (exO a C dx n)/\(dx=none\/∃d fs,dx=some d/\H d=some (.xd fs))/\XCls K C/\Ow c=some cv/\kitOne K (.ref C) cv=some b/\Q (.bl b) H
section
variable {X:Cx}
theorem mh:xi X (.builtin "isinstance") (Mp X.K):=by
 intro pins s σ H xs us Q I r h;obtain⟨a,C,dx,n,c,cv,b,rfl,ea,hd,xc,rc,e,q⟩:=h;obtain⟨u,w',rfl,r1,r2⟩:=gg r;cases r1;obtain rfl:=Ww rc r2;obtain⟨oe,vs,v1,e1,e2,e3,e4,e5,e6⟩:=wk I.hok ea;rcases hd with rfl|⟨d,fs,rfl,ed⟩
 ·have J:W.InstAt s.heap a oe C none:=⟨e1,e2,by unfold notCls;rw[e4],by rw[e3];trivial⟩
  exact kia_one (U5 (ox:=oe) (od:=none) xc) I.kIn J e (λz=>nomatch z) λtk=>⟨.bl b,H,I.tok tk,rfl,q⟩
 ·obtain⟨mA,ns,_⟩:=(show∃mA,s.heap.Ns1 d mA/\∀f,RelO (fs.lookup f) (mA f)from I.hok d _ ed)
  obtain⟨od,hod,hl⟩:=qo ns;have J:W.InstAt s.heap a oe C (some od):=⟨e1,e2,by unfold notCls;rw[e4],by rw[e3];exact hod⟩
  exact kia_one (U5 (ox:=oe) (od:=some od) xc) I.kIn J e (λz=>nomatch z) λtk=>⟨.bl b,H,I.tok tk,rfl,q⟩
theorem ot{x:Str}{pos:Pos}{i:Int}{tk:Tok}(hm:X.mg x=some (.int i tk))(hg:Gl X x:=by rfl)(jD:(x==("__debug__":Str))=false:=by decide):PE X (.Name x pos) (tC (.int i)) :=
 λpins s σ H Q I h=>vg I hg hm ⟨.int i,H,I,⟨tk,rfl⟩,h⟩ jD
def K6(K:Frag)(g:Bool->Bool):R2:=λx y H Q=>∃d ds,Has K H x d/\Has K H y (.list ds)/\PyData.canLay0 d=true/\PyData.canLayAll0 ds=true/\PyData.depthAll ds<=60/\Q (.bl (g (ds.any λy=>PyData.eqv y d))) H
theorem M0(hu:X.A.units+64<cLine):OpR X (compareOp .In) (K6 X.K id):=by
 intro pins s σ H x y v u Q I rx ry h;obtain⟨d,ds,h1,h2,c1,c2,hd,q⟩:=h;obtain⟨as,ra⟩:=wq I d _ _ h1 rx;obtain⟨bs,rb⟩:=wq I _ _ _ h2 ry;exact SeqAt.in_list_reads rb ra c2 c1 (by lia) ⟨.bl _,H,I,rfl,q⟩
end
end
section
def ia(X:Cx):Value->Shared->Prop:=notedBy (model X.prog X.w) X.A X.env (cameBackBy (model X.prog X.w) X.A X.env X.xe)
section
variable {M:Model}{A:Around}{E:Value->Shared->Prop}{s:Shared}{a C L:Addr}{dx:Option Addr}
theorem O7{T:Addr}{v:Value}{x:String}{Q:Unit->Shared->Prop}(F:Fly s.heap a C dx (some (T,v)))
  (h:∀h',(∀b o,b≠T->s.heap.get? b=some o->h'.get? b=some o)->Fly h' a C dx (some (T,rawInt L))->Q () { s with heap:=h' }):wpAny M A (do
   if(<-field (.ref a) 1) == .none then unsupported x
   setFlight (.ref a) (some L)) Q E s:=by
 obtain⟨oe,vs,he,hc,eN,hd,h2,h1,qA,oT,ts,hT,nU,h3⟩:=F;have hsz:=(xY.mp h3).1;refine zZ (yI he hd h1 ?_);rw[yY (show¬((Value.ref T==Value.none)=true)from by simp)];unfold setFlight;refine zZ (yI he hd h1 ?_);rw[yS (show(Value.ref T != Value.none)=true from by simp)];refine vJ hT nU hsz (h _ (λb o hb e=>(zA _ _ (wY hb)).trans e) ?_);exact⟨oe,vs,(zA _ _ qA).trans he,hc,eN,hd,h2,h1,qA,_,_,yH _ hT (vZ (wV nU _)),wV nU _,by simp[Array.getElem?_setIfInBounds,hsz]⟩
end
section
variable {P:Program}{w:World}{K:Frag}{mg:Str->Option Value}{base:Heap}{N:List Str}{qual:Str}{scope:Scope}{f:Addr}{cd:Value}{A:Around}{outer:List Env}{s₀:Shared}{H₀:Hp}{E:XK}
theorem Xx{pins:List (Addr×Obj)}{σ:St}{H:Hp}{s:Shared}{a C T:Addr}{dx:Option Addr}(I:Inv (wj (CXr P w) P w K mg base N qual scope f cd A outer s₀ H₀ E) pins σ H s)(ea:H a=some (exO a C dx false))(F:Fly s.heap a C dx (some (T,rawInt s₀.heap.objs.size)))
  (hT:H T=none) (hz:s₀.heap.objs.size<=T) (hE:E (.ref a) dx H):(wj (CXr P w) P w K mg base N qual scope f cd A outer s₀ H₀ E).xe (.ref a) s:=by
 show wpAny (model P w) (A.deeper (envOfC qual scope s₀.heap.objs.size f cd)) (leaving (envOfC qual scope s₀.heap.objs.size f cd) (.ref a)) _ _ s;unfold leaving;obtain⟨oe,vs,e1,e2,e3,e4,_,e5,e6,oT,ts,g1,g2,g3⟩:=id F;refine zZ ?_;unfold noteFrame;simp only[show(envOfC qual scope s₀.heap.objs.size f cd).frame=some s₀.heap.objs.size from rfl];refine zZ (yI e1 e4 e5 ?_);rw[yS (show(Value.ref T != Value.none)=true from by simp)];refine zZ (yI g1 g2 g3 ?_);rw[yS (show(rawInt s₀.heap.objs.size==rawInt s₀.heap.objs.size)=true from by simp)];refine zV (rz F λh2 k2 F2=>?_);have na:∀b,H b=none->b≠a:=λb q z=>by rw[z,ea]at q;cases q
 have Bx:∀b o,s₀.heap.get? b=some o->b≠T:=λb o e=>zI (zH (zT e) hz);have B:=I.base;refine⟨a,C,dx,H,T,rfl,I.os,I.bare,⟨λb o e q hb hx=>k2 b o (Bx b o e) (B.keep b o e q hb hx),λb o e q hb hx=>?_,B.free,λb o e hx=>?_,B.tups,B.frzs,B.tbls⟩,λb o e=>?_,ea,hT,hz,F2,hE⟩
 ·obtain⟨sl,q1⟩:=B.slot b o e q hb hx;exact⟨sl,k2 b _ (Bx b o e) q1⟩
 ·obtain⟨o1,q1⟩:=B.there b o e hx;exact⟨o1,k2 b _ (Bx b o e) q1⟩
 ·by_cases z:b=a
  ·subst z;rw[ea]at e;cases e;obtain⟨oe,vs,e1,e2,e3,e4,h2,r⟩:=F2;exact qj ⟨oe,vs,_,e1,e2,e3,e4,r.1,(λz=>by cases z),h2⟩
  ·refine(I.hok b o e).stay (λc u hc g=>k2 c u (λy=>?_) g) (λc g=>g) λc xs g=>g;subst y;rcases hc with y|y
   ·rw[y,e]at hT;cases hT
   ·rw[y]at hT;cases hT
theorem Qk{pins:List (Addr×Obj)}{σ:St}{H1 H:Hp}{s1 s:Shared}{a C:Addr}{dx:Option Addr}{n:Bool}{old:Option (Addr×Value)}(I1:Inv (wj (CXr P w) P w K mg base N qual scope f cd A outer s₀ H₀ E) pins σ H1 s1)(os:s.os=s1.os)(bare:AllBare s.gens)
  (un:Un (frs (envOfC qual scope s₀.heap.objs.size f cd::outer)) [] H1 H s1.heap s.heap) (I:Inv (wj (CXr P w) P w K mg base N qual scope f cd A outer s₀ H₀ E) pins σ H s) (ea:H a=some (exO a C dx n)) (F:Fly s.heap a C dx old)
  (ho:∀T v,old=some (T,v)->v = .none/\H T=none/\s1.heap.objs.size<=T) (hE:E (.ref a) dx (upd H a (exO a C dx false))):ia (wj (CXr P w) P w K mg base N qual scope f cd A outer s₀ H₀ E) (.ref a) s:=by
 show wpAny (model P w) (A.deeper (envOfC qual scope s₀.heap.objs.size f cd)) (noteFrame (.ref a) (envOfC qual scope s₀.heap.objs.size f cd)) _ _ s;refine ba (base:=base) (L:=s₀.heap.objs.size) I.ok.frames I.stack rfl F (λT v q=>(ho T v q).1) λh1 T hz Nt F1=>?_;refine O7 (s:={ s with heap:=h1 }) (L:=s₀.heap.objs.size) F1 λh2 k2 F2=>?_;have na:∀b,H b=none->b≠a:=λb q z=>by rw[z,ea]at q;cases q
 have nT:∀b o,s.heap.get? b=some o->b≠T:=λb o e=>zI (zH (zT e) hz);have qL:=qv I ea (λT v q=>(ho T v q).2.1) Nt hz k2 F2;have I2:Inv (wj (CXr P w) P w K mg base N qual scope f cd A outer s₀ H₀ E) pins σ (upd H a (exO a C dx false)) { s with heap:=h2 }:=by
  refine Inv.call' (ch:=[]) I1 (s':={ s with heap:=h2 }) os ⟨λb o e q hb hx=>?_,λb o e q hb hx=>?_,λb o e q hx=>?_,λb o e hx=>?_,λb xs e=>?_,λb o u e=>?_,λb ps e=>?_⟩ qL bare (λb z=>absurd z (by simp))
  ·have g:=un.keep b o e q hb hx;refine k2 b o (nT b o g) (Nt.keep b o g hb (na b (un.free b o e q hx)) λT' v' z y=>?_);exact absurd (zT e) (by rw[y];exact tU.mpr (ho T' v' z).2.2)
  ·obtain⟨sl,g⟩:=un.slot b o e q hb hx;obtain⟨pT,g2⟩:=Nt.slot b _ g hb;exact⟨pT,k2 b _ (nT b _ g) g2⟩
  ·have e2:=un.free b o e q hx;rw[zg (na b e2)];exact e2
  ·obtain⟨o1,g⟩:=un.there b o e hx;obtain⟨o2,g2⟩:=Nt.there b o1 g;exact⟨o2,k2 b _ (nT b _ g) g2⟩
  ·have e1:=un.tups b xs e;rw[zg λz=>by rw[z,ea]at e1;cases e1];exact e1
  ·have e1:=un.frzs b o u e;rw[zg λz=>by rw[z,ea]at e1;cases e1];exact e1
  ·obtain⟨m,e1⟩:=un.tbls b ps e;exact⟨m,by rw[zg λz=>by rw[z,ea]at e1;cases e1];exact e1⟩
 have hTn:=I.hok.fresh hz;exact Xx I2 zy F2 (by rw[zg (na T hTn)];exact hTn) (yW I.sz hz) hE
theorem Tv:gl ((wj (CXr P w) P w K mg base N qual scope f cd A outer s₀ H₀ E).wish (ia (wj (CXr P w) P w K mg base N qual scope f cd A outer s₀ H₀ E))) E:=by
 intro pins σ H s a C dx I ea hE;have I:=I.unwish;obtain⟨oe,vs,v1,e1,e2,e3,e4,e5,e6⟩:=wk I.hok ea;obtain rfl:=e6.1 rfl;exact Qk (old:=none) I rfl I.bare (Un.refl ..) I ea ⟨oe,vs,e1,e2,e3,e4,e6.2,e5⟩ (λ_ _ z=>nomatch z) hE
end
section
variable {X:Cx}{tg:Expr}
theorem Tp{iter:Expr}{body:List Stmt}{wi:TI}{g:TG}{tb:TS}{pos:Pos}(hc:X.calm=true)(hi:PI X tg iter wi)(hg:PG (X.wish (ia X)) tg g)(hb:PSs (X.wish (ia X)) body tb)
  (hs:∀x,foldedSetIterable iter X.env x=pure x:=by intro _;rfl):PS X (.For tg iter body [] pos) (Pu wi g tb):=by
 intro pins s σ H D I h;refine wpAny_For (thn (hi pins s σ H _ I h) λv s1 h1=>thn h1 λrZ s2 h2=>?_) hs;obtain⟨it,fp,tn,J,H2,e,I2,T,qE,f2,W,⟨m0,w0⟩,fL⟩:=h2;subst e;have kQ:∀{H':Hp},(∀b∈fp,H' b=none)->∀b∈fp,vo X pins H' b:=λhn b hb=>⟨hn b hb,(f2 b hb).2⟩
 refine codeAny_forLoop_any (λn s'=>∃i σ' H',Inv X pins σ' H' s'/\tn i s'.heap/\(∀b∈fp,H' b=none)/\W i n σ' H') ?_ m0 ⟨0,σ,H2,I2,qE,λb hb=>(f2 b hb).1,w0⟩;rintro n s3 ⟨i,σ3,H3,I3,CA,Ip,w3⟩;rcases fL i n σ3 H3 w3 with⟨stop,qn⟩|⟨go,N,hN,step⟩
 ·refine thn (T.done X rfl rfl rfl hc i pins s3 σ3 H3 _ I3 (kQ Ip) CA stop) λr s4 ⟨hr,I4⟩=>?_;subst hr;exact vC ⟨σ3,H3,I4,qn⟩
 ·refine thn (T.item X rfl rfl rfl hc i pins s3 σ3 H3 _ I3 (kQ Ip) CA go) λr s4 ⟨u,hr,h4⟩=>?_;subst hr;refine thn h4 λ_ s5 ⟨x,H5,I5,r5,y5,mQ,qZ⟩=>?_;have I5':=I5.pinned (kQ qZ) (T.obj _ _ mQ);refine thn (hg _ s5 σ3 H5 x u _ (I5'.wish _) r5 (step x H5 y5)) λ_ s6 ⟨σ6,H6,I6,q6⟩=>?_;refine thn (hb _ s6 σ6 H6 _ I6 q6) λf s7 q7=>?_;have again:∀{σ7:St}{H7:Hp},Inv X (pins++u7 fp s5.heap) σ7 H7 s7->N σ7 H7->∃m,m<n/\∃i σ' H',Inv X pins σ' H' s7/\tn i s7.heap/\(∀b∈fp,H' b=none)/\W i m σ' H':=λ{σ7 H7} I7 n7=>by
   obtain⟨m',hm,w7⟩:=hN σ7 H7 n7;refine⟨m',hm,i+1,σ7,H7,I7.unpinned,T.keep _ _ _ mQ λb hb o e=>(I7.pin (b,o) (zJ _ (zJ _ (x8 hb e)))).1,λb hb=>?_,w7⟩;obtain⟨o,e,d⟩:=T.obj _ _ mQ b hb;exact(I7.pin (b,o) (zJ _ (zJ _ (x8 hb e)))).2.1
  have q8:SP X (pins++u7 fp s5.heap) _ f s7:=q7.unwish;cases f with
  |next=>obtain⟨σ7,H7,I7,n7⟩:=q8;exact again I7 n7
  |cont=>obtain⟨σ7,H7,I7,n7⟩:=q8;exact again I7 n7
  |brk=>obtain⟨σ7,H7,I7,q7⟩:=q8;exact⟨σ7,H7,I7.unpinned,q7⟩
  |ret v=>obtain⟨x7,σ7,H7,I7,r7,q7⟩:=q8;exact⟨x7,σ7,H7,I7.unpinned,r7,q7⟩
end
theorem iu{P:Program}{w:World}{X:Cx}:qg (CXr P w) X (λ_ _ _=>False):=by
 intro pins σ H s e s' I h;obtain⟨a,C,dx,H',T,_,_,_,_,_,_,_,_,_,z⟩:=h;exact z.elim
section
variable {X:Cx}
def Ms:R2:=λx y H Q=>∃a n,x = .str a/\y = .int n/\MulOk a n/\Q (.str (Txt.mul a n)) H
theorem P5:OpR X (binaryOp .Mult) Ms:=by
 intro pins s σ H x y v u Q I rx ry h;obtain⟨a,n,rfl,rfl,ok,q⟩:=h;obtain⟨t,rfl⟩:=(show∃t,v=Value.str a t from rx)
 obtain⟨t',rfl⟩:=(show∃t,u=Value.int n t from ry)
 exact SB.mul ok λt' k=>⟨.str _,H,I.tok _,⟨_,rfl⟩,q⟩
def Ml(K:Frag):V->List V->Hp->VK->Prop:=λx vs H Q=>∃(l:Addr)(bs:List Bool)(k:Bool),x = .ref l/\vs=[.bl k]/\SqL K H l (bs.map V.bl)/\k∈bs/\bs.length<=1000/\Q (.int (bs.idxOf k:Nat)) H
def Uy(k:Bool):Value->Bool
 | .bool b=>b==k
 |_=>false
theorem P4:MtR X "list.index" (Ml X.K):=λpins s σ H x xs v us Q I rx rs h=>by
 obtain⟨l,bs,k,rfl,rfl,hq,hk,hz,q⟩:=h;cases rx;obtain⟨u,rfl,ru⟩:=v3 rs;obtain rfl:u=Value.bool k:=ru;obtain⟨aF,rv,pl,_⟩:=I.list hq;obtain rfl:=yd rv;obtain⟨⟨cls,dd,data,sl⟩,ho,hc,n,hd⟩:=pl.isList;simp only at hc hd;subst hc hd;have hj:bs.idxOf k<bs.length:=List.idxOf_lt_length_iff.mpr hk;refine tD F.slot_list_index ⟨_,ho,rfl⟩ F.entry_list_index (F.args_list_index_2 _ _)
  (SeqAt.list_indexAt l (bs.map Value.bool).toArray n dd sl (.bool k) (Uy k) (bs.idxOf k) (by simpa using hj) (by lia) ?_ ?_) ⟨ho,λy hy=>?_,⟨.int _,H,I.tok _,⟨_,rfl⟩,q⟩⟩
 ·simp only[List.getElem_toArray,List.getElem_map,Uy];simpa using List.getElem_idxOf hj
 ·intro j hjs aS;simp only[List.getElem_toArray,List.getElem_map,Uy];exact List.not_of_lt_findIdx aS
 ·obtain⟨b,_,rfl⟩:=zF.mp (by simpa using hy:y∈bs.map Value.bool);exact vV b k
end
end
section
theorem k7:entryFor table "proto.unchain"=some Builtin.«proto.unchain»:=entryFor_of_tree (by kernel_rfl)
def Quiet(h:Heap)(a:Addr):Prop:=∃oe vs,h.get? a=some oe/\oe.data = .fields vs/\vs[2]?=some .none
theorem Quiet.keep{h h':Heap}{a:Addr}(q:Quiet h a)(k:∀o,h.get? a=some o->h'.get? a=some o):Quiet h' a:=by
 obtain⟨oe,vs,e1,e2,e3⟩:=q;exact⟨oe,vs,k _ e1,e2,e3⟩
section
variable {prog:Program}{w:World}{A:Around}{E:Value->Shared->Prop}{s:Shared}{a:Addr}
theorem je{e:Value}{Q:Value->Shared->Prop}(q:Quiet s.heap a)(hq:Q .none s):wpAny (model prog w) A (runValue (.builtin "proto.unchain" ⟨[e,.ref a,.ref a,.bool false],[]⟩)) Q E s:=by
 obtain⟨oe,vs,e1,e2,e3⟩:=q;refine runValue_entry k7 ?_;unfold Builtin.«proto.unchain»;refine zZ (yI e1 e2 e3 ?_);exact zV ⟨_,rfl,hq⟩
theorem bu{α:Type}{e:Addr}{oe:Obj}{vs:Array Value}{Q:α->Shared->Prop}(hh:A.handled=some (.ref a))(q:Quiet s.heap a)(ne:a≠e)(he:s.heap.get? e=some oe)(hd:oe.data = .fields vs)(hsz:2<vs.size)
  (h:E (.ref e) { s with heap:=s.heap.update e (Obj.mapFields (·.setIfInBounds 2 (.ref a))) }):wpAny (model prog w) A (raiseNew (.ref e):Sem α) Q E s:=by
 unfold raiseNew;refine zZ (wpAny_handled ?_);rw[hh];dsimp only;rw[yS (show(Value.ref a != Value.ref e)=true from by simpa using ne)];refine zZ (xU (je q ?_));show wpAny _ _ (setField (.ref e) 2 (.ref a) >>= _) _ _ _;exact zZ (vJ he hd hsz (wpAny_throw h))
theorem u6{it l:Addr}{i:Nat}{items:Array Value}{Q:Option Value->Shared->Prop}(hh:A.handled=some (.ref a))(q:Quiet s.heap a)(ne:a≠it)
  (jB:s.heap.IsListIter it l i) (hl:s.heap.IsList l items) (hx:items[i]?=none)
  (hQ:∀h',Heap.ExtBut it s.heap h'->Q none { s with heap:=h' }):wpAny (model prog w) A (pyNext (.ref it)) Q E s:=by
 obtain⟨o,ho,hc,hd⟩:=id jB;obtain⟨ol,nQ,_,nl,oY⟩:=hl;unfold pyNext;refine zZ (sX (xW (name:=Str.ofString "__next__") jB.typeIs slot_listiter_next
  (yA slot_listiter_next jB.typeIs entry_listiter_next ?_ (args_listiter_next _))))
 show wpAny _ _ (field (.ref it) 0 >>= _) _ _ s;refine zZ (yI ho hd (x:=.ref l) rfl ?_);show wpAny _ _ (if(Value.ref l==Value.none)=true then _ else _) _ _ s;rw[yY (show¬((Value.ref l==Value.none)=true)from zK)];show wpAny _ _ (field (.ref it) 1 >>= _) _ _ s;refine zZ (yI ho hd (x:=.int i 0) rfl ?_);show wpAny _ _ (seqItems? (.ref l) >>= _) _ _ s;refine zZ (xA nQ oY ?_);simp only[yG,hx];refine zZ (tV (zZ (vJ ho hd (by simp) ?_)));show wpAny _ _ (newExc (.type "StopIteration") [] >>= _) _ _ _;refine zZ ?_;simp only[newExc,newTuple];refine zZ (yL ?_ (by size_fits));refine zZ (m:=firstArgMember _ _) (sW (a:=Value.none) (by first|rfl|(simp only[firstArgMember];rfl)) ?_);refine yL ?_ (by size_fits);refine bu (a:=a) hh (q.keep λo e=>zY _ (zY _ (((wG ..).2 a ne).trans e))) ?_ (zR _ rfl) rfl (by simp;lia) ?_
 ·obtain⟨oe,vs,e1,_⟩:=q;exact zI (zT (zY _ (((wG ..).2 a ne).trans e1)))
 ·refine zZ (tF (T:="StopIteration") (b:=true) ⟨_,yH _ (zR _ rfl) rfl,rfl⟩ isSubtype_stop ?_);refine zV (hQ _ λb o hb e=>?_);have e1:=zY { cls:=.type "tuple",dict:=none,data:=.seq ([]:List Value).toArray } (((wG s.heap it (Obj.mapFields (·.setIfInBounds 0 Value.none))).2 b hb).trans e);exact(zA _ _ (wY (zI (zT e1)))).trans (zY _ e1)
end
structure Uf(ax:Addr)(P:Program)(w:World)(K:W.Frag)(tg:Expr)(J:It)(fp:List Addr)(it:Addr)(tn:Nat->Heap->Prop):Prop where
 mem:it∈fp
 obj:∀i h,tn i h->∀b∈fp,∃o,h.get? b=some o/\∀v,o.data≠.cell v
 keep:∀i h h',tn i h->(∀b∈fp,∀o,h.get? b=some o->h'.get? b=some o)->tn i h'
 item:∀(X:Cx),X.prog=P->X.w=w->X.K=K->X.A.handled=some (.ref ax)->∀(i:Nat)(pins:List (Addr×Obj))(s:Shared)(σ:St)(H:Hp)(E:Value->Shared->Prop),Inv X pins σ H s->(∀b∈fp,vo X pins H b)->tn i s.heap->J.go i H ->
  wpAny (model P w) X.A (pyNext (.ref it)) (λr s1=>∃u,r=some u /\
   wpAny (model P w) X.A (letOwnedTupleGo tg (.ref it) u) (λ_ s2=>∃x H',Inv X pins σ H' s2/\RelV x u/\J.yld i H x H'/\tn (i+1) s2.heap/\∀b∈fp,H' b=none) E s1) E s
 done:∀(X:Cx),X.prog=P->X.w=w->X.K=K->X.A.handled=some (.ref ax)->∀(i:Nat)(pins:List (Addr×Obj))(s:Shared)(σ:St)(H:Hp)(E:Value->Shared->Prop),Inv X pins σ H s->(∀b∈fp,vo X pins H b)->tn i s.heap->J.stop i H ->
  wpAny (model P w) X.A (pyNext (.ref it)) (λr s1=>r=none/\Inv X pins σ H s1) E s
 self:∀(A:Around)(i:Nat)(s:Shared)(Q:Value->Shared->Prop)(E:Value->Shared->Prop),tn i s.heap->Q (.ref it) s->wpAny (model P w) A (pyIter (.ref it)) Q E s
def O0(K:W.Frag)(l ax:Addr):It:=⟨(Itl K l).go,(Itl K l).yld,λi H=>(Itl K l).stop i H/\∃C dx n,H ax=some (exO ax C dx n)⟩
theorem fo{X:Cx}{pins:List (Addr×Obj)}{σ:St}{H:Hp}{s:Shared}{ax C:Addr}{dx:Option Addr}{n:Bool}(I:Inv X pins σ H s)(e:H ax=some (exO ax C dx n)):Quiet s.heap ax:=by
 obtain⟨oe,vs,v1,e1,e2,e3,e4,e5,e6⟩:=wk I.hok e;exact⟨oe,vs,e1,e4,e6.2⟩
theorem cn{P:Program}{w:World}{K:W.Frag}{tg:Expr}(ax l it:Addr):Uf ax P w K tg (O0 K l ax) [it] it (λi h=>h.IsListIter it l i)where
 mem:=by simp
 obj:=(rf (P:=P) (w:=w) (K:=K) (tg:=tg) l it).obj
 keep:=(rf (P:=P) (w:=w) (K:=K) (tg:=tg) l it).keep
 item:=by
  intro X hP hw hK hc i pins s σ H E I hf st hg;subst hP hw hK;obtain⟨xs,x,hq,hx⟩:=hg;obtain⟨aF,rv,p,hz⟩:=I.list hq;obtain⟨u,hu,ru⟩:=rv.get hx;obtain⟨f0,f1,f2,f3,f4,f5⟩:=hf it (by simp);refine tP st p.isList (x:=u) (by simpa using hu) λh' fM sb=>?_;have I1:Inv X pins σ H { s with heap:=h' }:=I.turned (t':=s.toks) (λb o hb e=>(sb.2 b hb).trans e) f0 f1 f3 f4 f5;obtain⟨o,e,c,d⟩:=id fM;exact⟨u,rfl,Y4 (s:={ s with heap:=h' }) e c d (by decide) ⟨x,H,I1,ru,⟨rfl,λys hy=>by rw[I.list_inj hy hq];exact hx⟩,fM,λb hb=>(hf b hb).1⟩⟩
 done:=by
  intro X hP hw hK hc i pins s σ H E I hf st hg;subst hP hw hK;obtain⟨⟨xs,hq,hx⟩,C,dx,n,ea⟩:=hg;obtain⟨aF,rv,p,hz⟩:=I.list hq;obtain⟨f0,f1,f2,f3,f4,f5⟩:=hf it (by simp);have hl:=rv.length;exact u6 hc (fo I ea) (λz=>by rw[z,f0]at ea;cases ea) st p.isList (by simp;lia) λh' eb=>⟨rfl,I.turned (t':=s.toks) (λb o hb e=>eb b o hb e) f0 f1 f3 f4 f5⟩
 self:=λ_ _ _ _ _ st h=>wpAny_pyIter_listiter st h
def Ku(X:Cx)(ax:Addr)(pins:List (Addr×Obj))(σ:St)(tg:Expr)(R:It->Hp->Prop)(rZ:Value)(s2:Shared):Prop :=
 ∃(it:Addr)(fp:List Addr)(tn:Nat->Heap->Prop)(J:It)(H':Hp),rZ = .ref it/\Inv X pins σ H' s2/\Uf ax X.prog X.w X.K tg J fp it tn/\tn 0 s2.heap/\(∀b∈fp,vo X pins H' b)/\R J H'
def PIH(X:Cx)(ax:Addr)(tg iter:Expr)(wi:TI):Prop :=
 ∀(pins:List (Addr×Obj))(s:Shared)(σ:St)(H:Hp)(R:It->Hp->Prop),Inv X pins σ H s->wi σ H R ->
  wpAny (model X.prog X.w) X.A (eval iter X.env) (λv s1=>wpAny (model X.prog X.w) X.A (pyIter v) (Ku X ax pins σ tg R) X.xe s1) X.xe s
section
variable {X:Cx}{tg:Expr}
def Rq(K:W.Frag)(ax:Addr)(tl:TE):TI:=fun σ H R=>tl σ H λx H1=>∃l,x = .ref l/\(∃xs,SqL K H1 l xs)/\R (O0 K l ax) H1
theorem V7{ax:Addr}{l:Expr}{tl:TE}(hl:PE X l tl):PIH X ax tg l (Rq X.K ax tl):=by
 intro pins s σ H R I h;refine thn (hl pins s σ H _ I h) λv s1 ⟨x,H1,I1,r1,q1⟩=>?_;obtain⟨a,e,⟨xs,hq⟩,q⟩:=q1;subst e;cases r1;obtain⟨aF,rv,p,hz⟩:=I1.list hq;refine wK p.isList ?_;refine⟨s1.heap.objs.size,[s1.heap.objs.size],_,_,H1,rfl,I1.kept (t':=s1.toks) λb o e=>zY _ e,cn ax a _,⟨_,zR _ rfl,rfl,rfl⟩,λb hb=>?_,q⟩;have e:b=s1.heap.objs.size:=by simpa using hb
 subst e;exact I1.fpOk (zS _) (I1.hok.fresh (zS _))
variable {own N:List Str}{scope:Scope}{cl:List (Str×Addr)}
theorem dh{ax:Addr}{cW iter tg:Expr}{cT:List Expr}{ixs:List Nat}{g:TG}{tt:Addr->Shared->Hp->List Addr->TT}{te:Addr->Shared->Hp->List Addr->TE}{pos:Pos}{pins:List (Addr×Obj)}{σ:St}{H:Hp}{s₂:Shared}{it:Addr}{fp:List Addr}{tn:Nat->Heap->Prop}{J:It}{Q:VK}{RR:Value->Addr->Result->Shared->Prop}{E:Value->Shared->Prop}
  (k:CompOk X own N scope cl) (dQ:X.A.handled=some (.ref ax)) (HL:∀(j:Nat)(i:Nat),ixs[j]?=some i->∃y,X.N[i]?=some y/\N[j]?=some y) (aN:ixs.length=N.length)
  (hg:∀(C:Addr)(s₀:Shared)(H₀:Hp)(ex:List Addr),PG (ze X (own++N) scope cl C s₀ H₀ ex) tg g)
  (ht:∀(C:Addr)(s₀:Shared)(H₀:Hp)(ex:List Addr),PIf (ze X (own++N) scope cl C s₀ H₀ ex) cT (tt C s₀ H₀ ex))
  (he:∀(C:Addr)(s₀:Shared)(H₀:Hp)(ex:List Addr),PE (ze X (own++N) scope cl C s₀ H₀ ex) cW (te C s₀ H₀ ex))
  (I:Inv X pins σ H s₂) (T:Uf ax X.prog X.w X.K tg J fp it tn) (st:tn 0 s₂.heap) (hf:∀b∈fp,vo X pins H b)
  (q:∀(C:Addr)(s₀:Shared)(H₀:Hp)(ex:List Addr),va own.length g (tt C s₀ H₀ ex) (te C s₀ H₀ ex) (ixs.map (gv σ)) J Q H)
  (hRR:∀(D C:Addr)(H':Hp)(s':Shared)(m:Str->Option Value),Inv X pins σ H' s'->s'.heap.Ns C m->H' C=none->C≠X.env.locals->C∉X.fs->(∀p∈X.pn++pins,p.1≠C)->(∀y c,X.env.cells.lookup y=some c->c≠C)->X.s₀.heap.objs.size<=C->Q (.ref D) H'->RR (.ref D) C (.ok .next) s') :
  wpAny (model X.prog X.w) X.A (newList []) (λaO s₃=>wpAny (model X.prog X.w) X.A (newFunctionEnv scope X.env.globals cl [] X.env.qual none .none (some X.env)) (λpE s₄ =>
   codeAny (model X.prog X.w) X.A (.compStart (.ListComp cW [⟨tg,iter,cT,0⟩] scope pos) 0 (.ref it) aO { pE with scope:=relabel scope X.env }) (RR aO pE.locals) s₄) E s₃) E s₂:=by
 refine yL (wpAny_newFunctionEnv k.nocell (by intro y hy;simp at hy) (λh₁ nR₁ AS₁=>?_) k.kind);dsimp only at nR₁ AS₁ ⊢;have gQ:H s₂.heap.objs.size=none:=I.hok.fresh (zS _);have I3:Inv X pins σ (upd H s₂.heap.objs.size (.lst [])) { s₂ with heap:=s₂.heap.push { cls:=.type "list",dict:=none,data:=.seq ([]:List Value).toArray } } :=
  I.laid (t':=s₂.toks) (λb o e=>zY _ e) (zS _) ⟨yO _,[],0,.nil,zR _ rfl⟩
 obtain⟨W,⟨m0,w0⟩,fL⟩:=q (s₂.heap.push { cls:=.type "list",dict:=none,data:=.seq ([]:List Value).toArray }).objs.size { s₂ with heap:=s₂.heap.push { cls:=.type "list",dict:=none,data:=.seq ([]:List Value).toArray } } (upd H s₂.heap.objs.size (.lst [])) fp s₂.heap.objs.size _ gQ (xg gQ _) zy;have dP:∀b o,s₂.heap.get? b=some o->(s₂.heap.push { cls:=.type "list",dict:=none,data:=.seq ([]:List Value).toArray }).get? b=some o:=λb o e=>zY _ e;have kE:∀b∈fp,b<s₂.heap.objs.size:=λb hb=>by
  obtain⟨o,e,_⟩:=T.obj _ _ st b hb;exact zT e
 have qQ:∀b∈fp,vo X pins (upd H s₂.heap.objs.size (.lst [])) b:=λb hb=>⟨by rw[zg (zI (kE b hb))];exact(hf b hb).1,(hf b hb).2⟩
 generalize hH3:upd H s₂.heap.objs.size (.lst [])=H3 at I3 w0 qQ fL;generalize hh2:s₂.heap.push { cls:=.type "list",dict:=none,data:=.seq ([]:List Value).toArray }=h2 at I3 nR₁ AS₁ dP fL ⊢;have oQ:h2.objs.size=s₂.heap.objs.size+1:=by rw[<-hh2,xI]
 have Iq:∀b∈fp,b<h2.objs.size:=λb hb=>by rw[oQ];exact wJ (kE b hb)
 have sG:∀b o,b≠h2.objs.size->h2.get? b=some o->h₁.get? b=some o:=λb o hb e=>AS₁.extBut b o hb (zY _ e);have I4:=di (fp:=fp) (h₁:=h₁) (tk:=s₂.toks+([]:List (Str×Value)).length) (s:={ s₂ with heap:=h2 }) k I3 qQ Iq HL aN (by simpa using nR₁) sG;have C9:tn 0 h₁:=T.keep _ _ _ st λb hb o e=>sG b o (zI (Iq b hb)) (dP b o e);have fr4:∀b∈fp,H3 b=none:=λb hb=>(qQ b hb).1;have BZ:∀{H':Hp},(∀b∈fp,H' b=none)->∀b∈fp,vo (ze X (own++N) scope cl h2.objs.size { s₂ with heap:=h2 } H3 fp) [] H' b:=λhn b hb =>
  ⟨hn b hb,(I4.ok.exf b hb).1,I4.ok.exfs b hb,.inl hb,(I4.ok.exf b hb).2,λp hp=>absurd hp (by simp[ze])⟩
 have loop:∀s₃:Shared,s₃={ s₂ with heap:=h₁,toks:=s₂.toks+([]:List (Str×Value)).length } ->
   codeAny (model X.prog X.w) X.A (.compLoop (.ListComp cW [⟨tg,iter,cT,0⟩] scope pos) 0 (.ref it) (.ref s₂.heap.objs.size) (compEnvC scope cl h2.objs.size X.env)) (RR (.ref s₂.heap.objs.size) h2.objs.size) s₃:=by
  rintro s₃ rfl;refine uh (λn s'=>∃i τ ys H',τ.length=own.length/\Inv (ze X (own++N) scope cl h2.objs.size { s₂ with heap:=h2 } H3 fp) [] (τ++ixs.map (gv σ)) H' s'/\tn i s'.heap/\(∀b∈fp,H' b=none)/\W i n ys H') ?_ m0 ⟨0,own.map (λ_=>none),[],H3,by simp,I4,C9,fr4,w0⟩;rintro n s5 ⟨i,τ,ys,H5,hτ,I5,mQ,qZ,w5⟩ E';obtain⟨hD,alt⟩:=fL i n ys H5 w5;rcases alt with⟨stop,qn⟩|⟨go,hz,step⟩
  ·refine yT (T.done (ze X (own++N) scope cl h2.objs.size { s₂ with heap:=h2 } H3 fp) rfl rfl rfl dQ i [] s5 _ H5 E' I5 (BZ qZ) mQ stop) (λr s6 hr=>?_) λ_ _ e=>e;obtain⟨rfl,I6⟩:=hr;obtain⟨m6,hn6,_⟩:=I6.loc;have J6:Inv X pins σ H5 s6:=by
    refine I3.call' (ch:=fp) I6.os I6.base I6.hok I6.bare λb hb=>?_;obtain⟨_,f1,f2,f3,f4,f5⟩:=qQ b hb;exact⟨f3,f1,f4,f5⟩
   have AF:X.s₀.heap.objs.size<=h2.objs.size:=I3.sz;refine hRR s₂.heap.objs.size h2.objs.size H5 s6 m6 J6 hn6 I6.free (wO I3.lt) (I3.nofs (zS _)) (λp hp z=>?_) (λy c e z=>?_) AF qn
   ·exact absurd (zT (I3.pin p hp).1) (by rw[z];exact xS _)
   ·obtain⟨u,ic⟩:=I3.cell y c e;exact absurd ic.lt (by rw[z];exact xS _)
  ·refine yT (T.item (ze X (own++N) scope cl h2.objs.size { s₂ with heap:=h2 } H3 fp) rfl rfl rfl dQ i [] s5 _ H5 E' I5 (BZ qZ) mQ go) (λr s6 hr=>?_) λ_ _ e=>e;obtain⟨u,rfl,h6⟩:=hr;refine yT h6 (λ_ s7 h7=>?_) λ_ _ e=>e;obtain⟨xv,H7,I7,r7,y7,AG,fr7⟩:=h7;have I7':=I7.pinned (BZ fr7) (T.obj _ _ AG);refine yT (hg _ _ _ _ _ s7 _ H7 xv u _ I7' r7 (step τ xv H7 hτ y7)) (λ_ s8 h8=>?_) λ_ _ e=>e.elim;obtain⟨σ8,H8,I8,⟨τ',rfl,hτ'⟩,q8⟩:=h8;refine yT (ht _ _ _ _ _ s8 _ H8 _ I8 q8) (λok s9 h9=>?_) λ_ _ e=>e.elim;obtain⟨H9,I9,q9⟩:=h9;have pF:∀(kP:Hp)(iX:Shared)(qD:List V)(m':Nat),Inv (ze X (own++N) scope cl h2.objs.size { s₂ with heap:=h2 } H3 fp) ([]++u7 fp s7.heap) (τ'++ixs.map (gv σ)) kP iX->m'<n->W (i+1) m' qD kP ->
     ∃m,m<n/\∃i τ ys H',τ.length=own.length/\Inv (ze X (own++N) scope cl h2.objs.size { s₂ with heap:=h2 } H3 fp) [] (τ++ixs.map (gv σ)) H' iX/\tn i iX.heap/\(∀b∈fp,H' b=none)/\W i m ys H':=λkP iX qD m' pH fP w10=>by
    refine⟨m',fP,i+1,τ',qD,kP,hτ',pH.unpinned (pins:=[]),T.keep _ _ _ AG λb hb o e=>(pH.pin (b,o) (zJ _ (zJ _ (x8 hb e)))).1,λb hb=>?_,w10⟩;obtain⟨o,e,d⟩:=T.obj _ _ AG b hb;exact(pH.pin (b,o) (zJ _ (zJ _ (x8 hb e)))).2.1
   cases ok with
   |true =>
    simp only[if_true]at q9 ⊢;refine yT (he _ _ _ _ _ s9 _ H9 _ I9 q9) (λy iX Io=>?_) λ_ _ e=>e.elim;obtain⟨yv,kP,pH,r10,Bs,m',fP,w10⟩:=Io;refine yT (qu (X:=ze X (own++N) scope cl h2.objs.size { s₂ with heap:=h2 } H3 fp) _ iX _ kP (.ref s₂.heap.objs.size) [yv] (.ref s₂.heap.objs.size) [y] (λv' H'=>H'=upd kP s₂.heap.objs.size (.lst (ys++[yv]))) pH rfl (.cons r10 .nil) ⟨_,ys,yv,rfl,rfl,Bs,hz,rfl⟩) (λ_ qF h11=>?_) λ_ _ e=>e.elim;obtain⟨_,H11,I11,_,rfl⟩:=h11;exact pF _ _ _ m' I11 fP w10
   |false =>
    simp only[Bool.false_eq_true,if_false]at q9 ⊢;obtain⟨m',fP,w10⟩:=q9;exact pF _ _ _ m' I9 fP w10
 exact codeAny_compStart_list (loop _ rfl) (T.self _ 0 _ _ _ C9 (loop _ rfl))
theorem Sw{ax:Addr}{cW iter tg:Expr}{cT:List Expr}{ixs:List Nat}{wi:TI}{g:TG}{tt:Addr->Shared->Hp->List Addr->TT}{te:Addr->Shared->Hp->List Addr->TE}{pos:Pos}
  (k:CompOk X own N scope cl) (dQ:X.A.handled=some (.ref ax)) (hi:PIH X ax tg iter wi)
  (hg:∀(C:Addr)(s₀:Shared)(H₀:Hp)(ex:List Addr),PG (ze X (own++N) scope cl C s₀ H₀ ex) tg g) (ht:∀(C:Addr)(s₀:Shared)(H₀:Hp)(ex:List Addr),PIf (ze X (own++N) scope cl C s₀ H₀ ex) cT (tt C s₀ H₀ ex))
  (he:∀(C:Addr)(s₀:Shared)(H₀:Hp)(ex:List Addr),PE (ze X (own++N) scope cl C s₀ H₀ ex) cW (te C s₀ H₀ ex))
  (hx:ixs.map (λi=>X.N[i]?)=N.map some)
  (hs:∀x,foldedSetIterable iter X.env x=pure x:=by intro _;rfl):PE X (.ListComp cW [⟨tg,iter,cT,0⟩] scope pos) (nt own.length ixs wi g tt te):=by
 intro pins s σ H Q I h;rw[eval_ListComp];refine uG (use:=none) rfl hs k.clos k.kind k.names (thn (hi pins s σ H _ I h) λv s1 h1=>thn h1 λrZ s2 h2=>?_);obtain⟨it,fp,tn,J,H2,rfl,I2,T,qE,f2,q⟩:=h2;refine dh (RR:=λaO C=>compPost (model X.prog X.w) X.A X.xe none (EP X pins σ Q) aO C) k dQ (U1 hx) (ah hx) hg ht he I2 T qE f2 q ?_;intro D C H' s' m J' hn hC hL sH hp hc h0 q';exact⟨m,hn,λBw oR=>⟨.ref D,H',ib J' hC hL hp hc h0 (λb o hb e=>oR.extBut b o hb e),rfl,q'⟩⟩
theorem Vm{ax:Addr}{cW iter:Expr}{cT:List Expr}{ixs:List Nat}{wi:TI}{tt:Addr->Shared->Hp->List Addr->TT}{te:Addr->Shared->Hp->List Addr->TE}{pos px:Pos}{x:Str}(k:CompOk X [x] N scope cl)(hc:X.A.handled=some (.ref ax))(hi:PIH X ax (.Name x px) iter wi)(ht:∀(C:Addr)(s₀:Shared)(H₀:Hp)(ex:List Addr),PIf (ze X ([x]++N) scope cl C s₀ H₀ ex) cT (tt C s₀ H₀ ex))
  (he:∀(C:Addr)(s₀:Shared)(H₀:Hp)(ex:List Addr),PE (ze X ([x]++N) scope cl C s₀ H₀ ex) cW (te C s₀ H₀ ex)) (hx:ixs.map (λi=>X.N[i]?)=N.map some) (hs:∀x,foldedSetIterable iter X.env x=pure x:=by intro _;rfl) :
  PE X (.ListComp cW [⟨.Name x px,iter,cT,0⟩] scope pos) (nt 1 ixs wi (mG 0) tt te):=Sw k hc hi (iw k) ht he hx hs
theorem qi{K:W.Frag}{a ax:Addr}{xs:List V}{te:TE}{ρ:St}{Q:VK}{H1:Hp}(Pv:Addr->Nat->List V->Hp->Prop)(hsz:xs.length<=sizeLine)
  (h0:∀D H2,H1 D=none->Same H1 H2->H2 D=some (.lst [])->Pv D 0 [] H2)
  (hl:∀D i ys H,Pv D i ys H->SqL K H a xs/\H D=some (.lst ys)/\ys.length=i/\∃C dx n,H ax=some (exO ax C dx n))
  (hs:∀D i v ys H,xs[i]?=some v->Pv D i ys H->te (some v :: ρ) H λy H3=>H3 D=some (.lst ys)/\CN xs.length i (Pv D (i+1) (ys++[y]) (upd H3 D (.lst (ys++[y])))))
  (hd:∀D ys H,Pv D xs.length ys H->Q (.ref D) H):va 1 (mG 0) nu te ρ (O0 K a ax) Q H1:=by
 refine rm Pv hsz h0 (λD i ys H _ p=>⟨(hl D i ys H p).2.1,uK (hl D i ys H p).2.2.1⟩) (λD i ys H hi p=>⟨xs,xs[i],(hl D i ys H p).1,by simp[hi]⟩) (λD ys H p=>⟨⟨xs,(hl D _ ys H p).1,zS _⟩,(hl D _ ys H p).2.2.2⟩) (λD i v ys H H' τ hi hτ p y=>?_) hd;obtain⟨t,rfl⟩:=ir hτ;obtain⟨e,y⟩:=y;subst e;exact⟨⟨[some v],rfl,rfl⟩,hs D i v ys _ (y xs (hl D i ys _ p).1) p⟩
def Ry(K:W.Frag)(ax:Addr):List V->Hp->VK->Prop:=λxs H Q=>∃(p:Addr)(ns:List Int)(C:Addr)(dx:Option Addr)(n:Bool),xs=[.ref p]/\SqL K H p (ns.map V.int)/\H ax=some (exO ax C dx n)/\Q (.int ns.sum) H
theorem gh{prog:Program}{w:World}{A:Around}{ax:Addr}(hh:A.handled=some (.ref ax))(I l:Addr)(fH:l≠I)(qM:ax≠I)(items:Array Value):
  Walks prog w A I [I,l,ax] [I] items.size (λi v=>items[i]?=some v) (λi h=>h.IsListIter I l i/\h.IsList l items/\Quiet h ax)where
 sub:=λb hb=>by simp at hb;simp[hb]
 frame:=λ_ _ _ st hk=>⟨st.1.at λo e=>hk I (by simp) o e,st.2.1.at λo e=>hk l (by simp) o e,st.2.2.keep λo e=>hk ax (by simp) o e⟩
 item:=λi s Q E hi st hQ=>tP st.1 st.2.1 (x:=items[i]) (by simp[hi]) λh' fM sb=>by
  have k:∀b o,b≠I->s.heap.get? b=some o->h'.get? b=some o:=λb o hb e=>(sb.2 b hb).trans e;exact hQ _ h' s.toks (by simp[hi]) ⟨fM,st.2.1.at λo e=>k l o fH e,st.2.2.keep λo e=>k ax o qM e⟩ λb o hb e=>k b o (by simpa using hb) e
 done:=λs Q E st hQ=>u6 hh st.2.2 qM st.1 st.2.1 (by simp) λh' eb=>hQ h' s.toks λb o hb e=>eb b o (by simpa using hb) e
 self:=λi s Q E st hQ=>wpAny_pyIter_listiter st.1 hQ
theorem P6{ax:Addr}(hc:X.A.handled=some (.ref ax)):xi X (.builtin "sum") (Ry X.K ax):=by
 intro pins s σ H xs us Q I r h;obtain⟨p,ns,C,dx,n,rfl,hq,ea,q⟩:=h;obtain⟨u,rfl,rx⟩:=v3 r;cases rx;obtain⟨aF,rv,pl,hz⟩:=I.list hq;have hi:=ag rv;obtain⟨ys,hy⟩:=hi.allInts.items;have hl:s.heap.IsList p (intItems ys):=hy▸pl.isList;have qa:=fo I ea;refine call_sum_walkG (iter_intList hl λs₂ e st Cz hlI=>?_);subst e;have qb:=qa.keep (h':=s.heap.push { cls:=.type "list_iterator",data:=.fields #[.ref p,.int 0 0] }) λo e=>zY _ e;have qM:ax≠s.heap.objs.size:=λz=>by
  obtain⟨oe,vs,e1,_⟩:=qa;exact absurd (zT e1) (by rw[z];exact xS _)
 refine⟨_,_,_,_,_,_,numAt ys,rfl,gh (A:=X.A.in1) hc _ p hlI qM (intItems ys),⟨st.1,st.2,qb⟩,?_,(λ_ _=>intItems_at),λh' tk t' hk=>?_⟩
 ·intro b hb;rcases zG.mp hb with e|hb
  ·subst e;exact Cz _ (by simp)
  ·rcases zG.mp hb with e|hb
   ·subst e;exact Cz _ (by simp)
   ·rw[zW.mp hb];obtain⟨oe,vs,e1,_⟩:=qb;exact zT e1
 ·have e:preSum (numAt ys) (intItems ys).size=ns.sum:=by
   rw[<-bt hi hy];simp[intItems]
  rw[e];exact⟨.int ns.sum,H,I.kept (old_kept hk),⟨t',rfl⟩,q⟩
end
end
end My
namespace Kx
open PySem PySem.Spec L2 My
open PyProof.Rows hiding St
def top(i:Nat):Stmt:=PySem.Challenge.pw_manyjudges_k63_seats_refused.main.body.getD i (.Pass ⟨0,0,0,0⟩)
theorem Oi{t u:TS}{D:u9}{σ:L2.St}{H:Hp}(h:t { D with nx:=u D } σ H):T9 t u D σ H:=h
end Kx
namespace Kx
open PySem PySem.Spec L2 My
open PyProof.Rows hiding St
local macro_rules|`(tactic| walk_at "r1")=>`(tactic| first|dsimp only[Op,Ws,Sa,R6,R9,cj,Mp,Ry,Rq,Ln,Oq,Rj,Ou,R8,Ri,Oo,mV,gv,sv,Mu,mG,tOp,tC,R7,Os,Zx,tCB,Rw,Zy,tSl,Mv,Mq,mB,Rt,Mt,Rv,On,tOr,Ot,tIf,mBM,K4,Md,iR1,iEn,Vj,Pu,Pz,nt,iR2,Tf,iR3,Tg,iZt,Th,iZp,Qb,Ob,Q7,Te,V0,V1,Qa,Qu,Qw,Qv,Le,Nx,Nu,Nr,Nw,Q1,Qz,Qx,Q0,Qy,Nv,Ny,Q8,N4,N3,Lf,N2,N1,Oa,N9,Q6,Q5,Wc,Tr,N0,Np,Q3,N7,N5,N6,Nz,Nq,Ld,K7,tSS,Lg,Q4,tFC,tF0,tFv,tJn,V2,cz,nu,mDN,Wr,Pi,N8,mG2,List.map_cons,List.map_nil,id,Ky,Kw,decide_true,decide_false,Bool.not_true,Bool.not_false,if_true,if_false,ite_true,ite_false,reduceIte]|simp only[List.map_cons,List.map_nil,w01,w02,w03,w04,w10,w12,w13,w14,w20,w21,w23,w24,w30,w31,w32,w34,w40,w41,w42,w43,List.append_nil,decide_true,decide_false,Bool.not_true,Bool.not_false,if_true,if_false,Bool.false_eq_true,ite_true,ite_false,reduceIte])
local macro_rules|`(tactic| walk_at "rd")=>`(tactic| (repeat(first|dsimp only[T9,Wt]|walk_at "r1"));try dsimp only)
local macro_rules|`(tactic| walk_at "rs")=>`(tactic| (repeat(walk_at "r1"));try dsimp only)
local macro_rules|`(tactic| walk_at "rp")=>`(tactic| (repeat(first|with_reducible refine Oi ?_|dsimp only[Wt]|walk_at "r1"));try dsimp only)
section
variable {P:Program}{w:World}{K:W.Frag}{mg:Str->Option Value}{base:Heap}
def Om(K:W.Frag)(n:Nat):Sp:=λvs H Q _=>∃(v:V)(h:Addr)(s:Say)(hs:List Str),vs=[v,.ref h]/\SayAt K H v s/\s.pieces<=n/\SqT K H h (hs.map V.str)/\Q (.bl (s.so hs)) H
theorem sc_is_so:zj ["saying","held","kind","one","other"] ["saying","held"] (z0 (top 11)):=⟨rfl,rfl,rfl,by decide +kernel,rfl,by decide +kernel,by decide +kernel⟩
theorem fc(D:Def K mg "is_so" (top 11) ["saying","held"]):∀n:Nat,zw P w K mg base n "is_so" ["saying","held"] (Om K n)
 |0=>xx D λvs H Q E h=>by
  obtain⟨v,h,s,hs,_,_,hp,_⟩:=h;exact absurd s.pieces_pos (by lia)
 |n+1=>by
  have fK:=fc D n;refine D.callee sc_is_so (λvs H Q E h=>?_) λf cdv A outer s H vs Q E hr h=>?_
  ·obtain⟨v,h,s,hs,rfl,_⟩:=h
   rfl
  have nd:=sc_is_so.nd;obtain⟨v,h,s,hs,rfl,hv,hp,hh,q⟩:=h;refine⟨[some v,some (.ref h),none,none,none],_,rfl,(z5 (zp 2 nd (yh (z8 0) z4 (λ_ _=>rfl)))
  (z5 (y8 (zb (xh hr.units) (z8 2) zo (zf _)) (zz (zr (xm Mz (yh (z8 0) z4 (λ_ _=>rfl)) (z8 1) (by with_unfolding_all rfl)))) zm)
  (z5 (y8 (zb (xh hr.units) (z8 2) zo (zf _)) (zz (zr (j5 (zx fK hr (by lia) (z9 (yh (z8 0) z4 (λ_ _=>rfl)) (z9 (z8 1) z6)))))) zm)
  (z5 (zp 3 nd (zx fK hr (by lia) (z9 (yh (z8 0) z4 (λ_ _=>rfl)) (z9 (z8 1) z6))))
  (z5 (zp 4 nd (zx fK hr (by lia) (z9 (yh (z8 0) z4 (λ_ _=>rfl)) (z9 (z8 1) z6))))
  (z5 (y8 (zb (xh hr.units) (z8 2) zo (zf _)) (zz (zr (v7 (z8 3) (xo (z8 4))))) zm)
  (z5 (y8 (zb (xh hr.units) (z8 2) zo (zf _)) (zz (zr (Sy (z8 3) (xo (z8 4))))) zm)
  (zz (zr (Sy (j5 (z8 3)) (xo (z8 4)))))))))))),?_⟩
  cases s with
  |letter x =>
   obtain⟨a,rfl,ha⟩:=hv;walk_at"rp";refine⟨_,_,.inr ha,rfl,?_⟩;walk_at"rp";refine⟨_,_,.inr ha,rfl,?_⟩;walk_at"rp";refine⟨_,.inr hh,rfl,c7 hs,?_⟩;rw[Y8];exact q
  |neg t =>
   obtain⟨a,u,rfl,ha,ht⟩:=hv;walk_at"rp";refine⟨_,_,.inr ha,rfl,?_⟩;walk_at"rp";refine⟨_,_,.inr ha,rfl,?_⟩;walk_at"rp";exact⟨u,h,t,hs,rfl,ht,by have:=hp;simp only[Say.pieces]at this;lia,hh,q⟩
  |bin o t t' =>
   obtain⟨a,u,u',rfl,ha,ht,Ho⟩:=hv;have p1:t.pieces<=n/\t'.pieces<=n:=by have:=hp;simp only[Say.pieces]at this;lia
   cases o <;>
   ·dsimp only[Op2.word]at ha;walk_at"rp";refine⟨_,_,.inr ha,rfl,?_⟩;walk_at"rp";refine⟨_,_,.inr ha,rfl,?_⟩;walk_at"rp";refine⟨u,h,t,hs,rfl,ht,p1.1,hh,?_⟩;refine⟨_,_,.inr ha,rfl,?_⟩;refine⟨u',h,t',hs,rfl,Ho,p1.2,hh,?_⟩;walk_at"rp";simp only[Say.so,Op2.so]at q;cases e:Say.so hs t<;>rw[e]at q<;>simpa using q
theorem Yw{ns:List Int}{k:Int}(h0:0<=k)(h:k<(ns.length:Int)):∃v:Int,atI (ns.map V.int) k=some (.int v):=by
 have hk:k.toNat<ns.length:=by lia
 have ek:k=((k.toNat:Nat):Int):=by lia
 have e:atI (ns.map V.int) ((k.toNat:Nat):Int)=some (.int ns[k.toNat]):=w9 (by rw[zE,zL hk]<;>rfl);rw[<-ek]at e;exact⟨_,e⟩
theorem ub{α:Type}{xs:List α}{k:Int}(h0:0<=k)(h:k<(xs.length:Int)):∃v,v∈xs/\atI xs k=some v:=by
 have hk:k.toNat<xs.length:=by lia
 have ek:k=((k.toNat:Nat):Int):=by lia
 have e:atI xs ((k.toNat:Nat):Int)=some xs[k.toNat]:=w9 (zL hk);rw[<-ek]at e;exact⟨_,wE hk,e⟩
theorem cm{i j:Int}(h:-(2 ^ 64)<i/\i<2 ^ 64):CMul i j:=.inl h
theorem cm2{i j:Int}(h:-(2 ^ 64)<j/\j<2 ^ 64):CMul i j:=.inr h
def jb(K:W.Frag):Sp:=λvs H Q _=>∃(a:Addr)(ns:List Int)(k:Int),vs=[.ref a,.int k]/\SqL K H a (ns.map V.int)/\ns.length<=5000/\0<=k/\k<=100000/\∀r:Int,Q (.int r) H
theorem sc_cell:zj ["_law_script","_law_k","_law_number"] ["_law_script","_law_k"] (z0 (top 30)):=⟨rfl,rfl,rfl,by decide +kernel,rfl,by decide +kernel,by decide +kernel⟩
theorem S4(D:Def K mg "_law_cell" (top 30) ["_law_script","_law_k"])(aH:mg "len"=none):zw P w K mg base 1 "_law_cell" ["_law_script","_law_k"] (jb K):=by
 refine D.callee sc_cell (λvs H Q E h=>?_) λf cdv A outer s H vs Q E hr h=>?_
 ·obtain⟨a,ns,k,rfl,_⟩:=h
  rfl
 have nd:=sc_cell.nd;obtain⟨a,ns,k,rfl,hS,bL,h0,hk,q⟩:=h;refine⟨[some (.ref a),some (.int k),none],_,rfl,(z5 (y8 (zb Vo (z8 1) (zt xz rfl aH yk (z9 (z8 0) z6)) (zf _)) (zz (zr (yh (z8 0) (z8 1) (λ_ _=>rfl)))) zm)
  (z5 (zp 2 nd (zv zh (zv vv (z8 1) z4) z4))
  (z5 (y8 (zb d8 (zt xz rfl aH yk (z9 (z8 0) z6)) z4 (zf _)) (zz (zp 2 nd (zv zh (zv zh (zv vv (zv vt (yh (z8 0) (zv vt (z8 1) (zt xz rfl aH yk (z9 (z8 0) z6))) (λ_ _=>rfl)) z4) z4) (zv vv (zv vv (z8 1) (z8 1)) z4)) z4))) zm)
  (zz (zr (zv vt (zv vv (z8 2) (z8 2)) z4)))))),?_⟩
 walk_at"rp";refine⟨_,.inl hS,?_⟩;rw[zX];have hkk:k*k<=100000*100000:=Int.mul_le_mul hk hk h0 (by decide);have hkn:0<=k*k:=Int.mul_nonneg h0 h0;refine xa (λc=>?_) (λc=>?_)
 ·obtain⟨v,e⟩:=Yw h0 (yN c);exact⟨_,_,.inl hS,e,q v⟩
 ·refine⟨cm2 (by lia),_,.inl hS,?_⟩;rw[zX];refine xa (λd=>?_) (λd=>?_)
  ·have d':(0:Int)<(ns.length:Int):=yN d;refine⟨_,.inl hS,?_⟩;rw[zX];obtain⟨v,e⟩:=Yw (ns:=ns) (k:=k % (ns.length:Int)) (uZ _ (by lia)) (wC _ d');refine⟨d',_,_,.inl hS,e,?_⟩;walk_at"rp";exact⟨by decide,cm2 (by lia),cm (by lia),cm (by lia),cm (by lia),by decide,q _⟩
  ·walk_at"rp";exact⟨cm (by lia),by decide,q _⟩
def vm(K:W.Frag):Sp:=λvs H Q _=>∃(a:Addr)(ns:List Int)(k m:Int),vs=[.ref a,.int k,.int m]/\SqL K H a (ns.map V.int)/\ns.length<=5000/\0<=k/\k<=100000/\0<m/\∀r:Int,0<=r->r<m->Q (.int r) H
theorem sc_pick:zj ["_law_script","_law_k","_law_many","_law_number"] ["_law_script","_law_k","_law_many"] (z0 (top 31)):=⟨rfl,rfl,rfl,by decide +kernel,rfl,by decide +kernel,by decide +kernel⟩
theorem S9(D:Def K mg "_law_pick" (top 31) ["_law_script","_law_k","_law_many"])(bV:zw P w K mg base 1 "_law_cell" ["_law_script","_law_k"] (jb K)):zw P w K mg base 2 "_law_pick" ["_law_script","_law_k","_law_many"] (vm K):=by
 refine D.callee sc_pick (λvs H Q E h=>?_) λf cdv A outer s H vs Q E hr h=>?_
 ·obtain⟨a,ns,k,m,rfl,_⟩:=h
  rfl
 have nd:=sc_pick.nd;obtain⟨a,ns,k,m,rfl,hS,bL,h0,hk,hm,q⟩:=h;refine⟨[some (.ref a),some (.int k),some (.int m),none],_,rfl,(z5 (zp 3 nd (zv zh (zv vv (zv vt (zx bV hr (by lia) (z9 (z8 0) (z9 (z8 1) z6))) z4) (zv zh z4 (zv vv z4 (z8 1)))) (zv vv z4 (z8 1))))
  (zz (zr (zv vt (zv ar (zv vt (z8 3) z4) z4) (z8 2))))),?_⟩
 walk_at"rp";refine⟨a,ns,k,rfl,hS,bL,h0,hk,λr=>?_⟩;walk_at"rp";exact⟨by decide,cm (by lia),cm (by lia),cm (by lia),by decide,⟨by decide,by decide⟩,hm,q _ (uZ _ (by lia)) (wC _ hm)⟩
theorem zn{n:Nat}(h:n<=1000):n<=sizeLine:=xT (uv h)
def kh(K:W.Frag)(n:Nat):Sp:=λvs H Q _=>∃(v:V)(s:Say),vs=[v]/\SayAt K H v s/\s.pieces<=n/\s.pieces<=1000/\∀(p:Addr)(H':Hp),H p=none->Same H H'->H' p=some (.lst (s.letters.map V.str))->Q (.ref p) H'
theorem sc_letters:zj ["saying","letters","inner"] ["saying"] (z0 (top 9)):=⟨rfl,rfl,rfl,by decide +kernel,rfl,by decide +kernel,by decide +kernel⟩
theorem mr(D:Def K mg "letters_in" (top 9) ["saying"]):∀n:Nat,zw P w K mg base n "letters_in" ["saying"] (kh K n)
 |0=>xx D λvs H Q E h=>by
  obtain⟨v,s,_,_,hp,_⟩:=h;exact absurd s.pieces_pos (by lia)
 |n+1=>by
  have cI:=mr D n;refine D.callee sc_letters (λvs H Q E h=>?_) λf cdv A outer s H vs Q E hr h=>?_
  ·obtain⟨v,s,rfl,_⟩:=h
   rfl
  have nd:=sc_letters.nd;obtain⟨v,s,rfl,hv,hp,sC,q⟩:=h;refine⟨[some v,none,none],_,rfl,(z5 (y8 (zb (xh hr.units) (yh (z8 0) z4 (λ_ _=>rfl)) zo (zf _)) (zz (zr (xp (z9 (yh (z8 0) z4 (λ_ _=>rfl)) z6)))) zm)
  (z5 (zp 1 nd (xp z6))
  (z5 (wx yJ rfl (ym (zc (z8 0) (yz z4) zd)) (v6 2 nd) (zz (wm (d7 vQ uF aq (z8 1) (z9 (zx cI hr (by lia) (z9 (z8 2) z6)) z6)))))
  (zz (zr (z8 1)))))),?_⟩
  by_cases hs:s.subs=[]
  ·cases s with
   |letter x =>
    obtain⟨a,rfl,ha⟩:=hv;walk_at"rp";refine⟨_,_,.inr ha,rfl,?_⟩;walk_at"rp";refine⟨_,_,.inr ha,rfl,?_⟩;walk_at"rp";exact⟨zn (by simp),λp H1 n1 s1 e1=>q p H1 n1 s1 e1⟩
   |neg t=>simp[Say.subs]at hs
   |bin o t t'=>simp[Say.subs]at hs
  ·obtain⟨a,wd,us,rfl,ha,hw,hl,kW,hu⟩:=m4 hv hs;walk_at"rp";refine⟨_,_,.inr ha,oi _ _,?_⟩;walk_at"rp";rw[hw];walk_at"rp";refine⟨zn (by simp),λr H0 n0 s0 e0=>?_⟩;refine .inr ⟨_,(z7 s0).sqT ha,λp H1 s1 h1=>.inr ⟨⟨_,h1⟩,?_⟩⟩;rw[rn]at h1;refine xf (xs:=us) (λi σ H2=>∃iv,σ=[some (.ref a),some (.ref r),iv]/\H2 r=some (.lst ((((s.subs.take i).map Say.letters).flatten).map V.str))/\Same H H2/\SqT K H2 p us/\i<=us.length) ⟨none,rfl,s1 _ _ e0,s0.trans s1,h1,yO _⟩ ?_ ?_ ?_
   ·rintro i σ H2 _ ⟨iv,rfl,_,_,h2,_⟩;exact h2
   ·rintro i x σ H2 hx ⟨iv,rfl,e2,s2,h2,hi⟩;obtain⟨t,ht,sv,pc⟩:=hu i x hx;walk_at"rp";refine⟨⟨_,_,rfl,e2⟩,x,t,rfl,sv.mono (z7 s2),by lia,by lia,λz H3 n3 s3 e3=>?_⟩;have fH:z≠r:=λe=>by rw[e,e2]at n3;cases n3
    walk_at"rp";have b1:=lz (s.subs.take i);have b2:=nz Say.pieces s.subs i;have b3:=u8 s;have b4:=yq t;refine⟨_,_,s3 _ _ e2,.inl e3,?_,some x,rfl,?_,zu (s2.trans s3) n0 _,?_,(zU.mp hx).1⟩
    ·rw[zX,zX];rw[zD];lia
    ·rw[zy,yX,ht];simp
    ·exact(yf (s3 _ _ e2)).sqT ((z7 s3).sqT h2)
   ·rintro σ H2 ⟨iv,rfl,e2,s2,h2,_⟩;walk_at"rp";rw[hl,yV,<-t6 hs]at e2;exact q r H2 n0 s2 e2
def re(K:W.Frag):Sp:=λvs H Q _=>∃(v:V)(s:Say),vs=[v]/\SayAt K H v s/\s.pieces<=40/\∀(p:Addr)(H':Hp)(ss:List Str),Same H H'->SqT K H' p (ss.map V.str)->ss.Nodup->(∀x,x∈ss↔x∈s.letters)->sortedS ss=true->Q (.ref p) H'
theorem sc_namesin:zj ["saying"] ["saying"] (z0 (top 10)):=⟨rfl,rfl,rfl,by decide +kernel,rfl,by decide +kernel,by decide +kernel⟩
theorem bh(D:Def K mg "names_in" (top 10) ["saying"])(cI:zw P w K mg base 40 "letters_in" ["saying"] (kh K 40))(aK:mg "sorted"=none)(aR:mg "set"=none)(aD:mg "tuple"=none):zw P w K mg base 41 "names_in" ["saying"] (re K):=by
 refine D.callee sc_namesin (λvs H Q E h=>?_) λf cdv A outer s H vs Q E hr h=>?_
 ·obtain⟨v,s,rfl,_⟩:=h
  rfl
 have nd:=sc_namesin.nd;obtain⟨v,s,rfl,hv,hp,q⟩:=h;refine⟨[some v],_,rfl,(zz (zr (yt xu rfl aD yl (z9 (xj rfl hr.units rfl aK rfl aR (zx cI hr (by lia) (z9 (z8 0) z6))) z6)))),?_⟩;walk_at"rp";have aN:=yq s;refine⟨v,s,rfl,hv,hp,by lia,λp H1 n1 s1 e1=>?_⟩;walk_at"rp";refine .inl ⟨_,.inl (SqL.of e1),by unfold scanBound;lia,λbW hn hs=>?_,λbW hn hm gO r H2 n2 s2 e2=>?_⟩
 ·have:=yj hn hs;lia
 ·walk_at"rp";exact⟨_,.inl (SqL.of e2),λr' H3 s3 h3=>q r' H3 bW (s1.trans (s2.trans s3)) h3 hn hm gO⟩
theorem Yn{xs:List Str}(i:Nat)(x:V)(hx:(xs.map V.str)[i]?=some x):∃y,x = .str y/\i<xs.length/\xs.drop i=y::xs.drop (i+1):=by
 rw[zE]at hx;cases e:xs[i]? with
 |none=>rw[e]at hx;cases hx
 |some y =>
  rw[e]at hx;obtain⟨hi,ey⟩:=zU.mp e;exact⟨y,(zB hx).symm,hi,by rw[vY hi,ey]⟩
def Wo(K:W.Frag):Sp:=λvs H Q _=>∃(b:Addr)(xs:List Str),vs=[.ref b]/\SqT K H b (xs.map V.str)/\xs.length<=10/\Q (.int ((2 ^ xs.length:Nat):Int)) H
theorem sc_ways:zj ["names","ways","name"] ["names"] (z0 (top 13)):=⟨rfl,rfl,rfl,by decide +kernel,rfl,by decide +kernel,by decide +kernel⟩
theorem Ta(D:Def K mg "ways_to_hold" (top 13) ["names"]):zw P w K mg base 1 "ways_to_hold" ["names"] (Wo K):=by
 refine D.callee sc_ways (λvs H Q E h=>?_) λf cdv A outer s H vs Q E hr h=>?_
 ·obtain⟨b,xs,rfl,_⟩:=h
  rfl
 have nd:=sc_ways.nd;obtain⟨b,xs,rfl,hb,hx,q⟩:=h;refine⟨[some (.ref b),none,none],_,rfl,(z5 (zp 1 nd z4)
  (z5 (wx yJ rfl (ym (z8 0)) (v6 2 nd) (zz (zp 1 nd (zv vv (z8 1) z4))))
  (zz (zr (z8 1))))),?_⟩
 walk_at"rp";refine .inr ⟨⟨_,hb⟩,xf (xs:=xs.map V.str) (λi σ H2=>∃nv,σ=[some (.ref b),some (.int ((2 ^ i:Nat):Int)),nv]/\H2=H) ⟨none,rfl,rfl⟩ ?_ ?_ ?_⟩
 ·rintro i σ H2 _ ⟨nv,rfl,rfl⟩;exact hb
 ·rintro i x σ H2 mW ⟨nv,rfl,rfl⟩;walk_at"rp";refine⟨cm2 (by decide),some x,?_,trivial⟩;rw[sS,Int.natCast_mul]
  rfl
 ·rintro σ H2 ⟨nv,rfl,rfl⟩;walk_at"rp";rw[zX];exact q
def f6(K:W.Frag):Sp:=λvs H Q _=>∃(n:Int)(b:Addr)(xs:List Str),vs=[.int n,.ref b]/\SqT K H b (xs.map V.str)/\xs.length<=100/\∀(r:Addr)(H':Hp),Same H H'->SqT K H' r ((za n xs).map V.str)->Q (.ref r) H'
theorem sc_heldby:zj ["number","names","held","rest","name"] ["number","names"] (z0 (top 14)):=⟨rfl,rfl,rfl,by decide +kernel,rfl,by decide +kernel,by decide +kernel⟩
theorem X4(D:Def K mg "held_by" (top 14) ["number","names"])(aD:mg "tuple"=none):zw P w K mg base 1 "held_by" ["number","names"] (f6 K):=by
 refine D.callee sc_heldby (λvs H Q E h=>?_) λf cdv A outer s H vs Q E hr h=>?_
 ·obtain⟨n,b,xs,rfl,_⟩:=h
  rfl
 have nd:=sc_heldby.nd;obtain⟨n,b,xs,rfl,hb,hx,q⟩:=h;refine⟨[some (.int n),some (.ref b),none,none,none],_,rfl,(z5 (zp 2 nd (xp z6))
  (z5 (zp 3 nd (z8 0))
  (z5 (wx yJ rfl (ym (z8 1)) (v6 4 nd) (z5 (y8 (zb (xh hr.units) (zv vt (z8 3) z4) z4 (zf _)) (zz (wm (d7 uE uD Vl (z8 2) (z9 (z8 4) z6)))) zm)
  (zz (zp 3 nd (zv ar (z8 3) z4)))))
  (zz (zr (yt xu rfl aD yl (z9 (z8 2) z6))))))),?_⟩
 walk_at"rp";refine⟨zn (by simp),λp H1 n1 s1 e1=>?_⟩;have aN:(xs.map V.str).length=xs.length:=zX _;refine .inr ⟨⟨_,(z7 s1).sqT hb⟩,xf (xs:=xs.map V.str) (λi σ H2=>∃(m:Int)(aO:List Str)(nv:Option V),σ=[some (.int n),some (.ref b),some (.ref p),some (.int m),nv]/\aO++za m (xs.drop i)=za n xs/\H2 p=some (.lst (aO.map V.str))/\Same H H2/\aO.length<=i) ⟨n,[],none,rfl,rfl,e1,s1,zS _⟩ ?_ ?_ ?_⟩
 ·rintro i σ H2 _ ⟨m,aO,nv,rfl,e,ep,s2,_⟩;exact(z7 s2).sqT hb
 ·rintro i x σ H2 mW ⟨m,aO,nv,rfl,e,ep,s2,ha⟩;obtain⟨y,rfl,hi,ed⟩:=Yn i x mW;rw[ed]at e;walk_at"rp";refine⟨by decide,xa (λc=>?_) (λc=>?_)⟩
  ·have c':m % 2=1:=yN c;rw[za,yS c']at e;refine⟨⟨_,_,rfl,ep⟩,_,ep,by rw[zX];exact uv (by lia),⟨by decide,by decide⟩,m / 2,aO++[y],_,rfl,by rw[xN];exact e,by rw[zy,zP];rfl,zu s2 n1 _,by rw[zN,xB];lia⟩
  ·have c':¬m % 2=1:=λz=>c (yU z);rw[za,yY c']at e;exact⟨⟨by decide,by decide⟩,m / 2,aO,_,rfl,e,ep,s2,by lia⟩
 ·rintro σ H2 ⟨m,aO,nv,rfl,e,ep,s2,_⟩;rw[aN,List.drop_length]at e;have e':aO=za n xs:=by simpa[za]using e
  walk_at"rp";exact⟨_,.inl (SqL.of ep),λr H' s3 hr3=>q r H' (s2.trans s3) (by rw[<-e'];exact hr3)⟩
theorem yx{H H':Hp}{p:Addr}(s:Same H H')(n:H' p=none):H p=none:=by
 cases e:H p with
 |none=>rfl
 |some o=>rw[s _ _ e]at n;cases n
theorem qh{ts:List Say}{i:Nat}{t:Say}(h:ts[i]?=some t):w4 (ts.take (i+1))=w4 (ts.take i)++t.letters:=by
 rw[yX,h,uy];simp[w4]
def ki(K:W.Frag):Sp:=λvs H Q _=>∃(a:Addr)(us:List V)(ts:List Say)(xs:List Str),vs=[.ref a]/\SqT K H a us/\SaysAt K H us ts/\Lst ts xs/\∀(p:Addr)(H':Hp)(ss:List Str),Same H H'->SqT K H' p (ss.map V.str)->NamesOf ts ss->Q (.ref p) H'
theorem sc_namesof:zj ["sayings","names","saying"] ["sayings"] (z0 (top 16)):=⟨rfl,rfl,rfl,by decide +kernel,rfl,by decide +kernel,by decide +kernel⟩
theorem bi(D:Def K mg "names_of" (top 16) ["sayings"])(fA:zw P w K mg base 41 "names_in" ["saying"] (re K))(aK:mg "sorted"=none)(aR:mg "set"=none)(aD:mg "tuple"=none):zw P w K mg base 42 "names_of" ["sayings"] (ki K):=by
 refine D.callee sc_namesof (λvs H Q E h=>?_) λf cdv A outer s H vs Q E hr h=>?_
 ·obtain⟨a,us,ts,xs,rfl,_⟩:=h
  rfl
 have nd:=sc_namesof.nd;obtain⟨a,us,ts,xs,rfl,ha,hS,hL,q⟩:=h;have hl:=hS.len;refine⟨[some (.ref a),none,none],_,rfl,(z5 (zp 1 nd (xp z6))
  (z5 (wx yJ rfl (ym (z8 0)) (v6 2 nd) (zz (wm (d7 vQ uF aq (z8 1) (z9 (zx fA hr (by lia) (z9 (z8 2) z6)) z6)))))
  (zz (zr (yt xu rfl aD yl (z9 (xj rfl hr.units rfl aK rfl aR (z8 1)) z6)))))),?_⟩
 walk_at"rp";refine⟨zn (by simp),λr H1 n1 s1 e1=>?_⟩;refine .inr ⟨⟨_,(z7 s1).sqT ha⟩,xf (xs:=us) (λi σ H2=>∃(aO:List Str)(iv:Option V),σ=[some (.ref a),some (.ref r),iv]/\H2 r=some (.lst (aO.map V.str))/\(∀x,x∈aO↔x∈w4 (ts.take i))/\aO.length<=40*i/\Same H H2) ⟨[],none,rfl,e1,λx=>by simp[w4],zS _,s1⟩ ?_ ?_ ?_⟩
 ·rintro i σ H2 _ ⟨aO,iv,rfl,_,_,_,s2⟩;exact(z7 s2).sqT ha
 ·rintro i x σ H2 hx ⟨aO,iv,rfl,e2,hm,hc,s2⟩;obtain⟨t,ht,sv⟩:=hS.at i x hx;have mX:=zM ht;have hi:i<us.length:=(zU.mp hx).1;have h6:=hL.hi;walk_at"rp";refine⟨⟨_,_,rfl,e2⟩,x,t,rfl,sv.mono (z7 s2),hL.pc t mX,λp H3 ss s3 hp nds fJ _=>?_⟩;walk_at"rp";have sB:ss.length<=40:=yW (yj nds λy hy=>(fJ y).mp hy) (yW (yq t) (hL.pc t mX));refine⟨_,_,s3 _ _ e2,.inr hp,by rw[zX,zX,zD];lia,aO++ss,some x,rfl,by rw[zy,zP],λy=>?_,by rw[zN];lia,zu (s2.trans s3) n1 _⟩;rw[zO,hm y,fJ y,qh ht,zO]
 ·rintro σ H2 ⟨aO,iv,rfl,e2,hm,hc,s2⟩;rw[hl,yV]at hm;have h6:=hL.hi;walk_at"rp";refine .inl ⟨_,.inl (SqL.of e2),by unfold scanBound;lia,λbW hn hs=>?_,λbW hn HB gO p H3 n3 s3 e3=>?_⟩
  ·have:=yj hn λy hy=>hL.nm y ((hm y).mp (hs y hy));have:=hL.xl;lia
  ·walk_at"rp";exact⟨_,.inl (SqL.of e3),λp' H4 s4 h4=>q p' H4 bW (s2.trans (s3.trans s4)) h4 ⟨hn,λy=>(HB y).trans (hm y),gO⟩⟩
def kg(K:W.Frag):Sp:=λvs H Q _=>∃(a:Addr)(us:List V)(ts:List Say)(xs:List Str),vs=[.ref a]/\SqT K H a us/\SaysAt K H us ts/\Lst ts xs/\∀(p:Addr)(H':Hp)(ss:List Str)(as:List Addr),H p=none->Same H H'->H' p=some (.lst (as.map V.ref))->NamesOf ts ss->as.length=2 ^ ss.length ->
 (∀(n:Nat) b,as[n]?=some b->SqT K H' b ((za (n:Int) ss).map V.str))->Q (.ref p) H'
theorem sc_allheld:zj ["sayings","names"] ["sayings"] (z0 (top 17)):=⟨rfl,rfl,rfl,by decide +kernel,rfl,by decide +kernel,by decide +kernel⟩
theorem Wa{n:Nat}(h:n<=5):2 ^ n<=32:=uS (by decide) h
theorem bc(D:Def K mg "all_held" (top 17) ["sayings"])(eZ:zw P w K mg base 42 "names_of" ["sayings"] (ki K))(nE:zw P w K mg base 1 "held_by" ["number","names"] (f6 K))(hG:zw P w K mg base 1 "ways_to_hold" ["names"] (Wo K))(aG:mg "range"=none):
  zw P w K mg base 43 "all_held" ["sayings"] (kg K):=by
 refine D.callee sc_allheld (λvs H Q E h=>?_) λf cdv A outer s H vs Q E hr h=>?_
 ·obtain⟨a,us,ts,xs,rfl,_⟩:=h
  rfl
 have nd:=sc_allheld.nd;obtain⟨a,us,ts,xs,rfl,ha,hS,hL,q⟩:=h;refine⟨[some (.ref a),none],_,rfl,(z5 (zp 1 nd (zx eZ hr (by lia) (z9 (z8 0) z6)))
  (zz (zr (yg (ixs:=[1]) (y9 (own:=["number"]) (N:=["names"]) rfl rfl rfl rfl rfl rfl rfl (by decide +kernel) rfl rfl rfl) rfl (ye rfl aG (z9 (zx hG hr (by lia) (z9 (z8 1) z6)) z6)) (λ_ _ _ _=>yp) (λ_ _ _ _=>(zx nE hr (by lia) (z9 (z8 0) (z9 (z8 1) z6)))) rfl)))),?_⟩
 walk_at"rp";refine⟨a,us,ts,xs,rfl,ha,hS,hL,λb H1 ss s1 hb hN=>?_⟩;obtain⟨Hs,hsn⟩:=hL.names hN;have p5:=Wa Hs;have p5':((2 ^ ss.length:Nat):Int)<=32:=Int.ofNat_le.mpr p5;have p50:(0:Int)<=((2 ^ ss.length:Nat):Int):=Int.natCast_nonneg _;walk_at"rp";refine⟨b,ss,rfl,hb,by lia,?_⟩;walk_at"rp";refine⟨⟨by lia,by lia⟩,?_⟩;rw[yG];intro C s₀ H₀ ex;refine xk (λD i ys H2=>∃as:List Addr,ys=as.map V.ref/\as.length=i/\(∀(n:Nat) c,as[n]?=some c->SqT K H2 c ((za (n:Int) ss).map V.str))/\H2 D=some (.lst ys)/\Same H1 H2/\H1 D=none) (by rw[zD];lia) ?_ ?_ ?_ ?_
 ·intro D H2 n2 s2 e2;exact⟨[],rfl,rfl,λn c hc=>by simp at hc,e2,s2,n2⟩
 ·rintro D i ys H2 ⟨as,rfl,hl,_,e2,_⟩;exact⟨e2,by simpa using hl⟩
 ·rintro D i ys H2 hi ⟨as,rfl,hl,hc,e2,s2,n2⟩;walk_at"rp";refine⟨_,b,ss,rfl,(z7 s2).sqT hb,by lia,λr H3 s3 h3=>⟨s3 _ _ e2,CN.mk hi ⟨as++[r],by rw[zP];rfl,by rw[zN,hl];rfl,λn c hn=>?_,zy,zu (s2.trans s3) n2 _,n2⟩⟩⟩;have tl:=yf (o:=.lst (as.map V.ref++[V.ref r])) (s3 _ _ e2)
  by_cases aS:n<as.length
  ·rw[yM aS]at hn;exact tl.sqT ((z7 s3).sqT (hc n c hn))
  ·rw[xZ (by lia)]at hn;have hnz:n-as.length=0:=by
    cases h9:n-as.length with
    |zero=>rfl
    |succ m=>rw[h9]at hn;simp at hn
   rw[hnz]at hn;cases hn;have:n=i:=by lia
   subst this;rw[Int.zero_add]at h3;exact tl.sqT h3
 ·rintro D ys H2 ⟨as,rfl,hl,hc,e2,s2,n2⟩;exact q D H2 ss as (yx s1 n2) (s1.trans s2) e2 hN hl hc
def o6(K:W.Frag):Sp:=λvs H Q _=>∃(a h:Addr)(us:List V)(ts:List Say)(xs hs:List Str),vs=[.ref a,.ref h]/\SqT K H a us/\SaysAt K H us ts/\Lst ts xs/\SqT K H h (hs.map V.str)/\∀(p:Addr)(H':Hp),Same H H'->SqT K H' p ((uj ts hs).map V.bl)->Q (.ref p) H'
theorem sc_rowof:zj ["sayings","held"] ["sayings","held"] (z0 (top 18)):=⟨rfl,rfl,rfl,by decide +kernel,rfl,by decide +kernel,by decide +kernel⟩
theorem Vw(D:Def K mg "row_of" (top 18) ["sayings","held"])(fK:zw P w K mg base 40 "is_so" ["saying","held"] (Om K 40))(aD:mg "tuple"=none):zw P w K mg base 41 "row_of" ["sayings","held"] (o6 K):=by
 refine D.callee sc_rowof (λvs H Q E h=>?_) λf cdv A outer s H vs Q E hr h=>?_
 ·obtain⟨a,h,us,ts,xs,hs,rfl,_⟩:=h
  rfl
 have nd:=sc_rowof.nd;obtain⟨a,h,us,ts,xs,hs,rfl,ha,hS,hL,hh,q⟩:=h;have hl:=hS.len;have h6:=hL.hi;refine⟨[some (.ref a),some (.ref h)],_,rfl,(zz (zr (yt xu rfl aD yl (z9 (yg (ixs:=[1]) (y9 (own:=["saying"]) (N:=["held"]) rfl rfl rfl rfl rfl rfl rfl (by decide +kernel) rfl rfl rfl) rfl (ym (z8 0)) (λ_ _ _ _=>yp) (λ_ _ _ _=>(zx fK hr (by lia) (z9 (z8 0) (z9 (z8 1) z6)))) rfl) z6)))),?_⟩;walk_at"rp";refine .inr ⟨⟨_,ha⟩,λC s₀ H₀ ex=>?_⟩;refine uz (xs:=us) (λD i ys H2=>ys=((ts.take i).map λt=>t.so hs).map V.bl/\i<=us.length/\H2 D=some (.lst ys)/\Same H H2/\H D=none) (by rw[zD];lia) ?_ ?_ ?_ ?_
 ·intro D H2 n2 s2 e2;exact⟨rfl,yO _,e2,s2,n2⟩
 ·rintro D i ys H2 ⟨rfl,hi,e2,s2,_⟩;exact⟨(z7 s2).sqT ha,e2,by simp;lia⟩
 ·rintro D i v ys H2 hv ⟨rfl,hi,e2,s2,n2⟩;obtain⟨t,ht,sv⟩:=hS.at i v hv;walk_at"rp";refine⟨v,h,t,hs,rfl,sv.mono (z7 s2),hL.pc t (zM ht),(z7 s2).sqT hh,e2,CN.mk (zU.mp hv).1 ⟨?_,(zU.mp hv).1,zy,zu s2 n2 _,n2⟩⟩;rw[yX,ht];simp
 ·rintro D ys H2 ⟨rfl,hi,e2,s2,n2⟩;rw[hl,yV]at e2;exact⟨_,.inl (SqL.of e2),λp H3 s3 h3=>q p H3 (s2.trans s3) h3⟩
def vw(K:W.Frag):Sp:=λvs H Q _=>∃(a:Addr)(us:List V)(ts:List Say)(xs:List Str),vs=[.ref a]/\SqT K H a us/\SaysAt K H us ts/\Lst ts xs/\∀(p:Addr)(H':Hp)(ss:List Str)(R:List (Addr×List Bool)),H p=none->Same H H'->H' p=some (.lst (R.map λr=>V.ref r.1))->(∀r∈R,SqT K H' r.1 (r.2.map V.bl))->NamesOf ts ss->FitRows ts ss (R.map (·.2))->R.length<=32->Q (.ref p) H'
theorem sc_fitrows:zj ["sayings"] ["sayings"] (z0 (top 19)):=⟨rfl,rfl,rfl,by decide +kernel,rfl,by decide +kernel,by decide +kernel⟩
theorem bg(D:Def K mg "fit_rows" (top 19) ["sayings"])(lU:zw P w K mg base 43 "all_held" ["sayings"] (kg K))(pM:zw P w K mg base 41 "row_of" ["sayings","held"] (o6 K))(aK:mg "sorted"=none)(aR:mg "set"=none):
  zw P w K mg base 44 "fit_rows" ["sayings"] (vw K):=by
 refine D.callee sc_fitrows (λvs H Q E h=>?_) λf cdv A outer s H vs Q E hr h=>?_
 ·obtain⟨a,us,ts,xs,rfl,_⟩:=h
  rfl
 have nd:=sc_fitrows.nd;obtain⟨a,us,ts,xs,rfl,ha,hS,hL,q⟩:=h;refine⟨[some (.ref a)],_,rfl,(zz (zr (xj rfl hr.units rfl aK rfl aR (yg (ixs:=[0]) (y9 (own:=["held"]) (N:=["sayings"]) rfl rfl rfl rfl rfl rfl rfl (by decide +kernel) rfl rfl rfl) rfl (ym (zx lU hr (by lia) (z9 (z8 0) z6))) (λ_ _ _ _=>yp) (λ_ _ _ _=>(zx pM hr (by lia) (z9 (z8 1) (z9 (z8 0) z6)))) rfl)))),?_⟩;walk_at"rp";refine⟨a,us,ts,xs,rfl,ha,hS,hL,λb H1 ss as nb s1 hb hN has HN=>?_⟩;obtain⟨Hs,hsn⟩:=hL.names hN;have p5:=Wa Hs;walk_at"rp";refine .inl ⟨⟨_,SqL.of hb⟩,λC s₀ H₀ ex=>?_⟩;refine wb (xs:=as.map V.ref) (λD i ys H2=>∃R:List (Addr×List Bool),ys=(R.map λr=>V.ref r.1)/\R.map (·.2)=(List.range i).map (λ(n:Nat)=>uj ts (za (n:Int) ss))/\(∀r∈R,SqT K H2 r.1 (r.2.map V.bl))/\H2 D=some (.lst ys)/\Same H1 H2/\H1 D=none) (by rw[zX,zD];lia) ?_ ?_ ?_ ?_
 ·intro D H2 n2 s2 e2;exact⟨[],rfl,rfl,λr hr=>by simp at hr,e2,s2,n2⟩
 ·rintro D i ys H2 ⟨R,rfl,hR,_,e2,s2,_⟩;refine⟨SqL.of (s2 _ _ hb),e2,?_⟩;have:=xF List.length hR;simpa using this
 ·rintro D i v ys H2 hv ⟨R,rfl,hR,hT,e2,s2,n2⟩;rw[zE]at hv;cases hc:as[i]? with
  |none=>rw[hc]at hv;cases hv
  |some c =>
   rw[hc]at hv;cases hv;have hi:i<as.length:=(zU.mp hc).1;walk_at"rp";refine⟨a,c,us,ts,xs,_,rfl,(z7 (s1.trans s2)).sqT ha,hS.mono (z7 (s1.trans s2)),hL,(z7 s2).sqT (HN i c hc),λp H3 s3 h3=>⟨s3 _ _ e2,CN.mk (by rw[zX];exact hi) ⟨R++[(p,uj ts (za (i:Int) ss))],by rw[zP];rfl,?_,λr hr=>?_,zy,zu (s2.trans s3) n2 _,n2⟩⟩⟩
   ·rw[zP,hR,List.range_succ,zP]
    rfl
   ·have tl:=yf (o:=.lst ((R.map λr=>V.ref r.1)++[V.ref p])) (s3 _ _ e2);rcases zO.mp hr with hr|hr
    ·exact tl.sqT ((z7 s3).sqT (hT r hr))
    ·rw[zW.mp hr];exact tl.sqT h3
 ·rintro D ys H2 ⟨R,rfl,hR,hT,e2,s2,n2⟩;rw[zX,has]at hR;have hRl:R.length=2 ^ ss.length:=by
   have:=xF List.length hR;simpa using this
  refine .inr ⟨R,SqL.of e2,λr hr=>⟨hT r hr,?_⟩,by lia,λR' iH mJ fJ gO Be p H3 n3 s3 e3=>?_⟩
  ·have:r.2∈R.map (·.2):=yK hr;rw[hR]at this;obtain⟨n,_,e⟩:=zF.mp this;intro z;rw[<-e]at z;have h1:=qw ts (za (n:Int) ss);rw[z]at h1;have:=hL.lo;simp at h1;lia
  ·refine q p H3 ss R' (yx (s1.trans s2) n3) (s1.trans (s2.trans s3)) e3 (λr hr=>(z7 s3).sqT (hT r (iH r hr))) hN ⟨mJ,λk=>?_,gO⟩ (by lia);rw[fJ k,hR,zF];constructor
   ·rintro⟨n,hn,rfl⟩;exact⟨n,yB.mp hn,rfl⟩
   ·rintro⟨n,hn,rfl⟩;exact⟨n,yB.mpr hn,rfl⟩
def f9(K:W.Frag)(n:Nat):Sp:=λvs H Q _=>∃(v:V)(s:Say),vs=[v]/\SayAt K H v s/\s.pieces<=n/\∀H',Same H H'->Q (.int s.pieces) H'
theorem sc_pieces:zj ["saying","pieces","inner"] ["saying"] (z0 (top 8)):=⟨rfl,rfl,rfl,by decide +kernel,rfl,by decide +kernel,by decide +kernel⟩
theorem j7(D:Def K mg "pieces_in" (top 8) ["saying"]):∀n:Nat,zw P w K mg base n "pieces_in" ["saying"] (f9 K n)
 |0=>xx D λvs H Q E h=>by
  obtain⟨v,s,_,_,hp,_⟩:=h;exact absurd s.pieces_pos (by lia)
 |n+1=>by
  have dY:=j7 D n;refine D.callee sc_pieces (λvs H Q E h=>?_) λf cdv A outer s H vs Q E hr h=>?_
  ·obtain⟨v,s,rfl,_⟩:=h
   rfl
  have nd:=sc_pieces.nd;obtain⟨v,s,rfl,hv,hp,q⟩:=h;refine⟨[some v,none,none],_,rfl,(z5 (y8 (zb (xh hr.units) (yh (z8 0) z4 (λ_ _=>rfl)) zo (zf _)) (zz (zr z4)) zm)
  (z5 (zp 1 nd z4)
  (z5 (wx yJ rfl (ym (zc (z8 0) (yz z4) zd)) (v6 2 nd) (zz (zp 1 nd (zv zh (z8 1) (zx dY hr (by lia) (z9 (z8 2) z6))))))
  (zz (zr (z8 1)))))),?_⟩
  by_cases hs:s.subs=[]
  ·cases s with
   |letter x =>
    obtain⟨a,rfl,ha⟩:=hv;walk_at"rp";refine⟨_,_,.inr ha,rfl,?_⟩;walk_at"rp";exact q H (Same.refl H)
   |neg t=>simp[Say.subs]at hs
   |bin o t t'=>simp[Say.subs]at hs
  ·obtain⟨a,wd,us,rfl,ha,hw,hl,kW,hu⟩:=m4 hv hs;walk_at"rp";refine⟨_,_,.inr ha,oi _ _,?_⟩;walk_at"rp";rw[hw];walk_at"rp";refine .inr ⟨_,ha,λp H1 s1 h1=>.inr ⟨⟨_,h1⟩,?_⟩⟩;rw[rn]at h1;refine xf (xs:=us) (λi σ H2=>∃iv,σ=[some (.ref a),some (.int (1+((s.subs.take i).map Say.pieces).sum:Nat)),iv]/\Same H1 H2/\i<=us.length) ⟨none,rfl,Same.refl _,yO _⟩ ?_ ?_ ?_
   ·rintro i σ H2 _ ⟨iv,rfl,s2,_⟩;exact(z7 s2).sqT h1
   ·rintro i x σ H2 hx ⟨iv,rfl,s2,hi⟩;obtain⟨t,ht,sv,pc⟩:=hu i x hx;walk_at"rp";refine⟨x,t,rfl,sv.mono (z7 (s1.trans s2)),by lia,λH3 s3=>?_⟩;walk_at"rp";refine⟨some x,?_,s2.trans s3,(zU.mp hx).1⟩;rw[yX,ht];simp;lia
   ·rintro σ H2 ⟨iv,rfl,s2,_⟩;walk_at"rp";rw[hl,yV,<-u8];exact q H2 (s1.trans s2)
structure k4(ts:List Say)(xs:List Str):Prop where
 hi:ts.length<=7
 nm:∀x∈w4 ts,x∈xs
 xl:xs.length<=60
 ok:∀x∈xs,Nm x
theorem Lst.toW{ts:List Say}{xs:List Str}(h:Lst ts xs):k4 ts xs:=⟨by have:=h.hi;lia,h.nm,by have:=h.xl;lia,h.ok⟩
def f8(K:W.Frag):Sp:=λvs H Q _=>∃(a:Addr)(us:List V)(ts:List Say)(xs:List Str),vs=[.ref a]/\SqT K H a us/\SaysAt K H us ts/\k4 ts xs/\(∀t∈ts,t.pieces<=40)/\∀(p:Addr)(H':Hp)(ss:List Str),Same H H'->SqT K H' p (ss.map V.str)->NamesOf ts ss->Q (.ref p) H'
theorem sc_namesw:zj ["sayings","names","saying"] ["sayings"] (z0 (top 16)):=⟨rfl,rfl,rfl,by decide +kernel,rfl,by decide +kernel,by decide +kernel⟩
theorem X9(D:Def K mg "names_of" (top 16) ["sayings"])(fA:zw P w K mg base 41 "names_in" ["saying"] (re K))(aK:mg "sorted"=none)(aR:mg "set"=none)(aD:mg "tuple"=none):zw P w K mg base 42 "names_of" ["sayings"] (f8 K):=by
 refine D.callee sc_namesw (λvs H Q E h=>?_) λf cdv A outer s H vs Q E hr h=>?_
 ·obtain⟨a,us,ts,xs,rfl,_⟩:=h
  rfl
 have nd:=sc_namesw.nd;obtain⟨a,us,ts,xs,rfl,ha,hS,hL,kN,q⟩:=h;have hl:=hS.len;refine⟨[some (.ref a),none,none],_,rfl,(z5 (zp 1 nd (xp z6))
  (z5 (wx yJ rfl (ym (z8 0)) (v6 2 nd) (zz (wm (d7 vQ uF aq (z8 1) (z9 (zx fA hr (by lia) (z9 (z8 2) z6)) z6)))))
  (zz (zr (yt xu rfl aD yl (z9 (xj rfl hr.units rfl aK rfl aR (z8 1)) z6)))))),?_⟩
 walk_at"rp";refine⟨zn (by simp),λr H1 n1 s1 e1=>?_⟩;walk_at"rp";refine .inr ⟨⟨_,(z7 s1).sqT ha⟩,xf (xs:=us) (λi σ H2=>∃(aO:List Str)(iv:Option V),σ=[some (.ref a),some (.ref r),iv]/\H2 r=some (.lst (aO.map V.str))/\(∀x,x∈aO↔x∈w4 (ts.take i))/\aO.length<=40*i/\Same H H2) ⟨[],none,rfl,e1,by simp[w4],by simp,s1⟩ ?_ ?_ ?_⟩
 ·rintro i σ H2 _ ⟨aO,iv,rfl,_,_,_,s2⟩;exact(z7 s2).sqT ha
 ·rintro i x σ H2 hx ⟨aO,iv,rfl,e2,hm,hc,s2⟩;obtain⟨t,ht,sv⟩:=hS.at i x hx;have mX:=zM ht;have hi:i<us.length:=(zU.mp hx).1;have h6:=hL.hi;walk_at"rp";refine⟨⟨_,_,rfl,e2⟩,x,t,rfl,sv.mono (z7 s2),kN t mX,λp H3 ss s3 hp nds fJ _=>?_⟩;walk_at"rp";have sB:ss.length<=40:=yW (yj nds λy hy=>(fJ y).mp hy) (yW (yq t) (kN t mX));refine⟨_,_,s3 _ _ e2,.inr hp,by rw[zX,zX,zD];lia,aO++ss,some x,rfl,by rw[zy,zP],λy=>?_,by rw[zN];lia,zu (s2.trans s3) n1 _⟩;rw[zO,hm y,fJ y,qh ht,zO]
 ·rintro σ H2 ⟨aO,iv,rfl,e2,hm,hc,s2⟩;rw[hl,yV]at hm;have h6:=hL.hi;walk_at"rp";refine .inl ⟨_,.inl (SqL.of e2),by unfold scanBound;lia,λbW hn hs=>?_,λbW hn HB gO p H3 n3 s3 e3=>?_⟩
  ·have:=yj hn λy hy=>hL.nm y ((hm y).mp (hs y hy));have:=hL.xl;lia
  ·walk_at"rp";exact⟨_,.inl (SqL.of e3),λp' H4 s4 h4=>q p' H4 bW (s2.trans (s3.trans s4)) h4 ⟨hn,λy=>(HB y).trans (hm y),gO⟩⟩
def okB(ts:List Say)(n:Nat):Prop:=(1<=ts.length/\ts.length<=6)/\(1<=n/\n<=21)/\(∀t∈ts,t.pieces<=40)/\∀ss,NamesOf ts ss->ss.length<=5
def noB(ts:List Say)(n:Nat):Prop:=ts.length<1\/6<ts.length\/n<1\/21<n\/(∃t∈ts,40<t.pieces)\/∀ss,NamesOf ts ss->5<ss.length
def Sb(Co:Addr)(H:Hp)(E:XK):Prop:=∀(a:Addr)(H':Hp),Same H H'->H' a=some (exO a Co none false)->E (.ref a) none H'
def Ol(K:W.Frag)(Co:Addr):Sp:=λvs H Q E=>∃(b j:Addr)(us ws:List V)(ts:List Say)(xs:List Str),vs=[.ref b,.ref j]/\SqT K H b us/\SaysAt K H us ts/\SqT K H j ws/\k4 ts xs/\(∀t∈ts,t.pieces<=130)/\ws.length<=2000/\((okB ts ws.length/\∀H',Same H H'->Q .non H')\/(noB ts ws.length/\Sb Co H E))
theorem sc_cb:zj ["sayings","judges"] ["sayings","judges"] (z0 (top 25)):=⟨rfl,rfl,rfl,by decide +kernel,rfl,by decide +kernel,by decide +kernel⟩
theorem M8{Co:Addr}{t1 t2 t3 t4:Tok}(D:Def K mg "check_bounds" (top 25) ["sayings","judges"])(dY:zw P w K mg base 130 "pieces_in" ["saying"] (f9 K 130))(eZ:zw P w K mg base 42 "names_of" ["sayings"] (f8 K))(aP:jg K Co)(aL:mg "OutOfBounds"=some (.ref Co))(bI:mg "MOST_SAYINGS"=some (.int 6 t1))(bZ:mg "MOST_NAMES"=some (.int 5 t2))(bO:mg "MOST_PIECES"=some (.int 40 t3))(bP:mg "MOST_JUDGES"=some (.int 21 t4))(aH:mg "len"=none)(kS:mg "any"=none):w8 P w K mg base 131 "check_bounds" ["sayings","judges"] (Ol K Co):=by
 refine D.calleeX sc_cb (λvs H Q E h=>?_) λf cdv A outer s H vs Q E hr h=>?_
 ·obtain⟨b,j,us,ws,ts,xs,rfl,_⟩:=h
  rfl
 have nd:=sc_cb.nd;obtain⟨b,j,us,ws,ts,xs,rfl,hb,hT,hj,hL,kN,hw,hq⟩:=h;have qn:¬okB ts ws.length->Sb Co H E:=λno=>hq.elim (λz=>absurd z.1 no) λz=>z.2;have Ct:=hT.len;have h7:=hL.hi;have oob:∀{H1:Hp}{a:Addr},Same H H1->H1 a=none->¬okB ts ws.length->E (.ref a) none (upd (upd H1 a (exO a Co none true)) a (exO a Co none false)):=λ{H1 a} s1 na no=>qn no a _ (zu (zu s1 (yx s1 na) _) (yx s1 na) _) zy;refine⟨[some (.ref b),some (.ref j)],_,rfl,(z5 (y8 (PW.pt (fm (zb Vo (zt xz rfl aH yk (z9 (z8 0) z6)) z4 (zf _)) (mx (zb d8 (zt xz rfl aH yk (z9 (z8 0) z6)) (ot bI) (zf _))))) (zz (wg (sx aP aL (z9 zo z6)) tj rfl)) zm)
  (z5 (y8 (PW.pt (fm (zb Vo (zt xz rfl aH yk (z9 (z8 1) z6)) z4 (zf _)) (mx (zb d8 (zt xz rfl aH yk (z9 (z8 1) z6)) (ot bP) (zf _))))) (zz (wg (sx aP aL (z9 zo z6)) tj rfl)) zm)
  (z5 (y8 (wy (zt (Mx rfl) rfl kS Pa (z9 (yg (ixs:=[]) (y9 (own:=["saying"]) (N:=[]) rfl rfl rfl rfl rfl rfl rfl (by decide +kernel) rfl rfl rfl) rfl (ym (z8 0)) (λ_ _ _ _=>yp) (λ_ _ _ _=>(xm d8 (zx dY hr (by lia) (z9 (z8 0) z6)) (ot bO) (zf _))) rfl) z6))) (zz (wg (sx aP aL (z9 zo z6)) tj rfl)) zm)
  (zz (y8 (zb d8 (zt xz rfl aH yk (z9 (zx eZ hr (by lia) (z9 (z8 0) z6)) z6)) (ot bZ) (zf _)) (zz (wg (sx aP aL (z9 zo z6)) tj rfl)) zm))))),?_⟩
 have iP:∀{H1:Hp}{x:Str},Same H H1->¬okB ts ws.length->([V.str x].length<=sizeLine/\∀a,H1 a=none->∃C4 C dx,V.ref a=V.ref C4/\upd H1 a (exO a Co none true) C4=some (exO C4 C dx true)/\XCls K C/\E (Value.ref C4) dx (upd (upd H1 a (exO a Co none true)) C4 (exO C4 C dx false))):=λ{H1 x} s1 no=>⟨by simp only[yF,vA];rw[zD];decide,λa na=>⟨a,Co,none,rfl,zy,aP.x,oob s1 na no⟩⟩
 walk_at"rp";refine⟨_,.inr hb,?_⟩;rw[Ct];refine xa (λc=>?_) λc=>?_
 ·exact iP (Same.refl _) λo=>by have:=o.1.1;have:=yN c;lia
 refine⟨_,.inr hb,?_⟩;rw[Ct];refine xa (λc2=>?_) λc2=>?_
 ·exact iP (Same.refl _) λo=>by have:=o.1.2;have:=yN c2;lia
 have hlo:1<=ts.length:=by
  rcases tG ts.length 1 with z|z
  ·exact absurd (yU (by lia)) c
  ·exact z
 have h6:ts.length<=6:=by
  rcases tG 6 ts.length with z|z
  ·exact absurd (yU (by lia)) c2
  ·exact z
 walk_at"rp";refine⟨_,.inr hj,?_⟩;refine xa (λc3=>?_) λc3=>?_
 ·exact iP (Same.refl _) λo=>by have:=o.2.1.1;have:=yN c3;lia
 refine⟨_,.inr hj,?_⟩;refine xa (λc4=>?_) λc4=>?_
 ·exact iP (Same.refl _) λo=>by have:=o.2.1.2;have:=yN c4;lia
 have hw1:1<=ws.length:=by
  rcases tG ws.length 1 with z|z
  ·exact absurd (yU (by lia)) c3
  ·exact z
 have hw21:ws.length<=21:=by
  rcases tG 21 ws.length with z|z
  ·exact absurd (yU (by lia)) c4
  ·exact z
 walk_at"rp";refine .inr ⟨⟨_,hb⟩,λC s₀ H₀ ex=>?_⟩;refine uz (xs:=us) (λD i ys H2=>ys=((ts.take i).map λt=>decide (40<(t.pieces:Int))).map V.bl/\i<=ts.length/\H2 D=some (.lst ys)/\Same H H2/\H D=none) (by rw[Ct,zD];lia) ?_ ?_ ?_ ?_
 ·intro D H2 n2 s2 e2;exact⟨rfl,yO _,e2,s2,n2⟩
 ·rintro D i ys H2 ⟨rfl,hi,e2,s2,_⟩;exact⟨(z7 s2).sqT hb,e2,by simp;lia⟩
 ·rintro D i v ys H2 hv ⟨rfl,hi,e2,s2,n2⟩;obtain⟨t,ht,sv⟩:=hT.at i v hv;have mX:=zM ht;have aS:i<ts.length:=(zU.mp ht).1;walk_at"rp";refine⟨v,t,rfl,sv.mono (z7 s2),kN t mX,λH3 s3=>?_⟩;walk_at"rp";refine⟨s3 _ _ e2,CN.mk (by lia) ⟨?_,aS,zy,zu (s2.trans s3) n2 _,n2⟩⟩;rw[yX,ht,zP,zP]
  rfl
 rintro D1 ys1 H1 ⟨rfl,_,e1,s1,n1⟩;rw[Ct,yV]at e1;walk_at"rp";refine⟨_,SqL.of e1,?_⟩;refine xa (λc5=>?_) λc5=>?_
 ·refine iP s1 λo=>?_;obtain⟨b',eB,e'⟩:=xD.mp c5;obtain⟨t,ht,rfl⟩:=zF.mp eB;have h1:=o.2.2.1 t ht;have h2:=yN e';lia
 have Hy:∀t∈ts,t.pieces<=40:=λt ht=>by
  rcases tG 40 t.pieces with z|z
  ·exact absurd (show(ts.map λt=>decide (40<(t.pieces:Int))).any id=true from xD.mpr ⟨true,zF.mpr ⟨t,ht,yU (by lia)⟩,rfl⟩) c5
  ·exact z
 walk_at"rp";refine⟨b,us,ts,xs,rfl,(z7 s1).sqT hb,hT.mono (z7 s1),hL,Hy,λp H2 ss s2 hp hN=>?_⟩;walk_at"rp";refine⟨_,.inr hp,?_⟩;rw[zX];refine xa (λc6=>?_) λc6=>?_
 ·exact iP (s1.trans s2) λo=>by have:=o.2.2.2 ss hN;have:=yN c6;lia
 ·have h5:ss.length<=5:=by
   rcases tG 5 ss.length with z|z
   ·exact absurd (yU (by lia)) c6
   ·exact z
  refine hq.elim (λz=>z.2 H2 (s1.trans s2)) λz=>?_;rcases z.1 with z|z|z|z|⟨t,ht,z⟩|z
  ·lia
  ·lia
  ·lia
  ·lia
  ·have:=Hy t ht;lia
  ·have:=z ss hN;lia
def Zr(K:W.Frag):Sp:=λvs H Q _=>∃(r:Addr)(v:V)(R:List (Addr×List Bool))(d:PyData),vs=[.ref r,v]/\H r=some (.lst (R.map λq=>V.ref q.1))/\(∀q∈R,SqT K H q.1 (q.2.map V.bl))/\R.length<=32/\Has K H v d/\PyData.canLay0 d=true /\
 (((R.map (·.2)).any λk=>PyData.eqv (ww k) d)=false->∀H',Same H H'->Q (.bl false) H') /\
 (((R.map (·.2)).any λk=>PyData.eqv (ww k) d)=true->∃(a:Addr)(zs:List V)(gs:List Bool),v = .ref a/\SqT K H a zs/\zs.length<=100/\gs.length=zs.length/\(∀(i:Nat) z g,zs[i]?=some z->gs[i]?=some g->(∃b,z = .bl b/\g=true)\/∃n,z = .int n/\g=false)/\∀H',Same H H'->Q (.bl (gs.all id)) H')
theorem sc_among:zj ["rows","row"] ["rows","row"] (z0 (top 26)):=⟨rfl,rfl,rfl,by decide +kernel,rfl,by decide +kernel,by decide +kernel⟩
theorem j3:W.kitOne K (.type "int") (.type "bool")=some false:=by rfl
theorem we(c:String):W.kitOne K (.type c) (.type c)=some true:=by
 unfold W.kitOne;rw[yS (uN _)]
theorem Vr(D:Def K mg "is_among" (top 26) ["rows","row"])(kT:mg "all"=none)(aA:mg "isinstance"=none)(aX:mg "bool"=none):zw P w K mg base 1 "is_among" ["rows","row"] (Zr K):=by
 refine D.callee sc_among (λvs H Q E h=>?_) λf cdv A outer s H vs Q E hr h=>?_
 ·obtain⟨r,v,R,d,rfl,_⟩:=h
  rfl
 have nd:=sc_among.nd;obtain⟨r,v,R,d,rfl,AT,hR,h32,hd,hc,qn,qy⟩:=h;refine⟨[some (.ref r),some v],_,rfl,(zz (zr (v7 (xm (M0 hr.units) (z8 1) (z8 0) (by with_unfolding_all rfl)) (xo (zt (Mw rfl) rfl kT O9 (z9 (yg (ixs:=[]) (y9 (own:=["truth"]) (N:=[]) rfl rfl rfl rfl rfl rfl rfl (by decide +kernel) rfl rfl rfl) rfl (ym (z8 1)) (λ_ _ _ _=>yp) (λ_ _ _ _=>(zt vq rfl aA zi (z9 (z8 0) (z9 (x9 (v:=.ty "bool") rfl aX rl rfl) z6)))) rfl) z6)))))),?_⟩;walk_at"rp";have Bf:=l8 (R.map (·.2));refine⟨d,(R.map (·.2)).map ww,hd,(by unfold Has;exact⟨r,_,rfl,SqL.of AT,qk hR⟩),hc,Bf.1,by have:=Bf.2;lia,?_⟩;rw[List.any_map];rw[show((R.map (·.2)).any ((λy=>PyData.eqv y d)∘ww))=((R.map (·.2)).any λk=>PyData.eqv (ww k) d)from rfl];cases hb:((R.map (·.2)).any λk=>PyData.eqv (ww k) d)with
 |false =>
  walk_at"rp";exact qn hb H (Same.refl _)
 |true =>
  obtain⟨a,zs,gs,rfl,ha,hz,hgl,hk,q⟩:=qy hb;walk_at"rp";refine .inr ⟨⟨_,ha⟩,λC s₀ H₀ ex=>?_⟩;refine uz (xs:=zs) (λD i ys H2=>ys=(gs.take i).map V.bl/\i<=gs.length/\H2 D=some (.lst ys)/\Same H H2/\H D=none) (by rw[zD];lia) ?_ ?_ ?_ ?_
  ·intro D H2 n2 s2 e2;exact⟨rfl,yO _,e2,s2,n2⟩
  ·rintro D i ys H2 ⟨rfl,hi,e2,s2,_⟩;exact⟨(z7 s2).sqT ha,e2,by simp;lia⟩
  ·rintro D i z ys H2 hv ⟨rfl,hi,e2,s2,n2⟩;have aS:i<zs.length:=(zU.mp hv).1;obtain⟨g,hg⟩:∃g,gs[i]?=some g:=⟨_,zL (by lia)⟩
   have cB:∀g',g'=g->(H2 D=some (.lst ((gs.take i).map V.bl))/\CN zs.length i ((gs.take i).map V.bl++[V.bl g']=(gs.take (i+1)).map V.bl/\i+1<=gs.length/\upd H2 D (.lst ((gs.take i).map V.bl++[V.bl g'])) D=some (.lst ((gs.take i).map V.bl++[V.bl g']))/\Same H (upd H2 D (.lst ((gs.take i).map V.bl++[V.bl g'])))/\H D=none)):=λg' e=>by
    subst e;refine⟨e2,CN.mk aS ⟨?_,by lia,zy,zu s2 n2 _,n2⟩⟩;rw[yX,hg,zP]
    rfl
   rcases hk i z g hv hg with⟨b,rfl,rfl⟩|⟨n,rfl,rfl⟩
   ·walk_at"rp";refine⟨_,true,.of (.bl _),we _,?_⟩;exact cB true rfl
   ·walk_at"rp";refine⟨_,false,.of (.int _),j3,?_⟩;exact cB false rfl
  ·rintro D ys H2 ⟨rfl,hi,e2,s2,n2⟩;rw[<-hgl,yV]at e2;walk_at"rp";exact⟨gs,SqL.of e2,q H2 s2⟩
def q0(K:W.Frag)(C:Addr):Sp:=λvs H Q _=>∃(a:Addr)(v:V)(n:Bool),vs=[.ref a,v]/\H a=some (exO a C none n)/\∀dx,H dx=none->Q .non (upd (upd H dx (.xd [("number",v)])) a (exO a C (some dx) n))
theorem sc_badrow:zj ["self","number"] ["self","number"] (z0 (kl (top 4) 0)):=⟨rfl,rfl,rfl,by decide +kernel,rfl,by decide +kernel,by decide +kernel⟩
theorem bf{C:Addr}(D:DefI K C "BadRow.__init__" (kl (top 4) 0) ["self","number"])(xb:XCls K C)(ht:W.takerIn K C "number"=some none):rh P w K mg base 1 C ["self","number"] (q0 K C):=by
 refine D.callee sc_badrow (λvs H Q E h=>?_) λf cdv A outer s H vs Q E hr h=>?_
 ·obtain⟨a,v,n,rfl,_⟩:=h
  rfl
 have nd:=sc_badrow.nd;obtain⟨a,v,n,rfl,ea,q⟩:=h;refine⟨[some (.ref a),some v],_,rfl,(zz (To (z8 0) (z8 1) rfl)),?_⟩;walk_at"rp";exact⟨a,C,n,rfl,ea,xb,ht,q⟩
def Jdg(K:W.Frag)(H:Hp)(R:List (List Bool))(v:V)(g:Bool):Prop:=∃d,Has K H v d/\PyData.canLay0 d=true /\
 (((R.any λk=>PyData.eqv (ww k) d)=false/\g=false)\/((R.any λk=>PyData.eqv (ww k) d)=true/\∃(a:Addr)(zs:List V)(gs:List Bool),v = .ref a/\SqT K H a zs/\zs.length<=100/\gs.length=zs.length/\(∀(i:Nat) z g,zs[i]?=some z->gs[i]?=some g->(∃b,z = .bl b/\g=true)\/∃n,z = .int n/\g=false)/\g=gs.all id))
mutual
theorem dv{H H':Hp}(s:Same H H'):∀(d:PyData)(v:V),Has K H v d->Has K H' v d
 | .none,v,h=>by simpa[Has]using h
 | .bool b,v,h=>by simpa[Has]using h
 | .int i,v,h=>by simpa[Has]using h
 | .str x,v,h=>by simpa[Has]using h
 | .tuple ds,v,h=>by
  have h':∃a xs,v = .ref a/\SqT K H a xs/\HasL K H xs ds:=by simpa[Has]using h
  obtain⟨a,xs,rfl,hq,hl⟩:=h';unfold Has;exact⟨a,xs,rfl,(z7 s).sqT hq,hasL_same s ds xs hl⟩
 | .list ds,v,h=>by
  have h':∃a xs,v = .ref a/\SqL K H a xs/\HasL K H xs ds:=by simpa[Has]using h
  obtain⟨a,xs,rfl,hq,hl⟩:=h';unfold Has;exact⟨a,xs,rfl,s.seq hq,hasL_same s ds xs hl⟩
 | .dict _,v,h=>by
  have h':False:=by simpa[Has]using h
  exact h'.elim
theorem hasL_same{H H':Hp}(s:Same H H'):∀(ds:List PyData)(xs:List V),HasL K H xs ds->HasL K H' xs ds
 |[],xs,h=>by simpa[HasL]using h
 |d::ds,xs,h=>by
  have h':∃y ys,xs=y::ys/\Has K H y d/\HasL K H ys ds:=by simpa[HasL]using h
  obtain⟨y,ys,rfl,h1,h2⟩:=h';unfold HasL;exact⟨y,ys,rfl,dv s d y h1,hasL_same s ds ys h2⟩
end
theorem Jdg.same{H H':Hp}{R:List (List Bool)}{v:V}{g:Bool}(s:Same H H')(h:Jdg K H R v g):Jdg K H' R v g:=by
 obtain⟨d,h1,h2,h3⟩:=h;refine⟨d,dv s d v h1,h2,?_⟩;rcases h3 with h3|⟨h4,a,zs,gs,e,ha,r⟩
 ·exact .inl h3
 ·exact .inr ⟨h4,a,zs,gs,e,(z7 s).sqT ha,r⟩
def BadE(Cr:Addr)(H:Hp)(n:Nat)(E:XK):Prop:=∀(a dx:Addr)(H':Hp),Same H H'->H' a=some (exO a Cr (some dx) false)->H' dx=some (.xd [("number",.int (n:Int))])->E (.ref a) (some dx) H'
def Rh(K:W.Frag)(Cr:Addr):Sp:=λvs H Q E=>∃(b j:Addr)(us ws:List V)(ts:List Say)(xs:List Str)(gs:List Bool),vs=[.ref b,.ref j]/\SqT K H b us/\SaysAt K H us ts/\Lst ts xs/\SqT K H j ws/\ws.length<=100/\gs.length=ws.length/\(∀ss R,NamesOf ts ss->FitRows ts ss R->∀(i:Nat) v g,ws[i]?=some v->gs[i]?=some g->Jdg K H R v g)/\((∀g∈gs,g=true)->∀H',Same H H'->Q .non H')/\(∀n,gs[n]?=some false->(∀g∈gs.take n,g=true)->BadE Cr H n E)
theorem sc_cr:zj ["sayings","judges","rows","number","row"] ["sayings","judges"] (z0 (top 27)):=⟨rfl,rfl,rfl,by decide +kernel,rfl,by decide +kernel,by decide +kernel⟩
theorem M9{Cr:Addr}(D:Def K mg "check_rows" (top 27) ["sayings","judges"])(lR:zw P w K mg base 44 "fit_rows" ["sayings"] (vw K))(lQ:zw P w K mg base 1 "is_among" ["rows","row"] (Zr K))(iA:rh P w K mg base 1 Cr ["self","number"] (q0 K Cr))(aQ:mg "BadRow"=some (.ref Cr))(xr:XCls K Cr)(cH:mg "enumerate"=none):w8 P w K mg base 45 "check_rows" ["sayings","judges"] (Rh K Cr):=by
 refine D.calleeX sc_cr (λvs H Q E h=>?_) λf cdv A outer s H vs Q E hr h=>?_
 ·obtain⟨b,j,us,ws,ts,xs,gs,rfl,_⟩:=h
  rfl
 have nd:=sc_cr.nd;obtain⟨b,j,us,ws,ts,xs,gs,rfl,hb,hT,hL,hj,hw,hgl,hJ,qy,qn⟩:=h;refine⟨[some (.ref b),some (.ref j),none,none,none],_,rfl,(z5 (zp 2 nd (zx lR hr (by lia) (z9 (z8 0) z6)))
  (zz (Tp rfl (P3 rfl cH (z9 (z8 1) z6)) (R4 3 4 rfl nd) (zz (y8 (wv (wy (zx lQ hr (by lia) (z9 (z8 2) (z9 (z8 4) z6))))) (zz (wg (Vp iA hr (by lia) aQ (z9 (z8 3) z6)) Tv rfl)) zm))))),?_⟩
 walk_at"rp";refine⟨b,us,ts,xs,rfl,hb,hT,hL,λp H1 ss R n1 s1 e1 hR hN hF h32=>?_⟩;walk_at"rp";refine⟨⟨_,(z7 s1).sqT hj⟩,?_⟩;refine al (xs:=ws) (λi σ H2=>(∃x3 x4,σ=[some (.ref b),some (.ref j),some (.ref p),x3,x4])/\Same H1 H2/\∀g∈gs.take i,g=true) ⟨⟨_,_,rfl⟩,Same.refl _,λg hg=>by simp at hg⟩ ?_ ?_ ?_
 ·rintro i σ H2 _ ⟨_,s2,_⟩;exact(z7 (s1.trans s2)).sqT hj
 ·rintro i v σ H2 H3 hv ⟨⟨x3,x4,rfl⟩,s2,dR⟩ s3;have hi:i<ws.length:=(zU.mp hv).1;obtain⟨g,hg⟩:∃g,gs[i]?=some g:=⟨_,zL (by lia)⟩
  have kB:=s2.trans s3;have Cp:=s1.trans kB;obtain⟨d,h1,h2,h3⟩:=(hJ ss _ hN hF i v g hv hg).same Cp;walk_at"rp";refine⟨p,v,R,d,rfl,kB _ _ e1,λq hq=>(z7 kB).sqT (hR q hq),h32,h1,h2,λno H4 s4=>?_,λyes=>?_⟩
  ·have eg:g=false:=by
    rcases h3 with h3|⟨h4,_⟩
    ·exact h3.2
    ·rw[no]at h4;cases h4
   subst eg;have kM:=Cp.trans s4;walk_at"rp";refine⟨by rw[zD];simp,λa ha=>⟨a,.int (i:Int),true,rfl,zy,λdx eN=>⟨rfl,a,Cr,some dx,rfl,zy,xr,?_⟩⟩⟩;have Bl:dx≠a:=λz=>by rw[z,zy]at eN;cases eN
   have Bm:H4 dx=none:=by rw[zg Bl]at eN;exact eN
   have s6:Same H4 (upd (upd (upd (upd H4 a (exO a Cr none true)) dx (.xd [("number",.int (i:Int))])) a (exO a Cr (some dx) true)) a (exO a Cr (some dx) false)):=zu (zu (zu (zu (Same.refl _) ha _) Bm _) ha _) ha _;exact qn i hg dR a dx _ (kM.trans s6) zy (by rw[zg Bl,zg Bl,zy])
  ·rcases h3 with⟨h4,_⟩|⟨_,a,zs,gz,e,ha,hz,hgz,hk,eg⟩
   ·rw[yes]at h4;cases h4
   refine⟨a,zs,gz,e,ha,hz,hgz,hk,λH4 s4=>?_⟩;have kM:=Cp.trans s4;rw[<-eg];cases g with
   |true =>
    walk_at"rp";refine⟨⟨_,_,rfl⟩,kB.trans s4,λg' HQ=>?_⟩;rw[yX,hg]at HQ;rcases zO.mp HQ with z|z
    ·exact dR g' z
    ·exact zW.mp z
   |false =>
    walk_at"rp";refine⟨by rw[zD];simp,λa ha=>⟨a,.int (i:Int),true,rfl,zy,λdx eN=>⟨rfl,a,Cr,some dx,rfl,zy,xr,?_⟩⟩⟩;have Bl:dx≠a:=λz=>by rw[z,zy]at eN;cases eN
    have Bm:H4 dx=none:=by rw[zg Bl]at eN;exact eN
    have s6:Same H4 (upd (upd (upd (upd H4 a (exO a Cr none true)) dx (.xd [("number",.int (i:Int))])) a (exO a Cr (some dx) true)) a (exO a Cr (some dx) false)):=zu (zu (zu (zu (Same.refl _) ha _) Bm _) ha _) ha _;exact qn i hg dR a dx _ (kM.trans s6) zy (by rw[zg Bl,zg Bl,zy])
 ·rintro σ H2 ⟨⟨x3,x4,rfl⟩,s2,dR⟩;walk_at"rp";rw[<-hgl,yV]at dR;exact qy dR H2 (s1.trans s2)
inductive Vd where
 |bounds
 |row (n:Nat)
 |even
 |ok
def vdW:Vd->Str
 | .bounds=>"bounds"
 | .row _=>"row"
 | .even=>"even"
 | .ok=>""
def vdN:Vd->Int
 | .row n=>(n:Int)
 |_=>-1
def JdgsAt(K:W.Frag)(H:Hp)(ts:List Say)(ws:List V)(gs:List Bool):Prop:=∀ss R,NamesOf ts ss->FitRows ts ss R->∀(i:Nat) v g,ws[i]?=some v->gs[i]?=some g->Jdg K H R v g
def Lw(K:W.Frag)(H:Hp)(ts:List Say)(xs:List Str)(ws:List V):Vd->Prop
 | .bounds=>noB ts ws.length
 | .row n=>(Lst ts xs/\1<=ws.length/\ws.length<=21)/\∃gs:List Bool,gs.length=ws.length/\JdgsAt K H ts ws gs/\gs[n]?=some false/\∀g∈gs.take n,g=true
 | .even=>(Lst ts xs/\1<=ws.length/\ws.length<=21)/\JdgsAt K H ts ws (List.replicate ws.length true)/\ws.length % 2=0
 | .ok=>(Lst ts xs/\1<=ws.length/\ws.length<=21)/\JdgsAt K H ts ws (List.replicate ws.length true)/\ws.length % 2=1
def RefBy(K:W.Frag)(H:Hp)(b j:Addr)(vd:Vd):Prop:=∃(us ws:List V)(ts:List Say)(xs:List Str),SqT K H b us/\SaysAt K H us ts/\SqT K H j ws/\k4 ts xs/\(∀t∈ts,t.pieces<=130)/\ws.length<=2000/\Lw K H ts xs ws vd
theorem JdgsAt.same{H H':Hp}{ts:List Say}{ws:List V}{gs:List Bool}(s:Same H H')(h:JdgsAt K H ts ws gs):JdgsAt K H' ts ws gs:=λss R h1 h2 i v g h3 h4=>(h ss R h1 h2 i v g h3 h4).same s
theorem RefBy.same{H H':Hp}{b j:Addr}{vd:Vd}(s:Same H H')(h:RefBy K H b j vd):RefBy K H' b j vd:=by
 obtain⟨us,ws,ts,xs,hb,hT,hj,hL,hp,hw,hD⟩:=h;refine⟨us,ws,ts,xs,(z7 s).sqT hb,hT.mono (z7 s),(z7 s).sqT hj,hL,hp,hw,?_⟩;cases vd with
 |bounds=>exact hD
 |row n =>
  obtain⟨h1,gs,h2,h3,h4⟩:=hD;exact⟨h1,gs,h2,h3.same s,h4⟩
 |even=>exact⟨hD.1,hD.2.1.same s,hD.2.2⟩
 |ok=>exact⟨hD.1,hD.2.1.same s,hD.2.2⟩
theorem bb{ts:List Say}{xs:List Str}{n:Nat}(h:Lst ts xs/\1<=n/\n<=21):okB ts n:=⟨⟨h.1.lo,h.1.hi⟩,h.2,h.1.pc,λss hN=>(h.1.names hN).1⟩
theorem BadE.same{C:Addr}{H H':Hp}{n:Nat}{E:XK}(s:Same H H')(h:BadE C H n E):BadE C H' n E:=λa dx H2 s2 e1 e2=>h a dx H2 (s.trans s2) e1 e2
def Lx(K:W.Frag)(Co Cr Ce b j:Addr)(H:Hp)(Q:VK)(E:XK):Vd->Prop
 | .bounds=>Sb Co H E
 | .row n=>BadE Cr H n E
 | .even=>Sb Ce H E
 | .ok=>∀(p:Addr)(H':Hp),Same H H'->SqT K H' p [.ref b,.ref j]->Q (.ref p) H'
def t5(K:W.Frag)(Co Cr Ce:Addr):Sp:=λvs H Q E=>∃(b j:Addr)(vd:Vd),vs=[.ref b,.ref j]/\RefBy K H b j vd/\Lx K Co Cr Ce b j H Q E vd
theorem sc_seated:zj ["sayings","judges"] ["sayings","judges"] (z0 (top 28)):=⟨rfl,rfl,rfl,by decide +kernel,rfl,by decide +kernel,by decide +kernel⟩
theorem Ya{Co Cr Ce:Addr}(D:Def K mg "seated" (top 28) ["sayings","judges"])(hX:w8 P w K mg base 131 "check_bounds" ["sayings","judges"] (Ol K Co))(jO:w8 P w K mg base 45 "check_rows" ["sayings","judges"] (Rh K Cr))(fX:jg K Ce)(dZ:mg "Even"=some (.ref Ce))(aH:mg "len"=none):w8 P w K mg base 132 "seated" ["sayings","judges"] (t5 K Co Cr Ce):=by
 refine D.calleeX sc_seated (λvs H Q E h=>?_) λf cdv A outer s H vs Q E hr h=>?_
 ·obtain⟨b,j,vd,rfl,_⟩:=h
  rfl
 have nd:=sc_seated.nd;obtain⟨b,j,vd,rfl,⟨us,ws,ts,xs,hb,hT,hj,hL,hp,hw,hD⟩,q⟩:=h;refine⟨[some (.ref b),some (.ref j)],_,rfl,(z5 (wm (su hX Zj hr (by lia) (z9 (z8 0) (z9 (z8 1) z6))))
  (z5 (wm (su jO Zj hr (by lia) (z9 (z8 0) (z9 (z8 1) z6))))
  (z5 (y8 (zb (xh hr.units) (zv vt (zt xz rfl aH yk (z9 (z8 1) z6)) z4) z4 (zf _)) (zz (wg (sx fX dZ (z9 zo z6)) tj rfl)) zm)
  (zz (zr (yy (z9 (z8 0) (z9 (z8 1) z6)))))))),?_⟩
 walk_at"rp"
 by_cases hv:∃z:Lw K H ts xs ws .bounds,vd = .bounds
 ·obtain⟨z,rfl⟩:=hv;exact⟨b,j,us,ws,ts,xs,rfl,hb,hT,hj,hL,hp,hw,.inr ⟨z,q⟩⟩
 have hok:okB ts ws.length:=by
  cases vd with
  |bounds=>exact absurd ⟨hD,rfl⟩ hv
  |row n=>exact bb hD.1
  |even=>exact bb hD.1
  |ok=>exact bb hD.1
 refine⟨b,j,us,ws,ts,xs,rfl,hb,hT,hj,hL,hp,hw,.inl ⟨hok,λH1 s1=>?_⟩⟩;have hj1:=(z7 s1).sqT hj;walk_at"rp";have go:∀(Q2:VK)(gs:List Bool),(Lst ts xs/\1<=ws.length/\ws.length<=21)->gs.length=ws.length->JdgsAt K H ts ws gs->(((∀g∈gs,g=true)->∀H',Same H1 H'->Q2 .non H')/\∀n,gs[n]?=some false->(∀g∈gs.take n,g=true)->BadE Cr H1 n E)->Rh K Cr [V.ref b,V.ref j] H1 Q2 E:=λQ2 gs hL hg hJ k=>⟨b,j,us,ws,ts,xs,gs,rfl,(z7 s1).sqT hb,hT.mono (z7 s1),hL.1,hj1,by lia,hg,hJ.same s1,k.1,k.2⟩
 cases vd with
 |bounds=>exact absurd ⟨hD,rfl⟩ hv
 |row n =>
  obtain⟨h0,gs,hg,hJ,hn,ht⟩:=hD;refine go _ gs h0 hg hJ ⟨λall=>?_,λm hm fP=>?_⟩
  ·have:=all false (zM hn);cases this
  ·have e:m=n:=by
    rcases uV m n with z|z|z
    ·have:=ht false (zM (by rw[wQ z];exact hm));cases this
    ·exact z
    ·have:=fP false (zM (by rw[wQ z];exact hn));cases this
   subst e;exact BadE.same s1 q
 |even =>
  obtain⟨h0,hJ,h2⟩:=hD;refine go _ _ h0 List.length_replicate hJ ⟨λ_ H2 s2=>?_,λm hm _=>?_⟩
  ·walk_at"rp";refine⟨_,.inr ((z7 s2).sqT hj1),by decide,?_⟩;rw[show decide (((ws.length:Nat):Int) % 2=0)=true from yU (by lia)];walk_at"rp";refine⟨by rw[zD];simp,λa na=>⟨a,Ce,none,rfl,zy,fX.x,?_⟩⟩;have s02:=s1.trans s2;exact q a _ (zu (zu s02 (yx s02 na) _) (yx s02 na) _) zy
  ·have:=uC (zM hm);cases this
 |ok =>
  obtain⟨h0,hJ,h2⟩:=hD;refine go _ _ h0 List.length_replicate hJ ⟨λ_ H2 s2=>?_,λm hm _=>?_⟩
  ·walk_at"rp";refine⟨_,.inr ((z7 s2).sqT hj1),by decide,?_⟩;rw[show decide (((ws.length:Nat):Int) % 2=0)=false from yD (by lia)];walk_at"rp";exact⟨zn (by simp),λp H3 n3 s3 e3=>q p H3 (s1.trans (s2.trans s3)) (SqT.of e3)⟩
  ·have:=uC (zM hm);cases this
structure W5(K:W.Frag)(C Cj Co Cr Ce Cn Cb:Addr)(bo br be:Bool):Prop where
 x:XCls K C
 m:W.mroIn K C (.ref Cj)=some true
 o:W.kitOne K (.ref C) (.ref Co)=some bo
 r:W.kitOne K (.ref C) (.ref Cr)=some br
 e:W.kitOne K (.ref C) (.ref Ce)=some be
 n:W.kitOne K (.ref C) (.ref Cn)=some false
 b:W.kitOne K (.ref C) (.ref Cb)=some false
 v:W.kitOne K (.ref C) (.type "ValueError")=some true
def Wm(K:W.Frag):Sp:=λvs H Q _=>∃(b j:Addr)(vd:Vd),vs=[.ref b,.ref j]/\RefBy K H b j vd/\vd≠.ok/\∀(p:Addr)(H':Hp),Same H H'->H' p=some (.lst [.str (vdW vd),.int (vdN vd)])->Q (.ref p) H'
theorem sc_kind:zj ["_law_sayings","_law_judges","_law_found","error","_law_kinds","_law_others"] ["_law_sayings","_law_judges"] (z0 (top 45)):=⟨rfl,rfl,rfl,by decide +kernel,rfl,by decide +kernel,by decide +kernel⟩
theorem um{H H':Hp}{dx:Option Addr}(s:Same H H')(h:dx=none\/∃d fs,dx=some d/\H d=some (.xd fs)):dx=none\/∃d fs,dx=some d/\H' d=some (.xd fs) :=
 h.imp id λ⟨d,fs,e1,e2⟩=>⟨d,fs,e1,s _ _ e2⟩
theorem S6{Cj Co Cr Ce Cn Cb:Addr}(D:Def K mg "_law_kind" (top 45) ["_law_sayings","_law_judges"])(aW:w8 P w K mg base 132 "seated" ["sayings","judges"] (t5 K Co Cr Ce))(cG:XCls K Cj)(ko:W5 K Co Cj Co Cr Ce Cn Cb true false false)(kr:W5 K Cr Cj Co Cr Ce Cn Cb false true false)(ke:W5 K Ce Cj Co Cr Ce Cn Cb false false true)(na:lj K Cr "number")
  (cA:mg "JudgeError"=some (.ref Cj)) (aL:mg "OutOfBounds"=some (.ref Co)) (aQ:mg "BadRow"=some (.ref Cr)) (dZ:mg "Even"=some (.ref Ce)) (fN:mg "NoText"=some (.ref Cn)) (fO:mg "Barred"=some (.ref Cb)) (bY:mg "ValueError"=none) (aA:mg "isinstance"=none) (kR:mg "sum"=none) (bN:mg "int"=none):zw P w K mg base 133 "_law_kind" ["_law_sayings","_law_judges"] (Wm K):=by
 refine D.callee sc_kind (λvs H Q E h=>?_) λf cdv A outer s H vs Q E hr h=>?_
 ·obtain⟨b,j,vd,rfl,_⟩:=h
  rfl
 have nd:=sc_kind.nd;obtain⟨b,j,vd,rfl,hR,hok,q⟩:=h;refine⟨[some (.ref b),some (.ref j),none,none,none,none],_,rfl,(z5 (zp 2 nd (xp (z9 xq (z9 (wz yb z4) z6))))
  (z5 (Tq (i:=3) aW hr (by lia) (z9 (z8 0) (z9 (z8 1) z6)) cA cG (λ_=>(z5 (zp 4 nd (xp (z9 (zt mh rfl aA zi (z9 (z8 3) (z9 (qr aL) z6))) (z9 (zt mh rfl aA zi (z9 (z8 3) (z9 (qr aQ) z6))) (z9 (zt mh rfl aA zi (z9 (z8 3) (z9 (qr dZ) z6))) z6)))))
  (z5 (zp 5 nd (Sy (zt mh rfl aA zi (z9 (z8 3) (z9 (qr fN) z6))) (Sy (zt mh rfl aA zi (z9 (z8 3) (z9 (qr fO) z6))) (xo (j5 (zt mh rfl aA zi (z9 (z8 3) (z9 (x9 (v:=.ty "ValueError") rfl bY k6 rfl) z6))))))))
  (z5 (y8 (PW.pt (mw (zb (xh hr.units) (zt (P6 rfl) rfl kR Pd (z9 (Vm (ixs:=[]) (y9 (own:=["_law_kind_here"]) (N:=[]) rfl rfl rfl rfl rfl rfl rfl (by decide +kernel) rfl rfl rfl) rfl (V7 (z8 4)) (λ_ _ _ _=>yp) (λ_ _ _ _=>(yt Zd rfl bN gp (z9 (z8 0) z6))) rfl) z6)) z4 (zf _)) (tf (wv (wy (z8 5)))))) (zz (zp 2 nd (xp (z9 (yh (xp (z9 zo (z9 zo (z9 zo z6)))) (d7 F.slot_list_index F.type_list_index P4 (z8 4) (z9 xq z6)) (λ_ _=>rfl)) (z9 (wz yb z4) z6))))) zm)
  (zz (y8 (wy (zt mh rfl aA zi (z9 (z8 3) (z9 (qr aQ) z6)))) (zz (R0 hr.units (z8 2) z4 (Zl (z8 3) rfl))) zm)))))) rfl nd)
  (zz (zr (z8 2))))),?_⟩
 walk_at"rp";refine⟨1,rfl,zn (by simp),λl H1 n1 s1 e1=>?_⟩;walk_at"rp";refine⟨b,j,vd,rfl,hR.same s1,?_⟩;cases vd with
 |ok=>exact absurd rfl hok
 |bounds =>
  intro a H2 s2 ea;have dp:(none:Option Addr)=none\/∃d fs,(none:Option Addr)=some d/\H2 d=some (.xd fs):=.inl rfl;refine⟨a,Co,rfl,ea,ko.x,ko.m,?_⟩;walk_at"rp";refine⟨a,Co,none,false,_,_,true,rfl,ea,dp,ko.x,rfl,ko.o,a,Co,none,false,_,_,false,rfl,ea,dp,ko.x,rfl,ko.r,a,Co,none,false,_,_,false,rfl,ea,dp,ko.x,rfl,ko.e,?_⟩;walk_at"rp";refine⟨zn (by simp),λl2 H3 n3 s3 e3=>?_⟩;have iK:=s3 _ _ ea;have mM:=um s3 dp;walk_at"rp";refine⟨a,Co,none,false,_,_,false,rfl,iK,mM,ko.x,rfl,ko.n,?_⟩;walk_at"rp";refine⟨a,Co,none,false,_,_,false,rfl,iK,mM,ko.x,rfl,ko.b,?_⟩;walk_at"rp";refine⟨a,Co,none,false,_,_,true,rfl,iK,mM,ko.x,rfl,ko.v,?_⟩;walk_at"rp";refine⟨l2,rfl,⟨_,SqL.of e3⟩,λC s₀ H₀ ex=>?_⟩;refine qi (xs:=[V.bl true,V.bl false,V.bl false]) (λD i ys H4=>ys=(([true,false,false].take i).map λk=>V.int (if k=true then 1 else 0))/\i<=3/\H4 D=some (.lst ys)/\Same H3 H4/\H3 D=none) (zn (by simp)) ?_ ?_ ?_ ?_
  ·intro D H4 n4 s4 e4;exact⟨rfl,yO _,e4,s4,n4⟩
  ·rintro D i ys H4 ⟨rfl,hi,e4,s4,_⟩;exact⟨SqL.of (s4 _ _ e3),e4,by simp;lia,_,_,_,s4 _ _ iK⟩
  ·rintro D i v ys H4 hv ⟨rfl,hi,e4,s4,n4⟩;have oW:i<3:=(zU.mp hv).1;obtain⟨k,hk,ek⟩:∃k,[true,false,false][i]?=some k/\v = .bl k:=by
    match i,oW,hv with
    |0,_,hv=>cases hv;exact⟨_,rfl,rfl⟩
    |1,_,hv=>cases hv;exact⟨_,rfl,rfl⟩
    |2,_,hv=>cases hv;exact⟨_,rfl,rfl⟩
   subst ek;walk_at"rp";refine⟨e4,CN.mk oW ⟨?_,oW,zy,zu s4 n4 _,n4⟩⟩;rw[yX,hk,zP]
   rfl
  rintro D4 ys4 H4 ⟨rfl,_,e4,s4,n4⟩;walk_at"rp";refine⟨D4,[if true=true then 1 else 0,if false=true then 1 else 0,if false=true then 1 else 0],Co,none,false,rfl,SqL.of e4,s4 _ _ iK,?_⟩;walk_at"rp";refine xa (λ_=>?_) λc=>absurd rfl c;walk_at"rp";refine⟨zn (by simp),λl5 H5 n5 s5 e5=>?_⟩;walk_at"rp";have nI:=s4.trans s5;refine⟨⟨_,_,rfl,nI _ _ e3⟩,l2,[true,false,false],true,rfl,rfl,SqL.of (nI _ _ e3),by simp,by decide,?_⟩;walk_at"rp";refine⟨_,_,.inl (SqL.of e5),rfl,?_⟩;walk_at"rp";refine⟨1,rfl,zn (by simp),λl6 H6 n6 s6 e6=>?_⟩;walk_at"rp";have mR:=nI.trans s6;refine⟨a,Co,none,false,_,_,false,rfl,mR _ _ iK,um mR mM,ko.x,rfl,ko.r,?_⟩;walk_at"rp";exact q l6 H6 (s1.trans (s2.trans (s3.trans mR))) e6
 |row n =>
  intro a d H2 s2 ea ed;have dp:some d=none\/∃d' fs,some d=some d'/\H2 d'=some (.xd fs):=.inr ⟨d,_,rfl,ed⟩;refine⟨a,Cr,rfl,ea,kr.x,kr.m,?_⟩;walk_at"rp";refine⟨a,Cr,(some d),false,_,_,false,rfl,ea,dp,kr.x,rfl,kr.o,a,Cr,(some d),false,_,_,true,rfl,ea,dp,kr.x,rfl,kr.r,a,Cr,(some d),false,_,_,false,rfl,ea,dp,kr.x,rfl,kr.e,?_⟩;walk_at"rp";refine⟨zn (by simp),λl2 H3 n3 s3 e3=>?_⟩;have iK:=s3 _ _ ea;have mM:=um s3 dp;walk_at"rp";refine⟨a,Cr,(some d),false,_,_,false,rfl,iK,mM,kr.x,rfl,kr.n,?_⟩;walk_at"rp";refine⟨a,Cr,(some d),false,_,_,false,rfl,iK,mM,kr.x,rfl,kr.b,?_⟩;walk_at"rp";refine⟨a,Cr,(some d),false,_,_,true,rfl,iK,mM,kr.x,rfl,kr.v,?_⟩;walk_at"rp";refine⟨l2,rfl,⟨_,SqL.of e3⟩,λC s₀ H₀ ex=>?_⟩;refine qi (xs:=[V.bl false,V.bl true,V.bl false]) (λD i ys H4=>ys=(([false,true,false].take i).map λk=>V.int (if k=true then 1 else 0))/\i<=3/\H4 D=some (.lst ys)/\Same H3 H4/\H3 D=none) (zn (by simp)) ?_ ?_ ?_ ?_
  ·intro D H4 n4 s4 e4;exact⟨rfl,yO _,e4,s4,n4⟩
  ·rintro D i ys H4 ⟨rfl,hi,e4,s4,_⟩;exact⟨SqL.of (s4 _ _ e3),e4,by simp;lia,_,_,_,s4 _ _ iK⟩
  ·rintro D i v ys H4 hv ⟨rfl,hi,e4,s4,n4⟩;have oW:i<3:=(zU.mp hv).1;obtain⟨k,hk,ek⟩:∃k,[false,true,false][i]?=some k/\v = .bl k:=by
    match i,oW,hv with
    |0,_,hv=>cases hv;exact⟨_,rfl,rfl⟩
    |1,_,hv=>cases hv;exact⟨_,rfl,rfl⟩
    |2,_,hv=>cases hv;exact⟨_,rfl,rfl⟩
   subst ek;walk_at"rp";refine⟨e4,CN.mk oW ⟨?_,oW,zy,zu s4 n4 _,n4⟩⟩;rw[yX,hk,zP]
   rfl
  rintro D4 ys4 H4 ⟨rfl,_,e4,s4,n4⟩;walk_at"rp";refine⟨D4,[if false=true then 1 else 0,if true=true then 1 else 0,if false=true then 1 else 0],Cr,(some d),false,rfl,SqL.of e4,s4 _ _ iK,?_⟩;walk_at"rp";refine xa (λ_=>?_) λc=>absurd rfl c;walk_at"rp";refine⟨zn (by simp),λl5 H5 n5 s5 e5=>?_⟩;walk_at"rp";have nI:=s4.trans s5;refine⟨⟨_,_,rfl,nI _ _ e3⟩,l2,[false,true,false],true,rfl,rfl,SqL.of (nI _ _ e3),by simp,by decide,?_⟩;walk_at"rp";refine⟨_,_,.inl (SqL.of e5),rfl,?_⟩;walk_at"rp";refine⟨1,rfl,zn (by simp),λl6 H6 n6 s6 e6=>?_⟩;walk_at"rp";have mR:=nI.trans s6;refine⟨a,Cr,(some d),false,_,_,true,rfl,mR _ _ iK,um mR mM,kr.x,rfl,kr.r,?_⟩;walk_at"rp";refine⟨a,Cr,d,false,_,_,rfl,mR _ _ iK,mR _ _ (s3 _ _ ed),kr.x,na,uW,?_⟩;walk_at"rp";refine .inr ⟨_,_,1,e6,rfl,rfl,by decide,?_⟩;have oJ:=s1.trans (s2.trans (s3.trans mR));have n06:H l6=none:=yx (s1.trans (s2.trans (s3.trans nI))) n6;exact q l6 _ (zu oJ n06 _) zy
 |even =>
  intro a H2 s2 ea;have dp:(none:Option Addr)=none\/∃d fs,(none:Option Addr)=some d/\H2 d=some (.xd fs):=.inl rfl;refine⟨a,Ce,rfl,ea,ke.x,ke.m,?_⟩;walk_at"rp";refine⟨a,Ce,none,false,_,_,false,rfl,ea,dp,ke.x,rfl,ke.o,a,Ce,none,false,_,_,false,rfl,ea,dp,ke.x,rfl,ke.r,a,Ce,none,false,_,_,true,rfl,ea,dp,ke.x,rfl,ke.e,?_⟩;walk_at"rp";refine⟨zn (by simp),λl2 H3 n3 s3 e3=>?_⟩;have iK:=s3 _ _ ea;have mM:=um s3 dp;walk_at"rp";refine⟨a,Ce,none,false,_,_,false,rfl,iK,mM,ke.x,rfl,ke.n,?_⟩;walk_at"rp";refine⟨a,Ce,none,false,_,_,false,rfl,iK,mM,ke.x,rfl,ke.b,?_⟩;walk_at"rp";refine⟨a,Ce,none,false,_,_,true,rfl,iK,mM,ke.x,rfl,ke.v,?_⟩;walk_at"rp";refine⟨l2,rfl,⟨_,SqL.of e3⟩,λC s₀ H₀ ex=>?_⟩;refine qi (xs:=[V.bl false,V.bl false,V.bl true]) (λD i ys H4=>ys=(([false,false,true].take i).map λk=>V.int (if k=true then 1 else 0))/\i<=3/\H4 D=some (.lst ys)/\Same H3 H4/\H3 D=none) (zn (by simp)) ?_ ?_ ?_ ?_
  ·intro D H4 n4 s4 e4;exact⟨rfl,yO _,e4,s4,n4⟩
  ·rintro D i ys H4 ⟨rfl,hi,e4,s4,_⟩;exact⟨SqL.of (s4 _ _ e3),e4,by simp;lia,_,_,_,s4 _ _ iK⟩
  ·rintro D i v ys H4 hv ⟨rfl,hi,e4,s4,n4⟩;have oW:i<3:=(zU.mp hv).1;obtain⟨k,hk,ek⟩:∃k,[false,false,true][i]?=some k/\v = .bl k:=by
    match i,oW,hv with
    |0,_,hv=>cases hv;exact⟨_,rfl,rfl⟩
    |1,_,hv=>cases hv;exact⟨_,rfl,rfl⟩
    |2,_,hv=>cases hv;exact⟨_,rfl,rfl⟩
   subst ek;walk_at"rp";refine⟨e4,CN.mk oW ⟨?_,oW,zy,zu s4 n4 _,n4⟩⟩;rw[yX,hk,zP]
   rfl
  rintro D4 ys4 H4 ⟨rfl,_,e4,s4,n4⟩;walk_at"rp";refine⟨D4,[if false=true then 1 else 0,if false=true then 1 else 0,if true=true then 1 else 0],Ce,none,false,rfl,SqL.of e4,s4 _ _ iK,?_⟩;walk_at"rp";refine xa (λ_=>?_) λc=>absurd rfl c;walk_at"rp";refine⟨zn (by simp),λl5 H5 n5 s5 e5=>?_⟩;walk_at"rp";have nI:=s4.trans s5;refine⟨⟨_,_,rfl,nI _ _ e3⟩,l2,[false,false,true],true,rfl,rfl,SqL.of (nI _ _ e3),by simp,by decide,?_⟩;walk_at"rp";refine⟨_,_,.inl (SqL.of e5),rfl,?_⟩;walk_at"rp";refine⟨1,rfl,zn (by simp),λl6 H6 n6 s6 e6=>?_⟩;walk_at"rp";have mR:=nI.trans s6;refine⟨a,Ce,none,false,_,_,false,rfl,mR _ _ iK,um mR mM,ke.x,rfl,ke.r,?_⟩;walk_at"rp";exact q l6 H6 (s1.trans (s2.trans (s3.trans mR))) e6
def vx(K:W.Frag):Sp:=λvs H Q _=>∃(b j:Addr)(vd:Vd),vs=[.ref b,.ref j,.str (vdW vd),.int (vdN vd)]/\RefBy K H b j vd/\vd≠.ok/\∀H',Same H H'->Q (.bl true) H'
theorem sc_refused:zj ["_law_sayings","_law_judges","_law_kind_here","_law_number","_law_found"] ["_law_sayings","_law_judges","_law_kind_here","_law_number"] (z0 (top 46)):=⟨rfl,rfl,rfl,by decide +kernel,rfl,by decide +kernel,by decide +kernel⟩
theorem Ox(vd:Vd):PyData.strOk (vdW vd)=true:=by
 cases vd with
 |row n=>exact(show PyData.strOk (Str.ofString "row")=true from by decide +kernel)
 |_=>decide +kernel
theorem Uu{H:Hp}{p:Addr}{vd:Vd}(h:H p=some (.lst [.str (vdW vd),.int (vdN vd)])):Has K H (.ref p) (.list [.str (vdW vd),.int (vdN vd)]):=by
 unfold Has;refine⟨p,_,rfl,SqL.of h,?_⟩;unfold HasL;refine⟨_,_,rfl,by unfold Has;rfl,?_⟩;unfold HasL;refine⟨_,_,rfl,by unfold Has;rfl,?_⟩;unfold HasL
 rfl
theorem qz(vd:Vd):SeqAt.shaped (.list [.str (vdW vd),.int (vdN vd)])=true:=by
 unfold SeqAt.shaped;rw[PyData.canLay0,PyData.canLayAll0,PyData.canLay0,Ox,PyData.canLayAll0,PyData.canLay0,PyData.canLayAll0];simp[PyData.depth,PyData.depthAll]
theorem bj(D:Def K mg "_law_refused" (top 46) ["_law_sayings","_law_judges","_law_kind_here","_law_number"])(lO:zw P w K mg base 133 "_law_kind" ["_law_sayings","_law_judges"] (Wm K))(aA:mg "isinstance"=none)(aX:mg "bool"=none):zw P w K mg base 134 "_law_refused" ["_law_sayings","_law_judges","_law_kind_here","_law_number"] (vx K):=by
 refine D.callee sc_refused (λvs H Q E h=>?_) λf cdv A outer s H vs Q E hr h=>?_
 ·obtain⟨b,j,vd,rfl,_⟩:=h
  rfl
 have nd:=sc_refused.nd;obtain⟨b,j,vd,rfl,hR,hok,q⟩:=h;refine⟨[some (.ref b),some (.ref j),some (.str (vdW vd)),some (.int (vdN vd)),none],_,rfl,(z5 (zp 4 nd (zx lO hr (by lia) (z9 (z8 0) (z9 (z8 1) z6))))
  (zz (zr (v7 (xm (xh hr.units) (z8 4) (xp (z9 (z8 2) (z9 (z8 3) z6))) (zf _)) (xo (j5 (zt vq rfl aA zi (z9 (yh (z8 4) z4 (λ_ _=>rfl)) (z9 (x9 (v:=.ty "bool") rfl aX rl rfl) z6))))))))),?_⟩
 walk_at"rp";refine⟨b,j,vd,rfl,hR,hok,λp H1 s1 e1=>?_⟩;walk_at"rp";refine⟨zn (by simp),λp2 H2 n2 s2 e2=>?_⟩;walk_at"rp";refine⟨_,_,Uu (s2 _ _ e1),Uu e2,qz vd,qz vd,?_⟩;rw[lx (qz vd)];walk_at"rp";refine⟨_,_,.inl (SqL.of (s2 _ _ e1)),rfl,?_⟩;walk_at"rp";refine⟨_,false,.of (.int _),j3,?_⟩;walk_at"rp";exact q H2 (s1.trans s2)
def NA(x:Str):Prop:=(97:Nat)∉x.cps.toList
theorem O4{x y:Str}(h1:NA x)(h2:NA y):NA (x++y):=λh=>by
 rw[Str.cps_append,Array.toList_append]at h;rcases zO.mp h with z|z
 ·exact h1 z
 ·exact h2 z
theorem tu{x:Str}{j:Int}(h0:0<=j)(h2:j<=x.length):(Txt.slice x none (some j)).length=j.toNat:=by
 rw[tT.mp (slice_closes_toL h0 h2)];have hx:x.cps.toList.length=x.length:=by simp[Str.length]
 show(List.take _ _).toArray.size=_;rw[zQ,yE,xH,hx];lia
def mid(A B:Str)(c:Nat):Str:=A++(⟨#[c]⟩:Str)++B
theorem Sz{A B:Str}{c d:Nat}(h:mid A B c=mid A B d):c=d:=by
 have h:=xF (λz:Str=>z.cps.toList) h;simp only[mid,Str.cps_append,Array.toList_append]at h;have h:=List.append_cancel_left (List.append_cancel_right h);simpa using h
theorem ut{α β:Type}{f:α->β}(hf:∀a b,f a=f b->a=b){l:List α}(h:l.Nodup):(l.map f).Nodup:=by
 rw[List.Nodup,wI];exact h.imp λhn e=>hn (hf _ _ e)
theorem k9{xs:List Str}{n:Nat}(h:xs.map (λx=>x.length)=(List.range n).map (·+1)):xs.Nodup:=by
 have h1:((List.range n).map (·+1)).Nodup:=ut (λa b e=>by lia) List.nodup_range;rw[<-h,List.Nodup,wI]at h1;exact h1.imp λhn e=>hn (by rw[e])
theorem U9:∀a<21,∀b<21,(Str.ofString "bcdfghjklmnpqrstvwxyz").cps.toList[a]?=(Str.ofString "bcdfghjklmnpqrstvwxyz").cps.toList[b]?->a=b:=by decide +kernel
theorem at_any'{α:Type}{xs:List α}{k:Int}(h0:0<=k)(h:k<(xs.length:Int)):∃v,xs[k.toNat]?=some v/\v∈xs/\atI xs k=some v:=by
 have hk:k.toNat<xs.length:=by lia
 have ek:k=((k.toNat:Nat):Int):=by lia
 have e:atI xs ((k.toNat:Nat):Int)=some xs[k.toNat]:=w9 (zL hk);rw[<-ek]at e;exact⟨_,zL hk,wE hk,e⟩
theorem fk{cs:List Nat}{f:Int}(hl:cs.length<=5)(h:∀(j:Nat) c,cs[j]?=some c->(Str.ofString "bcdfghjklmnpqrstvwxyz").cps.toList[((f+4*(0+(j:Int))) % 21).toNat]?=some c):cs.Nodup:=by
 rw[List.Nodup,yC];intro i j hi hj jC e;have h1:=h i _ (zL hi);have h2:=h j _ (zL hj);rw[e]at h1;have:=U9 _ (by omega (config:={})) _ (by omega (config:={})) (h1.trans h2.symm);omega (config:={})
def tOk(x:Str):Prop:=PyData.strOk x=true/\NA x
theorem t8{x y:Str}(h1:tOk x)(h2:tOk y):tOk (x++y):=⟨T5 h1.1 h2.1,O4 h1.2 h2.2⟩
theorem jd{x:Str}{c:Nat}(h1:tOk x)(h:c∈x.cps.toList):tOk ⟨#[c]⟩:=⟨T6 h1.1 h,λz=>h1.2 (by rw[show 97=c by simpa using z];exact h)⟩
theorem vz{x:Str}(h1:tOk x)(l u:Option Int):tOk (Txt.slice x l u):=⟨Yj h1.1 l u,λhc=>by
 unfold Txt.slice at hc;split at hc
 ·exact h1.2 hc
 ·have qV:97∈List.filterMap (λi=>x.cps[i]?) (Builtin.Str.strSliceIndices l u 1 x.length):=by simpa using hc
  obtain⟨i,_,hi⟩:=tX.mp qV;exact h1.2 (by have:=Array.mem_of_getElem? hi;simpa using this)⟩
theorem v8(x y:Str):(x++y).length=x.length+y.length:=by
 show(x.cps++y.cps).size=_;exact Array.size_append
theorem l9:(Str.ofString "bcdfghjklmnpqrstvwxyz").cps.toList.length=21:=by decide +kernel
theorem lets_len':(Str.ofString "bcdfghjklmnpqrstvwxyz").length=21:=by decide +kernel
theorem t7:(Str.ofString "qzkxw").length=5:=by decide +kernel
theorem ig:tOk (Str.ofString "bcdfghjklmnpqrstvwxyz"):=⟨by decide +kernel,by unfold NA;decide +kernel⟩
theorem Ua:tOk (Str.ofString "qzkxw"):=⟨by decide +kernel,by unfold NA;decide +kernel⟩
theorem S0:tOk (Str.ofString ""):=⟨by decide +kernel,by unfold NA;decide +kernel⟩
def o5(K:W.Frag):Sp:=λvs H Q _=>∃(a:Addr)(ns:List Int)(k m:Int),vs=[.ref a,.int k,.int m]/\SqL K H a (ns.map V.int)/\ns.length<=5000/\0<=k/\k<=1000/\1<=m/\m<=5 /\
 ∀(p:Addr)(H':Hp)(xs:List Str),H p=none->Same H H'->H' p=some (.lst (xs.map V.str))->(xs.length:Int)=m->(∀x∈xs,Nm x)->(∀x∈xs,NA x)->xs.Nodup->Q (.ref p) H'
theorem sc_names:zj ["_law_script","_law_k","_law_many","_law_letters","_law_word","_law_j","_law_first","_law_at"] ["_law_script","_law_k","_law_many"] (z0 (top 33)):=⟨rfl,rfl,rfl,by decide +kernel,rfl,by decide +kernel,by decide +kernel⟩
theorem Vv(D:Def K mg "_law_names" (top 33) ["_law_script","_law_k","_law_many"])(aC:zw P w K mg base 2 "_law_pick" ["_law_script","_law_k","_law_many"] (vm K))(aH:mg "len"=none)(aG:mg "range"=none):zw P w K mg base 3 "_law_names" ["_law_script","_law_k","_law_many"] (o5 K):=by
 refine D.callee sc_names (λvs H Q E h=>?_) λf cdv A outer s H vs Q E hr h=>?_
 ·obtain⟨a,ns,k,m,rfl,_⟩:=h
  rfl
 have nd:=sc_names.nd;obtain⟨a,ns,k,m,rfl,hS,bL,h0,hk,hm,hm5,q⟩:=h;refine⟨[some (.ref a),some (.int k),some (.int m),none,none,none,none,none],_,rfl,(z5 (zp 3 nd zo)
  (z5 (zp 4 nd zo)
  (z5 (wx yJ rfl (ye rfl aG (z9 (zx aC hr (by lia) (z9 (z8 0) (z9 (z8 1) (z9 z4 z6)))) z6)) (v6 5 nd) (zz (zp 4 nd (zv zh (z8 4) (yh (z8 3) (zx aC hr (by lia) (z9 (z8 0) (z9 (zv zh (zv zh (z8 1) (zv vv z4 (z8 5))) z4) (z9 z4 z6)))) (λ_ _=>rfl))))))
  (z5 (zp 6 nd (zx aC hr (by lia) (z9 (z8 0) (z9 (zv zh (z8 1) z4) (z9 z4 z6)))))
  (z5 (y8 (zb (xh hr.units) (zx aC hr (by lia) (z9 (z8 0) (z9 (zv zh (z8 1) z4) (z9 z4 z6)))) z4 (zf _)) (z5 (zp 4 nd (zc (zv zh (zv zh (z8 4) (yh (z8 3) (z8 6) (λ_ _=>rfl))) zo) zd (yz z4)))
  (zz (zr (yg (ixs:=[4]) (y9 (own:=["_law_j"]) (N:=["_law_word"]) rfl rfl rfl rfl rfl rfl rfl (by decide +kernel) rfl rfl rfl) rfl (ye rfl aG (z9 (z8 2) z6)) (λ_ _ _ _=>yp) (λ_ _ _ _=>(zc (z8 1) zd (yz (zv zh (z8 0) z4)))) rfl)))) zm)
  (z5 (zp 7 nd (zx aC hr (by lia) (z9 (z8 0) (z9 (zv zh (z8 1) z4) (z9 (zv zh (zt xz rfl aH yk (z9 (z8 4) z6)) z4) z6)))))
  (zz (zr (yg (ixs:=[4,7,3,6]) (y9 (own:=["_law_j"]) (N:=["_law_word","_law_at","_law_letters","_law_first"]) rfl rfl rfl rfl rfl rfl rfl (by decide +kernel) rfl rfl rfl) rfl (ye rfl aG (z9 (z8 2) z6)) (λ_ _ _ _=>yp) (λ_ _ _ _=>(zv zh (zv zh (zc (z8 1) zd (yz (z8 2))) (yh (z8 3) (zv vt (zv zh (z8 4) (zv vv z4 (z8 0))) z4) (λ_ _=>rfl))) (zc (z8 1) (yz (z8 2)) zd))) rfl))))))))),?_⟩
 walk_at"rp";refine⟨a,ns,k,6,rfl,hS,bL,h0,by lia,by decide,λr r0 r6=>?_⟩;walk_at"rp";refine⟨⟨by lia,by lia⟩,?_⟩;refine wt (λi σ H'=>∃(word:Str)(jv:Option V),σ=[some (.ref a),some (.int k),some (.int m),some (.str "bcdfghjklmnpqrstvwxyz"),some (.str word),jv,none,none]/\H'=H/\word.length=i/\i<=5/\tOk word) ⟨_,none,rfl,rfl,rfl,by decide,S0⟩ ?_ ?_
 ·rintro i σ H' hi ⟨word,jv,rfl,rfl,hw,hi5,hok⟩;walk_at"rp";refine⟨cm (by lia),a,ns,_,21,rfl,hS,bL,by lia,by lia,by decide,λr' r0' r21=>?_⟩;walk_at"rp";obtain⟨c,hc,ec⟩:=ub (xs:=(Str.ofString "bcdfghjklmnpqrstvwxyz").cps.toList) r0' (by rw[l9];exact r21);refine⟨by rw[lets_len'];exact zn (by decide),c,ec,?_,?_⟩
  ·show word.length+1<=sizeLine;exact zn (by lia)
  ·refine⟨_,_,rfl,trivial,?_,by lia,t8 hok (jd ig hc)⟩;rw[v8,hw]
   rfl
 ·rintro σ H' ⟨word,jv,rfl,rfl,hw,hw5,hok⟩;walk_at"rp";refine⟨a,ns,k+3,21,rfl,hS,bL,by lia,by lia,by decide,λfirst f0 f21=>?_⟩;walk_at"rp";refine⟨a,ns,k+4,3,rfl,hS,bL,by lia,by lia,by decide,λw3 _ _=>?_⟩;walk_at"rp";refine xa (λc=>?_) (λc=>?_)
  ·obtain⟨cc,hcc,ec⟩:=ub (xs:=(Str.ofString "bcdfghjklmnpqrstvwxyz").cps.toList) f0 (by rw[l9];exact f21);refine⟨by rw[lets_len'];exact zn (by decide),cc,ec,?_⟩;have l1:(word++(⟨#[cc]⟩:Str)).length<=6:=by
    rw[v8];show word.length+1<=6;lia
   refine⟨zn (by show word.length+1<=1000;lia),zn (by rw[t7];lia),zn (by rw[v8,t7];lia),⟨by lia,by lia⟩,?_⟩;have l2:(Txt.slice (word++{ cps:=#[cc] }++Str.ofString "qzkxw") none (some 6)).length<=11:=yW (sV _ _ _) (by rw[v8,t7];lia);have l6:(Txt.slice (word++{ cps:=#[cc] }++Str.ofString "qzkxw") none (some 6)).length=6:=by
    have hz:((word++(⟨#[cc]⟩:Str))++Str.ofString "qzkxw").length=word.length+1+5:=by rw[v8,v8,t7];rfl
    exact(tu (by decide) (by rw[hz];lia)).trans rfl
   have o2:tOk (Txt.slice (word++{ cps:=#[cc] }++Str.ofString "qzkxw") none (some 6)):=vz (t8 (t8 hok (jd ig hcc)) Ua) _ _;generalize Txt.slice (word++{ cps:=#[cc] }++Str.ofString "qzkxw") none (some 6)=word' at l2 l6 o2;intro C s₀ H₀ ex;refine xk (λD i ys H1=>∃xs:List Str,ys=xs.map V.str/\xs.length=i/\(∀x∈xs,Nm x/\NA x)/\xs.map (λx=>x.length)=(List.range i).map (·+1)/\H1 D=some (.lst ys)/\Same H' H1/\H' D=none) (zn (by lia)) ?_ ?_ ?_ ?_
   ·intro D H2 n s2 e2;exact⟨[],rfl,rfl,(by simp),rfl,e2,s2,n⟩
   ·rintro D i ys H1 ⟨xs,rfl,hl,_,_,e,_⟩;exact⟨e,by simpa using hl⟩
   ·rintro D i ys H1 hi ⟨xs,rfl,hl,hx,hn,e,s1,n1⟩;walk_at"rp";refine⟨zn (by lia),e,CN.mk hi ⟨xs++[_],(by rw[zP];rfl),(by rw[zN,hl];rfl),λx mW=>?_,by rw[zP,hn,List.range_succ,zP,List.map_cons,List.map_nil,List.map_cons,List.map_nil,tu (by lia) (by lia)];congr 2;lia,zy,zu s1 n1 _,n1⟩⟩;rcases zO.mp mW with z|z
    ·exact hx x z
    ·rw[zW.mp z];exact⟨⟨yW (sV _ _ _) (by lia),(vz o2 _ _).1⟩,(vz o2 _ _).2⟩
   ·rintro D ys H1 ⟨xs,rfl,hl,hx,hn,e,s1,n1⟩;exact q D H1 xs n1 s1 e (by rw[hl];lia) (λx h=>(hx x h).1) (λx h=>(hx x h).2) (k9 hn)
  ·refine⟨zn (by lia),a,ns,k+2,_,rfl,hS,bL,by lia,by lia,by lia,λat_ t0 tl=>?_⟩;walk_at"rp";refine⟨⟨by lia,by lia⟩,?_⟩;intro C s₀ H₀ ex;refine xk (λD i ys H1=>∃(xs:List Str)(cs:List Nat),ys=xs.map V.str/\xs.length=i/\xs=cs.map (mid (Txt.slice word none (some at_)) (Txt.slice word (some at_) none))/\(∀(j:Nat) c,cs[j]?=some c->(Str.ofString "bcdfghjklmnpqrstvwxyz").cps.toList[((first+4*(0+(j:Int))) % 21).toNat]?=some c)/\(∀x∈xs,Nm x/\NA x)/\H1 D=some (.lst ys)/\Same H' H1/\H' D=none) (zn (by lia)) ?_ ?_ ?_ ?_
   ·intro D H2 n s2 e2;exact⟨[],[],rfl,rfl,rfl,(by simp),(by simp),e2,s2,n⟩
   ·rintro D i ys H1 ⟨xs,cs,rfl,hl,_,_,_,e,_⟩;exact⟨e,by simpa using hl⟩
   ·rintro D i ys H1 hi ⟨xs,cs,rfl,hl,GZ,sK,hx,e,s1,n1⟩;walk_at"rp";obtain⟨c2,hg2,kD,ec⟩:=at_any' (xs:=(Str.ofString "bcdfghjklmnpqrstvwxyz").cps.toList) (k:=(first+4*(0+(i:Int))) % 21) (uZ _ (by decide)) (by rw[l9];exact wC _ (by decide));have b1:=sV word none (some at_);have b2:=sV word (some at_) none;have b3:(Txt.slice word none (some at_)++(⟨#[c2]⟩:Str)).length<=6:=by
     rw[v8];show(Txt.slice word none (some at_)).length+1<=6;lia
    refine⟨zn (by lia),cm (by lia),(by decide),(by rw[lets_len'];exact zn (by decide)),c2,ec,zn (by show(Txt.slice word none (some at_)).length+1<=1000;lia),zn (by lia),zn (by lia),e,
     CN.mk hi ⟨xs++[_],cs++[c2],(by rw[zP];rfl),(by rw[zN,hl];rfl),(by rw[GZ,zP];rfl),λj c hj=>?_,λx mW=>?_,zy,zu s1 n1 _,n1⟩⟩
    ·have pA:cs.length=i:=by rw[<-hl,GZ,zX]
     rcases uV j i with z|z|z
     ·rw[yM (by lia)]at hj;exact sK j c hj
     ·subst z;rw[xZ (by lia),pA,Nat.sub_self]at hj;cases hj;exact hg2
     ·rw[wA (by simp;lia)]at hj;cases hj
    rcases zO.mp mW with z|z
    ·exact hx x z
    ·rw[zW.mp z];have o3:=t8 (t8 (vz hok none (some at_)) (jd ig kD)) (vz hok (some at_) none);exact⟨⟨by rw[v8];lia,o3.1⟩,o3.2⟩
   ·rintro D ys H1 ⟨xs,cs,rfl,hl,GZ,sK,hx,e,s1,n1⟩;have pA:cs.length=xs.length:=by rw[GZ,zX]
    refine q D H1 xs n1 s1 e (by rw[hl];lia) (λx h=>(hx x h).1) (λx h=>(hx x h).2) ?_;rw[GZ];exact ut (λa b e=>Sz e) (fk (by lia) sK)
theorem SaysAt.set{K:W.Frag}{H:Hp}:∀{us:List V}{ts:List Say},SaysAt K H us ts->∀(i:Nat){v:V}{t:Say},SayAt K H v t->SaysAt K H (us.set i v) (ts.set i t)
 |[],[],_,i,v,t,h=>by simp[SaysAt]
 |u::us,s::ts,hs,0,v,t,h=>⟨h,hs.2⟩
 |u::us,s::ts,hs,i+1,v,t,h=>⟨hs.1,SaysAt.set hs.2 i h⟩
 |[],_::_,h,_,_,_,_=>h.elim
 |_::_,[],h,_,_,_,_=>h.elim
def Ly(ns:List Str)(ts:List Say):Prop:=∀t∈ts,t.pieces<=2/\∀x∈t.letters,x∈ns
def Wn(K:W.Frag):Sp:=λvs H Q _=>∃(a b:Addr)(ns:List Str)(bs:List Bool)(o:Op2),vs=[.ref a,.ref b,.str o.word]/\SqL K H a (ns.map V.str)/\SqL K H b (bs.map V.bl)/\bs.length=ns.length/\1<=ns.length/\ns.length<=5 /\
 ∀(v:V)(H':Hp)(t:Say),Same H H'->SayAt K H' v t->t.pieces<=15->(∀x∈t.letters,x∈ns)->Q v H'
theorem sc_knit:zj ["_law_names_here","_law_truths","_law_word","_law_parts","_law_k","_law_saying_here","_law_part"] ["_law_names_here","_law_truths","_law_word"] (z0 (top 39)):=⟨rfl,rfl,rfl,by decide +kernel,rfl,by decide +kernel,by decide +kernel⟩
theorem O5{bs:List Bool}{i:Nat}(h:i<bs.length):atI (bs.map V.bl) (i:Int)=some (.bl bs[i]):=w9 (by rw[zE,zL h];rfl)
theorem S7(D:Def K mg "_law_knit" (top 39) ["_law_names_here","_law_truths","_law_word"])(aH:mg "len"=none)(aG:mg "range"=none):zw P w K mg base 1 "_law_knit" ["_law_names_here","_law_truths","_law_word"] (Wn K):=by
 refine D.callee sc_knit (λvs H Q E h=>?_) λf cdv A outer s H vs Q E hr h=>?_
 ·obtain⟨a,b,ns,bs,o,rfl,_⟩:=h
  rfl
 have nd:=sc_knit.nd;obtain⟨a,b,ns,bs,o,rfl,ha,hb,HZ,hn1,hn5,q⟩:=h;refine⟨[some (.ref a),some (.ref b),some (.str o.word),none,none,none,none],_,rfl,(z5 (vh 3 nd (ixs:=[]) (y9 (own:=["_law_name"]) (N:=[]) rfl rfl rfl rfl rfl rfl rfl (by decide +kernel) rfl rfl rfl) rfl (ym (z8 0)) (λ_ _ _ _=>yp) (λ_ _ _ _=>(yy (z9 zo (z9 (z8 0) z6)))) rfl)
  (z5 (wx yJ rfl (ye rfl aG (z9 (zt xz rfl aH yk (z9 (z8 3) z6)) z6)) (v6 4 nd) (zz (y8 (wv (wy (yh (z8 1) (z8 4) (λ_ _=>rfl)))) (zz (R0 hr.units (z8 3) (z8 4) (yy (z9 zo (z9 (yh (z8 3) (z8 4) (λ_ _=>rfl)) z6))))) zm)))
  (z5 (zp 5 nd (yh (z8 3) z4 (λ_ _=>rfl)))
  (z5 (wx yJ rfl (ym (zc (z8 3) (yz z4) zd)) (v6 6 nd) (zz (zp 5 nd (yy (z9 (z8 2) (z9 (z8 5) (z9 (z8 6) z6)))))))
  (zz (zr (z8 5))))))),?_⟩
 walk_at"rp";refine .inl ⟨⟨_,ha⟩,λC s₀ H₀ ex=>?_⟩;refine wb (xs:=ns.map V.str) (λD i ys H2=>∃ts:List Say,SaysAt K H2 ys ts/\ts.length=i/\(∀t∈ts,t.pieces<=1/\∀x∈t.letters,x∈ns)/\H2 D=some (.lst ys)/\Same H H2/\H D=none) (by rw[zX,zD];lia) ?_ ?_ ?_ ?_
 ·intro D H2 n2 s2 e2;exact⟨[],trivial,rfl,λt ht=>by simp at ht,e2,s2,n2⟩
 ·rintro D i ys H2 ⟨ts,hS,hl,_,e2,s2,_⟩;exact⟨s2.seq ha,e2,by rw[hS.len,hl]⟩
 ·rintro D i v ys H2 hv ⟨ts,hS,hl,iR,e2,s2,n2⟩;rw[zE]at hv;cases hc:ns[i]? with
  |none=>rw[hc]at hv;cases hv
  |some x =>
   rw[hc]at hv;cases hv;walk_at"rp";refine⟨zn (by simp),λp H3 n3 s3 e3=>⟨s3 _ _ e2,CN.mk (by rw[zX];exact(zU.mp hc).1) ⟨ts++[.letter x],?_,by rw[zN,hl];rfl,λt ht=>?_,zy,zu (s2.trans s3) n2 _,n2⟩⟩⟩
   ·have tl:=yf (o:=.lst (ys++[V.ref p])) (s3 _ _ e2);exact SaysAt.app (hS.mono ((z7 s3).trans tl)) ⟨⟨p,rfl,tl.sqT (SqT.of e3)⟩,trivial⟩
   ·rcases zO.mp ht with ht|ht
    ·exact iR t ht
    ·rw[zW.mp ht];exact⟨zS 1,λy hy=>by rw[zW.mp hy];exact zM hc⟩
 rintro p ys H1 ⟨ts,hS,hl,iR,e1,s1,n1⟩;rw[zX]at hl;have qH:=hS.len;walk_at"rp";refine⟨_,.inl (SqL.of e1),⟨by lia,by lia⟩,?_⟩;rw[show((ys.length:Nat):Int).toNat=ys.length from yG _];refine wt (λi σ H2=>∃(us:List V)(ts:List Say)(kv:Option V),σ=[some (.ref a),some (.ref b),some (.str o.word),some (.ref p),kv,none,none]/\H2 p=some (.lst us)/\SaysAt K H2 us ts/\ts.length=ns.length/\Ly ns ts/\(∀j t,i<=j->ts[j]?=some t->t.pieces<=1)/\Same H H2) ⟨ys,ts,none,rfl,e1,hS,hl,λt ht=>⟨Nat.le_succ_of_le (iR t ht).1,(iR t ht).2⟩,λj t _ ht=>(iR t (zM ht)).1,s1⟩ ?_ ?_
 ·rintro i σ H2 hi ⟨us,ts,kv,rfl,e2,hS,hl,iR,AZ,s2⟩;have Ct:=hS.len;walk_at"rp";have hib:i<bs.length:=by lia
  rw[Int.zero_add];refine⟨_,_,.inl (s2.seq hb),O5 hib,?_⟩;walk_at"rp";have hiu:i<us.length:=by lia
  obtain⟨t,ht,sv⟩:=hS.at i us[i] (zL hiu);have mX:=zM ht;refine xa (λc=>?_) (λc=>?_)
  ·refine⟨_,_,.inl (SqL.of e2),w9 (zL hiu),zn (by simp),λr H3 n3 s3 e3=>?_⟩;refine .inr ⟨us,_,i,s3 _ _ e2,rfl,rfl,hiu,?_⟩;have tl:=yf (o:=.lst (us.set i (.ref r))) (s3 _ _ e2);have t0:=(z7 s3).trans tl;refine⟨us.set i (.ref r),ts.set i (.neg t),_,rfl,zy,SaysAt.set (hS.mono t0) i ⟨r,us[i],rfl,tl.sqT (SqT.of e3),sv.mono t0⟩,by rw[List.length_set];exact hl,λu hu=>?_,λj u hj hu=>?_,zu (s2.trans s3) n1 _⟩
   ·rcases List.mem_or_eq_of_mem_set hu with h|h
    ·exact iR u h
    ·rw[h];refine⟨?_,(iR t mX).2⟩;have:=AZ i t (zS _) ht;simp only[Say.pieces];lia
   ·rw[uT (by lia)]at hu;exact AZ j u (by lia) hu
  ·exact⟨us,ts,_,rfl,e2,hS,hl,iR,λj u hj hu=>AZ j u (by lia) hu,s2⟩
 ·rintro σ H2 ⟨us,ts,kv,rfl,e2,hS,hl,iR,_,s2⟩;have Ct:=hS.len
  match us,ts,hS,hl,e2 with
  |[],[],_,hl,_=>simp at hl;lia
  |u::us,t::ts,hS,hl,e2 =>
   walk_at"rp";refine⟨_,_,.inl (SqL.of e2),oi _ _,?_⟩;refine .inl ⟨_,SqL.of e2,λr H3 n3 s3 e3=>?_⟩;rw[rn]at e3;refine .inl ⟨⟨_,SqL.of e3⟩,qp (xs:=us) (λi σ H4=>∃(v:V)(t:Say)(pv:Option V),σ=[some (.ref a),some (.ref b),some (.str o.word),some (.ref p),kv,some v,pv]/\SayAt K H4 v t/\t.pieces<=2+3*i/\(∀x∈t.letters,x∈ns)/\Same H3 H4) ⟨u,t,none,rfl,hS.1.mono (z7 s3),(iR t yZ).1,(iR t yZ).2,Same.refl _⟩ ?_ ?_ ?_⟩
   ·rintro i σ H4 _ ⟨v,t',pv,rfl,_,_,_,s4⟩;exact s4.seq (SqL.of e3)
   ·rintro i x σ H4 hx ⟨v,t',pv,rfl,sv,pc,lt,s4⟩;obtain⟨t2,ht2,sv2⟩:=hS.2.at i x hx;have Bd:=iR t2 (zC _ (zM ht2));walk_at"rp";refine⟨zn (by simp),λc H5 n5 s5 e5=>⟨.ref c,.bin o t' t2,some x,rfl,⟨c,v,x,rfl,SqT.of e5,sv.mono (z7 s5),sv2.mono (z7 (s3.trans (s4.trans s5)))⟩,?_,λy hy=>?_,s4.trans s5⟩⟩
    ·have:=Bd.1;simp only[Say.pieces];lia
    ·rcases zO.mp hy with z|z
     ·exact lt y z
     ·exact Bd.2 y z
   ·rintro σ H4 ⟨v,t',pv,rfl,sv,pc,lt,s4⟩;walk_at"rp";have:us.length+1=ns.length:=by rw[<-hl,<-hS.len];rfl
    exact q v H4 t' (s2.trans (s3.trans s4)) sv (by lia) lt
theorem SaysAt.take{K:W.Frag}{H:Hp}:∀{us:List V}{ts:List Say}(n:Nat),SaysAt K H us ts->SaysAt K H (us.take n) (ts.take n)
 |[],[],n,_=>by simp[SaysAt]
 |_::_,_::_,0,_=>trivial
 |_::_,_::_,n+1,h=>⟨h.1,SaysAt.take n h.2⟩
 |[],_::_,_,h=>h.elim
 |_::_,[],_,h=>h.elim
theorem SaysAt.drop{K:W.Frag}{H:Hp}:∀{us:List V}{ts:List Say}(n:Nat),SaysAt K H us ts->SaysAt K H (us.drop n) (ts.drop n)
 |[],[],n,_=>by simp[SaysAt]
 |_::_,_::_,0,h=>h
 |_::_,_::_,n+1,h=>SaysAt.drop n h.2
 |[],_::_,_,h=>h.elim
 |_::_,[],_,h=>h.elim
theorem ml{α:Type}{ts:List α}{n:Nat}{t u:α}(h:u∈ts.take n++t::ts.drop n):u=t\/u∈ts:=by
 rcases zO.mp h with z|z
 ·exact .inr (xE z)
 ·rcases zG.mp z with z|z
  ·exact .inl z
  ·exact .inr (vU z)
theorem yo(xs:List V){j:Int}(h:0<=j):v9 xs none (some j)=xs.take j.toNat:=by
 unfold v9;rw[HT.sIx_none];have e:HT.sIx xs.length xs.length (some j)=min j.toNat xs.length:=by
  show(if j<0 then(j+(xs.length:Int)).toNat else min j.toNat xs.length)=_;rw[yY (by lia)]
 rw[e,List.drop_zero,Nat.sub_zero]
 by_cases hj:j.toNat<=xs.length
 ·rw[tY hj]
 ·rw[Nat.min_eq_right (by lia),yV,vH (by lia)]
def f7(K:W.Frag):Sp:=λvs H Q _=>∃(a:Addr)(ns:List Int)(k:Int)(b:Addr)(xs:List Str),vs=[.ref a,.int k,.ref b]/\SqL K H a (ns.map V.int)/\ns.length<=5000/\0<=k/\k<=1000/\SqL K H b (xs.map V.str)/\1<=xs.length/\xs.length<=5 /\
 ∀(p:Addr)(H':Hp)(us:List V)(ts:List Say),Same H H'->H' p=some (.lst us)->SaysAt K H' us ts->1<=ts.length->ts.length<=6->(∀t∈ts,t.pieces<=40)->(∃ys:List Str,ts.length=ys.length+1/\(∀x∈ys,x∈xs)/\∀t∈ts,∀x∈t.letters,x∈ys)->Q (.ref p) H'
theorem sc_linked:zj ["_law_script","_law_k","_law_names_here","_law_many","_law_sayings","_law_truths","_law_last"] ["_law_script","_law_k","_law_names_here"] (z0 (top 40)):=⟨rfl,rfl,rfl,by decide +kernel,rfl,by decide +kernel,by decide +kernel⟩
theorem X8(D:Def K mg "_law_linked" (top 40) ["_law_script","_law_k","_law_names_here"])(aC:zw P w K mg base 2 "_law_pick" ["_law_script","_law_k","_law_many"] (vm K))(lN:zw P w K mg base 1 "_law_knit" ["_law_names_here","_law_truths","_law_word"] (Wn K))(aH:mg "len"=none)(aG:mg "range"=none)(eV:mg "min"=none):
  zw P w K mg base 3 "_law_linked" ["_law_script","_law_k","_law_names_here"] (f7 K):=by
 refine D.callee sc_linked (λvs H Q E h=>?_) λf cdv A outer s H vs Q E hr h=>?_
 ·obtain⟨a,ns,k,b,xs,rfl,_⟩:=h
  rfl
 have nd:=sc_linked.nd;obtain⟨a,ns,k,b,xs,rfl,hS,bL,Cy,hk,hb,hx1,hx5,q⟩:=h;refine⟨[some (.ref a),some (.int k),some (.ref b),none,none,none,none],_,rfl,(z5 (zp 3 nd (zv zh (zx aC hr (by lia) (z9 (z8 0) (z9 (z8 1) (z9 (zt (Rz rfl) rfl eV Uk (z9 z4 (z9 (zt xz rfl aH yk (z9 (z8 2) z6)) z6))) z6)))) z4))
  (z5 (vh 4 nd (ixs:=[]) (y9 (own:=["_law_name"]) (N:=[]) rfl rfl rfl rfl rfl rfl rfl (by decide +kernel) rfl rfl rfl) rfl (ym (zc (z8 2) zd (yz (z8 3)))) (λ_ _ _ _=>yp) (λ_ _ _ _=>(yy (z9 zo (z9 (z8 0) z6)))) rfl)
  (z5 (vh 5 nd (ixs:=[0,1]) (y9 (own:=["_law_j"]) (N:=["_law_script","_law_k"]) rfl rfl rfl rfl rfl rfl rfl (by decide +kernel) rfl rfl rfl) rfl (ye rfl aG (z9 (z8 3) z6)) (λ_ _ _ _=>yp) (λ_ _ _ _=>(xm d8 (zx aC hr (by lia) (z9 (z8 1) (z9 (zv zh (zv zh (z8 2) z4) (z8 0)) (z9 z4 z6)))) z4 (zf _))) rfl)
  (z5 (zp 6 nd (zx lN hr (by lia) (z9 (zc (z8 2) zd (yz (z8 3))) (z9 (z8 5) (z9 (yh (xp (z9 zo (z9 zo (z9 zo z6)))) (zx aC hr (by lia) (z9 (z8 0) (z9 (zv zh (z8 1) z4) (z9 z4 z6)))) (λ_ _=>rfl)) z6)))))
  (z5 (y8 (zb (xh hr.units) (zx aC hr (by lia) (z9 (z8 0) (z9 (zv zh (z8 1) z4) (z9 z4 z6)))) z4 (zf _)) (zz (zp 6 nd (yy (z9 zo (z9 (z8 6) z6))))) zm)
  (z5 (wm (d7 F.slot_list_insert F.type_list_insert M3 (z8 4) (z9 (zx aC hr (by lia) (z9 (z8 0) (z9 (zv zh (z8 1) z4) (z9 (zv zh (z8 3) z4) z6)))) (z9 (z8 6) z6))))
  (zz (zr (z8 4))))))))),?_⟩
 walk_at"rp";refine⟨_,.inl hb,?_⟩;rw[zX];have hmin:(if(xs.length:Int)<5 then(xs.length:Int)else 5)=(xs.length:Int):=by split<;>lia
 rw[hmin];refine⟨a,ns,k,_,rfl,hS,bL,Cy,by lia,by lia,λr r0 r1=>?_⟩;walk_at"rp";have HX:∀{z:V},z=V.int (r+1)->v9 (xs.map V.str) none (some (r+1))=(xs.take (r+1).toNat).map V.str:=λ_=>by rw[yo _ (by lia),wP]
 have htl:(xs.take (r+1).toNat).length=(r+1).toNat:=by rw[yE];lia
 have iH:∀x∈xs.take (r+1).toNat,x∈xs:=λx hx=>xE hx;refine .inl ⟨_,hb,λp1 H1 n1 s1 e1=>?_⟩;rw[HX rfl]at e1;generalize hys:xs.take (r+1).toNat=ys at e1 htl iH HX;refine .inl ⟨⟨_,SqL.of e1⟩,λC s₀ H₀ ex=>?_⟩;refine wb (xs:=ys.map V.str) (λD i vs H2=>∃ts:List Say,SaysAt K H2 vs ts/\ts.length=i/\(∀t∈ts,t.pieces<=1/\∀x∈t.letters,x∈ys)/\H2 D=some (.lst vs)/\Same H1 H2/\H1 D=none) (by rw[zX,zD];lia) ?_ ?_ ?_ ?_
 ·intro D H2 n2 s2 e2;exact⟨[],trivial,rfl,λt ht=>by simp at ht,e2,s2,n2⟩
 ·rintro D i vs H2 ⟨ts,iI,hl,_,e2,s2,_⟩;exact⟨s2.seq (SqL.of e1),e2,by rw[iI.len,hl]⟩
 ·rintro D i v vs H2 hv ⟨ts,iI,hl,iR,e2,s2,n2⟩;rw[zE]at hv;cases hc:ys[i]? with
  |none=>rw[hc]at hv;cases hv
  |some x =>
   rw[hc]at hv;cases hv;walk_at"rp";refine⟨zn (by simp),λp H3 n3 s3 e3=>⟨s3 _ _ e2,CN.mk (by rw[zX];exact(zU.mp hc).1) ⟨ts++[.letter x],?_,by rw[zN,hl];rfl,λt ht=>?_,zy,zu (s2.trans s3) n2 _,n2⟩⟩⟩
   ·have tl:=yf (o:=.lst (vs++[V.ref p])) (s3 _ _ e2);exact SaysAt.app (iI.mono ((z7 s3).trans tl)) ⟨⟨p,rfl,tl.sqT (SqT.of e3)⟩,trivial⟩
   ·rcases zO.mp ht with ht|ht
    ·exact iR t ht
    ·rw[zW.mp ht];exact⟨zS 1,λy hy=>by rw[zW.mp hy];exact zM hc⟩
 rintro l us H2 ⟨ts,iI,hl,iR,e2,s2,n2⟩;rw[zX,htl]at hl;have nl:H l=none:=yx s1 n2;walk_at"rp";refine⟨⟨by lia,by lia⟩,λC s₀ H₀ ex=>?_⟩;have oH:Same H H2:=s1.trans s2;refine xk (λD i vs H3=>∃bs:List Bool,vs=bs.map V.bl/\bs.length=i/\H3 D=some (.lst vs)/\Same H2 H3/\H2 D=none) (by rw[zD];lia) ?_ ?_ ?_ ?_
 ·intro D H3 n3 s3 e3;exact⟨[],rfl,rfl,e3,s3,n3⟩
 ·rintro D i vs H3 ⟨bs,rfl,HZ,e3,_⟩;exact⟨e3,by simpa using HZ⟩
 ·rintro D i vs H3 hi ⟨bs,rfl,HZ,e3,s3,n3⟩;walk_at"rp";refine⟨a,ns,_,3,rfl,(oH.trans s3).seq hS,bL,by lia,by lia,by decide,λz _ _=>?_⟩;walk_at"rp";exact⟨e3,CN.mk hi ⟨bs++[_],by rw[zP];rfl,by rw[zN,HZ];rfl,zy,zu s3 n3 _,n3⟩⟩
 rintro tb vs H3 ⟨bs,rfl,HZ,e3,s3,n3⟩;walk_at"rp";have kB:Same H H3:=oH.trans s3;refine .inl ⟨_,kB.seq hb,λp2 H4 n4 s4 e4=>?_⟩;rw[yo _ (by lia),<-wP,hys]at e4;refine⟨zn (by simp),λwl H5 n5 s5 e5=>?_⟩;have nO:Same H H5:=kB.trans (s4.trans s5);refine⟨a,ns,_,3,rfl,nO.seq hS,bL,by lia,by lia,by decide,λo o0 o3=>?_⟩;walk_at"rp";obtain⟨op,eo⟩:∃op:Op2,atI [V.str (Str.ofString "and"),V.str (Str.ofString "or"),V.str (Str.ofString "if")] o=some (.str op.word):=by
  have o':o=0\/o=1\/o=2:=by lia
  rcases o' with rfl|rfl|rfl
  ·exact⟨.con,rfl⟩
  ·exact⟨.dis,rfl⟩
  ·exact⟨.imp,rfl⟩
 refine⟨_,_,.inl (SqL.of e5),eo,?_⟩;refine⟨p2,tb,ys,bs,op,rfl,SqL.of (s5 _ _ e4),SqL.of ((s4.trans s5) _ _ e3),by lia,by lia,by lia,λv H6 t s6 sv pc lt=>?_⟩;walk_at"rp";have nN:Same H H6:=nO.trans s6;have el6:H6 l=some (.lst us):=(s3.trans (s4.trans (s5.trans s6))) _ _ e2;have hS6:SaysAt K H6 us ts:=iI.mono (z7 (s3.trans (s4.trans (s5.trans s6))));refine⟨a,ns,_,3,rfl,nN.seq hS,bL,by lia,by lia,by decide,λz _ _=>?_⟩;walk_at"rp";have cB:∀(v:V)(H7:Hp)(t:Say)(lv:Option V),Same H6 H7->SayAt K H7 v t->t.pieces<=16->(∀x∈t.letters,x∈ys)->vm K [V.ref a,V.int (k+8),V.int (r+1+1)] H7 (λx H2=>Pw (V.ref l) [x,v] H2 (λx H1=>Q (V.ref l) H1)) E0:=by
  intro v H7 t lv s7 sv pc lt;refine⟨a,ns,_,_,rfl,(nN.trans s7).seq hS,bL,by lia,by lia,by lia,λj j0 j1=>?_⟩;walk_at"rp";refine⟨us,s7 _ _ el6,by rw[hS6.len,zD];lia,j0,by lia,?_⟩;have tl:=yf (o:=.lst (us.take j.toNat++v::us.drop j.toNat)) (s7 _ _ el6);refine q l _ _ (ts.take j.toNat++t::ts.drop j.toNat) (zu (nN.trans s7) nl _) zy ?_ (by simp;lia) ?_ (λu hu=>?_) ⟨ys,?_,iH,λu hu x hx=>?_⟩
  ·have h7:=hS6.mono ((z7 s7).trans tl);exact SaysAt.app (SaysAt.take _ h7) ⟨sv.mono tl,SaysAt.drop _ h7⟩
  ·rw[zN,yF,yE,xH];lia
  ·rcases ml hu with z|z
   ·rw[z];lia
   ·have:=(iR u z).1;lia
  ·rw[zN,yF,yE,xH];lia
  ·rcases ml hu with z|z
   ·rw[z]at hx;exact lt x hx
   ·exact(iR u z).2 x hx
 refine xa (λc=>?_) (λc=>?_)
 ·refine⟨zn (by simp),λc2 H7 n7 s7 e7=>⟨⟨_,_,rfl,s7 _ _ el6⟩,?_⟩⟩;exact cB _ H7 (.neg t) none s7 ⟨c2,v,rfl,SqT.of e7,sv.mono (z7 s7)⟩ (by simp only[Say.pieces];lia) lt
 ·exact⟨⟨_,_,rfl,el6⟩,cB v H6 t none (Same.refl _) sv (by lia) lt⟩
def jc(K:W.Frag)(n:Nat):Sp:=λvs H Q _=>∃(v:V)(h:Addr)(s:Say)(hs:List Str),vs=[v,.ref h]/\SayAt K H v s/\s.pieces<=n/\SqT K H h (hs.map V.str)/\∀H',Same H H'->Q (.bl (s.so hs)) H'
theorem sc_lawso:zj ["_law_saying_here","_law_held_here","_law_truths"] ["_law_saying_here","_law_held_here"] (z0 (top 35)):=⟨rfl,rfl,rfl,by decide +kernel,rfl,by decide +kernel,by decide +kernel⟩
theorem fe(D:Def K mg "_law_so" (top 35) ["_law_saying_here","_law_held_here"])(eV:mg "min"=none)(iZ:mg "max"=none):∀n:Nat,zw P w K mg base n "_law_so" ["_law_saying_here","_law_held_here"] (jc K n)
 |0=>xx D λvs H Q E h=>by
  obtain⟨v,h,s,hs,_,_,hp,_⟩:=h;exact absurd s.pieces_pos (by lia)
 |n+1=>by
  have hV:=fe D eV iZ n;refine D.callee sc_lawso (λvs H Q E h=>?_) λf cdv A outer s H vs Q E hr h=>?_
  ·obtain⟨v,h,s,hs,rfl,_⟩:=h
   rfl
  have nd:=sc_lawso.nd;obtain⟨v,h,s,hs,rfl,hv,hp,hh,q⟩:=h;refine⟨[some v,some (.ref h),none],_,rfl,(z5 (y8 (zb (xh hr.units) (yh (z8 0) z4 (λ_ _=>rfl)) zo (zf _)) (zz (zr (xm Mz (yh (z8 0) z4 (λ_ _=>rfl)) (z8 1) (by with_unfolding_all rfl)))) zm)
  (z5 (vh 2 nd (ixs:=[1]) (y9 (own:=["_law_part"]) (N:=["_law_held_here"]) rfl rfl rfl rfl rfl rfl rfl (by decide +kernel) rfl rfl rfl) rfl (ym (zc (z8 0) (yz z4) zd)) (λ_ _ _ _=>yp) (λ_ _ _ _=>(zx hV hr (by lia) (z9 (z8 0) (z9 (z8 1) z6)))) rfl)
  (z5 (y8 (zb (xh hr.units) (yh (z8 0) z4 (λ_ _=>rfl)) zo (zf _)) (zz (zr (j5 (yh (z8 2) z4 (λ_ _=>rfl))))) zm)
  (z5 (y8 (zb (xh hr.units) (yh (z8 0) z4 (λ_ _=>rfl)) zo (zf _)) (zz (zr (zt (Rz rfl) rfl eV Uk (z9 (z8 2) z6)))) zm)
  (z5 (y8 (zb (xh hr.units) (yh (z8 0) z4 (λ_ _=>rfl)) zo (zf _)) (zz (zr (zt (M5 rfl) rfl iZ Pb (z9 (z8 2) z6)))) zm)
  (zz (zr (xm La (yh (z8 2) z4 (λ_ _=>rfl)) (yh (z8 2) z4 (λ_ _=>rfl)) (zf _))))))))),?_⟩
  have rB:∀{te:TE}{p:Addr}{H1:Hp}{us:List V}{ts:List Say}{Q':VK},(∀v H Q,te [some v,some (.ref h)] H Q=jc K n [v,.ref h] H Q E0)->Same H H1->SqT K H1 p us->us.length=ts.length->us.length<=10->(∀(i:Nat) u,us[i]?=some u->∃t,ts[i]?=some t/\SayAt K H1 u t/\t.pieces<=n) ->
    (∀D H2,Same H H2->H2 D=some (.lst ((ts.map λt=>t.so hs).map V.bl))->Q' (.ref D) H2)->va 1 (mG 0) nu te [some (.ref h)] (Itt K p) Q' H1:=by
   intro te p H1 us ts Q' hte s1 mI hl hl10 hu q';refine uz (xs:=us) (λD i ys H'=>ys=((ts.take i).map λt=>t.so hs).map V.bl/\i<=us.length/\H' D=some (.lst ys)/\Same H1 H'/\H1 D=none) (zn (by lia)) ?_ ?_ ?_ ?_
   ·intro D H2 nn s2 e2;exact⟨rfl,yO _,e2,s2,nn⟩
   ·rintro D i ys H' ⟨rfl,hi,e,s2,_⟩;exact⟨(z7 s2).sqT mI,e,by simp;lia⟩
   ·rintro D i v ys H' hv ⟨rfl,hi,e,s2,n2⟩;obtain⟨t,ht,sv,pc⟩:=hu i v hv;rw[hte];refine⟨v,h,t,hs,rfl,sv.mono (z7 s2),pc,(z7 (s1.trans s2)).sqT hh,λH3 s3=>⟨s3 _ _ e,CN.mk ?_ ⟨?_,?_,zy,zu (s2.trans s3) n2 _,n2⟩⟩⟩
    ·exact(zU.mp hv).1
    ·rw[yX,ht];simp
    ·exact(zU.mp hv).1
   ·rintro D ys H' ⟨rfl,hi,e,s2,n2⟩;rw[hl,yV]at e;exact q' D H' (s1.trans s2) e
  cases s with
  |letter x =>
   obtain⟨a,rfl,ha⟩:=hv;walk_at"rp";refine⟨_,_,.inr ha,rfl,?_⟩;walk_at"rp";refine⟨_,_,.inr ha,rfl,?_⟩;refine⟨_,.inr hh,rfl,c7 hs,?_⟩;rw[Y8];exact q H (Same.refl H)
  |neg t =>
   obtain⟨a,u,rfl,ha,ht⟩:=hv;walk_at"rp";refine⟨_,_,.inr ha,rfl,?_⟩;walk_at"rp";refine .inr ⟨_,ha,λp H1 s1 h1=>.inr ⟨⟨_,h1⟩,λC s₀ H₀ ex=>?_⟩⟩;refine rB (us:=[u]) (ts:=[t]) (λ_ _ _=>rfl) s1 h1 rfl (by simp) (λi x hx=>?_) λD H2 s2 e2=>?_
   ·match i,hx with
    |0,hx =>
     cases hx;exact⟨t,rfl,ht.mono (z7 s1),by have:=hp;simp only[Say.pieces]at this;lia⟩
    |i+1,hx=>simp at hx
   ·have nW:=(z7 s2).sqT ha;refine⟨_,_,.inr nW,rfl,?_⟩;walk_at"rp";refine⟨_,_,.inl (SqL.of e2),rfl,?_⟩;exact q H2 s2
  |bin o t t' =>
   obtain⟨a,u,u',rfl,ha,ht,Ho⟩:=hv;have p1:t.pieces<=n/\t'.pieces<=n:=by have:=hp;simp only[Say.pieces]at this;lia
   have hu:∀{H1:Hp},Same H H1->∀(i:Nat) x,[u,u'][i]?=some x->∃r,[t,t'][i]?=some r/\SayAt K H1 x r/\r.pieces<=n:=λs1 i x hx=>by
    match i,hx with
    |0,hx =>
     cases hx;exact⟨t,rfl,ht.mono (z7 s1),p1.1⟩
    |1,hx =>
     cases hx;exact⟨t',rfl,Ho.mono (z7 s1),p1.2⟩
    |i+2,hx=>simp at hx
   cases o with
   |con =>
    dsimp only[Op2.word]at ha;walk_at"rp";refine⟨_,_,.inr ha,rfl,?_⟩;walk_at"rp";refine .inr ⟨_,ha,λp H1 s1 h1=>.inr ⟨⟨_,h1⟩,λC s₀ H₀ ex=>?_⟩⟩;refine rB (us:=[u,u']) (ts:=[t,t']) (λ_ _ _=>rfl) s1 h1 rfl (by simp) (hu s1) λD H2 s2 e2=>?_;have nW:=(z7 s2).sqT ha;refine⟨_,_,.inr nW,rfl,?_⟩;walk_at"rp";refine⟨_,_,.inr nW,rfl,?_⟩;walk_at"rp";refine⟨_,SqL.of e2,by simp,?_⟩;have:=q H2 s2;simpa[Say.so,Op2.so]using this
   |dis =>
    dsimp only[Op2.word]at ha;walk_at"rp";refine⟨_,_,.inr ha,rfl,?_⟩;walk_at"rp";refine .inr ⟨_,ha,λp H1 s1 h1=>.inr ⟨⟨_,h1⟩,λC s₀ H₀ ex=>?_⟩⟩;refine rB (us:=[u,u']) (ts:=[t,t']) (λ_ _ _=>rfl) s1 h1 rfl (by simp) (hu s1) λD H2 s2 e2=>?_;have nW:=(z7 s2).sqT ha;refine⟨_,_,.inr nW,rfl,?_⟩;walk_at"rp";refine⟨_,_,.inr nW,rfl,?_⟩;walk_at"rp";refine⟨_,_,.inr nW,rfl,?_⟩;walk_at"rp";refine⟨_,SqL.of e2,by simp,?_⟩;have:=q H2 s2;simpa[Say.so,Op2.so]using this
   |imp =>
    dsimp only[Op2.word]at ha;walk_at"rp";refine⟨_,_,.inr ha,rfl,?_⟩;walk_at"rp";refine .inr ⟨_,ha,λp H1 s1 h1=>.inr ⟨⟨_,h1⟩,λC s₀ H₀ ex=>?_⟩⟩;refine rB (us:=[u,u']) (ts:=[t,t']) (λ_ _ _=>rfl) s1 h1 rfl (by simp) (hu s1) λD H2 s2 e2=>?_;have nW:=(z7 s2).sqT ha;refine⟨_,_,.inr nW,rfl,?_⟩;walk_at"rp";refine⟨_,_,.inr nW,rfl,?_⟩;walk_at"rp";refine⟨_,_,.inr nW,rfl,?_⟩;walk_at"rp";refine⟨_,_,.inl (SqL.of e2),rfl,?_⟩;refine⟨_,_,.inl (SqL.of e2),rfl,?_⟩;exact q H2 s2
def Wl(K:W.Frag):Sp:=λvs H Q _=>∃(n:Int)(b:Addr)(xs:List Str),vs=[.int n,.ref b]/\(SqL K H b (xs.map V.str)\/SqT K H b (xs.map V.str))/\xs.length<=100/\∀(r:Addr)(H':Hp),Same H H'->SqT K H' r ((za n xs).map V.str)->Q (.ref r) H'
theorem sc_held:zj ["_law_number","_law_names_here","_law_held_here","_law_name"] ["_law_number","_law_names_here"] (z0 (top 36)):=⟨rfl,rfl,rfl,by decide +kernel,rfl,by decide +kernel,by decide +kernel⟩
theorem S5(D:Def K mg "_law_held" (top 36) ["_law_number","_law_names_here"])(aD:mg "tuple"=none):zw P w K mg base 1 "_law_held" ["_law_number","_law_names_here"] (Wl K):=by
 refine D.callee sc_held (λvs H Q E h=>?_) λf cdv A outer s H vs Q E hr h=>?_
 ·obtain⟨n,b,xs,rfl,_⟩:=h
  rfl
 have nd:=sc_held.nd;obtain⟨n,b,xs,rfl,hb,hx,q⟩:=h;refine⟨[some (.int n),some (.ref b),none,none],_,rfl,(z5 (zp 2 nd (xp z6))
  (z5 (wx yJ rfl (ym (z8 1)) (v6 3 nd) (z5 (y8 (zb (xh hr.units) (zv vt (z8 0) z4) z4 (zf _)) (zz (wm (d7 uE uD Vl (z8 2) (z9 (z8 3) z6)))) zm)
  (zz (zp 0 nd (zv ar (z8 0) z4)))))
  (zz (zr (yt xu rfl aD yl (z9 (z8 2) z6)))))),?_⟩
 walk_at"rp";refine⟨zn (by simp),λp H1 n1 s1 e1=>?_⟩;have aN:(xs.map V.str).length=xs.length:=zX _;have GV:∃(m:Int)(aO:List Str)(nv:Option V),([some (V.int n),some (V.ref b),some (V.ref p),none]:List (Option V))=[some (.int m),some (.ref b),some (.ref p),nv]/\aO++za m (xs.drop 0)=za n xs/\H1 p=some (.lst (aO.map V.str))/\Same H H1/\aO.length<=0 :=
  ⟨n,[],none,rfl,rfl,e1,s1,zS _⟩
 have cB:∀(σ:L2.St)(H2:Hp),(∃(m:Int)(aO:List Str)(nv:Option V),σ=[some (.int m),some (.ref b),some (.ref p),nv]/\aO++za m (xs.drop (xs.map V.str).length)=za n xs/\H2 p=some (.lst (aO.map V.str))/\Same H H2/\aO.length<=(xs.map V.str).length) ->
   H2 p=some (.lst ((za n xs).map V.str))/\Same H H2/\gv σ 2=some (.ref p):=by
  rintro σ H2 ⟨m,aO,nv,rfl,e,ep,s2,_⟩;rw[aN,List.drop_length]at e;have e':aO=za n xs:=by simpa[za]using e
  rw[<-e'];exact⟨ep,s2,rfl⟩
 have Fi:∀(σ:L2.St)(H2:Hp),(∃(m:Int)(aO:List Str)(nv:Option V),σ=[some (.int m),some (.ref b),some (.ref p),nv]/\aO++za m (xs.drop (xs.map V.str).length)=za n xs/\H2 p=some (.lst (aO.map V.str))/\Same H H2/\aO.length<=(xs.map V.str).length) ->
   ∃ys,(SqL K H2 p ys\/SqT K H2 p ys)/\∀(r:Addr)(H':Hp),Same H2 H'->SqT K H' r ys->Q (.ref r) H':=by
  intro σ H2 h;obtain⟨ep,s2,_⟩:=cB σ H2 h;exact⟨_,.inl (SqL.of ep),λr H' s3 hr=>q r H' (s2.trans s3) hr⟩
 have step:∀(i:Nat)(x:V),(xs.map V.str)[i]?=some x->∃y,x = .str y/\i<xs.length/\xs.drop i=y::xs.drop (i+1):=by
  intro i x hx;rw[zE]at hx;cases e:xs[i]? with
  |none=>rw[e]at hx;cases hx
  |some y =>
   rw[e]at hx;obtain⟨hi,ey⟩:=zU.mp e;exact⟨y,(zB hx).symm,hi,by rw[vY hi,ey]⟩
 rcases hb with hb|hb
 ·refine .inl ⟨⟨_,s1.seq hb⟩,qp (xs:=xs.map V.str) (λi σ H2=>∃(m:Int)(aO:List Str)(nv:Option V),σ=[some (.int m),some (.ref b),some (.ref p),nv]/\aO++za m (xs.drop i)=za n xs/\H2 p=some (.lst (aO.map V.str))/\Same H H2/\aO.length<=i) GV ?_ ?_ ?_⟩
  ·rintro i σ H2 _ ⟨m,aO,nv,rfl,e,ep,s2,_⟩;exact s2.seq hb
  ·rintro i x σ H2 mW ⟨m,aO,nv,rfl,e,ep,s2,ha⟩;obtain⟨y,rfl,hi,ed⟩:=step i x mW;rw[ed]at e;walk_at"rp";refine⟨by decide,xa (λc=>?_) (λc=>?_)⟩
   ·have c':m % 2=1:=yN c;rw[za,yS c']at e;refine⟨⟨_,_,rfl,ep⟩,_,ep,by rw[zX];exact uv (by lia),⟨by decide,by decide⟩,m / 2,aO++[y],_,rfl,by rw[xN];exact e,by rw[zy,zP];rfl,zu s2 n1 _,by rw[zN,xB];lia⟩
   ·have c':¬m % 2=1:=λz=>c (yU z);rw[za,yY c']at e;exact⟨⟨by decide,by decide⟩,m / 2,aO,_,rfl,e,ep,s2,by lia⟩
  ·intro σ H2 h;obtain⟨m,aO,nv,rfl,_⟩:=id h;walk_at"rp";exact Fi _ H2 h
 ·refine .inr ⟨⟨_,(z7 s1).sqT hb⟩,xf (xs:=xs.map V.str) (λi σ H2=>∃(m:Int)(aO:List Str)(nv:Option V),σ=[some (.int m),some (.ref b),some (.ref p),nv]/\aO++za m (xs.drop i)=za n xs/\H2 p=some (.lst (aO.map V.str))/\Same H H2/\aO.length<=i) GV ?_ ?_ ?_⟩
  ·rintro i σ H2 _ ⟨m,aO,nv,rfl,e,ep,s2,_⟩;exact(z7 s2).sqT hb
  ·rintro i x σ H2 mW ⟨m,aO,nv,rfl,e,ep,s2,ha⟩;obtain⟨y,rfl,hi,ed⟩:=step i x mW;rw[ed]at e;walk_at"rp";refine⟨by decide,xa (λc=>?_) (λc=>?_)⟩
   ·have c':m % 2=1:=yN c;rw[za,yS c']at e;refine⟨⟨_,_,rfl,ep⟩,_,ep,by rw[zX];exact uv (by lia),⟨by decide,by decide⟩,m / 2,aO++[y],_,rfl,by rw[xN];exact e,by rw[zy,zP];rfl,zu s2 n1 _,by rw[zN,xB];lia⟩
   ·have c':¬m % 2=1:=λz=>c (yU z);rw[za,yY c']at e;exact⟨⟨by decide,by decide⟩,m / 2,aO,_,rfl,e,ep,s2,by lia⟩
  ·intro σ H2 h;obtain⟨m,aO,nv,rfl,_⟩:=id h;walk_at"rp";exact Fi _ H2 h
def gc(K:W.Frag)(n:Nat):Sp:=λvs H Q _=>∃(v:V)(s:Say),vs=[v]/\SayAt K H v s/\s.pieces<=n/\s.pieces<=1000/\∀(p:Addr)(H':Hp),H p=none->Same H H'->H' p=some (.lst (s.letters.map V.str))->Q (.ref p) H'
theorem sc_within:zj ["_law_saying_here","_law_found","_law_part"] ["_law_saying_here"] (z0 (top 37)):=⟨rfl,rfl,rfl,by decide +kernel,rfl,by decide +kernel,by decide +kernel⟩
theorem j8(D:Def K mg "_law_within" (top 37) ["_law_saying_here"]):∀n:Nat,zw P w K mg base n "_law_within" ["_law_saying_here"] (gc K n)
 |0=>xx D λvs H Q E h=>by
  obtain⟨v,s,_,_,hp,_⟩:=h;exact absurd s.pieces_pos (by lia)
 |n+1=>by
  have cJ:=j8 D n;refine D.callee sc_within (λvs H Q E h=>?_) λf cdv A outer s H vs Q E hr h=>?_
  ·obtain⟨v,s,rfl,_⟩:=h
   rfl
  have nd:=sc_within.nd;obtain⟨v,s,rfl,hv,hp,sC,q⟩:=h;refine⟨[some v,none,none],_,rfl,(z5 (y8 (zb (xh hr.units) (yh (z8 0) z4 (λ_ _=>rfl)) zo (zf _)) (zz (zr (xp (z9 (yh (z8 0) z4 (λ_ _=>rfl)) z6)))) zm)
  (z5 (zp 1 nd (xp z6))
  (z5 (wx yJ rfl (ym (zc (z8 0) (yz z4) zd)) (v6 2 nd) (zz (zp 1 nd (zv zh (z8 1) (zx cJ hr (by lia) (z9 (z8 2) z6))))))
  (zz (zr (z8 1)))))),?_⟩
  by_cases hs:s.subs=[]
  ·cases s with
   |letter x =>
    obtain⟨a,rfl,ha⟩:=hv;walk_at"rp";refine⟨_,_,.inr ha,rfl,?_⟩;walk_at"rp";refine⟨_,_,.inr ha,rfl,?_⟩;walk_at"rp";exact⟨zn (by simp),λp H1 n1 s1 e1=>q p H1 n1 s1 e1⟩
   |neg t=>simp[Say.subs]at hs
   |bin o t t'=>simp[Say.subs]at hs
  ·obtain⟨a,wd,us,rfl,ha,hw,hl,kW,hu⟩:=m4 hv hs;walk_at"rp";refine⟨_,_,.inr ha,oi _ _,?_⟩;walk_at"rp";rw[hw];walk_at"rp";refine⟨zn (by simp),λr H0 n0 s0 e0=>?_⟩;refine .inr ⟨_,(z7 s0).sqT ha,λp H1 s1 h1=>.inr ⟨⟨_,h1⟩,?_⟩⟩;rw[rn]at h1;refine xf (xs:=us) (λi σ H2=>∃(r:Addr)(iv:Option V),σ=[some (.ref a),some (.ref r),iv]/\H r=none/\H2 r=some (.lst ((((s.subs.take i).map Say.letters).flatten).map V.str))/\Same H H2/\Same H1 H2/\i<=us.length) ⟨r,none,rfl,n0,s1 _ _ e0,s0.trans s1,Same.refl _,yO _⟩ ?_ ?_ ?_
   ·rintro i σ H2 _ ⟨r,iv,rfl,_,_,_,s2,_⟩;exact(z7 s2).sqT h1
   ·rintro i x σ H2 hx ⟨r,iv,rfl,nr,e2,s2,s2',hi⟩;obtain⟨t,ht,sv,pc⟩:=hu i x hx;walk_at"rp";refine⟨x,t,rfl,sv.mono (z7 s2),by lia,by lia,λz H3 n3 s3 e3=>?_⟩;walk_at"rp";have b1:=lz (s.subs.take i);have b2:=nz Say.pieces s.subs i;have b3:=u8 s;have b4:=yq t;refine .inl ⟨_,_,s3 _ _ e2,e3,by rw[zX,zX,zD];lia,λr2 H4 n4 s4 e4=>⟨r2,some x,rfl,yx (s2.trans s3) n4,?_,s2.trans (s3.trans s4),s2'.trans (s3.trans s4),(zU.mp hx).1⟩⟩;rw[e4,yX,ht];simp
   ·rintro σ H2 ⟨r,iv,rfl,nr,e2,s2,_,_⟩;walk_at"rp";rw[hl,yV,<-t6 hs]at e2;exact q r H2 nr s2 e2
def nh(K:W.Frag):Sp:=λvs H Q _=>∃(a:Addr)(us:List V)(ts:List Say)(xs:List Str),vs=[.ref a]/\SqT K H a us/\SaysAt K H us ts/\Lst ts xs/\∀(p:Addr)(H':Hp)(ss:List Str),H p=none->Same H H'->H' p=some (.lst (ss.map V.str))->NamesOf ts ss->Q (.ref p) H'
theorem sc_allnames:zj ["_law_sayings","_law_found","_law_saying_here"] ["_law_sayings"] (z0 (top 38)):=⟨rfl,rfl,rfl,by decide +kernel,rfl,by decide +kernel,by decide +kernel⟩
theorem fb(D:Def K mg "_law_all_names" (top 38) ["_law_sayings"])(cJ:zw P w K mg base 40 "_law_within" ["_law_saying_here"] (gc K 40))(aK:mg "sorted"=none)(aR:mg "set"=none):zw P w K mg base 41 "_law_all_names" ["_law_sayings"] (nh K):=by
 refine D.callee sc_allnames (λvs H Q E h=>?_) λf cdv A outer s H vs Q E hr h=>?_
 ·obtain⟨a,us,ts,xs,rfl,_⟩:=h
  rfl
 have nd:=sc_allnames.nd;obtain⟨a,us,ts,xs,rfl,ha,hS,hL,q⟩:=h;have hl:=hS.len;refine⟨[some (.ref a),none,none],_,rfl,(z5 (zp 1 nd (xp z6))
  (z5 (wx yJ rfl (ym (z8 0)) (v6 2 nd) (zz (zp 1 nd (zv zh (z8 1) (zx cJ hr (by lia) (z9 (z8 2) z6))))))
  (zz (zr (xj rfl hr.units rfl aK rfl aR (z8 1)))))),?_⟩
 walk_at"rp";refine⟨zn (by simp),λr H1 n1 s1 e1=>?_⟩;refine .inr ⟨⟨_,(z7 s1).sqT ha⟩,xf (xs:=us) (λi σ H2=>∃(r:Addr)(iv:Option V),σ=[some (.ref a),some (.ref r),iv]/\H2 r=some (.lst ((w4 (ts.take i)).map V.str))/\Same H H2) ⟨r,none,rfl,e1,s1⟩ ?_ ?_ ?_⟩
 ·rintro i σ H2 _ ⟨r,iv,rfl,_,s2⟩;exact(z7 s2).sqT ha
 ·rintro i x σ H2 hx ⟨r,iv,rfl,e2,s2⟩;obtain⟨t,ht,sv⟩:=hS.at i x hx;have mX:=zM ht;have hi:i<us.length:=(zU.mp hx).1;have h6:=hL.hi;walk_at"rp";refine⟨x,t,rfl,sv.mono (z7 s2),hL.pc t mX,by have:=hL.pc t mX;lia,λp H3 n3 s3 e3=>?_⟩;walk_at"rp";have h1:=lm (ts.take i) λu hu=>hL.pc u (xE hu);have h2:=yq t;have h3:=hL.pc t mX;have h4:(ts.take i).length<=6:=by rw[yE];lia
  refine .inl ⟨_,_,s3 _ _ e2,e3,by rw[zX,zX,zD];lia,λr2 H4 n4 s4 e4=>⟨r2,some x,rfl,?_,s2.trans (s3.trans s4)⟩⟩;rw[e4,qh ht,zP]
 ·rintro σ H2 ⟨r,iv,rfl,e2,s2⟩;rw[hl,yV]at e2;have h6:=hL.hi;have h1:=lm ts hL.pc;walk_at"rp";refine .inl ⟨_,.inl (SqL.of e2),by unfold scanBound;lia,λbW hn hs=>?_,λbW hn HB gO p H3 n3 s3 e3=>?_⟩
  ·have:=yj hn λy hy=>hL.nm y (hs y hy);have:=hL.xl;lia
  ·exact q p H3 bW (yx s2 n3) (s2.trans s3) e3 ⟨hn,HB,gO⟩
theorem sc_lawrow:zj ["_law_sayings","_law_held_here"] ["_law_sayings","_law_held_here"] (z0 (top 42)):=⟨rfl,rfl,rfl,by decide +kernel,rfl,by decide +kernel,by decide +kernel⟩
theorem X6(D:Def K mg "_law_row" (top 42) ["_law_sayings","_law_held_here"])(hV:zw P w K mg base 40 "_law_so" ["_law_saying_here","_law_held_here"] (jc K 40))(aD:mg "tuple"=none):zw P w K mg base 41 "_law_row" ["_law_sayings","_law_held_here"] (o6 K):=by
 refine D.callee sc_lawrow (λvs H Q E h=>?_) λf cdv A outer s H vs Q E hr h=>?_
 ·obtain⟨a,h,us,ts,xs,hs,rfl,_⟩:=h
  rfl
 have nd:=sc_lawrow.nd;obtain⟨a,h,us,ts,xs,hs,rfl,ha,hS,hL,hh,q⟩:=h;have hl:=hS.len;have h6:=hL.hi;refine⟨[some (.ref a),some (.ref h)],_,rfl,(zz (zr (yt xu rfl aD yl (z9 (yg (ixs:=[1]) (y9 (own:=["_law_saying_here"]) (N:=["_law_held_here"]) rfl rfl rfl rfl rfl rfl rfl (by decide +kernel) rfl rfl rfl) rfl (ym (z8 0)) (λ_ _ _ _=>yp) (λ_ _ _ _=>(zx hV hr (by lia) (z9 (z8 0) (z9 (z8 1) z6)))) rfl) z6)))),?_⟩;walk_at"rp";refine .inr ⟨⟨_,ha⟩,λC s₀ H₀ ex=>?_⟩;refine uz (xs:=us) (λD i ys H2=>ys=((ts.take i).map λt=>t.so hs).map V.bl/\i<=us.length/\H2 D=some (.lst ys)/\Same H H2/\H D=none) (by rw[zD];lia) ?_ ?_ ?_ ?_
 ·intro D H2 n2 s2 e2;exact⟨rfl,yO _,e2,s2,n2⟩
 ·rintro D i ys H2 ⟨rfl,hi,e2,s2,_⟩;exact⟨(z7 s2).sqT ha,e2,by simp;lia⟩
 ·rintro D i v ys H2 hv ⟨rfl,hi,e2,s2,n2⟩;obtain⟨t,ht,sv⟩:=hS.at i v hv;walk_at"rp";refine⟨v,h,t,hs,rfl,sv.mono (z7 s2),hL.pc t (zM ht),(z7 s2).sqT hh,λH3 s3=>⟨s3 _ _ e2,CN.mk (zU.mp hv).1 ⟨?_,(zU.mp hv).1,zy,zu (s2.trans s3) n2 _,n2⟩⟩⟩;rw[yX,ht];simp
 ·rintro D ys H2 ⟨rfl,hi,e2,s2,n2⟩;rw[hl,yV]at e2;exact⟨_,.inl (SqL.of e2),λp H3 s3 h3=>q p H3 (s2.trans s3) h3⟩
theorem sc_lawfit:zj ["_law_sayings","_law_names_here","_law_number","_law_name"] ["_law_sayings"] (z0 (top 43)):=⟨rfl,rfl,rfl,by decide +kernel,rfl,by decide +kernel,by decide +kernel⟩
theorem X5(D:Def K mg "_law_fit_rows" (top 43) ["_law_sayings"])(fW:zw P w K mg base 41 "_law_all_names" ["_law_sayings"] (nh K))(nD:zw P w K mg base 41 "_law_row" ["_law_sayings","_law_held_here"] (o6 K))(lP:zw P w K mg base 1 "_law_held" ["_law_number","_law_names_here"] (Wl K))
  (aK:mg "sorted"=none) (aR:mg "set"=none) (aG:mg "range"=none):zw P w K mg base 42 "_law_fit_rows" ["_law_sayings"] (vw K):=by
 refine D.callee sc_lawfit (λvs H Q E h=>?_) λf cdv A outer s H vs Q E hr h=>?_
 ·obtain⟨a,us,ts,xs,rfl,_⟩:=h
  rfl
 have nd:=sc_lawfit.nd;obtain⟨a,us,ts,xs,rfl,ha,hS,hL,q⟩:=h;refine⟨[some (.ref a),none,none,none],_,rfl,(z5 (zp 1 nd (zx fW hr (by lia) (z9 (z8 0) z6)))
  (z5 (zp 2 nd z4)
  (z5 (wx yJ rfl (ym (z8 1)) (v6 3 nd) (zz (zp 2 nd (zv vv z4 (z8 2)))))
  (zz (zr (xj rfl hr.units rfl aK rfl aR (yg (ixs:=[0,1]) (y9 (own:=["_law_k"]) (N:=["_law_sayings","_law_names_here"]) rfl rfl rfl rfl rfl rfl rfl (by decide +kernel) rfl rfl rfl) rfl (ye rfl aG (z9 (z8 2) z6)) (λ_ _ _ _=>yp) (λ_ _ _ _=>(zx nD hr (by lia) (z9 (z8 1) (z9 (zx lP hr (by lia) (z9 (z8 0) (z9 (z8 2) z6))) z6)))) rfl))))))),?_⟩
 walk_at"rp";refine⟨a,us,ts,xs,rfl,ha,hS,hL,λb H1 ss nb s1 hb hN=>?_⟩;obtain⟨Hs,hsn⟩:=hL.names hN;have p5:=Wa Hs;walk_at"rp";refine .inl ⟨⟨_,SqL.of hb⟩,qp (xs:=ss.map V.str) (λi σ H2=>∃nv,σ=[some (.ref a),some (.ref b),some (.int ((2 ^ i:Nat):Int)),nv]/\H2=H1) ⟨none,rfl,rfl⟩ ?_ ?_ ?_⟩
 ·rintro i σ H2 _ ⟨nv,rfl,rfl⟩;exact SqL.of hb
 ·rintro i x σ H2 mW ⟨nv,rfl,rfl⟩;walk_at"rp";refine⟨cm (by decide),some x,?_,trivial⟩;rw[sS,Int.natCast_mul,Int.mul_comm]
  rfl
 rintro σ H2 ⟨nv,rfl,rfl⟩;walk_at"rp";rw[zX];have p5':((2 ^ ss.length:Nat):Int)<=32:=Int.ofNat_le.mpr p5;have p50:(0:Int)<=((2 ^ ss.length:Nat):Int):=Int.natCast_nonneg _;refine⟨⟨by lia,by lia⟩,?_⟩;rw[yG];intro C s₀ H₀ ex;refine xk (λD i ys H3=>∃R:List (Addr×List Bool),ys=(R.map λr=>V.ref r.1)/\R.map (·.2)=(List.range i).map (λ(n:Nat)=>uj ts (za (n:Int) ss))/\(∀r∈R,SqT K H3 r.1 (r.2.map V.bl))/\H3 D=some (.lst ys)/\Same H2 H3/\H2 D=none) (by rw[zD];lia) ?_ ?_ ?_ ?_
 ·intro D H3 n3 s3 e3;exact⟨[],rfl,rfl,λr hr=>by simp at hr,e3,s3,n3⟩
 ·rintro D i ys H3 ⟨R,rfl,hR,_,e3,s3,_⟩;refine⟨e3,?_⟩;have:=xF List.length hR;simpa using this
 ·rintro D i ys H3 hi ⟨R,rfl,hR,hT,e3,s3,n3⟩;walk_at"rp";rw[Int.zero_add];refine⟨_,b,ss,rfl,.inl (s3.seq (SqL.of hb)),by lia,λc H4 s4 h4=>?_⟩;refine⟨a,c,us,ts,xs,_,rfl,(z7 (s1.trans (s3.trans s4))).sqT ha,hS.mono (z7 (s1.trans (s3.trans s4))),hL,h4,λp H5 s5 h5=>⟨(s4.trans s5) _ _ e3,CN.mk hi ⟨R++[(p,uj ts (za (i:Int) ss))],by rw[zP];rfl,?_,λr hr=>?_,zy,zu (s3.trans (s4.trans s5)) n3 _,n3⟩⟩⟩
  ·rw[zP,hR,List.range_succ,zP]
   rfl
  ·have tl:=yf (o:=.lst ((R.map λr=>V.ref r.1)++[V.ref p])) ((s4.trans s5) _ _ e3);rcases zO.mp hr with hr|hr
   ·exact tl.sqT ((z7 (s4.trans s5)).sqT (hT r hr))
   ·rw[zW.mp hr];exact tl.sqT h5
 ·rintro D ys H3 ⟨R,rfl,hR,hT,e3,s3,n3⟩;have hRl:R.length=2 ^ ss.length:=by
   have:=xF List.length hR;simpa using this
  refine .inr ⟨R,SqL.of e3,λr hr=>⟨hT r hr,?_⟩,by lia,λR' iH mJ fJ gO Be p H4 n4 s4 e4=>?_⟩
  ·have:r.2∈R.map (·.2):=yK hr;rw[hR]at this;obtain⟨n,_,e⟩:=zF.mp this;intro z;rw[<-e]at z;have h1:=qw ts (za (n:Int) ss);rw[z]at h1;have:=hL.lo;simp at h1;lia
  ·refine q p H4 ss R' (yx (s1.trans s3) n4) (s1.trans (s3.trans s4)) e4 (λr hr=>(z7 s4).sqT (hT r (iH r hr))) hN ⟨mJ,λk=>?_,gO⟩ (by lia);rw[fJ k,hR,zF];constructor
   ·rintro⟨n,hn,rfl⟩;exact⟨n,yB.mp hn,rfl⟩
   ·rintro⟨n,hn,rfl⟩;exact⟨n,yB.mpr hn,rfl⟩
def ln:Nat->List (List Bool)
 |0=>[[]]
 |n+1=>(ln n).map (·++[false])++(ln n).map (·++[true])
theorem rk:∀n:Nat,(ln n).length=2 ^ n
 |0=>rfl
 |n+1=>by rw[ln,zN,zX,zX,rk n,sS];lia
theorem pq{c:Bool}(a b:List Bool)(h:a++[c]=b++[c]):a=b:=List.append_cancel_right h
theorem ua:∀n:Nat,(ln n).Nodup
 |0=>by simp[ln]
 |n+1=>by
  rw[ln,List.nodup_append];refine⟨ut pq (ua n),ut pq (ua n),λa ha b hb e=>?_⟩;obtain⟨x,_,rfl⟩:=zF.mp ha;obtain⟨y,_,rfl⟩:=zF.mp hb;have:=xF List.getLast? e;simp at this
def vn(R:List (Addr×List Bool))(k:List Bool):Bool:=!(R.any λq=>q.2==k)
theorem cu{R:List (Addr×List Bool)}{m:Nat}(h:R.length<2 ^ m):((ln m).filter (vn R)).length≠0:=λz=>by
 have e:=List.eq_nil_of_length_eq_zero z;have:=yj (ua m) (m:=R.map (·.2)) λk hk=>by
  have:vn R k≠true:=λc=>by
   have:=uA.mpr ⟨hk,c⟩;rw[e]at this;cases this
  unfold vn at this;obtain⟨x,hx⟩:∃x,(x,k)∈R:=by simpa using this
  exact zF.mpr ⟨(x,k),hx,rfl⟩
 rw[rk,zX]at this;lia
theorem nw{α:Type}{f:α->List Bool}{l:List α}{i:Nat}{x:α}(h:l[i]?=some x):((l.take (i+1)).map f)=(l.take i).map f++[f x]:=by
 rw[yX,h,zP]
 rfl
def Zu(K:W.Frag):Sp:=λvs H Q _=>∃(r:Addr)(R:List (Addr×List Bool))(m:Nat),vs=[.ref r,.int (m:Int)]/\H r=some (.lst (R.map λq=>V.ref q.1))/\(∀q∈R,SqT K H q.1 (q.2.map V.bl))/\m<=6 /\
 ∀(p:Addr)(H':Hp)(U:List (Addr×List Bool)),Same H H'->H' p=some (.lst (U.map λq=>V.ref q.1))->(∀q∈U,SqT K H' q.1 (q.2.map V.bl))->U.map (·.2)=(ln m).filter (vn R)->Q (.ref p) H'
theorem sc_unfit:zj ["_law_fit","_law_many","_law_rows","_law_k"] ["_law_fit","_law_many"] (z0 (top 47)):=⟨rfl,rfl,rfl,by decide +kernel,rfl,by decide +kernel,by decide +kernel⟩
theorem SqT.ups{H H':Hp}{U:List (Addr×List Bool)}(s:Same H H')(h:∀q∈U,SqT K H q.1 (q.2.map V.bl)):∀q∈U,SqT K H' q.1 (q.2.map V.bl):=λq hq=>(z7 s).sqT (h q hq)
theorem Vx(D:Def K mg "_law_unfit" (top 47) ["_law_fit","_law_many"])(aG:mg "range"=none):zw P w K mg base 1 "_law_unfit" ["_law_fit","_law_many"] (Zu K):=by
 refine D.callee sc_unfit (λvs H Q E h=>?_) λf cdv A outer s H vs Q E hr h=>?_
 ·obtain⟨r,R,m,rfl,_⟩:=h
  rfl
 have nd:=sc_unfit.nd;obtain⟨r,R,m,rfl,AT,hR,hm6,q⟩:=h;refine⟨[some (.ref r),some (.int (m:Int)),none,none],_,rfl,(z5 (zp 2 nd (xp (z9 (yy z6) z6)))
  (z5 (wx yJ rfl (ye rfl aG (z9 (z8 1) z6)) (v6 3 nd) (zz (zp 2 nd (zv zh (yg (ixs:=[]) (y9 (own:=["_law_row_here"]) (N:=[]) rfl rfl rfl rfl rfl rfl rfl (by decide +kernel) rfl rfl rfl) rfl (ym (z8 2)) (λ_ _ _ _=>yp) (λ_ _ _ _=>(zv zh (z8 0) (yy (z9 xq z6)))) rfl) (yg (ixs:=[]) (y9 (own:=["_law_row_here"]) (N:=[]) rfl rfl rfl rfl rfl rfl rfl (by decide +kernel) rfl rfl rfl) rfl (ym (z8 2)) (λ_ _ _ _=>yp) (λ_ _ _ _=>(zv zh (z8 0) (yy (z9 xq z6)))) rfl)))))
  (zz (zr (yg (ixs:=[0]) (y9 (own:=["_law_row_here"]) (N:=["_law_fit"]) rfl rfl rfl rfl rfl rfl rfl (by decide +kernel) rfl rfl rfl) rfl (ym (z8 2)) (λ_ _ _ _=>(Tn (zb (Vq hr.units) (z8 0) (z8 1) (by with_unfolding_all rfl)))) (λ_ _ _ _=>(z8 0)) rfl))))),?_⟩
 walk_at"rp";refine⟨zn (by simp),λp0 H0 n0 s0 e0=>?_⟩;walk_at"rp";refine⟨zn (by simp),λp1 H1 n1 s1 e1=>?_⟩;walk_at"rp";refine⟨⟨by lia,by lia⟩,?_⟩;rw[show((m:Nat):Int).toNat=m from yG _];refine wt (λi σ H2=>∃(p:Addr)(U:List (Addr×List Bool))(kv:Option V),σ=[some (.ref r),some (.int (m:Int)),some (.ref p),kv]/\H2 p=some (.lst (U.map λq=>V.ref q.1))/\(∀q∈U,SqT K H2 q.1 (q.2.map V.bl))/\U.map (·.2)=ln i/\(∀q∈U,q.2.length=i)/\Same H H2) ⟨p1,[(p0,[])],none,rfl,e1,λq hq=>?_,rfl,λq hq=>by rw[zW.mp hq];rfl,s0.trans s1⟩ ?_ ?_
 ·rw[zW.mp hq];exact SqT.of (s1 _ _ e0)
 ·rintro i σ H2 hi ⟨p,U,kv,rfl,e2,hU,Ig,hUn,s2⟩;have hUl:U.length=2 ^ i:=by
   have:=xF List.length Ig;rw[zX,rk]at this;exact this
  have sQ:2 ^ i<=64:=uS (n:=2) (by decide) (show i<=6 by lia);walk_at"rp";refine .inl ⟨⟨_,SqL.of ((Same.refl H2) _ _ e2)⟩,λC s₀ H₀ ex=>?_⟩;refine wb (xs:=U.map λq=>V.ref q.1) (λD i ys H3=>∃W:List (Addr×List Bool),ys=(W.map λq=>V.ref q.1)/\W.length=i/\(∀q∈W,SqT K H3 q.1 (q.2.map V.bl))/\W.map (·.2)=(U.take i).map (λq=>q.2++[false])/\H3 D=some (.lst ys)/\Same H2 H3/\H2 D=none) (by rw[zX,zD,hUl];lia) ?_ ?_ ?_ ?_
  ·intro D H3 n3 s3 e3;exact⟨[],rfl,rfl,(λq hq=>by cases hq),(by simp),e3,s3,n3⟩
  ·rintro D i ys H3 ⟨W,rfl,hl,_,_,e3,s3,_⟩;exact⟨SqL.of (s3 _ _ ((Same.refl H2) _ _ e2)),e3,by rw[zX];exact hl⟩
  ·rintro D i v ys H3 hv ⟨W,rfl,hl,hW,hm,e3,s3,n3⟩;rw[zE]at hv;cases hc:U[i]? with
   |none=>rw[hc]at hv;cases hv
   |some e =>
    rw[hc]at hv;cases hv;have hem:=hU e (zM hc);have qR:=hUn e (zM hc);walk_at"rp";refine⟨zn (by simp),λt H4 n4 s4 e4=>?_⟩;walk_at"rp";have kM:=s3.trans s4;refine .inr ⟨_,_,(z7 kM).sqT ((z7 (Same.refl H2)).sqT hem),SqT.of e4,by rw[zX];exact zn (by simp;lia),λt2 H5 s5 h5=>?_⟩;have BY:=(s4.trans s5) _ _ e3;refine⟨BY,CN.mk (by rw[zX];exact(zU.mp hc).1) ⟨W++[(t2,e.2++[false])],by rw[zP];rfl,by rw[zN,hl];rfl,λq hq=>?_,by rw[zP,hm,nw hc];rfl,zy,zu (kM.trans s5) n3 _,n3⟩⟩;have tl:=yf (o:=.lst ((W.map λq=>V.ref q.1)++[V.ref t2])) BY;rcases zO.mp hq with z|z
    ·exact tl.sqT ((z7 (s4.trans s5)).sqT (hW q z))
    ·rw[zW.mp z];have h5':=tl.sqT h5;rw[zP];exact h5'
  rintro l1 ys1 Ha ⟨W1,rfl,mY,hW1,HD,ea,sa,na⟩;rw[zX]at mY HD;rw[yV]at HD;walk_at"rp";refine .inl ⟨⟨_,SqL.of (sa _ _ e2)⟩,λC s₀ H₀ ex=>?_⟩;refine wb (xs:=U.map λq=>V.ref q.1) (λD i ys H3=>∃W:List (Addr×List Bool),ys=(W.map λq=>V.ref q.1)/\W.length=i/\(∀q∈W,SqT K H3 q.1 (q.2.map V.bl))/\W.map (·.2)=(U.take i).map (λq=>q.2++[true])/\H3 D=some (.lst ys)/\Same Ha H3/\Ha D=none) (by rw[zX,zD,hUl];lia) ?_ ?_ ?_ ?_
  ·intro D H3 n3 s3 e3;exact⟨[],rfl,rfl,(λq hq=>by cases hq),(by simp),e3,s3,n3⟩
  ·rintro D i ys H3 ⟨W,rfl,hl,_,_,e3,s3,_⟩;exact⟨SqL.of (s3 _ _ (sa _ _ e2)),e3,by rw[zX];exact hl⟩
  ·rintro D i v ys H3 hv ⟨W,rfl,hl,hW,hm,e3,s3,n3⟩;rw[zE]at hv;cases hc:U[i]? with
   |none=>rw[hc]at hv;cases hv
   |some e =>
    rw[hc]at hv;cases hv;have hem:=hU e (zM hc);have qR:=hUn e (zM hc);walk_at"rp";refine⟨zn (by simp),λt H4 n4 s4 e4=>?_⟩;walk_at"rp";have kM:=s3.trans s4;refine .inr ⟨_,_,(z7 kM).sqT ((z7 sa).sqT hem),SqT.of e4,by rw[zX];exact zn (by simp;lia),λt2 H5 s5 h5=>?_⟩;have BY:=(s4.trans s5) _ _ e3;refine⟨BY,CN.mk (by rw[zX];exact(zU.mp hc).1) ⟨W++[(t2,e.2++[true])],by rw[zP];rfl,by rw[zN,hl];rfl,λq hq=>?_,by rw[zP,hm,nw hc];rfl,zy,zu (kM.trans s5) n3 _,n3⟩⟩;have tl:=yf (o:=.lst ((W.map λq=>V.ref q.1)++[V.ref t2])) BY;rcases zO.mp hq with z|z
    ·exact tl.sqT ((z7 (s4.trans s5)).sqT (hW q z))
    ·rw[zW.mp z];have h5':=tl.sqT h5;rw[zP];exact h5'
  rintro l2 ys2 Hb ⟨W2,rfl,kW,hW2,Bd,eb,sb,nb⟩;rw[zX]at kW Bd;rw[yV]at Bd;walk_at"rp";refine .inl ⟨_,_,sb _ _ ea,eb,by rw[zX,zX,zD];lia,λl3 H5 n5 s5 e5=>?_⟩;refine⟨l3,W1++W2,_,rfl,by rw[zP];exact e5,λq hq=>?_,?_,λq hq=>?_,s2.trans (sa.trans (sb.trans s5))⟩
  ·rcases zO.mp hq with z|z
   ·exact(z7 (sb.trans s5)).sqT (hW1 q z)
   ·exact(z7 s5).sqT (hW2 q z)
  ·rw[zP,HD,Bd,ln,<-Ig,xX,xX]
   rfl
  ·have qI:q.2∈(W1++W2).map (·.2):=yK hq;rw[zP,HD,Bd]at qI;rcases zO.mp qI with z|z
   all_goals
    obtain⟨u,hu,ez⟩:=zF.mp z;rw[<-ez,zN,hUn u hu]
    rfl
 ·rintro σ H2 ⟨p,U,kv,rfl,e2,hU,Ig,hUn,s2⟩;have hUl:U.length=2 ^ m:=by
   have:=xF List.length Ig;rw[zX,rk]at this;exact this
  have sQ:2 ^ m<=64:=uS (n:=2) (by decide) hm6;walk_at"rp";refine .inl ⟨⟨_,SqL.of e2⟩,λC s₀ H₀ ex=>?_⟩;refine jn (xs:=U.map λq=>V.ref q.1) (λD j ys H3=>ys=(((U.take j).filter λq=>vn R q.2).map λq=>V.ref q.1)/\H3 D=some (.lst ys)/\Same H2 H3/\H2 D=none) (by rw[zX,zD];lia) ?_ ?_ ?_ ?_
  ·intro D H3 n3 s3 e3;exact⟨rfl,e3,s3,n3⟩
  ·rintro D j ys H3 ⟨rfl,e3,s3,_⟩;refine⟨SqL.of (s3 _ _ e2),e3,?_⟩;rw[zX];exact yW (List.length_filter_le _ _) (List.length_take_le _ _)
  ·rintro D j v ys H3 hv ⟨rfl,e3,s3,n3⟩;rw[zE]at hv;cases hc:U[j]? with
   |none=>rw[hc]at hv;cases hv
   |some e =>
    rw[hc]at hv;cases hv;have hj:j<(U.map λq=>V.ref q.1).length:=by rw[zX];exact(zU.mp hc).1
    walk_at"rp";refine⟨e.2,R,(z7 s3).sqT (hU e (zM hc)),SqL.of ((s2.trans s3) _ _ AT),SqT.ups (s2.trans s3) hR,?_⟩;refine xa (λc9=>⟨e3,CN.mk hj ⟨?_,zy,zu s3 n3 _,n3⟩⟩) λc9=>CN.mk hj ⟨?_,e3,s3,n3⟩
    ·rw[yX,hc,List.filter_append,show(some e).toList=[e]from rfl,List.filter_cons,yS (show vn R e.2=true from c9),List.filter_nil,zP]
     rfl
    ·rw[yX,hc,List.filter_append,show(some e).toList=[e]from rfl,List.filter_cons,yY (show¬vn R e.2=true from c9),List.filter_nil,List.append_nil]
  ·rintro p2 ys H3 ⟨rfl,e3,s3,n3⟩;rw[zX,yV]at e3;refine q p2 H3 _ (s2.trans s3) e3 (λu hu=>(z7 s3).sqT (hU u (uA.mp hu).1)) ?_;rw[<-Ig,List.filter_map]
   rfl
theorem wn(xs:List V){j:Int}(h:0<=j):v9 xs (some j) none=xs.drop j.toNat:=by
 unfold v9;rw[HT.sIx_none];have e:HT.sIx xs.length 0 (some j)=min j.toNat xs.length:=by
  show(if j<0 then(j+(xs.length:Int)).toNat else min j.toNat xs.length)=_;rw[yY (by lia)]
 rw[e]
 by_cases hj:j.toNat<=xs.length
 ·rw[tY hj,vH (by rw[xH];exact zS _)]
 ·rw[Nat.min_eq_right (by lia),vG (zS _),vG (by lia),List.take_nil]
theorem dr{H:Hp}:∀{xs:List V}{ds:List PyData}{ys:List V}{es:List PyData},HasL K H xs ds->HasL K H ys es->HasL K H (xs++ys) (ds++es)
 |xs,[],ys,es,h,h2=>by
  have:xs=[]:=by simpa[HasL]using h
  subst this;exact h2
 |xs,d::ds,ys,es,h,h2=>by
  have h':∃y zs,xs=y::zs/\Has K H y d/\HasL K H zs ds:=by simpa[HasL]using h
  obtain⟨y,zs,rfl,h1,h3⟩:=h';show HasL K H (y::(zs++ys)) (d::(ds++es));unfold HasL;exact⟨_,_,rfl,h1,dr h3 h2⟩
theorem l7:∀(a b:List PyData),PyData.canLayAll0 (a++b)=(PyData.canLayAll0 a&&PyData.canLayAll0 b)
 |[],b=>by simp[PyData.canLayAll0]
 |d::a,b=>by rw[List.cons_append,PyData.canLayAll0,PyData.canLayAll0,l7 a b,Bool.and_assoc]
theorem rq:∀(k ds:List Bool),PyData.eqvAll (k.map PyData.bool) (ds.map PyData.bool)=true->k=ds
 |[],[],_=>rfl
 |[],_::_,h=>by simp[PyData.eqvAll]at h
 |_::_,[],h=>by simp[PyData.eqvAll]at h
 |a::k,b::ds,h=>by
  rw[List.map_cons,List.map_cons,PyData.eqvAll,yQ,PyData.eqv]at h;rw[eq_of_beq h.1,rq k ds h.2]
theorem lw{d:PyData}{es:List PyData}:∀(as k:List Bool),PyData.eqvAll (k.map PyData.bool) (as.map PyData.bool++d::es)=true->∃b,PyData.eqv (.bool b) d=true
 |[],[],h=>by simp[PyData.eqvAll]at h
 |[],b::k,h=>by
  rw[List.map_cons,List.map_nil,List.nil_append,PyData.eqvAll,yQ]at h;exact⟨b,h.1⟩
 |_::_,[],h=>by simp[PyData.eqvAll]at h
 |a::as,b::k,h=>by
  rw[List.map_cons,List.map_cons,List.cons_append,PyData.eqvAll,yQ]at h;exact lw as k h.2
section
variable {H:Hp}{R:List (List Bool)}
theorem l4{v:V}{d:PyData}(h:Has K H v d)(hl:PyData.canLay0 d=true)(he:∀k∈R,PyData.eqv (ww k) d=false):Jdg K H R v false :=
 ⟨d,h,hl,.inl ⟨List.any_eq_false.mpr λk hk=>by rw[he k hk];decide,rfl⟩⟩
theorem ai{a:Addr}{ds:List Bool}(h:SqT K H a (ds.map V.bl))(hn:ds∉R):Jdg K H R (.ref a) false :=
 l4 (g6 h) (on ds).1 λk hk=>Bool.eq_false_iff.mpr λe=>hn (by
  unfold ww at e;rw[PyData.eqv]at e;rw[<-rq k ds e];exact hk)
theorem Sq{a:Addr}{ds:List Bool}(h:SqL K H a (ds.map V.bl)):Jdg K H R (.ref a) false :=
 l4 (d:=.list (ds.map PyData.bool)) (by unfold Has;exact⟨a,_,rfl,h,u3 K H ds⟩) (by rw[PyData.canLay0];exact(sq ds).1) λk _=>by unfold ww;rw[PyData.eqv]
theorem Ss:Jdg K H R .non false:=l4 (d:=.none) (by unfold Has;rfl) rfl λk _=>by unfold ww;rw[PyData.eqv]
theorem Pn(i:Int):Jdg K H R (.int i) false:=l4 (d:=.int i) (by unfold Has;rfl) (by rw[PyData.canLay0]) λk _=>by unfold ww;rw[PyData.eqv]
theorem Me(b:Bool):Jdg K H R (.bl b) false:=l4 (d:=.bool b) (by unfold Has;rfl) (by rw[PyData.canLay0]) λk _=>by unfold ww;rw[PyData.eqv]
theorem Po{x:Str}(h:PyData.strOk x=true):Jdg K H R (.str x) false:=l4 (d:=.str x) (by unfold Has;rfl) (by rw[PyData.canLay0];exact h) λk _=>by unfold ww;rw[PyData.eqv]
theorem Y6{a:Addr}{as bs:List Bool}{z:V}{d:PyData}(h:SqT K H a ((as.map V.bl++[z])++bs.map V.bl))(hz:Has K H z d):Has K H (.ref a) (.tuple ((as.map PyData.bool++d::bs.map PyData.bool))):=by
 unfold Has;refine⟨a,_,rfl,h,?_⟩;rw[xN];refine dr (u3 K H as) ?_;show HasL K H (z::bs.map V.bl) _;unfold HasL;exact⟨_,_,rfl,hz,u3 K H bs⟩
theorem Zb{as bs:List Bool}{d:PyData}(hd:PyData.canLay0 d=true):PyData.canLay0 (.tuple ((as.map PyData.bool++d::bs.map PyData.bool)))=true:=by
 rw[PyData.canLay0,l7,(sq as).1,PyData.canLayAll0,hd,(sq bs).1]
 rfl
theorem U2{a:Addr}{as bs:List Bool}{z:V}{d:PyData}(h:SqT K H a ((as.map V.bl++[z])++bs.map V.bl))(hz:Has K H z d)(hd:PyData.canLay0 d=true)(hn:∀b,PyData.eqv (.bool b) d=false):Jdg K H R (.ref a) false :=
 l4 (Y6 h hz) (Zb hd) λk _=>Bool.eq_false_iff.mpr λe=>by
  unfold ww at e;rw[PyData.eqv]at e;obtain⟨b,hb⟩:=lw as k e;rw[hn b]at hb;cases hb
theorem Sr{a:Addr}{as bs:List Bool}{i:Int}(h:SqT K H a ((as.map V.bl++[.int i])++bs.map V.bl))(hl:as.length+1+bs.length<=100):Jdg K H R (.ref a) false:=by
 have hh:=Y6 (d:=.int i) h (by unfold Has;rfl);have hc:=Zb (as:=as) (bs:=bs) (d:=.int i) (by rw[PyData.canLay0]);refine⟨_,hh,hc,?_⟩;cases hb:R.any λk=>PyData.eqv (ww k) (.tuple (as.map PyData.bool ++ .int i::bs.map PyData.bool))with
 |false=>exact .inl ⟨rfl,rfl⟩
 |true =>
  refine .inr ⟨rfl,a,_,(as.map λ_=>true)++[false]++bs.map (λ_=>true),rfl,h,by simp;lia,by simp,λj z g hz hg=>?_,?_⟩
  ·rcases uV j as.length with c|c|c
   ·rw[yM (by simp;lia),yM (by simp;lia),zE,zL c]at hz hg;cases hz;cases hg;exact .inl ⟨_,rfl,rfl⟩
   ·rw[yM (by simp;lia),xZ (by simp;lia),c]at hz hg;rw[zX,Nat.sub_self]at hz hg;cases hz;cases hg;exact .inr ⟨_,rfl,rfl⟩
   ·rw[xZ (by simp;lia),zE]at hz hg;simp only[zN,zX,yF,vA]at hz hg;cases kD:bs[j-(as.length+(0+1))]? with
    |none=>rw[kD]at hz;cases hz
    |some b =>
     rw[kD]at hz hg;cases hz;cases hg;exact .inl ⟨_,rfl,rfl⟩
  ·simp
end
def nj(K:W.Frag):Sp:=λvs H Q _=>∃(a r:Addr)(ns:List Int)(k:Int)(R:List (Addr×List Bool))(m:Nat),vs=[.ref a,.int k,.ref r]/\SqL K H a (ns.map V.int)/\ns.length<=5000/\0<=k/\k<=1000/\H r=some (.lst (R.map λq=>V.ref q.1))/\(∀q∈R,SqT K H q.1 (q.2.map V.bl))/\(∀q∈R,q.2.length=m)/\1<=R.length/\R.length<2 ^ m/\1<=m/\m<=6/\∀(v:V)(H':Hp),Same H H'->Jdg K H' (R.map (·.2)) v false->Q v H'
theorem sc_badrow2:zj ["_law_script","_law_k","_law_fit","_law_row_here","_law_at","_law_way","_law_unfit_here","_law_some"] ["_law_script","_law_k","_law_fit"] (z0 (top 48)):=⟨rfl,rfl,rfl,by decide +kernel,rfl,by decide +kernel,by decide +kernel⟩
theorem X3(D:Def K mg "_law_bad_row" (top 48) ["_law_script","_law_k","_law_fit"])(aC:zw P w K mg base 2 "_law_pick" ["_law_script","_law_k","_law_many"] (vm K))(kK:zw P w K mg base 1 "_law_unfit" ["_law_fit","_law_many"] (Zu K))(aH:mg "len"=none)(bX:mg "list"=none)(bN:mg "int"=none):zw P w K mg base 3 "_law_bad_row" ["_law_script","_law_k","_law_fit"] (nj K):=by
 refine D.callee sc_badrow2 (λvs H Q E h=>?_) λf cdv A outer s H vs Q E hr h=>?_
 ·obtain⟨a,r,ns,k,R,m,rfl,_⟩:=h
  rfl
 have nd:=sc_badrow2.nd;obtain⟨a,r,ns,k,R,m,rfl,hS,bL,h0,hk,AT,hR,hRm,sP,hR2,HD,hm6,q⟩:=h;refine⟨[some (.ref a),some (.int k),some (.ref r),none,none,none,none,none],_,rfl,(z5 (zp 3 nd (yh (z8 2) (zx aC hr (by lia) (z9 (z8 0) (z9 (z8 1) (z9 (zt xz rfl aH yk (z9 (z8 2) z6)) z6)))) (λ_ _=>rfl)))
  (z5 (zp 4 nd (zx aC hr (by lia) (z9 (z8 0) (z9 (zv zh (z8 1) z4) (z9 (zt xz rfl aH yk (z9 (z8 3) z6)) z6)))))
  (z5 (zp 5 nd (zx aC hr (by lia) (z9 (z8 0) (z9 (zv zh (z8 1) z4) (z9 z4 z6)))))
  (z5 (zp 6 nd (zx kK hr (by lia) (z9 (z8 2) (z9 (zt xz rfl aH yk (z9 (z8 3) z6)) z6))))
  (z5 (zp 7 nd (xp (z9 (zv zh (z8 3) (yy (z9 xq z6))) (z9 (zc (z8 3) (yz z4) zd) (z9 (yt Vn rfl bX gq (z9 (z8 3) z6)) (z9 (zv zh (zv zh (zc (z8 3) zd (yz (z8 4))) (yy (z9 (yt Zd rfl bN gp (z9 (yh (z8 3) (z8 4) (λ_ _=>rfl)) z6)) z6))) (zc (z8 3) (yz (zv zh (z8 4) z4)) zd)) (z9 V4 z6)))))))
  (z5 (zp 7 nd (zv zh (z8 7) (xp (z9 (zv zh (zv zh (zc (z8 3) zd (yz (z8 4))) (yy (z9 V4 z6))) (zc (z8 3) (yz (zv zh (z8 4) z4)) zd)) (z9 (zv P5 zo z4) (z9 z4 (z9 (zv zh (zv zh (zc (z8 3) zd (yz (z8 4))) (yy (z9 zo z6))) (zc (z8 3) (yz (zv zh (z8 4) z4)) zd)) z6)))))))
  (z5 (zp 7 nd (zv zh (z8 7) (xp (z9 (yh (z8 6) (zx aC hr (by lia) (z9 (z8 0) (z9 (zv zh (z8 1) z4) (z9 (zt xz rfl aH yk (z9 (z8 6) z6)) z6)))) (λ_ _=>rfl)) (z9 (xm (xh hr.units) (zv vt (z8 5) z4) z4 (zf _)) z6)))))
  (zz (zr (yh (z8 7) (z8 5) (λ_ _=>rfl))))))))))),?_⟩
 walk_at"rp";refine⟨_,.inl (SqL.of AT),?_⟩;rw[zX];refine⟨a,ns,k,_,rfl,hS,bL,h0,by lia,by lia,λi i0 i1=>?_⟩;obtain⟨v,hv,ev⟩:=ub (xs:=R.map λq=>V.ref q.1) i0 (by rw[zX];exact i1);obtain⟨e,he,rfl⟩:=zF.mp hv;have Cw:=hRm e he;walk_at"rp";refine⟨_,_,.inl (SqL.of AT),ev,?_⟩;walk_at"rp";refine⟨_,.inr (hR e he),?_⟩;rw[zX,Cw];refine⟨a,ns,_,_,rfl,hS,bL,by lia,by lia,by lia,λat_ t0 t1=>?_⟩;walk_at"rp";refine⟨a,ns,_,_,rfl,hS,bL,by lia,by lia,by decide,λway w0 w1=>?_⟩;walk_at"rp";refine⟨_,.inr (hR e he),?_⟩;rw[zX,Cw];refine⟨r,R,m,rfl,AT,hR,hm6,λu H1 U s1 eU hU hUf=>?_⟩;walk_at"rp";have Fg:∀{ds:List Bool},ds∈R.map (·.2)->ds.length=m:=λz=>by
  obtain⟨q1,pX,rfl⟩:=zF.mp z;exact hRm q1 pX
 obtain⟨n,rfl⟩:=tR t0;have hn:n<e.2.length:=by lia
 have b1:Same H1 H1:=Same.refl H1;have row:∀{H2:Hp},Same H1 H2->SqT K H2 e.1 (e.2.map V.bl):=λs2=>(z7 (s1.trans s2)).sqT (hR e he);refine⟨zn (by simp),λp2 H2 n2 s2 e2=>?_⟩;have b2:=b1.trans s2;walk_at"rp";refine .inr ⟨_,_,(z7 s2).sqT (row b1),(z7 (Same.refl _)).sqT (SqT.of e2),?_,λp3 H3 s3 h3=>?_⟩
 ·exact zn (by simp;lia)
 have b3:=b2.trans s3;walk_at"rp";refine .inr ⟨_,row b3,λp4 H4 s4 h4=>?_⟩;have b4:=b3.trans s4;rw[wn _ (by decide),<-uB]at h4;walk_at"rp";refine⟨_,.inr (row b4),λp5 H5 n5 s5 e5=>?_⟩;have b5:=b4.trans s5;walk_at"rp";refine .inr ⟨_,row b5,λp6 H6 s6 h6=>?_⟩;have b6:=b5.trans s6;rw[yo _ (by lia),<-wP,yG]at h6;walk_at"rp";refine⟨_,_,.inr (row b6),O6 hn,?_⟩;walk_at"rp";refine⟨zn (by simp),λp7 H7 n7 s7 e7=>?_⟩;have b7:=b6.trans s7;walk_at"rp";refine .inr ⟨_,_,(z7 s7).sqT (h6),(z7 (Same.refl _)).sqT (SqT.of e7),?_,λp8 H8 s8 h8=>?_⟩
 ·exact zn (by simp;lia)
 have b8:=b7.trans s8;walk_at"rp";refine .inr ⟨_,row b8,λp9 H9 s9 h9=>?_⟩;have b9:=b8.trans s9;rw[wn _ (by lia),<-uB]at h9;walk_at"rp";refine .inr ⟨_,_,(z7 s9).sqT (h8),(z7 (Same.refl _)).sqT (h9),?_,λp10 kP iX Io=>?_⟩
 ·exact zn (by simp;lia)
 have b10:=b9.trans iX;walk_at"rp";refine⟨zn (by simp),λp11 H11 n11 qF e11=>?_⟩;have b11:=b10.trans qF;walk_at"rp";refine .inr ⟨_,row b11,λp12 H12 oH h12=>?_⟩;have b12:=b11.trans oH;rw[yo _ (by lia),<-wP,yG]at h12;walk_at"rp";refine⟨zn (by simp),λp13 H13 n13 kB e13=>?_⟩;have b13:=b12.trans kB;walk_at"rp";refine .inr ⟨_,_,(z7 kB).sqT (h12),(z7 (Same.refl _)).sqT (SqT.of e13),?_,λp14 H14 rV h14=>?_⟩
 ·exact zn (by simp;lia)
 have b14:=b13.trans rV;walk_at"rp";refine .inr ⟨_,row b14,λp15 H15 nO h15=>?_⟩;have b15:=b14.trans nO;rw[wn _ (by lia),<-uB]at h15;walk_at"rp";refine .inr ⟨_,_,(z7 nO).sqT (h14),(z7 (Same.refl _)).sqT (h15),?_,λp16 H16 nN h16=>?_⟩
 ·exact zn (by simp;lia)
 have b16:=b15.trans nN;walk_at"rp";refine⟨_,_,rfl,rfl,⟨rfl,by decide,by decide +kernel⟩,?_⟩;walk_at"rp";refine .inr ⟨_,row b16,λp17 H17 oG h17=>?_⟩;have b17:=b16.trans oG;rw[yo _ (by lia),<-wP,yG]at h17;walk_at"rp";refine⟨zn (by simp),λp18 H18 n18 nM e18=>?_⟩;have b18:=b17.trans nM;walk_at"rp";refine .inr ⟨_,_,(z7 nM).sqT (h17),(z7 (Same.refl _)).sqT (SqT.of e18),?_,λp19 H19 oF h19=>?_⟩
 ·exact zn (by simp;lia)
 have b19:=b18.trans oF;walk_at"rp";refine .inr ⟨_,row b19,λp20 H20 nL h20=>?_⟩;have b20:=b19.trans nL;rw[wn _ (by lia),<-uB]at h20;walk_at"rp";refine .inr ⟨_,_,(z7 nL).sqT (h19),(z7 (Same.refl _)).sqT (h20),?_,λp21 H21 oE h21=>?_⟩
 ·exact zn (by simp;lia)
 have b21:=b20.trans oE;walk_at"rp";refine⟨zn (by simp),λp22 H22 n22 nK e22=>?_⟩;have b22:=b21.trans nK;walk_at"rp";refine .inl ⟨_,_,(oH.trans (kB.trans (rV.trans (nO.trans (nN.trans (oG.trans (nM.trans (oF.trans (nL.trans (oE.trans nK)))))))))) _ _ e11,(Same.refl _) _ _ e22,zn (by simp),λp23 H23 n23 oC e23=>?_⟩;have b23:=b22.trans oC;walk_at"rp";have hU2:U.length≠0:=λz=>cu hR2 (by rw[<-hUf,zX];exact z);refine⟨_,.inl (SqL.of (b23 _ _ eU)),?_⟩;rw[zX];refine⟨a,ns,_,_,rfl,(s1.trans b23).seq hS,bL,by lia,by lia,by lia,λx x0 x1=>?_⟩;obtain⟨v2,hv2,ev2⟩:=ub (xs:=U.map λq=>V.ref q.1) x0 (by rw[zX];exact x1);obtain⟨Iu,oX,rfl⟩:=zF.mp hv2;walk_at"rp";refine⟨_,_,.inl (SqL.of (b23 _ _ eU)),ev2,?_⟩;walk_at"rp";refine⟨by decide,?_⟩;walk_at"rp";refine⟨zn (by simp),λp24 H24 n24 mS e24=>?_⟩;have b24:=b23.trans mS;walk_at"rp";refine .inl ⟨_,_,mS _ _ e23,(Same.refl _) _ _ e24,zn (by simp),λp25 H25 n25 nJ e25=>?_⟩;have b25:=b24.trans nJ;walk_at"rp";have all:∀v∈([V.ref p3,V.ref p4,V.ref p5,V.ref p10,V.non]++[V.ref p16,V.str (Txt.mul (Str.ofString "yn") 3),V.int 7,V.ref p21])++[V.ref Iu.1,V.bl (decide (way % 2=0))],Jdg K H25 (R.map (·.2)) v false:=λv hv=>by
  simp only[List.cons_append,List.nil_append,zG,uP,or_false]at hv;rcases hv with rfl|rfl|rfl|rfl|rfl|rfl|rfl|rfl|rfl|rfl|rfl
  ·exact Jdg.same (s4.trans (s5.trans (s6.trans (s7.trans (s8.trans (s9.trans (iX.trans (qF.trans (oH.trans (kB.trans (rV.trans (nO.trans (nN.trans (oG.trans (nM.trans (oF.trans (nL.trans (oE.trans (nK.trans (oC.trans (mS.trans nJ))))))))))))))))))))) (ai (ds:=e.2++[true]) (by rw[zP];exact h3) λz=>by have:=Fg z;simp at this;lia)
  ·exact Jdg.same (s5.trans (s6.trans (s7.trans (s8.trans (s9.trans (iX.trans (qF.trans (oH.trans (kB.trans (rV.trans (nO.trans (nN.trans (oG.trans (nM.trans (oF.trans (nL.trans (oE.trans (nK.trans (oC.trans (mS.trans nJ)))))))))))))))))))) (ai (ds:=e.2.drop 1) h4 λz=>by have:=Fg z;rw[xH]at this;lia)
  ·exact Jdg.same (s6.trans (s7.trans (s8.trans (s9.trans (iX.trans (qF.trans (oH.trans (kB.trans (rV.trans (nO.trans (nN.trans (oG.trans (nM.trans (oF.trans (nL.trans (oE.trans (nK.trans (oC.trans (mS.trans nJ))))))))))))))))))) (Sq (SqL.of e5))
  ·exact Jdg.same (qF.trans (oH.trans (kB.trans (rV.trans (nO.trans (nN.trans (oG.trans (nM.trans (oF.trans (nL.trans (oE.trans (nK.trans (oC.trans (mS.trans nJ)))))))))))))) (Sr (as:=e.2.take n) Io (by simp;lia))
  ·exact Jdg.same (qF.trans (oH.trans (kB.trans (rV.trans (nO.trans (nN.trans (oG.trans (nM.trans (oF.trans (nL.trans (oE.trans (nK.trans (oC.trans (mS.trans nJ)))))))))))))) (Ss)
  ·exact Jdg.same (oG.trans (nM.trans (oF.trans (nL.trans (oE.trans (nK.trans (oC.trans (mS.trans nJ)))))))) (U2 (as:=e.2.take n) (d:=.none) h16 (by unfold Has;rfl) rfl λb=>by rw[PyData.eqv])
  ·exact Jdg.same (oG.trans (nM.trans (oF.trans (nL.trans (oE.trans (nK.trans (oC.trans (mS.trans nJ)))))))) (Po (by decide +kernel))
  ·exact Jdg.same (oG.trans (nM.trans (oF.trans (nL.trans (oE.trans (nK.trans (oC.trans (mS.trans nJ)))))))) (Pn 7)
  ·exact Jdg.same (nK.trans (oC.trans (mS.trans nJ))) (U2 (as:=e.2.take n) (d:=.str (Str.ofString "y")) h21 (by unfold Has;rfl) (by rw[PyData.canLay0];decide +kernel) λb=>by rw[PyData.eqv])
  ·exact Jdg.same (s2.trans (s3.trans (s4.trans (s5.trans (s6.trans (s7.trans (s8.trans (s9.trans (iX.trans (qF.trans (oH.trans (kB.trans (rV.trans (nO.trans (nN.trans (oG.trans (nM.trans (oF.trans (nL.trans (oE.trans (nK.trans (oC.trans (mS.trans nJ))))))))))))))))))))))) (ai (hU Iu oX) λz=>by
    have:vn R Iu.2=true:=(uA.mp (hUf▸yK (f:=λq:Addr×List Bool=>q.2) oX)).2;obtain⟨q1,pX,eq1⟩:=zF.mp z;have h9:(R.any λq=>q.2==Iu.2)=true:=xD.mpr ⟨q1,pX,by simp[eq1]⟩;unfold vn at this;rw[h9]at this;cases this)
  ·exact Jdg.same (mS.trans nJ) (Me _)
 obtain⟨v,hv,ev3⟩:=ub (xs:=([V.ref p3,V.ref p4,V.ref p5,V.ref p10,V.non]++[V.ref p16,V.str (Txt.mul (Str.ofString "yn") 3),V.int 7,V.ref p21])++[V.ref Iu.1,V.bl (decide (way % 2=0))]) w0 w1;refine⟨_,_,.inl (SqL.of e25),ev3,?_⟩;walk_at"rp";exact q v H25 (s1.trans b25) (all v hv)
theorem Xs:W.kitOne K (.type "str") (.type "bool")=some false:=by rfl
theorem Xt:W.kitOne K (.type "tuple") (.type "bool")=some false:=by rfl
theorem Xv:W.kitOne K (.type "tuple") (.type "str")=some false:=by rfl
theorem Xu:W.kitOne K (.type "tuple") (.type "int")=some false:=by rfl
theorem j4:W.kitOne K (.type "tuple") (.type "list")=some false:=by rfl
def SmT(K:W.Frag)(H:Hp):Nat->V->V->Prop
 |0,_,_=>False
 |d+1,v,u=>(∃b,v = .bl b/\u = .bl b)\/(∃s,v = .str s/\u = .str s)\/∃(a b:Addr)(xs ys:List V),v = .ref a/\u = .ref b/\(SqT K H a xs/\SqT K H b ys)/\xs.length=ys.length/\∀(i:Nat)(x y:V),xs[i]?=some x->ys[i]?=some y->SmT K H d x y
theorem SmT.mono{H H':Hp}(s:Same H H'):∀{d:Nat}{v u:V},SmT K H d v u->SmT K H' d v u
 |0,_,_,h=>h.elim
 |d+1,v,u,h=>h.imp id λh=>h.imp id λ⟨a,b,xs,ys,e1,e2,hq,hl,hx⟩=>⟨a,b,xs,ys,e1,e2,⟨(z7 s).sqT hq.1,(z7 s).sqT hq.2⟩,hl,λi x y h1 h2=>SmT.mono s (hx i x y h1 h2)⟩
theorem SmT.le{H:Hp}:∀{d d':Nat}{v u:V},d<=d'->SmT K H d v u->SmT K H d' v u
 |0,_,_,_,_,h=>h.elim
 |d+1,0,_,_,l,_=>absurd l (by lia)
 |d+1,d'+1,v,u,l,h=>h.imp id λh=>h.imp id λ⟨a,b,xs,ys,e1,e2,hq,hl,hx⟩=>⟨a,b,xs,ys,e1,e2,hq,hl,λi x y h1 h2=>SmT.le (Nat.le_of_succ_le_succ l) (hx i x y h1 h2)⟩
theorem uu{H:Hp}{a:Addr}{xs:List V}{d:Nat}(h:SqT K H a xs)(hx:∀x∈xs,SmT K H d x x):SmT K H (d+1) (.ref a) (.ref a) :=
 .inr (.inr ⟨a,a,xs,xs,rfl,rfl,⟨h,h⟩,rfl,λi x y h1 h2=>by
  rw[h1]at h2;cases h2;exact hx x (zM h1)⟩)
theorem i9{H:Hp}(x:Str)(d:Nat):SmT K H (d+1) (.str x) (.str x):=.inr (.inl ⟨x,rfl,rfl⟩)
theorem i8{H:Hp}:∀{t:Say}{v:V},SayAt K H v t->SmT K H (t.pieces+1) v v
 | .letter x,v,h=>by
  obtain⟨a,rfl,ha⟩:=h;refine uu ha λz hz=>?_;rcases zG.mp hz with e|hz
  ·rw[e];exact i9 _ _
  ·rw[zW.mp hz];exact i9 _ _
 | .neg t,v,h=>by
  obtain⟨a,u,rfl,ha,hu⟩:=h;refine SmT.le (d:=(t.pieces+1)+1) (by simp only[Say.pieces];lia) (uu ha λz hz=>?_);rcases zG.mp hz with e|hz
  ·rw[e];exact i9 _ _
  ·rw[zW.mp hz];exact i8 hu
 | .bin o t1 t2,v,h=>by
  obtain⟨a,u1,u2,rfl,ha,h1,h2⟩:=h;have p1:=t1.pieces_pos;have p2:=t2.pieces_pos;refine SmT.le (d:=(t1.pieces+t2.pieces+1)+1) (by simp only[Say.pieces];lia) (uu ha λz hz=>?_);rcases zG.mp hz with e|hz
  ·rw[e];exact i9 _ _
  ·rcases zG.mp hz with e|hz
   ·rw[e];exact SmT.le (by lia) (i8 h1)
   ·rw[zW.mp hz];exact SmT.le (by lia) (i8 h2)
theorem Rg{H:Hp}{a:Addr}{k:List Bool}(h:SqT K H a (k.map V.bl)):SmT K H 2 (.ref a) (.ref a):=uu h λz hz=>by
 obtain⟨b,_,rfl⟩:=zF.mp hz;exact .inl ⟨b,rfl,rfl⟩
theorem T4{H:Hp}{p q b j:Addr}{us ws:List V}{ts:List Say}(hp:SqT K H p [.ref b,.ref j])(hq:SqT K H q [.ref b,.ref j])(hb:SqT K H b us)(hT:SaysAt K H us ts)(kN:∀t∈ts,t.pieces<=40)(hj:SqT K H j ws)(hw:∀w∈ws,∃(a:Addr)(k:List Bool),w = .ref a/\SqT K H a (k.map V.bl)):SmT K H 43 (.ref p) (.ref q):=by
 refine .inr (.inr ⟨p,q,_,_,rfl,rfl,⟨hp,hq⟩,rfl,λi x y h1 h2=>?_⟩);rw[h1]at h2;cases h2;rcases zG.mp (zM h1)with e|e
 ·rw[e];refine uu hb λz hz=>?_;obtain⟨i,hi⟩:=List.getElem?_of_mem hz;obtain⟨t,ht,hs⟩:=hT.at i z hi;exact SmT.le (by have:=kN t (zM ht);lia) (i8 hs)
 ·rw[zW.mp e];refine uu hj λz hz=>?_;obtain⟨a,k,rfl,ha⟩:=hw z hz;exact SmT.le (by decide) (Rg ha)
def cf(K:W.Frag)(d:Nat):Sp:=λvs H Q _=>∃v u:V,vs=[v,u]/\SmT K H d v u/\∀H',Same H H'->Q (.bl true) H'
theorem sc_same:zj ["_law_found","_law_due","_law_one","_law_other"] ["_law_found","_law_due"] (z0 (top 44)):=⟨rfl,rfl,rfl,by decide +kernel,rfl,by decide +kernel,by decide +kernel⟩
theorem Ze(D:Def K mg "_law_same" (top 44) ["_law_found","_law_due"])(aH:mg "len"=none)(aA:mg "isinstance"=none)(aD:mg "tuple"=none)(bX:mg "list"=none)(aX:mg "bool"=none)(bN:mg "int"=none)(gM:mg "str"=none)(iY:mg "zip"=none):∀d:Nat,zw P w K mg base d "_law_same" ["_law_found","_law_due"] (cf K d)
 |0=>xx D λvs H Q E h=>by
  obtain⟨v,u,_,h,_⟩:=h;exact h.elim
 |d+1=>by
  have bC:=Ze D aH aA aD bX aX bN gM iY d;refine D.callee sc_same (λvs H Q E h=>?_) λf cdv A outer s H vs Q E hr h=>?_
  ·obtain⟨v,u,rfl,_⟩:=h
   rfl
  have nd:=sc_same.nd;obtain⟨v,u,rfl,h,q⟩:=h;refine⟨[some v,some u,none,none],_,rfl,(z5 (y8 (wy (zt vq rfl aA zi (z9 (z8 1) (z9 (x9 (v:=.ty "bool") rfl aX rl rfl) z6)))) (zz (zr (v7 (zt vq rfl aA zi (z9 (z8 0) (z9 (x9 (v:=.ty "bool") rfl aX rl rfl) z6))) (xo (xm (xh hr.units) (z8 0) (z8 1) (zf _)))))) zm)
  (z5 (y8 (wy (zt vq rfl aA zi (z9 (z8 1) (z9 (x9 (v:=.ty "str") rfl gM Ul rfl) z6)))) (zz (zr (v7 (zt vq rfl aA zi (z9 (z8 0) (z9 (x9 (v:=.ty "str") rfl gM Ul rfl) z6))) (xo (xm (xh hr.units) (z8 0) (z8 1) (zf _)))))) zm)
  (z5 (y8 (wy (zt vq rfl aA zi (z9 (z8 1) (z9 (x9 (v:=.ty "int") rfl bN gp rfl) z6)))) (zz (zr (v7 (zt vq rfl aA zi (z9 (z8 0) (z9 (x9 (v:=.ty "int") rfl bN gp rfl) z6))) (v7 (j5 (zt vq rfl aA zi (z9 (z8 0) (z9 (x9 (v:=.ty "bool") rfl aX rl rfl) z6)))) (xo (xm (xh hr.units) (z8 0) (z8 1) (zf _))))))) zm)
  (z5 (y8 (PW.pt (fm (zb (Sx hr.units) (zt vq rfl aA zi (z9 (z8 1) (z9 (x9 (v:=.ty "list") rfl bX gq rfl) z6))) (zt vq rfl aA zi (z9 (z8 0) (z9 (x9 (v:=.ty "list") rfl bX gq rfl) z6))) (zf _)) (mx (zb (Sx hr.units) (zt vq rfl aA zi (z9 (z8 1) (z9 (x9 (v:=.ty "tuple") rfl aD yl rfl) z6))) (zt vq rfl aA zi (z9 (z8 0) (z9 (x9 (v:=.ty "tuple") rfl aD yl rfl) z6))) (zf _))))) (zz (zr xq)) zm)
  (z5 (y8 (zb (Sx hr.units) (zt xz rfl aH yk (z9 (z8 0) z6)) (zt xz rfl aH yk (z9 (z8 1) z6)) (zf _)) (zz (zr xq)) zm)
  (z5 (wx yJ rfl (P7 rfl iY (z9 (z8 0) (z9 (z8 1) z6))) (R4 2 3 rfl nd) (zz (y8 (wv (wy (zx bC hr (by lia) (z9 (z8 2) (z9 (z8 3) z6))))) (zz (zr xq)) zm)))
  (zz (zr xq)))))))),?_⟩
  rcases h with⟨i,rfl,rfl⟩|⟨z,rfl,rfl⟩|⟨a,b,xs,ys,rfl,rfl,hq,hl,hx⟩
  ·walk_at"rp";refine⟨_,true,.of (.bl _),we _,?_⟩;walk_at"rp";refine⟨_,true,.of (.bl _),we _,?_⟩;walk_at"rp"
   try rw[yU rfl]
   exact q H (Same.refl _)
  ·walk_at"rp";refine⟨_,false,.of (.str _),Xs,?_⟩;walk_at"rp";refine⟨_,true,.of (.str _),we _,?_⟩;walk_at"rp";refine⟨_,true,.of (.str _),we _,?_⟩;walk_at"rp"
   try rw[yU rfl]
   exact q H (Same.refl _)
  ·have eB:=hq.2;have Ie:=hq.1;walk_at"rp";refine⟨_,false,.tup eB,Xt,?_⟩;walk_at"rp";refine⟨_,false,.tup eB,Xv,?_⟩;walk_at"rp";refine⟨_,false,.tup eB,Xu,?_⟩;walk_at"rp";refine⟨_,_,.tup eB,j4,_,_,.tup Ie,j4,?_⟩
   try rw[yU rfl]
   walk_at"rp";refine⟨_,_,.tup eB,we _,_,_,.tup Ie,we _,?_⟩
   try rw[yU rfl]
   walk_at"rp";refine⟨_,.inr Ie,_,.inr eB,?_⟩;rw[hl]
   try rw[yU rfl]
   walk_at"rp";refine⟨⟨⟨_,Ie⟩,⟨_,eB⟩⟩,Xy (xs:=xs) (ys:=ys) (λi σ H2=>(∃x2 x3,σ=[some (.ref a),some (.ref b),x2,x3])/\Same H H2) hl ⟨⟨none,none,rfl⟩,Same.refl H⟩ ?_ ?_ ?_⟩
   ·rintro i σ H2 _ ⟨⟨x2,x3,rfl⟩,s2⟩;exact⟨(z7 s2).sqT Ie,(z7 s2).sqT eB⟩
   ·rintro i x y σ H2 H3 h1 h2 ⟨⟨x2,x3,rfl⟩,s2⟩ s3;walk_at"rp";refine⟨x,y,rfl,(hx i x y h1 h2).mono (s2.trans s3),λH4 s4=>?_⟩;walk_at"rp";exact⟨⟨_,_,rfl⟩,s2.trans (s3.trans s4)⟩
   ·rintro σ H2 ⟨⟨x2,x3,rfl⟩,s2⟩;walk_at"rp";exact q H2 s2
def pd(x:Str):Nat->Say
 |0=>.letter x
 |n+1=>.neg (pd x n)
theorem iq(x:Str):∀n,(pd x n).pieces=n+1
 |0=>rfl
 |n+1=>by rw[pd,Say.pieces,iq x n]
theorem ou(x:Str):∀n,(pd x n).letters=[x]
 |0=>rfl
 |n+1=>ou x n
def ce(K:W.Frag):Sp:=λvs H Q _=>∃(x:Str)(n:Int),vs=[.str x,.int n]/\1<=n/\n<=130/\∀(v:V)(H':Hp),Same H H'->SayAt K H' v (pd x (n-1).toNat)->Q v H'
theorem sc_long:zj ["_law_name","_law_pieces","_law_saying_here","_law_k"] ["_law_name","_law_pieces"] (z0 (top 50)):=⟨rfl,rfl,rfl,by decide +kernel,rfl,by decide +kernel,by decide +kernel⟩
theorem S8(D:Def K mg "_law_long" (top 50) ["_law_name","_law_pieces"])(aG:mg "range"=none):zw P w K mg base 1 "_law_long" ["_law_name","_law_pieces"] (ce K):=by
 refine D.callee sc_long (λvs H Q E h=>?_) λf cdv A outer s H vs Q E hr h=>?_
 ·obtain⟨x,n,rfl,_⟩:=h
  rfl
 have nd:=sc_long.nd;obtain⟨x,n,rfl,h1,h2,q⟩:=h;refine⟨[some (.str x),some (.int n),none,none],_,rfl,(z5 (zp 2 nd (yy (z9 zo (z9 (z8 0) z6))))
  (z5 (wx yJ rfl (ye rfl aG (z9 (zv R3 (z8 1) z4) z6)) (v6 3 nd) (zz (zp 2 nd (yy (z9 zo (z9 (z8 2) z6))))))
  (zz (zr (z8 2))))),?_⟩
 walk_at"rp";refine⟨zn (by simp),λp0 H0 n0 s0 e0=>?_⟩;walk_at"rp";refine⟨⟨by lia,by lia⟩,?_⟩;refine wt (λi σ H2=>∃(v:V)(kv:Option V),σ=[some (.str x),some (.int n),some v,kv]/\SayAt K H2 v (pd x i)/\Same H H2) ⟨_,_,rfl,⟨p0,rfl,SqT.of e0⟩,s0⟩ ?_ ?_
 ·rintro i σ H2 hi ⟨v,kv,rfl,hv,s2⟩;walk_at"rp";exact⟨zn (by simp),λp H3 n3 s3 e3=>⟨_,_,rfl,⟨p,v,rfl,SqT.of e3,hv.mono (z7 s3)⟩,s2.trans s3⟩⟩
 ·rintro σ H2 ⟨v,kv,rfl,hv,s2⟩;walk_at"rp";exact q v H2 s2 hv
def nmW(a c:Nat):Str:=(⟨#[a]⟩:Str)++(⟨#[c]⟩:Str)
def ltsW:List Nat:=(Str.ofString "bcdfghjklm").cps.toList
def wideX:List Str:=(ltsW.take 6).flatMap λc=>nmW 120 c::(ltsW.take 5).map λa=>nmW a c
def wideS:List Str:=(ltsW.take 6).map λc=>nmW 120 c
theorem Yr:wideX.length=36:=by decide +kernel
theorem W0:∀x∈wideX,Nm x:=by unfold Nm;decide +kernel
theorem Wz:wideS.Nodup:=by decide +kernel
theorem Vf:ltsW.length=10:=by decide +kernel
theorem ltsW_len':(Str.ofString "bcdfghjklm").length=10:=by decide +kernel
theorem Uw{c:Nat}(h:c∈ltsW.take 6):nmW 120 c∈wideX:=List.mem_flatMap.mpr ⟨c,h,yZ⟩
theorem Ux{a c:Nat}(h:c∈ltsW.take 6)(h2:a∈ltsW.take 5):nmW a c∈wideX:=List.mem_flatMap.mpr ⟨c,h,zC _ (zF.mpr ⟨a,h2,rfl⟩)⟩
theorem Vg{n:Nat}{k:Int}(h0:0<=k)(h:k<n)(hn:n<=10):∃c,ltsW[k.toNat]?=some c/\c∈ltsW.take n/\atI ltsW k=some c:=by
 obtain⟨c,h1,_,h2⟩:=at_any' (xs:=ltsW) h0 (by rw[Vf];lia);exact⟨c,h1,zM (i:=k.toNat) (by rw[wQ (by lia)];exact h1),h2⟩
def Wp(K:W.Frag):Sp:=λvs H Q _=>∃(a:Addr)(ns:List Int),vs=[.ref a]/\SqL K H a (ns.map V.int)/\ns.length<=5000/\∀(p:Addr)(H':Hp)(us:List V)(ts:List Say),Same H H'->SqT K H' p us->SaysAt K H' us ts->ts.length=6->(∀t∈ts,t.pieces<=40)->(∀x∈w4 ts,x∈wideX)->(∀x∈wideS,x∈w4 ts)->Q (.ref p) H'
theorem sc_wide:zj ["_law_script","_law_letters","_law_many","_law_sayings","_law_k","_law_saying_here","_law_j"] ["_law_script"] (z0 (top 51)):=⟨rfl,rfl,rfl,by decide +kernel,rfl,by decide +kernel,by decide +kernel⟩
theorem Tc(D:Def K mg "_law_wide" (top 51) ["_law_script"])(aC:zw P w K mg base 2 "_law_pick" ["_law_script","_law_k","_law_many"] (vm K))(aG:mg "range"=none)(aD:mg "tuple"=none):zw P w K mg base 3 "_law_wide" ["_law_script"] (Wp K):=by
 refine D.callee sc_wide (λvs H Q E h=>?_) λf cdv A outer s H vs Q E hr h=>?_
 ·obtain⟨a,ns,rfl,_⟩:=h
  rfl
 have nd:=sc_wide.nd;obtain⟨a,ns,rfl,hS,bL,q⟩:=h;refine⟨[some (.ref a),none,none,none,none,none,none],_,rfl,(z5 (zp 1 nd zo)
  (z5 (zp 2 nd (zv zh z4 (zx aC hr (by lia) (z9 (z8 0) (z9 z4 (z9 z4 z6))))))
  (z5 (zp 3 nd (xp z6))
  (z5 (wx yJ rfl (ye rfl aG (z9 z4 z6)) (v6 4 nd) (z5 (zp 5 nd (yy (z9 zo (z9 (zv zh zo (yh (z8 1) (z8 4) (λ_ _=>rfl))) z6))))
  (z5 (wx yJ rfl (ye rfl aG (z9 (z8 2) z6)) (v6 6 nd) (zz (zp 5 nd (yy (z9 zo (z9 (z8 5) (z9 (yy (z9 zo (z9 (zv zh (yh (z8 1) (z8 6) (λ_ _=>rfl)) (yh (z8 1) (z8 4) (λ_ _=>rfl))) z6))) z6)))))))
  (zz (wm (d7 uE uD Vl (z8 3) (z9 (z8 5) z6)))))))
  (zz (zr (yt xu rfl aD yl (z9 (z8 3) z6)))))))),?_⟩
 walk_at"rp";refine⟨a,ns,_,4,rfl,hS,bL,by decide,by decide,by decide,λm m0 m1=>?_⟩;walk_at"rp";refine⟨zn (by simp),λl H1 n1 s1 e1=>?_⟩;walk_at"rp";refine⟨⟨by lia,by lia⟩,?_⟩;refine wt (λi σ H2=>∃(us:List V)(ts:List Say)(x4 x5 x6:Option V),σ=[some (.ref a),some (.str "bcdfghjklm"),some (.int (2+m)),some (.ref l),x4,x5,x6]/\H2 l=some (.lst us)/\SaysAt K H2 us ts/\ts.length=i/\(∀t∈ts,t.pieces<=40/\∀x∈t.letters,x∈wideX)/\(∀c∈ltsW.take i,nmW 120 c∈w4 ts)/\Same H H2) ⟨[],[],none,none,none,rfl,e1,trivial,rfl,λt ht=>by simp at ht,λc hc=>by simp at hc,s1⟩ ?_ ?_
 ·rintro i σ H2 hi ⟨us,ts,x4,x5,x6,rfl,e2,iI,hl,kN,hin,s2⟩;have hi6:i<6:=hi;obtain⟨c,hc1,kD,ec⟩:=Vg (n:=6) (k:=0+(i:Int)) (by lia) (by lia) (by decide);walk_at"rp";refine⟨by rw[ltsW_len'];exact zn (by decide),c,ec,zn (by show 1+1<=1000;decide),zn (by simp),λp3 H3 n3 s3 e3=>?_⟩;walk_at"rp";refine⟨⟨by lia,by lia⟩,?_⟩;refine wt (λjj σ H4=>∃(v:V)(t:Say)(x6:Option V),σ=[some (.ref a),some (.str "bcdfghjklm"),some (.int (2+m)),some (.ref l),some (.int (0+(i:Int))),some v,x6]/\SayAt K H4 v t/\t.pieces<=1+2*jj/\(∀x∈t.letters,x∈wideX)/\nmW 120 c∈t.letters/\Same H3 H4) ⟨_,.letter (nmW 120 c),_,rfl,⟨p3,rfl,SqT.of e3⟩,zS _,λx hx=>by rw[zW.mp hx];exact Uw kD,zW.mpr rfl,Same.refl _⟩ ?_ ?_
  ·rintro jj σ H4 hjj ⟨v,t,x6,rfl,hv,hp,aS,Cw,s4⟩;have HJ:jj<5:=by lia
   obtain⟨d,hd1,qT,ed⟩:=Vg (n:=5) (k:=0+(jj:Int)) (by lia) (by lia) (by decide);walk_at"rp";refine⟨by rw[ltsW_len'];exact zn (by decide),d,ed,by rw[ltsW_len'];exact zn (by decide),c,ec,zn (by show 1+1<=1000;decide),zn (by simp),λp5 H5 n5 s5 e5=>?_⟩;walk_at"rp";refine⟨zn (by simp),λp6 H6 n6 s6 e6=>?_⟩;refine⟨_,.bin .con t (.letter (nmW d c)),_,rfl,⟨p6,v,.ref p5,rfl,SqT.of e6,hv.mono (z7 (s5.trans s6)),⟨p5,rfl,SqT.of (s6 _ _ e5)⟩⟩,by simp only[Say.pieces];lia,λx hx=>?_,xL _ Cw,s4.trans (s5.trans s6)⟩;rcases zO.mp hx with z|z
   ·exact aS x z
   ·rw[zW.mp z];exact Ux kD qT
  ·rintro σ H4 ⟨v,t,x6,rfl,hv,hp,aS,Cw,s4⟩;have e4:=(s3.trans s4) _ _ e2;walk_at"rp";have tl:=yf (o:=.lst (us++[v])) e4;refine⟨⟨_,_,rfl,e4⟩,us,e4,by rw[iI.len,zD];lia,us++[v],ts++[t],_,_,_,rfl,zy,SaysAt.app (iI.mono ((z7 (s3.trans s4)).trans tl)) ⟨hv.mono tl,trivial⟩,by rw[zN,hl];rfl,λu hu=>?_,λd hd=>?_,zu (s2.trans (s3.trans s4)) n1 _⟩
   ·rcases zO.mp hu with z|z
    ·exact kN u z
    ·rw[zW.mp z];exact⟨by lia,aS⟩
   ·rw[uy];rw[yX,show ltsW[i]?=some c from by simpa using hc1]at hd;rcases zO.mp hd with z|z
    ·exact xL _ (hin d z)
    ·rw[zW.mp z];exact zJ _ (mem_allL.mpr ⟨t,zW.mpr rfl,Cw⟩)
 ·rintro σ H2 ⟨us,ts,x4,x5,x6,rfl,e2,iI,hl,kN,hin,s2⟩;walk_at"rp";refine⟨_,.inl (SqL.of e2),λp H3 s3 h3=>q p H3 us ts (s2.trans s3) h3 (iI.mono (z7 s3)) hl (λt ht=>(kN t ht).1) (λx hx=>?_) λx hx=>?_⟩
  ·obtain⟨t,ht,hxt⟩:=mem_allL.mp hx;exact(kN t ht).2 x hxt
  ·obtain⟨c,hc,rfl⟩:=zF.mp hx;exact hin c hc
theorem tq{t u:TS}{D:u9}{σ:L2.St}{H:Hp}(C:L2.St->Hp->Prop)(h1:∀N:L2.St->Hp->Prop,(∀σ' H',C σ' H'->N σ' H')->t { D with nx:=N } σ H)(h2:∀σ' H',C σ' H'->u D σ' H'):T9 t u D σ H:=h1 (u D) h2
def JL(K:W.Frag)(H:Hp)(ks:List (List Bool)):List V->List Bool->Prop
 |[],[]=>True
 |v::vs,g::gs=>Jdg K H ks v g/\JL K H ks vs gs
 |_,_=>False
section
variable {H H':Hp}{ks:List (List Bool)}
theorem JL.same(s:Same H H'):∀{vs:List V}{gs:List Bool},JL K H ks vs gs->JL K H' ks vs gs
 |[],[],_=>trivial
 |_::_,_::_,h=>⟨h.1.same s,JL.same s h.2⟩
 |[],_::_,h=>h.elim
 |_::_,[],h=>h.elim
theorem JL.len:∀{vs:List V}{gs:List Bool},JL K H ks vs gs->vs.length=gs.length
 |[],[],_=>rfl
 |_::_,_::_,h=>by rw[yF,yF,JL.len h.2]
 |[],_::_,h=>h.elim
 |_::_,[],h=>h.elim
theorem JL.app:∀{vs:List V}{gs:List Bool}{C6:List V}{gs':List Bool},JL K H ks vs gs->JL K H ks C6 gs'->JL K H ks (vs++C6) (gs++gs')
 |[],[],_,_,_,h=>h
 |_::_,_::_,_,_,h,h'=>⟨h.1,JL.app h.2 h'⟩
 |[],_::_,_,_,h,_=>h.elim
 |_::_,[],_,_,h,_=>h.elim
theorem JL.take:∀{vs:List V}{gs:List Bool}(n:Nat),JL K H ks vs gs->JL K H ks (vs.take n) (gs.take n)
 |[],[],n,_=>by simp[JL]
 |_::_,_::_,0,_=>trivial
 |_::_,_::_,n+1,h=>⟨h.1,JL.take n h.2⟩
 |[],_::_,_,h=>h.elim
 |_::_,[],_,h=>h.elim
theorem JL.drop:∀{vs:List V}{gs:List Bool}(n:Nat),JL K H ks vs gs->JL K H ks (vs.drop n) (gs.drop n)
 |[],[],n,_=>by simp[JL]
 |_::_,_::_,0,h=>h
 |_::_,_::_,n+1,h=>JL.drop n h.2
 |[],_::_,_,h=>h.elim
 |_::_,[],_,h=>h.elim
theorem JL.at:∀{vs:List V}{gs:List Bool},JL K H ks vs gs->∀(i:Nat) v g,vs[i]?=some v->gs[i]?=some g->Jdg K H ks v g
 |[],[],_,i,v,g,h,_=>by simp at h
 |_::_,_::_,h,0,v,g,e1,e2=>by
  cases e1;cases e2;exact h.1
 |_::_,_::_,h,i+1,v,g,e1,e2=>JL.at h.2 i v g (by simpa using e1) (by simpa using e2)
 |[],_::_,h,_,_,_,_,_=>h.elim
 |_::_,[],h,_,_,_,_,_=>h.elim
theorem JL.to{ts:List Say}{ss:List Str}{vs:List V}{gs:List Bool}(hN:NamesOf ts ss)(hF:FitRows ts ss ks)(h:JL K H ks vs gs):JdgsAt K H ts vs gs:=λbW R' h1 h2 i v g hv hg=>by
 cases NamesOf.eq h1 hN;cases FitRows.eq h2 hF;exact h.at i v g hv hg
theorem U3{v:V}{g:Bool}(h:Jdg K H ks v g):JL K H ks [v] [g]:=⟨h,trivial⟩
theorem Pp{a:Addr}{k:List Bool}(h:SqT K H a (k.map V.bl))(hk:k∈ks)(hl:k.length<=100):Jdg K H ks (.ref a) true:=by
 refine⟨_,g6 h,(on k).1,.inr ⟨xD.mpr ⟨k,hk,lx (b0 k)⟩,a,_,k.map λ_=>true,rfl,h,by rw[zX];exact hl,by simp,λi z g hz hg=>?_,?_⟩⟩
 ·rw[zE]at hz hg;cases hc:k[i]? with
  |none=>rw[hc]at hz;cases hz
  |some b =>
   rw[hc]at hz hg;cases hz;cases hg;exact .inl ⟨b,rfl,rfl⟩
 ·simp
theorem ie:∀{J:List (Addr×List Bool)},(∀q∈J,SqT K H q.1 (q.2.map V.bl)/\q.2∈ks/\q.2.length<=100)->JL K H ks (J.map λq=>V.ref q.1) (List.replicate J.length true)
 |[],_=>trivial
 |q::J,h=>by
  obtain⟨h1,h2,h3⟩:=h q yZ;exact⟨Pp h1 h2 h3,ie λr hr=>h r (zC _ hr)⟩
end
structure Wrong(K:W.Frag)(H:Hp)(ks:List (List Bool))(ws:List V)(gs:List Bool)(n L:Nat):Prop where
 jl:JL K H ks ws gs
 len:gs.length=L
 at_:gs[n]?=some false
 pre:∀g∈gs.take n,g=true
theorem Wrong.same{H H':Hp}{ks:List (List Bool)}{ws:List V}{gs:List Bool}{n L:Nat}(s:Same H H')(h:Wrong K H ks ws gs n L):Wrong K H' ks ws gs n L:=⟨h.jl.same s,h.len,h.at_,h.pre⟩
theorem Yt{H:Hp}{ks:List (List Bool)}{ws:List V}{n L:Nat}{v:V}(h:JL K H ks ws (List.replicate L true))(hn:n<L)(hv:Jdg K H ks v false):Wrong K H ks ((ws.take n++[v])++ws.drop (n+1)) (((List.replicate L true).take n++[false])++(List.replicate L true).drop (n+1)) n L:=by
 refine⟨((h.take n).app (U3 hv)).app (h.drop (n+1)),by simp;lia,?_,λg hg=>?_⟩
 ·rw[yM (by simp;lia),xZ (by simp;lia)];simp[tY (xT hn)]
 ·rw[xN,vI (by simp;lia)]at hg;exact uC (xE (xE hg))
theorem cw{H:Hp}{ks:List (List Bool)}{ws:List V}{gs:List Bool}{n k L:Nat}{v:V}(h:Wrong K H ks ws gs n L)(hn:n<k)(hk:k<L)(hv:Jdg K H ks v false):Wrong K H ks ((ws.take k++[v])++ws.drop (k+1)) ((gs.take k++[false])++gs.drop (k+1)) n L:=by
 have hl:=h.len;refine⟨((h.jl.take k).app (U3 hv)).app (h.jl.drop (k+1)),by simp;lia,?_,λg hg=>?_⟩
 ·rw[xN,yM (by simp;lia),wQ hn];exact h.at_
 ·rw[xN,vI (by simp;lia),List.take_take,tY (xT hn)]at hg;exact h.pre g hg
theorem Ys{H:Hp}{ks:List (List Bool)}{ws vs:List V}{gs hs:List Bool}{n L:Nat}(h:Wrong K H ks ws gs n L)(h2:JL K H ks vs hs):Wrong K H ks (ws++vs) (gs++hs) n (L+hs.length):=by
 have hn:n<gs.length:=(zU.mp h.at_).1;refine⟨h.jl.app h2,by rw[zN,h.len],?_,λg hg=>?_⟩
 ·rw[yM hn];exact h.at_
 ·rw[vI (xT hn)]at hg;exact h.pre g hg
structure Seats(K:W.Frag)(H:Hp)(b j r:Addr)(us:List V)(ts:List Say)(xs ss:List Str)(J R:List (Addr×List Bool)):Prop where
 sb:SqT K H b us
 sT:SaysAt K H us ts
 sL:Lst ts xs
 sj:SqT K H j (J.map λq=>V.ref q.1)
 sJ:∀q∈J,SqT K H q.1 (q.2.map V.bl)
 sJR:∀q∈J,q.2∈R.map (·.2)
 J1:1<=J.length
 J21:J.length<=21
 sr:H r=some (.lst (R.map λq=>V.ref q.1))
 sR:∀q∈R,SqT K H q.1 (q.2.map V.bl)
 sN:NamesOf ts ss
 sF:FitRows ts ss (R.map (·.2))
 few:R.length<2 ^ ts.length
theorem Seats.same{H H':Hp}{b j r:Addr}{us:List V}{ts:List Say}{xs ss:List Str}{J R:List (Addr×List Bool)}(s:Same H H')(h:Seats K H b j r us ts xs ss J R):Seats K H' b j r us ts xs ss J R :=
 ⟨(z7 s).sqT h.sb,h.sT.mono (z7 s),h.sL,(z7 s).sqT h.sj,λq hq=>(z7 s).sqT (h.sJ q hq),h.sJR,h.J1,h.J21,s _ _ h.sr,λq hq=>(z7 s).sqT (h.sR q hq),h.sN,h.sF,h.few⟩
theorem g0{ts:List Say}{ss:List Str}{ks:List (List Bool)}(h:FitRows ts ss ks){k:List Bool}(hk:k∈ks):k.length=ts.length:=by
 obtain⟨n,_,rfl⟩:=(h.2.1 k).mp hk;exact qw _ _
theorem Seats.jl{H:Hp}{b j r:Addr}{us:List V}{ts:List Say}{xs ss:List Str}{J R:List (Addr×List Bool)}(h:Seats K H b j r us ts xs ss J R):JL K H (R.map (·.2)) (J.map λq=>V.ref q.1) (List.replicate J.length true) :=
 ie λq hq=>⟨h.sJ q hq,h.sJR q hq,by rw[g0 h.sF (h.sJR q hq)];have:=h.sL.hi;lia⟩
theorem Seats.some{H:Hp}{b j r:Addr}{us:List V}{ts:List Say}{xs ss:List Str}{J R:List (Addr×List Bool)}(h:Seats K H b j r us ts xs ss J R):1<=R.length:=by
 have h1:=h.J1;cases hJ:J with
 |nil=>rw[hJ]at h1;simp at h1
 |cons q J' =>
  obtain⟨z,hz,_⟩:=zF.mp (h.sJR q (by rw[hJ];exact yZ));exact tM hz
theorem Seats.bad{H:Hp}{b j r a:Addr}{us:List V}{ts:List Say}{xs ss:List Str}{J R:List (Addr×List Bool)}{ns:List Int}{k:Int}{Q:VK}{E:XK}(h:Seats K H b j r us ts xs ss J R)(hS:SqL K H a (ns.map V.int))(bL:ns.length<=5000)(h0:0<=k)(hk:k<=1000)
  (q:∀(v:V)(H':Hp),Same H H'->Jdg K H' (R.map (·.2)) v false->Q v H'):nj K [.ref a,.int k,.ref r] H Q E :=
 ⟨a,r,ns,k,R,ts.length,rfl,hS,bL,h0,hk,h.sr,h.sR,λz hz=>g0 h.sF (yK (f:=λq:Addr×List Bool=>q.2) hz),h.some,h.few,h.sL.lo,h.sL.hi,q⟩
theorem Lst.to130{ts:List Say}{xs:List Str}(h:Lst ts xs):∀t∈ts,t.pieces<=130:=λt ht=>yW (h.pc t ht) (by decide)
theorem Seats.refRow{H:Hp}{b j r p:Addr}{us:List V}{ts:List Say}{xs ss:List Str}{J R:List (Addr×List Bool)}{ws:List V}{gs:List Bool}{n L:Nat}(h:Seats K H b j r us ts xs ss J R)(hp:SqT K H p ws)(hw:Wrong K H (R.map (·.2)) ws gs n L)(h1:1<=L)(h2:L<=21):RefBy K H b p (.row n):=by
 have hl:=hw.jl.len;have hg:=hw.len;exact⟨us,ws,ts,xs,h.sb,h.sT,hp,Lst.toW h.sL,Lst.to130 h.sL,by lia,⟨h.sL,by lia,by lia⟩,gs,by lia,hw.jl.to h.sN h.sF,hw.at_,hw.pre⟩
theorem yr{H:Hp}{b p:Addr}{us ws:List V}{ts:List Say}{xs:List Str}(hb:SqT K H b us)(hT:SaysAt K H us ts)(hL:k4 ts xs)(kN:∀t∈ts,t.pieces<=130)(hp:SqT K H p ws)(hw:ws.length<=2000)(no:noB ts ws.length):RefBy K H b p .bounds:=⟨us,ws,ts,xs,hb,hT,hp,hL,kN,hw,no⟩
theorem md:k4 [] []:=⟨by simp,λx hx=>by simp[w4]at hx,by simp,λx hx=>by simp at hx⟩
def np(K:W.Frag):Sp:=λvs H Q _=>∃(a b j r:Addr)(ns:List Int)(us:List V)(ts:List Say)(xs ss:List Str)(J R:List (Addr×List Bool)),vs=[.ref a,.ref b,.ref j,.ref r]/\SqL K H a (ns.map V.int)/\ns.length<=5000/\Seats K H b j r us ts xs ss J R/\∀H',Same H H'->Q (.bl true) H'
theorem sc_rowwrong:zj ["_law_script","_law_sayings","_law_judges","_law_fit","_law_at","_law_bad","_law_more","_law_great"] ["_law_script","_law_sayings","_law_judges","_law_fit"] (z0 (top 49)):=⟨rfl,rfl,rfl,by decide +kernel,rfl,by decide +kernel,by decide +kernel⟩
theorem ff(D:Def K mg "_law_row_wrong" (top 49) ["_law_script","_law_sayings","_law_judges","_law_fit"])(aC:zw P w K mg base 2 "_law_pick" ["_law_script","_law_k","_law_many"] (vm K))(eS:zw P w K mg base 3 "_law_bad_row" ["_law_script","_law_k","_law_fit"] (nj K))(aE:zw P w K mg base 134 "_law_refused" ["_law_sayings","_law_judges","_law_kind_here","_law_number"] (vx K))(aH:mg "len"=none):zw P w K mg base 135 "_law_row_wrong" ["_law_script","_law_sayings","_law_judges","_law_fit"] (np K):=by
 refine D.callee sc_rowwrong (λvs H Q E h=>?_) λf cdv A outer s H vs Q E hr h=>?_
 ·obtain⟨a,b,j,r,ns,us,ts,xs,ss,J,R,rfl,_⟩:=h
  rfl
 have nd:=sc_rowwrong.nd;obtain⟨a,b,j,r,ns,us,ts,xs,ss,J,R,rfl,hS,bL,h,q⟩:=h;have hJ1:=h.J1;have Il:=h.J21;refine⟨[some (.ref a),some (.ref b),some (.ref j),some (.ref r),none,none,none,none],_,rfl,(z5 (zp 4 nd (zx aC hr (by lia) (z9 (z8 0) (z9 z4 (z9 (zt xz rfl aH yk (z9 (z8 2) z6)) z6)))))
  (z5 (zp 5 nd (zv zh (zv zh (zc (z8 2) zd (yz (z8 4))) (yy (z9 (zx eS hr (by lia) (z9 (z8 0) (z9 z4 (z9 (z8 3) z6)))) z6))) (zc (z8 2) (yz (zv zh (z8 4) z4)) zd)))
  (z5 (y8 (zb (xh hr.units) (zx aC hr (by lia) (z9 (z8 0) (z9 z4 (z9 z4 z6)))) z4 (zf _)) (z5 (zp 6 nd (zv zh (z8 4) (zx aC hr (by lia) (z9 (z8 0) (z9 z4 (z9 (zv R3 (zt xz rfl aH yk (z9 (z8 2) z6)) (z8 4)) z6))))))
  (zz (y8 (zb d8 (z8 6) (z8 4) (zf _)) (zz (zp 5 nd (zv zh (zv zh (zc (z8 5) zd (yz (z8 6))) (yy (z9 (zx eS hr (by lia) (z9 (z8 0) (z9 z4 (z9 (z8 3) z6)))) z6))) (zc (z8 5) (yz (zv zh (z8 6) z4)) zd)))) zm))) zm)
  (z5 (y8 (wv (wy (zx aE hr (by lia) (z9 (z8 1) (z9 (z8 5) (z9 zo (z9 (z8 4) z6))))))) (zz (zr xq)) zm)
  (z5 (y8 (PW.pt (mw (zb Vo (zt xz rfl aH yk (z9 (z8 5) z6)) z4 (zf _)) (tf (wv (wy (zx aE hr (by lia) (z9 (z8 1) (z9 (zv zh (z8 5) (zc (z8 2) zd (yz z4))) (z9 zo (z9 (z8 4) z6)))))))))) (zz (zr xq)) zm)
  (z5 (zp 7 nd (zc (zv qt (z8 5) z4) zd (yz (zv zh z4 (zx aC hr (by lia) (z9 (z8 0) (z9 z4 (z9 z4 z6))))))))
  (zz (zr (v7 (zx aE hr (by lia) (z9 (zc (z8 1) zd (yz z4)) (z9 (z8 5) (z9 zo (z9 (wz yb z4) z6))))) (xo (zx aE hr (by lia) (z9 (z8 1) (z9 (z8 7) (z9 zo (z9 (wz yb z4) z6))))))))))))))),?_⟩
 walk_at"rp";refine⟨_,.inr h.sj,?_⟩;rw[zX];refine⟨a,ns,_,_,rfl,hS,bL,by decide,by decide,by lia,λat_ t0 t1=>?_⟩;obtain⟨n,rfl⟩:=tR t0;have hn:n<J.length:=by lia
 walk_at"rp";refine .inr ⟨_,h.sj,λp1 H1 s1 h1=>?_⟩;rw[yo _ (by lia),yG]at h1;walk_at"rp";refine(h.same s1).bad (s1.seq hS) bL (by decide) (by decide) λv H2 s2 hv=>?_;walk_at"rp";refine⟨zn (by simp),λp3 H3 n3 s3 e3=>?_⟩;walk_at"rp";refine .inr ⟨_,_,(z7 (s2.trans s3)).sqT h1,SqT.of e3,?_,λp4 H4 s4 h4=>?_⟩
 ·exact zn (by simp;lia)
 walk_at"rp";have kM:=s1.trans (s2.trans (s3.trans s4));refine .inr ⟨_,(h.same kM).sj,λp5 H5 s5 h5=>?_⟩;rw[wn _ (by lia),show((n:Int)+1).toNat=n+1 by lia]at h5;walk_at"rp";refine .inr ⟨_,_,(z7 s5).sqT h4,h5,?_,λp6 H6 s6 h6=>?_⟩
 ·exact zn (by simp;lia)
 have oJ:=kM.trans (s5.trans s6);have w6:=Yt (n:=n) (L:=J.length) (h.same oJ).jl hn (hv.same (s3.trans (s4.trans (s5.trans s6))));refine tq (C:=fun σ' H'=>∃(p:Addr)(ws:List V)(gs:List Bool)(x6:Option V),σ'=[some (.ref a),some (.ref b),some (.ref j),some (.ref r),some (.int (n:Int)),some (.ref p),x6,none]/\Same H H'/\SqT K H' p ws/\Wrong K H' (R.map (·.2)) ws gs n J.length) (λN hN=>?_) ?_
 ·walk_at"rp";refine⟨a,ns,_,2,rfl,oJ.seq hS,bL,by decide,by decide,by decide,λz _ _=>?_⟩;walk_at"rp";refine xa (λc=>?_) λc=>?_
  ·refine⟨_,.inr (h.same oJ).sj,?_⟩;rw[zX];refine⟨a,ns,_,_,rfl,oJ.seq hS,bL,by decide,by decide,by lia,λy y0 y1=>?_⟩;walk_at"rp";refine xa (λc2=>?_) λc2=>?_
   ·have c2':=yN c2;obtain⟨y',rfl⟩:=tR y0;refine .inr ⟨_,h6,λp7 H7 s7 h7=>?_⟩;rw[yo _ (by lia),show((n:Int)+(y':Int)).toNat=n+y' by lia]at h7;walk_at"rp";refine(h.same (oJ.trans s7)).bad ((oJ.trans s7).seq hS) bL (by decide) (by decide) λv2 H8 s8 hv2=>?_;walk_at"rp";refine⟨zn (by simp),λp9 H9 n9 s9 e9=>?_⟩;walk_at"rp";refine .inr ⟨_,_,(z7 (s8.trans s9)).sqT h7,SqT.of e9,?_,λpa Ha sa ha=>?_⟩
    ·exact zn (by simp;lia)
    walk_at"rp";have s6a:=s7.trans (s8.trans (s9.trans sa));refine .inr ⟨_,(z7 s6a).sqT h6,λpb Hb sb hb=>?_⟩;rw[wn _ (by lia),show((n:Int)+(y':Int)+1).toNat=n+y'+1 by lia]at hb;walk_at"rp";refine .inr ⟨_,_,(z7 sb).sqT ha,hb,?_,λpc Hc sc hc=>?_⟩
    ·exact zn (by simp;lia)
    exact hN _ _ ⟨pc,_,_,_,rfl,oJ.trans (s6a.trans (sb.trans sc)),hc,cw (w6.same (s6a.trans (sb.trans sc))) (by lia) (by lia) (hv2.same (s9.trans (sa.trans (sb.trans sc))))⟩
   ·exact hN _ _ ⟨p6,_,_,_,rfl,oJ,h6,w6⟩
  ·exact hN _ _ ⟨p6,_,_,_,rfl,oJ,h6,w6⟩
 ·rintro σ' H7 ⟨p,ws,gs,x6,rfl,s7,hp,hw⟩;have hwl:=hw.jl.len;have hgl:=hw.len;walk_at"rp";refine⟨b,p,.row n,rfl,(h.same s7).refRow hp hw hJ1 Il,(λz=>by cases z),λH8 s8=>?_⟩;have Ds:=s7.trans s8;have hp8:=(z7 s8).sqT hp;have hw8:=hw.same s8;walk_at"rs";refine tq (C:=fun σ' H'=>σ'=[some (.ref a),some (.ref b),some (.ref j),some (.ref r),some (.int (n:Int)),some (.ref p),x6,none]/\Same H8 H') (λN hN=>?_) ?_
  ·walk_at"rp";refine⟨_,.inr hp8,?_⟩;refine xa (λc=>?_) λc=>hN _ _ ⟨rfl,Same.refl _⟩;have c':=yN c;refine .inr ⟨_,(h.same Ds).sj,λp1 H9 s9 h9=>?_⟩;rw[yo _ (by decide)]at h9;refine .inr ⟨_,_,(z7 s9).sqT hp8,h9,?_,λp2 Ha sa ha=>?_⟩
   ·exact zn (by simp;lia)
   have s0a:=Ds.trans (s9.trans sa);have wa:=Ys (hw8.same (s9.trans sa)) ((h.same s0a).jl.take 1);have hrl:((List.replicate J.length true).take 1).length=1:=by simp;lia
   refine⟨b,p2,.row n,rfl,(h.same s0a).refRow ha wa (by lia) (by lia),(λz=>by cases z),λHb sb=>?_⟩;walk_at"rp";exact hN _ _ ⟨rfl,s9.trans (sa.trans sb)⟩
  ·rintro σ' H9 ⟨rfl,s9⟩;have Cm:=Ds.trans s9;have hp9:=(z7 s9).sqT hp8;walk_at"rp";refine⟨_,hp9,by decide,by decide,by simp;lia,λp2 Ha sa ha=>?_⟩;refine⟨a,ns,_,39,rfl,(Cm.trans sa).seq hS,bL,by decide,by decide,by decide,λy y0 y1=>?_⟩;walk_at"rp";refine .inr ⟨_,ha,λp3 Hb sb hb=>?_⟩;rw[yo _ (by lia)]at hb;walk_at"rp";have Dr:=Cm.trans (sa.trans sb);refine .inr ⟨_,(h.same Dr).sb,λp4 Hc sc hc=>?_⟩;rw[yo _ (by decide)]at hc;walk_at"rp";have hc0:SqT K Hc p4 []:=hc;have s9c:=sa.trans (sb.trans sc);refine⟨1,rfl,p4,p,.bounds,rfl,yr (us:=[]) (ts:=[]) (xs:=[]) hc0 trivial md (λt ht=>by cases ht) ((z7 s9c).sqT hp9) (by lia) (.inl (by simp)),(λz=>by cases z),λHd sd=>?_⟩;walk_at"rp";have s0d:=Cm.trans (s9c.trans sd);have aN:(List.take (22+y).toNat (List.replicate (Int.toNat 22) ws).flatten).length=min (22+y).toNat (22*ws.length):=by rw[yE,oq];rfl
   refine⟨1,rfl,b,p3,.bounds,rfl,yr (h.same s0d).sb (h.same s0d).sT (Lst.toW h.sL) (Lst.to130 h.sL) ((z7 (sc.trans sd)).sqT hb) (by rw[aN];lia) (.inr (.inr (.inr (.inl (by rw[aN];lia))))),(λz=>by cases z),λHe se=>?_⟩;walk_at"rp";exact q He (s0d.trans se)
theorem xt:∀zs:List Str,w4 (zs.map Say.letter)=zs
 |[]=>rfl
 |z::zs=>by
  have h:=xt zs;unfold w4 at h ⊢;rw[List.map_cons,List.map_cons,wM,h]
  rfl
theorem ur{zs:List Str}{n:Nat}(hn:1<=n):∀t∈zs.map Say.letter,t.pieces<=n:=λt ht=>by
 obtain⟨z,_,rfl⟩:=zF.mp ht;exact hn
theorem Va{zs ys:List Str}(h7:zs.length<=7)(hs:∀z∈zs,z∈ys)(hl:ys.length<=60)(hok:∀y∈ys,Nm y):k4 (zs.map Say.letter) ys :=
 ⟨by rw[zX];exact h7,by rw[xt];exact hs,hl,hok⟩
theorem im{ts:List Say}{ys:List Str}{n:Nat}(hn:ys.Nodup)(h6:6<=ys.length)(hs:∀y∈ys,y∈w4 ts):noB ts n :=
 .inr (.inr (.inr (.inr (.inr λss hN=>by
  have:=yj hn λy hy=>(hN.2.1 y).mpr (hs y hy);lia))))
theorem Ug:Nm (Str.ofString "aeiou"):=by unfold Nm;decide +kernel
theorem Sf:¬NA (Str.ofString "aeiou"):=by unfold NA;decide +kernel
theorem Yq:wideS.length=6:=by decide +kernel
def uk(K:W.Frag):Sp:=λvs H Q _=>∃(a b j:Addr)(ns:List Int)(us ws:List V)(ts:List Say)(xs:List Str),vs=[.ref a,.ref b,.ref j]/\SqL K H a (ns.map V.int)/\ns.length<=5000/\SqT K H b us/\SaysAt K H us ts/\Lst ts xs/\SqT K H j ws/\1<=ws.length/\ws.length<=21/\∀H',Same H H'->Q (.bl true) H'
theorem sc_boundswrong:zj ["_law_script","_law_sayings","_law_judges","_law_names_here","_law_way","_law_six","_law_many","_law_wrong","_law_long_here"] ["_law_script","_law_sayings","_law_judges"] (z0 (top 52)):=⟨rfl,rfl,rfl,by decide +kernel,rfl,by decide +kernel,by decide +kernel⟩
theorem mq(D:Def K mg "_law_bounds_wrong" (top 52) ["_law_script","_law_sayings","_law_judges"])(aC:zw P w K mg base 2 "_law_pick" ["_law_script","_law_k","_law_many"] (vm K))(bG:zw P w K mg base 3 "_law_names" ["_law_script","_law_k","_law_many"] (o5 K))(fB:zw P w K mg base 1 "_law_long" ["_law_name","_law_pieces"] (ce K))(lM:zw P w K mg base 3 "_law_wide" ["_law_script"] (Wp K))(aE:zw P w K mg base 134 "_law_refused" ["_law_sayings","_law_judges","_law_kind_here","_law_number"] (vx K))(aD:mg "tuple"=none):zw P w K mg base 135 "_law_bounds_wrong" ["_law_script","_law_sayings","_law_judges"] (uk K):=by
 refine D.callee sc_boundswrong (λvs H Q E h=>?_) λf cdv A outer s H vs Q E hr h=>?_
 ·obtain⟨a,b,j,ns,us,ws,ts,xs,rfl,_⟩:=h
  rfl
 have nd:=sc_boundswrong.nd;obtain⟨a,b,j,ns,us,ws,ts,xs,rfl,hS,bL,hb,hT,hL,hj,hw1,hw21,q⟩:=h;refine⟨[some (.ref a),some (.ref b),some (.ref j),none,none,none,none,none,none],_,rfl,(z5 (zp 3 nd (zv zh (zx bG hr (by lia) (z9 (z8 0) (z9 z4 (z9 z4 z6)))) (xp (z9 zo z6))))
  (z5 (zp 4 nd (zx aC hr (by lia) (z9 (z8 0) (z9 z4 (z9 z4 z6)))))
  (z5 (zp 5 nd (yt xu rfl aD yl (z9 (yg (ixs:=[]) (y9 (own:=["_law_name"]) (N:=[]) rfl rfl rfl rfl rfl rfl rfl (by decide +kernel) rfl rfl rfl) rfl (ym (z8 3)) (λ_ _ _ _=>yp) (λ_ _ _ _=>(yy (z9 zo (z9 (z8 0) z6)))) rfl) z6)))
  (z5 (y8 (zb (xh hr.units) (z8 4) z4 (zf _)) (zz (zr (v7 (zx aE hr (by lia) (z9 (yy z6) (z9 (z8 2) (z9 zo (z9 (wz yb z4) z6))))) (xo (zx aE hr (by lia) (z9 (yy z6) (z9 (yy z6) (z9 zo (z9 (wz yb z4) z6))))))))) zm)
  (z5 (y8 (zb (xh hr.units) (z8 4) z4 (zf _)) (z5 (zp 6 nd (zv zh (zc (z8 5) zd (yz z4)) (zc (z8 5) zd (yz z4))))
  (zz (zr (v7 (zx aE hr (by lia) (z9 (z8 6) (z9 (yy (z9 (zv qt (yy (z9 xq z6)) z4) z6)) (z9 zo (z9 (wz yb z4) z6))))) (xo (zx aE hr (by lia) (z9 (z8 6) (z9 (z8 2) (z9 zo (z9 (wz yb z4) z6)))))))))) zm)
  (z5 (y8 (zb (xh hr.units) (z8 4) z4 (zf _)) (z5 (zp 7 nd (zv zh (yy (z9 (yy (z9 zo (z9 (yh (z8 5) z4 (λ_ _=>rfl)) (z9 (yh (z8 5) z4 (λ_ _=>rfl)) z6)))) z6)) (zc (z8 5) zd (yz z4))))
  (z5 (y8 (wv (wy (zx aE hr (by lia) (z9 (zx lM hr (by lia) (z9 (z8 0) z6)) (z9 (yy (z9 (zv qt (yy (z9 xq z6)) z4) z6)) (z9 zo (z9 (wz yb z4) z6))))))) (zz (zr xq)) zm)
  (zz (zr (v7 (zx aE hr (by lia) (z9 (z8 5) (z9 (yy (z9 (zv qt (yy (z9 xq z6)) z4) z6)) (z9 zo (z9 (wz yb z4) z6))))) (xo (zx aE hr (by lia) (z9 (z8 7) (z9 (yy (z9 (zv qt (yy (z9 xq z6)) z4) z6)) (z9 zo (z9 (wz yb z4) z6))))))))))) zm)
  (z5 (y8 (zb (xh hr.units) (z8 4) z4 (zf _)) (z5 (zp 8 nd (yy (z9 (zx fB hr (by lia) (z9 (yh (z8 3) z4 (λ_ _=>rfl)) (z9 (zv zh z4 (zx aC hr (by lia) (z9 (z8 0) (z9 z4 (z9 z4 z6))))) z6))) z6)))
  (zz (zr (v7 (zx aE hr (by lia) (z9 (z8 8) (z9 (yy (z9 (yy (z9 xq z6)) z6)) (z9 zo (z9 (wz yb z4) z6))))) (xo (zx aE hr (by lia) (z9 (zv zh (zc (z8 5) zd (yz z4)) (z8 8)) (z9 (z8 2) (z9 zo (z9 (wz yb z4) z6)))))))))) zm)
  (z5 (y8 (zb (xh hr.units) (z8 4) z4 (zf _)) (zz (zr (zx aE hr (by lia) (z9 (z8 1) (z9 (yy z6) (z9 zo (z9 (wz yb z4) z6))))))) zm)
  (z5 (zp 6 nd (zv zh z4 (zx aC hr (by lia) (z9 (z8 0) (z9 z4 (z9 z4 z6))))))
  (zz (zr (zx aE hr (by lia) (z9 (z8 1) (z9 (zc (zv qt (z8 2) z4) zd (yz (z8 6))) (z9 zo (z9 (wz yb z4) z6)))))))))))))))),?_⟩
 walk_at"rp";refine⟨a,ns,0,5,rfl,hS,bL,by decide,by decide,by decide,by decide,λp1 H1 zs n1 s1 e1 hzl C3 hNA mJ=>?_⟩;walk_at"rp";refine⟨zn (by simp),λp2 H2 n2 s2 e2=>?_⟩;walk_at"rp";refine .inl ⟨_,_,s2 _ _ e1,e2,zn (by simp;lia),λp3 H3 n3 s3 e3=>?_⟩;have e3':H3 p3=some (.lst ((zs++[Str.ofString "aeiou"]).map V.str)):=by rw[zP];exact e3
 have qH:(zs++[Str.ofString "aeiou"]).length=6:=by rw[zN,xB];lia
 have AO:(zs++[Str.ofString "aeiou"]).Nodup:=by
  rw[List.nodup_append];refine⟨mJ,by simp,λx hx y hy e=>?_⟩;rw[zW.mp hy]at e;exact Sf (e▸hNA x hx)
 have mU:∀y∈zs++[Str.ofString "aeiou"],Nm y:=λy hy=>by
  rcases zO.mp hy with z|z
  ·exact C3 y z
  ·rw[zW.mp z];exact Ug
 generalize zs++[Str.ofString "aeiou"]=ys at e3' qH AO mU;clear e3;have Cp:=s1.trans (s2.trans s3);walk_at"rp";refine⟨a,ns,_,6,rfl,Cp.seq hS,bL,by decide,by decide,by decide,λway w0 w6=>?_⟩;walk_at"rp";refine .inl ⟨⟨_,SqL.of e3'⟩,λC s₀ H₀ ex=>?_⟩;refine wb (xs:=ys.map V.str) (λD i vs H4=>SaysAt K H4 vs ((ys.take i).map Say.letter)/\i<=6/\H4 D=some (.lst vs)/\Same H3 H4/\H3 D=none) (by rw[zX,zD];lia) ?_ ?_ ?_ ?_
 ·intro D H4 n4 s4 e4;exact⟨trivial,by decide,e4,s4,n4⟩
 ·rintro D i vs H4 ⟨iI,hi,e4,s4,_⟩;exact⟨SqL.of (s4 _ _ e3'),e4,by rw[iI.len,zX,yE];lia⟩
 ·rintro D i v vs H4 hv ⟨iI,hi,e4,s4,n4⟩;rw[zE]at hv;cases hc:ys[i]? with
  |none=>rw[hc]at hv;cases hv
  |some x =>
   rw[hc]at hv;cases hv;have aS:=(zU.mp hc).1;walk_at"rp";refine⟨zn (by simp),λp H5 n5 s5 e5=>⟨s5 _ _ e4,CN.mk (by rw[zX];exact aS) ⟨?_,by lia,zy,zu (s4.trans s5) n4 _,n4⟩⟩⟩;have tl:=yf (o:=.lst (vs++[V.ref p])) (s5 _ _ e4);rw[yX,hc,zP];exact SaysAt.app (iI.mono ((z7 s5).trans tl)) ⟨⟨p,rfl,tl.sqT (SqT.of e5)⟩,trivial⟩
 rintro p4 rR H4 ⟨Bp,_,e4,s4,n4⟩;rw[zX,yV]at Bp;walk_at"rp";refine⟨_,.inl (SqL.of e4),λp5 H5 s5 h5=>?_⟩;have sM:=Bp.mono (z7 s5);have nP:=Cp.trans (s4.trans s5);have BY:=(s4.trans s5) _ _ e3';clear Bp e4 n4 s4;have hb5:=(z7 nP).sqT hb;have hT5:=hT.mono (z7 nP);have HJ:=(z7 nP).sqT hj;have sub:∀{n:Nat},∀z∈ys.take n,z∈ys:=λz hz=>xE hz;walk_at"rp";refine xa (λc0=>?_) λc0=>?_
 ·-- no sayings
  refine⟨zn (by simp),λp6 H6 n6 s6 e6=>?_⟩;walk_at"rp";refine⟨1,rfl,p6,j,.bounds,rfl,yr (us:=[]) (ts:=[]) (xs:=[]) (SqT.of e6) trivial md (λt ht=>by cases ht) ((z7 s6).sqT HJ) (by lia) (.inl (by simp)),(λz=>by cases z),λH7 s7=>?_⟩;walk_at"rp";refine⟨zn (by simp),λp8 H8 n8 s8 e8=>?_⟩;walk_at"rp";refine⟨zn (by simp),λp9 H9 n9 s9 e9=>?_⟩;walk_at"rp";refine⟨1,rfl,p8,p9,.bounds,rfl,yr (us:=[]) (ts:=[]) (xs:=[]) (SqT.of (s9 _ _ e8)) trivial md (λt ht=>by cases ht) (SqT.of e9) (by simp) (.inl (by simp)),(λz=>by cases z),λHa sa=>?_⟩;walk_at"rp";exact q Ha (nP.trans (s6.trans (s7.trans (s8.trans (s9.trans sa)))))
 walk_at"rp";refine xa (λc1=>?_) λc1=>?_
 ·-- seven sayings
  refine .inr ⟨_,h5,λp6 H6 s6 h6=>?_⟩;rw[yo _ (by decide)]at h6;walk_at"rp";refine .inr ⟨_,(z7 s6).sqT h5,λp7 H7 s7 h7=>?_⟩;rw[yo _ (by decide)]at h7;walk_at"rp";have G':=sM.len;rw[zX]at G';refine .inr ⟨_,_,(z7 s7).sqT h6,h7,?_,λp8 H8 s8 h8=>?_⟩
  ·exact zn (by simp;lia)
  have Ci:=s6.trans (s7.trans s8);have hS8:=sM.mono (z7 Ci);have hS9:SaysAt K H8 (rR.take 5++rR.take 2) ((ys.take 5++ys.take 2).map Say.letter):=by
   rw[zP,wP,wP];exact SaysAt.app (SaysAt.take 5 hS8) (SaysAt.take 2 hS8)
  have hlen7:(ys.take 5++ys.take 2).length=7:=by simp;lia
  have hW7:k4 ((ys.take 5++ys.take 2).map Say.letter) ys:=Va (by lia) (λz hz=>by
   rcases zO.mp hz with y|y
   ·exact sub z y
   ·exact sub z y) (by lia) mU
  have no7:∀n,noB ((ys.take 5++ys.take 2).map Say.letter) n:=λn=>.inr (.inl (by rw[zX];lia));walk_at"rp";refine⟨zn (by simp),λp9 H9 n9 s9 e9=>?_⟩;walk_at"rp";refine⟨_,SqT.of e9,by decide,by decide,by simp,λpa Ha sa ha=>?_⟩;walk_at"rp";refine⟨zn (by simp),λpb Hb nb sb eb=>?_⟩;walk_at"rp";have Cg:=s9.trans (sa.trans sb);refine⟨1,rfl,p8,pb,.bounds,rfl,yr ((z7 Cg).sqT h8) (hS9.mono (z7 Cg)) hW7 (ur (by decide)) (SqT.of eb) (by simp) (no7 _),(λz=>by cases z),λHc sc=>?_⟩;walk_at"rp";have s8c:=Cg.trans sc;refine⟨1,rfl,p8,j,.bounds,rfl,yr ((z7 s8c).sqT h8) (hS9.mono (z7 s8c)) hW7 (ur (by decide)) ((z7 (Ci.trans s8c)).sqT HJ) (by lia) (no7 _),(λz=>by cases z),λHd sd=>?_⟩;walk_at"rp";exact q Hd (nP.trans (Ci.trans (s8c.trans sd)))
 walk_at"rp";refine xa (λc2=>?_) λc2=>?_
 ·-- six names
  have G':=sM.len;rw[zX]at G';obtain⟨y4,hy4⟩:∃y,ys[4]?=some y:=⟨_,zL (by lia)⟩
  obtain⟨y5,hy5⟩:∃y,ys[5]?=some y:=⟨_,zL (by lia)⟩
  obtain⟨v4,hv4⟩:∃y,rR[4]?=some y:=⟨_,zL (by lia)⟩
  obtain⟨v5,hv5⟩:∃y,rR[5]?=some y:=⟨_,zL (by lia)⟩
  have hv4s:SayAt K H5 v4 (.letter y4):=by
   obtain⟨t,ht,hs⟩:=sM.at 4 v4 hv4;rw[zE,hy4]at ht;cases ht;exact hs
  have hv5s:SayAt K H5 v5 (.letter y5):=by
   obtain⟨t,ht,hs⟩:=sM.at 5 v5 hv5;rw[zE,hy5]at ht;cases ht;exact hs
  refine⟨_,_,.inr h5,w9 (j:=4) hv4,?_⟩;walk_at"rp";refine⟨_,_,.inr h5,w9 (j:=5) hv5,?_⟩;walk_at"rp";refine⟨zn (by simp),λp6 H6 n6 s6 e6=>?_⟩;walk_at"rp";refine⟨zn (by simp),λp7 H7 n7 s7 e7=>?_⟩;walk_at"rp";have Ck:=s6.trans s7;refine .inr ⟨_,(z7 Ck).sqT h5,λp8 H8 s8 h8=>?_⟩;rw[yo _ (by decide)]at h8;walk_at"rp";refine .inr ⟨_,_,SqT.of (s8 _ _ e7),h8,?_,λp9 H9 s9 h9=>?_⟩
  ·exact zn (by simp;lia)
  have Ch:=Ck.trans (s8.trans s9);have hT9:SaysAt K H9 ([V.ref p6]++rR.take 4) ([.bin .con (.letter y4) (.letter y5)]++(ys.take 4).map Say.letter):=by
   refine SaysAt.app ⟨⟨p6,v4,v5,rfl,SqT.of ((s7.trans (s8.trans s9)) _ _ e6),hv4s.mono (z7 Ch),hv5s.mono (z7 Ch)⟩,trivial⟩ ?_;rw[wP];exact SaysAt.take 4 (sM.mono (z7 Ch))
  have HM:∀y,y∈w4 ([.bin .con (.letter y4) (.letter y5)]++(ys.take 4).map Say.letter)↔y∈ys:=λy=>by
   rw[uy,xt,zO];have e1:w4 [Say.bin .con (.letter y4) (.letter y5)]=[y4,y5]:=rfl;rw[e1];have hd:ys=ys.take 4++[y4,y5]:=by
    have h1:=List.take_append_drop 4 ys;have h2:ys.drop 4=[y4,y5]:=by
     rw[vY (by lia),vY (by lia),vG (by lia)];rw[zL (by lia)]at hy4 hy5;cases hy4;cases hy5
     rfl
    rw[h2]at h1;exact h1.symm
   constructor
   ·rintro(z|z)
    ·rw[hd];exact zJ _ z
    ·exact sub y z
   ·intro z;rw[hd]at z;rcases zO.mp z with z|z
    ·exact .inr z
    ·exact .inl z
  have hW9:k4 ([.bin .con (.letter y4) (.letter y5)]++(ys.take 4).map Say.letter) ys:=⟨by simp;lia,λx hx=>(HM x).mp hx,by lia,mU⟩
  have hpc9:∀t∈([.bin .con (.letter y4) (.letter y5)]++(ys.take 4).map Say.letter:List Say),t.pieces<=130:=λt ht=>by
   rcases zO.mp ht with z|z
   ·rw[zW.mp z];simp[Say.pieces]
   ·exact ur (by decide) t z
  have hW6:k4 (ys.map Say.letter) ys:=Va (by lia) (λz hz=>hz) (by lia) mU;walk_at"rp";refine⟨a,ns,rfl,(nP.trans Ch).seq hS,bL,λpw Hw uw tw sw hw hTw hw6 hwp hwx pV=>?_⟩;walk_at"rp";refine⟨zn (by simp),λpa Ha na sa ea=>?_⟩;walk_at"rp";refine⟨_,SqT.of ea,by decide,by decide,by simp,λpb Hb sb hb=>?_⟩;walk_at"rp";refine⟨zn (by simp),λpc Hc nc sc ec=>?_⟩;walk_at"rp";have swc:=sa.trans (sb.trans sc);refine⟨1,rfl,pw,pc,.bounds,rfl,yr (xs:=wideX) ((z7 swc).sqT hw) (hTw.mono (z7 swc)) ⟨by lia,hwx,by rw[Yr];decide,W0⟩ (λt ht=>yW (hwp t ht) (by decide)) (SqT.of ec) (by simp) (im Wz (by rw[Yq];decide) pV),(λz=>by cases z),λHd sd=>?_⟩;walk_at"rp";have s9d:=sw.trans (swc.trans sd);have s5d:=Ch.trans s9d;refine⟨zn (by simp),λpe He ne se ee=>?_⟩;walk_at"rp";refine⟨_,SqT.of ee,by decide,by decide,by simp,λpf Hf sf hf=>?_⟩;walk_at"rp";refine⟨zn (by simp),λpg Hg ng sg eg=>?_⟩;walk_at"rp";have sdg:=se.trans (sf.trans sg);have s5g:=s5d.trans sdg;refine⟨1,rfl,p5,pg,.bounds,rfl,yr ((z7 s5g).sqT h5) (sM.mono (z7 s5g)) hW6 (ur (by decide)) (SqT.of eg) (by simp) (im AO (by lia) (by rw[xt];exact λy hy=>hy)),(λz=>by cases z),λHh sh=>?_⟩;walk_at"rp";refine⟨zn (by simp),λpi Hi ni si ei=>?_⟩;walk_at"rp";refine⟨_,SqT.of ei,by decide,by decide,by simp,λpj Hj sj HK=>?_⟩;walk_at"rp";refine⟨zn (by simp),λpk Hk nk sk ek=>?_⟩;walk_at"rp";have s9k:=s9d.trans (sdg.trans (sh.trans (si.trans (sj.trans sk))));refine⟨1,rfl,p9,pk,.bounds,rfl,yr ((z7 s9k).sqT h9) (hT9.mono (z7 s9k)) hW9 hpc9 (SqT.of ek) (by simp) (im AO (by lia) λy hy=>(HM y).mpr hy),(λz=>by cases z),λHl sl=>?_⟩;walk_at"rp";exact q Hl (nP.trans (Ch.trans (s9k.trans sl)))
 walk_at"rp";refine xa (λc3=>?_) λc3=>?_
 ·-- a long saying
  obtain⟨y0,Cs⟩:∃y,ys[0]?=some y:=⟨_,zL (by lia)⟩
  refine⟨_,_,.inl (SqL.of BY),w9 (j:=0) (by rw[zE,Cs];rfl),?_⟩;walk_at"rp";refine⟨a,ns,_,80,rfl,nP.seq hS,bL,by decide,by decide,by decide,λy y0' y1=>?_⟩;walk_at"rp";refine⟨y0,_,rfl,by lia,by lia,λv H6 s6 hv=>?_⟩;walk_at"rp";refine⟨zn (by simp),λp7 H7 n7 s7 e7=>?_⟩;walk_at"rp";refine⟨zn (by simp),λp8 H8 n8 s8 e8=>?_⟩;walk_at"rp";refine⟨zn (by simp),λp9 H9 n9 s9 e9=>?_⟩;walk_at"rp";have qK:(pd y0 (41+y-1).toNat).pieces=(41+y).toNat:=by rw[iq];lia
  have s79:=s8.trans s9;have s69:=s7.trans s79;refine⟨1,rfl,p7,p9,.bounds,rfl,yr (ts:=[pd y0 (41+y-1).toNat]) (xs:=ys) (SqT.of (s79 _ _ e7)) ⟨hv.mono (z7 s69),trivial⟩ ⟨by simp,λx hx=>?_,by lia,mU⟩ (λt ht=>by rw[zW.mp ht,qK];lia) (SqT.of e9) (by simp) (.inr (.inr (.inr (.inr (.inl ⟨_,zW.mpr rfl,by rw[qK];lia⟩))))),(λz=>by cases z),λHa sa=>?_⟩
  ·obtain⟨t,ht,hx⟩:=mem_allL.mp hx;rw[zW.mp ht,ou]at hx;rw[zW.mp hx];exact zM Cs
  walk_at"rp";have s5a:=s6.trans (s69.trans sa);refine .inr ⟨_,(z7 s5a).sqT h5,λpb Hb sb hb=>?_⟩;rw[yo _ (by decide)]at hb;walk_at"rp";refine .inr ⟨_,_,hb,SqT.of ((s79.trans (sa.trans sb)) _ _ e7),?_,λpc Hc sc hc=>?_⟩
  ·exact zn (by simp;lia)
  walk_at"rp";have s5c:=s5a.trans (sb.trans sc);have s6c:=s69.trans (sa.trans (sb.trans sc));refine⟨1,rfl,pc,j,.bounds,rfl,yr (ts:=(ys.take 2).map Say.letter++[pd y0 (41+y-1).toNat]) (xs:=ys) hc (SaysAt.app (by rw[wP];exact SaysAt.take 2 (sM.mono (z7 s5c))) ⟨hv.mono (z7 s6c),trivial⟩) ⟨by simp;lia,λx hx=>?_,by lia,mU⟩ (λt ht=>?_) ((z7 s5c).sqT HJ) (by lia) (.inr (.inr (.inr (.inr (.inl ⟨_,zJ _ (zW.mpr rfl),by rw[qK];lia⟩))))),(λz=>by cases z),λHd sd=>?_⟩
  ·rw[uy,xt]at hx;rcases zO.mp hx with z|z
   ·exact sub x z
   ·obtain⟨t,ht,hx⟩:=mem_allL.mp z;rw[zW.mp ht,ou]at hx;rw[zW.mp hx];exact zM Cs
  ·rcases zO.mp ht with z|z
   ·exact ur (by decide) t z
   ·rw[zW.mp z,qK];lia
  walk_at"rp";exact q Hd (nP.trans (s5c.trans sd))
 walk_at"rp";refine xa (λc4=>?_) λc4=>?_
 ·-- no judges
  refine⟨zn (by simp),λp6 H6 n6 s6 e6=>?_⟩;walk_at"rp";refine⟨1,rfl,b,p6,.bounds,rfl,yr ((z7 s6).sqT hb5) (hT5.mono (z7 s6)) (Lst.toW hL) (Lst.to130 hL) (SqT.of e6) (by simp) (.inr (.inr (.inl (by simp)))),(λz=>by cases z),λH7 s7=>?_⟩;walk_at"rp";exact q H7 (nP.trans (s6.trans s7))
 ·-- too many judges
  walk_at"rp";refine⟨a,ns,_,2,rfl,nP.seq hS,bL,by decide,by decide,by decide,λy y0 y1=>?_⟩;walk_at"rp";refine⟨_,HJ,by decide,by decide,by simp;lia,λp6 H6 s6 h6=>?_⟩;walk_at"rp";refine .inr ⟨_,h6,λp7 H7 s7 h7=>?_⟩;rw[yo _ (by lia)]at h7;walk_at"rp";have aN:(List.take (22+y).toNat (List.replicate (Int.toNat 23) ws).flatten).length=min (22+y).toNat (23*ws.length):=by rw[yE,oq];rfl
  have Ck:=s6.trans s7;refine⟨1,rfl,b,p7,.bounds,rfl,yr ((z7 Ck).sqT hb5) (hT5.mono (z7 Ck)) (Lst.toW hL) (Lst.to130 hL) h7 (by rw[aN];lia) (.inr (.inr (.inr (.inl (by rw[aN];lia))))),(λz=>by cases z),λH8 s8=>?_⟩;walk_at"rp";exact q H8 (nP.trans (Ck.trans s8))
theorem Ur{ts:List Say}{ss:List Str}{ks:List (List Bool)}(h:FitRows ts ss ks):ks.length<=2 ^ ss.length:=by
 have:=yj h.1 (m:=(List.range (2 ^ ss.length)).map λn=>uj ts (za (n:Nat) ss)) λk hk=>by
  obtain⟨n,hn,e⟩:=(h.2.1 k).mp hk;exact zF.mpr ⟨n,yB.mpr hn,e.symm⟩
 rw[zX,uU]at this;exact this
theorem kf{ts:List Say}{ss:List Str}{ks:List (List Bool)}(h:FitRows ts ss ks):ks.length≠0:=λz=>by
 have hm:=(h.2.1 (uj ts (za (0:Nat) ss))).mpr ⟨0,Nat.pow_pos (by decide),rfl⟩;rw[List.eq_nil_of_length_eq_zero z]at hm;cases hm
structure Jury(K:W.Frag)(H:Hp)(ts:List Say)(ss:List Str)(R J:List (Addr×List Bool)):Prop where
 jJ:∀q∈J,SqT K H q.1 (q.2.map V.bl)
 jR:∀q∈J,q.2∈R.map (·.2)
 jN:NamesOf ts ss
 jF:FitRows ts ss (R.map (·.2))
theorem Jury.same{H H':Hp}{ts:List Say}{ss:List Str}{R J:List (Addr×List Bool)}(s:Same H H')(h:Jury K H ts ss R J):Jury K H' ts ss R J:=⟨λq hq=>(z7 s).sqT (h.jJ q hq),h.jR,h.jN,h.jF⟩
theorem Jury.sub{H:Hp}{ts:List Say}{ss:List Str}{R J J':List (Addr×List Bool)}(h:Jury K H ts ss R J)(hs:∀q∈J',q∈J):Jury K H ts ss R J':=⟨λq hq=>h.jJ q (hs q hq),λq hq=>h.jR q (hs q hq),h.jN,h.jF⟩
theorem Jury.jl{H:Hp}{ts:List Say}{ss:List Str}{R J:List (Addr×List Bool)}(h:Jury K H ts ss R J)(h6:ts.length<=6):JdgsAt K H ts (J.map λq=>V.ref q.1) (List.replicate (J.map λq=>V.ref q.1).length true):=by
 rw[zX];exact JL.to h.jN h.jF (ie λq hq=>⟨h.jJ q hq,h.jR q hq,by rw[g0 h.jF (h.jR q hq)];lia⟩)
theorem Jury.ref{H:Hp}{b j:Addr}{us:List V}{ts:List Say}{xs ss:List Str}{R J:List (Addr×List Bool)}(h:Jury K H ts ss R J)(hb:SqT K H b us)(hT:SaysAt K H us ts)(hL:Lst ts xs)(hj:SqT K H j (J.map λq=>V.ref q.1))(h1:1<=J.length)(h21:J.length<=21):(J.length % 2=0->RefBy K H b j .even)/\(J.length % 2=1->RefBy K H b j .ok):=by
 have hl:(J.map λq=>V.ref q.1).length=J.length:=zX _;have hjl:=h.jl hL.hi;exact⟨λe=>⟨us,_,ts,xs,hb,hT,hj,Lst.toW hL,Lst.to130 hL,by lia,⟨hL,by lia,by lia⟩,hjl,by lia⟩,λe=>⟨us,_,ts,xs,hb,hT,hj,Lst.toW hL,Lst.to130 hL,by lia,⟨hL,by lia,by lia⟩,hjl,by lia⟩⟩
theorem Jury.both{H:Hp}{b j p q:Addr}{us:List V}{ts:List Say}{xs ss:List Str}{R J:List (Addr×List Bool)}(h:Jury K H ts ss R J)(hb:SqT K H b us)(hT:SaysAt K H us ts)(hL:Lst ts xs)(hj:SqT K H j (J.map λq=>V.ref q.1))(hp:SqT K H p [.ref b,.ref j])(hq:SqT K H q [.ref b,.ref j]):SmT K H 43 (.ref p) (.ref q) :=
 T4 hp hq hb hT hL.pc hj λw hw=>by
  obtain⟨z,hz,rfl⟩:=zF.mp hw;exact⟨z.1,z.2,rfl,h.jJ z hz⟩
def Zs(K:W.Frag):Sp:=λvs H Q _=>∃(a:Addr)(ns:List Int),vs=[.ref a]/\SqL K H a (ns.map V.int)/\ns.length<=5000/\∀H',Same H H'->Q (.bl true) H'
theorem sc_edges:zj ["_law_script","_law_names_here","_law_sayings","_law_fit","_law_judges"] ["_law_script"] (z0 (top 53)):=⟨rfl,rfl,rfl,by decide +kernel,rfl,by decide +kernel,by decide +kernel⟩
theorem Lst.letts{ys:List Str}{y:Str}(hl:ys.length=5)(hok:∀x∈ys,Nm x)(hy:y∈ys):Lst (ys.map Say.letter++[pd y 39]) ys:=by
 refine⟨by simp,by simp;lia,λt ht=>?_,λx hx=>?_,by lia,hok⟩
 ·rcases zO.mp ht with z|z
  ·exact ur (by decide) t z
  ·rw[zW.mp z,iq]
   decide
 ·rw[uy,xt]at hx;rcases zO.mp hx with z|z
  ·exact z
  ·obtain⟨t,ht,hx⟩:=mem_allL.mp z;rw[zW.mp ht,ou]at hx;rw[zW.mp hx];exact hy
theorem Vu{Co Cr Ce:Addr}(D:Def K mg "_law_edges" (top 53) ["_law_script"])(bV:zw P w K mg base 1 "_law_cell" ["_law_script","_law_k"] (jb K))(bG:zw P w K mg base 3 "_law_names" ["_law_script","_law_k","_law_many"] (o5 K))(fB:zw P w K mg base 1 "_law_long" ["_law_name","_law_pieces"] (ce K))(bU:zw P w K mg base 42 "_law_fit_rows" ["_law_sayings"] (vw K))(bC:zw P w K mg base 43 "_law_same" ["_law_found","_law_due"] (cf K 43))(aW:w8 P w K mg base 132 "seated" ["sayings","judges"] (t5 K Co Cr Ce))(aE:zw P w K mg base 134 "_law_refused" ["_law_sayings","_law_judges","_law_kind_here","_law_number"] (vx K))(aH:mg "len"=none)(aG:mg "range"=none)(aD:mg "tuple"=none):zw P w K mg base 135 "_law_edges" ["_law_script"] (Zs K):=by
 refine D.callee sc_edges (λvs H Q E h=>?_) λf cdv A outer s H vs Q E hr h=>?_
 ·obtain⟨a,ns,rfl,_⟩:=h
  rfl
 have nd:=sc_edges.nd;obtain⟨a,ns,rfl,hS,bL,q⟩:=h;refine⟨[some (.ref a),none,none,none,none],_,rfl,(z5 (zp 1 nd (zx bG hr (by lia) (z9 (z8 0) (z9 z4 (z9 z4 z6)))))
  (z5 (zp 2 nd (yt xu rfl aD yl (z9 (zv zh (yg (ixs:=[]) (y9 (own:=["_law_name"]) (N:=[]) rfl rfl rfl rfl rfl rfl rfl (by decide +kernel) rfl rfl rfl) rfl (ym (z8 1)) (λ_ _ _ _=>yp) (λ_ _ _ _=>(yy (z9 zo (z9 (z8 0) z6)))) rfl) (xp (z9 (zx fB hr (by lia) (z9 (yh (z8 1) z4 (λ_ _=>rfl)) (z9 z4 z6))) z6))) z6)))
  (z5 (zp 3 nd (zx bU hr (by lia) (z9 (z8 2) z6)))
  (z5 (zp 4 nd (yt xu rfl aD yl (z9 (yg (ixs:=[3,0]) (y9 (own:=["_law_k"]) (N:=["_law_fit","_law_script"]) rfl rfl rfl rfl rfl rfl rfl (by decide +kernel) rfl rfl rfl) rfl (ye rfl aG (z9 z4 z6)) (λ_ _ _ _=>yp) (λ_ _ _ _=>(yh (z8 1) (zv vt (zx bV hr (by lia) (z9 (z8 2) (z9 (zv zh z4 (z8 0)) z6))) (zt xz rfl aH yk (z9 (z8 1) z6))) (λ_ _=>rfl))) rfl) z6)))
  (zz (zr (v7 (zx bC hr (by lia) (z9 (su aW iu hr (by lia) (z9 (z8 2) (z9 (z8 4) z6))) (z9 (yy (z9 (z8 2) (z9 (z8 4) z6))) z6))) (xo (zx aE hr (by lia) (z9 (z8 2) (z9 (zc (z8 4) (yz z4) zd) (z9 zo (z9 (wz yb z4) z6))))))))))))),?_⟩
 walk_at"rp";refine⟨a,ns,0,5,rfl,hS,bL,by decide,by decide,by decide,by decide,λp1 H1 ys n1 s1 e1 qH C3 hNA mJ=>?_⟩;walk_at"rp";refine .inl ⟨⟨_,SqL.of e1⟩,λC s₀ H₀ ex=>?_⟩;refine wb (xs:=ys.map V.str) (λD i vs H4=>SaysAt K H4 vs ((ys.take i).map Say.letter)/\i<=5/\H4 D=some (.lst vs)/\Same H1 H4/\H1 D=none) (by rw[zX,zD];lia) ?_ ?_ ?_ ?_
 ·intro D H4 n4 s4 e4;exact⟨trivial,by decide,e4,s4,n4⟩
 ·rintro D i vs H4 ⟨iI,hi,e4,s4,_⟩;exact⟨SqL.of (s4 _ _ e1),e4,by rw[iI.len,zX,yE];lia⟩
 ·rintro D i v vs H4 hv ⟨iI,hi,e4,s4,n4⟩;rw[zE]at hv;cases hc:ys[i]? with
  |none=>rw[hc]at hv;cases hv
  |some x =>
   rw[hc]at hv;cases hv;have aS:=(zU.mp hc).1;walk_at"rp";refine⟨zn (by simp),λp H5 n5 s5 e5=>⟨s5 _ _ e4,CN.mk (by rw[zX];exact aS) ⟨?_,by lia,zy,zu (s4.trans s5) n4 _,n4⟩⟩⟩;have tl:=yf (o:=.lst (vs++[V.ref p])) (s5 _ _ e4);rw[yX,hc,zP];exact SaysAt.app (iI.mono ((z7 s5).trans tl)) ⟨⟨p,rfl,tl.sqT (SqT.of e5)⟩,trivial⟩
 rintro p4 rR H4 ⟨Bp,_,e4,s4,n4⟩;rw[zX,yV]at Bp;obtain⟨y0,Cs⟩:∃y,ys[0]?=some y:=⟨_,zL (by lia)⟩
 walk_at"rp";refine⟨_,_,.inl (SqL.of (s4 _ _ e1)),w9 (j:=0) (by rw[zE,Cs];rfl),?_⟩;walk_at"rp";refine⟨y0,_,rfl,by decide,by decide,λv H5 s5 hv=>?_⟩;walk_at"rp";refine⟨zn (by simp),λp6 H6 n6 s6 e6=>?_⟩;walk_at"rp";have G':=Bp.len;rw[zX]at G';refine .inl ⟨_,_,(s5.trans s6) _ _ e4,e6,zn (by simp;lia),λp7 H7 n7 s7 e7=>?_⟩;walk_at"rp";refine⟨_,.inl (SqL.of e7),λb H8 s8 hb=>?_⟩;have Ci:=s6.trans (s7.trans s8);have s48:=s5.trans Ci;have hT:SaysAt K H8 (rR++[v]) (ys.map Say.letter++[pd y0 39]):=SaysAt.app (Bp.mono (z7 s48)) ⟨hv.mono (z7 Ci),trivial⟩;have hL:=Lst.letts (by lia) C3 (zM Cs);have Ds:=s1.trans (s4.trans s48);generalize rR++[v]=us at hb hT;generalize ys.map Say.letter++[pd y0 39]=ts at hT hL;walk_at"rp";refine⟨b,us,ts,ys,rfl,hb,hT,hL,λr H9 ss R n9 s9 er hR hN hF h32=>?_⟩;have hR0:R.length≠0:=by have:=kf hF;rw[zX]at this;exact this
 have Cm:=Ds.trans s9;walk_at"rp";refine⟨⟨by lia,by lia⟩,λC s₀ H₀ ex=>?_⟩;refine xk (λD i vs Ha=>∃J:List (Addr×List Bool),vs=(J.map λq=>V.ref q.1)/\J.length=i/\(∀q∈J,q∈R)/\Ha D=some (.lst vs)/\Same H9 Ha/\H9 D=none) (by rw[zD];lia) ?_ ?_ ?_ ?_
 ·intro D Ha n s e;exact⟨[],rfl,rfl,(λq hq=>by cases hq),e,s,n⟩
 ·rintro D i vs Ha ⟨J,rfl,hl,_,e,_⟩;exact⟨e,by rw[zX];exact hl⟩
 ·rintro D i vs Ha hi ⟨J,rfl,hl,hJ,e,s,n⟩;walk_at"rp";refine⟨a,ns,_,rfl,(Cm.trans s).seq hS,bL,by lia,by lia,λz=>?_⟩;walk_at"rp";refine⟨_,.inl (SqL.of (s _ _ er)),?_⟩;rw[zX];obtain⟨v,hv,ev⟩:=ub (xs:=R.map λq=>V.ref q.1) (k:=z % (R.length:Int)) (uZ _ (by lia)) (by rw[zX];exact wC _ (by lia));obtain⟨x,hx,rfl⟩:=zF.mp hv;refine⟨by lia,_,_,.inl (SqL.of (s _ _ er)),ev,e,CN.mk hi ⟨J++[x],by rw[zP];rfl,by rw[zN,hl];rfl,λq hq=>?_,zy,zu s n _,n⟩⟩;rcases zO.mp hq with y|y
  ·exact hJ q y
  ·rw[zW.mp y];exact hx
 rintro la vsa Ha ⟨J,rfl,hJl,Ik,ea,sa,na⟩;walk_at"rp";refine⟨_,.inl (SqL.of ea),λj Hb sb hj=>?_⟩;have s9b:=sa.trans sb;have Cg:=s9.trans s9b;have Dr:=Cm.trans s9b;have Ib:=(z7 Cg).sqT hb;have hTb:=hT.mono (z7 Cg);have jA:Jury K Hb ts ss R J:=⟨λq hq=>(z7 s9b).sqT (hR q (Ik q hq)),λq hq=>yK (f:=λq:Addr×List Bool=>q.2) (Ik q hq),hN,hF⟩
 have Il:J.length=21:=hJl;walk_at"rp";refine⟨b,j,.ok,rfl,(jA.ref Ib hTb hL hj (by lia) (by lia)).2 (by lia),λp Hc sc hp=>?_⟩;walk_at"rp";refine⟨zn (by simp),λp2 Hd nd2 sd ed=>?_⟩;walk_at"rp";have nH:=sc.trans sd;have hjd:=(z7 nH).sqT hj;refine⟨.ref p,.ref p2,rfl,(jA.same nH).both ((z7 nH).sqT Ib) (hTb.mono (z7 nH)) hL hjd ((z7 sd).sqT hp) (SqT.of ed),λHe se=>?_⟩;walk_at"rp";have Cf:=nH.trans se;refine .inr ⟨_,(z7 se).sqT hjd,λp3 Hf sf hf=>?_⟩;rw[wn _ (by decide),<-uB]at hf;walk_at"rp";have oB:=Cf.trans sf;have oY:(J.drop (Int.toNat 1)).length=20:=by rw[xH];show J.length-1=20;lia
 refine⟨1,rfl,b,p3,.even,rfl,(((jA.same oB).sub λq hq=>vU hq).ref ((z7 oB).sqT Ib) (hTb.mono (z7 oB)) hL hf (by lia) (by lia)).1 (by lia),(λz=>by cases z),λHg sg=>?_⟩;walk_at"rp";exact q Hg (Dr.trans (oB.trans sg))
def Zt(K:W.Frag):Sp:=λvs H Q _=>∃(a:Addr)(ns:List Int),vs=[.ref a]/\SqL K H a (ns.map V.int)/\ns.length<=63/\∀H',Q (.bl true) H'
theorem sc_law:zj ["_law_script","_law_names_here","_law_sayings","_law_fit","_law_many","_law_judges","_law_kept"] ["_law_script"] (z0 (top 54)):=⟨rfl,rfl,rfl,by decide +kernel,rfl,by decide +kernel,by decide +kernel⟩
theorem P8{f:Addr}{fd:FuncData}{Co Cr Ce:Addr}(D:Fun K "law" "law" (top 54) f fd)(bV:zw P w K mg base 1 "_law_cell" ["_law_script","_law_k"] (jb K))(aC:zw P w K mg base 2 "_law_pick" ["_law_script","_law_k","_law_many"] (vm K))(bG:zw P w K mg base 3 "_law_names" ["_law_script","_law_k","_law_many"] (o5 K))(jM:zw P w K mg base 3 "_law_linked" ["_law_script","_law_k","_law_names_here"] (f7 K))(bU:zw P w K mg base 42 "_law_fit_rows" ["_law_sayings"] (vw K))(bC:zw P w K mg base 43 "_law_same" ["_law_found","_law_due"] (cf K 43))(aW:w8 P w K mg base 132 "seated" ["sayings","judges"] (t5 K Co Cr Ce))(fV:zw P w K mg base 135 "_law_row_wrong" ["_law_script","_law_sayings","_law_judges","_law_fit"] (np K))(fC:zw P w K mg base 135 "_law_bounds_wrong" ["_law_script","_law_sayings","_law_judges"] (uk K))(aE:zw P w K mg base 134 "_law_refused" ["_law_sayings","_law_judges","_law_kind_here","_law_number"] (vx K))(kL:zw P w K mg base 135 "_law_edges" ["_law_script"] (Zs K))(iA:rh P w K mg base 1 Cr ["self","number"] (q0 K Cr))(aQ:mg "BadRow"=some (.ref Cr))(xr:XCls K Cr)(nar:lj K Cr "number")
  (aH:mg "len"=none) (aG:mg "range"=none) (aD:mg "tuple"=none):ul P w K mg base CX0 136 f fd ["_law_script"] (Zt K):=by
 refine Ut D sc_law (λvs H Q E h=>?_) λf cdv A outer s H vs Q E hr h=>?_
 ·obtain⟨a,ns,rfl,_⟩:=h
  rfl
 have nd:=sc_law.nd;obtain⟨a,ns,rfl,hS,h63',q⟩:=h;have bL:ns.length<=5000:=yW h63' (by decide);refine⟨[some (.ref a),none,none,none,none,none,none],_,rfl,(z5 (zp 1 nd (zx bG hr (by lia) (z9 (z8 0) (z9 z4 (z9 (zv zh z4 (zx aC hr (by lia) (z9 (z8 0) (z9 z4 (z9 z4 z6))))) z6)))))
  (z5 (zp 2 nd (yt xu rfl aD yl (z9 (zx jM hr (by lia) (z9 (z8 0) (z9 z4 (z9 (z8 1) z6)))) z6)))
  (z5 (zp 3 nd (zx bU hr (by lia) (z9 (z8 2) z6)))
  (z5 (zp 4 nd (zv zh z4 (zv vv z4 (zx aC hr (by lia) (z9 (z8 0) (z9 z4 (z9 z4 z6)))))))
  (z5 (zp 5 nd (yt xu rfl aD yl (z9 (yg (ixs:=[3,0]) (y9 (own:=["_law_k"]) (N:=["_law_fit","_law_script"]) rfl rfl rfl rfl rfl rfl rfl (by decide +kernel) rfl rfl rfl) rfl (ye rfl aG (z9 (z8 4) z6)) (λ_ _ _ _=>yp) (λ_ _ _ _=>(yh (z8 1) (zv vt (zx bV hr (by lia) (z9 (z8 2) (z9 (zv zh z4 (z8 0)) z6))) (zt xz rfl aH yk (z9 (z8 1) z6))) (λ_ _=>rfl))) rfl) z6)))
  (z5 (zp 6 nd (yy (z9 (z8 2) (z9 (z8 5) z6))))
  (z5 (y8 (PW.pt (fm (wv (wy (zx bC hr (by lia) (z9 (su aW iu hr (by lia) (z9 (z8 2) (z9 (z8 5) z6))) (z9 (yy (z9 (z8 2) (z9 (z8 5) z6))) z6))))) (mx (wv (wy (zx fV hr (by lia) (z9 (z8 0) (z9 (z8 2) (z9 (z8 5) (z9 (z8 3) z6)))))))))) (zz (zr xq)) zm)
  (z5 (y8 (wv (wy (zx fC hr (by lia) (z9 (z8 0) (z9 (z8 2) (z9 (z8 5) z6)))))) (zz (zr xq)) zm)
  (z5 (y8 (PW.pt (mw (zb d8 (z8 4) z4 (zf _)) (tf (wv (wy (zx aE hr (by lia) (z9 (z8 2) (z9 (zc (z8 5) (yz z4) zd) (z9 zo (z9 (wz yb z4) z6)))))))))) (zz (zr xq)) zm)
  (z5 (y8 (PW.pt (mw (zb Vo (z8 4) z4 (zf _)) (tf (wv (wy (zx aE hr (by lia) (z9 (z8 2) (z9 (zv zh (z8 5) (zc (z8 5) zd (yz z4))) (z9 zo (z9 (wz yb z4) z6)))))))))) (zz (zr xq)) zm)
  (z5 (y8 (PW.pt (fm (PW.pt (mw (zb (xh hr.units) (zx aC hr (by lia) (z9 (z8 0) (z9 z4 (z9 z4 z6)))) z4 (zf _)) (tf (wv (wy (zx kL hr (by lia) (z9 (z8 0) z6))))))) (mx (zb (Sx hr.units) (Zl (Vp iA hr (by lia) aQ (z9 z4 z6)) rfl) z4 (zf _))))) (zz (zr xq)) zm)
  (zz (zr (v7 (zx bC hr (by lia) (z9 (su aW iu hr (by lia) (z9 (z8 2) (z9 (z8 5) z6))) (z9 (yy (z9 (z8 2) (z9 (z8 5) z6))) z6))) (xo (xm (xh hr.units) (yy (z9 (z8 2) (z9 (z8 5) z6))) (z8 6) (zf _))))))))))))))))),?_⟩
 walk_at"rp";refine⟨a,ns,_,5,rfl,hS,bL,by decide,by decide,by decide,λx x0 x5=>?_⟩;walk_at"rp";refine⟨a,ns,0,_,rfl,hS,bL,by decide,by decide,by lia,by lia,λp1 H1 xs n1 s1 e1 qH C3 hNA mJ=>?_⟩;walk_at"rp";refine⟨a,ns,_,p1,xs,rfl,s1.seq hS,bL,by decide,by decide,SqL.of e1,by lia,by lia,λp2 H2 us ts s2 e2 iI h1 h6 kN hys=>?_⟩;obtain⟨ys,GX,hyx,aS⟩:=hys;walk_at"rp";refine⟨_,.inl (SqL.of e2),λb H3 s3 hb=>?_⟩;have hT:=iI.mono (z7 s3);have hL:Lst ts xs:=⟨h1,h6,kN,λy hy=>by
  obtain⟨t,ht,GX⟩:=mem_allL.mp hy;exact hyx y (aS t ht y GX),by lia,C3⟩
 walk_at"rp";refine⟨b,us,ts,xs,rfl,hb,hT,hL,λr H4 ss R n4 s4 er hR hN hF h32=>?_⟩;have hR0:R.length≠0:=by have:=kf hF;rw[zX]at this;exact this
 have Bi:R.length<2 ^ ts.length:=by
  have h1:=Ur hF;rw[zX]at h1;have h2:ss.length<=ys.length:=yj hN.1 λy hy=>by
   obtain⟨t,ht,GX⟩:=mem_allL.mp ((hN.2.1 y).mp hy);exact aS t ht y GX
  have h3:2 ^ ss.length<=2 ^ ys.length:=uS (by decide) h2;have h4:2 ^ ts.length=2*2 ^ ys.length:=by rw[GX,sS];lia
  have h5:0<2 ^ ys.length:=Nat.pow_pos (by decide);lia
 have kM:=s1.trans (s2.trans (s3.trans s4));walk_at"rp";refine⟨a,ns,_,11,rfl,kM.seq hS,bL,by decide,by decide,by decide,λm m0 m11=>?_⟩;walk_at"rp";refine⟨cm (by lia),?_⟩;walk_at"rp";refine⟨⟨by lia,by lia⟩,λC s₀ H₀ ex=>?_⟩;refine xk (λD i vs Ha=>∃J:List (Addr×List Bool),vs=(J.map λq=>V.ref q.1)/\J.length=i/\(∀q∈J,q∈R)/\Ha D=some (.lst vs)/\Same H4 Ha/\H4 D=none) (by rw[zD];lia) ?_ ?_ ?_ ?_
 ·intro D Ha n s e;exact⟨[],rfl,rfl,(λq hq=>by cases hq),e,s,n⟩
 ·rintro D i vs Ha ⟨J,rfl,hl,_,e,_⟩;exact⟨e,by rw[zX];exact hl⟩
 ·rintro D i vs Ha hi ⟨J,rfl,hl,hJ,e,s,n⟩;walk_at"rp";refine⟨a,ns,_,rfl,(kM.trans s).seq hS,bL,by lia,by lia,λz=>?_⟩;walk_at"rp";refine⟨_,.inl (SqL.of (s _ _ er)),?_⟩;rw[zX];obtain⟨v,hv,ev⟩:=ub (xs:=R.map λq=>V.ref q.1) (k:=z % (R.length:Int)) (uZ _ (by lia)) (by rw[zX];exact wC _ (by lia));obtain⟨x,hx,rfl⟩:=zF.mp hv;refine⟨by lia,_,_,.inl (SqL.of (s _ _ er)),ev,e,CN.mk hi ⟨J++[x],by rw[zP];rfl,by rw[zN,hl];rfl,λq hq=>?_,zy,zu s n _,n⟩⟩;rcases zO.mp hq with y|y
  ·exact hJ q y
  ·rw[zW.mp y];exact hx
 rintro la vsa Ha ⟨J,rfl,hJl,Ik,ea,sa,na⟩;walk_at"rp";refine⟨_,.inl (SqL.of ea),λj Hb sb hj=>?_⟩;have hJm:(J.length:Int)=1+2*m:=by lia
 have Dq:=sa.trans sb;have s3b:=s4.trans Dq;have Dr:=kM.trans Dq;have st:Seats K Hb b j r us ts xs ss J R:=⟨(z7 s3b).sqT hb,hT.mono (z7 s3b),hL,hj,λq hq=>(z7 Dq).sqT (hR q (Ik q hq)),λq hq=>yK (f:=λq:Addr×List Bool=>q.2) (Ik q hq),by lia,by lia,Dq _ _ er,λq hq=>(z7 Dq).sqT (hR q hq),hN,hF,Bi⟩
 have jA:∀{H':Hp},Same Hb H'->Jury K H' ts ss R J:=λs'=>⟨(st.same s').sJ,st.sJR,hN,hF⟩
 have sO:∀{H':Hp},Same Hb H'->SqL K H' a (ns.map V.int):=λs'=>(Dr.trans s').seq hS;clear e1 e2 er ea hR hj hb hT iI;walk_at"rp";refine⟨zn (by simp),λpk Hk nk sk ek=>?_⟩;walk_at"rp";have okS:∀{H':Hp},Same Hb H'->RefBy K H' b j .ok:=λs'=>((jA s').ref (st.same s').sb (st.same s').sT hL (st.same s').sj (by lia) (by lia)).2 (by lia);refine⟨b,j,.ok,rfl,okS sk,λp Hc sc hp=>?_⟩;walk_at"rp";refine⟨zn (by simp),λp2 Hd nd2 sd ed=>?_⟩;walk_at"rp";have nH:=sk.trans (sc.trans sd);refine⟨.ref p,.ref p2,rfl,(jA nH).both (st.same nH).sb (st.same nH).sT hL (st.same nH).sj ((z7 sd).sqT hp) (SqT.of ed),λHe se=>?_⟩;walk_at"rp";have Cf:=nH.trans se;refine⟨a,b,j,r,ns,us,ts,xs,ss,J,R,rfl,sO Cf,bL,st.same Cf,λHf sf=>?_⟩;walk_at"rp";have oB:=Cf.trans sf;refine⟨a,b,j,ns,us,_,ts,xs,rfl,sO oB,bL,(st.same oB).sb,(st.same oB).sT,hL,(st.same oB).sj,by rw[zX];lia,by rw[zX];lia,λHg sg=>?_⟩;walk_at"rs";have sbg:=oB.trans sg;have hkg:SqT K Hg pk [.ref b,.ref j]:=SqT.of ((sc.trans (sd.trans (se.trans (sf.trans sg)))) _ _ ek);refine tq (C:=fun σ' H'=>σ'=[some (.ref a),some (.ref p1),some (.ref b),some (.ref r),some (.int (1+2*m)),some (.ref j),some (.ref pk)]/\Same Hg H') (λN hN=>?_) ?_
 ·walk_at"rp";refine xa (λc=>?_) λc=>hN _ _ ⟨rfl,Same.refl _⟩;have c':=yN c;refine .inr ⟨_,(st.same sbg).sj,λp3 Hh sh hh=>?_⟩;rw[wn _ (by decide),<-uB]at hh;walk_at"rp";have rT:=sbg.trans sh;have oY:(J.drop (Int.toNat 1)).length=J.length-1:=by rw[xH];rfl
  refine⟨1,rfl,b,p3,.even,rfl,(((jA rT).sub λq hq=>vU hq).ref (st.same rT).sb (st.same rT).sT hL hh (by lia) (by lia)).1 (by lia),(λz=>by cases z),λHi si=>?_⟩;walk_at"rp";exact hN _ _ ⟨rfl,sh.trans si⟩
 rintro σ' Hh ⟨rfl,sh⟩;have rT:=sbg.trans sh;have hkh:=(z7 sh).sqT hkg;clear hkg nH Cf oB nk ek;refine tq (C:=fun σ' H'=>σ'=[some (.ref a),some (.ref p1),some (.ref b),some (.ref r),some (.int (1+2*m)),some (.ref j),some (.ref pk)]/\Same Hh H') (λN hN=>?_) ?_
 ·walk_at"rp";refine xa (λc=>?_) λc=>hN _ _ ⟨rfl,Same.refl _⟩;have c':=yN c;refine .inr ⟨_,(st.same rT).sj,λp3 Hi si hi=>?_⟩;rw[yo _ (by decide),<-wP]at hi;refine .inr ⟨_,_,(st.same (rT.trans si)).sj,hi,?_,λp4 Hj sj hj=>?_⟩
  ·exact zn (by simp;lia)
  rw[<-zP]at hj;have Cd:=rT.trans (si.trans sj);have hal:(J++J.take (Int.toNat 1)).length=J.length+1:=by rw[zN,yE];show J.length+min 1 J.length=_;lia
  refine⟨1,rfl,b,p4,.even,rfl,(((jA Cd).sub λq hq=>by
   rcases zO.mp hq with z|z
   ·exact z
   ·exact xE z).ref (st.same Cd).sb (st.same Cd).sT hL hj (by lia) (by lia)).1 (by lia),(λz=>by cases z),λHk2 sk2=>?_⟩
  walk_at"rp";exact hN _ _ ⟨rfl,si.trans (sj.trans sk2)⟩
 rintro σ' Hi ⟨rfl,si⟩;have sbi:=rT.trans si;have hki:=(z7 si).sqT hkh;clear hkh;refine tq (C:=fun σ' H'=>σ'=[some (.ref a),some (.ref p1),some (.ref b),some (.ref r),some (.int (1+2*m)),some (.ref j),some (.ref pk)]/\Same Hi H') (λN hN=>?_) ?_
 ·walk_at"rp";refine⟨a,ns,_,3,rfl,sO sbi,bL,by decide,by decide,by decide,λz _ _=>?_⟩;walk_at"rp";refine xa (λc=>?_) λc=>?_
  ·refine⟨a,ns,rfl,sO sbi,bL,λHj sj=>?_⟩;walk_at"rp";refine⟨zn (by simp),λy ny=>⟨y,.int 7,true,rfl,zy,λdx eN=>⟨rfl,?_⟩⟩⟩;have HU:dx≠y:=λz=>by rw[z,zy]at eN;cases eN
   have Bm:Hj dx=none:=by rw[zg HU]at eN;exact eN
   refine⟨y,Cr,dx,true,_,_,rfl,zy,by rw[zg HU,zy],xr,nar,uW,?_⟩
   try rw[yU rfl]
   walk_at"rp";exact hN _ _ ⟨rfl,sj.trans (zu (zu (zu (Same.refl _) ny _) Bm _) ny _)⟩
  ·skip
   refine⟨zn (by simp),λy ny=>⟨y,.int 7,true,rfl,zy,λdx eN=>⟨rfl,?_⟩⟩⟩;have HU:dx≠y:=λz=>by rw[z,zy]at eN;cases eN
   have Bm:Hi dx=none:=by rw[zg HU]at eN;exact eN
   refine⟨y,Cr,dx,true,_,_,rfl,zy,by rw[zg HU,zy],xr,nar,uW,?_⟩
   try rw[yU rfl]
   walk_at"rp";exact hN _ _ ⟨rfl,(Same.refl Hi).trans (zu (zu (zu (Same.refl _) ny _) Bm _) ny _)⟩
 rintro σ' Hj ⟨rfl,sj⟩;have Cd:=sbi.trans sj;have hkj:=(z7 sj).sqT hki;walk_at"rp";refine⟨b,j,.ok,rfl,okS Cd,λp5 Hk5 sk5 hp5=>?_⟩;walk_at"rp";refine⟨zn (by simp),λp6 Hl nl sl el=>?_⟩;walk_at"rp";have Dp:=Cd.trans (sk5.trans sl);refine⟨.ref p5,.ref p6,rfl,(jA Dp).both (st.same Dp).sb (st.same Dp).sT hL (st.same Dp).sj ((z7 sl).sqT hp5) (SqT.of el),λHm sm=>?_⟩;walk_at"rp";refine⟨zn (by simp),λp7 Hn nn sn en=>?_⟩;walk_at"rp";have rS:=Dp.trans (sm.trans sn);have Ht:SeqAt.shaped (c8 ts (J.map (·.2)))=true:=fv λt ht=>⟨kN t ht,λy hy=>C3 y (hyx y (aS t ht y hy))⟩
 refine⟨_,_,du (SqT.of en) (st.same rS).sb (st.same rS).sT (st.same rS).sj (st.same rS).sJ,du ((z7 (sk5.trans (sl.trans (sm.trans sn)))).sqT hkj) (st.same rS).sb (st.same rS).sT (st.same rS).sj (st.same rS).sJ,Ht,Ht,?_⟩;rw[lx Ht];walk_at"rp";exact q Hn
end
end Kx
namespace Kx
open PySem PySem.Spec L2 My
open PyProof.Rows hiding St
theorem all_mk{l:W.OpenLaw}{w:World}{K:W.Frag}{h:Heap}{mg:Str->Option Value}{fa:Addr}(X:K.In h)(G:h.Ns mainGlobals mg)(hfa:mg "law"=some (.ref fa))
  {f_8:Addr}{od_8 an_8:Option Addr}{sl_8:Array (Option Value)}{oc_8 kV_8 dc_8 pm_8 JF ct_8:Value}
  {f_9:Addr}{od_9 an_9:Option Addr}{sl_9:Array (Option Value)}{oc_9 kV_9 dc_9 pm_9 JE ct_9:Value}
  {BV:Addr}{E3 LS:Option Addr}{Dm:Array (Option Value)}{Fb GU Jc DS A8 JC:Value}
  {BU:Addr}{E2 LR:Option Addr}{Dl:Array (Option Value)}{Fa GS Jb DR A7 JB:Value}
  {BS:Addr}{E1 LQ:Option Addr}{Dk:Array (Option Value)}{EZ GR IZ DQ A6 JA:Value}
  {BR:Addr}{Ez LP:Option Addr}{Dj:Array (Option Value)}{EY GQ IY DP A5 J9:Value}
  {BQ:Addr}{Ey LO:Option Addr}{Di:Array (Option Value)}{EX GP IX DO A4 J8:Value}
  {BP:Addr}{Ex LN:Option Addr}{Dh:Array (Option Value)}{EW GO IW DN A3 J7:Value}
  {BO:Addr}{Ew LM:Option Addr}{Dg:Array (Option Value)}{EV GN IV DM A2 J5:Value}
  {BN:Addr}{Ev LL:Option Addr}{Df:Array (Option Value)}{EU GL IU DL A1 J4:Value}
  {BM:Addr}{Eu LK:Option Addr}{De:Array (Option Value)}{ET GK IT DK A0 J3:Value}
  {BL:Addr}{Et LJ:Option Addr}{Dd:Array (Option Value)}{ES GJ IS DJ Az J0:Value}
  {BK:Addr}{Er LI:Option Addr}{Dc:Array (Option Value)}{ER GI IR DI Ay Jz:Value}
  {BJ:Addr}{Ep LH:Option Addr}{Db:Array (Option Value)}{EQ GH IQ DH Ax Jy:Value}
  {BI:Addr}{Eo LG:Option Addr}{CZ:Array (Option Value)}{EO GG IP DG Aw Jx:Value}
  {BH:Addr}{En LF:Option Addr}{CY:Array (Option Value)}{EN GF IN DF Av Jw:Value}
  {BG:Addr}{Em LD:Option Addr}{CW:Array (Option Value)}{EM GD IM DE Au Jv:Value}
  {BF:Addr}{El LC:Option Addr}{CV:Array (Option Value)}{EL GC IL DD As Ju:Value}
  {BE:Addr}{Ek LB:Option Addr}{CU:Array (Option Value)}{EK GB IK DC Ar Jt:Value}
  {BD:Addr}{Ej LA:Option Addr}{CT:Array (Option Value)}{EJ GA IJ DB Aq Js:Value}
  {BC:Addr}{Ei K':Option Addr}{CS:Array (Option Value)}{EI G9 II DA Ap Jr:Value}
  {BB:Addr}{Eh KZ:Option Addr}{CQ:Array (Option Value)}{EH G8 IH D9 Ao Jq:Value}
  {BA:Addr}{Eg KY:Option Addr}{CP:Array (Option Value)}{EG G7 IG D8 An Jp:Value}
  {B9:Addr}{Ef KW:Option Addr}{CO:Array (Option Value)}{EF G6 IF D7 Am Jo:Value}
  {B8:Addr}{Ee KU:Option Addr}{CM:Array (Option Value)}{EE G5 IE D6 Al Jn:Value}
  {B7:Addr}{Ed KS:Option Addr}{CL:Array (Option Value)}{ED G4 ID D5 Ak Jm:Value}
  {B6:Addr}{Ec KR:Option Addr}{CK:Array (Option Value)}{EC G3 IC D3 Aj Jl:Value}
  {B5:Addr}{Eb KQ:Option Addr}{CJ:Array (Option Value)}{EB G2 IB D0 Ai Jk:Value}
  {B4:Addr}{Ea KP:Option Addr}{CI:Array (Option Value)}{EA G1 IA Dz Ah Jj:Value}
  {B3:Addr}{D' KO:Option Addr}{CH:Array (Option Value)}{E9 G0 I0 Dy Ag Ji:Value}
  {B2:Addr}{DZ KN:Option Addr}{CG:Array (Option Value)}{E8 Gz Iz Dx Af Jh:Value}
  {B1:Addr}{DY KL:Option Addr}{CF:Array (Option Value)}{E7 Gy Iy Dw Ae Jg:Value}
  {B0:Addr}{DX KJ:Option Addr}{CD:Array (Option Value)}{E6 Gx Ix Dv Ad Jf:Value}
  {Bz:Addr}{DW KI:Option Addr}{CC:Array (Option Value)}{E5 Gw Iw Du Ac Je:Value}
  {By:Addr}{DV KH:Option Addr}{CB:Array (Option Value)}{E4 Gv Iv Dt Ab Jd:Value}
  {pB:Addr}{AK pG:Option Addr}{AH:Array (Option Value)}{AL oN pC oM kZ pD:Value}
  {aI:Addr}
  {bD:Addr}{gK gU:Option Addr}{gI:Array (Option Value)}{gL gN gS gJ dW gT:Value}
  {aJ:Addr}
  {aB:Addr}
  {aM:Addr}
  {bS:Addr}
  {bT:Addr}
  {gH:Tok}
  {iW:Tok}
  {iE:Tok}
  {iF:Tok}
  (a_8:W.nsIn K mainGlobals "pieces_in"=some (some (.ref f_8))) (l_8:K.lookup f_8=some ⟨oc_8,od_8,.func (W.fnOf "pieces_in" "pieces_in" (zk (top 8)) (zq (top 8)) (z0 (top 8)) .none kV_8 dc_8 pm_8 an_8 JF ct_8),sl_8⟩) (c_8:W.codeIn K JF "pieces_in"=true) (k_8:W.keepIn K (.ref f_8)=true)
  (a_9:W.nsIn K mainGlobals "letters_in"=some (some (.ref f_9))) (l_9:K.lookup f_9=some ⟨oc_9,od_9,.func (W.fnOf "letters_in" "letters_in" (zk (top 9)) (zq (top 9)) (z0 (top 9)) .none kV_9 dc_9 pm_9 an_9 JE ct_9),sl_9⟩) (c_9:W.codeIn K JE "letters_in"=true) (k_9:W.keepIn K (.ref f_9)=true)
  (M':W.nsIn K mainGlobals "names_in"=some (some (.ref BV))) (FM:K.lookup BV=some ⟨Fb,E3,.func (W.fnOf "names_in" "names_in" (zk (top 10)) (zq (top 10)) (z0 (top 10)) .none GU Jc DS LS A8 JC),Dm⟩) (KE:W.codeIn K A8 "names_in"=true) (Gu:W.keepIn K (.ref BV)=true)
  (MZ:W.nsIn K mainGlobals "is_so"=some (some (.ref BU))) (FL:K.lookup BU=some ⟨Fa,E2,.func (W.fnOf "is_so" "is_so" (zk (top 11)) (zq (top 11)) (z0 (top 11)) .none GS Jb DR LR A7 JB),Dl⟩) (KD:W.codeIn K A7 "is_so"=true) (Gs:W.keepIn K (.ref BU)=true)
  (MY:W.nsIn K mainGlobals "ways_to_hold"=some (some (.ref BS))) (FK:K.lookup BS=some ⟨EZ,E1,.func (W.fnOf "ways_to_hold" "ways_to_hold" (zk (top 13)) (zq (top 13)) (z0 (top 13)) .none GR IZ DQ LQ A6 JA),Dk⟩) (KC:W.codeIn K A6 "ways_to_hold"=true) (Gr:W.keepIn K (.ref BS)=true)
  (MX:W.nsIn K mainGlobals "held_by"=some (some (.ref BR))) (FJ:K.lookup BR=some ⟨EY,Ez,.func (W.fnOf "held_by" "held_by" (zk (top 14)) (zq (top 14)) (z0 (top 14)) .none GQ IY DP LP A5 J9),Dj⟩) (KA:W.codeIn K A5 "held_by"=true) (Gq:W.keepIn K (.ref BR)=true)
  (MW:W.nsIn K mainGlobals "names_of"=some (some (.ref BQ))) (FI:K.lookup BQ=some ⟨EX,Ey,.func (W.fnOf "names_of" "names_of" (zk (top 16)) (zq (top 16)) (z0 (top 16)) .none GP IX DO LO A4 J8),Di⟩) (Kk:W.codeIn K A4 "names_of"=true) (Gp:W.keepIn K (.ref BQ)=true)
  (MV:W.nsIn K mainGlobals "all_held"=some (some (.ref BP))) (FH:K.lookup BP=some ⟨EW,Ex,.func (W.fnOf "all_held" "all_held" (zk (top 17)) (zq (top 17)) (z0 (top 17)) .none GO IW DN LN A3 J7),Dh⟩) (Kj:W.codeIn K A3 "all_held"=true) (Go:W.keepIn K (.ref BP)=true)
  (MU:W.nsIn K mainGlobals "row_of"=some (some (.ref BO))) (FG:K.lookup BO=some ⟨EV,Ew,.func (W.fnOf "row_of" "row_of" (zk (top 18)) (zq (top 18)) (z0 (top 18)) .none GN IV DM LM A2 J5),Dg⟩) (Ki:W.codeIn K A2 "row_of"=true) (Gn:W.keepIn K (.ref BO)=true)
  (MT:W.nsIn K mainGlobals "fit_rows"=some (some (.ref BN))) (FF:K.lookup BN=some ⟨EU,Ev,.func (W.fnOf "fit_rows" "fit_rows" (zk (top 19)) (zq (top 19)) (z0 (top 19)) .none GL IU DL LL A1 J4),Df⟩) (Kh:W.codeIn K A1 "fit_rows"=true) (Gm:W.keepIn K (.ref BN)=true)
  (MS:W.nsIn K mainGlobals "check_bounds"=some (some (.ref BM))) (FE:K.lookup BM=some ⟨ET,Eu,.func (W.fnOf "check_bounds" "check_bounds" (zk (top 25)) (zq (top 25)) (z0 (top 25)) .none GK IT DK LK A0 J3),De⟩) (Kg:W.codeIn K A0 "check_bounds"=true) (Gk:W.keepIn K (.ref BM)=true)
  (MR:W.nsIn K mainGlobals "is_among"=some (some (.ref BL))) (FD:K.lookup BL=some ⟨ES,Et,.func (W.fnOf "is_among" "is_among" (zk (top 26)) (zq (top 26)) (z0 (top 26)) .none GJ IS DJ LJ Az J0),Dd⟩) (Kf:W.codeIn K Az "is_among"=true) (Gj:W.keepIn K (.ref BL)=true)
  (MQ:W.nsIn K mainGlobals "check_rows"=some (some (.ref BK))) (FC:K.lookup BK=some ⟨ER,Er,.func (W.fnOf "check_rows" "check_rows" (zk (top 27)) (zq (top 27)) (z0 (top 27)) .none GI IR DI LI Ay Jz),Dc⟩) (Ke:W.codeIn K Ay "check_rows"=true) (Gi:W.keepIn K (.ref BK)=true)
  (MP:W.nsIn K mainGlobals "seated"=some (some (.ref BJ))) (FA:K.lookup BJ=some ⟨EQ,Ep,.func (W.fnOf "seated" "seated" (zk (top 28)) (zq (top 28)) (z0 (top 28)) .none GH IQ DH LH Ax Jy),Db⟩) (Kd:W.codeIn K Ax "seated"=true) (Gh:W.keepIn K (.ref BJ)=true)
  (MO:W.nsIn K mainGlobals "_law_cell"=some (some (.ref BI))) (F9:K.lookup BI=some ⟨EO,Eo,.func (W.fnOf "_law_cell" "_law_cell" (zk (top 30)) (zq (top 30)) (z0 (top 30)) .none GG IP DG LG Aw Jx),CZ⟩) (Kc:W.codeIn K Aw "_law_cell"=true) (Gg:W.keepIn K (.ref BI)=true)
  (MN:W.nsIn K mainGlobals "_law_pick"=some (some (.ref BH))) (F8:K.lookup BH=some ⟨EN,En,.func (W.fnOf "_law_pick" "_law_pick" (zk (top 31)) (zq (top 31)) (z0 (top 31)) .none GF IN DF LF Av Jw),CY⟩) (Ka:W.codeIn K Av "_law_pick"=true) (Gf:W.keepIn K (.ref BH)=true)
  (MM:W.nsIn K mainGlobals "_law_names"=some (some (.ref BG))) (F7:K.lookup BG=some ⟨EM,Em,.func (W.fnOf "_law_names" "_law_names" (zk (top 33)) (zq (top 33)) (z0 (top 33)) .none GD IM DE LD Au Jv),CW⟩) (JZ:W.codeIn K Au "_law_names"=true) (Ge:W.keepIn K (.ref BG)=true)
  (ML:W.nsIn K mainGlobals "_law_so"=some (some (.ref BF))) (F6:K.lookup BF=some ⟨EL,El,.func (W.fnOf "_law_so" "_law_so" (zk (top 35)) (zq (top 35)) (z0 (top 35)) .none GC IL DD LC As Ju),CV⟩) (JY:W.codeIn K As "_law_so"=true) (Gd:W.keepIn K (.ref BF)=true)
  (MK:W.nsIn K mainGlobals "_law_held"=some (some (.ref BE))) (F5:K.lookup BE=some ⟨EK,Ek,.func (W.fnOf "_law_held" "_law_held" (zk (top 36)) (zq (top 36)) (z0 (top 36)) .none GB IK DC LB Ar Jt),CU⟩) (JX:W.codeIn K Ar "_law_held"=true) (Gc:W.keepIn K (.ref BE)=true)
  (MJ:W.nsIn K mainGlobals "_law_within"=some (some (.ref BD))) (F4:K.lookup BD=some ⟨EJ,Ej,.func (W.fnOf "_law_within" "_law_within" (zk (top 37)) (zq (top 37)) (z0 (top 37)) .none GA IJ DB LA Aq Js),CT⟩) (JW:W.codeIn K Aq "_law_within"=true) (Gb:W.keepIn K (.ref BD)=true)
  (MI:W.nsIn K mainGlobals "_law_all_names"=some (some (.ref BC))) (F0:K.lookup BC=some ⟨EI,Ei,.func (W.fnOf "_law_all_names" "_law_all_names" (zk (top 38)) (zq (top 38)) (z0 (top 38)) .none G9 II DA K' Ap Jr),CS⟩) (JV:W.codeIn K Ap "_law_all_names"=true) (Ga:W.keepIn K (.ref BC)=true)
  (MH:W.nsIn K mainGlobals "_law_knit"=some (some (.ref BB))) (Fz:K.lookup BB=some ⟨EH,Eh,.func (W.fnOf "_law_knit" "_law_knit" (zk (top 39)) (zq (top 39)) (z0 (top 39)) .none G8 IH D9 KZ Ao Jq),CQ⟩) (JU:W.codeIn K Ao "_law_knit"=true) (F':W.keepIn K (.ref BB)=true)
  (MG:W.nsIn K mainGlobals "_law_linked"=some (some (.ref BA))) (Fy:K.lookup BA=some ⟨EG,Eg,.func (W.fnOf "_law_linked" "_law_linked" (zk (top 40)) (zq (top 40)) (z0 (top 40)) .none G7 IG D8 KY An Jp),CP⟩) (JT:W.codeIn K An "_law_linked"=true) (FZ:W.keepIn K (.ref BA)=true)
  (MF:W.nsIn K mainGlobals "_law_row"=some (some (.ref B9))) (Fx:K.lookup B9=some ⟨EF,Ef,.func (W.fnOf "_law_row" "_law_row" (zk (top 42)) (zq (top 42)) (z0 (top 42)) .none G6 IF D7 KW Am Jo),CO⟩) (JS:W.codeIn K Am "_law_row"=true) (FY:W.keepIn K (.ref B9)=true)
  (ME:W.nsIn K mainGlobals "_law_fit_rows"=some (some (.ref B8))) (Fw:K.lookup B8=some ⟨EE,Ee,.func (W.fnOf "_law_fit_rows" "_law_fit_rows" (zk (top 43)) (zq (top 43)) (z0 (top 43)) .none G5 IE D6 KU Al Jn),CM⟩) (JR:W.codeIn K Al "_law_fit_rows"=true) (FX:W.keepIn K (.ref B8)=true)
  (MD:W.nsIn K mainGlobals "_law_same"=some (some (.ref B7))) (Fv:K.lookup B7=some ⟨ED,Ed,.func (W.fnOf "_law_same" "_law_same" (zk (top 44)) (zq (top 44)) (z0 (top 44)) .none G4 ID D5 KS Ak Jm),CL⟩) (JQ:W.codeIn K Ak "_law_same"=true) (FW:W.keepIn K (.ref B7)=true)
  (MC:W.nsIn K mainGlobals "_law_kind"=some (some (.ref B6))) (Fu:K.lookup B6=some ⟨EC,Ec,.func (W.fnOf "_law_kind" "_law_kind" (zk (top 45)) (zq (top 45)) (z0 (top 45)) .none G3 IC D3 KR Aj Jl),CK⟩) (JP:W.codeIn K Aj "_law_kind"=true) (FV:W.keepIn K (.ref B6)=true)
  (MB:W.nsIn K mainGlobals "_law_refused"=some (some (.ref B5))) (Ft:K.lookup B5=some ⟨EB,Eb,.func (W.fnOf "_law_refused" "_law_refused" (zk (top 46)) (zq (top 46)) (z0 (top 46)) .none G2 IB D0 KQ Ai Jk),CJ⟩) (JO:W.codeIn K Ai "_law_refused"=true) (FU:W.keepIn K (.ref B5)=true)
  (MA:W.nsIn K mainGlobals "_law_unfit"=some (some (.ref B4))) (Fs:K.lookup B4=some ⟨EA,Ea,.func (W.fnOf "_law_unfit" "_law_unfit" (zk (top 47)) (zq (top 47)) (z0 (top 47)) .none G1 IA Dz KP Ah Jj),CI⟩) (JN:W.codeIn K Ah "_law_unfit"=true) (FT:W.keepIn K (.ref B4)=true)
  (LZ:W.nsIn K mainGlobals "_law_bad_row"=some (some (.ref B3))) (Fq:K.lookup B3=some ⟨E9,D',.func (W.fnOf "_law_bad_row" "_law_bad_row" (zk (top 48)) (zq (top 48)) (z0 (top 48)) .none G0 I0 Dy KO Ag Ji),CH⟩) (JM:W.codeIn K Ag "_law_bad_row"=true) (FS:W.keepIn K (.ref B3)=true)
  (LY:W.nsIn K mainGlobals "_law_row_wrong"=some (some (.ref B2))) (Fp:K.lookup B2=some ⟨E8,DZ,.func (W.fnOf "_law_row_wrong" "_law_row_wrong" (zk (top 49)) (zq (top 49)) (z0 (top 49)) .none Gz Iz Dx KN Af Jh),CG⟩) (JK:W.codeIn K Af "_law_row_wrong"=true) (FR:W.keepIn K (.ref B2)=true)
  (LX:W.nsIn K mainGlobals "_law_long"=some (some (.ref B1))) (Fo:K.lookup B1=some ⟨E7,DY,.func (W.fnOf "_law_long" "_law_long" (zk (top 50)) (zq (top 50)) (z0 (top 50)) .none Gy Iy Dw KL Ae Jg),CF⟩) (JJ:W.codeIn K Ae "_law_long"=true) (FQ:W.keepIn K (.ref B1)=true)
  (LW:W.nsIn K mainGlobals "_law_wide"=some (some (.ref B0))) (Fn:K.lookup B0=some ⟨E6,DX,.func (W.fnOf "_law_wide" "_law_wide" (zk (top 51)) (zq (top 51)) (z0 (top 51)) .none Gx Ix Dv KJ Ad Jf),CD⟩) (JI:W.codeIn K Ad "_law_wide"=true) (FP:W.keepIn K (.ref B0)=true)
  (LV:W.nsIn K mainGlobals "_law_bounds_wrong"=some (some (.ref Bz))) (Fm:K.lookup Bz=some ⟨E5,DW,.func (W.fnOf "_law_bounds_wrong" "_law_bounds_wrong" (zk (top 52)) (zq (top 52)) (z0 (top 52)) .none Gw Iw Du KI Ac Je),CC⟩) (JH:W.codeIn K Ac "_law_bounds_wrong"=true) (FO:W.keepIn K (.ref Bz)=true)
  (LU:W.nsIn K mainGlobals "_law_edges"=some (some (.ref By))) (Fk:K.lookup By=some ⟨E4,DV,.func (W.fnOf "_law_edges" "_law_edges" (zk (top 53)) (zq (top 53)) (z0 (top 53)) .none Gv Iv Dt KH Ab Jd),CB⟩) (JG:W.codeIn K Ab "_law_edges"=true) (FN:W.keepIn K (.ref By)=true)
  (AB:W.nsIn K mainGlobals "law"=some (some (.ref pB))) (rX:K.lookup pB=some ⟨AL,AK,.func (W.fnOf "law" "law" (zk (top 54)) (zq (top 54)) (z0 (top 54)) .none oN pC oM pG kZ pD),AH⟩) (A9:W.codeIn K kZ "law"=true) (rY:W.keepIn K (.ref pB)=true)
  (iU:W.nsIn K mainGlobals "BadRow"=some (some (.ref aI)))
  (iO:xIn K aI=true)
  (gD:W.findIn K (.ref aI) "__getattribute__"=some (some (.builtin "BaseException.__getattribute__")))
  (gC:W.findIn K (.ref aI) "__getattr__"=some none)
  (fY:W.findIn K (.ref aI) "__setattr__"=some (some (.builtin "object.__setattr__")))
  (gA:W.mroIn K aI (.type "BaseException")=some true)
  (fZ:W.mroIn K aI (.type "object")=some true)
  (gB:W.keepIn K (.ref aI)=true)
  (gG:W.findIn K (.ref aI) "__class__"=some (some (.builtin "object.__class__")))
  (gF:W.specialIn K (.builtin "object.__class__") "__get__"=some (some (.builtin "getset_descriptor.__get__")))
  (gE:W.takesIn K (.builtin "object.__class__")=some true)
  (eR:W.findIn K (.ref aI) "__init__"=some (some (.ref bD))) (eG:K.lookup bD=some ⟨gL,gK,.func (W.fnOf "__init__" "BadRow.__init__" (zk (kl (top 4) 0)) (zq (kl (top 4) 0)) (z0 (kl (top 4) 0)) .none gN gS gJ gU dW gT),gI⟩) (eQ:W.codeIn K dW "BadRow.__init__"=true) (eJ:W.keepIn K (.ref bD)=true) (eF:W.typeIn K (.ref bD)=some (.type "function")) (dJ:W.takerIn K aI "number"=some none) (bM:lj K aI "number")
  (eP:W.nsIn K mainGlobals "JudgeError"=some (some (.ref aJ)))
  (eC:xIn K aJ=true)
  (dD:W.findIn K (.ref aJ) "__getattribute__"=some (some (.builtin "BaseException.__getattribute__")))
  (dC:W.findIn K (.ref aJ) "__getattr__"=some none)
  (cY:W.findIn K (.ref aJ) "__setattr__"=some (some (.builtin "object.__setattr__")))
  (dA:W.mroIn K aJ (.type "BaseException")=some true)
  (cZ:W.mroIn K aJ (.type "object")=some true)
  (dB:W.keepIn K (.ref aJ)=true)
  (dH:W.findIn K (.ref aJ) "__class__"=some (some (.builtin "object.__class__")))
  (dG:W.specialIn K (.builtin "object.__class__") "__get__"=some (some (.builtin "getset_descriptor.__get__")))
  (dF:W.takesIn K (.builtin "object.__class__")=some true)
  (dX:W.nsIn K mainGlobals "OutOfBounds"=some (some (.ref aB)))
  (cX:xIn K aB=true)
  (cP:W.findIn K (.ref aB) "__getattribute__"=some (some (.builtin "BaseException.__getattribute__")))
  (cO:W.findIn K (.ref aB) "__getattr__"=some none)
  (cK:W.findIn K (.ref aB) "__setattr__"=some (some (.builtin "object.__setattr__")))
  (cM:W.mroIn K aB (.type "BaseException")=some true)
  (cL:W.mroIn K aB (.type "object")=some true)
  (cN:W.keepIn K (.ref aB)=true)
  (cS:W.findIn K (.ref aB) "__class__"=some (some (.builtin "object.__class__")))
  (cR:W.specialIn K (.builtin "object.__class__") "__get__"=some (some (.builtin "getset_descriptor.__get__")))
  (cQ:W.takesIn K (.builtin "object.__class__")=some true)
  (dE:W.excIn K aB vbm "ValueError.__new__"=true)
  (mO:W.nsIn K mainGlobals "Even"=some (some (.ref aM)))
  (lX:xIn K aM=true)
  (jW:W.findIn K (.ref aM) "__getattribute__"=some (some (.builtin "BaseException.__getattribute__")))
  (jV:W.findIn K (.ref aM) "__getattr__"=some none)
  (jQ:W.findIn K (.ref aM) "__setattr__"=some (some (.builtin "object.__setattr__")))
  (jT:W.mroIn K aM (.type "BaseException")=some true)
  (jS:W.mroIn K aM (.type "object")=some true)
  (jU:W.keepIn K (.ref aM)=true)
  (jZ:W.findIn K (.ref aM) "__class__"=some (some (.builtin "object.__class__")))
  (jY:W.specialIn K (.builtin "object.__class__") "__get__"=some (some (.builtin "getset_descriptor.__get__")))
  (jX:W.takesIn K (.builtin "object.__class__")=some true)
  (lY:W.excIn K aM vbm "ValueError.__new__"=true)
  (iS:W.nsIn K mainGlobals "NoText"=some (some (.ref bS)))
  (iT:W.nsIn K mainGlobals "Barred"=some (some (.ref bT)))
  (cU:W.nsIn K mainGlobals "MOST_SAYINGS"=some (some (.int 6 gH)))
  (eO:W.nsIn K mainGlobals "MOST_NAMES"=some (some (.int 5 iW)))
  (dS:W.nsIn K mainGlobals "MOST_PIECES"=some (some (.int 40 iE)))
  (dU:W.nsIn K mainGlobals "MOST_JUDGES"=some (some (.int 21 iF)))
  (aT:W.kitOne K (.ref aB) (.ref aB)=some true)
  (bA:W.kitOne K (.ref aB) (.ref aI)=some false)
  (bJ:W.kitOne K (.ref aB) (.ref aM)=some false)
  (aY:W.kitOne K (.ref aB) (.ref bS)=some false)
  (aZ:W.kitOne K (.ref aB) (.ref bT)=some false)
  (aV:W.kitOne K (.ref aB) (.type "ValueError")=some true)
  (bB:W.kitOne K (.ref aI) (.ref aB)=some false)
  (cE:W.kitOne K (.ref aI) (.ref aI)=some true)
  (dO:W.kitOne K (.ref aI) (.ref aM)=some false)
  (cC:W.kitOne K (.ref aI) (.ref bS)=some false)
  (cD:W.kitOne K (.ref aI) (.ref bT)=some false)
  (bF:W.kitOne K (.ref aI) (.type "ValueError")=some true)
  (bK:W.kitOne K (.ref aM) (.ref aB)=some false)
  (dN:W.kitOne K (.ref aM) (.ref aI)=some false)
  (fF:W.kitOne K (.ref aM) (.ref aM)=some true)
  (dL:W.kitOne K (.ref aM) (.ref bS)=some false)
  (dM:W.kitOne K (.ref aM) (.ref bT)=some false)
  (bR:W.kitOne K (.ref aM) (.type "ValueError")=some true)
  (aU:W.mroIn K aB (.ref aJ)=some true)
  (bE:W.mroIn K aI (.ref aJ)=some true)
  (bQ:W.mroIn K aM (.ref aJ)=some true)
  (rN:W.nsIn K mainGlobals "len"=some none)
  (lW:W.nsIn K mainGlobals "range"=some none)
  (lV:W.nsIn K mainGlobals "tuple"=some none)
  (nX:W.nsIn K mainGlobals "list"=some none)
  (jP:W.nsIn K mainGlobals "sorted"=some none)
  (rK:W.nsIn K mainGlobals "set"=some none)
  (fQ:W.nsIn K mainGlobals "enumerate"=some none)
  (fD:W.nsIn K mainGlobals "isinstance"=some none)
  (nY:W.nsIn K mainGlobals "bool"=some none)
  (rO:W.nsIn K mainGlobals "int"=some none)
  (rJ:W.nsIn K mainGlobals "str"=some none)
  (rQ:W.nsIn K mainGlobals "all"=some none)
  (rP:W.nsIn K mainGlobals "any"=some none)
  (rH:W.nsIn K mainGlobals "sum"=some none)
  (rG:W.nsIn K mainGlobals "zip"=some none)
  (rL:W.nsIn K mainGlobals "min"=some none)
  (rM:W.nsIn K mainGlobals "max"=some none)
  (fE:W.nsIn K mainGlobals "ValueError"=some none) :
  ∃fd:FuncData,(∀(s:Shared)(v:Value),BindsTo s fd ⟨[v],[]⟩ [("_law_script",v)])/\∀base:Heap,K.In base->base.Ns mainGlobals mg->ul l.prog w K mg base CX0 136 fa fd ["_law_script"] (Zt K):=by
 have e:=hfa.symm.trans (wZ X G AB);cases e;have kG:Def K mg "pieces_in" (top 8) ["saying"]:=y6 X G a_8 l_8 c_8 k_8 λ_ _ _ _ _ _ us hl=>by obtain⟨_,e⟩:=ql hl;rw[e];rfl
 have jG:Def K mg "letters_in" (top 9) ["saying"]:=y6 X G a_9 l_9 c_9 k_9 λ_ _ _ _ _ _ us hl=>by obtain⟨_,e⟩:=ql hl;rw[e];rfl
 have lA:Def K mg "names_in" (top 10) ["saying"]:=y6 X G M' FM KE Gu λ_ _ _ _ _ _ us hl=>by obtain⟨_,e⟩:=ql hl;rw[e];rfl
 have rC:Def K mg "is_so" (top 11) ["saying","held"]:=y6 X G MZ FL KD Gs λ_ _ _ _ _ _ us hl=>by obtain⟨_,_,e⟩:=u5 hl;rw[e];rfl
 have gW:Def K mg "ways_to_hold" (top 13) ["names"]:=y6 X G MY FK KC Gr λ_ _ _ _ _ _ us hl=>by obtain⟨_,e⟩:=ql hl;rw[e];rfl
 have nB:Def K mg "held_by" (top 14) ["number","names"]:=y6 X G MX FJ KA Gq λ_ _ _ _ _ _ us hl=>by obtain⟨_,_,e⟩:=u5 hl;rw[e];rfl
 have gX:Def K mg "names_of" (top 16) ["sayings"]:=y6 X G MW FI Kk Gp λ_ _ _ _ _ _ us hl=>by obtain⟨_,e⟩:=ql hl;rw[e];rfl
 have lL:Def K mg "all_held" (top 17) ["sayings"]:=y6 X G MV FH Kj Go λ_ _ _ _ _ _ us hl=>by obtain⟨_,e⟩:=ql hl;rw[e];rfl
 have pJ:Def K mg "row_of" (top 18) ["sayings","held"]:=y6 X G MU FG Ki Gn λ_ _ _ _ _ _ us hl=>by obtain⟨_,_,e⟩:=u5 hl;rw[e];rfl
 have lK:Def K mg "fit_rows" (top 19) ["sayings"]:=y6 X G MT FF Kh Gm λ_ _ _ _ _ _ us hl=>by obtain⟨_,e⟩:=ql hl;rw[e];rfl
 have gZ:Def K mg "check_bounds" (top 25) ["sayings","judges"]:=y6 X G MS FE Kg Gk λ_ _ _ _ _ _ us hl=>by obtain⟨_,_,e⟩:=u5 hl;rw[e];rfl
 have lJ:Def K mg "is_among" (top 26) ["rows","row"]:=y6 X G MR FD Kf Gj λ_ _ _ _ _ _ us hl=>by obtain⟨_,_,e⟩:=u5 hl;rw[e];rfl
 have jK:Def K mg "check_rows" (top 27) ["sayings","judges"]:=y6 X G MQ FC Ke Gi λ_ _ _ _ _ _ us hl=>by obtain⟨_,_,e⟩:=u5 hl;rw[e];rfl
 have pI:Def K mg "seated" (top 28) ["sayings","judges"]:=y6 X G MP FA Kd Gh λ_ _ _ _ _ _ us hl=>by obtain⟨_,_,e⟩:=u5 hl;rw[e];rfl
 have lI:Def K mg "_law_cell" (top 30) ["_law_script","_law_k"]:=y6 X G MO F9 Kc Gg λ_ _ _ _ _ _ us hl=>by obtain⟨_,_,e⟩:=u5 hl;rw[e];rfl
 have lD:Def K mg "_law_pick" (top 31) ["_law_script","_law_k","_law_many"]:=y6 X G MN F8 Ka Gf λ_ _ _ _ _ _ us hl=>by obtain⟨_,_,_,e⟩:=ak hl;rw[e];rfl
 have kI:Def K mg "_law_names" (top 33) ["_law_script","_law_k","_law_many"]:=y6 X G MM F7 JZ Ge λ_ _ _ _ _ _ us hl=>by obtain⟨_,_,_,e⟩:=ak hl;rw[e];rfl
 have pK:Def K mg "_law_so" (top 35) ["_law_saying_here","_law_held_here"]:=y6 X G ML F6 JY Gd λ_ _ _ _ _ _ us hl=>by obtain⟨_,_,e⟩:=u5 hl;rw[e];rfl
 have lH:Def K mg "_law_held" (top 36) ["_law_number","_law_names_here"]:=y6 X G MK F5 JX Gc λ_ _ _ _ _ _ us hl=>by obtain⟨_,_,e⟩:=u5 hl;rw[e];rfl
 have jH:Def K mg "_law_within" (top 37) ["_law_saying_here"]:=y6 X G MJ F4 JW Gb λ_ _ _ _ _ _ us hl=>by obtain⟨_,e⟩:=ql hl;rw[e];rfl
 have fU:Def K mg "_law_all_names" (top 38) ["_law_sayings"]:=y6 X G MI F0 JV Ga λ_ _ _ _ _ _ us hl=>by obtain⟨_,e⟩:=ql hl;rw[e];rfl
 have lF:Def K mg "_law_knit" (top 39) ["_law_names_here","_law_truths","_law_word"]:=y6 X G MH Fz JU F' λ_ _ _ _ _ _ us hl=>by obtain⟨_,_,_,e⟩:=ak hl;rw[e];rfl
 have jI:Def K mg "_law_linked" (top 40) ["_law_script","_law_k","_law_names_here"]:=y6 X G MG Fy JT FZ λ_ _ _ _ _ _ us hl=>by obtain⟨_,_,_,e⟩:=ak hl;rw[e];rfl
 have nA:Def K mg "_law_row" (top 42) ["_law_sayings","_law_held_here"]:=y6 X G MF Fx JS FY λ_ _ _ _ _ _ us hl=>by obtain⟨_,_,e⟩:=u5 hl;rw[e];rfl
 have gY:Def K mg "_law_fit_rows" (top 43) ["_law_sayings"]:=y6 X G ME Fw JR FX λ_ _ _ _ _ _ us hl=>by obtain⟨_,e⟩:=ql hl;rw[e];rfl
 have lC:Def K mg "_law_same" (top 44) ["_law_found","_law_due"]:=y6 X G MD Fv JQ FW λ_ _ _ _ _ _ us hl=>by obtain⟨_,_,e⟩:=u5 hl;rw[e];rfl
 have lG:Def K mg "_law_kind" (top 45) ["_law_sayings","_law_judges"]:=y6 X G MC Fu JP FV λ_ _ _ _ _ _ us hl=>by obtain⟨_,_,e⟩:=u5 hl;rw[e];rfl
 have iL:Def K mg "_law_refused" (top 46) ["_law_sayings","_law_judges","_law_kind_here","_law_number"]:=y6 X G MB Ft JO FU λ_ _ _ _ _ _ us hl=>by obtain⟨_,_,_,_,e⟩:=Mg hl;rw[e];rfl
 have kH:Def K mg "_law_unfit" (top 47) ["_law_fit","_law_many"]:=y6 X G MA Fs JN FT λ_ _ _ _ _ _ us hl=>by obtain⟨_,_,e⟩:=u5 hl;rw[e];rfl
 have iM:Def K mg "_law_bad_row" (top 48) ["_law_script","_law_k","_law_fit"]:=y6 X G LZ Fq JM FS λ_ _ _ _ _ _ us hl=>by obtain⟨_,_,_,e⟩:=ak hl;rw[e];rfl
 have fT:Def K mg "_law_row_wrong" (top 49) ["_law_script","_law_sayings","_law_judges","_law_fit"]:=y6 X G LY Fp JK FR λ_ _ _ _ _ _ us hl=>by obtain⟨_,_,_,_,e⟩:=Mg hl;rw[e];rfl
 have lE:Def K mg "_law_long" (top 50) ["_law_name","_law_pieces"]:=y6 X G LX Fo JJ FQ λ_ _ _ _ _ _ us hl=>by obtain⟨_,_,e⟩:=u5 hl;rw[e];rfl
 have lB:Def K mg "_law_wide" (top 51) ["_law_script"]:=y6 X G LW Fn JI FP λ_ _ _ _ _ _ us hl=>by obtain⟨_,e⟩:=ql hl;rw[e];rfl
 have eX:Def K mg "_law_bounds_wrong" (top 52) ["_law_script","_law_sayings","_law_judges"]:=y6 X G LV Fm JH FO λ_ _ _ _ _ _ us hl=>by obtain⟨_,_,_,e⟩:=ak hl;rw[e];rfl
 have kJ:Def K mg "_law_edges" (top 53) ["_law_script"]:=y6 X G LU Fk JG FN λ_ _ _ _ _ _ us hl=>by obtain⟨_,e⟩:=ql hl;rw[e];rfl
 have aQ:=wZ X G iU;have dI:XCls K aI:=o8 iO gD gC fY gA fZ gB gG gF gE;have iN:DefI K aI "BadRow.__init__" (kl (top 4) 0) ["self","number"]:=Sl eR eG eQ eJ eF dI λ_ _ _ _ _ _ us hl=>by obtain⟨_,_,e⟩:=u5 hl;rw[e];rfl
 have cA:=wZ X G eP;have cG:XCls K aJ:=o8 eC dD dC cY dA cZ dB dH dG dF;have aL:=wZ X G dX;have eE:XCls K aB:=o8 cX cP cO cK cM cL cN cS cR cQ;have aP:jg K aB:=⟨eE,dE⟩
 have dZ:=wZ X G mO;have nZ:XCls K aM:=o8 lX jW jV jQ jT jS jU jZ jY jX;have fX:jg K aM:=⟨nZ,lY⟩
 have fN:=wZ X G iS;have fO:=wZ X G iT;have bI:=wZ X G cU;have bZ:=wZ X G eO;have bO:=wZ X G dS;have bP:=wZ X G dU;have aH:=yR X G rN;have aG:=yR X G lW;have aD:=yR X G lV;have bX:=yR X G nX;have aK:=yR X G jP;have aR:=yR X G rK;have cH:=yR X G fQ;have aA:=yR X G fD;have aX:=yR X G nY;have bN:=yR X G rO;have gM:=yR X G rJ;have kT:=yR X G rQ;have kS:=yR X G rP;have kR:=yR X G rH;have iY:=yR X G rG;have eV:=yR X G rL;have iZ:=yR X G rM;have bY:=yR X G fE;have NB:=ac (st:=top 54) rX A9 rY;refine⟨W.fnOf "law" "law" (zk (top 54)) (zq (top 54)) (z0 (top 54)) .none oN pC oM pG kZ pD,λs v=>.of_eq rfl,λbase _ _=>?_⟩;have lT:=S4 (P:=l.prog) (w:=w) (base:=base) lI aH;have eY:=S9 lD lT;have jL:=Vv kI eY aH aG;have C_so:=fc (P:=l.prog) (w:=w) (base:=base) rC 40;have iV:=bh (P:=l.prog) (w:=w) (base:=base) lA (mr jG 40) aK aR aD;have nC:=bi gX iV aK aR aD;have pN:=X9 gX iV aK aR aD;have pR:=X4 (P:=l.prog) (w:=w) (base:=base) nB aD;have nF:=bc lL nC pR (Ta gW) aG;have rD:=Vw pJ C_so aD;have NE:=bg lK nF rD aK aR;have C_cb:=M8 gZ (j7 (P:=l.prog) (w:=w) (base:=base) kG 130) pN aP aL bI bZ bO bP aH kS;have rF:=Vr (P:=l.prog) (w:=w) (base:=base) lJ kT aA aX;have pS:=bf (P:=l.prog) (w:=w) (mg:=mg) (base:=base) iN dI dJ;have C_cr:=M9 jK NE rF pS aQ dI cH;have aW:=Ya pI C_cb C_cr fX dZ aH;have ko:W5 K aB aJ aB aI aM bS bT true false false:=⟨eE,aU,aT,bA,bJ,aY,aZ,aV⟩
 have kr:W5 K aI aJ aB aI aM bS bT false true false:=⟨dI,bE,bB,cE,dO,cC,cD,bF⟩
 have ke:W5 K aM aJ aB aI aM bS bT false false true:=⟨nZ,bQ,bK,dN,fF,dL,dM,bR⟩
 have B':=S6 lG aW cG ko kr ke bM cA aL aQ dZ fN fO bY aA kR bN;have eA:=bj iL B' aA aX;have Ca:=S5 (P:=l.prog) (w:=w) (base:=base) lH aD;have Cc:=fb (P:=l.prog) (w:=w) (base:=base) fU (j8 jH 40) aK aR;have ND:=X6 (P:=l.prog) (w:=w) (base:=base) nA (fe pK eV iZ 40) aD;have pQ:=X5 gY Cc ND Ca aK aR aG;have pP:=X8 jI eY (S7 lF aH aG) aH aG eV;have NF:=X3 iM eY (Vx (P:=l.prog) (w:=w) (base:=base) kH aG) aH bX bN;have C_rw:=ff fT eY NF eA aH;have pO:=S8 (P:=l.prog) (w:=w) (base:=base) lE aG;have C_bw:=mq eX eY jL pO (Tc lB eY aG aD) eA aD;have pL:=Ze (P:=l.prog) (w:=w) (base:=base) lC aH aA aD bX aX bN gM iY 43;have rE:=Vu kJ lT jL pO pQ pL aW eA aH aG aD;exact P8 NB lT eY jL pP pQ pL aW C_rw C_bw eA rE pS aQ dI bM aH aG aD
theorem walk{l:W.OpenLaw}{q:Program}{iQ:List Str}{XP:(Str->Option Value)->Heap->Prop}{YP:World->Heap->Prop}{d:DefRec}{K:Params->W.Frag}(hn:l.most=some 63)(HW:d.params.defaults=[])
  (hY:∀(w:World)(h:Heap),YP w h->(K w.params).In h)
  (F:∀(w:World)(mg:Str->Option Value)(fa:Addr)(h:Heap),(K w.params).In h->h.Ns mainGlobals mg->mg d.name=some (.ref fa) ->
   ∃fd:FuncData,(∀(s:Shared)(u:Value),BindsTo s fd ⟨[u],[]⟩ [("_law_script",u)])/\∀base:Heap,(K w.params).In base->base.Ns mainGlobals mg->ul l.prog w (K w.params) mg base CX0 136 fa fd ["_law_script"] (Zt (K w.params))) :
  W.WalkO q iQ XP YP l.row.toRowW d [] (λf vs=>PySem.call f vs) :=
 L2.walk_of (n:=63) (k:=136) (x:="_law_script") (CX:=λ_=>CX0) (sp:=λw=>Zt (K w.params)) hn (by decide) HW ⟨rfl,by decide,by decide⟩ hY F (λ_ _ a ns hl _ hS=>⟨a,ns,rfl,hS,hl,λ_=>rfl⟩) λ_ _ _ _ _ z=>z
end Kx
open PySem PySem.W PyProof.Rows
set_option maxRecDepth 100000 in
set_option maxHeartbeats 0 in
theorem PySem.Challenge.cw_manyjudges_k63_seats_refused_holds : PySem.Challenge.rw_manyjudges_k63_seats_refused.Holds := by
 w_on;o_law;k_head;(case hw=>w_witness2)
 k_fill
 refine Kx.walk (l:=PySem.Challenge.rw_manyjudges_k63_seats_refused) rfl rfl (λw h Y=>W.kIn_of Y) ?F
 case F =>
  intro w mg fa h KX G HC;refine' Kx.all_mk KX G HC ?a_8 ?l_8 ?c_8 ?k_8 ?a_9 ?l_9 ?c_9 ?k_9 ?M' ?FM ?KE ?Gu ?MZ ?FL ?KD ?Gs ?MY ?FK ?KC ?Gr ?MX ?FJ ?KA ?Gq ?MW ?FI ?Kk ?Gp ?MV ?FH ?Kj ?Go ?MU ?FG ?Ki ?Gn ?MT ?FF ?Kh ?Gm ?MS ?FE ?Kg ?Gk ?MR ?FD ?Kf ?Gj ?MQ ?FC ?Ke ?Gi ?MP ?FA ?Kd ?Gh ?MO ?F9 ?Kc ?Gg ?MN ?F8 ?Ka ?Gf ?MM ?F7 ?JZ ?Ge ?ML ?F6 ?JY ?Gd ?MK ?F5 ?JX ?Gc ?MJ ?F4 ?JW ?Gb ?MI ?F0 ?JV ?Ga ?MH ?Fz ?JU ?F' ?MG ?Fy ?JT ?FZ ?MF ?Fx ?JS ?FY ?ME ?Fw ?JR ?FX ?MD ?Fv ?JQ ?FW ?MC ?Fu ?JP ?FV ?MB ?Ft ?JO ?FU ?MA ?Fs ?JN ?FT ?LZ ?Fq ?JM ?FS ?LY ?Fp ?JK ?FR ?LX ?Fo ?JJ ?FQ ?LW ?Fn ?JI ?FP ?LV ?Fm ?JH ?FO ?LU ?Fk ?JG ?FN ?AB ?rX ?A9 ?rY ?iU ?iO ?gD ?gC ?fY ?gA ?fZ ?gB ?gG ?gF ?gE ?eR ?eG ?eQ ?eJ ?eF ?dJ ?bM ?eP ?eC ?dD ?dC ?cY ?dA ?cZ ?dB ?dH ?dG ?dF ?dX ?cX ?cP ?cO ?cK ?cM ?cL ?cN ?cS ?cR ?cQ ?dE ?mO ?lX ?jW ?jV ?jQ ?jT ?jS ?jU ?jZ ?jY ?jX ?lY ?iS ?iT ?cU ?eO ?dS ?dU ?aT ?bA ?bJ ?aY ?aZ ?aV ?bB ?cE ?dO ?cC ?cD ?bF ?bK ?dN ?fF ?dL ?dM ?bR ?aU ?bE ?bQ ?rN ?lW ?lV ?nX ?jP ?rK ?fQ ?fD ?nY ?rO ?rJ ?rQ ?rP ?rH ?rG ?rL ?rM ?fE
  (case a_8=>k_is);(case l_8=>k_is);(case c_8=>k_is);(case k_8=>k_is)
  (case a_9=>k_is);(case l_9=>k_is);(case c_9=>k_is);(case k_9=>k_is)
  (case M'=>k_is);(case FM=>k_is);(case KE=>k_is);(case Gu=>k_is)
  (case MZ=>k_is);(case FL=>k_is);(case KD=>k_is);(case Gs=>k_is)
  (case MY=>k_is);(case FK=>k_is);(case KC=>k_is);(case Gr=>k_is)
  (case MX=>k_is);(case FJ=>k_is);(case KA=>k_is);(case Gq=>k_is)
  (case MW=>k_is);(case FI=>k_is);(case Kk=>k_is);(case Gp=>k_is)
  (case MV=>k_is);(case FH=>k_is);(case Kj=>k_is);(case Go=>k_is)
  (case MU=>k_is);(case FG=>k_is);(case Ki=>k_is);(case Gn=>k_is)
  (case MT=>k_is);(case FF=>k_is);(case Kh=>k_is);(case Gm=>k_is)
  (case MS=>k_is);(case FE=>k_is);(case Kg=>k_is);(case Gk=>k_is)
  (case MR=>k_is);(case FD=>k_is);(case Kf=>k_is);(case Gj=>k_is)
  (case MQ=>k_is);(case FC=>k_is);(case Ke=>k_is);(case Gi=>k_is)
  (case MP=>k_is);(case FA=>k_is);(case Kd=>k_is);(case Gh=>k_is)
  (case MO=>k_is);(case F9=>k_is);(case Kc=>k_is);(case Gg=>k_is)
  (case MN=>k_is);(case F8=>k_is);(case Ka=>k_is);(case Gf=>k_is)
  (case MM=>k_is);(case F7=>k_is);(case JZ=>k_is);(case Ge=>k_is)
  (case ML=>k_is);(case F6=>k_is);(case JY=>k_is);(case Gd=>k_is)
  (case MK=>k_is);(case F5=>k_is);(case JX=>k_is);(case Gc=>k_is)
  (case MJ=>k_is);(case F4=>k_is);(case JW=>k_is);(case Gb=>k_is)
  (case MI=>k_is);(case F0=>k_is);(case JV=>k_is);(case Ga=>k_is)
  (case MH=>k_is);(case Fz=>k_is);(case JU=>k_is);(case F'=>k_is)
  (case MG=>k_is);(case Fy=>k_is);(case JT=>k_is);(case FZ=>k_is)
  (case MF=>k_is);(case Fx=>k_is);(case JS=>k_is);(case FY=>k_is)
  (case ME=>k_is);(case Fw=>k_is);(case JR=>k_is);(case FX=>k_is)
  (case MD=>k_is);(case Fv=>k_is);(case JQ=>k_is);(case FW=>k_is)
  (case MC=>k_is);(case Fu=>k_is);(case JP=>k_is);(case FV=>k_is)
  (case MB=>k_is);(case Ft=>k_is);(case JO=>k_is);(case FU=>k_is)
  (case MA=>k_is);(case Fs=>k_is);(case JN=>k_is);(case FT=>k_is)
  (case LZ=>k_is);(case Fq=>k_is);(case JM=>k_is);(case FS=>k_is)
  (case LY=>k_is);(case Fp=>k_is);(case JK=>k_is);(case FR=>k_is)
  (case LX=>k_is);(case Fo=>k_is);(case JJ=>k_is);(case FQ=>k_is)
  (case LW=>k_is);(case Fn=>k_is);(case JI=>k_is);(case FP=>k_is)
  (case LV=>k_is);(case Fm=>k_is);(case JH=>k_is);(case FO=>k_is)
  (case LU=>k_is);(case Fk=>k_is);(case JG=>k_is);(case FN=>k_is)
  (case AB=>k_is);(case rX=>k_is);(case A9=>k_is);(case rY=>k_is)
  (case iU=>k_is)
  (case iO=>kernel_rfl);(case gD=>k_is);(case gC=>k_is);(case fY=>k_is);(case gA=>k_is);(case fZ=>k_is);(case gB=>k_is);(case gG=>k_is);(case gF=>k_is);(case gE=>k_is)
  (case eR=>k_is);(case eG=>k_is);(case eQ=>k_is);(case eJ=>k_is);(case eF=>k_is);(case dJ=>k_is);(case bM=>(show W.findIn _ _ _=_;k_is))
  (case eP=>k_is)
  (case eC=>kernel_rfl);(case dD=>k_is);(case dC=>k_is);(case cY=>k_is);(case dA=>k_is);(case cZ=>k_is);(case dB=>k_is);(case dH=>k_is);(case dG=>k_is);(case dF=>k_is)
  (case dX=>k_is)
  (case cX=>kernel_rfl);(case cP=>k_is);(case cO=>k_is);(case cK=>k_is);(case cM=>k_is);(case cL=>k_is);(case cN=>k_is);(case cS=>k_is);(case cR=>k_is);(case cQ=>k_is)
  (case dE=>kernel_rfl)
  (case mO=>k_is)
  (case lX=>kernel_rfl);(case jW=>k_is);(case jV=>k_is);(case jQ=>k_is);(case jT=>k_is);(case jS=>k_is);(case jU=>k_is);(case jZ=>k_is);(case jY=>k_is);(case jX=>k_is)
  (case lY=>kernel_rfl)
  (case iS=>k_is)
  (case iT=>k_is)
  (case cU=>k_is)
  (case eO=>k_is)
  (case dS=>k_is)
  (case dU=>k_is)
  (case aT=>kernel_rfl)
  (case bA=>kernel_rfl)
  (case bJ=>kernel_rfl)
  (case aY=>kernel_rfl)
  (case aZ=>kernel_rfl)
  (case aV=>kernel_rfl)
  (case bB=>kernel_rfl)
  (case cE=>kernel_rfl)
  (case dO=>kernel_rfl)
  (case cC=>kernel_rfl)
  (case cD=>kernel_rfl)
  (case bF=>kernel_rfl)
  (case bK=>kernel_rfl)
  (case dN=>kernel_rfl)
  (case fF=>kernel_rfl)
  (case dL=>kernel_rfl)
  (case dM=>kernel_rfl)
  (case bR=>kernel_rfl)
  (case aU=>k_is)
  (case bE=>k_is)
  (case bQ=>k_is)
  (case rN=>k_is)
  (case lW=>k_is)
  (case lV=>k_is)
  (case nX=>k_is)
  (case jP=>k_is)
  (case rK=>k_is)
  (case fQ=>k_is)
  (case fD=>k_is)
  (case nY=>k_is)
  (case rO=>k_is)
  (case rJ=>k_is)
  (case rQ=>k_is)
  (case rP=>k_is)
  (case rH=>k_is)
  (case rG=>k_is)
  (case rL=>k_is)
  (case rM=>k_is)
  (case fE=>k_is)
#print axioms PySem.Challenge.cw_manyjudges_k63_seats_refused_holds
